import PyProof.Rows.All
import Wide.All
import OpenK.AllK
import Wide.FinOn
import HandS.ForMost
import HandS.Wide
import HandS.WideBits
import HandS.Gcd
import HandS.IsInst
import HandS.Style
import HandS.Evl
import Flt.RightSqrt
import KE.IntBitsLaws
import PySem.Challenge.RW_formrings_k01_whole_integers_told_apart
set_option Elab.async false
set_option linter.all false
set_option maxRecDepth 100000
set_option maxHeartbeats 4000000
namespace Fr
open PySem PySem.Spec PyProof.Rows L2
open Evl (Ex)
def Def (P : Program) (w : World) (K : PySem.W.Frag) (mg : Str → Option Value) (base : Heap) (k : Nat) (x : Str) (ps : List Str) (sp : Sp) : Prop :=
  ∃ f fd, mg x = some (.ref f) ∧ PySem.W.keepIn K (.ref f) = true ∧ Binds K fd ps [] ∧ FnOk P w K mg base CX0 k f fd ps sp
structure Fm (S : Addr → Prop) (I : Hp → Prop) : Prop where
  fresh : ∀ {H D}, I H → H D = none → ¬ S D
  stay : ∀ {H D o}, ¬ S D → I H → I (upd H D o)
def Fx (S : Addr → Prop) (I : Hp → Prop) (H H' : Hp) : Prop := I H' ∧ ∀ b o, ¬ S b → H b = some o → H' b = some o
section
variable {S : Addr → Prop} {I : Hp → Prop} {H H1 H2 : Hp}
theorem Fx.refl (i : I H) : Fx S I H H := ⟨i, fun _ _ _ h => h⟩
theorem Fx.trans (a : Fx S I H H1) (b : Fx S I H1 H2) : Fx S I H H2 := ⟨b.1, fun x o n h => b.2 x o n (a.2 x o n h)⟩
theorem Fx.new (m : Fm S I) (i : I H) {p : Addr} {o : HO} (h : H p = none) : Fx S I H (upd H p o) := ⟨m.stay (m.fresh i h) i, fun b u _ e => by
  rw [upd_ne (ne_of_none e h)]
  exact e⟩
theorem Fx.mut (m : Fm S I) (a : Fx S I H H1) (i : I H) {p : Addr} {o : HO} (h : H p = none) : Fx S I H (upd H1 p o) := ⟨m.stay (m.fresh i h) a.1, fun b u n e => by
  rw [upd_ne (ne_of_none e h)]
  exact a.2 b u n e⟩
theorem Fx.at (a : Fx S I H H1) {p : Addr} {o : HO} (n : ¬ S p) (h : H p = some o) : H1 p = some o := a.2 p o n h
theorem Fx.sqT {K : PySem.W.Frag} (a : Fx S I H H1) {p : Addr} {xs : List V} (n : ¬ S p) (h : SqT K H p xs) : SqT K H1 p xs := by
  rcases h with (h | ⟨o, h⟩) | h
  · exact .inl (.inl (a.2 _ _ n h))
  · exact .inl (.inr ⟨o, a.2 _ _ n h⟩)
  · exact .inr h
theorem Fx.sqL {K : PySem.W.Frag} (a : Fx S I H H1) {p : Addr} {xs : List V} (n : ¬ S p) (h : SqL K H p xs) : SqL K H1 p xs := by
  rcases h with (h | ⟨o, h⟩) | h
  · exact .inl (.inl (a.2 _ _ n h))
  · exact .inl (.inr ⟨o, a.2 _ _ n h⟩)
  · exact .inr h
theorem Fx.free (a : Fx S I H H1) {p : Addr} (n : ¬ S p) (h : H1 p = none) : H p = none := by
  cases e : H p with
  | none => rfl
  | some o => rw [a.2 p o n e] at h; cases h
theorem Fx.free' (m : Fm S I) (a : Fx S I H H1) {p : Addr} (h : H1 p = none) : H p = none := a.free (m.fresh a.1 h) h
end
abbrev S0 : Addr → Prop := fun _ => False
abbrev I0 : Hp → Prop := fun _ => True
theorem fm0 : Fm S0 I0 := ⟨fun _ _ h => h, fun _ _ => trivial⟩
abbrev Ex0 : Hp → Hp → Prop := Fx S0 I0
theorem Ex0.of {H H' : Hp} (h : ∀ b o, H b = some o → H' b = some o) : Ex0 H H' := ⟨trivial, fun b o _ e => h b o e⟩
theorem Ex0.ap {H H' : Hp} (h : Ex0 H H') {b : Addr} {o : HO} (e : H b = some o) : H' b = some o := h.2 b o (fun z => z) e
theorem Ex0.refl (H : Hp) : Ex0 H H := Fx.refl trivial
theorem Ex0.new {H : Hp} {p : Addr} {o : HO} (h : H p = none) : Ex0 H (upd H p o) := Fx.new fm0 trivial h
def Cs (S : Addr → Prop) (I : Hp → Prop) (H : Hp) (P : Nat → List V → Hp → Prop) (D : Addr) (i : Nat) (H' : Hp) : Prop := Fx S I H H' ∧ ∃ acc, H' D = some (.lst acc) ∧ acc.length ≤ i ∧ P i acc H'
section
variable {K : PySem.W.Frag} {S : Addr → Prop} {I : Hp → Prop} {σ : L2.St} {H : Hp} {Q : Addr → Hp → Prop} {te : TE} {vs : List Nat} {g : TG} {tt : TT} {P : Nat → List V → Hp → Prop}
theorem cs_yes (m : Fm S I) (i0 : I H) {D : Addr} {i : Nat} {acc : List V} {H' H4 : Hp} {y : V} (hD : H D = none) (p1 : Fx S I H H') (p2 : H' D = some (.lst acc)) (p3 : acc.length ≤ i) (hi : i < 1000000) (e : Fx S I H' H4) (h : P (i + 1) (acc ++ [y]) (upd H4 D (.lst (acc ++ [y])))) :
    ∃ acc', H4 D = some (.lst acc') ∧ acc'.length < sizeLine ∧ Cs S I H P D (i + 1) (upd H4 D (.lst (acc' ++ [y]))) :=
  ⟨acc, e.2 _ _ (m.fresh i0 hD) p2, Nat.lt_of_le_of_lt p3 (Nat.lt_of_lt_of_le hi (by decide)), Fx.mut m (p1.trans e) i0 hD, _, upd_same, by rw [List.length_append]; exact Nat.add_le_add_right p3 1, h⟩
theorem cs_no (m : Fm S I) (i0 : I H) {D : Addr} {i : Nat} {acc : List V} {H' H4 : Hp} (hD : H D = none) (p1 : Fx S I H H') (p2 : H' D = some (.lst acc)) (p3 : acc.length ≤ i) (e : Fx S I H' H4) (h : P (i + 1) acc H4) : Cs S I H P D (i + 1) H4 :=
  ⟨p1.trans e, acc, e.2 _ _ (m.fresh i0 hD) p2, Nat.le_succ_of_le p3, h⟩
theorem lcT (m : Fm S I) (i0 : I H) {a : Addr} {xs : List V} (hx : SqT K H a xs) (ha : ¬ S a) (P : Nat → List V → Hp → Prop) (p0 : ∀ D, H D = none → P 0 [] (upd H D (.lst [])))
    (hs : ∀ D i x acc H', H D = none → xs[i]? = some x → Fx S I H H' → H' D = some (.lst acc) → acc.length ≤ i → P i acc H' → g x (wipe σ vs) H' fun σ2 H2 => wipe σ2 vs = wipe σ vs ∧ tt σ2 H2 fun b H3 =>
      if b = true then te σ2 H3 fun y H4 => ∃ acc, H4 D = some (.lst acc) ∧ acc.length < sizeLine ∧ Cs S I H P D (i + 1) (upd H4 D (.lst (acc ++ [y]))) else Cs S I H P D (i + 1) H3)
    (q : ∀ D H' acc, H D = none → Fx S I H H' → H' D = some (.lst acc) → P xs.length acc H' → Q D H') :
    ∀ D, H D = none → ∃ W : Nat → Nat → Hp → Prop, (∃ m, W 0 m (upd H D (.lst []))) ∧ ∀ i m H, W i m H →
      ((Itt K a).stop i H ∧ Q D H) ∨ ((Itt K a).go i H ∧ ∃ Nx : Hp → Prop, (∀ H', Nx H' → ∃ m', m' < m ∧ W (i + 1) m' H') ∧ ∀ x H', (Itt K a).yld i H x H' → g x (wipe σ vs) H' fun σ2 H2 => wipe σ2 vs = wipe σ vs ∧ tt σ2 H2 fun b H3 =>
        if b = true then te σ2 H3 fun y H4 => ∃ acc, H4 D = some (.lst acc) ∧ acc.length < sizeLine ∧ Nx (upd H4 D (.lst (acc ++ [y]))) else Nx H3) := fun D hD =>
  lc_tup (xs := xs) (Cs S I H P D) ⟨Fx.new m i0 hD, [], upd_same, Nat.le_refl _, p0 D hD⟩ (fun i H' _ p => p.1.sqT ha hx)
    (fun i x H' hi p => by
      obtain ⟨p1, acc, p2, p3, p4⟩ := p
      exact hs D i x acc H' hD hi p1 p2 p3 p4)
    (fun H' p => by
      obtain ⟨p1, acc, p2, p3, p4⟩ := p
      exact q D H' acc hD p1 p2 p4)
theorem lcL (m : Fm S I) (i0 : I H) {a : Addr} {xs : List V} (hx : SqL K H a xs) (ha : ¬ S a) (P : Nat → List V → Hp → Prop) (p0 : ∀ D, H D = none → P 0 [] (upd H D (.lst [])))
    (hs : ∀ D i x acc H', H D = none → xs[i]? = some x → Fx S I H H' → H' D = some (.lst acc) → acc.length ≤ i → P i acc H' → g x (wipe σ vs) H' fun σ2 H2 => wipe σ2 vs = wipe σ vs ∧ tt σ2 H2 fun b H3 =>
      if b = true then te σ2 H3 fun y H4 => ∃ acc, H4 D = some (.lst acc) ∧ acc.length < sizeLine ∧ Cs S I H P D (i + 1) (upd H4 D (.lst (acc ++ [y]))) else Cs S I H P D (i + 1) H3)
    (q : ∀ D H' acc, H D = none → Fx S I H H' → H' D = some (.lst acc) → P xs.length acc H' → Q D H') :
    ∀ D, H D = none → ∃ W : Nat → Nat → Hp → Prop, (∃ m, W 0 m (upd H D (.lst []))) ∧ ∀ i m H, W i m H →
      ((Itl K a).stop i H ∧ Q D H) ∨ ((Itl K a).go i H ∧ ∃ Nx : Hp → Prop, (∀ H', Nx H' → ∃ m', m' < m ∧ W (i + 1) m' H') ∧ ∀ x H', (Itl K a).yld i H x H' → g x (wipe σ vs) H' fun σ2 H2 => wipe σ2 vs = wipe σ vs ∧ tt σ2 H2 fun b H3 =>
        if b = true then te σ2 H3 fun y H4 => ∃ acc, H4 D = some (.lst acc) ∧ acc.length < sizeLine ∧ Nx (upd H4 D (.lst (acc ++ [y]))) else Nx H3) := fun D hD =>
  lc_list (xs := xs) (Cs S I H P D) ⟨Fx.new m i0 hD, [], upd_same, Nat.le_refl _, p0 D hD⟩ (fun i H' _ p => p.1.sqL ha hx)
    (fun i x H' hi p => by
      obtain ⟨p1, acc, p2, p3, p4⟩ := p
      exact hs D i x acc H' hD hi p1 p2 p3 p4)
    (fun H' p => by
      obtain ⟨p1, acc, p2, p3, p4⟩ := p
      exact q D H' acc hD p1 p2 p4)
theorem lcR (m : Fm S I) (i0 : I H) {lo : Int} {n : Nat} (P : Nat → List V → Hp → Prop) (p0 : ∀ D, H D = none → P 0 [] (upd H D (.lst [])))
    (hs : ∀ D i acc H', H D = none → i < n → Fx S I H H' → H' D = some (.lst acc) → acc.length ≤ i → P i acc H' → g (.int (lo + i)) (wipe σ vs) H' fun σ2 H2 => wipe σ2 vs = wipe σ vs ∧ tt σ2 H2 fun b H3 =>
      if b = true then te σ2 H3 fun y H4 => ∃ acc, H4 D = some (.lst acc) ∧ acc.length < sizeLine ∧ Cs S I H P D (i + 1) (upd H4 D (.lst (acc ++ [y]))) else Cs S I H P D (i + 1) H3)
    (q : ∀ D H' acc, H D = none → Fx S I H H' → H' D = some (.lst acc) → P n acc H' → Q D H') :
    ∀ D, H D = none → ∃ W : Nat → Nat → Hp → Prop, (∃ m, W 0 m (upd H D (.lst []))) ∧ ∀ i m H, W i m H →
      ((Itr lo n).stop i H ∧ Q D H) ∨ ((Itr lo n).go i H ∧ ∃ Nx : Hp → Prop, (∀ H', Nx H' → ∃ m', m' < m ∧ W (i + 1) m' H') ∧ ∀ x H', (Itr lo n).yld i H x H' → g x (wipe σ vs) H' fun σ2 H2 => wipe σ2 vs = wipe σ vs ∧ tt σ2 H2 fun b H3 =>
        if b = true then te σ2 H3 fun y H4 => ∃ acc, H4 D = some (.lst acc) ∧ acc.length < sizeLine ∧ Nx (upd H4 D (.lst (acc ++ [y]))) else Nx H3) := fun D hD =>
  lc_range (lo := lo) (n := n) (Cs S I H P D) ⟨Fx.new m i0 hD, [], upd_same, Nat.le_refl _, p0 D hD⟩
    (fun i H' hi p => by
      obtain ⟨p1, acc, p2, p3, p4⟩ := p
      exact hs D i acc H' hD hi p1 p2 p3 p4)
    (fun H' p => by
      obtain ⟨p1, acc, p2, p3, p4⟩ := p
      exact q D H' acc hD p1 p2 p4)
end
theorem log_lt {i : Int} {a : Nat} (h : i.natAbs < 2 ^ a) (h0 : 0 < a) : i.natAbs.log2 < a := by
  by_cases z : i.natAbs = 0
  · rw [z]
    exact h0
  · exact (Nat.log2_lt z).mpr h
theorem mw {i j : Int} (h1 : -(2 ^ 250) < i) (h2 : i < 2 ^ 250) (h3 : -(2 ^ 250) < j) (h4 : j < 2 ^ 250) : CMulW i j :=
  wide_mul (a := 250) (b := 250) (by omega) (by omega) (by decide) (by decide) (by decide)
theorem dw {i j : Int} (h : 0 < j) (h4 : j < 2 ^ 250) : CDivW i j := wide_div (b := 250) h (by omega) (by decide) (by decide)
theorem iteB {b : Bool} {A B : Prop} (h1 : b = true → A) (h2 : b = false → B) : if b = true then A else B := by
  cases b with
  | true => rw [if_pos rfl]; exact h1 rfl
  | false => rw [if_neg Bool.false_ne_true]; exact h2 rfl
theorem iteD {c : Prop} [Decidable c] {A B : Prop} (h1 : c → A) (h2 : ¬ c → B) : if decide c = true then A else B :=
  iteB (fun h => h1 (of_decide_eq_true h)) (fun h => h2 (of_decide_eq_false h))
theorem iteN {c : Prop} [Decidable c] {A B : Prop} (h1 : ¬ c → A) (h2 : c → B) : if (!decide c) = true then A else B := by
  by_cases h : c
  · rw [decide_eq_true h]; exact iteF (h2 h)
  · rw [decide_eq_false h]; exact iteT (h1 h)
theorem dT {c : Prop} [Decidable c] {A B : Prop} (h : c) (a : A) : if decide c = true then A else B := by rw [decide_eq_true h, if_pos rfl]; exact a
theorem dF {c : Prop} [Decidable c] {A B : Prop} (h : ¬ c) (a : B) : if decide c = true then A else B := by rw [decide_eq_false h, if_neg Bool.false_ne_true]; exact a
theorem ndT {c : Prop} [Decidable c] {A B : Prop} (h : ¬ c) (a : A) : if (!decide c) = true then A else B := by rw [decide_eq_false h]; exact iteT a
theorem ndF {c : Prop} [Decidable c] {A B : Prop} (h : c) (a : B) : if (!decide c) = true then A else B := by rw [decide_eq_true h]; exact iteF a
theorem sl1 : 1 ≤ sizeLine := by decide
theorem sl2 : 2 ≤ sizeLine := by decide
theorem sl3 : 3 ≤ sizeLine := by decide
theorem sl4 : 4 ≤ sizeLine := by decide
theorem sl5 : 5 ≤ sizeLine := by decide
theorem sl6 : 6 ≤ sizeLine := by decide
theorem sl8 : 8 ≤ sizeLine := by decide
theorem slN {n : Nat} (h : n ≤ 1000000) : n ≤ sizeLine := Nat.le_trans h (by decide)
section
variable {X : Cx}
def rIsqrt : List V → Hp → VK → Prop := fun vs H Q => ∃ a : Int, vs = [.int a] ∧ 0 ≤ a ∧ a < 2 ^ 64 ∧ ∀ r : Int, 0 ≤ r → r * r ≤ a → a < (r + 1) * (r + 1) → Q (.int r) H
theorem cr_isqrt : CallR X (.builtin "math.isqrt") rIsqrt := by
  intro pins s σ H vs us Q I r h
  obtain ⟨a, rfl, h0, h1, q⟩ := h
  obtain ⟨u, rfl, ru⟩ := Vals.one r
  obtain ⟨t, rfl⟩ := ru
  have sp := PySem.Float64.isqrt_spec a.toNat
  refine PySem.W.mg_isqrt h0 h1 ⟨.int _, H, I.tok _, ⟨_, rfl⟩, q _ (Int.natCast_nonneg _) ?_ ?_⟩
  · have := sp.1
    have e : ((Float64.isqrt a.toNat * Float64.isqrt a.toNat : Nat) : Int) ≤ (a.toNat : Int) := Int.ofNat_le.mpr this
    rw [Int.toNat_of_nonneg h0] at e
    simpa using e
  · have := sp.2
    have e : (a.toNat : Int) < (((Float64.isqrt a.toNat + 1) * (Float64.isqrt a.toNat + 1) : Nat) : Int) := Int.ofNat_lt.mpr this
    rw [Int.toNat_of_nonneg h0] at e
    simpa using e
end
end Fr
namespace Fr
open PySem PySem.Spec PyProof.Rows L2
section
variable {X : Cx}
def CPowC (i j : Int) : Prop := 0 ≤ j ∧ (Builtin.Int.intBits i : Int) * j ≤ 2 ^ 27
theorem op_powC : OpR X (binaryOp .Pow) (rI CPowC fun i j => .int (i ^ j.toNat)) := opI fun _ _ _ _ _ _ _ hc q => PyProof.Rows.pow_int hc.1 hc.2 q
end
end Fr
namespace Fr
open PySem PySem.Spec PyProof.Rows L2
theorem deI {i j : Int} : decide (V.int i = V.int j) = decide (i = j) := by
  rw [dec_int]
  rfl
theorem iteE {i j : Int} {A B : Prop} (h1 : i = j → A) (h2 : i ≠ j → B) : if decide (V.int i = V.int j) = true then A else B := by
  rw [deI]
  exact iteD h1 h2
theorem iteEn {i j : Int} {A B : Prop} (h1 : i ≠ j → A) (h2 : i = j → B) : if (!decide (V.int i = V.int j)) = true then A else B := by
  rw [deI]
  exact iteN h1 h2
end Fr
namespace Fr
open PySem PySem.Spec PyProof.Rows L2
def inb (lo hi : Int) : V → Bool
  | .int i => decide (lo ≤ i) && decide (i ≤ hi)
  | _ => false
theorem in_b {lo hi : Int} {xs : List V} {v : V} (hv : v ∈ xs) (h : xs.all (inb lo hi) = true) : ∃ f : Int, v = .int f ∧ lo ≤ f ∧ f ≤ hi := by
  have := List.all_eq_true.mp h v hv
  cases v with
  | int i =>
    unfold inb at this
    rw [Bool.and_eq_true, decide_eq_true_iff, decide_eq_true_iff] at this
    exact ⟨i, rfl, this.1, this.2⟩
  | _ => cases this
theorem shaped_ints (ns : List Int) : SeqAt.shaped (.list (ns.map .int)) = true := by
  have h : PyData.canLayAll0 (ns.map PyData.int) = true ∧ PyData.depthAll (ns.map PyData.int) ≤ 1 := by
    induction ns with
    | nil => exact ⟨rfl, by simp [PyData.depthAll]⟩
    | cons n r ih =>
      refine ⟨?_, ?_⟩
      · rw [List.map_cons, PyData.canLayAll0, PyData.canLay0, ih.1]; rfl
      · rw [List.map_cons, PyData.depthAll, PyData.depth]; exact Nat.max_le.mpr ⟨by decide, ih.2⟩
  unfold SeqAt.shaped
  rw [PyData.canLay0, PyData.depth, h.1]
  simp
  omega
theorem dp_ints {K : PySem.W.Frag} {H : Hp} : ∀ ns : List Int, DpAll K H (ns.map V.int) (ns.map PyData.int)
  | [] => .nil
  | n :: r => .cons (.int n) (dp_ints r)
theorem eqv_ints : ∀ ns ms : List Int, PyData.eqvAll (ns.map PyData.int) (ms.map PyData.int) = decide (ns = ms)
  | [], [] => rfl
  | [], m :: ms => rfl
  | n :: ns, [] => rfl
  | n :: ns, m :: ms => by
    rw [List.map_cons, List.map_cons, PyData.eqvAll, PyData.eqv, eqv_ints ns ms]
    apply Bool.eq_iff_iff.mpr
    simp
def pr2 (q : Nat × Nat) : PyData := .tuple [.int (q.1 : Int), .int (q.2 : Int)]
theorem shaped_prs (fs : List (Nat × Nat)) : SeqAt.shaped (.tuple (fs.map pr2)) = true := by
  have h : PyData.canLayAll0 (fs.map pr2) = true ∧ PyData.depthAll (fs.map pr2) ≤ 2 := by
    induction fs with
    | nil => exact ⟨rfl, by simp [PyData.depthAll]⟩
    | cons n r ih =>
      refine ⟨?_, ?_⟩
      · rw [List.map_cons, PyData.canLayAll0, ih.1]; simp [pr2, PyData.canLay0, PyData.canLayAll0]
      · rw [List.map_cons, PyData.depthAll]; exact Nat.max_le.mpr ⟨by simp [pr2, PyData.depth, PyData.depthAll], ih.2⟩
  unfold SeqAt.shaped
  rw [PyData.canLay0, PyData.depth, h.1]
  simp
  omega
theorem eqv_prs : ∀ fs gs : List (Nat × Nat), PyData.eqvAll (fs.map pr2) (gs.map pr2) = decide (fs = gs)
  | [], [] => rfl
  | [], m :: ms => rfl
  | n :: ns, [] => rfl
  | (a, b) :: ns, (c, d) :: ms => by
    rw [List.map_cons, List.map_cons, PyData.eqvAll, eqv_prs ns ms]
    apply Bool.eq_iff_iff.mpr
    simp [pr2, PyData.eqv, PyData.eqvAll]
    omega
end Fr
namespace Fr
open PySem PySem.Spec PyProof.Rows L2
def B (a : Nat) (i : Int) : Prop := i.natAbs < 2 ^ a ∧ 0 < a
theorem two_pow_two {a : Nat} (h : 0 < a) : 2 ≤ 2 ^ a := by
  obtain ⟨k, rfl⟩ : ∃ k, a = k + 1 := ⟨a - 1, by omega⟩
  rw [Nat.pow_succ]
  have := Nat.two_pow_pos k
  omega
theorem pow_sum {a b : Nat} (ha : 0 < a) (hb : 0 < b) : 2 ^ a + 2 ^ b ≤ 2 ^ (a + b) := by
  rw [Nat.pow_add]
  have h1 := two_pow_two ha
  have h2 := two_pow_two hb
  generalize 2 ^ a = x at *
  generalize 2 ^ b = y at *
  have := Nat.mul_le_mul h1 (Nat.le_refl y)
  have := Nat.mul_le_mul (Nat.le_refl x) h2
  rcases Nat.le_total x y with h | h <;> omega
theorem B.mul {a b : Nat} {i j : Int} (h1 : B a i) (h2 : B b j) : B (a + b) (i * j) := ⟨wide_lt h1.1 h2.1, Nat.add_pos_left h1.2 _⟩
theorem B.add {a b : Nat} {i j : Int} (h1 : B a i) (h2 : B b j) : B (a + b) (i + j) :=
  ⟨Nat.lt_of_lt_of_le (by have := h1.1; have := h2.1; omega : (i + j).natAbs < 2 ^ a + 2 ^ b) (pow_sum h1.2 h2.2), Nat.add_pos_left h1.2 _⟩
theorem B.sub {a b : Nat} {i j : Int} (h1 : B a i) (h2 : B b j) : B (a + b) (i - j) :=
  ⟨Nat.lt_of_lt_of_le (by have := h1.1; have := h2.1; omega : (i - j).natAbs < 2 ^ a + 2 ^ b) (pow_sum h1.2 h2.2), Nat.add_pos_left h1.2 _⟩
theorem B.neg {a : Nat} {i : Int} (h1 : B a i) : B a (-i) := ⟨by rw [Int.natAbs_neg]; exact h1.1, h1.2⟩
theorem B.lit {i : Int} (h : i.natAbs < 2 ^ 64) : B 64 i := ⟨h, by decide⟩
theorem B.mono {a b : Nat} {i : Int} (h : B a i) (hab : a ≤ b) : B b i := ⟨Nat.lt_of_lt_of_le h.1 (Nat.pow_le_pow_right (by decide) hab), Nat.lt_of_lt_of_le h.2 hab⟩
theorem mulB {a b : Nat} {i j : Int} (h1 : B a i) (h2 : B b j) (h : a + b ≤ 1000000) : CMulW i j := wide_mul h1.1 h2.1 h1.2 h2.2 h
end Fr
set_option linter.all false
namespace K01
inductive TF : Nat → Nat → List (Nat × Nat) → Prop where
  | stop1 {l d : Nat} (h : l < d * d) (h1 : 1 < l) : TF l d [(l, 1)]
  | stop0 {l d : Nat} (h : l < d * d) (h1 : ¬ 1 < l) : TF l d []
  | skip {l d : Nat} {r : List (Nat × Nat)} (h : d * d ≤ l) (h1 : l % d ≠ 0) (t : TF l (d + 1) r) : TF l d r
  | take {l d m k : Nat} {r : List (Nat × Nat)} (h : d * d ≤ l) (hm : m % d ≠ 0) (hk : 0 < k) (e : l = m * d ^ k) (t : TF m (d + 1) r) : TF l d ((d, k) :: r)
theorem pow_mod {m d k : Nat} (hk : 0 < k) : (m * d ^ k) % d = 0 := by
  obtain ⟨j, rfl⟩ : ∃ j, k = j + 1 := ⟨k - 1, by omega⟩
  rw [Nat.pow_succ, ← Nat.mul_assoc]
  exact Nat.mul_mod_left _ _
theorem strip_uniq {d : Nat} (hd : 2 ≤ d) : ∀ {k k' m m' : Nat}, m * d ^ k = m' * d ^ k' → m % d ≠ 0 → m' % d ≠ 0 → m = m' ∧ k = k'
  | 0, 0, m, m', e, _, _ => ⟨by simpa using e, rfl⟩
  | 0, k' + 1, m, m', e, h, _ => by
    exfalso
    apply h
    have : m = m' * d ^ (k' + 1) := by simpa using e
    rw [this]
    exact pow_mod (Nat.succ_pos _)
  | k + 1, 0, m, m', e, _, h' => by
    exfalso
    apply h'
    have : m' = m * d ^ (k + 1) := by simpa using e.symm
    rw [this]
    exact pow_mod (Nat.succ_pos _)
  | k + 1, k' + 1, m, m', e, h, h' => by
    have e2 : m * d ^ k = m' * d ^ k' := by
      rw [Nat.pow_succ, Nat.pow_succ, ← Nat.mul_assoc, ← Nat.mul_assoc] at e
      exact Nat.eq_of_mul_eq_mul_right (by omega) e
    have := strip_uniq hd e2 h h'
    exact ⟨this.1, by omega⟩
theorem TF.det {l d : Nat} {r : List (Nat × Nat)} (t : TF l d r) : 2 ≤ d → ∀ {r'}, TF l d r' → r = r' := by
  induction t with
  | stop1 h h1 =>
    intro hd r' t'
    cases t' with
    | stop1 => rfl
    | stop0 _ h2 => exact absurd h1 h2
    | skip h2 => omega
    | take h2 => omega
  | stop0 h h1 =>
    intro hd r' t'
    cases t' with
    | stop1 _ h2 => exact absurd h2 h1
    | stop0 => rfl
    | skip h2 => omega
    | take h2 => omega
  | skip h h1 t ih =>
    intro hd r' t'
    cases t' with
    | stop1 h2 => omega
    | stop0 h2 => omega
    | skip _ _ t2 => exact ih (by omega) t2
    | take _ _ hk e _ => exact absurd (by rw [e]; exact pow_mod hk) h1
  | take h hm hk e t ih =>
    intro hd r' t'
    cases t' with
    | stop1 h2 => omega
    | stop0 h2 => omega
    | skip _ h2 _ => exact absurd (by rw [e]; exact pow_mod hk) h2
    | take _ hm' hk' e' t2 =>
      obtain ⟨a, b⟩ := strip_uniq hd (e.symm.trans e') hm hm'
      subst a
      subst b
      rw [ih (by omega) t2]
theorem TF.two {m d : Nat} {r : List (Nat × Nat)} (hm : m % 2 = 1) (hd : d % 2 = 1) (t : TF m (d + 2) r) : TF m (d + 1) r := by
  by_cases h : (d + 1) * (d + 1) ≤ m
  · refine .skip h ?_ t
    intro z
    have : m % 2 = 0 := by
      have h2 : 2 ∣ d + 1 := ⟨(d + 1) / 2, by omega⟩
      have h3 : d + 1 ∣ m := Nat.dvd_of_mod_eq_zero z
      exact Nat.mod_eq_zero_of_dvd (Nat.dvd_trans h2 h3)
    omega
  · have h' : m < (d + 1) * (d + 1) := by omega
    have h2 : m < (d + 2) * (d + 2) := Nat.lt_of_lt_of_le h' (Nat.mul_le_mul (by omega) (by omega))
    cases t with
    | stop1 _ h1 => exact .stop1 h' h1
    | stop0 _ h1 => exact .stop0 h' h1
    | skip h3 => omega
    | take h3 => omega
theorem TF.skips {l b : Nat} {r : List (Nat × Nat)} (t : TF l b r) : ∀ (n a : Nat), a + n = b → (∀ d, a ≤ d → d < b → d * d ≤ l ∧ l % d ≠ 0) → TF l a r
  | 0, a, e, _ => by
    have : a = b := by omega
    rw [this]
    exact t
  | n + 1, a, e, h => .skip (h a (Nat.le_refl _) (by omega)).1 (h a (Nat.le_refl _) (by omega)).2 (TF.skips t n (a + 1) (by omega) fun d h1 h2 => h d (by omega) h2)
def strip : Nat → Nat → Nat → Nat × Nat
  | 0, l, _ => (l, 0)
  | f + 1, l, d => if l % d = 0 then ((strip f (l / d) d).1, (strip f (l / d) d).2 + 1) else (l, 0)
theorem strip_ok {d : Nat} (hd : 2 ≤ d) : ∀ (f l : Nat), 0 < l → l ≤ f → l = (strip f l d).1 * d ^ (strip f l d).2 ∧ (strip f l d).1 % d ≠ 0 ∧ (l % d = 0 → 0 < (strip f l d).2)
  | 0, l, h, h1 => by omega
  | f + 1, l, h, h1 => by
    unfold strip
    by_cases z : l % d = 0
    · rw [if_pos z]
      have hdl : d ≤ l := Nat.le_of_dvd h (Nat.dvd_of_mod_eq_zero z)
      have h2 : 0 < l / d := Nat.div_pos hdl (by omega)
      have h3 : l / d < l := Nat.div_lt_self h (by omega)
      obtain ⟨a, b, _⟩ := strip_ok hd f (l / d) h2 (by omega)
      refine ⟨?_, b, fun _ => Nat.succ_pos _⟩
      show l = (strip f (l / d) d).1 * d ^ ((strip f (l / d) d).2 + 1)
      rw [Nat.pow_succ, ← Nat.mul_assoc, ← a]
      exact (Nat.div_mul_cancel (Nat.dvd_of_mod_eq_zero z)).symm
    · rw [if_neg z]
      exact ⟨by simp, z, fun y => absurd y z⟩
def tf : Nat → Nat → Nat → List (Nat × Nat)
  | 0, l, _ => if 1 < l then [(l, 1)] else []
  | f + 1, l, d => if d * d ≤ l then (if l % d = 0 then (d, (strip l l d).2) :: tf f (strip l l d).1 (d + 1) else tf f l (d + 1)) else (if 1 < l then [(l, 1)] else [])
theorem tf_end {l d : Nat} (h : l < d * d) : TF l d (if 1 < l then [(l, 1)] else []) := by
  by_cases z : 1 < l
  · rw [if_pos z]; exact .stop1 h z
  · rw [if_neg z]; exact .stop0 h z
theorem tf_ok : ∀ (f l d : Nat), 2 ≤ d → l < d + f → TF l d (tf f l d)
  | 0, l, d, hd, h => tf_end (Nat.lt_of_lt_of_le (by omega : l < d) (Nat.le_mul_of_pos_left d (by omega)))
  | f + 1, l, d, hd, h => by
    unfold tf
    by_cases z : d * d ≤ l
    · rw [if_pos z]
      by_cases y : l % d = 0
      · rw [if_pos y]
        have hl : 0 < l := Nat.lt_of_lt_of_le (Nat.mul_pos (by omega) (by omega)) z
        obtain ⟨a, b, c⟩ := strip_ok hd l l hl (Nat.le_refl _)
        refine .take z b (c y) a (tf_ok f _ _ (by omega) ?_)
        have : (strip l l d).1 ≤ l := by
          conv => rhs; rw [a]
          exact Nat.le_mul_of_pos_right _ (Nat.pow_pos (by omega))
        omega
      · rw [if_neg y]
        exact .skip z y (tf_ok f l (d + 1) (by omega) (by omega))
    · rw [if_neg z]
      exact tf_end (by omega)
def fac (n : Nat) : List (Nat × Nat) := tf n n 2
theorem fac_ok (n : Nat) : TF n 2 (fac n) := tf_ok n n 2 (by omega) (by omega)
theorem TF.fac {n : Nat} {r : List (Nat × Nat)} (t : TF n 2 r) : r = fac n := t.det (by omega) (fac_ok n)
theorem TF.pos {l d : Nat} {r : List (Nat × Nat)} (t : TF l d r) : ∀ q ∈ r, 0 < q.2 := by
  induction t with
  | stop1 => intro q hq; simp at hq; rw [hq]; exact Nat.one_pos
  | stop0 => intro q hq; simp at hq
  | skip _ _ _ ih => exact ih
  | take _ _ hk _ _ ih =>
    intro q hq
    rcases List.mem_cons.mp hq with h | h
    · rw [h]; exact hk
    · exact ih q h
theorem TF.len {l d : Nat} {r : List (Nat × Nat)} (t : TF l d r) : 2 ≤ d → 1 ≤ l → 2 ^ r.length ≤ l := by
  induction t with
  | stop1 h h1 => intro _ _; exact h1
  | stop0 h h1 => intro _ h2; exact h2
  | skip _ _ _ ih => intro h2 h3; exact ih (by omega) h3
  | @take l d m k r h hm hk e t ih =>
    intro h2 h3
    have m1 : 1 ≤ m := by
      rcases Nat.eq_zero_or_pos m with z | z
      · subst z; simp at hm
      · exact z
    have := ih (by omega) m1
    rw [List.length_cons, Nat.pow_succ, e]
    obtain ⟨j, rfl⟩ : ∃ j, k = j + 1 := ⟨k - 1, by omega⟩
    exact Nat.mul_le_mul this (Nat.le_trans h2 (by rw [Nat.pow_succ]; exact Nat.le_mul_of_pos_left _ (Nat.pow_pos (by omega))))
theorem fac_len {n : Nat} (h : 1 ≤ n) (h2 : n < 2 ^ 100) : (fac n).length < 100 := by
  have := (fac_ok n).len (by omega) h
  exact (Nat.pow_lt_pow_iff_right (by decide : 1 < 2)).mp (Nat.lt_of_le_of_lt this h2)
def Pr (n : Nat) : Prop := 2 ≤ n ∧ ∀ c, 2 ≤ c → c * c ≤ n → n % c ≠ 0
theorem TF.pr {l d : Nat} {r : List (Nat × Nat)} (t : TF l d r) : 2 ≤ d → 2 ≤ l → (r = [(l, 1)] ↔ ∀ c, d ≤ c → c * c ≤ l → l % c ≠ 0) := by
  induction t with
  | stop1 h h1 =>
    intro hd hl
    refine ⟨fun _ c hc h2 => ?_, fun _ => rfl⟩
    exact absurd (Nat.lt_of_lt_of_le h (Nat.mul_le_mul hc hc)) (by omega)
  | stop0 h h1 => intro hd hl; omega
  | @skip l d r h h1 t ih =>
    intro hd hl
    rw [ih (by omega) hl]
    refine ⟨fun q c hc h2 => ?_, fun q c hc h2 => q c (by omega) h2⟩
    rcases Nat.lt_or_ge d c with h3 | h3
    · exact q c h3 h2
    · have : c = d := by omega
      rw [this]; exact h1
  | @take l d m k r h hm hk e t ih =>
    intro hd hl
    refine ⟨fun q => ?_, fun q => ?_⟩
    · exfalso
      have := (List.cons.inj q).1
      have e1 : d = l := congrArg Prod.fst this
      have : d * 2 ≤ d * d := Nat.mul_le_mul_left d hd
      omega
    · exact absurd (by rw [e]; exact pow_mod hk) (q d (Nat.le_refl _) h)
theorem fac_pr {n : Nat} (h1 : 1 ≤ n) : fac n = [(n, 1)] ↔ Pr n := by
  by_cases h : 2 ≤ n
  · rw [(fac_ok n).pr (by omega) h]
    exact ⟨fun q => ⟨h, q⟩, fun q => q.2⟩
  · have : n = 1 := by omega
    subst this
    refine ⟨fun q => ?_, fun q => absurd q.1 h⟩
    exact absurd q (by decide)
def sqf (m : Nat) : Bool := (fac m).all fun q => q.2 == 1
def fund (n : Int) : Bool := if n % 4 = 1 then sqf n.natAbs else if n % 4 ≠ 0 then false else (decide ((n / 4) % 4 = 2) || decide ((n / 4) % 4 = 3)) && sqf (n / 4).natAbs
def chk (n lo : Nat) : Nat → Bool
  | 0 => true
  | k + 1 => (n % (lo + k) != 0) && chk n lo k
theorem chk_ok {n lo : Nat} : ∀ (k : Nat), chk n lo k = true → ∀ d, lo ≤ d → d < lo + k → n % d ≠ 0
  | 0, _, d, h1, h2 => by omega
  | k + 1, h, d, h1, h2 => by
    unfold chk at h
    rw [Bool.and_eq_true] at h
    rcases Nat.lt_or_ge d (lo + k) with h3 | h3
    · exact chk_ok k h.2 d h1 h3
    · have : d = lo + k := by omega
      rw [this]
      intro z
      have := h.1
      rw [z] at this
      exact absurd this (by decide)
def chks (n : Nat) : Nat → Bool
  | 0 => true
  | k + 1 => chk n (1000 * k + 2) 1000 && chks n k
theorem chks_ok {n : Nat} : ∀ (k : Nat), chks n k = true → ∀ d, 2 ≤ d → d < 1000 * k + 2 → n % d ≠ 0
  | 0, _, d, h1, h2 => by omega
  | k + 1, h, d, h1, h2 => by
    unfold chks at h
    rw [Bool.and_eq_true] at h
    rcases Nat.lt_or_ge d (1000 * k + 2) with h3 | h3
    · exact chks_ok k h.2 d h1 h3
    · exact chk_ok 1000 h.1 d h3 (by omega)
theorem great_chk : chks (99991 * 99989) 99 = true := by decide +kernel
theorem great_chk2 : chk (99991 * 99989) 99002 987 = true := by decide +kernel
theorem great_fac : fac (99991 * 99989) = [(99989, 1), (99991, 1)] := by
  refine ((TF.fac ?_)).symm
  refine TF.skips (b := 99989) ?_ 99987 2 (by omega) (fun d h1 h2 => ⟨?_, ?_⟩)
  · refine .take (m := 99991) (k := 1) (by omega) (by omega) (by omega) (by omega) ?_
    exact .stop1 (by omega) (by omega)
  · calc d * d ≤ 99989 * 99989 := Nat.mul_le_mul (by omega) (by omega)
      _ ≤ _ := by omega
  · rcases Nat.lt_or_ge d 99002 with h | h
    · exact chks_ok 99 great_chk d h1 (by omega)
    · exact chk_ok 987 great_chk2 d h (by omega)
theorem pr_a : Pr 999983 := by
  refine ⟨by decide, fun c h1 h2 => ?_⟩
  have h3 : c < 1000 := by
    rcases Nat.lt_or_ge c 1000 with h | h
    · exact h
    · have := Nat.mul_le_mul h h
      omega
  exact chk_ok 998 (by decide +kernel : chk 999983 2 998 = true) c h1 (by omega)
theorem pr_b : ¬ Pr 988027 := fun h => h.2 991 (by decide) (by decide) (by decide)
theorem fund_list : ((List.range 38).map fun (i : Nat) => fund ((-24 : Int) + (i : Int))) = [true, true, false, false, true, true, false, false, false, true, false, false, false, true, false, false, true, true, false, false, true, true, false, false, false, true, false, false, false, true, false, false, true, false, false, false, true, true] := by decide +kernel
end K01
namespace K01
open PySem PySem.Spec PyProof.Rows L2 Fr
def topS (i : Nat) : Stmt := PySem.Challenge.pw_formrings_k01_whole_integers_told_apart.main.body.getD i (.Pass ⟨0, 0, 0, 0⟩)
abbrev s_is_any_integer : Stmt := topS 7
abbrev N_is_any_integer : List Str := ["value"]
theorem sc_is_any_integer : FnScope N_is_any_integer ["value"] (defScope s_is_any_integer) := ⟨rfl, rfl, rfl, by decide +kernel, rfl, by decide +kernel, by decide +kernel⟩
abbrev s_is_short_integer : Stmt := topS 8
abbrev N_is_short_integer : List Str := ["value"]
theorem sc_is_short_integer : FnScope N_is_short_integer ["value"] (defScope s_is_short_integer) := ⟨rfl, rfl, rfl, by decide +kernel, rfl, by decide +kernel, by decide +kernel⟩
abbrev s_is_between : Stmt := topS 9
abbrev N_is_between : List Str := ["value", "low", "high"]
theorem sc_is_between : FnScope N_is_between ["value", "low", "high"] (defScope s_is_between) := ⟨rfl, rfl, rfl, by decide +kernel, rfl, by decide +kernel, by decide +kernel⟩
abbrev s_are_short_integers : Stmt := topS 10
abbrev N_are_short_integers : List Str := ["value", "many", "number"]
theorem sc_are_short_integers : FnScope N_are_short_integers ["value", "many"] (defScope s_are_short_integers) := ⟨rfl, rfl, rfl, by decide +kernel, rfl, by decide +kernel, by decide +kernel⟩
abbrev s_check_between : Stmt := topS 11
abbrev N_check_between : List Str := ["value", "low", "high"]
theorem sc_check_between : FnScope N_check_between ["value", "low", "high"] (defScope s_check_between) := ⟨rfl, rfl, rfl, by decide +kernel, rfl, by decide +kernel, by decide +kernel⟩
abbrev s_shared_divisor : Stmt := topS 17
abbrev N_shared_divisor : List Str := ["numbers", "shared", "number"]
theorem sc_shared_divisor : FnScope N_shared_divisor ["numbers"] (defScope s_shared_divisor) := ⟨rfl, rfl, rfl, by decide +kernel, rfl, by decide +kernel, by decide +kernel⟩
abbrev s_common_divisor : Stmt := topS 18
abbrev N_common_divisor : List Str := ["numbers"]
theorem sc_common_divisor : FnScope N_common_divisor ["numbers"] (defScope s_common_divisor) := ⟨rfl, rfl, rfl, by decide +kernel, rfl, by decide +kernel, by decide +kernel⟩
abbrev s_is_prime : Stmt := topS 19
abbrev N_is_prime : List Str := ["number", "divisor"]
theorem sc_is_prime : FnScope N_is_prime ["number"] (defScope s_is_prime) := ⟨rfl, rfl, rfl, by decide +kernel, rfl, by decide +kernel, by decide +kernel⟩
abbrev s_times_within : Stmt := topS 20
abbrev N_times_within : List Str := ["number", "prime", "times", "left"]
theorem sc_times_within : FnScope N_times_within ["number", "prime"] (defScope s_times_within) := ⟨rfl, rfl, rfl, by decide +kernel, rfl, by decide +kernel, by decide +kernel⟩
abbrev s_factored : Stmt := topS 21
abbrev N_factored : List Str := ["number", "found", "left", "divisor", "times"]
theorem sc_factored : FnScope N_factored ["number"] (defScope s_factored) := ⟨rfl, rfl, rfl, by decide +kernel, rfl, by decide +kernel, by decide +kernel⟩
abbrev s_raised : Stmt := topS 22
abbrev N_raised : List Str := ["base", "exponent", "result", "_"]
theorem sc_raised : FnScope N_raised ["base", "exponent"] (defScope s_raised) := ⟨rfl, rfl, rfl, by decide +kernel, rfl, by decide +kernel, by decide +kernel⟩
abbrev s_whole_root : Stmt := topS 23
abbrev N_whole_root : List Str := ["number", "exponent", "low", "high", "middle"]
theorem sc_whole_root : FnScope N_whole_root ["number", "exponent"] (defScope s_whole_root) := ⟨rfl, rfl, rfl, by decide +kernel, rfl, by decide +kernel, by decide +kernel⟩
abbrev s_is_square_free : Stmt := topS 24
abbrev N_is_square_free : List Str := ["number", "_", "times"]
theorem sc_is_square_free : FnScope N_is_square_free ["number"] (defScope s_is_square_free) := ⟨rfl, rfl, rfl, by decide +kernel, rfl, by decide +kernel, by decide +kernel⟩
abbrev s_is_fundamental : Stmt := topS 25
abbrev N_is_fundamental : List Str := ["number", "quarter"]
theorem sc_is_fundamental : FnScope N_is_fundamental ["number"] (defScope s_is_fundamental) := ⟨rfl, rfl, rfl, by decide +kernel, rfl, by decide +kernel, by decide +kernel⟩
abbrev s_l_vat : Stmt := topS 27
abbrev N_l_vat : List Str := ["_law_script", "_law_at", "_law_cell", "_law_great", "_law_seed"]
theorem sc_l_vat : FnScope N_l_vat ["_law_script", "_law_at"] (defScope s_l_vat) := ⟨rfl, rfl, rfl, by decide +kernel, rfl, by decide +kernel, by decide +kernel⟩
abbrev s_l_scoop : Stmt := topS 28
abbrev N_l_scoop : List Str := ["_law_vat_here", "_law_total", "_law_found", "_law_one", "_law_two"]
theorem sc_l_scoop : FnScope N_l_scoop ["_law_vat_here", "_law_total"] (defScope s_l_scoop) := ⟨rfl, rfl, rfl, by decide +kernel, rfl, by decide +kernel, by decide +kernel⟩
abbrev s_l_from : Stmt := topS 29
abbrev N_l_from : List Str := ["_law_vat_here", "_law_items"]
theorem sc_l_from : FnScope N_l_from ["_law_vat_here", "_law_items"] (defScope s_l_from) := ⟨rfl, rfl, rfl, by decide +kernel, rfl, by decide +kernel, by decide +kernel⟩
abbrev s_l_size : Stmt := topS 30
abbrev N_l_size : List Str := ["_law_vat_here", "_law_most"]
theorem sc_l_size : FnScope N_l_size ["_law_vat_here", "_law_most"] (defScope s_l_size) := ⟨rfl, rfl, rfl, by decide +kernel, rfl, by decide +kernel, by decide +kernel⟩
abbrev s_l_share : Stmt := topS 31
abbrev N_l_share : List Str := ["_law_one", "_law_other"]
theorem sc_l_share : FnScope N_l_share ["_law_one", "_law_other"] (defScope s_l_share) := ⟨rfl, rfl, rfl, by decide +kernel, rfl, by decide +kernel, by decide +kernel⟩
abbrev s_l_trial_factors : Stmt := topS 32
abbrev N_l_trial_factors : List Str := ["_law_number", "_law_found", "_law_left", "_law_prime", "_law_many"]
theorem sc_l_trial_factors : FnScope N_l_trial_factors ["_law_number"] (defScope s_l_trial_factors) := ⟨rfl, rfl, rfl, by decide +kernel, rfl, by decide +kernel, by decide +kernel⟩
abbrev s_l_raised : Stmt := topS 33
abbrev N_l_raised : List Str := ["_law_number", "_law_exponent", "_law_found", "_law_turn"]
theorem sc_l_raised : FnScope N_l_raised ["_law_number", "_law_exponent"] (defScope s_l_raised) := ⟨rfl, rfl, rfl, by decide +kernel, rfl, by decide +kernel, by decide +kernel⟩
abbrev s_l_is_basic : Stmt := topS 34
abbrev N_l_is_basic : List Str := ["_law_number", "_law_part", "_law_prime", "_law_many"]
theorem sc_l_is_basic : FnScope N_l_is_basic ["_law_number"] (defScope s_l_is_basic) := ⟨rfl, rfl, rfl, by decide +kernel, rfl, by decide +kernel, by decide +kernel⟩
abbrev s_l_divisors_right : Stmt := topS 35
abbrev N_l_divisors_right : List Str := ["_law_vat_here", "_law_factor", "_law_numbers", "_law_due", "_law_number", "_law_turn"]
theorem sc_l_divisors_right : FnScope N_l_divisors_right ["_law_vat_here"] (defScope s_l_divisors_right) := ⟨rfl, rfl, rfl, by decide +kernel, rfl, by decide +kernel, by decide +kernel⟩
abbrev s_l_factors_right : Stmt := topS 36
abbrev N_l_factors_right : List Str := ["_law_vat_here", "_law_number", "_law_turn", "_law_prime", "_law_other", "_law_one", "_law_told"]
theorem sc_l_factors_right : FnScope N_l_factors_right ["_law_vat_here"] (defScope s_l_factors_right) := ⟨rfl, rfl, rfl, by decide +kernel, rfl, by decide +kernel, by decide +kernel⟩
abbrev s_l_roots_right : Stmt := topS 37
abbrev N_l_roots_right : List Str := ["_law_vat_here", "_law_exponent", "_law_base", "_law_power", "_law_number", "_law_root", "_law_great"]
theorem sc_l_roots_right : FnScope N_l_roots_right ["_law_vat_here"] (defScope s_l_roots_right) := ⟨rfl, rfl, rfl, by decide +kernel, rfl, by decide +kernel, by decide +kernel⟩
abbrev s_l_basic_right : Stmt := topS 38
abbrev N_l_basic_right : List Str := ["_law_vat_here", "_law_some", "_law_turn", "_law_number"]
theorem sc_l_basic_right : FnScope N_l_basic_right ["_law_vat_here"] (defScope s_l_basic_right) := ⟨rfl, rfl, rfl, by decide +kernel, rfl, by decide +kernel, by decide +kernel⟩
abbrev s_law : Stmt := topS 39
abbrev N_law : List Str := ["_law_script", "_law_at", "_law_vat_here", "_law_turn", "_law_told", "_law_some", "_law_number"]
theorem sc_law : FnScope N_law ["_law_script"] (defScope s_law) := ⟨rfl, rfl, rfl, by decide +kernel, rfl, by decide +kernel, by decide +kernel⟩
structure Txt (K : PySem.W.Frag) (mg : Str → Option Value) : Prop where
  d_is_any_integer : ∃ f fd, mg "is_any_integer" = some (.ref f) ∧ Fun K "is_any_integer" "is_any_integer" s_is_any_integer f fd
  d_is_short_integer : ∃ f fd, mg "is_short_integer" = some (.ref f) ∧ Fun K "is_short_integer" "is_short_integer" s_is_short_integer f fd
  d_is_between : ∃ f fd, mg "is_between" = some (.ref f) ∧ Fun K "is_between" "is_between" s_is_between f fd
  d_are_short_integers : ∃ f fd, mg "are_short_integers" = some (.ref f) ∧ Fun K "are_short_integers" "are_short_integers" s_are_short_integers f fd
  d_check_between : ∃ f fd, mg "check_between" = some (.ref f) ∧ Fun K "check_between" "check_between" s_check_between f fd
  d_shared_divisor : ∃ f fd, mg "shared_divisor" = some (.ref f) ∧ Fun K "shared_divisor" "shared_divisor" s_shared_divisor f fd
  d_common_divisor : ∃ f fd, mg "common_divisor" = some (.ref f) ∧ Fun K "common_divisor" "common_divisor" s_common_divisor f fd
  d_is_prime : ∃ f fd, mg "is_prime" = some (.ref f) ∧ Fun K "is_prime" "is_prime" s_is_prime f fd
  d_times_within : ∃ f fd, mg "times_within" = some (.ref f) ∧ Fun K "times_within" "times_within" s_times_within f fd
  d_factored : ∃ f fd, mg "factored" = some (.ref f) ∧ Fun K "factored" "factored" s_factored f fd
  d_raised : ∃ f fd, mg "raised" = some (.ref f) ∧ Fun K "raised" "raised" s_raised f fd
  d_whole_root : ∃ f fd, mg "whole_root" = some (.ref f) ∧ Fun K "whole_root" "whole_root" s_whole_root f fd
  d_is_square_free : ∃ f fd, mg "is_square_free" = some (.ref f) ∧ Fun K "is_square_free" "is_square_free" s_is_square_free f fd
  d_is_fundamental : ∃ f fd, mg "is_fundamental" = some (.ref f) ∧ Fun K "is_fundamental" "is_fundamental" s_is_fundamental f fd
  d_l_vat : ∃ f fd, mg "_law_vat" = some (.ref f) ∧ Fun K "_law_vat" "_law_vat" s_l_vat f fd
  d_l_scoop : ∃ f fd, mg "_law_scoop" = some (.ref f) ∧ Fun K "_law_scoop" "_law_scoop" s_l_scoop f fd
  d_l_from : ∃ f fd, mg "_law_from" = some (.ref f) ∧ Fun K "_law_from" "_law_from" s_l_from f fd
  d_l_size : ∃ f fd, mg "_law_size" = some (.ref f) ∧ Fun K "_law_size" "_law_size" s_l_size f fd
  d_l_share : ∃ f fd, mg "_law_share" = some (.ref f) ∧ Fun K "_law_share" "_law_share" s_l_share f fd
  d_l_trial_factors : ∃ f fd, mg "_law_trial_factors" = some (.ref f) ∧ Fun K "_law_trial_factors" "_law_trial_factors" s_l_trial_factors f fd
  d_l_raised : ∃ f fd, mg "_law_raised" = some (.ref f) ∧ Fun K "_law_raised" "_law_raised" s_l_raised f fd
  d_l_is_basic : ∃ f fd, mg "_law_is_basic" = some (.ref f) ∧ Fun K "_law_is_basic" "_law_is_basic" s_l_is_basic f fd
  d_l_divisors_right : ∃ f fd, mg "_law_divisors_right" = some (.ref f) ∧ Fun K "_law_divisors_right" "_law_divisors_right" s_l_divisors_right f fd
  d_l_factors_right : ∃ f fd, mg "_law_factors_right" = some (.ref f) ∧ Fun K "_law_factors_right" "_law_factors_right" s_l_factors_right f fd
  d_l_roots_right : ∃ f fd, mg "_law_roots_right" = some (.ref f) ∧ Fun K "_law_roots_right" "_law_roots_right" s_l_roots_right f fd
  d_l_basic_right : ∃ f fd, mg "_law_basic_right" = some (.ref f) ∧ Fun K "_law_basic_right" "_law_basic_right" s_l_basic_right f fd
  d_law : ∃ f fd, mg "law" = some (.ref f) ∧ Fun K "law" "law" s_law f fd
  b_abs : mg "abs" = none
  b_all : mg "all" = none
  b_bool : mg "bool" = none
  b_int : mg "int" = none
  b_isinstance : mg "isinstance" = none
  b_len : mg "len" = none
  b_max : mg "max" = none
  b_min : mg "min" = none
  b_range : mg "range" = none
  b_tuple : mg "tuple" = none
  x_LIMIT : ∃ t, mg "LIMIT" = some (.int (1000000000000000000000000000000000000000000000000000000000000) t)
  x_MAX_FACTORED : ∃ t, mg "MAX_FACTORED" = some (.int (1000000000000) t)
  x_MAX_FUNDAMENTAL : ∃ t, mg "MAX_FUNDAMENTAL" = some (.int (1000000000) t)
  x_MAX_PRIME : ∃ t, mg "MAX_PRIME" = some (.int (1000000) t)
  x_MOST_NUMBERS : ∃ t, mg "MOST_NUMBERS" = some (.int (1000) t)
  m_gcd : mg "gcd" = some (.builtin "math.gcd")
  m_isqrt : mg "isqrt" = some (.builtin "math.isqrt")
def Short (i : Int) : Prop := -1000000000000000000000000000000000000000000000000000000000000 < i ∧ i < 1000000000000000000000000000000000000000000000000000000000000
def sp_is_any_integer (_ : PySem.W.Frag) : Sp := fun vs H Q _ => ∃ i : Int, vs = [.int i] ∧ Q (.bl true) H
def sp_is_short_integer (_ : PySem.W.Frag) : Sp := fun vs H Q _ => ∃ i : Int, vs = [.int i] ∧ Short i ∧ Q (.bl true) H
def sp_is_between (_ : PySem.W.Frag) : Sp := fun vs H Q _ => ∃ i lo hi : Int, vs = [.int i, .int lo, .int hi] ∧ Short i ∧ lo ≤ i ∧ i ≤ hi ∧ Q (.bl true) H
def sp_check_between (_ : PySem.W.Frag) : Sp := fun vs H Q _ => ∃ i lo hi : Int, vs = [.int i, .int lo, .int hi] ∧ Short i ∧ lo ≤ i ∧ i ≤ hi ∧ Q .non H
def sp_are_short_integers (_ : PySem.W.Frag) : Sp := fun vs H Q _ => ∃ (a : Addr) (ns : List Int), vs = [.ref a, .int (ns.length : Int)] ∧ H a = some (.tup (ns.map V.int)) ∧ ns.length ≤ 1000 ∧ (∀ n ∈ ns, Short n) ∧ ∀ H', Ex0 H H' → Q (.bl true) H'
def Vat (c : Addr) (H : Hp) : Prop := ∃ x y z : Int, H c = some (.lst [.int x, .int y, .int z])
def Sv (c : Addr) : Addr → Prop := fun b => b = c
theorem fmV (c : Addr) : Fm (Sv c) (Vat c) := by
  constructor
  · intro H D i h e
    obtain ⟨x, y, z, q⟩ := i
    unfold Sv at e
    rw [e, q] at h
    cases h
  · intro H D o n i
    obtain ⟨x, y, z, q⟩ := i
    exact ⟨x, y, z, by rw [upd_ne (fun e => n e.symm)]; exact q⟩
abbrev Fv (c : Addr) : Hp → Hp → Prop := Fx (Sv c) (Vat c)
def sp_l_vat (K : PySem.W.Frag) : Sp := fun vs H Q _ => ∃ (a : Addr) (ns : List Int) (i : Nat), vs = [.ref a, .int (i : Int)] ∧ SqL K H a (ns.map V.int) ∧ ∀ p H', H p = none → Ex0 H H' → Vat p H' → Q (.ref p) H'
def sp_l_scoop (_ : PySem.W.Frag) : Sp := fun vs H Q _ => ∃ (c : Addr) (t : Int), vs = [.ref c, .int t] ∧ Vat c H ∧ 0 < t ∧ t < 2 ^ 250 ∧ ∀ (r : Int) H', 0 ≤ r → r < t → Fv c H H' → Q (.int r) H'
def sp_l_from (K : PySem.W.Frag) : Sp := fun vs H Q _ => ∃ (c l : Addr) (xs : List V), vs = [.ref c, .ref l] ∧ Vat c H ∧ H l = some (.lst xs) ∧ l ≠ c ∧ xs ≠ [] ∧ xs.length ≤ 1000 ∧ ∀ v H', v ∈ xs → Fv c H H' → Q v H'
def sp_l_size (_ : PySem.W.Frag) : Sp := fun vs H Q _ => ∃ (c : Addr) (t : Int), vs = [.ref c, .int t] ∧ Vat c H ∧ 0 ≤ t ∧ t < 2 ^ 240 ∧ ∀ (r : Int) H', -t ≤ r → r ≤ t → Fv c H H' → Q (.int r) H'
def sp_l_share (_ : PySem.W.Frag) : Sp := fun vs H Q _ => ∃ (i j : Int), vs = [.int i, .int j] ∧ Q (.int ((Nat.gcd i.natAbs j.natAbs : Nat) : Int)) H
section
variable {P : Program} {w : World} {K : PySem.W.Frag} {mg : Str → Option Value} {base : Heap}
theorem ok_is_any_integer (T : Txt K mg) : Def P w K mg base 1 "is_any_integer" ["value"] (sp_is_any_integer K) := by
  obtain ⟨f_, fd_, g_, F_⟩ := T.d_is_any_integer
  refine ⟨f_, fd_, g_, F_.kp, F_.binds (ps := ["value"]) (fun _ _ _ _ _ _ us hl => match us, hl with | [_], _ => rfl), ?_⟩
  refine F_.ok sc_is_any_integer (fun vs H Q E h => ?_) (fun cdv A outer s H vs Q E hr h => ?_)
  · first | (obtain ⟨rfl, _⟩ := h; rfl) | (obtain ⟨_, rfl, _⟩ := h; rfl) | (obtain ⟨_, _, rfl, _⟩ := h; rfl) | (obtain ⟨_, _, _, rfl, _⟩ := h; rfl) | (obtain ⟨_, _, _, _, rfl, _⟩ := h; rfl) | (obtain ⟨_, _, _, _, _, rfl, _⟩ := h; rfl) | (obtain ⟨_, _, _, _, _, _, rfl, _⟩ := h; rfl) | (obtain ⟨_, _, _, _, _, _, _, rfl, _⟩ := h; rfl) | (obtain ⟨_, _, _, _, _, _, _, _, rfl, _⟩ := h; rfl) | (obtain ⟨_, _, _, _, _, _, _, _, _, rfl, _⟩ := h; rfl) | (obtain ⟨_, _, _, _, _, _, _, _, _, _, rfl, _⟩ := h; rfl) | (obtain ⟨_, _, _, _, _, _, _, _, _, _, _, rfl, _⟩ := h; rfl) | (obtain ⟨_, _, _, _, _, _, _, _, _, _, _, _, rfl, _⟩ := h; rfl) | (obtain ⟨_, _, _, _, _, _, _, _, _, _, _, _, _, rfl, _⟩ := h; rfl)
  · obtain ⟨i, rfl, q⟩ := h
    refine ⟨_, (pss_one (ps_ret (pe_and (pe_callB call_isi (by rfl) T.b_isinstance (by decide +kernel) (pa_cons (pv 0) (pa_cons (pe_bltn (v := .ty "int") (by rfl) T.b_int (by decide +kernel) rfl) pa_nil))) (pe_one (pe_not (pe_callB call_isi (by rfl) T.b_isinstance (by decide +kernel) (pa_cons (pv 0) (pa_cons (pe_bltn (v := .ty "bool") (by rfl) T.b_bool (by decide +kernel) rfl) pa_nil)))))))), ?_⟩
    refine ⟨_, rfl, _, _, _, _, true, rfl, .ty _, .base (.int i), kit_ty (by decide +kernel), _, rfl, iteT ?_⟩
    exact ⟨_, rfl, _, _, _, _, false, rfl, .ty _, .base (.int i), kit_ty (by decide +kernel), _, rfl, q⟩
theorem ok_is_short_integer (T : Txt K mg) : Def P w K mg base 2 "is_short_integer" ["value"] (sp_is_short_integer K) := by
  obtain ⟨f_, fd_, g_, F_⟩ := T.d_is_short_integer
  obtain ⟨f_is_any_integer, fd_is_any_integer, g_is_any_integer, k_is_any_integer, b_is_any_integer, G_is_any_integer⟩ := (ok_is_any_integer (P := P) (w := w) (base := base) T)
  refine ⟨f_, fd_, g_, F_.kp, F_.binds (ps := ["value"]) (fun _ _ _ _ _ _ us hl => match us, hl with | [_], _ => rfl), ?_⟩
  refine F_.ok sc_is_short_integer (fun vs H Q E h => ?_) (fun cdv A outer s H vs Q E hr h => ?_)
  · first | (obtain ⟨rfl, _⟩ := h; rfl) | (obtain ⟨_, rfl, _⟩ := h; rfl) | (obtain ⟨_, _, rfl, _⟩ := h; rfl) | (obtain ⟨_, _, _, rfl, _⟩ := h; rfl) | (obtain ⟨_, _, _, _, rfl, _⟩ := h; rfl) | (obtain ⟨_, _, _, _, _, rfl, _⟩ := h; rfl) | (obtain ⟨_, _, _, _, _, _, rfl, _⟩ := h; rfl) | (obtain ⟨_, _, _, _, _, _, _, rfl, _⟩ := h; rfl) | (obtain ⟨_, _, _, _, _, _, _, _, rfl, _⟩ := h; rfl) | (obtain ⟨_, _, _, _, _, _, _, _, _, rfl, _⟩ := h; rfl) | (obtain ⟨_, _, _, _, _, _, _, _, _, _, rfl, _⟩ := h; rfl) | (obtain ⟨_, _, _, _, _, _, _, _, _, _, _, rfl, _⟩ := h; rfl) | (obtain ⟨_, _, _, _, _, _, _, _, _, _, _, _, rfl, _⟩ := h; rfl) | (obtain ⟨_, _, _, _, _, _, _, _, _, _, _, _, _, rfl, _⟩ := h; rfl)
  · obtain ⟨i, rfl, hs, q⟩ := h
    obtain ⟨t_LIMIT, h_LIMIT⟩ := T.x_LIMIT
    refine ⟨_, (pss_one (ps_ret (pe_and (pe_call G_is_any_integer (hr.mono (by decide)) (by rfl) g_is_any_integer k_is_any_integer b_is_any_integer .nil pass0 (pa_cons (pv 0) pa_nil)) (pe_one (pe_chain op_lt op_lt (pe_un un_neg (pe_glob (v := .int 1000000000000000000000000000000000000000000000000000000000000) (by rfl) h_LIMIT ⟨_, rfl⟩)) (pv 0) (pe_glob (v := .int 1000000000000000000000000000000000000000000000000000000000000) (by rfl) h_LIMIT ⟨_, rfl⟩)))))), ?_⟩
    refine ⟨_, rfl, i, rfl, _, rfl, iteT ?_⟩
    refine ⟨_, rfl, _, rfl, _, _, rfl, rfl, _, rfl, dT hs.1 ⟨_, _, rfl, rfl, ?_⟩⟩
    show Q (.bl (decide (i < 1000000000000000000000000000000000000000000000000000000000000))) H
    rw [decide_eq_true hs.2]
    exact q
theorem ok_is_between (T : Txt K mg) : Def P w K mg base 3 "is_between" ["value", "low", "high"] (sp_is_between K) := by
  obtain ⟨f_, fd_, g_, F_⟩ := T.d_is_between
  obtain ⟨f_is_short_integer, fd_is_short_integer, g_is_short_integer, k_is_short_integer, b_is_short_integer, G_is_short_integer⟩ := (ok_is_short_integer (P := P) (w := w) (base := base) T)
  refine ⟨f_, fd_, g_, F_.kp, F_.binds (ps := ["value", "low", "high"]) (fun _ _ _ _ _ _ us hl => match us, hl with | [_, _, _], _ => rfl), ?_⟩
  refine F_.ok sc_is_between (fun vs H Q E h => ?_) (fun cdv A outer s H vs Q E hr h => ?_)
  · first | (obtain ⟨rfl, _⟩ := h; rfl) | (obtain ⟨_, rfl, _⟩ := h; rfl) | (obtain ⟨_, _, rfl, _⟩ := h; rfl) | (obtain ⟨_, _, _, rfl, _⟩ := h; rfl) | (obtain ⟨_, _, _, _, rfl, _⟩ := h; rfl) | (obtain ⟨_, _, _, _, _, rfl, _⟩ := h; rfl) | (obtain ⟨_, _, _, _, _, _, rfl, _⟩ := h; rfl) | (obtain ⟨_, _, _, _, _, _, _, rfl, _⟩ := h; rfl) | (obtain ⟨_, _, _, _, _, _, _, _, rfl, _⟩ := h; rfl) | (obtain ⟨_, _, _, _, _, _, _, _, _, rfl, _⟩ := h; rfl) | (obtain ⟨_, _, _, _, _, _, _, _, _, _, rfl, _⟩ := h; rfl) | (obtain ⟨_, _, _, _, _, _, _, _, _, _, _, rfl, _⟩ := h; rfl) | (obtain ⟨_, _, _, _, _, _, _, _, _, _, _, _, rfl, _⟩ := h; rfl) | (obtain ⟨_, _, _, _, _, _, _, _, _, _, _, _, _, rfl, _⟩ := h; rfl)
  · obtain ⟨i, lo, hi, rfl, hs, h1, h2, q⟩ := h
    refine ⟨_, (pss_one (ps_ret (pe_and (pe_call G_is_short_integer (hr.mono (by decide)) (by rfl) g_is_short_integer k_is_short_integer b_is_short_integer .nil pass0 (pa_cons (pv 0) pa_nil)) (pe_one (pe_chain op_le op_le (pv 1) (pv 0) (pv 2)))))), ?_⟩
    refine ⟨_, rfl, i, rfl, hs, _, rfl, iteT ?_⟩
    refine ⟨_, rfl, _, rfl, _, _, rfl, rfl, _, rfl, dT h1 ⟨_, rfl, _, _, rfl, rfl, ?_⟩⟩
    show Q (.bl (decide (i ≤ hi))) H
    rw [decide_eq_true h2]
    exact q
theorem ok_check_between (T : Txt K mg) : Def P w K mg base 4 "check_between" ["value", "low", "high"] (sp_check_between K) := by
  obtain ⟨f_, fd_, g_, F_⟩ := T.d_check_between
  obtain ⟨f_is_between, fd_is_between, g_is_between, k_is_between, b_is_between, G_is_between⟩ := (ok_is_between (P := P) (w := w) (base := base) T)
  refine ⟨f_, fd_, g_, F_.kp, F_.binds (ps := ["value", "low", "high"]) (fun _ _ _ _ _ _ us hl => match us, hl with | [_, _, _], _ => rfl), ?_⟩
  refine F_.ok sc_check_between (fun vs H Q E h => ?_) (fun cdv A outer s H vs Q E hr h => ?_)
  · first | (obtain ⟨rfl, _⟩ := h; rfl) | (obtain ⟨_, rfl, _⟩ := h; rfl) | (obtain ⟨_, _, rfl, _⟩ := h; rfl) | (obtain ⟨_, _, _, rfl, _⟩ := h; rfl) | (obtain ⟨_, _, _, _, rfl, _⟩ := h; rfl) | (obtain ⟨_, _, _, _, _, rfl, _⟩ := h; rfl) | (obtain ⟨_, _, _, _, _, _, rfl, _⟩ := h; rfl) | (obtain ⟨_, _, _, _, _, _, _, rfl, _⟩ := h; rfl) | (obtain ⟨_, _, _, _, _, _, _, _, rfl, _⟩ := h; rfl) | (obtain ⟨_, _, _, _, _, _, _, _, _, rfl, _⟩ := h; rfl) | (obtain ⟨_, _, _, _, _, _, _, _, _, _, rfl, _⟩ := h; rfl) | (obtain ⟨_, _, _, _, _, _, _, _, _, _, _, rfl, _⟩ := h; rfl) | (obtain ⟨_, _, _, _, _, _, _, _, _, _, _, _, rfl, _⟩ := h; rfl) | (obtain ⟨_, _, _, _, _, _, _, _, _, _, _, _, _, rfl, _⟩ := h; rfl)
  · obtain ⟨i, lo, hi, rfl, hs, h1, h2, q⟩ := h
    refine ⟨_, (pss_one (ps_if (pt_not (pt_val (pe_call G_is_between (hr.mono (by decide)) (by rfl) g_is_between k_is_between b_is_between .nil pass0 (pa_cons (pv 0) (pa_cons (pv 1) (pa_cons (pv 2) pa_nil))))))
      pss_never
      pss_nil)), ?_⟩
    refine ⟨_, rfl, _, rfl, _, rfl, i, lo, hi, rfl, hs, h1, h2, _, rfl, ?_⟩
    exact iteF q
theorem ok_are_short_integers (T : Txt K mg) : Def P w K mg base 3 "are_short_integers" ["value", "many"] (sp_are_short_integers K) := by
  obtain ⟨f_, fd_, g_, F_⟩ := T.d_are_short_integers
  obtain ⟨f_is_short_integer, fd_is_short_integer, g_is_short_integer, k_is_short_integer, b_is_short_integer, G_is_short_integer⟩ := (ok_is_short_integer (P := P) (w := w) (base := base) T)
  refine ⟨f_, fd_, g_, F_.kp, F_.binds (ps := ["value", "many"]) (fun _ _ _ _ _ _ us hl => match us, hl with | [_, _], _ => rfl), ?_⟩
  refine F_.ok sc_are_short_integers (fun vs H Q E h => ?_) (fun cdv A outer s H vs Q E hr h => ?_)
  · first | (obtain ⟨rfl, _⟩ := h; rfl) | (obtain ⟨_, rfl, _⟩ := h; rfl) | (obtain ⟨_, _, rfl, _⟩ := h; rfl) | (obtain ⟨_, _, _, rfl, _⟩ := h; rfl) | (obtain ⟨_, _, _, _, rfl, _⟩ := h; rfl) | (obtain ⟨_, _, _, _, _, rfl, _⟩ := h; rfl) | (obtain ⟨_, _, _, _, _, _, rfl, _⟩ := h; rfl) | (obtain ⟨_, _, _, _, _, _, _, rfl, _⟩ := h; rfl) | (obtain ⟨_, _, _, _, _, _, _, _, rfl, _⟩ := h; rfl) | (obtain ⟨_, _, _, _, _, _, _, _, _, rfl, _⟩ := h; rfl) | (obtain ⟨_, _, _, _, _, _, _, _, _, _, rfl, _⟩ := h; rfl) | (obtain ⟨_, _, _, _, _, _, _, _, _, _, _, rfl, _⟩ := h; rfl) | (obtain ⟨_, _, _, _, _, _, _, _, _, _, _, _, rfl, _⟩ := h; rfl) | (obtain ⟨_, _, _, _, _, _, _, _, _, _, _, _, _, rfl, _⟩ := h; rfl)
  · obtain ⟨a, ns, rfl, ha, hl, hs, q⟩ := h
    refine ⟨_, (pss_cons (ps_if (PW.pt (pw_or (pt_not (pt_val (pe_callB call_isi (by rfl) T.b_isinstance (by decide +kernel) (pa_cons (pv 0) (pa_cons (pe_bltn (v := .ty "tuple") (by rfl) T.b_tuple (by decide +kernel) rfl) pa_nil))))) (pw_or1 (pt_cmpR op_ne (pe_callB call_len_seq (by rfl) T.b_len PySem.boot_len (pa_cons (pv 0) pa_nil)) (pv 1) (nomark _)))))
      (pss_one (ps_ret pe_bl))
      pss_nil)
    (pss_one (ps_ret (pe_callB (cr_all rfl) (by rfl) T.b_all (by decide +kernel) (pa_cons (pe_lc (own := [("number", 2)]) (g := (gName 2)) rfl sc_are_short_integers.nd (pi_tup (pv 0)) (blkOk_by (N := N_are_short_integers) (sc := defScope s_are_short_integers) (by decide +kernel)) (fun _ _ _ _ _ => (pg_name (i := 2) sc_are_short_integers.nd rfl (.inl rfl))) (fun _ _ _ _ _ => pts_nil) (fun _ _ _ _ _ => (pe_call G_is_short_integer (hr.mono (by decide)) (by rfl) g_is_short_integer k_is_short_integer b_is_short_integer .nil pass0 (pa_cons (pv 2) pa_nil)))) pa_nil))))), ?_⟩
    refine ⟨_, rfl, _, _, _, _, true, rfl, .ty _, .base (.tup ha), kit_ty (by decide +kernel), _, rfl, ?_⟩
    refine iteF ⟨_, rfl, a, _, rfl, .inr (SqT.of ha), _, rfl, rfl, _, rfl, ?_⟩
    refine ndF (by rw [List.length_map]) ?_
    refine ⟨_, rfl, a, rfl, ⟨_, SqT.of ha⟩, ?_⟩
    refine lcT fm0 trivial (SqT.of ha) (fun z => z) (fun i acc _ => acc = (List.replicate i true).map V.bl) (fun _ _ => rfl) (fun D i x acc H' hD hx e hA hlen hp => ?_) (fun D H' acc hD e hA hp => ?_)
    · obtain ⟨n, hn, rfl⟩ : ∃ n, ns[i]? = some n ∧ x = V.int n := by
        rw [List.getElem?_map] at hx
        cases e : ns[i]? with
        | none => rw [e] at hx; cases hx
        | some z => rw [e] at hx; exact ⟨z, rfl, (Option.some.inj hx).symm⟩
      have hi := (List.getElem?_eq_some_iff.mp hn).1
      refine ⟨rfl, ?_⟩
      refine ⟨_, rfl, n, rfl, hs n (List.mem_of_getElem? hn), ?_⟩
      refine cs_yes fm0 trivial hD e hA hlen (by omega) (Fx.refl trivial) ?_
      show acc ++ [V.bl true] = _
      rw [hp, List.replicate_succ', List.map_append]
      rfl
    · rw [List.length_map] at hp
      subst hp
      refine ⟨D, _, rfl, SqL.of hA, ?_⟩
      rw [show ((List.replicate ns.length true).all id) = true by simp]
      exact q H' e
theorem ok_l_scoop (T : Txt K mg) : Def P w K mg base 1 "_law_scoop" ["_law_vat_here", "_law_total"] (sp_l_scoop K) := by
  obtain ⟨f_, fd_, g_, F_⟩ := T.d_l_scoop
  refine ⟨f_, fd_, g_, F_.kp, F_.binds (ps := ["_law_vat_here", "_law_total"]) (fun _ _ _ _ _ _ us hl => match us, hl with | [_, _], _ => rfl), ?_⟩
  refine F_.ok sc_l_scoop (fun vs H Q E h => ?_) (fun cdv A outer s H vs Q E hr h => ?_)
  · first | (obtain ⟨rfl, _⟩ := h; rfl) | (obtain ⟨_, rfl, _⟩ := h; rfl) | (obtain ⟨_, _, rfl, _⟩ := h; rfl) | (obtain ⟨_, _, _, rfl, _⟩ := h; rfl) | (obtain ⟨_, _, _, _, rfl, _⟩ := h; rfl) | (obtain ⟨_, _, _, _, _, rfl, _⟩ := h; rfl) | (obtain ⟨_, _, _, _, _, _, rfl, _⟩ := h; rfl) | (obtain ⟨_, _, _, _, _, _, _, rfl, _⟩ := h; rfl) | (obtain ⟨_, _, _, _, _, _, _, _, rfl, _⟩ := h; rfl) | (obtain ⟨_, _, _, _, _, _, _, _, _, rfl, _⟩ := h; rfl) | (obtain ⟨_, _, _, _, _, _, _, _, _, _, rfl, _⟩ := h; rfl) | (obtain ⟨_, _, _, _, _, _, _, _, _, _, _, rfl, _⟩ := h; rfl) | (obtain ⟨_, _, _, _, _, _, _, _, _, _, _, _, rfl, _⟩ := h; rfl) | (obtain ⟨_, _, _, _, _, _, _, _, _, _, _, _, _, rfl, _⟩ := h; rfl)
  · obtain ⟨c, t, rfl, ⟨x, y, z, hv⟩, h0, h1, q⟩ := h
    refine ⟨_, (pss_cons (ps_if (pt_cmpR op_gt (pe_ix ix_list (pv 0) pe_int (fun _ _ => rfl)) pe_int (nomark _))
      (pss_cons (ps_set (i := 2) sc_l_scoop.nd rfl (.inl rfl) (pe_op op_mod (pe_callTy call_int1 (by rfl) T.b_int (by decide +kernel) (pa_cons (pe_ix ix_list (pv 0) pe_int (fun _ _ => rfl)) pa_nil)) (pv 1)))
    (pss_cons (ps_asg (pe_op op_fdivW (pe_ix ix_list (pv 0) pe_int (fun _ _ => rfl)) (pv 1)) (pg_sub (pv 0) pe_int set_list))
    (pss_one (ps_ret (pv 2)))))
      pss_nil)
    (pss_cons (ps_asg (pe_op op_add (pe_ix ix_list (pv 0) pe_int (fun _ _ => rfl)) pe_int) (pg_sub (pv 0) pe_int set_list))
    (pss_cons (ps_set (i := 3) sc_l_scoop.nd rfl (.inl rfl) (pe_op op_mod (pe_callTy call_int1 (by rfl) T.b_int (by decide +kernel) (pa_cons (pe_op op_add (pe_ix ix_list (pv 0) pe_int (fun _ _ => rfl)) (pe_op op_mul pe_int (pe_ix ix_list (pv 0) pe_int (fun _ _ => rfl)))) pa_nil)) pe_int))
    (pss_cons (ps_set (i := 4) sc_l_scoop.nd rfl (.inl rfl) (pe_op op_mod (pe_callTy call_int1 (by rfl) T.b_int (by decide +kernel) (pa_cons (pe_op op_add (pe_op op_mul (pv 3) (pv 3)) (pe_op op_mul pe_int (pe_ix ix_list (pv 0) pe_int (fun _ _ => rfl)))) pa_nil)) pe_int))
    (pss_one (ps_ret (pe_op op_mod (pe_callTy call_int1 (by rfl) T.b_int (by decide +kernel) (pa_cons (pe_op op_fdivW (pe_callTy call_int1 (by rfl) T.b_int (by decide +kernel) (pa_cons (pe_op op_add (pe_op op_mul (pv 4) pe_int) (pv 3)) pa_nil)) pe_int) pa_nil)) (pv 1)))))))), ?_⟩
    have fv : ∀ (H' : Hp) (x' y' z' : Int), (∀ b o, b ≠ c → H b = some o → H' b = some o) → H' c = some (.lst [.int x', .int y', .int z']) → Fv c H H' := fun H' x' y' z' a b => ⟨⟨x', y', z', b⟩, a⟩
    refine ⟨_, rfl, c, _, 0, .int x, rfl, rfl, SqL.of hv, rfl, x, 0, rfl, rfl, _, rfl, iteD (fun g => ?_) (fun g => ?_)⟩
    · refine ⟨_, rfl, c, _, 0, .int x, rfl, rfl, SqL.of hv, rfl, .inl ⟨x, rfl, _, rfl, x, t, rfl, rfl, h0, ?_⟩⟩
      refine ⟨_, rfl, c, _, 0, .int x, rfl, rfl, SqL.of hv, rfl, _, rfl, x, t, rfl, rfl, dw h0 h1, ?_⟩
      refine ⟨_, rfl, c, _, 0, 0, rfl, rfl, hv, rfl, ?_⟩
      refine ⟨_, rfl, ?_⟩
      exact q _ _ (Int.emod_nonneg _ (by omega)) (Int.emod_lt_of_pos _ h0) (fv _ _ _ _ (fun b o n e => by rw [upd_ne n]; exact e) upd_same)
    · refine ⟨_, rfl, c, _, 2, .int z, rfl, rfl, SqL.of hv, rfl, _, 1, rfl, rfl, ?_⟩
      refine ⟨_, rfl, c, _, 2, 2, rfl, rfl, hv, rfl, ?_⟩
      have hv2 : upd H c (.lst [.int x, .int y, .int (z + 1)]) c = some (.lst [.int x, .int y, .int (z + 1)]) := upd_same
      refine ⟨_, rfl, c, _, 1, .int y, rfl, rfl, SqL.of hv2, rfl, _, rfl, c, _, 2, .int (z + 1), rfl, rfl, SqL.of hv2, rfl, _, _, rfl, rfl, .inl ⟨by decide, by decide⟩, _, _, rfl, rfl, .inl ⟨_, rfl, ?_⟩⟩
      refine ⟨_, _, rfl, rfl, (show (0 : Int) < 4611686018427387701 by decide), ?_⟩
      refine ⟨_, rfl, _, rfl, _, _, rfl, rfl, .inl ⟨by omega, by omega⟩, _, rfl, c, _, 2, .int (z + 1), rfl, rfl, SqL.of hv2, rfl, _, _, rfl, rfl, .inl ⟨by decide, by decide⟩, _, _, rfl, rfl, .inl ⟨_, rfl, ?_⟩⟩
      refine ⟨_, _, rfl, rfl, (show (0 : Int) < 4611686018427387617 by decide), ?_⟩
      refine ⟨_, rfl, _, _, rfl, rfl, .inl ⟨by omega, by omega⟩, _, rfl, _, _, rfl, rfl, .inl ⟨_, rfl, ?_⟩⟩
      refine ⟨_, _, rfl, rfl, dw (by decide) (by decide), .inl ⟨_, rfl, _, rfl, _, _, rfl, rfl, h0, ?_⟩⟩
      exact q _ _ (Int.emod_nonneg _ (by omega)) (Int.emod_lt_of_pos _ h0) (fv _ _ _ _ (fun b o n e => by rw [upd_ne n]; exact e) hv2)
theorem ok_l_from (T : Txt K mg) : Def P w K mg base 2 "_law_from" ["_law_vat_here", "_law_items"] (sp_l_from K) := by
  obtain ⟨f_, fd_, g_, F_⟩ := T.d_l_from
  obtain ⟨f_l_scoop, fd_l_scoop, g_l_scoop, k_l_scoop, b_l_scoop, G_l_scoop⟩ := (ok_l_scoop (P := P) (w := w) (base := base) T)
  refine ⟨f_, fd_, g_, F_.kp, F_.binds (ps := ["_law_vat_here", "_law_items"]) (fun _ _ _ _ _ _ us hl => match us, hl with | [_, _], _ => rfl), ?_⟩
  refine F_.ok sc_l_from (fun vs H Q E h => ?_) (fun cdv A outer s H vs Q E hr h => ?_)
  · first | (obtain ⟨rfl, _⟩ := h; rfl) | (obtain ⟨_, rfl, _⟩ := h; rfl) | (obtain ⟨_, _, rfl, _⟩ := h; rfl) | (obtain ⟨_, _, _, rfl, _⟩ := h; rfl) | (obtain ⟨_, _, _, _, rfl, _⟩ := h; rfl) | (obtain ⟨_, _, _, _, _, rfl, _⟩ := h; rfl) | (obtain ⟨_, _, _, _, _, _, rfl, _⟩ := h; rfl) | (obtain ⟨_, _, _, _, _, _, _, rfl, _⟩ := h; rfl) | (obtain ⟨_, _, _, _, _, _, _, _, rfl, _⟩ := h; rfl) | (obtain ⟨_, _, _, _, _, _, _, _, _, rfl, _⟩ := h; rfl) | (obtain ⟨_, _, _, _, _, _, _, _, _, _, rfl, _⟩ := h; rfl) | (obtain ⟨_, _, _, _, _, _, _, _, _, _, _, rfl, _⟩ := h; rfl) | (obtain ⟨_, _, _, _, _, _, _, _, _, _, _, _, rfl, _⟩ := h; rfl) | (obtain ⟨_, _, _, _, _, _, _, _, _, _, _, _, _, rfl, _⟩ := h; rfl)
  · obtain ⟨c, l, xs, rfl, hc, hl, ne, hx, hz, q⟩ := h
    refine ⟨_, (pss_one (ps_ret (pe_ix ix_list (pv 1) (pe_call G_l_scoop (hr.mono (by decide)) (by rfl) g_l_scoop k_l_scoop b_l_scoop .nil pass0 (pa_cons (pv 0) (pa_cons (pe_callB call_len_seq (by rfl) T.b_len PySem.boot_len (pa_cons (pv 1) pa_nil)) pa_nil))) (fun _ _ => rfl)))), ?_⟩
    have h0 : 0 < xs.length := List.length_pos_iff.mpr hx
    refine ⟨_, rfl, _, rfl, _, rfl, l, xs, rfl, .inl (SqL.of hl), c, _, rfl, hc, by omega, by omega, fun r H' r0 r1 e => ?_⟩
    obtain ⟨j, rfl⟩ : ∃ j : Nat, r = (j : Int) := ⟨r.toNat, by omega⟩
    have hj : j < xs.length := by omega
    exact ⟨l, xs, _, xs[j], rfl, rfl, SqL.of (e.2 _ _ ne hl), atI_nat (List.getElem?_eq_getElem hj), q _ _ (List.getElem_mem hj) e⟩
theorem ok_l_size (T : Txt K mg) : Def P w K mg base 2 "_law_size" ["_law_vat_here", "_law_most"] (sp_l_size K) := by
  obtain ⟨f_, fd_, g_, F_⟩ := T.d_l_size
  obtain ⟨f_l_scoop, fd_l_scoop, g_l_scoop, k_l_scoop, b_l_scoop, G_l_scoop⟩ := (ok_l_scoop (P := P) (w := w) (base := base) T)
  refine ⟨f_, fd_, g_, F_.kp, F_.binds (ps := ["_law_vat_here", "_law_most"]) (fun _ _ _ _ _ _ us hl => match us, hl with | [_, _], _ => rfl), ?_⟩
  refine F_.ok sc_l_size (fun vs H Q E h => ?_) (fun cdv A outer s H vs Q E hr h => ?_)
  · first | (obtain ⟨rfl, _⟩ := h; rfl) | (obtain ⟨_, rfl, _⟩ := h; rfl) | (obtain ⟨_, _, rfl, _⟩ := h; rfl) | (obtain ⟨_, _, _, rfl, _⟩ := h; rfl) | (obtain ⟨_, _, _, _, rfl, _⟩ := h; rfl) | (obtain ⟨_, _, _, _, _, rfl, _⟩ := h; rfl) | (obtain ⟨_, _, _, _, _, _, rfl, _⟩ := h; rfl) | (obtain ⟨_, _, _, _, _, _, _, rfl, _⟩ := h; rfl) | (obtain ⟨_, _, _, _, _, _, _, _, rfl, _⟩ := h; rfl) | (obtain ⟨_, _, _, _, _, _, _, _, _, rfl, _⟩ := h; rfl) | (obtain ⟨_, _, _, _, _, _, _, _, _, _, rfl, _⟩ := h; rfl) | (obtain ⟨_, _, _, _, _, _, _, _, _, _, _, rfl, _⟩ := h; rfl) | (obtain ⟨_, _, _, _, _, _, _, _, _, _, _, _, rfl, _⟩ := h; rfl) | (obtain ⟨_, _, _, _, _, _, _, _, _, _, _, _, _, rfl, _⟩ := h; rfl)
  · obtain ⟨c, t, rfl, hc, h0, h1, q⟩ := h
    refine ⟨_, (pss_one (ps_ret (pe_op op_sub (pe_call G_l_scoop (hr.mono (by decide)) (by rfl) g_l_scoop k_l_scoop b_l_scoop .nil pass0 (pa_cons (pv 0) (pa_cons (pe_op op_add (pe_op op_mul pe_int (pv 1)) pe_int) pa_nil))) (pv 1)))), ?_⟩
    refine ⟨_, rfl, _, rfl, _, _, rfl, rfl, .inl ⟨by decide, by decide⟩, _, _, rfl, rfl, c, _, rfl, hc, by omega, by omega, fun r H' r0 r1 e => ?_⟩
    exact ⟨_, rfl, _, _, rfl, rfl, q _ _ (by omega) (by omega) e⟩
theorem ok_l_vat (T : Txt K mg) : Def P w K mg base 1 "_law_vat" ["_law_script", "_law_at"] (sp_l_vat K) := by
  obtain ⟨f_, fd_, g_, F_⟩ := T.d_l_vat
  refine ⟨f_, fd_, g_, F_.kp, F_.binds (ps := ["_law_script", "_law_at"]) (fun _ _ _ _ _ _ us hl => match us, hl with | [_, _], _ => rfl), ?_⟩
  refine F_.ok sc_l_vat (fun vs H Q E h => ?_) (fun cdv A outer s H vs Q E hr h => ?_)
  · first | (obtain ⟨rfl, _⟩ := h; rfl) | (obtain ⟨_, rfl, _⟩ := h; rfl) | (obtain ⟨_, _, rfl, _⟩ := h; rfl) | (obtain ⟨_, _, _, rfl, _⟩ := h; rfl) | (obtain ⟨_, _, _, _, rfl, _⟩ := h; rfl) | (obtain ⟨_, _, _, _, _, rfl, _⟩ := h; rfl) | (obtain ⟨_, _, _, _, _, _, rfl, _⟩ := h; rfl) | (obtain ⟨_, _, _, _, _, _, _, rfl, _⟩ := h; rfl) | (obtain ⟨_, _, _, _, _, _, _, _, rfl, _⟩ := h; rfl) | (obtain ⟨_, _, _, _, _, _, _, _, _, rfl, _⟩ := h; rfl) | (obtain ⟨_, _, _, _, _, _, _, _, _, _, rfl, _⟩ := h; rfl) | (obtain ⟨_, _, _, _, _, _, _, _, _, _, _, rfl, _⟩ := h; rfl) | (obtain ⟨_, _, _, _, _, _, _, _, _, _, _, _, rfl, _⟩ := h; rfl) | (obtain ⟨_, _, _, _, _, _, _, _, _, _, _, _, _, rfl, _⟩ := h; rfl)
  · obtain ⟨a, ns, i, rfl, ha, q⟩ := h
    refine ⟨_, (Evl.pss_cut (ps_set (i := 2) sc_l_vat.nd rfl (.inl rfl) (pe_ifExp (pt_cmpR op_lt (pv 1) (pe_callB call_len_seq (by rfl) T.b_len PySem.boot_len (pa_cons (pv 0) pa_nil)) (nomark _)) (pe_callTy call_int1 (by rfl) T.b_int (by decide +kernel) (pa_cons (pe_ix ix_list (pv 0) (pv 1) (fun _ _ => rfl)) pa_nil)) (pe_op op_add (pe_op op_mul pe_int (pv 1)) pe_int)))
    (pss_cons (ps_set (i := 3) sc_l_vat.nd rfl (.inl rfl) (pe_op op_mod (pe_callB call_abs (by rfl) T.b_abs (by decide +kernel) (pa_cons (pv 2) pa_nil)) (pe_op op_powC (pe_op op_pow pe_int pe_int) pe_int)))
    (pss_cons (ps_set (i := 4) sc_l_vat.nd rfl (.inl rfl) (pe_op op_add (pe_op op_add (pe_op op_add (pe_op op_mul (pe_op op_mod (pv 3) pe_int) pe_int) (pe_op op_mul pe_int (pv 1))) (pe_op op_mul pe_int (pe_callTy call_int1 (by rfl) T.b_int (by decide +kernel) (pa_cons (pe_cmpR op_lt (pv 2) pe_int (nomark _)) pa_nil)))) pe_int))
    (pss_one (ps_ret (pe_lst (pa_cons (pe_callB (call_max2 rfl) (by rfl) T.b_max (by decide +kernel) (pa_cons pe_int (pa_cons (pe_op op_sub (pv 3) (pe_op op_pow pe_int pe_int)) pa_nil))) (pa_cons (pv 4) (pa_cons pe_int pa_nil))))))))), ?_⟩
    refine ⟨fun σ H' => ∃ cell : Int, σ = [some (.ref a), some (.int (i : Int)), some (.int cell), none, none] ∧ H' = H, ?_, ?_⟩
    · refine ⟨_, rfl, _, rfl, a, _, rfl, .inl ha, _, _, rfl, rfl, _, rfl, iteD (fun g => ?_) (fun g => ?_)⟩
      · have hi : i < ns.length := by rw [List.length_map] at g; omega
        refine ⟨_, rfl, _, rfl, a, _, (i : Int), .int ns[i], rfl, rfl, ha, atI_nat (by rw [List.getElem?_map, List.getElem?_eq_getElem hi]; rfl), .inl ⟨_, rfl, ?_⟩⟩
        exact ⟨_, rfl, rfl⟩
      · refine ⟨_, rfl, _, _, rfl, rfl, .inl ⟨by decide, by decide⟩, _, _, rfl, rfl, ?_⟩
        exact ⟨_, rfl, rfl⟩
    · rintro σ H' ⟨cell, rfl, rfl⟩
      refine ⟨_, rfl, cell, rfl, _, _, rfl, rfl, ⟨by decide, by decide, by decide⟩, _, _, rfl, rfl, ⟨by decide, by decide +kernel⟩, _, _, rfl, rfl, by show (0 : Int) < (10 ^ 54) ^ 4; decide +kernel, ?_⟩
      refine ⟨_, rfl, _, _, rfl, rfl, (show (0 : Int) < 4611686018427387733 by decide), _, _, rfl, rfl, .inr ⟨by decide, by decide⟩, _, rfl, _, _, rfl, rfl, .inl ⟨by decide, by decide⟩, _, _, rfl, rfl, ?_⟩
      refine ⟨_, rfl, _, _, rfl, rfl, .inr ⟨_, rfl, _, _, rfl, rfl, .inl ⟨by decide, by decide⟩, _, _, rfl, rfl, _, _, rfl, rfl, ?_⟩⟩
      refine ⟨_, rfl, _, _, rfl, rfl, ⟨by decide, by decide, by decide⟩, _, _, rfl, rfl, _, _, rfl, _, rfl, sl3, fun p hp => ?_⟩
      exact q p _ hp (Ex0.new hp) ⟨_, _, _, upd_same⟩
theorem ok_l_share (T : Txt K mg) : Def P w K mg base 1 "_law_share" ["_law_one", "_law_other"] (sp_l_share K) := by
  obtain ⟨f_, fd_, g_, F_⟩ := T.d_l_share
  refine ⟨f_, fd_, g_, F_.kp, F_.binds (ps := ["_law_one", "_law_other"]) (fun _ _ _ _ _ _ us hl => match us, hl with | [_, _], _ => rfl), ?_⟩
  refine F_.ok sc_l_share (fun vs H Q E h => ?_) (fun cdv A outer s H vs Q E hr h => ?_)
  · first | (obtain ⟨rfl, _⟩ := h; rfl) | (obtain ⟨_, rfl, _⟩ := h; rfl) | (obtain ⟨_, _, rfl, _⟩ := h; rfl) | (obtain ⟨_, _, _, rfl, _⟩ := h; rfl) | (obtain ⟨_, _, _, _, rfl, _⟩ := h; rfl) | (obtain ⟨_, _, _, _, _, rfl, _⟩ := h; rfl) | (obtain ⟨_, _, _, _, _, _, rfl, _⟩ := h; rfl) | (obtain ⟨_, _, _, _, _, _, _, rfl, _⟩ := h; rfl) | (obtain ⟨_, _, _, _, _, _, _, _, rfl, _⟩ := h; rfl) | (obtain ⟨_, _, _, _, _, _, _, _, _, rfl, _⟩ := h; rfl) | (obtain ⟨_, _, _, _, _, _, _, _, _, _, rfl, _⟩ := h; rfl) | (obtain ⟨_, _, _, _, _, _, _, _, _, _, _, rfl, _⟩ := h; rfl) | (obtain ⟨_, _, _, _, _, _, _, _, _, _, _, _, rfl, _⟩ := h; rfl) | (obtain ⟨_, _, _, _, _, _, _, _, _, _, _, _, _, rfl, _⟩ := h; rfl)
  · obtain ⟨i, j, rfl, q⟩ := h
    refine ⟨_, (pss_cons (ps_par (i := 0) (j := 1) (by rfl) sc_l_share.nd rfl rfl (by decide) rfl rfl (pa_cons (pe_callB call_abs (by rfl) T.b_abs (by decide +kernel) (pa_cons (pv 0) pa_nil)) (pa_cons (pe_callB call_abs (by rfl) T.b_abs (by decide +kernel) (pa_cons (pv 1) pa_nil)) pa_nil)) (by rfl))
    (pss_cons (ps_while PassesOwn.never (pt_cmpR op_gt (pv 1) pe_int (nomark _))
      (pss_one (ps_par (i := 0) (j := 1) (by rfl) sc_l_share.nd rfl rfl (by decide) rfl rfl (pa_cons (pv 1) (pa_cons (pe_op op_mod (pv 0) (pv 1)) pa_nil)) (by rfl))))
    (pss_one (ps_ret (pv 0))))), ?_⟩
    have ab : ∀ z : Int, (if z < 0 then -z else z) = (z.natAbs : Int) := fun z => by
      by_cases h : z < 0
      · rw [if_pos h]; omega
      · rw [if_neg h]; omega
    refine ⟨_, rfl, i, rfl, _, rfl, j, rfl, _, _, rfl, ?_⟩
    rw [ab, ab]
    refine ⟨fun m σ H' => ∃ x y : Nat, σ = [some (.int (x : Int)), some (.int (y : Int))] ∧ H' = H ∧ Nat.gcd x y = Nat.gcd i.natAbs j.natAbs ∧ m = y, ⟨_, _, _, rfl, rfl, rfl, rfl⟩, ?_⟩
    rintro m σ H' ⟨x, y, rfl, rfl, hg, rfl⟩
    refine ⟨_, rfl, _, _, rfl, rfl, _, rfl, iteD (fun g => ?_) (fun g => ?_)⟩
    · refine ⟨fun σ' H'' => ∃ x' y' : Nat, σ' = [some (.int (x' : Int)), some (.int (y' : Int))] ∧ H'' = H' ∧ Nat.gcd x' y' = Nat.gcd i.natAbs j.natAbs ∧ y' < m, fun σ' H'' ⟨x', y', e1, e2, e3, e4⟩ => ⟨y', e4, x', y', e1, e2, e3, rfl⟩, ?_⟩
      refine ⟨_, rfl, _, rfl, _, rfl, (x : Int), (m : Int), rfl, rfl, g, _, _, rfl, ?_⟩
      refine ⟨m, x % m, rfl, rfl, ?_, Nat.mod_lt _ (by omega)⟩
      rw [← hg, Nat.gcd_comm x m, Nat.gcd_rec m x, Nat.gcd_comm]
    · have : m = 0 := by omega
      subst this
      refine ⟨_, rfl, ?_⟩
      rw [Nat.gcd_zero_right] at hg
      rw [hg]
      exact q
end
end K01
namespace K01
open PySem PySem.Spec PyProof.Rows L2 Fr
def gcdL (ns : List Int) : Nat := ns.foldl (fun g n => Nat.gcd g n.natAbs) 0
theorem gcdL_take {ns : List Int} {i : Nat} {n : Int} (h : ns[i]? = some n) : gcdL (ns.take (i + 1)) = Nat.gcd (gcdL (ns.take i)) n.natAbs := by
  unfold gcdL
  obtain ⟨hi, e⟩ := List.getElem?_eq_some_iff.mp h
  rw [List.take_add_one, h, List.foldl_append]
  rfl
theorem get_int {ns : List Int} {i : Nat} {x : V} (hx : (ns.map V.int)[i]? = some x) : ∃ n, ns[i]? = some n ∧ x = V.int n := by
  rw [List.getElem?_map] at hx
  cases e : ns[i]? with
  | none => rw [e] at hx; cases hx
  | some z => rw [e] at hx; exact ⟨z, rfl, (Option.some.inj hx).symm⟩
theorem modN {n i : Nat} : ((n : Int) % (2 + (i : Int)) = 0) ↔ n % (2 + i) = 0 := by
  rw [show (2 : Int) + (i : Int) = ((2 + i : Nat) : Int) by omega, ← Int.natCast_emod]
  omega
inductive Prs (H : Hp) : List V → List (Nat × Nat) → Prop where
  | nil : Prs H [] []
  | cons {t : Addr} {p k : Nat} {xs : List V} {fs : List (Nat × Nat)} (h : H t = some (.tup [.int (p : Int), .int (k : Int)])) (r : Prs H xs fs) : Prs H (.ref t :: xs) ((p, k) :: fs)
theorem Prs.mono {H H' : Hp} {xs : List V} {fs : List (Nat × Nat)} (r : Prs H xs fs) (e : ∀ t xs, H t = some (.tup xs) → H' t = some (.tup xs)) : Prs H' xs fs := by
  induction r with
  | nil => exact .nil
  | cons h _ ih => exact .cons (e _ _ h) ih
theorem Prs.snoc {H : Hp} {xs : List V} {fs : List (Nat × Nat)} (r : Prs H xs fs) {t : Addr} {p k : Nat} (h : H t = some (.tup [.int (p : Int), .int (k : Int)])) : Prs H (xs ++ [.ref t]) (fs ++ [(p, k)]) := by
  induction r with
  | nil => exact .cons h .nil
  | cons h' _ ih => exact .cons h' ih
theorem Prs.len {H : Hp} {xs : List V} {fs : List (Nat × Nat)} (r : Prs H xs fs) : xs.length = fs.length := by
  induction r with
  | nil => rfl
  | cons _ _ ih => rw [List.length_cons, List.length_cons, ih]
theorem Prs.get {H : Hp} {xs : List V} {fs : List (Nat × Nat)} (r : Prs H xs fs) : ∀ {i : Nat} {x : V}, xs[i]? = some x → ∃ t p k, x = .ref t ∧ fs[i]? = some (p, k) ∧ H t = some (.tup [.int (p : Int), .int (k : Int)]) := by
  induction r with
  | nil => intro i x h; simp at h
  | @cons t p k xs fs h _ ih =>
    intro i x hx
    cases i with
    | zero => exact ⟨t, p, k, (Option.some.inj hx).symm, rfl, h⟩
    | succ i => exact ih hx
def TupF (H : Hp) (p : Addr) (fs : List (Nat × Nat)) : Prop := ∃ xs, H p = some (.tup xs) ∧ Prs H xs fs
def sp_shared_divisor (K : PySem.W.Frag) : Sp := fun vs H Q _ => ∃ (a : Addr) (ns : List Int), vs = [.ref a] ∧ SqT K H a (ns.map V.int) ∧ Q (.int (gcdL ns : Nat)) H
def sp_common_divisor (_ : PySem.W.Frag) : Sp := fun vs H Q _ => ∃ (a : Addr) (ns : List Int), vs = [.ref a] ∧ H a = some (.tup (ns.map V.int)) ∧ ns.length ≤ 1000 ∧ (∀ n ∈ ns, Short n) ∧ ∀ H', Ex0 H H' → Q (.int (gcdL ns : Nat)) H'
def sp_is_prime (_ : PySem.W.Frag) : Sp := fun vs H Q _ => ∃ n : Nat, vs = [.int (n : Int)] ∧ n ≤ 1000000 ∧ (Pr n → Q (.bl true) H) ∧ (¬ Pr n → Q (.bl false) H)
def sp_factored (_ : PySem.W.Frag) : Sp := fun vs H Q _ => ∃ n : Nat, vs = [.int (n : Int)] ∧ 1 ≤ n ∧ n ≤ 1000000000000 ∧ ∀ p H', Ex0 H H' → TupF H' p (fac n) → Q (.ref p) H'
def sp_raised (_ : PySem.W.Frag) : Sp := fun vs H Q _ => ∃ (b : Int) (e : Nat), vs = [.int b, .int (e : Int)] ∧ (∃ k : Nat, 0 < k ∧ k * e ≤ 2600 ∧ k ≤ 250 ∧ b.natAbs < 2 ^ k) ∧ Q (.int (b ^ e)) H
def sp_times_within (_ : PySem.W.Frag) : Sp := fun vs H Q _ => ∃ n d : Nat, vs = [.int (n : Int), .int (d : Int)] ∧ 1 ≤ n ∧ n ≤ 1000000000000 ∧ 2 ≤ d ∧ d ≤ 1000002 ∧ ∀ m k : Nat, 1 ≤ m → n = m * d ^ k → m % d ≠ 0 → Q (.int (k : Int)) H
def sp_whole_root (_ : PySem.W.Frag) : Sp := fun vs H Q _ => ∃ n e : Nat, vs = [.int (n : Int), .int (e : Int)] ∧ n < 1000000000000000000000000000000000000000000000000000000000000 ∧ 2 ≤ e ∧ e ≤ 10 ∧ ∀ r : Nat, r ^ e ≤ n → n < (r + 1) ^ e → Q (.int (r : Int)) H
def sp_is_square_free (_ : PySem.W.Frag) : Sp := fun vs H Q _ => ∃ i : Int, vs = [.int i] ∧ 1 ≤ i.natAbs ∧ i.natAbs ≤ 1000000000000 ∧ ∀ H', Ex0 H H' → Q (.bl (sqf i.natAbs)) H'
def sp_is_fundamental (_ : PySem.W.Frag) : Sp := fun vs H Q _ => ∃ i : Int, vs = [.int i] ∧ i.natAbs ≤ 1000000000 ∧ ∀ H', Ex0 H H' → Q (.bl (fund i)) H'
section
variable {P : Program} {w : World} {K : PySem.W.Frag} {mg : Str → Option Value} {base : Heap}
theorem ok_shared_divisor (T : Txt K mg) : Def P w K mg base 1 "shared_divisor" ["numbers"] (sp_shared_divisor K) := by
  obtain ⟨f_, fd_, g_, F_⟩ := T.d_shared_divisor
  refine ⟨f_, fd_, g_, F_.kp, F_.binds (ps := ["numbers"]) (fun _ _ _ _ _ _ us hl => match us, hl with | [_], _ => rfl), ?_⟩
  refine F_.ok sc_shared_divisor (fun vs H Q E h => ?_) (fun cdv A outer s H vs Q E hr h => ?_)
  · first | (obtain ⟨rfl, _⟩ := h; rfl) | (obtain ⟨_, rfl, _⟩ := h; rfl) | (obtain ⟨_, _, rfl, _⟩ := h; rfl) | (obtain ⟨_, _, _, rfl, _⟩ := h; rfl) | (obtain ⟨_, _, _, _, rfl, _⟩ := h; rfl) | (obtain ⟨_, _, _, _, _, rfl, _⟩ := h; rfl) | (obtain ⟨_, _, _, _, _, _, rfl, _⟩ := h; rfl) | (obtain ⟨_, _, _, _, _, _, _, rfl, _⟩ := h; rfl) | (obtain ⟨_, _, _, _, _, _, _, _, rfl, _⟩ := h; rfl) | (obtain ⟨_, _, _, _, _, _, _, _, _, rfl, _⟩ := h; rfl) | (obtain ⟨_, _, _, _, _, _, _, _, _, _, rfl, _⟩ := h; rfl) | (obtain ⟨_, _, _, _, _, _, _, _, _, _, _, rfl, _⟩ := h; rfl) | (obtain ⟨_, _, _, _, _, _, _, _, _, _, _, _, rfl, _⟩ := h; rfl) | (obtain ⟨_, _, _, _, _, _, _, _, _, _, _, _, _, rfl, _⟩ := h; rfl)
  · obtain ⟨a, ns, rfl, ha, q⟩ := h
    refine ⟨_, (pss_cons (ps_set (i := 1) sc_shared_divisor.nd rfl (.inl rfl) pe_int)
    (pss_cons (ps_for PassesOwn.never rfl (pi_tup (pv 0)) (pg_name (i := 2) sc_shared_divisor.nd rfl (.inl rfl))
      (pss_one (ps_set (i := 1) sc_shared_divisor.nd rfl (.inl rfl) (pe_callBfun cr_gcd (by rfl) T.m_gcd (pa_cons (pv 1) (pa_cons (pv 2) pa_nil))))))
    (pss_one (ps_ret (pv 1))))), ?_⟩
    refine ⟨_, rfl, a, rfl, ⟨_, ha⟩, for_tup (xs := ns.map V.int) (fun i σ H' => ∃ y2, σ = [some (.ref a), some (.int (gcdL (ns.take i) : Nat)), y2] ∧ H = H') ⟨none, rfl, rfl⟩ (fun i σ H' _ ⟨_, _, e⟩ => e ▸ ha) ?_ ?_⟩
    · rintro i x σ H' hx ⟨y2, rfl, rfl⟩
      obtain ⟨n, hn, rfl⟩ := get_int hx
      refine ⟨_, rfl, _, rfl, _, _, rfl, ?_⟩
      refine ⟨some (.int n), ?_, rfl⟩
      rw [gcdL_take hn]
      rfl
    · rintro σ H' ⟨y2, rfl, rfl⟩
      refine ⟨_, rfl, ?_⟩
      rw [List.length_map, List.take_length]
      exact q
theorem ok_common_divisor (T : Txt K mg) : Def P w K mg base 4 "common_divisor" ["numbers"] (sp_common_divisor K) := by
  obtain ⟨f_, fd_, g_, F_⟩ := T.d_common_divisor
  obtain ⟨f_are_short_integers, fd_are_short_integers, g_are_short_integers, k_are_short_integers, b_are_short_integers, G_are_short_integers⟩ := (ok_are_short_integers (P := P) (w := w) (base := base) T)
  obtain ⟨f_shared_divisor, fd_shared_divisor, g_shared_divisor, k_shared_divisor, b_shared_divisor, G_shared_divisor⟩ := (ok_shared_divisor (P := P) (w := w) (base := base) T)
  refine ⟨f_, fd_, g_, F_.kp, F_.binds (ps := ["numbers"]) (fun _ _ _ _ _ _ us hl => match us, hl with | [_], _ => rfl), ?_⟩
  refine F_.ok sc_common_divisor (fun vs H Q E h => ?_) (fun cdv A outer s H vs Q E hr h => ?_)
  · first | (obtain ⟨rfl, _⟩ := h; rfl) | (obtain ⟨_, rfl, _⟩ := h; rfl) | (obtain ⟨_, _, rfl, _⟩ := h; rfl) | (obtain ⟨_, _, _, rfl, _⟩ := h; rfl) | (obtain ⟨_, _, _, _, rfl, _⟩ := h; rfl) | (obtain ⟨_, _, _, _, _, rfl, _⟩ := h; rfl) | (obtain ⟨_, _, _, _, _, _, rfl, _⟩ := h; rfl) | (obtain ⟨_, _, _, _, _, _, _, rfl, _⟩ := h; rfl) | (obtain ⟨_, _, _, _, _, _, _, _, rfl, _⟩ := h; rfl) | (obtain ⟨_, _, _, _, _, _, _, _, _, rfl, _⟩ := h; rfl) | (obtain ⟨_, _, _, _, _, _, _, _, _, _, rfl, _⟩ := h; rfl) | (obtain ⟨_, _, _, _, _, _, _, _, _, _, _, rfl, _⟩ := h; rfl) | (obtain ⟨_, _, _, _, _, _, _, _, _, _, _, _, rfl, _⟩ := h; rfl) | (obtain ⟨_, _, _, _, _, _, _, _, _, _, _, _, _, rfl, _⟩ := h; rfl)
  · obtain ⟨a, ns, rfl, ha, hl, hs, q⟩ := h
    obtain ⟨t_MOST_NUMBERS, h_MOST_NUMBERS⟩ := T.x_MOST_NUMBERS
    refine ⟨_, (pss_cons (ps_if (PW.pt (pw_or (pt_not (pt_val (pe_callB call_isi (by rfl) T.b_isinstance (by decide +kernel) (pa_cons (pv 0) (pa_cons (pe_bltn (v := .ty "tuple") (by rfl) T.b_tuple (by decide +kernel) rfl) pa_nil))))) (pw_or1 (pt_cmpR op_gt (pe_callB call_len_seq (by rfl) T.b_len PySem.boot_len (pa_cons (pv 0) pa_nil)) (pe_glob (v := .int 1000) (by rfl) h_MOST_NUMBERS ⟨_, rfl⟩) (nomark _)))))
      pss_never
      pss_nil)
    (pss_cons (ps_if (pt_not (pt_val (pe_call G_are_short_integers (hr.mono (by decide)) (by rfl) g_are_short_integers k_are_short_integers b_are_short_integers .nil pass0 (pa_cons (pv 0) (pa_cons (pe_callB call_len_seq (by rfl) T.b_len PySem.boot_len (pa_cons (pv 0) pa_nil)) pa_nil)))))
      pss_never
      pss_nil)
    (pss_one (ps_ret (pe_call G_shared_divisor (hr.mono (by decide)) (by rfl) g_shared_divisor k_shared_divisor b_shared_divisor .nil pass0 (pa_cons (pv 0) pa_nil)))))), ?_⟩
    refine ⟨_, rfl, _, _, _, _, true, rfl, .ty _, .base (.tup ha), kit_ty (by decide +kernel), _, rfl, ?_⟩
    refine iteF ⟨_, rfl, a, _, rfl, .inr (SqT.of ha), _, _, rfl, rfl, _, rfl, ?_⟩
    refine dF (by rw [List.length_map]; omega) ?_
    refine ⟨_, rfl, _, rfl, a, _, rfl, .inr (SqT.of ha), a, ns, ?_, ha, hl, hs, fun H' e => ⟨_, rfl, ?_⟩⟩
    · rw [List.length_map]
      rfl
    · exact iteF ⟨_, rfl, a, ns, rfl, SqT.of (e.ap ha), q H' e⟩
theorem ok_is_prime (T : Txt K mg) : Def P w K mg base 5 "is_prime" ["number"] (sp_is_prime K) := by
  obtain ⟨f_, fd_, g_, F_⟩ := T.d_is_prime
  obtain ⟨f_check_between, fd_check_between, g_check_between, k_check_between, b_check_between, G_check_between⟩ := (ok_check_between (P := P) (w := w) (base := base) T)
  refine ⟨f_, fd_, g_, F_.kp, F_.binds (ps := ["number"]) (fun _ _ _ _ _ _ us hl => match us, hl with | [_], _ => rfl), ?_⟩
  refine F_.ok sc_is_prime (fun vs H Q E h => ?_) (fun cdv A outer s H vs Q E hr h => ?_)
  · first | (obtain ⟨rfl, _⟩ := h; rfl) | (obtain ⟨_, rfl, _⟩ := h; rfl) | (obtain ⟨_, _, rfl, _⟩ := h; rfl) | (obtain ⟨_, _, _, rfl, _⟩ := h; rfl) | (obtain ⟨_, _, _, _, rfl, _⟩ := h; rfl) | (obtain ⟨_, _, _, _, _, rfl, _⟩ := h; rfl) | (obtain ⟨_, _, _, _, _, _, rfl, _⟩ := h; rfl) | (obtain ⟨_, _, _, _, _, _, _, rfl, _⟩ := h; rfl) | (obtain ⟨_, _, _, _, _, _, _, _, rfl, _⟩ := h; rfl) | (obtain ⟨_, _, _, _, _, _, _, _, _, rfl, _⟩ := h; rfl) | (obtain ⟨_, _, _, _, _, _, _, _, _, _, rfl, _⟩ := h; rfl) | (obtain ⟨_, _, _, _, _, _, _, _, _, _, _, rfl, _⟩ := h; rfl) | (obtain ⟨_, _, _, _, _, _, _, _, _, _, _, _, rfl, _⟩ := h; rfl) | (obtain ⟨_, _, _, _, _, _, _, _, _, _, _, _, _, rfl, _⟩ := h; rfl)
  · obtain ⟨n, rfl, hn, qt, qf⟩ := h
    obtain ⟨t_MAX_PRIME, h_MAX_PRIME⟩ := T.x_MAX_PRIME
    refine ⟨_, (pss_cons (ps_expr (pe_call G_check_between (hr.mono (by decide)) (by rfl) g_check_between k_check_between b_check_between .nil pass0 (pa_cons (pv 0) (pa_cons pe_int (pa_cons (pe_glob (v := .int 1000000) (by rfl) h_MAX_PRIME ⟨_, rfl⟩) pa_nil)))))
    (pss_cons (ps_if (pt_cmpR op_lt (pv 0) pe_int (nomark _))
      (pss_one (ps_ret pe_bl))
      pss_nil)
    (pss_cons (ps_for PassesOwn.never rfl (pi_range2 (by rfl) T.b_range (pa_cons pe_int (pa_cons (pe_op op_add (pe_callBfun cr_isqrt (by rfl) T.m_isqrt (pa_cons (pv 0) pa_nil)) pe_int) pa_nil))) (pg_name (i := 1) sc_is_prime.nd rfl (.inl rfl))
      (pss_one (ps_if (pt_cmpR op_eq (pe_op op_mod (pv 0) (pv 1)) pe_int (nomark _))
      (pss_one (ps_ret pe_bl))
      pss_nil)))
    (pss_one (ps_ret pe_bl))))), ?_⟩
    refine ⟨_, rfl, _, _, _, rfl, ⟨by omega, by omega⟩, by omega, by omega, ?_⟩
    refine ⟨_, rfl, _, _, rfl, rfl, _, rfl, iteD (fun g => ?_) (fun g => ?_)⟩
    · exact qf (fun z => by have := z.1; omega)
    · refine ⟨_, rfl, _, rfl, by omega, by omega, fun r r0 r1 r2 => ?_⟩
      have r3 : r < 2 ^ 60 := by
        rcases Int.lt_or_le r (2 ^ 60) with h | h
        · exact h
        · have := Int.mul_le_mul h h (by decide) (by omega)
          omega
      refine ⟨_, _, rfl, rfl, _, _, rfl, ⟨by decide, by decide, by omega, by omega⟩, ?_⟩
      refine for_range (lo := 2) (n := (r + 1 - 2).toNat) (fun i σ H' => ∃ y1, σ = [some (.int (n : Int)), y1] ∧ H = H' ∧ ∀ c : Nat, 2 ≤ c → c < 2 + i → n % c ≠ 0) ⟨none, rfl, rfl, fun c h1 h2 => by omega⟩ ?_ ?_
      · rintro i σ H' hi ⟨y1, rfl, rfl, hc⟩
        refine ⟨_, rfl, _, rfl, (n : Int), 2 + (i : Int), rfl, rfl, (show (0 : Int) < 2 + (i : Int) by omega), rfl, _, rfl, ?_⟩
        have e : decide (V.int ((n : Int) % (2 + (i : Int))) = V.int 0) = decide ((n : Int) % (2 + (i : Int)) = 0) := by rw [dec_int]; rfl
        show if decide (V.int ((n : Int) % (2 + (i : Int))) = V.int 0) = true then _ else _
        rw [e]
        refine iteD (fun z => ?_) (fun z => ?_)
        · refine qf (fun h => h.2 (2 + i) (by omega) ?_ (modN.mp z))
          have : (2 + (i : Int)) ≤ r := by omega
          have := Int.mul_le_mul this this (by omega) (by omega)
          have : ((2 + i : Nat) : Int) * ((2 + i : Nat) : Int) ≤ (n : Int) := by
            rw [show ((2 + i : Nat) : Int) = 2 + (i : Int) by omega]
            omega
          exact Int.ofNat_le.mp (by rw [Int.natCast_mul]; exact this)
        · refine ⟨_, rfl, rfl, fun c h1 h2 => ?_⟩
          rcases Nat.lt_or_ge c (2 + i) with h | h
          · exact hc c h1 h
          · have : c = 2 + i := by omega
            rw [this]
            exact fun h => z (modN.mpr h)
      · rintro σ H' ⟨y1, rfl, rfl, hc⟩
        refine qt ⟨by omega, fun c h1 h2 => hc c h1 ?_⟩
        rcases Nat.lt_or_ge c (2 + (r + 1 - 2).toNat) with h | h
        · exact h
        · exfalso
          have h3 : r + 1 ≤ (c : Int) := by omega
          have h4 := Int.mul_le_mul h3 h3 (by omega) (by omega)
          have h5 : (c : Int) * (c : Int) ≤ (n : Int) := by
            rw [← Int.natCast_mul]
            exact Int.ofNat_le.mpr h2
          omega
theorem ok_raised (T : Txt K mg) : Def P w K mg base 1 "raised" ["base", "exponent"] (sp_raised K) := by
  obtain ⟨f_, fd_, g_, F_⟩ := T.d_raised
  refine ⟨f_, fd_, g_, F_.kp, F_.binds (ps := ["base", "exponent"]) (fun _ _ _ _ _ _ us hl => match us, hl with | [_, _], _ => rfl), ?_⟩
  refine F_.ok sc_raised (fun vs H Q E h => ?_) (fun cdv A outer s H vs Q E hr h => ?_)
  · first | (obtain ⟨rfl, _⟩ := h; rfl) | (obtain ⟨_, rfl, _⟩ := h; rfl) | (obtain ⟨_, _, rfl, _⟩ := h; rfl) | (obtain ⟨_, _, _, rfl, _⟩ := h; rfl) | (obtain ⟨_, _, _, _, rfl, _⟩ := h; rfl) | (obtain ⟨_, _, _, _, _, rfl, _⟩ := h; rfl) | (obtain ⟨_, _, _, _, _, _, rfl, _⟩ := h; rfl) | (obtain ⟨_, _, _, _, _, _, _, rfl, _⟩ := h; rfl) | (obtain ⟨_, _, _, _, _, _, _, _, rfl, _⟩ := h; rfl) | (obtain ⟨_, _, _, _, _, _, _, _, _, rfl, _⟩ := h; rfl) | (obtain ⟨_, _, _, _, _, _, _, _, _, _, rfl, _⟩ := h; rfl) | (obtain ⟨_, _, _, _, _, _, _, _, _, _, _, rfl, _⟩ := h; rfl) | (obtain ⟨_, _, _, _, _, _, _, _, _, _, _, _, rfl, _⟩ := h; rfl) | (obtain ⟨_, _, _, _, _, _, _, _, _, _, _, _, _, rfl, _⟩ := h; rfl)
  · obtain ⟨b, e, rfl, ⟨k, k0, ke, k1, hb⟩, q⟩ := h
    have he : e ≤ 2600 := Nat.le_trans (Nat.le_mul_of_pos_left e k0) ke
    refine ⟨_, (pss_cons (ps_set (i := 2) sc_raised.nd rfl (.inl rfl) pe_int)
    (pss_cons (ps_for PassesOwn.never rfl (pi_range1 (by rfl) T.b_range (pa_cons (pv 1) pa_nil)) (pg_name (i := 3) sc_raised.nd rfl (.inl rfl))
      (pss_one (ps_set (i := 2) sc_raised.nd rfl (.inl rfl) (pe_op op_mulW (pv 2) (pv 0)))))
    (pss_one (ps_ret (pv 2))))), ?_⟩
    have pw : ∀ i : Nat, (b ^ i).natAbs < 2 ^ (k * i + 1) := fun i => by
      induction i with
      | zero => rw [Int.pow_zero]; show 1 < 2 ^ (k * 0 + 1); rw [Nat.mul_zero]; decide
      | succ i ih =>
        rw [Int.pow_succ, show k * (i + 1) + 1 = (k * i + 1) + k by rw [Nat.mul_add]; omega]
        exact wide_lt ih hb
    refine ⟨_, rfl, _, rfl, by omega, by omega, for_range (lo := 0) (n := ((e : Int)).toNat) (fun i σ H' => ∃ y3, σ = [some (.int b), some (.int (e : Int)), some (.int (b ^ i)), y3] ∧ H = H') ⟨none, by rw [Int.pow_zero]; rfl, rfl⟩ ?_ ?_⟩
    · rintro i σ H' hi ⟨y3, rfl, rfl⟩
      have hki : k * i ≤ 2600 := Nat.le_trans (Nat.mul_le_mul_left k (by omega)) ke
      refine ⟨_, rfl, _, rfl, _, _, rfl, rfl, wide_mul (a := k * i + 1) (b := k) (pw i) hb (by omega) k0 (by omega), ?_⟩
      refine ⟨some (.int (0 + (i : Int))), ?_, rfl⟩
      rw [Int.pow_succ]
      rfl
    · rintro σ H' ⟨y3, rfl, rfl⟩
      exact ⟨_, rfl, q⟩
theorem ok_times_within (T : Txt K mg) : Def P w K mg base 1 "times_within" ["number", "prime"] (sp_times_within K) := by
  obtain ⟨f_, fd_, g_, F_⟩ := T.d_times_within
  refine ⟨f_, fd_, g_, F_.kp, F_.binds (ps := ["number", "prime"]) (fun _ _ _ _ _ _ us hl => match us, hl with | [_, _], _ => rfl), ?_⟩
  refine F_.ok sc_times_within (fun vs H Q E h => ?_) (fun cdv A outer s H vs Q E hr h => ?_)
  · first | (obtain ⟨rfl, _⟩ := h; rfl) | (obtain ⟨_, rfl, _⟩ := h; rfl) | (obtain ⟨_, _, rfl, _⟩ := h; rfl) | (obtain ⟨_, _, _, rfl, _⟩ := h; rfl) | (obtain ⟨_, _, _, _, rfl, _⟩ := h; rfl) | (obtain ⟨_, _, _, _, _, rfl, _⟩ := h; rfl) | (obtain ⟨_, _, _, _, _, _, rfl, _⟩ := h; rfl) | (obtain ⟨_, _, _, _, _, _, _, rfl, _⟩ := h; rfl) | (obtain ⟨_, _, _, _, _, _, _, _, rfl, _⟩ := h; rfl) | (obtain ⟨_, _, _, _, _, _, _, _, _, rfl, _⟩ := h; rfl) | (obtain ⟨_, _, _, _, _, _, _, _, _, _, rfl, _⟩ := h; rfl) | (obtain ⟨_, _, _, _, _, _, _, _, _, _, _, rfl, _⟩ := h; rfl) | (obtain ⟨_, _, _, _, _, _, _, _, _, _, _, _, rfl, _⟩ := h; rfl) | (obtain ⟨_, _, _, _, _, _, _, _, _, _, _, _, _, rfl, _⟩ := h; rfl)
  · obtain ⟨n, d, rfl, n1, n2, d2, d3, q⟩ := h
    refine ⟨_, (pss_cons (ps_set (i := 2) sc_times_within.nd rfl (.inl rfl) pe_int)
    (pss_cons (ps_set (i := 3) sc_times_within.nd rfl (.inl rfl) (pv 0))
    (pss_cons (ps_while PassesOwn.never (pt_cmpR op_eq (pe_op op_mod (pv 3) (pv 1)) pe_int (nomark _))
      (pss_cons (ps_set (i := 3) sc_times_within.nd rfl (.inl rfl) (pe_op op_fdivW (pv 3) (pv 1)))
    (pss_one (ps_aug (i := 2) sc_times_within.nd rfl (.inl rfl) pe_int ip_add))))
    (pss_one (ps_ret (pv 2)))))), ?_⟩
    refine ⟨_, rfl, ?_⟩
    refine ⟨fun m σ' H'' => ∃ (left' k : Nat), σ' = [some (.int (n : Int)), some (.int (d : Int)), some (.int (k : Int)), some (.int (left' : Int))] ∧ H = H'' ∧ 1 ≤ left' ∧ n = left' * d ^ k ∧ m = left', ⟨_, n, 0, rfl, rfl, n1, by simp, rfl⟩, ?_⟩
    rintro m σ' H'' ⟨left', k, rfl, rfl, p1, p2, rfl⟩
    refine ⟨_, rfl, _, rfl, (m : Int), (d : Int), rfl, rfl, (show (0 : Int) < d by omega), rfl, _, rfl, ?_⟩
    have em : decide (V.int ((m : Int) % (d : Int)) = V.int 0) = decide (m % d = 0) := by
      rw [dec_int, ← Int.natCast_emod]
      apply Bool.eq_iff_iff.mpr
      rw [decide_eq_true_iff, beq_iff_eq]
      omega
    show if decide (V.int ((m : Int) % (d : Int)) = V.int 0) = true then _ else _
    rw [em]
    refine iteD (fun z => ?_) (fun z => ?_)
    · have dm : d ≤ m := Nat.le_of_dvd p1 (Nat.dvd_of_mod_eq_zero z)
      refine ⟨fun σ' H'' => ∃ (left' k : Nat), σ' = [some (.int (n : Int)), some (.int (d : Int)), some (.int (k : Int)), some (.int (left' : Int))] ∧ H = H'' ∧ 1 ≤ left' ∧ n = left' * d ^ k ∧ left' < m, fun σ' H'' ⟨a, b, c1, c2, c3, c4, c5⟩ => ⟨a, c5, a, b, c1, c2, c3, c4, rfl⟩, ?_⟩
      refine ⟨_, rfl, _, rfl, (m : Int), (d : Int), rfl, rfl, dw (by omega) (by omega), ?_⟩
      refine ⟨_, rfl, (k : Int), 1, rfl, rfl, ?_⟩
      refine ⟨m / d, k + 1, rfl, rfl, Nat.div_pos dm (by omega), ?_, Nat.div_lt_self p1 (by omega)⟩
      rw [Nat.pow_succ, Nat.mul_comm (d ^ k) d, ← Nat.mul_assoc, Nat.div_mul_cancel (Nat.dvd_of_mod_eq_zero z)]
      exact p2
    · exact ⟨_, rfl, q m k p1 p2 z⟩
theorem ok_factored (T : Txt K mg) : Def P w K mg base 5 "factored" ["number"] (sp_factored K) := by
  obtain ⟨f_, fd_, g_, F_⟩ := T.d_factored
  obtain ⟨f_check_between, fd_check_between, g_check_between, k_check_between, b_check_between, G_check_between⟩ := (ok_check_between (P := P) (w := w) (base := base) T)
  obtain ⟨f_raised, fd_raised, g_raised, k_raised, b_raised, G_raised⟩ := (ok_raised (P := P) (w := w) (base := base) T)
  obtain ⟨f_times_within, fd_times_within, g_times_within, k_times_within, b_times_within, G_times_within⟩ := (ok_times_within (P := P) (w := w) (base := base) T)
  refine ⟨f_, fd_, g_, F_.kp, F_.binds (ps := ["number"]) (fun _ _ _ _ _ _ us hl => match us, hl with | [_], _ => rfl), ?_⟩
  refine F_.ok sc_factored (fun vs H Q E h => ?_) (fun cdv A outer s H vs Q E hr h => ?_)
  · first | (obtain ⟨rfl, _⟩ := h; rfl) | (obtain ⟨_, rfl, _⟩ := h; rfl) | (obtain ⟨_, _, rfl, _⟩ := h; rfl) | (obtain ⟨_, _, _, rfl, _⟩ := h; rfl) | (obtain ⟨_, _, _, _, rfl, _⟩ := h; rfl) | (obtain ⟨_, _, _, _, _, rfl, _⟩ := h; rfl) | (obtain ⟨_, _, _, _, _, _, rfl, _⟩ := h; rfl) | (obtain ⟨_, _, _, _, _, _, _, rfl, _⟩ := h; rfl) | (obtain ⟨_, _, _, _, _, _, _, _, rfl, _⟩ := h; rfl) | (obtain ⟨_, _, _, _, _, _, _, _, _, rfl, _⟩ := h; rfl) | (obtain ⟨_, _, _, _, _, _, _, _, _, _, rfl, _⟩ := h; rfl) | (obtain ⟨_, _, _, _, _, _, _, _, _, _, _, rfl, _⟩ := h; rfl) | (obtain ⟨_, _, _, _, _, _, _, _, _, _, _, _, rfl, _⟩ := h; rfl) | (obtain ⟨_, _, _, _, _, _, _, _, _, _, _, _, _, rfl, _⟩ := h; rfl)
  · obtain ⟨n, rfl, h1, h2, q⟩ := h
    obtain ⟨t_MAX_FACTORED, h_MAX_FACTORED⟩ := T.x_MAX_FACTORED
    refine ⟨_, (pss_cons (ps_expr (pe_call G_check_between (hr.mono (by decide)) (by rfl) g_check_between k_check_between b_check_between .nil pass0 (pa_cons (pv 0) (pa_cons pe_int (pa_cons (pe_glob (v := .int 1000000000000) (by rfl) h_MAX_FACTORED ⟨_, rfl⟩) pa_nil)))))
    (pss_cons (ps_set (i := 1) sc_factored.nd rfl (.inl rfl) (pe_lst pa_nil))
    (pss_cons (ps_set (i := 2) sc_factored.nd rfl (.inl rfl) (pv 0))
    (pss_cons (ps_set (i := 3) sc_factored.nd rfl (.inl rfl) pe_int)
    (pss_cons (ps_while PassesOwn.never (pt_cmpR op_le (pe_op op_mul (pv 3) (pv 3)) (pv 2) (nomark _))
      (Evl.pss_cut (ps_if (pt_cmpR op_eq (pe_op op_mod (pv 2) (pv 3)) pe_int (nomark _))
      (pss_cons (ps_set (i := 4) sc_factored.nd rfl (.inl rfl) (pe_call G_times_within (hr.mono (by decide)) (by rfl) g_times_within k_times_within b_times_within .nil pass0 (pa_cons (pv 2) (pa_cons (pv 3) pa_nil))))
    (pss_cons (ps_expr (pe_bm PySem.F.plainAttrs_list PySem.F.slot_list_append PySem.F.type_list_append mt_append (pv 1) (pa_cons (pe_tup (pa_cons (pv 3) (pa_cons (pv 4) pa_nil))) pa_nil)))
    (pss_one (ps_set (i := 2) sc_factored.nd rfl (.inl rfl) (pe_op op_fdivW (pv 2) (pe_call G_raised (hr.mono (by decide)) (by rfl) g_raised k_raised b_raised .nil pass0 (pa_cons (pv 3) (pa_cons (pv 4) pa_nil))))))))
      pss_nil)
    (pss_one (ps_set (i := 3) sc_factored.nd rfl (.inl rfl) (pe_ifExp (pt_cmpR op_gt (pv 3) pe_int (nomark _)) (pe_op op_add (pv 3) pe_int) pe_int)))))
    (Evl.pss_cut (ps_if (pt_cmpR op_gt (pv 2) pe_int (nomark _))
      (pss_one (ps_expr (pe_bm PySem.F.plainAttrs_list PySem.F.slot_list_append PySem.F.type_list_append mt_append (pv 1) (pa_cons (pe_tup (pa_cons (pv 2) (pa_cons pe_int pa_nil))) pa_nil))))
      pss_nil)
    (pss_one (ps_ret (pe_callTy call_tuple_of (by rfl) T.b_tuple (by decide +kernel) (pa_cons (pv 1) pa_nil)))))))))), ?_⟩
    refine ⟨_, rfl, _, _, _, rfl, ⟨by omega, by omega⟩, by omega, by omega, ?_⟩
    refine ⟨Nat.zero_le _, fun l hl => ?_⟩
    have e0 : Ex0 H (upd H l (.lst [])) := Ex0.new hl
    refine ⟨_, rfl, ?_⟩
    let Inv : Nat → Nat → Hp → (Nat → List (Nat × Nat) → List (Nat × Nat) → Prop) → Prop := fun left d H' G => Ex0 H H' ∧ ∃ xs fs, H' l = some (.lst xs) ∧ Prs H' xs fs ∧ 1 ≤ left ∧ left ≤ n ∧ (d = 2 ∨ (d % 2 = 1 ∧ 3 ≤ d ∧ left % 2 = 1)) ∧ d ≤ 1000002 ∧ fs.length ≤ d ∧ ∀ r, G left fs r
    refine ⟨fun m σ H' => ∃ (left d : Nat) (y4 : Option V), σ = [some (.int (n : Int)), some (.ref l), some (.int (left : Int)), some (.int (d : Int)), y4] ∧ Inv left d H' (fun left fs r => TF left d r → TF n 2 (fs ++ r)) ∧ m = 2000000 - d, ?_, ?_⟩
    · exact ⟨_, n, 2, none, rfl, ⟨e0, [], [], upd_same, .nil, h1, Nat.le_refl _, .inl rfl, by decide, by decide, fun r t => t⟩, rfl⟩
    rintro m σ H' ⟨left, d, y4, rfl, ⟨ex, xs, fs, hA, hP, l1, l2, hd, d3, hz, ht⟩, rfl⟩
    have d2 : 2 ≤ d := by omega
    refine ⟨_, rfl, _, rfl, _, _, rfl, rfl, .inl ⟨by omega, by omega⟩, _, rfl, _, _, rfl, rfl, _, rfl, iteD (fun g => ?_) (fun g => ?_)⟩
    · have g' : d * d ≤ left := by
        have : ((d * d : Nat) : Int) ≤ (left : Int) := by rw [Int.natCast_mul]; exact g
        exact Int.ofNat_le.mp this
      have d4 : d ≤ 1000000 := by
        rcases Nat.lt_or_ge 1000000 d with h | h
        · have := Nat.mul_le_mul h h
          omega
        · exact h
      refine ⟨fun σ' H'' => ∃ (left' d' : Nat) (y4 : Option V), σ' = [some (.int (n : Int)), some (.ref l), some (.int (left' : Int)), some (.int (d' : Int)), y4] ∧ Inv left' d' H'' (fun left fs r => TF left d' r → TF n 2 (fs ++ r)) ∧ d < d', ?_, ?_⟩
      · rintro σ' H'' ⟨left', d', y4, e1, e2, e3⟩
        exact ⟨_, by have := e2.2; obtain ⟨_, _, _, _, _, _, _, b, _⟩ := this; omega, left', d', y4, e1, e2, rfl⟩
      have odd : ∀ (m k : Nat), left = m * d ^ k → m % d ≠ 0 → m % 2 = 1 := fun m k p2 z => by
        rcases hd with h | ⟨_, _, h'⟩
        · subst h; omega
        · rcases Nat.mod_two_eq_zero_or_one m with y | y
          · exfalso
            have : 2 ∣ left := by
              rw [p2]
              exact Nat.dvd_mul_right_of_dvd (Nat.dvd_of_mod_eq_zero y) _
            omega
          · exact y
      refine ⟨fun σ' H'' => ∃ (m : Nat) (y4 : Option V), σ' = [some (.int (n : Int)), some (.ref l), some (.int (m : Int)), some (.int (d : Int)), y4] ∧ Ex0 H H'' ∧ ∃ xs fs, H'' l = some (.lst xs) ∧ Prs H'' xs fs ∧ fs.length ≤ d + 1 ∧ 1 ≤ m ∧ m ≤ left ∧ m % 2 = 1 ∧ ∀ r, TF m (d + 1) r → TF n 2 (fs ++ r), ?_, ?_⟩
      · refine ⟨_, rfl, _, rfl, (left : Int), (d : Int), rfl, rfl, (show (0 : Int) < d by omega), rfl, _, rfl, ?_⟩
        have em : decide (V.int ((left : Int) % (d : Int)) = V.int 0) = decide (left % d = 0) := by
          rw [dec_int, ← Int.natCast_emod]
          apply Bool.eq_iff_iff.mpr
          rw [decide_eq_true_iff, beq_iff_eq]
          omega
        show if decide (V.int ((left : Int) % (d : Int)) = V.int 0) = true then _ else _
        rw [em]
        refine iteD (fun z => ?_) (fun z => ?_)
        · refine ⟨_, rfl, _, rfl, left, d, rfl, l1, by omega, d2, by omega, fun m k p1 p2 pz => ?_⟩
          have dk : d ^ k ≤ left := by rw [p2]; exact Nat.le_mul_of_pos_left _ p1
          have k40 : k < 40 := by
            have h1 : 2 ^ k ≤ d ^ k := Nat.pow_le_pow_left d2 k
            have h2 : 2 ^ k < 2 ^ 40 := by omega
            exact (Nat.pow_lt_pow_iff_right (by decide)).mp h2
          have kp : 0 < k := by
            rcases Nat.eq_zero_or_pos k with h | h
            · subst h
              exfalso
              apply pz
              rw [show left = m by simpa using p2] at z
              exact z
            · exact h
          have m2 : m ≤ left := by
            rw [p2]
            exact Nat.le_mul_of_pos_right _ (Nat.pow_pos (by omega))
          refine ⟨_, rfl, .inl ⟨rfl, _, SqL.of hA⟩, _, rfl, _, rfl, sl2, fun t nt => ?_⟩
          have ntl : l ≠ t := ne_of_none hA nt
          have hA2 : upd H' t (.tup [.int (d : Int), .int (k : Int)]) l = some (.lst xs) := by rw [upd_ne ntl]; exact hA
          refine ⟨l, xs, _, rfl, rfl, hA2, Nat.lt_of_le_of_lt (by rw [hP.len]; omega : xs.length ≤ 1000002) (by decide), ?_⟩
          have ep : ((d : Int)) ^ k = ((d ^ k : Nat) : Int) := by rw [Int.natCast_pow]
          have dp : 0 < d ^ k := Nat.pow_pos (by omega)
          have eq1 : (left : Int) / ((d : Int)) ^ k = (m : Int) := by
            rw [ep, ← Int.natCast_ediv, p2, Nat.mul_div_cancel _ dp]
          refine ⟨_, rfl, _, rfl, _, rfl, (d : Int), k, rfl, ⟨20, by decide, by omega, by decide, by omega⟩, (left : Int), (d : Int) ^ k, rfl, rfl, dw (by omega) (by omega), ?_⟩
          refine ⟨m, some (.int (k : Int)), ?_, Fx.mut fm0 (ex.trans (Ex0.new nt)) trivial hl, _, fs ++ [(d, k)], upd_same, ?_, by rw [List.length_append]; exact Nat.add_le_add_right hz 1, p1, m2, odd m k p2 pz, fun r t => ?_⟩
          · rw [← eq1]
            rfl
          · refine (Prs.mono hP fun t' zs ht' => ?_).snoc ?_
            · rw [upd_ne (ne_of ht' hA (by intro z; cases z)), upd_ne (ne_of_none ht' nt)]
              exact ht'
            · rw [upd_ne ntl.symm]
              exact upd_same
          · rw [List.append_assoc]
            exact ht _ (.take g' pz kp p2 t)
        · exact ⟨left, y4, rfl, ex, xs, fs, hA, hP, by omega, l1, Nat.le_refl _, odd left 0 (by simp) z, fun r t => ht r (.skip g' z t)⟩
      · rintro σ' H'' ⟨m, y4', rfl, ex2, xs2, fs2, hA2, hP2, hz2, p1, m2, mOdd, ht2⟩
        refine ⟨_, rfl, _, _, rfl, rfl, _, rfl, iteD (fun dz => ?_) (fun dz => ?_)⟩
        · refine ⟨_, rfl, _, _, rfl, rfl, ?_⟩
          exact ⟨m, d + 2, _, rfl, ⟨ex2, xs2, fs2, hA2, hP2, p1, by omega, .inr ⟨by omega, by omega, mOdd⟩, by omega, by omega, fun r t => ht2 r (TF.two mOdd (by omega) t)⟩, by omega⟩
        · have : d = 2 := by omega
          subst this
          exact ⟨m, 3, _, rfl, ⟨ex2, xs2, fs2, hA2, hP2, p1, by omega, .inr ⟨by decide, by decide, mOdd⟩, by decide, by omega, ht2⟩, by decide⟩
    · -- if left > 1: found.append((left, 1))
      have g' : left < d * d := by
        have : ¬ ((d * d : Nat) : Int) ≤ (left : Int) := by rw [Int.natCast_mul]; exact g
        omega
      refine ⟨fun σ' H'' => (∃ y4, σ' = [some (.int (n : Int)), some (.ref l), some (.int (left : Int)), some (.int (d : Int)), y4]) ∧ Ex0 H H'' ∧ ∃ xs fs, H'' l = some (.lst xs) ∧ Prs H'' xs fs ∧ TF n 2 fs, ?_, ?_⟩
      · refine ⟨_, rfl, _, _, rfl, rfl, _, rfl, iteD (fun kz => ?_) (fun kz => ?_)⟩
        · refine ⟨_, rfl, .inl ⟨rfl, _, SqL.of hA⟩, _, rfl, sl2, fun t nt => ?_⟩
          have ntl : l ≠ t := ne_of_none hA nt
          have hA2 : upd H' t (.tup [.int (left : Int), .int 1]) l = some (.lst xs) := by rw [upd_ne ntl]; exact hA
          refine ⟨l, xs, _, rfl, rfl, hA2, Nat.lt_of_le_of_lt (by rw [hP.len]; omega : xs.length ≤ 1000002) (by decide), ?_⟩
          refine ⟨⟨_, rfl⟩, Fx.mut fm0 (ex.trans (Ex0.new nt)) trivial hl, _, fs ++ [(left, 1)], upd_same, ?_, ht _ (.stop1 g' (by omega))⟩
          refine (Prs.mono hP fun t' zs ht' => ?_).snoc ?_
          · rw [upd_ne (ne_of ht' hA (by intro z; cases z)), upd_ne (ne_of_none ht' nt)]
            exact ht'
          · rw [upd_ne ntl.symm]
            exact upd_same
        · exact ⟨⟨_, rfl⟩, ex, xs, fs, hA, hP, by have := ht [] (.stop0 g' (by omega)); rw [List.append_nil] at this; exact this⟩
      · rintro σ' H'' ⟨⟨y4, rfl⟩, ex2, xs2, fs2, hA2, hP2, ht2⟩
        refine ⟨_, rfl, l, xs2, rfl, .inl ⟨SqL.of hA2, fun p np => ?_⟩⟩
        refine q p _ (ex2.trans (Ex0.new np)) ⟨xs2, upd_same, ?_⟩
        rw [← ht2.fac]
        refine hP2.mono fun t zs ht' => ?_
        rw [upd_ne (ne_of_none ht' np)]
        exact ht'
theorem ok_whole_root (T : Txt K mg) : Def P w K mg base 5 "whole_root" ["number", "exponent"] (sp_whole_root K) := by
  obtain ⟨f_, fd_, g_, F_⟩ := T.d_whole_root
  obtain ⟨f_check_between, fd_check_between, g_check_between, k_check_between, b_check_between, G_check_between⟩ := (ok_check_between (P := P) (w := w) (base := base) T)
  obtain ⟨f_is_short_integer, fd_is_short_integer, g_is_short_integer, k_is_short_integer, b_is_short_integer, G_is_short_integer⟩ := (ok_is_short_integer (P := P) (w := w) (base := base) T)
  obtain ⟨f_raised, fd_raised, g_raised, k_raised, b_raised, G_raised⟩ := (ok_raised (P := P) (w := w) (base := base) T)
  refine ⟨f_, fd_, g_, F_.kp, F_.binds (ps := ["number", "exponent"]) (fun _ _ _ _ _ _ us hl => match us, hl with | [_, _], _ => rfl), ?_⟩
  refine F_.ok sc_whole_root (fun vs H Q E h => ?_) (fun cdv A outer s H vs Q E hr h => ?_)
  · first | (obtain ⟨rfl, _⟩ := h; rfl) | (obtain ⟨_, rfl, _⟩ := h; rfl) | (obtain ⟨_, _, rfl, _⟩ := h; rfl) | (obtain ⟨_, _, _, rfl, _⟩ := h; rfl) | (obtain ⟨_, _, _, _, rfl, _⟩ := h; rfl) | (obtain ⟨_, _, _, _, _, rfl, _⟩ := h; rfl) | (obtain ⟨_, _, _, _, _, _, rfl, _⟩ := h; rfl) | (obtain ⟨_, _, _, _, _, _, _, rfl, _⟩ := h; rfl) | (obtain ⟨_, _, _, _, _, _, _, _, rfl, _⟩ := h; rfl) | (obtain ⟨_, _, _, _, _, _, _, _, _, rfl, _⟩ := h; rfl) | (obtain ⟨_, _, _, _, _, _, _, _, _, _, rfl, _⟩ := h; rfl) | (obtain ⟨_, _, _, _, _, _, _, _, _, _, _, rfl, _⟩ := h; rfl) | (obtain ⟨_, _, _, _, _, _, _, _, _, _, _, _, rfl, _⟩ := h; rfl) | (obtain ⟨_, _, _, _, _, _, _, _, _, _, _, _, _, rfl, _⟩ := h; rfl)
  · obtain ⟨n, e, rfl, hn, e1, e2, q⟩ := h
    refine ⟨_, (pss_cons (ps_if (PW.pt (pw_or (pt_not (pt_val (pe_call G_is_short_integer (hr.mono (by decide)) (by rfl) g_is_short_integer k_is_short_integer b_is_short_integer .nil pass0 (pa_cons (pv 0) pa_nil)))) (pw_or1 (pt_cmpR op_lt (pv 0) pe_int (nomark _)))))
      pss_never
      pss_nil)
    (pss_cons (ps_expr (pe_call G_check_between (hr.mono (by decide)) (by rfl) g_check_between k_check_between b_check_between .nil pass0 (pa_cons (pv 1) (pa_cons pe_int (pa_cons pe_int pa_nil)))))
    (pss_cons (ps_set (i := 2) sc_whole_root.nd rfl (.inl rfl) pe_int)
    (pss_cons (ps_set (i := 3) sc_whole_root.nd rfl (.inl rfl) (pe_op op_oneShl pe_int (pe_op op_add (pe_op op_fdivW (pe_bits (pv 0)) (pv 1)) pe_int)))
    (pss_cons (ps_while PassesOwn.never (pt_cmpR op_gt (pe_op op_sub (pv 3) (pv 2)) pe_int (nomark _))
      (pss_cons (ps_set (i := 4) sc_whole_root.nd rfl (.inl rfl) (pe_op op_fdivW (pe_op op_add (pv 2) (pv 3)) pe_int))
    (pss_one (ps_if (pt_cmpR op_le (pe_call G_raised (hr.mono (by decide)) (by rfl) g_raised k_raised b_raised .nil pass0 (pa_cons (pv 4) (pa_cons (pv 1) pa_nil))) (pv 0) (nomark _))
      (pss_one (ps_set (i := 2) sc_whole_root.nd rfl (.inl rfl) (pv 4)))
      (pss_one (ps_set (i := 3) sc_whole_root.nd rfl (.inl rfl) (pv 4)))))))
    (pss_one (ps_ret (pv 2)))))))), ?_⟩
    refine ⟨_, rfl, _, rfl, ⟨by omega, by omega⟩, _, rfl, ?_⟩
    refine iteF ⟨_, rfl, _, _, rfl, rfl, _, rfl, dF (by omega) ?_⟩
    refine ⟨_, rfl, _, _, _, rfl, ⟨by omega, by omega⟩, by omega, by omega, ?_⟩
    have bits : n < 2 ^ (Builtin.Int.intBits (n : Int)) := (intBits_le_iff (x := (n : Int))).mp (Nat.le_refl _)
    have bl : Builtin.Int.intBits (n : Int) ≤ 200 := (intBits_le_iff (x := (n : Int))).mpr (by show n < 2 ^ 200; omega)
    have kb : Builtin.Int.intBits (n : Int) / e + 1 ≤ 201 := by
      have := Nat.div_le_self (Builtin.Int.intBits (n : Int)) e
      omega
    refine ⟨_, rfl, (n : Int), rfl, _, rfl, _, _, rfl, rfl, dw (by omega) (by omega), _, _, rfl, rfl, Builtin.Int.intBits (n : Int) / e + 1, rfl, ?_, by omega, ?_⟩
    · show V.int (((Builtin.Int.intBits (n : Int) : Nat) : Int) / (e : Int) + 1) = V.int ((Builtin.Int.intBits (n : Int) / e + 1 : Nat) : Int)
      rw [Int.natCast_add, Int.natCast_ediv]
      rfl
    have hi : n < (2 ^ (Builtin.Int.intBits (n : Int) / e + 1)) ^ e := by
      rw [← Nat.pow_mul]
      refine Nat.lt_of_lt_of_le bits (Nat.pow_le_pow_right (by decide) ?_)
      have := Nat.div_add_mod (Builtin.Int.intBits (n : Int)) e
      have m := Nat.mod_lt (Builtin.Int.intBits (n : Int)) (show e > 0 by omega)
      rw [Nat.add_mul, Nat.mul_comm, Nat.one_mul]
      omega
    have hu : 2 ^ (Builtin.Int.intBits (n : Int) / e + 1) ≤ 2 ^ 201 := Nat.pow_le_pow_right (by decide) kb
    have h0 : 0 < 2 ^ (Builtin.Int.intBits (n : Int) / e + 1) := Nat.two_pow_pos _
    have hc : ((2 : Int) ^ (Builtin.Int.intBits (n : Int) / e + 1)) = ((2 ^ (Builtin.Int.intBits (n : Int) / e + 1) : Nat) : Int) := by
      rw [Int.natCast_pow]
      rfl
    refine ⟨fun m σ H' => ∃ (low high : Nat) (y4 : Option V), σ = [some (.int (n : Int)), some (.int (e : Int)), some (.int (low : Int)), some (.int (high : Int)), y4] ∧ H = H' ∧ low ^ e ≤ n ∧ n < high ^ e ∧ low < high ∧ high ≤ 2 ^ 201 ∧ m = high - low, ⟨_, 0, 2 ^ (Builtin.Int.intBits (n : Int) / e + 1), none, ?_, rfl, ?_, hi, h0, hu, rfl⟩, ?_⟩
    · rw [← hc]
      rfl
    · rw [Nat.zero_pow (by omega)]
      exact Nat.zero_le _
    rintro m σ H' ⟨low, high, y4, rfl, rfl, a1, a2, a3, a4, rfl⟩
    refine ⟨_, rfl, _, rfl, _, _, rfl, rfl, _, _, rfl, rfl, _, rfl, iteD (fun g => ?_) (fun g => ?_)⟩
    · have em : ((low : Int) + (high : Int)) / 2 = (((low + high) / 2 : Nat) : Int) := by omega
      have ep : (((low : Int) + (high : Int)) / 2) ^ e = ((((low + high) / 2) ^ e : Nat) : Int) := by rw [em, Int.natCast_pow]
      refine ⟨fun σ H' => ∃ (low' high' : Nat) (y4 : Option V), σ = [some (.int (n : Int)), some (.int (e : Int)), some (.int (low' : Int)), some (.int (high' : Int)), y4] ∧ H = H' ∧ low' ^ e ≤ n ∧ n < high' ^ e ∧ low' < high' ∧ high' ≤ 2 ^ 201 ∧ high' - low' < high - low, ?_, ?_⟩
      · rintro σ' H' ⟨b1, b2, b3, b4, b5, b6, b7, b8, b9, b10⟩
        exact ⟨_, b10, b1, b2, b3, b4, b5, b6, b7, b8, b9, rfl⟩
      refine ⟨_, rfl, _, rfl, _, _, rfl, rfl, _, _, rfl, rfl, dw (by decide) (by decide), ?_⟩
      refine ⟨_, rfl, _, rfl, ((low : Int) + (high : Int)) / 2, e, rfl, ⟨250, by decide, by omega, Nat.le_refl _, by omega⟩, _, rfl, _, _, rfl, rfl, _, rfl, iteD (fun g2 => ?_) (fun g2 => ?_)⟩
      · rw [ep] at g2
        refine ⟨_, rfl, (low + high) / 2, high, some (.int (((low : Int) + (high : Int)) / 2)), ?_, rfl, Int.ofNat_le.mp g2, a2, by omega, a4, by omega⟩
        rw [← em]
        rfl
      · rw [ep] at g2
        refine ⟨_, rfl, low, (low + high) / 2, some (.int (((low : Int) + (high : Int)) / 2)), ?_, rfl, a1, by omega, by omega, by omega, by omega⟩
        rw [← em]
        rfl
    · have : high = low + 1 := by omega
      subst this
      exact ⟨_, rfl, q low a1 a2⟩
theorem ok_is_square_free (T : Txt K mg) : Def P w K mg base 6 "is_square_free" ["number"] (sp_is_square_free K) := by
  obtain ⟨f_, fd_, g_, F_⟩ := T.d_is_square_free
  obtain ⟨f_factored, fd_factored, g_factored, k_factored, b_factored, G_factored⟩ := (ok_factored (P := P) (w := w) (base := base) T)
  refine ⟨f_, fd_, g_, F_.kp, F_.binds (ps := ["number"]) (fun _ _ _ _ _ _ us hl => match us, hl with | [_], _ => rfl), ?_⟩
  refine F_.ok sc_is_square_free (fun vs H Q E h => ?_) (fun cdv A outer s H vs Q E hr h => ?_)
  · first | (obtain ⟨rfl, _⟩ := h; rfl) | (obtain ⟨_, rfl, _⟩ := h; rfl) | (obtain ⟨_, _, rfl, _⟩ := h; rfl) | (obtain ⟨_, _, _, rfl, _⟩ := h; rfl) | (obtain ⟨_, _, _, _, rfl, _⟩ := h; rfl) | (obtain ⟨_, _, _, _, _, rfl, _⟩ := h; rfl) | (obtain ⟨_, _, _, _, _, _, rfl, _⟩ := h; rfl) | (obtain ⟨_, _, _, _, _, _, _, rfl, _⟩ := h; rfl) | (obtain ⟨_, _, _, _, _, _, _, _, rfl, _⟩ := h; rfl) | (obtain ⟨_, _, _, _, _, _, _, _, _, rfl, _⟩ := h; rfl) | (obtain ⟨_, _, _, _, _, _, _, _, _, _, rfl, _⟩ := h; rfl) | (obtain ⟨_, _, _, _, _, _, _, _, _, _, _, rfl, _⟩ := h; rfl) | (obtain ⟨_, _, _, _, _, _, _, _, _, _, _, _, rfl, _⟩ := h; rfl) | (obtain ⟨_, _, _, _, _, _, _, _, _, _, _, _, _, rfl, _⟩ := h; rfl)
  · obtain ⟨i, rfl, i1, i2, q⟩ := h
    refine ⟨_, (pss_one (ps_ret (pe_callB (cr_all rfl) (by rfl) T.b_all (by decide +kernel) (pa_cons (pe_lc (own := [("_", 1), ("times", 2)]) (g := (gTup K 2 (gCons (gName 1) (gCons (gName 2) gNil)))) rfl sc_is_square_free.nd (pi_tup (pe_call G_factored (hr.mono (by decide)) (by rfl) g_factored k_factored b_factored .nil pass0 (pa_cons (pe_callB call_abs (by rfl) T.b_abs (by decide +kernel) (pa_cons (pv 0) pa_nil)) pa_nil))) (blkOk_by (N := N_is_square_free) (sc := defScope s_is_square_free) (by decide +kernel)) (fun _ _ _ _ _ => (pg_tup (by rfl) (pgs_cons (pg_name (i := 1) sc_is_square_free.nd rfl (.inl rfl)) (pgs_cons (pg_name (i := 2) sc_is_square_free.nd rfl (.inl rfl)) pgs_nil)))) (fun _ _ _ _ _ => pts_nil) (fun _ _ _ _ _ => (pe_cmpR op_eq (pv 2) pe_int (nomark _)))) pa_nil)))), ?_⟩
    refine ⟨_, rfl, i, rfl, i.natAbs, ?_, i1, i2, fun p H1 e1 ⟨xs, hp, hP⟩ => ?_⟩
    · have : (if i < 0 then -i else i) = (i.natAbs : Int) := by
        by_cases h : i < 0
        · rw [if_pos h]; omega
        · rw [if_neg h]; omega
      rw [this]
      rfl
    refine ⟨p, rfl, ⟨_, SqT.of hp⟩, ?_⟩
    refine lcT fm0 trivial (SqT.of hp) (fun z => z) (fun i' acc _ => acc = (((fac i.natAbs).take i').map fun q => V.bl (q.2 == 1))) (fun _ _ => rfl) (fun D j x acc H' hD hx e hA hlen hacc => ?_) (fun D H' acc hD e hA hacc => ?_)
    · obtain ⟨t, pp, k, rfl, hf, ht⟩ := hP.get hx
      refine ⟨t, _, rfl, SqT.of (Ex0.ap e ht), rfl, _, _, rfl, ?_⟩
      refine ⟨_, _, rfl, ⟨rfl, ?_⟩⟩
      refine ⟨rfl, ?_⟩
      refine ⟨_, rfl, rfl, ?_⟩
      have hj := (List.getElem?_eq_some_iff.mp hx).1
      refine cs_yes fm0 trivial hD e hA hlen ?_ (Fx.refl trivial) ?_
      · have := fac_len i1 (Nat.lt_of_le_of_lt i2 (by decide))
        have := hP.len
        omega
      · rw [hacc, List.take_add_one, hf, List.map_append]
        show _ ++ [V.bl (decide (V.int (k : Int) = V.int 1))] = _ ++ [V.bl (k == 1)]
        rw [deI]
        have : decide ((k : Int) = 1) = (k == 1) := by
          apply Bool.eq_iff_iff.mpr
          rw [decide_eq_true_iff, beq_iff_eq]
          omega
        rw [this]
    · rw [hP.len, List.take_length] at hacc
      subst hacc
      refine ⟨D, (fac i.natAbs).map fun q => q.2 == 1, rfl, ?_, ?_⟩
      · rw [List.map_map]
        exact SqL.of hA
      · rw [List.all_map]
        exact q H' (e1.trans e)
theorem ok_is_fundamental (T : Txt K mg) : Def P w K mg base 7 "is_fundamental" ["number"] (sp_is_fundamental K) := by
  obtain ⟨f_, fd_, g_, F_⟩ := T.d_is_fundamental
  obtain ⟨f_check_between, fd_check_between, g_check_between, k_check_between, b_check_between, G_check_between⟩ := (ok_check_between (P := P) (w := w) (base := base) T)
  obtain ⟨f_is_square_free, fd_is_square_free, g_is_square_free, k_is_square_free, b_is_square_free, G_is_square_free⟩ := (ok_is_square_free (P := P) (w := w) (base := base) T)
  refine ⟨f_, fd_, g_, F_.kp, F_.binds (ps := ["number"]) (fun _ _ _ _ _ _ us hl => match us, hl with | [_], _ => rfl), ?_⟩
  refine F_.ok sc_is_fundamental (fun vs H Q E h => ?_) (fun cdv A outer s H vs Q E hr h => ?_)
  · first | (obtain ⟨rfl, _⟩ := h; rfl) | (obtain ⟨_, rfl, _⟩ := h; rfl) | (obtain ⟨_, _, rfl, _⟩ := h; rfl) | (obtain ⟨_, _, _, rfl, _⟩ := h; rfl) | (obtain ⟨_, _, _, _, rfl, _⟩ := h; rfl) | (obtain ⟨_, _, _, _, _, rfl, _⟩ := h; rfl) | (obtain ⟨_, _, _, _, _, _, rfl, _⟩ := h; rfl) | (obtain ⟨_, _, _, _, _, _, _, rfl, _⟩ := h; rfl) | (obtain ⟨_, _, _, _, _, _, _, _, rfl, _⟩ := h; rfl) | (obtain ⟨_, _, _, _, _, _, _, _, _, rfl, _⟩ := h; rfl) | (obtain ⟨_, _, _, _, _, _, _, _, _, _, rfl, _⟩ := h; rfl) | (obtain ⟨_, _, _, _, _, _, _, _, _, _, _, rfl, _⟩ := h; rfl) | (obtain ⟨_, _, _, _, _, _, _, _, _, _, _, _, rfl, _⟩ := h; rfl) | (obtain ⟨_, _, _, _, _, _, _, _, _, _, _, _, _, rfl, _⟩ := h; rfl)
  · obtain ⟨i, rfl, i1, q⟩ := h
    obtain ⟨t_MAX_FUNDAMENTAL, h_MAX_FUNDAMENTAL⟩ := T.x_MAX_FUNDAMENTAL
    refine ⟨_, (pss_cons (ps_expr (pe_call G_check_between (hr.mono (by decide)) (by rfl) g_check_between k_check_between b_check_between .nil pass0 (pa_cons (pv 0) (pa_cons (pe_un un_neg (pe_glob (v := .int 1000000000) (by rfl) h_MAX_FUNDAMENTAL ⟨_, rfl⟩)) (pa_cons (pe_glob (v := .int 1000000000) (by rfl) h_MAX_FUNDAMENTAL ⟨_, rfl⟩) pa_nil)))))
    (pss_cons (ps_if (pt_cmpR op_eq (pe_op op_mod (pv 0) pe_int) pe_int (nomark _))
      (pss_one (ps_ret (pe_call G_is_square_free (hr.mono (by decide)) (by rfl) g_is_square_free k_is_square_free b_is_square_free .nil pass0 (pa_cons (pv 0) pa_nil))))
      pss_nil)
    (pss_cons (ps_if (pt_cmpR op_ne (pe_op op_mod (pv 0) pe_int) pe_int (nomark _))
      (pss_one (ps_ret pe_bl))
      pss_nil)
    (pss_cons (ps_set (i := 1) sc_is_fundamental.nd rfl (.inl rfl) (pe_op op_fdivW (pv 0) pe_int))
    (pss_one (ps_ret (pe_and (pe_cmpR op_in_seq (pe_op op_mod (pv 1) pe_int) (pe_tup (pa_cons pe_int (pa_cons pe_int pa_nil))) (by with_unfolding_all rfl)) (pe_one (pe_call G_is_square_free (hr.mono (by decide)) (by rfl) g_is_square_free k_is_square_free b_is_square_free .nil pass0 (pa_cons (pv 1) pa_nil)))))))))), ?_⟩
    refine ⟨_, rfl, _, rfl, i, -1000000000, 1000000000, rfl, ⟨by omega, by omega⟩, by omega, by omega, ?_⟩
    unfold fund at q
    refine ⟨_, rfl, i, 4, rfl, rfl, (show (0 : Int) < 4 by decide), rfl, _, rfl, iteE (fun g => ?_) (fun g => ?_)⟩
    · rw [if_pos g] at q
      exact ⟨_, rfl, i, rfl, by omega, by omega, q⟩
    refine ⟨_, rfl, i, 4, rfl, rfl, (show (0 : Int) < 4 by decide), rfl, _, rfl, iteEn (fun g2 => ?_) (fun g2 => ?_)⟩
    · rw [if_neg g, if_pos g2] at q
      exact q H (Ex0.refl H)
    rw [if_neg g, if_neg (fun z => z g2)] at q
    refine ⟨_, rfl, _, _, rfl, rfl, dw (by decide) (by decide), ?_⟩
    refine ⟨_, rfl, i / 4, 4, rfl, rfl, (show (0 : Int) < 4 by decide), sl2, fun p np => ?_⟩
    refine ⟨p, _, rfl, .inr (SqT.of upd_same), rfl, rfl, _, rfl, ?_⟩
    have e : inV (.int (i / 4 % 4)) [.int 2, .int 3] = (decide (i / 4 % 4 = 2) || decide (i / 4 % 4 = 3)) := by
      show (((2 : Int) == i / 4 % 4) || (((3 : Int) == i / 4 % 4) || false)) = _
      rw [Bool.or_false]
      apply Bool.eq_iff_iff.mpr
      simp only [Bool.or_eq_true, beq_iff_eq, decide_eq_true_iff]
      omega
    show if inV (.int (i / 4 % 4)) [.int 2, .int 3] = true then _ else _
    rw [e]
    refine iteB (fun g3 => ?_) (fun g3 => ?_)
    · rw [g3, Bool.true_and] at q
      have g4 : i / 4 % 4 = 2 ∨ i / 4 % 4 = 3 := by
        rw [Bool.or_eq_true, decide_eq_true_iff, decide_eq_true_iff] at g3
        exact g3
      exact ⟨_, rfl, i / 4, rfl, by omega, by omega, fun H' e' => q H' ((Ex0.new np).trans e')⟩
    · rw [g3, Bool.false_and] at q
      exact q _ (Ex0.new np)
end
end K01
namespace K01
open PySem PySem.Spec PyProof.Rows L2 Fr
def sp_l_trial_factors (_ : PySem.W.Frag) : Sp := fun vs H Q _ => ∃ n : Nat, vs = [.int (n : Int)] ∧ 1 ≤ n ∧ n ≤ 1000000000000 ∧ ∀ p H' xs, Ex0 H H' → H' p = some (.lst xs) → Prs H' xs (fac n) → Q (.ref p) H'
def sp_l_raised (_ : PySem.W.Frag) : Sp := fun vs H Q _ => ∃ (b : Int) (e : Nat), vs = [.int b, .int (e : Int)] ∧ e ≤ 10 ∧ b.natAbs < 2 ^ 250 ∧ Q (.int (b ^ e)) H
def sp_l_is_basic (_ : PySem.W.Frag) : Sp := fun vs H Q _ => ∃ i : Int, vs = [.int i] ∧ i.natAbs ≤ 1000000000 ∧ ∀ H', Ex0 H H' → Q (.bl (fund i)) H'
def spR : Sp := fun vs H Q _ => ∃ c : Addr, vs = [.ref c] ∧ Vat c H ∧ ∀ H', Fv c H H' → Q (.bl true) H'
def sp_l_divisors_right (_ : PySem.W.Frag) : Sp := spR
def sp_l_factors_right (_ : PySem.W.Frag) : Sp := spR
def sp_l_roots_right (_ : PySem.W.Frag) : Sp := spR
def sp_l_basic_right (_ : PySem.W.Frag) : Sp := spR
theorem vat_new {c l : Addr} {H : Hp} {o : HO} (hc : Vat c H) (hl : H l = none) : Vat c (upd H l o) := (fmV c).stay ((fmV c).fresh hc hl) hc
theorem fv_new {c l : Addr} {H : Hp} {o : HO} (hc : Vat c H) (hl : H l = none) : Fv c H (upd H l o) := Fx.new (fmV c) hc hl
theorem fv_ne {c l : Addr} {H : Hp} (hc : Vat c H) (hl : H l = none) : l ≠ c := (fmV c).fresh hc hl
theorem fv_ex {c : Addr} {H H' : Hp} (hc : Vat c H) (e : Ex0 H H') : Fv c H H' := by
  obtain ⟨x, y, z, h⟩ := hc
  exact ⟨⟨x, y, z, e.2 _ _ (fun q => q) h⟩, fun b o _ q => e.2 b o (fun z => z) q⟩
theorem gcdL_lt {B : Nat} (hB : 0 < B) {ns : List Int} (h : ∀ n ∈ ns, n.natAbs < B) : gcdL ns < B := by
  unfold gcdL
  have : ∀ (ns : List Int) (g : Nat), g < B → (∀ n ∈ ns, n.natAbs < B) → ns.foldl (fun g n => Nat.gcd g n.natAbs) g < B := by
    intro ns
    induction ns with
    | nil => intro g hg _; exact hg
    | cons n r ih =>
      intro g hg h
      refine ih _ ?_ fun m hm => h m (List.mem_cons_of_mem _ hm)
      show Nat.gcd g n.natAbs < B
      rcases Nat.eq_zero_or_pos n.natAbs with z | z
      · rw [z, Nat.gcd_zero_right]; exact hg
      · exact Nat.lt_of_le_of_lt (Nat.gcd_le_right _ z) (h n List.mem_cons_self)
  exact this ns 0 hB h
theorem fund_zero : fund 0 = false := by decide +kernel
section
variable {P : Program} {w : World} {K : PySem.W.Frag} {mg : Str → Option Value} {base : Heap}
theorem ok_l_raised (T : Txt K mg) : Def P w K mg base 1 "_law_raised" ["_law_number", "_law_exponent"] (sp_l_raised K) := by
  obtain ⟨f_, fd_, g_, F_⟩ := T.d_l_raised
  refine ⟨f_, fd_, g_, F_.kp, F_.binds (ps := ["_law_number", "_law_exponent"]) (fun _ _ _ _ _ _ us hl => match us, hl with | [_, _], _ => rfl), ?_⟩
  refine F_.ok sc_l_raised (fun vs H Q E h => ?_) (fun cdv A outer s H vs Q E hr h => ?_)
  · first | (obtain ⟨rfl, _⟩ := h; rfl) | (obtain ⟨_, rfl, _⟩ := h; rfl) | (obtain ⟨_, _, rfl, _⟩ := h; rfl) | (obtain ⟨_, _, _, rfl, _⟩ := h; rfl) | (obtain ⟨_, _, _, _, rfl, _⟩ := h; rfl) | (obtain ⟨_, _, _, _, _, rfl, _⟩ := h; rfl) | (obtain ⟨_, _, _, _, _, _, rfl, _⟩ := h; rfl) | (obtain ⟨_, _, _, _, _, _, _, rfl, _⟩ := h; rfl) | (obtain ⟨_, _, _, _, _, _, _, _, rfl, _⟩ := h; rfl) | (obtain ⟨_, _, _, _, _, _, _, _, _, rfl, _⟩ := h; rfl) | (obtain ⟨_, _, _, _, _, _, _, _, _, _, rfl, _⟩ := h; rfl) | (obtain ⟨_, _, _, _, _, _, _, _, _, _, _, rfl, _⟩ := h; rfl) | (obtain ⟨_, _, _, _, _, _, _, _, _, _, _, _, rfl, _⟩ := h; rfl) | (obtain ⟨_, _, _, _, _, _, _, _, _, _, _, _, _, rfl, _⟩ := h; rfl)
  · obtain ⟨b, e, rfl, he, hb, q⟩ := h
    refine ⟨_, (pss_cons (ps_set (i := 2) sc_l_raised.nd rfl (.inl rfl) pe_int)
    (pss_cons (ps_for PassesOwn.never rfl (pi_range1 (by rfl) T.b_range (pa_cons (pv 1) pa_nil)) (pg_name (i := 3) sc_l_raised.nd rfl (.inl rfl))
      (pss_one (ps_set (i := 2) sc_l_raised.nd rfl (.inl rfl) (pe_op op_mulW (pv 2) (pv 0)))))
    (pss_one (ps_ret (pv 2))))), ?_⟩
    have pw : ∀ i : Nat, (b ^ i).natAbs < 2 ^ (250 * i + 1) := fun i => by
      induction i with
      | zero => rw [Int.pow_zero]; decide
      | succ i ih =>
        rw [Int.pow_succ, show 250 * (i + 1) + 1 = (250 * i + 1) + 250 by omega]
        exact wide_lt ih hb
    refine ⟨_, rfl, _, rfl, by omega, by omega, for_range (lo := 0) (n := ((e : Int)).toNat) (fun i σ H' => ∃ y3, σ = [some (.int b), some (.int (e : Int)), some (.int (b ^ i)), y3] ∧ H = H') ⟨none, by rw [Int.pow_zero]; rfl, rfl⟩ ?_ ?_⟩
    · rintro i σ H' hi ⟨y3, rfl, rfl⟩
      refine ⟨_, rfl, _, rfl, _, _, rfl, rfl, wide_mul (a := 250 * i + 1) (b := 250) (pw i) hb (by omega) (by decide) (by omega), ?_⟩
      refine ⟨some (.int (0 + (i : Int))), ?_, rfl⟩
      rw [Int.pow_succ]
      rfl
    · rintro σ H' ⟨y3, rfl, rfl⟩
      exact ⟨_, rfl, q⟩
theorem ok_l_trial_factors (T : Txt K mg) : Def P w K mg base 1 "_law_trial_factors" ["_law_number"] (sp_l_trial_factors K) := by
  obtain ⟨f_, fd_, g_, F_⟩ := T.d_l_trial_factors
  refine ⟨f_, fd_, g_, F_.kp, F_.binds (ps := ["_law_number"]) (fun _ _ _ _ _ _ us hl => match us, hl with | [_], _ => rfl), ?_⟩
  refine F_.ok sc_l_trial_factors (fun vs H Q E h => ?_) (fun cdv A outer s H vs Q E hr h => ?_)
  · first | (obtain ⟨rfl, _⟩ := h; rfl) | (obtain ⟨_, rfl, _⟩ := h; rfl) | (obtain ⟨_, _, rfl, _⟩ := h; rfl) | (obtain ⟨_, _, _, rfl, _⟩ := h; rfl) | (obtain ⟨_, _, _, _, rfl, _⟩ := h; rfl) | (obtain ⟨_, _, _, _, _, rfl, _⟩ := h; rfl) | (obtain ⟨_, _, _, _, _, _, rfl, _⟩ := h; rfl) | (obtain ⟨_, _, _, _, _, _, _, rfl, _⟩ := h; rfl) | (obtain ⟨_, _, _, _, _, _, _, _, rfl, _⟩ := h; rfl) | (obtain ⟨_, _, _, _, _, _, _, _, _, rfl, _⟩ := h; rfl) | (obtain ⟨_, _, _, _, _, _, _, _, _, _, rfl, _⟩ := h; rfl) | (obtain ⟨_, _, _, _, _, _, _, _, _, _, _, rfl, _⟩ := h; rfl) | (obtain ⟨_, _, _, _, _, _, _, _, _, _, _, _, rfl, _⟩ := h; rfl) | (obtain ⟨_, _, _, _, _, _, _, _, _, _, _, _, _, rfl, _⟩ := h; rfl)
  · obtain ⟨n, rfl, h1, h2, q⟩ := h
    refine ⟨_, (pss_cons (ps_par3 (i := 1) (j := 2) (l := 3) (by rfl) sc_l_trial_factors.nd rfl rfl rfl (by decide) (by decide) (by decide) rfl rfl rfl (pa_cons (pe_lst pa_nil) (pa_cons (pv 0) (pa_cons pe_int pa_nil))) (by rfl))
    (pss_cons (ps_while PassesOwn.never (pt_cmpR op_le (pe_op op_mul (pv 3) (pv 3)) (pv 2) (nomark _))
      (pss_cons (ps_set (i := 4) sc_l_trial_factors.nd rfl (.inl rfl) pe_int)
    (pss_cons (ps_while PassesOwn.never (pt_cmpR op_eq (pe_op op_mod (pv 2) (pv 3)) pe_int (nomark _))
      (pss_one (ps_par (i := 2) (j := 4) (by rfl) sc_l_trial_factors.nd rfl rfl (by decide) rfl rfl (pa_cons (pe_op op_fdivW (pv 2) (pv 3)) (pa_cons (pe_op op_add (pv 4) pe_int) pa_nil)) (by rfl))))
    (pss_cons (ps_if (pt_cmpR op_gt (pv 4) pe_int (nomark _))
      (pss_one (ps_expr (pe_bm PySem.F.plainAttrs_list PySem.F.slot_list_append PySem.F.type_list_append mt_append (pv 1) (pa_cons (pe_tup (pa_cons (pv 3) (pa_cons (pv 4) pa_nil))) pa_nil))))
      pss_nil)
    (pss_one (ps_set (i := 3) sc_l_trial_factors.nd rfl (.inl rfl) (pe_op op_add (pv 3) pe_int)))))))
    (pss_one (ps_ret (pe_ifExp (pt_cmpR op_gt (pv 2) pe_int (nomark _)) (pe_op op_cat (pv 1) (pe_lst (pa_cons (pe_tup (pa_cons (pv 2) (pa_cons pe_int pa_nil))) pa_nil))) (pv 1)))))), ?_⟩
    refine ⟨Nat.zero_le _, fun l hl => ?_⟩
    have e0 : Ex0 H (upd H l (.lst [])) := Ex0.new hl
    refine ⟨_, rfl, _, _, _, rfl, ?_⟩
    refine ⟨fun m σ H' => ∃ (left d : Nat) (y4 : Option V), σ = [some (.int (n : Int)), some (.ref l), some (.int (left : Int)), some (.int (d : Int)), y4] ∧ Ex0 H H' ∧ (∃ xs fs, H' l = some (.lst xs) ∧ Prs H' xs fs ∧ 1 ≤ left ∧ left ≤ n ∧ 2 ≤ d ∧ d ≤ 1000002 ∧ fs.length ≤ d ∧ ∀ r, TF left d r → TF n 2 (fs ++ r)) ∧ m = 2000000 - d, ?_, ?_⟩
    · exact ⟨_, n, 2, none, rfl, e0, ⟨[], [], upd_same, .nil, h1, Nat.le_refl _, by decide, by decide, by decide, fun r t => t⟩, rfl⟩
    rintro m σ H' ⟨left, d, y4, rfl, ex, ⟨xs, fs, hA, hP, l1, l2, d2, d3, hz, ht⟩, rfl⟩
    refine ⟨_, rfl, _, rfl, _, _, rfl, rfl, .inl ⟨by omega, by omega⟩, _, rfl, _, _, rfl, rfl, _, rfl, iteD (fun g => ?_) (fun g => ?_)⟩
    · have g' : d * d ≤ left := by
        have : ((d * d : Nat) : Int) ≤ (left : Int) := by rw [Int.natCast_mul]; exact g
        exact Int.ofNat_le.mp this
      have d4 : d ≤ 1000000 := by
        rcases Nat.lt_or_ge 1000000 d with h | h
        · have := Nat.mul_le_mul h h
          omega
        · exact h
      refine ⟨fun σ' H'' => ∃ (left' : Nat) (y4 : Option V), σ' = [some (.int (n : Int)), some (.ref l), some (.int (left' : Int)), some (.int ((d + 1 : Nat) : Int)), y4] ∧ Ex0 H H'' ∧ (∃ xs fs, H'' l = some (.lst xs) ∧ Prs H'' xs fs ∧ 1 ≤ left' ∧ left' ≤ n ∧ fs.length ≤ d + 1 ∧ ∀ r, TF left' (d + 1) r → TF n 2 (fs ++ r)), ?_, ?_⟩
      · rintro σ' H'' ⟨left', y4, e1, e2, xs, fs, f1, f2, f3, f4, f5, f6⟩
        exact ⟨2000000 - (d + 1), by omega, left', d + 1, y4, e1, e2, ⟨xs, fs, f1, f2, f3, f4, by omega, by omega, f5, f6⟩, rfl⟩
      refine ⟨fun m σ' H'' => ∃ (left' k : Nat), σ' = [some (.int (n : Int)), some (.ref l), some (.int (left' : Int)), some (.int (d : Int)), some (.int (k : Int))] ∧ H' = H'' ∧ 1 ≤ left' ∧ left = left' * d ^ k ∧ m = left', ⟨_, left, 0, rfl, rfl, l1, by simp, rfl⟩, ?_⟩
      rintro m σ' H'' ⟨left', k, rfl, rfl, p1, p2, rfl⟩
      refine ⟨_, rfl, _, rfl, (m : Int), (d : Int), rfl, rfl, (show (0 : Int) < d by omega), rfl, _, rfl, ?_⟩
      have em : decide (V.int ((m : Int) % (d : Int)) = V.int 0) = decide (m % d = 0) := by
        rw [dec_int, ← Int.natCast_emod]
        apply Bool.eq_iff_iff.mpr
        rw [decide_eq_true_iff, beq_iff_eq]
        omega
      show if decide (V.int ((m : Int) % (d : Int)) = V.int 0) = true then _ else _
      rw [em]
      refine iteD (fun z => ?_) (fun z => ?_)
      · have dm : d ≤ m := Nat.le_of_dvd p1 (Nat.dvd_of_mod_eq_zero z)
        refine ⟨fun σ' H'' => ∃ (left' k : Nat), σ' = [some (.int (n : Int)), some (.ref l), some (.int (left' : Int)), some (.int (d : Int)), some (.int (k : Int))] ∧ H' = H'' ∧ 1 ≤ left' ∧ left = left' * d ^ k ∧ left' < m, fun σ' H'' ⟨a, b, c1, c2, c3, c4, c5⟩ => ⟨a, c5, a, b, c1, c2, c3, c4, rfl⟩, ?_⟩
        refine ⟨_, rfl, _, rfl, (m : Int), (d : Int), rfl, rfl, dw (by omega) (by omega), _, rfl, (k : Int), 1, rfl, rfl, _, _, rfl, ?_⟩
        refine ⟨m / d, k + 1, rfl, rfl, Nat.div_pos dm (by omega), ?_, Nat.div_lt_self p1 (by omega)⟩
        rw [Nat.pow_succ, Nat.mul_comm (d ^ k) d, ← Nat.mul_assoc, Nat.div_mul_cancel (Nat.dvd_of_mod_eq_zero z)]
        exact p2
      · have m2 : m ≤ left := by
          rw [p2]
          exact Nat.le_mul_of_pos_right _ (Nat.pow_pos (by omega))
        refine ⟨_, rfl, _, _, rfl, rfl, _, rfl, iteD (fun kz => ?_) (fun kz => ?_)⟩
        · refine ⟨_, rfl, .inl ⟨rfl, _, SqL.of hA⟩, _, rfl, _, rfl, sl2, fun t nt => ?_⟩
          have ntl : l ≠ t := ne_of_none hA nt
          have hA2 : upd H' t (.tup [.int (d : Int), .int (k : Int)]) l = some (.lst xs) := by rw [upd_ne ntl]; exact hA
          refine ⟨l, xs, _, rfl, rfl, hA2, Nat.lt_of_le_of_lt (by rw [hP.len]; omega : xs.length ≤ 1000002) (by decide), ?_⟩
          refine ⟨_, rfl, _, _, rfl, rfl, ?_⟩
          refine ⟨m, some (.int (k : Int)), rfl, Fx.mut fm0 (ex.trans (Ex0.new nt)) trivial hl, _, fs ++ [(d, k)], upd_same, ?_, p1, by omega, by rw [List.length_append]; exact Nat.add_le_add_right hz 1, fun r t => ?_⟩
          · refine (Prs.mono hP fun t' zs ht' => ?_).snoc ?_
            · rw [upd_ne (ne_of ht' hA (by intro z; cases z)), upd_ne (ne_of_none ht' nt)]
              exact ht'
            · rw [upd_ne ntl.symm]
              exact upd_same
          · rw [List.append_assoc]
            exact ht _ (.take g' z (by omega) p2 t)
        · have k0 : k = 0 := by omega
          subst k0
          have : left = m := by simpa using p2
          subst this
          refine ⟨_, rfl, _, _, rfl, rfl, ?_⟩
          exact ⟨left, some (.int 0), rfl, ex, xs, fs, hA, hP, p1, by omega, by omega, fun r t => ht r (.skip g' z t)⟩
    · have g' : left < d * d := by
        have : ¬ ((d * d : Nat) : Int) ≤ (left : Int) := by rw [Int.natCast_mul]; exact g
        omega
      refine ⟨_, rfl, _, _, rfl, rfl, _, rfl, iteD (fun kz => ?_) (fun kz => ?_)⟩
      · refine ⟨_, rfl, _, rfl, sl2, fun t nt => ⟨sl1, fun u nu => ?_⟩⟩
        have ntl : l ≠ t := ne_of_none hA nt
        have hA1 : upd H' t (.tup [.int (left : Int), .int 1]) l = some (.lst xs) := by rw [upd_ne ntl]; exact hA
        have nul : l ≠ u := ne_of_none hA1 nu
        have nut : t ≠ u := ne_of_none (show upd H' t (.tup [.int (left : Int), .int 1]) t = some _ from upd_same) nu
        refine ⟨l, u, xs, _, rfl, rfl, by rw [upd_ne nul]; exact hA1, upd_same, Nat.le_trans (by rw [hP.len]; show fs.length + 1 ≤ 1000003; omega) (by decide : 1000003 ≤ sizeLine), fun p np => ?_⟩
        have ntp : t ≠ p := ne_of_none (show upd (upd H' t (.tup [.int (left : Int), .int 1])) u (.lst [.ref t]) t = some _ by rw [upd_ne nut]; exact upd_same) np
        have e1 : Ex0 H' (upd (upd (upd H' t (.tup [.int (left : Int), .int 1])) u (.lst [.ref t])) p (.lst (xs ++ [.ref t]))) := ((Ex0.new nt).trans (Ex0.new nu)).trans (Ex0.new np)
        refine q p _ (xs ++ [.ref t]) (ex.trans e1) upd_same ?_
        have tf := ht _ (.stop1 g' (by omega))
        rw [← tf.fac]
        refine (Prs.mono hP fun t' zs ht' => Ex0.ap e1 ht').snoc ?_
        rw [upd_ne ntp, upd_ne nut]
        exact upd_same
      · refine ⟨_, rfl, ?_⟩
        refine q l H' xs ex hA ?_
        have := ht [] (.stop0 g' (by omega))
        rw [List.append_nil] at this
        rw [← this.fac]
        exact hP
theorem ok_l_is_basic (T : Txt K mg) : Def P w K mg base 2 "_law_is_basic" ["_law_number"] (sp_l_is_basic K) := by
  obtain ⟨f_, fd_, g_, F_⟩ := T.d_l_is_basic
  obtain ⟨f_l_trial_factors, fd_l_trial_factors, g_l_trial_factors, k_l_trial_factors, b_l_trial_factors, G_l_trial_factors⟩ := (ok_l_trial_factors (P := P) (w := w) (base := base) T)
  refine ⟨f_, fd_, g_, F_.kp, F_.binds (ps := ["_law_number"]) (fun _ _ _ _ _ _ us hl => match us, hl with | [_], _ => rfl), ?_⟩
  refine F_.ok sc_l_is_basic (fun vs H Q E h => ?_) (fun cdv A outer s H vs Q E hr h => ?_)
  · first | (obtain ⟨rfl, _⟩ := h; rfl) | (obtain ⟨_, rfl, _⟩ := h; rfl) | (obtain ⟨_, _, rfl, _⟩ := h; rfl) | (obtain ⟨_, _, _, rfl, _⟩ := h; rfl) | (obtain ⟨_, _, _, _, rfl, _⟩ := h; rfl) | (obtain ⟨_, _, _, _, _, rfl, _⟩ := h; rfl) | (obtain ⟨_, _, _, _, _, _, rfl, _⟩ := h; rfl) | (obtain ⟨_, _, _, _, _, _, _, rfl, _⟩ := h; rfl) | (obtain ⟨_, _, _, _, _, _, _, _, rfl, _⟩ := h; rfl) | (obtain ⟨_, _, _, _, _, _, _, _, _, rfl, _⟩ := h; rfl) | (obtain ⟨_, _, _, _, _, _, _, _, _, _, rfl, _⟩ := h; rfl) | (obtain ⟨_, _, _, _, _, _, _, _, _, _, _, rfl, _⟩ := h; rfl) | (obtain ⟨_, _, _, _, _, _, _, _, _, _, _, _, rfl, _⟩ := h; rfl) | (obtain ⟨_, _, _, _, _, _, _, _, _, _, _, _, _, rfl, _⟩ := h; rfl)
  · obtain ⟨i, rfl, i1, q⟩ := h
    refine ⟨_, (pss_cons (ps_if (pt_cmpR op_eq (pv 0) pe_int (nomark _))
      (pss_one (ps_ret pe_bl))
      pss_nil)
    (Evl.pss_cut (ps_set (i := 1) sc_l_is_basic.nd rfl (.inl rfl) (pe_ifExp (pt_cmpR op_eq (pe_op op_mod (pv 0) pe_int) pe_int (nomark _)) (pv 0) (pe_op op_fdivW (pv 0) pe_int)))
    (Evl.pss_cut (ps_if (PW.pt (pw_or (pt_cmpR op_notIn_seq (pe_op op_mod (pv 0) pe_int) (pe_tup (pa_cons pe_int (pa_cons pe_int pa_nil))) (by with_unfolding_all rfl)) (pw_or1 (PW.pt (pw_and (pt_cmpR op_eq (pe_op op_mod (pv 0) pe_int) pe_int (nomark _)) (pw_and1 (pt_cmpR op_notIn_seq (pe_op op_mod (pv 1) pe_int) (pe_tup (pa_cons pe_int (pa_cons pe_int pa_nil))) (by with_unfolding_all rfl))))))))
      (pss_one (ps_ret pe_bl))
      pss_nil)
    (pss_one (ps_ret (pe_cmpR (op_eqD hr.units) (pe_lc (own := [("_law_prime", 2), ("_law_many", 3)]) (g := (gTup K 2 (gCons (gName 2) (gCons (gName 3) gNil)))) rfl sc_l_is_basic.nd (pi_list (pe_call G_l_trial_factors (hr.mono (by decide)) (by rfl) g_l_trial_factors k_l_trial_factors b_l_trial_factors .nil pass0 (pa_cons (pe_callB call_abs (by rfl) T.b_abs (by decide +kernel) (pa_cons (pv 1) pa_nil)) pa_nil))) (blkOk_by (N := N_l_is_basic) (sc := defScope s_l_is_basic) (by decide +kernel)) (fun _ _ _ _ _ => (pg_tup (by rfl) (pgs_cons (pg_name (i := 2) sc_l_is_basic.nd rfl (.inl rfl)) (pgs_cons (pg_name (i := 3) sc_l_is_basic.nd rfl (.inl rfl)) pgs_nil)))) (fun _ _ _ _ _ => (pts_one (pt_cmpR op_gt (pv 3) pe_int (nomark _)))) (fun _ _ _ _ _ => (pv 3))) (pe_lst pa_nil) (nomark _))))))), ?_⟩
    have r4 : (show (0 : Int) < 4 from by decide) = (show (0 : Int) < 4 from by decide) := rfl
    refine ⟨_, rfl, rfl, _, rfl, iteE (fun g => ?_) (fun g => ?_)⟩
    · subst g
      rw [fund_zero] at q
      exact q H (Ex0.refl H)
    refine ⟨fun σ H' => σ = [some (.int i), some (.int (if i % 4 = 1 then i else i / 4)), none, none] ∧ H = H', ?_, ?_⟩
    · refine ⟨_, rfl, i, 4, rfl, rfl, (show (0 : Int) < 4 by decide), rfl, _, rfl, iteE (fun g => ?_) (fun g => ?_)⟩
      · rw [if_pos g]
        exact ⟨_, rfl, rfl, rfl⟩
      · rw [if_neg g]
        exact ⟨_, rfl, _, _, rfl, rfl, dw (by decide) (by decide), rfl, rfl⟩
    rintro σ H' ⟨rfl, rfl⟩
    have in01 : ∀ a b c : Int, inV (.int a) [.int b, .int c] = (decide (a = b) || decide (a = c)) := fun a b c => by
      show (b == a || (c == a || false)) = _
      rw [Bool.or_false]
      apply Bool.eq_iff_iff.mpr
      simp only [Bool.or_eq_true, beq_iff_eq, decide_eq_true_iff]
      omega
    refine ⟨fun σ H' => σ = [some (.int i), some (.int (if i % 4 = 1 then i else i / 4)), none, none] ∧ Ex0 H H' ∧ fund i = sqf (if i % 4 = 1 then i else i / 4).natAbs ∧ 1 ≤ (if i % 4 = 1 then i else i / 4).natAbs ∧ (if i % 4 = 1 then i else i / 4).natAbs ≤ 1000000000, ?_, ?_⟩
    · refine ⟨_, rfl, i, 4, rfl, rfl, (show (0 : Int) < 4 by decide), sl2, fun p np => ?_⟩
      refine ⟨p, _, rfl, .inr (SqT.of upd_same), rfl, rfl, _, rfl, ?_⟩
      show if (!inV (.int (i % 4)) [.int 0, .int 1]) = true then _ else _
      rw [in01]
      unfold fund at q ⊢
      refine iteB (fun g1 => ?_) (fun g1 => ?_)
      · -- another rest by 4
        have g2 : ¬ i % 4 = 0 ∧ ¬ i % 4 = 1 := by
          rw [Bool.not_eq_true', Bool.or_eq_false_iff, decide_eq_false_iff_not, decide_eq_false_iff_not] at g1
          exact g1
        rw [if_neg g2.2, if_pos g2.1] at q
        exact q _ (Ex0.new np)
      have g2 : i % 4 = 0 ∨ i % 4 = 1 := by
        rw [Bool.not_eq_false', Bool.or_eq_true, decide_eq_true_iff, decide_eq_true_iff] at g1
        exact g1
      refine ⟨_, rfl, i, 4, rfl, rfl, (show (0 : Int) < 4 by decide), rfl, _, rfl, iteE (fun g3 => ?_) (fun g3 => ?_)⟩
      · have n1 : ¬ i % 4 = 1 := by omega
        rw [if_neg n1, if_neg (fun z => z g3)] at q
        refine ⟨_, rfl, if i % 4 = 1 then i else i / 4, 4, rfl, rfl, (show (0 : Int) < 4 by decide), sl2, fun u nu => ?_⟩
        refine ⟨u, _, rfl, .inr (SqT.of upd_same), rfl, rfl, _, rfl, ?_⟩
        show if (!inV (.int ((if i % 4 = 1 then i else i / 4) % 4)) [.int 2, .int 3]) = true then _ else _
        rw [in01, if_neg n1]
        refine iteB (fun g4 => ?_) (fun g4 => ?_)
        · rw [Bool.not_eq_true'] at g4
          rw [g4, Bool.false_and] at q
          exact q _ ((Ex0.new np).trans (Ex0.new nu))
        · rw [Bool.not_eq_false'] at g4
          refine ⟨rfl, (Ex0.new np).trans (Ex0.new nu), ?_, ?_, ?_⟩
          · rw [if_neg n1, if_neg (fun z => z g3), g4, Bool.true_and]
          · rw [Bool.or_eq_true, decide_eq_true_iff, decide_eq_true_iff] at g4
            omega
          · omega
      · have y1 : i % 4 = 1 := by omega
        refine ⟨by rw [if_pos y1], Ex0.new np, ?_, ?_, ?_⟩
        · rw [if_pos y1, if_pos y1]
        · rw [if_pos y1]; omega
        · rw [if_pos y1]; omega
    rintro σ H' ⟨rfl, e1, hf, p1, p2⟩
    generalize (if i % 4 = 1 then i else i / 4) = part at hf p1 p2
    have ab : (if part < 0 then -part else part) = (part.natAbs : Int) := by
      by_cases h : part < 0
      · rw [if_pos h]; omega
      · rw [if_neg h]; omega
    refine ⟨_, rfl, part, rfl, part.natAbs, by rw [ab]; rfl, p1, by omega, fun p H2 xs e2 hp hP => ?_⟩
    refine ⟨p, rfl, ⟨_, SqL.of hp⟩, ?_⟩
    refine lcL fm0 trivial (SqL.of hp) (fun z => z) (fun j acc _ => acc = (((fac part.natAbs).take j).filter fun q => decide (1 < q.2)).map fun q => V.int (q.2 : Int)) (fun _ _ => rfl) (fun D j x acc H3 hD hx e3 hA hlen hacc => ?_) (fun D H3 acc hD e3 hA hacc => ?_)
    · obtain ⟨t, pp, k, rfl, hk, ht⟩ := hP.get hx
      have hj := (List.getElem?_eq_some_iff.mp hx).1
      have hjl : j < 1000000 := by
        have := fac_len p1 (Nat.lt_of_le_of_lt p2 (by decide))
        have := hP.len
        omega
      refine ⟨t, _, rfl, SqT.of (Ex0.ap e3 ht), rfl, _, _, rfl, ?_⟩
      refine ⟨_, _, rfl, ⟨rfl, ?_⟩⟩
      refine ⟨rfl, ?_⟩
      refine ⟨_, rfl, _, _, rfl, rfl, _, rfl, ?_⟩
      refine iteD (fun g => ?_) (fun g => ?_)
      · refine ⟨_, rfl, ?_⟩
        refine cs_yes fm0 trivial hD e3 hA hlen hjl (Fx.refl trivial) ?_
        rw [hacc, List.take_add_one, hk, List.filter_append, List.map_append]
        show _ = _ ++ ((List.filter (fun q => decide (1 < q.2)) [(pp, k)]).map fun q => V.int (q.2 : Int))
        rw [List.filter_cons, if_pos (by show decide (1 < k) = true; rw [decide_eq_true_iff]; omega)]
        rfl
      · refine cs_no fm0 trivial hD e3 hA hlen (Fx.refl trivial) ?_
        rw [hacc, List.take_add_one, hk, List.filter_append, List.map_append]
        show _ = _ ++ ((List.filter (fun q => decide (1 < q.2)) [(pp, k)]).map fun q => V.int (q.2 : Int))
        rw [List.filter_cons, if_neg (by show ¬ decide (1 < k) = true; rw [decide_eq_true_iff]; omega)]
        exact (List.append_nil _).symm
    · rw [hP.len, List.take_length] at hacc
      refine ⟨Nat.zero_le _, fun u nu => ?_⟩
      have hDu : D ≠ u := ne_of_none hA nu
      have ks : acc = (((fac part.natAbs).filter fun q => decide (1 < q.2)).map fun q => (q.2 : Int)).map V.int := by
        rw [hacc, List.map_map]
        rfl
      refine ⟨.list ((((fac part.natAbs).filter fun q => decide (1 < q.2)).map fun q => (q.2 : Int)).map .int), .list (([] : List Int).map .int), .lst (SqL.of (by rw [upd_ne hDu, hA, ks])) (dp_ints _), .lst (SqL.of upd_same) .nil, shaped_ints _, shaped_ints [], ?_⟩
      have ev : PyData.eqv (.list ((((fac part.natAbs).filter fun q => decide (1 < q.2)).map fun q => (q.2 : Int)).map .int)) (.list (([] : List Int).map .int)) = fund i := by
        rw [PyData.eqv, eqv_ints, hf]
        unfold sqf
        have ps := (fac_ok part.natAbs).pos
        generalize fac part.natAbs = fs at ps
        apply Bool.eq_iff_iff.mpr
        rw [decide_eq_true_iff, List.map_eq_nil_iff, List.filter_eq_nil_iff, List.all_eq_true]
        constructor
        · intro h q hq
          have := h q hq
          have := ps q hq
          simp at *
          omega
        · intro h q hq
          have := h q hq
          simp at *
          omega
      rw [ev]
      exact q _ (((e1.trans e2).trans e3).trans (Ex0.new nu))
theorem ok_l_divisors_right (T : Txt K mg) : Def P w K mg base 6 "_law_divisors_right" ["_law_vat_here"] (sp_l_divisors_right K) := by
  obtain ⟨f_, fd_, g_, F_⟩ := T.d_l_divisors_right
  obtain ⟨f_l_from, fd_l_from, g_l_from, k_l_from, b_l_from, G_l_from⟩ := (ok_l_from (P := P) (w := w) (base := base) T)
  obtain ⟨f_l_scoop, fd_l_scoop, g_l_scoop, k_l_scoop, b_l_scoop, G_l_scoop⟩ := (ok_l_scoop (P := P) (w := w) (base := base) T)
  obtain ⟨f_l_share, fd_l_share, g_l_share, k_l_share, b_l_share, G_l_share⟩ := (ok_l_share (P := P) (w := w) (base := base) T)
  obtain ⟨f_l_size, fd_l_size, g_l_size, k_l_size, b_l_size, G_l_size⟩ := (ok_l_size (P := P) (w := w) (base := base) T)
  obtain ⟨f_common_divisor, fd_common_divisor, g_common_divisor, k_common_divisor, b_common_divisor, G_common_divisor⟩ := (ok_common_divisor (P := P) (w := w) (base := base) T)
  refine ⟨f_, fd_, g_, F_.kp, F_.binds (ps := ["_law_vat_here"]) (fun _ _ _ _ _ _ us hl => match us, hl with | [_], _ => rfl), ?_⟩
  refine F_.ok sc_l_divisors_right (fun vs H Q E h => ?_) (fun cdv A outer s H vs Q E hr h => ?_)
  · first | (obtain ⟨rfl, _⟩ := h; rfl) | (obtain ⟨_, rfl, _⟩ := h; rfl) | (obtain ⟨_, _, rfl, _⟩ := h; rfl) | (obtain ⟨_, _, _, rfl, _⟩ := h; rfl) | (obtain ⟨_, _, _, _, rfl, _⟩ := h; rfl) | (obtain ⟨_, _, _, _, _, rfl, _⟩ := h; rfl) | (obtain ⟨_, _, _, _, _, _, rfl, _⟩ := h; rfl) | (obtain ⟨_, _, _, _, _, _, _, rfl, _⟩ := h; rfl) | (obtain ⟨_, _, _, _, _, _, _, _, rfl, _⟩ := h; rfl) | (obtain ⟨_, _, _, _, _, _, _, _, _, rfl, _⟩ := h; rfl) | (obtain ⟨_, _, _, _, _, _, _, _, _, _, rfl, _⟩ := h; rfl) | (obtain ⟨_, _, _, _, _, _, _, _, _, _, _, rfl, _⟩ := h; rfl) | (obtain ⟨_, _, _, _, _, _, _, _, _, _, _, _, rfl, _⟩ := h; rfl) | (obtain ⟨_, _, _, _, _, _, _, _, _, _, _, _, _, rfl, _⟩ := h; rfl)
  · obtain ⟨c, rfl, hc, q⟩ := h
    refine ⟨_, (pss_cons (ps_set (i := 1) sc_l_divisors_right.nd rfl (.inr rfl) (pe_call G_l_from (hr.mono (by decide)) (by rfl) g_l_from k_l_from b_l_from .nil pass0 (pa_cons (pv 0) (pa_cons (pe_lst (pa_cons pe_int (pa_cons pe_int (pa_cons pe_int (pa_cons pe_int (pa_cons (pe_op op_add (pe_op op_pow pe_int pe_int) pe_int) pa_nil)))))) pa_nil))))
    (pss_cons (ps_setLc (i := 2) (own := [("_law_turn", 5)]) (g := (gName 5)) rfl sc_l_divisors_right.nd rfl rfl (sw_true rfl rfl rfl (by decide +kernel)) (pi_range1 (by rfl) T.b_range (pa_cons (pe_call G_l_scoop (hr.mono (by decide)) (by rfl) g_l_scoop k_l_scoop b_l_scoop .nil pass0 (pa_cons (pv 0) (pa_cons pe_int pa_nil))) pa_nil)) (blkOk_by (N := N_l_divisors_right) (sc := defScope s_l_divisors_right) (by decide +kernel)) (fun _ _ _ _ _ => (pg_name (i := 5) sc_l_divisors_right.nd rfl (.inl rfl))) (fun _ _ _ _ _ => pts_nil) (fun _ _ _ _ _ => (pe_op op_mul (pv 1) (pe_call G_l_size (hr.mono (by decide)) (by rfl) g_l_size k_l_size b_l_size .nil pass0 (pa_cons (pv 0) (pa_cons (pe_call G_l_from (hr.mono (by decide)) (by rfl) g_l_from k_l_from b_l_from .nil pass0 (pa_cons (pv 0) (pa_cons (pe_lst (pa_cons pe_int (pa_cons pe_int (pa_cons (pe_op op_pow pe_int pe_int) pa_nil)))) pa_nil))) pa_nil))))))
    (pss_cons (ps_set (i := 3) sc_l_divisors_right.nd rfl (.inl rfl) pe_int)
    (pss_cons (ps_for PassesOwn.never rfl (pi_list (pv 2)) (pg_name (i := 4) sc_l_divisors_right.nd rfl (.inl rfl))
      (pss_one (ps_set (i := 3) sc_l_divisors_right.nd rfl (.inl rfl) (pe_call G_l_share (hr.mono (by decide)) (by rfl) g_l_share k_l_share b_l_share .nil pass0 (pa_cons (pv 3) (pa_cons (pv 4) pa_nil))))))
    (pss_one (ps_ret (pe_and (pe_cmpR op_eq (pe_call G_common_divisor (hr.mono (by decide)) (by rfl) g_common_divisor k_common_divisor b_common_divisor .nil pass0 (pa_cons (pe_callTy call_tuple_of (by rfl) T.b_tuple (by decide +kernel) (pa_cons (pv 2) pa_nil)) pa_nil)) (pv 3) (nomark _)) (pe_one (pe_cmpR op_eq (pe_call G_common_divisor (hr.mono (by decide)) (by rfl) g_common_divisor k_common_divisor b_common_divisor .nil pass0 (pa_cons (pe_callTy call_tuple_of (by rfl) T.b_tuple (by decide +kernel) (pa_cons (pe_op op_cat (pv 2) (pe_lst (pa_cons (pe_op op_sub pe_int (pv 3)) pa_nil))) pa_nil)) pa_nil)) (pv 3) (nomark _)))))))))), ?_⟩
    refine ⟨_, rfl, _, _, rfl, rfl, ⟨by decide, by decide, by decide⟩, _, _, rfl, rfl, slN (by decide), fun l nl => ?_⟩
    refine ⟨c, l, [.int 1, .int 1, .int 6, .int 35, .int 1000000007], rfl, vat_new hc nl, upd_same, fv_ne hc nl, by simp, by decide, fun v H1 hv e1 => ?_⟩
    obtain ⟨f, rfl, f1, f2⟩ := in_b (lo := 1) (hi := 1000000007) hv (by decide)
    have e1' : Fv c H H1 := (fv_new hc nl).trans e1
    refine ⟨_, rfl, c, 6, rfl, e1'.1, by decide, by decide, fun r H2 r0 r1 e2 => ?_⟩
    refine ⟨_, rfl, by omega, by omega, ?_⟩
    have hc2 : Vat c H2 := e2.1
    refine lcR (fmV c) hc2 (fun i acc _ => ∃ ns : List Int, acc = ns.map V.int ∧ ns.length = i ∧ ∀ n ∈ ns, Short n) (fun _ _ => ⟨[], rfl, rfl, fun _ h => by cases h⟩) (fun D i acc H3 hD hi e3 hA hlen hp => ?_) (fun D H3 acc hD e3 hA hp => ?_)
    · obtain ⟨ns, rfl, hln, hns⟩ := hp
      refine ⟨rfl, ?_⟩
      refine ⟨_, rfl, _, rfl, _, rfl, _, _, rfl, rfl, ⟨by decide, by decide, by decide⟩, slN (by decide), fun l2 nl2 => ?_⟩
      refine ⟨c, l2, [.int 5, .int 1000, .int 10000000000000000000000000000000000000000], rfl, vat_new e3.1 nl2, upd_same, fv_ne e3.1 nl2, by simp, by decide, fun v H4 hv e4 => ?_⟩
      obtain ⟨t, rfl, t1, t2⟩ := in_b (lo := 5) (hi := 10000000000000000000000000000000000000000) hv (by decide)
      have e4' : Fv c H3 H4 := (fv_new e3.1 nl2).trans e4
      refine ⟨c, t, rfl, e4'.1, by omega, by omega, fun z H5 z1 z2 e5 => ?_⟩
      refine ⟨_, _, rfl, rfl, .inl ⟨by omega, by omega⟩, ?_⟩
      refine cs_yes (fmV c) hc2 hD e3 hA hlen (by omega) (e4'.trans e5) ⟨ns ++ [f * z], by rw [List.map_append]; rfl, by rw [List.length_append, hln]; rfl, fun n hn => ?_⟩
      rcases List.mem_append.mp hn with h | h
      · exact hns n h
      · have : n = f * z := by simpa using h
        rw [this]
        have b1 : (f * z).natAbs ≤ 1000000007 * 10000000000000000000000000000000000000000 := by
          rw [Int.natAbs_mul]
          exact Nat.mul_le_mul (by omega) (by omega)
        exact ⟨by omega, by omega⟩
    · obtain ⟨ns, rfl, hln, hns⟩ := hp
      have hnl : ns.length ≤ 5 := by omega
      have e13 : Fv c H H3 := (e1'.trans e2).trans e3
      refine ⟨_, rfl, D, rfl, ⟨_, SqL.of hA⟩, for_list (xs := ns.map V.int) (fun i σ H' => ∃ y4, σ = [some (.ref c), some (.int f), some (.ref D), some (.int (gcdL (ns.take i) : Nat)), y4, none] ∧ H3 = H') ⟨none, rfl, rfl⟩ (fun i σ H' _ ⟨_, _, e⟩ => e ▸ SqL.of hA) ?_ ?_⟩
      · rintro i x σ H' hx ⟨y4, rfl, rfl⟩
        obtain ⟨n, hn, rfl⟩ := get_int hx
        refine ⟨_, rfl, _, rfl, _, _, rfl, ?_⟩
        refine ⟨some (.int n), ?_, rfl⟩
        rw [gcdL_take hn]
        rfl
      · rintro σ H' ⟨y4, rfl, rfl⟩
        rw [List.length_map, List.take_length]
        refine ⟨_, rfl, D, _, rfl, .inl ⟨SqL.of hA, fun p np => ?_⟩⟩
        refine ⟨p, ns, rfl, upd_same, by omega, hns, fun H4 e4 => ?_⟩
        have e4' : Ex0 H3 H4 := (Ex0.new np).trans e4
        refine ⟨_, rfl, rfl, _, rfl, ?_⟩
        refine dT rfl ?_
        have hA4 : H4 D = some (.lst (ns.map V.int)) := e4'.ap hA
        refine ⟨_, rfl, _, rfl, _, _, rfl, rfl, sl1, fun u nu => ?_⟩
        have hDu : D ≠ u := ne_of_none hA4 nu
        refine ⟨D, u, _, _, rfl, rfl, by rw [upd_ne hDu]; exact hA4, upd_same, slN (by rw [List.length_map]; show ns.length + 1 ≤ 1000000; omega), fun v nv => ?_⟩
        refine ⟨v, _, rfl, .inl ⟨SqL.of upd_same, fun t nt => ?_⟩⟩
        have sg : Short (0 - ((gcdL ns : Nat) : Int)) := by
          have := gcdL_lt (B := 1000000000000000000000000000000000000000000000000000000000000) (by decide) (ns := ns) (fun n hn => by have := hns n hn; unfold Short at this; omega)
          exact ⟨by omega, by omega⟩
        refine ⟨t, ns ++ [0 - ((gcdL ns : Nat) : Int)], rfl, by rw [upd_same, List.map_append]; rfl, by rw [List.length_append]; show ns.length + 1 ≤ 1000; omega, fun n hn => ?_, fun H5 e5 => ?_⟩
        · rcases List.mem_append.mp hn with h | h
          · exact hns n h
          · have : n = 0 - ((gcdL ns : Nat) : Int) := by simpa using h
            rw [this]
            exact sg
        have gg : gcdL (ns ++ [0 - ((gcdL ns : Nat) : Int)]) = gcdL ns := by
          unfold gcdL
          rw [List.foldl_append]
          show Nat.gcd (gcdL ns) (0 - ((gcdL ns : Nat) : Int)).natAbs = gcdL ns
          rw [show (0 - ((gcdL ns : Nat) : Int)).natAbs = gcdL ns by omega]
          exact Nat.gcd_self _
        refine ⟨_, rfl, rfl, ?_⟩
        rw [gg]
        show Q (.bl (decide (V.int (gcdL ns : Nat) = V.int (gcdL ns : Nat)))) H5
        rw [decide_eq_true rfl]
        have e45 : Ex0 H3 H5 := (((e4'.trans (Ex0.new nu)).trans (Ex0.new nv)).trans (Ex0.new nt)).trans e5
        exact q H5 (e13.trans (fv_ex e13.1 e45))
theorem ok_l_roots_right (T : Txt K mg) : Def P w K mg base 6 "_law_roots_right" ["_law_vat_here"] (sp_l_roots_right K) := by
  obtain ⟨f_, fd_, g_, F_⟩ := T.d_l_roots_right
  obtain ⟨f_l_from, fd_l_from, g_l_from, k_l_from, b_l_from, G_l_from⟩ := (ok_l_from (P := P) (w := w) (base := base) T)
  obtain ⟨f_l_raised, fd_l_raised, g_l_raised, k_l_raised, b_l_raised, G_l_raised⟩ := (ok_l_raised (P := P) (w := w) (base := base) T)
  obtain ⟨f_l_scoop, fd_l_scoop, g_l_scoop, k_l_scoop, b_l_scoop, G_l_scoop⟩ := (ok_l_scoop (P := P) (w := w) (base := base) T)
  obtain ⟨f_whole_root, fd_whole_root, g_whole_root, k_whole_root, b_whole_root, G_whole_root⟩ := (ok_whole_root (P := P) (w := w) (base := base) T)
  refine ⟨f_, fd_, g_, F_.kp, F_.binds (ps := ["_law_vat_here"]) (fun _ _ _ _ _ _ us hl => match us, hl with | [_], _ => rfl), ?_⟩
  refine F_.ok sc_l_roots_right (fun vs H Q E h => ?_) (fun cdv A outer s H vs Q E hr h => ?_)
  · first | (obtain ⟨rfl, _⟩ := h; rfl) | (obtain ⟨_, rfl, _⟩ := h; rfl) | (obtain ⟨_, _, rfl, _⟩ := h; rfl) | (obtain ⟨_, _, _, rfl, _⟩ := h; rfl) | (obtain ⟨_, _, _, _, rfl, _⟩ := h; rfl) | (obtain ⟨_, _, _, _, _, rfl, _⟩ := h; rfl) | (obtain ⟨_, _, _, _, _, _, rfl, _⟩ := h; rfl) | (obtain ⟨_, _, _, _, _, _, _, rfl, _⟩ := h; rfl) | (obtain ⟨_, _, _, _, _, _, _, _, rfl, _⟩ := h; rfl) | (obtain ⟨_, _, _, _, _, _, _, _, _, rfl, _⟩ := h; rfl) | (obtain ⟨_, _, _, _, _, _, _, _, _, _, rfl, _⟩ := h; rfl) | (obtain ⟨_, _, _, _, _, _, _, _, _, _, _, rfl, _⟩ := h; rfl) | (obtain ⟨_, _, _, _, _, _, _, _, _, _, _, _, rfl, _⟩ := h; rfl) | (obtain ⟨_, _, _, _, _, _, _, _, _, _, _, _, _, rfl, _⟩ := h; rfl)
  · obtain ⟨c, rfl, hc, q⟩ := h
    refine ⟨_, (pss_cons (ps_set (i := 1) sc_l_roots_right.nd rfl (.inl rfl) (pe_op op_add pe_int (pe_call G_l_scoop (hr.mono (by decide)) (by rfl) g_l_scoop k_l_scoop b_l_scoop .nil pass0 (pa_cons (pv 0) (pa_cons pe_int pa_nil)))))
    (pss_cons (ps_set (i := 2) sc_l_roots_right.nd rfl (.inl rfl) (pe_call G_l_scoop (hr.mono (by decide)) (by rfl) g_l_scoop k_l_scoop b_l_scoop .nil pass0 (pa_cons (pv 0) (pa_cons (pe_call G_l_from (hr.mono (by decide)) (by rfl) g_l_from k_l_from b_l_from .nil pass0 (pa_cons (pv 0) (pa_cons (pe_lst (pa_cons pe_int (pa_cons pe_int (pa_cons (pe_op op_pow pe_int pe_int) pa_nil)))) pa_nil))) pa_nil))))
    (pss_cons (ps_set (i := 3) sc_l_roots_right.nd rfl (.inl rfl) (pe_call G_l_raised (hr.mono (by decide)) (by rfl) g_l_raised k_l_raised b_l_raised .nil pass0 (pa_cons (pv 2) (pa_cons (pv 1) pa_nil))))
    (pss_cons (ps_set (i := 4) sc_l_roots_right.nd rfl (.inl rfl) (pe_op op_add (pv 3) (pe_call G_l_from (hr.mono (by decide)) (by rfl) g_l_from k_l_from b_l_from .nil pass0 (pa_cons (pv 0) (pa_cons (pe_lst (pa_cons pe_int (pa_cons pe_int (pa_cons pe_int (pa_cons (pe_un un_neg pe_int) (pa_cons (pe_call G_l_scoop (hr.mono (by decide)) (by rfl) g_l_scoop k_l_scoop b_l_scoop .nil pass0 (pa_cons (pv 0) (pa_cons (pe_op op_add pe_int (pv 3)) pa_nil))) pa_nil)))))) pa_nil)))))
    (Evl.pss_cut (ps_set (i := 4) sc_l_roots_right.nd rfl (.inl rfl) (pe_ifExp (pt_chain op_le op_lt pe_int (pv 4) (pe_op op_mulW (pe_op op_pow pe_int pe_int) (pe_op op_pow pe_int pe_int))) (pv 4) (pv 2)))
    (pss_cons (ps_set (i := 5) sc_l_roots_right.nd rfl (.inl rfl) (pe_call G_whole_root (hr.mono (by decide)) (by rfl) g_whole_root k_whole_root b_whole_root .nil pass0 (pa_cons (pv 4) (pa_cons (pv 1) pa_nil))))
    (pss_cons (ps_if (PW.pt (pw_or (pt_cmpR op_gt (pe_call G_l_raised (hr.mono (by decide)) (by rfl) g_l_raised k_l_raised b_l_raised .nil pass0 (pa_cons (pv 5) (pa_cons (pv 1) pa_nil))) (pv 4) (nomark _)) (pw_or1 (pt_cmpR op_le (pe_call G_l_raised (hr.mono (by decide)) (by rfl) g_l_raised k_l_raised b_l_raised .nil pass0 (pa_cons (pe_op op_add (pv 5) pe_int) (pa_cons (pv 1) pa_nil))) (pv 4) (nomark _)))))
      (pss_one (ps_ret pe_bl))
      pss_nil)
    (pss_cons (ps_set (i := 6) sc_l_roots_right.nd rfl (.inl rfl) (pe_call G_l_scoop (hr.mono (by decide)) (by rfl) g_l_scoop k_l_scoop b_l_scoop .nil pass0 (pa_cons (pv 0) (pa_cons (pe_op op_pow pe_int pe_int) pa_nil))))
    (pss_cons (ps_set (i := 5) sc_l_roots_right.nd rfl (.inl rfl) (pe_call G_whole_root (hr.mono (by decide)) (by rfl) g_whole_root k_whole_root b_whole_root .nil pass0 (pa_cons (pe_op op_mulW (pv 6) (pv 6)) (pa_cons pe_int pa_nil))))
    (pss_one (ps_ret (pe_and (pe_cmpR op_eq (pv 5) (pv 6) (nomark _)) (pe_one (pe_cmpR op_eq (pe_call G_whole_root (hr.mono (by decide)) (by rfl) g_whole_root k_whole_root b_whole_root .nil pass0 (pa_cons (pe_op op_add (pe_op op_mulW (pv 6) (pv 6)) (pv 6)) (pa_cons pe_int pa_nil))) (pv 6) (nomark _))))))))))))))), ?_⟩
    refine ⟨_, rfl, c, 9, rfl, hc, by decide, by decide, fun ex H1 x0 x1 e1 => ⟨_, _, rfl, rfl, ?_⟩⟩
    obtain ⟨ee, rfl⟩ : ∃ ee : Nat, ex = (ee : Int) := ⟨ex.toNat, by omega⟩
    have e' : (2 : Int) + (ee : Int) = ((2 + ee : Nat) : Int) := by omega
    obtain ⟨e, he⟩ : ∃ e, e = 2 + ee := ⟨_, rfl⟩
    refine ⟨_, rfl, _, rfl, _, _, rfl, rfl, ⟨by decide, by decide, by decide⟩, slN (by decide), fun l nl => ?_⟩
    refine ⟨c, l, [.int 12, .int 1000, .int 100000], rfl, vat_new e1.1 nl, upd_same, fv_ne e1.1 nl, by simp, by decide, fun v H2 hv e2 => ?_⟩
    obtain ⟨t, rfl, t1, t2⟩ := in_b (lo := 12) (hi := 100000) hv (by decide)
    refine ⟨c, t, rfl, e2.1, by omega, by omega, fun b H3 b0 b1 e3 => ?_⟩
    obtain ⟨bb, rfl⟩ : ∃ bb : Nat, b = (bb : Int) := ⟨b.toNat, by omega⟩
    have e03 : Fv c H H3 := ((e1.trans (fv_new e1.1 nl)).trans e2).trans e3
    refine ⟨_, rfl, _, rfl, (bb : Int), e, by rw [he, ← e']; rfl, by omega, by omega, ?_⟩
    have pb : bb ^ e < 2 ^ 200 := by
      refine Nat.lt_of_le_of_lt (Nat.pow_le_pow_left (show bb ≤ 100000 by omega) e) (Nat.lt_of_le_of_lt (Nat.pow_le_pow_right (by decide) (show e ≤ 10 by omega)) (by decide))
    have pc : ((bb : Int) ^ e) = ((bb ^ e : Nat) : Int) := (Int.natCast_pow bb e).symm
    refine ⟨_, rfl, _, rfl, _, rfl, _, rfl, _, rfl, _, _, rfl, rfl, c, 1 + (bb : Int) ^ e, rfl, e03.1, by omega, by omega, fun z H4 z0 z1 e4 => ⟨slN (by show 5 ≤ 1000000; decide), fun l2 nl2 => ?_⟩⟩
    have e04 := e03.trans e4
    refine ⟨c, l2, [.int 0, .int 0, .int 1, .int (-1), .int z], rfl, vat_new e04.1 nl2, upd_same, fv_ne e04.1 nl2, by simp, by show 5 ≤ 1000; decide, fun v H5 hv e5 => ?_⟩
    obtain ⟨y, rfl, y1, y2⟩ : ∃ y : Int, v = .int y ∧ -1 ≤ y ∧ y ≤ 1 + (bb ^ e : Nat) := by
      simp only [List.mem_cons, List.mem_nil_iff, or_false] at hv
      rcases hv with rfl | rfl | rfl | rfl | rfl
      · exact ⟨_, rfl, by omega, by omega⟩
      · exact ⟨_, rfl, by omega, by omega⟩
      · exact ⟨_, rfl, by omega, by omega⟩
      · exact ⟨_, rfl, by omega, by omega⟩
      · exact ⟨_, rfl, by omega, by omega⟩
    have e05 : Fv c H H5 := (e04.trans (fv_new e04.1 nl2)).trans e5
    refine ⟨_, _, rfl, rfl, ?_⟩
    refine ⟨fun σ H' => ∃ n : Nat, σ = [some (.ref c), some (.int (e : Int)), some (.int (bb : Int)), some (.int ((bb : Int) ^ e)), some (.int (n : Int)), none, none] ∧ H5 = H' ∧ n < 1000000000000000000000000000000000000000000000000000000000000, ?_, ?_⟩
    · have e'' : (2 : Int) + (ee : Int) = (e : Int) := by omega
      refine ⟨_, rfl, _, _, rfl, rfl, _, rfl, iteD (fun g1 => ?_) (fun g1 => ?_)⟩
      · refine ⟨_, _, rfl, rfl, ⟨by decide, by decide, by decide⟩, _, _, rfl, rfl, ⟨by decide, by decide, by decide⟩, _, _, rfl, rfl, mw (by decide) (by decide) (by decide) (by decide), _, _, rfl, rfl, _, rfl, iteD (fun g2 => ?_) (fun g2 => ?_)⟩
        · refine ⟨_, rfl, ((bb : Int) ^ e + y).toNat, ?_, rfl, ?_⟩
          · rw [← e'', Int.toNat_of_nonneg g1]
            rfl
          · have g3 : (bb : Int) ^ e + y < 1000000000000000000000000000000000000000000000000000000000000 := Int.lt_of_lt_of_le g2 (by decide)
            omega
        · refine ⟨_, rfl, bb, ?_, rfl, by omega⟩
          rw [← e'']
          rfl
      · refine ⟨_, rfl, ?_⟩
        refine ⟨_, rfl, bb, ?_, rfl, by omega⟩
        rw [← e'']
        rfl
    rintro σ H' ⟨n, rfl, rfl, hn⟩
    refine ⟨_, rfl, _, rfl, n, e, rfl, hn, by omega, by omega, fun r r1 r2 => ?_⟩
    have rr : r ≤ r ^ e := Nat.le_self_pow (by omega) r
    have rc : ((r : Int) ^ e) = ((r ^ e : Nat) : Int) := (Int.natCast_pow r e).symm
    have rc2 : (((r : Int) + 1) ^ e) = (((r + 1) ^ e : Nat) : Int) := by rw [Int.natCast_pow]; rfl
    refine ⟨_, rfl, _, rfl, (r : Int), e, rfl, by omega, by omega, _, rfl, _, _, rfl, rfl, _, rfl, dF (by rw [rc]; omega) ?_⟩
    refine ⟨_, rfl, _, _, rfl, rfl, _, rfl, (r : Int) + 1, e, rfl, by omega, by omega, _, rfl, _, _, rfl, rfl, _, rfl, dF (by rw [rc2]; omega) ?_⟩
    refine ⟨_, rfl, _, _, rfl, rfl, ⟨by decide, by decide, by decide⟩, c, 100000000000000000000000000000, rfl, e05.1, by decide, by decide, fun g H6 g0 g1 e6 => ?_⟩
    obtain ⟨gg, rfl⟩ : ∃ gg : Nat, g = (gg : Int) := ⟨g.toNat, by omega⟩
    have gb : gg * gg ≤ 99999999999999999999999999999 * 99999999999999999999999999999 := Nat.mul_le_mul (by omega) (by omega)
    have gc : ((gg : Int) * (gg : Int)) = ((gg * gg : Nat) : Int) := (Int.natCast_mul gg gg).symm
    have root : ∀ r m : Nat, r ^ 2 ≤ m → m < (r + 1) ^ 2 → gg * gg ≤ m → m < (gg + 1) * (gg + 1) → r = gg := by
      intro r m h1 h2 h3 h4
      rw [Nat.pow_two] at h1 h2
      rcases Nat.lt_trichotomy r gg with h | h | h
      · have := Nat.mul_le_mul (show r + 1 ≤ gg by omega) (show r + 1 ≤ gg by omega)
        omega
      · exact h
      · have := Nat.mul_le_mul (show gg + 1 ≤ r by omega) (show gg + 1 ≤ r by omega)
        omega
    have g2 : (gg + 1) * (gg + 1) = gg * gg + 2 * gg + 1 := by
      rw [Nat.add_mul, Nat.mul_add]
      omega
    refine ⟨_, rfl, _, rfl, _, _, rfl, rfl, mw (by omega) (by omega) (by omega) (by omega), gg * gg, 2, by show [V.int ((gg : Int) * (gg : Int)), V.int 2] = _; rw [gc]; rfl, by omega, by decide, by decide, fun r' p1 p2 => ?_⟩
    have hr' := root r' (gg * gg) p1 p2 (Nat.le_refl _) (by omega)
    subst hr'
    refine ⟨_, rfl, _, rfl, rfl, _, rfl, dT rfl ?_⟩
    refine ⟨_, rfl, _, rfl, _, _, rfl, rfl, mw (by omega) (by omega) (by omega) (by omega), _, rfl, _, _, rfl, rfl, r' * r' + r', 2, by show [V.int ((r' : Int) * (r' : Int) + (r' : Int)), V.int 2] = _; rw [gc, ← Int.natCast_add]; rfl, by omega, by decide, by decide, fun r'' p3 p4 => ?_⟩
    have hr'' := root r'' (r' * r' + r') p3 p4 (by omega) (by omega)
    subst hr''
    refine ⟨_, rfl, rfl, ?_⟩
    show Q (.bl (decide (V.int (r'' : Int) = V.int (r'' : Int)))) H6
    rw [decide_eq_true rfl]
    exact q H6 (e05.trans e6)
end
end K01
namespace K01
open PySem PySem.Spec PyProof.Rows L2 Fr
def sp_lawW (K : PySem.W.Frag) : Sp := fun vs H Q _ => ∃ (a : Addr) (ns : List Int), vs = [.ref a] ∧ SqL K H a (ns.map V.int) ∧ ns.length ≤ 63 ∧ ∀ H', Q (.bl true) H'
abbrev sp_law (K : PySem.W.Frag) : Sp := sp_lawW K
theorem Prs.dp {K : PySem.W.Frag} {H : Hp} {xs : List V} {fs : List (Nat × Nat)} (r : Prs H xs fs) : DpAll K H xs (fs.map pr2) := by
  induction r with
  | nil => exact .nil
  | cons h _ ih => exact .cons (.tup (SqT.of h) (.cons (.int _) (.cons (.int _) .nil))) ih
theorem ex_fv {p : Addr} {H H1 H2 : Hp} (e : Ex0 H H1) (hp : H p = none) (f : Fv p H1 H2) : Ex0 H H2 := ⟨trivial, fun b o _ h => f.2 b o (fun z => by unfold Sv at z; rw [z, hp] at h; cases h) (Ex0.ap e h)⟩
theorem fund_one : fund 1 = true := by decide +kernel
theorem pr_two : Pr 2 := ⟨by decide, fun c h1 h2 => by have := Nat.mul_le_mul h1 h1; omega⟩
theorem fund_some : (((List.range 38).filter fun (j : Nat) => fund ((-24 : Int) + (j : Int))).map fun (j : Nat) => ((-24 : Int) + (j : Int))) = [-24, -23, -20, -19, -15, -11, -8, -7, -4, -3, 1, 5, 8, 12, 13] := by decide +kernel
section
variable {P : Program} {w : World} {K : PySem.W.Frag} {mg : Str → Option Value} {base : Heap}
theorem ok_l_factors_right (T : Txt K mg) : Def P w K mg base 6 "_law_factors_right" ["_law_vat_here"] (sp_l_factors_right K) := by
  obtain ⟨f_, fd_, g_, F_⟩ := T.d_l_factors_right
  obtain ⟨f_l_from, fd_l_from, g_l_from, k_l_from, b_l_from, G_l_from⟩ := (ok_l_from (P := P) (w := w) (base := base) T)
  obtain ⟨f_l_scoop, fd_l_scoop, g_l_scoop, k_l_scoop, b_l_scoop, G_l_scoop⟩ := (ok_l_scoop (P := P) (w := w) (base := base) T)
  obtain ⟨f_l_trial_factors, fd_l_trial_factors, g_l_trial_factors, k_l_trial_factors, b_l_trial_factors, G_l_trial_factors⟩ := (ok_l_trial_factors (P := P) (w := w) (base := base) T)
  obtain ⟨f_factored, fd_factored, g_factored, k_factored, b_factored, G_factored⟩ := (ok_factored (P := P) (w := w) (base := base) T)
  obtain ⟨f_is_prime, fd_is_prime, g_is_prime, k_is_prime, b_is_prime, G_is_prime⟩ := (ok_is_prime (P := P) (w := w) (base := base) T)
  refine ⟨f_, fd_, g_, F_.kp, F_.binds (ps := ["_law_vat_here"]) (fun _ _ _ _ _ _ us hl => match us, hl with | [_], _ => rfl), ?_⟩
  refine F_.ok sc_l_factors_right (fun vs H Q E h => ?_) (fun cdv A outer s H vs Q E hr h => ?_)
  · first | (obtain ⟨rfl, _⟩ := h; rfl) | (obtain ⟨_, rfl, _⟩ := h; rfl) | (obtain ⟨_, _, rfl, _⟩ := h; rfl) | (obtain ⟨_, _, _, rfl, _⟩ := h; rfl) | (obtain ⟨_, _, _, _, rfl, _⟩ := h; rfl) | (obtain ⟨_, _, _, _, _, rfl, _⟩ := h; rfl) | (obtain ⟨_, _, _, _, _, _, rfl, _⟩ := h; rfl) | (obtain ⟨_, _, _, _, _, _, _, rfl, _⟩ := h; rfl) | (obtain ⟨_, _, _, _, _, _, _, _, rfl, _⟩ := h; rfl) | (obtain ⟨_, _, _, _, _, _, _, _, _, rfl, _⟩ := h; rfl) | (obtain ⟨_, _, _, _, _, _, _, _, _, _, rfl, _⟩ := h; rfl) | (obtain ⟨_, _, _, _, _, _, _, _, _, _, _, rfl, _⟩ := h; rfl) | (obtain ⟨_, _, _, _, _, _, _, _, _, _, _, _, rfl, _⟩ := h; rfl) | (obtain ⟨_, _, _, _, _, _, _, _, _, _, _, _, _, rfl, _⟩ := h; rfl)
  · obtain ⟨c, rfl, hc, q⟩ := h
    refine ⟨_, (pss_cons (ps_set (i := 1) sc_l_factors_right.nd rfl (.inl rfl) pe_int)
    (pss_cons (ps_for PassesOwn.never rfl (pi_range1 (by rfl) T.b_range (pa_cons (pe_call G_l_scoop (hr.mono (by decide)) (by rfl) g_l_scoop k_l_scoop b_l_scoop .nil pass0 (pa_cons (pv 0) (pa_cons pe_int pa_nil))) pa_nil)) (pg_name (i := 2) sc_l_factors_right.nd rfl (.inl rfl))
      (pss_cons (ps_set (i := 3) sc_l_factors_right.nd rfl (.inl rfl) (pe_call G_l_from (hr.mono (by decide)) (by rfl) g_l_from k_l_from b_l_from .nil pass0 (pa_cons (pv 0) (pa_cons (pe_lst (pa_cons pe_int (pa_cons pe_int (pa_cons pe_int (pa_cons pe_int (pa_cons pe_int (pa_cons pe_int (pa_cons pe_int (pa_cons pe_int (pa_cons pe_int (pa_cons pe_int pa_nil))))))))))) pa_nil))))
    (pss_one (ps_set (i := 1) sc_l_factors_right.nd rfl (.inl rfl) (pe_ifExp (pt_cmpR op_le (pe_op op_mul (pv 1) (pv 3)) (pe_op op_pow pe_int pe_int) (nomark _)) (pe_op op_mul (pv 1) (pv 3)) (pv 1))))))
    (Evl.pss_cut (ps_set (i := 4) sc_l_factors_right.nd rfl (.inl rfl) (pe_op op_add pe_int (pe_call G_l_scoop (hr.mono (by decide)) (by rfl) g_l_scoop k_l_scoop b_l_scoop .nil pass0 (pa_cons (pv 0) (pa_cons (pe_call G_l_from (hr.mono (by decide)) (by rfl) g_l_from k_l_from b_l_from .nil pass0 (pa_cons (pv 0) (pa_cons (pe_lst (pa_cons pe_int (pa_cons (pe_op op_pow pe_int pe_int) (pa_cons (pe_op op_pow pe_int pe_int) pa_nil)))) pa_nil))) pa_nil)))))
    (pss_cons (ps_for PassesOwn.never rfl (pi_tup (pe_tup (pa_cons (pv 1) (pa_cons (pv 4) pa_nil)))) (pg_name (i := 5) sc_l_factors_right.nd rfl (.inl rfl))
      (pss_cons (ps_set (i := 6) sc_l_factors_right.nd rfl (.inl rfl) (pe_call G_factored (hr.mono (by decide)) (by rfl) g_factored k_factored b_factored .nil pass0 (pa_cons (pv 5) pa_nil)))
    (pss_cons (ps_if (pt_cmpR (op_neD hr.units) (pv 6) (pe_callTy call_tuple_of (by rfl) T.b_tuple (by decide +kernel) (pa_cons (pe_call G_l_trial_factors (hr.mono (by decide)) (by rfl) g_l_trial_factors k_l_trial_factors b_l_trial_factors .nil pass0 (pa_cons (pv 5) pa_nil)) pa_nil)) (nomark _))
      (pss_one (ps_ret pe_bl))
      pss_nil)
    (pss_one (ps_if (PW.pt (pw_and (pt_cmpR op_le (pv 5) (pe_op op_pow pe_int pe_int) (nomark _)) (pw_and1 (pt_cmpR op_ne (pe_call G_is_prime (hr.mono (by decide)) (by rfl) g_is_prime k_is_prime b_is_prime .nil pass0 (pa_cons (pv 5) pa_nil)) (pe_cmpR (op_eqD hr.units) (pv 6) (pe_tup (pa_cons (pe_tup (pa_cons (pv 5) (pa_cons pe_int pa_nil))) pa_nil)) (nomark _)) (nomark _)))))
      (pss_one (ps_ret pe_bl))
      pss_nil)))))
    (pss_one (ps_ret pe_bl)))))), ?_⟩
    refine ⟨_, rfl, c, 7, rfl, hc, by decide, by decide, fun r H1 r0 r1 e1 => ⟨_, rfl, by omega, by omega, ?_⟩⟩
    refine for_range (lo := 0) (n := r.toNat) (fun i σ H' => ∃ (m : Nat) (y2 y3 : Option V), σ = [some (.ref c), some (.int (m : Int)), y2, y3, none, none, none] ∧ Fv c H H' ∧ 1 ≤ m ∧ m ≤ 10000000) ⟨1, none, none, rfl, e1, by decide, by decide⟩ ?_ ?_
    · rintro i σ H' hi ⟨m, y2, y3, rfl, e2, m1, m2⟩
      refine ⟨_, rfl, slN (by decide), fun l nl => ?_⟩
      refine ⟨c, l, [.int 2, .int 2, .int 3, .int 3, .int 5, .int 7, .int 11, .int 97, .int 101, .int 997], rfl, vat_new e2.1 nl, upd_same, fv_ne e2.1 nl, by simp, by decide, fun v H3 hv e3 => ?_⟩
      obtain ⟨f, rfl, f1, f2⟩ := in_b (lo := 2) (hi := 997) hv (by decide)
      obtain ⟨ff, rfl⟩ : ∃ ff : Nat, f = (ff : Int) := ⟨f.toNat, by omega⟩
      have e4 : Fv c H H3 := (e2.trans (fv_new e2.1 nl)).trans e3
      have mc : (m : Int) * (ff : Int) = ((m * ff : Nat) : Int) := (Int.natCast_mul m ff).symm
      refine ⟨_, rfl, _, rfl, _, _, rfl, rfl, .inl ⟨by omega, by omega⟩, _, _, rfl, rfl, ⟨by decide, by decide, by decide⟩, _, _, rfl, rfl, _, rfl, iteD (fun g => ?_) (fun g => ?_)⟩
      · refine ⟨_, rfl, _, rfl, _, _, rfl, rfl, .inl ⟨by omega, by omega⟩, ?_⟩
        refine ⟨m * ff, some (.int (0 + (i : Int))), some (.int (ff : Int)), ?_, e4, Nat.le_trans m1 (Nat.le_mul_of_pos_right _ (by omega)), ?_⟩
        · rw [← mc]
          rfl
        · have g2 : (m : Int) * (ff : Int) ≤ 10000000 := Int.le_trans g (by decide)
          omega
      · exact ⟨_, rfl, m, _, _, rfl, e4, m1, m2⟩
    · rintro σ H' ⟨m, y2, y3, rfl, e2, m1, m2⟩
      refine ⟨fun σ H' => ∃ (o : Nat), σ = [some (.ref c), some (.int (m : Int)), y2, y3, some (.int (o : Int)), none, none] ∧ Fv c H H' ∧ 1 ≤ o ∧ o ≤ 100000000, ?_, ?_⟩
      · refine ⟨_, rfl, _, rfl, _, _, rfl, rfl, ⟨by decide, by decide, by decide⟩, _, _, rfl, rfl, ⟨by decide, by decide, by decide⟩, slN (by decide), fun l nl => ?_⟩
        refine ⟨c, l, [.int 30, .int 10000, .int 100000000], rfl, vat_new e2.1 nl, upd_same, fv_ne e2.1 nl, by simp, by decide, fun v H3 hv e3 => ?_⟩
        obtain ⟨f, rfl, f1, f2⟩ := in_b (lo := 30) (hi := 100000000) hv (by decide)
        have e4 : Fv c H H3 := (e2.trans (fv_new e2.1 nl)).trans e3
        refine ⟨c, f, rfl, e4.1, by omega, by omega, fun z H4 z0 z1 e5 => ⟨_, _, rfl, rfl, ?_⟩⟩
        refine ⟨(1 + z).toNat, ?_, e4.trans e5, by omega, by omega⟩
        rw [Int.toNat_of_nonneg (by omega)]
        rfl
      rintro σ H' ⟨o, rfl, e3, o1, o2⟩
      refine ⟨_, rfl, _, rfl, sl2, fun t nt => ?_⟩
      have e4 : Fv c H (upd H' t (.tup [.int (m : Int), .int (o : Int)])) := e3.trans (fv_new e3.1 nt)
      have tc : t ≠ c := fv_ne e3.1 nt
      refine ⟨t, rfl, ⟨_, SqT.of upd_same⟩, for_tup (xs := [.int (m : Int), .int (o : Int)]) (fun i σ H'' => (∃ y5 y6, σ = [some (.ref c), some (.int (m : Int)), y2, y3, some (.int (o : Int)), y5, y6]) ∧ Fv c H H'' ∧ H'' t = some (.tup [.int (m : Int), .int (o : Int)])) ⟨⟨none, none, rfl⟩, e4, upd_same⟩ (fun i σ H'' _ ⟨_, _, z⟩ => SqT.of z) ?_ ?_⟩
      · rintro i x σ H'' hx ⟨⟨y5, y6, rfl⟩, e5, ht⟩
        obtain ⟨n, rfl, n1, n2⟩ : ∃ n : Nat, x = V.int (n : Int) ∧ 1 ≤ n ∧ n ≤ 100000000 := by
          match i, hx with
          | 0, h => exact ⟨m, (Option.some.inj h).symm, m1, by omega⟩
          | 1, h => exact ⟨o, (Option.some.inj h).symm, o1, o2⟩
        refine ⟨_, rfl, n, rfl, n1, by omega, fun p H6 e6 ⟨xs, hp, hP⟩ => ?_⟩
        refine ⟨_, rfl, _, rfl, n, rfl, n1, by omega, fun l H7 ys e7 hl hL => ?_⟩
        refine ⟨l, ys, rfl, .inl ⟨SqL.of hl, fun u nu => ?_⟩⟩
        have e8 : Ex0 H7 (upd H7 u (.tup ys)) := Ex0.new nu
        have hp8 := Ex0.ap e8 (Ex0.ap e7 hp)
        refine ⟨.tuple ((fac n).map pr2), .tuple ((fac n).map pr2), .tup (SqT.of hp8) (hP.mono fun a b z => Ex0.ap e8 (Ex0.ap e7 z)).dp, .tup (SqT.of upd_same) (hL.mono fun a b z => Ex0.ap e8 z).dp, shaped_prs _, shaped_prs _, _, rfl, ?_⟩
        rw [PyData.eqv, eqv_prs]
        refine ndF rfl ?_
        have e68 : Ex0 H'' (upd H7 u (.tup ys)) := (e6.trans e7).trans e8
        have e58 : Fv c H (upd H7 u (.tup ys)) := e5.trans (fv_ex e5.1 e68)
        have ht8 := Ex0.ap e68 ht
        refine ⟨_, rfl, _, _, rfl, rfl, ⟨by decide, by decide, by decide⟩, _, _, rfl, rfl, _, rfl, iteD (fun g => ?_) (fun g => ?_)⟩
        · have g2 : (n : Int) ≤ 1000000 := Int.le_trans g (by decide)
          have fin : ∀ b : Bool, (b = true ↔ Pr n) → ∀ (σ : L2.St), True := fun _ _ _ => trivial
          refine ⟨_, rfl, n, rfl, by omega, fun hpr => ?_, fun hpr => ?_⟩
          · refine ⟨_, rfl, _, rfl, sl2, fun t1 nt1 => ⟨sl1, fun t2 nt2 => ?_⟩⟩
            have e9 : Ex0 (upd H7 u (.tup ys)) (upd (upd (upd H7 u (.tup ys)) t1 (.tup [.int (n : Int), .int 1])) t2 (.tup [.ref t1])) := (Ex0.new nt1).trans (Ex0.new nt2)
            have h1 : (upd (upd (upd H7 u (.tup ys)) t1 (.tup [.int (n : Int), .int 1])) t2 (.tup [.ref t1])) t1 = some (.tup [.int (n : Int), .int 1]) := Ex0.ap (Ex0.new nt2) upd_same
            refine ⟨.tuple ((fac n).map pr2), .tuple ([(n, 1)].map pr2), .tup (SqT.of (Ex0.ap e9 hp8)) (hP.mono fun a b z => Ex0.ap e9 (Ex0.ap e8 (Ex0.ap e7 z))).dp, .tup (SqT.of upd_same) (.cons (.tup (SqT.of h1) (.cons (.int _) (.cons (.int _) .nil))) .nil), shaped_prs _, shaped_prs _, rfl, _, rfl, ?_⟩
            rw [PyData.eqv, eqv_prs, decide_eq_true ((fac_pr n1).mpr hpr)]
            refine ndF rfl ?_
            exact ⟨⟨_, _, rfl⟩, e58.trans (fv_ex e58.1 e9), Ex0.ap e9 ht8⟩
          · refine ⟨_, rfl, _, rfl, sl2, fun t1 nt1 => ⟨sl1, fun t2 nt2 => ?_⟩⟩
            have e9 : Ex0 (upd H7 u (.tup ys)) (upd (upd (upd H7 u (.tup ys)) t1 (.tup [.int (n : Int), .int 1])) t2 (.tup [.ref t1])) := (Ex0.new nt1).trans (Ex0.new nt2)
            have h1 : (upd (upd (upd H7 u (.tup ys)) t1 (.tup [.int (n : Int), .int 1])) t2 (.tup [.ref t1])) t1 = some (.tup [.int (n : Int), .int 1]) := Ex0.ap (Ex0.new nt2) upd_same
            refine ⟨.tuple ((fac n).map pr2), .tuple ([(n, 1)].map pr2), .tup (SqT.of (Ex0.ap e9 hp8)) (hP.mono fun a b z => Ex0.ap e9 (Ex0.ap e8 (Ex0.ap e7 z))).dp, .tup (SqT.of upd_same) (.cons (.tup (SqT.of h1) (.cons (.int _) (.cons (.int _) .nil))) .nil), shaped_prs _, shaped_prs _, rfl, _, rfl, ?_⟩
            rw [PyData.eqv, eqv_prs, decide_eq_false (fun z => hpr ((fac_pr n1).mp z))]
            refine ndF rfl ?_
            exact ⟨⟨_, _, rfl⟩, e58.trans (fv_ex e58.1 e9), Ex0.ap e9 ht8⟩
        · exact ⟨⟨_, _, rfl⟩, e58, ht8⟩
      · rintro σ H'' ⟨_, e5, _⟩
        exact q H'' e5
theorem ok_l_basic_right (T : Txt K mg) : Def P w K mg base 8 "_law_basic_right" ["_law_vat_here"] (sp_l_basic_right K) := by
  obtain ⟨f_, fd_, g_, F_⟩ := T.d_l_basic_right
  obtain ⟨f_l_is_basic, fd_l_is_basic, g_l_is_basic, k_l_is_basic, b_l_is_basic, G_l_is_basic⟩ := (ok_l_is_basic (P := P) (w := w) (base := base) T)
  obtain ⟨f_l_size, fd_l_size, g_l_size, k_l_size, b_l_size, G_l_size⟩ := (ok_l_size (P := P) (w := w) (base := base) T)
  obtain ⟨f_is_fundamental, fd_is_fundamental, g_is_fundamental, k_is_fundamental, b_is_fundamental, G_is_fundamental⟩ := (ok_is_fundamental (P := P) (w := w) (base := base) T)
  refine ⟨f_, fd_, g_, F_.kp, F_.binds (ps := ["_law_vat_here"]) (fun _ _ _ _ _ _ us hl => match us, hl with | [_], _ => rfl), ?_⟩
  refine F_.ok sc_l_basic_right (fun vs H Q E h => ?_) (fun cdv A outer s H vs Q E hr h => ?_)
  · first | (obtain ⟨rfl, _⟩ := h; rfl) | (obtain ⟨_, rfl, _⟩ := h; rfl) | (obtain ⟨_, _, rfl, _⟩ := h; rfl) | (obtain ⟨_, _, _, rfl, _⟩ := h; rfl) | (obtain ⟨_, _, _, _, rfl, _⟩ := h; rfl) | (obtain ⟨_, _, _, _, _, rfl, _⟩ := h; rfl) | (obtain ⟨_, _, _, _, _, _, rfl, _⟩ := h; rfl) | (obtain ⟨_, _, _, _, _, _, _, rfl, _⟩ := h; rfl) | (obtain ⟨_, _, _, _, _, _, _, _, rfl, _⟩ := h; rfl) | (obtain ⟨_, _, _, _, _, _, _, _, _, rfl, _⟩ := h; rfl) | (obtain ⟨_, _, _, _, _, _, _, _, _, _, rfl, _⟩ := h; rfl) | (obtain ⟨_, _, _, _, _, _, _, _, _, _, _, rfl, _⟩ := h; rfl) | (obtain ⟨_, _, _, _, _, _, _, _, _, _, _, _, rfl, _⟩ := h; rfl) | (obtain ⟨_, _, _, _, _, _, _, _, _, _, _, _, _, rfl, _⟩ := h; rfl)
  · obtain ⟨c, rfl, hc, q⟩ := h
    refine ⟨_, (pss_cons (ps_setLc (i := 1) (own := [("_law_turn", 2)]) (g := (gName 2)) rfl sc_l_basic_right.nd rfl rfl (sw_true rfl rfl rfl (by decide +kernel)) (pi_range1 (by rfl) T.b_range (pa_cons pe_int pa_nil)) (blkOk_by (N := N_l_basic_right) (sc := defScope s_l_basic_right) (by decide +kernel)) (fun _ _ _ _ _ => (pg_name (i := 2) sc_l_basic_right.nd rfl (.inl rfl))) (fun _ _ _ _ _ => pts_nil) (fun _ _ _ _ _ => (pe_call G_l_size (hr.mono (by decide)) (by rfl) g_l_size k_l_size b_l_size .nil pass0 (pa_cons (pv 0) (pa_cons pe_int pa_nil)))))
    (pss_cons (ps_expr (pe_bm PySem.F.plainAttrs_list PySem.F.slot_list_append PySem.F.type_list_append mt_append (pv 1) (pa_cons (pe_op op_mul pe_int (pe_call G_l_size (hr.mono (by decide)) (by rfl) g_l_size k_l_size b_l_size .nil pass0 (pa_cons (pv 0) (pa_cons (pe_op op_pow pe_int pe_int) pa_nil)))) pa_nil)))
    (pss_cons (ps_expr (pe_bm PySem.F.plainAttrs_list PySem.F.slot_list_append PySem.F.type_list_append mt_append (pv 1) (pa_cons (pe_op op_add (pe_op op_mul pe_int (pe_call G_l_size (hr.mono (by decide)) (by rfl) g_l_size k_l_size b_l_size .nil pass0 (pa_cons (pv 0) (pa_cons (pe_op op_pow pe_int pe_int) pa_nil)))) pe_int) pa_nil)))
    (pss_cons (ps_expr (pe_bm PySem.F.plainAttrs_list PySem.F.slot_list_append PySem.F.type_list_append mt_append (pv 1) (pa_cons (pe_op op_mul pe_int (pe_op op_add (pe_op op_mul pe_int (pe_call G_l_size (hr.mono (by decide)) (by rfl) g_l_size k_l_size b_l_size .nil pass0 (pa_cons (pv 0) (pa_cons pe_int pa_nil)))) pe_int)) pa_nil)))
    (pss_one (ps_ret (pe_cmpR (op_eqD hr.units) (pe_lc (own := [("_law_number", 3)]) (g := (gName 3)) rfl sc_l_basic_right.nd (pi_list (pv 1)) (blkOk_by (N := N_l_basic_right) (sc := defScope s_l_basic_right) (by decide +kernel)) (fun _ _ _ _ _ => (pg_name (i := 3) sc_l_basic_right.nd rfl (.inl rfl))) (fun _ _ _ _ _ => (pts_one (pt_cmpR op_ne (pe_call G_is_fundamental (hr.mono (by decide)) (by rfl) g_is_fundamental k_is_fundamental b_is_fundamental .nil pass0 (pa_cons (pv 3) pa_nil)) (pe_call G_l_is_basic (hr.mono (by decide)) (by rfl) g_l_is_basic k_l_is_basic b_l_is_basic .nil pass0 (pa_cons (pv 3) pa_nil)) (nomark _)))) (fun _ _ _ _ _ => (pv 3))) (pe_lst pa_nil) (nomark _)))))))), ?_⟩
    have ok : ∀ n : Int, n.natAbs ≤ 1000000000 → n.natAbs ≤ 1000000000 := fun _ h => h
    refine ⟨_, rfl, by decide, by decide, ?_⟩
    refine lcR (fmV c) hc (fun i acc _ => ∃ ns : List Int, acc = ns.map V.int ∧ ns.length = i ∧ ∀ n ∈ ns, n.natAbs ≤ 1000000000) (fun _ _ => ⟨[], rfl, rfl, fun _ h => by cases h⟩) (fun D i acc H3 hD hi e3 hA hlen hp => ?_) (fun D H3 acc hD e3 hA hp => ?_)
    · obtain ⟨ns, rfl, hln, hns⟩ := hp
      refine ⟨rfl, ?_⟩
      refine ⟨_, rfl, c, 60, rfl, e3.1, by decide, by decide, fun z H4 z0 z1 e4 => ?_⟩
      refine cs_yes (fmV c) hc hD e3 hA hlen (by omega) e4 ⟨ns ++ [z], by rw [List.map_append]; rfl, by rw [List.length_append, hln]; rfl, fun n hn => ?_⟩
      rcases List.mem_append.mp hn with h | h
      · exact hns n h
      · have : n = z := by simpa using h
        rw [this]
        omega
    · obtain ⟨ns, rfl, hln, hns⟩ := hp
      have hl6 : ns.length = 6 := hln
      have Dc : D ≠ c := fv_ne hc hD
      refine ⟨_, rfl, .inl ⟨rfl, _, SqL.of hA⟩, _, rfl, _, _, rfl, rfl, ⟨by decide, by decide, by decide⟩, c, 10000, rfl, e3.1, by decide, by decide, fun z1 H4 a1 b1 e4 => ⟨_, _, rfl, rfl, .inl ⟨by decide, by decide⟩, ?_⟩⟩
      have hA4 : H4 D = some (.lst (ns.map V.int)) := e4.2 _ _ Dc hA
      refine ⟨D, _, _, rfl, rfl, hA4, Nat.lt_of_le_of_lt (by rw [List.length_map]; omega : _ ≤ 6) (by decide), ?_⟩
      have e5 : Fv c H (upd H4 D (.lst (ns.map V.int ++ [V.int (4 * z1)]))) := Fx.mut (fmV c) (e3.trans e4) hc hD
      refine ⟨_, rfl, .inl ⟨rfl, _, SqL.of upd_same⟩, _, rfl, _, _, rfl, rfl, ⟨by decide, by decide, by decide⟩, c, 100000, rfl, e5.1, by decide, by decide, fun z2 H6 a2 b2 e6 => ⟨_, _, rfl, rfl, .inl ⟨by decide, by decide⟩, _, _, rfl, rfl, ?_⟩⟩
      have hA6 : H6 D = some (.lst (ns.map V.int ++ [V.int (4 * z1)])) := e6.2 _ _ Dc upd_same
      refine ⟨D, _, _, rfl, rfl, hA6, Nat.lt_of_le_of_lt (by rw [List.length_append, List.length_map]; show ns.length + 1 ≤ 7; omega : _ ≤ 7) (by decide), ?_⟩
      have e7 : Fv c H (upd H6 D (.lst (ns.map V.int ++ [V.int (4 * z1)] ++ [V.int (4 * z2 + 1)]))) := Fx.mut (fmV c) (e5.trans e6) hc hD
      refine ⟨_, rfl, .inl ⟨rfl, _, SqL.of upd_same⟩, _, rfl, c, 1000, rfl, e7.1, by decide, by decide, fun z3 H8 a3 b3 e8 => ⟨_, _, rfl, rfl, .inl ⟨by decide, by decide⟩, _, _, rfl, rfl, _, _, rfl, rfl, .inl ⟨by decide, by decide⟩, ?_⟩⟩
      have hA8 : H8 D = some (.lst (ns.map V.int ++ [V.int (4 * z1)] ++ [V.int (4 * z2 + 1)])) := e8.2 _ _ Dc upd_same
      refine ⟨D, _, _, rfl, rfl, hA8, Nat.lt_of_le_of_lt (by rw [List.length_append, List.length_append, List.length_map]; show ns.length + 1 + 1 ≤ 8; omega : _ ≤ 8) (by decide), ?_⟩
      have e9 : Fv c H (upd H8 D (.lst (ns.map V.int ++ [V.int (4 * z1)] ++ [V.int (4 * z2 + 1)] ++ [V.int (8 * (2 * z3 + 1))]))) := Fx.mut (fmV c) (e7.trans e8) hc hD
      refine ⟨_, rfl, D, rfl, ⟨_, SqL.of upd_same⟩, ?_⟩
      have all : ∀ (x : V), x ∈ ns.map V.int ++ [V.int (4 * z1)] ++ [V.int (4 * z2 + 1)] ++ [V.int (8 * (2 * z3 + 1))] → ∃ n : Int, x = V.int n ∧ n.natAbs ≤ 1000000000 := fun x hx => by
        simp only [List.mem_append, List.mem_map, List.mem_singleton] at hx
        rcases hx with ((⟨n, hn, rfl⟩ | rfl) | rfl) | rfl
        · exact ⟨n, rfl, hns n hn⟩
        · exact ⟨_, rfl, by omega⟩
        · exact ⟨_, rfl, by omega⟩
        · exact ⟨_, rfl, by omega⟩
      refine lcL fm0 trivial (SqL.of upd_same) (fun z => z) (fun i acc _ => acc = []) (fun _ _ => rfl) (fun E2 i x acc H10 hE hx e10 hA10 hlen10 hp10 => ?_) (fun E2 H10 acc hE e10 hA10 hp10 => ?_)
      · obtain ⟨n, rfl, hn⟩ := all x (List.mem_of_getElem? hx)
        refine ⟨rfl, ?_⟩
        refine ⟨_, rfl, n, rfl, hn, fun H11 e11 => ⟨_, rfl, n, rfl, hn, fun H12 e12 => ⟨rfl, _, rfl, ?_⟩⟩⟩
        refine ndF rfl ?_
        exact cs_no fm0 trivial hE e10 hA10 hlen10 (e11.trans e12) hp10
      · subst hp10
        refine ⟨Nat.zero_le _, fun u nu => ?_⟩
        have hEu : E2 ≠ u := ne_of_none hA10 nu
        refine ⟨.list (([] : List Int).map .int), .list (([] : List Int).map .int), .lst (SqL.of (by rw [upd_ne hEu]; exact hA10)) .nil, .lst (SqL.of upd_same) .nil, shaped_ints [], shaped_ints [], ?_⟩
        exact q _ (e9.trans (fv_ex e9.1 (e10.trans (Ex0.new nu))))
theorem ok_law0 (T : Txt K mg) {f_ : Addr} {fd_ : FuncData} (F_ : Fun K "law" "law" s_law f_ fd_) : FnOk P w K mg base CX0 9 f_ fd_ ["_law_script"] (sp_law K) := by
  obtain ⟨f_l_basic_right, fd_l_basic_right, g_l_basic_right, k_l_basic_right, b_l_basic_right, G_l_basic_right⟩ := (ok_l_basic_right (P := P) (w := w) (base := base) T)
  obtain ⟨f_l_divisors_right, fd_l_divisors_right, g_l_divisors_right, k_l_divisors_right, b_l_divisors_right, G_l_divisors_right⟩ := (ok_l_divisors_right (P := P) (w := w) (base := base) T)
  obtain ⟨f_l_factors_right, fd_l_factors_right, g_l_factors_right, k_l_factors_right, b_l_factors_right, G_l_factors_right⟩ := (ok_l_factors_right (P := P) (w := w) (base := base) T)
  obtain ⟨f_l_roots_right, fd_l_roots_right, g_l_roots_right, k_l_roots_right, b_l_roots_right, G_l_roots_right⟩ := (ok_l_roots_right (P := P) (w := w) (base := base) T)
  obtain ⟨f_l_vat, fd_l_vat, g_l_vat, k_l_vat, b_l_vat, G_l_vat⟩ := (ok_l_vat (P := P) (w := w) (base := base) T)
  obtain ⟨f_common_divisor, fd_common_divisor, g_common_divisor, k_common_divisor, b_common_divisor, G_common_divisor⟩ := (ok_common_divisor (P := P) (w := w) (base := base) T)
  obtain ⟨f_factored, fd_factored, g_factored, k_factored, b_factored, G_factored⟩ := (ok_factored (P := P) (w := w) (base := base) T)
  obtain ⟨f_is_fundamental, fd_is_fundamental, g_is_fundamental, k_is_fundamental, b_is_fundamental, G_is_fundamental⟩ := (ok_is_fundamental (P := P) (w := w) (base := base) T)
  obtain ⟨f_is_prime, fd_is_prime, g_is_prime, k_is_prime, b_is_prime, G_is_prime⟩ := (ok_is_prime (P := P) (w := w) (base := base) T)
  refine F_.ok sc_law (fun vs H Q E h => ?_) (fun cdv A outer s H vs Q E hr h => ?_)
  · first | (obtain ⟨rfl, _⟩ := h; rfl) | (obtain ⟨_, rfl, _⟩ := h; rfl) | (obtain ⟨_, _, rfl, _⟩ := h; rfl) | (obtain ⟨_, _, _, rfl, _⟩ := h; rfl) | (obtain ⟨_, _, _, _, rfl, _⟩ := h; rfl) | (obtain ⟨_, _, _, _, _, rfl, _⟩ := h; rfl) | (obtain ⟨_, _, _, _, _, _, rfl, _⟩ := h; rfl) | (obtain ⟨_, _, _, _, _, _, _, rfl, _⟩ := h; rfl) | (obtain ⟨_, _, _, _, _, _, _, _, rfl, _⟩ := h; rfl) | (obtain ⟨_, _, _, _, _, _, _, _, _, rfl, _⟩ := h; rfl) | (obtain ⟨_, _, _, _, _, _, _, _, _, _, rfl, _⟩ := h; rfl) | (obtain ⟨_, _, _, _, _, _, _, _, _, _, _, rfl, _⟩ := h; rfl) | (obtain ⟨_, _, _, _, _, _, _, _, _, _, _, _, rfl, _⟩ := h; rfl) | (obtain ⟨_, _, _, _, _, _, _, _, _, _, _, _, _, rfl, _⟩ := h; rfl)
  · obtain ⟨a, ns, rfl, hS, hn, q⟩ := h
    refine ⟨_, (pss_cons (ps_for PassesOwn.never rfl (pi_range1 (by rfl) T.b_range (pa_cons (pe_callB (call_max2 rfl) (by rfl) T.b_max (by decide +kernel) (pa_cons pe_int (pa_cons (pe_callB (call_min2 rfl) (by rfl) T.b_min (by decide +kernel) (pa_cons pe_int (pa_cons (pe_callB call_len_seq (by rfl) T.b_len PySem.boot_len (pa_cons (pv 0) pa_nil)) pa_nil))) pa_nil))) pa_nil)) (pg_name (i := 1) sc_law.nd rfl (.inl rfl))
      (pss_cons (ps_set (i := 2) sc_law.nd rfl (.inl rfl) (pe_call G_l_vat (hr.mono (by decide)) (by rfl) g_l_vat k_l_vat b_l_vat .nil pass0 (pa_cons (pv 0) (pa_cons (pv 1) pa_nil))))
    (pss_cons (ps_for PassesOwn.never rfl (pi_range1 (by rfl) T.b_range (pa_cons pe_int pa_nil)) (pg_name (i := 3) sc_law.nd rfl (.inl rfl))
      (pss_one (ps_if (PW.pt (pw_or (pt_not (pt_val (pe_call G_l_divisors_right (hr.mono (by decide)) (by rfl) g_l_divisors_right k_l_divisors_right b_l_divisors_right .nil pass0 (pa_cons (pv 2) pa_nil)))) (pw_or (pt_not (pt_val (pe_call G_l_roots_right (hr.mono (by decide)) (by rfl) g_l_roots_right k_l_roots_right b_l_roots_right .nil pass0 (pa_cons (pv 2) pa_nil)))) (pw_or1 (pt_not (pt_val (pe_call G_l_basic_right (hr.mono (by decide)) (by rfl) g_l_basic_right k_l_basic_right b_l_basic_right .nil pass0 (pa_cons (pv 2) pa_nil))))))))
      (pss_one (ps_ret pe_bl))
      pss_nil)))
    (pss_one (ps_if (pt_not (pt_val (pe_call G_l_factors_right (hr.mono (by decide)) (by rfl) g_l_factors_right k_l_factors_right b_l_factors_right .nil pass0 (pa_cons (pv 2) pa_nil))))
      (pss_one (ps_ret pe_bl))
      pss_nil)))))
    (pss_cons (ps_set (i := 4) sc_law.nd rfl (.inl rfl) (pe_lst (pa_cons (pe_call G_is_prime (hr.mono (by decide)) (by rfl) g_is_prime k_is_prime b_is_prime .nil pass0 (pa_cons pe_int pa_nil)) (pa_cons (pe_call G_is_prime (hr.mono (by decide)) (by rfl) g_is_prime k_is_prime b_is_prime .nil pass0 (pa_cons pe_int pa_nil)) (pa_cons (pe_call G_is_prime (hr.mono (by decide)) (by rfl) g_is_prime k_is_prime b_is_prime .nil pass0 (pa_cons pe_int pa_nil)) (pa_cons (pe_call G_is_prime (hr.mono (by decide)) (by rfl) g_is_prime k_is_prime b_is_prime .nil pass0 (pa_cons pe_int pa_nil)) (pa_cons (pe_call G_is_prime (hr.mono (by decide)) (by rfl) g_is_prime k_is_prime b_is_prime .nil pass0 (pa_cons (pe_op op_mul pe_int pe_int) pa_nil)) (pa_cons (pe_call G_is_fundamental (hr.mono (by decide)) (by rfl) g_is_fundamental k_is_fundamental b_is_fundamental .nil pass0 (pa_cons pe_int pa_nil)) (pa_cons (pe_call G_is_fundamental (hr.mono (by decide)) (by rfl) g_is_fundamental k_is_fundamental b_is_fundamental .nil pass0 (pa_cons pe_int pa_nil)) pa_nil)))))))))
    (pss_cons (ps_if (PW.pt (pw_or (pt_cmpR (op_neD hr.units) (pv 4) (pe_lst (pa_cons pe_bl (pa_cons pe_bl (pa_cons pe_bl (pa_cons pe_bl (pa_cons pe_bl (pa_cons pe_bl (pa_cons pe_bl pa_nil)))))))) (nomark _)) (pw_or1 (pt_cmpR (op_neD hr.units) (pe_call G_factored (hr.mono (by decide)) (by rfl) g_factored k_factored b_factored .nil pass0 (pa_cons (pe_op op_mul pe_int pe_int) pa_nil)) (pe_tup (pa_cons (pe_tup (pa_cons pe_int (pa_cons pe_int pa_nil))) (pa_cons (pe_tup (pa_cons pe_int (pa_cons pe_int pa_nil))) pa_nil))) (nomark _)))))
      (pss_one (ps_ret pe_bl))
      pss_nil)
    (pss_cons (ps_setLc (i := 5) (own := [("_law_number", 6)]) (g := (gName 6)) rfl sc_law.nd rfl rfl (sw_true rfl rfl rfl (by decide +kernel)) (pi_range2 (by rfl) T.b_range (pa_cons (pe_un un_neg pe_int) (pa_cons pe_int pa_nil))) (blkOk_by (N := N_law) (sc := defScope s_law) (by decide +kernel)) (fun _ _ _ _ _ => (pg_name (i := 6) sc_law.nd rfl (.inl rfl))) (fun _ _ _ _ _ => (pts_one (pt_val (pe_call G_is_fundamental (hr.mono (by decide)) (by rfl) g_is_fundamental k_is_fundamental b_is_fundamental .nil pass0 (pa_cons (pv 6) pa_nil))))) (fun _ _ _ _ _ => (pv 6)))
    (pss_one (ps_ret (pe_and (pe_cmpR (op_eqD hr.units) (pv 5) (pe_lst (pa_cons (pe_un un_neg pe_int) (pa_cons (pe_un un_neg pe_int) (pa_cons (pe_un un_neg pe_int) (pa_cons (pe_un un_neg pe_int) (pa_cons (pe_un un_neg pe_int) (pa_cons (pe_un un_neg pe_int) (pa_cons (pe_un un_neg pe_int) (pa_cons (pe_un un_neg pe_int) (pa_cons (pe_un un_neg pe_int) (pa_cons (pe_un un_neg pe_int) (pa_cons pe_int (pa_cons pe_int (pa_cons pe_int (pa_cons pe_int (pa_cons pe_int pa_nil)))))))))))))))) (nomark _)) (pe_one (pe_cmpR op_eq (pe_call G_common_divisor (hr.mono (by decide)) (by rfl) g_common_divisor k_common_divisor b_common_divisor .nil pass0 (pa_cons (pe_tup pa_nil) pa_nil)) pe_int (nomark _)))))))))), ?_⟩
    have hm : ∀ z : Int, z ≤ 63 → -(2 ^ 62) ≤ (if (if z < 3 then z else 3) > 1 then (if z < 3 then z else 3) else 1) ∧ (if (if z < 3 then z else 3) > 1 then (if z < 3 then z else 3) else 1) < 2 ^ 62 := fun z hz => by
      split <;> split <;> omega
    have hm2 := hm (((ns.map V.int).length : Nat) : Int) (by rw [List.length_map]; omega)
    refine ⟨_, rfl, a, _, rfl, .inl hS, _, _, rfl, _, _, rfl, _, rfl, hm2.1, hm2.2, ?_⟩
    refine for_range (lo := 0) (fun i σ H' => ∃ y1 y2 y3, σ = [some (.ref a), y1, y2, y3, none, none, none] ∧ Ex0 H H') ⟨none, none, none, rfl, Ex0.refl H⟩ ?_ ?_
    · rintro i σ H' hi ⟨y1, y2, y3, rfl, e⟩
      refine ⟨_, rfl, _, rfl, a, ns, i, by show [V.ref a, V.int (0 + (i : Int))] = _; rw [Int.zero_add], e.sqL (fun z => z) hS, fun p H1 np e1 hv => ?_⟩
      have hp0 : H p = none := Fx.free e (fun z => z) np
      have e01 : Ex0 H H1 := e.trans e1
      refine ⟨_, rfl, by decide, by decide, ?_⟩
      refine for_range (lo := 0) (fun j σ H'' => (∃ y3, σ = [some (.ref a), some (.int (0 + (i : Int))), some (.ref p), y3, none, none, none]) ∧ Ex0 H H'' ∧ Vat p H'') ⟨⟨y3, rfl⟩, e01, hv⟩ ?_ ?_
      · rintro j σ H'' hj ⟨⟨y3, rfl⟩, e2, hv2⟩
        refine ⟨_, rfl, p, rfl, hv2, fun H3 e3 => ⟨_, rfl, ?_⟩⟩
        refine iteF ⟨_, rfl, p, rfl, e3.1, fun H4 e4 => ⟨_, rfl, ?_⟩⟩
        refine iteF ⟨_, rfl, p, rfl, e4.1, fun H5 e5 => ⟨_, rfl, ?_⟩⟩
        refine iteF ?_
        exact ⟨⟨_, rfl⟩, ex_fv e2 hp0 ((e3.trans e4).trans e5), e5.1⟩
      · rintro σ H'' ⟨⟨y3, rfl⟩, e2, hv2⟩
        refine ⟨_, rfl, p, rfl, hv2, fun H3 e3 => ⟨_, rfl, ?_⟩⟩
        refine iteF ?_
        exact ⟨_, _, _, rfl, ex_fv e2 hp0 e3⟩
    · rintro σ H' ⟨y1, y2, y3, rfl, e⟩
      refine ⟨0, rfl, by decide, fun z => absurd z.1 (by decide), fun _ => ?_⟩
      refine ⟨1, rfl, by decide, fun z => absurd z.1 (by decide), fun _ => ?_⟩
      refine ⟨2, rfl, by decide, fun _ => ?_, fun z => absurd pr_two z⟩
      refine ⟨999983, rfl, by decide, fun _ => ?_, fun z => absurd pr_a z⟩
      refine ⟨_, _, rfl, rfl, .inl ⟨by decide, by decide⟩, 988027, rfl, by decide, fun z => absurd z pr_b, fun _ => ?_⟩
      refine ⟨0, rfl, by decide, fun H1 e1 => ⟨1, rfl, by decide, fun H2 e2 => ⟨slN (by decide), fun l nl => ?_⟩⟩⟩
      refine ⟨_, rfl, slN (by decide), fun u nu => ?_⟩
      have hlu : l ≠ u := ne_of_none (show upd H2 l _ l = some _ from upd_same) nu
      refine ⟨.list [.bool false, .bool false, .bool true, .bool true, .bool false, .bool (fund 0), .bool (fund 1)], .list [.bool false, .bool false, .bool true, .bool true, .bool false, .bool false, .bool true], .lst (SqL.of (by rw [upd_ne hlu]; exact upd_same)) (.cons (.bl _) (.cons (.bl _) (.cons (.bl _) (.cons (.bl _) (.cons (.bl _) (.cons (.bl _) (.cons (.bl _) .nil))))))), .lst (SqL.of upd_same) (.cons (.bl _) (.cons (.bl _) (.cons (.bl _) (.cons (.bl _) (.cons (.bl _) (.cons (.bl _) (.cons (.bl _) .nil))))))), by decide +kernel, by decide +kernel, _, rfl, ?_⟩
      rw [fund_zero, fund_one]
      refine iteF ⟨_, _, rfl, rfl, .inl ⟨by decide, by decide⟩, 99991 * 99989, rfl, by decide, by decide, fun p H4 e4 ⟨xs, hp, hP⟩ => ?_⟩
      refine ⟨sl2, fun t1 n1 => ⟨sl2, fun t2 n2 => ⟨sl2, fun t3 n3 => ?_⟩⟩⟩
      have n12 : t1 ≠ t2 := ne_of_none (show upd H4 t1 _ t1 = some _ from upd_same) n2
      have x3 : Ex0 H4 (upd (upd (upd H4 t1 (.tup [.int 99989, .int 1])) t2 (.tup [.int 99991, .int 1])) t3 (.tup [.ref t1, .ref t2])) := ((Ex0.new n1).trans (Ex0.new n2)).trans (Ex0.new n3)
      have g1 : (upd (upd (upd H4 t1 (.tup [.int 99989, .int 1])) t2 (.tup [.int 99991, .int 1])) t3 (.tup [.ref t1, .ref t2])) t1 = some (.tup [.int 99989, .int 1]) := Ex0.ap (Ex0.new n3) (Ex0.ap (Ex0.new n2) upd_same)
      have g2 : (upd (upd (upd H4 t1 (.tup [.int 99989, .int 1])) t2 (.tup [.int 99991, .int 1])) t3 (.tup [.ref t1, .ref t2])) t2 = some (.tup [.int 99991, .int 1]) := Ex0.ap (Ex0.new n3) upd_same
      refine ⟨.tuple ((fac (99991 * 99989)).map pr2), .tuple ([(99989, 1), (99991, 1)].map pr2), .tup (SqT.of (Ex0.ap x3 hp)) (hP.mono fun a b z => Ex0.ap x3 z).dp, .tup (SqT.of upd_same) (.cons (.tup (SqT.of g1) (.cons (.int _) (.cons (.int _) .nil))) (.cons (.tup (SqT.of g2) (.cons (.int _) (.cons (.int _) .nil))) .nil)), shaped_prs _, shaped_prs _, _, rfl, ?_⟩
      rw [PyData.eqv, eqv_prs, decide_eq_true great_fac]
      refine iteF ?_
      refine ⟨_, rfl, _, _, rfl, ⟨by decide, by decide, by decide, by decide⟩, ?_⟩
      refine lcR fm0 trivial (fun i acc _ => acc = (((List.range i).filter fun (j : Nat) => fund ((-24 : Int) + (j : Int))).map fun (j : Nat) => ((-24 : Int) + (j : Int))).map V.int) (fun _ _ => rfl) (fun D i acc H6 hD hi e6 hA hlen hp6 => ?_) (fun D H6 acc hD e6 hA hp6 => ?_)
      · have hi' : i < 38 := hi
        have rs : ∀ b : Bool, fund ((-24 : Int) + (i : Int)) = b → (((List.range (i + 1)).filter fun (j : Nat) => fund ((-24 : Int) + (j : Int))).map fun (j : Nat) => ((-24 : Int) + (j : Int))).map V.int = acc ++ (if b = true then [V.int ((-24 : Int) + (i : Int))] else []) := fun b hb => by
          rw [hp6, List.range_succ, List.filter_append, List.map_append, List.map_append]
          congr 1
          rw [List.filter_cons, hb]
          cases b <;> rfl
        refine ⟨rfl, ?_⟩
        refine ⟨_, rfl, (-24 : Int) + (i : Int), rfl, by omega, fun H7 e7 => ⟨_, rfl, ?_⟩⟩
        refine iteB (fun hb => ?_) (fun hb => ?_)
        · refine ⟨_, rfl, ?_⟩
          refine cs_yes fm0 trivial hD e6 hA hlen (by omega) e7 ?_
          rw [rs true hb]
          rfl
        · refine cs_no fm0 trivial hD e6 hA hlen e7 ?_
          rw [rs false hb]
          exact (List.append_nil _).symm
      · have hacc : acc = [-24, -23, -20, -19, -15, -11, -8, -7, -4, -3, 1, 5, 8, 12, 13].map V.int := by
          rw [hp6]
          exact congrArg (List.map V.int) fund_some
        refine ⟨_, rfl, _, rfl, _, rfl, _, rfl, _, rfl, _, rfl, _, rfl, _, rfl, _, rfl, _, rfl, _, rfl, slN (by decide), fun v nv => ?_⟩
        have hDv : D ≠ v := ne_of_none hA nv
        refine ⟨.list ([-24, -23, -20, -19, -15, -11, -8, -7, -4, -3, 1, 5, 8, 12, 13].map .int), .list ([-24, -23, -20, -19, -15, -11, -8, -7, -4, -3, 1, 5, 8, 12, 13].map .int), .lst (SqL.of (by rw [upd_ne hDv, hA, hacc])) (dp_ints _), .lst (SqL.of upd_same) (dp_ints [-24, -23, -20, -19, -15, -11, -8, -7, -4, -3, 1, 5, 8, 12, 13]), shaped_ints _, shaped_ints _, _, rfl, ?_⟩
        rw [PyData.eqv, eqv_ints]
        refine dT rfl ?_
        refine ⟨Nat.zero_le _, fun t nt => ?_⟩
        refine ⟨t, [], rfl, upd_same, by decide, fun _ h => (by cases h), fun H9 e9 => ⟨rfl, ?_⟩⟩
        exact q H9
end
theorem all_mk {l : PySem.W.OpenLaw} {w : World} {K : PySem.W.Frag} {h : Heap} {mg : Str → Option Value} {fa : Addr} (X : K.In h) (G : h.Ns mainGlobals mg) (hfa : mg "law" = some (.ref fa))
    {f0 : Addr} {od0 an0 : Option Addr} {sl0 : Array (Option Value)} {oc0 kV0 dc0 pm0 cd0 ct0 : Value} (a0 : PySem.W.nsIn K mainGlobals "is_any_integer" = some (some (.ref f0))) (l0 : K.lookup f0 = some ⟨oc0, od0, .func (PySem.W.fnOf "is_any_integer" "is_any_integer" (defArgs s_is_any_integer) (defBody s_is_any_integer) (defScope s_is_any_integer) .none kV0 dc0 pm0 an0 cd0 ct0), sl0⟩) (c0 : PySem.W.codeIn K cd0 "is_any_integer" = true) (k0 : PySem.W.keepIn K (.ref f0) = true)
    {f1 : Addr} {od1 an1 : Option Addr} {sl1 : Array (Option Value)} {oc1 kV1 dc1 pm1 cd1 ct1 : Value} (a1 : PySem.W.nsIn K mainGlobals "is_short_integer" = some (some (.ref f1))) (l1 : K.lookup f1 = some ⟨oc1, od1, .func (PySem.W.fnOf "is_short_integer" "is_short_integer" (defArgs s_is_short_integer) (defBody s_is_short_integer) (defScope s_is_short_integer) .none kV1 dc1 pm1 an1 cd1 ct1), sl1⟩) (c1 : PySem.W.codeIn K cd1 "is_short_integer" = true) (k1 : PySem.W.keepIn K (.ref f1) = true)
    {f2 : Addr} {od2 an2 : Option Addr} {sl2 : Array (Option Value)} {oc2 kV2 dc2 pm2 cd2 ct2 : Value} (a2 : PySem.W.nsIn K mainGlobals "is_between" = some (some (.ref f2))) (l2 : K.lookup f2 = some ⟨oc2, od2, .func (PySem.W.fnOf "is_between" "is_between" (defArgs s_is_between) (defBody s_is_between) (defScope s_is_between) .none kV2 dc2 pm2 an2 cd2 ct2), sl2⟩) (c2 : PySem.W.codeIn K cd2 "is_between" = true) (k2 : PySem.W.keepIn K (.ref f2) = true)
    {f3 : Addr} {od3 an3 : Option Addr} {sl3 : Array (Option Value)} {oc3 kV3 dc3 pm3 cd3 ct3 : Value} (a3 : PySem.W.nsIn K mainGlobals "are_short_integers" = some (some (.ref f3))) (l3 : K.lookup f3 = some ⟨oc3, od3, .func (PySem.W.fnOf "are_short_integers" "are_short_integers" (defArgs s_are_short_integers) (defBody s_are_short_integers) (defScope s_are_short_integers) .none kV3 dc3 pm3 an3 cd3 ct3), sl3⟩) (c3 : PySem.W.codeIn K cd3 "are_short_integers" = true) (k3 : PySem.W.keepIn K (.ref f3) = true)
    {f4 : Addr} {od4 an4 : Option Addr} {sl4 : Array (Option Value)} {oc4 kV4 dc4 pm4 cd4 ct4 : Value} (a4 : PySem.W.nsIn K mainGlobals "check_between" = some (some (.ref f4))) (l4 : K.lookup f4 = some ⟨oc4, od4, .func (PySem.W.fnOf "check_between" "check_between" (defArgs s_check_between) (defBody s_check_between) (defScope s_check_between) .none kV4 dc4 pm4 an4 cd4 ct4), sl4⟩) (c4 : PySem.W.codeIn K cd4 "check_between" = true) (k4 : PySem.W.keepIn K (.ref f4) = true)
    {f5 : Addr} {od5 an5 : Option Addr} {sl5 : Array (Option Value)} {oc5 kV5 dc5 pm5 cd5 ct5 : Value} (a5 : PySem.W.nsIn K mainGlobals "shared_divisor" = some (some (.ref f5))) (l5 : K.lookup f5 = some ⟨oc5, od5, .func (PySem.W.fnOf "shared_divisor" "shared_divisor" (defArgs s_shared_divisor) (defBody s_shared_divisor) (defScope s_shared_divisor) .none kV5 dc5 pm5 an5 cd5 ct5), sl5⟩) (c5 : PySem.W.codeIn K cd5 "shared_divisor" = true) (k5 : PySem.W.keepIn K (.ref f5) = true)
    {f6 : Addr} {od6 an6 : Option Addr} {sl6 : Array (Option Value)} {oc6 kV6 dc6 pm6 cd6 ct6 : Value} (a6 : PySem.W.nsIn K mainGlobals "common_divisor" = some (some (.ref f6))) (l6 : K.lookup f6 = some ⟨oc6, od6, .func (PySem.W.fnOf "common_divisor" "common_divisor" (defArgs s_common_divisor) (defBody s_common_divisor) (defScope s_common_divisor) .none kV6 dc6 pm6 an6 cd6 ct6), sl6⟩) (c6 : PySem.W.codeIn K cd6 "common_divisor" = true) (k6 : PySem.W.keepIn K (.ref f6) = true)
    {f7 : Addr} {od7 an7 : Option Addr} {sl7 : Array (Option Value)} {oc7 kV7 dc7 pm7 cd7 ct7 : Value} (a7 : PySem.W.nsIn K mainGlobals "is_prime" = some (some (.ref f7))) (l7 : K.lookup f7 = some ⟨oc7, od7, .func (PySem.W.fnOf "is_prime" "is_prime" (defArgs s_is_prime) (defBody s_is_prime) (defScope s_is_prime) .none kV7 dc7 pm7 an7 cd7 ct7), sl7⟩) (c7 : PySem.W.codeIn K cd7 "is_prime" = true) (k7 : PySem.W.keepIn K (.ref f7) = true)
    {f8 : Addr} {od8 an8 : Option Addr} {sl8 : Array (Option Value)} {oc8 kV8 dc8 pm8 cd8 ct8 : Value} (a8 : PySem.W.nsIn K mainGlobals "times_within" = some (some (.ref f8))) (l8 : K.lookup f8 = some ⟨oc8, od8, .func (PySem.W.fnOf "times_within" "times_within" (defArgs s_times_within) (defBody s_times_within) (defScope s_times_within) .none kV8 dc8 pm8 an8 cd8 ct8), sl8⟩) (c8 : PySem.W.codeIn K cd8 "times_within" = true) (k8 : PySem.W.keepIn K (.ref f8) = true)
    {f9 : Addr} {od9 an9 : Option Addr} {sl9 : Array (Option Value)} {oc9 kV9 dc9 pm9 cd9 ct9 : Value} (a9 : PySem.W.nsIn K mainGlobals "factored" = some (some (.ref f9))) (l9 : K.lookup f9 = some ⟨oc9, od9, .func (PySem.W.fnOf "factored" "factored" (defArgs s_factored) (defBody s_factored) (defScope s_factored) .none kV9 dc9 pm9 an9 cd9 ct9), sl9⟩) (c9 : PySem.W.codeIn K cd9 "factored" = true) (k9 : PySem.W.keepIn K (.ref f9) = true)
    {f10 : Addr} {od10 an10 : Option Addr} {sl10 : Array (Option Value)} {oc10 kV10 dc10 pm10 cd10 ct10 : Value} (a10 : PySem.W.nsIn K mainGlobals "raised" = some (some (.ref f10))) (l10 : K.lookup f10 = some ⟨oc10, od10, .func (PySem.W.fnOf "raised" "raised" (defArgs s_raised) (defBody s_raised) (defScope s_raised) .none kV10 dc10 pm10 an10 cd10 ct10), sl10⟩) (c10 : PySem.W.codeIn K cd10 "raised" = true) (k10 : PySem.W.keepIn K (.ref f10) = true)
    {f11 : Addr} {od11 an11 : Option Addr} {sl11 : Array (Option Value)} {oc11 kV11 dc11 pm11 cd11 ct11 : Value} (a11 : PySem.W.nsIn K mainGlobals "whole_root" = some (some (.ref f11))) (l11 : K.lookup f11 = some ⟨oc11, od11, .func (PySem.W.fnOf "whole_root" "whole_root" (defArgs s_whole_root) (defBody s_whole_root) (defScope s_whole_root) .none kV11 dc11 pm11 an11 cd11 ct11), sl11⟩) (c11 : PySem.W.codeIn K cd11 "whole_root" = true) (k11 : PySem.W.keepIn K (.ref f11) = true)
    {f12 : Addr} {od12 an12 : Option Addr} {sl12 : Array (Option Value)} {oc12 kV12 dc12 pm12 cd12 ct12 : Value} (a12 : PySem.W.nsIn K mainGlobals "is_square_free" = some (some (.ref f12))) (l12 : K.lookup f12 = some ⟨oc12, od12, .func (PySem.W.fnOf "is_square_free" "is_square_free" (defArgs s_is_square_free) (defBody s_is_square_free) (defScope s_is_square_free) .none kV12 dc12 pm12 an12 cd12 ct12), sl12⟩) (c12 : PySem.W.codeIn K cd12 "is_square_free" = true) (k12 : PySem.W.keepIn K (.ref f12) = true)
    {f13 : Addr} {od13 an13 : Option Addr} {sl13 : Array (Option Value)} {oc13 kV13 dc13 pm13 cd13 ct13 : Value} (a13 : PySem.W.nsIn K mainGlobals "is_fundamental" = some (some (.ref f13))) (l13 : K.lookup f13 = some ⟨oc13, od13, .func (PySem.W.fnOf "is_fundamental" "is_fundamental" (defArgs s_is_fundamental) (defBody s_is_fundamental) (defScope s_is_fundamental) .none kV13 dc13 pm13 an13 cd13 ct13), sl13⟩) (c13 : PySem.W.codeIn K cd13 "is_fundamental" = true) (k13 : PySem.W.keepIn K (.ref f13) = true)
    {f14 : Addr} {od14 an14 : Option Addr} {sl14 : Array (Option Value)} {oc14 kV14 dc14 pm14 cd14 ct14 : Value} (a14 : PySem.W.nsIn K mainGlobals "_law_vat" = some (some (.ref f14))) (l14 : K.lookup f14 = some ⟨oc14, od14, .func (PySem.W.fnOf "_law_vat" "_law_vat" (defArgs s_l_vat) (defBody s_l_vat) (defScope s_l_vat) .none kV14 dc14 pm14 an14 cd14 ct14), sl14⟩) (c14 : PySem.W.codeIn K cd14 "_law_vat" = true) (k14 : PySem.W.keepIn K (.ref f14) = true)
    {f15 : Addr} {od15 an15 : Option Addr} {sl15 : Array (Option Value)} {oc15 kV15 dc15 pm15 cd15 ct15 : Value} (a15 : PySem.W.nsIn K mainGlobals "_law_scoop" = some (some (.ref f15))) (l15 : K.lookup f15 = some ⟨oc15, od15, .func (PySem.W.fnOf "_law_scoop" "_law_scoop" (defArgs s_l_scoop) (defBody s_l_scoop) (defScope s_l_scoop) .none kV15 dc15 pm15 an15 cd15 ct15), sl15⟩) (c15 : PySem.W.codeIn K cd15 "_law_scoop" = true) (k15 : PySem.W.keepIn K (.ref f15) = true)
    {f16 : Addr} {od16 an16 : Option Addr} {sl16 : Array (Option Value)} {oc16 kV16 dc16 pm16 cd16 ct16 : Value} (a16 : PySem.W.nsIn K mainGlobals "_law_from" = some (some (.ref f16))) (l16 : K.lookup f16 = some ⟨oc16, od16, .func (PySem.W.fnOf "_law_from" "_law_from" (defArgs s_l_from) (defBody s_l_from) (defScope s_l_from) .none kV16 dc16 pm16 an16 cd16 ct16), sl16⟩) (c16 : PySem.W.codeIn K cd16 "_law_from" = true) (k16 : PySem.W.keepIn K (.ref f16) = true)
    {f17 : Addr} {od17 an17 : Option Addr} {sl17 : Array (Option Value)} {oc17 kV17 dc17 pm17 cd17 ct17 : Value} (a17 : PySem.W.nsIn K mainGlobals "_law_size" = some (some (.ref f17))) (l17 : K.lookup f17 = some ⟨oc17, od17, .func (PySem.W.fnOf "_law_size" "_law_size" (defArgs s_l_size) (defBody s_l_size) (defScope s_l_size) .none kV17 dc17 pm17 an17 cd17 ct17), sl17⟩) (c17 : PySem.W.codeIn K cd17 "_law_size" = true) (k17 : PySem.W.keepIn K (.ref f17) = true)
    {f18 : Addr} {od18 an18 : Option Addr} {sl18 : Array (Option Value)} {oc18 kV18 dc18 pm18 cd18 ct18 : Value} (a18 : PySem.W.nsIn K mainGlobals "_law_share" = some (some (.ref f18))) (l18 : K.lookup f18 = some ⟨oc18, od18, .func (PySem.W.fnOf "_law_share" "_law_share" (defArgs s_l_share) (defBody s_l_share) (defScope s_l_share) .none kV18 dc18 pm18 an18 cd18 ct18), sl18⟩) (c18 : PySem.W.codeIn K cd18 "_law_share" = true) (k18 : PySem.W.keepIn K (.ref f18) = true)
    {f19 : Addr} {od19 an19 : Option Addr} {sl19 : Array (Option Value)} {oc19 kV19 dc19 pm19 cd19 ct19 : Value} (a19 : PySem.W.nsIn K mainGlobals "_law_trial_factors" = some (some (.ref f19))) (l19 : K.lookup f19 = some ⟨oc19, od19, .func (PySem.W.fnOf "_law_trial_factors" "_law_trial_factors" (defArgs s_l_trial_factors) (defBody s_l_trial_factors) (defScope s_l_trial_factors) .none kV19 dc19 pm19 an19 cd19 ct19), sl19⟩) (c19 : PySem.W.codeIn K cd19 "_law_trial_factors" = true) (k19 : PySem.W.keepIn K (.ref f19) = true)
    {f20 : Addr} {od20 an20 : Option Addr} {sl20 : Array (Option Value)} {oc20 kV20 dc20 pm20 cd20 ct20 : Value} (a20 : PySem.W.nsIn K mainGlobals "_law_raised" = some (some (.ref f20))) (l20 : K.lookup f20 = some ⟨oc20, od20, .func (PySem.W.fnOf "_law_raised" "_law_raised" (defArgs s_l_raised) (defBody s_l_raised) (defScope s_l_raised) .none kV20 dc20 pm20 an20 cd20 ct20), sl20⟩) (c20 : PySem.W.codeIn K cd20 "_law_raised" = true) (k20 : PySem.W.keepIn K (.ref f20) = true)
    {f21 : Addr} {od21 an21 : Option Addr} {sl21 : Array (Option Value)} {oc21 kV21 dc21 pm21 cd21 ct21 : Value} (a21 : PySem.W.nsIn K mainGlobals "_law_is_basic" = some (some (.ref f21))) (l21 : K.lookup f21 = some ⟨oc21, od21, .func (PySem.W.fnOf "_law_is_basic" "_law_is_basic" (defArgs s_l_is_basic) (defBody s_l_is_basic) (defScope s_l_is_basic) .none kV21 dc21 pm21 an21 cd21 ct21), sl21⟩) (c21 : PySem.W.codeIn K cd21 "_law_is_basic" = true) (k21 : PySem.W.keepIn K (.ref f21) = true)
    {f22 : Addr} {od22 an22 : Option Addr} {sl22 : Array (Option Value)} {oc22 kV22 dc22 pm22 cd22 ct22 : Value} (a22 : PySem.W.nsIn K mainGlobals "_law_divisors_right" = some (some (.ref f22))) (l22 : K.lookup f22 = some ⟨oc22, od22, .func (PySem.W.fnOf "_law_divisors_right" "_law_divisors_right" (defArgs s_l_divisors_right) (defBody s_l_divisors_right) (defScope s_l_divisors_right) .none kV22 dc22 pm22 an22 cd22 ct22), sl22⟩) (c22 : PySem.W.codeIn K cd22 "_law_divisors_right" = true) (k22 : PySem.W.keepIn K (.ref f22) = true)
    {f23 : Addr} {od23 an23 : Option Addr} {sl23 : Array (Option Value)} {oc23 kV23 dc23 pm23 cd23 ct23 : Value} (a23 : PySem.W.nsIn K mainGlobals "_law_factors_right" = some (some (.ref f23))) (l23 : K.lookup f23 = some ⟨oc23, od23, .func (PySem.W.fnOf "_law_factors_right" "_law_factors_right" (defArgs s_l_factors_right) (defBody s_l_factors_right) (defScope s_l_factors_right) .none kV23 dc23 pm23 an23 cd23 ct23), sl23⟩) (c23 : PySem.W.codeIn K cd23 "_law_factors_right" = true) (k23 : PySem.W.keepIn K (.ref f23) = true)
    {f24 : Addr} {od24 an24 : Option Addr} {sl24 : Array (Option Value)} {oc24 kV24 dc24 pm24 cd24 ct24 : Value} (a24 : PySem.W.nsIn K mainGlobals "_law_roots_right" = some (some (.ref f24))) (l24 : K.lookup f24 = some ⟨oc24, od24, .func (PySem.W.fnOf "_law_roots_right" "_law_roots_right" (defArgs s_l_roots_right) (defBody s_l_roots_right) (defScope s_l_roots_right) .none kV24 dc24 pm24 an24 cd24 ct24), sl24⟩) (c24 : PySem.W.codeIn K cd24 "_law_roots_right" = true) (k24 : PySem.W.keepIn K (.ref f24) = true)
    {f25 : Addr} {od25 an25 : Option Addr} {sl25 : Array (Option Value)} {oc25 kV25 dc25 pm25 cd25 ct25 : Value} (a25 : PySem.W.nsIn K mainGlobals "_law_basic_right" = some (some (.ref f25))) (l25 : K.lookup f25 = some ⟨oc25, od25, .func (PySem.W.fnOf "_law_basic_right" "_law_basic_right" (defArgs s_l_basic_right) (defBody s_l_basic_right) (defScope s_l_basic_right) .none kV25 dc25 pm25 an25 cd25 ct25), sl25⟩) (c25 : PySem.W.codeIn K cd25 "_law_basic_right" = true) (k25 : PySem.W.keepIn K (.ref f25) = true)
    {f26 : Addr} {od26 an26 : Option Addr} {sl26 : Array (Option Value)} {oc26 kV26 dc26 pm26 cd26 ct26 : Value} (a26 : PySem.W.nsIn K mainGlobals "law" = some (some (.ref f26))) (l26 : K.lookup f26 = some ⟨oc26, od26, .func (PySem.W.fnOf "law" "law" (defArgs s_law) (defBody s_law) (defScope s_law) .none kV26 dc26 pm26 an26 cd26 ct26), sl26⟩) (c26 : PySem.W.codeIn K cd26 "law" = true) (k26 : PySem.W.keepIn K (.ref f26) = true)
    (z_abs : PySem.W.nsIn K mainGlobals "abs" = some none)
    (z_all : PySem.W.nsIn K mainGlobals "all" = some none)
    (z_bool : PySem.W.nsIn K mainGlobals "bool" = some none)
    (z_int : PySem.W.nsIn K mainGlobals "int" = some none)
    (z_isinstance : PySem.W.nsIn K mainGlobals "isinstance" = some none)
    (z_len : PySem.W.nsIn K mainGlobals "len" = some none)
    (z_max : PySem.W.nsIn K mainGlobals "max" = some none)
    (z_min : PySem.W.nsIn K mainGlobals "min" = some none)
    (z_range : PySem.W.nsIn K mainGlobals "range" = some none)
    (z_tuple : PySem.W.nsIn K mainGlobals "tuple" = some none)
    {tk_LIMIT : Tok} (q_LIMIT : PySem.W.nsIn K mainGlobals "LIMIT" = some (some (.int (1000000000000000000000000000000000000000000000000000000000000) tk_LIMIT)))
    {tk_MAX_FACTORED : Tok} (q_MAX_FACTORED : PySem.W.nsIn K mainGlobals "MAX_FACTORED" = some (some (.int (1000000000000) tk_MAX_FACTORED)))
    {tk_MAX_FUNDAMENTAL : Tok} (q_MAX_FUNDAMENTAL : PySem.W.nsIn K mainGlobals "MAX_FUNDAMENTAL" = some (some (.int (1000000000) tk_MAX_FUNDAMENTAL)))
    {tk_MAX_PRIME : Tok} (q_MAX_PRIME : PySem.W.nsIn K mainGlobals "MAX_PRIME" = some (some (.int (1000000) tk_MAX_PRIME)))
    {tk_MOST_NUMBERS : Tok} (q_MOST_NUMBERS : PySem.W.nsIn K mainGlobals "MOST_NUMBERS" = some (some (.int (1000) tk_MOST_NUMBERS)))
    (m_gcd : PySem.W.nsIn K mainGlobals "gcd" = some (some (.builtin "math.gcd")))
    (m_isqrt : PySem.W.nsIn K mainGlobals "isqrt" = some (some (.builtin "math.isqrt"))) :
    ∃ fd : FuncData, (∀ (s : Shared) (v : Value), BindsTo s fd ⟨[v], []⟩ [("_law_script", v)]) ∧ ∀ base : Heap, K.In base → base.Ns mainGlobals mg → FnOk l.prog w K mg base CX0 9 fa fd ["_law_script"] (sp_lawW K) := by
  have T : Txt K mg := ⟨⟨_, _, PySem.W.mg_of X G a0, fun_mk (st := s_is_any_integer) l0 c0 k0⟩, ⟨_, _, PySem.W.mg_of X G a1, fun_mk (st := s_is_short_integer) l1 c1 k1⟩, ⟨_, _, PySem.W.mg_of X G a2, fun_mk (st := s_is_between) l2 c2 k2⟩, ⟨_, _, PySem.W.mg_of X G a3, fun_mk (st := s_are_short_integers) l3 c3 k3⟩, ⟨_, _, PySem.W.mg_of X G a4, fun_mk (st := s_check_between) l4 c4 k4⟩, ⟨_, _, PySem.W.mg_of X G a5, fun_mk (st := s_shared_divisor) l5 c5 k5⟩, ⟨_, _, PySem.W.mg_of X G a6, fun_mk (st := s_common_divisor) l6 c6 k6⟩, ⟨_, _, PySem.W.mg_of X G a7, fun_mk (st := s_is_prime) l7 c7 k7⟩, ⟨_, _, PySem.W.mg_of X G a8, fun_mk (st := s_times_within) l8 c8 k8⟩, ⟨_, _, PySem.W.mg_of X G a9, fun_mk (st := s_factored) l9 c9 k9⟩, ⟨_, _, PySem.W.mg_of X G a10, fun_mk (st := s_raised) l10 c10 k10⟩, ⟨_, _, PySem.W.mg_of X G a11, fun_mk (st := s_whole_root) l11 c11 k11⟩, ⟨_, _, PySem.W.mg_of X G a12, fun_mk (st := s_is_square_free) l12 c12 k12⟩, ⟨_, _, PySem.W.mg_of X G a13, fun_mk (st := s_is_fundamental) l13 c13 k13⟩, ⟨_, _, PySem.W.mg_of X G a14, fun_mk (st := s_l_vat) l14 c14 k14⟩, ⟨_, _, PySem.W.mg_of X G a15, fun_mk (st := s_l_scoop) l15 c15 k15⟩, ⟨_, _, PySem.W.mg_of X G a16, fun_mk (st := s_l_from) l16 c16 k16⟩, ⟨_, _, PySem.W.mg_of X G a17, fun_mk (st := s_l_size) l17 c17 k17⟩, ⟨_, _, PySem.W.mg_of X G a18, fun_mk (st := s_l_share) l18 c18 k18⟩, ⟨_, _, PySem.W.mg_of X G a19, fun_mk (st := s_l_trial_factors) l19 c19 k19⟩, ⟨_, _, PySem.W.mg_of X G a20, fun_mk (st := s_l_raised) l20 c20 k20⟩, ⟨_, _, PySem.W.mg_of X G a21, fun_mk (st := s_l_is_basic) l21 c21 k21⟩, ⟨_, _, PySem.W.mg_of X G a22, fun_mk (st := s_l_divisors_right) l22 c22 k22⟩, ⟨_, _, PySem.W.mg_of X G a23, fun_mk (st := s_l_factors_right) l23 c23 k23⟩, ⟨_, _, PySem.W.mg_of X G a24, fun_mk (st := s_l_roots_right) l24 c24 k24⟩, ⟨_, _, PySem.W.mg_of X G a25, fun_mk (st := s_l_basic_right) l25 c25 k25⟩, ⟨_, _, PySem.W.mg_of X G a26, fun_mk (st := s_law) l26 c26 k26⟩, PySem.W.mg_none_of X G z_abs, PySem.W.mg_none_of X G z_all, PySem.W.mg_none_of X G z_bool, PySem.W.mg_none_of X G z_int, PySem.W.mg_none_of X G z_isinstance, PySem.W.mg_none_of X G z_len, PySem.W.mg_none_of X G z_max, PySem.W.mg_none_of X G z_min, PySem.W.mg_none_of X G z_range, PySem.W.mg_none_of X G z_tuple, ⟨_, PySem.W.mg_of X G q_LIMIT⟩, ⟨_, PySem.W.mg_of X G q_MAX_FACTORED⟩, ⟨_, PySem.W.mg_of X G q_MAX_FUNDAMENTAL⟩, ⟨_, PySem.W.mg_of X G q_MAX_PRIME⟩, ⟨_, PySem.W.mg_of X G q_MOST_NUMBERS⟩, PySem.W.mg_of X G m_gcd, PySem.W.mg_of X G m_isqrt⟩
  have e := hfa.symm.trans (PySem.W.mg_of X G a26)
  cases e
  refine ⟨PySem.W.fnOf "law" "law" (defArgs s_law) (defBody s_law) (defScope s_law) .none kV26 dc26 pm26 an26 cd26 ct26, fun s v => .of_eq rfl, fun base _ _ => ?_⟩
  exact ok_law0 (P := l.prog) (w := w) (base := base) T (fun_mk (st := s_law) l26 c26 k26)
end K01
open PySem PySem.W PyProof.Rows
set_option maxHeartbeats 0 in
theorem PySem.Challenge.cw_formrings_k01_whole_integers_told_apart_holds : PySem.Challenge.rw_formrings_k01_whole_integers_told_apart.Holds := by
  w_on; o_law; k_head; (case hw => w_witness2)
  k_fill
  refine L2.walk_of (l := PySem.Challenge.rw_formrings_k01_whole_integers_told_apart) (n := 63) (k := 9) (x := "_law_script") (CX := fun _ => L2.CX0) (sp := fun w => K01.sp_lawW _) rfl (by decide) rfl ⟨rfl, by decide, by decide⟩ (fun w h Y => PySem.W.kIn_of Y) ?F (fun _ _ a ns hl _ hS => ⟨a, ns, rfl, hS, hl, fun _ => rfl⟩) (fun _ _ _ _ _ h => h)
  case F =>
    intro w mg fa h KX G hmg
    refine' K01.all_mk KX G hmg ?a0 ?l0 ?c0 ?k0 ?a1 ?l1 ?c1 ?k1 ?a2 ?l2 ?c2 ?k2 ?a3 ?l3 ?c3 ?k3 ?a4 ?l4 ?c4 ?k4 ?a5 ?l5 ?c5 ?k5 ?a6 ?l6 ?c6 ?k6 ?a7 ?l7 ?c7 ?k7 ?a8 ?l8 ?c8 ?k8 ?a9 ?l9 ?c9 ?k9 ?a10 ?l10 ?c10 ?k10 ?a11 ?l11 ?c11 ?k11 ?a12 ?l12 ?c12 ?k12 ?a13 ?l13 ?c13 ?k13 ?a14 ?l14 ?c14 ?k14 ?a15 ?l15 ?c15 ?k15 ?a16 ?l16 ?c16 ?k16 ?a17 ?l17 ?c17 ?k17 ?a18 ?l18 ?c18 ?k18 ?a19 ?l19 ?c19 ?k19 ?a20 ?l20 ?c20 ?k20 ?a21 ?l21 ?c21 ?k21 ?a22 ?l22 ?c22 ?k22 ?a23 ?l23 ?c23 ?k23 ?a24 ?l24 ?c24 ?k24 ?a25 ?l25 ?c25 ?k25 ?a26 ?l26 ?c26 ?k26 ?z_abs ?z_all ?z_bool ?z_int ?z_isinstance ?z_len ?z_max ?z_min ?z_range ?z_tuple ?q_LIMIT ?q_MAX_FACTORED ?q_MAX_FUNDAMENTAL ?q_MAX_PRIME ?q_MOST_NUMBERS ?m_gcd ?m_isqrt
    (case a0 => k_is); (case l0 => k_is); (case c0 => k_is); (case k0 => k_is); (case a1 => k_is); (case l1 => k_is); (case c1 => k_is); (case k1 => k_is); (case a2 => k_is); (case l2 => k_is); (case c2 => k_is); (case k2 => k_is); (case a3 => k_is); (case l3 => k_is); (case c3 => k_is); (case k3 => k_is); (case a4 => k_is); (case l4 => k_is); (case c4 => k_is); (case k4 => k_is); (case a5 => k_is); (case l5 => k_is); (case c5 => k_is); (case k5 => k_is); (case a6 => k_is); (case l6 => k_is); (case c6 => k_is); (case k6 => k_is); (case a7 => k_is); (case l7 => k_is); (case c7 => k_is); (case k7 => k_is); (case a8 => k_is); (case l8 => k_is); (case c8 => k_is); (case k8 => k_is); (case a9 => k_is); (case l9 => k_is); (case c9 => k_is); (case k9 => k_is); (case a10 => k_is); (case l10 => k_is); (case c10 => k_is); (case k10 => k_is); (case a11 => k_is); (case l11 => k_is); (case c11 => k_is); (case k11 => k_is); (case a12 => k_is); (case l12 => k_is); (case c12 => k_is); (case k12 => k_is); (case a13 => k_is); (case l13 => k_is); (case c13 => k_is); (case k13 => k_is); (case a14 => k_is); (case l14 => k_is); (case c14 => k_is); (case k14 => k_is); (case a15 => k_is); (case l15 => k_is); (case c15 => k_is); (case k15 => k_is); (case a16 => k_is); (case l16 => k_is); (case c16 => k_is); (case k16 => k_is); (case a17 => k_is); (case l17 => k_is); (case c17 => k_is); (case k17 => k_is); (case a18 => k_is); (case l18 => k_is); (case c18 => k_is); (case k18 => k_is); (case a19 => k_is); (case l19 => k_is); (case c19 => k_is); (case k19 => k_is); (case a20 => k_is); (case l20 => k_is); (case c20 => k_is); (case k20 => k_is); (case a21 => k_is); (case l21 => k_is); (case c21 => k_is); (case k21 => k_is); (case a22 => k_is); (case l22 => k_is); (case c22 => k_is); (case k22 => k_is); (case a23 => k_is); (case l23 => k_is); (case c23 => k_is); (case k23 => k_is); (case a24 => k_is); (case l24 => k_is); (case c24 => k_is); (case k24 => k_is); (case a25 => k_is); (case l25 => k_is); (case c25 => k_is); (case k25 => k_is); (case a26 => k_is); (case l26 => k_is); (case c26 => k_is); (case k26 => k_is); (case z_abs => k_is); (case z_all => k_is); (case z_bool => k_is); (case z_int => k_is); (case z_isinstance => k_is); (case z_len => k_is); (case z_max => k_is); (case z_min => k_is); (case z_range => k_is); (case z_tuple => k_is); (case q_LIMIT => k_is); (case q_MAX_FACTORED => k_is); (case q_MAX_FUNDAMENTAL => k_is); (case q_MAX_PRIME => k_is); (case q_MOST_NUMBERS => k_is); (case m_gcd => k_is); (case m_isqrt => k_is)
