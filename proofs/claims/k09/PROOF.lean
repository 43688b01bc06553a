import PyProof.Rows.All
import Wide.All
import OpenK.AllK
import Wide.FinOn
import HandS.ForMost
import HandS.Wide
import HandS.WideBits
import HandS.Gcd
import HandS.IsInst
import HandS.Style
import HandS.Evl
import Flt.RightSqrt
import HandS.More
import HandS.OwnEq
import HandS.Property
import HandS.Star
import KE.KOpsOwn
import HandS.Walk
import HandS.Zip
import KE.GoesEnum
import KE.IntBitsLaws
import HandS.TupMul
import HandS.TupAny
import PySem.Challenge.RW_formrings_k09_whole_multiples_and_rows_o
set_option Elab.async false
set_option linter.all false
set_option maxRecDepth 100000
set_option maxHeartbeats 4000000
namespace Fr
open PySem PySem.Spec PyProof.Rows L2
open Evl (Ex)
def Def (P : Program) (w : World) (K : PySem.W.Frag) (mg : Str → Option Value) (base : Heap) (k : Nat) (x : Str) (ps : List Str) (sp : Sp) : Prop :=
  ∃ f fd, mg x = some (.ref f) ∧ PySem.W.keepIn K (.ref f) = true ∧ Binds K fd ps [] ∧ FnOk P w K mg base CX0 k f fd ps sp
structure Fm (S : Addr → Prop) (I : Hp → Prop) : Prop where
  fresh : ∀ {H D}, I H → H D = none → ¬ S D
  stay : ∀ {H D o}, ¬ S D → I H → I (upd H D o)
def Fx (S : Addr → Prop) (I : Hp → Prop) (H H' : Hp) : Prop := I H' ∧ ∀ b o, ¬ S b → H b = some o → H' b = some o
section
variable {S : Addr → Prop} {I : Hp → Prop} {H H1 H2 : Hp}
theorem Fx.refl (i : I H) : Fx S I H H := ⟨i, fun _ _ _ h => h⟩
theorem Fx.trans (a : Fx S I H H1) (b : Fx S I H1 H2) : Fx S I H H2 := ⟨b.1, fun x o n h => b.2 x o n (a.2 x o n h)⟩
theorem Fx.new (m : Fm S I) (i : I H) {p : Addr} {o : HO} (h : H p = none) : Fx S I H (upd H p o) := ⟨m.stay (m.fresh i h) i, fun b u _ e => by
  rw [upd_ne (ne_of_none e h)]
  exact e⟩
theorem Fx.mut (m : Fm S I) (a : Fx S I H H1) (i : I H) {p : Addr} {o : HO} (h : H p = none) : Fx S I H (upd H1 p o) := ⟨m.stay (m.fresh i h) a.1, fun b u n e => by
  rw [upd_ne (ne_of_none e h)]
  exact a.2 b u n e⟩
theorem Fx.at (a : Fx S I H H1) {p : Addr} {o : HO} (n : ¬ S p) (h : H p = some o) : H1 p = some o := a.2 p o n h
theorem Fx.sqT {K : PySem.W.Frag} (a : Fx S I H H1) {p : Addr} {xs : List V} (n : ¬ S p) (h : SqT K H p xs) : SqT K H1 p xs := by
  rcases h with (h | ⟨o, h⟩) | h
  · exact .inl (.inl (a.2 _ _ n h))
  · exact .inl (.inr ⟨o, a.2 _ _ n h⟩)
  · exact .inr h
theorem Fx.sqL {K : PySem.W.Frag} (a : Fx S I H H1) {p : Addr} {xs : List V} (n : ¬ S p) (h : SqL K H p xs) : SqL K H1 p xs := by
  rcases h with (h | ⟨o, h⟩) | h
  · exact .inl (.inl (a.2 _ _ n h))
  · exact .inl (.inr ⟨o, a.2 _ _ n h⟩)
  · exact .inr h
theorem Fx.free (a : Fx S I H H1) {p : Addr} (n : ¬ S p) (h : H1 p = none) : H p = none := by
  cases e : H p with
  | none => rfl
  | some o => rw [a.2 p o n e] at h; cases h
theorem Fx.free' (m : Fm S I) (a : Fx S I H H1) {p : Addr} (h : H1 p = none) : H p = none := a.free (m.fresh a.1 h) h
end
abbrev S0 : Addr → Prop := fun _ => False
abbrev I0 : Hp → Prop := fun _ => True
theorem fm0 : Fm S0 I0 := ⟨fun _ _ h => h, fun _ _ => trivial⟩
abbrev Ex0 : Hp → Hp → Prop := Fx S0 I0
theorem Ex0.of {H H' : Hp} (h : ∀ b o, H b = some o → H' b = some o) : Ex0 H H' := ⟨trivial, fun b o _ e => h b o e⟩
theorem Ex0.ap {H H' : Hp} (h : Ex0 H H') {b : Addr} {o : HO} (e : H b = some o) : H' b = some o := h.2 b o (fun z => z) e
theorem Ex0.refl (H : Hp) : Ex0 H H := Fx.refl trivial
theorem Ex0.new {H : Hp} {p : Addr} {o : HO} (h : H p = none) : Ex0 H (upd H p o) := Fx.new fm0 trivial h
def Cs (S : Addr → Prop) (I : Hp → Prop) (H : Hp) (P : Nat → List V → Hp → Prop) (D : Addr) (i : Nat) (H' : Hp) : Prop := Fx S I H H' ∧ ∃ acc, H' D = some (.lst acc) ∧ acc.length ≤ i ∧ P i acc H'
section
variable {K : PySem.W.Frag} {S : Addr → Prop} {I : Hp → Prop} {σ : L2.St} {H : Hp} {Q : Addr → Hp → Prop} {te : TE} {vs : List Nat} {g : TG} {tt : TT} {P : Nat → List V → Hp → Prop}
theorem cs_yes (m : Fm S I) (i0 : I H) {D : Addr} {i : Nat} {acc : List V} {H' H4 : Hp} {y : V} (hD : H D = none) (p1 : Fx S I H H') (p2 : H' D = some (.lst acc)) (p3 : acc.length ≤ i) (hi : i < 1000000) (e : Fx S I H' H4) (h : P (i + 1) (acc ++ [y]) (upd H4 D (.lst (acc ++ [y])))) :
    ∃ acc', H4 D = some (.lst acc') ∧ acc'.length < sizeLine ∧ Cs S I H P D (i + 1) (upd H4 D (.lst (acc' ++ [y]))) :=
  ⟨acc, e.2 _ _ (m.fresh i0 hD) p2, Nat.lt_of_le_of_lt p3 (Nat.lt_of_lt_of_le hi (by decide)), Fx.mut m (p1.trans e) i0 hD, _, upd_same, by rw [List.length_append]; exact Nat.add_le_add_right p3 1, h⟩
theorem cs_no (m : Fm S I) (i0 : I H) {D : Addr} {i : Nat} {acc : List V} {H' H4 : Hp} (hD : H D = none) (p1 : Fx S I H H') (p2 : H' D = some (.lst acc)) (p3 : acc.length ≤ i) (e : Fx S I H' H4) (h : P (i + 1) acc H4) : Cs S I H P D (i + 1) H4 :=
  ⟨p1.trans e, acc, e.2 _ _ (m.fresh i0 hD) p2, Nat.le_succ_of_le p3, h⟩
theorem lcT (m : Fm S I) (i0 : I H) {a : Addr} {xs : List V} (hx : SqT K H a xs) (ha : ¬ S a) (P : Nat → List V → Hp → Prop) (p0 : ∀ D, H D = none → P 0 [] (upd H D (.lst [])))
    (hs : ∀ D i x acc H', H D = none → xs[i]? = some x → Fx S I H H' → H' D = some (.lst acc) → acc.length ≤ i → P i acc H' → g x (wipe σ vs) H' fun σ2 H2 => wipe σ2 vs = wipe σ vs ∧ tt σ2 H2 fun b H3 =>
      if b = true then te σ2 H3 fun y H4 => ∃ acc, H4 D = some (.lst acc) ∧ acc.length < sizeLine ∧ Cs S I H P D (i + 1) (upd H4 D (.lst (acc ++ [y]))) else Cs S I H P D (i + 1) H3)
    (q : ∀ D H' acc, H D = none → Fx S I H H' → H' D = some (.lst acc) → P xs.length acc H' → Q D H') :
    ∀ D, H D = none → ∃ W : Nat → Nat → Hp → Prop, (∃ m, W 0 m (upd H D (.lst []))) ∧ ∀ i m H, W i m H →
      ((Itt K a).stop i H ∧ Q D H) ∨ ((Itt K a).go i H ∧ ∃ Nx : Hp → Prop, (∀ H', Nx H' → ∃ m', m' < m ∧ W (i + 1) m' H') ∧ ∀ x H', (Itt K a).yld i H x H' → g x (wipe σ vs) H' fun σ2 H2 => wipe σ2 vs = wipe σ vs ∧ tt σ2 H2 fun b H3 =>
        if b = true then te σ2 H3 fun y H4 => ∃ acc, H4 D = some (.lst acc) ∧ acc.length < sizeLine ∧ Nx (upd H4 D (.lst (acc ++ [y]))) else Nx H3) := fun D hD =>
  lc_tup (xs := xs) (Cs S I H P D) ⟨Fx.new m i0 hD, [], upd_same, Nat.le_refl _, p0 D hD⟩ (fun i H' _ p => p.1.sqT ha hx)
    (fun i x H' hi p => by
      obtain ⟨p1, acc, p2, p3, p4⟩ := p
      exact hs D i x acc H' hD hi p1 p2 p3 p4)
    (fun H' p => by
      obtain ⟨p1, acc, p2, p3, p4⟩ := p
      exact q D H' acc hD p1 p2 p4)
theorem lcL (m : Fm S I) (i0 : I H) {a : Addr} {xs : List V} (hx : SqL K H a xs) (ha : ¬ S a) (P : Nat → List V → Hp → Prop) (p0 : ∀ D, H D = none → P 0 [] (upd H D (.lst [])))
    (hs : ∀ D i x acc H', H D = none → xs[i]? = some x → Fx S I H H' → H' D = some (.lst acc) → acc.length ≤ i → P i acc H' → g x (wipe σ vs) H' fun σ2 H2 => wipe σ2 vs = wipe σ vs ∧ tt σ2 H2 fun b H3 =>
      if b = true then te σ2 H3 fun y H4 => ∃ acc, H4 D = some (.lst acc) ∧ acc.length < sizeLine ∧ Cs S I H P D (i + 1) (upd H4 D (.lst (acc ++ [y]))) else Cs S I H P D (i + 1) H3)
    (q : ∀ D H' acc, H D = none → Fx S I H H' → H' D = some (.lst acc) → P xs.length acc H' → Q D H') :
    ∀ D, H D = none → ∃ W : Nat → Nat → Hp → Prop, (∃ m, W 0 m (upd H D (.lst []))) ∧ ∀ i m H, W i m H →
      ((Itl K a).stop i H ∧ Q D H) ∨ ((Itl K a).go i H ∧ ∃ Nx : Hp → Prop, (∀ H', Nx H' → ∃ m', m' < m ∧ W (i + 1) m' H') ∧ ∀ x H', (Itl K a).yld i H x H' → g x (wipe σ vs) H' fun σ2 H2 => wipe σ2 vs = wipe σ vs ∧ tt σ2 H2 fun b H3 =>
        if b = true then te σ2 H3 fun y H4 => ∃ acc, H4 D = some (.lst acc) ∧ acc.length < sizeLine ∧ Nx (upd H4 D (.lst (acc ++ [y]))) else Nx H3) := fun D hD =>
  lc_list (xs := xs) (Cs S I H P D) ⟨Fx.new m i0 hD, [], upd_same, Nat.le_refl _, p0 D hD⟩ (fun i H' _ p => p.1.sqL ha hx)
    (fun i x H' hi p => by
      obtain ⟨p1, acc, p2, p3, p4⟩ := p
      exact hs D i x acc H' hD hi p1 p2 p3 p4)
    (fun H' p => by
      obtain ⟨p1, acc, p2, p3, p4⟩ := p
      exact q D H' acc hD p1 p2 p4)
theorem lcR (m : Fm S I) (i0 : I H) {lo : Int} {n : Nat} (P : Nat → List V → Hp → Prop) (p0 : ∀ D, H D = none → P 0 [] (upd H D (.lst [])))
    (hs : ∀ D i acc H', H D = none → i < n → Fx S I H H' → H' D = some (.lst acc) → acc.length ≤ i → P i acc H' → g (.int (lo + i)) (wipe σ vs) H' fun σ2 H2 => wipe σ2 vs = wipe σ vs ∧ tt σ2 H2 fun b H3 =>
      if b = true then te σ2 H3 fun y H4 => ∃ acc, H4 D = some (.lst acc) ∧ acc.length < sizeLine ∧ Cs S I H P D (i + 1) (upd H4 D (.lst (acc ++ [y]))) else Cs S I H P D (i + 1) H3)
    (q : ∀ D H' acc, H D = none → Fx S I H H' → H' D = some (.lst acc) → P n acc H' → Q D H') :
    ∀ D, H D = none → ∃ W : Nat → Nat → Hp → Prop, (∃ m, W 0 m (upd H D (.lst []))) ∧ ∀ i m H, W i m H →
      ((Itr lo n).stop i H ∧ Q D H) ∨ ((Itr lo n).go i H ∧ ∃ Nx : Hp → Prop, (∀ H', Nx H' → ∃ m', m' < m ∧ W (i + 1) m' H') ∧ ∀ x H', (Itr lo n).yld i H x H' → g x (wipe σ vs) H' fun σ2 H2 => wipe σ2 vs = wipe σ vs ∧ tt σ2 H2 fun b H3 =>
        if b = true then te σ2 H3 fun y H4 => ∃ acc, H4 D = some (.lst acc) ∧ acc.length < sizeLine ∧ Nx (upd H4 D (.lst (acc ++ [y]))) else Nx H3) := fun D hD =>
  lc_range (lo := lo) (n := n) (Cs S I H P D) ⟨Fx.new m i0 hD, [], upd_same, Nat.le_refl _, p0 D hD⟩
    (fun i H' hi p => by
      obtain ⟨p1, acc, p2, p3, p4⟩ := p
      exact hs D i acc H' hD hi p1 p2 p3 p4)
    (fun H' p => by
      obtain ⟨p1, acc, p2, p3, p4⟩ := p
      exact q D H' acc hD p1 p2 p4)
end
theorem log_lt {i : Int} {a : Nat} (h : i.natAbs < 2 ^ a) (h0 : 0 < a) : i.natAbs.log2 < a := by
  by_cases z : i.natAbs = 0
  · rw [z]
    exact h0
  · exact (Nat.log2_lt z).mpr h
theorem mw {i j : Int} (h1 : -(2 ^ 250) < i) (h2 : i < 2 ^ 250) (h3 : -(2 ^ 250) < j) (h4 : j < 2 ^ 250) : CMulW i j :=
  wide_mul (a := 250) (b := 250) (by omega) (by omega) (by decide) (by decide) (by decide)
theorem dw {i j : Int} (h : 0 < j) (h4 : j < 2 ^ 250) : CDivW i j := wide_div (b := 250) h (by omega) (by decide) (by decide)
theorem iteB {b : Bool} {A B : Prop} (h1 : b = true → A) (h2 : b = false → B) : if b = true then A else B := by
  cases b with
  | true => rw [if_pos rfl]; exact h1 rfl
  | false => rw [if_neg Bool.false_ne_true]; exact h2 rfl
theorem iteD {c : Prop} [Decidable c] {A B : Prop} (h1 : c → A) (h2 : ¬ c → B) : if decide c = true then A else B :=
  iteB (fun h => h1 (of_decide_eq_true h)) (fun h => h2 (of_decide_eq_false h))
theorem iteN {c : Prop} [Decidable c] {A B : Prop} (h1 : ¬ c → A) (h2 : c → B) : if (!decide c) = true then A else B := by
  by_cases h : c
  · rw [decide_eq_true h]; exact iteF (h2 h)
  · rw [decide_eq_false h]; exact iteT (h1 h)
theorem dT {c : Prop} [Decidable c] {A B : Prop} (h : c) (a : A) : if decide c = true then A else B := by rw [decide_eq_true h, if_pos rfl]; exact a
theorem dF {c : Prop} [Decidable c] {A B : Prop} (h : ¬ c) (a : B) : if decide c = true then A else B := by rw [decide_eq_false h, if_neg Bool.false_ne_true]; exact a
theorem ndT {c : Prop} [Decidable c] {A B : Prop} (h : ¬ c) (a : A) : if (!decide c) = true then A else B := by rw [decide_eq_false h]; exact iteT a
theorem ndF {c : Prop} [Decidable c] {A B : Prop} (h : c) (a : B) : if (!decide c) = true then A else B := by rw [decide_eq_true h]; exact iteF a
theorem sl1 : 1 ≤ sizeLine := by decide
theorem sl2 : 2 ≤ sizeLine := by decide
theorem sl3 : 3 ≤ sizeLine := by decide
theorem sl4 : 4 ≤ sizeLine := by decide
theorem sl5 : 5 ≤ sizeLine := by decide
theorem sl6 : 6 ≤ sizeLine := by decide
theorem sl8 : 8 ≤ sizeLine := by decide
theorem slN {n : Nat} (h : n ≤ 1000000) : n ≤ sizeLine := Nat.le_trans h (by decide)
section
variable {X : Cx}
def rIsqrt : List V → Hp → VK → Prop := fun vs H Q => ∃ a : Int, vs = [.int a] ∧ 0 ≤ a ∧ a < 2 ^ 64 ∧ ∀ r : Int, 0 ≤ r → r * r ≤ a → a < (r + 1) * (r + 1) → Q (.int r) H
theorem cr_isqrt : CallR X (.builtin "math.isqrt") rIsqrt := by
  intro pins s σ H vs us Q I r h
  obtain ⟨a, rfl, h0, h1, q⟩ := h
  obtain ⟨u, rfl, ru⟩ := Vals.one r
  obtain ⟨t, rfl⟩ := ru
  have sp := PySem.Float64.isqrt_spec a.toNat
  refine PySem.W.mg_isqrt h0 h1 ⟨.int _, H, I.tok _, ⟨_, rfl⟩, q _ (Int.natCast_nonneg _) ?_ ?_⟩
  · have := sp.1
    have e : ((Float64.isqrt a.toNat * Float64.isqrt a.toNat : Nat) : Int) ≤ (a.toNat : Int) := Int.ofNat_le.mpr this
    rw [Int.toNat_of_nonneg h0] at e
    simpa using e
  · have := sp.2
    have e : (a.toNat : Int) < (((Float64.isqrt a.toNat + 1) * (Float64.isqrt a.toNat + 1) : Nat) : Int) := Int.ofNat_lt.mpr this
    rw [Int.toNat_of_nonneg h0] at e
    simpa using e
end
end Fr
namespace Fr
open PySem PySem.Spec PyProof.Rows L2
section
variable {X : Cx}
def CPowC (i j : Int) : Prop := 0 ≤ j ∧ (Builtin.Int.intBits i : Int) * j ≤ 2 ^ 27
theorem op_powC : OpR X (binaryOp .Pow) (rI CPowC fun i j => .int (i ^ j.toNat)) := opI fun _ _ _ _ _ _ _ hc q => PyProof.Rows.pow_int hc.1 hc.2 q
end
end Fr
namespace Fr
open PySem PySem.Spec PyProof.Rows L2
theorem deI {i j : Int} : decide (V.int i = V.int j) = decide (i = j) := by
  rw [dec_int]
  rfl
theorem iteE {i j : Int} {A B : Prop} (h1 : i = j → A) (h2 : i ≠ j → B) : if decide (V.int i = V.int j) = true then A else B := by
  rw [deI]
  exact iteD h1 h2
theorem iteEn {i j : Int} {A B : Prop} (h1 : i ≠ j → A) (h2 : i = j → B) : if (!decide (V.int i = V.int j)) = true then A else B := by
  rw [deI]
  exact iteN h1 h2
end Fr
namespace Fr
open PySem PySem.Spec PyProof.Rows L2
def inb (lo hi : Int) : V → Bool
  | .int i => decide (lo ≤ i) && decide (i ≤ hi)
  | _ => false
theorem in_b {lo hi : Int} {xs : List V} {v : V} (hv : v ∈ xs) (h : xs.all (inb lo hi) = true) : ∃ f : Int, v = .int f ∧ lo ≤ f ∧ f ≤ hi := by
  have := List.all_eq_true.mp h v hv
  cases v with
  | int i =>
    unfold inb at this
    rw [Bool.and_eq_true, decide_eq_true_iff, decide_eq_true_iff] at this
    exact ⟨i, rfl, this.1, this.2⟩
  | _ => cases this
theorem shaped_ints (ns : List Int) : SeqAt.shaped (.list (ns.map .int)) = true := by
  have h : PyData.canLayAll0 (ns.map PyData.int) = true ∧ PyData.depthAll (ns.map PyData.int) ≤ 1 := by
    induction ns with
    | nil => exact ⟨rfl, by simp [PyData.depthAll]⟩
    | cons n r ih =>
      refine ⟨?_, ?_⟩
      · rw [List.map_cons, PyData.canLayAll0, PyData.canLay0, ih.1]; rfl
      · rw [List.map_cons, PyData.depthAll, PyData.depth]; exact Nat.max_le.mpr ⟨by decide, ih.2⟩
  unfold SeqAt.shaped
  rw [PyData.canLay0, PyData.depth, h.1]
  simp
  omega
theorem dp_ints {K : PySem.W.Frag} {H : Hp} : ∀ ns : List Int, DpAll K H (ns.map V.int) (ns.map PyData.int)
  | [] => .nil
  | n :: r => .cons (.int n) (dp_ints r)
theorem eqv_ints : ∀ ns ms : List Int, PyData.eqvAll (ns.map PyData.int) (ms.map PyData.int) = decide (ns = ms)
  | [], [] => rfl
  | [], m :: ms => rfl
  | n :: ns, [] => rfl
  | n :: ns, m :: ms => by
    rw [List.map_cons, List.map_cons, PyData.eqvAll, PyData.eqv, eqv_ints ns ms]
    apply Bool.eq_iff_iff.mpr
    simp
def pr2 (q : Nat × Nat) : PyData := .tuple [.int (q.1 : Int), .int (q.2 : Int)]
theorem shaped_prs (fs : List (Nat × Nat)) : SeqAt.shaped (.tuple (fs.map pr2)) = true := by
  have h : PyData.canLayAll0 (fs.map pr2) = true ∧ PyData.depthAll (fs.map pr2) ≤ 2 := by
    induction fs with
    | nil => exact ⟨rfl, by simp [PyData.depthAll]⟩
    | cons n r ih =>
      refine ⟨?_, ?_⟩
      · rw [List.map_cons, PyData.canLayAll0, ih.1]; simp [pr2, PyData.canLay0, PyData.canLayAll0]
      · rw [List.map_cons, PyData.depthAll]; exact Nat.max_le.mpr ⟨by simp [pr2, PyData.depth, PyData.depthAll], ih.2⟩
  unfold SeqAt.shaped
  rw [PyData.canLay0, PyData.depth, h.1]
  simp
  omega
theorem eqv_prs : ∀ fs gs : List (Nat × Nat), PyData.eqvAll (fs.map pr2) (gs.map pr2) = decide (fs = gs)
  | [], [] => rfl
  | [], m :: ms => rfl
  | n :: ns, [] => rfl
  | (a, b) :: ns, (c, d) :: ms => by
    rw [List.map_cons, List.map_cons, PyData.eqvAll, eqv_prs ns ms]
    apply Bool.eq_iff_iff.mpr
    simp [pr2, PyData.eqv, PyData.eqvAll]
    omega
end Fr
namespace Fr
open PySem PySem.Spec PyProof.Rows L2
def B (a : Nat) (i : Int) : Prop := i.natAbs < 2 ^ a ∧ 0 < a
theorem two_pow_two {a : Nat} (h : 0 < a) : 2 ≤ 2 ^ a := by
  obtain ⟨k, rfl⟩ : ∃ k, a = k + 1 := ⟨a - 1, by omega⟩
  rw [Nat.pow_succ]
  have := Nat.two_pow_pos k
  omega
theorem pow_sum {a b : Nat} (ha : 0 < a) (hb : 0 < b) : 2 ^ a + 2 ^ b ≤ 2 ^ (a + b) := by
  rw [Nat.pow_add]
  have h1 := two_pow_two ha
  have h2 := two_pow_two hb
  generalize 2 ^ a = x at *
  generalize 2 ^ b = y at *
  have := Nat.mul_le_mul h1 (Nat.le_refl y)
  have := Nat.mul_le_mul (Nat.le_refl x) h2
  rcases Nat.le_total x y with h | h <;> omega
theorem B.mul {a b : Nat} {i j : Int} (h1 : B a i) (h2 : B b j) : B (a + b) (i * j) := ⟨wide_lt h1.1 h2.1, Nat.add_pos_left h1.2 _⟩
theorem B.add {a b : Nat} {i j : Int} (h1 : B a i) (h2 : B b j) : B (a + b) (i + j) :=
  ⟨Nat.lt_of_lt_of_le (by have := h1.1; have := h2.1; omega : (i + j).natAbs < 2 ^ a + 2 ^ b) (pow_sum h1.2 h2.2), Nat.add_pos_left h1.2 _⟩
theorem B.sub {a b : Nat} {i j : Int} (h1 : B a i) (h2 : B b j) : B (a + b) (i - j) :=
  ⟨Nat.lt_of_lt_of_le (by have := h1.1; have := h2.1; omega : (i - j).natAbs < 2 ^ a + 2 ^ b) (pow_sum h1.2 h2.2), Nat.add_pos_left h1.2 _⟩
theorem B.neg {a : Nat} {i : Int} (h1 : B a i) : B a (-i) := ⟨by rw [Int.natAbs_neg]; exact h1.1, h1.2⟩
theorem B.lit {i : Int} (h : i.natAbs < 2 ^ 64) : B 64 i := ⟨h, by decide⟩
theorem B.mono {a b : Nat} {i : Int} (h : B a i) (hab : a ≤ b) : B b i := ⟨Nat.lt_of_lt_of_le h.1 (Nat.pow_le_pow_right (by decide) hab), Nat.lt_of_lt_of_le h.2 hab⟩
theorem mulB {a b : Nat} {i j : Int} (h1 : B a i) (h2 : B b j) (h : a + b ≤ 1000000) : CMulW i j := wide_mul h1.1 h2.1 h1.2 h2.2 h
end Fr
namespace Fr
open PySem PySem.Spec PyProof.Rows L2
theorem shaped_tints (ns : List Int) : SeqAt.shaped (.tuple (ns.map .int)) = true := by
  have h : PyData.canLayAll0 (ns.map .int) = true ∧ PyData.depthAll (ns.map .int) ≤ 1 := by
    induction ns with
    | nil => exact ⟨rfl, by simp [PyData.depthAll]⟩
    | cons n r ih =>
      refine ⟨?_, ?_⟩
      · rw [List.map_cons, PyData.canLayAll0, ih.1]; simp [PyData.canLay0]
      · rw [List.map_cons, PyData.depthAll]; exact Nat.max_le.mpr ⟨by simp [PyData.depth], ih.2⟩
  unfold SeqAt.shaped
  rw [PyData.canLay0, PyData.depth, h.1]
  simp
  omega
end Fr
namespace Fr
open PySem PySem.Spec PyProof.Rows L2
section
variable {M : Model} {prog : Program} {w : World} {A : Around} {E : Value → Shared → Prop} {s : Shared} {K : PySem.W.Frag} {x C f : Addr} {ox : Obj} {od : Option Obj}
theorem ifBound_ne {args : List Value} {Q : Option Value → Shared → Prop} (X : K.In s.heap) (I : PySem.W.InstAt s.heap x ox C od) (hs : PySem.W.findIn K (.ref C) "__ne__" = some (some (.builtin "object.__ne__")))
    (h : wpAny M A (call (.builtin "object.__ne__") (.ref x :: args)) (fun v => Q (some v)) E s) : wpAny M A (callSpecialIfBound? (.ref x) "__ne__" args) Q E s := by
  simp only [callSpecialIfBound?, bindSpecialIfBound?]
  refine wpAny_holding (wpAny_bind (wpAny_bind (wpAny_bind (I.type.here ((PySem.W.looks_findIn X hs).here ?_)))))
  refine wpAny_bind (wpAny_askSetting (wpAny_ite ?_))
  have fin : wpAny M A (call (.builtin "object.__ne__") ([.ref x] ++ args) >>= fun v => pure (some v)) Q E s := wpAny_bind (wpAny_mono h (fun v s' h' => wpAny_pure h') fun _ _ h' => h')
  split
  · exact wpAny_bind (wpAny_of_eq (F.cmp_object.ne.bind _) (wpAny_pure (by exact fin)))
  · exact wpAny_tryCatch (wpAny_bind (wpAny_of_eq (F.cmp_object.ne.bind _) (wpAny_pure (by exact fin))))
def NeB (Q : Value → Shared → Prop) (v : Value) (s' : Shared) : Prop := ∃ b, v = .bool b ∧ Q (.bool (!b)) s'
theorem entry_ne {b : Value} {Q : Fin → Shared → Prop} (hu : A.units < cLine) (X : K.In s.heap) (I : PySem.W.InstAt s.heap x ox C od) (hs : PySem.W.findIn K (.ref C) "__eq__" = some (some (.ref f))) (hf : PySem.W.isFn K (.ref f) = true)
    (h : wpAny (model prog w) A (call (.ref f) [.ref x, b]) (NeB fun v s' => Q (.done (.ret v)) s') E s) : wpAny (model prog w) A (Builtin.«object.__ne__» ⟨[.ref x, b], []⟩) Q E s := by
  unfold Builtin.«object.__ne__»
  repeat (first | with_reducible refine wpAny_cRoomFor hu ?_ | (refine wpAny_bind (PySem.W.ifBound_K X I hs hf (wpAny_mono h (fun v s' hv => ?_) fun _ _ e => e))) | wp_step)
  all_goals (obtain ⟨b', rfl, q⟩ := hv)
  all_goals (repeat (first | wp_step))
  all_goals exact q
theorem ne_K {h₀ : Heap} {L : Addr} {m : Str → Option Value} {b tb : Value} {Q : Value → Shared → Prop} (hu : A.units + 1 < cLine) (F : Fr h₀ L s.heap m) (X₀ : K.In h₀) (I : PySem.W.InstAt s.heap x ox C od) (hb : PySem.W.Looks (model prog w) s.heap (typeOf b) tb) (hn : PySem.W.notFirst K C tb = true)
    (hne : PySem.W.findIn K (.ref C) "__ne__" = some (some (.builtin "object.__ne__"))) (hs : PySem.W.findIn K (.ref C) "__eq__" = some (some (.ref f))) (hf : PySem.W.isFn K (.ref f) = true) (hm : PySem.W.mroIn K C (.type "object") = some true)
    (h : wpAny (model prog w) A.in1 (call (.ref f) [.ref x, b]) (NeB Q) E s) : wpAny (model prog w) A (richCompare .NotEq (.ref x) b) Q E s := by
  have X := X₀.keeps F.keep
  have one : wpAny (model prog w) A (tryCompare (.ref x) "__ne__" b) (fun r s' => ∃ v, r = some v ∧ Q v s') E s := by
    unfold tryCompare
    refine wpAny_bind (ifBound_ne X I hne (wpAny_call (codeAny_call_builtin PySem.F.cmp_object.ne.plain PySem.F.cmpEntry_ne (PySem.W.check_slot PySem.F.cmpKind_ne PySem.F.cmpSplit_ne (I.type.andThen (PySem.W.looks_mroIn X hm)) (PySem.F.cmpArgs_ne _ _) ?_))))
    refine entry_ne (A := A.in1) hu X I hs hf (wpAny_mono h (fun v s' hv => ?_) fun _ _ e => e)
    obtain ⟨b', rfl, q⟩ := hv
    exact ⟨b', rfl, wpAny_pure ⟨_, rfl, q⟩⟩
  unfold richCompare
  simp only [oneThing_ref]
  refine wpAny_holding (wpAny_bind (wpAny_cRoomFor (Nat.lt_of_succ_lt hu) ?_))
  refine wpAny_bind (I.type.here (wpAny_bind (hb.here ?_)))
  split
  · rename_i q
    have e : PySem.W.subIn K tb (.ref C) = some false := by
      rcases Bool.or_eq_true_iff.mp hn with e | e
      · rw [beq_iff_eq.mp e] at q; simp at q
      · exact beq_iff_eq.mp e
    refine wpAny_bind ((PySem.W.looks_subIn X e).here ?_)
    simp only [Bool.false_eq_true, if_false]
    refine wpAny_bind (wpAny_mono one (fun r s' z => ?_) fun _ _ e => e)
    obtain ⟨v, rfl, hq⟩ := z
    exact wpAny_pure hq
  · refine wpAny_bind (wpAny_pure ?_)
    simp only [Bool.false_eq_true, if_false]
    refine wpAny_bind (wpAny_mono one (fun r s' z => ?_) fun _ _ e => e)
    obtain ⟨v, rfl, hq⟩ := z
    exact wpAny_pure hq
end
section
variable {X : Cx} {CX : CXT} {C f : Addr} {fd : FuncData} {ps : List Str} {k : Nat} {sp : Sp} {E : XK}
structure EqC (K : PySem.W.Frag) (C f : Addr) : Prop where
  eq : PySem.W.findIn K (.ref C) "__eq__" = some (some (.ref f))
  fn : PySem.W.isFn K (.ref f) = true
  ne : PySem.W.findIn K (.ref C) "__ne__" = some (some (.builtin "object.__ne__"))
  mo : PySem.W.mroIn K C (.type "object") = some true
def rEqI (K : PySem.W.Frag) (C : Addr) (sp : Sp) (E : XK) (neg : Bool) : R2 := fun x y H Q => ∃ a dx fs tb, x = .ref a ∧ H a = some (.ins C dx fs) ∧ TyX K H y tb ∧ PySem.W.notFirst K C tb = true ∧ sp [x, y] H (fun v H' => ∃ b, v = .bl b ∧ Q (.bl (if neg = true then !b else b)) H') E
theorem op_eqI (c : EqC X.K C f) (F : FnOk X.prog X.w X.K X.mg X.base CX k f fd ps sp) (hb : Binds X.K fd ps []) (hr : Room k X.A) (hx : Passes CX X E) : OpR X (compareOp .Eq) (rEqI X.K C sp E false) := by
  intro pins s σ H x y v u Q I rx ry h
  obtain ⟨a, dx, fs, tb, rfl, ha, ty, hn, q⟩ := h
  cases (show v = Value.ref a from rx)
  obtain ⟨mA, J, _⟩ := ins_get I.hok ha
  obtain ⟨od, J, _⟩ := J.look
  obtain ⟨m, hF⟩ := I.fr
  obtain ⟨P, kt, hP, _⟩ := kit_of I ry ty
  refine PySem.W.cmp_K (op := .Eq) hr.units0 hF I.ok.mod.kin J (kt.ty _ _ I.kIn hP) hn c.eq c.fn ?_
  refine wpAny_mono (run_fn (us := [.ref a, u]) (vs := [.ref a, y]) F hr hb .nil hx I (.cons rfl (.cons ry .nil)) q) (fun w s' z => ?_) fun _ _ x => x
  obtain ⟨z', H', I', rz, b, rfl, qz⟩ := z
  cases (show w = Value.bool b from rz)
  exact ⟨.bl b, H', I', rfl, qz⟩
theorem op_neI (c : EqC X.K C f) (F : FnOk X.prog X.w X.K X.mg X.base CX k f fd ps sp) (hb : Binds X.K fd ps []) (hr : Room (k + 1) X.A) (hx : Passes CX X E) : OpR X (compareOp .NotEq) (rEqI X.K C sp E true) := by
  intro pins s σ H x y v u Q I rx ry h
  obtain ⟨a, dx, fs, tb, rfl, ha, ty, hn, q⟩ := h
  cases (show v = Value.ref a from rx)
  obtain ⟨mA, J, _⟩ := ins_get I.hok ha
  obtain ⟨od, J, _⟩ := J.look
  obtain ⟨m, hF⟩ := I.fr
  obtain ⟨P, kt, hP, _⟩ := kit_of I ry ty
  refine ne_K (Nat.lt_of_le_of_lt (Nat.add_le_add_left (by decide : 1 ≤ 64) _) hr.units) hF I.ok.mod.kin J (kt.ty _ _ I.kIn hP) hn c.ne c.eq c.fn c.mo ?_
  refine wpAny_call (codeAny_mono ((F.raw hb .nil) X.A.in1 X.stack s H [.ref a, u] [.ref a, y] _ E hr.in1 I.env0.in1 (.cons rfl (.cons ry .nil)) q) fun r s' hq => ?_)
  cases r with
  | error e => exact hx pins σ H s e s' I hq
  | ok fl =>
    cases fl with
    | ret w =>
      obtain ⟨z', H', I', rz, b, rfl, qz⟩ := I.after hq
      cases (show w = Value.bool b from rz)
      exact ⟨b, rfl, .bl (!b), H', I', rfl, qz⟩
    | next => exact False.elim hq
    | brk => exact False.elim hq
    | cont => exact False.elim hq
structure TyI (K : PySem.W.Frag) (C : Addr) : Prop where
  ca : PySem.W.findIn K (.ref C) "__class__" = some (some (.builtin "object.__class__"))
  cn : PySem.W.specialIn K (.builtin "object.__class__") "__get__" = some (some (.builtin "getset_descriptor.__get__"))
  ct : PySem.W.takesIn K (.builtin "object.__class__") = some true
  cm : PySem.W.mroIn K C (.type "object") = some true
theorem ty_ins {K : PySem.W.Frag} {C a dx : Addr} {H : Hp} {fs : List (Str × V)} (t : TyI K C) (cl : Cls K C) (e : H a = some (.ins C dx fs)) : TyX K H (.ref a) (.ref C) := .base (.ins e cl t.ca t.cn t.ct t.cm)
theorem first_self {K : PySem.W.Frag} {C : Addr} : PySem.W.notFirst K C (.ref C) = true := by simp [PySem.W.notFirst]
theorem kit_self {K : PySem.W.Frag} {C : Addr} : PySem.W.kitOne K (.ref C) (.ref C) = some true := by simp [PySem.W.kitOne]
theorem un_negI (c : Meth X.K C "__neg__" f) (F : FnOk X.prog X.w X.K X.mg X.base CX k f fd ps sp) (hb : Binds X.K fd ps []) (hr : Room k X.A) (hx : Passes CX X E) :
    UnR X (unaryOp .USub) (fun x H Q => ∃ a dx fs, x = .ref a ∧ H a = some (.ins C dx fs) ∧ sp [x] H Q E) := by
  intro pins s σ H x v Q I rx h
  obtain ⟨a, dx, fs, rfl, ha, q⟩ := h
  cases (show v = Value.ref a from rx)
  obtain ⟨mA, J, _⟩ := ins_get I.hok ha
  obtain ⟨od, J, _⟩ := J.look
  obtain ⟨m, hF⟩ := I.fr
  exact PySem.W.ksp_neg hF I.ok.mod.kin J c.at_ c.fn (run_fn (us := [.ref a]) (vs := [.ref a]) F hr hb .nil hx I (.cons rfl .nil) q)
def MDef (R : Addr → Addr → Prop) (P : Program) (w : World) (K : PySem.W.Frag) (mg : Str → Option Value) (base : Heap) (k : Nat) (ps : List Str) (sp : Sp) : Prop :=
  ∃ p f fd, R p f ∧ Binds K fd ps [] ∧ FnOk P w K mg base CX0 k f fd ps sp
end
section
variable {X : Cx} {K : PySem.W.Frag}
theorem call_isiKK (hK : X.K = K) : CallR X (.builtin "isinstance") (rIsi K) := hK ▸ call_isi
end
end Fr
set_option Elab.async false
set_option linter.all false
set_option maxRecDepth 100000
namespace Fr
open PySem PySem.Spec PyProof.Rows L2
set_option maxHeartbeats 1000000 in
theorem meets_en1 {v : Value} {o : Obj} {H : Heap → Prop} (B : Begins v o H) :
    Meets (Builtin.«enumerate.__new__» ⟨[.type "enumerate", v], []⟩) (fun _ R s => H s.heap ∧
      R (.ok (.ret (.ref (s.heap.push o).objs.size))) { s with heap := (s.heap.push o).push { cls := .type "enumerate", data := .fields #[.none, .bool false, .ref s.heap.objs.size, rawInt 0, .none, .none] } }) :=
  .of_wp fun prog w A R s h => by
    obtain ⟨hp, g, d, tk, os⟩ := s; obtain ⟨h1, h⟩ := h
    have hsub := sub_enumerate
    have q1 : ∀ {A' : Around} {E : Value → Shared → Prop} {Q : Value → Shared → Prop}, Q (.ref hp.objs.size) ⟨hp.push o, g, d, tk, os⟩ → wpAny (model prog w) A' (pyIter v) Q E ⟨hp, g, d, tk, os⟩ :=
      fun q => B.iter prog w _ _ ⟨hp, g, d, tk, os⟩ _ h1 q
    wp_walk using q1
    refine wpAny_stack_any fun st => wpAny_pure ?_
    split
    · rename_i c _ _ _ _ _
      cases (c == Value.type "enumerate")
      · wp_walk using q1
        exact ⟨_, rfl, h⟩
      · wp_walk using q1
        exact ⟨_, rfl, h⟩
    · wp_walk using q1
      exact ⟨_, rfl, h⟩
theorem call_en1 {prog : Program} {w : World} {A : Around} {E : Value → Shared → Prop} {s : Shared} {v : Value} {o : Obj} {H : Heap → Prop} {Q : Value → Shared → Prop} (B : Begins v o H) (h1 : H s.heap)
    (h : ∀ h', IsEnum h' (s.heap.objs.size + 1) s.heap.objs.size 0 .none → h'.get? s.heap.objs.size = some o → h'.objs.size = s.heap.objs.size + 2 →
      (∀ b o, s.heap.get? b = some o → h'.get? b = some o) → Q (.ref (s.heap.objs.size + 1)) { s with heap := h' }) :
    wpAny (model prog w) A (call (.type "enumerate") [v]) Q E s := by
  refine callType_new F.called_enumerate (by decide) (F.typeCall_enumerate_1 _) (F.newCall_enumerate_1 _) (fun obj => F.args_object_init_2 obj _) F.entry_enumerate_new (meets_en1 B) ⟨h1, ?_⟩
  have hz : (s.heap.push o).objs.size = s.heap.objs.size + 1 := Heap.size_push ..
  show _ ∧ _
  rw [hz]
  have he : IsEnum ((s.heap.push o).push { cls := .type "enumerate", data := .fields #[.none, .bool false, .ref s.heap.objs.size, rawInt 0, .none, .none] }) (s.heap.objs.size + 1) s.heap.objs.size 0 .none := by
    have := Heap.get?_push_size (s.heap.push o) (o := { cls := .type "enumerate", data := .fields #[.none, .bool false, .ref s.heap.objs.size, rawInt 0, .none, .none] }) rfl
    rw [hz] at this; exact this
  exact ⟨⟨_, he, rfl⟩, h _ he (Heap.get?_push_of_some _ (Heap.get?_push_size _ B.free)) (by rw [Heap.size_push, hz]) fun b o x => Heap.get?_push_of_some _ (Heap.get?_push_of_some _ x)⟩
def IteT (K : PySem.W.Frag) (a : Addr) : It :=
  ⟨fun i H => ∃ (xs : List V) (x : V), SqT K H a xs ∧ xs[i]? = some x, fun i H v H' => ∃ T x, v = .ref T ∧ H T = none ∧ H' = upd H T (.tup [.int (i : Nat), x]) ∧ ∀ xs, SqT K H a xs → xs[i]? = some x, fun i H => ∃ xs : List V, SqT K H a xs ∧ xs.length = i⟩
theorem turn_enumT {P : Program} {w : World} {K : PySem.W.Frag} {elts : List Expr} {kk : Nat} {tpos : Pos} (a e it : Addr) (hae : a ≠ it) :
    Turn P w K (.Tuple elts kk tpos) (IteT K a) [e, it] e (fun i h => (∃ old, IsEnum h e it ((i : Nat) : Int) old) ∧ h.IsTupleIter it a i ∧ e ≠ it) where
  mem := by simp
  obj := fun i h st b hb => by
    obtain ⟨⟨old, he⟩, ⟨o, ho, hc, hd⟩, _⟩ := st
    have e' : b = e ∨ b = it := by simpa using hb
    rcases e' with z | z
    · rw [z]; exact ⟨_, he, fun v q => nomatch q⟩
    · rw [z]; exact ⟨o, ho, fun v q => by rw [hd] at q; cases q⟩
  keep := fun i h h' st k => let ⟨⟨old, he⟩, hi, hne⟩ := st; ⟨⟨old, k e (by simp) _ he⟩, hi.at fun o q => k it (by simp) o q, hne⟩
  item := by
    intro X hP hw hK hc i pins s σ H E I hf st hg
    subst hP hw hK
    obtain ⟨⟨old, he⟩, hit, hne⟩ := st
    obtain ⟨xs, x, hq, hx⟩ := hg
    obtain ⟨its, rv, p, hz⟩ := I.tuple hq
    obtain ⟨u, hu, ru⟩ := rv.get hx
    have hel : e < s.heap.objs.size := Heap.lt_size he
    have hi : i < its.toArray.size := by
      have := (List.getElem?_eq_some_iff.mp hu).1
      simpa using this
    have hea : e ∉ [it, a] := fun z => by
      have z' : e = it ∨ e = a := by simpa using z
      rcases z' with z | z
      · exact hne z
      · obtain ⟨o, ho, hc', _⟩ := id p
        rw [← z, he] at ho
        cases ho
        injection hc' with z2
        exact absurd z2 (by decide)
    have D := Draws.tuple (prog := X.prog) (w := X.w) (A := X.A.in1) (I.ok.hd hc) it a hae its.toArray
    refine wpAny_pyNext_enum_itemC D he ⟨hit, p⟩ hi hne hea fun y h' tk hy ho hit' hT hsz hk => ?_
    obtain rfl : u = y := by
      have hu' : its.toArray[i]? = some u := by simpa using hu
      have hy' : its.toArray[i]? = some y := hy
      rw [hu'] at hy'
      exact Option.some.inj hy'
    refine ⟨_, rfl, wpAny_letOwnedTupleGo_enum (s := { s with heap := h', toks := tk + 1 }) ho fun h'' he' sb => ?_⟩
    have hT2 : h''.get? s.heap.objs.size = some { cls := .type "tuple", data := .seq #[.int i tk, u] } := (sb.2 _ (Nat.ne_of_gt hel)).trans hT
    have new : ObjOk X.prog X.w (upd H s.heap.objs.size (.tup [.int (i : Nat), x])) h'' s.heap.objs.size (.tup [.int (i : Nat), x]) :=
      ⟨by show 2 ≤ sizeLine; decide, [.int i tk, u], .cons ⟨_, rfl⟩ (.cons ru .nil), ⟨_, hT2, rfl, _, rfl⟩⟩
    have I1 : Inv X pins σ (upd H s.heap.objs.size (.tup [.int (i : Nat), x])) { s with heap := h'', toks := tk + 1 } :=
      I.turnedNew (ch := [e, it]) (fun b ob hb q => (sb.2 b (fun z => hb (by simp [z]))).trans (hk b ob (fun z => hb (by simp [z])) (fun z => hb (by simp [z])) q)) hf (Nat.le_refl _) new
    refine ⟨.ref s.heap.objs.size, _, I1, rfl, ⟨_, x, rfl, I.hok.fresh (Nat.le_refl _), rfl, fun ys hy => by rw [I.tuple_inj hy hq]; exact hx⟩, ⟨⟨u, ?_⟩, hit'.1.at fun o q => (sb.2 it (Ne.symm hne)).trans q, hne⟩, fun b hb => ?_⟩
    · have e1 : ((i + 1 : Nat) : Int) = (i : Int) + 1 := by omega
      rw [e1]; exact he'
    · have hb' : b < s.heap.objs.size := by
        have e' : b = e ∨ b = it := by simpa using hb
        rcases e' with z | z
        · rw [z]; exact hel
        · rw [z]; obtain ⟨_, q, _⟩ := hit; exact Heap.lt_size q
      rw [upd_ne (Nat.ne_of_lt hb')]
      exact (hf b hb).1
  done := by
    intro X hP hw hK hc i pins s σ H E I hf st hg
    subst hP hw hK
    obtain ⟨⟨old, he⟩, hit, hne⟩ := st
    obtain ⟨xs, hq, hx⟩ := hg
    obtain ⟨its, rv, p, hz⟩ := I.tuple hq
    obtain ⟨f0, f1, f2, f3, f4, f5⟩ := hf it (by simp)
    have hl := rv.length
    have D := Draws.tuple (prog := X.prog) (w := X.w) (A := X.A.in1) (I.ok.hd hc) it a hae its.toArray
    have hi : its.toArray.size = i := by simp; omega
    exact wpAny_pyNext_enum_endD D he (by rw [hi]; exact ⟨hit, p⟩) fun h' eb => ⟨rfl, I.turned (t' := s.toks) (fun b o hb q => eb b o hb q) f0 f1 f3 f4 f5⟩
  self := fun A i s Q E st h => let ⟨⟨_, he⟩, _⟩ := st; wpAny_pyIter_enum he h
def iEnumT (K : PySem.W.Frag) (ta : TA) : TI := fun σ H R => ta σ H fun vs H1 => ∃ a xs, vs = [.ref a] ∧ SqT K H1 a xs ∧ R (IteT K a) H1
theorem pi_enumT {X : Cx} {e : Expr} {ta : TA} {p pos tpos : Pos} {elts : List Expr} {kk : Nat} (hg : Gl X "enumerate") (hm : X.mg "enumerate" = none) (ha : PA X [e] ta) (hs : starEach [e] X.env = [(false, eval e X.env)] := by rfl) :
    PI X (.Tuple elts kk tpos) (.Call (.Name "enumerate" p) [e] [] pos) (iEnumT X.K ta) := by
  refine ⟨fun pins s σ H R I h => ?_⟩
  refine Call_ (ld_blt I hg hm boot_enumerate (PyProof.Rows.callWith_type1 (thn (ha.run pos pins s σ H _ I h) fun us s1 ⟨vs, H1, I1, r1, q1⟩ => ?_) hs rfl))
  obtain ⟨a, xs, ex, hq, q⟩ := q1
  subst ex
  cases r1 with
  | cons r rr =>
    cases rr
    cases r
    obtain ⟨its, rv, p', hz⟩ := I1.tuple hq
    have hal : a < s1.heap.objs.size := by obtain ⟨o, ho, _⟩ := id p'; exact Heap.lt_size ho
    refine call_en1 (begins_tuple a its.toArray) p' fun h' he hit hsz hk => wpAny_pyIter_enum he ?_
    have I2 : Inv X pins σ H1 { s1 with heap := h' } := I1.kept (t' := s1.toks) hk
    refine ⟨s1.heap.objs.size + 1, [s1.heap.objs.size + 1, s1.heap.objs.size], _, _, H1, rfl, I2, turn_enumT a (s1.heap.objs.size + 1) s1.heap.objs.size (Nat.ne_of_lt hal), ⟨⟨.none, he⟩, ⟨_, hit, rfl, rfl⟩, Nat.succ_ne_self _⟩, fun b hb => ?_, q⟩
    have e' : b = s1.heap.objs.size + 1 ∨ b = s1.heap.objs.size := by simpa using hb
    have hle : s1.heap.objs.size ≤ b := by
      rcases e' with z | z
      · rw [z]; exact Nat.le_add_right _ _
      · rw [z]; exact Nat.le_refl _
    exact I1.fpOk hle (I1.hok.fresh hle)
section
variable {K : PySem.W.Frag} {a b : Addr} {xs ys : List V}
theorem walk_enumT : Walk (IteT K a) xs.length (fun H => SqT K H a xs) (YPair (fun i => some (.int (i : Nat))) fun i => xs[i]?) :=
  ⟨fun i _ hi q => ⟨xs, xs[i], q, by simp [hi]⟩, fun _ q => ⟨xs, q, rfl⟩, fun i H v H' _ q y => by
    obtain ⟨T, x, rfl, hT, rfl, f⟩ := y
    exact ⟨T, _, x, rfl, hT, rfl, rfl, f xs q⟩⟩
theorem walk_zipT (hl : xs.length = ys.length) : Walk (RZ.ItzT K a b) xs.length (fun H => SqT K H a xs ∧ SqT K H b ys) (YPair (fun i => xs[i]?) fun i => ys[i]?) :=
  ⟨fun i _ hi q => ⟨xs, ys, xs[i], ys[i], q.1, q.2, by simp [hi], by simp [← hl, hi]⟩, fun _ q => ⟨xs, ys, q.1, q.2, .inl (Nat.le_refl _)⟩, fun i H v H' _ q y => by
    obtain ⟨T, x, y, rfl, hT, rfl, f1, f2⟩ := y
    exact ⟨T, x, y, rfl, hT, rfl, f1 xs q.1, f2 ys q.2⟩⟩
theorem walk_zipL (hl : xs.length = ys.length) : Walk (Itz K a b) xs.length (fun H => SqL K H a xs ∧ SqL K H b ys) (YPair (fun i => xs[i]?) fun i => ys[i]?) :=
  ⟨fun i _ hi q => ⟨xs, ys, xs[i], ys[i], q.1, q.2, by simp [hi], by simp [← hl, hi]⟩, fun _ q => ⟨xs, ys, q.1, q.2, .inl (Nat.le_refl _)⟩, fun i H v H' _ q y => by
    obtain ⟨T, x, y, rfl, hT, rfl, f1, f2⟩ := y
    exact ⟨T, x, y, rfl, hT, rfl, f1 xs q.1, f2 ys q.2⟩⟩
end
section
variable {S : Addr → Prop} {I : Hp → Prop} {H : Hp} {J : It} {n : Nat} {G : Hp → Prop} {fx fy : Nat → Option V} {g : TG} {tt : TT} {te : TE} {vs : List Nat} {σ : L2.St} {Q : Addr → Hp → Prop}
theorem lcP (w : Walk J n G (YPair fx fy)) (m : Fm S I) (i0 : I H) (hG : ∀ H', Fx S I H H' → G H') (P : Nat → List V → Hp → Prop) (p0 : ∀ D, H D = none → P 0 [] (upd H D (.lst [])))
    (hs : ∀ D i T x y acc H', H D = none → i < n → fx i = some x → fy i = some y → Fx S I H H' → H' D = some (.lst acc) → acc.length ≤ i → P i acc H' → H' T = none → g (.ref T) (wipe σ vs) (upd H' T (.tup [x, y])) fun σ2 H2 => wipe σ2 vs = wipe σ vs ∧ tt σ2 H2 fun b H3 =>
      if b = true then te σ2 H3 fun y H4 => ∃ acc, H4 D = some (.lst acc) ∧ acc.length < sizeLine ∧ Cs S I H P D (i + 1) (upd H4 D (.lst (acc ++ [y]))) else Cs S I H P D (i + 1) H3)
    (q : ∀ D H' acc, H D = none → Fx S I H H' → H' D = some (.lst acc) → P n acc H' → Q D H') :
    ∀ D, H D = none → ∃ W : Nat → Nat → Hp → Prop, (∃ m, W 0 m (upd H D (.lst []))) ∧ ∀ i m H, W i m H →
      (J.stop i H ∧ Q D H) ∨ (J.go i H ∧ ∃ Nx : Hp → Prop, (∀ H', Nx H' → ∃ m', m' < m ∧ W (i + 1) m' H') ∧ ∀ x H', J.yld i H x H' → g x (wipe σ vs) H' fun σ2 H2 => wipe σ2 vs = wipe σ vs ∧ tt σ2 H2 fun b H3 =>
        if b = true then te σ2 H3 fun y H4 => ∃ acc, H4 D = some (.lst acc) ∧ acc.length < sizeLine ∧ Nx (upd H4 D (.lst (acc ++ [y]))) else Nx H3) := fun D hD =>
  lc_it w (Cs S I H P D) ⟨Fx.new m i0 hD, [], upd_same, Nat.le_refl _, p0 D hD⟩ (fun i H' _ p => hG H' p.1)
    (fun i x H' H'' hi p y => by
      obtain ⟨p1, acc, p2, p3, p4⟩ := p
      obtain ⟨T, x, y, rfl, hT, rfl, f1, f2⟩ := y
      exact hs D i T x y acc H' hD hi f1 f2 p1 p2 p3 p4 hT)
    (fun H' p => by
      obtain ⟨p1, acc, p2, p3, p4⟩ := p
      exact q D H' acc hD p1 p2 p4)
theorem for_P (w : Walk J n G (YPair fx fy)) {g : TG} {tb : TS} {D : Ends} {σ : L2.St} {H : Hp} (Pv : Nat → L2.St → Hp → Prop) (h0 : Pv 0 σ H) (hG : ∀ i σ H, i ≤ n → Pv i σ H → G H)
    (hs : ∀ i T x y σ H, i < n → fx i = some x → fy i = some y → Pv i σ H → H T = none → g (.ref T) σ (upd H T (.tup [x, y])) fun σ2 H2 => tb { D with nx := Pv (i + 1), ct := Pv (i + 1), bk := D.nx } σ2 H2) (hd : ∀ σ H, Pv n σ H → D.nx σ H) :
    ∃ W : Nat → Nat → L2.St → Hp → Prop, (∃ m, W 0 m σ H) ∧ ∀ i m σ H, W i m σ H →
      (J.stop i H ∧ D.nx σ H) ∨ (J.go i H ∧ ∃ N : L2.St → Hp → Prop, (∀ σ' H', N σ' H' → ∃ m', m' < m ∧ W (i + 1) m' σ' H') ∧ ∀ x H', J.yld i H x H' → g x σ H' fun σ2 H2 => tb { D with nx := N, ct := N, bk := D.nx } σ2 H2) :=
  for_it w Pv h0 hG (fun i v σ H H' hi p y => by
    obtain ⟨T, x, y, rfl, hT, rfl, f1, f2⟩ := y
    exact hs i T x y σ H hi f1 f2 p hT) hd
end
end Fr
set_option Elab.async false
set_option linter.all false
set_option maxRecDepth 100000
namespace Fr
open PySem PySem.Spec PyProof.Rows L2
def Vat (c : Addr) (H : Hp) : Prop := ∃ x y z : Int, H c = some (.lst [.int x, .int y, .int z])
def Sv (c : Addr) : Addr → Prop := fun b => b = c
theorem fmV (c : Addr) : Fm (Sv c) (Vat c) := by
  constructor
  · intro H D i h e
    obtain ⟨x, y, z, q⟩ := i
    unfold Sv at e
    rw [e, q] at h
    cases h
  · intro H D o n i
    obtain ⟨x, y, z, q⟩ := i
    exact ⟨x, y, z, by rw [upd_ne (fun e => n e.symm)]; exact q⟩
abbrev Fv (c : Addr) : Hp → Hp → Prop := Fx (Sv c) (Vat c)
theorem vat_new {c l : Addr} {H : Hp} {o : HO} (hc : Vat c H) (hl : H l = none) : Vat c (upd H l o) := (fmV c).stay ((fmV c).fresh hc hl) hc
theorem fv_new {c l : Addr} {H : Hp} {o : HO} (hc : Vat c H) (hl : H l = none) : Fv c H (upd H l o) := Fx.new (fmV c) hc hl
theorem fv_ne {c l : Addr} {H : Hp} (hc : Vat c H) (hl : H l = none) : l ≠ c := (fmV c).fresh hc hl
theorem vat_ex {c : Addr} {H H' : Hp} (hc : Vat c H) (e : Ex0 H H') : Vat c H' := by
  obtain ⟨x, y, z, q⟩ := hc
  exact ⟨x, y, z, Ex0.ap e q⟩
theorem fv_ex {c : Addr} {H H' : Hp} (hc : Vat c H) (e : Ex0 H H') : Fv c H H' := ⟨vat_ex hc e, fun b o _ h => Ex0.ap e h⟩
theorem fv_tup {c a : Addr} {H H' : Hp} {xs : List V} (hc : Vat c H) (f : Fv c H H') (h : H a = some (.tup xs)) : H' a = some (.tup xs) := f.2 a _ (fun e => by
  obtain ⟨x, y, z, q⟩ := hc
  unfold Sv at e
  rw [e, q] at h
  cases h) h
theorem ex_fv {p : Addr} {H H1 H2 : Hp} (e : Ex0 H H1) (hp : H p = none) (f : Fv p H1 H2) : Ex0 H H2 := ⟨trivial, fun b o _ h => f.2 b o (fun z => by unfold Sv at z; rw [z, hp] at h; cases h) (Ex0.ap e h)⟩
theorem cut_map (ns : List Int) (lo hi : Option Int) : cutV (ns.map V.int) lo hi = ((ns.drop (HT.sIx (ns.map V.int).length 0 lo)).take (HT.sIx (ns.map V.int).length (ns.map V.int).length hi - HT.sIx (ns.map V.int).length 0 lo)).map V.int := by
  unfold cutV
  rw [← List.map_drop, ← List.map_take]
end Fr
set_option Elab.async false
set_option linter.all false
set_option maxRecDepth 100000
namespace Fr
open PySem PySem.Spec PyProof.Rows L2
def addAt (l : List Int) (k : Nat) (v : Int) : List Int := l.set k (l.getD k 0 + v)
def rowN (l : List Int) (k : Nat) (x : Int) (ys : List Int) : Nat → List Int
  | 0 => l
  | j + 1 => addAt (rowN l k x ys j) (k + j) (x * ys.getD j 0)
def prodN (xs ys : List Int) : Nat → List Int
  | 0 => List.replicate (xs.length + ys.length - 1) 0
  | i + 1 => rowN (prodN xs ys i) i (xs.getD i 0) ys ys.length
def prodL (xs ys : List Int) : List Int := prodN xs ys xs.length
theorem addAt_len (l : List Int) (k : Nat) (v : Int) : (addAt l k v).length = l.length := by unfold addAt; rw [List.length_set]
theorem rowN_len (l : List Int) (k : Nat) (x : Int) (ys : List Int) : ∀ j, (rowN l k x ys j).length = l.length
  | 0 => rfl
  | j + 1 => by rw [rowN, addAt_len, rowN_len l k x ys j]
theorem prodN_len (xs ys : List Int) : ∀ i, (prodN xs ys i).length = xs.length + ys.length - 1
  | 0 => by rw [prodN, List.length_replicate]
  | i + 1 => by rw [prodN, rowN_len, prodN_len xs ys i]
theorem prodL_len (xs ys : List Int) : (prodL xs ys).length = xs.length + ys.length - 1 := prodN_len xs ys _
theorem gD_mem {l : List Int} {k : Nat} (h : k < l.length) : l.getD k 0 ∈ l := by
  rw [List.getD_eq_getElem?_getD, List.getElem?_eq_getElem h]
  exact List.getElem_mem h
theorem getD_le {l : List Int} {m : Nat} (h : ∀ z ∈ l, z.natAbs ≤ m) (k : Nat) : (l.getD k 0).natAbs ≤ m := by
  by_cases hk : k < l.length
  · exact h _ (gD_mem hk)
  · rw [List.getD_eq_getElem?_getD, List.getElem?_eq_none (by omega)]
    exact Nat.zero_le _
theorem rowN_le {l : List Int} {k : Nat} {x : Int} {ys : List Int} {m M : Nat} (h : ∀ z ∈ l, z.natAbs ≤ m) (hy : ∀ y ∈ ys, (x * y).natAbs ≤ M) : ∀ j, j ≤ ys.length → ∀ z ∈ rowN l k x ys j, z.natAbs ≤ m + j * M
  | 0, _ => fun z hz => by have := h z hz; omega
  | j + 1, hj => fun z hz => by
    have ih := rowN_le (k := k) h hy j (by omega)
    have e : (j + 1) * M = j * M + M := by rw [Nat.add_mul, Nat.one_mul]
    rw [rowN] at hz
    unfold addAt at hz
    rcases List.mem_or_eq_of_mem_set hz with q | rfl
    · have := ih z q
      omega
    · have h1 := getD_le ih (k + j)
      have h2 := hy _ (gD_mem (show j < ys.length by omega))
      omega
theorem prodN_le {xs ys : List Int} {M : Nat} (h : ∀ x ∈ xs, ∀ y ∈ ys, (x * y).natAbs ≤ M) : ∀ i, i ≤ xs.length → ∀ z ∈ prodN xs ys i, z.natAbs ≤ i * (ys.length * M)
  | 0, _ => fun z hz => by
    rw [prodN] at hz
    rw [List.eq_of_mem_replicate hz]
    exact Nat.zero_le _
  | i + 1, hi => fun z hz => by
    have ih := prodN_le h i (by omega)
    have e : (i + 1) * (ys.length * M) = i * (ys.length * M) + ys.length * M := by rw [Nat.add_mul, Nat.one_mul]
    rw [prodN] at hz
    rw [e]
    exact rowN_le ih (fun y hy => h _ (gD_mem (by omega)) y hy) _ (Nat.le_refl _) z hz
theorem prodL_B {xs ys : List Int} {a b : Nat} (ha : ∀ x ∈ xs, B a x) (hb : ∀ y ∈ ys, B b y) (hp : 0 < a) : ∀ z ∈ prodL xs ys, B (a + b + xs.length * ys.length) z := fun z hz => by
  have h1 := prodN_le (M := 2 ^ (a + b)) (fun x hx y hy => Nat.le_of_lt (B.mul (ha x hx) (hb y hy)).1) xs.length (Nat.le_refl _) z hz
  refine ⟨?_, by omega⟩
  rw [← Nat.mul_assoc] at h1
  rw [Nat.pow_add 2 (a + b), Nat.mul_comm]
  exact Nat.lt_of_le_of_lt h1 (Nat.mul_lt_mul_of_pos_right Nat.lt_two_pow_self (Nat.two_pow_pos _))
theorem get_map {l : List Int} {k : Nat} (h : k < l.length) : (l.map V.int)[k]? = some (V.int (l.getD k 0)) := by
  rw [List.getElem?_map, List.getElem?_eq_getElem h, List.getD_eq_getElem?_getD, List.getElem?_eq_getElem h]
  rfl
theorem get_D {l : List Int} {k : Nat} {y : V} (h : (l.map V.int)[k]? = some y) : y = V.int (l.getD k 0) ∧ k < l.length := by
  have hk : k < l.length := by
    have := (List.getElem?_eq_some_iff.mp h).1
    rwa [List.length_map] at this
  rw [get_map hk] at h
  exact ⟨(Option.some.inj h).symm, hk⟩
theorem zeros (m : Nat) : (List.replicate m [V.int 0]).flatten = (List.replicate m (0 : Int)).map V.int := by
  induction m with
  | zero => rfl
  | succ m ih => rw [List.replicate_succ, List.replicate_succ, List.flatten_cons, ih]; rfl
def valN (xs : List Int) (x y : Int) : Nat → Int × Int
  | 0 => (0, 1)
  | i + 1 => ((valN xs x y i).1 * x + xs.getD i 0 * (valN xs x y i).2, (valN xs x y i).2 * y)
theorem valN_B {xs : List Int} {x y : Int} (hx : B 200 x) (hy : B 200 y) (h : ∀ z ∈ xs, B 200 z) : ∀ i, i ≤ 8 → B (1 + 3000 * i) (valN xs x y i).1 ∧ B (1 + 200 * i) (valN xs x y i).2
  | 0, _ => ⟨⟨by show (0 : Int).natAbs < 2 ^ 1; decide, by decide⟩, ⟨by show (1 : Int).natAbs < 2 ^ 1; decide, by decide⟩⟩
  | i + 1, hi => by
    obtain ⟨h1, h2⟩ := valN_B hx hy h i (by omega)
    have h3 : B 200 (xs.getD i 0) := ⟨Nat.lt_of_le_of_lt (getD_le (m := 2 ^ 200 - 1) (fun z hz => Nat.le_sub_one_of_lt (h z hz).1) i) (by decide), by decide⟩
    rw [valN]
    exact ⟨(B.add (B.mul h1 hx) (B.mul h3 h2)).mono (by omega), (B.mul h2 hy).mono (by omega)⟩
def partN (n : Nat) (e p q r s : Int) (i : Nat) : Nat → List Int
  | 0 => [e]
  | t + 1 => prodL (partN n e p q r s i t) (if (0 : Int) + (t : Int) < ((n : Int) - 1) - (i : Int) then [p, r] else [q, s])
def putN (row : List Int) (p q r s : Int) : Nat → List Int
  | 0 => List.replicate row.length 0
  | i + 1 => List.zipWith (· + ·) (putN row p q r s i) (partN row.length (row.getD i 0) p q r s i (row.length - 1))
theorem partN_len (n : Nat) (e p q r s : Int) (i : Nat) : ∀ t, (partN n e p q r s i t).length = t + 1
  | 0 => rfl
  | t + 1 => by
    rw [partN, prodL_len, partN_len n e p q r s i t]
    split <;> rfl
theorem partN_B {n : Nat} {e p q r s : Int} {i : Nat} (he : B 400 e) (hp : B 400 p) (hq : B 400 q) (hr : B 400 r) (hs : B 400 s) : ∀ t, t ≤ 10 → ∀ z ∈ partN n e p q r s i t, B (400 + 500 * t) z
  | 0, _ => fun z hz => by
    rw [partN] at hz
    have : z = e := by simpa using hz
    rw [this]
    exact he
  | t + 1, ht => fun z hz => by
    have ih := partN_B (n := n) (i := i) he hp hq hr hs t (by omega)
    rw [partN] at hz
    refine B.mono (prodL_B (a := 400 + 500 * t) (b := 400) ih (fun y hy => ?_) (by omega) z hz) ?_
    · split at hy <;> simp only [List.mem_cons, List.mem_nil_iff, or_false] at hy <;> rcases hy with rfl | rfl <;> assumption
    · rw [partN_len]
      split <;> simp <;> omega
theorem putN_len (row : List Int) (p q r s : Int) (h : row ≠ []) : ∀ i, (putN row p q r s i).length = row.length
  | 0 => by rw [putN, List.length_replicate]
  | i + 1 => by
    have := List.length_pos_iff.mpr h
    rw [putN, List.length_zipWith, putN_len row p q r s h i, partN_len]
    omega
theorem mem_zip {xs ys : List Int} {z : Int} (h : z ∈ List.zipWith (· + ·) xs ys) : ∃ x ∈ xs, ∃ y ∈ ys, z = x + y := by
  obtain ⟨k, hk, e⟩ := List.getElem_of_mem h
  rw [List.getElem_zipWith] at e
  rw [List.length_zipWith] at hk
  exact ⟨_, List.getElem_mem (by omega), _, List.getElem_mem (by omega), e.symm⟩
theorem putN_B {row : List Int} {p q r s : Int} (h : ∀ e ∈ row, B 400 e) (hl : row.length ≤ 11) (hp : B 400 p) (hq : B 400 q) (hr : B 400 r) (hs : B 400 s) : ∀ i, i ≤ row.length → ∀ z ∈ putN row p q r s i, B (1 + 6000 * i) z
  | 0, _ => fun z hz => by
    rw [putN] at hz
    rw [List.eq_of_mem_replicate hz]
    exact ⟨by decide, by decide⟩
  | i + 1, hi => fun z hz => by
    rw [putN] at hz
    obtain ⟨u, hu, v, hv, rfl⟩ := mem_zip hz
    exact (B.add (putN_B h hl hp hq hr hs i (by omega) u hu) (partN_B (h _ (gD_mem (by omega))) hp hq hr hs _ (by omega) v hv)).mono (by omega)
end Fr
set_option Elab.async false
set_option linter.all false
set_option maxRecDepth 100000
namespace K05M
def fv (a b c d x y : Int) : Int := a * x * x * x + b * x * x * y + c * x * y * y + d * y * y * y
def fdisc (a b c d : Int) : Int := b * b * c * c - 4 * a * c * c * c - 4 * b * b * b * d - 27 * a * a * d * d + 18 * a * b * c * d
def fl2 (a b c d p q r s : Int) : Int := 3 * a * p * p * r + b * p * (p * s + 2 * q * r) + c * q * (2 * p * s + q * r) + 3 * d * q * q * s
def fl3 (a b c d p q r s : Int) : Int := 3 * a * p * r * r + b * r * (2 * p * s + q * r) + c * s * (p * s + 2 * q * r) + 3 * d * q * s * s
theorem put1 (a b c d p q r s i j : Int) : fv (fv a b c d p q) (fl2 a b c d p q r s) (fl3 a b c d p q r s) (fv a b c d r s) i j = fv a b c d (i * p + j * r) (i * q + j * s) := by
  unfold fv fl2 fl3
  grind
theorem put2 (a b c d p q r s i j k m : Int) : fl2 (fv a b c d p q) (fl2 a b c d p q r s) (fl3 a b c d p q r s) (fv a b c d r s) i j k m = fl2 a b c d (i * p + j * r) (i * q + j * s) (k * p + m * r) (k * q + m * s) := by
  unfold fv fl2 fl3
  grind
theorem put3 (a b c d p q r s i j k m : Int) : fl3 (fv a b c d p q) (fl2 a b c d p q r s) (fl3 a b c d p q r s) (fv a b c d r s) i j k m = fl3 a b c d (i * p + j * r) (i * q + j * s) (k * p + m * r) (k * q + m * s) := by
  unfold fv fl2 fl3
  grind
theorem disc (a b c d p q r s : Int) : fdisc (fv a b c d p q) (fl2 a b c d p q r s) (fl3 a b c d p q r s) (fv a b c d r s) = (p * s - q * r) * (p * s - q * r) * (p * s - q * r) * (p * s - q * r) * (p * s - q * r) * (p * s - q * r) * fdisc a b c d := by
  unfold fdisc fv fl2 fl3
  grind
theorem fv_mul (e a b c d x y : Int) : fv (e * a) (e * b) (e * c) (e * d) x y = e * fv a b c d x y := by unfold fv; grind
theorem fl2_mul (e a b c d p q r s : Int) : fl2 (e * a) (e * b) (e * c) (e * d) p q r s = e * fl2 a b c d p q r s := by unfold fl2; grind
theorem fl3_mul (e a b c d p q r s : Int) : fl3 (e * a) (e * b) (e * c) (e * d) p q r s = e * fl3 a b c d p q r s := by unfold fl3; grind
theorem disc_neg (a b c d : Int) : fdisc (-1 * a) (-1 * b) (-1 * c) (-1 * d) = fdisc a b c d := by unfold fdisc; grind
theorem det_mul (p q r s i j k m : Int) : (i * p + j * r) * (k * q + m * s) - (i * q + j * s) * (k * p + m * r) = (i * m - j * k) * (p * s - q * r) := by grind
theorem fv_one (a b c d : Int) : fv a b c d 1 0 = a ∧ fv a b c d 0 1 = d ∧ fl2 a b c d 1 0 0 1 = b ∧ fl3 a b c d 1 0 0 1 = c := by
  unfold fv fl2 fl3
  refine ⟨?_, ?_, ?_, ?_⟩ <;> grind
theorem und (p q r s e : Int) (he : e = p * s - q * r) (h : e = 1 ∨ e = -1) : (e * s) * p + (-e * q) * r = 1 ∧ (e * s) * q + (-e * q) * s = 0 ∧ (-e * r) * p + (e * p) * r = 0 ∧ (-e * r) * q + (e * p) * s = 1 := by
  have h1 : e * e = 1 := by rcases h with rfl | rfl <;> decide
  refine ⟨?_, ?_, ?_, ?_⟩ <;> grind
end K05M
set_option Elab.async false
set_option linter.all false
namespace K06M
open K05M
def h0 (a b c d : Int) : Int := b * b - 3 * a * c
def h1 (a b c d : Int) : Int := b * c - 9 * a * d
def h2 (a b c d : Int) : Int := c * c - 3 * b * d
def g0 (a b c d : Int) : Int := 2 * b * b * b - 9 * a * b * c + 27 * a * a * d
def g1 (a b c d : Int) : Int := 3 * b * b * c - 18 * a * c * c + 27 * a * b * d
def g2 (a b c d : Int) : Int := -3 * b * c * c + 18 * b * b * d - 27 * a * c * d
def g3 (a b c d : Int) : Int := -2 * c * c * c + 9 * b * c * d - 27 * a * d * d
def dv (a b c x y : Int) : Int := a * x * x + b * x * y + c * y * y
def ddisc (a b c : Int) : Int := b * b - 4 * a * c
def dl (a b c p q r s : Int) : Int := 2 * a * p * r + b * (p * s + q * r) + 2 * c * q * s
theorem hdisc (a b c d : Int) : ddisc (h0 a b c d) (h1 a b c d) (h2 a b c d) = -3 * fdisc a b c d := by
  unfold ddisc h0 h1 h2 fdisc; grind
theorem gh0 (a b c d : Int) : h0 (g0 a b c d) (g1 a b c d) (g2 a b c d) (g3 a b c d) = 27 * fdisc a b c d * h0 a b c d := by
  unfold h0 g0 g1 g2 fdisc; grind
theorem gh1 (a b c d : Int) : h1 (g0 a b c d) (g1 a b c d) (g2 a b c d) (g3 a b c d) = 27 * fdisc a b c d * h1 a b c d := by
  unfold h1 g0 g1 g2 g3 fdisc; grind
theorem gh2 (a b c d : Int) : h2 (g0 a b c d) (g1 a b c d) (g2 a b c d) (g3 a b c d) = 27 * fdisc a b c d * h2 a b c d := by
  unfold h2 g1 g2 g3 fdisc; grind
theorem led0 (a b c d p q r s : Int) : h0 (fv a b c d p q) (fl2 a b c d p q r s) (fl3 a b c d p q r s) (fv a b c d r s) = (p * s - q * r) * (p * s - q * r) * dv (h0 a b c d) (h1 a b c d) (h2 a b c d) p q := by
  unfold h0 h1 h2 fv fl2 fl3 dv; grind
theorem led1 (a b c d p q r s : Int) : h1 (fv a b c d p q) (fl2 a b c d p q r s) (fl3 a b c d p q r s) (fv a b c d r s) = (p * s - q * r) * (p * s - q * r) * dl (h0 a b c d) (h1 a b c d) (h2 a b c d) p q r s := by
  unfold h0 h1 h2 fv fl2 fl3 dl; grind
theorem led2 (a b c d p q r s : Int) : h2 (fv a b c d p q) (fl2 a b c d p q r s) (fl3 a b c d p q r s) (fv a b c d r s) = (p * s - q * r) * (p * s - q * r) * dv (h0 a b c d) (h1 a b c d) (h2 a b c d) r s := by
  unfold h0 h1 h2 fv fl2 fl3 dv; grind
theorem syz (a b c d x y : Int) : 4 * dv (h0 a b c d) (h1 a b c d) (h2 a b c d) x y * dv (h0 a b c d) (h1 a b c d) (h2 a b c d) x y * dv (h0 a b c d) (h1 a b c d) (h2 a b c d) x y = fv (g0 a b c d) (g1 a b c d) (g2 a b c d) (g3 a b c d) x y * fv (g0 a b c d) (g1 a b c d) (g2 a b c d) (g3 a b c d) x y + 27 * fdisc a b c d * fv a b c d x y * fv a b c d x y := by
  unfold dv h0 h1 h2 g0 g1 g2 g3 fdisc fv; grind
theorem gdisc (a b c d : Int) : fdisc (g0 a b c d) (g1 a b c d) (g2 a b c d) (g3 a b c d) = 729 * fdisc a b c d * fdisc a b c d * fdisc a b c d := by
  unfold g0 g1 g2 g3 fdisc; grind
theorem gled0 (a b c d p q r s : Int) : g0 (fv a b c d p q) (fl2 a b c d p q r s) (fl3 a b c d p q r s) (fv a b c d r s) = (p * s - q * r) * (p * s - q * r) * (p * s - q * r) * fv (g0 a b c d) (g1 a b c d) (g2 a b c d) (g3 a b c d) p q := by
  unfold g0 g1 g2 g3 fv fl2 fl3; grind
theorem gled1 (a b c d p q r s : Int) : g1 (fv a b c d p q) (fl2 a b c d p q r s) (fl3 a b c d p q r s) (fv a b c d r s) = (p * s - q * r) * (p * s - q * r) * (p * s - q * r) * fl2 (g0 a b c d) (g1 a b c d) (g2 a b c d) (g3 a b c d) p q r s := by
  unfold g0 g1 g2 g3 fv fl2 fl3; grind
theorem gled2 (a b c d p q r s : Int) : g2 (fv a b c d p q) (fl2 a b c d p q r s) (fl3 a b c d p q r s) (fv a b c d r s) = (p * s - q * r) * (p * s - q * r) * (p * s - q * r) * fl3 (g0 a b c d) (g1 a b c d) (g2 a b c d) (g3 a b c d) p q r s := by
  unfold g0 g1 g2 g3 fv fl2 fl3; grind
theorem gled3 (a b c d p q r s : Int) : g3 (fv a b c d p q) (fl2 a b c d p q r s) (fl3 a b c d p q r s) (fv a b c d r s) = (p * s - q * r) * (p * s - q * r) * (p * s - q * r) * fv (g0 a b c d) (g1 a b c d) (g2 a b c d) (g3 a b c d) r s := by
  unfold g0 g1 g2 g3 fv fl2 fl3; grind
theorem h_mul (e a b c d : Int) : h0 (e * a) (e * b) (e * c) (e * d) = e * e * h0 a b c d ∧ h1 (e * a) (e * b) (e * c) (e * d) = e * e * h1 a b c d ∧ h2 (e * a) (e * b) (e * c) (e * d) = e * e * h2 a b c d := by
  unfold h0 h1 h2
  refine ⟨?_, ?_, ?_⟩ <;> grind
theorem g_mul (e a b c d : Int) : g0 (e * a) (e * b) (e * c) (e * d) = e * e * e * g0 a b c d ∧ g1 (e * a) (e * b) (e * c) (e * d) = e * e * e * g1 a b c d ∧ g2 (e * a) (e * b) (e * c) (e * d) = e * e * e * g2 a b c d ∧ g3 (e * a) (e * b) (e * c) (e * d) = e * e * e * g3 a b c d := by
  unfold g0 g1 g2 g3
  refine ⟨?_, ?_, ?_, ?_⟩ <;> grind
end K06M
set_option Elab.async false
set_option linter.all false
set_option maxRecDepth 100000
namespace Fr
open PySem PySem.Spec PyProof.Rows L2
def CDivNW (_ j : Int) : Prop := j ≠ 0 ∧ j.natAbs.log2 < 9000
theorem op_fdivNW {X : Cx} : OpR X (binaryOp .FloorDiv) (rI CDivNW fun i j => .int (i.fdiv j)) := opI fun _ _ _ _ _ _ _ hc q => floordiv_int hc.1 q (.inl (PyProof.noPylong_of_log2 hc.2))
structure Bz (M : Nat) (p q one other u v u' v' : Int) : Prop where
  o : 0 ≤ other
  pos : 0 ≤ one ∨ (u = 1 ∧ u' = 0)
  e1 : u * p + v * q = one
  e2 : u' * p + v' * q = other
  d : one * u' - other * u = q ∨ one * u' - other * u = -q
  s : (0 ≤ u ∧ u' ≤ 0) ∨ (u ≤ 0 ∧ 0 ≤ u')
  bu : u.natAbs ≤ q.natAbs + 1
  bu' : u'.natAbs ≤ q.natAbs + 1
  g : Nat.gcd one.natAbs other.natAbs = 1
  b1 : one.natAbs ≤ M
  b2 : other.natAbs ≤ M
  z : q = 0 → other = 0 ∧ v = 0
theorem Bz.init {M : Nat} {p q : Int} (hq : 0 ≤ q) (g : Nat.gcd p.natAbs q.natAbs = 1) (h1 : p.natAbs ≤ M) (h2 : q.natAbs ≤ M) : Bz M p q p q 1 0 0 1 :=
  ⟨hq, .inr ⟨rfl, rfl⟩, by simp, by simp, .inr (by simp), .inl ⟨by decide, by decide⟩, by show 1 ≤ _; omega, by show 0 ≤ _; omega, g, h1, h2, fun h => ⟨h, rfl⟩⟩
theorem Bz.step {M : Nat} {p q one other u v u' v' : Int} (h : Bz M p q one other u v u' v') (ho : other ≠ 0) :
    Bz M p q other (one - one / other * other) u' v' (u - one / other * u') (v - one / other * v') ∧ (one - one / other * other).toNat < other.toNat := by
  have o0 : 0 < other := by have := h.o; omega
  have hr : one - one / other * other = one % other := by
    have := Int.emod_add_mul_ediv one other
    rw [Int.mul_comm other] at this
    omega
  have r0 := Int.emod_nonneg one ho
  have r1 := Int.emod_lt_of_pos one o0
  have s' : (0 ≤ u' ∧ u - one / other * u' ≤ 0) ∨ (u' ≤ 0 ∧ 0 ≤ u - one / other * u') := by
    rcases h.pos with hp | ⟨rfl, rfl⟩
    · have t0 : 0 ≤ one / other := Int.ediv_nonneg hp h.o
      rcases h.s with ⟨a, b⟩ | ⟨a, b⟩
      · right
        have := Int.mul_nonneg t0 (show 0 ≤ -u' by omega)
        rw [Int.mul_neg] at this
        exact ⟨b, by omega⟩
      · left
        have := Int.mul_nonneg t0 b
        exact ⟨b, by omega⟩
    · right
      simp
  have dd : other * (u - one / other * u') - (one - one / other * other) * u' = -(one * u' - other * u) := by grind
  have d' : other * (u - one / other * u') - (one - one / other * other) * u' = q ∨ other * (u - one / other * u') - (one - one / other * other) * u' = -q := by
    rw [dd]
    rcases h.d with e | e <;> rw [e]
    · exact .inr rfl
    · exact .inl (by omega)
  have bu'' : (u - one / other * u').natAbs ≤ q.natAbs + 1 := by
    rw [hr] at d'
    generalize u - one / other * u' = w at *
    have k1 : other * w - (one % other) * u' = q ∨ other * w - (one % other) * u' = -q := d'
    rcases s' with ⟨a, b⟩ | ⟨a, b⟩
    · have m1 := Int.mul_nonneg r0 a
      have m2 := Int.mul_le_mul_of_nonneg_right (show (1 : Int) ≤ other by omega) (show 0 ≤ -w by omega)
      rw [Int.one_mul, Int.mul_neg] at m2
      omega
    · have m1 := Int.mul_nonneg r0 (show 0 ≤ -u' by omega)
      have m2 := Int.mul_le_mul_of_nonneg_right (show (1 : Int) ≤ other by omega) b
      rw [Int.one_mul] at m2
      rw [Int.mul_neg] at m1
      omega
  have gg : Nat.gcd other.natAbs (one - one / other * other).natAbs = 1 := by
    have h1 : Nat.gcd other.natAbs (one - one / other * other).natAbs ∣ other.natAbs := Nat.gcd_dvd_left _ _
    have h2 : Nat.gcd other.natAbs (one - one / other * other).natAbs ∣ (one - one / other * other).natAbs := Nat.gcd_dvd_right _ _
    generalize Nat.gcd other.natAbs (one - one / other * other).natAbs = k at *
    have i1 := Int.ofNat_dvd_left.mpr h1
    have i2 := Int.ofNat_dvd_left.mpr h2
    have i3 : (k : Int) ∣ one := by
      have := Int.dvd_add i2 (Int.dvd_mul_of_dvd_right i1 (b := one / other))
      rwa [show one - one / other * other + one / other * other = one by omega] at this
    have i4 : k ∣ Nat.gcd one.natAbs other.natAbs := Nat.dvd_gcd (Int.ofNat_dvd_left.mp i3) h1
    rw [h.g] at i4
    exact Nat.dvd_one.mp i4
  refine ⟨⟨by rw [hr]; exact r0, .inl h.o, h.e2, ?_, d', s', h.bu', bu'', gg, h.b2, ?_, fun z => absurd (h.z z).1 ho⟩, ?_⟩
  · have a := h.e1
    have b := h.e2
    generalize one / other = t at *
    rw [← a, ← b]
    grind
  · rw [hr]
    have := h.b2
    omega
  · rw [hr]
    omega
theorem Bz.fin {M : Nat} {p q one u v u' v' : Int} (h : Bz M p q one 0 u v u' v') (hp : p.natAbs ≤ M) : (p * u - q * (0 - v) = 1 ∨ p * u - q * (0 - v) = -1) ∧ u.natAbs ≤ q.natAbs + 1 ∧ v.natAbs ≤ M + (q.natAbs + 1) * M := by
  have g := h.g
  rw [show (0 : Int).natAbs = 0 from rfl, Nat.gcd_zero_right] at g
  have e := h.e1
  refine ⟨?_, h.bu, ?_⟩
  · have : p * u - q * (0 - v) = one := by rw [← e]; grind
    rw [this]
    omega
  · by_cases hq : q = 0
    · rw [(h.z hq).2]
      exact Nat.zero_le _
    · have h1 : v.natAbs ≤ (v * q).natAbs := by
        rw [Int.natAbs_mul]
        exact Nat.le_mul_of_pos_right _ (by omega)
      have h2 : v * q = one - u * p := by omega
      have h3 : (u * p).natAbs ≤ (q.natAbs + 1) * M := by
        rw [Int.natAbs_mul]
        exact Nat.mul_le_mul h.bu hp
      have h4 := h.b1
      rw [h2] at h1
      omega
theorem Bz.bv {M : Nat} {p q one other u v u' v' : Int} (h : Bz M p q one other u v u' v') (ho : other ≠ 0) (hp : p.natAbs ≤ M) : v'.natAbs ≤ M + (q.natAbs + 1) * M := by
  have hq : q ≠ 0 := fun z => ho (h.z z).1
  have e := h.e2
  have h1 : v'.natAbs ≤ (v' * q).natAbs := by
    rw [Int.natAbs_mul]
    exact Nat.le_mul_of_pos_right _ (by omega)
  have h2 : v' * q = other - u' * p := by omega
  have h3 : (u' * p).natAbs ≤ (q.natAbs + 1) * M := by
    rw [Int.natAbs_mul]
    exact Nat.mul_le_mul h.bu' hp
  have h4 := h.b2
  rw [h2] at h1
  omega
end Fr
namespace K09
open PySem PySem.Spec PyProof.Rows L2 Fr
open K05M (fv fl2 fl3 fdisc)
open K06M
def Tq (K : PySem.W.Frag) (H : Hp) (a : Addr) (p q r s : Int) : Prop := ∃ t1 t2, SqT K H a [.ref t1, .ref t2] ∧ SqT K H t1 [.int p, .int q] ∧ SqT K H t2 [.int r, .int s]
theorem tq_k {K : PySem.W.Frag} {H : Hp} {a b c : Addr} {o0 o1 o2 : Option Addr} {s0 s1 s2 : Array (Option Value)} {n0 n1 n2 : Nat} {p q r s : Int} {t1 t2 t3 t4 : Tok} (h0 : K.lookup a = some ⟨.type "tuple", o0, .seq #[.ref b, .ref c] n0, s0⟩) (h1 : K.lookup b = some ⟨.type "tuple", o1, .seq #[.int p t1, .int q t2] n1, s1⟩) (h2 : K.lookup c = some ⟨.type "tuple", o2, .seq #[.int r t3, .int s t4] n2, s2⟩) : Tq K H a p q r s :=
  ⟨b, c, .inr ⟨_, _, _, h0, rfl, rfl, by show 2 ≤ sizeLine; decide, .cons rfl (.cons rfl .nil)⟩, .inr ⟨_, _, _, h1, rfl, rfl, by show 2 ≤ sizeLine; decide, .cons ⟨_, rfl⟩ (.cons ⟨_, rfl⟩ .nil)⟩, .inr ⟨_, _, _, h2, rfl, rfl, by show 2 ≤ sizeLine; decide, .cons ⟨_, rfl⟩ (.cons ⟨_, rfl⟩ .nil)⟩⟩
def topS (i : Nat) : Stmt := PySem.Challenge.pw_formrings_k09_whole_multiples_and_rows_o.main.body.getD i (.Pass ⟨0, 0, 0, 0⟩)
abbrev s_is_any_integer : Stmt := topS 14
abbrev N_is_any_integer : List Str := ["value"]
theorem sc_is_any_integer : FnScope N_is_any_integer ["value"] (defScope s_is_any_integer) := ⟨rfl, rfl, rfl, by decide +kernel, rfl, by decide +kernel, by decide +kernel⟩
abbrev s_is_short_integer : Stmt := topS 15
abbrev N_is_short_integer : List Str := ["value"]
theorem sc_is_short_integer : FnScope N_is_short_integer ["value"] (defScope s_is_short_integer) := ⟨rfl, rfl, rfl, by decide +kernel, rfl, by decide +kernel, by decide +kernel⟩
abbrev s_are_any_integers : Stmt := topS 17
abbrev N_are_any_integers : List Str := ["value", "many", "number"]
theorem sc_are_any_integers : FnScope N_are_any_integers ["value", "many"] (defScope s_are_any_integers) := ⟨rfl, rfl, rfl, by decide +kernel, rfl, by decide +kernel, by decide +kernel⟩
abbrev s_are_short_integers : Stmt := topS 18
abbrev N_are_short_integers : List Str := ["value", "many", "n"]
theorem sc_are_short_integers : FnScope N_are_short_integers ["value", "many"] (defScope s_are_short_integers) := ⟨rfl, rfl, rfl, by decide +kernel, rfl, by decide +kernel, by decide +kernel⟩
abbrev s_check_integer : Stmt := topS 20
abbrev N_check_integer : List Str := ["value"]
theorem sc_check_integer : FnScope N_check_integer ["value"] (defScope s_check_integer) := ⟨rfl, rfl, rfl, by decide +kernel, rfl, by decide +kernel, by decide +kernel⟩
abbrev s_determinant_of : Stmt := topS 24
abbrev N_determinant_of : List Str := ["change", "p", "q", "r", "s"]
theorem sc_determinant_of : FnScope N_determinant_of ["change"] (defScope s_determinant_of) := ⟨rfl, rfl, rfl, by decide +kernel, rfl, by decide +kernel, by decide +kernel⟩
abbrev s_is_change : Stmt := topS 25
abbrev N_is_change : List Str := ["value", "row"]
theorem sc_is_change : FnScope N_is_change ["value"] (defScope s_is_change) := ⟨rfl, rfl, rfl, by decide +kernel, rfl, by decide +kernel, by decide +kernel⟩
abbrev s_is_short_change : Stmt := topS 26
abbrev N_is_short_change : List Str := ["value", "row"]
theorem sc_is_short_change : FnScope N_is_short_change ["value"] (defScope s_is_short_change) := ⟨rfl, rfl, rfl, by decide +kernel, rfl, by decide +kernel, by decide +kernel⟩
abbrev s_check_change : Stmt := topS 27
abbrev N_check_change : List Str := ["value"]
theorem sc_check_change : FnScope N_check_change ["value"] (defScope s_check_change) := ⟨rfl, rfl, rfl, by decide +kernel, rfl, by decide +kernel, by decide +kernel⟩
abbrev s_both : Stmt := topS 28
abbrev N_both : List Str := ["first", "second", "p", "q", "r", "s", "i", "j", "k", "m"]
theorem sc_both : FnScope N_both ["first", "second"] (defScope s_both) := ⟨rfl, rfl, rfl, by decide +kernel, rfl, by decide +kernel, by decide +kernel⟩
abbrev s_taken_back : Stmt := topS 29
abbrev N_taken_back : List Str := ["change", "e", "p", "q", "r", "s"]
theorem sc_taken_back : FnScope N_taken_back ["change"] (defScope s_taken_back) := ⟨rfl, rfl, rfl, by decide +kernel, rfl, by decide +kernel, by decide +kernel⟩
abbrev s_joined : Stmt := topS 30
abbrev N_joined : List Str := ["first", "second"]
theorem sc_joined : FnScope N_joined ["first", "second"] (defScope s_joined) := ⟨rfl, rfl, rfl, by decide +kernel, rfl, by decide +kernel, by decide +kernel⟩
abbrev s_undone : Stmt := topS 31
abbrev N_undone : List Str := ["change"]
theorem sc_undone : FnScope N_undone ["change"] (defScope s_undone) := ⟨rfl, rfl, rfl, by decide +kernel, rfl, by decide +kernel, by decide +kernel⟩
abbrev s_shared_divisor : Stmt := topS 33
abbrev N_shared_divisor : List Str := ["numbers", "shared", "number"]
theorem sc_shared_divisor : FnScope N_shared_divisor ["numbers"] (defScope s_shared_divisor) := ⟨rfl, rfl, rfl, by decide +kernel, rfl, by decide +kernel, by decide +kernel⟩
abbrev s_double_discriminant : Stmt := topS 36
abbrev N_double_discriminant : List Str := ["coefficients", "first", "middle", "last"]
theorem sc_double_discriminant : FnScope N_double_discriminant ["coefficients"] (defScope s_double_discriminant) := ⟨rfl, rfl, rfl, by decide +kernel, rfl, by decide +kernel, by decide +kernel⟩
abbrev s_double_of : Stmt := topS 38
abbrev N_double_of : List Str := ["coefficients", "double"]
theorem sc_double_of : FnScope N_double_of ["coefficients"] (defScope s_double_of) := ⟨rfl, rfl, rfl, by decide +kernel, rfl, by decide +kernel, by decide +kernel⟩
abbrev s_Double___init__ : Stmt := inClass (topS 39) 0
abbrev N_Double___init__ : List Str := ["self", "coefficients"]
theorem sc_Double___init__ : FnScope N_Double___init__ ["self", "coefficients"] (defScope s_Double___init__) := ⟨rfl, rfl, rfl, by decide +kernel, rfl, by decide +kernel, by decide +kernel⟩
abbrev s_Double_coefficients : Stmt := inClass (topS 39) 1
abbrev N_Double_coefficients : List Str := ["self"]
theorem sc_Double_coefficients : FnScope N_Double_coefficients ["self"] (defScope s_Double_coefficients) := ⟨rfl, rfl, rfl, by decide +kernel, rfl, by decide +kernel, by decide +kernel⟩
abbrev s_Double_discriminant : Stmt := inClass (topS 39) 2
abbrev N_Double_discriminant : List Str := ["self"]
theorem sc_Double_discriminant : FnScope N_Double_discriminant ["self"] (defScope s_Double_discriminant) := ⟨rfl, rfl, rfl, by decide +kernel, rfl, by decide +kernel, by decide +kernel⟩
abbrev s_Double_content : Stmt := inClass (topS 39) 3
abbrev N_Double_content : List Str := ["self"]
theorem sc_Double_content : FnScope N_Double_content ["self"] (defScope s_Double_content) := ⟨rfl, rfl, rfl, by decide +kernel, rfl, by decide +kernel, by decide +kernel⟩
abbrev s_form_value : Stmt := topS 44
abbrev N_form_value : List Str := ["coefficients", "x", "y", "a", "b", "c", "d"]
theorem sc_form_value : FnScope N_form_value ["coefficients", "x", "y"] (defScope s_form_value) := ⟨rfl, rfl, rfl, by decide +kernel, rfl, by decide +kernel, by decide +kernel⟩
abbrev s_form_discriminant : Stmt := topS 45
abbrev N_form_discriminant : List Str := ["coefficients", "a", "b", "c", "d"]
theorem sc_form_discriminant : FnScope N_form_discriminant ["coefficients"] (defScope s_form_discriminant) := ⟨rfl, rfl, rfl, by decide +kernel, rfl, by decide +kernel, by decide +kernel⟩
abbrev s_form_hessian : Stmt := topS 46
abbrev N_form_hessian : List Str := ["coefficients", "a", "b", "c", "d"]
theorem sc_form_hessian : FnScope N_form_hessian ["coefficients"] (defScope s_form_hessian) := ⟨rfl, rfl, rfl, by decide +kernel, rfl, by decide +kernel, by decide +kernel⟩
abbrev s_form_covariant : Stmt := topS 47
abbrev N_form_covariant : List Str := ["coefficients", "a", "b", "c", "d"]
theorem sc_form_covariant : FnScope N_form_covariant ["coefficients"] (defScope s_form_covariant) := ⟨rfl, rfl, rfl, by decide +kernel, rfl, by decide +kernel, by decide +kernel⟩
abbrev s_form_led : Stmt := topS 48
abbrev N_form_led : List Str := ["coefficients", "change", "a", "b", "c", "d", "p", "q", "r", "s", "e", "second", "third"]
theorem sc_form_led : FnScope N_form_led ["coefficients", "change"] (defScope s_form_led) := ⟨rfl, rfl, rfl, by decide +kernel, rfl, by decide +kernel, by decide +kernel⟩
abbrev s_form_of : Stmt := topS 50
abbrev N_form_of : List Str := ["coefficients", "form"]
theorem sc_form_of : FnScope N_form_of ["coefficients"] (defScope s_form_of) := ⟨rfl, rfl, rfl, by decide +kernel, rfl, by decide +kernel, by decide +kernel⟩
abbrev s_Form___init__ : Stmt := inClass (topS 51) 0
abbrev N_Form___init__ : List Str := ["self", "coefficients"]
theorem sc_Form___init__ : FnScope N_Form___init__ ["self", "coefficients"] (defScope s_Form___init__) := ⟨rfl, rfl, rfl, by decide +kernel, rfl, by decide +kernel, by decide +kernel⟩
abbrev s_Form_coefficients : Stmt := inClass (topS 51) 2
abbrev N_Form_coefficients : List Str := ["self"]
theorem sc_Form_coefficients : FnScope N_Form_coefficients ["self"] (defScope s_Form_coefficients) := ⟨rfl, rfl, rfl, by decide +kernel, rfl, by decide +kernel, by decide +kernel⟩
abbrev s_Form_discriminant : Stmt := inClass (topS 51) 3
abbrev N_Form_discriminant : List Str := ["self"]
theorem sc_Form_discriminant : FnScope N_Form_discriminant ["self"] (defScope s_Form_discriminant) := ⟨rfl, rfl, rfl, by decide +kernel, rfl, by decide +kernel, by decide +kernel⟩
abbrev s_Form_content : Stmt := inClass (topS 51) 4
abbrev N_Form_content : List Str := ["self"]
theorem sc_Form_content : FnScope N_Form_content ["self"] (defScope s_Form_content) := ⟨rfl, rfl, rfl, by decide +kernel, rfl, by decide +kernel, by decide +kernel⟩
abbrev s_Form_hessian : Stmt := inClass (topS 51) 5
abbrev N_Form_hessian : List Str := ["self"]
theorem sc_Form_hessian : FnScope N_Form_hessian ["self"] (defScope s_Form_hessian) := ⟨rfl, rfl, rfl, by decide +kernel, rfl, by decide +kernel, by decide +kernel⟩
abbrev s_Form_covariant : Stmt := inClass (topS 51) 6
abbrev N_Form_covariant : List Str := ["self"]
theorem sc_Form_covariant : FnScope N_Form_covariant ["self"] (defScope s_Form_covariant) := ⟨rfl, rfl, rfl, by decide +kernel, rfl, by decide +kernel, by decide +kernel⟩
abbrev s_Form___call__ : Stmt := inClass (topS 51) 7
abbrev N_Form___call__ : List Str := ["self", "x", "y"]
theorem sc_Form___call__ : FnScope N_Form___call__ ["self", "x", "y"] (defScope s_Form___call__) := ⟨rfl, rfl, rfl, by decide +kernel, rfl, by decide +kernel, by decide +kernel⟩
abbrev s_Form_led : Stmt := inClass (topS 51) 8
abbrev N_Form_led : List Str := ["self", "change"]
theorem sc_Form_led : FnScope N_Form_led ["self", "change"] (defScope s_Form_led) := ⟨rfl, rfl, rfl, by decide +kernel, rfl, by decide +kernel, by decide +kernel⟩
abbrev s_Form_times : Stmt := inClass (topS 51) 9
abbrev N_Form_times : List Str := ["self", "number", "coefficient"]
theorem sc_Form_times : FnScope N_Form_times ["self", "number"] (defScope s_Form_times) := ⟨rfl, rfl, rfl, by decide +kernel, rfl, by decide +kernel, by decide +kernel⟩
abbrev s_Form_divided : Stmt := inClass (topS 51) 10
abbrev N_Form_divided : List Str := ["self", "number", "coefficient"]
theorem sc_Form_divided : FnScope N_Form_divided ["self", "number"] (defScope s_Form_divided) := ⟨rfl, rfl, rfl, by decide +kernel, rfl, by decide +kernel, by decide +kernel⟩
abbrev s_Form___neg__ : Stmt := inClass (topS 51) 13
abbrev N_Form___neg__ : List Str := ["self", "number"]
theorem sc_Form___neg__ : FnScope N_Form___neg__ ["self"] (defScope s_Form___neg__) := ⟨rfl, rfl, rfl, by decide +kernel, rfl, by decide +kernel, by decide +kernel⟩
abbrev s_Form___eq__ : Stmt := inClass (topS 51) 17
abbrev N_Form___eq__ : List Str := ["self", "other"]
theorem sc_Form___eq__ : FnScope N_Form___eq__ ["self", "other"] (defScope s_Form___eq__) := ⟨rfl, rfl, rfl, by decide +kernel, rfl, by decide +kernel, by decide +kernel⟩
abbrev s_l_cask : Stmt := topS 53
abbrev N_l_cask : List Str := ["_law_script", "_law_spot", "_law_cell", "_law_great", "_law_mixed"]
theorem sc_l_cask : FnScope N_l_cask ["_law_script", "_law_spot"] (defScope s_l_cask) := ⟨rfl, rfl, rfl, by decide +kernel, rfl, by decide +kernel, by decide +kernel⟩
abbrev s_l_tap : Stmt := topS 54
abbrev N_l_tap : List Str := ["_law_cask_here", "_law_many_here", "_law_found", "_law_one_here", "_law_two"]
theorem sc_l_tap : FnScope N_l_tap ["_law_cask_here", "_law_many_here"] (defScope s_l_tap) := ⟨rfl, rfl, rfl, by decide +kernel, rfl, by decide +kernel, by decide +kernel⟩
abbrev s_l_one : Stmt := topS 55
abbrev N_l_one : List Str := ["_law_cask_here", "_law_items"]
theorem sc_l_one : FnScope N_l_one ["_law_cask_here", "_law_items"] (defScope s_l_one) := ⟨rfl, rfl, rfl, by decide +kernel, rfl, by decide +kernel, by decide +kernel⟩
abbrev s_l_number : Stmt := topS 56
abbrev N_l_number : List Str := ["_law_cask_here", "_law_size"]
theorem sc_l_number : FnScope N_l_number ["_law_cask_here"] (defScope s_l_number) := ⟨rfl, rfl, rfl, by decide +kernel, rfl, by decide +kernel, by decide +kernel⟩
abbrev s_l_numbers : Stmt := topS 57
abbrev N_l_numbers : List Str := ["_law_cask_here", "_law_many_here", "_law_turn"]
theorem sc_l_numbers : FnScope N_l_numbers ["_law_cask_here", "_law_many_here"] (defScope s_l_numbers) := ⟨rfl, rfl, rfl, by decide +kernel, rfl, by decide +kernel, by decide +kernel⟩
abbrev s_l_then : Stmt := topS 58
abbrev N_l_then : List Str := ["_law_first", "_law_second", "_law_p", "_law_q", "_law_r", "_law_s", "_law_i", "_law_j", "_law_k", "_law_l"]
theorem sc_l_then : FnScope N_l_then ["_law_first", "_law_second"] (defScope s_l_then) := ⟨rfl, rfl, rfl, by decide +kernel, rfl, by decide +kernel, by decide +kernel⟩
abbrev s_l_change : Stmt := topS 59
abbrev N_l_change : List Str := ["_law_cask_here", "_law_turns", "_law_found", "_law_turn", "_law_step", "_law_plain"]
theorem sc_l_change : FnScope N_l_change ["_law_cask_here", "_law_turns"] (defScope s_l_change) := ⟨rfl, rfl, rfl, by decide +kernel, rfl, by decide +kernel, by decide +kernel⟩
abbrev s_l_sense : Stmt := topS 60
abbrev N_l_sense : List Str := ["_law_change_here"]
theorem sc_l_sense : FnScope N_l_sense ["_law_change_here"] (defScope s_l_sense) := ⟨rfl, rfl, rfl, by decide +kernel, rfl, by decide +kernel, by decide +kernel⟩
abbrev s_l_common : Stmt := topS 61
abbrev N_l_common : List Str := ["_law_numbers_here", "_law_found", "_law_number_here", "_law_one_here", "_law_other"]
theorem sc_l_common : FnScope N_l_common ["_law_numbers_here"] (defScope s_l_common) := ⟨rfl, rfl, rfl, by decide +kernel, rfl, by decide +kernel, by decide +kernel⟩
abbrev s_l_many : Stmt := topS 62
abbrev N_l_many : List Str := ["_law_number_here", "_law_row", "_law_entry_here"]
theorem sc_l_many : FnScope N_l_many ["_law_number_here", "_law_row"] (defScope s_l_many) := ⟨rfl, rfl, rfl, by decide +kernel, rfl, by decide +kernel, by decide +kernel⟩
abbrev s_l_lowest : Stmt := topS 63
abbrev N_l_lowest : List Str := ["_law_x", "_law_y", "_law_share"]
theorem sc_l_lowest : FnScope N_l_lowest ["_law_x", "_law_y"] (defScope s_l_lowest) := ⟨rfl, rfl, rfl, by decide +kernel, rfl, by decide +kernel, by decide +kernel⟩
abbrev s_l_entry : Stmt := topS 64
abbrev N_l_entry : List Str := ["_law_cask_here", "_law_size"]
theorem sc_l_entry : FnScope N_l_entry ["_law_cask_here"] (defScope s_l_entry) := ⟨rfl, rfl, rfl, by decide +kernel, rfl, by decide +kernel, by decide +kernel⟩
abbrev s_l_place : Stmt := topS 65
abbrev N_l_place : List Str := ["_law_cask_here", "_law_x", "_law_y"]
theorem sc_l_place : FnScope N_l_place ["_law_cask_here"] (defScope s_l_place) := ⟨rfl, rfl, rfl, by decide +kernel, rfl, by decide +kernel, by decide +kernel⟩
abbrev s_l_row_right : Stmt := topS 66
abbrev N_l_row_right : List Str := ["_law_cask_here", "_law_form", "_law_here", "_law_whole", "_law_turn", "_law_change_here"]
theorem sc_l_row_right : FnScope N_l_row_right ["_law_cask_here", "_law_form"] (defScope s_l_row_right) := ⟨rfl, rfl, rfl, by decide +kernel, rfl, by decide +kernel, by decide +kernel⟩
abbrev s_l_multiple_right : Stmt := topS 67
abbrev N_l_multiple_right : List Str := ["_law_form", "_law_number_here", "_law_more", "_law_size"]
theorem sc_l_multiple_right : FnScope N_l_multiple_right ["_law_form", "_law_number_here"] (defScope s_l_multiple_right) := ⟨rfl, rfl, rfl, by decide +kernel, rfl, by decide +kernel, by decide +kernel⟩
abbrev s_l_partner : Stmt := topS 68
abbrev N_l_partner : List Str := ["_law_p", "_law_q", "_law_one_here", "_law_other", "_law_rows", "_law_times", "_law_u", "_law_v"]
theorem sc_l_partner : FnScope N_l_partner ["_law_p", "_law_q"] (defScope s_l_partner) := ⟨rfl, rfl, rfl, by decide +kernel, rfl, by decide +kernel, by decide +kernel⟩
abbrev s_l_right : Stmt := topS 69
abbrev N_l_right : List Str := ["_law_cask_here", "_law_row", "_law_form", "_law_number_here", "_law_p", "_law_q", "_law_change_here"]
theorem sc_l_right : FnScope N_l_right ["_law_cask_here"] (defScope s_l_right) := ⟨rfl, rfl, rfl, by decide +kernel, rfl, by decide +kernel, by decide +kernel⟩
abbrev s_law : Stmt := topS 70
abbrev N_law : List Str := ["_law_script", "_law_spot", "_law_cask_here"]
theorem sc_law : FnScope N_law ["_law_script"] (defScope s_law) := ⟨rfl, rfl, rfl, by decide +kernel, rfl, by decide +kernel, by decide +kernel⟩
structure Txt (K : PySem.W.Frag) (mg : Str → Option Value) (C_Form : Addr) (C_Double : Addr) : Prop where
  g_Form : mg "Form" = some (.ref C_Form)
  cl_Form : Cls K C_Form
  ty_Form : TyI K C_Form
  na_Form_coefficients : NoAttr K C_Form "_coefficients"
  g_Double : mg "Double" = some (.ref C_Double)
  cl_Double : Cls K C_Double
  ty_Double : TyI K C_Double
  na_Double_coefficients : NoAttr K C_Double "_coefficients"
  d_is_any_integer : ∃ f fd, mg "is_any_integer" = some (.ref f) ∧ Fun K "is_any_integer" "is_any_integer" s_is_any_integer f fd
  d_is_short_integer : ∃ f fd, mg "is_short_integer" = some (.ref f) ∧ Fun K "is_short_integer" "is_short_integer" s_is_short_integer f fd
  d_are_any_integers : ∃ f fd, mg "are_any_integers" = some (.ref f) ∧ Fun K "are_any_integers" "are_any_integers" s_are_any_integers f fd
  d_are_short_integers : ∃ f fd, mg "are_short_integers" = some (.ref f) ∧ Fun K "are_short_integers" "are_short_integers" s_are_short_integers f fd
  d_check_integer : ∃ f fd, mg "check_integer" = some (.ref f) ∧ Fun K "check_integer" "check_integer" s_check_integer f fd
  d_determinant_of : ∃ f fd, mg "determinant_of" = some (.ref f) ∧ Fun K "determinant_of" "determinant_of" s_determinant_of f fd
  d_is_change : ∃ f fd, mg "is_change" = some (.ref f) ∧ Fun K "is_change" "is_change" s_is_change f fd
  d_is_short_change : ∃ f fd, mg "is_short_change" = some (.ref f) ∧ Fun K "is_short_change" "is_short_change" s_is_short_change f fd
  d_check_change : ∃ f fd, mg "check_change" = some (.ref f) ∧ Fun K "check_change" "check_change" s_check_change f fd
  d_both : ∃ f fd, mg "both" = some (.ref f) ∧ Fun K "both" "both" s_both f fd
  d_taken_back : ∃ f fd, mg "taken_back" = some (.ref f) ∧ Fun K "taken_back" "taken_back" s_taken_back f fd
  d_joined : ∃ f fd, mg "joined" = some (.ref f) ∧ Fun K "joined" "joined" s_joined f fd
  d_undone : ∃ f fd, mg "undone" = some (.ref f) ∧ Fun K "undone" "undone" s_undone f fd
  d_shared_divisor : ∃ f fd, mg "shared_divisor" = some (.ref f) ∧ Fun K "shared_divisor" "shared_divisor" s_shared_divisor f fd
  d_double_discriminant : ∃ f fd, mg "double_discriminant" = some (.ref f) ∧ Fun K "double_discriminant" "double_discriminant" s_double_discriminant f fd
  d_double_of : ∃ f fd, mg "double_of" = some (.ref f) ∧ Fun K "double_of" "double_of" s_double_of f fd
  e_Double___init__ : ∃ (p f : Addr) (fd : FuncData), Mk K C_Double f ∧ Fun K "__init__" "Double.__init__" s_Double___init__ f fd
  e_Double_coefficients : ∃ (p f : Addr) (fd : FuncData), PropOf K C_Double "coefficients" p f ∧ Fun K "coefficients" "Double.coefficients" s_Double_coefficients f fd
  e_Double_discriminant : ∃ (p f : Addr) (fd : FuncData), PropOf K C_Double "discriminant" p f ∧ Fun K "discriminant" "Double.discriminant" s_Double_discriminant f fd
  e_Double_content : ∃ (p f : Addr) (fd : FuncData), PropOf K C_Double "content" p f ∧ Fun K "content" "Double.content" s_Double_content f fd
  d_form_value : ∃ f fd, mg "form_value" = some (.ref f) ∧ Fun K "form_value" "form_value" s_form_value f fd
  d_form_discriminant : ∃ f fd, mg "form_discriminant" = some (.ref f) ∧ Fun K "form_discriminant" "form_discriminant" s_form_discriminant f fd
  d_form_hessian : ∃ f fd, mg "form_hessian" = some (.ref f) ∧ Fun K "form_hessian" "form_hessian" s_form_hessian f fd
  d_form_covariant : ∃ f fd, mg "form_covariant" = some (.ref f) ∧ Fun K "form_covariant" "form_covariant" s_form_covariant f fd
  d_form_led : ∃ f fd, mg "form_led" = some (.ref f) ∧ Fun K "form_led" "form_led" s_form_led f fd
  d_form_of : ∃ f fd, mg "form_of" = some (.ref f) ∧ Fun K "form_of" "form_of" s_form_of f fd
  e_Form___init__ : ∃ (p f : Addr) (fd : FuncData), Mk K C_Form f ∧ Fun K "__init__" "Form.__init__" s_Form___init__ f fd
  e_Form_coefficients : ∃ (p f : Addr) (fd : FuncData), PropOf K C_Form "coefficients" p f ∧ Fun K "coefficients" "Form.coefficients" s_Form_coefficients f fd
  e_Form_discriminant : ∃ (p f : Addr) (fd : FuncData), PropOf K C_Form "discriminant" p f ∧ Fun K "discriminant" "Form.discriminant" s_Form_discriminant f fd
  e_Form_content : ∃ (p f : Addr) (fd : FuncData), PropOf K C_Form "content" p f ∧ Fun K "content" "Form.content" s_Form_content f fd
  e_Form_hessian : ∃ (p f : Addr) (fd : FuncData), PropOf K C_Form "hessian" p f ∧ Fun K "hessian" "Form.hessian" s_Form_hessian f fd
  e_Form_covariant : ∃ (p f : Addr) (fd : FuncData), PropOf K C_Form "covariant" p f ∧ Fun K "covariant" "Form.covariant" s_Form_covariant f fd
  e_Form___call__ : ∃ (p f : Addr) (fd : FuncData), StX.CallO K C_Form f ∧ Fun K "__call__" "Form.__call__" s_Form___call__ f fd
  e_Form_led : ∃ (p f : Addr) (fd : FuncData), Meth K C_Form "led" f ∧ Fun K "led" "Form.led" s_Form_led f fd
  e_Form_times : ∃ (p f : Addr) (fd : FuncData), Meth K C_Form "times" f ∧ Fun K "times" "Form.times" s_Form_times f fd
  e_Form_divided : ∃ (p f : Addr) (fd : FuncData), Meth K C_Form "divided" f ∧ Fun K "divided" "Form.divided" s_Form_divided f fd
  e_Form___neg__ : ∃ (p f : Addr) (fd : FuncData), Meth K C_Form "__neg__" f ∧ Fun K "__neg__" "Form.__neg__" s_Form___neg__ f fd
  e_Form___eq__ : ∃ (p f : Addr) (fd : FuncData), EqC K C_Form f ∧ Fun K "__eq__" "Form.__eq__" s_Form___eq__ f fd
  d_l_cask : ∃ f fd, mg "_law_cask" = some (.ref f) ∧ Fun K "_law_cask" "_law_cask" s_l_cask f fd
  d_l_tap : ∃ f fd, mg "_law_tap" = some (.ref f) ∧ Fun K "_law_tap" "_law_tap" s_l_tap f fd
  d_l_one : ∃ f fd, mg "_law_one" = some (.ref f) ∧ Fun K "_law_one" "_law_one" s_l_one f fd
  d_l_number : ∃ f fd, mg "_law_number" = some (.ref f) ∧ Fun K "_law_number" "_law_number" s_l_number f fd
  d_l_numbers : ∃ f fd, mg "_law_numbers" = some (.ref f) ∧ Fun K "_law_numbers" "_law_numbers" s_l_numbers f fd
  d_l_then : ∃ f fd, mg "_law_then" = some (.ref f) ∧ Fun K "_law_then" "_law_then" s_l_then f fd
  d_l_change : ∃ f fd, mg "_law_change" = some (.ref f) ∧ Fun K "_law_change" "_law_change" s_l_change f fd
  d_l_sense : ∃ f fd, mg "_law_sense" = some (.ref f) ∧ Fun K "_law_sense" "_law_sense" s_l_sense f fd
  d_l_common : ∃ f fd, mg "_law_common" = some (.ref f) ∧ Fun K "_law_common" "_law_common" s_l_common f fd
  d_l_many : ∃ f fd, mg "_law_many" = some (.ref f) ∧ Fun K "_law_many" "_law_many" s_l_many f fd
  d_l_lowest : ∃ f fd, mg "_law_lowest" = some (.ref f) ∧ Fun K "_law_lowest" "_law_lowest" s_l_lowest f fd
  d_l_entry : ∃ f fd, mg "_law_entry" = some (.ref f) ∧ Fun K "_law_entry" "_law_entry" s_l_entry f fd
  d_l_place : ∃ f fd, mg "_law_place" = some (.ref f) ∧ Fun K "_law_place" "_law_place" s_l_place f fd
  d_l_row_right : ∃ f fd, mg "_law_row_right" = some (.ref f) ∧ Fun K "_law_row_right" "_law_row_right" s_l_row_right f fd
  d_l_multiple_right : ∃ f fd, mg "_law_multiple_right" = some (.ref f) ∧ Fun K "_law_multiple_right" "_law_multiple_right" s_l_multiple_right f fd
  d_l_partner : ∃ f fd, mg "_law_partner" = some (.ref f) ∧ Fun K "_law_partner" "_law_partner" s_l_partner f fd
  d_l_right : ∃ f fd, mg "_law_right" = some (.ref f) ∧ Fun K "_law_right" "_law_right" s_l_right f fd
  d_law : ∃ f fd, mg "law" = some (.ref f) ∧ Fun K "law" "law" s_law f fd
  b_abs : mg "abs" = none
  b_all : mg "all" = none
  b_bool : mg "bool" = none
  b_int : mg "int" = none
  b_isinstance : mg "isinstance" = none
  b_len : mg "len" = none
  b_max : mg "max" = none
  b_min : mg "min" = none
  b_range : mg "range" = none
  b_sum : mg "sum" = none
  b_tuple : mg "tuple" = none
  x_LIMIT : ∃ t, mg "LIMIT" = some (.int (1000000000000000000000000000000000000000000000000000000000000) t)
  m_gcd : mg "gcd" = some (.builtin "math.gcd")
  k_IDLE : ∃ A, mg "IDLE" = some (.ref A) ∧ ∀ H, Tq K H A 1 0 0 1
def Short (i : Int) : Prop := -1000000000000000000000000000000000000000000000000000000000000 < i ∧ i < 1000000000000000000000000000000000000000000000000000000000000
theorem Short.b {i : Int} (h : Short i) : B 200 i := ⟨by have := h.1; have := h.2; omega, by decide⟩
def Ti (H : Hp) (a : Addr) (ns : List Int) : Prop := H a = some (.tup (ns.map V.int))
def T4 (H : Hp) (a : Addr) (p q r s : Int) : Prop := ∃ t1 t2, H a = some (.tup [.ref t1, .ref t2]) ∧ H t1 = some (.tup [.int p, .int q]) ∧ H t2 = some (.tup [.int r, .int s])
def FormAt (C : Addr) (H : Hp) (x : Addr) (ns : List Int) : Prop := ∃ dx t, H x = some (.ins C dx [(("_coefficients" : Str), .ref t)]) ∧ Ti H t ns
def ChOk (p q r s : Int) : Prop := Short p ∧ Short q ∧ Short r ∧ Short s ∧ (p * s - q * r = 1 ∨ p * s - q * r = -1)
theorem Ti.ex {H H' : Hp} {a : Addr} {ns : List Int} (h : Ti H a ns) (e : ∀ b xs, H b = some (.tup xs) → H' b = some (.tup xs)) : Ti H' a ns := e _ _ h
theorem T4.ex {H H' : Hp} {a : Addr} {p q r s : Int} (h : T4 H a p q r s) (e : ∀ b xs, H b = some (.tup xs) → H' b = some (.tup xs)) : T4 H' a p q r s := by
  obtain ⟨t1, t2, h0, h1, h2⟩ := h
  exact ⟨t1, t2, e _ _ h0, e _ _ h1, e _ _ h2⟩
theorem get_int {ns : List Int} {i : Nat} {x : V} (hx : (ns.map V.int)[i]? = some x) : ∃ n, ns[i]? = some n ∧ x = V.int n := by
  rw [List.getElem?_map] at hx
  cases e : ns[i]? with
  | none => rw [e] at hx; cases hx
  | some z => rw [e] at hx; exact ⟨z, rfl, (Option.some.inj hx).symm⟩
def gcdL (ns : List Int) : Nat := ns.foldl (fun g n => Nat.gcd g n.natAbs) 0
theorem gcdL_take {ns : List Int} {i : Nat} {n : Int} (h : ns[i]? = some n) : gcdL (ns.take (i + 1)) = Nat.gcd (gcdL (ns.take i)) n.natAbs := by
  unfold gcdL
  rw [List.take_add_one, h, List.foldl_append]
  rfl
def fled (a b c d p q r s : Int) : List Int := [(p * s - q * r) * fv a b c d p q, (p * s - q * r) * fl2 a b c d p q r s, (p * s - q * r) * fl3 a b c d p q r s, (p * s - q * r) * fv a b c d r s]
theorem un4 {K : PySem.W.Frag} {i j k l : Nat} {σ : L2.St} {H : Hp} {a : Addr} {p q r s : Int} {Q : L2.St → Hp → Prop} (h : T4 H a p q r s)
    (z : Q ((((σ.set i (some (.int p))).set j (some (.int q))).set k (some (.int r))).set l (some (.int s))) H) :
    gTup K 2 (gCons (gTup K 2 (gCons (gName i) (gCons (gName j) gNil))) (gCons (gTup K 2 (gCons (gName k) (gCons (gName l) gNil))) gNil)) (.ref a) σ H Q := by
  obtain ⟨t1, t2, h0, h1, h2⟩ := h
  refine ⟨a, _, rfl, SqT.of h0, rfl, _, _, rfl, ?_⟩
  refine ⟨t1, _, rfl, SqT.of h1, rfl, _, _, rfl, ?_⟩
  refine ⟨_, _, rfl, ⟨rfl, ?_⟩⟩
  refine ⟨_, _, rfl, ?_⟩
  refine ⟨t2, _, rfl, SqT.of h2, rfl, _, _, rfl, ?_⟩
  exact ⟨_, _, rfl, ⟨rfl, ⟨rfl, z⟩⟩⟩
theorem unI4 {K : PySem.W.Frag} {i j k l : Nat} {σ : L2.St} {H : Hp} {t : Addr} {a b c d : Int} {Q : L2.St → Hp → Prop} (h : Ti H t [a, b, c, d])
    (z : Q ((((σ.set i (some (.int a))).set j (some (.int b))).set k (some (.int c))).set l (some (.int d))) H) :
    gTup K 4 (gCons (gName i) (gCons (gName j) (gCons (gName k) (gCons (gName l) gNil)))) (.ref t) σ H Q :=
  ⟨t, _, rfl, SqT.of h, rfl, _, _, rfl, _, _, rfl, _, _, rfl, _, _, rfl, rfl, z⟩
theorem unI3 {K : PySem.W.Frag} {i j k : Nat} {σ : L2.St} {H : Hp} {t : Addr} {a b c : Int} {Q : L2.St → Hp → Prop} (h : Ti H t [a, b, c])
    (z : Q (((σ.set i (some (.int a))).set j (some (.int b))).set k (some (.int c))) H) :
    gTup K 3 (gCons (gName i) (gCons (gName j) (gCons (gName k) gNil))) (.ref t) σ H Q :=
  ⟨t, _, rfl, SqT.of h, rfl, _, _, rfl, _, _, rfl, _, _, rfl, rfl, z⟩
theorem t4_new {H : Hp} {t1 t2 x : Addr} {p q r s : Int} (n1 : H t1 = none) (n2 : upd H t1 (.tup [.int p, .int q]) t2 = none) (n3 : upd (upd H t1 (.tup [.int p, .int q])) t2 (.tup [.int r, .int s]) x = none) :
    Ex0 H (upd (upd (upd H t1 (.tup [.int p, .int q])) t2 (.tup [.int r, .int s])) x (.tup [.ref t1, .ref t2])) ∧ T4 (upd (upd (upd H t1 (.tup [.int p, .int q])) t2 (.tup [.int r, .int s])) x (.tup [.ref t1, .ref t2])) x p q r s :=
  ⟨((Ex0.new n1).trans (Ex0.new n2)).trans (Ex0.new n3), t1, t2, upd_same, Ex0.ap (Ex0.new n3) (Ex0.ap (Ex0.new n2) upd_same), Ex0.ap (Ex0.new n3) upd_same⟩
theorem Ex0.t4 {H H' : Hp} {a : Addr} {p q r s : Int} (e : Ex0 H H') (h : T4 H a p q r s) : T4 H' a p q r s := h.ex fun _ _ z => Ex0.ap e z
theorem Ex0.ti {H H' : Hp} {a : Addr} {ns : List Int} (e : Ex0 H H') (h : Ti H a ns) : Ti H' a ns := Ex0.ap e h
theorem Ex0.fo {C : Addr} {H H' : Hp} {x : Addr} {ns : List Int} (e : Ex0 H H') (h : FormAt C H x ns) : FormAt C H' x ns := by
  obtain ⟨dx, t, h1, h2⟩ := h
  exact ⟨dx, t, Ex0.ap e h1, Ex0.ap e h2⟩
theorem T4.q {K : PySem.W.Frag} {H : Hp} {a : Addr} {p q r s : Int} (h : T4 H a p q r s) : Tq K H a p q r s := by
  obtain ⟨t1, t2, h0, h1, h2⟩ := h
  exact ⟨t1, t2, SqT.of h0, SqT.of h1, SqT.of h2⟩
theorem Ex0.q {K : PySem.W.Frag} {H H' : Hp} {a : Addr} {p q r s : Int} (e : Ex0 H H') (h : Tq K H a p q r s) : Tq K H' a p q r s := by
  obtain ⟨t1, t2, h0, h1, h2⟩ := h
  exact ⟨t1, t2, e.sqT (fun z => z) h0, e.sqT (fun z => z) h1, e.sqT (fun z => z) h2⟩
theorem tyT {K : PySem.W.Frag} {H : Hp} {a : Addr} {xs : List V} (h : SqT K H a xs) : TyX K H (.ref a) (.type "tuple") := by
  rcases h with h | ⟨o, its, n, h, hc, _⟩
  · rcases h with h | ⟨b, h⟩
    · exact .base (.tup h)
    · exact .fTuple h
  · exact .kTuple h hc
theorem unq {K : PySem.W.Frag} {i j k l : Nat} {σ : L2.St} {H : Hp} {a : Addr} {p q r s : Int} {Q : L2.St → Hp → Prop} (h : Tq K H a p q r s)
    (z : Q ((((σ.set i (some (.int p))).set j (some (.int q))).set k (some (.int r))).set l (some (.int s))) H) :
    gTup K 2 (gCons (gTup K 2 (gCons (gName i) (gCons (gName j) gNil))) (gCons (gTup K 2 (gCons (gName k) (gCons (gName l) gNil))) gNil)) (.ref a) σ H Q := by
  obtain ⟨t1, t2, h0, h1, h2⟩ := h
  refine ⟨a, _, rfl, h0, rfl, _, _, rfl, ?_⟩
  refine ⟨t1, _, rfl, h1, rfl, _, _, rfl, ?_⟩
  refine ⟨_, _, rfl, ⟨rfl, ?_⟩⟩
  refine ⟨_, _, rfl, ?_⟩
  refine ⟨t2, _, rfl, h2, rfl, _, _, rfl, ?_⟩
  exact ⟨_, _, rfl, ⟨rfl, ⟨rfl, z⟩⟩⟩
section
def sp_is_any_integer (_ : PySem.W.Frag) (C C_D : Addr) : Sp := fun vs H Q _ => ∃ i : Int, vs = [.int i] ∧ Q (.bl true) H
def sp_is_short_integer (_ : PySem.W.Frag) (C C_D : Addr) : Sp := fun vs H Q _ => ∃ i : Int, vs = [.int i] ∧ Short i ∧ Q (.bl true) H
def sp_are_any_integers (K : PySem.W.Frag) (C C_D : Addr) : Sp := fun vs H Q _ => ∃ (a : Addr) (ns : List Int), vs = [.ref a, .int (ns.length : Int)] ∧ SqT K H a (ns.map V.int) ∧ ns.length ≤ 1000 ∧ ∀ H', Ex0 H H' → Q (.bl true) H'
def sp_are_short_integers (K : PySem.W.Frag) (C C_D : Addr) : Sp := fun vs H Q _ => ∃ (a : Addr) (ns : List Int), vs = [.ref a, .int (ns.length : Int)] ∧ SqT K H a (ns.map V.int) ∧ ns.length ≤ 1000 ∧ (∀ n ∈ ns, Short n) ∧ ∀ H', Ex0 H H' → Q (.bl true) H'
def sp_check_integer (_ : PySem.W.Frag) (C C_D : Addr) : Sp := fun vs H Q _ => ∃ i : Int, vs = [.int i] ∧ Short i ∧ Q .non H
def sp_determinant_of (K : PySem.W.Frag) (C C_D : Addr) : Sp := fun vs H Q _ => ∃ (a : Addr) (p q r s : Int), vs = [.ref a] ∧ Tq K H a p q r s ∧ B 200 p ∧ B 200 q ∧ B 200 r ∧ B 200 s ∧ Q (.int (p * s - q * r)) H
def sp_is_change (K : PySem.W.Frag) (C C_D : Addr) : Sp := fun vs H Q _ => ∃ (a : Addr) (p q r s : Int), vs = [.ref a] ∧ Tq K H a p q r s ∧ ChOk p q r s ∧ ∀ H', Ex0 H H' → Q (.bl true) H'
def sp_is_short_change (K : PySem.W.Frag) (C C_D : Addr) : Sp := fun vs H Q _ => ∃ (a : Addr) (p q r s : Int), vs = [.ref a] ∧ Tq K H a p q r s ∧ ChOk p q r s ∧ ∀ H', Ex0 H H' → Q (.bl true) H'
def sp_check_change (K : PySem.W.Frag) (C C_D : Addr) : Sp := fun vs H Q _ => ∃ (a : Addr) (p q r s : Int), vs = [.ref a] ∧ Tq K H a p q r s ∧ ChOk p q r s ∧ ∀ H', Ex0 H H' → Q .non H'
def sp_double_discriminant (_ : PySem.W.Frag) (C C_D : Addr) : Sp := fun vs H Q _ => ∃ (t : Addr) (a b c : Int), vs = [.ref t] ∧ Ti H t [a, b, c] ∧ B 5000 a ∧ B 5000 b ∧ B 5000 c ∧ Q (.int (ddisc a b c)) H
def sp_double_of (_ : PySem.W.Frag) (C C_D : Addr) : Sp := fun vs H Q _ => ∃ (t : Addr) (ns : List Int), vs = [.ref t] ∧ Ti H t ns ∧ ∀ x H', Ex0 H H' → FormAt C_D H' x ns → Q (.ref x) H'
def sp_form_hessian (_ : PySem.W.Frag) (C C_D : Addr) : Sp := fun vs H Q _ => ∃ (t : Addr) (a b c d : Int), vs = [.ref t] ∧ Ti H t [a, b, c, d] ∧ B 1000 a ∧ B 1000 b ∧ B 1000 c ∧ B 1000 d ∧ ∀ x H', Ex0 H H' → Ti H' x [h0 a b c d, h1 a b c d, h2 a b c d] → Q (.ref x) H'
def sp_form_covariant (_ : PySem.W.Frag) (C C_D : Addr) : Sp := fun vs H Q _ => ∃ (t : Addr) (a b c d : Int), vs = [.ref t] ∧ Ti H t [a, b, c, d] ∧ B 1000 a ∧ B 1000 b ∧ B 1000 c ∧ B 1000 d ∧ ∀ x H', Ex0 H H' → Ti H' x [g0 a b c d, g1 a b c d, g2 a b c d, g3 a b c d] → Q (.ref x) H'
def sp_Double___init__ (_ : PySem.W.Frag) (C C_D : Addr) : Sp := fun vs H Q _ => ∃ (x dx t : Addr) (ns : List Int), vs = [.ref x, .ref t] ∧ H x = some (.ins C_D dx []) ∧ Ti H t ns ∧ ns.length = 3 ∧ (∀ n ∈ ns, Short n) ∧ ∀ H', (∀ b o, b ≠ x → H b = some o → H' b = some o) → H' x = some (.ins C_D dx [(("_coefficients" : Str), .ref t)]) → Q .non H'
def sp_Double_coefficients (_ : PySem.W.Frag) (C C_D : Addr) : Sp := fun vs H Q _ => ∃ (x : Addr) (ns : List Int), vs = [.ref x] ∧ FormAt C_D H x ns ∧ ∀ t, Ti H t ns → Q (.ref t) H
def sp_Double_discriminant (_ : PySem.W.Frag) (C C_D : Addr) : Sp := fun vs H Q _ => ∃ (x : Addr) (a b c : Int), vs = [.ref x] ∧ FormAt C_D H x [a, b, c] ∧ B 5000 a ∧ B 5000 b ∧ B 5000 c ∧ Q (.int (ddisc a b c)) H
def sp_Form_hessian (_ : PySem.W.Frag) (C C_D : Addr) : Sp := fun vs H Q _ => ∃ (z : Addr) (a b c d : Int), vs = [.ref z] ∧ FormAt C H z [a, b, c, d] ∧ B 1000 a ∧ B 1000 b ∧ B 1000 c ∧ B 1000 d ∧ ∀ x H', Ex0 H H' → FormAt C_D H' x [h0 a b c d, h1 a b c d, h2 a b c d] → Q (.ref x) H'
def sp_Form_covariant (_ : PySem.W.Frag) (C C_D : Addr) : Sp := fun vs H Q _ => ∃ (z : Addr) (a b c d : Int), vs = [.ref z] ∧ FormAt C H z [a, b, c, d] ∧ B 1000 a ∧ B 1000 b ∧ B 1000 c ∧ B 1000 d ∧ ∀ x H', Ex0 H H' → FormAt C H' x [g0 a b c d, g1 a b c d, g2 a b c d, g3 a b c d] → Q (.ref x) H'
def sp_both (K : PySem.W.Frag) (C C_D : Addr) : Sp := fun vs H Q _ => ∃ (a b : Addr) (p q r s i j k m : Int), vs = [.ref a, .ref b] ∧ Tq K H a p q r s ∧ Tq K H b i j k m ∧ (B 200 p ∧ B 200 q ∧ B 200 r ∧ B 200 s) ∧ (B 200 i ∧ B 200 j ∧ B 200 k ∧ B 200 m) ∧ ∀ x H', Ex0 H H' → T4 H' x (i * p + j * r) (i * q + j * s) (k * p + m * r) (k * q + m * s) → Q (.ref x) H'
def sp_taken_back (K : PySem.W.Frag) (C C_D : Addr) : Sp := fun vs H Q _ => ∃ (a : Addr) (p q r s : Int), vs = [.ref a] ∧ Tq K H a p q r s ∧ (B 200 p ∧ B 200 q ∧ B 200 r ∧ B 200 s) ∧ ∀ x H', Ex0 H H' → T4 H' x ((p * s - q * r) * s) (-(p * s - q * r) * q) (-(p * s - q * r) * r) ((p * s - q * r) * p) → Q (.ref x) H'
def sp_joined (K : PySem.W.Frag) (C C_D : Addr) : Sp := fun vs H Q _ => ∃ (a b : Addr) (p q r s i j k m : Int), vs = [.ref a, .ref b] ∧ Tq K H a p q r s ∧ Tq K H b i j k m ∧ ChOk p q r s ∧ ChOk i j k m ∧ ∀ x H', Ex0 H H' → T4 H' x (i * p + j * r) (i * q + j * s) (k * p + m * r) (k * q + m * s) → Q (.ref x) H'
def sp_undone (K : PySem.W.Frag) (C C_D : Addr) : Sp := fun vs H Q _ => ∃ (a : Addr) (p q r s : Int), vs = [.ref a] ∧ Tq K H a p q r s ∧ ChOk p q r s ∧ ∀ x H', Ex0 H H' → T4 H' x ((p * s - q * r) * s) (-(p * s - q * r) * q) (-(p * s - q * r) * r) ((p * s - q * r) * p) → Q (.ref x) H'
def sp_shared_divisor (_ : PySem.W.Frag) (C C_D : Addr) : Sp := fun vs H Q _ => ∃ (a : Addr) (ns : List Int), vs = [.ref a] ∧ Ti H a ns ∧ Q (.int (gcdL ns : Nat)) H
def sp_Form_content (_ : PySem.W.Frag) (C C_D : Addr) : Sp := fun vs H Q _ => ∃ (x : Addr) (ns : List Int), vs = [.ref x] ∧ FormAt C H x ns ∧ Q (.int (gcdL ns : Nat)) H
def sp_Form___neg__ (_ : PySem.W.Frag) (C C_D : Addr) : Sp := fun vs H Q _ => ∃ (z : Addr) (ns : List Int), vs = [.ref z] ∧ FormAt C H z ns ∧ ns.length ≤ 1000 ∧ ∀ x H', Ex0 H H' → FormAt C H' x (ns.map fun n => -n) → Q (.ref x) H'
def sp_Form___eq__ (_ : PySem.W.Frag) (C C_D : Addr) : Sp := fun vs H Q _ => ∃ (x y : Addr) (ns ms : List Int), vs = [.ref x, .ref y] ∧ FormAt C H x ns ∧ FormAt C H y ms ∧ Q (.bl (decide (ns = ms))) H
def sp_Double_content (_ : PySem.W.Frag) (C C_D : Addr) : Sp := fun vs H Q _ => ∃ (x : Addr) (ns : List Int), vs = [.ref x] ∧ FormAt C_D H x ns ∧ Q (.int (gcdL ns : Nat)) H
def sp_Form_times (_ : PySem.W.Frag) (C C_D : Addr) : Sp := fun vs H Q _ => ∃ (z : Addr) (ns : List Int) (n : Int), vs = [.ref z, .int n] ∧ FormAt C H z ns ∧ ns.length ≤ 1000 ∧ Short n ∧ (∀ x ∈ ns, B 1000 x) ∧ ∀ x H', Ex0 H H' → FormAt C H' x (ns.map fun x => x * n) → Q (.ref x) H'
def sp_form_value (_ : PySem.W.Frag) (C C_D : Addr) : Sp := fun vs H Q _ => ∃ (t : Addr) (a b c d x y : Int), vs = [.ref t, .int x, .int y] ∧ Ti H t [a, b, c, d] ∧ B 1000 a ∧ B 1000 b ∧ B 1000 c ∧ B 1000 d ∧ B 200 x ∧ B 200 y ∧ Q (.int (fv a b c d x y)) H
def sp_form_discriminant (_ : PySem.W.Frag) (C C_D : Addr) : Sp := fun vs H Q _ => ∃ (t : Addr) (a b c d : Int), vs = [.ref t] ∧ Ti H t [a, b, c, d] ∧ B 1000 a ∧ B 1000 b ∧ B 1000 c ∧ B 1000 d ∧ Q (.int (fdisc a b c d)) H
def sp_form_led (_ : PySem.W.Frag) (C C_D : Addr) : Sp := fun vs H Q _ => ∃ (t u : Addr) (a b c d p q r s : Int), vs = [.ref t, .ref u] ∧ Ti H t [a, b, c, d] ∧ T4 H u p q r s ∧ B 1000 a ∧ B 1000 b ∧ B 1000 c ∧ B 1000 d ∧ B 200 p ∧ B 200 q ∧ B 200 r ∧ B 200 s ∧ ∀ x H', Ex0 H H' → Ti H' x (fled a b c d p q r s) → Q (.ref x) H'
def sp_form_of (_ : PySem.W.Frag) (C C_D : Addr) : Sp := fun vs H Q _ => ∃ (t : Addr) (ns : List Int), vs = [.ref t] ∧ Ti H t ns ∧ ∀ x H', Ex0 H H' → FormAt C H' x ns → Q (.ref x) H'
def sp_Form___init__ (_ : PySem.W.Frag) (C C_D : Addr) : Sp := fun vs H Q _ => ∃ (x dx t : Addr) (ns : List Int), vs = [.ref x, .ref t] ∧ H x = some (.ins C dx []) ∧ Ti H t ns ∧ ns.length = 4 ∧ (∀ n ∈ ns, Short n) ∧ ∀ H', (∀ b o, b ≠ x → H b = some o → H' b = some o) → H' x = some (.ins C dx [(("_coefficients" : Str), .ref t)]) → Q .non H'
def sp_Form_coefficients (_ : PySem.W.Frag) (C C_D : Addr) : Sp := fun vs H Q _ => ∃ (x : Addr) (ns : List Int), vs = [.ref x] ∧ FormAt C H x ns ∧ ∀ t, Ti H t ns → Q (.ref t) H
def sp_Form_discriminant (_ : PySem.W.Frag) (C C_D : Addr) : Sp := fun vs H Q _ => ∃ (x : Addr) (a b c d : Int), vs = [.ref x] ∧ FormAt C H x [a, b, c, d] ∧ B 1000 a ∧ B 1000 b ∧ B 1000 c ∧ B 1000 d ∧ Q (.int (fdisc a b c d)) H
def sp_Form___call__ (_ : PySem.W.Frag) (C C_D : Addr) : Sp := fun vs H Q _ => ∃ (z : Addr) (a b c d x y : Int), vs = [.ref z, .int x, .int y] ∧ FormAt C H z [a, b, c, d] ∧ B 1000 a ∧ B 1000 b ∧ B 1000 c ∧ B 1000 d ∧ Short x ∧ Short y ∧ Q (.int (fv a b c d x y)) H
def sp_Form_led (_ : PySem.W.Frag) (C C_D : Addr) : Sp := fun vs H Q _ => ∃ (z u : Addr) (a b c d p q r s : Int), vs = [.ref z, .ref u] ∧ FormAt C H z [a, b, c, d] ∧ T4 H u p q r s ∧ B 1000 a ∧ B 1000 b ∧ B 1000 c ∧ B 1000 d ∧ ChOk p q r s ∧ ∀ x H', Ex0 H H' → FormAt C H' x (fled a b c d p q r s) → Q (.ref x) H'
end
section
variable {P : Program} {w : World} {K : PySem.W.Frag} {mg : Str → Option Value} {base : Heap} {C_Form C_Double : Addr}
theorem ok_is_any_integer (T : Txt K mg C_Form C_Double) : Def P w K mg base 1 "is_any_integer" ["value"] (sp_is_any_integer K C_Form C_Double) := by
  obtain ⟨f_, fd_, g_, F_⟩ := T.d_is_any_integer
  refine ⟨f_, fd_, g_, F_.kp, F_.binds (ps := ["value"]) (fun _ _ _ _ _ _ us hl => match us, hl with | [_], _ => rfl), ?_⟩
  refine F_.ok sc_is_any_integer (fun vs H Q E h => ?_) (fun cdv A outer s H vs Q E hr h => ?_)
  · first | (obtain ⟨rfl, _⟩ := h; rfl) | (obtain ⟨_, rfl, _⟩ := h; rfl) | (obtain ⟨_, _, rfl, _⟩ := h; rfl) | (obtain ⟨_, _, _, rfl, _⟩ := h; rfl) | (obtain ⟨_, _, _, _, rfl, _⟩ := h; rfl) | (obtain ⟨_, _, _, _, _, rfl, _⟩ := h; rfl) | (obtain ⟨_, _, _, _, _, _, rfl, _⟩ := h; rfl) | (obtain ⟨_, _, _, _, _, _, _, rfl, _⟩ := h; rfl) | (obtain ⟨_, _, _, _, _, _, _, _, rfl, _⟩ := h; rfl) | (obtain ⟨_, _, _, _, _, _, _, _, _, rfl, _⟩ := h; rfl) | (obtain ⟨_, _, _, _, _, _, _, _, _, _, rfl, _⟩ := h; rfl) | (obtain ⟨_, _, _, _, _, _, _, _, _, _, _, rfl, _⟩ := h; rfl) | (obtain ⟨_, _, _, _, _, _, _, _, _, _, _, _, rfl, _⟩ := h; rfl) | (obtain ⟨_, _, _, _, _, _, _, _, _, _, _, _, _, rfl, _⟩ := h; rfl) | (obtain ⟨_, _, _, _, _, _, _, _, _, _, _, _, _, _, rfl, _⟩ := h; rfl) | (obtain ⟨_, _, _, _, _, _, _, _, _, _, _, _, _, _, _, rfl, _⟩ := h; rfl) | (obtain ⟨_, _, _, _, _, _, _, _, _, _, _, _, _, _, _, _, rfl, _⟩ := h; rfl) | (obtain ⟨_, _, _, _, _, _, _, _, _, _, _, _, _, _, _, _, _, rfl, _⟩ := h; rfl) | (obtain ⟨_, _, _, _, _, _, _, _, _, _, _, _, _, _, _, _, _, _, rfl, _⟩ := h; rfl) | (obtain ⟨_, _, _, _, _, _, _, _, _, _, _, _, _, _, _, _, _, _, _, rfl, _⟩ := h; rfl) | (obtain ⟨_, _, _, _, _, _, _, _, _, _, _, _, _, _, _, _, _, _, _, _, rfl, _⟩ := h; rfl) | (obtain ⟨_, _, _, _, _, _, _, _, _, _, _, _, _, _, _, _, _, _, _, _, _, rfl, _⟩ := h; rfl) | (obtain ⟨_, _, _, _, _, _, _, _, _, _, _, _, _, _, _, _, _, _, _, _, _, _, rfl, _⟩ := h; rfl) | (obtain ⟨_, _, _, _, _, _, _, _, _, _, _, _, _, _, _, _, _, _, _, _, _, _, _, rfl, _⟩ := h; rfl)
  · obtain ⟨i, rfl, q⟩ := h
    refine ⟨_, (pss_one (ps_ret (pe_and (pe_callB call_isi (by rfl) T.b_isinstance (by decide +kernel) (pa_cons (pv 0) (pa_cons (pe_bltn (v := .ty "int") (by rfl) T.b_int (by decide +kernel) rfl) pa_nil))) (pe_one (pe_not (pe_callB call_isi (by rfl) T.b_isinstance (by decide +kernel) (pa_cons (pv 0) (pa_cons (pe_bltn (v := .ty "bool") (by rfl) T.b_bool (by decide +kernel) rfl) pa_nil)))))))), ?_⟩
    refine ⟨_, rfl, _, _, _, _, true, rfl, .ty _, .base (.int i), kit_ty (by decide +kernel), _, rfl, iteT ?_⟩
    exact ⟨_, rfl, _, _, _, _, false, rfl, .ty _, .base (.int i), kit_ty (by decide +kernel), _, rfl, q⟩
theorem ok_is_short_integer (T : Txt K mg C_Form C_Double) : Def P w K mg base 2 "is_short_integer" ["value"] (sp_is_short_integer K C_Form C_Double) := by
  obtain ⟨f_, fd_, g_, F_⟩ := T.d_is_short_integer
  obtain ⟨f_is_any_integer, fd_is_any_integer, g_is_any_integer, k_is_any_integer, b_is_any_integer, G_is_any_integer⟩ := (ok_is_any_integer (P := P) (w := w) (base := base) T)
  refine ⟨f_, fd_, g_, F_.kp, F_.binds (ps := ["value"]) (fun _ _ _ _ _ _ us hl => match us, hl with | [_], _ => rfl), ?_⟩
  refine F_.ok sc_is_short_integer (fun vs H Q E h => ?_) (fun cdv A outer s H vs Q E hr h => ?_)
  · first | (obtain ⟨rfl, _⟩ := h; rfl) | (obtain ⟨_, rfl, _⟩ := h; rfl) | (obtain ⟨_, _, rfl, _⟩ := h; rfl) | (obtain ⟨_, _, _, rfl, _⟩ := h; rfl) | (obtain ⟨_, _, _, _, rfl, _⟩ := h; rfl) | (obtain ⟨_, _, _, _, _, rfl, _⟩ := h; rfl) | (obtain ⟨_, _, _, _, _, _, rfl, _⟩ := h; rfl) | (obtain ⟨_, _, _, _, _, _, _, rfl, _⟩ := h; rfl) | (obtain ⟨_, _, _, _, _, _, _, _, rfl, _⟩ := h; rfl) | (obtain ⟨_, _, _, _, _, _, _, _, _, rfl, _⟩ := h; rfl) | (obtain ⟨_, _, _, _, _, _, _, _, _, _, rfl, _⟩ := h; rfl) | (obtain ⟨_, _, _, _, _, _, _, _, _, _, _, rfl, _⟩ := h; rfl) | (obtain ⟨_, _, _, _, _, _, _, _, _, _, _, _, rfl, _⟩ := h; rfl) | (obtain ⟨_, _, _, _, _, _, _, _, _, _, _, _, _, rfl, _⟩ := h; rfl) | (obtain ⟨_, _, _, _, _, _, _, _, _, _, _, _, _, _, rfl, _⟩ := h; rfl) | (obtain ⟨_, _, _, _, _, _, _, _, _, _, _, _, _, _, _, rfl, _⟩ := h; rfl) | (obtain ⟨_, _, _, _, _, _, _, _, _, _, _, _, _, _, _, _, rfl, _⟩ := h; rfl) | (obtain ⟨_, _, _, _, _, _, _, _, _, _, _, _, _, _, _, _, _, rfl, _⟩ := h; rfl) | (obtain ⟨_, _, _, _, _, _, _, _, _, _, _, _, _, _, _, _, _, _, rfl, _⟩ := h; rfl) | (obtain ⟨_, _, _, _, _, _, _, _, _, _, _, _, _, _, _, _, _, _, _, rfl, _⟩ := h; rfl) | (obtain ⟨_, _, _, _, _, _, _, _, _, _, _, _, _, _, _, _, _, _, _, _, rfl, _⟩ := h; rfl) | (obtain ⟨_, _, _, _, _, _, _, _, _, _, _, _, _, _, _, _, _, _, _, _, _, rfl, _⟩ := h; rfl) | (obtain ⟨_, _, _, _, _, _, _, _, _, _, _, _, _, _, _, _, _, _, _, _, _, _, rfl, _⟩ := h; rfl) | (obtain ⟨_, _, _, _, _, _, _, _, _, _, _, _, _, _, _, _, _, _, _, _, _, _, _, rfl, _⟩ := h; rfl)
  · obtain ⟨i, rfl, hs, q⟩ := h
    obtain ⟨t_LIMIT, h_LIMIT⟩ := T.x_LIMIT
    refine ⟨_, (pss_one (ps_ret (pe_and (pe_call G_is_any_integer (hr.mono (by decide)) (by rfl) g_is_any_integer k_is_any_integer b_is_any_integer .nil pass0 (pa_cons (pv 0) pa_nil)) (pe_one (pe_chain op_lt op_lt (pe_un un_neg (pe_glob (v := .int 1000000000000000000000000000000000000000000000000000000000000) (by rfl) h_LIMIT ⟨_, rfl⟩)) (pv 0) (pe_glob (v := .int 1000000000000000000000000000000000000000000000000000000000000) (by rfl) h_LIMIT ⟨_, rfl⟩)))))), ?_⟩
    refine ⟨_, rfl, i, rfl, _, rfl, iteT ?_⟩
    refine ⟨_, rfl, _, rfl, _, _, rfl, rfl, _, rfl, dT hs.1 ⟨_, _, rfl, rfl, ?_⟩⟩
    show Q (.bl (decide (i < 1000000000000000000000000000000000000000000000000000000000000))) H
    rw [decide_eq_true hs.2]
    exact q
theorem ok_check_integer (T : Txt K mg C_Form C_Double) : Def P w K mg base 3 "check_integer" ["value"] (sp_check_integer K C_Form C_Double) := by
  obtain ⟨f_, fd_, g_, F_⟩ := T.d_check_integer
  obtain ⟨f_is_short_integer, fd_is_short_integer, g_is_short_integer, k_is_short_integer, b_is_short_integer, G_is_short_integer⟩ := (ok_is_short_integer (P := P) (w := w) (base := base) T)
  refine ⟨f_, fd_, g_, F_.kp, F_.binds (ps := ["value"]) (fun _ _ _ _ _ _ us hl => match us, hl with | [_], _ => rfl), ?_⟩
  refine F_.ok sc_check_integer (fun vs H Q E h => ?_) (fun cdv A outer s H vs Q E hr h => ?_)
  · first | (obtain ⟨rfl, _⟩ := h; rfl) | (obtain ⟨_, rfl, _⟩ := h; rfl) | (obtain ⟨_, _, rfl, _⟩ := h; rfl) | (obtain ⟨_, _, _, rfl, _⟩ := h; rfl) | (obtain ⟨_, _, _, _, rfl, _⟩ := h; rfl) | (obtain ⟨_, _, _, _, _, rfl, _⟩ := h; rfl) | (obtain ⟨_, _, _, _, _, _, rfl, _⟩ := h; rfl) | (obtain ⟨_, _, _, _, _, _, _, rfl, _⟩ := h; rfl) | (obtain ⟨_, _, _, _, _, _, _, _, rfl, _⟩ := h; rfl) | (obtain ⟨_, _, _, _, _, _, _, _, _, rfl, _⟩ := h; rfl) | (obtain ⟨_, _, _, _, _, _, _, _, _, _, rfl, _⟩ := h; rfl) | (obtain ⟨_, _, _, _, _, _, _, _, _, _, _, rfl, _⟩ := h; rfl) | (obtain ⟨_, _, _, _, _, _, _, _, _, _, _, _, rfl, _⟩ := h; rfl) | (obtain ⟨_, _, _, _, _, _, _, _, _, _, _, _, _, rfl, _⟩ := h; rfl) | (obtain ⟨_, _, _, _, _, _, _, _, _, _, _, _, _, _, rfl, _⟩ := h; rfl) | (obtain ⟨_, _, _, _, _, _, _, _, _, _, _, _, _, _, _, rfl, _⟩ := h; rfl) | (obtain ⟨_, _, _, _, _, _, _, _, _, _, _, _, _, _, _, _, rfl, _⟩ := h; rfl) | (obtain ⟨_, _, _, _, _, _, _, _, _, _, _, _, _, _, _, _, _, rfl, _⟩ := h; rfl) | (obtain ⟨_, _, _, _, _, _, _, _, _, _, _, _, _, _, _, _, _, _, rfl, _⟩ := h; rfl) | (obtain ⟨_, _, _, _, _, _, _, _, _, _, _, _, _, _, _, _, _, _, _, rfl, _⟩ := h; rfl) | (obtain ⟨_, _, _, _, _, _, _, _, _, _, _, _, _, _, _, _, _, _, _, _, rfl, _⟩ := h; rfl) | (obtain ⟨_, _, _, _, _, _, _, _, _, _, _, _, _, _, _, _, _, _, _, _, _, rfl, _⟩ := h; rfl) | (obtain ⟨_, _, _, _, _, _, _, _, _, _, _, _, _, _, _, _, _, _, _, _, _, _, rfl, _⟩ := h; rfl) | (obtain ⟨_, _, _, _, _, _, _, _, _, _, _, _, _, _, _, _, _, _, _, _, _, _, _, rfl, _⟩ := h; rfl)
  · obtain ⟨i, rfl, hs, q⟩ := h
    refine ⟨_, (pss_one (ps_if (pt_not (pt_val (pe_call G_is_short_integer (hr.mono (by decide)) (by rfl) g_is_short_integer k_is_short_integer b_is_short_integer .nil pass0 (pa_cons (pv 0) pa_nil))))
      pss_never
      pss_nil)), ?_⟩
    refine ⟨_, rfl, i, rfl, hs, _, rfl, ?_⟩
    exact iteF q
theorem ok_are_any_integers (T : Txt K mg C_Form C_Double) : Def P w K mg base 2 "are_any_integers" ["value", "many"] (sp_are_any_integers K C_Form C_Double) := by
  obtain ⟨f_, fd_, g_, F_⟩ := T.d_are_any_integers
  obtain ⟨f_is_any_integer, fd_is_any_integer, g_is_any_integer, k_is_any_integer, b_is_any_integer, G_is_any_integer⟩ := (ok_is_any_integer (P := P) (w := w) (base := base) T)
  refine ⟨f_, fd_, g_, F_.kp, F_.binds (ps := ["value", "many"]) (fun _ _ _ _ _ _ us hl => match us, hl with | [_, _], _ => rfl), ?_⟩
  refine F_.ok sc_are_any_integers (fun vs H Q E h => ?_) (fun cdv A outer s H vs Q E hr h => ?_)
  · first | (obtain ⟨rfl, _⟩ := h; rfl) | (obtain ⟨_, rfl, _⟩ := h; rfl) | (obtain ⟨_, _, rfl, _⟩ := h; rfl) | (obtain ⟨_, _, _, rfl, _⟩ := h; rfl) | (obtain ⟨_, _, _, _, rfl, _⟩ := h; rfl) | (obtain ⟨_, _, _, _, _, rfl, _⟩ := h; rfl) | (obtain ⟨_, _, _, _, _, _, rfl, _⟩ := h; rfl) | (obtain ⟨_, _, _, _, _, _, _, rfl, _⟩ := h; rfl) | (obtain ⟨_, _, _, _, _, _, _, _, rfl, _⟩ := h; rfl) | (obtain ⟨_, _, _, _, _, _, _, _, _, rfl, _⟩ := h; rfl) | (obtain ⟨_, _, _, _, _, _, _, _, _, _, rfl, _⟩ := h; rfl) | (obtain ⟨_, _, _, _, _, _, _, _, _, _, _, rfl, _⟩ := h; rfl) | (obtain ⟨_, _, _, _, _, _, _, _, _, _, _, _, rfl, _⟩ := h; rfl) | (obtain ⟨_, _, _, _, _, _, _, _, _, _, _, _, _, rfl, _⟩ := h; rfl) | (obtain ⟨_, _, _, _, _, _, _, _, _, _, _, _, _, _, rfl, _⟩ := h; rfl) | (obtain ⟨_, _, _, _, _, _, _, _, _, _, _, _, _, _, _, rfl, _⟩ := h; rfl) | (obtain ⟨_, _, _, _, _, _, _, _, _, _, _, _, _, _, _, _, rfl, _⟩ := h; rfl) | (obtain ⟨_, _, _, _, _, _, _, _, _, _, _, _, _, _, _, _, _, rfl, _⟩ := h; rfl) | (obtain ⟨_, _, _, _, _, _, _, _, _, _, _, _, _, _, _, _, _, _, rfl, _⟩ := h; rfl) | (obtain ⟨_, _, _, _, _, _, _, _, _, _, _, _, _, _, _, _, _, _, _, rfl, _⟩ := h; rfl) | (obtain ⟨_, _, _, _, _, _, _, _, _, _, _, _, _, _, _, _, _, _, _, _, rfl, _⟩ := h; rfl) | (obtain ⟨_, _, _, _, _, _, _, _, _, _, _, _, _, _, _, _, _, _, _, _, _, rfl, _⟩ := h; rfl) | (obtain ⟨_, _, _, _, _, _, _, _, _, _, _, _, _, _, _, _, _, _, _, _, _, _, rfl, _⟩ := h; rfl) | (obtain ⟨_, _, _, _, _, _, _, _, _, _, _, _, _, _, _, _, _, _, _, _, _, _, _, rfl, _⟩ := h; rfl)
  · obtain ⟨a, ns, rfl, ha, hl, q⟩ := h
    refine ⟨_, (pss_cons (ps_if (PW.pt (pw_or (pt_not (pt_val (pe_callB call_isi (by rfl) T.b_isinstance (by decide +kernel) (pa_cons (pv 0) (pa_cons (pe_bltn (v := .ty "tuple") (by rfl) T.b_tuple (by decide +kernel) rfl) pa_nil))))) (pw_or1 (pt_cmpR op_ne (pe_callB call_len_seq (by rfl) T.b_len PySem.boot_len (pa_cons (pv 0) pa_nil)) (pv 1) (nomark _)))))
      (pss_one (ps_ret pe_bl))
      pss_nil)
    (pss_one (ps_ret (pe_callB (cr_all rfl) (by rfl) T.b_all (by decide +kernel) (pa_cons (pe_lc (own := [("number", 2)]) (g := (gName 2)) rfl sc_are_any_integers.nd (pi_tup (pv 0)) (blkOk_by (N := N_are_any_integers) (sc := defScope s_are_any_integers) (by decide +kernel)) (fun _ _ _ _ _ => (pg_name (i := 2) sc_are_any_integers.nd rfl (.inl rfl))) (fun _ _ _ _ _ => pts_nil) (fun _ _ _ _ _ => (pe_call G_is_any_integer (hr.mono (by decide)) (by rfl) g_is_any_integer k_is_any_integer b_is_any_integer .nil pass0 (pa_cons (pv 2) pa_nil)))) pa_nil))))), ?_⟩
    refine ⟨_, rfl, _, _, _, _, true, rfl, .ty _, tyT ha, kit_ty (by decide +kernel), _, rfl, ?_⟩
    refine iteF ⟨_, rfl, a, _, rfl, .inr (ha), _, rfl, rfl, _, rfl, ?_⟩
    refine ndF (by rw [List.length_map]) ?_
    refine ⟨_, rfl, a, rfl, ⟨_, ha⟩, ?_⟩
    refine lcT fm0 trivial (ha) (fun z => z) (fun i acc _ => acc = (List.replicate i true).map V.bl) (fun _ _ => rfl) (fun D i x acc H' hD hx e hA hlen hp => ?_) (fun D H' acc hD e hA hp => ?_)
    · obtain ⟨n, hn, rfl⟩ := get_int hx
      have hi := (List.getElem?_eq_some_iff.mp hn).1
      refine ⟨rfl, ?_⟩
      refine ⟨_, rfl, n, rfl, ?_⟩
      refine cs_yes fm0 trivial hD e hA hlen (by omega) (Fx.refl trivial) ?_
      show acc ++ [V.bl true] = _
      rw [hp, List.replicate_succ', List.map_append]
      rfl
    · rw [List.length_map] at hp
      subst hp
      refine ⟨D, _, rfl, SqL.of hA, ?_⟩
      rw [show ((List.replicate ns.length true).all id) = true by simp]
      exact q H' e
theorem ok_are_short_integers (T : Txt K mg C_Form C_Double) : Def P w K mg base 3 "are_short_integers" ["value", "many"] (sp_are_short_integers K C_Form C_Double) := by
  obtain ⟨f_, fd_, g_, F_⟩ := T.d_are_short_integers
  refine ⟨f_, fd_, g_, F_.kp, F_.binds (ps := ["value", "many"]) (fun _ _ _ _ _ _ us hl => match us, hl with | [_, _], _ => rfl), ?_⟩
  refine F_.ok sc_are_short_integers (fun vs H Q E h => ?_) (fun cdv A outer s H vs Q E hr h => ?_)
  · first | (obtain ⟨rfl, _⟩ := h; rfl) | (obtain ⟨_, rfl, _⟩ := h; rfl) | (obtain ⟨_, _, rfl, _⟩ := h; rfl) | (obtain ⟨_, _, _, rfl, _⟩ := h; rfl) | (obtain ⟨_, _, _, _, rfl, _⟩ := h; rfl) | (obtain ⟨_, _, _, _, _, rfl, _⟩ := h; rfl) | (obtain ⟨_, _, _, _, _, _, rfl, _⟩ := h; rfl) | (obtain ⟨_, _, _, _, _, _, _, rfl, _⟩ := h; rfl) | (obtain ⟨_, _, _, _, _, _, _, _, rfl, _⟩ := h; rfl) | (obtain ⟨_, _, _, _, _, _, _, _, _, rfl, _⟩ := h; rfl) | (obtain ⟨_, _, _, _, _, _, _, _, _, _, rfl, _⟩ := h; rfl) | (obtain ⟨_, _, _, _, _, _, _, _, _, _, _, rfl, _⟩ := h; rfl) | (obtain ⟨_, _, _, _, _, _, _, _, _, _, _, _, rfl, _⟩ := h; rfl) | (obtain ⟨_, _, _, _, _, _, _, _, _, _, _, _, _, rfl, _⟩ := h; rfl) | (obtain ⟨_, _, _, _, _, _, _, _, _, _, _, _, _, _, rfl, _⟩ := h; rfl) | (obtain ⟨_, _, _, _, _, _, _, _, _, _, _, _, _, _, _, rfl, _⟩ := h; rfl) | (obtain ⟨_, _, _, _, _, _, _, _, _, _, _, _, _, _, _, _, rfl, _⟩ := h; rfl) | (obtain ⟨_, _, _, _, _, _, _, _, _, _, _, _, _, _, _, _, _, rfl, _⟩ := h; rfl) | (obtain ⟨_, _, _, _, _, _, _, _, _, _, _, _, _, _, _, _, _, _, rfl, _⟩ := h; rfl) | (obtain ⟨_, _, _, _, _, _, _, _, _, _, _, _, _, _, _, _, _, _, _, rfl, _⟩ := h; rfl) | (obtain ⟨_, _, _, _, _, _, _, _, _, _, _, _, _, _, _, _, _, _, _, _, rfl, _⟩ := h; rfl) | (obtain ⟨_, _, _, _, _, _, _, _, _, _, _, _, _, _, _, _, _, _, _, _, _, rfl, _⟩ := h; rfl) | (obtain ⟨_, _, _, _, _, _, _, _, _, _, _, _, _, _, _, _, _, _, _, _, _, _, rfl, _⟩ := h; rfl) | (obtain ⟨_, _, _, _, _, _, _, _, _, _, _, _, _, _, _, _, _, _, _, _, _, _, _, rfl, _⟩ := h; rfl)
  · obtain ⟨a, ns, rfl, ha, hl, hs, q⟩ := h
    obtain ⟨t_LIMIT, h_LIMIT⟩ := T.x_LIMIT
    refine ⟨_, (pss_cons (ps_if (PW.pt (pw_or (pt_not (pt_val (pe_callB call_isi (by rfl) T.b_isinstance (by decide +kernel) (pa_cons (pv 0) (pa_cons (pe_bltn (v := .ty "tuple") (by rfl) T.b_tuple (by decide +kernel) rfl) pa_nil))))) (pw_or1 (pt_cmpR op_ne (pe_callB call_len_seq (by rfl) T.b_len PySem.boot_len (pa_cons (pv 0) pa_nil)) (pv 1) (nomark _)))))
      (pss_one (ps_ret pe_bl))
      pss_nil)
    (pss_one (ps_ret (pe_callB (cr_all rfl) (by rfl) T.b_all (by decide +kernel) (pa_cons (pe_lc (own := [("n", 2)]) (g := (gName 2)) rfl sc_are_short_integers.nd (pi_tup (pv 0)) (blkOk_by (N := N_are_short_integers) (sc := defScope s_are_short_integers) (by decide +kernel)) (fun _ _ _ _ _ => (pg_name (i := 2) sc_are_short_integers.nd rfl (.inl rfl))) (fun _ _ _ _ _ => pts_nil) (fun _ _ _ _ _ => (pe_and (pe_callB (call_isiKK (K := K) rfl) (by rfl) T.b_isinstance (by decide +kernel) (pa_cons (pv 2) (pa_cons (pe_bltn (v := .ty "int") (by rfl) T.b_int (by decide +kernel) rfl) pa_nil))) (pe_and (pe_not (pe_callB (call_isiKK (K := K) rfl) (by rfl) T.b_isinstance (by decide +kernel) (pa_cons (pv 2) (pa_cons (pe_bltn (v := .ty "bool") (by rfl) T.b_bool (by decide +kernel) rfl) pa_nil)))) (pe_one (pe_chain op_lt op_lt (pe_un un_neg (pe_glob (v := .int 1000000000000000000000000000000000000000000000000000000000000) (by rfl) h_LIMIT ⟨_, rfl⟩)) (pv 2) (pe_glob (v := .int 1000000000000000000000000000000000000000000000000000000000000) (by rfl) h_LIMIT ⟨_, rfl⟩))))))) pa_nil))))), ?_⟩
    refine ⟨_, rfl, _, _, _, _, true, rfl, .ty _, tyT ha, kit_ty (by decide +kernel), _, rfl, ?_⟩
    refine iteF ⟨_, rfl, a, _, rfl, .inr (ha), _, rfl, rfl, _, rfl, ?_⟩
    refine ndF (by rw [List.length_map]) ?_
    refine ⟨_, rfl, a, rfl, ⟨_, ha⟩, ?_⟩
    refine lcT fm0 trivial (ha) (fun z => z) (fun i acc _ => acc = (List.replicate i true).map V.bl) (fun _ _ => rfl) (fun D i x acc H' hD hx e hA hlen hp => ?_) (fun D H' acc hD e hA hp => ?_)
    · obtain ⟨n, hn, rfl⟩ := get_int hx
      have hi := (List.getElem?_eq_some_iff.mp hn).1
      refine ⟨rfl, ?_⟩
      have hn2 := hs n (List.mem_of_getElem? hn)
      refine ⟨_, rfl, _, _, _, _, true, rfl, .ty _, .base (.int n), kit_ty (by decide +kernel), _, rfl, iteT ?_⟩
      refine ⟨_, rfl, _, _, _, _, false, rfl, .ty _, .base (.int n), kit_ty (by decide +kernel), _, rfl, _, rfl, iteT ?_⟩
      refine ⟨_, rfl, _, rfl, _, _, rfl, rfl, _, rfl, dT hn2.1 ⟨_, _, rfl, rfl, ?_⟩⟩
      simp only [decide_eq_true hn2.2]
      refine cs_yes fm0 trivial hD e hA hlen (by omega) (Fx.refl trivial) ?_
      show acc ++ [V.bl true] = _
      rw [hp, List.replicate_succ', List.map_append]
      rfl
    · rw [List.length_map] at hp
      subst hp
      refine ⟨D, _, rfl, SqL.of hA, ?_⟩
      rw [show ((List.replicate ns.length true).all id) = true by simp]
      exact q H' e
theorem ok_determinant_of (T : Txt K mg C_Form C_Double) : Def P w K mg base 1 "determinant_of" ["change"] (sp_determinant_of K C_Form C_Double) := by
  obtain ⟨f_, fd_, g_, F_⟩ := T.d_determinant_of
  refine ⟨f_, fd_, g_, F_.kp, F_.binds (ps := ["change"]) (fun _ _ _ _ _ _ us hl => match us, hl with | [_], _ => rfl), ?_⟩
  refine F_.ok sc_determinant_of (fun vs H Q E h => ?_) (fun cdv A outer s H vs Q E hr h => ?_)
  · first | (obtain ⟨rfl, _⟩ := h; rfl) | (obtain ⟨_, rfl, _⟩ := h; rfl) | (obtain ⟨_, _, rfl, _⟩ := h; rfl) | (obtain ⟨_, _, _, rfl, _⟩ := h; rfl) | (obtain ⟨_, _, _, _, rfl, _⟩ := h; rfl) | (obtain ⟨_, _, _, _, _, rfl, _⟩ := h; rfl) | (obtain ⟨_, _, _, _, _, _, rfl, _⟩ := h; rfl) | (obtain ⟨_, _, _, _, _, _, _, rfl, _⟩ := h; rfl) | (obtain ⟨_, _, _, _, _, _, _, _, rfl, _⟩ := h; rfl) | (obtain ⟨_, _, _, _, _, _, _, _, _, rfl, _⟩ := h; rfl) | (obtain ⟨_, _, _, _, _, _, _, _, _, _, rfl, _⟩ := h; rfl) | (obtain ⟨_, _, _, _, _, _, _, _, _, _, _, rfl, _⟩ := h; rfl) | (obtain ⟨_, _, _, _, _, _, _, _, _, _, _, _, rfl, _⟩ := h; rfl) | (obtain ⟨_, _, _, _, _, _, _, _, _, _, _, _, _, rfl, _⟩ := h; rfl) | (obtain ⟨_, _, _, _, _, _, _, _, _, _, _, _, _, _, rfl, _⟩ := h; rfl) | (obtain ⟨_, _, _, _, _, _, _, _, _, _, _, _, _, _, _, rfl, _⟩ := h; rfl) | (obtain ⟨_, _, _, _, _, _, _, _, _, _, _, _, _, _, _, _, rfl, _⟩ := h; rfl) | (obtain ⟨_, _, _, _, _, _, _, _, _, _, _, _, _, _, _, _, _, rfl, _⟩ := h; rfl) | (obtain ⟨_, _, _, _, _, _, _, _, _, _, _, _, _, _, _, _, _, _, rfl, _⟩ := h; rfl) | (obtain ⟨_, _, _, _, _, _, _, _, _, _, _, _, _, _, _, _, _, _, _, rfl, _⟩ := h; rfl) | (obtain ⟨_, _, _, _, _, _, _, _, _, _, _, _, _, _, _, _, _, _, _, _, rfl, _⟩ := h; rfl) | (obtain ⟨_, _, _, _, _, _, _, _, _, _, _, _, _, _, _, _, _, _, _, _, _, rfl, _⟩ := h; rfl) | (obtain ⟨_, _, _, _, _, _, _, _, _, _, _, _, _, _, _, _, _, _, _, _, _, _, rfl, _⟩ := h; rfl) | (obtain ⟨_, _, _, _, _, _, _, _, _, _, _, _, _, _, _, _, _, _, _, _, _, _, _, rfl, _⟩ := h; rfl)
  · obtain ⟨a, p, q', r, s', rfl, ⟨t1, t2, h0, h1, h2⟩, bp, bq, br, bs, q⟩ := h
    refine ⟨_, (pss_cons (ps_asg (pv 0) (pg_tup (by rfl) (pgs_cons (pg_tup (by rfl) (pgs_cons (pg_name (i := 1) sc_determinant_of.nd rfl (.inl rfl)) (pgs_cons (pg_name (i := 2) sc_determinant_of.nd rfl (.inl rfl)) pgs_nil))) (pgs_cons (pg_tup (by rfl) (pgs_cons (pg_name (i := 3) sc_determinant_of.nd rfl (.inl rfl)) (pgs_cons (pg_name (i := 4) sc_determinant_of.nd rfl (.inl rfl)) pgs_nil))) pgs_nil))))
    (pss_one (ps_ret (pe_op op_sub (pe_op op_mulW (pv 1) (pv 4)) (pe_op op_mulW (pv 2) (pv 3)))))), ?_⟩
    refine ⟨_, rfl, a, _, rfl, h0, rfl, _, _, rfl, ?_⟩
    refine ⟨t1, _, rfl, h1, rfl, _, _, rfl, ?_⟩
    refine ⟨_, _, rfl, ⟨rfl, ?_⟩⟩
    refine ⟨_, _, rfl, ?_⟩
    refine ⟨t2, _, rfl, h2, rfl, _, _, rfl, ?_⟩
    refine ⟨_, _, rfl, ⟨rfl, ?_⟩⟩
    refine ⟨rfl, ?_⟩
    exact ⟨_, rfl, _, rfl, _, _, rfl, rfl, mulB (by with_reducible assumption) (by with_reducible assumption) (by decide), _, rfl, _, rfl, _, _, rfl, rfl, mulB (by with_reducible assumption) (by with_reducible assumption) (by decide), _, _, rfl, rfl, q⟩
theorem ok_is_change (T : Txt K mg C_Form C_Double) : Def P w K mg base 3 "is_change" ["value"] (sp_is_change K C_Form C_Double) := by
  obtain ⟨f_, fd_, g_, F_⟩ := T.d_is_change
  obtain ⟨f_are_any_integers, fd_are_any_integers, g_are_any_integers, k_are_any_integers, b_are_any_integers, G_are_any_integers⟩ := (ok_are_any_integers (P := P) (w := w) (base := base) T)
  obtain ⟨f_determinant_of, fd_determinant_of, g_determinant_of, k_determinant_of, b_determinant_of, G_determinant_of⟩ := (ok_determinant_of (P := P) (w := w) (base := base) T)
  refine ⟨f_, fd_, g_, F_.kp, F_.binds (ps := ["value"]) (fun _ _ _ _ _ _ us hl => match us, hl with | [_], _ => rfl), ?_⟩
  refine F_.ok sc_is_change (fun vs H Q E h => ?_) (fun cdv A outer s H vs Q E hr h => ?_)
  · first | (obtain ⟨rfl, _⟩ := h; rfl) | (obtain ⟨_, rfl, _⟩ := h; rfl) | (obtain ⟨_, _, rfl, _⟩ := h; rfl) | (obtain ⟨_, _, _, rfl, _⟩ := h; rfl) | (obtain ⟨_, _, _, _, rfl, _⟩ := h; rfl) | (obtain ⟨_, _, _, _, _, rfl, _⟩ := h; rfl) | (obtain ⟨_, _, _, _, _, _, rfl, _⟩ := h; rfl) | (obtain ⟨_, _, _, _, _, _, _, rfl, _⟩ := h; rfl) | (obtain ⟨_, _, _, _, _, _, _, _, rfl, _⟩ := h; rfl) | (obtain ⟨_, _, _, _, _, _, _, _, _, rfl, _⟩ := h; rfl) | (obtain ⟨_, _, _, _, _, _, _, _, _, _, rfl, _⟩ := h; rfl) | (obtain ⟨_, _, _, _, _, _, _, _, _, _, _, rfl, _⟩ := h; rfl) | (obtain ⟨_, _, _, _, _, _, _, _, _, _, _, _, rfl, _⟩ := h; rfl) | (obtain ⟨_, _, _, _, _, _, _, _, _, _, _, _, _, rfl, _⟩ := h; rfl) | (obtain ⟨_, _, _, _, _, _, _, _, _, _, _, _, _, _, rfl, _⟩ := h; rfl) | (obtain ⟨_, _, _, _, _, _, _, _, _, _, _, _, _, _, _, rfl, _⟩ := h; rfl) | (obtain ⟨_, _, _, _, _, _, _, _, _, _, _, _, _, _, _, _, rfl, _⟩ := h; rfl) | (obtain ⟨_, _, _, _, _, _, _, _, _, _, _, _, _, _, _, _, _, rfl, _⟩ := h; rfl) | (obtain ⟨_, _, _, _, _, _, _, _, _, _, _, _, _, _, _, _, _, _, rfl, _⟩ := h; rfl) | (obtain ⟨_, _, _, _, _, _, _, _, _, _, _, _, _, _, _, _, _, _, _, rfl, _⟩ := h; rfl) | (obtain ⟨_, _, _, _, _, _, _, _, _, _, _, _, _, _, _, _, _, _, _, _, rfl, _⟩ := h; rfl) | (obtain ⟨_, _, _, _, _, _, _, _, _, _, _, _, _, _, _, _, _, _, _, _, _, rfl, _⟩ := h; rfl) | (obtain ⟨_, _, _, _, _, _, _, _, _, _, _, _, _, _, _, _, _, _, _, _, _, _, rfl, _⟩ := h; rfl) | (obtain ⟨_, _, _, _, _, _, _, _, _, _, _, _, _, _, _, _, _, _, _, _, _, _, _, rfl, _⟩ := h; rfl)
  · obtain ⟨a, p, q', r, s', rfl, h4, hc, q⟩ := h
    obtain ⟨t1, t2, h0, h1, h2⟩ := id h4
    refine ⟨_, (pss_cons (ps_if (PW.pt (pw_or (pt_not (pt_val (pe_callB call_isi (by rfl) T.b_isinstance (by decide +kernel) (pa_cons (pv 0) (pa_cons (pe_bltn (v := .ty "tuple") (by rfl) T.b_tuple (by decide +kernel) rfl) pa_nil))))) (pw_or1 (pt_cmpR op_ne (pe_callB call_len_seq (by rfl) T.b_len PySem.boot_len (pa_cons (pv 0) pa_nil)) pe_int (nomark _)))))
      (pss_one (ps_ret pe_bl))
      pss_nil)
    (pss_cons (ps_if (pt_not (pt_val (pe_callB (cr_all rfl) (by rfl) T.b_all (by decide +kernel) (pa_cons (pe_lc (own := [("row", 1)]) (g := (gName 1)) rfl sc_is_change.nd (pi_tup (pv 0)) (blkOk_by (N := N_is_change) (sc := defScope s_is_change) (by decide +kernel)) (fun _ _ _ _ _ => (pg_name (i := 1) sc_is_change.nd rfl (.inl rfl))) (fun _ _ _ _ _ => pts_nil) (fun _ _ _ _ _ => (pe_call G_are_any_integers (hr.mono (by decide)) (by rfl) g_are_any_integers k_are_any_integers b_are_any_integers .nil pass0 (pa_cons (pv 1) (pa_cons pe_int pa_nil))))) pa_nil))))
      (pss_one (ps_ret pe_bl))
      pss_nil)
    (pss_one (ps_ret (pe_cmpR op_in_seq (pe_call G_determinant_of (hr.mono (by decide)) (by rfl) g_determinant_of k_determinant_of b_determinant_of .nil pass0 (pa_cons (pv 0) pa_nil)) (pe_tup (pa_cons pe_int (pa_cons (pe_un un_neg pe_int) pa_nil))) (by with_unfolding_all rfl)))))), ?_⟩
    refine ⟨_, rfl, _, _, _, _, true, rfl, .ty _, tyT h0, kit_ty (by decide +kernel), _, rfl, ?_⟩
    refine iteF ⟨_, rfl, a, _, rfl, .inr (h0), rfl, _, rfl, ?_⟩
    refine ndF rfl ?_
    refine ⟨_, rfl, a, rfl, ⟨_, h0⟩, ?_⟩
    refine lcT fm0 trivial (h0) (fun z => z) (fun i acc _ => acc = (List.replicate i true).map V.bl) (fun _ _ => rfl) (fun D i x acc H' hD hx e hA hlen hp => ?_) (fun D H' acc hD e hA hp => ?_)
    · have fin : ∀ (t : Addr) (u v : Int), x = .ref t → SqT K H t [.int u, .int v] → i < 2 → ∃ t, x = .ref t ∧ ∃ u v, SqT K H' t [.int u, .int v] ∧ i < 2 := fun t u v e1 e2 e3 => ⟨t, e1, u, v, e.sqT (fun z => z) e2, e3⟩
      obtain ⟨t, rfl, u, v, ht, hi⟩ : ∃ t, x = .ref t ∧ ∃ u v, SqT K H' t [.int u, .int v] ∧ i < 2 := by
        match i, hx with
        | 0, hx => exact fin t1 p q' (Option.some.inj hx).symm h1 (by decide)
        | 1, hx => exact fin t2 r s' (Option.some.inj hx).symm h2 (by decide)
      refine ⟨rfl, ?_⟩
      refine ⟨_, rfl, t, [u, v], rfl, ht, by show 2 ≤ 1000; decide, fun H'' e'' => ?_⟩
      refine cs_yes fm0 trivial hD e hA hlen (by omega) e'' ?_
      rw [hp, List.replicate_succ', List.map_append]
      rfl
    · refine ⟨D, List.replicate 2 true, rfl, SqL.of (by rw [hA, hp]; rfl), _, rfl, ?_⟩
      refine ⟨_, rfl, a, p, q', r, s', rfl, Ex0.q e h4, hc.1.b, hc.2.1.b, hc.2.2.1.b, hc.2.2.2.1.b, _, rfl, sl2, fun u nu => ?_⟩
      refine ⟨u, _, rfl, .inr (SqT.of upd_same), rfl, rfl, ?_⟩
      have e1 : inV (.int (p * s' - q' * r)) [.int 1, .int (-1)] = true := by
        show ((1 : Int) == p * s' - q' * r || ((-1 : Int) == p * s' - q' * r || false)) = true
        rcases hc.2.2.2.2 with z | z <;> rw [z] <;> decide
      show Q (.bl (inV (.int (p * s' - q' * r)) [.int 1, .int (-1)])) _
      rw [e1]
      exact q _ (e.trans (Ex0.new nu))
theorem ok_is_short_change (T : Txt K mg C_Form C_Double) : Def P w K mg base 4 "is_short_change" ["value"] (sp_is_short_change K C_Form C_Double) := by
  obtain ⟨f_, fd_, g_, F_⟩ := T.d_is_short_change
  obtain ⟨f_are_short_integers, fd_are_short_integers, g_are_short_integers, k_are_short_integers, b_are_short_integers, G_are_short_integers⟩ := (ok_are_short_integers (P := P) (w := w) (base := base) T)
  obtain ⟨f_is_change, fd_is_change, g_is_change, k_is_change, b_is_change, G_is_change⟩ := (ok_is_change (P := P) (w := w) (base := base) T)
  refine ⟨f_, fd_, g_, F_.kp, F_.binds (ps := ["value"]) (fun _ _ _ _ _ _ us hl => match us, hl with | [_], _ => rfl), ?_⟩
  refine F_.ok sc_is_short_change (fun vs H Q E h => ?_) (fun cdv A outer s H vs Q E hr h => ?_)
  · first | (obtain ⟨rfl, _⟩ := h; rfl) | (obtain ⟨_, rfl, _⟩ := h; rfl) | (obtain ⟨_, _, rfl, _⟩ := h; rfl) | (obtain ⟨_, _, _, rfl, _⟩ := h; rfl) | (obtain ⟨_, _, _, _, rfl, _⟩ := h; rfl) | (obtain ⟨_, _, _, _, _, rfl, _⟩ := h; rfl) | (obtain ⟨_, _, _, _, _, _, rfl, _⟩ := h; rfl) | (obtain ⟨_, _, _, _, _, _, _, rfl, _⟩ := h; rfl) | (obtain ⟨_, _, _, _, _, _, _, _, rfl, _⟩ := h; rfl) | (obtain ⟨_, _, _, _, _, _, _, _, _, rfl, _⟩ := h; rfl) | (obtain ⟨_, _, _, _, _, _, _, _, _, _, rfl, _⟩ := h; rfl) | (obtain ⟨_, _, _, _, _, _, _, _, _, _, _, rfl, _⟩ := h; rfl) | (obtain ⟨_, _, _, _, _, _, _, _, _, _, _, _, rfl, _⟩ := h; rfl) | (obtain ⟨_, _, _, _, _, _, _, _, _, _, _, _, _, rfl, _⟩ := h; rfl) | (obtain ⟨_, _, _, _, _, _, _, _, _, _, _, _, _, _, rfl, _⟩ := h; rfl) | (obtain ⟨_, _, _, _, _, _, _, _, _, _, _, _, _, _, _, rfl, _⟩ := h; rfl) | (obtain ⟨_, _, _, _, _, _, _, _, _, _, _, _, _, _, _, _, rfl, _⟩ := h; rfl) | (obtain ⟨_, _, _, _, _, _, _, _, _, _, _, _, _, _, _, _, _, rfl, _⟩ := h; rfl) | (obtain ⟨_, _, _, _, _, _, _, _, _, _, _, _, _, _, _, _, _, _, rfl, _⟩ := h; rfl) | (obtain ⟨_, _, _, _, _, _, _, _, _, _, _, _, _, _, _, _, _, _, _, rfl, _⟩ := h; rfl) | (obtain ⟨_, _, _, _, _, _, _, _, _, _, _, _, _, _, _, _, _, _, _, _, rfl, _⟩ := h; rfl) | (obtain ⟨_, _, _, _, _, _, _, _, _, _, _, _, _, _, _, _, _, _, _, _, _, rfl, _⟩ := h; rfl) | (obtain ⟨_, _, _, _, _, _, _, _, _, _, _, _, _, _, _, _, _, _, _, _, _, _, rfl, _⟩ := h; rfl) | (obtain ⟨_, _, _, _, _, _, _, _, _, _, _, _, _, _, _, _, _, _, _, _, _, _, _, rfl, _⟩ := h; rfl)
  · obtain ⟨a, p, q', r, s', rfl, h4, hc, q⟩ := h
    refine ⟨_, (pss_one (ps_ret (pe_and (pe_call G_is_change (hr.mono (by decide)) (by rfl) g_is_change k_is_change b_is_change .nil pass0 (pa_cons (pv 0) pa_nil)) (pe_one (pe_callB (cr_all rfl) (by rfl) T.b_all (by decide +kernel) (pa_cons (pe_lc (own := [("row", 1)]) (g := (gName 1)) rfl sc_is_short_change.nd (pi_tup (pv 0)) (blkOk_by (N := N_is_short_change) (sc := defScope s_is_short_change) (by decide +kernel)) (fun _ _ _ _ _ => (pg_name (i := 1) sc_is_short_change.nd rfl (.inl rfl))) (fun _ _ _ _ _ => pts_nil) (fun _ _ _ _ _ => (pe_call G_are_short_integers (hr.mono (by decide)) (by rfl) g_are_short_integers k_are_short_integers b_are_short_integers .nil pass0 (pa_cons (pv 1) (pa_cons pe_int pa_nil))))) pa_nil)))))), ?_⟩
    refine ⟨_, rfl, a, p, q', r, s', rfl, h4, hc, fun H1 e1 => ⟨_, rfl, iteT ?_⟩⟩
    obtain ⟨t1, t2, h0, h1, h2⟩ := Ex0.q e1 h4
    refine ⟨_, rfl, a, rfl, ⟨_, h0⟩, ?_⟩
    refine lcT fm0 trivial (h0) (fun z => z) (fun i acc _ => acc = (List.replicate i true).map V.bl) (fun _ _ => rfl) (fun D i x acc H' hD hx e hA hlen hp => ?_) (fun D H' acc hD e hA hp => ?_)
    · have fin : ∀ (t : Addr) (u v : Int), x = .ref t → SqT K H1 t [.int u, .int v] → Short u → Short v → i < 2 → ∃ t, x = .ref t ∧ ∃ u v, SqT K H' t [.int u, .int v] ∧ Short u ∧ Short v ∧ i < 2 := fun t u v e1 e2 e3 e4 e5 => ⟨t, e1, u, v, e.sqT (fun z => z) e2, e3, e4, e5⟩
      obtain ⟨t, rfl, u, v, ht, su, sv, hi⟩ : ∃ t, x = .ref t ∧ ∃ u v, SqT K H' t [.int u, .int v] ∧ Short u ∧ Short v ∧ i < 2 := by
        match i, hx with
        | 0, hx => exact fin t1 p q' (Option.some.inj hx).symm h1 hc.1 hc.2.1 (by decide)
        | 1, hx => exact fin t2 r s' (Option.some.inj hx).symm h2 hc.2.2.1 hc.2.2.2.1 (by decide)
      refine ⟨rfl, ?_⟩
      refine ⟨_, rfl, t, [u, v], rfl, ht, by show 2 ≤ 1000; decide, fun n hn => ?_, fun H'' e'' => ?_⟩
      · simp only [List.mem_cons, List.mem_nil_iff, or_false] at hn
        rcases hn with rfl | rfl
        · exact su
        · exact sv
      · refine cs_yes fm0 trivial hD e hA hlen (by omega) e'' ?_
        rw [hp, List.replicate_succ', List.map_append]
        rfl
    · refine ⟨D, List.replicate 2 true, rfl, SqL.of (by rw [hA, hp]; rfl), ?_⟩
      exact q _ (e1.trans e)
theorem ok_check_change (T : Txt K mg C_Form C_Double) : Def P w K mg base 5 "check_change" ["value"] (sp_check_change K C_Form C_Double) := by
  obtain ⟨f_, fd_, g_, F_⟩ := T.d_check_change
  obtain ⟨f_is_short_change, fd_is_short_change, g_is_short_change, k_is_short_change, b_is_short_change, G_is_short_change⟩ := (ok_is_short_change (P := P) (w := w) (base := base) T)
  refine ⟨f_, fd_, g_, F_.kp, F_.binds (ps := ["value"]) (fun _ _ _ _ _ _ us hl => match us, hl with | [_], _ => rfl), ?_⟩
  refine F_.ok sc_check_change (fun vs H Q E h => ?_) (fun cdv A outer s H vs Q E hr h => ?_)
  · first | (obtain ⟨rfl, _⟩ := h; rfl) | (obtain ⟨_, rfl, _⟩ := h; rfl) | (obtain ⟨_, _, rfl, _⟩ := h; rfl) | (obtain ⟨_, _, _, rfl, _⟩ := h; rfl) | (obtain ⟨_, _, _, _, rfl, _⟩ := h; rfl) | (obtain ⟨_, _, _, _, _, rfl, _⟩ := h; rfl) | (obtain ⟨_, _, _, _, _, _, rfl, _⟩ := h; rfl) | (obtain ⟨_, _, _, _, _, _, _, rfl, _⟩ := h; rfl) | (obtain ⟨_, _, _, _, _, _, _, _, rfl, _⟩ := h; rfl) | (obtain ⟨_, _, _, _, _, _, _, _, _, rfl, _⟩ := h; rfl) | (obtain ⟨_, _, _, _, _, _, _, _, _, _, rfl, _⟩ := h; rfl) | (obtain ⟨_, _, _, _, _, _, _, _, _, _, _, rfl, _⟩ := h; rfl) | (obtain ⟨_, _, _, _, _, _, _, _, _, _, _, _, rfl, _⟩ := h; rfl) | (obtain ⟨_, _, _, _, _, _, _, _, _, _, _, _, _, rfl, _⟩ := h; rfl) | (obtain ⟨_, _, _, _, _, _, _, _, _, _, _, _, _, _, rfl, _⟩ := h; rfl) | (obtain ⟨_, _, _, _, _, _, _, _, _, _, _, _, _, _, _, rfl, _⟩ := h; rfl) | (obtain ⟨_, _, _, _, _, _, _, _, _, _, _, _, _, _, _, _, rfl, _⟩ := h; rfl) | (obtain ⟨_, _, _, _, _, _, _, _, _, _, _, _, _, _, _, _, _, rfl, _⟩ := h; rfl) | (obtain ⟨_, _, _, _, _, _, _, _, _, _, _, _, _, _, _, _, _, _, rfl, _⟩ := h; rfl) | (obtain ⟨_, _, _, _, _, _, _, _, _, _, _, _, _, _, _, _, _, _, _, rfl, _⟩ := h; rfl) | (obtain ⟨_, _, _, _, _, _, _, _, _, _, _, _, _, _, _, _, _, _, _, _, rfl, _⟩ := h; rfl) | (obtain ⟨_, _, _, _, _, _, _, _, _, _, _, _, _, _, _, _, _, _, _, _, _, rfl, _⟩ := h; rfl) | (obtain ⟨_, _, _, _, _, _, _, _, _, _, _, _, _, _, _, _, _, _, _, _, _, _, rfl, _⟩ := h; rfl) | (obtain ⟨_, _, _, _, _, _, _, _, _, _, _, _, _, _, _, _, _, _, _, _, _, _, _, rfl, _⟩ := h; rfl)
  · obtain ⟨a, p, q', r, s', rfl, h4, hc, q⟩ := h
    refine ⟨_, (pss_one (ps_if (pt_not (pt_val (pe_call G_is_short_change (hr.mono (by decide)) (by rfl) g_is_short_change k_is_short_change b_is_short_change .nil pass0 (pa_cons (pv 0) pa_nil))))
      pss_never
      pss_nil)), ?_⟩
    refine ⟨_, rfl, a, p, q', r, s', rfl, h4, hc, fun H1 e1 => ⟨_, rfl, ?_⟩⟩
    exact iteF (q _ e1)
theorem ok_form_value (T : Txt K mg C_Form C_Double) : Def P w K mg base 1 "form_value" ["coefficients", "x", "y"] (sp_form_value K C_Form C_Double) := by
  obtain ⟨f_, fd_, g_, F_⟩ := T.d_form_value
  refine ⟨f_, fd_, g_, F_.kp, F_.binds (ps := ["coefficients", "x", "y"]) (fun _ _ _ _ _ _ us hl => match us, hl with | [_, _, _], _ => rfl), ?_⟩
  refine F_.ok sc_form_value (fun vs H Q E h => ?_) (fun cdv A outer s H vs Q E hr h => ?_)
  · first | (obtain ⟨rfl, _⟩ := h; rfl) | (obtain ⟨_, rfl, _⟩ := h; rfl) | (obtain ⟨_, _, rfl, _⟩ := h; rfl) | (obtain ⟨_, _, _, rfl, _⟩ := h; rfl) | (obtain ⟨_, _, _, _, rfl, _⟩ := h; rfl) | (obtain ⟨_, _, _, _, _, rfl, _⟩ := h; rfl) | (obtain ⟨_, _, _, _, _, _, rfl, _⟩ := h; rfl) | (obtain ⟨_, _, _, _, _, _, _, rfl, _⟩ := h; rfl) | (obtain ⟨_, _, _, _, _, _, _, _, rfl, _⟩ := h; rfl) | (obtain ⟨_, _, _, _, _, _, _, _, _, rfl, _⟩ := h; rfl) | (obtain ⟨_, _, _, _, _, _, _, _, _, _, rfl, _⟩ := h; rfl) | (obtain ⟨_, _, _, _, _, _, _, _, _, _, _, rfl, _⟩ := h; rfl) | (obtain ⟨_, _, _, _, _, _, _, _, _, _, _, _, rfl, _⟩ := h; rfl) | (obtain ⟨_, _, _, _, _, _, _, _, _, _, _, _, _, rfl, _⟩ := h; rfl) | (obtain ⟨_, _, _, _, _, _, _, _, _, _, _, _, _, _, rfl, _⟩ := h; rfl) | (obtain ⟨_, _, _, _, _, _, _, _, _, _, _, _, _, _, _, rfl, _⟩ := h; rfl) | (obtain ⟨_, _, _, _, _, _, _, _, _, _, _, _, _, _, _, _, rfl, _⟩ := h; rfl) | (obtain ⟨_, _, _, _, _, _, _, _, _, _, _, _, _, _, _, _, _, rfl, _⟩ := h; rfl) | (obtain ⟨_, _, _, _, _, _, _, _, _, _, _, _, _, _, _, _, _, _, rfl, _⟩ := h; rfl) | (obtain ⟨_, _, _, _, _, _, _, _, _, _, _, _, _, _, _, _, _, _, _, rfl, _⟩ := h; rfl) | (obtain ⟨_, _, _, _, _, _, _, _, _, _, _, _, _, _, _, _, _, _, _, _, rfl, _⟩ := h; rfl) | (obtain ⟨_, _, _, _, _, _, _, _, _, _, _, _, _, _, _, _, _, _, _, _, _, rfl, _⟩ := h; rfl) | (obtain ⟨_, _, _, _, _, _, _, _, _, _, _, _, _, _, _, _, _, _, _, _, _, _, rfl, _⟩ := h; rfl) | (obtain ⟨_, _, _, _, _, _, _, _, _, _, _, _, _, _, _, _, _, _, _, _, _, _, _, rfl, _⟩ := h; rfl)
  · obtain ⟨t, a, b, c, d, x, y, rfl, ht, ba, bb, bc, bd, bx, by', q⟩ := h
    refine ⟨_, (pss_cons (ps_asg (pv 0) (pg_tup (by rfl) (pgs_cons (pg_name (i := 3) sc_form_value.nd rfl (.inl rfl)) (pgs_cons (pg_name (i := 4) sc_form_value.nd rfl (.inl rfl)) (pgs_cons (pg_name (i := 5) sc_form_value.nd rfl (.inl rfl)) (pgs_cons (pg_name (i := 6) sc_form_value.nd rfl (.inl rfl)) pgs_nil))))))
    (pss_one (ps_ret (pe_op op_add (pe_op op_add (pe_op op_add (pe_op op_mulW (pe_op op_mulW (pe_op op_mulW (pv 3) (pv 1)) (pv 1)) (pv 1)) (pe_op op_mulW (pe_op op_mulW (pe_op op_mulW (pv 4) (pv 1)) (pv 1)) (pv 2))) (pe_op op_mulW (pe_op op_mulW (pe_op op_mulW (pv 5) (pv 1)) (pv 2)) (pv 2))) (pe_op op_mulW (pe_op op_mulW (pe_op op_mulW (pv 6) (pv 2)) (pv 2)) (pv 2)))))), ?_⟩
    refine ⟨_, rfl, unI4 ht ?_⟩
    exact ⟨_, rfl, _, rfl, _, _, rfl, rfl, mulB (by with_reducible assumption) (by with_reducible assumption) (by decide), _, rfl, _, _, rfl, rfl, mulB (B.mul (by with_reducible assumption) (by with_reducible assumption)) (by with_reducible assumption) (by decide), _, rfl, _, _, rfl, rfl, mulB (B.mul (B.mul (by with_reducible assumption) (by with_reducible assumption)) (by with_reducible assumption)) (by with_reducible assumption) (by decide), _, rfl, _, rfl, _, _, rfl, rfl, mulB (by with_reducible assumption) (by with_reducible assumption) (by decide), _, rfl, _, _, rfl, rfl, mulB (B.mul (by with_reducible assumption) (by with_reducible assumption)) (by with_reducible assumption) (by decide), _, rfl, _, _, rfl, rfl, mulB (B.mul (B.mul (by with_reducible assumption) (by with_reducible assumption)) (by with_reducible assumption)) (by with_reducible assumption) (by decide), _, _, rfl, rfl, _, rfl, _, rfl, _, _, rfl, rfl, mulB (by with_reducible assumption) (by with_reducible assumption) (by decide), _, rfl, _, _, rfl, rfl, mulB (B.mul (by with_reducible assumption) (by with_reducible assumption)) (by with_reducible assumption) (by decide), _, rfl, _, _, rfl, rfl, mulB (B.mul (B.mul (by with_reducible assumption) (by with_reducible assumption)) (by with_reducible assumption)) (by with_reducible assumption) (by decide), _, _, rfl, rfl, _, rfl, _, rfl, _, _, rfl, rfl, mulB (by with_reducible assumption) (by with_reducible assumption) (by decide), _, rfl, _, _, rfl, rfl, mulB (B.mul (by with_reducible assumption) (by with_reducible assumption)) (by with_reducible assumption) (by decide), _, rfl, _, _, rfl, rfl, mulB (B.mul (B.mul (by with_reducible assumption) (by with_reducible assumption)) (by with_reducible assumption)) (by with_reducible assumption) (by decide), _, _, rfl, rfl, q⟩
theorem ok_form_discriminant (T : Txt K mg C_Form C_Double) : Def P w K mg base 1 "form_discriminant" ["coefficients"] (sp_form_discriminant K C_Form C_Double) := by
  obtain ⟨f_, fd_, g_, F_⟩ := T.d_form_discriminant
  refine ⟨f_, fd_, g_, F_.kp, F_.binds (ps := ["coefficients"]) (fun _ _ _ _ _ _ us hl => match us, hl with | [_], _ => rfl), ?_⟩
  refine F_.ok sc_form_discriminant (fun vs H Q E h => ?_) (fun cdv A outer s H vs Q E hr h => ?_)
  · first | (obtain ⟨rfl, _⟩ := h; rfl) | (obtain ⟨_, rfl, _⟩ := h; rfl) | (obtain ⟨_, _, rfl, _⟩ := h; rfl) | (obtain ⟨_, _, _, rfl, _⟩ := h; rfl) | (obtain ⟨_, _, _, _, rfl, _⟩ := h; rfl) | (obtain ⟨_, _, _, _, _, rfl, _⟩ := h; rfl) | (obtain ⟨_, _, _, _, _, _, rfl, _⟩ := h; rfl) | (obtain ⟨_, _, _, _, _, _, _, rfl, _⟩ := h; rfl) | (obtain ⟨_, _, _, _, _, _, _, _, rfl, _⟩ := h; rfl) | (obtain ⟨_, _, _, _, _, _, _, _, _, rfl, _⟩ := h; rfl) | (obtain ⟨_, _, _, _, _, _, _, _, _, _, rfl, _⟩ := h; rfl) | (obtain ⟨_, _, _, _, _, _, _, _, _, _, _, rfl, _⟩ := h; rfl) | (obtain ⟨_, _, _, _, _, _, _, _, _, _, _, _, rfl, _⟩ := h; rfl) | (obtain ⟨_, _, _, _, _, _, _, _, _, _, _, _, _, rfl, _⟩ := h; rfl) | (obtain ⟨_, _, _, _, _, _, _, _, _, _, _, _, _, _, rfl, _⟩ := h; rfl) | (obtain ⟨_, _, _, _, _, _, _, _, _, _, _, _, _, _, _, rfl, _⟩ := h; rfl) | (obtain ⟨_, _, _, _, _, _, _, _, _, _, _, _, _, _, _, _, rfl, _⟩ := h; rfl) | (obtain ⟨_, _, _, _, _, _, _, _, _, _, _, _, _, _, _, _, _, rfl, _⟩ := h; rfl) | (obtain ⟨_, _, _, _, _, _, _, _, _, _, _, _, _, _, _, _, _, _, rfl, _⟩ := h; rfl) | (obtain ⟨_, _, _, _, _, _, _, _, _, _, _, _, _, _, _, _, _, _, _, rfl, _⟩ := h; rfl) | (obtain ⟨_, _, _, _, _, _, _, _, _, _, _, _, _, _, _, _, _, _, _, _, rfl, _⟩ := h; rfl) | (obtain ⟨_, _, _, _, _, _, _, _, _, _, _, _, _, _, _, _, _, _, _, _, _, rfl, _⟩ := h; rfl) | (obtain ⟨_, _, _, _, _, _, _, _, _, _, _, _, _, _, _, _, _, _, _, _, _, _, rfl, _⟩ := h; rfl) | (obtain ⟨_, _, _, _, _, _, _, _, _, _, _, _, _, _, _, _, _, _, _, _, _, _, _, rfl, _⟩ := h; rfl)
  · obtain ⟨t, a, b, c, d, rfl, ht, ba, bb, bc, bd, q⟩ := h
    refine ⟨_, (pss_cons (ps_asg (pv 0) (pg_tup (by rfl) (pgs_cons (pg_name (i := 1) sc_form_discriminant.nd rfl (.inl rfl)) (pgs_cons (pg_name (i := 2) sc_form_discriminant.nd rfl (.inl rfl)) (pgs_cons (pg_name (i := 3) sc_form_discriminant.nd rfl (.inl rfl)) (pgs_cons (pg_name (i := 4) sc_form_discriminant.nd rfl (.inl rfl)) pgs_nil))))))
    (pss_one (ps_ret (pe_op op_add (pe_op op_sub (pe_op op_sub (pe_op op_sub (pe_op op_mulW (pe_op op_mulW (pe_op op_mulW (pv 2) (pv 2)) (pv 3)) (pv 3)) (pe_op op_mulW (pe_op op_mulW (pe_op op_mulW (pe_op op_mulW pe_int (pv 1)) (pv 3)) (pv 3)) (pv 3))) (pe_op op_mulW (pe_op op_mulW (pe_op op_mulW (pe_op op_mulW pe_int (pv 2)) (pv 2)) (pv 2)) (pv 4))) (pe_op op_mulW (pe_op op_mulW (pe_op op_mulW (pe_op op_mulW pe_int (pv 1)) (pv 1)) (pv 4)) (pv 4))) (pe_op op_mulW (pe_op op_mulW (pe_op op_mulW (pe_op op_mulW pe_int (pv 1)) (pv 2)) (pv 3)) (pv 4)))))), ?_⟩
    refine ⟨_, rfl, unI4 ht ?_⟩
    exact ⟨_, rfl, _, rfl, _, _, rfl, rfl, mulB (by with_reducible assumption) (by with_reducible assumption) (by decide), _, rfl, _, _, rfl, rfl, mulB (B.mul (by with_reducible assumption) (by with_reducible assumption)) (by with_reducible assumption) (by decide), _, rfl, _, _, rfl, rfl, mulB (B.mul (B.mul (by with_reducible assumption) (by with_reducible assumption)) (by with_reducible assumption)) (by with_reducible assumption) (by decide), _, rfl, _, _, rfl, rfl, mulB (B.lit (by decide)) (by with_reducible assumption) (by decide), _, rfl, _, _, rfl, rfl, mulB (B.mul (B.lit (by decide)) (by with_reducible assumption)) (by with_reducible assumption) (by decide), _, rfl, _, _, rfl, rfl, mulB (B.mul (B.mul (B.lit (by decide)) (by with_reducible assumption)) (by with_reducible assumption)) (by with_reducible assumption) (by decide), _, rfl, _, _, rfl, rfl, mulB (B.mul (B.mul (B.mul (B.lit (by decide)) (by with_reducible assumption)) (by with_reducible assumption)) (by with_reducible assumption)) (by with_reducible assumption) (by decide), _, _, rfl, rfl, _, rfl, _, _, rfl, rfl, mulB (B.lit (by decide)) (by with_reducible assumption) (by decide), _, rfl, _, _, rfl, rfl, mulB (B.mul (B.lit (by decide)) (by with_reducible assumption)) (by with_reducible assumption) (by decide), _, rfl, _, _, rfl, rfl, mulB (B.mul (B.mul (B.lit (by decide)) (by with_reducible assumption)) (by with_reducible assumption)) (by with_reducible assumption) (by decide), _, rfl, _, _, rfl, rfl, mulB (B.mul (B.mul (B.mul (B.lit (by decide)) (by with_reducible assumption)) (by with_reducible assumption)) (by with_reducible assumption)) (by with_reducible assumption) (by decide), _, _, rfl, rfl, _, rfl, _, _, rfl, rfl, mulB (B.lit (by decide)) (by with_reducible assumption) (by decide), _, rfl, _, _, rfl, rfl, mulB (B.mul (B.lit (by decide)) (by with_reducible assumption)) (by with_reducible assumption) (by decide), _, rfl, _, _, rfl, rfl, mulB (B.mul (B.mul (B.lit (by decide)) (by with_reducible assumption)) (by with_reducible assumption)) (by with_reducible assumption) (by decide), _, rfl, _, _, rfl, rfl, mulB (B.mul (B.mul (B.mul (B.lit (by decide)) (by with_reducible assumption)) (by with_reducible assumption)) (by with_reducible assumption)) (by with_reducible assumption) (by decide), _, _, rfl, rfl, _, rfl, _, _, rfl, rfl, mulB (B.lit (by decide)) (by with_reducible assumption) (by decide), _, rfl, _, _, rfl, rfl, mulB (B.mul (B.lit (by decide)) (by with_reducible assumption)) (by with_reducible assumption) (by decide), _, rfl, _, _, rfl, rfl, mulB (B.mul (B.mul (B.lit (by decide)) (by with_reducible assumption)) (by with_reducible assumption)) (by with_reducible assumption) (by decide), _, rfl, _, _, rfl, rfl, mulB (B.mul (B.mul (B.mul (B.lit (by decide)) (by with_reducible assumption)) (by with_reducible assumption)) (by with_reducible assumption)) (by with_reducible assumption) (by decide), _, _, rfl, rfl, q⟩
theorem ok_double_discriminant (T : Txt K mg C_Form C_Double) : Def P w K mg base 1 "double_discriminant" ["coefficients"] (sp_double_discriminant K C_Form C_Double) := by
  obtain ⟨f_, fd_, g_, F_⟩ := T.d_double_discriminant
  refine ⟨f_, fd_, g_, F_.kp, F_.binds (ps := ["coefficients"]) (fun _ _ _ _ _ _ us hl => match us, hl with | [_], _ => rfl), ?_⟩
  refine F_.ok sc_double_discriminant (fun vs H Q E h => ?_) (fun cdv A outer s H vs Q E hr h => ?_)
  · first | (obtain ⟨rfl, _⟩ := h; rfl) | (obtain ⟨_, rfl, _⟩ := h; rfl) | (obtain ⟨_, _, rfl, _⟩ := h; rfl) | (obtain ⟨_, _, _, rfl, _⟩ := h; rfl) | (obtain ⟨_, _, _, _, rfl, _⟩ := h; rfl) | (obtain ⟨_, _, _, _, _, rfl, _⟩ := h; rfl) | (obtain ⟨_, _, _, _, _, _, rfl, _⟩ := h; rfl) | (obtain ⟨_, _, _, _, _, _, _, rfl, _⟩ := h; rfl) | (obtain ⟨_, _, _, _, _, _, _, _, rfl, _⟩ := h; rfl) | (obtain ⟨_, _, _, _, _, _, _, _, _, rfl, _⟩ := h; rfl) | (obtain ⟨_, _, _, _, _, _, _, _, _, _, rfl, _⟩ := h; rfl) | (obtain ⟨_, _, _, _, _, _, _, _, _, _, _, rfl, _⟩ := h; rfl) | (obtain ⟨_, _, _, _, _, _, _, _, _, _, _, _, rfl, _⟩ := h; rfl) | (obtain ⟨_, _, _, _, _, _, _, _, _, _, _, _, _, rfl, _⟩ := h; rfl) | (obtain ⟨_, _, _, _, _, _, _, _, _, _, _, _, _, _, rfl, _⟩ := h; rfl) | (obtain ⟨_, _, _, _, _, _, _, _, _, _, _, _, _, _, _, rfl, _⟩ := h; rfl) | (obtain ⟨_, _, _, _, _, _, _, _, _, _, _, _, _, _, _, _, rfl, _⟩ := h; rfl) | (obtain ⟨_, _, _, _, _, _, _, _, _, _, _, _, _, _, _, _, _, rfl, _⟩ := h; rfl) | (obtain ⟨_, _, _, _, _, _, _, _, _, _, _, _, _, _, _, _, _, _, rfl, _⟩ := h; rfl) | (obtain ⟨_, _, _, _, _, _, _, _, _, _, _, _, _, _, _, _, _, _, _, rfl, _⟩ := h; rfl) | (obtain ⟨_, _, _, _, _, _, _, _, _, _, _, _, _, _, _, _, _, _, _, _, rfl, _⟩ := h; rfl) | (obtain ⟨_, _, _, _, _, _, _, _, _, _, _, _, _, _, _, _, _, _, _, _, _, rfl, _⟩ := h; rfl) | (obtain ⟨_, _, _, _, _, _, _, _, _, _, _, _, _, _, _, _, _, _, _, _, _, _, rfl, _⟩ := h; rfl) | (obtain ⟨_, _, _, _, _, _, _, _, _, _, _, _, _, _, _, _, _, _, _, _, _, _, _, rfl, _⟩ := h; rfl)
  · obtain ⟨t, a, b, c, rfl, ht, ba, bb, bc, q⟩ := h
    refine ⟨_, (pss_cons (ps_asg (pv 0) (pg_tup (by rfl) (pgs_cons (pg_name (i := 1) sc_double_discriminant.nd rfl (.inl rfl)) (pgs_cons (pg_name (i := 2) sc_double_discriminant.nd rfl (.inl rfl)) (pgs_cons (pg_name (i := 3) sc_double_discriminant.nd rfl (.inl rfl)) pgs_nil)))))
    (pss_one (ps_ret (pe_op op_sub (pe_op op_mulW (pv 2) (pv 2)) (pe_op op_mulW (pe_op op_mulW pe_int (pv 1)) (pv 3)))))), ?_⟩
    refine ⟨_, rfl, unI3 ht ?_⟩
    exact ⟨_, rfl, _, rfl, _, _, rfl, rfl, mulB (by with_reducible assumption) (by with_reducible assumption) (by decide), _, rfl, _, _, rfl, rfl, mulB (B.lit (by decide)) (by with_reducible assumption) (by decide), _, rfl, _, _, rfl, rfl, mulB (B.mul (B.lit (by decide)) (by with_reducible assumption)) (by with_reducible assumption) (by decide), _, _, rfl, rfl, q⟩
theorem ok_form_hessian (T : Txt K mg C_Form C_Double) : Def P w K mg base 1 "form_hessian" ["coefficients"] (sp_form_hessian K C_Form C_Double) := by
  obtain ⟨f_, fd_, g_, F_⟩ := T.d_form_hessian
  refine ⟨f_, fd_, g_, F_.kp, F_.binds (ps := ["coefficients"]) (fun _ _ _ _ _ _ us hl => match us, hl with | [_], _ => rfl), ?_⟩
  refine F_.ok sc_form_hessian (fun vs H Q E h => ?_) (fun cdv A outer s H vs Q E hr h => ?_)
  · first | (obtain ⟨rfl, _⟩ := h; rfl) | (obtain ⟨_, rfl, _⟩ := h; rfl) | (obtain ⟨_, _, rfl, _⟩ := h; rfl) | (obtain ⟨_, _, _, rfl, _⟩ := h; rfl) | (obtain ⟨_, _, _, _, rfl, _⟩ := h; rfl) | (obtain ⟨_, _, _, _, _, rfl, _⟩ := h; rfl) | (obtain ⟨_, _, _, _, _, _, rfl, _⟩ := h; rfl) | (obtain ⟨_, _, _, _, _, _, _, rfl, _⟩ := h; rfl) | (obtain ⟨_, _, _, _, _, _, _, _, rfl, _⟩ := h; rfl) | (obtain ⟨_, _, _, _, _, _, _, _, _, rfl, _⟩ := h; rfl) | (obtain ⟨_, _, _, _, _, _, _, _, _, _, rfl, _⟩ := h; rfl) | (obtain ⟨_, _, _, _, _, _, _, _, _, _, _, rfl, _⟩ := h; rfl) | (obtain ⟨_, _, _, _, _, _, _, _, _, _, _, _, rfl, _⟩ := h; rfl) | (obtain ⟨_, _, _, _, _, _, _, _, _, _, _, _, _, rfl, _⟩ := h; rfl) | (obtain ⟨_, _, _, _, _, _, _, _, _, _, _, _, _, _, rfl, _⟩ := h; rfl) | (obtain ⟨_, _, _, _, _, _, _, _, _, _, _, _, _, _, _, rfl, _⟩ := h; rfl) | (obtain ⟨_, _, _, _, _, _, _, _, _, _, _, _, _, _, _, _, rfl, _⟩ := h; rfl) | (obtain ⟨_, _, _, _, _, _, _, _, _, _, _, _, _, _, _, _, _, rfl, _⟩ := h; rfl) | (obtain ⟨_, _, _, _, _, _, _, _, _, _, _, _, _, _, _, _, _, _, rfl, _⟩ := h; rfl) | (obtain ⟨_, _, _, _, _, _, _, _, _, _, _, _, _, _, _, _, _, _, _, rfl, _⟩ := h; rfl) | (obtain ⟨_, _, _, _, _, _, _, _, _, _, _, _, _, _, _, _, _, _, _, _, rfl, _⟩ := h; rfl) | (obtain ⟨_, _, _, _, _, _, _, _, _, _, _, _, _, _, _, _, _, _, _, _, _, rfl, _⟩ := h; rfl) | (obtain ⟨_, _, _, _, _, _, _, _, _, _, _, _, _, _, _, _, _, _, _, _, _, _, rfl, _⟩ := h; rfl) | (obtain ⟨_, _, _, _, _, _, _, _, _, _, _, _, _, _, _, _, _, _, _, _, _, _, _, rfl, _⟩ := h; rfl)
  · obtain ⟨t, a, b, c, d, rfl, ht, ba, bb, bc, bd, q⟩ := h
    refine ⟨_, (pss_cons (ps_asg (pv 0) (pg_tup (by rfl) (pgs_cons (pg_name (i := 1) sc_form_hessian.nd rfl (.inl rfl)) (pgs_cons (pg_name (i := 2) sc_form_hessian.nd rfl (.inl rfl)) (pgs_cons (pg_name (i := 3) sc_form_hessian.nd rfl (.inl rfl)) (pgs_cons (pg_name (i := 4) sc_form_hessian.nd rfl (.inl rfl)) pgs_nil))))))
    (pss_one (ps_ret (pe_tup (pa_cons (pe_op op_sub (pe_op op_mulW (pv 2) (pv 2)) (pe_op op_mulW (pe_op op_mulW pe_int (pv 1)) (pv 3))) (pa_cons (pe_op op_sub (pe_op op_mulW (pv 2) (pv 3)) (pe_op op_mulW (pe_op op_mulW pe_int (pv 1)) (pv 4))) (pa_cons (pe_op op_sub (pe_op op_mulW (pv 3) (pv 3)) (pe_op op_mulW (pe_op op_mulW pe_int (pv 2)) (pv 4))) pa_nil))))))), ?_⟩
    refine ⟨_, rfl, unI4 ht ?_⟩
    exact ⟨_, rfl, _, rfl, _, _, rfl, rfl, mulB (by with_reducible assumption) (by with_reducible assumption) (by decide), _, rfl, _, _, rfl, rfl, mulB (B.lit (by decide)) (by with_reducible assumption) (by decide), _, rfl, _, _, rfl, rfl, mulB (B.mul (B.lit (by decide)) (by with_reducible assumption)) (by with_reducible assumption) (by decide), _, _, rfl, rfl, _, rfl, _, rfl, _, _, rfl, rfl, mulB (by with_reducible assumption) (by with_reducible assumption) (by decide), _, rfl, _, _, rfl, rfl, mulB (B.lit (by decide)) (by with_reducible assumption) (by decide), _, rfl, _, _, rfl, rfl, mulB (B.mul (B.lit (by decide)) (by with_reducible assumption)) (by with_reducible assumption) (by decide), _, _, rfl, rfl, _, rfl, _, rfl, _, _, rfl, rfl, mulB (by with_reducible assumption) (by with_reducible assumption) (by decide), _, rfl, _, _, rfl, rfl, mulB (B.lit (by decide)) (by with_reducible assumption) (by decide), _, rfl, _, _, rfl, rfl, mulB (B.mul (B.lit (by decide)) (by with_reducible assumption)) (by with_reducible assumption) (by decide), _, _, rfl, rfl, sl3, fun x nx => q x _ (Ex0.new nx) upd_same⟩
theorem ok_form_covariant (T : Txt K mg C_Form C_Double) : Def P w K mg base 1 "form_covariant" ["coefficients"] (sp_form_covariant K C_Form C_Double) := by
  obtain ⟨f_, fd_, g_, F_⟩ := T.d_form_covariant
  refine ⟨f_, fd_, g_, F_.kp, F_.binds (ps := ["coefficients"]) (fun _ _ _ _ _ _ us hl => match us, hl with | [_], _ => rfl), ?_⟩
  refine F_.ok sc_form_covariant (fun vs H Q E h => ?_) (fun cdv A outer s H vs Q E hr h => ?_)
  · first | (obtain ⟨rfl, _⟩ := h; rfl) | (obtain ⟨_, rfl, _⟩ := h; rfl) | (obtain ⟨_, _, rfl, _⟩ := h; rfl) | (obtain ⟨_, _, _, rfl, _⟩ := h; rfl) | (obtain ⟨_, _, _, _, rfl, _⟩ := h; rfl) | (obtain ⟨_, _, _, _, _, rfl, _⟩ := h; rfl) | (obtain ⟨_, _, _, _, _, _, rfl, _⟩ := h; rfl) | (obtain ⟨_, _, _, _, _, _, _, rfl, _⟩ := h; rfl) | (obtain ⟨_, _, _, _, _, _, _, _, rfl, _⟩ := h; rfl) | (obtain ⟨_, _, _, _, _, _, _, _, _, rfl, _⟩ := h; rfl) | (obtain ⟨_, _, _, _, _, _, _, _, _, _, rfl, _⟩ := h; rfl) | (obtain ⟨_, _, _, _, _, _, _, _, _, _, _, rfl, _⟩ := h; rfl) | (obtain ⟨_, _, _, _, _, _, _, _, _, _, _, _, rfl, _⟩ := h; rfl) | (obtain ⟨_, _, _, _, _, _, _, _, _, _, _, _, _, rfl, _⟩ := h; rfl) | (obtain ⟨_, _, _, _, _, _, _, _, _, _, _, _, _, _, rfl, _⟩ := h; rfl) | (obtain ⟨_, _, _, _, _, _, _, _, _, _, _, _, _, _, _, rfl, _⟩ := h; rfl) | (obtain ⟨_, _, _, _, _, _, _, _, _, _, _, _, _, _, _, _, rfl, _⟩ := h; rfl) | (obtain ⟨_, _, _, _, _, _, _, _, _, _, _, _, _, _, _, _, _, rfl, _⟩ := h; rfl) | (obtain ⟨_, _, _, _, _, _, _, _, _, _, _, _, _, _, _, _, _, _, rfl, _⟩ := h; rfl) | (obtain ⟨_, _, _, _, _, _, _, _, _, _, _, _, _, _, _, _, _, _, _, rfl, _⟩ := h; rfl) | (obtain ⟨_, _, _, _, _, _, _, _, _, _, _, _, _, _, _, _, _, _, _, _, rfl, _⟩ := h; rfl) | (obtain ⟨_, _, _, _, _, _, _, _, _, _, _, _, _, _, _, _, _, _, _, _, _, rfl, _⟩ := h; rfl) | (obtain ⟨_, _, _, _, _, _, _, _, _, _, _, _, _, _, _, _, _, _, _, _, _, _, rfl, _⟩ := h; rfl) | (obtain ⟨_, _, _, _, _, _, _, _, _, _, _, _, _, _, _, _, _, _, _, _, _, _, _, rfl, _⟩ := h; rfl)
  · obtain ⟨t, a, b, c, d, rfl, ht, ba, bb, bc, bd, q⟩ := h
    refine ⟨_, (pss_cons (ps_asg (pv 0) (pg_tup (by rfl) (pgs_cons (pg_name (i := 1) sc_form_covariant.nd rfl (.inl rfl)) (pgs_cons (pg_name (i := 2) sc_form_covariant.nd rfl (.inl rfl)) (pgs_cons (pg_name (i := 3) sc_form_covariant.nd rfl (.inl rfl)) (pgs_cons (pg_name (i := 4) sc_form_covariant.nd rfl (.inl rfl)) pgs_nil))))))
    (pss_one (ps_ret (pe_tup (pa_cons (pe_op op_add (pe_op op_sub (pe_op op_mulW (pe_op op_mulW (pe_op op_mulW pe_int (pv 2)) (pv 2)) (pv 2)) (pe_op op_mulW (pe_op op_mulW (pe_op op_mulW pe_int (pv 1)) (pv 2)) (pv 3))) (pe_op op_mulW (pe_op op_mulW (pe_op op_mulW pe_int (pv 1)) (pv 1)) (pv 4))) (pa_cons (pe_op op_add (pe_op op_sub (pe_op op_mulW (pe_op op_mulW (pe_op op_mulW pe_int (pv 2)) (pv 2)) (pv 3)) (pe_op op_mulW (pe_op op_mulW (pe_op op_mulW pe_int (pv 1)) (pv 3)) (pv 3))) (pe_op op_mulW (pe_op op_mulW (pe_op op_mulW pe_int (pv 1)) (pv 2)) (pv 4))) (pa_cons (pe_op op_sub (pe_op op_add (pe_op op_mulW (pe_op op_mulW (pe_op op_mulW (pe_un un_neg pe_int) (pv 2)) (pv 3)) (pv 3)) (pe_op op_mulW (pe_op op_mulW (pe_op op_mulW pe_int (pv 2)) (pv 2)) (pv 4))) (pe_op op_mulW (pe_op op_mulW (pe_op op_mulW pe_int (pv 1)) (pv 3)) (pv 4))) (pa_cons (pe_op op_sub (pe_op op_add (pe_op op_mulW (pe_op op_mulW (pe_op op_mulW (pe_un un_neg pe_int) (pv 3)) (pv 3)) (pv 3)) (pe_op op_mulW (pe_op op_mulW (pe_op op_mulW pe_int (pv 2)) (pv 3)) (pv 4))) (pe_op op_mulW (pe_op op_mulW (pe_op op_mulW pe_int (pv 1)) (pv 4)) (pv 4))) pa_nil)))))))), ?_⟩
    refine ⟨_, rfl, unI4 ht ?_⟩
    refine ⟨_, rfl, _, _, rfl, rfl, mulB (B.lit (by decide)) (by with_reducible assumption) (by decide), _, rfl, _, _, rfl, rfl, mulB (B.mul (B.lit (by decide)) (by with_reducible assumption)) (by with_reducible assumption) (by decide), _, rfl, _, _, rfl, rfl, mulB (B.mul (B.mul (B.lit (by decide)) (by with_reducible assumption)) (by with_reducible assumption)) (by with_reducible assumption) (by decide), _, rfl, _, _, rfl, rfl, mulB (B.lit (by decide)) (by with_reducible assumption) (by decide), _, rfl, _, _, rfl, rfl, mulB (B.mul (B.lit (by decide)) (by with_reducible assumption)) (by with_reducible assumption) (by decide), _, rfl, _, _, rfl, rfl, mulB (B.mul (B.mul (B.lit (by decide)) (by with_reducible assumption)) (by with_reducible assumption)) (by with_reducible assumption) (by decide), _, _, rfl, rfl, _, rfl, _, _, rfl, rfl, mulB (B.lit (by decide)) (by with_reducible assumption) (by decide), _, rfl, _, _, rfl, rfl, mulB (B.mul (B.lit (by decide)) (by with_reducible assumption)) (by with_reducible assumption) (by decide), _, rfl, _, _, rfl, rfl, mulB (B.mul (B.mul (B.lit (by decide)) (by with_reducible assumption)) (by with_reducible assumption)) (by with_reducible assumption) (by decide), _, _, rfl, rfl, _, rfl, _, _, rfl, rfl, mulB (B.lit (by decide)) (by with_reducible assumption) (by decide), _, rfl, _, _, rfl, rfl, mulB (B.mul (B.lit (by decide)) (by with_reducible assumption)) (by with_reducible assumption) (by decide), _, rfl, _, _, rfl, rfl, mulB (B.mul (B.mul (B.lit (by decide)) (by with_reducible assumption)) (by with_reducible assumption)) (by with_reducible assumption) (by decide), _, rfl, _, _, rfl, rfl, mulB (B.lit (by decide)) (by with_reducible assumption) (by decide), _, rfl, _, _, rfl, rfl, mulB (B.mul (B.lit (by decide)) (by with_reducible assumption)) (by with_reducible assumption) (by decide), _, rfl, _, _, rfl, rfl, mulB (B.mul (B.mul (B.lit (by decide)) (by with_reducible assumption)) (by with_reducible assumption)) (by with_reducible assumption) (by decide), _, _, rfl, rfl, _, rfl, _, _, rfl, rfl, mulB (B.lit (by decide)) (by with_reducible assumption) (by decide), _, rfl, _, _, rfl, rfl, mulB (B.mul (B.lit (by decide)) (by with_reducible assumption)) (by with_reducible assumption) (by decide), _, rfl, _, _, rfl, rfl, mulB (B.mul (B.mul (B.lit (by decide)) (by with_reducible assumption)) (by with_reducible assumption)) (by with_reducible assumption) (by decide), _, _, rfl, rfl, ?_⟩
    exact ⟨_, rfl, _, rfl, _, _, rfl, rfl, mulB (B.neg (B.lit (by decide))) (by with_reducible assumption) (by decide), _, rfl, _, _, rfl, rfl, mulB (B.mul (B.neg (B.lit (by decide))) (by with_reducible assumption)) (by with_reducible assumption) (by decide), _, rfl, _, _, rfl, rfl, mulB (B.mul (B.mul (B.neg (B.lit (by decide))) (by with_reducible assumption)) (by with_reducible assumption)) (by with_reducible assumption) (by decide), _, rfl, _, _, rfl, rfl, mulB (B.lit (by decide)) (by with_reducible assumption) (by decide), _, rfl, _, _, rfl, rfl, mulB (B.mul (B.lit (by decide)) (by with_reducible assumption)) (by with_reducible assumption) (by decide), _, rfl, _, _, rfl, rfl, mulB (B.mul (B.mul (B.lit (by decide)) (by with_reducible assumption)) (by with_reducible assumption)) (by with_reducible assumption) (by decide), _, _, rfl, rfl, _, rfl, _, _, rfl, rfl, mulB (B.lit (by decide)) (by with_reducible assumption) (by decide), _, rfl, _, _, rfl, rfl, mulB (B.mul (B.lit (by decide)) (by with_reducible assumption)) (by with_reducible assumption) (by decide), _, rfl, _, _, rfl, rfl, mulB (B.mul (B.mul (B.lit (by decide)) (by with_reducible assumption)) (by with_reducible assumption)) (by with_reducible assumption) (by decide), _, _, rfl, rfl, _, rfl, _, rfl, _, _, rfl, rfl, mulB (B.neg (B.lit (by decide))) (by with_reducible assumption) (by decide), _, rfl, _, _, rfl, rfl, mulB (B.mul (B.neg (B.lit (by decide))) (by with_reducible assumption)) (by with_reducible assumption) (by decide), _, rfl, _, _, rfl, rfl, mulB (B.mul (B.mul (B.neg (B.lit (by decide))) (by with_reducible assumption)) (by with_reducible assumption)) (by with_reducible assumption) (by decide), _, rfl, _, _, rfl, rfl, mulB (B.lit (by decide)) (by with_reducible assumption) (by decide), _, rfl, _, _, rfl, rfl, mulB (B.mul (B.lit (by decide)) (by with_reducible assumption)) (by with_reducible assumption) (by decide), _, rfl, _, _, rfl, rfl, mulB (B.mul (B.mul (B.lit (by decide)) (by with_reducible assumption)) (by with_reducible assumption)) (by with_reducible assumption) (by decide), _, _, rfl, rfl, _, rfl, _, _, rfl, rfl, mulB (B.lit (by decide)) (by with_reducible assumption) (by decide), _, rfl, _, _, rfl, rfl, mulB (B.mul (B.lit (by decide)) (by with_reducible assumption)) (by with_reducible assumption) (by decide), _, rfl, _, _, rfl, rfl, mulB (B.mul (B.mul (B.lit (by decide)) (by with_reducible assumption)) (by with_reducible assumption)) (by with_reducible assumption) (by decide), _, _, rfl, rfl, sl4, fun x nx => q x _ (Ex0.new nx) upd_same⟩
theorem ok_both (T : Txt K mg C_Form C_Double) : Def P w K mg base 1 "both" ["first", "second"] (sp_both K C_Form C_Double) := by
  obtain ⟨f_, fd_, g_, F_⟩ := T.d_both
  refine ⟨f_, fd_, g_, F_.kp, F_.binds (ps := ["first", "second"]) (fun _ _ _ _ _ _ us hl => match us, hl with | [_, _], _ => rfl), ?_⟩
  refine F_.ok sc_both (fun vs H Q E h => ?_) (fun cdv A outer s H vs Q E hr h => ?_)
  · first | (obtain ⟨rfl, _⟩ := h; rfl) | (obtain ⟨_, rfl, _⟩ := h; rfl) | (obtain ⟨_, _, rfl, _⟩ := h; rfl) | (obtain ⟨_, _, _, rfl, _⟩ := h; rfl) | (obtain ⟨_, _, _, _, rfl, _⟩ := h; rfl) | (obtain ⟨_, _, _, _, _, rfl, _⟩ := h; rfl) | (obtain ⟨_, _, _, _, _, _, rfl, _⟩ := h; rfl) | (obtain ⟨_, _, _, _, _, _, _, rfl, _⟩ := h; rfl) | (obtain ⟨_, _, _, _, _, _, _, _, rfl, _⟩ := h; rfl) | (obtain ⟨_, _, _, _, _, _, _, _, _, rfl, _⟩ := h; rfl) | (obtain ⟨_, _, _, _, _, _, _, _, _, _, rfl, _⟩ := h; rfl) | (obtain ⟨_, _, _, _, _, _, _, _, _, _, _, rfl, _⟩ := h; rfl) | (obtain ⟨_, _, _, _, _, _, _, _, _, _, _, _, rfl, _⟩ := h; rfl) | (obtain ⟨_, _, _, _, _, _, _, _, _, _, _, _, _, rfl, _⟩ := h; rfl) | (obtain ⟨_, _, _, _, _, _, _, _, _, _, _, _, _, _, rfl, _⟩ := h; rfl) | (obtain ⟨_, _, _, _, _, _, _, _, _, _, _, _, _, _, _, rfl, _⟩ := h; rfl) | (obtain ⟨_, _, _, _, _, _, _, _, _, _, _, _, _, _, _, _, rfl, _⟩ := h; rfl) | (obtain ⟨_, _, _, _, _, _, _, _, _, _, _, _, _, _, _, _, _, rfl, _⟩ := h; rfl) | (obtain ⟨_, _, _, _, _, _, _, _, _, _, _, _, _, _, _, _, _, _, rfl, _⟩ := h; rfl) | (obtain ⟨_, _, _, _, _, _, _, _, _, _, _, _, _, _, _, _, _, _, _, rfl, _⟩ := h; rfl) | (obtain ⟨_, _, _, _, _, _, _, _, _, _, _, _, _, _, _, _, _, _, _, _, rfl, _⟩ := h; rfl) | (obtain ⟨_, _, _, _, _, _, _, _, _, _, _, _, _, _, _, _, _, _, _, _, _, rfl, _⟩ := h; rfl) | (obtain ⟨_, _, _, _, _, _, _, _, _, _, _, _, _, _, _, _, _, _, _, _, _, _, rfl, _⟩ := h; rfl) | (obtain ⟨_, _, _, _, _, _, _, _, _, _, _, _, _, _, _, _, _, _, _, _, _, _, _, rfl, _⟩ := h; rfl)
  · obtain ⟨a, b, p, q', r, s', i, j, k, m, rfl, h4, h4', ⟨bp, bq, br, bs⟩, ⟨bi, bj, bk, bm⟩, q⟩ := h
    refine ⟨_, (pss_cons (ps_asg (pv 0) (pg_tup (by rfl) (pgs_cons (pg_tup (by rfl) (pgs_cons (pg_name (i := 2) sc_both.nd rfl (.inl rfl)) (pgs_cons (pg_name (i := 3) sc_both.nd rfl (.inl rfl)) pgs_nil))) (pgs_cons (pg_tup (by rfl) (pgs_cons (pg_name (i := 4) sc_both.nd rfl (.inl rfl)) (pgs_cons (pg_name (i := 5) sc_both.nd rfl (.inl rfl)) pgs_nil))) pgs_nil))))
    (pss_cons (ps_asg (pv 1) (pg_tup (by rfl) (pgs_cons (pg_tup (by rfl) (pgs_cons (pg_name (i := 6) sc_both.nd rfl (.inl rfl)) (pgs_cons (pg_name (i := 7) sc_both.nd rfl (.inl rfl)) pgs_nil))) (pgs_cons (pg_tup (by rfl) (pgs_cons (pg_name (i := 8) sc_both.nd rfl (.inl rfl)) (pgs_cons (pg_name (i := 9) sc_both.nd rfl (.inl rfl)) pgs_nil))) pgs_nil))))
    (pss_one (ps_ret (pe_tup (pa_cons (pe_tup (pa_cons (pe_op op_add (pe_op op_mulW (pv 6) (pv 2)) (pe_op op_mulW (pv 7) (pv 4))) (pa_cons (pe_op op_add (pe_op op_mulW (pv 6) (pv 3)) (pe_op op_mulW (pv 7) (pv 5))) pa_nil))) (pa_cons (pe_tup (pa_cons (pe_op op_add (pe_op op_mulW (pv 8) (pv 2)) (pe_op op_mulW (pv 9) (pv 4))) (pa_cons (pe_op op_add (pe_op op_mulW (pv 8) (pv 3)) (pe_op op_mulW (pv 9) (pv 5))) pa_nil))) pa_nil))))))), ?_⟩
    refine ⟨_, rfl, unq h4 ?_⟩
    refine ⟨_, rfl, unq h4' ?_⟩
    refine ⟨_, rfl, _, rfl, _, _, rfl, rfl, mulB (by with_reducible assumption) (by with_reducible assumption) (by decide), _, rfl, _, rfl, _, _, rfl, rfl, mulB (by with_reducible assumption) (by with_reducible assumption) (by decide), _, _, rfl, rfl, _, rfl, _, rfl, _, _, rfl, rfl, mulB (by with_reducible assumption) (by with_reducible assumption) (by decide), _, rfl, _, rfl, _, _, rfl, rfl, mulB (by with_reducible assumption) (by with_reducible assumption) (by decide), _, _, rfl, rfl, sl2, fun t1 n1 => ⟨_, rfl, _, rfl, _, _, rfl, rfl, mulB (by with_reducible assumption) (by with_reducible assumption) (by decide), _, rfl, _, rfl, _, _, rfl, rfl, mulB (by with_reducible assumption) (by with_reducible assumption) (by decide), _, _, rfl, rfl, _, rfl, _, rfl, _, _, rfl, rfl, mulB (by with_reducible assumption) (by with_reducible assumption) (by decide), _, rfl, _, rfl, _, _, rfl, rfl, mulB (by with_reducible assumption) (by with_reducible assumption) (by decide), _, _, rfl, rfl, sl2, fun t2 n2 => ⟨sl2, fun x nx => ?_⟩⟩⟩
    have z := t4_new n1 n2 nx
    exact q x _ z.1 z.2
theorem ok_taken_back (T : Txt K mg C_Form C_Double) : Def P w K mg base 2 "taken_back" ["change"] (sp_taken_back K C_Form C_Double) := by
  obtain ⟨f_, fd_, g_, F_⟩ := T.d_taken_back
  obtain ⟨f_determinant_of, fd_determinant_of, g_determinant_of, k_determinant_of, b_determinant_of, G_determinant_of⟩ := (ok_determinant_of (P := P) (w := w) (base := base) T)
  refine ⟨f_, fd_, g_, F_.kp, F_.binds (ps := ["change"]) (fun _ _ _ _ _ _ us hl => match us, hl with | [_], _ => rfl), ?_⟩
  refine F_.ok sc_taken_back (fun vs H Q E h => ?_) (fun cdv A outer s H vs Q E hr h => ?_)
  · first | (obtain ⟨rfl, _⟩ := h; rfl) | (obtain ⟨_, rfl, _⟩ := h; rfl) | (obtain ⟨_, _, rfl, _⟩ := h; rfl) | (obtain ⟨_, _, _, rfl, _⟩ := h; rfl) | (obtain ⟨_, _, _, _, rfl, _⟩ := h; rfl) | (obtain ⟨_, _, _, _, _, rfl, _⟩ := h; rfl) | (obtain ⟨_, _, _, _, _, _, rfl, _⟩ := h; rfl) | (obtain ⟨_, _, _, _, _, _, _, rfl, _⟩ := h; rfl) | (obtain ⟨_, _, _, _, _, _, _, _, rfl, _⟩ := h; rfl) | (obtain ⟨_, _, _, _, _, _, _, _, _, rfl, _⟩ := h; rfl) | (obtain ⟨_, _, _, _, _, _, _, _, _, _, rfl, _⟩ := h; rfl) | (obtain ⟨_, _, _, _, _, _, _, _, _, _, _, rfl, _⟩ := h; rfl) | (obtain ⟨_, _, _, _, _, _, _, _, _, _, _, _, rfl, _⟩ := h; rfl) | (obtain ⟨_, _, _, _, _, _, _, _, _, _, _, _, _, rfl, _⟩ := h; rfl) | (obtain ⟨_, _, _, _, _, _, _, _, _, _, _, _, _, _, rfl, _⟩ := h; rfl) | (obtain ⟨_, _, _, _, _, _, _, _, _, _, _, _, _, _, _, rfl, _⟩ := h; rfl) | (obtain ⟨_, _, _, _, _, _, _, _, _, _, _, _, _, _, _, _, rfl, _⟩ := h; rfl) | (obtain ⟨_, _, _, _, _, _, _, _, _, _, _, _, _, _, _, _, _, rfl, _⟩ := h; rfl) | (obtain ⟨_, _, _, _, _, _, _, _, _, _, _, _, _, _, _, _, _, _, rfl, _⟩ := h; rfl) | (obtain ⟨_, _, _, _, _, _, _, _, _, _, _, _, _, _, _, _, _, _, _, rfl, _⟩ := h; rfl) | (obtain ⟨_, _, _, _, _, _, _, _, _, _, _, _, _, _, _, _, _, _, _, _, rfl, _⟩ := h; rfl) | (obtain ⟨_, _, _, _, _, _, _, _, _, _, _, _, _, _, _, _, _, _, _, _, _, rfl, _⟩ := h; rfl) | (obtain ⟨_, _, _, _, _, _, _, _, _, _, _, _, _, _, _, _, _, _, _, _, _, _, rfl, _⟩ := h; rfl) | (obtain ⟨_, _, _, _, _, _, _, _, _, _, _, _, _, _, _, _, _, _, _, _, _, _, _, rfl, _⟩ := h; rfl)
  · obtain ⟨a, p, q', r, s', rfl, h4, ⟨bp, bq, br, bs⟩, q⟩ := h
    refine ⟨_, (pss_cons (ps_set (i := 1) sc_taken_back.nd rfl (.inl rfl) (pe_call G_determinant_of (hr.mono (by decide)) (by rfl) g_determinant_of k_determinant_of b_determinant_of .nil pass0 (pa_cons (pv 0) pa_nil)))
    (pss_cons (ps_asg (pv 0) (pg_tup (by rfl) (pgs_cons (pg_tup (by rfl) (pgs_cons (pg_name (i := 2) sc_taken_back.nd rfl (.inl rfl)) (pgs_cons (pg_name (i := 3) sc_taken_back.nd rfl (.inl rfl)) pgs_nil))) (pgs_cons (pg_tup (by rfl) (pgs_cons (pg_name (i := 4) sc_taken_back.nd rfl (.inl rfl)) (pgs_cons (pg_name (i := 5) sc_taken_back.nd rfl (.inl rfl)) pgs_nil))) pgs_nil))))
    (pss_one (ps_ret (pe_tup (pa_cons (pe_tup (pa_cons (pe_op op_mulW (pv 1) (pv 5)) (pa_cons (pe_op op_mulW (pe_un un_neg (pv 1)) (pv 3)) pa_nil))) (pa_cons (pe_tup (pa_cons (pe_op op_mulW (pe_un un_neg (pv 1)) (pv 4)) (pa_cons (pe_op op_mulW (pv 1) (pv 2)) pa_nil))) pa_nil))))))), ?_⟩
    refine ⟨_, rfl, a, p, q', r, s', rfl, h4, bp, bq, br, bs, ?_⟩
    have be : B 800 (p * s' - q' * r) := B.sub (B.mul bp bs) (B.mul bq br)
    refine ⟨_, rfl, unq h4 ?_⟩
    refine ⟨_, rfl, _, rfl, _, _, rfl, rfl, mulB (by with_reducible assumption) (by with_reducible assumption) (by decide), _, rfl, _, rfl, _, rfl, _, _, rfl, rfl, mulB (B.neg (by with_reducible assumption)) (by with_reducible assumption) (by decide), sl2, fun t1 n1 => ⟨_, rfl, _, rfl, _, rfl, _, _, rfl, rfl, mulB (B.neg (by with_reducible assumption)) (by with_reducible assumption) (by decide), _, rfl, _, rfl, _, _, rfl, rfl, mulB (by with_reducible assumption) (by with_reducible assumption) (by decide), sl2, fun t2 n2 => ⟨sl2, fun x nx => ?_⟩⟩⟩
    have z := t4_new n1 n2 nx
    exact q x _ z.1 z.2
theorem ok_joined (T : Txt K mg C_Form C_Double) : Def P w K mg base 6 "joined" ["first", "second"] (sp_joined K C_Form C_Double) := by
  obtain ⟨f_, fd_, g_, F_⟩ := T.d_joined
  obtain ⟨f_both, fd_both, g_both, k_both, b_both, G_both⟩ := (ok_both (P := P) (w := w) (base := base) T)
  obtain ⟨f_check_change, fd_check_change, g_check_change, k_check_change, b_check_change, G_check_change⟩ := (ok_check_change (P := P) (w := w) (base := base) T)
  refine ⟨f_, fd_, g_, F_.kp, F_.binds (ps := ["first", "second"]) (fun _ _ _ _ _ _ us hl => match us, hl with | [_, _], _ => rfl), ?_⟩
  refine F_.ok sc_joined (fun vs H Q E h => ?_) (fun cdv A outer s H vs Q E hr h => ?_)
  · first | (obtain ⟨rfl, _⟩ := h; rfl) | (obtain ⟨_, rfl, _⟩ := h; rfl) | (obtain ⟨_, _, rfl, _⟩ := h; rfl) | (obtain ⟨_, _, _, rfl, _⟩ := h; rfl) | (obtain ⟨_, _, _, _, rfl, _⟩ := h; rfl) | (obtain ⟨_, _, _, _, _, rfl, _⟩ := h; rfl) | (obtain ⟨_, _, _, _, _, _, rfl, _⟩ := h; rfl) | (obtain ⟨_, _, _, _, _, _, _, rfl, _⟩ := h; rfl) | (obtain ⟨_, _, _, _, _, _, _, _, rfl, _⟩ := h; rfl) | (obtain ⟨_, _, _, _, _, _, _, _, _, rfl, _⟩ := h; rfl) | (obtain ⟨_, _, _, _, _, _, _, _, _, _, rfl, _⟩ := h; rfl) | (obtain ⟨_, _, _, _, _, _, _, _, _, _, _, rfl, _⟩ := h; rfl) | (obtain ⟨_, _, _, _, _, _, _, _, _, _, _, _, rfl, _⟩ := h; rfl) | (obtain ⟨_, _, _, _, _, _, _, _, _, _, _, _, _, rfl, _⟩ := h; rfl) | (obtain ⟨_, _, _, _, _, _, _, _, _, _, _, _, _, _, rfl, _⟩ := h; rfl) | (obtain ⟨_, _, _, _, _, _, _, _, _, _, _, _, _, _, _, rfl, _⟩ := h; rfl) | (obtain ⟨_, _, _, _, _, _, _, _, _, _, _, _, _, _, _, _, rfl, _⟩ := h; rfl) | (obtain ⟨_, _, _, _, _, _, _, _, _, _, _, _, _, _, _, _, _, rfl, _⟩ := h; rfl) | (obtain ⟨_, _, _, _, _, _, _, _, _, _, _, _, _, _, _, _, _, _, rfl, _⟩ := h; rfl) | (obtain ⟨_, _, _, _, _, _, _, _, _, _, _, _, _, _, _, _, _, _, _, rfl, _⟩ := h; rfl) | (obtain ⟨_, _, _, _, _, _, _, _, _, _, _, _, _, _, _, _, _, _, _, _, rfl, _⟩ := h; rfl) | (obtain ⟨_, _, _, _, _, _, _, _, _, _, _, _, _, _, _, _, _, _, _, _, _, rfl, _⟩ := h; rfl) | (obtain ⟨_, _, _, _, _, _, _, _, _, _, _, _, _, _, _, _, _, _, _, _, _, _, rfl, _⟩ := h; rfl) | (obtain ⟨_, _, _, _, _, _, _, _, _, _, _, _, _, _, _, _, _, _, _, _, _, _, _, rfl, _⟩ := h; rfl)
  · obtain ⟨a, b, p, q', r, s', i, j, k, m, rfl, h4, h4', hc, hc', q⟩ := h
    refine ⟨_, (pss_cons (ps_expr (pe_call G_check_change (hr.mono (by decide)) (by rfl) g_check_change k_check_change b_check_change .nil pass0 (pa_cons (pv 0) pa_nil)))
    (pss_cons (ps_expr (pe_call G_check_change (hr.mono (by decide)) (by rfl) g_check_change k_check_change b_check_change .nil pass0 (pa_cons (pv 1) pa_nil)))
    (pss_one (ps_ret (pe_call G_both (hr.mono (by decide)) (by rfl) g_both k_both b_both .nil pass0 (pa_cons (pv 0) (pa_cons (pv 1) pa_nil))))))), ?_⟩
    refine ⟨_, rfl, a, p, q', r, s', rfl, h4, hc, fun H1 e1 => ?_⟩
    refine ⟨_, rfl, b, i, j, k, m, rfl, Ex0.q e1 h4', hc', fun H2 e2 => ?_⟩
    refine ⟨_, rfl, _, rfl, a, b, p, q', r, s', i, j, k, m, rfl, Ex0.q (e1.trans e2) h4, Ex0.q (e1.trans e2) h4', ⟨hc.1.b, hc.2.1.b, hc.2.2.1.b, hc.2.2.2.1.b⟩, ⟨hc'.1.b, hc'.2.1.b, hc'.2.2.1.b, hc'.2.2.2.1.b⟩, fun x H3 e3 h3 => ?_⟩
    exact q x _ ((e1.trans e2).trans e3) h3
theorem ok_undone (T : Txt K mg C_Form C_Double) : Def P w K mg base 6 "undone" ["change"] (sp_undone K C_Form C_Double) := by
  obtain ⟨f_, fd_, g_, F_⟩ := T.d_undone
  obtain ⟨f_check_change, fd_check_change, g_check_change, k_check_change, b_check_change, G_check_change⟩ := (ok_check_change (P := P) (w := w) (base := base) T)
  obtain ⟨f_taken_back, fd_taken_back, g_taken_back, k_taken_back, b_taken_back, G_taken_back⟩ := (ok_taken_back (P := P) (w := w) (base := base) T)
  refine ⟨f_, fd_, g_, F_.kp, F_.binds (ps := ["change"]) (fun _ _ _ _ _ _ us hl => match us, hl with | [_], _ => rfl), ?_⟩
  refine F_.ok sc_undone (fun vs H Q E h => ?_) (fun cdv A outer s H vs Q E hr h => ?_)
  · first | (obtain ⟨rfl, _⟩ := h; rfl) | (obtain ⟨_, rfl, _⟩ := h; rfl) | (obtain ⟨_, _, rfl, _⟩ := h; rfl) | (obtain ⟨_, _, _, rfl, _⟩ := h; rfl) | (obtain ⟨_, _, _, _, rfl, _⟩ := h; rfl) | (obtain ⟨_, _, _, _, _, rfl, _⟩ := h; rfl) | (obtain ⟨_, _, _, _, _, _, rfl, _⟩ := h; rfl) | (obtain ⟨_, _, _, _, _, _, _, rfl, _⟩ := h; rfl) | (obtain ⟨_, _, _, _, _, _, _, _, rfl, _⟩ := h; rfl) | (obtain ⟨_, _, _, _, _, _, _, _, _, rfl, _⟩ := h; rfl) | (obtain ⟨_, _, _, _, _, _, _, _, _, _, rfl, _⟩ := h; rfl) | (obtain ⟨_, _, _, _, _, _, _, _, _, _, _, rfl, _⟩ := h; rfl) | (obtain ⟨_, _, _, _, _, _, _, _, _, _, _, _, rfl, _⟩ := h; rfl) | (obtain ⟨_, _, _, _, _, _, _, _, _, _, _, _, _, rfl, _⟩ := h; rfl) | (obtain ⟨_, _, _, _, _, _, _, _, _, _, _, _, _, _, rfl, _⟩ := h; rfl) | (obtain ⟨_, _, _, _, _, _, _, _, _, _, _, _, _, _, _, rfl, _⟩ := h; rfl) | (obtain ⟨_, _, _, _, _, _, _, _, _, _, _, _, _, _, _, _, rfl, _⟩ := h; rfl) | (obtain ⟨_, _, _, _, _, _, _, _, _, _, _, _, _, _, _, _, _, rfl, _⟩ := h; rfl) | (obtain ⟨_, _, _, _, _, _, _, _, _, _, _, _, _, _, _, _, _, _, rfl, _⟩ := h; rfl) | (obtain ⟨_, _, _, _, _, _, _, _, _, _, _, _, _, _, _, _, _, _, _, rfl, _⟩ := h; rfl) | (obtain ⟨_, _, _, _, _, _, _, _, _, _, _, _, _, _, _, _, _, _, _, _, rfl, _⟩ := h; rfl) | (obtain ⟨_, _, _, _, _, _, _, _, _, _, _, _, _, _, _, _, _, _, _, _, _, rfl, _⟩ := h; rfl) | (obtain ⟨_, _, _, _, _, _, _, _, _, _, _, _, _, _, _, _, _, _, _, _, _, _, rfl, _⟩ := h; rfl) | (obtain ⟨_, _, _, _, _, _, _, _, _, _, _, _, _, _, _, _, _, _, _, _, _, _, _, rfl, _⟩ := h; rfl)
  · obtain ⟨a, p, q', r, s', rfl, h4, hc, q⟩ := h
    refine ⟨_, (pss_cons (ps_expr (pe_call G_check_change (hr.mono (by decide)) (by rfl) g_check_change k_check_change b_check_change .nil pass0 (pa_cons (pv 0) pa_nil)))
    (pss_one (ps_ret (pe_call G_taken_back (hr.mono (by decide)) (by rfl) g_taken_back k_taken_back b_taken_back .nil pass0 (pa_cons (pv 0) pa_nil))))), ?_⟩
    refine ⟨_, rfl, a, p, q', r, s', rfl, h4, hc, fun H1 e1 => ?_⟩
    refine ⟨_, rfl, a, p, q', r, s', rfl, Ex0.q e1 h4, ⟨hc.1.b, hc.2.1.b, hc.2.2.1.b, hc.2.2.2.1.b⟩, fun x H3 e3 h3 => ?_⟩
    exact q x _ (e1.trans e3) h3
theorem ok_shared_divisor (T : Txt K mg C_Form C_Double) : Def P w K mg base 1 "shared_divisor" ["numbers"] (sp_shared_divisor K C_Form C_Double) := by
  obtain ⟨f_, fd_, g_, F_⟩ := T.d_shared_divisor
  refine ⟨f_, fd_, g_, F_.kp, F_.binds (ps := ["numbers"]) (fun _ _ _ _ _ _ us hl => match us, hl with | [_], _ => rfl), ?_⟩
  refine F_.ok sc_shared_divisor (fun vs H Q E h => ?_) (fun cdv A outer s H vs Q E hr h => ?_)
  · first | (obtain ⟨rfl, _⟩ := h; rfl) | (obtain ⟨_, rfl, _⟩ := h; rfl) | (obtain ⟨_, _, rfl, _⟩ := h; rfl) | (obtain ⟨_, _, _, rfl, _⟩ := h; rfl) | (obtain ⟨_, _, _, _, rfl, _⟩ := h; rfl) | (obtain ⟨_, _, _, _, _, rfl, _⟩ := h; rfl) | (obtain ⟨_, _, _, _, _, _, rfl, _⟩ := h; rfl) | (obtain ⟨_, _, _, _, _, _, _, rfl, _⟩ := h; rfl) | (obtain ⟨_, _, _, _, _, _, _, _, rfl, _⟩ := h; rfl) | (obtain ⟨_, _, _, _, _, _, _, _, _, rfl, _⟩ := h; rfl) | (obtain ⟨_, _, _, _, _, _, _, _, _, _, rfl, _⟩ := h; rfl) | (obtain ⟨_, _, _, _, _, _, _, _, _, _, _, rfl, _⟩ := h; rfl) | (obtain ⟨_, _, _, _, _, _, _, _, _, _, _, _, rfl, _⟩ := h; rfl) | (obtain ⟨_, _, _, _, _, _, _, _, _, _, _, _, _, rfl, _⟩ := h; rfl) | (obtain ⟨_, _, _, _, _, _, _, _, _, _, _, _, _, _, rfl, _⟩ := h; rfl) | (obtain ⟨_, _, _, _, _, _, _, _, _, _, _, _, _, _, _, rfl, _⟩ := h; rfl) | (obtain ⟨_, _, _, _, _, _, _, _, _, _, _, _, _, _, _, _, rfl, _⟩ := h; rfl) | (obtain ⟨_, _, _, _, _, _, _, _, _, _, _, _, _, _, _, _, _, rfl, _⟩ := h; rfl) | (obtain ⟨_, _, _, _, _, _, _, _, _, _, _, _, _, _, _, _, _, _, rfl, _⟩ := h; rfl) | (obtain ⟨_, _, _, _, _, _, _, _, _, _, _, _, _, _, _, _, _, _, _, rfl, _⟩ := h; rfl) | (obtain ⟨_, _, _, _, _, _, _, _, _, _, _, _, _, _, _, _, _, _, _, _, rfl, _⟩ := h; rfl) | (obtain ⟨_, _, _, _, _, _, _, _, _, _, _, _, _, _, _, _, _, _, _, _, _, rfl, _⟩ := h; rfl) | (obtain ⟨_, _, _, _, _, _, _, _, _, _, _, _, _, _, _, _, _, _, _, _, _, _, rfl, _⟩ := h; rfl) | (obtain ⟨_, _, _, _, _, _, _, _, _, _, _, _, _, _, _, _, _, _, _, _, _, _, _, rfl, _⟩ := h; rfl)
  · obtain ⟨a, ns, rfl, ha, q⟩ := h
    refine ⟨_, (pss_cons (ps_set (i := 1) sc_shared_divisor.nd rfl (.inl rfl) pe_int)
    (pss_cons (ps_for PassesOwn.never rfl (pi_tup (pv 0)) (pg_name (i := 2) sc_shared_divisor.nd rfl (.inl rfl))
      (pss_one (ps_set (i := 1) sc_shared_divisor.nd rfl (.inl rfl) (pe_callBfun cr_gcd (by rfl) T.m_gcd (pa_cons (pv 1) (pa_cons (pv 2) pa_nil))))))
    (pss_one (ps_ret (pv 1))))), ?_⟩
    refine ⟨_, rfl, a, rfl, ⟨_, SqT.of ha⟩, for_tup (xs := ns.map V.int) (fun i σ H' => ∃ y2, σ = [some (.ref a), some (.int (gcdL (ns.take i) : Nat)), y2] ∧ H = H') ⟨none, rfl, rfl⟩ (fun i σ H' _ ⟨_, _, e⟩ => e ▸ SqT.of ha) ?_ ?_⟩
    · rintro i x σ H' hx ⟨y2, rfl, rfl⟩
      obtain ⟨n, hn, rfl⟩ := get_int hx
      refine ⟨_, rfl, _, rfl, _, _, rfl, ?_⟩
      refine ⟨some (.int n), ?_, rfl⟩
      rw [gcdL_take hn]
      rfl
    · rintro σ H' ⟨y2, rfl, rfl⟩
      refine ⟨_, rfl, ?_⟩
      rw [List.length_map, List.take_length]
      exact q
end
end K09
namespace K09
open PySem PySem.Spec PyProof.Rows L2 Fr
open K05M (fv fl2 fl3 fdisc)
open K06M
theorem putF_same {u v : V} : putF ("_coefficients" : Str) v [(("_coefficients" : Str), u)] = [(("_coefficients" : Str), v)] := by simp [putF]
theorem lk_same {u : V} : List.lookup ("_coefficients" : Str) [(("_coefficients" : Str), u)] = some u := by simp [List.lookup]
section
variable {P : Program} {w : World} {K : PySem.W.Frag} {mg : Str → Option Value} {base : Heap} {C_Form C_Double : Addr}
theorem ok_form_led (T : Txt K mg C_Form C_Double) : Def P w K mg base 2 "form_led" ["coefficients", "change"] (sp_form_led K C_Form C_Double) := by
  obtain ⟨f_, fd_, g_, F_⟩ := T.d_form_led
  obtain ⟨f_determinant_of, fd_determinant_of, g_determinant_of, k_determinant_of, b_determinant_of, G_determinant_of⟩ := (ok_determinant_of (P := P) (w := w) (base := base) T)
  obtain ⟨f_form_value, fd_form_value, g_form_value, k_form_value, b_form_value, G_form_value⟩ := (ok_form_value (P := P) (w := w) (base := base) T)
  refine ⟨f_, fd_, g_, F_.kp, F_.binds (ps := ["coefficients", "change"]) (fun _ _ _ _ _ _ us hl => match us, hl with | [_, _], _ => rfl), ?_⟩
  refine F_.ok sc_form_led (fun vs H Q E h => ?_) (fun cdv A outer s H vs Q E hr h => ?_)
  · first | (obtain ⟨rfl, _⟩ := h; rfl) | (obtain ⟨_, rfl, _⟩ := h; rfl) | (obtain ⟨_, _, rfl, _⟩ := h; rfl) | (obtain ⟨_, _, _, rfl, _⟩ := h; rfl) | (obtain ⟨_, _, _, _, rfl, _⟩ := h; rfl) | (obtain ⟨_, _, _, _, _, rfl, _⟩ := h; rfl) | (obtain ⟨_, _, _, _, _, _, rfl, _⟩ := h; rfl) | (obtain ⟨_, _, _, _, _, _, _, rfl, _⟩ := h; rfl) | (obtain ⟨_, _, _, _, _, _, _, _, rfl, _⟩ := h; rfl) | (obtain ⟨_, _, _, _, _, _, _, _, _, rfl, _⟩ := h; rfl) | (obtain ⟨_, _, _, _, _, _, _, _, _, _, rfl, _⟩ := h; rfl) | (obtain ⟨_, _, _, _, _, _, _, _, _, _, _, rfl, _⟩ := h; rfl) | (obtain ⟨_, _, _, _, _, _, _, _, _, _, _, _, rfl, _⟩ := h; rfl) | (obtain ⟨_, _, _, _, _, _, _, _, _, _, _, _, _, rfl, _⟩ := h; rfl) | (obtain ⟨_, _, _, _, _, _, _, _, _, _, _, _, _, _, rfl, _⟩ := h; rfl) | (obtain ⟨_, _, _, _, _, _, _, _, _, _, _, _, _, _, _, rfl, _⟩ := h; rfl) | (obtain ⟨_, _, _, _, _, _, _, _, _, _, _, _, _, _, _, _, rfl, _⟩ := h; rfl) | (obtain ⟨_, _, _, _, _, _, _, _, _, _, _, _, _, _, _, _, _, rfl, _⟩ := h; rfl) | (obtain ⟨_, _, _, _, _, _, _, _, _, _, _, _, _, _, _, _, _, _, rfl, _⟩ := h; rfl) | (obtain ⟨_, _, _, _, _, _, _, _, _, _, _, _, _, _, _, _, _, _, _, rfl, _⟩ := h; rfl) | (obtain ⟨_, _, _, _, _, _, _, _, _, _, _, _, _, _, _, _, _, _, _, _, rfl, _⟩ := h; rfl) | (obtain ⟨_, _, _, _, _, _, _, _, _, _, _, _, _, _, _, _, _, _, _, _, _, rfl, _⟩ := h; rfl) | (obtain ⟨_, _, _, _, _, _, _, _, _, _, _, _, _, _, _, _, _, _, _, _, _, _, rfl, _⟩ := h; rfl) | (obtain ⟨_, _, _, _, _, _, _, _, _, _, _, _, _, _, _, _, _, _, _, _, _, _, _, rfl, _⟩ := h; rfl)
  · obtain ⟨t, u, a, b, c, d, p, q', r, s', rfl, ht, h4, ba, bb, bc, bd, bp, bq, br, bs, q⟩ := h
    refine ⟨_, (pss_cons (ps_asg (pv 0) (pg_tup (by rfl) (pgs_cons (pg_name (i := 2) sc_form_led.nd rfl (.inl rfl)) (pgs_cons (pg_name (i := 3) sc_form_led.nd rfl (.inl rfl)) (pgs_cons (pg_name (i := 4) sc_form_led.nd rfl (.inl rfl)) (pgs_cons (pg_name (i := 5) sc_form_led.nd rfl (.inl rfl)) pgs_nil))))))
    (pss_cons (ps_asg (pv 1) (pg_tup (by rfl) (pgs_cons (pg_tup (by rfl) (pgs_cons (pg_name (i := 6) sc_form_led.nd rfl (.inl rfl)) (pgs_cons (pg_name (i := 7) sc_form_led.nd rfl (.inl rfl)) pgs_nil))) (pgs_cons (pg_tup (by rfl) (pgs_cons (pg_name (i := 8) sc_form_led.nd rfl (.inl rfl)) (pgs_cons (pg_name (i := 9) sc_form_led.nd rfl (.inl rfl)) pgs_nil))) pgs_nil))))
    (pss_cons (ps_set (i := 10) sc_form_led.nd rfl (.inl rfl) (pe_call G_determinant_of (hr.mono (by decide)) (by rfl) g_determinant_of k_determinant_of b_determinant_of .nil pass0 (pa_cons (pv 1) pa_nil)))
    (pss_cons (ps_set (i := 11) sc_form_led.nd rfl (.inl rfl) (pe_op op_add (pe_op op_add (pe_op op_add (pe_op op_mulW (pe_op op_mulW (pe_op op_mulW (pe_op op_mulW pe_int (pv 2)) (pv 6)) (pv 6)) (pv 8)) (pe_op op_mulW (pe_op op_mulW (pv 3) (pv 6)) (pe_op op_add (pe_op op_mulW (pv 6) (pv 9)) (pe_op op_mulW (pe_op op_mulW pe_int (pv 7)) (pv 8))))) (pe_op op_mulW (pe_op op_mulW (pv 4) (pv 7)) (pe_op op_add (pe_op op_mulW (pe_op op_mulW pe_int (pv 6)) (pv 9)) (pe_op op_mulW (pv 7) (pv 8))))) (pe_op op_mulW (pe_op op_mulW (pe_op op_mulW (pe_op op_mulW pe_int (pv 5)) (pv 7)) (pv 7)) (pv 9))))
    (pss_cons (ps_set (i := 12) sc_form_led.nd rfl (.inl rfl) (pe_op op_add (pe_op op_add (pe_op op_add (pe_op op_mulW (pe_op op_mulW (pe_op op_mulW (pe_op op_mulW pe_int (pv 2)) (pv 6)) (pv 8)) (pv 8)) (pe_op op_mulW (pe_op op_mulW (pv 3) (pv 8)) (pe_op op_add (pe_op op_mulW (pe_op op_mulW pe_int (pv 6)) (pv 9)) (pe_op op_mulW (pv 7) (pv 8))))) (pe_op op_mulW (pe_op op_mulW (pv 4) (pv 9)) (pe_op op_add (pe_op op_mulW (pv 6) (pv 9)) (pe_op op_mulW (pe_op op_mulW pe_int (pv 7)) (pv 8))))) (pe_op op_mulW (pe_op op_mulW (pe_op op_mulW (pe_op op_mulW pe_int (pv 5)) (pv 7)) (pv 9)) (pv 9))))
    (pss_one (ps_ret (pe_tup (pa_cons (pe_op op_mulW (pv 10) (pe_call G_form_value (hr.mono (by decide)) (by rfl) g_form_value k_form_value b_form_value .nil pass0 (pa_cons (pv 0) (pa_cons (pv 6) (pa_cons (pv 7) pa_nil))))) (pa_cons (pe_op op_mulW (pv 10) (pv 11)) (pa_cons (pe_op op_mulW (pv 10) (pv 12)) (pa_cons (pe_op op_mulW (pv 10) (pe_call G_form_value (hr.mono (by decide)) (by rfl) g_form_value k_form_value b_form_value .nil pass0 (pa_cons (pv 0) (pa_cons (pv 8) (pa_cons (pv 9) pa_nil))))) pa_nil)))))))))))), ?_⟩
    refine ⟨_, rfl, unI4 ht ?_⟩
    refine ⟨_, rfl, un4 h4 ?_⟩
    refine ⟨_, rfl, u, p, q', r, s', rfl, h4.q, bp, bq, br, bs, ?_⟩
    refine ⟨_, rfl, _, _, rfl, rfl, mulB (B.lit (by decide)) (by with_reducible assumption) (by decide), _, rfl, _, _, rfl, rfl, mulB (B.mul (B.lit (by decide)) (by with_reducible assumption)) (by with_reducible assumption) (by decide), _, rfl, _, _, rfl, rfl, mulB (B.mul (B.mul (B.lit (by decide)) (by with_reducible assumption)) (by with_reducible assumption)) (by with_reducible assumption) (by decide), _, rfl, _, _, rfl, rfl, mulB (B.mul (B.mul (B.mul (B.lit (by decide)) (by with_reducible assumption)) (by with_reducible assumption)) (by with_reducible assumption)) (by with_reducible assumption) (by decide), _, rfl, _, rfl, _, _, rfl, rfl, mulB (by with_reducible assumption) (by with_reducible assumption) (by decide), _, rfl, _, rfl, _, _, rfl, rfl, mulB (by with_reducible assumption) (by with_reducible assumption) (by decide), _, rfl, _, _, rfl, rfl, mulB (B.lit (by decide)) (by with_reducible assumption) (by decide), _, rfl, _, _, rfl, rfl, mulB (B.mul (B.lit (by decide)) (by with_reducible assumption)) (by with_reducible assumption) (by decide), _, _, rfl, rfl, _, _, rfl, rfl, mulB (B.mul (by with_reducible assumption) (by with_reducible assumption)) (B.add (B.mul (by with_reducible assumption) (by with_reducible assumption)) (B.mul (B.mul (B.lit (by decide)) (by with_reducible assumption)) (by with_reducible assumption))) (by decide), _, _, rfl, rfl, _, rfl, _, rfl, _, _, rfl, rfl, mulB (by with_reducible assumption) (by with_reducible assumption) (by decide), _, rfl, _, _, rfl, rfl, mulB (B.lit (by decide)) (by with_reducible assumption) (by decide), _, rfl, _, _, rfl, rfl, mulB (B.mul (B.lit (by decide)) (by with_reducible assumption)) (by with_reducible assumption) (by decide), _, rfl, _, rfl, _, _, rfl, rfl, mulB (by with_reducible assumption) (by with_reducible assumption) (by decide), _, _, rfl, rfl, _, _, rfl, rfl, mulB (B.mul (by with_reducible assumption) (by with_reducible assumption)) (B.add (B.mul (B.mul (B.lit (by decide)) (by with_reducible assumption)) (by with_reducible assumption)) (B.mul (by with_reducible assumption) (by with_reducible assumption))) (by decide), _, _, rfl, rfl, _, rfl, _, _, rfl, rfl, mulB (B.lit (by decide)) (by with_reducible assumption) (by decide), _, rfl, _, _, rfl, rfl, mulB (B.mul (B.lit (by decide)) (by with_reducible assumption)) (by with_reducible assumption) (by decide), _, rfl, _, _, rfl, rfl, mulB (B.mul (B.mul (B.lit (by decide)) (by with_reducible assumption)) (by with_reducible assumption)) (by with_reducible assumption) (by decide), _, rfl, _, _, rfl, rfl, mulB (B.mul (B.mul (B.mul (B.lit (by decide)) (by with_reducible assumption)) (by with_reducible assumption)) (by with_reducible assumption)) (by with_reducible assumption) (by decide), _, _, rfl, rfl, ?_⟩
    refine ⟨_, rfl, _, _, rfl, rfl, mulB (B.lit (by decide)) (by with_reducible assumption) (by decide), _, rfl, _, _, rfl, rfl, mulB (B.mul (B.lit (by decide)) (by with_reducible assumption)) (by with_reducible assumption) (by decide), _, rfl, _, _, rfl, rfl, mulB (B.mul (B.mul (B.lit (by decide)) (by with_reducible assumption)) (by with_reducible assumption)) (by with_reducible assumption) (by decide), _, rfl, _, _, rfl, rfl, mulB (B.mul (B.mul (B.mul (B.lit (by decide)) (by with_reducible assumption)) (by with_reducible assumption)) (by with_reducible assumption)) (by with_reducible assumption) (by decide), _, rfl, _, rfl, _, _, rfl, rfl, mulB (by with_reducible assumption) (by with_reducible assumption) (by decide), _, rfl, _, _, rfl, rfl, mulB (B.lit (by decide)) (by with_reducible assumption) (by decide), _, rfl, _, _, rfl, rfl, mulB (B.mul (B.lit (by decide)) (by with_reducible assumption)) (by with_reducible assumption) (by decide), _, rfl, _, rfl, _, _, rfl, rfl, mulB (by with_reducible assumption) (by with_reducible assumption) (by decide), _, _, rfl, rfl, _, _, rfl, rfl, mulB (B.mul (by with_reducible assumption) (by with_reducible assumption)) (B.add (B.mul (B.mul (B.lit (by decide)) (by with_reducible assumption)) (by with_reducible assumption)) (B.mul (by with_reducible assumption) (by with_reducible assumption))) (by decide), _, _, rfl, rfl, _, rfl, _, rfl, _, _, rfl, rfl, mulB (by with_reducible assumption) (by with_reducible assumption) (by decide), _, rfl, _, rfl, _, _, rfl, rfl, mulB (by with_reducible assumption) (by with_reducible assumption) (by decide), _, rfl, _, _, rfl, rfl, mulB (B.lit (by decide)) (by with_reducible assumption) (by decide), _, rfl, _, _, rfl, rfl, mulB (B.mul (B.lit (by decide)) (by with_reducible assumption)) (by with_reducible assumption) (by decide), _, _, rfl, rfl, _, _, rfl, rfl, mulB (B.mul (by with_reducible assumption) (by with_reducible assumption)) (B.add (B.mul (by with_reducible assumption) (by with_reducible assumption)) (B.mul (B.mul (B.lit (by decide)) (by with_reducible assumption)) (by with_reducible assumption))) (by decide), _, _, rfl, rfl, _, rfl, _, _, rfl, rfl, mulB (B.lit (by decide)) (by with_reducible assumption) (by decide), _, rfl, _, _, rfl, rfl, mulB (B.mul (B.lit (by decide)) (by with_reducible assumption)) (by with_reducible assumption) (by decide), _, rfl, _, _, rfl, rfl, mulB (B.mul (B.mul (B.lit (by decide)) (by with_reducible assumption)) (by with_reducible assumption)) (by with_reducible assumption) (by decide), _, rfl, _, _, rfl, rfl, mulB (B.mul (B.mul (B.mul (B.lit (by decide)) (by with_reducible assumption)) (by with_reducible assumption)) (by with_reducible assumption)) (by with_reducible assumption) (by decide), _, _, rfl, rfl, ?_⟩
    have be : B 800 (p * s' - q' * r) := B.sub (B.mul bp bs) (B.mul bq br)
    have b2 : B _ (3 * a * p * p * r + b * p * (p * s' + 2 * q' * r) + c * q' * (2 * p * s' + q' * r) + 3 * d * q' * q' * s') := (B.add (B.add (B.add (B.mul (B.mul (B.mul (B.mul (B.lit (by decide)) (by with_reducible assumption)) (by with_reducible assumption)) (by with_reducible assumption)) (by with_reducible assumption)) (B.mul (B.mul (by with_reducible assumption) (by with_reducible assumption)) (B.add (B.mul (by with_reducible assumption) (by with_reducible assumption)) (B.mul (B.mul (B.lit (by decide)) (by with_reducible assumption)) (by with_reducible assumption))))) (B.mul (B.mul (by with_reducible assumption) (by with_reducible assumption)) (B.add (B.mul (B.mul (B.lit (by decide)) (by with_reducible assumption)) (by with_reducible assumption)) (B.mul (by with_reducible assumption) (by with_reducible assumption))))) (B.mul (B.mul (B.mul (B.mul (B.lit (by decide)) (by with_reducible assumption)) (by with_reducible assumption)) (by with_reducible assumption)) (by with_reducible assumption)))
    have b3 : B _ (3 * a * p * r * r + b * r * (2 * p * s' + q' * r) + c * s' * (p * s' + 2 * q' * r) + 3 * d * q' * s' * s') := (B.add (B.add (B.add (B.mul (B.mul (B.mul (B.mul (B.lit (by decide)) (by with_reducible assumption)) (by with_reducible assumption)) (by with_reducible assumption)) (by with_reducible assumption)) (B.mul (B.mul (by with_reducible assumption) (by with_reducible assumption)) (B.add (B.mul (B.mul (B.lit (by decide)) (by with_reducible assumption)) (by with_reducible assumption)) (B.mul (by with_reducible assumption) (by with_reducible assumption))))) (B.mul (B.mul (by with_reducible assumption) (by with_reducible assumption)) (B.add (B.mul (by with_reducible assumption) (by with_reducible assumption)) (B.mul (B.mul (B.lit (by decide)) (by with_reducible assumption)) (by with_reducible assumption))))) (B.mul (B.mul (B.mul (B.mul (B.lit (by decide)) (by with_reducible assumption)) (by with_reducible assumption)) (by with_reducible assumption)) (by with_reducible assumption)))
    have f1 : B 6400 (fv a b c d p q') := B.add (B.add (B.add (B.mul (B.mul (B.mul ba bp) bp) bp) (B.mul (B.mul (B.mul bb bp) bp) bq)) (B.mul (B.mul (B.mul bc bp) bq) bq)) (B.mul (B.mul (B.mul bd bq) bq) bq)
    have f2 : B 6400 (fv a b c d r s') := B.add (B.add (B.add (B.mul (B.mul (B.mul ba br) br) br) (B.mul (B.mul (B.mul bb br) br) bs)) (B.mul (B.mul (B.mul bc br) bs) bs)) (B.mul (B.mul (B.mul bd bs) bs) bs)
    refine ⟨_, rfl, _, rfl, _, rfl, _, rfl, t, a, b, c, d, p, q', rfl, ht, ba, bb, bc, bd, bp, bq, _, _, rfl, rfl, mulB be f1 (by decide), ?_⟩
    refine ⟨_, rfl, _, rfl, _, _, rfl, rfl, mulB be b2 (by decide), _, rfl, _, rfl, _, _, rfl, rfl, mulB be b3 (by decide), ?_⟩
    refine ⟨_, rfl, _, rfl, _, rfl, _, rfl, t, a, b, c, d, r, s', rfl, ht, ba, bb, bc, bd, br, bs, _, _, rfl, rfl, mulB be f2 (by decide), sl4, fun x nx => ?_⟩
    exact q x _ (Ex0.new nx) upd_same
theorem ok_Form___init__ (T : Txt K mg C_Form C_Double) : MDef (fun p f => Mk K C_Form f) P w K mg base 4 ["self", "coefficients"] (sp_Form___init__ K C_Form C_Double) := by
  obtain ⟨p_, f_, fd_, R_, F_⟩ := T.e_Form___init__
  obtain ⟨f_are_short_integers, fd_are_short_integers, g_are_short_integers, k_are_short_integers, b_are_short_integers, G_are_short_integers⟩ := (ok_are_short_integers (P := P) (w := w) (base := base) T)
  refine ⟨p_, f_, fd_, R_, F_.binds (ps := ["self", "coefficients"]) (fun _ _ _ _ _ _ us hl => match us, hl with | [_, _], _ => rfl), ?_⟩
  refine F_.ok sc_Form___init__ (fun vs H Q E h => ?_) (fun cdv A outer s H vs Q E hr h => ?_)
  · first | (obtain ⟨rfl, _⟩ := h; rfl) | (obtain ⟨_, rfl, _⟩ := h; rfl) | (obtain ⟨_, _, rfl, _⟩ := h; rfl) | (obtain ⟨_, _, _, rfl, _⟩ := h; rfl) | (obtain ⟨_, _, _, _, rfl, _⟩ := h; rfl) | (obtain ⟨_, _, _, _, _, rfl, _⟩ := h; rfl) | (obtain ⟨_, _, _, _, _, _, rfl, _⟩ := h; rfl) | (obtain ⟨_, _, _, _, _, _, _, rfl, _⟩ := h; rfl) | (obtain ⟨_, _, _, _, _, _, _, _, rfl, _⟩ := h; rfl) | (obtain ⟨_, _, _, _, _, _, _, _, _, rfl, _⟩ := h; rfl) | (obtain ⟨_, _, _, _, _, _, _, _, _, _, rfl, _⟩ := h; rfl) | (obtain ⟨_, _, _, _, _, _, _, _, _, _, _, rfl, _⟩ := h; rfl) | (obtain ⟨_, _, _, _, _, _, _, _, _, _, _, _, rfl, _⟩ := h; rfl) | (obtain ⟨_, _, _, _, _, _, _, _, _, _, _, _, _, rfl, _⟩ := h; rfl) | (obtain ⟨_, _, _, _, _, _, _, _, _, _, _, _, _, _, rfl, _⟩ := h; rfl) | (obtain ⟨_, _, _, _, _, _, _, _, _, _, _, _, _, _, _, rfl, _⟩ := h; rfl) | (obtain ⟨_, _, _, _, _, _, _, _, _, _, _, _, _, _, _, _, rfl, _⟩ := h; rfl) | (obtain ⟨_, _, _, _, _, _, _, _, _, _, _, _, _, _, _, _, _, rfl, _⟩ := h; rfl) | (obtain ⟨_, _, _, _, _, _, _, _, _, _, _, _, _, _, _, _, _, _, rfl, _⟩ := h; rfl) | (obtain ⟨_, _, _, _, _, _, _, _, _, _, _, _, _, _, _, _, _, _, _, rfl, _⟩ := h; rfl) | (obtain ⟨_, _, _, _, _, _, _, _, _, _, _, _, _, _, _, _, _, _, _, _, rfl, _⟩ := h; rfl) | (obtain ⟨_, _, _, _, _, _, _, _, _, _, _, _, _, _, _, _, _, _, _, _, _, rfl, _⟩ := h; rfl) | (obtain ⟨_, _, _, _, _, _, _, _, _, _, _, _, _, _, _, _, _, _, _, _, _, _, rfl, _⟩ := h; rfl) | (obtain ⟨_, _, _, _, _, _, _, _, _, _, _, _, _, _, _, _, _, _, _, _, _, _, _, rfl, _⟩ := h; rfl)
  · obtain ⟨x, dx, t, ns, rfl, hx, ht, hl, hs, q⟩ := h
    refine ⟨_, (pss_cons (ps_if (pt_not (pt_val (pe_call G_are_short_integers (hr.mono (by decide)) (by rfl) g_are_short_integers k_are_short_integers b_are_short_integers .nil pass0 (pa_cons (pv 1) (pa_cons pe_int pa_nil)))))
      pss_never
      pss_nil)
    (pss_one (ps_fld (pv 0) (pe_callTy call_tuple_of (by rfl) T.b_tuple (by decide +kernel) (pa_cons (pv 1) pa_nil)) (by rfl)))), ?_⟩
    refine ⟨_, rfl, t, ns, by rw [hl]; rfl, SqT.of ht, by omega, hs, fun H1 e1 => ⟨_, rfl, ?_⟩⟩
    refine iteF ⟨_, rfl, t, _, rfl, .inr ⟨SqT.of (Ex0.ti e1 ht), ?_⟩⟩
    refine ⟨_, rfl, x, C_Form, dx, _, rfl, e1.ap hx, T.cl_Form, T.na_Form_coefficients, (by decide : (0:Nat) < 1000), ?_⟩
    exact q _ (fun b o n e => by rw [upd_ne n]; exact e1.ap e) upd_same
theorem ok_form_of (T : Txt K mg C_Form C_Double) : Def P w K mg base 6 "form_of" ["coefficients"] (sp_form_of K C_Form C_Double) := by
  obtain ⟨f_, fd_, g_, F_⟩ := T.d_form_of
  obtain ⟨p_Form___init__, f_Form___init__, fd_Form___init__, R_Form___init__, b_Form___init__, G_Form___init__⟩ := (ok_Form___init__ (P := P) (w := w) (base := base) T)
  refine ⟨f_, fd_, g_, F_.kp, F_.binds (ps := ["coefficients"]) (fun _ _ _ _ _ _ us hl => match us, hl with | [_], _ => rfl), ?_⟩
  refine F_.ok sc_form_of (fun vs H Q E h => ?_) (fun cdv A outer s H vs Q E hr h => ?_)
  · first | (obtain ⟨rfl, _⟩ := h; rfl) | (obtain ⟨_, rfl, _⟩ := h; rfl) | (obtain ⟨_, _, rfl, _⟩ := h; rfl) | (obtain ⟨_, _, _, rfl, _⟩ := h; rfl) | (obtain ⟨_, _, _, _, rfl, _⟩ := h; rfl) | (obtain ⟨_, _, _, _, _, rfl, _⟩ := h; rfl) | (obtain ⟨_, _, _, _, _, _, rfl, _⟩ := h; rfl) | (obtain ⟨_, _, _, _, _, _, _, rfl, _⟩ := h; rfl) | (obtain ⟨_, _, _, _, _, _, _, _, rfl, _⟩ := h; rfl) | (obtain ⟨_, _, _, _, _, _, _, _, _, rfl, _⟩ := h; rfl) | (obtain ⟨_, _, _, _, _, _, _, _, _, _, rfl, _⟩ := h; rfl) | (obtain ⟨_, _, _, _, _, _, _, _, _, _, _, rfl, _⟩ := h; rfl) | (obtain ⟨_, _, _, _, _, _, _, _, _, _, _, _, rfl, _⟩ := h; rfl) | (obtain ⟨_, _, _, _, _, _, _, _, _, _, _, _, _, rfl, _⟩ := h; rfl) | (obtain ⟨_, _, _, _, _, _, _, _, _, _, _, _, _, _, rfl, _⟩ := h; rfl) | (obtain ⟨_, _, _, _, _, _, _, _, _, _, _, _, _, _, _, rfl, _⟩ := h; rfl) | (obtain ⟨_, _, _, _, _, _, _, _, _, _, _, _, _, _, _, _, rfl, _⟩ := h; rfl) | (obtain ⟨_, _, _, _, _, _, _, _, _, _, _, _, _, _, _, _, _, rfl, _⟩ := h; rfl) | (obtain ⟨_, _, _, _, _, _, _, _, _, _, _, _, _, _, _, _, _, _, rfl, _⟩ := h; rfl) | (obtain ⟨_, _, _, _, _, _, _, _, _, _, _, _, _, _, _, _, _, _, _, rfl, _⟩ := h; rfl) | (obtain ⟨_, _, _, _, _, _, _, _, _, _, _, _, _, _, _, _, _, _, _, _, rfl, _⟩ := h; rfl) | (obtain ⟨_, _, _, _, _, _, _, _, _, _, _, _, _, _, _, _, _, _, _, _, _, rfl, _⟩ := h; rfl) | (obtain ⟨_, _, _, _, _, _, _, _, _, _, _, _, _, _, _, _, _, _, _, _, _, _, rfl, _⟩ := h; rfl) | (obtain ⟨_, _, _, _, _, _, _, _, _, _, _, _, _, _, _, _, _, _, _, _, _, _, _, rfl, _⟩ := h; rfl)
  · obtain ⟨t, ns, rfl, ht, q⟩ := h
    refine ⟨_, (pss_cons (ps_set (i := 1) sc_form_of.nd rfl (.inl rfl) (pe_make R_Form___init__ G_Form___init__ (hr.mono (by decide)) (by rfl) T.g_Form b_Form___init__ .nil pass0 (pa_cons (pe_tup (pa_cons pe_int (pa_cons pe_int (pa_cons pe_int (pa_cons pe_int pa_nil))))) pa_nil)))
    (pss_cons (ps_fld (pv 1) (pv 0) (by rfl))
    (pss_one (ps_ret (pv 1))))), ?_⟩
    refine ⟨sl4, fun t0 n0 => ?_⟩
    intro x dx nx ndx ne
    have e0 : Ex0 H (upd H t0 (.tup [.int 0, .int 0, .int 0, .int 0])) := Ex0.new n0
    have hx0 : H x = none := Fx.free e0 (fun z => z) nx
    have hd0 : H dx = none := Fx.free e0 (fun z => z) ndx
    have nt : t0 ≠ x := ne_of_none (show upd H t0 (.tup [.int 0, .int 0, .int 0, .int 0]) t0 = some _ from upd_same) nx
    have nd : t0 ≠ dx := ne_of_none (show upd H t0 (.tup [.int 0, .int 0, .int 0, .int 0]) t0 = some _ from upd_same) ndx
    refine ⟨x, dx, t0, [0, 0, 0, 0], rfl, upd_same, ?_, rfl, fun n hn => ?_, fun H' e1 e2 => ⟨rfl, ?_⟩⟩
    · show (upd (upd (upd H t0 _) dx _) x _) t0 = _
      rw [upd_ne nt, upd_ne nd]
      exact upd_same
    · have : n = 0 := by simpa using hn
      rw [this]
      exact ⟨by decide, by decide⟩
    refine ⟨_, rfl, _, rfl, x, C_Form, dx, _, rfl, e2, T.cl_Form, T.na_Form_coefficients, (by decide : (1:Nat) < 1000), ?_⟩
    refine ⟨_, rfl, ?_⟩
    have ex : ∀ b o, H b = some o → b ≠ x ∧ H' b = some o := fun b o e => by
      have n1 : b ≠ x := ne_of_none e hx0
      have n2 : b ≠ dx := ne_of_none e hd0
      refine ⟨n1, e1 b o n1 ?_⟩
      rw [upd_ne n1, upd_ne n2]
      exact e0.ap e
    refine q x _ (Ex0.of fun b o e => ?_) ⟨dx, t, ?_, ?_⟩
    · rw [upd_ne (ex b o e).1]
      exact (ex b o e).2
    · rw [upd_same, putF_same]
    · show (upd H' x _) t = _
      rw [upd_ne (ex _ _ ht).1]
      exact (ex _ _ ht).2
theorem ok_Form_coefficients (T : Txt K mg C_Form C_Double) : MDef (fun p f => PropOf K C_Form "coefficients" p f) P w K mg base 1 ["self"] (sp_Form_coefficients K C_Form C_Double) := by
  obtain ⟨p_, f_, fd_, R_, F_⟩ := T.e_Form_coefficients
  refine ⟨p_, f_, fd_, R_, F_.binds (ps := ["self"]) (fun _ _ _ _ _ _ us hl => match us, hl with | [_], _ => rfl), ?_⟩
  refine F_.ok sc_Form_coefficients (fun vs H Q E h => ?_) (fun cdv A outer s H vs Q E hr h => ?_)
  · first | (obtain ⟨rfl, _⟩ := h; rfl) | (obtain ⟨_, rfl, _⟩ := h; rfl) | (obtain ⟨_, _, rfl, _⟩ := h; rfl) | (obtain ⟨_, _, _, rfl, _⟩ := h; rfl) | (obtain ⟨_, _, _, _, rfl, _⟩ := h; rfl) | (obtain ⟨_, _, _, _, _, rfl, _⟩ := h; rfl) | (obtain ⟨_, _, _, _, _, _, rfl, _⟩ := h; rfl) | (obtain ⟨_, _, _, _, _, _, _, rfl, _⟩ := h; rfl) | (obtain ⟨_, _, _, _, _, _, _, _, rfl, _⟩ := h; rfl) | (obtain ⟨_, _, _, _, _, _, _, _, _, rfl, _⟩ := h; rfl) | (obtain ⟨_, _, _, _, _, _, _, _, _, _, rfl, _⟩ := h; rfl) | (obtain ⟨_, _, _, _, _, _, _, _, _, _, _, rfl, _⟩ := h; rfl) | (obtain ⟨_, _, _, _, _, _, _, _, _, _, _, _, rfl, _⟩ := h; rfl) | (obtain ⟨_, _, _, _, _, _, _, _, _, _, _, _, _, rfl, _⟩ := h; rfl) | (obtain ⟨_, _, _, _, _, _, _, _, _, _, _, _, _, _, rfl, _⟩ := h; rfl) | (obtain ⟨_, _, _, _, _, _, _, _, _, _, _, _, _, _, _, rfl, _⟩ := h; rfl) | (obtain ⟨_, _, _, _, _, _, _, _, _, _, _, _, _, _, _, _, rfl, _⟩ := h; rfl) | (obtain ⟨_, _, _, _, _, _, _, _, _, _, _, _, _, _, _, _, _, rfl, _⟩ := h; rfl) | (obtain ⟨_, _, _, _, _, _, _, _, _, _, _, _, _, _, _, _, _, _, rfl, _⟩ := h; rfl) | (obtain ⟨_, _, _, _, _, _, _, _, _, _, _, _, _, _, _, _, _, _, _, rfl, _⟩ := h; rfl) | (obtain ⟨_, _, _, _, _, _, _, _, _, _, _, _, _, _, _, _, _, _, _, _, rfl, _⟩ := h; rfl) | (obtain ⟨_, _, _, _, _, _, _, _, _, _, _, _, _, _, _, _, _, _, _, _, _, rfl, _⟩ := h; rfl) | (obtain ⟨_, _, _, _, _, _, _, _, _, _, _, _, _, _, _, _, _, _, _, _, _, _, rfl, _⟩ := h; rfl) | (obtain ⟨_, _, _, _, _, _, _, _, _, _, _, _, _, _, _, _, _, _, _, _, _, _, _, rfl, _⟩ := h; rfl)
  · obtain ⟨x, ns, rfl, ⟨dx, t, hx, ht⟩, q⟩ := h
    refine ⟨_, (pss_one (ps_ret (pe_fld (pv 0) (by rfl)))), ?_⟩
    exact ⟨_, rfl, x, C_Form, dx, _, .ref t, rfl, hx, T.cl_Form, T.na_Form_coefficients, lk_same, q t ht⟩
theorem ok_Form_discriminant (T : Txt K mg C_Form C_Double) : MDef (fun p f => PropOf K C_Form "discriminant" p f) P w K mg base 2 ["self"] (sp_Form_discriminant K C_Form C_Double) := by
  obtain ⟨p_, f_, fd_, R_, F_⟩ := T.e_Form_discriminant
  obtain ⟨f_form_discriminant, fd_form_discriminant, g_form_discriminant, k_form_discriminant, b_form_discriminant, G_form_discriminant⟩ := (ok_form_discriminant (P := P) (w := w) (base := base) T)
  refine ⟨p_, f_, fd_, R_, F_.binds (ps := ["self"]) (fun _ _ _ _ _ _ us hl => match us, hl with | [_], _ => rfl), ?_⟩
  refine F_.ok sc_Form_discriminant (fun vs H Q E h => ?_) (fun cdv A outer s H vs Q E hr h => ?_)
  · first | (obtain ⟨rfl, _⟩ := h; rfl) | (obtain ⟨_, rfl, _⟩ := h; rfl) | (obtain ⟨_, _, rfl, _⟩ := h; rfl) | (obtain ⟨_, _, _, rfl, _⟩ := h; rfl) | (obtain ⟨_, _, _, _, rfl, _⟩ := h; rfl) | (obtain ⟨_, _, _, _, _, rfl, _⟩ := h; rfl) | (obtain ⟨_, _, _, _, _, _, rfl, _⟩ := h; rfl) | (obtain ⟨_, _, _, _, _, _, _, rfl, _⟩ := h; rfl) | (obtain ⟨_, _, _, _, _, _, _, _, rfl, _⟩ := h; rfl) | (obtain ⟨_, _, _, _, _, _, _, _, _, rfl, _⟩ := h; rfl) | (obtain ⟨_, _, _, _, _, _, _, _, _, _, rfl, _⟩ := h; rfl) | (obtain ⟨_, _, _, _, _, _, _, _, _, _, _, rfl, _⟩ := h; rfl) | (obtain ⟨_, _, _, _, _, _, _, _, _, _, _, _, rfl, _⟩ := h; rfl) | (obtain ⟨_, _, _, _, _, _, _, _, _, _, _, _, _, rfl, _⟩ := h; rfl) | (obtain ⟨_, _, _, _, _, _, _, _, _, _, _, _, _, _, rfl, _⟩ := h; rfl) | (obtain ⟨_, _, _, _, _, _, _, _, _, _, _, _, _, _, _, rfl, _⟩ := h; rfl) | (obtain ⟨_, _, _, _, _, _, _, _, _, _, _, _, _, _, _, _, rfl, _⟩ := h; rfl) | (obtain ⟨_, _, _, _, _, _, _, _, _, _, _, _, _, _, _, _, _, rfl, _⟩ := h; rfl) | (obtain ⟨_, _, _, _, _, _, _, _, _, _, _, _, _, _, _, _, _, _, rfl, _⟩ := h; rfl) | (obtain ⟨_, _, _, _, _, _, _, _, _, _, _, _, _, _, _, _, _, _, _, rfl, _⟩ := h; rfl) | (obtain ⟨_, _, _, _, _, _, _, _, _, _, _, _, _, _, _, _, _, _, _, _, rfl, _⟩ := h; rfl) | (obtain ⟨_, _, _, _, _, _, _, _, _, _, _, _, _, _, _, _, _, _, _, _, _, rfl, _⟩ := h; rfl) | (obtain ⟨_, _, _, _, _, _, _, _, _, _, _, _, _, _, _, _, _, _, _, _, _, _, rfl, _⟩ := h; rfl) | (obtain ⟨_, _, _, _, _, _, _, _, _, _, _, _, _, _, _, _, _, _, _, _, _, _, _, rfl, _⟩ := h; rfl)
  · obtain ⟨x, a, b, c, d, rfl, ⟨dx, t, hx, ht⟩, ba, bb, bc, bd, q⟩ := h
    refine ⟨_, (pss_one (ps_ret (pe_call G_form_discriminant (hr.mono (by decide)) (by rfl) g_form_discriminant k_form_discriminant b_form_discriminant .nil pass0 (pa_cons (pe_fld (pv 0) (by rfl)) pa_nil)))), ?_⟩
    exact ⟨_, rfl, x, C_Form, dx, _, .ref t, rfl, hx, T.cl_Form, T.na_Form_coefficients, lk_same, t, a, b, c, d, rfl, ht, ba, bb, bc, bd, q⟩
theorem ok_Form___call__ (T : Txt K mg C_Form C_Double) : MDef (fun p f => StX.CallO K C_Form f) P w K mg base 4 ["self", "x", "y"] (sp_Form___call__ K C_Form C_Double) := by
  obtain ⟨p_, f_, fd_, R_, F_⟩ := T.e_Form___call__
  obtain ⟨f_check_integer, fd_check_integer, g_check_integer, k_check_integer, b_check_integer, G_check_integer⟩ := (ok_check_integer (P := P) (w := w) (base := base) T)
  obtain ⟨f_form_value, fd_form_value, g_form_value, k_form_value, b_form_value, G_form_value⟩ := (ok_form_value (P := P) (w := w) (base := base) T)
  refine ⟨p_, f_, fd_, R_, F_.binds (ps := ["self", "x", "y"]) (fun _ _ _ _ _ _ us hl => match us, hl with | [_, _, _], _ => rfl), ?_⟩
  refine F_.ok sc_Form___call__ (fun vs H Q E h => ?_) (fun cdv A outer s H vs Q E hr h => ?_)
  · first | (obtain ⟨rfl, _⟩ := h; rfl) | (obtain ⟨_, rfl, _⟩ := h; rfl) | (obtain ⟨_, _, rfl, _⟩ := h; rfl) | (obtain ⟨_, _, _, rfl, _⟩ := h; rfl) | (obtain ⟨_, _, _, _, rfl, _⟩ := h; rfl) | (obtain ⟨_, _, _, _, _, rfl, _⟩ := h; rfl) | (obtain ⟨_, _, _, _, _, _, rfl, _⟩ := h; rfl) | (obtain ⟨_, _, _, _, _, _, _, rfl, _⟩ := h; rfl) | (obtain ⟨_, _, _, _, _, _, _, _, rfl, _⟩ := h; rfl) | (obtain ⟨_, _, _, _, _, _, _, _, _, rfl, _⟩ := h; rfl) | (obtain ⟨_, _, _, _, _, _, _, _, _, _, rfl, _⟩ := h; rfl) | (obtain ⟨_, _, _, _, _, _, _, _, _, _, _, rfl, _⟩ := h; rfl) | (obtain ⟨_, _, _, _, _, _, _, _, _, _, _, _, rfl, _⟩ := h; rfl) | (obtain ⟨_, _, _, _, _, _, _, _, _, _, _, _, _, rfl, _⟩ := h; rfl) | (obtain ⟨_, _, _, _, _, _, _, _, _, _, _, _, _, _, rfl, _⟩ := h; rfl) | (obtain ⟨_, _, _, _, _, _, _, _, _, _, _, _, _, _, _, rfl, _⟩ := h; rfl) | (obtain ⟨_, _, _, _, _, _, _, _, _, _, _, _, _, _, _, _, rfl, _⟩ := h; rfl) | (obtain ⟨_, _, _, _, _, _, _, _, _, _, _, _, _, _, _, _, _, rfl, _⟩ := h; rfl) | (obtain ⟨_, _, _, _, _, _, _, _, _, _, _, _, _, _, _, _, _, _, rfl, _⟩ := h; rfl) | (obtain ⟨_, _, _, _, _, _, _, _, _, _, _, _, _, _, _, _, _, _, _, rfl, _⟩ := h; rfl) | (obtain ⟨_, _, _, _, _, _, _, _, _, _, _, _, _, _, _, _, _, _, _, _, rfl, _⟩ := h; rfl) | (obtain ⟨_, _, _, _, _, _, _, _, _, _, _, _, _, _, _, _, _, _, _, _, _, rfl, _⟩ := h; rfl) | (obtain ⟨_, _, _, _, _, _, _, _, _, _, _, _, _, _, _, _, _, _, _, _, _, _, rfl, _⟩ := h; rfl) | (obtain ⟨_, _, _, _, _, _, _, _, _, _, _, _, _, _, _, _, _, _, _, _, _, _, _, rfl, _⟩ := h; rfl)
  · obtain ⟨z, a, b, c, d, x, y, rfl, ⟨dx, t, hx, ht⟩, ba, bb, bc, bd, sx, sy, q⟩ := h
    refine ⟨_, (pss_cons (ps_expr (pe_call G_check_integer (hr.mono (by decide)) (by rfl) g_check_integer k_check_integer b_check_integer .nil pass0 (pa_cons (pv 1) pa_nil)))
    (pss_cons (ps_expr (pe_call G_check_integer (hr.mono (by decide)) (by rfl) g_check_integer k_check_integer b_check_integer .nil pass0 (pa_cons (pv 2) pa_nil)))
    (pss_one (ps_ret (pe_call G_form_value (hr.mono (by decide)) (by rfl) g_form_value k_form_value b_form_value .nil pass0 (pa_cons (pe_fld (pv 0) (by rfl)) (pa_cons (pv 1) (pa_cons (pv 2) pa_nil)))))))), ?_⟩
    refine ⟨_, rfl, x, rfl, sx, _, rfl, y, rfl, sy, ?_⟩
    exact ⟨_, rfl, z, C_Form, dx, _, .ref t, rfl, hx, T.cl_Form, T.na_Form_coefficients, lk_same, _, rfl, _, rfl, t, a, b, c, d, x, y, rfl, ht, ba, bb, bc, bd, sx.b, sy.b, q⟩
theorem ok_Form_led (T : Txt K mg C_Form C_Double) : MDef (fun p f => Meth K C_Form "led" f) P w K mg base 7 ["self", "change"] (sp_Form_led K C_Form C_Double) := by
  obtain ⟨p_, f_, fd_, R_, F_⟩ := T.e_Form_led
  obtain ⟨f_check_change, fd_check_change, g_check_change, k_check_change, b_check_change, G_check_change⟩ := (ok_check_change (P := P) (w := w) (base := base) T)
  obtain ⟨f_form_led, fd_form_led, g_form_led, k_form_led, b_form_led, G_form_led⟩ := (ok_form_led (P := P) (w := w) (base := base) T)
  obtain ⟨f_form_of, fd_form_of, g_form_of, k_form_of, b_form_of, G_form_of⟩ := (ok_form_of (P := P) (w := w) (base := base) T)
  refine ⟨p_, f_, fd_, R_, F_.binds (ps := ["self", "change"]) (fun _ _ _ _ _ _ us hl => match us, hl with | [_, _], _ => rfl), ?_⟩
  refine F_.ok sc_Form_led (fun vs H Q E h => ?_) (fun cdv A outer s H vs Q E hr h => ?_)
  · first | (obtain ⟨rfl, _⟩ := h; rfl) | (obtain ⟨_, rfl, _⟩ := h; rfl) | (obtain ⟨_, _, rfl, _⟩ := h; rfl) | (obtain ⟨_, _, _, rfl, _⟩ := h; rfl) | (obtain ⟨_, _, _, _, rfl, _⟩ := h; rfl) | (obtain ⟨_, _, _, _, _, rfl, _⟩ := h; rfl) | (obtain ⟨_, _, _, _, _, _, rfl, _⟩ := h; rfl) | (obtain ⟨_, _, _, _, _, _, _, rfl, _⟩ := h; rfl) | (obtain ⟨_, _, _, _, _, _, _, _, rfl, _⟩ := h; rfl) | (obtain ⟨_, _, _, _, _, _, _, _, _, rfl, _⟩ := h; rfl) | (obtain ⟨_, _, _, _, _, _, _, _, _, _, rfl, _⟩ := h; rfl) | (obtain ⟨_, _, _, _, _, _, _, _, _, _, _, rfl, _⟩ := h; rfl) | (obtain ⟨_, _, _, _, _, _, _, _, _, _, _, _, rfl, _⟩ := h; rfl) | (obtain ⟨_, _, _, _, _, _, _, _, _, _, _, _, _, rfl, _⟩ := h; rfl) | (obtain ⟨_, _, _, _, _, _, _, _, _, _, _, _, _, _, rfl, _⟩ := h; rfl) | (obtain ⟨_, _, _, _, _, _, _, _, _, _, _, _, _, _, _, rfl, _⟩ := h; rfl) | (obtain ⟨_, _, _, _, _, _, _, _, _, _, _, _, _, _, _, _, rfl, _⟩ := h; rfl) | (obtain ⟨_, _, _, _, _, _, _, _, _, _, _, _, _, _, _, _, _, rfl, _⟩ := h; rfl) | (obtain ⟨_, _, _, _, _, _, _, _, _, _, _, _, _, _, _, _, _, _, rfl, _⟩ := h; rfl) | (obtain ⟨_, _, _, _, _, _, _, _, _, _, _, _, _, _, _, _, _, _, _, rfl, _⟩ := h; rfl) | (obtain ⟨_, _, _, _, _, _, _, _, _, _, _, _, _, _, _, _, _, _, _, _, rfl, _⟩ := h; rfl) | (obtain ⟨_, _, _, _, _, _, _, _, _, _, _, _, _, _, _, _, _, _, _, _, _, rfl, _⟩ := h; rfl) | (obtain ⟨_, _, _, _, _, _, _, _, _, _, _, _, _, _, _, _, _, _, _, _, _, _, rfl, _⟩ := h; rfl) | (obtain ⟨_, _, _, _, _, _, _, _, _, _, _, _, _, _, _, _, _, _, _, _, _, _, _, rfl, _⟩ := h; rfl)
  · obtain ⟨z, u, a, b, c, d, p, q', r, s', rfl, hz, h4, ba, bb, bc, bd, hc, q⟩ := h
    refine ⟨_, (pss_cons (ps_expr (pe_call G_check_change (hr.mono (by decide)) (by rfl) g_check_change k_check_change b_check_change .nil pass0 (pa_cons (pv 1) pa_nil)))
    (pss_one (ps_ret (pe_call G_form_of (hr.mono (by decide)) (by rfl) g_form_of k_form_of b_form_of .nil pass0 (pa_cons (pe_call G_form_led (hr.mono (by decide)) (by rfl) g_form_led k_form_led b_form_led .nil pass0 (pa_cons (pe_fld (pv 0) (by rfl)) (pa_cons (pv 1) pa_nil))) pa_nil))))), ?_⟩
    refine ⟨_, rfl, u, p, q', r, s', rfl, h4.q, hc, fun H1 e1 => ?_⟩
    obtain ⟨dx, t, hx, ht⟩ := Ex0.fo e1 hz
    refine ⟨_, rfl, z, C_Form, dx, _, .ref t, rfl, hx, T.cl_Form, T.na_Form_coefficients, lk_same, _, rfl, t, u, a, b, c, d, p, q', r, s', rfl, ht, Ex0.t4 e1 h4, ba, bb, bc, bd, hc.1.b, hc.2.1.b, hc.2.2.1.b, hc.2.2.2.1.b, fun x H2 e2 hx2 => ?_⟩
    exact ⟨x, _, rfl, hx2, fun y H3 e3 hy => q y H3 ((e1.trans e2).trans e3) hy⟩
theorem ok_Double___init__ (T : Txt K mg C_Form C_Double) : MDef (fun p f => Mk K C_Double f) P w K mg base 4 ["self", "coefficients"] (sp_Double___init__ K C_Form C_Double) := by
  obtain ⟨p_, f_, fd_, R_, F_⟩ := T.e_Double___init__
  obtain ⟨f_are_short_integers, fd_are_short_integers, g_are_short_integers, k_are_short_integers, b_are_short_integers, G_are_short_integers⟩ := (ok_are_short_integers (P := P) (w := w) (base := base) T)
  refine ⟨p_, f_, fd_, R_, F_.binds (ps := ["self", "coefficients"]) (fun _ _ _ _ _ _ us hl => match us, hl with | [_, _], _ => rfl), ?_⟩
  refine F_.ok sc_Double___init__ (fun vs H Q E h => ?_) (fun cdv A outer s H vs Q E hr h => ?_)
  · first | (obtain ⟨rfl, _⟩ := h; rfl) | (obtain ⟨_, rfl, _⟩ := h; rfl) | (obtain ⟨_, _, rfl, _⟩ := h; rfl) | (obtain ⟨_, _, _, rfl, _⟩ := h; rfl) | (obtain ⟨_, _, _, _, rfl, _⟩ := h; rfl) | (obtain ⟨_, _, _, _, _, rfl, _⟩ := h; rfl) | (obtain ⟨_, _, _, _, _, _, rfl, _⟩ := h; rfl) | (obtain ⟨_, _, _, _, _, _, _, rfl, _⟩ := h; rfl) | (obtain ⟨_, _, _, _, _, _, _, _, rfl, _⟩ := h; rfl) | (obtain ⟨_, _, _, _, _, _, _, _, _, rfl, _⟩ := h; rfl) | (obtain ⟨_, _, _, _, _, _, _, _, _, _, rfl, _⟩ := h; rfl) | (obtain ⟨_, _, _, _, _, _, _, _, _, _, _, rfl, _⟩ := h; rfl) | (obtain ⟨_, _, _, _, _, _, _, _, _, _, _, _, rfl, _⟩ := h; rfl) | (obtain ⟨_, _, _, _, _, _, _, _, _, _, _, _, _, rfl, _⟩ := h; rfl) | (obtain ⟨_, _, _, _, _, _, _, _, _, _, _, _, _, _, rfl, _⟩ := h; rfl) | (obtain ⟨_, _, _, _, _, _, _, _, _, _, _, _, _, _, _, rfl, _⟩ := h; rfl) | (obtain ⟨_, _, _, _, _, _, _, _, _, _, _, _, _, _, _, _, rfl, _⟩ := h; rfl) | (obtain ⟨_, _, _, _, _, _, _, _, _, _, _, _, _, _, _, _, _, rfl, _⟩ := h; rfl) | (obtain ⟨_, _, _, _, _, _, _, _, _, _, _, _, _, _, _, _, _, _, rfl, _⟩ := h; rfl) | (obtain ⟨_, _, _, _, _, _, _, _, _, _, _, _, _, _, _, _, _, _, _, rfl, _⟩ := h; rfl) | (obtain ⟨_, _, _, _, _, _, _, _, _, _, _, _, _, _, _, _, _, _, _, _, rfl, _⟩ := h; rfl) | (obtain ⟨_, _, _, _, _, _, _, _, _, _, _, _, _, _, _, _, _, _, _, _, _, rfl, _⟩ := h; rfl) | (obtain ⟨_, _, _, _, _, _, _, _, _, _, _, _, _, _, _, _, _, _, _, _, _, _, rfl, _⟩ := h; rfl) | (obtain ⟨_, _, _, _, _, _, _, _, _, _, _, _, _, _, _, _, _, _, _, _, _, _, _, rfl, _⟩ := h; rfl)
  · obtain ⟨x, dx, t, ns, rfl, hx, ht, hl, hs, q⟩ := h
    refine ⟨_, (pss_cons (ps_if (pt_not (pt_val (pe_call G_are_short_integers (hr.mono (by decide)) (by rfl) g_are_short_integers k_are_short_integers b_are_short_integers .nil pass0 (pa_cons (pv 1) (pa_cons pe_int pa_nil)))))
      pss_never
      pss_nil)
    (pss_one (ps_fld (pv 0) (pe_callTy call_tuple_of (by rfl) T.b_tuple (by decide +kernel) (pa_cons (pv 1) pa_nil)) (by rfl)))), ?_⟩
    refine ⟨_, rfl, t, ns, by rw [hl]; rfl, SqT.of ht, by omega, hs, fun H1 e1 => ⟨_, rfl, ?_⟩⟩
    refine iteF ⟨_, rfl, t, _, rfl, .inr ⟨SqT.of (Ex0.ti e1 ht), ?_⟩⟩
    refine ⟨_, rfl, x, C_Double, dx, _, rfl, e1.ap hx, T.cl_Double, T.na_Double_coefficients, (by decide : (0:Nat) < 1000), ?_⟩
    exact q _ (fun b o n e => by rw [upd_ne n]; exact e1.ap e) upd_same
theorem ok_double_of (T : Txt K mg C_Form C_Double) : Def P w K mg base 6 "double_of" ["coefficients"] (sp_double_of K C_Form C_Double) := by
  obtain ⟨f_, fd_, g_, F_⟩ := T.d_double_of
  obtain ⟨p_Double___init__, f_Double___init__, fd_Double___init__, R_Double___init__, b_Double___init__, G_Double___init__⟩ := (ok_Double___init__ (P := P) (w := w) (base := base) T)
  refine ⟨f_, fd_, g_, F_.kp, F_.binds (ps := ["coefficients"]) (fun _ _ _ _ _ _ us hl => match us, hl with | [_], _ => rfl), ?_⟩
  refine F_.ok sc_double_of (fun vs H Q E h => ?_) (fun cdv A outer s H vs Q E hr h => ?_)
  · first | (obtain ⟨rfl, _⟩ := h; rfl) | (obtain ⟨_, rfl, _⟩ := h; rfl) | (obtain ⟨_, _, rfl, _⟩ := h; rfl) | (obtain ⟨_, _, _, rfl, _⟩ := h; rfl) | (obtain ⟨_, _, _, _, rfl, _⟩ := h; rfl) | (obtain ⟨_, _, _, _, _, rfl, _⟩ := h; rfl) | (obtain ⟨_, _, _, _, _, _, rfl, _⟩ := h; rfl) | (obtain ⟨_, _, _, _, _, _, _, rfl, _⟩ := h; rfl) | (obtain ⟨_, _, _, _, _, _, _, _, rfl, _⟩ := h; rfl) | (obtain ⟨_, _, _, _, _, _, _, _, _, rfl, _⟩ := h; rfl) | (obtain ⟨_, _, _, _, _, _, _, _, _, _, rfl, _⟩ := h; rfl) | (obtain ⟨_, _, _, _, _, _, _, _, _, _, _, rfl, _⟩ := h; rfl) | (obtain ⟨_, _, _, _, _, _, _, _, _, _, _, _, rfl, _⟩ := h; rfl) | (obtain ⟨_, _, _, _, _, _, _, _, _, _, _, _, _, rfl, _⟩ := h; rfl) | (obtain ⟨_, _, _, _, _, _, _, _, _, _, _, _, _, _, rfl, _⟩ := h; rfl) | (obtain ⟨_, _, _, _, _, _, _, _, _, _, _, _, _, _, _, rfl, _⟩ := h; rfl) | (obtain ⟨_, _, _, _, _, _, _, _, _, _, _, _, _, _, _, _, rfl, _⟩ := h; rfl) | (obtain ⟨_, _, _, _, _, _, _, _, _, _, _, _, _, _, _, _, _, rfl, _⟩ := h; rfl) | (obtain ⟨_, _, _, _, _, _, _, _, _, _, _, _, _, _, _, _, _, _, rfl, _⟩ := h; rfl) | (obtain ⟨_, _, _, _, _, _, _, _, _, _, _, _, _, _, _, _, _, _, _, rfl, _⟩ := h; rfl) | (obtain ⟨_, _, _, _, _, _, _, _, _, _, _, _, _, _, _, _, _, _, _, _, rfl, _⟩ := h; rfl) | (obtain ⟨_, _, _, _, _, _, _, _, _, _, _, _, _, _, _, _, _, _, _, _, _, rfl, _⟩ := h; rfl) | (obtain ⟨_, _, _, _, _, _, _, _, _, _, _, _, _, _, _, _, _, _, _, _, _, _, rfl, _⟩ := h; rfl) | (obtain ⟨_, _, _, _, _, _, _, _, _, _, _, _, _, _, _, _, _, _, _, _, _, _, _, rfl, _⟩ := h; rfl)
  · obtain ⟨t, ns, rfl, ht, q⟩ := h
    refine ⟨_, (pss_cons (ps_set (i := 1) sc_double_of.nd rfl (.inl rfl) (pe_make R_Double___init__ G_Double___init__ (hr.mono (by decide)) (by rfl) T.g_Double b_Double___init__ .nil pass0 (pa_cons (pe_tup (pa_cons pe_int (pa_cons pe_int (pa_cons pe_int pa_nil)))) pa_nil)))
    (pss_cons (ps_fld (pv 1) (pv 0) (by rfl))
    (pss_one (ps_ret (pv 1))))), ?_⟩
    refine ⟨sl3, fun t0 n0 => ?_⟩
    intro x dx nx ndx ne
    have e0 : Ex0 H (upd H t0 (.tup [.int 0, .int 0, .int 0])) := Ex0.new n0
    have hx0 : H x = none := Fx.free e0 (fun z => z) nx
    have hd0 : H dx = none := Fx.free e0 (fun z => z) ndx
    have nt : t0 ≠ x := ne_of_none (show upd H t0 (.tup [.int 0, .int 0, .int 0]) t0 = some _ from upd_same) nx
    have nd : t0 ≠ dx := ne_of_none (show upd H t0 (.tup [.int 0, .int 0, .int 0]) t0 = some _ from upd_same) ndx
    refine ⟨x, dx, t0, [0, 0, 0], rfl, upd_same, ?_, rfl, fun n hn => ?_, fun H' e1 e2 => ⟨rfl, ?_⟩⟩
    · show (upd (upd (upd H t0 _) dx _) x _) t0 = _
      rw [upd_ne nt, upd_ne nd]
      exact upd_same
    · have : n = 0 := by simpa using hn
      rw [this]
      exact ⟨by decide, by decide⟩
    refine ⟨_, rfl, _, rfl, x, C_Double, dx, _, rfl, e2, T.cl_Double, T.na_Double_coefficients, (by decide : (1:Nat) < 1000), ?_⟩
    refine ⟨_, rfl, ?_⟩
    have ex : ∀ b o, H b = some o → b ≠ x ∧ H' b = some o := fun b o e => by
      have n1 : b ≠ x := ne_of_none e hx0
      have n2 : b ≠ dx := ne_of_none e hd0
      refine ⟨n1, e1 b o n1 ?_⟩
      rw [upd_ne n1, upd_ne n2]
      exact e0.ap e
    refine q x _ (Ex0.of fun b o e => ?_) ⟨dx, t, ?_, ?_⟩
    · rw [upd_ne (ex b o e).1]
      exact (ex b o e).2
    · rw [upd_same, putF_same]
    · show (upd H' x _) t = _
      rw [upd_ne (ex _ _ ht).1]
      exact (ex _ _ ht).2
theorem ok_Double_coefficients (T : Txt K mg C_Form C_Double) : MDef (fun p f => PropOf K C_Double "coefficients" p f) P w K mg base 1 ["self"] (sp_Double_coefficients K C_Form C_Double) := by
  obtain ⟨p_, f_, fd_, R_, F_⟩ := T.e_Double_coefficients
  refine ⟨p_, f_, fd_, R_, F_.binds (ps := ["self"]) (fun _ _ _ _ _ _ us hl => match us, hl with | [_], _ => rfl), ?_⟩
  refine F_.ok sc_Double_coefficients (fun vs H Q E h => ?_) (fun cdv A outer s H vs Q E hr h => ?_)
  · first | (obtain ⟨rfl, _⟩ := h; rfl) | (obtain ⟨_, rfl, _⟩ := h; rfl) | (obtain ⟨_, _, rfl, _⟩ := h; rfl) | (obtain ⟨_, _, _, rfl, _⟩ := h; rfl) | (obtain ⟨_, _, _, _, rfl, _⟩ := h; rfl) | (obtain ⟨_, _, _, _, _, rfl, _⟩ := h; rfl) | (obtain ⟨_, _, _, _, _, _, rfl, _⟩ := h; rfl) | (obtain ⟨_, _, _, _, _, _, _, rfl, _⟩ := h; rfl) | (obtain ⟨_, _, _, _, _, _, _, _, rfl, _⟩ := h; rfl) | (obtain ⟨_, _, _, _, _, _, _, _, _, rfl, _⟩ := h; rfl) | (obtain ⟨_, _, _, _, _, _, _, _, _, _, rfl, _⟩ := h; rfl) | (obtain ⟨_, _, _, _, _, _, _, _, _, _, _, rfl, _⟩ := h; rfl) | (obtain ⟨_, _, _, _, _, _, _, _, _, _, _, _, rfl, _⟩ := h; rfl) | (obtain ⟨_, _, _, _, _, _, _, _, _, _, _, _, _, rfl, _⟩ := h; rfl) | (obtain ⟨_, _, _, _, _, _, _, _, _, _, _, _, _, _, rfl, _⟩ := h; rfl) | (obtain ⟨_, _, _, _, _, _, _, _, _, _, _, _, _, _, _, rfl, _⟩ := h; rfl) | (obtain ⟨_, _, _, _, _, _, _, _, _, _, _, _, _, _, _, _, rfl, _⟩ := h; rfl) | (obtain ⟨_, _, _, _, _, _, _, _, _, _, _, _, _, _, _, _, _, rfl, _⟩ := h; rfl) | (obtain ⟨_, _, _, _, _, _, _, _, _, _, _, _, _, _, _, _, _, _, rfl, _⟩ := h; rfl) | (obtain ⟨_, _, _, _, _, _, _, _, _, _, _, _, _, _, _, _, _, _, _, rfl, _⟩ := h; rfl) | (obtain ⟨_, _, _, _, _, _, _, _, _, _, _, _, _, _, _, _, _, _, _, _, rfl, _⟩ := h; rfl) | (obtain ⟨_, _, _, _, _, _, _, _, _, _, _, _, _, _, _, _, _, _, _, _, _, rfl, _⟩ := h; rfl) | (obtain ⟨_, _, _, _, _, _, _, _, _, _, _, _, _, _, _, _, _, _, _, _, _, _, rfl, _⟩ := h; rfl) | (obtain ⟨_, _, _, _, _, _, _, _, _, _, _, _, _, _, _, _, _, _, _, _, _, _, _, rfl, _⟩ := h; rfl)
  · obtain ⟨x, ns, rfl, ⟨dx, t, hx, ht⟩, q⟩ := h
    refine ⟨_, (pss_one (ps_ret (pe_fld (pv 0) (by rfl)))), ?_⟩
    exact ⟨_, rfl, x, C_Double, dx, _, .ref t, rfl, hx, T.cl_Double, T.na_Double_coefficients, lk_same, q t ht⟩
theorem ok_Double_discriminant (T : Txt K mg C_Form C_Double) : MDef (fun p f => PropOf K C_Double "discriminant" p f) P w K mg base 2 ["self"] (sp_Double_discriminant K C_Form C_Double) := by
  obtain ⟨p_, f_, fd_, R_, F_⟩ := T.e_Double_discriminant
  obtain ⟨f_double_discriminant, fd_double_discriminant, g_double_discriminant, k_double_discriminant, b_double_discriminant, G_double_discriminant⟩ := (ok_double_discriminant (P := P) (w := w) (base := base) T)
  refine ⟨p_, f_, fd_, R_, F_.binds (ps := ["self"]) (fun _ _ _ _ _ _ us hl => match us, hl with | [_], _ => rfl), ?_⟩
  refine F_.ok sc_Double_discriminant (fun vs H Q E h => ?_) (fun cdv A outer s H vs Q E hr h => ?_)
  · first | (obtain ⟨rfl, _⟩ := h; rfl) | (obtain ⟨_, rfl, _⟩ := h; rfl) | (obtain ⟨_, _, rfl, _⟩ := h; rfl) | (obtain ⟨_, _, _, rfl, _⟩ := h; rfl) | (obtain ⟨_, _, _, _, rfl, _⟩ := h; rfl) | (obtain ⟨_, _, _, _, _, rfl, _⟩ := h; rfl) | (obtain ⟨_, _, _, _, _, _, rfl, _⟩ := h; rfl) | (obtain ⟨_, _, _, _, _, _, _, rfl, _⟩ := h; rfl) | (obtain ⟨_, _, _, _, _, _, _, _, rfl, _⟩ := h; rfl) | (obtain ⟨_, _, _, _, _, _, _, _, _, rfl, _⟩ := h; rfl) | (obtain ⟨_, _, _, _, _, _, _, _, _, _, rfl, _⟩ := h; rfl) | (obtain ⟨_, _, _, _, _, _, _, _, _, _, _, rfl, _⟩ := h; rfl) | (obtain ⟨_, _, _, _, _, _, _, _, _, _, _, _, rfl, _⟩ := h; rfl) | (obtain ⟨_, _, _, _, _, _, _, _, _, _, _, _, _, rfl, _⟩ := h; rfl) | (obtain ⟨_, _, _, _, _, _, _, _, _, _, _, _, _, _, rfl, _⟩ := h; rfl) | (obtain ⟨_, _, _, _, _, _, _, _, _, _, _, _, _, _, _, rfl, _⟩ := h; rfl) | (obtain ⟨_, _, _, _, _, _, _, _, _, _, _, _, _, _, _, _, rfl, _⟩ := h; rfl) | (obtain ⟨_, _, _, _, _, _, _, _, _, _, _, _, _, _, _, _, _, rfl, _⟩ := h; rfl) | (obtain ⟨_, _, _, _, _, _, _, _, _, _, _, _, _, _, _, _, _, _, rfl, _⟩ := h; rfl) | (obtain ⟨_, _, _, _, _, _, _, _, _, _, _, _, _, _, _, _, _, _, _, rfl, _⟩ := h; rfl) | (obtain ⟨_, _, _, _, _, _, _, _, _, _, _, _, _, _, _, _, _, _, _, _, rfl, _⟩ := h; rfl) | (obtain ⟨_, _, _, _, _, _, _, _, _, _, _, _, _, _, _, _, _, _, _, _, _, rfl, _⟩ := h; rfl) | (obtain ⟨_, _, _, _, _, _, _, _, _, _, _, _, _, _, _, _, _, _, _, _, _, _, rfl, _⟩ := h; rfl) | (obtain ⟨_, _, _, _, _, _, _, _, _, _, _, _, _, _, _, _, _, _, _, _, _, _, _, rfl, _⟩ := h; rfl)
  · obtain ⟨x, a, b, c, rfl, ⟨dx, t, hx, ht⟩, ba, bb, bc, q⟩ := h
    refine ⟨_, (pss_one (ps_ret (pe_call G_double_discriminant (hr.mono (by decide)) (by rfl) g_double_discriminant k_double_discriminant b_double_discriminant .nil pass0 (pa_cons (pe_fld (pv 0) (by rfl)) pa_nil)))), ?_⟩
    exact ⟨_, rfl, x, C_Double, dx, _, .ref t, rfl, hx, T.cl_Double, T.na_Double_coefficients, lk_same, t, a, b, c, rfl, ht, ba, bb, bc, q⟩
theorem ok_Form_hessian (T : Txt K mg C_Form C_Double) : MDef (fun p f => PropOf K C_Form "hessian" p f) P w K mg base 7 ["self"] (sp_Form_hessian K C_Form C_Double) := by
  obtain ⟨p_, f_, fd_, R_, F_⟩ := T.e_Form_hessian
  obtain ⟨f_double_of, fd_double_of, g_double_of, k_double_of, b_double_of, G_double_of⟩ := (ok_double_of (P := P) (w := w) (base := base) T)
  obtain ⟨f_form_hessian, fd_form_hessian, g_form_hessian, k_form_hessian, b_form_hessian, G_form_hessian⟩ := (ok_form_hessian (P := P) (w := w) (base := base) T)
  refine ⟨p_, f_, fd_, R_, F_.binds (ps := ["self"]) (fun _ _ _ _ _ _ us hl => match us, hl with | [_], _ => rfl), ?_⟩
  refine F_.ok sc_Form_hessian (fun vs H Q E h => ?_) (fun cdv A outer s H vs Q E hr h => ?_)
  · first | (obtain ⟨rfl, _⟩ := h; rfl) | (obtain ⟨_, rfl, _⟩ := h; rfl) | (obtain ⟨_, _, rfl, _⟩ := h; rfl) | (obtain ⟨_, _, _, rfl, _⟩ := h; rfl) | (obtain ⟨_, _, _, _, rfl, _⟩ := h; rfl) | (obtain ⟨_, _, _, _, _, rfl, _⟩ := h; rfl) | (obtain ⟨_, _, _, _, _, _, rfl, _⟩ := h; rfl) | (obtain ⟨_, _, _, _, _, _, _, rfl, _⟩ := h; rfl) | (obtain ⟨_, _, _, _, _, _, _, _, rfl, _⟩ := h; rfl) | (obtain ⟨_, _, _, _, _, _, _, _, _, rfl, _⟩ := h; rfl) | (obtain ⟨_, _, _, _, _, _, _, _, _, _, rfl, _⟩ := h; rfl) | (obtain ⟨_, _, _, _, _, _, _, _, _, _, _, rfl, _⟩ := h; rfl) | (obtain ⟨_, _, _, _, _, _, _, _, _, _, _, _, rfl, _⟩ := h; rfl) | (obtain ⟨_, _, _, _, _, _, _, _, _, _, _, _, _, rfl, _⟩ := h; rfl) | (obtain ⟨_, _, _, _, _, _, _, _, _, _, _, _, _, _, rfl, _⟩ := h; rfl) | (obtain ⟨_, _, _, _, _, _, _, _, _, _, _, _, _, _, _, rfl, _⟩ := h; rfl) | (obtain ⟨_, _, _, _, _, _, _, _, _, _, _, _, _, _, _, _, rfl, _⟩ := h; rfl) | (obtain ⟨_, _, _, _, _, _, _, _, _, _, _, _, _, _, _, _, _, rfl, _⟩ := h; rfl) | (obtain ⟨_, _, _, _, _, _, _, _, _, _, _, _, _, _, _, _, _, _, rfl, _⟩ := h; rfl) | (obtain ⟨_, _, _, _, _, _, _, _, _, _, _, _, _, _, _, _, _, _, _, rfl, _⟩ := h; rfl) | (obtain ⟨_, _, _, _, _, _, _, _, _, _, _, _, _, _, _, _, _, _, _, _, rfl, _⟩ := h; rfl) | (obtain ⟨_, _, _, _, _, _, _, _, _, _, _, _, _, _, _, _, _, _, _, _, _, rfl, _⟩ := h; rfl) | (obtain ⟨_, _, _, _, _, _, _, _, _, _, _, _, _, _, _, _, _, _, _, _, _, _, rfl, _⟩ := h; rfl) | (obtain ⟨_, _, _, _, _, _, _, _, _, _, _, _, _, _, _, _, _, _, _, _, _, _, _, rfl, _⟩ := h; rfl)
  · obtain ⟨z, a, b, c, d, rfl, ⟨dx, t, hx, ht⟩, ba, bb, bc, bd, q⟩ := h
    refine ⟨_, (pss_one (ps_ret (pe_call G_double_of (hr.mono (by decide)) (by rfl) g_double_of k_double_of b_double_of .nil pass0 (pa_cons (pe_call G_form_hessian (hr.mono (by decide)) (by rfl) g_form_hessian k_form_hessian b_form_hessian .nil pass0 (pa_cons (pe_fld (pv 0) (by rfl)) pa_nil)) pa_nil)))), ?_⟩
    refine ⟨_, rfl, z, C_Form, dx, _, .ref t, rfl, hx, T.cl_Form, T.na_Form_coefficients, lk_same, t, a, b, c, d, rfl, ht, ba, bb, bc, bd, fun x H2 e2 hx2 => ?_⟩
    exact ⟨x, _, rfl, hx2, fun y H3 e3 hy => q y H3 (e2.trans e3) hy⟩
theorem ok_Form_covariant (T : Txt K mg C_Form C_Double) : MDef (fun p f => PropOf K C_Form "covariant" p f) P w K mg base 7 ["self"] (sp_Form_covariant K C_Form C_Double) := by
  obtain ⟨p_, f_, fd_, R_, F_⟩ := T.e_Form_covariant
  obtain ⟨f_form_covariant, fd_form_covariant, g_form_covariant, k_form_covariant, b_form_covariant, G_form_covariant⟩ := (ok_form_covariant (P := P) (w := w) (base := base) T)
  obtain ⟨f_form_of, fd_form_of, g_form_of, k_form_of, b_form_of, G_form_of⟩ := (ok_form_of (P := P) (w := w) (base := base) T)
  refine ⟨p_, f_, fd_, R_, F_.binds (ps := ["self"]) (fun _ _ _ _ _ _ us hl => match us, hl with | [_], _ => rfl), ?_⟩
  refine F_.ok sc_Form_covariant (fun vs H Q E h => ?_) (fun cdv A outer s H vs Q E hr h => ?_)
  · first | (obtain ⟨rfl, _⟩ := h; rfl) | (obtain ⟨_, rfl, _⟩ := h; rfl) | (obtain ⟨_, _, rfl, _⟩ := h; rfl) | (obtain ⟨_, _, _, rfl, _⟩ := h; rfl) | (obtain ⟨_, _, _, _, rfl, _⟩ := h; rfl) | (obtain ⟨_, _, _, _, _, rfl, _⟩ := h; rfl) | (obtain ⟨_, _, _, _, _, _, rfl, _⟩ := h; rfl) | (obtain ⟨_, _, _, _, _, _, _, rfl, _⟩ := h; rfl) | (obtain ⟨_, _, _, _, _, _, _, _, rfl, _⟩ := h; rfl) | (obtain ⟨_, _, _, _, _, _, _, _, _, rfl, _⟩ := h; rfl) | (obtain ⟨_, _, _, _, _, _, _, _, _, _, rfl, _⟩ := h; rfl) | (obtain ⟨_, _, _, _, _, _, _, _, _, _, _, rfl, _⟩ := h; rfl) | (obtain ⟨_, _, _, _, _, _, _, _, _, _, _, _, rfl, _⟩ := h; rfl) | (obtain ⟨_, _, _, _, _, _, _, _, _, _, _, _, _, rfl, _⟩ := h; rfl) | (obtain ⟨_, _, _, _, _, _, _, _, _, _, _, _, _, _, rfl, _⟩ := h; rfl) | (obtain ⟨_, _, _, _, _, _, _, _, _, _, _, _, _, _, _, rfl, _⟩ := h; rfl) | (obtain ⟨_, _, _, _, _, _, _, _, _, _, _, _, _, _, _, _, rfl, _⟩ := h; rfl) | (obtain ⟨_, _, _, _, _, _, _, _, _, _, _, _, _, _, _, _, _, rfl, _⟩ := h; rfl) | (obtain ⟨_, _, _, _, _, _, _, _, _, _, _, _, _, _, _, _, _, _, rfl, _⟩ := h; rfl) | (obtain ⟨_, _, _, _, _, _, _, _, _, _, _, _, _, _, _, _, _, _, _, rfl, _⟩ := h; rfl) | (obtain ⟨_, _, _, _, _, _, _, _, _, _, _, _, _, _, _, _, _, _, _, _, rfl, _⟩ := h; rfl) | (obtain ⟨_, _, _, _, _, _, _, _, _, _, _, _, _, _, _, _, _, _, _, _, _, rfl, _⟩ := h; rfl) | (obtain ⟨_, _, _, _, _, _, _, _, _, _, _, _, _, _, _, _, _, _, _, _, _, _, rfl, _⟩ := h; rfl) | (obtain ⟨_, _, _, _, _, _, _, _, _, _, _, _, _, _, _, _, _, _, _, _, _, _, _, rfl, _⟩ := h; rfl)
  · obtain ⟨z, a, b, c, d, rfl, ⟨dx, t, hx, ht⟩, ba, bb, bc, bd, q⟩ := h
    refine ⟨_, (pss_one (ps_ret (pe_call G_form_of (hr.mono (by decide)) (by rfl) g_form_of k_form_of b_form_of .nil pass0 (pa_cons (pe_call G_form_covariant (hr.mono (by decide)) (by rfl) g_form_covariant k_form_covariant b_form_covariant .nil pass0 (pa_cons (pe_fld (pv 0) (by rfl)) pa_nil)) pa_nil)))), ?_⟩
    refine ⟨_, rfl, z, C_Form, dx, _, .ref t, rfl, hx, T.cl_Form, T.na_Form_coefficients, lk_same, t, a, b, c, d, rfl, ht, ba, bb, bc, bd, fun x H2 e2 hx2 => ?_⟩
    exact ⟨x, _, rfl, hx2, fun y H3 e3 hy => q y H3 (e2.trans e3) hy⟩
theorem ok_Form_content (T : Txt K mg C_Form C_Double) : MDef (fun p f => PropOf K C_Form "content" p f) P w K mg base 2 ["self"] (sp_Form_content K C_Form C_Double) := by
  obtain ⟨p_, f_, fd_, R_, F_⟩ := T.e_Form_content
  obtain ⟨f_shared_divisor, fd_shared_divisor, g_shared_divisor, k_shared_divisor, b_shared_divisor, G_shared_divisor⟩ := (ok_shared_divisor (P := P) (w := w) (base := base) T)
  refine ⟨p_, f_, fd_, R_, F_.binds (ps := ["self"]) (fun _ _ _ _ _ _ us hl => match us, hl with | [_], _ => rfl), ?_⟩
  refine F_.ok sc_Form_content (fun vs H Q E h => ?_) (fun cdv A outer s H vs Q E hr h => ?_)
  · first | (obtain ⟨rfl, _⟩ := h; rfl) | (obtain ⟨_, rfl, _⟩ := h; rfl) | (obtain ⟨_, _, rfl, _⟩ := h; rfl) | (obtain ⟨_, _, _, rfl, _⟩ := h; rfl) | (obtain ⟨_, _, _, _, rfl, _⟩ := h; rfl) | (obtain ⟨_, _, _, _, _, rfl, _⟩ := h; rfl) | (obtain ⟨_, _, _, _, _, _, rfl, _⟩ := h; rfl) | (obtain ⟨_, _, _, _, _, _, _, rfl, _⟩ := h; rfl) | (obtain ⟨_, _, _, _, _, _, _, _, rfl, _⟩ := h; rfl) | (obtain ⟨_, _, _, _, _, _, _, _, _, rfl, _⟩ := h; rfl) | (obtain ⟨_, _, _, _, _, _, _, _, _, _, rfl, _⟩ := h; rfl) | (obtain ⟨_, _, _, _, _, _, _, _, _, _, _, rfl, _⟩ := h; rfl) | (obtain ⟨_, _, _, _, _, _, _, _, _, _, _, _, rfl, _⟩ := h; rfl) | (obtain ⟨_, _, _, _, _, _, _, _, _, _, _, _, _, rfl, _⟩ := h; rfl) | (obtain ⟨_, _, _, _, _, _, _, _, _, _, _, _, _, _, rfl, _⟩ := h; rfl) | (obtain ⟨_, _, _, _, _, _, _, _, _, _, _, _, _, _, _, rfl, _⟩ := h; rfl) | (obtain ⟨_, _, _, _, _, _, _, _, _, _, _, _, _, _, _, _, rfl, _⟩ := h; rfl) | (obtain ⟨_, _, _, _, _, _, _, _, _, _, _, _, _, _, _, _, _, rfl, _⟩ := h; rfl) | (obtain ⟨_, _, _, _, _, _, _, _, _, _, _, _, _, _, _, _, _, _, rfl, _⟩ := h; rfl) | (obtain ⟨_, _, _, _, _, _, _, _, _, _, _, _, _, _, _, _, _, _, _, rfl, _⟩ := h; rfl) | (obtain ⟨_, _, _, _, _, _, _, _, _, _, _, _, _, _, _, _, _, _, _, _, rfl, _⟩ := h; rfl) | (obtain ⟨_, _, _, _, _, _, _, _, _, _, _, _, _, _, _, _, _, _, _, _, _, rfl, _⟩ := h; rfl) | (obtain ⟨_, _, _, _, _, _, _, _, _, _, _, _, _, _, _, _, _, _, _, _, _, _, rfl, _⟩ := h; rfl) | (obtain ⟨_, _, _, _, _, _, _, _, _, _, _, _, _, _, _, _, _, _, _, _, _, _, _, rfl, _⟩ := h; rfl)
  · obtain ⟨x, ns, rfl, ⟨dx, t, hx, ht⟩, q⟩ := h
    refine ⟨_, (pss_one (ps_ret (pe_call G_shared_divisor (hr.mono (by decide)) (by rfl) g_shared_divisor k_shared_divisor b_shared_divisor .nil pass0 (pa_cons (pe_fld (pv 0) (by rfl)) pa_nil)))), ?_⟩
    exact ⟨_, rfl, x, C_Form, dx, _, .ref t, rfl, hx, T.cl_Form, T.na_Form_coefficients, lk_same, t, ns, rfl, ht, q⟩
theorem ok_Form___neg__ (T : Txt K mg C_Form C_Double) : MDef (fun p f => Meth K C_Form "__neg__" f) P w K mg base 7 ["self"] (sp_Form___neg__ K C_Form C_Double) := by
  obtain ⟨p_, f_, fd_, R_, F_⟩ := T.e_Form___neg__
  obtain ⟨f_form_of, fd_form_of, g_form_of, k_form_of, b_form_of, G_form_of⟩ := (ok_form_of (P := P) (w := w) (base := base) T)
  refine ⟨p_, f_, fd_, R_, F_.binds (ps := ["self"]) (fun _ _ _ _ _ _ us hl => match us, hl with | [_], _ => rfl), ?_⟩
  refine F_.ok sc_Form___neg__ (fun vs H Q E h => ?_) (fun cdv A outer s H vs Q E hr h => ?_)
  · first | (obtain ⟨rfl, _⟩ := h; rfl) | (obtain ⟨_, rfl, _⟩ := h; rfl) | (obtain ⟨_, _, rfl, _⟩ := h; rfl) | (obtain ⟨_, _, _, rfl, _⟩ := h; rfl) | (obtain ⟨_, _, _, _, rfl, _⟩ := h; rfl) | (obtain ⟨_, _, _, _, _, rfl, _⟩ := h; rfl) | (obtain ⟨_, _, _, _, _, _, rfl, _⟩ := h; rfl) | (obtain ⟨_, _, _, _, _, _, _, rfl, _⟩ := h; rfl) | (obtain ⟨_, _, _, _, _, _, _, _, rfl, _⟩ := h; rfl) | (obtain ⟨_, _, _, _, _, _, _, _, _, rfl, _⟩ := h; rfl) | (obtain ⟨_, _, _, _, _, _, _, _, _, _, rfl, _⟩ := h; rfl) | (obtain ⟨_, _, _, _, _, _, _, _, _, _, _, rfl, _⟩ := h; rfl) | (obtain ⟨_, _, _, _, _, _, _, _, _, _, _, _, rfl, _⟩ := h; rfl) | (obtain ⟨_, _, _, _, _, _, _, _, _, _, _, _, _, rfl, _⟩ := h; rfl) | (obtain ⟨_, _, _, _, _, _, _, _, _, _, _, _, _, _, rfl, _⟩ := h; rfl) | (obtain ⟨_, _, _, _, _, _, _, _, _, _, _, _, _, _, _, rfl, _⟩ := h; rfl) | (obtain ⟨_, _, _, _, _, _, _, _, _, _, _, _, _, _, _, _, rfl, _⟩ := h; rfl) | (obtain ⟨_, _, _, _, _, _, _, _, _, _, _, _, _, _, _, _, _, rfl, _⟩ := h; rfl) | (obtain ⟨_, _, _, _, _, _, _, _, _, _, _, _, _, _, _, _, _, _, rfl, _⟩ := h; rfl) | (obtain ⟨_, _, _, _, _, _, _, _, _, _, _, _, _, _, _, _, _, _, _, rfl, _⟩ := h; rfl) | (obtain ⟨_, _, _, _, _, _, _, _, _, _, _, _, _, _, _, _, _, _, _, _, rfl, _⟩ := h; rfl) | (obtain ⟨_, _, _, _, _, _, _, _, _, _, _, _, _, _, _, _, _, _, _, _, _, rfl, _⟩ := h; rfl) | (obtain ⟨_, _, _, _, _, _, _, _, _, _, _, _, _, _, _, _, _, _, _, _, _, _, rfl, _⟩ := h; rfl) | (obtain ⟨_, _, _, _, _, _, _, _, _, _, _, _, _, _, _, _, _, _, _, _, _, _, _, rfl, _⟩ := h; rfl)
  · obtain ⟨z, ns, rfl, ⟨dx, t, hx, ht⟩, hl, q⟩ := h
    refine ⟨_, (pss_one (ps_ret (pe_call G_form_of (hr.mono (by decide)) (by rfl) g_form_of k_form_of b_form_of .nil pass0 (pa_cons (pe_callTy call_tuple_of (by rfl) T.b_tuple (by decide +kernel) (pa_cons (pe_lc (own := [("number", 1)]) (g := (gName 1)) rfl sc_Form___neg__.nd (pi_tup (pe_fld (pv 0) (by rfl))) (blkOk_by (N := N_Form___neg__) (sc := defScope s_Form___neg__) (by decide +kernel)) (fun _ _ _ _ _ => (pg_name (i := 1) sc_Form___neg__.nd rfl (.inl rfl))) (fun _ _ _ _ _ => pts_nil) (fun _ _ _ _ _ => (pe_un un_neg (pv 1)))) pa_nil)) pa_nil)))), ?_⟩
    refine ⟨_, rfl, z, C_Form, dx, _, .ref t, rfl, hx, T.cl_Form, T.na_Form_coefficients, lk_same, t, rfl, ⟨_, SqT.of ht⟩, ?_⟩
    refine lcT fm0 trivial (SqT.of ht) (fun z => z) (fun i acc _ => acc = ((ns.take i).map fun n => -n).map V.int) (fun _ _ => rfl) (fun D i x acc H' hD hx' e hA hlen hp => ?_) (fun D H' acc hD e hA hp => ?_)
    · obtain ⟨n, hn, rfl⟩ := get_int hx'
      have hi := (List.getElem?_eq_some_iff.mp hn).1
      refine ⟨rfl, ?_⟩
      refine ⟨_, rfl, n, rfl, ?_⟩
      refine cs_yes fm0 trivial hD e hA hlen (by omega) (Fx.refl trivial) ?_
      rw [hp, List.take_add_one, hn, List.map_append, List.map_append]
      rfl
    · rw [List.length_map, List.take_length] at hp
      subst hp
      refine ⟨D, _, rfl, .inl ⟨SqL.of hA, fun p np => ?_⟩⟩
      exact ⟨p, ns.map fun n => -n, rfl, upd_same, fun x H3 e3 hx3 => q x H3 ((e.trans (Ex0.new np)).trans e3) hx3⟩
theorem ok_Form___eq__ (T : Txt K mg C_Form C_Double) : MDef (fun p f => EqC K C_Form f) P w K mg base 1 ["self", "other"] (sp_Form___eq__ K C_Form C_Double) := by
  obtain ⟨p_, f_, fd_, R_, F_⟩ := T.e_Form___eq__
  refine ⟨p_, f_, fd_, R_, F_.binds (ps := ["self", "other"]) (fun _ _ _ _ _ _ us hl => match us, hl with | [_, _], _ => rfl), ?_⟩
  refine F_.ok sc_Form___eq__ (fun vs H Q E h => ?_) (fun cdv A outer s H vs Q E hr h => ?_)
  · first | (obtain ⟨rfl, _⟩ := h; rfl) | (obtain ⟨_, rfl, _⟩ := h; rfl) | (obtain ⟨_, _, rfl, _⟩ := h; rfl) | (obtain ⟨_, _, _, rfl, _⟩ := h; rfl) | (obtain ⟨_, _, _, _, rfl, _⟩ := h; rfl) | (obtain ⟨_, _, _, _, _, rfl, _⟩ := h; rfl) | (obtain ⟨_, _, _, _, _, _, rfl, _⟩ := h; rfl) | (obtain ⟨_, _, _, _, _, _, _, rfl, _⟩ := h; rfl) | (obtain ⟨_, _, _, _, _, _, _, _, rfl, _⟩ := h; rfl) | (obtain ⟨_, _, _, _, _, _, _, _, _, rfl, _⟩ := h; rfl) | (obtain ⟨_, _, _, _, _, _, _, _, _, _, rfl, _⟩ := h; rfl) | (obtain ⟨_, _, _, _, _, _, _, _, _, _, _, rfl, _⟩ := h; rfl) | (obtain ⟨_, _, _, _, _, _, _, _, _, _, _, _, rfl, _⟩ := h; rfl) | (obtain ⟨_, _, _, _, _, _, _, _, _, _, _, _, _, rfl, _⟩ := h; rfl) | (obtain ⟨_, _, _, _, _, _, _, _, _, _, _, _, _, _, rfl, _⟩ := h; rfl) | (obtain ⟨_, _, _, _, _, _, _, _, _, _, _, _, _, _, _, rfl, _⟩ := h; rfl) | (obtain ⟨_, _, _, _, _, _, _, _, _, _, _, _, _, _, _, _, rfl, _⟩ := h; rfl) | (obtain ⟨_, _, _, _, _, _, _, _, _, _, _, _, _, _, _, _, _, rfl, _⟩ := h; rfl) | (obtain ⟨_, _, _, _, _, _, _, _, _, _, _, _, _, _, _, _, _, _, rfl, _⟩ := h; rfl) | (obtain ⟨_, _, _, _, _, _, _, _, _, _, _, _, _, _, _, _, _, _, _, rfl, _⟩ := h; rfl) | (obtain ⟨_, _, _, _, _, _, _, _, _, _, _, _, _, _, _, _, _, _, _, _, rfl, _⟩ := h; rfl) | (obtain ⟨_, _, _, _, _, _, _, _, _, _, _, _, _, _, _, _, _, _, _, _, _, rfl, _⟩ := h; rfl) | (obtain ⟨_, _, _, _, _, _, _, _, _, _, _, _, _, _, _, _, _, _, _, _, _, _, rfl, _⟩ := h; rfl) | (obtain ⟨_, _, _, _, _, _, _, _, _, _, _, _, _, _, _, _, _, _, _, _, _, _, _, rfl, _⟩ := h; rfl)
  · obtain ⟨x, y, ns, ms, rfl, ⟨dx, t, hx, ht⟩, ⟨dy, u, hy, hu⟩, q⟩ := h
    refine ⟨_, (pss_one (ps_ret (pe_and (pe_callB call_isi (by rfl) T.b_isinstance (by decide +kernel) (pa_cons (pv 1) (pa_cons (pe_glob (v := .ref C_Form) (by rfl) T.g_Form rfl) pa_nil))) (pe_one (pe_cmpR (op_eqD hr.units) (pe_fld (pv 0) (by rfl)) (pe_fld (pv 1) (by rfl)) (nomark _)))))), ?_⟩
    refine ⟨_, rfl, _, _, _, _, true, rfl, .own _, ty_ins T.ty_Form T.cl_Form hy, kit_self, _, rfl, ?_⟩
    refine ⟨_, rfl, x, C_Form, dx, _, .ref t, rfl, hx, T.cl_Form, T.na_Form_coefficients, lk_same, _, rfl, y, C_Form, dy, _, .ref u, rfl, hy, T.cl_Form, T.na_Form_coefficients, lk_same, ?_⟩
    refine ⟨.tuple (ns.map .int), .tuple (ms.map .int), .tup (SqT.of ht) (dp_ints _), .tup (SqT.of hu) (dp_ints _), shaped_tints _, shaped_tints _, ?_⟩
    rw [PyData.eqv, eqv_ints]
    exact q
theorem ok_Double_content (T : Txt K mg C_Form C_Double) : MDef (fun p f => PropOf K C_Double "content" p f) P w K mg base 2 ["self"] (sp_Double_content K C_Form C_Double) := by
  obtain ⟨p_, f_, fd_, R_, F_⟩ := T.e_Double_content
  obtain ⟨f_shared_divisor, fd_shared_divisor, g_shared_divisor, k_shared_divisor, b_shared_divisor, G_shared_divisor⟩ := (ok_shared_divisor (P := P) (w := w) (base := base) T)
  refine ⟨p_, f_, fd_, R_, F_.binds (ps := ["self"]) (fun _ _ _ _ _ _ us hl => match us, hl with | [_], _ => rfl), ?_⟩
  refine F_.ok sc_Double_content (fun vs H Q E h => ?_) (fun cdv A outer s H vs Q E hr h => ?_)
  · first | (obtain ⟨rfl, _⟩ := h; rfl) | (obtain ⟨_, rfl, _⟩ := h; rfl) | (obtain ⟨_, _, rfl, _⟩ := h; rfl) | (obtain ⟨_, _, _, rfl, _⟩ := h; rfl) | (obtain ⟨_, _, _, _, rfl, _⟩ := h; rfl) | (obtain ⟨_, _, _, _, _, rfl, _⟩ := h; rfl) | (obtain ⟨_, _, _, _, _, _, rfl, _⟩ := h; rfl) | (obtain ⟨_, _, _, _, _, _, _, rfl, _⟩ := h; rfl) | (obtain ⟨_, _, _, _, _, _, _, _, rfl, _⟩ := h; rfl) | (obtain ⟨_, _, _, _, _, _, _, _, _, rfl, _⟩ := h; rfl) | (obtain ⟨_, _, _, _, _, _, _, _, _, _, rfl, _⟩ := h; rfl) | (obtain ⟨_, _, _, _, _, _, _, _, _, _, _, rfl, _⟩ := h; rfl) | (obtain ⟨_, _, _, _, _, _, _, _, _, _, _, _, rfl, _⟩ := h; rfl) | (obtain ⟨_, _, _, _, _, _, _, _, _, _, _, _, _, rfl, _⟩ := h; rfl) | (obtain ⟨_, _, _, _, _, _, _, _, _, _, _, _, _, _, rfl, _⟩ := h; rfl) | (obtain ⟨_, _, _, _, _, _, _, _, _, _, _, _, _, _, _, rfl, _⟩ := h; rfl) | (obtain ⟨_, _, _, _, _, _, _, _, _, _, _, _, _, _, _, _, rfl, _⟩ := h; rfl) | (obtain ⟨_, _, _, _, _, _, _, _, _, _, _, _, _, _, _, _, _, rfl, _⟩ := h; rfl) | (obtain ⟨_, _, _, _, _, _, _, _, _, _, _, _, _, _, _, _, _, _, rfl, _⟩ := h; rfl) | (obtain ⟨_, _, _, _, _, _, _, _, _, _, _, _, _, _, _, _, _, _, _, rfl, _⟩ := h; rfl) | (obtain ⟨_, _, _, _, _, _, _, _, _, _, _, _, _, _, _, _, _, _, _, _, rfl, _⟩ := h; rfl) | (obtain ⟨_, _, _, _, _, _, _, _, _, _, _, _, _, _, _, _, _, _, _, _, _, rfl, _⟩ := h; rfl) | (obtain ⟨_, _, _, _, _, _, _, _, _, _, _, _, _, _, _, _, _, _, _, _, _, _, rfl, _⟩ := h; rfl) | (obtain ⟨_, _, _, _, _, _, _, _, _, _, _, _, _, _, _, _, _, _, _, _, _, _, _, rfl, _⟩ := h; rfl)
  · obtain ⟨x, ns, rfl, ⟨dx, t, hx, ht⟩, q⟩ := h
    refine ⟨_, (pss_one (ps_ret (pe_call G_shared_divisor (hr.mono (by decide)) (by rfl) g_shared_divisor k_shared_divisor b_shared_divisor .nil pass0 (pa_cons (pe_fld (pv 0) (by rfl)) pa_nil)))), ?_⟩
    exact ⟨_, rfl, x, C_Double, dx, _, .ref t, rfl, hx, T.cl_Double, T.na_Double_coefficients, lk_same, t, ns, rfl, ht, q⟩
theorem ok_Form_times (T : Txt K mg C_Form C_Double) : MDef (fun p f => Meth K C_Form "times" f) P w K mg base 7 ["self", "number"] (sp_Form_times K C_Form C_Double) := by
  obtain ⟨p_, f_, fd_, R_, F_⟩ := T.e_Form_times
  obtain ⟨f_check_integer, fd_check_integer, g_check_integer, k_check_integer, b_check_integer, G_check_integer⟩ := (ok_check_integer (P := P) (w := w) (base := base) T)
  obtain ⟨f_form_of, fd_form_of, g_form_of, k_form_of, b_form_of, G_form_of⟩ := (ok_form_of (P := P) (w := w) (base := base) T)
  refine ⟨p_, f_, fd_, R_, F_.binds (ps := ["self", "number"]) (fun _ _ _ _ _ _ us hl => match us, hl with | [_, _], _ => rfl), ?_⟩
  refine F_.ok sc_Form_times (fun vs H Q E h => ?_) (fun cdv A outer s H vs Q E hr h => ?_)
  · first | (obtain ⟨rfl, _⟩ := h; rfl) | (obtain ⟨_, rfl, _⟩ := h; rfl) | (obtain ⟨_, _, rfl, _⟩ := h; rfl) | (obtain ⟨_, _, _, rfl, _⟩ := h; rfl) | (obtain ⟨_, _, _, _, rfl, _⟩ := h; rfl) | (obtain ⟨_, _, _, _, _, rfl, _⟩ := h; rfl) | (obtain ⟨_, _, _, _, _, _, rfl, _⟩ := h; rfl) | (obtain ⟨_, _, _, _, _, _, _, rfl, _⟩ := h; rfl) | (obtain ⟨_, _, _, _, _, _, _, _, rfl, _⟩ := h; rfl) | (obtain ⟨_, _, _, _, _, _, _, _, _, rfl, _⟩ := h; rfl) | (obtain ⟨_, _, _, _, _, _, _, _, _, _, rfl, _⟩ := h; rfl) | (obtain ⟨_, _, _, _, _, _, _, _, _, _, _, rfl, _⟩ := h; rfl) | (obtain ⟨_, _, _, _, _, _, _, _, _, _, _, _, rfl, _⟩ := h; rfl) | (obtain ⟨_, _, _, _, _, _, _, _, _, _, _, _, _, rfl, _⟩ := h; rfl) | (obtain ⟨_, _, _, _, _, _, _, _, _, _, _, _, _, _, rfl, _⟩ := h; rfl) | (obtain ⟨_, _, _, _, _, _, _, _, _, _, _, _, _, _, _, rfl, _⟩ := h; rfl) | (obtain ⟨_, _, _, _, _, _, _, _, _, _, _, _, _, _, _, _, rfl, _⟩ := h; rfl) | (obtain ⟨_, _, _, _, _, _, _, _, _, _, _, _, _, _, _, _, _, rfl, _⟩ := h; rfl) | (obtain ⟨_, _, _, _, _, _, _, _, _, _, _, _, _, _, _, _, _, _, rfl, _⟩ := h; rfl) | (obtain ⟨_, _, _, _, _, _, _, _, _, _, _, _, _, _, _, _, _, _, _, rfl, _⟩ := h; rfl) | (obtain ⟨_, _, _, _, _, _, _, _, _, _, _, _, _, _, _, _, _, _, _, _, rfl, _⟩ := h; rfl) | (obtain ⟨_, _, _, _, _, _, _, _, _, _, _, _, _, _, _, _, _, _, _, _, _, rfl, _⟩ := h; rfl) | (obtain ⟨_, _, _, _, _, _, _, _, _, _, _, _, _, _, _, _, _, _, _, _, _, _, rfl, _⟩ := h; rfl) | (obtain ⟨_, _, _, _, _, _, _, _, _, _, _, _, _, _, _, _, _, _, _, _, _, _, _, rfl, _⟩ := h; rfl)
  · obtain ⟨z, ns, n, rfl, hz, hl, sn, hb, q⟩ := h
    obtain ⟨dx, t, hx, ht⟩ := id hz
    refine ⟨_, (pss_cons (ps_expr (pe_call G_check_integer (hr.mono (by decide)) (by rfl) g_check_integer k_check_integer b_check_integer .nil pass0 (pa_cons (pv 1) pa_nil)))
    (pss_one (ps_ret (pe_call G_form_of (hr.mono (by decide)) (by rfl) g_form_of k_form_of b_form_of .nil pass0 (pa_cons (pe_callTy call_tuple_of (by rfl) T.b_tuple (by decide +kernel) (pa_cons (pe_lc (own := [("coefficient", 2)]) (g := (gName 2)) rfl sc_Form_times.nd (pi_tup (pe_fld (pv 0) (by rfl))) (blkOk_by (N := N_Form_times) (sc := defScope s_Form_times) (by decide +kernel)) (fun _ _ _ _ _ => (pg_name (i := 2) sc_Form_times.nd rfl (.inl rfl))) (fun _ _ _ _ _ => pts_nil) (fun _ _ _ _ _ => (pe_op op_mulW (pv 2) (pv 1)))) pa_nil)) pa_nil))))), ?_⟩
    refine ⟨_, rfl, n, rfl, sn, ?_⟩
    refine ⟨_, rfl, z, C_Form, dx, _, .ref t, rfl, hx, T.cl_Form, T.na_Form_coefficients, lk_same, t, rfl, ⟨_, SqT.of ht⟩, ?_⟩
    refine lcT fm0 trivial (SqT.of ht) (fun z => z) (fun i acc _ => acc = ((ns.take i).map fun x => x * n).map V.int) (fun _ _ => rfl) (fun D i x acc H' hD hx' e hA hlen hp => ?_) (fun D H' acc hD e hA hp => ?_)
    · obtain ⟨m, hm, rfl⟩ := get_int hx'
      have hi := (List.getElem?_eq_some_iff.mp hm).1
      refine ⟨rfl, ?_⟩
      refine ⟨_, rfl, _, rfl, _, _, rfl, rfl, mulB (hb _ (List.mem_of_getElem? hm)) sn.b (by decide), ?_⟩
      refine cs_yes fm0 trivial hD e hA hlen (by omega) (Fx.refl trivial) ?_
      rw [hp, List.take_add_one, hm, List.map_append, List.map_append]
      rfl
    · rw [List.length_map, List.take_length] at hp
      subst hp
      refine ⟨D, _, rfl, .inl ⟨SqL.of hA, fun p np => ?_⟩⟩
      exact ⟨p, ns.map fun x => x * n, rfl, upd_same, fun x H3 e3 hx3 => q x H3 ((e.trans (Ex0.new np)).trans e3) hx3⟩
end
end K09
namespace K09
open PySem PySem.Spec PyProof.Rows L2 Fr
open K05M (fv fl2 fl3 fdisc)
open K06M
def sp_Form_divided (_ : PySem.W.Frag) (C C_D : Addr) : Sp := fun vs H Q _ => ∃ (z : Addr) (xs : List Int) (n : Int), vs = [.ref z, .int n] ∧ FormAt C H z (xs.map fun x => x * n) ∧ xs.length ≤ 1000 ∧ n ≠ 0 ∧ n.natAbs < 1073741824 ∧ ∀ x H', Ex0 H H' → FormAt C H' x xs → Q (.ref x) H'
section
variable {P : Program} {w : World} {K : PySem.W.Frag} {mg : Str → Option Value} {base : Heap} {C_Form C_Double : Addr}
theorem ok_Form_divided (T : Txt K mg C_Form C_Double) : MDef (fun p f => Meth K C_Form "divided" f) P w K mg base 7 ["self", "number"] (sp_Form_divided K C_Form C_Double) := by
  obtain ⟨p_, f_, fd_, R_, F_⟩ := T.e_Form_divided
  obtain ⟨f_check_integer, fd_check_integer, g_check_integer, k_check_integer, b_check_integer, G_check_integer⟩ := (ok_check_integer (P := P) (w := w) (base := base) T)
  obtain ⟨f_form_of, fd_form_of, g_form_of, k_form_of, b_form_of, G_form_of⟩ := (ok_form_of (P := P) (w := w) (base := base) T)
  refine ⟨p_, f_, fd_, R_, F_.binds (ps := ["self", "number"]) (fun _ _ _ _ _ _ us hl => match us, hl with | [_, _], _ => rfl), ?_⟩
  refine F_.ok sc_Form_divided (fun vs H Q E h => ?_) (fun cdv A outer s H vs Q E hr h => ?_)
  · first | (obtain ⟨rfl, _⟩ := h; rfl) | (obtain ⟨_, rfl, _⟩ := h; rfl) | (obtain ⟨_, _, rfl, _⟩ := h; rfl) | (obtain ⟨_, _, _, rfl, _⟩ := h; rfl) | (obtain ⟨_, _, _, _, rfl, _⟩ := h; rfl) | (obtain ⟨_, _, _, _, _, rfl, _⟩ := h; rfl) | (obtain ⟨_, _, _, _, _, _, rfl, _⟩ := h; rfl) | (obtain ⟨_, _, _, _, _, _, _, rfl, _⟩ := h; rfl) | (obtain ⟨_, _, _, _, _, _, _, _, rfl, _⟩ := h; rfl) | (obtain ⟨_, _, _, _, _, _, _, _, _, rfl, _⟩ := h; rfl) | (obtain ⟨_, _, _, _, _, _, _, _, _, _, rfl, _⟩ := h; rfl) | (obtain ⟨_, _, _, _, _, _, _, _, _, _, _, rfl, _⟩ := h; rfl) | (obtain ⟨_, _, _, _, _, _, _, _, _, _, _, _, rfl, _⟩ := h; rfl) | (obtain ⟨_, _, _, _, _, _, _, _, _, _, _, _, _, rfl, _⟩ := h; rfl) | (obtain ⟨_, _, _, _, _, _, _, _, _, _, _, _, _, _, rfl, _⟩ := h; rfl) | (obtain ⟨_, _, _, _, _, _, _, _, _, _, _, _, _, _, _, rfl, _⟩ := h; rfl) | (obtain ⟨_, _, _, _, _, _, _, _, _, _, _, _, _, _, _, _, rfl, _⟩ := h; rfl) | (obtain ⟨_, _, _, _, _, _, _, _, _, _, _, _, _, _, _, _, _, rfl, _⟩ := h; rfl) | (obtain ⟨_, _, _, _, _, _, _, _, _, _, _, _, _, _, _, _, _, _, rfl, _⟩ := h; rfl) | (obtain ⟨_, _, _, _, _, _, _, _, _, _, _, _, _, _, _, _, _, _, _, rfl, _⟩ := h; rfl) | (obtain ⟨_, _, _, _, _, _, _, _, _, _, _, _, _, _, _, _, _, _, _, _, rfl, _⟩ := h; rfl) | (obtain ⟨_, _, _, _, _, _, _, _, _, _, _, _, _, _, _, _, _, _, _, _, _, rfl, _⟩ := h; rfl) | (obtain ⟨_, _, _, _, _, _, _, _, _, _, _, _, _, _, _, _, _, _, _, _, _, _, rfl, _⟩ := h; rfl) | (obtain ⟨_, _, _, _, _, _, _, _, _, _, _, _, _, _, _, _, _, _, _, _, _, _, _, rfl, _⟩ := h; rfl)
  · obtain ⟨z, xs, n, rfl, hz, hl, n0, hb, q⟩ := h
    obtain ⟨dx, t, hx, ht⟩ := id hz
    refine ⟨_, (pss_cons (ps_expr (pe_call G_check_integer (hr.mono (by decide)) (by rfl) g_check_integer k_check_integer b_check_integer .nil pass0 (pa_cons (pv 1) pa_nil)))
    (pss_cons (ps_if (pt_cmpR op_eq (pv 1) pe_int (nomark _))
      pss_never
      pss_nil)
    (pss_cons (ps_if (pt_not (pt_val (pe_callB (cr_all rfl) (by rfl) T.b_all (by decide +kernel) (pa_cons (pe_lc (own := [("coefficient", 2)]) (g := (gName 2)) rfl sc_Form_divided.nd (pi_tup (pe_fld (pv 0) (by rfl))) (blkOk_by (N := N_Form_divided) (sc := defScope s_Form_divided) (by decide +kernel)) (fun _ _ _ _ _ => (pg_name (i := 2) sc_Form_divided.nd rfl (.inl rfl))) (fun _ _ _ _ _ => pts_nil) (fun _ _ _ _ _ => (pe_cmpR op_eq (pe_op op_modN (pv 2) (pv 1)) pe_int (nomark _)))) pa_nil))))
      pss_never
      pss_nil)
    (pss_one (ps_ret (pe_call G_form_of (hr.mono (by decide)) (by rfl) g_form_of k_form_of b_form_of .nil pass0 (pa_cons (pe_callTy call_tuple_of (by rfl) T.b_tuple (by decide +kernel) (pa_cons (pe_lc (own := [("coefficient", 2)]) (g := (gName 2)) rfl sc_Form_divided.nd (pi_tup (pe_fld (pv 0) (by rfl))) (blkOk_by (N := N_Form_divided) (sc := defScope s_Form_divided) (by decide +kernel)) (fun _ _ _ _ _ => (pg_name (i := 2) sc_Form_divided.nd rfl (.inl rfl))) (fun _ _ _ _ _ => pts_nil) (fun _ _ _ _ _ => (pe_op op_fdivN (pv 2) (pv 1)))) pa_nil)) pa_nil))))))), ?_⟩
    have sn : Short n := ⟨by omega, by omega⟩
    have lm : (xs.map fun x => x * n).length = xs.length := List.length_map _
    refine ⟨_, rfl, n, rfl, sn, ?_⟩
    refine ⟨_, rfl, rfl, _, rfl, iteE (fun h => absurd h n0) (fun _ => ?_)⟩
    refine ⟨_, rfl, z, C_Form, dx, _, .ref t, rfl, hx, T.cl_Form, T.na_Form_coefficients, lk_same, t, rfl, ⟨_, SqT.of ht⟩, ?_⟩
    refine lcT fm0 trivial (SqT.of ht) (fun z => z) (fun i acc _ => acc = (List.replicate i true).map V.bl) (fun _ _ => rfl) (fun D i x acc H' hD hx' e hA hlen hp => ?_) (fun D H' acc hD e hA hp => ?_)
    · obtain ⟨m, hm, rfl⟩ := get_int hx'
      have hi := (List.getElem?_eq_some_iff.mp hm).1
      obtain ⟨y, hy, rfl⟩ : ∃ y, xs[i]? = some y ∧ m = y * n := by
        rw [List.getElem?_map] at hm
        cases e : xs[i]? with
        | none => rw [e] at hm; cases hm
        | some y => rw [e] at hm; exact ⟨y, rfl, (Option.some.inj hm).symm⟩
      refine ⟨rfl, ?_⟩
      refine ⟨_, rfl, _, rfl, _, _, rfl, rfl, n0, rfl, ?_⟩
      rw [show decide ((fun i j => V.int (i.fmod j)) (y * n) n = V.int 0) = true from decide_eq_true (congrArg V.int (Int.mul_fmod_left y n))]
      refine cs_yes fm0 trivial hD e hA hlen (by omega) (Fx.refl trivial) ?_
      rw [hp, List.replicate_succ', List.map_append]
      rfl
    · refine ⟨D, List.replicate (List.map V.int (List.map (fun x => x * n) xs)).length true, rfl, SqL.of (by rw [hA, hp]), _, rfl, ?_⟩
      rw [show ∀ k : Nat, ((List.replicate k true).all id) = true from fun k => by simp]
      refine iteF ?_
      have hx2 := Ex0.ap e hx
      have ht2 := Ex0.ti e ht
      refine ⟨_, rfl, z, C_Form, dx, _, .ref t, rfl, hx2, T.cl_Form, T.na_Form_coefficients, lk_same, t, rfl, ⟨_, SqT.of ht2⟩, ?_⟩
      refine lcT fm0 trivial (SqT.of ht2) (fun z => z) (fun i acc _ => acc = (xs.take i).map V.int) (fun _ _ => rfl) (fun D i x acc H2 hD hx' e2 hA hlen hp => ?_) (fun D H2 acc hD e2 hA hp => ?_)
      · obtain ⟨m, hm, rfl⟩ := get_int hx'
        have hi := (List.getElem?_eq_some_iff.mp hm).1
        obtain ⟨y, hy, rfl⟩ : ∃ y, xs[i]? = some y ∧ m = y * n := by
          rw [List.getElem?_map] at hm
          cases e : xs[i]? with
          | none => rw [e] at hm; cases hm
          | some y => rw [e] at hm; exact ⟨y, rfl, (Option.some.inj hm).symm⟩
        refine ⟨rfl, ?_⟩
        refine ⟨_, rfl, _, rfl, _, _, rfl, rfl, ⟨n0, hb⟩, ?_⟩
        rw [show (fun i j => V.int (i.fdiv j)) (y * n) n = V.int y from congrArg V.int (Int.mul_fdiv_cancel _ n0)]
        refine cs_yes fm0 trivial hD e2 hA hlen (by omega) (Fx.refl trivial) ?_
        rw [hp, List.take_add_one, hy, List.map_append]
        rfl
      · rw [List.length_map, lm, List.take_length] at hp
        subst hp
        refine ⟨D, _, rfl, .inl ⟨SqL.of hA, fun p np => ?_⟩⟩
        exact ⟨p, xs, rfl, upd_same, fun x H3 e3 hx3 => q x H3 (((e.trans e2).trans (Ex0.new np)).trans e3) hx3⟩
end
end K09
namespace K09
open PySem PySem.Spec PyProof.Rows L2 Fr
open K05M (fv fl2 fl3 fdisc)
open K06M
def Gd (i : Nat) (p q r s : Int) : Prop := p.natAbs ≤ 2 ^ (20 * i) ∧ q.natAbs ≤ 2 ^ (20 * i) ∧ r.natAbs ≤ 2 ^ (20 * i) ∧ s.natAbs ≤ 2 ^ (20 * i) ∧ (p * s - q * r = 1 ∨ p * s - q * r = -1)
def sp_l_sense (_ : PySem.W.Frag) (_ _ : Addr) : Sp := fun vs H Q _ => ∃ (a : Addr) (p q r s : Int), vs = [.ref a] ∧ T4 H a p q r s ∧ B 400 p ∧ B 400 q ∧ B 400 r ∧ B 400 s ∧ Q (.int (p * s - q * r)) H
def sp_l_common (_ : PySem.W.Frag) (_ _ : Addr) : Sp := fun vs H Q _ => ∃ (a : Addr) (ns : List Int), vs = [.ref a] ∧ Ti H a ns ∧ Q (.int (gcdL ns : Nat)) H
def sp_l_many (_ : PySem.W.Frag) (_ _ : Addr) : Sp := fun vs H Q _ => ∃ (n : Int) (a : Addr) (xs : List Int), vs = [.int n, .ref a] ∧ Ti H a xs ∧ B 100000 n ∧ (∀ x ∈ xs, B 100000 x) ∧ xs.length ≤ 1000 ∧ ∀ t H', Ex0 H H' → Ti H' t (xs.map fun x => n * x) → Q (.ref t) H'
def sp_l_cask (K : PySem.W.Frag) (_ _ : Addr) : Sp := fun vs H Q _ => ∃ (a : Addr) (ns : List Int) (i : Nat), vs = [.ref a, .int (i : Int)] ∧ SqL K H a (ns.map V.int) ∧ ∀ p H', H p = none → Ex0 H H' → Vat p H' → Q (.ref p) H'
def sp_l_tap (_ : PySem.W.Frag) (_ _ : Addr) : Sp := fun vs H Q _ => ∃ (c : Addr) (t : Int), vs = [.ref c, .int t] ∧ Vat c H ∧ 0 < t ∧ t < 2 ^ 250 ∧ ∀ (r : Int) H', 0 ≤ r → r < t → Fv c H H' → Q (.int r) H'
def sp_l_one (K : PySem.W.Frag) (_ _ : Addr) : Sp := fun vs H Q _ => ∃ (c l : Addr) (xs : List V), vs = [.ref c, .ref l] ∧ Vat c H ∧ H l = some (.lst xs) ∧ l ≠ c ∧ xs ≠ [] ∧ xs.length ≤ 1000 ∧ ∀ v H', v ∈ xs → Fv c H H' → Q v H'
def sp_l_number (_ : PySem.W.Frag) (_ _ : Addr) : Sp := fun vs H Q _ => ∃ c : Addr, vs = [.ref c] ∧ Vat c H ∧ ∀ (n : Int) H', n.natAbs ≤ 10000000000000000000000000 → Fv c H H' → Q (.int n) H'
def sp_l_entry (_ : PySem.W.Frag) (_ _ : Addr) : Sp := fun vs H Q _ => ∃ c : Addr, vs = [.ref c] ∧ Vat c H ∧ ∀ (n : Int) H', n.natAbs ≤ 100000000000000000 → Fv c H H' → Q (.int n) H'
def sp_l_numbers (_ : PySem.W.Frag) (_ _ : Addr) : Sp := fun vs H Q _ => ∃ (c : Addr) (k : Nat), vs = [.ref c, .int (k : Int)] ∧ Vat c H ∧ k ≤ 1000 ∧ ∀ (t : Addr) (ns : List Int) H', Fv c H H' → Ti H' t ns → ns.length = k → (∀ n ∈ ns, n.natAbs ≤ 10000000000000000000000000) → Q (.ref t) H'
def sp_l_then (_ : PySem.W.Frag) (_ _ : Addr) : Sp := fun vs H Q _ => ∃ (a b : Addr) (p q r s i j k m : Int), vs = [.ref a, .ref b] ∧ T4 H a p q r s ∧ T4 H b i j k m ∧ B 400 p ∧ B 400 q ∧ B 400 r ∧ B 400 s ∧ B 400 i ∧ B 400 j ∧ B 400 k ∧ B 400 m ∧ ∀ x H', Ex0 H H' → T4 H' x (i * p + j * r) (i * q + j * s) (k * p + m * r) (k * q + m * s) → Q (.ref x) H'
def sp_l_change (_ : PySem.W.Frag) (_ _ : Addr) : Sp := fun vs H Q _ => ∃ (c : Addr) (t : Nat), vs = [.ref c, .int (t : Int)] ∧ Vat c H ∧ t ≤ 4 ∧ ∀ x p q r s H', Fv c H H' → T4 H' x p q r s → Gd t p q r s → Q (.ref x) H'
theorem Gd.b {i : Nat} {p q r s : Int} (h : Gd i p q r s) (hi : i ≤ 4) : B 81 p ∧ B 81 q ∧ B 81 r ∧ B 81 s := by
  have h1 : 2 ^ (20 * i) < 2 ^ 81 := Nat.pow_lt_pow_right (by decide) (by omega)
  obtain ⟨a, b, c, d, _⟩ := h
  exact ⟨⟨Nat.lt_of_le_of_lt a h1, by decide⟩, ⟨Nat.lt_of_le_of_lt b h1, by decide⟩, ⟨Nat.lt_of_le_of_lt c h1, by decide⟩, ⟨Nat.lt_of_le_of_lt d h1, by decide⟩⟩
theorem Gd.mono {i j : Nat} {p q r s : Int} (h : Gd i p q r s) (hi : i ≤ j) : Gd j p q r s := by
  have h1 : 2 ^ (20 * i) ≤ 2 ^ (20 * j) := Nat.pow_le_pow_right (by decide) (by omega)
  obtain ⟨a, b, c, d, e⟩ := h
  exact ⟨Nat.le_trans a h1, Nat.le_trans b h1, Nat.le_trans c h1, Nat.le_trans d h1, e⟩
def Pl (i j k m : Int) : Prop := ∃ z : Int, z.natAbs ≤ 1000098 ∧ ((i = 1 ∧ j = z ∧ k = 0 ∧ m = 1) ∨ (i = 1 ∧ j = 0 ∧ k = z ∧ m = 1) ∨ (i = 0 ∧ j = 1 ∧ k = 1 ∧ m = 0) ∨ (i = -1 ∧ j = 0 ∧ k = 0 ∧ m = 1) ∨ (i = 0 ∧ j = 1 ∧ k = -1 ∧ m = 0))
theorem near {M : Nat} {x y z : Int} (hx : x.natAbs ≤ M) (hy : y.natAbs ≤ M) (hz : z.natAbs ≤ 1000098) : (x + z * y).natAbs ≤ M * 1048576 := by
  have h1 : (z * y).natAbs ≤ 1000098 * M := by rw [Int.natAbs_mul]; exact Nat.mul_le_mul hz hy
  omega
theorem Gd.step {n : Nat} {p q r s i j k m : Int} (h : Gd n p q r s) (g : Pl i j k m) : Gd (n + 1) (i * p + j * r) (i * q + j * s) (k * p + m * r) (k * q + m * s) := by
  obtain ⟨a, b, c, d, e⟩ := h
  obtain ⟨z, hz, g⟩ := g
  unfold Gd
  rw [show 20 * (n + 1) = 20 * n + 20 by omega, Nat.pow_add, show (2 : Nat) ^ 20 = 1048576 by decide]
  generalize 2 ^ (20 * n) = M at *
  have hM : M ≤ M * 1048576 := by omega
  have one : ∀ x : Int, x.natAbs ≤ M → x.natAbs ≤ M * 1048576 := fun x hx => Nat.le_trans hx hM
  have det : (i * p + j * r) * (k * q + m * s) - (i * q + j * s) * (k * p + m * r) = (i * m - j * k) * (p * s - q * r) := by grind
  have dd : ∀ u : Int, i * m - j * k = u → (u = 1 ∨ u = -1) → ((i * p + j * r) * (k * q + m * s) - (i * q + j * s) * (k * p + m * r) = 1 ∨ (i * p + j * r) * (k * q + m * s) - (i * q + j * s) * (k * p + m * r) = -1) := fun u hu hv => by
    rw [det, hu]
    rcases hv with rfl | rfl <;> rcases e with e | e <;> rw [e] <;> decide
  rcases g with ⟨rfl, rfl, rfl, rfl⟩ | ⟨rfl, rfl, rfl, rfl⟩ | ⟨rfl, rfl, rfl, rfl⟩ | ⟨rfl, rfl, rfl, rfl⟩ | ⟨rfl, rfl, rfl, rfl⟩
  · refine ⟨?_, ?_, ?_, ?_, dd 1 (by omega) (.inl rfl)⟩
    · rw [Int.one_mul]; exact near a c hz
    · rw [Int.one_mul]; exact near b d hz
    · rw [show 0 * p + 1 * r = r by omega]; exact one _ c
    · rw [show 0 * q + 1 * s = s by omega]; exact one _ d
  · refine ⟨?_, ?_, ?_, ?_, dd 1 (by omega) (.inl rfl)⟩
    · rw [show 1 * p + 0 * r = p by omega]; exact one _ a
    · rw [show 1 * q + 0 * s = q by omega]; exact one _ b
    · rw [Int.one_mul, Int.add_comm]; exact near c a hz
    · rw [Int.one_mul, Int.add_comm]; exact near d b hz
  · refine ⟨?_, ?_, ?_, ?_, dd (-1) (by decide) (.inr rfl)⟩
    · rw [show 0 * p + 1 * r = r by omega]; exact one _ c
    · rw [show 0 * q + 1 * s = s by omega]; exact one _ d
    · rw [show 1 * p + 0 * r = p by omega]; exact one _ a
    · rw [show 1 * q + 0 * s = q by omega]; exact one _ b
  · refine ⟨?_, ?_, ?_, ?_, dd (-1) (by decide) (.inr rfl)⟩
    · rw [show -1 * p + 0 * r = -p by omega, Int.natAbs_neg]; exact one _ a
    · rw [show -1 * q + 0 * s = -q by omega, Int.natAbs_neg]; exact one _ b
    · rw [show 0 * p + 1 * r = r by omega]; exact one _ c
    · rw [show 0 * q + 1 * s = s by omega]; exact one _ d
  · refine ⟨?_, ?_, ?_, ?_, dd 1 (by decide) (.inl rfl)⟩
    · rw [show 0 * p + 1 * r = r by omega]; exact one _ c
    · rw [show 0 * q + 1 * s = s by omega]; exact one _ d
    · rw [show -1 * p + 0 * r = -p by omega, Int.natAbs_neg]; exact one _ a
    · rw [show -1 * q + 0 * s = -q by omega, Int.natAbs_neg]; exact one _ b
theorem Pl.b {i j k m : Int} (g : Pl i j k m) : B 400 i ∧ B 400 j ∧ B 400 k ∧ B 400 m := by
  obtain ⟨z, hz, g⟩ := g
  have bz : B 400 z := ⟨Nat.lt_of_le_of_lt hz (by decide), by decide⟩
  have b0 : B 400 0 := ⟨by decide, by decide⟩
  have b1 : B 400 1 := ⟨by decide, by decide⟩
  have b2 : B 400 (-1) := ⟨by decide, by decide⟩
  rcases g with ⟨rfl, rfl, rfl, rfl⟩ | ⟨rfl, rfl, rfl, rfl⟩ | ⟨rfl, rfl, rfl, rfl⟩ | ⟨rfl, rfl, rfl, rfl⟩ | ⟨rfl, rfl, rfl, rfl⟩ <;> refine ⟨?_, ?_, ?_, ?_⟩ <;> assumption
section
variable {P : Program} {w : World} {K : PySem.W.Frag} {mg : Str → Option Value} {base : Heap} {C_Form C_Double : Addr}
theorem ok_l_cask (T : Txt K mg C_Form C_Double) : Def P w K mg base 1 "_law_cask" ["_law_script", "_law_spot"] (sp_l_cask K C_Form C_Double) := by
  obtain ⟨f_, fd_, g_, F_⟩ := T.d_l_cask
  refine ⟨f_, fd_, g_, F_.kp, F_.binds (ps := ["_law_script", "_law_spot"]) (fun _ _ _ _ _ _ us hl => match us, hl with | [_, _], _ => rfl), ?_⟩
  refine F_.ok sc_l_cask (fun vs H Q E h => ?_) (fun cdv A outer s H vs Q E hr h => ?_)
  · first | (obtain ⟨rfl, _⟩ := h; rfl) | (obtain ⟨_, rfl, _⟩ := h; rfl) | (obtain ⟨_, _, rfl, _⟩ := h; rfl) | (obtain ⟨_, _, _, rfl, _⟩ := h; rfl) | (obtain ⟨_, _, _, _, rfl, _⟩ := h; rfl) | (obtain ⟨_, _, _, _, _, rfl, _⟩ := h; rfl) | (obtain ⟨_, _, _, _, _, _, rfl, _⟩ := h; rfl) | (obtain ⟨_, _, _, _, _, _, _, rfl, _⟩ := h; rfl) | (obtain ⟨_, _, _, _, _, _, _, _, rfl, _⟩ := h; rfl) | (obtain ⟨_, _, _, _, _, _, _, _, _, rfl, _⟩ := h; rfl) | (obtain ⟨_, _, _, _, _, _, _, _, _, _, rfl, _⟩ := h; rfl) | (obtain ⟨_, _, _, _, _, _, _, _, _, _, _, rfl, _⟩ := h; rfl) | (obtain ⟨_, _, _, _, _, _, _, _, _, _, _, _, rfl, _⟩ := h; rfl) | (obtain ⟨_, _, _, _, _, _, _, _, _, _, _, _, _, rfl, _⟩ := h; rfl) | (obtain ⟨_, _, _, _, _, _, _, _, _, _, _, _, _, _, rfl, _⟩ := h; rfl) | (obtain ⟨_, _, _, _, _, _, _, _, _, _, _, _, _, _, _, rfl, _⟩ := h; rfl) | (obtain ⟨_, _, _, _, _, _, _, _, _, _, _, _, _, _, _, _, rfl, _⟩ := h; rfl) | (obtain ⟨_, _, _, _, _, _, _, _, _, _, _, _, _, _, _, _, _, rfl, _⟩ := h; rfl) | (obtain ⟨_, _, _, _, _, _, _, _, _, _, _, _, _, _, _, _, _, _, rfl, _⟩ := h; rfl) | (obtain ⟨_, _, _, _, _, _, _, _, _, _, _, _, _, _, _, _, _, _, _, rfl, _⟩ := h; rfl) | (obtain ⟨_, _, _, _, _, _, _, _, _, _, _, _, _, _, _, _, _, _, _, _, rfl, _⟩ := h; rfl) | (obtain ⟨_, _, _, _, _, _, _, _, _, _, _, _, _, _, _, _, _, _, _, _, _, rfl, _⟩ := h; rfl) | (obtain ⟨_, _, _, _, _, _, _, _, _, _, _, _, _, _, _, _, _, _, _, _, _, _, rfl, _⟩ := h; rfl) | (obtain ⟨_, _, _, _, _, _, _, _, _, _, _, _, _, _, _, _, _, _, _, _, _, _, _, rfl, _⟩ := h; rfl)
  · obtain ⟨a, ns, i, rfl, ha, q⟩ := h
    refine ⟨_, (Evl.pss_cut (ps_set (i := 2) sc_l_cask.nd rfl (.inl rfl) (pe_ifExp (pt_cmpR op_lt (pv 1) (pe_callB call_len_seq (by rfl) T.b_len PySem.boot_len (pa_cons (pv 0) pa_nil)) (nomark _)) (pe_callTy call_int1 (by rfl) T.b_int (by decide +kernel) (pa_cons (pe_ix ix_list (pv 0) (pv 1) (fun _ _ => rfl)) pa_nil)) (pe_op op_add (pe_op op_add (pe_op op_mul pe_int (pv 1)) pe_int) (pe_op op_mod (pe_callTy call_int1 (by rfl) T.b_int (by decide +kernel) (pa_cons (pe_callB (cr_sum rfl) (by rfl) T.b_sum (by decide +kernel) (pa_cons (pe_slice sl_list (pv 0) po_none (po_some pe_int)) pa_nil)) pa_nil)) pe_int))))
    (pss_cons (ps_set (i := 3) sc_l_cask.nd rfl (.inl rfl) (pe_op op_mod (pe_callTy call_int1 (by rfl) T.b_int (by decide +kernel) (pa_cons (pe_callB call_abs (by rfl) T.b_abs (by decide +kernel) (pa_cons (pv 2) pa_nil)) pa_nil)) (pe_op op_powC (pe_op op_pow pe_int pe_int) pe_int)))
    (pss_cons (ps_set (i := 4) sc_l_cask.nd rfl (.inl rfl) (pe_op op_mod (pe_callTy call_int1 (by rfl) T.b_int (by decide +kernel) (pa_cons (pe_op op_add (pe_op op_add (pe_op op_add (pe_op op_mul (pe_op op_mod (pv 3) pe_int) pe_int) (pe_op op_mul pe_int (pv 1))) (pe_op op_mul pe_int (pe_callTy call_int1 (by rfl) T.b_int (by decide +kernel) (pa_cons (pe_cmpR op_lt (pv 2) pe_int (nomark _)) pa_nil)))) pe_int) pa_nil)) pe_int))
    (pss_one (ps_ret (pe_lst (pa_cons (pe_callB (call_max2 rfl) (by rfl) T.b_max (by decide +kernel) (pa_cons pe_int (pa_cons (pe_op op_sub (pv 3) (pe_op op_pow pe_int pe_int)) pa_nil))) (pa_cons (pv 4) (pa_cons pe_int pa_nil))))))))), ?_⟩
    refine ⟨fun σ H' => ∃ cell : Int, σ = [some (.ref a), some (.int (i : Int)), some (.int cell), none, none] ∧ Ex0 H H', ?_, ?_⟩
    · refine ⟨_, rfl, _, rfl, a, _, rfl, .inl ha, _, _, rfl, rfl, _, rfl, iteD (fun g => ?_) (fun g => ?_)⟩
      · have hi : i < ns.length := by rw [List.length_map] at g; omega
        refine ⟨_, rfl, _, rfl, a, _, (i : Int), .int ns[i], rfl, rfl, ha, atI_nat (by rw [List.getElem?_map, List.getElem?_eq_getElem hi]; rfl), .inl ⟨_, rfl, ?_⟩⟩
        exact ⟨_, rfl, Ex0.refl H⟩
      · refine ⟨_, rfl, _, _, rfl, rfl, .inl ⟨by decide, by decide⟩, _, _, rfl, rfl, ?_⟩
        refine ⟨_, rfl, _, rfl, a, _, rfl, ha, fun p np => ?_⟩
        refine ⟨p, _, rfl, SqL.of (by rw [upd_same, cut_map]), .inl ⟨_, rfl, ?_⟩⟩
        refine ⟨_, _, rfl, rfl, (show (0 : Int) < 1000037 by decide), _, _, rfl, rfl, ?_⟩
        exact ⟨_, rfl, Ex0.new np⟩
    · rintro σ H' ⟨cell, rfl, e⟩
      refine ⟨_, rfl, cell, rfl, .inl ⟨_, rfl, ?_⟩⟩
      refine ⟨_, _, rfl, rfl, ⟨by decide, by decide, by decide⟩, _, _, rfl, rfl, ⟨by decide, by decide +kernel⟩, _, _, rfl, rfl, by show (0 : Int) < (10 ^ 57) ^ 8; decide +kernel, ?_⟩
      refine ⟨_, rfl, _, _, rfl, rfl, (show (0 : Int) < 2305843009213693907 by decide), _, _, rfl, rfl, .inr ⟨by decide, by decide⟩, _, rfl, _, _, rfl, rfl, .inl ⟨by decide, by decide⟩, _, _, rfl, rfl, ?_⟩
      refine ⟨_, rfl, _, _, rfl, rfl, .inr ⟨_, rfl, _, _, rfl, rfl, .inl ⟨by decide, by decide⟩, _, _, rfl, rfl, _, _, rfl, rfl, ?_⟩⟩
      refine .inl ⟨_, rfl, _, _, rfl, rfl, (show (0 : Int) < 2305843009213693951 by decide), ?_⟩
      refine ⟨_, rfl, _, _, rfl, rfl, ⟨by decide, by decide, by decide⟩, _, _, rfl, rfl, _, _, rfl, _, rfl, sl3, fun p hp => ?_⟩
      exact q p _ (Fx.free e (fun z => z) hp) (e.trans (Ex0.new hp)) ⟨_, _, _, upd_same⟩
theorem ok_l_tap (T : Txt K mg C_Form C_Double) : Def P w K mg base 1 "_law_tap" ["_law_cask_here", "_law_many_here"] (sp_l_tap K C_Form C_Double) := by
  obtain ⟨f_, fd_, g_, F_⟩ := T.d_l_tap
  refine ⟨f_, fd_, g_, F_.kp, F_.binds (ps := ["_law_cask_here", "_law_many_here"]) (fun _ _ _ _ _ _ us hl => match us, hl with | [_, _], _ => rfl), ?_⟩
  refine F_.ok sc_l_tap (fun vs H Q E h => ?_) (fun cdv A outer s H vs Q E hr h => ?_)
  · first | (obtain ⟨rfl, _⟩ := h; rfl) | (obtain ⟨_, rfl, _⟩ := h; rfl) | (obtain ⟨_, _, rfl, _⟩ := h; rfl) | (obtain ⟨_, _, _, rfl, _⟩ := h; rfl) | (obtain ⟨_, _, _, _, rfl, _⟩ := h; rfl) | (obtain ⟨_, _, _, _, _, rfl, _⟩ := h; rfl) | (obtain ⟨_, _, _, _, _, _, rfl, _⟩ := h; rfl) | (obtain ⟨_, _, _, _, _, _, _, rfl, _⟩ := h; rfl) | (obtain ⟨_, _, _, _, _, _, _, _, rfl, _⟩ := h; rfl) | (obtain ⟨_, _, _, _, _, _, _, _, _, rfl, _⟩ := h; rfl) | (obtain ⟨_, _, _, _, _, _, _, _, _, _, rfl, _⟩ := h; rfl) | (obtain ⟨_, _, _, _, _, _, _, _, _, _, _, rfl, _⟩ := h; rfl) | (obtain ⟨_, _, _, _, _, _, _, _, _, _, _, _, rfl, _⟩ := h; rfl) | (obtain ⟨_, _, _, _, _, _, _, _, _, _, _, _, _, rfl, _⟩ := h; rfl) | (obtain ⟨_, _, _, _, _, _, _, _, _, _, _, _, _, _, rfl, _⟩ := h; rfl) | (obtain ⟨_, _, _, _, _, _, _, _, _, _, _, _, _, _, _, rfl, _⟩ := h; rfl) | (obtain ⟨_, _, _, _, _, _, _, _, _, _, _, _, _, _, _, _, rfl, _⟩ := h; rfl) | (obtain ⟨_, _, _, _, _, _, _, _, _, _, _, _, _, _, _, _, _, rfl, _⟩ := h; rfl) | (obtain ⟨_, _, _, _, _, _, _, _, _, _, _, _, _, _, _, _, _, _, rfl, _⟩ := h; rfl) | (obtain ⟨_, _, _, _, _, _, _, _, _, _, _, _, _, _, _, _, _, _, _, rfl, _⟩ := h; rfl) | (obtain ⟨_, _, _, _, _, _, _, _, _, _, _, _, _, _, _, _, _, _, _, _, rfl, _⟩ := h; rfl) | (obtain ⟨_, _, _, _, _, _, _, _, _, _, _, _, _, _, _, _, _, _, _, _, _, rfl, _⟩ := h; rfl) | (obtain ⟨_, _, _, _, _, _, _, _, _, _, _, _, _, _, _, _, _, _, _, _, _, _, rfl, _⟩ := h; rfl) | (obtain ⟨_, _, _, _, _, _, _, _, _, _, _, _, _, _, _, _, _, _, _, _, _, _, _, rfl, _⟩ := h; rfl)
  · obtain ⟨c, t, rfl, ⟨x, y, z, hv⟩, h0, h1, q⟩ := h
    refine ⟨_, (pss_cons (ps_if (pt_cmpR op_gt (pe_ix ix_list (pv 0) pe_int (fun _ _ => rfl)) pe_int (nomark _))
      (pss_cons (ps_set (i := 2) sc_l_tap.nd rfl (.inl rfl) (pe_op op_mod (pe_callTy call_int1 (by rfl) T.b_int (by decide +kernel) (pa_cons (pe_ix ix_list (pv 0) pe_int (fun _ _ => rfl)) pa_nil)) (pv 1)))
    (pss_cons (ps_asg (pe_op op_fdivW (pe_ix ix_list (pv 0) pe_int (fun _ _ => rfl)) (pv 1)) (pg_sub (pv 0) pe_int set_list))
    (pss_one (ps_ret (pv 2)))))
      pss_nil)
    (pss_cons (ps_asg (pe_op op_add (pe_ix ix_list (pv 0) pe_int (fun _ _ => rfl)) pe_int) (pg_sub (pv 0) pe_int set_list))
    (pss_cons (ps_set (i := 3) sc_l_tap.nd rfl (.inl rfl) (pe_op op_mod (pe_callTy call_int1 (by rfl) T.b_int (by decide +kernel) (pa_cons (pe_op op_add (pe_ix ix_list (pv 0) pe_int (fun _ _ => rfl)) (pe_op op_mul pe_int (pe_ix ix_list (pv 0) pe_int (fun _ _ => rfl)))) pa_nil)) pe_int))
    (pss_cons (ps_set (i := 4) sc_l_tap.nd rfl (.inl rfl) (pe_op op_add (pe_op op_add (pe_op op_mul (pe_op op_mod (pe_callTy call_int1 (by rfl) T.b_int (by decide +kernel) (pa_cons (pe_op op_mul (pv 3) (pv 3)) pa_nil)) pe_int) pe_int) (pv 3)) (pe_op op_mul pe_int (pe_ix ix_list (pv 0) pe_int (fun _ _ => rfl)))))
    (pss_one (ps_ret (pe_op op_mod (pe_callTy call_int1 (by rfl) T.b_int (by decide +kernel) (pa_cons (pe_op op_fdivW (pv 4) pe_int) pa_nil)) (pv 1)))))))), ?_⟩
    have fv : ∀ (H' : Hp) (x' y' z' : Int), (∀ b o, b ≠ c → H b = some o → H' b = some o) → H' c = some (.lst [.int x', .int y', .int z']) → Fv c H H' := fun H' x' y' z' a b => ⟨⟨x', y', z', b⟩, a⟩
    refine ⟨_, rfl, c, _, 0, .int x, rfl, rfl, SqL.of hv, rfl, x, 0, rfl, rfl, _, rfl, iteD (fun g => ?_) (fun g => ?_)⟩
    · refine ⟨_, rfl, c, _, 0, .int x, rfl, rfl, SqL.of hv, rfl, .inl ⟨x, rfl, _, rfl, x, t, rfl, rfl, h0, ?_⟩⟩
      refine ⟨_, rfl, c, _, 0, .int x, rfl, rfl, SqL.of hv, rfl, _, rfl, x, t, rfl, rfl, dw h0 h1, ?_⟩
      refine ⟨_, rfl, c, _, 0, 0, rfl, rfl, hv, rfl, ?_⟩
      refine ⟨_, rfl, ?_⟩
      exact q _ _ (Int.emod_nonneg _ (by omega)) (Int.emod_lt_of_pos _ h0) (fv _ _ _ _ (fun b o n e => by rw [upd_ne n]; exact e) upd_same)
    · refine ⟨_, rfl, c, _, 2, .int z, rfl, rfl, SqL.of hv, rfl, _, 1, rfl, rfl, ?_⟩
      refine ⟨_, rfl, c, _, 2, 2, rfl, rfl, hv, rfl, ?_⟩
      have hv2 : upd H c (.lst [.int x, .int y, .int (z + 1)]) c = some (.lst [.int x, .int y, .int (z + 1)]) := upd_same
      refine ⟨_, rfl, c, _, 1, .int y, rfl, rfl, SqL.of hv2, rfl, _, rfl, c, _, 2, .int (z + 1), rfl, rfl, SqL.of hv2, rfl, _, _, rfl, rfl, .inl ⟨by decide, by decide⟩, _, _, rfl, rfl, .inl ⟨_, rfl, ?_⟩⟩
      refine ⟨_, _, rfl, rfl, (show (0 : Int) < 2305843009213693921 by decide), ?_⟩
      refine ⟨_, rfl, _, rfl, _, _, rfl, rfl, .inl ⟨by omega, by omega⟩, .inl ⟨_, rfl, ?_⟩⟩
      refine ⟨_, _, rfl, rfl, (show (0 : Int) < 2305843009213693951 by decide), _, _, rfl, rfl, .inr ⟨by decide, by decide⟩, ?_⟩
      refine ⟨_, rfl, _, _, rfl, rfl, _, rfl, c, _, 2, .int (z + 1), rfl, rfl, SqL.of hv2, rfl, _, _, rfl, rfl, .inl ⟨by decide, by decide⟩, _, _, rfl, rfl, ?_⟩
      refine ⟨_, rfl, _, _, rfl, rfl, dw (by decide) (by decide), .inl ⟨_, rfl, _, rfl, _, _, rfl, rfl, h0, ?_⟩⟩
      exact q _ _ (Int.emod_nonneg _ (by omega)) (Int.emod_lt_of_pos _ h0) (fv _ _ _ _ (fun b o n e => by rw [upd_ne n]; exact e) hv2)
theorem ok_l_one (T : Txt K mg C_Form C_Double) : Def P w K mg base 2 "_law_one" ["_law_cask_here", "_law_items"] (sp_l_one K C_Form C_Double) := by
  obtain ⟨f_, fd_, g_, F_⟩ := T.d_l_one
  obtain ⟨f_l_tap, fd_l_tap, g_l_tap, k_l_tap, b_l_tap, G_l_tap⟩ := (ok_l_tap (P := P) (w := w) (base := base) T)
  refine ⟨f_, fd_, g_, F_.kp, F_.binds (ps := ["_law_cask_here", "_law_items"]) (fun _ _ _ _ _ _ us hl => match us, hl with | [_, _], _ => rfl), ?_⟩
  refine F_.ok sc_l_one (fun vs H Q E h => ?_) (fun cdv A outer s H vs Q E hr h => ?_)
  · first | (obtain ⟨rfl, _⟩ := h; rfl) | (obtain ⟨_, rfl, _⟩ := h; rfl) | (obtain ⟨_, _, rfl, _⟩ := h; rfl) | (obtain ⟨_, _, _, rfl, _⟩ := h; rfl) | (obtain ⟨_, _, _, _, rfl, _⟩ := h; rfl) | (obtain ⟨_, _, _, _, _, rfl, _⟩ := h; rfl) | (obtain ⟨_, _, _, _, _, _, rfl, _⟩ := h; rfl) | (obtain ⟨_, _, _, _, _, _, _, rfl, _⟩ := h; rfl) | (obtain ⟨_, _, _, _, _, _, _, _, rfl, _⟩ := h; rfl) | (obtain ⟨_, _, _, _, _, _, _, _, _, rfl, _⟩ := h; rfl) | (obtain ⟨_, _, _, _, _, _, _, _, _, _, rfl, _⟩ := h; rfl) | (obtain ⟨_, _, _, _, _, _, _, _, _, _, _, rfl, _⟩ := h; rfl) | (obtain ⟨_, _, _, _, _, _, _, _, _, _, _, _, rfl, _⟩ := h; rfl) | (obtain ⟨_, _, _, _, _, _, _, _, _, _, _, _, _, rfl, _⟩ := h; rfl) | (obtain ⟨_, _, _, _, _, _, _, _, _, _, _, _, _, _, rfl, _⟩ := h; rfl) | (obtain ⟨_, _, _, _, _, _, _, _, _, _, _, _, _, _, _, rfl, _⟩ := h; rfl) | (obtain ⟨_, _, _, _, _, _, _, _, _, _, _, _, _, _, _, _, rfl, _⟩ := h; rfl) | (obtain ⟨_, _, _, _, _, _, _, _, _, _, _, _, _, _, _, _, _, rfl, _⟩ := h; rfl) | (obtain ⟨_, _, _, _, _, _, _, _, _, _, _, _, _, _, _, _, _, _, rfl, _⟩ := h; rfl) | (obtain ⟨_, _, _, _, _, _, _, _, _, _, _, _, _, _, _, _, _, _, _, rfl, _⟩ := h; rfl) | (obtain ⟨_, _, _, _, _, _, _, _, _, _, _, _, _, _, _, _, _, _, _, _, rfl, _⟩ := h; rfl) | (obtain ⟨_, _, _, _, _, _, _, _, _, _, _, _, _, _, _, _, _, _, _, _, _, rfl, _⟩ := h; rfl) | (obtain ⟨_, _, _, _, _, _, _, _, _, _, _, _, _, _, _, _, _, _, _, _, _, _, rfl, _⟩ := h; rfl) | (obtain ⟨_, _, _, _, _, _, _, _, _, _, _, _, _, _, _, _, _, _, _, _, _, _, _, rfl, _⟩ := h; rfl)
  · obtain ⟨c, l, xs, rfl, hc, hl, ne, hx, hz, q⟩ := h
    refine ⟨_, (pss_one (ps_ret (pe_ix ix_list (pv 1) (pe_call G_l_tap (hr.mono (by decide)) (by rfl) g_l_tap k_l_tap b_l_tap .nil pass0 (pa_cons (pv 0) (pa_cons (pe_callB call_len_seq (by rfl) T.b_len PySem.boot_len (pa_cons (pv 1) pa_nil)) pa_nil))) (fun _ _ => rfl)))), ?_⟩
    have h0 : 0 < xs.length := List.length_pos_iff.mpr hx
    refine ⟨_, rfl, _, rfl, _, rfl, l, xs, rfl, .inl (SqL.of hl), c, _, rfl, hc, by omega, by omega, fun r H' r0 r1 e => ?_⟩
    obtain ⟨j, rfl⟩ : ∃ j : Nat, r = (j : Int) := ⟨r.toNat, by omega⟩
    have hj : j < xs.length := by omega
    exact ⟨l, xs, _, xs[j], rfl, rfl, SqL.of (e.2 _ _ ne hl), atI_nat (List.getElem?_eq_getElem hj), q _ _ (List.getElem_mem hj) e⟩
theorem ok_l_number (T : Txt K mg C_Form C_Double) : Def P w K mg base 3 "_law_number" ["_law_cask_here"] (sp_l_number K C_Form C_Double) := by
  obtain ⟨f_, fd_, g_, F_⟩ := T.d_l_number
  obtain ⟨f_l_one, fd_l_one, g_l_one, k_l_one, b_l_one, G_l_one⟩ := (ok_l_one (P := P) (w := w) (base := base) T)
  obtain ⟨f_l_tap, fd_l_tap, g_l_tap, k_l_tap, b_l_tap, G_l_tap⟩ := (ok_l_tap (P := P) (w := w) (base := base) T)
  refine ⟨f_, fd_, g_, F_.kp, F_.binds (ps := ["_law_cask_here"]) (fun _ _ _ _ _ _ us hl => match us, hl with | [_], _ => rfl), ?_⟩
  refine F_.ok sc_l_number (fun vs H Q E h => ?_) (fun cdv A outer s H vs Q E hr h => ?_)
  · first | (obtain ⟨rfl, _⟩ := h; rfl) | (obtain ⟨_, rfl, _⟩ := h; rfl) | (obtain ⟨_, _, rfl, _⟩ := h; rfl) | (obtain ⟨_, _, _, rfl, _⟩ := h; rfl) | (obtain ⟨_, _, _, _, rfl, _⟩ := h; rfl) | (obtain ⟨_, _, _, _, _, rfl, _⟩ := h; rfl) | (obtain ⟨_, _, _, _, _, _, rfl, _⟩ := h; rfl) | (obtain ⟨_, _, _, _, _, _, _, rfl, _⟩ := h; rfl) | (obtain ⟨_, _, _, _, _, _, _, _, rfl, _⟩ := h; rfl) | (obtain ⟨_, _, _, _, _, _, _, _, _, rfl, _⟩ := h; rfl) | (obtain ⟨_, _, _, _, _, _, _, _, _, _, rfl, _⟩ := h; rfl) | (obtain ⟨_, _, _, _, _, _, _, _, _, _, _, rfl, _⟩ := h; rfl) | (obtain ⟨_, _, _, _, _, _, _, _, _, _, _, _, rfl, _⟩ := h; rfl) | (obtain ⟨_, _, _, _, _, _, _, _, _, _, _, _, _, rfl, _⟩ := h; rfl) | (obtain ⟨_, _, _, _, _, _, _, _, _, _, _, _, _, _, rfl, _⟩ := h; rfl) | (obtain ⟨_, _, _, _, _, _, _, _, _, _, _, _, _, _, _, rfl, _⟩ := h; rfl) | (obtain ⟨_, _, _, _, _, _, _, _, _, _, _, _, _, _, _, _, rfl, _⟩ := h; rfl) | (obtain ⟨_, _, _, _, _, _, _, _, _, _, _, _, _, _, _, _, _, rfl, _⟩ := h; rfl) | (obtain ⟨_, _, _, _, _, _, _, _, _, _, _, _, _, _, _, _, _, _, rfl, _⟩ := h; rfl) | (obtain ⟨_, _, _, _, _, _, _, _, _, _, _, _, _, _, _, _, _, _, _, rfl, _⟩ := h; rfl) | (obtain ⟨_, _, _, _, _, _, _, _, _, _, _, _, _, _, _, _, _, _, _, _, rfl, _⟩ := h; rfl) | (obtain ⟨_, _, _, _, _, _, _, _, _, _, _, _, _, _, _, _, _, _, _, _, _, rfl, _⟩ := h; rfl) | (obtain ⟨_, _, _, _, _, _, _, _, _, _, _, _, _, _, _, _, _, _, _, _, _, _, rfl, _⟩ := h; rfl) | (obtain ⟨_, _, _, _, _, _, _, _, _, _, _, _, _, _, _, _, _, _, _, _, _, _, _, rfl, _⟩ := h; rfl)
  · obtain ⟨c, rfl, hc, q⟩ := h
    refine ⟨_, (pss_cons (ps_set (i := 1) sc_l_number.nd rfl (.inl rfl) (pe_call G_l_one (hr.mono (by decide)) (by rfl) g_l_one k_l_one b_l_one .nil pass0 (pa_cons (pv 0) (pa_cons (pe_lst (pa_cons pe_int (pa_cons pe_int (pa_cons pe_int (pa_cons pe_int (pa_cons pe_int (pa_cons pe_int (pa_cons (pe_op op_pow pe_int pe_int) (pa_cons (pe_op op_pow pe_int pe_int) pa_nil))))))))) pa_nil))))
    (pss_one (ps_ret (pe_op op_sub (pe_call G_l_tap (hr.mono (by decide)) (by rfl) g_l_tap k_l_tap b_l_tap .nil pass0 (pa_cons (pv 0) (pa_cons (pe_op op_add (pe_op op_mul pe_int (pv 1)) pe_int) pa_nil))) (pv 1))))), ?_⟩
    refine ⟨_, rfl, _, _, rfl, rfl, ⟨by decide, by decide, by decide⟩, _, _, rfl, rfl, ⟨by decide, by decide, by decide⟩, slN (by decide), fun l nl => ?_⟩
    refine ⟨c, l, [.int 2, .int 4, .int 4, .int 9, .int 9, .int 30, .int 1000000000, .int 10000000000000000000000000], rfl, vat_new hc nl, upd_same, fv_ne hc nl, by simp, by decide, fun v H1 hv e1 => ?_⟩
    obtain ⟨f, rfl, f1, f2⟩ := in_b (lo := 2) (hi := 10000000000000000000000000) hv (by decide)
    have e2 : Fv c H H1 := (fv_new hc nl).trans e1
    refine ⟨_, rfl, _, rfl, _, _, rfl, rfl, .inl ⟨by decide, by decide⟩, _, _, rfl, rfl, c, _, rfl, e2.1, by omega, by omega, fun r H2 r0 r1 e3 => ?_⟩
    exact ⟨_, rfl, _, _, rfl, rfl, q _ _ (by omega) (e2.trans e3)⟩
theorem ok_l_entry (T : Txt K mg C_Form C_Double) : Def P w K mg base 3 "_law_entry" ["_law_cask_here"] (sp_l_entry K C_Form C_Double) := by
  obtain ⟨f_, fd_, g_, F_⟩ := T.d_l_entry
  obtain ⟨f_l_one, fd_l_one, g_l_one, k_l_one, b_l_one, G_l_one⟩ := (ok_l_one (P := P) (w := w) (base := base) T)
  obtain ⟨f_l_tap, fd_l_tap, g_l_tap, k_l_tap, b_l_tap, G_l_tap⟩ := (ok_l_tap (P := P) (w := w) (base := base) T)
  refine ⟨f_, fd_, g_, F_.kp, F_.binds (ps := ["_law_cask_here"]) (fun _ _ _ _ _ _ us hl => match us, hl with | [_], _ => rfl), ?_⟩
  refine F_.ok sc_l_entry (fun vs H Q E h => ?_) (fun cdv A outer s H vs Q E hr h => ?_)
  · first | (obtain ⟨rfl, _⟩ := h; rfl) | (obtain ⟨_, rfl, _⟩ := h; rfl) | (obtain ⟨_, _, rfl, _⟩ := h; rfl) | (obtain ⟨_, _, _, rfl, _⟩ := h; rfl) | (obtain ⟨_, _, _, _, rfl, _⟩ := h; rfl) | (obtain ⟨_, _, _, _, _, rfl, _⟩ := h; rfl) | (obtain ⟨_, _, _, _, _, _, rfl, _⟩ := h; rfl) | (obtain ⟨_, _, _, _, _, _, _, rfl, _⟩ := h; rfl) | (obtain ⟨_, _, _, _, _, _, _, _, rfl, _⟩ := h; rfl) | (obtain ⟨_, _, _, _, _, _, _, _, _, rfl, _⟩ := h; rfl) | (obtain ⟨_, _, _, _, _, _, _, _, _, _, rfl, _⟩ := h; rfl) | (obtain ⟨_, _, _, _, _, _, _, _, _, _, _, rfl, _⟩ := h; rfl) | (obtain ⟨_, _, _, _, _, _, _, _, _, _, _, _, rfl, _⟩ := h; rfl) | (obtain ⟨_, _, _, _, _, _, _, _, _, _, _, _, _, rfl, _⟩ := h; rfl) | (obtain ⟨_, _, _, _, _, _, _, _, _, _, _, _, _, _, rfl, _⟩ := h; rfl) | (obtain ⟨_, _, _, _, _, _, _, _, _, _, _, _, _, _, _, rfl, _⟩ := h; rfl) | (obtain ⟨_, _, _, _, _, _, _, _, _, _, _, _, _, _, _, _, rfl, _⟩ := h; rfl) | (obtain ⟨_, _, _, _, _, _, _, _, _, _, _, _, _, _, _, _, _, rfl, _⟩ := h; rfl) | (obtain ⟨_, _, _, _, _, _, _, _, _, _, _, _, _, _, _, _, _, _, rfl, _⟩ := h; rfl) | (obtain ⟨_, _, _, _, _, _, _, _, _, _, _, _, _, _, _, _, _, _, _, rfl, _⟩ := h; rfl) | (obtain ⟨_, _, _, _, _, _, _, _, _, _, _, _, _, _, _, _, _, _, _, _, rfl, _⟩ := h; rfl) | (obtain ⟨_, _, _, _, _, _, _, _, _, _, _, _, _, _, _, _, _, _, _, _, _, rfl, _⟩ := h; rfl) | (obtain ⟨_, _, _, _, _, _, _, _, _, _, _, _, _, _, _, _, _, _, _, _, _, _, rfl, _⟩ := h; rfl) | (obtain ⟨_, _, _, _, _, _, _, _, _, _, _, _, _, _, _, _, _, _, _, _, _, _, _, rfl, _⟩ := h; rfl)
  · obtain ⟨c, rfl, hc, q⟩ := h
    refine ⟨_, (pss_cons (ps_set (i := 1) sc_l_entry.nd rfl (.inl rfl) (pe_call G_l_one (hr.mono (by decide)) (by rfl) g_l_one k_l_one b_l_one .nil pass0 (pa_cons (pv 0) (pa_cons (pe_lst (pa_cons pe_int (pa_cons pe_int (pa_cons pe_int (pa_cons pe_int (pa_cons pe_int (pa_cons pe_int (pa_cons (pe_op op_pow pe_int pe_int) (pa_cons (pe_op op_pow pe_int pe_int) pa_nil))))))))) pa_nil))))
    (pss_one (ps_ret (pe_op op_sub (pe_call G_l_tap (hr.mono (by decide)) (by rfl) g_l_tap k_l_tap b_l_tap .nil pass0 (pa_cons (pv 0) (pa_cons (pe_op op_add (pe_op op_mul pe_int (pv 1)) pe_int) pa_nil))) (pv 1))))), ?_⟩
    refine ⟨_, rfl, _, _, rfl, rfl, ⟨by decide, by decide, by decide⟩, _, _, rfl, rfl, ⟨by decide, by decide, by decide⟩, slN (by decide), fun l nl => ?_⟩
    refine ⟨c, l, [.int 1, .int 2, .int 4, .int 4, .int 9, .int 30, .int 1000000000, .int 100000000000000000], rfl, vat_new hc nl, upd_same, fv_ne hc nl, by simp, by decide, fun v H1 hv e1 => ?_⟩
    obtain ⟨f, rfl, f1, f2⟩ := in_b (lo := 1) (hi := 100000000000000000) hv (by decide)
    have e2 : Fv c H H1 := (fv_new hc nl).trans e1
    refine ⟨_, rfl, _, rfl, _, _, rfl, rfl, .inl ⟨by decide, by decide⟩, _, _, rfl, rfl, c, _, rfl, e2.1, by omega, by omega, fun r H2 r0 r1 e3 => ?_⟩
    exact ⟨_, rfl, _, _, rfl, rfl, q _ _ (by omega) (e2.trans e3)⟩
theorem ok_l_numbers (T : Txt K mg C_Form C_Double) : Def P w K mg base 4 "_law_numbers" ["_law_cask_here", "_law_many_here"] (sp_l_numbers K C_Form C_Double) := by
  obtain ⟨f_, fd_, g_, F_⟩ := T.d_l_numbers
  obtain ⟨f_l_number, fd_l_number, g_l_number, k_l_number, b_l_number, G_l_number⟩ := (ok_l_number (P := P) (w := w) (base := base) T)
  refine ⟨f_, fd_, g_, F_.kp, F_.binds (ps := ["_law_cask_here", "_law_many_here"]) (fun _ _ _ _ _ _ us hl => match us, hl with | [_, _], _ => rfl), ?_⟩
  refine F_.ok sc_l_numbers (fun vs H Q E h => ?_) (fun cdv A outer s H vs Q E hr h => ?_)
  · first | (obtain ⟨rfl, _⟩ := h; rfl) | (obtain ⟨_, rfl, _⟩ := h; rfl) | (obtain ⟨_, _, rfl, _⟩ := h; rfl) | (obtain ⟨_, _, _, rfl, _⟩ := h; rfl) | (obtain ⟨_, _, _, _, rfl, _⟩ := h; rfl) | (obtain ⟨_, _, _, _, _, rfl, _⟩ := h; rfl) | (obtain ⟨_, _, _, _, _, _, rfl, _⟩ := h; rfl) | (obtain ⟨_, _, _, _, _, _, _, rfl, _⟩ := h; rfl) | (obtain ⟨_, _, _, _, _, _, _, _, rfl, _⟩ := h; rfl) | (obtain ⟨_, _, _, _, _, _, _, _, _, rfl, _⟩ := h; rfl) | (obtain ⟨_, _, _, _, _, _, _, _, _, _, rfl, _⟩ := h; rfl) | (obtain ⟨_, _, _, _, _, _, _, _, _, _, _, rfl, _⟩ := h; rfl) | (obtain ⟨_, _, _, _, _, _, _, _, _, _, _, _, rfl, _⟩ := h; rfl) | (obtain ⟨_, _, _, _, _, _, _, _, _, _, _, _, _, rfl, _⟩ := h; rfl) | (obtain ⟨_, _, _, _, _, _, _, _, _, _, _, _, _, _, rfl, _⟩ := h; rfl) | (obtain ⟨_, _, _, _, _, _, _, _, _, _, _, _, _, _, _, rfl, _⟩ := h; rfl) | (obtain ⟨_, _, _, _, _, _, _, _, _, _, _, _, _, _, _, _, rfl, _⟩ := h; rfl) | (obtain ⟨_, _, _, _, _, _, _, _, _, _, _, _, _, _, _, _, _, rfl, _⟩ := h; rfl) | (obtain ⟨_, _, _, _, _, _, _, _, _, _, _, _, _, _, _, _, _, _, rfl, _⟩ := h; rfl) | (obtain ⟨_, _, _, _, _, _, _, _, _, _, _, _, _, _, _, _, _, _, _, rfl, _⟩ := h; rfl) | (obtain ⟨_, _, _, _, _, _, _, _, _, _, _, _, _, _, _, _, _, _, _, _, rfl, _⟩ := h; rfl) | (obtain ⟨_, _, _, _, _, _, _, _, _, _, _, _, _, _, _, _, _, _, _, _, _, rfl, _⟩ := h; rfl) | (obtain ⟨_, _, _, _, _, _, _, _, _, _, _, _, _, _, _, _, _, _, _, _, _, _, rfl, _⟩ := h; rfl) | (obtain ⟨_, _, _, _, _, _, _, _, _, _, _, _, _, _, _, _, _, _, _, _, _, _, _, rfl, _⟩ := h; rfl)
  · obtain ⟨c, k, rfl, hc, hk, q⟩ := h
    refine ⟨_, (pss_one (ps_ret (pe_callTy call_tuple_of (by rfl) T.b_tuple (by decide +kernel) (pa_cons (pe_lc (own := [("_law_turn", 2)]) (g := (gName 2)) rfl sc_l_numbers.nd (pi_range1 (by rfl) T.b_range (pa_cons (pv 1) pa_nil)) (blkOk_by (N := N_l_numbers) (sc := defScope s_l_numbers) (by decide +kernel)) (fun _ _ _ _ _ => (pg_name (i := 2) sc_l_numbers.nd rfl (.inl rfl))) (fun _ _ _ _ _ => pts_nil) (fun _ _ _ _ _ => (pe_call G_l_number (hr.mono (by decide)) (by rfl) g_l_number k_l_number b_l_number .nil pass0 (pa_cons (pv 0) pa_nil)))) pa_nil)))), ?_⟩
    refine ⟨_, rfl, _, rfl, by omega, by omega, ?_⟩
    refine lcR (fmV c) hc (fun i acc _ => ∃ ns : List Int, acc = ns.map V.int ∧ ns.length = i ∧ ∀ n ∈ ns, n.natAbs ≤ 10000000000000000000000000) (fun _ _ => ⟨[], rfl, rfl, fun _ h => by cases h⟩) (fun D i acc H3 hD hi e3 hA hlen hp => ?_) (fun D H3 acc hD e3 hA hp => ?_)
    · obtain ⟨ns, rfl, hln, hns⟩ := hp
      have hi' : i < k := by simpa using hi
      refine ⟨rfl, ?_⟩
      refine ⟨_, rfl, c, rfl, e3.1, fun z H4 hz e4 => ?_⟩
      refine cs_yes (fmV c) hc hD e3 hA hlen (by omega) e4 ⟨ns ++ [z], by rw [List.map_append]; rfl, by rw [List.length_append, hln]; rfl, fun n hn => ?_⟩
      rcases List.mem_append.mp hn with h | h
      · exact hns n h
      · have : n = z := by simpa using h
        rw [this]
        exact hz
    · obtain ⟨ns, rfl, hln, hns⟩ := hp
      refine ⟨D, _, rfl, .inl ⟨SqL.of hA, fun p np => ?_⟩⟩
      exact q p ns _ (e3.trans (fv_new e3.1 np)) upd_same (by rw [hln]; simp) hns
theorem ok_l_then (T : Txt K mg C_Form C_Double) : Def P w K mg base 1 "_law_then" ["_law_first", "_law_second"] (sp_l_then K C_Form C_Double) := by
  obtain ⟨f_, fd_, g_, F_⟩ := T.d_l_then
  refine ⟨f_, fd_, g_, F_.kp, F_.binds (ps := ["_law_first", "_law_second"]) (fun _ _ _ _ _ _ us hl => match us, hl with | [_, _], _ => rfl), ?_⟩
  refine F_.ok sc_l_then (fun vs H Q E h => ?_) (fun cdv A outer s H vs Q E hr h => ?_)
  · first | (obtain ⟨rfl, _⟩ := h; rfl) | (obtain ⟨_, rfl, _⟩ := h; rfl) | (obtain ⟨_, _, rfl, _⟩ := h; rfl) | (obtain ⟨_, _, _, rfl, _⟩ := h; rfl) | (obtain ⟨_, _, _, _, rfl, _⟩ := h; rfl) | (obtain ⟨_, _, _, _, _, rfl, _⟩ := h; rfl) | (obtain ⟨_, _, _, _, _, _, rfl, _⟩ := h; rfl) | (obtain ⟨_, _, _, _, _, _, _, rfl, _⟩ := h; rfl) | (obtain ⟨_, _, _, _, _, _, _, _, rfl, _⟩ := h; rfl) | (obtain ⟨_, _, _, _, _, _, _, _, _, rfl, _⟩ := h; rfl) | (obtain ⟨_, _, _, _, _, _, _, _, _, _, rfl, _⟩ := h; rfl) | (obtain ⟨_, _, _, _, _, _, _, _, _, _, _, rfl, _⟩ := h; rfl) | (obtain ⟨_, _, _, _, _, _, _, _, _, _, _, _, rfl, _⟩ := h; rfl) | (obtain ⟨_, _, _, _, _, _, _, _, _, _, _, _, _, rfl, _⟩ := h; rfl) | (obtain ⟨_, _, _, _, _, _, _, _, _, _, _, _, _, _, rfl, _⟩ := h; rfl) | (obtain ⟨_, _, _, _, _, _, _, _, _, _, _, _, _, _, _, rfl, _⟩ := h; rfl) | (obtain ⟨_, _, _, _, _, _, _, _, _, _, _, _, _, _, _, _, rfl, _⟩ := h; rfl) | (obtain ⟨_, _, _, _, _, _, _, _, _, _, _, _, _, _, _, _, _, rfl, _⟩ := h; rfl) | (obtain ⟨_, _, _, _, _, _, _, _, _, _, _, _, _, _, _, _, _, _, rfl, _⟩ := h; rfl) | (obtain ⟨_, _, _, _, _, _, _, _, _, _, _, _, _, _, _, _, _, _, _, rfl, _⟩ := h; rfl) | (obtain ⟨_, _, _, _, _, _, _, _, _, _, _, _, _, _, _, _, _, _, _, _, rfl, _⟩ := h; rfl) | (obtain ⟨_, _, _, _, _, _, _, _, _, _, _, _, _, _, _, _, _, _, _, _, _, rfl, _⟩ := h; rfl) | (obtain ⟨_, _, _, _, _, _, _, _, _, _, _, _, _, _, _, _, _, _, _, _, _, _, rfl, _⟩ := h; rfl) | (obtain ⟨_, _, _, _, _, _, _, _, _, _, _, _, _, _, _, _, _, _, _, _, _, _, _, rfl, _⟩ := h; rfl)
  · obtain ⟨a, b, p, q', r, s', i, j, k, m, rfl, h4, h4', bp, bq, br, bs, bi, bj, bk, bm, q⟩ := h
    refine ⟨_, (pss_cons (ps_asg (pv 0) (pg_tup (by rfl) (pgs_cons (pg_tup (by rfl) (pgs_cons (pg_name (i := 2) sc_l_then.nd rfl (.inl rfl)) (pgs_cons (pg_name (i := 3) sc_l_then.nd rfl (.inl rfl)) pgs_nil))) (pgs_cons (pg_tup (by rfl) (pgs_cons (pg_name (i := 4) sc_l_then.nd rfl (.inl rfl)) (pgs_cons (pg_name (i := 5) sc_l_then.nd rfl (.inl rfl)) pgs_nil))) pgs_nil))))
    (pss_cons (ps_asg (pv 1) (pg_tup (by rfl) (pgs_cons (pg_tup (by rfl) (pgs_cons (pg_name (i := 6) sc_l_then.nd rfl (.inl rfl)) (pgs_cons (pg_name (i := 7) sc_l_then.nd rfl (.inl rfl)) pgs_nil))) (pgs_cons (pg_tup (by rfl) (pgs_cons (pg_name (i := 8) sc_l_then.nd rfl (.inl rfl)) (pgs_cons (pg_name (i := 9) sc_l_then.nd rfl (.inl rfl)) pgs_nil))) pgs_nil))))
    (pss_one (ps_ret (pe_tup (pa_cons (pe_tup (pa_cons (pe_op op_add (pe_op op_mulW (pv 6) (pv 2)) (pe_op op_mulW (pv 7) (pv 4))) (pa_cons (pe_op op_add (pe_op op_mulW (pv 6) (pv 3)) (pe_op op_mulW (pv 7) (pv 5))) pa_nil))) (pa_cons (pe_tup (pa_cons (pe_op op_add (pe_op op_mulW (pv 8) (pv 2)) (pe_op op_mulW (pv 9) (pv 4))) (pa_cons (pe_op op_add (pe_op op_mulW (pv 8) (pv 3)) (pe_op op_mulW (pv 9) (pv 5))) pa_nil))) pa_nil))))))), ?_⟩
    refine ⟨_, rfl, un4 h4 ?_⟩
    refine ⟨_, rfl, un4 h4' ?_⟩
    refine ⟨_, rfl, _, rfl, _, _, rfl, rfl, mulB (by with_reducible assumption) (by with_reducible assumption) (by decide), _, rfl, _, rfl, _, _, rfl, rfl, mulB (by with_reducible assumption) (by with_reducible assumption) (by decide), _, _, rfl, rfl, _, rfl, _, rfl, _, _, rfl, rfl, mulB (by with_reducible assumption) (by with_reducible assumption) (by decide), _, rfl, _, rfl, _, _, rfl, rfl, mulB (by with_reducible assumption) (by with_reducible assumption) (by decide), _, _, rfl, rfl, sl2, fun t1 n1 => ⟨_, rfl, _, rfl, _, _, rfl, rfl, mulB (by with_reducible assumption) (by with_reducible assumption) (by decide), _, rfl, _, rfl, _, _, rfl, rfl, mulB (by with_reducible assumption) (by with_reducible assumption) (by decide), _, _, rfl, rfl, _, rfl, _, rfl, _, _, rfl, rfl, mulB (by with_reducible assumption) (by with_reducible assumption) (by decide), _, rfl, _, rfl, _, _, rfl, rfl, mulB (by with_reducible assumption) (by with_reducible assumption) (by decide), _, _, rfl, rfl, sl2, fun t2 n2 => ⟨sl2, fun x nx => ?_⟩⟩⟩
    have z := t4_new n1 n2 nx
    exact q x _ z.1 z.2
theorem ok_l_sense (T : Txt K mg C_Form C_Double) : Def P w K mg base 1 "_law_sense" ["_law_change_here"] (sp_l_sense K C_Form C_Double) := by
  obtain ⟨f_, fd_, g_, F_⟩ := T.d_l_sense
  refine ⟨f_, fd_, g_, F_.kp, F_.binds (ps := ["_law_change_here"]) (fun _ _ _ _ _ _ us hl => match us, hl with | [_], _ => rfl), ?_⟩
  refine F_.ok sc_l_sense (fun vs H Q E h => ?_) (fun cdv A outer s H vs Q E hr h => ?_)
  · first | (obtain ⟨rfl, _⟩ := h; rfl) | (obtain ⟨_, rfl, _⟩ := h; rfl) | (obtain ⟨_, _, rfl, _⟩ := h; rfl) | (obtain ⟨_, _, _, rfl, _⟩ := h; rfl) | (obtain ⟨_, _, _, _, rfl, _⟩ := h; rfl) | (obtain ⟨_, _, _, _, _, rfl, _⟩ := h; rfl) | (obtain ⟨_, _, _, _, _, _, rfl, _⟩ := h; rfl) | (obtain ⟨_, _, _, _, _, _, _, rfl, _⟩ := h; rfl) | (obtain ⟨_, _, _, _, _, _, _, _, rfl, _⟩ := h; rfl) | (obtain ⟨_, _, _, _, _, _, _, _, _, rfl, _⟩ := h; rfl) | (obtain ⟨_, _, _, _, _, _, _, _, _, _, rfl, _⟩ := h; rfl) | (obtain ⟨_, _, _, _, _, _, _, _, _, _, _, rfl, _⟩ := h; rfl) | (obtain ⟨_, _, _, _, _, _, _, _, _, _, _, _, rfl, _⟩ := h; rfl) | (obtain ⟨_, _, _, _, _, _, _, _, _, _, _, _, _, rfl, _⟩ := h; rfl) | (obtain ⟨_, _, _, _, _, _, _, _, _, _, _, _, _, _, rfl, _⟩ := h; rfl) | (obtain ⟨_, _, _, _, _, _, _, _, _, _, _, _, _, _, _, rfl, _⟩ := h; rfl) | (obtain ⟨_, _, _, _, _, _, _, _, _, _, _, _, _, _, _, _, rfl, _⟩ := h; rfl) | (obtain ⟨_, _, _, _, _, _, _, _, _, _, _, _, _, _, _, _, _, rfl, _⟩ := h; rfl) | (obtain ⟨_, _, _, _, _, _, _, _, _, _, _, _, _, _, _, _, _, _, rfl, _⟩ := h; rfl) | (obtain ⟨_, _, _, _, _, _, _, _, _, _, _, _, _, _, _, _, _, _, _, rfl, _⟩ := h; rfl) | (obtain ⟨_, _, _, _, _, _, _, _, _, _, _, _, _, _, _, _, _, _, _, _, rfl, _⟩ := h; rfl) | (obtain ⟨_, _, _, _, _, _, _, _, _, _, _, _, _, _, _, _, _, _, _, _, _, rfl, _⟩ := h; rfl) | (obtain ⟨_, _, _, _, _, _, _, _, _, _, _, _, _, _, _, _, _, _, _, _, _, _, rfl, _⟩ := h; rfl) | (obtain ⟨_, _, _, _, _, _, _, _, _, _, _, _, _, _, _, _, _, _, _, _, _, _, _, rfl, _⟩ := h; rfl)
  · obtain ⟨a, p, q', r, s', rfl, ⟨t1, t2, h0, h1, h2⟩, bp, bq, br, bs, q⟩ := h
    refine ⟨_, (pss_one (ps_ret (pe_op op_sub (pe_op op_mulW (pe_ix ix_tup (pe_ix ix_tup (pv 0) pe_int (fun _ _ => rfl)) pe_int (fun _ _ => rfl)) (pe_ix ix_tup (pe_ix ix_tup (pv 0) pe_int (fun _ _ => rfl)) pe_int (fun _ _ => rfl))) (pe_op op_mulW (pe_ix ix_tup (pe_ix ix_tup (pv 0) pe_int (fun _ _ => rfl)) pe_int (fun _ _ => rfl)) (pe_ix ix_tup (pe_ix ix_tup (pv 0) pe_int (fun _ _ => rfl)) pe_int (fun _ _ => rfl)))))), ?_⟩
    have g0 : SqT K H a [V.ref t1, V.ref t2] := SqT.of h0
    have g1 : SqT K H t1 [V.int p, V.int q'] := SqT.of h1
    have g2 : SqT K H t2 [V.int r, V.int s'] := SqT.of h2
    refine ⟨_, rfl, a, _, 0, .ref t1, rfl, rfl, g0, rfl, t1, _, 0, .int p, rfl, rfl, g1, rfl, ?_⟩
    refine ⟨_, rfl, a, _, 1, .ref t2, rfl, rfl, g0, rfl, t2, _, 1, .int s', rfl, rfl, g2, rfl, ?_⟩
    refine ⟨_, _, rfl, rfl, mulB bp bs (by decide), ?_⟩
    refine ⟨_, rfl, a, _, 0, .ref t1, rfl, rfl, g0, rfl, t1, _, 1, .int q', rfl, rfl, g1, rfl, ?_⟩
    refine ⟨_, rfl, a, _, 1, .ref t2, rfl, rfl, g0, rfl, t2, _, 0, .int r, rfl, rfl, g2, rfl, ?_⟩
    exact ⟨_, _, rfl, rfl, mulB bq br (by decide), _, _, rfl, rfl, q⟩
theorem ok_l_common (T : Txt K mg C_Form C_Double) : Def P w K mg base 1 "_law_common" ["_law_numbers_here"] (sp_l_common K C_Form C_Double) := by
  obtain ⟨f_, fd_, g_, F_⟩ := T.d_l_common
  refine ⟨f_, fd_, g_, F_.kp, F_.binds (ps := ["_law_numbers_here"]) (fun _ _ _ _ _ _ us hl => match us, hl with | [_], _ => rfl), ?_⟩
  refine F_.ok sc_l_common (fun vs H Q E h => ?_) (fun cdv A outer s H vs Q E hr h => ?_)
  · first | (obtain ⟨rfl, _⟩ := h; rfl) | (obtain ⟨_, rfl, _⟩ := h; rfl) | (obtain ⟨_, _, rfl, _⟩ := h; rfl) | (obtain ⟨_, _, _, rfl, _⟩ := h; rfl) | (obtain ⟨_, _, _, _, rfl, _⟩ := h; rfl) | (obtain ⟨_, _, _, _, _, rfl, _⟩ := h; rfl) | (obtain ⟨_, _, _, _, _, _, rfl, _⟩ := h; rfl) | (obtain ⟨_, _, _, _, _, _, _, rfl, _⟩ := h; rfl) | (obtain ⟨_, _, _, _, _, _, _, _, rfl, _⟩ := h; rfl) | (obtain ⟨_, _, _, _, _, _, _, _, _, rfl, _⟩ := h; rfl) | (obtain ⟨_, _, _, _, _, _, _, _, _, _, rfl, _⟩ := h; rfl) | (obtain ⟨_, _, _, _, _, _, _, _, _, _, _, rfl, _⟩ := h; rfl) | (obtain ⟨_, _, _, _, _, _, _, _, _, _, _, _, rfl, _⟩ := h; rfl) | (obtain ⟨_, _, _, _, _, _, _, _, _, _, _, _, _, rfl, _⟩ := h; rfl) | (obtain ⟨_, _, _, _, _, _, _, _, _, _, _, _, _, _, rfl, _⟩ := h; rfl) | (obtain ⟨_, _, _, _, _, _, _, _, _, _, _, _, _, _, _, rfl, _⟩ := h; rfl) | (obtain ⟨_, _, _, _, _, _, _, _, _, _, _, _, _, _, _, _, rfl, _⟩ := h; rfl) | (obtain ⟨_, _, _, _, _, _, _, _, _, _, _, _, _, _, _, _, _, rfl, _⟩ := h; rfl) | (obtain ⟨_, _, _, _, _, _, _, _, _, _, _, _, _, _, _, _, _, _, rfl, _⟩ := h; rfl) | (obtain ⟨_, _, _, _, _, _, _, _, _, _, _, _, _, _, _, _, _, _, _, rfl, _⟩ := h; rfl) | (obtain ⟨_, _, _, _, _, _, _, _, _, _, _, _, _, _, _, _, _, _, _, _, rfl, _⟩ := h; rfl) | (obtain ⟨_, _, _, _, _, _, _, _, _, _, _, _, _, _, _, _, _, _, _, _, _, rfl, _⟩ := h; rfl) | (obtain ⟨_, _, _, _, _, _, _, _, _, _, _, _, _, _, _, _, _, _, _, _, _, _, rfl, _⟩ := h; rfl) | (obtain ⟨_, _, _, _, _, _, _, _, _, _, _, _, _, _, _, _, _, _, _, _, _, _, _, rfl, _⟩ := h; rfl)
  · obtain ⟨a, ns, rfl, ha, q⟩ := h
    refine ⟨_, (pss_cons (ps_set (i := 1) sc_l_common.nd rfl (.inl rfl) pe_int)
    (pss_cons (ps_for PassesOwn.never rfl (pi_tup (pv 0)) (pg_name (i := 2) sc_l_common.nd rfl (.inl rfl))
      (pss_cons (ps_par (i := 3) (j := 4) (by rfl) sc_l_common.nd rfl rfl (by decide) rfl rfl (pa_cons (pe_callB call_abs (by rfl) T.b_abs (by decide +kernel) (pa_cons (pv 2) pa_nil)) (pa_cons (pv 1) pa_nil)) (by rfl))
    (pss_cons (ps_while PassesOwn.never (pt_cmpR op_ne (pv 4) pe_int (nomark _))
      (pss_one (ps_par (i := 3) (j := 4) (by rfl) sc_l_common.nd rfl rfl (by decide) rfl rfl (pa_cons (pv 4) (pa_cons (pe_op op_mod (pe_callTy call_int1 (by rfl) T.b_int (by decide +kernel) (pa_cons (pv 3) pa_nil)) (pv 4)) pa_nil)) (by rfl))))
    (pss_one (ps_set (i := 1) sc_l_common.nd rfl (.inl rfl) (pv 3))))))
    (pss_one (ps_ret (pv 1))))), ?_⟩
    have ab : ∀ z : Int, (if z < 0 then -z else z) = (z.natAbs : Int) := fun z => by
      by_cases h : z < 0
      · rw [if_pos h]; omega
      · rw [if_neg h]; omega
    refine ⟨_, rfl, a, rfl, ⟨_, SqT.of ha⟩, for_tup (xs := ns.map V.int) (fun i σ H' => ∃ y2 y3 y4, σ = [some (.ref a), some (.int (gcdL (ns.take i) : Nat)), y2, y3, y4] ∧ H = H') ⟨none, none, none, rfl, rfl⟩ (fun i σ H' _ ⟨_, _, _, _, e⟩ => e ▸ SqT.of ha) ?_ ?_⟩
    · rintro i x σ H' hx ⟨y2, y3, y4, rfl, rfl⟩
      obtain ⟨n, hn, rfl⟩ := get_int hx
      refine ⟨_, rfl, n, rfl, _, rfl, _, _, rfl, ?_⟩
      rw [ab]
      refine ⟨fun m σ H' => ∃ x y : Nat, σ = [some (.ref a), some (.int (gcdL (ns.take i) : Nat)), some (.int n), some (.int (x : Int)), some (.int (y : Int))] ∧ H' = H ∧ Nat.gcd x y = gcdL (ns.take (i + 1)) ∧ m = y, ⟨_, _, _, rfl, rfl, by rw [gcdL_take hn, Nat.gcd_comm], rfl⟩, ?_⟩
      rintro m σ H' ⟨x, y, rfl, rfl, hg, rfl⟩
      refine ⟨_, rfl, rfl, _, rfl, iteEn (fun g => ?_) (fun g => ?_)⟩
      · have g0 : 0 < m := by omega
        refine ⟨fun σ' H'' => ∃ x' y' : Nat, σ' = [some (.ref a), some (.int (gcdL (ns.take i) : Nat)), some (.int n), some (.int (x' : Int)), some (.int (y' : Int))] ∧ H'' = H' ∧ Nat.gcd x' y' = gcdL (ns.take (i + 1)) ∧ y' < m, fun σ' H'' ⟨x', y', e1, e2, e3, e4⟩ => ⟨y', e4, x', y', e1, e2, e3, rfl⟩, ?_⟩
        refine ⟨_, rfl, _, rfl, .inl ⟨_, rfl, _, rfl, (x : Int), (m : Int), rfl, rfl, by omega, _, _, rfl, ?_⟩⟩
        refine ⟨m, x % m, rfl, rfl, ?_, Nat.mod_lt _ g0⟩
        rw [← hg, Nat.gcd_comm x m, Nat.gcd_rec m x, Nat.gcd_comm]
      · have : m = 0 := by omega
        subst this
        refine ⟨_, rfl, ?_⟩
        refine ⟨some (.int n), some (.int (x : Int)), some (.int ((0 : Nat) : Int)), ?_, rfl⟩
        rw [← hg, Nat.gcd_zero_right]
        rfl
    · rintro σ H' ⟨y2, y3, y4, rfl, rfl⟩
      refine ⟨_, rfl, ?_⟩
      rw [List.length_map, List.take_length]
      exact q
theorem ok_l_change (T : Txt K mg C_Form C_Double) : Def P w K mg base 3 "_law_change" ["_law_cask_here", "_law_turns"] (sp_l_change K C_Form C_Double) := by
  obtain ⟨f_, fd_, g_, F_⟩ := T.d_l_change
  obtain ⟨f_l_one, fd_l_one, g_l_one, k_l_one, b_l_one, G_l_one⟩ := (ok_l_one (P := P) (w := w) (base := base) T)
  obtain ⟨f_l_tap, fd_l_tap, g_l_tap, k_l_tap, b_l_tap, G_l_tap⟩ := (ok_l_tap (P := P) (w := w) (base := base) T)
  obtain ⟨f_l_then, fd_l_then, g_l_then, k_l_then, b_l_then, G_l_then⟩ := (ok_l_then (P := P) (w := w) (base := base) T)
  refine ⟨f_, fd_, g_, F_.kp, F_.binds (ps := ["_law_cask_here", "_law_turns"]) (fun _ _ _ _ _ _ us hl => match us, hl with | [_, _], _ => rfl), ?_⟩
  refine F_.ok sc_l_change (fun vs H Q E h => ?_) (fun cdv A outer s H vs Q E hr h => ?_)
  · first | (obtain ⟨rfl, _⟩ := h; rfl) | (obtain ⟨_, rfl, _⟩ := h; rfl) | (obtain ⟨_, _, rfl, _⟩ := h; rfl) | (obtain ⟨_, _, _, rfl, _⟩ := h; rfl) | (obtain ⟨_, _, _, _, rfl, _⟩ := h; rfl) | (obtain ⟨_, _, _, _, _, rfl, _⟩ := h; rfl) | (obtain ⟨_, _, _, _, _, _, rfl, _⟩ := h; rfl) | (obtain ⟨_, _, _, _, _, _, _, rfl, _⟩ := h; rfl) | (obtain ⟨_, _, _, _, _, _, _, _, rfl, _⟩ := h; rfl) | (obtain ⟨_, _, _, _, _, _, _, _, _, rfl, _⟩ := h; rfl) | (obtain ⟨_, _, _, _, _, _, _, _, _, _, rfl, _⟩ := h; rfl) | (obtain ⟨_, _, _, _, _, _, _, _, _, _, _, rfl, _⟩ := h; rfl) | (obtain ⟨_, _, _, _, _, _, _, _, _, _, _, _, rfl, _⟩ := h; rfl) | (obtain ⟨_, _, _, _, _, _, _, _, _, _, _, _, _, rfl, _⟩ := h; rfl) | (obtain ⟨_, _, _, _, _, _, _, _, _, _, _, _, _, _, rfl, _⟩ := h; rfl) | (obtain ⟨_, _, _, _, _, _, _, _, _, _, _, _, _, _, _, rfl, _⟩ := h; rfl) | (obtain ⟨_, _, _, _, _, _, _, _, _, _, _, _, _, _, _, _, rfl, _⟩ := h; rfl) | (obtain ⟨_, _, _, _, _, _, _, _, _, _, _, _, _, _, _, _, _, rfl, _⟩ := h; rfl) | (obtain ⟨_, _, _, _, _, _, _, _, _, _, _, _, _, _, _, _, _, _, rfl, _⟩ := h; rfl) | (obtain ⟨_, _, _, _, _, _, _, _, _, _, _, _, _, _, _, _, _, _, _, rfl, _⟩ := h; rfl) | (obtain ⟨_, _, _, _, _, _, _, _, _, _, _, _, _, _, _, _, _, _, _, _, rfl, _⟩ := h; rfl) | (obtain ⟨_, _, _, _, _, _, _, _, _, _, _, _, _, _, _, _, _, _, _, _, _, rfl, _⟩ := h; rfl) | (obtain ⟨_, _, _, _, _, _, _, _, _, _, _, _, _, _, _, _, _, _, _, _, _, _, rfl, _⟩ := h; rfl) | (obtain ⟨_, _, _, _, _, _, _, _, _, _, _, _, _, _, _, _, _, _, _, _, _, _, _, rfl, _⟩ := h; rfl)
  · obtain ⟨c, t, rfl, hc, ht, q⟩ := h
    refine ⟨_, (pss_cons (ps_set (i := 2) sc_l_change.nd rfl (.inl rfl) (pe_tup (pa_cons (pe_tup (pa_cons pe_int (pa_cons pe_int pa_nil))) (pa_cons (pe_tup (pa_cons pe_int (pa_cons pe_int pa_nil))) pa_nil))))
    (pss_cons (ps_for PassesOwn.never rfl (pi_range1 (by rfl) T.b_range (pa_cons (pe_call G_l_tap (hr.mono (by decide)) (by rfl) g_l_tap k_l_tap b_l_tap .nil pass0 (pa_cons (pv 0) (pa_cons (pe_op op_add (pv 1) pe_int) pa_nil))) pa_nil)) (pg_name (i := 3) sc_l_change.nd rfl (.inl rfl))
      (pss_cons (ps_set (i := 4) sc_l_change.nd rfl (.inl rfl) (pe_call G_l_one (hr.mono (by decide)) (by rfl) g_l_one k_l_one b_l_one .nil pass0 (pa_cons (pv 0) (pa_cons (pe_lst (pa_cons pe_int (pa_cons (pe_un un_neg pe_int) (pa_cons pe_int (pa_cons (pe_un un_neg pe_int) (pa_cons pe_int (pa_cons (pe_op op_add (pe_op op_pow pe_int pe_int) (pe_call G_l_tap (hr.mono (by decide)) (by rfl) g_l_tap k_l_tap b_l_tap .nil pass0 (pa_cons (pv 0) (pa_cons pe_int pa_nil)))) pa_nil))))))) pa_nil))))
    (pss_cons (ps_set (i := 5) sc_l_change.nd rfl (.inl rfl) (pe_call G_l_one (hr.mono (by decide)) (by rfl) g_l_one k_l_one b_l_one .nil pass0 (pa_cons (pv 0) (pa_cons (pe_lst (pa_cons (pe_tup (pa_cons (pe_tup (pa_cons pe_int (pa_cons (pv 4) pa_nil))) (pa_cons (pe_tup (pa_cons pe_int (pa_cons pe_int pa_nil))) pa_nil))) (pa_cons (pe_tup (pa_cons (pe_tup (pa_cons pe_int (pa_cons pe_int pa_nil))) (pa_cons (pe_tup (pa_cons (pv 4) (pa_cons pe_int pa_nil))) pa_nil))) (pa_cons (pe_tup (pa_cons (pe_tup (pa_cons pe_int (pa_cons pe_int pa_nil))) (pa_cons (pe_tup (pa_cons pe_int (pa_cons pe_int pa_nil))) pa_nil))) (pa_cons (pe_tup (pa_cons (pe_tup (pa_cons (pe_un un_neg pe_int) (pa_cons pe_int pa_nil))) (pa_cons (pe_tup (pa_cons pe_int (pa_cons pe_int pa_nil))) pa_nil))) (pa_cons (pe_tup (pa_cons (pe_tup (pa_cons pe_int (pa_cons pe_int pa_nil))) (pa_cons (pe_tup (pa_cons (pe_un un_neg pe_int) (pa_cons pe_int pa_nil))) pa_nil))) pa_nil)))))) pa_nil))))
    (pss_one (ps_set (i := 2) sc_l_change.nd rfl (.inl rfl) (pe_call G_l_then (hr.mono (by decide)) (by rfl) g_l_then k_l_then b_l_then .nil pass0 (pa_cons (pv 2) (pa_cons (pv 5) pa_nil))))))))
    (pss_one (ps_ret (pv 2))))), ?_⟩
    refine ⟨sl2, fun t1 n1 => ⟨sl2, fun t2 n2 => ⟨sl2, fun x0 n0 => ?_⟩⟩⟩
    have z0 := t4_new n1 n2 n0
    have f0 : Fv c H _ := fv_ex hc z0.1
    refine ⟨_, rfl, _, rfl, _, _, rfl, rfl, c, (t : Int) + 1, rfl, f0.1, by omega, by omega, fun u H1 u0 u1 e1 => ⟨_, rfl, by omega, by omega, ?_⟩⟩
    have i0 : T4 H1 x0 1 0 0 1 := z0.2.ex fun b xs z => fv_tup f0.1 e1 z
    refine for_range (lo := 0) (n := u.toNat) (fun i σ H' => ∃ x p q r s y3 y4 y5, σ = [some (.ref c), some (.int (t : Int)), some (.ref x), y3, y4, y5] ∧ Fv c H H' ∧ T4 H' x p q r s ∧ Gd i p q r s) ⟨x0, 1, 0, 0, 1, none, none, none, rfl, f0.trans e1, i0, (show Gd 0 1 0 0 1 from ⟨by decide, by decide, by decide, by decide, .inl (by decide)⟩)⟩ ?_ ?_
    · rintro i σ H' hi ⟨x, p, q', r, s', y3, y4, y5, rfl, e2, h4, hg⟩
      have hi4 : i < 4 := by omega
      refine ⟨_, rfl, _, rfl, _, rfl, _, _, rfl, rfl, ⟨by decide, by decide, by decide⟩, _, rfl, c, 99, rfl, e2.1, by decide, by decide, fun v H3 v0 v1 e3 => ⟨_, _, rfl, rfl, sl6, fun l nl => ?_⟩⟩
      have f3 : Fv c H' H3 := e3
      refine ⟨c, l, [.int 1, .int (-1), .int 2, .int (-3), .int 5, .int (1000000 + v)], rfl, vat_new f3.1 nl, upd_same, fv_ne f3.1 nl, by simp, by show 6 ≤ 1000; decide, fun y H4 hy e4 => ?_⟩
      obtain ⟨z, rfl, hz⟩ : ∃ z : Int, y = .int z ∧ z.natAbs ≤ 1000098 := by
        simp only [List.mem_cons, List.mem_nil_iff, or_false] at hy
        rcases hy with rfl | rfl | rfl | rfl | rfl | rfl
        · exact ⟨_, rfl, by decide⟩
        · exact ⟨_, rfl, by decide⟩
        · exact ⟨_, rfl, by decide⟩
        · exact ⟨_, rfl, by decide⟩
        · exact ⟨_, rfl, by decide⟩
        · exact ⟨_, rfl, by omega⟩
      have f4 : Fv c H' H4 := (f3.trans (fv_new f3.1 nl)).trans e4
      refine ⟨_, rfl, _, rfl, sl2, fun a1 m1 => ⟨sl2, fun a2 m2 => ⟨sl2, fun a3 m3 => ?_⟩⟩⟩
      have w1 := t4_new m1 m2 m3
      generalize upd (upd (upd H4 a1 (.tup [.int 1, .int z])) a2 (.tup [.int 0, .int 1])) a3 (.tup [.ref a1, .ref a2]) = Ha at w1 ⊢
      refine ⟨sl2, fun a1 m1 => ⟨_, rfl, sl2, fun a2 m2 => ⟨sl2, fun b3 m3 => ?_⟩⟩⟩
      have w2 := t4_new m1 m2 m3
      generalize upd (upd (upd Ha a1 (.tup [.int 1, .int 0])) a2 (.tup [.int z, .int 1])) b3 (.tup [.ref a1, .ref a2]) = Hb at w2 ⊢
      refine ⟨sl2, fun a1 m1 => ⟨sl2, fun a2 m2 => ⟨sl2, fun c3 m3 => ?_⟩⟩⟩
      have w3 := t4_new m1 m2 m3
      generalize upd (upd (upd Hb a1 (.tup [.int 0, .int 1])) a2 (.tup [.int 1, .int 0])) c3 (.tup [.ref a1, .ref a2]) = Hc at w3 ⊢
      refine ⟨_, rfl, sl2, fun a1 m1 => ⟨sl2, fun a2 m2 => ⟨sl2, fun d3 m3 => ?_⟩⟩⟩
      have w4 := t4_new m1 m2 m3
      generalize upd (upd (upd Hc a1 (.tup [.int (-1), .int 0])) a2 (.tup [.int 0, .int 1])) d3 (.tup [.ref a1, .ref a2]) = Hd at w4 ⊢
      refine ⟨sl2, fun a1 m1 => ⟨_, rfl, sl2, fun a2 m2 => ⟨sl2, fun g3 m3 => ?_⟩⟩⟩
      have w5 := t4_new m1 m2 m3
      generalize upd (upd (upd Hd a1 (.tup [.int 0, .int 1])) a2 (.tup [.int (-1), .int 0])) g3 (.tup [.ref a1, .ref a2]) = Hg at w5 ⊢
      refine ⟨sl5, fun l2 nl2 => ?_⟩
      have eg : Ex0 H4 Hg := (((w1.1.trans w2.1).trans w3.1).trans w4.1).trans w5.1
      have f5 : Fv c H' Hg := f4.trans (fv_ex f4.1 eg)
      have f6 : Fv c Hg (upd Hg l2 (.lst [.ref a3, .ref b3, .ref c3, .ref d3, .ref g3])) := fv_new f5.1 nl2
      refine ⟨c, l2, [.ref a3, .ref b3, .ref c3, .ref d3, .ref g3], rfl, f6.1, upd_same, fv_ne f5.1 nl2, by simp, by show 5 ≤ 1000; decide, fun y H6 hy e6 => ?_⟩
      have f7 : Fv c Hg H6 := f6.trans e6
      have up : ∀ {t : Addr} {i j k m : Int}, T4 Hg t i j k m → T4 H6 t i j k m := fun h => h.ex fun b xs z => fv_tup f5.1 f7 z
      obtain ⟨x2, i', j, k, m, rfl, h2, g2⟩ : ∃ x2 i' j k m, y = .ref x2 ∧ T4 H6 x2 i' j k m ∧ Pl i' j k m := by
        simp only [List.mem_cons, List.mem_nil_iff, or_false] at hy
        rcases hy with rfl | rfl | rfl | rfl | rfl
        · exact ⟨_, _, _, _, _, rfl, up (Ex0.t4 (((w2.1.trans w3.1).trans w4.1).trans w5.1) w1.2), z, hz, .inl ⟨rfl, rfl, rfl, rfl⟩⟩
        · exact ⟨_, _, _, _, _, rfl, up (Ex0.t4 ((w3.1.trans w4.1).trans w5.1) w2.2), z, hz, .inr (.inl ⟨rfl, rfl, rfl, rfl⟩)⟩
        · exact ⟨_, _, _, _, _, rfl, up (Ex0.t4 (w4.1.trans w5.1) w3.2), z, hz, .inr (.inr (.inl ⟨rfl, rfl, rfl, rfl⟩))⟩
        · exact ⟨_, _, _, _, _, rfl, up (Ex0.t4 w5.1 w4.2), z, hz, .inr (.inr (.inr (.inl ⟨rfl, rfl, rfl, rfl⟩)))⟩
        · exact ⟨_, _, _, _, _, rfl, up w5.2, z, hz, .inr (.inr (.inr (.inr ⟨rfl, rfl, rfl, rfl⟩)))⟩
      have f8 : Fv c H' H6 := f5.trans f7
      have h1 : T4 H6 x p q' r s' := h4.ex fun b xs z => fv_tup e2.1 f8 z
      have gb := hg.b (by omega)
      have pb := g2.b
      refine ⟨_, rfl, _, rfl, x, x2, p, q', r, s', i', j, k, m, rfl, h1, h2, gb.1.mono (by decide), gb.2.1.mono (by decide), gb.2.2.1.mono (by decide), gb.2.2.2.mono (by decide), pb.1, pb.2.1, pb.2.2.1, pb.2.2.2, fun x3 H7 e7 h7 => ?_⟩
      exact ⟨x3, _, _, _, _, _, _, _, rfl, (e2.trans f8).trans (fv_ex (e2.trans f8).1 e7), h7, hg.step g2⟩
    · rintro σ H' ⟨x, p, q', r, s', y3, y4, y5, rfl, e2, h4, hg⟩
      exact ⟨_, rfl, q x p q' r s' H' e2 h4 (hg.mono (by omega))⟩
theorem ok_l_many (T : Txt K mg C_Form C_Double) : Def P w K mg base 1 "_law_many" ["_law_number_here", "_law_row"] (sp_l_many K C_Form C_Double) := by
  obtain ⟨f_, fd_, g_, F_⟩ := T.d_l_many
  refine ⟨f_, fd_, g_, F_.kp, F_.binds (ps := ["_law_number_here", "_law_row"]) (fun _ _ _ _ _ _ us hl => match us, hl with | [_, _], _ => rfl), ?_⟩
  refine F_.ok sc_l_many (fun vs H Q E h => ?_) (fun cdv A outer s H vs Q E hr h => ?_)
  · first | (obtain ⟨rfl, _⟩ := h; rfl) | (obtain ⟨_, rfl, _⟩ := h; rfl) | (obtain ⟨_, _, rfl, _⟩ := h; rfl) | (obtain ⟨_, _, _, rfl, _⟩ := h; rfl) | (obtain ⟨_, _, _, _, rfl, _⟩ := h; rfl) | (obtain ⟨_, _, _, _, _, rfl, _⟩ := h; rfl) | (obtain ⟨_, _, _, _, _, _, rfl, _⟩ := h; rfl) | (obtain ⟨_, _, _, _, _, _, _, rfl, _⟩ := h; rfl) | (obtain ⟨_, _, _, _, _, _, _, _, rfl, _⟩ := h; rfl) | (obtain ⟨_, _, _, _, _, _, _, _, _, rfl, _⟩ := h; rfl) | (obtain ⟨_, _, _, _, _, _, _, _, _, _, rfl, _⟩ := h; rfl) | (obtain ⟨_, _, _, _, _, _, _, _, _, _, _, rfl, _⟩ := h; rfl) | (obtain ⟨_, _, _, _, _, _, _, _, _, _, _, _, rfl, _⟩ := h; rfl) | (obtain ⟨_, _, _, _, _, _, _, _, _, _, _, _, _, rfl, _⟩ := h; rfl) | (obtain ⟨_, _, _, _, _, _, _, _, _, _, _, _, _, _, rfl, _⟩ := h; rfl) | (obtain ⟨_, _, _, _, _, _, _, _, _, _, _, _, _, _, _, rfl, _⟩ := h; rfl) | (obtain ⟨_, _, _, _, _, _, _, _, _, _, _, _, _, _, _, _, rfl, _⟩ := h; rfl) | (obtain ⟨_, _, _, _, _, _, _, _, _, _, _, _, _, _, _, _, _, rfl, _⟩ := h; rfl) | (obtain ⟨_, _, _, _, _, _, _, _, _, _, _, _, _, _, _, _, _, _, rfl, _⟩ := h; rfl) | (obtain ⟨_, _, _, _, _, _, _, _, _, _, _, _, _, _, _, _, _, _, _, rfl, _⟩ := h; rfl) | (obtain ⟨_, _, _, _, _, _, _, _, _, _, _, _, _, _, _, _, _, _, _, _, rfl, _⟩ := h; rfl) | (obtain ⟨_, _, _, _, _, _, _, _, _, _, _, _, _, _, _, _, _, _, _, _, _, rfl, _⟩ := h; rfl) | (obtain ⟨_, _, _, _, _, _, _, _, _, _, _, _, _, _, _, _, _, _, _, _, _, _, rfl, _⟩ := h; rfl) | (obtain ⟨_, _, _, _, _, _, _, _, _, _, _, _, _, _, _, _, _, _, _, _, _, _, _, rfl, _⟩ := h; rfl)
  · obtain ⟨n, a, xs, rfl, ha, bn, bx, hx, q⟩ := h
    refine ⟨_, (pss_one (ps_ret (pe_callTy call_tuple_of (by rfl) T.b_tuple (by decide +kernel) (pa_cons (pe_lc (own := [("_law_entry_here", 2)]) (g := (gName 2)) rfl sc_l_many.nd (pi_tup (pv 1)) (blkOk_by (N := N_l_many) (sc := defScope s_l_many) (by decide +kernel)) (fun _ _ _ _ _ => (pg_name (i := 2) sc_l_many.nd rfl (.inl rfl))) (fun _ _ _ _ _ => pts_nil) (fun _ _ _ _ _ => (pe_op op_mulW (pv 0) (pv 2)))) pa_nil)))), ?_⟩
    refine ⟨_, rfl, a, rfl, ⟨_, SqT.of ha⟩, ?_⟩
    refine lcT fm0 trivial (SqT.of ha) (fun z => z) (fun i acc _ => acc = ((xs.take i).map fun x => n * x).map V.int) (fun _ _ => rfl) (fun D i x acc H' hD hx' e hA hlen hp => ?_) (fun D H' acc hD e hA hp => ?_)
    · obtain ⟨z, hz, rfl⟩ := get_int hx'
      have hi := (List.getElem?_eq_some_iff.mp hz).1
      refine ⟨rfl, ?_⟩
      refine ⟨_, rfl, _, rfl, _, _, rfl, rfl, mulB bn (bx _ (List.mem_of_getElem? hz)) (by decide), ?_⟩
      refine cs_yes fm0 trivial hD e hA hlen (by omega) (Fx.refl trivial) ?_
      rw [hp, List.take_add_one, hz, List.map_append, List.map_append]
      rfl
    · rw [List.length_map, List.take_length] at hp
      subst hp
      refine ⟨D, _, rfl, .inl ⟨SqL.of hA, fun p np => ?_⟩⟩
      exact q p _ (e.trans (Ex0.new np)) upd_same
end
end K09
namespace K09
open PySem PySem.Spec PyProof.Rows L2 Fr
open K05M (fv fl2 fl3 fdisc)
open K06M
def Plc (p q : Int) : Prop := 0 ≤ q ∧ Nat.gcd p.natAbs q.natAbs = 1 ∧ p.natAbs ≤ 100000000000000000 ∧ q.natAbs ≤ 100000000000000000
def sp_l_lowest (_ : PySem.W.Frag) (_ _ : Addr) : Sp := fun vs H Q _ => ∃ x y : Int, vs = [.int x, .int y] ∧ (x ≠ 0 ∨ y ≠ 0) ∧ x.natAbs ≤ 100000000000000000 ∧ y.natAbs ≤ 100000000000000000 ∧ ∀ t p q H', Ex0 H H' → Ti H' t [p, q] → Plc p q → Q (.ref t) H'
def sp_l_place (_ : PySem.W.Frag) (_ _ : Addr) : Sp := fun vs H Q _ => ∃ c : Addr, vs = [.ref c] ∧ Vat c H ∧ ∀ t p q H', Fv c H H' → Ti H' t [p, q] → Plc p q → Q (.ref t) H'
def sp_l_partner (_ : PySem.W.Frag) (_ _ : Addr) : Sp := fun vs H Q _ => ∃ p q : Int, vs = [.int p, .int q] ∧ Plc p q ∧ ∀ t r s H', Ex0 H H' → Ti H' t [r, s] → ChOk p q r s → Q (.ref t) H'
theorem gcdL_2 (x y : Int) : gcdL [x, y] = Nat.gcd x.natAbs y.natAbs := by simp [gcdL]
theorem low {x y sh : Int} (hs : sh.natAbs = Nat.gcd x.natAbs y.natAbs) (h0 : sh ≠ 0) (hy : (0 < sh ∧ 0 ≤ y) ∨ (sh < 0 ∧ y ≤ 0)) (hx : x.natAbs ≤ 100000000000000000) (hy2 : y.natAbs ≤ 100000000000000000) : Plc (x.fdiv sh) (y.fdiv sh) := by
  have dx : sh ∣ x := Int.natAbs_dvd_natAbs.mp (by rw [hs]; exact Nat.gcd_dvd_left _ _)
  have dy : sh ∣ y := Int.natAbs_dvd_natAbs.mp (by rw [hs]; exact Nat.gcd_dvd_right _ _)
  obtain ⟨a, rfl⟩ := dx
  obtain ⟨b, rfl⟩ := dy
  rw [Int.mul_fdiv_cancel_left _ h0, Int.mul_fdiv_cancel_left _ h0]
  have s0 : 0 < sh.natAbs := by omega
  have la : a.natAbs ≤ (sh * a).natAbs := by rw [Int.natAbs_mul]; exact Nat.le_mul_of_pos_left _ s0
  have lb : b.natAbs ≤ (sh * b).natAbs := by rw [Int.natAbs_mul]; exact Nat.le_mul_of_pos_left _ s0
  refine ⟨?_, ?_, Nat.le_trans la hx, Nat.le_trans lb hy2⟩
  · rcases hy with ⟨h1, h2⟩ | ⟨h1, h2⟩
    · exact Int.le_of_mul_le_mul_left (by omega) h1
    · have : 0 ≤ (-sh) * b := by rw [Int.neg_mul]; omega
      exact Int.le_of_mul_le_mul_left (a := -sh) (by omega) (by omega)
  · rw [Int.natAbs_mul, Int.natAbs_mul, Nat.gcd_mul_left] at hs
    exact Nat.eq_of_mul_eq_mul_left s0 (by omega)
section
variable {P : Program} {w : World} {K : PySem.W.Frag} {mg : Str → Option Value} {base : Heap} {C_Form C_Double : Addr}
theorem ok_l_lowest (T : Txt K mg C_Form C_Double) : Def P w K mg base 2 "_law_lowest" ["_law_x", "_law_y"] (sp_l_lowest K C_Form C_Double) := by
  obtain ⟨f_, fd_, g_, F_⟩ := T.d_l_lowest
  obtain ⟨f_l_common, fd_l_common, g_l_common, k_l_common, b_l_common, G_l_common⟩ := (ok_l_common (P := P) (w := w) (base := base) T)
  refine ⟨f_, fd_, g_, F_.kp, F_.binds (ps := ["_law_x", "_law_y"]) (fun _ _ _ _ _ _ us hl => match us, hl with | [_, _], _ => rfl), ?_⟩
  refine F_.ok sc_l_lowest (fun vs H Q E h => ?_) (fun cdv A outer s H vs Q E hr h => ?_)
  · first | (obtain ⟨rfl, _⟩ := h; rfl) | (obtain ⟨_, rfl, _⟩ := h; rfl) | (obtain ⟨_, _, rfl, _⟩ := h; rfl) | (obtain ⟨_, _, _, rfl, _⟩ := h; rfl) | (obtain ⟨_, _, _, _, rfl, _⟩ := h; rfl) | (obtain ⟨_, _, _, _, _, rfl, _⟩ := h; rfl) | (obtain ⟨_, _, _, _, _, _, rfl, _⟩ := h; rfl) | (obtain ⟨_, _, _, _, _, _, _, rfl, _⟩ := h; rfl) | (obtain ⟨_, _, _, _, _, _, _, _, rfl, _⟩ := h; rfl) | (obtain ⟨_, _, _, _, _, _, _, _, _, rfl, _⟩ := h; rfl) | (obtain ⟨_, _, _, _, _, _, _, _, _, _, rfl, _⟩ := h; rfl) | (obtain ⟨_, _, _, _, _, _, _, _, _, _, _, rfl, _⟩ := h; rfl) | (obtain ⟨_, _, _, _, _, _, _, _, _, _, _, _, rfl, _⟩ := h; rfl) | (obtain ⟨_, _, _, _, _, _, _, _, _, _, _, _, _, rfl, _⟩ := h; rfl) | (obtain ⟨_, _, _, _, _, _, _, _, _, _, _, _, _, _, rfl, _⟩ := h; rfl) | (obtain ⟨_, _, _, _, _, _, _, _, _, _, _, _, _, _, _, rfl, _⟩ := h; rfl) | (obtain ⟨_, _, _, _, _, _, _, _, _, _, _, _, _, _, _, _, rfl, _⟩ := h; rfl) | (obtain ⟨_, _, _, _, _, _, _, _, _, _, _, _, _, _, _, _, _, rfl, _⟩ := h; rfl) | (obtain ⟨_, _, _, _, _, _, _, _, _, _, _, _, _, _, _, _, _, _, rfl, _⟩ := h; rfl) | (obtain ⟨_, _, _, _, _, _, _, _, _, _, _, _, _, _, _, _, _, _, _, rfl, _⟩ := h; rfl) | (obtain ⟨_, _, _, _, _, _, _, _, _, _, _, _, _, _, _, _, _, _, _, _, rfl, _⟩ := h; rfl) | (obtain ⟨_, _, _, _, _, _, _, _, _, _, _, _, _, _, _, _, _, _, _, _, _, rfl, _⟩ := h; rfl) | (obtain ⟨_, _, _, _, _, _, _, _, _, _, _, _, _, _, _, _, _, _, _, _, _, _, rfl, _⟩ := h; rfl) | (obtain ⟨_, _, _, _, _, _, _, _, _, _, _, _, _, _, _, _, _, _, _, _, _, _, _, rfl, _⟩ := h; rfl)
  · obtain ⟨x, y, rfl, h0, hx, hy, q⟩ := h
    refine ⟨_, (pss_cons (ps_set (i := 2) sc_l_lowest.nd rfl (.inl rfl) (pe_call G_l_common (hr.mono (by decide)) (by rfl) g_l_common k_l_common b_l_common .nil pass0 (pa_cons (pe_tup (pa_cons (pv 0) (pa_cons (pv 1) pa_nil))) pa_nil)))
    (Evl.pss_cut (ps_if (PW.pt (pw_or (pt_cmpR op_lt (pv 1) pe_int (nomark _)) (pw_or1 (PW.pt (pw_and (pt_cmpR op_eq (pv 1) pe_int (nomark _)) (pw_and1 (pt_cmpR op_lt (pv 0) pe_int (nomark _))))))))
      (pss_one (ps_set (i := 2) sc_l_lowest.nd rfl (.inl rfl) (pe_op op_sub pe_int (pv 2))))
      pss_nil)
    (pss_one (ps_ret (pe_tup (pa_cons (pe_op op_fdivNW (pv 0) (pv 2)) (pa_cons (pe_op op_fdivNW (pv 1) (pv 2)) pa_nil))))))), ?_⟩
    refine ⟨_, rfl, _, rfl, sl2, fun t0 n0 => ?_⟩
    have e0 : Ex0 H (upd H t0 (.tup [.int x, .int y])) := Ex0.new n0
    refine ⟨t0, [x, y], rfl, upd_same, ?_⟩
    rw [gcdL_2]
    have g0 : 0 < Nat.gcd x.natAbs y.natAbs := by
      rcases h0 with h | h
      · exact Nat.gcd_pos_of_pos_left _ (by omega)
      · exact Nat.gcd_pos_of_pos_right _ (by omega)
    have g1 : Nat.gcd x.natAbs y.natAbs ≤ 100000000000000000 := by
      rcases h0 with h | h
      · exact Nat.le_trans (Nat.gcd_le_left _ (by omega)) hx
      · exact Nat.le_trans (Nat.gcd_le_right _ (by omega)) hy
    generalize hg : Nat.gcd x.natAbs y.natAbs = g at *
    have e1 := e0
    generalize upd H t0 (.tup [.int x, .int y]) = H1 at *
    refine ⟨fun σ H' => ∃ sh : Int, σ = [some (.int x), some (.int y), some (.int sh)] ∧ H1 = H' ∧ sh.natAbs = g ∧ ((0 < sh ∧ 0 ≤ y) ∨ (sh < 0 ∧ y ≤ 0)), ?_, ?_⟩
    · have yes : ∃ sh : Int, [some (V.int x), some (V.int y), some (V.int (0 - (g : Int)))] = [some (.int x), some (.int y), some (.int sh)] ∧ H1 = H1 ∧ sh.natAbs = g ∧ (y ≤ 0 → ((0 < sh ∧ 0 ≤ y) ∨ (sh < 0 ∧ y ≤ 0))) := ⟨_, rfl, rfl, by omega, fun h => .inr ⟨by omega, h⟩⟩
      refine ⟨_, rfl, _, _, rfl, rfl, _, rfl, iteD (fun h => ?_) (fun h => ?_)⟩
      · refine ⟨_, rfl, _, _, rfl, rfl, ?_⟩
        exact ⟨0 - (g : Int), rfl, rfl, by omega, .inr ⟨by omega, by omega⟩⟩
      · refine ⟨_, rfl, rfl, _, rfl, iteE (fun h2 => ?_) (fun h2 => ?_)⟩
        · refine ⟨_, rfl, _, _, rfl, rfl, _, rfl, iteD (fun h3 => ?_) (fun h3 => ?_)⟩
          · refine ⟨_, rfl, _, _, rfl, rfl, ?_⟩
            exact ⟨0 - (g : Int), rfl, rfl, by omega, .inr ⟨by omega, by omega⟩⟩
          · exact ⟨(g : Int), rfl, rfl, by omega, .inl ⟨by omega, by omega⟩⟩
        · exact ⟨(g : Int), rfl, rfl, by omega, .inl ⟨by omega, by omega⟩⟩
    rintro σ _ ⟨sh, rfl, rfl, hs, hy3⟩
    have s0 : sh ≠ 0 := by omega
    have sl : sh.natAbs.log2 < 9000 := log_lt (a := 9000) (Nat.lt_of_le_of_lt (by omega : sh.natAbs ≤ 100000000000000000) (Nat.lt_of_lt_of_le (by decide : 100000000000000000 < 2 ^ 64) (Nat.pow_le_pow_right (by decide) (by decide)))) (by decide)
    refine ⟨_, rfl, _, rfl, _, _, rfl, rfl, ⟨s0, sl⟩, _, rfl, _, rfl, _, _, rfl, rfl, ⟨s0, sl⟩, sl2, fun t nt => ?_⟩
    exact q t _ _ _ (e1.trans (Ex0.new nt)) upd_same (low (by rw [hs, hg]) s0 hy3 hx hy)
theorem ok_l_place (T : Txt K mg C_Form C_Double) : Def P w K mg base 4 "_law_place" ["_law_cask_here"] (sp_l_place K C_Form C_Double) := by
  obtain ⟨f_, fd_, g_, F_⟩ := T.d_l_place
  obtain ⟨f_l_entry, fd_l_entry, g_l_entry, k_l_entry, b_l_entry, G_l_entry⟩ := (ok_l_entry (P := P) (w := w) (base := base) T)
  obtain ⟨f_l_lowest, fd_l_lowest, g_l_lowest, k_l_lowest, b_l_lowest, G_l_lowest⟩ := (ok_l_lowest (P := P) (w := w) (base := base) T)
  refine ⟨f_, fd_, g_, F_.kp, F_.binds (ps := ["_law_cask_here"]) (fun _ _ _ _ _ _ us hl => match us, hl with | [_], _ => rfl), ?_⟩
  refine F_.ok sc_l_place (fun vs H Q E h => ?_) (fun cdv A outer s H vs Q E hr h => ?_)
  · first | (obtain ⟨rfl, _⟩ := h; rfl) | (obtain ⟨_, rfl, _⟩ := h; rfl) | (obtain ⟨_, _, rfl, _⟩ := h; rfl) | (obtain ⟨_, _, _, rfl, _⟩ := h; rfl) | (obtain ⟨_, _, _, _, rfl, _⟩ := h; rfl) | (obtain ⟨_, _, _, _, _, rfl, _⟩ := h; rfl) | (obtain ⟨_, _, _, _, _, _, rfl, _⟩ := h; rfl) | (obtain ⟨_, _, _, _, _, _, _, rfl, _⟩ := h; rfl) | (obtain ⟨_, _, _, _, _, _, _, _, rfl, _⟩ := h; rfl) | (obtain ⟨_, _, _, _, _, _, _, _, _, rfl, _⟩ := h; rfl) | (obtain ⟨_, _, _, _, _, _, _, _, _, _, rfl, _⟩ := h; rfl) | (obtain ⟨_, _, _, _, _, _, _, _, _, _, _, rfl, _⟩ := h; rfl) | (obtain ⟨_, _, _, _, _, _, _, _, _, _, _, _, rfl, _⟩ := h; rfl) | (obtain ⟨_, _, _, _, _, _, _, _, _, _, _, _, _, rfl, _⟩ := h; rfl) | (obtain ⟨_, _, _, _, _, _, _, _, _, _, _, _, _, _, rfl, _⟩ := h; rfl) | (obtain ⟨_, _, _, _, _, _, _, _, _, _, _, _, _, _, _, rfl, _⟩ := h; rfl) | (obtain ⟨_, _, _, _, _, _, _, _, _, _, _, _, _, _, _, _, rfl, _⟩ := h; rfl) | (obtain ⟨_, _, _, _, _, _, _, _, _, _, _, _, _, _, _, _, _, rfl, _⟩ := h; rfl) | (obtain ⟨_, _, _, _, _, _, _, _, _, _, _, _, _, _, _, _, _, _, rfl, _⟩ := h; rfl) | (obtain ⟨_, _, _, _, _, _, _, _, _, _, _, _, _, _, _, _, _, _, _, rfl, _⟩ := h; rfl) | (obtain ⟨_, _, _, _, _, _, _, _, _, _, _, _, _, _, _, _, _, _, _, _, rfl, _⟩ := h; rfl) | (obtain ⟨_, _, _, _, _, _, _, _, _, _, _, _, _, _, _, _, _, _, _, _, _, rfl, _⟩ := h; rfl) | (obtain ⟨_, _, _, _, _, _, _, _, _, _, _, _, _, _, _, _, _, _, _, _, _, _, rfl, _⟩ := h; rfl) | (obtain ⟨_, _, _, _, _, _, _, _, _, _, _, _, _, _, _, _, _, _, _, _, _, _, _, rfl, _⟩ := h; rfl)
  · obtain ⟨c, rfl, hc, q⟩ := h
    refine ⟨_, (pss_cons (ps_par (i := 1) (j := 2) (by rfl) sc_l_place.nd rfl rfl (by decide) rfl rfl (pa_cons (pe_call G_l_entry (hr.mono (by decide)) (by rfl) g_l_entry k_l_entry b_l_entry .nil pass0 (pa_cons (pv 0) pa_nil)) (pa_cons (pe_call G_l_entry (hr.mono (by decide)) (by rfl) g_l_entry k_l_entry b_l_entry .nil pass0 (pa_cons (pv 0) pa_nil)) pa_nil)) (by rfl))
    (pss_one (ps_ret (pe_ifExp (PW.pt (pw_or (pt_cmpR op_ne (pv 1) pe_int (nomark _)) (pw_or1 (pt_cmpR op_ne (pv 2) pe_int (nomark _))))) (pe_call G_l_lowest (hr.mono (by decide)) (by rfl) g_l_lowest k_l_lowest b_l_lowest .nil pass0 (pa_cons (pv 1) (pa_cons (pv 2) pa_nil))) (pe_tup (pa_cons pe_int (pa_cons pe_int pa_nil))))))), ?_⟩
    refine ⟨_, rfl, c, rfl, hc, fun X H1 hX e1 => ⟨_, rfl, c, rfl, e1.1, fun Y H2 hY e2 => ⟨_, _, rfl, ?_⟩⟩⟩
    have e12 := e1.trans e2
    refine ⟨_, rfl, rfl, _, rfl, iteEn (fun h1 => ?_) (fun h1 => ?_)⟩
    · refine ⟨_, rfl, _, rfl, X, Y, rfl, .inl h1, hX, hY, fun t p q' H3 e3 h3 h4 => ?_⟩
      exact q t p q' H3 (e12.trans (fv_ex e12.1 e3)) h3 h4
    · refine ⟨_, rfl, rfl, _, rfl, iteEn (fun h2 => ?_) (fun h2 => ?_)⟩
      · refine ⟨_, rfl, _, rfl, X, Y, rfl, .inr h2, hX, hY, fun t p q' H3 e3 h3 h4 => ?_⟩
        exact q t p q' H3 (e12.trans (fv_ex e12.1 e3)) h3 h4
      · refine ⟨sl2, fun t nt => ?_⟩
        exact q t 1 0 _ (e12.trans (fv_new e12.1 nt)) upd_same ⟨by decide, by decide, by decide, by decide⟩
theorem ok_l_partner (T : Txt K mg C_Form C_Double) : Def P w K mg base 1 "_law_partner" ["_law_p", "_law_q"] (sp_l_partner K C_Form C_Double) := by
  obtain ⟨f_, fd_, g_, F_⟩ := T.d_l_partner
  refine ⟨f_, fd_, g_, F_.kp, F_.binds (ps := ["_law_p", "_law_q"]) (fun _ _ _ _ _ _ us hl => match us, hl with | [_, _], _ => rfl), ?_⟩
  refine F_.ok sc_l_partner (fun vs H Q E h => ?_) (fun cdv A outer s H vs Q E hr h => ?_)
  · first | (obtain ⟨rfl, _⟩ := h; rfl) | (obtain ⟨_, rfl, _⟩ := h; rfl) | (obtain ⟨_, _, rfl, _⟩ := h; rfl) | (obtain ⟨_, _, _, rfl, _⟩ := h; rfl) | (obtain ⟨_, _, _, _, rfl, _⟩ := h; rfl) | (obtain ⟨_, _, _, _, _, rfl, _⟩ := h; rfl) | (obtain ⟨_, _, _, _, _, _, rfl, _⟩ := h; rfl) | (obtain ⟨_, _, _, _, _, _, _, rfl, _⟩ := h; rfl) | (obtain ⟨_, _, _, _, _, _, _, _, rfl, _⟩ := h; rfl) | (obtain ⟨_, _, _, _, _, _, _, _, _, rfl, _⟩ := h; rfl) | (obtain ⟨_, _, _, _, _, _, _, _, _, _, rfl, _⟩ := h; rfl) | (obtain ⟨_, _, _, _, _, _, _, _, _, _, _, rfl, _⟩ := h; rfl) | (obtain ⟨_, _, _, _, _, _, _, _, _, _, _, _, rfl, _⟩ := h; rfl) | (obtain ⟨_, _, _, _, _, _, _, _, _, _, _, _, _, rfl, _⟩ := h; rfl) | (obtain ⟨_, _, _, _, _, _, _, _, _, _, _, _, _, _, rfl, _⟩ := h; rfl) | (obtain ⟨_, _, _, _, _, _, _, _, _, _, _, _, _, _, _, rfl, _⟩ := h; rfl) | (obtain ⟨_, _, _, _, _, _, _, _, _, _, _, _, _, _, _, _, rfl, _⟩ := h; rfl) | (obtain ⟨_, _, _, _, _, _, _, _, _, _, _, _, _, _, _, _, _, rfl, _⟩ := h; rfl) | (obtain ⟨_, _, _, _, _, _, _, _, _, _, _, _, _, _, _, _, _, _, rfl, _⟩ := h; rfl) | (obtain ⟨_, _, _, _, _, _, _, _, _, _, _, _, _, _, _, _, _, _, _, rfl, _⟩ := h; rfl) | (obtain ⟨_, _, _, _, _, _, _, _, _, _, _, _, _, _, _, _, _, _, _, _, rfl, _⟩ := h; rfl) | (obtain ⟨_, _, _, _, _, _, _, _, _, _, _, _, _, _, _, _, _, _, _, _, _, rfl, _⟩ := h; rfl) | (obtain ⟨_, _, _, _, _, _, _, _, _, _, _, _, _, _, _, _, _, _, _, _, _, _, rfl, _⟩ := h; rfl) | (obtain ⟨_, _, _, _, _, _, _, _, _, _, _, _, _, _, _, _, _, _, _, _, _, _, _, rfl, _⟩ := h; rfl)
  · obtain ⟨p, q', rfl, ⟨hq, hg, hp1, hq1⟩, q⟩ := h
    refine ⟨_, (pss_cons (ps_par3 (i := 2) (j := 3) (l := 4) (by rfl) sc_l_partner.nd rfl rfl rfl (by decide) (by decide) (by decide) rfl rfl rfl (pa_cons (pv 0) (pa_cons (pv 1) (pa_cons (pe_lst (pa_cons (pe_tup (pa_cons pe_int (pa_cons pe_int pa_nil))) (pa_cons (pe_tup (pa_cons pe_int (pa_cons pe_int pa_nil))) pa_nil))) pa_nil))) (by rfl))
    (pss_cons (ps_while PassesOwn.never (pt_cmpR op_ne (pv 3) pe_int (nomark _))
      (pss_cons (ps_set (i := 5) sc_l_partner.nd rfl (.inl rfl) (pe_op op_fdivW (pv 2) (pv 3)))
    (pss_cons (ps_par (i := 2) (j := 3) (by rfl) sc_l_partner.nd rfl rfl (by decide) rfl rfl (pa_cons (pv 3) (pa_cons (pe_op op_sub (pv 2) (pe_op op_mulW (pv 5) (pv 3))) pa_nil)) (by rfl))
    (pss_one (ps_set (i := 4) sc_l_partner.nd rfl (.inl rfl) (pe_lst (pa_cons (pe_ix ix_list (pv 4) pe_int (fun _ _ => rfl)) (pa_cons (pe_tup (pa_cons (pe_op op_sub (pe_ix ix_tup (pe_ix ix_list (pv 4) pe_int (fun _ _ => rfl)) pe_int (fun _ _ => rfl)) (pe_op op_mulW (pv 5) (pe_ix ix_tup (pe_ix ix_list (pv 4) pe_int (fun _ _ => rfl)) pe_int (fun _ _ => rfl)))) (pa_cons (pe_op op_sub (pe_ix ix_tup (pe_ix ix_list (pv 4) pe_int (fun _ _ => rfl)) pe_int (fun _ _ => rfl)) (pe_op op_mulW (pv 5) (pe_ix ix_tup (pe_ix ix_list (pv 4) pe_int (fun _ _ => rfl)) pe_int (fun _ _ => rfl)))) pa_nil))) pa_nil))))))))
    (pss_cons (ps_asg (pe_ix ix_list (pv 4) pe_int (fun _ _ => rfl)) (pg_tup (by rfl) (pgs_cons (pg_name (i := 6) sc_l_partner.nd rfl (.inl rfl)) (pgs_cons (pg_name (i := 7) sc_l_partner.nd rfl (.inl rfl)) pgs_nil))))
    (pss_one (ps_ret (pe_tup (pa_cons (pe_op op_sub pe_int (pv 7)) (pa_cons (pv 6) pa_nil)))))))), ?_⟩
    refine ⟨_, rfl, _, rfl, sl2, fun a na => ⟨sl2, fun b nb => ⟨sl2, fun l nl => ⟨_, _, _, rfl, ?_⟩⟩⟩⟩
    have e1 : Ex0 H (upd H a (.tup [.int 1, .int 0])) := Ex0.new na
    have e2 : Ex0 (upd H a (.tup [.int 1, .int 0])) (upd (upd H a (.tup [.int 1, .int 0])) b (.tup [.int 0, .int 1])) := Ex0.new nb
    have e3 : Ex0 (upd (upd H a (.tup [.int 1, .int 0])) b (.tup [.int 0, .int 1])) (upd (upd (upd H a (.tup [.int 1, .int 0])) b (.tup [.int 0, .int 1])) l (.lst [.ref a, .ref b])) := Ex0.new nl
    have ha : Ti (upd H a (.tup [.int 1, .int 0])) a [1, 0] := upd_same
    have hb : Ti (upd (upd H a (.tup [.int 1, .int 0])) b (.tup [.int 0, .int 1])) b [0, 1] := upd_same
    refine ⟨fun m σ H' => ∃ (one other u v u' v' : Int) (l a b : Addr) (y5 : Option V), σ = [some (.int p), some (.int q'), some (.int one), some (.int other), some (.ref l), y5, none, none] ∧ Ex0 H H' ∧ H' l = some (.lst [.ref a, .ref b]) ∧ Ti H' a [u, v] ∧ Ti H' b [u', v'] ∧ Bz 100000000000000000 p q' one other u v u' v' ∧ m = other.toNat, ⟨_, p, q', 1, 0, 0, 1, l, a, b, none, rfl, (e1.trans e2).trans e3, upd_same, Ex0.ti (e2.trans e3) ha, Ex0.ti e3 hb, Bz.init hq hg hp1 hq1, rfl⟩, ?_⟩
    rintro m σ H' ⟨one, other, u, v, u', v', l, a, b, y5, rfl, e, hl, ha, hb, hz, rfl⟩
    refine ⟨_, rfl, rfl, _, rfl, iteEn (fun g => ?_) (fun g => ?_)⟩
    · obtain ⟨hz2, hm⟩ := hz.step g
      refine ⟨fun σ' H'' => ∃ (one' other' u v u' v' : Int) (l a b : Addr) (y5 : Option V), σ' = [some (.int p), some (.int q'), some (.int one'), some (.int other'), some (.ref l), y5, none, none] ∧ Ex0 H H'' ∧ H'' l = some (.lst [.ref a, .ref b]) ∧ Ti H'' a [u, v] ∧ Ti H'' b [u', v'] ∧ Bz 100000000000000000 p q' one' other' u v u' v' ∧ other'.toNat < other.toNat, fun σ' H'' ⟨o1, o2, u1, v1, u2, v2, l1, a1, b1, y1, k1, k2, k3, k4, k5, k6, k7⟩ => ⟨o2.toNat, k7, o1, o2, u1, v1, u2, v2, l1, a1, b1, y1, k1, k2, k3, k4, k5, k6, rfl⟩, ?_⟩
      have o0 : 0 < other := by have := hz.o; omega
      have bo : B 60 other := ⟨Nat.lt_of_le_of_lt hz.b2 (by decide), by decide⟩
      have bt : B 60 (one / other) := ⟨Nat.lt_of_le_of_lt (Nat.le_trans (by
        have := Int.natAbs_ediv_le_natAbs one other
        exact this) hz.b1) (by decide), by decide⟩
      have bu : B 60 u' := ⟨Nat.lt_of_le_of_lt (Nat.le_trans hz.bu' (by omega : q'.natAbs + 1 ≤ 100000000000000001)) (by decide), by decide⟩
      have bv := hz.bv g hp1
      have bv2 : v'.natAbs ≤ 10000000000000000200000000000000000 := Nat.le_trans bv (by have := Nat.mul_le_mul_right 100000000000000000 (show q'.natAbs + 1 ≤ 100000000000000001 by omega); omega)
      have bv' : B 120 v' := ⟨Nat.lt_of_le_of_lt bv2 (by decide), by decide⟩
      refine ⟨_, rfl, _, rfl, _, _, rfl, rfl, ⟨o0, Nat.lt_trans (log_lt (a := 60) bo.1 (by decide)) (by decide)⟩, ?_⟩
      refine ⟨_, rfl, _, rfl, _, rfl, _, rfl, _, _, rfl, rfl, mulB bt bo (by decide), _, _, rfl, rfl, _, _, rfl, ?_⟩
      have sl : SqL K H' l [.ref a, .ref b] := SqL.of hl
      have sa : SqT K H' a [.int u, .int v] := SqT.of ha
      have sb : SqT K H' b [.int u', .int v'] := SqT.of hb
      refine ⟨_, rfl, l, _, 1, .ref b, rfl, rfl, sl, rfl, ?_⟩
      refine ⟨_, rfl, l, _, 0, .ref a, rfl, rfl, sl, rfl, a, _, 0, .int u, rfl, rfl, sa, rfl, _, rfl, _, rfl, l, _, 1, .ref b, rfl, rfl, sl, rfl, b, _, 0, .int u', rfl, rfl, sb, rfl, _, _, rfl, rfl, mulB bt bu (by decide), _, _, rfl, rfl, ?_⟩
      refine ⟨_, rfl, l, _, 0, .ref a, rfl, rfl, sl, rfl, a, _, 1, .int v, rfl, rfl, sa, rfl, _, rfl, _, rfl, l, _, 1, .ref b, rfl, rfl, sl, rfl, b, _, 1, .int v', rfl, rfl, sb, rfl, _, _, rfl, rfl, mulB bt bv' (by decide), _, _, rfl, rfl, sl2, fun a2 na2 => ⟨sl2, fun l2 nl2 => ?_⟩⟩
      have e4 : Ex0 H' (upd H' a2 (.tup [.int (u - one / other * u'), .int (v - one / other * v')])) := Ex0.new na2
      have e5 : Ex0 (upd H' a2 (.tup [.int (u - one / other * u'), .int (v - one / other * v')])) (upd (upd H' a2 (.tup [.int (u - one / other * u'), .int (v - one / other * v')])) l2 (.lst [.ref b, .ref a2])) := Ex0.new nl2
      have ha2 : Ti (upd H' a2 (.tup [.int (u - one / other * u'), .int (v - one / other * v')])) a2 [u - one / other * u', v - one / other * v'] := upd_same
      exact ⟨_, _, _, _, _, _, l2, b, a2, _, rfl, (e.trans e4).trans e5, upd_same, Ex0.ti (e4.trans e5) hb, Ex0.ti e5 ha2, hz2, hm⟩
    · have g0 : other = 0 := by omega
      subst g0
      obtain ⟨f1, f2, f3⟩ := hz.fin hp1
      refine ⟨_, rfl, l, _, 0, .ref a, rfl, rfl, SqL.of hl, rfl, ?_⟩
      refine ⟨a, _, rfl, SqT.of ha, rfl, _, _, rfl, _, _, rfl, rfl, ?_⟩
      refine ⟨_, rfl, _, _, rfl, rfl, _, rfl, sl2, fun t nt => ?_⟩
      refine q t (0 - v) u _ (e.trans (Ex0.new nt)) upd_same ⟨⟨by omega, by omega⟩, ⟨by omega, by omega⟩, ⟨by omega, by omega⟩, ⟨by omega, by omega⟩, f1⟩
end
end K09
namespace K09
open PySem PySem.Spec PyProof.Rows L2 Fr
open K05M (fv fl2 fl3 fdisc)
open K06M
theorem B.plus {n : Nat} {i j : Int} (h1 : B n i) (h2 : B n j) : B (n + 1) (i + j) := ⟨by
  have a := h1.1
  have b := h2.1
  rw [Nat.pow_succ]
  omega, by omega⟩
theorem B.less {n : Nat} {i j : Int} (h1 : B n i) (h2 : B n j) : B (n + 1) (i - j) := ⟨by
  have a := h1.1
  have b := h2.1
  rw [Nat.pow_succ]
  omega, by omega⟩
theorem short_B {i : Int} (h : B 190 i) : Short i := by
  have h1 : i.natAbs < 1569275433846670190958947355801916604025588861116008628224 := h.1
  exact ⟨by omega, by omega⟩
theorem comp (a b c d p q r s i j k m : Int) : fled ((p * s - q * r) * fv a b c d p q) ((p * s - q * r) * fl2 a b c d p q r s) ((p * s - q * r) * fl3 a b c d p q r s) ((p * s - q * r) * fv a b c d r s) i j k m = fled a b c d (i * p + j * r) (i * q + j * s) (k * p + m * r) (k * q + m * s) := by
  unfold fled
  rw [show ∀ e a b c d x y, fv (e * a) (e * b) (e * c) (e * d) x y = e * fv a b c d x y from K05M.fv_mul, show ∀ e a b c d p q r s, fl2 (e * a) (e * b) (e * c) (e * d) p q r s = e * fl2 a b c d p q r s from K05M.fl2_mul, show ∀ e a b c d p q r s, fl3 (e * a) (e * b) (e * c) (e * d) p q r s = e * fl3 a b c d p q r s from K05M.fl3_mul, show ∀ e a b c d x y, fv (e * a) (e * b) (e * c) (e * d) x y = e * fv a b c d x y from K05M.fv_mul]
  rw [show fv (fv a b c d p q) (fl2 a b c d p q r s) (fl3 a b c d p q r s) (fv a b c d r s) i j = _ from K05M.put1 a b c d p q r s i j, show fv (fv a b c d p q) (fl2 a b c d p q r s) (fl3 a b c d p q r s) (fv a b c d r s) k m = _ from K05M.put1 a b c d p q r s k m, show fl2 (fv a b c d p q) (fl2 a b c d p q r s) (fl3 a b c d p q r s) (fv a b c d r s) i j k m = _ from K05M.put2 a b c d p q r s i j k m, show fl3 (fv a b c d p q) (fl2 a b c d p q r s) (fl3 a b c d p q r s) (fv a b c d r s) i j k m = _ from K05M.put3 a b c d p q r s i j k m]
  rw [K05M.det_mul, ← Int.mul_assoc, ← Int.mul_assoc, ← Int.mul_assoc, ← Int.mul_assoc]
  try rfl
theorem back (a b c d p q r s : Int) (h : p * s - q * r = 1 ∨ p * s - q * r = -1) : fled ((p * s - q * r) * fv a b c d p q) ((p * s - q * r) * fl2 a b c d p q r s) ((p * s - q * r) * fl3 a b c d p q r s) ((p * s - q * r) * fv a b c d r s) ((p * s - q * r) * s) (-(p * s - q * r) * q) (-(p * s - q * r) * r) ((p * s - q * r) * p) = [a, b, c, d] := by
  obtain ⟨u1, u2, u3, u4⟩ := K05M.und p q r s _ rfl h
  rw [comp, u1, u2, u3, u4]
  obtain ⟨v1, v2, v3, v4⟩ := K05M.fv_one a b c d
  unfold fled
  rw [show fv a b c d 1 0 = a from v1, show fv a b c d 0 1 = d from v2, show fl2 a b c d 1 0 0 1 = b from v3, show fl3 a b c d 1 0 0 1 = c from v4]
  simp
theorem disc_led (a b c d p q r s : Int) (h : p * s - q * r = 1 ∨ p * s - q * r = -1) : fdisc ((p * s - q * r) * fv a b c d p q) ((p * s - q * r) * fl2 a b c d p q r s) ((p * s - q * r) * fl3 a b c d p q r s) ((p * s - q * r) * fv a b c d r s) = fdisc a b c d := by
  have h1 : fdisc (fv a b c d p q) (fl2 a b c d p q r s) (fl3 a b c d p q r s) (fv a b c d r s) = _ := K05M.disc a b c d p q r s
  rcases h with h | h
  · rw [h, Int.one_mul, Int.one_mul, Int.one_mul, Int.one_mul, h1, h]
    show 1 * 1 * 1 * 1 * 1 * 1 * fdisc a b c d = _
    simp
  · rw [h, show ∀ x y z u, fdisc (-1 * x) (-1 * y) (-1 * z) (-1 * u) = fdisc x y z u from K05M.disc_neg, h1, h]
    show -1 * -1 * -1 * -1 * -1 * -1 * fdisc a b c d = _
    simp
theorem gcd_dvd {g : Nat} : ∀ (ns : List Int) (x : Nat), g ∣ ns.foldl (fun g n => Nat.gcd g n.natAbs) x ↔ g ∣ x ∧ ∀ n ∈ ns, (g : Int) ∣ n
  | [], x => by simp
  | n :: ns, x => by
    rw [List.foldl_cons, gcd_dvd ns, Nat.dvd_gcd_iff, List.forall_mem_cons, Int.ofNat_dvd_left]
    constructor
    · rintro ⟨⟨h1, h2⟩, h3⟩; exact ⟨h1, h2, h3⟩
    · rintro ⟨h1, h2, h3⟩; exact ⟨⟨h1, h2⟩, h3⟩
theorem gcdL_dvd {g : Nat} {ns : List Int} : g ∣ gcdL ns ↔ ∀ n ∈ ns, (g : Int) ∣ n := by
  unfold gcdL
  rw [gcd_dvd]
  simp
theorem dvd_led {g a b c d : Int} (p q r s : Int) (ha : g ∣ a) (hb : g ∣ b) (hc : g ∣ c) (hd : g ∣ d) : ∀ n ∈ fled a b c d p q r s, g ∣ n := by
  obtain ⟨a, rfl⟩ := ha
  obtain ⟨b, rfl⟩ := hb
  obtain ⟨c, rfl⟩ := hc
  obtain ⟨d, rfl⟩ := hd
  unfold fled
  rw [show ∀ e a b c d x y, fv (e * a) (e * b) (e * c) (e * d) x y = e * fv a b c d x y from K05M.fv_mul, show ∀ e a b c d p q r s, fl2 (e * a) (e * b) (e * c) (e * d) p q r s = e * fl2 a b c d p q r s from K05M.fl2_mul, show ∀ e a b c d p q r s, fl3 (e * a) (e * b) (e * c) (e * d) p q r s = e * fl3 a b c d p q r s from K05M.fl3_mul, show ∀ e a b c d x y, fv (e * a) (e * b) (e * c) (e * d) x y = e * fv a b c d x y from K05M.fv_mul]
  intro n hn
  simp only [List.mem_cons, List.mem_nil_iff, or_false] at hn
  rcases hn with rfl | rfl | rfl | rfl <;> exact Int.dvd_mul_of_dvd_right (Int.dvd_mul_right _ _)
theorem gcd_led_dvd (a b c d p q r s : Int) : gcdL [a, b, c, d] ∣ gcdL (fled a b c d p q r s) := by
  have h := (gcdL_dvd (g := gcdL [a, b, c, d]) (ns := [a, b, c, d])).mp (Nat.dvd_refl _)
  exact gcdL_dvd.mpr (dvd_led p q r s (h a (by simp)) (h b (by simp)) (h c (by simp)) (h d (by simp)))
theorem gcd_led (a b c d p q r s : Int) (h : p * s - q * r = 1 ∨ p * s - q * r = -1) : gcdL (fled a b c d p q r s) = gcdL [a, b, c, d] := by
  refine Nat.dvd_antisymm ?_ (gcd_led_dvd a b c d p q r s)
  have := gcd_led_dvd ((p * s - q * r) * fv a b c d p q) ((p * s - q * r) * fl2 a b c d p q r s) ((p * s - q * r) * fl3 a b c d p q r s) ((p * s - q * r) * fv a b c d r s) ((p * s - q * r) * s) (-(p * s - q * r) * q) (-(p * s - q * r) * r) ((p * s - q * r) * p)
  rw [back a b c d p q r s h] at this
  exact this
theorem e_B {e : Int} (h : e = 1 ∨ e = -1) : B 1 e := by
  rcases h with rfl | rfl <;> exact ⟨by decide, by decide⟩
theorem fv_B {a b c d x y : Int} {n m : Nat} (ha : B n a) (hb : B n b) (hc : B n c) (hd : B n d) (hx : B m x) (hy : B m y) : B (n + m + m + m + 3) (fv a b c d x y) :=
  B.plus (B.plus (B.plus (B.mul (B.mul (B.mul ha hx) hx) hx) (B.mul (B.mul (B.mul hb hx) hx) hy)) ((B.mul (B.mul (B.mul hc hx) hy) hy).mono (by omega))) ((B.mul (B.mul (B.mul hd hy) hy) hy).mono (by omega))
theorem Ex0.q4 {H H' : Hp} {a : Addr} {p q r s : Int} (e : Ex0 H H') (h : T4 H a p q r s) : T4 H' a p q r s := h.ex fun _ _ z => Ex0.ap e z
theorem t4_fv {c : Addr} {H H' : Hp} {a : Addr} {p q r s : Int} (hc : Vat c H) (f : Fv c H H') (h : T4 H a p q r s) : T4 H' a p q r s := h.ex fun _ _ z => fv_tup hc f z
theorem fo_fv {C c : Addr} {H H' : Hp} {x : Addr} {ns : List Int} (hc : Vat c H) (f : Fv c H H') (h : FormAt C H x ns) : FormAt C H' x ns := by
  obtain ⟨dx, t, h1, h2⟩ := h
  refine ⟨dx, t, f.2 x _ (fun e => ?_) h1, fv_tup hc f h2⟩
  obtain ⟨u, v, z, q⟩ := hc
  unfold Sv at e
  rw [e, q] at h1
  cases h1
theorem made {C : Addr} {H H' : Hp} {x dx t : Addr} {ns : List Int} {o1 o2 : HO} (nx : H x = none) (ndx : H dx = none) (e1 : ∀ b o, b ≠ x → (upd (upd H dx o1) x o2) b = some o → H' b = some o) (e2 : H' x = some (.ins C dx [(("_coefficients" : Str), .ref t)])) (ht : Ti H t ns) : Ex0 H H' ∧ FormAt C H' x ns := by
  have ex : Ex0 H H' := Ex0.of fun b o e => by
    have n1 : b ≠ x := ne_of_none e nx
    have n2 : b ≠ dx := ne_of_none e ndx
    refine e1 b o n1 ?_
    rw [upd_ne n1, upd_ne n2]
    exact e
  exact ⟨ex, dx, t, e2, Ex0.ti ex ht⟩
theorem e4 {e x : Int} (h : e = 1 ∨ e = -1) : e * e * (e * e * x) = x := by rcases h with rfl | rfl <;> simp
theorem e6 {e x : Int} (h : e = 1 ∨ e = -1) : e * e * e * (e * e * e * x) = x := by rcases h with rfl | rfl <;> simp
theorem led_h (a b c d p q r s : Int) (h : p * s - q * r = 1 ∨ p * s - q * r = -1) : [h0 ((p * s - q * r) * fv a b c d p q) ((p * s - q * r) * fl2 a b c d p q r s) ((p * s - q * r) * fl3 a b c d p q r s) ((p * s - q * r) * fv a b c d r s), h1 ((p * s - q * r) * fv a b c d p q) ((p * s - q * r) * fl2 a b c d p q r s) ((p * s - q * r) * fl3 a b c d p q r s) ((p * s - q * r) * fv a b c d r s), h2 ((p * s - q * r) * fv a b c d p q) ((p * s - q * r) * fl2 a b c d p q r s) ((p * s - q * r) * fl3 a b c d p q r s) ((p * s - q * r) * fv a b c d r s)] = [dv (h0 a b c d) (h1 a b c d) (h2 a b c d) p q, K06M.dl (h0 a b c d) (h1 a b c d) (h2 a b c d) p q r s, dv (h0 a b c d) (h1 a b c d) (h2 a b c d) r s] := by
  rw [(h_mul _ _ _ _ _).1, (h_mul _ _ _ _ _).2.1, (h_mul _ _ _ _ _).2.2, led0, led1, led2, e4 h, e4 h, e4 h]
theorem h_B {a b c d : Int} (ha : B 84 a) (hb : B 84 b) (hc : B 84 c) (hd : B 84 d) : B 400 (h0 a b c d) ∧ B 400 (h1 a b c d) ∧ B 400 (h2 a b c d) := by
  have b3 : B 2 3 := ⟨by decide, by decide⟩
  have b9 : B 4 9 := ⟨by decide, by decide⟩
  exact ⟨(B.less (n := 300) ((B.mul hb hb).mono (by decide)) ((B.mul (B.mul b3 ha) hc).mono (by decide))).mono (by decide), (B.less (n := 300) ((B.mul hb hc).mono (by decide)) ((B.mul (B.mul b9 ha) hd).mono (by decide))).mono (by decide), (B.less (n := 300) ((B.mul hc hc).mono (by decide)) ((B.mul (B.mul b3 hb) hd).mono (by decide))).mono (by decide)⟩
theorem g_B {a b c d : Int} (ha : B 84 a) (hb : B 84 b) (hc : B 84 c) (hd : B 84 d) : B 400 (g0 a b c d) ∧ B 400 (g1 a b c d) ∧ B 400 (g2 a b c d) ∧ B 400 (g3 a b c d) := by
  have k2 : B 6 2 := ⟨by decide, by decide⟩
  have k3 : B 6 3 := ⟨by decide, by decide⟩
  have k9 : B 6 9 := ⟨by decide, by decide⟩
  have k18 : B 6 18 := ⟨by decide, by decide⟩
  have k27 : B 6 27 := ⟨by decide, by decide⟩
  have n3 : B 6 (-3) := ⟨by decide, by decide⟩
  have n2 : B 6 (-2) := ⟨by decide, by decide⟩
  have m : ∀ {x y z u : Int}, B 6 x → B 84 y → B 84 z → B 84 u → B 300 (x * y * z * u) := fun h1 h2 h3 h4 => (B.mul (B.mul (B.mul h1 h2) h3) h4).mono (by decide)
  refine ⟨?_, ?_, ?_, ?_⟩
  · exact (B.plus (B.less (m k2 hb hb hb) (m k9 ha hb hc)) ((m k27 ha ha hd).mono (by decide))).mono (by decide)
  · exact (B.plus (B.less (m k3 hb hb hc) (m k18 ha hc hc)) ((m k27 ha hb hd).mono (by decide))).mono (by decide)
  · exact (B.less (B.plus (m n3 hb hc hc) (m k18 hb hb hd)) ((m k27 ha hc hd).mono (by decide))).mono (by decide)
  · exact (B.less (B.plus (m n2 hc hc hc) (m k9 hb hc hd)) ((m k27 ha hd hd).mono (by decide))).mono (by decide)
theorem led_B {a b c d p q r s : Int} (ha : B 84 a) (hb : B 84 b) (hc : B 84 c) (hd : B 84 d) (hp : B 165 p) (hq : B 165 q) (hr : B 165 r) (hs : B 165 s) (h : p * s - q * r = 1 ∨ p * s - q * r = -1) : ∀ n ∈ fled a b c d p q r s, B 1000 n := by
  have e := e_B h
  have b2 : B 2 2 := ⟨by decide, by decide⟩
  have b3 : B 2 3 := ⟨by decide, by decide⟩
  have ps := B.mul hp hs
  have qr := B.mul hq hr
  have l1 : B 400 (p * s + 2 * q * r) := (B.plus (ps.mono (by decide : 330 ≤ 340)) ((B.mul (B.mul b2 hq) hr).mono (by decide : 332 ≤ 340))).mono (by decide)
  have l2 : B 400 (2 * p * s + q * r) := (B.plus ((B.mul (B.mul b2 hp) hs).mono (by decide : 332 ≤ 340)) (qr.mono (by decide : 330 ≤ 340))).mono (by decide)
  have f1 : B 998 (fv a b c d p q) := (fv_B ha hb hc hd hp hq).mono (by decide)
  have f4 : B 998 (fv a b c d r s) := (fv_B ha hb hc hd hr hs).mono (by decide)
  have f2 : B 998 (fl2 a b c d p q r s) := (B.plus (B.plus (B.plus (n := 900) ((B.mul (B.mul (B.mul (B.mul b3 ha) hp) hp) hr).mono (by decide)) ((B.mul (B.mul hb hp) l1).mono (by decide))) ((B.mul (B.mul hc hq) l2).mono (by decide))) ((B.mul (B.mul (B.mul (B.mul b3 hd) hq) hq) hs).mono (by decide))).mono (by decide)
  have f3 : B 998 (fl3 a b c d p q r s) := (B.plus (B.plus (B.plus (n := 900) ((B.mul (B.mul (B.mul (B.mul b3 ha) hp) hr) hr).mono (by decide)) ((B.mul (B.mul hb hr) l2).mono (by decide))) ((B.mul (B.mul hc hs) l1).mono (by decide))) ((B.mul (B.mul (B.mul (B.mul b3 hd) hq) hs) hs).mono (by decide))).mono (by decide)
  intro n hn
  unfold fled at hn
  simp only [List.mem_cons, List.mem_nil_iff, or_false] at hn
  rcases hn with rfl | rfl | rfl | rfl
  · exact (B.mul e f1).mono (by decide)
  · exact (B.mul e f2).mono (by decide)
  · exact (B.mul e f3).mono (by decide)
  · exact (B.mul e f4).mono (by decide)
def Gx (i : Nat) (p q r s : Int) : Prop := p.natAbs ≤ 2 ^ (41 * i) ∧ q.natAbs ≤ 2 ^ (41 * i) ∧ r.natAbs ≤ 2 ^ (41 * i) ∧ s.natAbs ≤ 2 ^ (41 * i) ∧ (p * s - q * r = 1 ∨ p * s - q * r = -1)
theorem Gx.b {i : Nat} {p q r s : Int} (h : Gx i p q r s) (hi : i ≤ 4) : B 165 p ∧ B 165 q ∧ B 165 r ∧ B 165 s := by
  have h1 : 2 ^ (41 * i) < 2 ^ 165 := Nat.pow_lt_pow_right (by decide) (by omega)
  obtain ⟨a, b, c, d, _⟩ := h
  exact ⟨⟨Nat.lt_of_le_of_lt a h1, by decide⟩, ⟨Nat.lt_of_le_of_lt b h1, by decide⟩, ⟨Nat.lt_of_le_of_lt c h1, by decide⟩, ⟨Nat.lt_of_le_of_lt d h1, by decide⟩⟩
theorem Gx.ok {i : Nat} {p q r s : Int} (h : Gx i p q r s) (hi : i ≤ 4) : ChOk p q r s := by
  obtain ⟨h1, h2, h3, h4⟩ := h.b hi
  exact ⟨short_B (h1.mono (by decide)), short_B (h2.mono (by decide)), short_B (h3.mono (by decide)), short_B (h4.mono (by decide)), h.2.2.2.2⟩
theorem Gx.und {i : Nat} {p q r s : Int} (h : Gx i p q r s) (hi : i ≤ 4) : ChOk ((p * s - q * r) * s) (-(p * s - q * r) * q) (-(p * s - q * r) * r) ((p * s - q * r) * p) := by
  obtain ⟨h1, h2, h3, h4⟩ := h.b hi
  have e := e_B h.2.2.2.2
  refine ⟨short_B ((B.mul e h4).mono (by decide)), short_B ((B.mul e.neg h2).mono (by decide)), short_B ((B.mul e.neg h3).mono (by decide)), short_B ((B.mul e h1).mono (by decide)), ?_⟩
  rcases h.2.2.2.2 with f | f
  · left
    rw [f]
    grind
  · right
    rw [f]
    grind
theorem Gd.ok {n : Nat} {p q r s : Int} (h : Gd n p q r s) (hn : n ≤ 4) : ChOk p q r s := by
  obtain ⟨h1, h2, h3, h4⟩ := h.b hn
  exact ⟨short_B (h1.mono (by decide)), short_B (h2.mono (by decide)), short_B (h3.mono (by decide)), short_B (h4.mono (by decide)), h.2.2.2.2⟩
theorem Gx.step {n : Nat} {p q r s i j k m : Int} (h : Gx n p q r s) (g : Gd 2 i j k m) : Gx (n + 1) (i * p + j * r) (i * q + j * s) (k * p + m * r) (k * q + m * s) := by
  obtain ⟨a, b, c, d, e⟩ := h
  obtain ⟨a', b', c', d', e'⟩ := g
  have two : ∀ x y z u : Int, x.natAbs ≤ 2 ^ (20 * 2) → y.natAbs ≤ 2 ^ (20 * 2) → z.natAbs ≤ 2 ^ (41 * n) → u.natAbs ≤ 2 ^ (41 * n) → (x * z + y * u).natAbs ≤ 2 ^ (41 * (n + 1)) := fun x y z u h1 h2 h3 h4 => by
    have m1 : (x * z).natAbs ≤ 2 ^ (20 * 2) * 2 ^ (41 * n) := by rw [Int.natAbs_mul]; exact Nat.mul_le_mul h1 h3
    have m2 : (y * u).natAbs ≤ 2 ^ (20 * 2) * 2 ^ (41 * n) := by rw [Int.natAbs_mul]; exact Nat.mul_le_mul h2 h4
    have m3 : 2 ^ (41 * (n + 1)) = 2 * (2 ^ (20 * 2) * 2 ^ (41 * n)) := by
      rw [show 41 * (n + 1) = 1 + (20 * 2 + 41 * n) by omega, Nat.pow_add, Nat.pow_add, Nat.pow_one]
    rw [m3]
    generalize 2 ^ (20 * 2) * 2 ^ (41 * n) = w at *
    omega
  refine ⟨two i j p r a' b' a c, two i j q s a' b' b d, two k m p r c' d' a c, two k m q s c' d' b d, ?_⟩
  rw [K05M.det_mul]
  rcases e with e | e <;> rcases e' with f | f <;> rw [e, f] <;> decide
def hsL (a b c d : Int) : List Int := [h0 a b c d, h1 a b c d, h2 a b c d]
theorem dv_mul (g a b c x y : Int) : dv (g * a) (g * b) (g * c) x y = g * dv a b c x y := by unfold dv; grind
theorem dl_mul (g a b c p q r s : Int) : K06M.dl (g * a) (g * b) (g * c) p q r s = g * K06M.dl a b c p q r s := by unfold K06M.dl; grind
theorem hs_dvd {a b c d p q r s : Int} (h : p * s - q * r = 1 ∨ p * s - q * r = -1) : gcdL (hsL a b c d) ∣ gcdL (hsL ((p * s - q * r) * fv a b c d p q) ((p * s - q * r) * fl2 a b c d p q r s) ((p * s - q * r) * fl3 a b c d p q r s) ((p * s - q * r) * fv a b c d r s)) := by
  have k := (gcdL_dvd (g := gcdL (hsL a b c d)) (ns := hsL a b c d)).mp (Nat.dvd_refl _)
  generalize gcdL (hsL a b c d) = g at *
  refine gcdL_dvd.mpr ?_
  unfold hsL at k ⊢
  rw [led_h a b c d p q r s h]
  obtain ⟨x, hx⟩ := k (h0 a b c d) (by simp)
  obtain ⟨y, hy⟩ := k (h1 a b c d) (by simp)
  obtain ⟨z, hz⟩ := k (h2 a b c d) (by simp)
  rw [hx, hy, hz, dv_mul, dl_mul, dv_mul]
  intro n hn
  simp only [List.mem_cons, List.mem_nil_iff, or_false] at hn
  rcases hn with rfl | rfl | rfl <;> exact Int.dvd_mul_right _ _
theorem hs_led {a b c d p q r s : Int} (h : p * s - q * r = 1 ∨ p * s - q * r = -1) : gcdL (hsL ((p * s - q * r) * fv a b c d p q) ((p * s - q * r) * fl2 a b c d p q r s) ((p * s - q * r) * fl3 a b c d p q r s) ((p * s - q * r) * fv a b c d r s)) = gcdL (hsL a b c d) := by
  refine Nat.dvd_antisymm ?_ (hs_dvd h)
  obtain ⟨u1, u2, u3, u4⟩ := K05M.und p q r s _ rfl h
  have hd : ((p * s - q * r) * s) * ((p * s - q * r) * p) - (-(p * s - q * r) * q) * (-(p * s - q * r) * r) = 1 ∨ ((p * s - q * r) * s) * ((p * s - q * r) * p) - (-(p * s - q * r) * q) * (-(p * s - q * r) * r) = -1 := by
    rcases h with f | f
    · left; rw [f]; grind
    · right; rw [f]; grind
  have bk := back a b c d p q r s h
  generalize hE1 : (p * s - q * r) * fv a b c d p q = E1 at *
  generalize hE2 : (p * s - q * r) * fl2 a b c d p q r s = E2 at *
  generalize hE3 : (p * s - q * r) * fl3 a b c d p q r s = E3 at *
  generalize hE4 : (p * s - q * r) * fv a b c d r s = E4 at *
  have k := hs_dvd (a := E1) (b := E2) (c := E3) (d := E4) hd
  unfold fled at bk
  simp only [List.cons.injEq, and_true] at bk
  rw [bk.1, bk.2.1, bk.2.2.1, bk.2.2.2] at k
  exact k
theorem fled_neg (a b c d p q r s : Int) : fled (-a) (-b) (-c) (-d) p q r s = (fled a b c d p q r s).map fun n => -n := by
  unfold fled fv fl2 fl3
  simp only [List.map_cons, List.map_nil, List.cons.injEq, and_true]
  refine ⟨?_, ?_, ?_, ?_⟩ <;> grind
theorem fled_one (a b c d : Int) : fled a b c d 1 0 0 1 = [a, b, c, d] := by
  obtain ⟨v1, v2, v3, v4⟩ := K05M.fv_one a b c d
  unfold fled
  rw [v1, v2, v3, v4]
  simp
end K09
namespace K09
open PySem PySem.Spec PyProof.Rows L2 Fr
open K05M (fv fl2 fl3 fdisc)
open K06M
def sp_l_row_right (_ : PySem.W.Frag) (C _ : Addr) : Sp := fun vs H Q _ => ∃ (c x : Addr) (A1 A2 A3 A4 : Int), vs = [.ref c, .ref x] ∧ Vat c H ∧ FormAt C H x [A1, A2, A3, A4] ∧ (∀ n ∈ [A1, A2, A3, A4], B 84 n) ∧ ∀ H', Fv c H H' → Q (.bl true) H'
theorem hh_B {a b c d : Int} (ha : B 1000 a) (hb : B 1000 b) (hc : B 1000 c) (hd : B 1000 d) : B 5000 (h0 a b c d) ∧ B 5000 (h1 a b c d) ∧ B 5000 (h2 a b c d) := by
  have b3 : B 2 3 := ⟨by decide, by decide⟩
  have b9 : B 4 9 := ⟨by decide, by decide⟩
  exact ⟨(B.sub (B.mul hb hb) (B.mul (B.mul b3 ha) hc)).mono (by decide), (B.sub (B.mul hb hc) (B.mul (B.mul b9 ha) hd)).mono (by decide), (B.sub (B.mul hc hc) (B.mul (B.mul b3 hb) hd)).mono (by decide)⟩
theorem disc_B {a b c d : Int} (ba : B 84 a) (bb : B 84 b) (bc : B 84 c) (bd : B 84 d) : B 5000 (fdisc a b c d) := by
  unfold fdisc
  have k4 : B 6 4 := ⟨by decide, by decide⟩
  have k18 : B 6 18 := ⟨by decide, by decide⟩
  have k27 : B 6 27 := ⟨by decide, by decide⟩
  exact (B.add (B.sub (B.sub (B.sub (B.mul (B.mul (B.mul bb bb) bc) bc) (B.mul (B.mul (B.mul (B.mul k4 ba) bc) bc) bc)) (B.mul (B.mul (B.mul (B.mul k4 bb) bb) bb) bd)) (B.mul (B.mul (B.mul (B.mul k27 ba) ba) bd) bd)) (B.mul (B.mul (B.mul (B.mul k18 ba) bb) bc) bd)).mono (by decide)
section
variable {P : Program} {w : World} {K : PySem.W.Frag} {mg : Str → Option Value} {base : Heap} {C_Form C_Double : Addr}
theorem ok_l_row_right (T : Txt K mg C_Form C_Double) : Def P w K mg base 9 "_law_row_right" ["_law_cask_here", "_law_form"] (sp_l_row_right K C_Form C_Double) := by
  obtain ⟨f_, fd_, g_, F_⟩ := T.d_l_row_right
  obtain ⟨p_Double_content, f_Double_content, fd_Double_content, R_Double_content, b_Double_content, G_Double_content⟩ := (ok_Double_content (P := P) (w := w) (base := base) T)
  obtain ⟨p_Double_discriminant, f_Double_discriminant, fd_Double_discriminant, R_Double_discriminant, b_Double_discriminant, G_Double_discriminant⟩ := (ok_Double_discriminant (P := P) (w := w) (base := base) T)
  obtain ⟨p_Form___eq__, f_Form___eq__, fd_Form___eq__, R_Form___eq__, b_Form___eq__, G_Form___eq__⟩ := (ok_Form___eq__ (P := P) (w := w) (base := base) T)
  obtain ⟨p_Form___neg__, f_Form___neg__, fd_Form___neg__, R_Form___neg__, b_Form___neg__, G_Form___neg__⟩ := (ok_Form___neg__ (P := P) (w := w) (base := base) T)
  obtain ⟨p_Form_content, f_Form_content, fd_Form_content, R_Form_content, b_Form_content, G_Form_content⟩ := (ok_Form_content (P := P) (w := w) (base := base) T)
  obtain ⟨p_Form_discriminant, f_Form_discriminant, fd_Form_discriminant, R_Form_discriminant, b_Form_discriminant, G_Form_discriminant⟩ := (ok_Form_discriminant (P := P) (w := w) (base := base) T)
  obtain ⟨p_Form_hessian, f_Form_hessian, fd_Form_hessian, R_Form_hessian, b_Form_hessian, G_Form_hessian⟩ := (ok_Form_hessian (P := P) (w := w) (base := base) T)
  obtain ⟨p_Form_led, f_Form_led, fd_Form_led, R_Form_led, b_Form_led, G_Form_led⟩ := (ok_Form_led (P := P) (w := w) (base := base) T)
  obtain ⟨f_l_change, fd_l_change, g_l_change, k_l_change, b_l_change, G_l_change⟩ := (ok_l_change (P := P) (w := w) (base := base) T)
  obtain ⟨f_l_tap, fd_l_tap, g_l_tap, k_l_tap, b_l_tap, G_l_tap⟩ := (ok_l_tap (P := P) (w := w) (base := base) T)
  obtain ⟨f_joined, fd_joined, g_joined, k_joined, b_joined, G_joined⟩ := (ok_joined (P := P) (w := w) (base := base) T)
  obtain ⟨f_undone, fd_undone, g_undone, k_undone, b_undone, G_undone⟩ := (ok_undone (P := P) (w := w) (base := base) T)
  refine ⟨f_, fd_, g_, F_.kp, F_.binds (ps := ["_law_cask_here", "_law_form"]) (fun _ _ _ _ _ _ us hl => match us, hl with | [_, _], _ => rfl), ?_⟩
  refine F_.ok sc_l_row_right (fun vs H Q E h => ?_) (fun cdv A outer s H vs Q E hr h => ?_)
  · first | (obtain ⟨rfl, _⟩ := h; rfl) | (obtain ⟨_, rfl, _⟩ := h; rfl) | (obtain ⟨_, _, rfl, _⟩ := h; rfl) | (obtain ⟨_, _, _, rfl, _⟩ := h; rfl) | (obtain ⟨_, _, _, _, rfl, _⟩ := h; rfl) | (obtain ⟨_, _, _, _, _, rfl, _⟩ := h; rfl) | (obtain ⟨_, _, _, _, _, _, rfl, _⟩ := h; rfl) | (obtain ⟨_, _, _, _, _, _, _, rfl, _⟩ := h; rfl) | (obtain ⟨_, _, _, _, _, _, _, _, rfl, _⟩ := h; rfl) | (obtain ⟨_, _, _, _, _, _, _, _, _, rfl, _⟩ := h; rfl) | (obtain ⟨_, _, _, _, _, _, _, _, _, _, rfl, _⟩ := h; rfl) | (obtain ⟨_, _, _, _, _, _, _, _, _, _, _, rfl, _⟩ := h; rfl) | (obtain ⟨_, _, _, _, _, _, _, _, _, _, _, _, rfl, _⟩ := h; rfl) | (obtain ⟨_, _, _, _, _, _, _, _, _, _, _, _, _, rfl, _⟩ := h; rfl) | (obtain ⟨_, _, _, _, _, _, _, _, _, _, _, _, _, _, rfl, _⟩ := h; rfl) | (obtain ⟨_, _, _, _, _, _, _, _, _, _, _, _, _, _, _, rfl, _⟩ := h; rfl) | (obtain ⟨_, _, _, _, _, _, _, _, _, _, _, _, _, _, _, _, rfl, _⟩ := h; rfl) | (obtain ⟨_, _, _, _, _, _, _, _, _, _, _, _, _, _, _, _, _, rfl, _⟩ := h; rfl) | (obtain ⟨_, _, _, _, _, _, _, _, _, _, _, _, _, _, _, _, _, _, rfl, _⟩ := h; rfl) | (obtain ⟨_, _, _, _, _, _, _, _, _, _, _, _, _, _, _, _, _, _, _, rfl, _⟩ := h; rfl) | (obtain ⟨_, _, _, _, _, _, _, _, _, _, _, _, _, _, _, _, _, _, _, _, rfl, _⟩ := h; rfl) | (obtain ⟨_, _, _, _, _, _, _, _, _, _, _, _, _, _, _, _, _, _, _, _, _, rfl, _⟩ := h; rfl) | (obtain ⟨_, _, _, _, _, _, _, _, _, _, _, _, _, _, _, _, _, _, _, _, _, _, rfl, _⟩ := h; rfl) | (obtain ⟨_, _, _, _, _, _, _, _, _, _, _, _, _, _, _, _, _, _, _, _, _, _, _, rfl, _⟩ := h; rfl)
  · obtain ⟨c, x, A1, A2, A3, A4, rfl, hc, hx, bn, q⟩ := h
    obtain ⟨A_IDLE, h_IDLE, i_IDLE⟩ := T.k_IDLE
    refine ⟨_, (pss_cons (ps_par (i := 2) (j := 3) (by rfl) sc_l_row_right.nd rfl rfl (by decide) rfl rfl (pa_cons (pv 1) (pa_cons (pe_glob (v := .ref A_IDLE) (by rfl) h_IDLE rfl) pa_nil)) (by rfl))
    (pss_cons (ps_for PassesOwn.never rfl (pi_range1 (by rfl) T.b_range (pa_cons (pe_op op_add pe_int (pe_call G_l_tap (hr.mono (by decide)) (by rfl) g_l_tap k_l_tap b_l_tap .nil pass0 (pa_cons (pv 0) (pa_cons pe_int pa_nil)))) pa_nil)) (pg_name (i := 4) sc_l_row_right.nd rfl (.inl rfl))
      (pss_cons (ps_set (i := 5) sc_l_row_right.nd rfl (.inl rfl) (pe_call G_l_change (hr.mono (by decide)) (by rfl) g_l_change k_l_change b_l_change .nil pass0 (pa_cons (pv 0) (pa_cons pe_int pa_nil))))
    (pss_cons (ps_par (i := 2) (j := 3) (by rfl) sc_l_row_right.nd rfl rfl (by decide) rfl rfl (pa_cons (pe_meth (pv 2) T.cl_Form R_Form_led G_Form_led (hr.mono (by decide)) b_Form_led .nil pass0 (pa_cons (pv 5) pa_nil)) (pa_cons (pe_call G_joined (hr.mono (by decide)) (by rfl) g_joined k_joined b_joined .nil pass0 (pa_cons (pv 3) (pa_cons (pv 5) pa_nil))) pa_nil)) (by rfl))
    (pss_cons (ps_if (PW.pt (pw_or (pt_cmpR (op_neI R_Form___eq__ G_Form___eq__ b_Form___eq__ (hr.mono (by decide)) pass0) (pv 2) (pe_meth (pv 1) T.cl_Form R_Form_led G_Form_led (hr.mono (by decide)) b_Form_led .nil pass0 (pa_cons (pv 3) pa_nil)) (nomark _)) (pw_or (pt_cmpR op_ne (pe_prop (pv 2) T.cl_Form R_Form_discriminant G_Form_discriminant (hr.mono (by decide)) b_Form_discriminant .nil pass0 (by rfl)) (pe_prop (pv 1) T.cl_Form R_Form_discriminant G_Form_discriminant (hr.mono (by decide)) b_Form_discriminant .nil pass0 (by rfl)) (nomark _)) (pw_or1 (pt_cmpR op_ne (pe_prop (pv 2) T.cl_Form R_Form_content G_Form_content (hr.mono (by decide)) b_Form_content .nil pass0 (by rfl)) (pe_prop (pv 1) T.cl_Form R_Form_content G_Form_content (hr.mono (by decide)) b_Form_content .nil pass0 (by rfl)) (nomark _))))))
      (pss_one (ps_ret pe_bl))
      pss_nil)
    (pss_one (ps_if (PW.pt (pw_or (pt_cmpR op_ne (pe_prop (pe_prop (pv 2) T.cl_Form R_Form_hessian G_Form_hessian (hr.mono (by decide)) b_Form_hessian .nil pass0 (by rfl)) T.cl_Double R_Double_discriminant G_Double_discriminant (hr.mono (by decide)) b_Double_discriminant .nil pass0 (by rfl)) (pe_op op_mulW (pe_un un_neg pe_int) (pe_prop (pv 1) T.cl_Form R_Form_discriminant G_Form_discriminant (hr.mono (by decide)) b_Form_discriminant .nil pass0 (by rfl))) (nomark _)) (pw_or1 (pt_cmpR op_ne (pe_prop (pe_prop (pv 2) T.cl_Form R_Form_hessian G_Form_hessian (hr.mono (by decide)) b_Form_hessian .nil pass0 (by rfl)) T.cl_Double R_Double_content G_Double_content (hr.mono (by decide)) b_Double_content .nil pass0 (by rfl)) (pe_prop (pe_prop (pv 1) T.cl_Form R_Form_hessian G_Form_hessian (hr.mono (by decide)) b_Form_hessian .nil pass0 (by rfl)) T.cl_Double R_Double_content G_Double_content (hr.mono (by decide)) b_Double_content .nil pass0 (by rfl)) (nomark _)))))
      (pss_one (ps_ret pe_bl))
      pss_nil))))))
    (pss_one (ps_ret (pe_and (pe_cmpR (op_eqI R_Form___eq__ G_Form___eq__ b_Form___eq__ (hr.mono (by decide)) pass0) (pe_meth (pv 2) T.cl_Form R_Form_led G_Form_led (hr.mono (by decide)) b_Form_led .nil pass0 (pa_cons (pe_call G_undone (hr.mono (by decide)) (by rfl) g_undone k_undone b_undone .nil pass0 (pa_cons (pv 3) pa_nil)) pa_nil)) (pv 1) (nomark _)) (pe_one (pe_cmpR (op_eqI R_Form___eq__ G_Form___eq__ b_Form___eq__ (hr.mono (by decide)) pass0) (pe_meth (pe_un (un_negI R_Form___neg__ G_Form___neg__ b_Form___neg__ (hr.mono (by decide)) pass0) (pv 2)) T.cl_Form R_Form_led G_Form_led (hr.mono (by decide)) b_Form_led .nil pass0 (pa_cons (pe_call G_undone (hr.mono (by decide)) (by rfl) g_undone k_undone b_undone .nil pass0 (pa_cons (pv 3) pa_nil)) pa_nil)) (pe_un (un_negI R_Form___neg__ G_Form___neg__ b_Form___neg__ (hr.mono (by decide)) pass0) (pv 1)) (nomark _)))))))), ?_⟩
    have b1 := bn A1 (by simp)
    have b2 := bn A2 (by simp)
    have b3 := bn A3 (by simp)
    have b4 := bn A4 (by simp)
    have c1 : B 1000 A1 := b1.mono (by decide)
    have c2 : B 1000 A2 := b2.mono (by decide)
    have c3 : B 1000 A3 := b3.mono (by decide)
    have c4 : B 1000 A4 := b4.mono (by decide)
    have bD := disc_B b1 b2 b3 b4
    have km3 : B 64 (-3) := ⟨by decide, by decide⟩
    refine ⟨_, rfl, _, _, rfl, ?_⟩
    refine ⟨_, rfl, c, 4, rfl, hc, by decide, by decide, fun u H1 u0 u1 e1 => ⟨_, _, rfl, rfl, _, rfl, by omega, by omega, ?_⟩⟩
    refine for_range (lo := 0) (fun i σ H' => ∃ (z wa : Addr) (p q' r s' : Int) (y4 y5 : Option V), σ = [some (.ref c), some (.ref x), some (.ref z), some (.ref wa), y4, y5] ∧ Fv c H H' ∧ FormAt C_Form H' x [A1, A2, A3, A4] ∧ FormAt C_Form H' z (fled A1 A2 A3 A4 p q' r s') ∧ Tq K H' wa p q' r s' ∧ Gx i p q' r s') ⟨x, A_IDLE, 1, 0, 0, 1, none, none, rfl, e1, fo_fv hc e1 hx, by rw [fled_one]; exact fo_fv hc e1 hx, i_IDLE H1, ⟨by decide, by decide, by decide, by decide, .inl (by decide)⟩⟩ ?_ ?_
    · rintro n σ H2 hn ⟨z, wa, p, q', r, s', y4, y5, rfl, e2, hx2, hz2, hw2, gx⟩
      have hn4 : n + 1 ≤ 4 := by omega
      refine ⟨_, rfl, c, 2, rfl, e2.1, by decide, fun ca i j k m H3 e3 hca gc => ?_⟩
      have e23 := e2.trans e3
      have hx3 := fo_fv e2.1 e3 hx2
      have hz3 := fo_fv e2.1 e3 hz2
      have hw3 : Tq K H3 wa p q' r s' := by
        obtain ⟨t1, t2, k0, k1, k2⟩ := hw2
        have nt : ∀ {a : Addr} {xs : List V}, SqT K H2 a xs → SqT K H3 a xs := fun {a xs} h => by
          rcases h with h | h
          · rcases h with h | ⟨o, h⟩
            · exact .inl (.inl (fv_tup e2.1 e3 h))
            · refine .inl (.inr ⟨o, e3.2 a _ (fun z => ?_) h⟩)
              obtain ⟨u1, u2, u3, hq⟩ := e2.1
              unfold Sv at z
              rw [z, hq] at h
              cases h
          · exact .inr h
        exact ⟨t1, t2, nt k0, nt k1, nt k2⟩
      obtain ⟨bp, bq, br, bs⟩ := gx.b (by omega)
      have lb := led_B b1 b2 b3 b4 bp bq br bs gx.2.2.2.2
      unfold fled at hz3 lb
      obtain ⟨dz, tz, hz4, hz5⟩ := id hz3
      refine ⟨_, rfl, z, dz, _, rfl, hz4, rfl, _, rfl, z, ca, _, _, _, _, i, j, k, m, rfl, hz3, hca, lb _ (by simp), lb _ (by simp), lb _ (by simp), lb _ (by simp), gc.ok (by decide), fun z2 H4 e4 hz6 => ?_⟩
      rw [comp] at hz6
      have gx2 := gx.step gc
      refine ⟨_, rfl, _, rfl, wa, ca, p, q', r, s', i, j, k, m, rfl, Ex0.q e4 hw3, (Ex0.q4 e4 hca).q, gx.ok (by omega), gc.ok (by decide), fun w2 H5 e5 hw5 => ⟨_, _, rfl, ?_⟩⟩
      generalize hP : i * p + j * r = P1 at *
      generalize hQ : i * q' + j * s' = P2 at *
      generalize hR : k * p + m * r = P3 at *
      generalize hS : k * q' + m * s' = P4 at *
      have hz7 := Ex0.fo e5 hz6
      have hx5 := Ex0.fo (e4.trans e5) hx3
      obtain ⟨dx, tx, hx6, hx7⟩ := id hx5
      refine ⟨_, rfl, _, rfl, x, dx, _, rfl, hx6, rfl, _, rfl, x, w2, A1, A2, A3, A4, P1, P2, P3, P4, rfl, hx5, hw5, c1, c2, c3, c4, gx2.ok hn4, fun z3 H6 e6 hz8 => ?_⟩
      have hz9 := Ex0.fo e6 hz7
      obtain ⟨d1, t1, m1, m2⟩ := id hz9
      obtain ⟨d2, t2, n1, n2⟩ := id hz8
      refine ⟨z2, d1, _, _, rfl, m1, ty_ins T.ty_Form T.cl_Form n1, first_self, z2, z3, _, _, rfl, hz9, hz8, _, rfl, _, rfl, ?_⟩
      rw [decide_eq_true (rfl : fled A1 A2 A3 A4 P1 P2 P3 P4 = fled A1 A2 A3 A4 P1 P2 P3 P4)]
      refine iteF ?_
      obtain ⟨bp, bq, br, bs⟩ := gx2.b hn4
      have det := gx2.2.2.2.2
      have lb2 := led_B b1 b2 b3 b4 bp bq br bs det
      have gl := gcd_led A1 A2 A3 A4 P1 P2 P3 P4 det
      have dl := disc_led A1 A2 A3 A4 P1 P2 P3 P4 det
      have hl := hs_led (a := A1) (b := A2) (c := A3) (d := A4) det
      have keep := hz9
      unfold fled at hz9 lb2 gl
      have w1 := lb2 _ (List.mem_cons_self ..)
      have w2' := lb2 _ (List.mem_cons_of_mem _ (List.mem_cons_self ..))
      have w3 := lb2 _ (List.mem_cons_of_mem _ (List.mem_cons_of_mem _ (List.mem_cons_self ..)))
      have w4 := lb2 _ (List.mem_cons_of_mem _ (List.mem_cons_of_mem _ (List.mem_cons_of_mem _ (List.mem_cons_self ..))))
      have hx8 := Ex0.fo e6 hx5
      obtain ⟨dx, tx, hx9, hx10⟩ := id hx8
      refine ⟨_, rfl, z2, d1, _, rfl, m1, z2, _, _, _, _, rfl, hz9, w1, w2', w3, w4, ?_⟩
      refine ⟨_, rfl, x, dx, _, rfl, hx9, x, A1, A2, A3, A4, rfl, hx8, c1, c2, c3, c4, rfl, _, rfl, ndF (congrArg V.int dl) ?_⟩
      refine ⟨_, rfl, z2, d1, _, rfl, m1, z2, _, rfl, hz9, ?_⟩
      refine ⟨_, rfl, x, dx, _, rfl, hx9, x, _, rfl, hx8, rfl, _, rfl, ndF (by rw [gl]) ?_⟩
      refine ⟨_, rfl, z2, d1, _, rfl, m1, z2, _, _, _, _, rfl, hz9, w1, w2', w3, w4, fun y1 H7 e7 hy1 => ?_⟩
      obtain ⟨dy, ty, hy2, hy3⟩ := id hy1
      obtain ⟨v0, v1, v2⟩ := hh_B w1 w2' w3 w4
      refine ⟨y1, dy, _, rfl, hy2, y1, _, _, _, rfl, hy1, v0, v1, v2, ?_⟩
      have hx11 := Ex0.fo e7 hx8
      obtain ⟨dx, tx, hx12, hx13⟩ := id hx11
      refine ⟨_, rfl, _, rfl, x, dx, _, rfl, hx12, x, A1, A2, A3, A4, rfl, hx11, c1, c2, c3, c4, _, _, rfl, rfl, mulB km3 bD (by decide), rfl, _, rfl, ndF (congrArg V.int (by rw [K06M.hdisc, dl])) ?_⟩
      have hz11 := Ex0.fo e7 hz9
      obtain ⟨d1, t1, m1, m2⟩ := id hz11
      refine ⟨_, rfl, z2, d1, _, rfl, m1, z2, _, _, _, _, rfl, hz11, w1, w2', w3, w4, fun y2 H8 e8 hy4 => ?_⟩
      obtain ⟨dy, ty, hy5, hy6⟩ := id hy4
      refine ⟨y2, dy, _, rfl, hy5, y2, _, rfl, hy4, ?_⟩
      have hx14 := Ex0.fo e8 hx11
      obtain ⟨dx, tx, hx15, hx16⟩ := id hx14
      refine ⟨_, rfl, x, dx, _, rfl, hx15, x, A1, A2, A3, A4, rfl, hx14, c1, c2, c3, c4, fun y3 H9 e9 hy7 => ?_⟩
      obtain ⟨dy, ty, hy8, hy9⟩ := id hy7
      refine ⟨y3, dy, _, rfl, hy8, y3, _, rfl, hy7, rfl, _, rfl, ndF (congrArg (fun n : Nat => V.int (n : Int)) hl) ?_⟩
      have e39 := ((((e4.trans e5).trans e6).trans e7).trans e8).trans e9
      have e69 := ((e6.trans e7).trans e8).trans e9
      exact ⟨z2, w2, P1, P2, P3, P4, _, _, rfl, e23.trans (fv_ex e23.1 e39), Ex0.fo e9 hx14, Ex0.fo ((e7.trans e8).trans e9) keep, (Ex0.q4 e69 hw5).q, gx2⟩
    · rintro σ H2 ⟨z, wa, p, q', r, s', y4, y5, rfl, e2, hx2, hz2, hw2, gx⟩
      have hn4 : (1 + u).toNat ≤ 4 := by omega
      obtain ⟨bp, bq, br, bs⟩ := gx.b hn4
      have det := gx.2.2.2.2
      have lb := led_B b1 b2 b3 b4 bp bq br bs det
      have bk := back A1 A2 A3 A4 p q' r s' det
      unfold fled at hz2 lb
      generalize (p * s' - q' * r) * fv A1 A2 A3 A4 p q' = E1 at hz2 lb bk
      generalize (p * s' - q' * r) * fl2 A1 A2 A3 A4 p q' r s' = E2 at hz2 lb bk
      generalize (p * s' - q' * r) * fl3 A1 A2 A3 A4 p q' r s' = E3 at hz2 lb bk
      generalize (p * s' - q' * r) * fv A1 A2 A3 A4 r s' = E4 at hz2 lb bk
      have w1 := lb E1 (by simp)
      have w2 := lb E2 (by simp)
      have w3 := lb E3 (by simp)
      have w4 := lb E4 (by simp)
      obtain ⟨dz, tz, hz3, hz4⟩ := id hz2
      refine ⟨_, rfl, z, dz, _, rfl, hz3, rfl, _, rfl, wa, p, q', r, s', rfl, hw2, gx.ok hn4, fun ua H3 e3 hu => ?_⟩
      refine ⟨z, ua, E1, E2, E3, E4, _, _, _, _, rfl, Ex0.fo e3 hz2, hu, w1, w2, w3, w4, gx.und hn4, fun z1 H4 e4 hz5 => ?_⟩
      rw [bk] at hz5
      have hx4 := Ex0.fo (e3.trans e4) hx2
      obtain ⟨d1, t1, m1, m2⟩ := id hz5
      obtain ⟨d2, t2, n1, n2⟩ := id hx4
      refine ⟨_, rfl, z1, d1, _, _, rfl, m1, ty_ins T.ty_Form T.cl_Form n1, first_self, z1, x, _, _, rfl, hz5, hx4, _, rfl, _, rfl, ?_⟩
      rw [decide_eq_true (rfl : [A1, A2, A3, A4] = [A1, A2, A3, A4])]
      refine iteT ?_
      have hz6 := Ex0.fo (e3.trans e4) hz2
      obtain ⟨dz, tz, hz7, hz8⟩ := id hz6
      refine ⟨_, rfl, z, dz, _, rfl, hz7, z, _, rfl, hz6, by show 4 ≤ 1000; decide, fun z2 H5 e5 hz9 => ?_⟩
      have hz10 : FormAt C_Form H5 z2 [-E1, -E2, -E3, -E4] := hz9
      obtain ⟨dz, tz, hz11, hz12⟩ := id hz10
      have e35 := (e3.trans e4).trans e5
      refine ⟨z2, dz, _, rfl, hz11, rfl, _, rfl, wa, p, q', r, s', rfl, Ex0.q e35 hw2, gx.ok hn4, fun ub H6 e6 hu2 => ?_⟩
      refine ⟨z2, ub, _, _, _, _, _, _, _, _, rfl, Ex0.fo e6 hz10, hu2, w1.neg, w2.neg, w3.neg, w4.neg, gx.und hn4, fun z3 H7 e7 hz13 => ?_⟩
      rw [fled_neg, bk] at hz13
      have hx7 := Ex0.fo ((e5.trans e6).trans e7) hx4
      obtain ⟨dx, tx, hx8, hx9⟩ := id hx7
      refine ⟨_, rfl, x, dx, _, rfl, hx8, x, _, rfl, hx7, by show 4 ≤ 1000; decide, fun z4 H8 e8 hz14 => ?_⟩
      have hz15 := Ex0.fo e8 hz13
      obtain ⟨d1, t1, m1, m2⟩ := id hz15
      obtain ⟨d2, t2, n1, n2⟩ := id hz14
      refine ⟨z3, d1, _, _, rfl, m1, ty_ins T.ty_Form T.cl_Form n1, first_self, z3, z4, _, _, rfl, hz15, hz14, _, rfl, ?_⟩
      have kk := e2.trans (fv_ex e2.1 (((e35.trans e6).trans e7).trans e8))
      have fin := q H8 kk
      show Q (.bl (if false = true then _ else decide _)) H8
      rw [decide_eq_true (rfl : [A1, A2, A3, A4].map (fun n => -n) = [A1, A2, A3, A4].map (fun n => -n))]
      exact fin
end
end K09
namespace K09
open PySem PySem.Spec PyProof.Rows L2 Fr
open K05M (fv fl2 fl3 fdisc)
open K06M
def NmOk (n : Int) : Prop := n ≠ 0 ∧ n.natAbs ≤ 1000000000
def sp_l_multiple_right (_ : PySem.W.Frag) (C _ : Addr) : Sp := fun vs H Q _ => ∃ (x : Addr) (A1 A2 A3 A4 n : Int), vs = [.ref x, .int n] ∧ FormAt C H x [A1, A2, A3, A4] ∧ (∀ n ∈ [A1, A2, A3, A4], B 84 n) ∧ NmOk n ∧ ∀ H', Ex0 H H' → Q (.bl true) H'
theorem gcd_fold (n : Int) : ∀ (ns : List Int) (g : Nat), (ns.map fun x => x * n).foldl (fun g n => Nat.gcd g n.natAbs) (g * n.natAbs) = ns.foldl (fun g n => Nat.gcd g n.natAbs) g * n.natAbs
  | [], g => rfl
  | x :: ns, g => by
    rw [List.map_cons, List.foldl_cons, List.foldl_cons, Int.natAbs_mul, Nat.gcd_mul_right, gcd_fold n ns]
theorem gcd_times (n : Int) (ns : List Int) : gcdL (ns.map fun x => x * n) = gcdL ns * n.natAbs := by
  have := gcd_fold n ns 0
  rw [Nat.zero_mul] at this
  exact this
theorem gcd_le {M : Nat} : ∀ (ns : List Int) (g : Nat), g ≤ M → (∀ n ∈ ns, n.natAbs ≤ M) → ns.foldl (fun g n => Nat.gcd g n.natAbs) g ≤ M
  | [], g, h, _ => h
  | x :: ns, g, h, k => by
    rw [List.foldl_cons]
    refine gcd_le ns _ ?_ fun n hn => k n (List.mem_cons_of_mem _ hn)
    by_cases hg : g = 0
    · rw [hg, Nat.gcd_zero_left]; exact k x (List.mem_cons_self ..)
    · exact Nat.le_trans (Nat.gcd_le_left _ (by omega)) h
theorem gcd_B {ns : List Int} (h : ∀ n ∈ ns, B 84 n) : B 85 ((gcdL ns : Nat) : Int) := ⟨by
  have := gcd_le (M := 2 ^ 84) ns 0 (Nat.zero_le _) fun n hn => Nat.le_of_lt (h n hn).1
  have e : ((gcdL ns : Nat) : Int).natAbs = gcdL ns := Int.natAbs_natCast _
  rw [e]
  exact Nat.lt_of_le_of_lt this (by decide), by decide⟩
theorem ab (z : Int) : (if z < 0 then -z else z) = (z.natAbs : Int) := by
  by_cases h : z < 0
  · rw [if_pos h]; omega
  · rw [if_neg h]; omega
theorem disc_times (a b c d n : Int) : fdisc (a * n) (b * n) (c * n) (d * n) = n * n * (n * n) * fdisc a b c d := by unfold fdisc; grind
theorem h_times (a b c d n : Int) : [h0 (a * n) (b * n) (c * n) (d * n), h1 (a * n) (b * n) (c * n) (d * n), h2 (a * n) (b * n) (c * n) (d * n)] = [h0 a b c d, h1 a b c d, h2 a b c d].map fun x => n * n * x := by
  simp only [List.map_cons, List.map_nil, List.cons.injEq, and_true]
  unfold h0 h1 h2
  refine ⟨?_, ?_, ?_⟩ <;> grind
theorem g_times (a b c d n : Int) : [g0 (a * n) (b * n) (c * n) (d * n), g1 (a * n) (b * n) (c * n) (d * n), g2 (a * n) (b * n) (c * n) (d * n), g3 (a * n) (b * n) (c * n) (d * n)] = [g0 a b c d, g1 a b c d, g2 a b c d, g3 a b c d].map fun x => x * (n * n * n) := by
  simp only [List.map_cons, List.map_nil, List.cons.injEq, and_true]
  unfold g0 g1 g2 g3
  refine ⟨?_, ?_, ?_, ?_⟩ <;> grind
theorem all3 {n : Nat} {x y u : Int} (h1 : B n x) (h2 : B n y) (h3 : B n u) : ∀ z ∈ [x, y, u], B n z := fun z h => by
  simp only [List.mem_cons, List.mem_nil_iff, or_false] at h
  rcases h with rfl | rfl | rfl <;> assumption
theorem all4 {n : Nat} {x y u v : Int} (h1 : B n x) (h2 : B n y) (h3 : B n u) (h4 : B n v) : ∀ z ∈ [x, y, u, v], B n z := fun z h => by
  simp only [List.mem_cons, List.mem_nil_iff, or_false] at h
  rcases h with rfl | rfl | rfl | rfl <;> assumption
theorem gg_B {a b c d : Int} (ha : B 84 a) (hb : B 84 b) (hc : B 84 c) (hd : B 84 d) : B 1000 (g0 a b c d) ∧ B 1000 (g1 a b c d) ∧ B 1000 (g2 a b c d) ∧ B 1000 (g3 a b c d) := by
  have k2 : B 6 2 := ⟨by decide, by decide⟩
  have k3 : B 6 3 := ⟨by decide, by decide⟩
  have k9 : B 6 9 := ⟨by decide, by decide⟩
  have k18 : B 6 18 := ⟨by decide, by decide⟩
  have k27 : B 6 27 := ⟨by decide, by decide⟩
  have n3 : B 6 (-3) := ⟨by decide, by decide⟩
  have n2 : B 6 (-2) := ⟨by decide, by decide⟩
  have m : ∀ {x y z u : Int}, B 6 x → B 84 y → B 84 z → B 84 u → B 300 (x * y * z * u) := fun h1 h2 h3 h4 => (B.mul (B.mul (B.mul h1 h2) h3) h4).mono (by decide)
  refine ⟨?_, ?_, ?_, ?_⟩
  · exact (B.plus (B.less (m k2 hb hb hb) (m k9 ha hb hc)) ((m k27 ha ha hd).mono (by decide))).mono (by decide)
  · exact (B.plus (B.less (m k3 hb hb hc) (m k18 ha hc hc)) ((m k27 ha hb hd).mono (by decide))).mono (by decide)
  · exact (B.less (B.plus (m n3 hb hc hc) (m k18 hb hb hd)) ((m k27 ha hc hd).mono (by decide))).mono (by decide)
  · exact (B.less (B.plus (m n2 hc hc hc) (m k9 hb hc hd)) ((m k27 ha hd hd).mono (by decide))).mono (by decide)
section
variable {P : Program} {w : World} {K : PySem.W.Frag} {mg : Str → Option Value} {base : Heap} {C_Form C_Double : Addr}
theorem ok_l_multiple_right (T : Txt K mg C_Form C_Double) : Def P w K mg base 9 "_law_multiple_right" ["_law_form", "_law_number_here"] (sp_l_multiple_right K C_Form C_Double) := by
  obtain ⟨f_, fd_, g_, F_⟩ := T.d_l_multiple_right
  obtain ⟨p_Double_coefficients, f_Double_coefficients, fd_Double_coefficients, R_Double_coefficients, b_Double_coefficients, G_Double_coefficients⟩ := (ok_Double_coefficients (P := P) (w := w) (base := base) T)
  obtain ⟨p_Form___eq__, f_Form___eq__, fd_Form___eq__, R_Form___eq__, b_Form___eq__, G_Form___eq__⟩ := (ok_Form___eq__ (P := P) (w := w) (base := base) T)
  obtain ⟨p_Form___neg__, f_Form___neg__, fd_Form___neg__, R_Form___neg__, b_Form___neg__, G_Form___neg__⟩ := (ok_Form___neg__ (P := P) (w := w) (base := base) T)
  obtain ⟨p_Form_coefficients, f_Form_coefficients, fd_Form_coefficients, R_Form_coefficients, b_Form_coefficients, G_Form_coefficients⟩ := (ok_Form_coefficients (P := P) (w := w) (base := base) T)
  obtain ⟨p_Form_content, f_Form_content, fd_Form_content, R_Form_content, b_Form_content, G_Form_content⟩ := (ok_Form_content (P := P) (w := w) (base := base) T)
  obtain ⟨p_Form_covariant, f_Form_covariant, fd_Form_covariant, R_Form_covariant, b_Form_covariant, G_Form_covariant⟩ := (ok_Form_covariant (P := P) (w := w) (base := base) T)
  obtain ⟨p_Form_discriminant, f_Form_discriminant, fd_Form_discriminant, R_Form_discriminant, b_Form_discriminant, G_Form_discriminant⟩ := (ok_Form_discriminant (P := P) (w := w) (base := base) T)
  obtain ⟨p_Form_divided, f_Form_divided, fd_Form_divided, R_Form_divided, b_Form_divided, G_Form_divided⟩ := (ok_Form_divided (P := P) (w := w) (base := base) T)
  obtain ⟨p_Form_hessian, f_Form_hessian, fd_Form_hessian, R_Form_hessian, b_Form_hessian, G_Form_hessian⟩ := (ok_Form_hessian (P := P) (w := w) (base := base) T)
  obtain ⟨p_Form_times, f_Form_times, fd_Form_times, R_Form_times, b_Form_times, G_Form_times⟩ := (ok_Form_times (P := P) (w := w) (base := base) T)
  obtain ⟨f_l_many, fd_l_many, g_l_many, k_l_many, b_l_many, G_l_many⟩ := (ok_l_many (P := P) (w := w) (base := base) T)
  refine ⟨f_, fd_, g_, F_.kp, F_.binds (ps := ["_law_form", "_law_number_here"]) (fun _ _ _ _ _ _ us hl => match us, hl with | [_, _], _ => rfl), ?_⟩
  refine F_.ok sc_l_multiple_right (fun vs H Q E h => ?_) (fun cdv A outer s H vs Q E hr h => ?_)
  · first | (obtain ⟨rfl, _⟩ := h; rfl) | (obtain ⟨_, rfl, _⟩ := h; rfl) | (obtain ⟨_, _, rfl, _⟩ := h; rfl) | (obtain ⟨_, _, _, rfl, _⟩ := h; rfl) | (obtain ⟨_, _, _, _, rfl, _⟩ := h; rfl) | (obtain ⟨_, _, _, _, _, rfl, _⟩ := h; rfl) | (obtain ⟨_, _, _, _, _, _, rfl, _⟩ := h; rfl) | (obtain ⟨_, _, _, _, _, _, _, rfl, _⟩ := h; rfl) | (obtain ⟨_, _, _, _, _, _, _, _, rfl, _⟩ := h; rfl) | (obtain ⟨_, _, _, _, _, _, _, _, _, rfl, _⟩ := h; rfl) | (obtain ⟨_, _, _, _, _, _, _, _, _, _, rfl, _⟩ := h; rfl) | (obtain ⟨_, _, _, _, _, _, _, _, _, _, _, rfl, _⟩ := h; rfl) | (obtain ⟨_, _, _, _, _, _, _, _, _, _, _, _, rfl, _⟩ := h; rfl) | (obtain ⟨_, _, _, _, _, _, _, _, _, _, _, _, _, rfl, _⟩ := h; rfl) | (obtain ⟨_, _, _, _, _, _, _, _, _, _, _, _, _, _, rfl, _⟩ := h; rfl) | (obtain ⟨_, _, _, _, _, _, _, _, _, _, _, _, _, _, _, rfl, _⟩ := h; rfl) | (obtain ⟨_, _, _, _, _, _, _, _, _, _, _, _, _, _, _, _, rfl, _⟩ := h; rfl) | (obtain ⟨_, _, _, _, _, _, _, _, _, _, _, _, _, _, _, _, _, rfl, _⟩ := h; rfl) | (obtain ⟨_, _, _, _, _, _, _, _, _, _, _, _, _, _, _, _, _, _, rfl, _⟩ := h; rfl) | (obtain ⟨_, _, _, _, _, _, _, _, _, _, _, _, _, _, _, _, _, _, _, rfl, _⟩ := h; rfl) | (obtain ⟨_, _, _, _, _, _, _, _, _, _, _, _, _, _, _, _, _, _, _, _, rfl, _⟩ := h; rfl) | (obtain ⟨_, _, _, _, _, _, _, _, _, _, _, _, _, _, _, _, _, _, _, _, _, rfl, _⟩ := h; rfl) | (obtain ⟨_, _, _, _, _, _, _, _, _, _, _, _, _, _, _, _, _, _, _, _, _, _, rfl, _⟩ := h; rfl) | (obtain ⟨_, _, _, _, _, _, _, _, _, _, _, _, _, _, _, _, _, _, _, _, _, _, _, rfl, _⟩ := h; rfl)
  · obtain ⟨x, A1, A2, A3, A4, n, rfl, hx, bn, ⟨hn0, hn1⟩, q⟩ := h
    refine ⟨_, (Evl.pss_cut (ps_par (i := 2) (j := 3) (by rfl) sc_l_multiple_right.nd rfl rfl (by decide) rfl rfl (pa_cons (pe_meth (pv 0) T.cl_Form R_Form_times G_Form_times (hr.mono (by decide)) b_Form_times .nil pass0 (pa_cons (pv 1) pa_nil)) (pa_cons (pe_op op_mulW (pv 1) (pv 1)) pa_nil)) (by rfl))
    (pss_cons (ps_if (PW.pt (pw_or (pt_cmpR (op_neD hr.units) (pe_prop (pv 2) T.cl_Form R_Form_coefficients G_Form_coefficients (hr.mono (by decide)) b_Form_coefficients .nil pass0 (by rfl)) (pe_call G_l_many (hr.mono (by decide)) (by rfl) g_l_many k_l_many b_l_many .nil pass0 (pa_cons (pv 1) (pa_cons (pe_prop (pv 0) T.cl_Form R_Form_coefficients G_Form_coefficients (hr.mono (by decide)) b_Form_coefficients .nil pass0 (by rfl)) pa_nil))) (nomark _)) (pw_or1 (pt_cmpR op_ne (pe_prop (pv 2) T.cl_Form R_Form_content G_Form_content (hr.mono (by decide)) b_Form_content .nil pass0 (by rfl)) (pe_op op_mulW (pe_callB call_abs (by rfl) T.b_abs (by decide +kernel) (pa_cons (pv 1) pa_nil)) (pe_prop (pv 0) T.cl_Form R_Form_content G_Form_content (hr.mono (by decide)) b_Form_content .nil pass0 (by rfl))) (nomark _)))))
      (pss_one (ps_ret pe_bl))
      pss_nil)
    (pss_cons (ps_if (PW.pt (pw_or (pt_cmpR op_ne (pe_prop (pv 2) T.cl_Form R_Form_discriminant G_Form_discriminant (hr.mono (by decide)) b_Form_discriminant .nil pass0 (by rfl)) (pe_op op_mulW (pe_op op_mulW (pv 3) (pv 3)) (pe_prop (pv 0) T.cl_Form R_Form_discriminant G_Form_discriminant (hr.mono (by decide)) b_Form_discriminant .nil pass0 (by rfl))) (nomark _)) (pw_or1 (pt_cmpR (op_neI R_Form___eq__ G_Form___eq__ b_Form___eq__ (hr.mono (by decide)) pass0) (pe_meth (pv 2) T.cl_Form R_Form_divided G_Form_divided (hr.mono (by decide)) b_Form_divided .nil pass0 (pa_cons (pv 1) pa_nil)) (pv 0) (nomark _)))))
      (pss_one (ps_ret pe_bl))
      pss_nil)
    (pss_cons (ps_if (pt_cmpR (op_neD hr.units) (pe_prop (pe_prop (pv 2) T.cl_Form R_Form_hessian G_Form_hessian (hr.mono (by decide)) b_Form_hessian .nil pass0 (by rfl)) T.cl_Double R_Double_coefficients G_Double_coefficients (hr.mono (by decide)) b_Double_coefficients .nil pass0 (by rfl)) (pe_call G_l_many (hr.mono (by decide)) (by rfl) g_l_many k_l_many b_l_many .nil pass0 (pa_cons (pv 3) (pa_cons (pe_prop (pe_prop (pv 0) T.cl_Form R_Form_hessian G_Form_hessian (hr.mono (by decide)) b_Form_hessian .nil pass0 (by rfl)) T.cl_Double R_Double_coefficients G_Double_coefficients (hr.mono (by decide)) b_Double_coefficients .nil pass0 (by rfl)) pa_nil))) (nomark _))
      (pss_one (ps_ret pe_bl))
      pss_nil)
    (pss_one (ps_ret (pe_and (pe_cmpR (op_eqI R_Form___eq__ G_Form___eq__ b_Form___eq__ (hr.mono (by decide)) pass0) (pe_prop (pv 2) T.cl_Form R_Form_covariant G_Form_covariant (hr.mono (by decide)) b_Form_covariant .nil pass0 (by rfl)) (pe_meth (pe_prop (pv 0) T.cl_Form R_Form_covariant G_Form_covariant (hr.mono (by decide)) b_Form_covariant .nil pass0 (by rfl)) T.cl_Form R_Form_times G_Form_times (hr.mono (by decide)) b_Form_times .nil pass0 (pa_cons (pe_op op_mulW (pv 3) (pv 1)) pa_nil)) (nomark _)) (pe_one (pe_cmpR (op_eqI R_Form___eq__ G_Form___eq__ b_Form___eq__ (hr.mono (by decide)) pass0) (pe_meth (pv 2) T.cl_Form R_Form_divided G_Form_divided (hr.mono (by decide)) b_Form_divided .nil pass0 (pa_cons (pe_op op_sub pe_int (pv 1)) pa_nil)) (pe_un (un_negI R_Form___neg__ G_Form___neg__ b_Form___neg__ (hr.mono (by decide)) pass0) (pv 0)) (nomark _)))))))))), ?_⟩
    have b1 := bn A1 (by simp)
    have b2 := bn A2 (by simp)
    have b3 := bn A3 (by simp)
    have b4 := bn A4 (by simp)
    have c1 : B 1000 A1 := b1.mono (by decide)
    have c2 : B 1000 A2 := b2.mono (by decide)
    have c3 : B 1000 A3 := b3.mono (by decide)
    have c4 : B 1000 A4 := b4.mono (by decide)
    have bD := disc_B b1 b2 b3 b4
    have bn' : B 31 n := ⟨Nat.lt_of_le_of_lt hn1 (by decide), by decide⟩
    have sn : Short n := ⟨by omega, by omega⟩
    have bnn : B 62 (n * n) := B.mul bn' bn'
    have m1 : B 1000 (A1 * n) := (B.mul b1 bn').mono (by decide)
    have m2 : B 1000 (A2 * n) := (B.mul b2 bn').mono (by decide)
    have m3 : B 1000 (A3 * n) := (B.mul b3 bn').mono (by decide)
    have m4 : B 1000 (A4 * n) := (B.mul b4 bn').mono (by decide)
    obtain ⟨x0, x1, x2⟩ := h_B b1 b2 b3 b4
    obtain ⟨y0, y1, y2, y3⟩ := gg_B b1 b2 b3 b4
    refine ⟨fun σ H' => ∃ m : Addr, σ = [some (.ref x), some (.int n), some (.ref m), some (.int (n * n))] ∧ Ex0 H H' ∧ FormAt C_Form H' m [A1 * n, A2 * n, A3 * n, A4 * n], ?_, ?_⟩
    · obtain ⟨dx, tx, hx1, hx2⟩ := id hx
      refine ⟨_, rfl, x, dx, _, rfl, hx1, rfl, _, rfl, x, [A1, A2, A3, A4], n, rfl, hx, by show 4 ≤ 1000; decide, sn, all4 c1 c2 c3 c4, fun m H1 e1 hm => ?_⟩
      refine ⟨_, rfl, _, rfl, _, _, rfl, rfl, mulB bn' bn' (by decide), _, _, rfl, ?_⟩
      exact ⟨m, rfl, e1, hm⟩
    rintro σ H1 ⟨m, rfl, e1, hm⟩
    have hx1 := Ex0.fo e1 hx
    obtain ⟨dx, tx, hx2, hx3⟩ := id hx1
    obtain ⟨dm, tm, hm2, hm3⟩ := id hm
    refine ⟨_, rfl, m, dm, _, rfl, hm2, m, _, rfl, hm, fun t1 k1 => ?_⟩
    refine ⟨_, rfl, _, rfl, x, dx, _, rfl, hx2, x, _, rfl, hx1, fun t2 k2 => ?_⟩
    refine ⟨n, t2, _, rfl, k2, bn'.mono (by decide), all4 (c1.mono (by decide)) (c2.mono (by decide)) (c3.mono (by decide)) (c4.mono (by decide)), by show 4 ≤ 1000; decide, fun t3 H2 e2 k3 => ?_⟩
    refine ⟨_, _, .tup (SqT.of (Ex0.ti e2 k1)) (dp_ints _), .tup (SqT.of k3) (dp_ints _), shaped_tints _, shaped_tints _, _, rfl, ?_⟩
    rw [PyData.eqv, eqv_ints]
    refine ndF (by simp only [List.map_cons, List.map_nil, Int.mul_comm n]) ?_
    have hm4 := Ex0.fo e2 hm
    have hx4 := Ex0.fo e2 hx1
    obtain ⟨dx, tx, hx5, hx6⟩ := id hx4
    obtain ⟨dm, tm, hm5, hm6⟩ := id hm4
    have gt : gcdL [A1 * n, A2 * n, A3 * n, A4 * n] = gcdL [A1, A2, A3, A4] * n.natAbs := gcd_times n [A1, A2, A3, A4]
    have bg := gcd_B bn
    have ba : B 31 ((n.natAbs : Nat) : Int) := ⟨by rw [Int.natAbs_natCast]; exact bn'.1, by decide⟩
    refine ⟨_, rfl, m, dm, _, rfl, hm5, m, _, rfl, hm4, _, rfl, n, rfl, ?_⟩
    rw [ab]
    refine ⟨_, rfl, x, dx, _, rfl, hx5, x, _, rfl, hx4, _, _, rfl, rfl, mulB ba bg (by decide), rfl, _, rfl, ndF (congrArg V.int (by rw [gt, Int.natCast_mul, Int.mul_comm])) ?_⟩
    refine ⟨_, rfl, m, dm, _, rfl, hm5, m, _, _, _, _, rfl, hm4, m1, m2, m3, m4, ?_⟩
    refine ⟨_, rfl, _, rfl, _, _, rfl, rfl, mulB bnn bnn (by decide), _, rfl, x, dx, _, rfl, hx5, x, A1, A2, A3, A4, rfl, hx4, c1, c2, c3, c4, _, _, rfl, rfl, mulB (B.mul bnn bnn) bD (by decide), rfl, _, rfl, ndF (congrArg V.int (disc_times A1 A2 A3 A4 n)) ?_⟩
    refine ⟨_, rfl, m, dm, _, rfl, hm5, rfl, _, rfl, m, [A1, A2, A3, A4], n, rfl, hm4, by show 4 ≤ 1000; decide, hn0, by omega, fun z H3 e3 hz => ?_⟩
    have hx7 := Ex0.fo e3 hx4
    obtain ⟨d1, t1, n1, n2⟩ := id hz
    obtain ⟨d2, t2, n3, n4⟩ := id hx7
    refine ⟨_, rfl, z, d1, _, _, rfl, n1, ty_ins T.ty_Form T.cl_Form n3, first_self, z, x, _, _, rfl, hz, hx7, _, rfl, _, rfl, ?_⟩
    rw [decide_eq_true (rfl : [A1, A2, A3, A4] = [A1, A2, A3, A4])]
    refine iteF ?_
    have hm7 := Ex0.fo e3 hm4
    obtain ⟨dm, tm, hm8, hm9⟩ := id hm7
    refine ⟨_, rfl, m, dm, _, rfl, hm8, m, _, _, _, _, rfl, hm7, m1, m2, m3, m4, fun y H4 e4 hy => ?_⟩
    obtain ⟨dy, ty, hy1, hy2⟩ := id hy
    refine ⟨y, dy, _, rfl, hy1, y, _, rfl, hy, fun t4 k4 => ?_⟩
    have hx8 := Ex0.fo e4 hx7
    obtain ⟨dx, tx, hx9, hx10⟩ := id hx8
    refine ⟨_, rfl, _, rfl, x, dx, _, rfl, hx9, x, A1, A2, A3, A4, rfl, hx8, c1, c2, c3, c4, fun y' H5 e5 hy3 => ?_⟩
    obtain ⟨dy, ty, hy4, hy5⟩ := id hy3
    refine ⟨y', dy, _, rfl, hy4, y', _, rfl, hy3, fun t5 k5 => ?_⟩
    refine ⟨_, t5, _, rfl, k5, bnn.mono (by decide), all3 (x0.mono (by decide)) (x1.mono (by decide)) (x2.mono (by decide)), by show 3 ≤ 1000; decide, fun t6 H6 e6 k6 => ?_⟩
    refine ⟨_, _, .tup (SqT.of (Ex0.ti (e5.trans e6) k4)) (dp_ints _), .tup (SqT.of k6) (dp_ints _), shaped_tints _, shaped_tints _, _, rfl, ?_⟩
    rw [PyData.eqv, eqv_ints]
    refine ndF (h_times A1 A2 A3 A4 n) ?_
    have e46 := (e4.trans e5).trans e6
    have hm10 := Ex0.fo e46 hm7
    obtain ⟨dm, tm, hm11, hm12⟩ := id hm10
    refine ⟨_, rfl, m, dm, _, rfl, hm11, m, _, _, _, _, rfl, hm10, m1, m2, m3, m4, fun g H7 e7 hg => ?_⟩
    have hx11 := Ex0.fo ((e5.trans e6).trans e7) hx8
    obtain ⟨dx, tx, hx12, hx13⟩ := id hx11
    refine ⟨_, rfl, x, dx, _, rfl, hx12, x, A1, A2, A3, A4, rfl, hx11, c1, c2, c3, c4, fun g' H8 e8 hg2 => ?_⟩
    obtain ⟨dg, tg, hg3, hg4⟩ := id hg2
    have b3n : B 93 (n * n * n) := B.mul bnn bn'
    refine ⟨g', dg, _, rfl, hg3, rfl, _, rfl, _, rfl, _, _, rfl, rfl, mulB bnn bn' (by decide), g', [g0 A1 A2 A3 A4, g1 A1 A2 A3 A4, g2 A1 A2 A3 A4, g3 A1 A2 A3 A4], n * n * n, rfl, hg2, by show 4 ≤ 1000; decide, short_B (b3n.mono (by decide)), all4 y0 y1 y2 y3, fun g'' H9 e9 hg5 => ?_⟩
    have hg6 := Ex0.fo (e8.trans e9) hg
    obtain ⟨d1, t1, n1, n2⟩ := id hg6
    obtain ⟨d2, t2, n3, n4⟩ := id hg5
    refine ⟨g, d1, _, _, rfl, n1, ty_ins T.ty_Form T.cl_Form n3, first_self, g, g'', _, _, rfl, hg6, hg5, _, rfl, _, rfl, ?_⟩
    rw [decide_eq_true (g_times A1 A2 A3 A4 n)]
    refine iteT ?_
    have hm13 := Ex0.fo ((e7.trans e8).trans e9) hm10
    obtain ⟨dm, tm, hm14, hm15⟩ := id hm13
    have hm16 : FormAt C_Form H9 m ([-A1, -A2, -A3, -A4].map fun x => x * (0 - n)) := by
      have : ([-A1, -A2, -A3, -A4].map fun x => x * (0 - n)) = [A1 * n, A2 * n, A3 * n, A4 * n] := by
        simp only [List.map_cons, List.map_nil, List.cons.injEq, and_true]
        refine ⟨?_, ?_, ?_, ?_⟩ <;> grind
      rw [this]
      exact hm13
    refine ⟨_, rfl, m, dm, _, rfl, hm14, rfl, _, rfl, _, _, rfl, rfl, m, [-A1, -A2, -A3, -A4], 0 - n, rfl, hm16, by show 4 ≤ 1000; decide, by omega, by omega, fun z5 H10 e10 hz5 => ?_⟩
    have hx14 := Ex0.fo ((e8.trans e9).trans e10) hx11
    obtain ⟨dx, tx, hx15, hx16⟩ := id hx14
    refine ⟨_, rfl, x, dx, _, rfl, hx15, x, _, rfl, hx14, by show 4 ≤ 1000; decide, fun z6 H11 e11 hz6 => ?_⟩
    have hz7 := Ex0.fo e11 hz5
    obtain ⟨d1, t1, n1, n2⟩ := id hz7
    obtain ⟨d2, t2, n3, n4⟩ := id hz6
    refine ⟨z5, d1, _, _, rfl, n1, ty_ins T.ty_Form T.cl_Form n3, first_self, z5, z6, _, _, rfl, hz7, hz6, _, rfl, ?_⟩
    show Q (.bl (if false = true then _ else decide _)) H11
    have kk : [-A1, -A2, -A3, -A4] = List.map (fun n => -n) [A1, A2, A3, A4] := rfl
    rw [decide_eq_true kk]
    exact q H11 (((((e1.trans e2).trans e3).trans e46).trans ((e7.trans e8).trans e9)).trans (e10.trans e11))
end
end K09
namespace K09
open PySem PySem.Spec PyProof.Rows L2 Fr
open K05M (fv fl2 fl3 fdisc)
open K06M
def spR (_ : PySem.W.Frag) (_ _ : Addr) : Sp := fun vs H Q _ => ∃ c : Addr, vs = [.ref c] ∧ Vat c H ∧ ∀ H', Fv c H H' → Q (.bl true) H'
abbrev sp_l_right := spR
def sp_lawW (K : PySem.W.Frag) : Sp := fun vs H Q _ => ∃ (a : Addr) (ns : List Int), vs = [.ref a] ∧ SqL K H a (ns.map V.int) ∧ ns.length ≤ 63 ∧ ∀ H', Q (.bl true) H'
abbrev sp_law (K : PySem.W.Frag) (_ _ : Addr) : Sp := sp_lawW K
section
variable {P : Program} {w : World} {K : PySem.W.Frag} {mg : Str → Option Value} {base : Heap} {C_Form C_Double : Addr}
theorem ok_l_right (T : Txt K mg C_Form C_Double) : Def P w K mg base 10 "_law_right" ["_law_cask_here"] (sp_l_right K C_Form C_Double) := by
  obtain ⟨f_, fd_, g_, F_⟩ := T.d_l_right
  obtain ⟨p_Form___call__, f_Form___call__, fd_Form___call__, R_Form___call__, b_Form___call__, G_Form___call__⟩ := (ok_Form___call__ (P := P) (w := w) (base := base) T)
  obtain ⟨p_Form___init__, f_Form___init__, fd_Form___init__, R_Form___init__, b_Form___init__, G_Form___init__⟩ := (ok_Form___init__ (P := P) (w := w) (base := base) T)
  obtain ⟨p_Form_coefficients, f_Form_coefficients, fd_Form_coefficients, R_Form_coefficients, b_Form_coefficients, G_Form_coefficients⟩ := (ok_Form_coefficients (P := P) (w := w) (base := base) T)
  obtain ⟨p_Form_led, f_Form_led, fd_Form_led, R_Form_led, b_Form_led, G_Form_led⟩ := (ok_Form_led (P := P) (w := w) (base := base) T)
  obtain ⟨f_l_multiple_right, fd_l_multiple_right, g_l_multiple_right, k_l_multiple_right, b_l_multiple_right, G_l_multiple_right⟩ := (ok_l_multiple_right (P := P) (w := w) (base := base) T)
  obtain ⟨f_l_numbers, fd_l_numbers, g_l_numbers, k_l_numbers, b_l_numbers, G_l_numbers⟩ := (ok_l_numbers (P := P) (w := w) (base := base) T)
  obtain ⟨f_l_one, fd_l_one, g_l_one, k_l_one, b_l_one, G_l_one⟩ := (ok_l_one (P := P) (w := w) (base := base) T)
  obtain ⟨f_l_partner, fd_l_partner, g_l_partner, k_l_partner, b_l_partner, G_l_partner⟩ := (ok_l_partner (P := P) (w := w) (base := base) T)
  obtain ⟨f_l_place, fd_l_place, g_l_place, k_l_place, b_l_place, G_l_place⟩ := (ok_l_place (P := P) (w := w) (base := base) T)
  obtain ⟨f_l_row_right, fd_l_row_right, g_l_row_right, k_l_row_right, b_l_row_right, G_l_row_right⟩ := (ok_l_row_right (P := P) (w := w) (base := base) T)
  obtain ⟨f_l_sense, fd_l_sense, g_l_sense, k_l_sense, b_l_sense, G_l_sense⟩ := (ok_l_sense (P := P) (w := w) (base := base) T)
  refine ⟨f_, fd_, g_, F_.kp, F_.binds (ps := ["_law_cask_here"]) (fun _ _ _ _ _ _ us hl => match us, hl with | [_], _ => rfl), ?_⟩
  refine F_.ok sc_l_right (fun vs H Q E h => ?_) (fun cdv A outer s H vs Q E hr h => ?_)
  · first | (obtain ⟨rfl, _⟩ := h; rfl) | (obtain ⟨_, rfl, _⟩ := h; rfl) | (obtain ⟨_, _, rfl, _⟩ := h; rfl) | (obtain ⟨_, _, _, rfl, _⟩ := h; rfl) | (obtain ⟨_, _, _, _, rfl, _⟩ := h; rfl) | (obtain ⟨_, _, _, _, _, rfl, _⟩ := h; rfl) | (obtain ⟨_, _, _, _, _, _, rfl, _⟩ := h; rfl) | (obtain ⟨_, _, _, _, _, _, _, rfl, _⟩ := h; rfl) | (obtain ⟨_, _, _, _, _, _, _, _, rfl, _⟩ := h; rfl) | (obtain ⟨_, _, _, _, _, _, _, _, _, rfl, _⟩ := h; rfl) | (obtain ⟨_, _, _, _, _, _, _, _, _, _, rfl, _⟩ := h; rfl) | (obtain ⟨_, _, _, _, _, _, _, _, _, _, _, rfl, _⟩ := h; rfl) | (obtain ⟨_, _, _, _, _, _, _, _, _, _, _, _, rfl, _⟩ := h; rfl) | (obtain ⟨_, _, _, _, _, _, _, _, _, _, _, _, _, rfl, _⟩ := h; rfl) | (obtain ⟨_, _, _, _, _, _, _, _, _, _, _, _, _, _, rfl, _⟩ := h; rfl) | (obtain ⟨_, _, _, _, _, _, _, _, _, _, _, _, _, _, _, rfl, _⟩ := h; rfl) | (obtain ⟨_, _, _, _, _, _, _, _, _, _, _, _, _, _, _, _, rfl, _⟩ := h; rfl) | (obtain ⟨_, _, _, _, _, _, _, _, _, _, _, _, _, _, _, _, _, rfl, _⟩ := h; rfl) | (obtain ⟨_, _, _, _, _, _, _, _, _, _, _, _, _, _, _, _, _, _, rfl, _⟩ := h; rfl) | (obtain ⟨_, _, _, _, _, _, _, _, _, _, _, _, _, _, _, _, _, _, _, rfl, _⟩ := h; rfl) | (obtain ⟨_, _, _, _, _, _, _, _, _, _, _, _, _, _, _, _, _, _, _, _, rfl, _⟩ := h; rfl) | (obtain ⟨_, _, _, _, _, _, _, _, _, _, _, _, _, _, _, _, _, _, _, _, _, rfl, _⟩ := h; rfl) | (obtain ⟨_, _, _, _, _, _, _, _, _, _, _, _, _, _, _, _, _, _, _, _, _, _, rfl, _⟩ := h; rfl) | (obtain ⟨_, _, _, _, _, _, _, _, _, _, _, _, _, _, _, _, _, _, _, _, _, _, _, rfl, _⟩ := h; rfl)
  · obtain ⟨c, rfl, hc, q⟩ := h
    refine ⟨_, (Evl.pss_cut (ps_set (i := 1) sc_l_right.nd rfl (.inl rfl) (pe_call G_l_numbers (hr.mono (by decide)) (by rfl) g_l_numbers k_l_numbers b_l_numbers .nil pass0 (pa_cons (pv 0) (pa_cons pe_int pa_nil))))
    (Evl.pss_cut (ps_par (i := 2) (j := 3) (by rfl) sc_l_right.nd rfl rfl (by decide) rfl rfl (pa_cons (pe_make R_Form___init__ G_Form___init__ (hr.mono (by decide)) (by rfl) T.g_Form b_Form___init__ .nil pass0 (pa_cons (pv 1) pa_nil)) (pa_cons (pe_call G_l_one (hr.mono (by decide)) (by rfl) g_l_one k_l_one b_l_one .nil pass0 (pa_cons (pv 0) (pa_cons (pe_lst (pa_cons pe_int (pa_cons (pe_un un_neg pe_int) (pa_cons pe_int (pa_cons (pe_un un_neg pe_int) (pa_cons pe_int (pa_cons (pe_op op_sub pe_int (pe_op op_pow pe_int pe_int)) pa_nil))))))) pa_nil))) pa_nil)) (by rfl))
    (pss_cons (ps_if (PW.pt (pw_or (pt_not (pt_val (pe_call G_l_row_right (hr.mono (by decide)) (by rfl) g_l_row_right k_l_row_right b_l_row_right .nil pass0 (pa_cons (pv 0) (pa_cons (pv 2) pa_nil))))) (pw_or1 (pt_not (pt_val (pe_call G_l_multiple_right (hr.mono (by decide)) (by rfl) g_l_multiple_right k_l_multiple_right b_l_multiple_right .nil pass0 (pa_cons (pv 2) (pa_cons (pv 3) pa_nil))))))))
      (pss_one (ps_ret pe_bl))
      pss_nil)
    (pss_cons (ps_asg (pe_call G_l_place (hr.mono (by decide)) (by rfl) g_l_place k_l_place b_l_place .nil pass0 (pa_cons (pv 0) pa_nil)) (pg_tup (by rfl) (pgs_cons (pg_name (i := 4) sc_l_right.nd rfl (.inl rfl)) (pgs_cons (pg_name (i := 5) sc_l_right.nd rfl (.inl rfl)) pgs_nil))))
    (pss_cons (ps_set (i := 6) sc_l_right.nd rfl (.inl rfl) (pe_tup (pa_cons (pe_tup (pa_cons (pv 4) (pa_cons (pv 5) pa_nil))) (pa_cons (pe_call G_l_partner (hr.mono (by decide)) (by rfl) g_l_partner k_l_partner b_l_partner .nil pass0 (pa_cons (pv 4) (pa_cons (pv 5) pa_nil))) pa_nil))))
    (pss_one (ps_ret (pe_cmpR op_eq (pe_ix ix_tup (pe_prop (pe_meth (pv 2) T.cl_Form R_Form_led G_Form_led (hr.mono (by decide)) b_Form_led .nil pass0 (pa_cons (pv 6) pa_nil)) T.cl_Form R_Form_coefficients G_Form_coefficients (hr.mono (by decide)) b_Form_coefficients .nil pass0 (by rfl)) pe_int (fun _ _ => rfl)) (pe_op op_mulW (pe_call G_l_sense (hr.mono (by decide)) (by rfl) g_l_sense k_l_sense b_l_sense .nil pass0 (pa_cons (pv 6) pa_nil)) (StX.pe_callO (pv 2) R_Form___call__ (G_Form___call__.raw b_Form___call__ .nil) (hr.mono (by decide)) pass0 (pa_cons (pv 4) (pa_cons (pv 5) pa_nil)))) (nomark _))))))))), ?_⟩
    refine ⟨fun σ H' => ∃ (t : Addr) (A1 A2 A3 A4 : Int), σ = [some (.ref c), some (.ref t), none, none, none, none, none] ∧ Fv c H H' ∧ Ti H' t [A1, A2, A3, A4] ∧ (∀ n ∈ [A1, A2, A3, A4], n.natAbs ≤ 10000000000000000000000000), ?_, ?_⟩
    · refine ⟨_, rfl, c, 4, rfl, hc, by decide, fun t ns H1 e1 g1' hl hn => ?_⟩
      obtain ⟨A1, A2, A3, A4, rfl⟩ : ∃ A1 A2 A3 A4, ns = [A1, A2, A3, A4] := by
        match ns, hl with
        | [x, y, z, u], _ => exact ⟨x, y, z, u, rfl⟩
      exact ⟨t, A1, A2, A3, A4, rfl, e1, g1', hn⟩
    rintro σ H1 ⟨t, A1, A2, A3, A4, rfl, e1, ht, hn⟩
    have sn : ∀ n ∈ [A1, A2, A3, A4], Short n := fun n h => by have := hn n h; exact ⟨by omega, by omega⟩
    have bn : ∀ n ∈ [A1, A2, A3, A4], B 84 n := fun n h => ⟨Nat.lt_of_le_of_lt (hn n h) (by decide), by decide⟩
    have b1 := bn A1 (by simp)
    have b2 := bn A2 (by simp)
    have b3 := bn A3 (by simp)
    have b4 := bn A4 (by simp)
    have c1 : B 1000 A1 := b1.mono (by decide)
    have c2 : B 1000 A2 := b2.mono (by decide)
    have c3 : B 1000 A3 := b3.mono (by decide)
    have c4 : B 1000 A4 := b4.mono (by decide)
    refine ⟨fun σ H' => ∃ (x : Addr) (n : Int), σ = [some (.ref c), some (.ref t), some (.ref x), some (.int n), none, none, none] ∧ Fv c H1 H' ∧ FormAt C_Form H' x [A1, A2, A3, A4] ∧ NmOk n, ?_, ?_⟩
    · refine ⟨_, rfl, fun x dx nx ndx _ => ?_⟩
      refine ⟨x, dx, t, [A1, A2, A3, A4], rfl, upd_same, ?_, rfl, sn, fun H2 e2 g2' => ⟨rfl, ?_⟩⟩
      · show (upd (upd H1 dx _) x _) t = _
        rw [upd_ne (ne_of_none ht nx), upd_ne (ne_of_none ht ndx)]
        exact ht
      obtain ⟨e3, hx⟩ := made nx ndx e2 g2' ht
      have f3 := fv_ex e1.1 e3
      refine ⟨_, rfl, _, rfl, _, rfl, _, _, rfl, rfl, ⟨by decide, by decide, by decide⟩, _, _, rfl, rfl, sl6, fun l nl => ?_⟩
      have f4 : Fv c H2 (upd H2 l (.lst [.int 1, .int (-1), .int 2, .int (-3), .int 60, .int (-999999999)])) := fv_new f3.1 nl
      refine ⟨c, l, [.int 1, .int (-1), .int 2, .int (-3), .int 60, .int (-999999999)], rfl, f4.1, upd_same, fv_ne f3.1 nl, by simp, by decide, fun v H3 hv e4 => ?_⟩
      obtain ⟨n, rfl, hN⟩ : ∃ n : Int, v = .int n ∧ NmOk n := by
        simp only [List.mem_cons, List.mem_nil_iff, or_false] at hv
        rcases hv with rfl | rfl | rfl | rfl | rfl | rfl <;> exact ⟨_, rfl, by decide, by decide⟩
      have f5 := f4.trans e4
      exact ⟨_, _, rfl, x, n, rfl, f3.trans f5, fo_fv f3.1 f5 hx, hN⟩
    rintro σ H2 ⟨x, n, rfl, e2, hx, hN⟩
    refine ⟨_, rfl, _, rfl, c, x, A1, A2, A3, A4, rfl, e2.1, hx, bn, fun H3 e3 => ⟨_, rfl, ?_⟩⟩
    refine iteF ?_
    have hx3 := fo_fv e2.1 e3 hx
    refine ⟨_, rfl, _, rfl, x, A1, A2, A3, A4, n, rfl, hx3, bn, hN, fun H4 e4 => ⟨_, rfl, ?_⟩⟩
    refine iteF ?_
    have hx4 := Ex0.fo e4 hx3
    have f4 : Fv c H H4 := ((e1.trans e2).trans e3).trans (fv_ex e3.1 e4)
    refine ⟨_, rfl, c, rfl, f4.1, fun t5 p q' H5 e5 h5 hp => ?_⟩
    have hx5 := fo_fv f4.1 e5 hx4
    have f5 := f4.trans e5
    refine ⟨t5, _, rfl, SqT.of h5, rfl, _, _, rfl, _, _, rfl, rfl, ?_⟩
    refine ⟨_, rfl, _, rfl, sl2, fun a na => ?_⟩
    have ea : Ex0 H5 (upd H5 a (.tup [.int p, .int q'])) := Ex0.new na
    have ha : (upd H5 a (.tup [.int p, .int q'])) a = some (.tup [.int p, .int q']) := upd_same
    generalize upd H5 a (.tup [.int p, .int q']) = H6 at *
    refine ⟨_, rfl, _, rfl, p, q', rfl, hp, fun b r s' H7 e7 hb ok => ⟨sl2, fun ca nca => ?_⟩⟩
    have e8 : Ex0 H7 (upd H7 ca (.tup [.ref a, .ref b])) := Ex0.new nca
    have hca : T4 (upd H7 ca (.tup [.ref a, .ref b])) ca p q' r s' := ⟨a, b, upd_same, Ex0.ap e8 (Ex0.ap e7 ha), Ex0.ap e8 hb⟩
    generalize upd H7 ca (.tup [.ref a, .ref b]) = H8 at *
    have e58 := (ea.trans e7).trans e8
    have hx8 := Ex0.fo e58 hx5
    obtain ⟨dx, tx, hx1, hx2⟩ := id hx8
    refine ⟨_, rfl, x, dx, _, rfl, hx1, rfl, _, rfl, x, ca, A1, A2, A3, A4, p, q', r, s', rfl, hx8, hca, c1, c2, c3, c4, ok, fun z H9 e9 hz => ?_⟩
    obtain ⟨dz, tz, hz1, hz2⟩ := id hz
    refine ⟨z, dz, _, rfl, hz1, z, _, rfl, hz, fun tt htt => ?_⟩
    have q1 : SqT K H9 tt ((fled A1 A2 A3 A4 p q' r s').map V.int) := SqT.of htt
    refine ⟨tt, _, 0, .int ((p * s' - q' * r) * fv A1 A2 A3 A4 p q'), rfl, rfl, q1, rfl, ?_⟩
    have bp : B 60 p := ⟨Nat.lt_of_le_of_lt hp.2.2.1 (by decide), by decide⟩
    have bq : B 60 q' := ⟨Nat.lt_of_le_of_lt hp.2.2.2 (by decide), by decide⟩
    refine ⟨_, rfl, ca, p, q', r, s', rfl, Ex0.q4 e9 hca, bp.mono (by decide), bq.mono (by decide), ok.2.2.1.b.mono (by decide), ok.2.2.2.1.b.mono (by decide), ?_⟩
    have hx9 := Ex0.fo e9 hx8
    obtain ⟨dx, tx, hx3, hx4⟩ := id hx9
    refine ⟨_, rfl, x, rfl, _, rfl, _, rfl, .inr ⟨_, _, hx3⟩, x, A1, A2, A3, A4, p, q', rfl, hx9, c1, c2, c3, c4, short_B (bp.mono (by decide)), short_B (bq.mono (by decide)), ?_⟩
    refine ⟨_, _, rfl, rfl, mulB (e_B ok.2.2.2.2) (fv_B b1 b2 b3 b4 bp bq) (by decide), rfl, ?_⟩
    show Q (.bl (decide (_ = _))) H9
    rw [decide_eq_true rfl]
    exact q H9 (f5.trans (fv_ex f5.1 (e58.trans e9)))
end
end K09
namespace K09
open PySem PySem.Spec PyProof.Rows L2 Fr
open K05M (fv fl2 fl3 fdisc)
open K06M
section
variable {P : Program} {w : World} {K : PySem.W.Frag} {mg : Str → Option Value} {base : Heap} {C_Form C_Double : Addr}
theorem ok_law0 (T : Txt K mg C_Form C_Double) {f_ : Addr} {fd_ : FuncData} (F_ : Fun K "law" "law" s_law f_ fd_) : FnOk P w K mg base CX0 11 f_ fd_ ["_law_script"] (sp_law K C_Form C_Double) := by
  obtain ⟨p_Form___eq__, f_Form___eq__, fd_Form___eq__, R_Form___eq__, b_Form___eq__, G_Form___eq__⟩ := (ok_Form___eq__ (P := P) (w := w) (base := base) T)
  obtain ⟨p_Form___init__, f_Form___init__, fd_Form___init__, R_Form___init__, b_Form___init__, G_Form___init__⟩ := (ok_Form___init__ (P := P) (w := w) (base := base) T)
  obtain ⟨p_Form_divided, f_Form_divided, fd_Form_divided, R_Form_divided, b_Form_divided, G_Form_divided⟩ := (ok_Form_divided (P := P) (w := w) (base := base) T)
  obtain ⟨p_Form_times, f_Form_times, fd_Form_times, R_Form_times, b_Form_times, G_Form_times⟩ := (ok_Form_times (P := P) (w := w) (base := base) T)
  obtain ⟨f_l_cask, fd_l_cask, g_l_cask, k_l_cask, b_l_cask, G_l_cask⟩ := (ok_l_cask (P := P) (w := w) (base := base) T)
  obtain ⟨f_l_right, fd_l_right, g_l_right, k_l_right, b_l_right, G_l_right⟩ := (ok_l_right (P := P) (w := w) (base := base) T)
  refine F_.ok sc_law (fun vs H Q E h => ?_) (fun cdv A outer s H vs Q E hr h => ?_)
  · first | (obtain ⟨rfl, _⟩ := h; rfl) | (obtain ⟨_, rfl, _⟩ := h; rfl) | (obtain ⟨_, _, rfl, _⟩ := h; rfl) | (obtain ⟨_, _, _, rfl, _⟩ := h; rfl) | (obtain ⟨_, _, _, _, rfl, _⟩ := h; rfl) | (obtain ⟨_, _, _, _, _, rfl, _⟩ := h; rfl) | (obtain ⟨_, _, _, _, _, _, rfl, _⟩ := h; rfl) | (obtain ⟨_, _, _, _, _, _, _, rfl, _⟩ := h; rfl) | (obtain ⟨_, _, _, _, _, _, _, _, rfl, _⟩ := h; rfl) | (obtain ⟨_, _, _, _, _, _, _, _, _, rfl, _⟩ := h; rfl) | (obtain ⟨_, _, _, _, _, _, _, _, _, _, rfl, _⟩ := h; rfl) | (obtain ⟨_, _, _, _, _, _, _, _, _, _, _, rfl, _⟩ := h; rfl) | (obtain ⟨_, _, _, _, _, _, _, _, _, _, _, _, rfl, _⟩ := h; rfl) | (obtain ⟨_, _, _, _, _, _, _, _, _, _, _, _, _, rfl, _⟩ := h; rfl) | (obtain ⟨_, _, _, _, _, _, _, _, _, _, _, _, _, _, rfl, _⟩ := h; rfl) | (obtain ⟨_, _, _, _, _, _, _, _, _, _, _, _, _, _, _, rfl, _⟩ := h; rfl) | (obtain ⟨_, _, _, _, _, _, _, _, _, _, _, _, _, _, _, _, rfl, _⟩ := h; rfl) | (obtain ⟨_, _, _, _, _, _, _, _, _, _, _, _, _, _, _, _, _, rfl, _⟩ := h; rfl) | (obtain ⟨_, _, _, _, _, _, _, _, _, _, _, _, _, _, _, _, _, _, rfl, _⟩ := h; rfl) | (obtain ⟨_, _, _, _, _, _, _, _, _, _, _, _, _, _, _, _, _, _, _, rfl, _⟩ := h; rfl) | (obtain ⟨_, _, _, _, _, _, _, _, _, _, _, _, _, _, _, _, _, _, _, _, rfl, _⟩ := h; rfl) | (obtain ⟨_, _, _, _, _, _, _, _, _, _, _, _, _, _, _, _, _, _, _, _, _, rfl, _⟩ := h; rfl) | (obtain ⟨_, _, _, _, _, _, _, _, _, _, _, _, _, _, _, _, _, _, _, _, _, _, rfl, _⟩ := h; rfl) | (obtain ⟨_, _, _, _, _, _, _, _, _, _, _, _, _, _, _, _, _, _, _, _, _, _, _, rfl, _⟩ := h; rfl)
  · obtain ⟨a, ns, rfl, hS, hn, q⟩ := h
    refine ⟨_, (pss_cons (ps_for PassesOwn.never rfl (pi_range1 (by rfl) T.b_range (pa_cons (pe_callB (call_max2 rfl) (by rfl) T.b_max (by decide +kernel) (pa_cons pe_int (pa_cons (pe_callB (call_min2 rfl) (by rfl) T.b_min (by decide +kernel) (pa_cons pe_int (pa_cons (pe_callB call_len_seq (by rfl) T.b_len PySem.boot_len (pa_cons (pv 0) pa_nil)) pa_nil))) pa_nil))) pa_nil)) (pg_name (i := 1) sc_law.nd rfl (.inl rfl))
      (pss_cons (ps_set (i := 2) sc_law.nd rfl (.inl rfl) (pe_call G_l_cask (hr.mono (by decide)) (by rfl) g_l_cask k_l_cask b_l_cask .nil pass0 (pa_cons (pv 0) (pa_cons (pv 1) pa_nil))))
    (pss_one (ps_if (PW.pt (pw_or (pt_not (pt_val (pe_call G_l_right (hr.mono (by decide)) (by rfl) g_l_right k_l_right b_l_right .nil pass0 (pa_cons (pv 2) pa_nil)))) (pw_or1 (pt_not (pt_val (pe_call G_l_right (hr.mono (by decide)) (by rfl) g_l_right k_l_right b_l_right .nil pass0 (pa_cons (pv 2) pa_nil)))))))
      (pss_one (ps_ret pe_bl))
      pss_nil))))
    (pss_one (ps_ret (pe_and (pe_cmpR (op_eqI R_Form___eq__ G_Form___eq__ b_Form___eq__ (hr.mono (by decide)) pass0) (pe_meth (pe_make R_Form___init__ G_Form___init__ (hr.mono (by decide)) (by rfl) T.g_Form b_Form___init__ .nil pass0 (pa_cons (pe_tup (pa_cons pe_int (pa_cons pe_int (pa_cons (pe_un un_neg pe_int) (pa_cons (pe_un un_neg pe_int) pa_nil))))) pa_nil)) T.cl_Form R_Form_divided G_Form_divided (hr.mono (by decide)) b_Form_divided .nil pass0 (pa_cons pe_int pa_nil)) (pe_make R_Form___init__ G_Form___init__ (hr.mono (by decide)) (by rfl) T.g_Form b_Form___init__ .nil pass0 (pa_cons (pe_tup (pa_cons pe_int (pa_cons pe_int (pa_cons (pe_un un_neg pe_int) (pa_cons (pe_un un_neg pe_int) pa_nil))))) pa_nil)) (nomark _)) (pe_one (pe_cmpR (op_eqI R_Form___eq__ G_Form___eq__ b_Form___eq__ (hr.mono (by decide)) pass0) (pe_meth (pe_meth (pe_make R_Form___init__ G_Form___init__ (hr.mono (by decide)) (by rfl) T.g_Form b_Form___init__ .nil pass0 (pa_cons (pe_tup (pa_cons pe_int (pa_cons pe_int (pa_cons pe_int (pa_cons pe_int pa_nil))))) pa_nil)) T.cl_Form R_Form_times G_Form_times (hr.mono (by decide)) b_Form_times .nil pass0 (pa_cons pe_int pa_nil)) T.cl_Form R_Form_divided G_Form_divided (hr.mono (by decide)) b_Form_divided .nil pass0 (pa_cons pe_int pa_nil)) (pe_make R_Form___init__ G_Form___init__ (hr.mono (by decide)) (by rfl) T.g_Form b_Form___init__ .nil pass0 (pa_cons (pe_tup (pa_cons pe_int (pa_cons pe_int (pa_cons pe_int (pa_cons pe_int pa_nil))))) pa_nil)) (nomark _))))))), ?_⟩
    have hm : ∀ z : Int, z ≤ 63 → -(2 ^ 62) ≤ (if (if z < 3 then z else 3) > 1 then (if z < 3 then z else 3) else 1) ∧ (if (if z < 3 then z else 3) > 1 then (if z < 3 then z else 3) else 1) < 2 ^ 62 := fun z hz => by
      split <;> split <;> omega
    have hm2 := hm (((ns.map V.int).length : Nat) : Int) (by rw [List.length_map]; omega)
    refine ⟨_, rfl, a, _, rfl, .inl hS, _, _, rfl, _, _, rfl, _, rfl, hm2.1, hm2.2, ?_⟩
    refine for_range (lo := 0) (fun i σ H' => ∃ y1 y2, σ = [some (.ref a), y1, y2] ∧ Ex0 H H') ⟨none, none, rfl, Ex0.refl H⟩ ?_ ?_
    · rintro i σ H' hi ⟨y1, y2, rfl, e⟩
      refine ⟨_, rfl, _, rfl, a, ns, i, by show [V.ref a, V.int (0 + (i : Int))] = _; rw [Int.zero_add], e.sqL (fun z => z) hS, fun p H1 np e1 hv => ?_⟩
      have hp0 : H p = none := Fx.free e (fun z => z) np
      have e01 : Ex0 H H1 := e.trans e1
      refine ⟨_, rfl, p, rfl, hv, fun H3 e3 => ⟨_, rfl, ?_⟩⟩
      refine iteF ⟨_, rfl, p, rfl, e3.1, fun H4 e4 => ⟨_, rfl, ?_⟩⟩
      refine iteF ?_
      exact ⟨_, _, rfl, ex_fv e01 hp0 (e3.trans e4)⟩
    · rintro σ H' ⟨y1, y2, rfl, e⟩
      have small : ∀ n : Int, n.natAbs ≤ 10 → Short n ∧ B 1000 n := fun n h => ⟨⟨by omega, by omega⟩, Nat.lt_of_le_of_lt h (by decide), by decide⟩
      have sm : ∀ p q r s : Int, p.natAbs ≤ 10 ∧ q.natAbs ≤ 10 ∧ r.natAbs ≤ 10 ∧ s.natAbs ≤ 10 → ∀ n ∈ [p, q, r, s], Short n := fun p q r s h n hn => by
        simp only [List.mem_cons, List.mem_nil_iff, or_false] at hn
        rcases hn with rfl | rfl | rfl | rfl
        · exact (small _ h.1).1
        · exact (small _ h.2.1).1
        · exact (small _ h.2.2.1).1
        · exact (small _ h.2.2.2).1
      have keep : ∀ {H1 : Hp} {t x dx : Addr} {l : List Int} {o1 o2 : HO}, Ti H1 t l → H1 x = none → H1 dx = none → Ti (upd (upd H1 dx o1) x o2) t l := fun {H1 t x dx l o1 o2} h n1 n2 => by
        show (upd (upd H1 dx _) x _) t = _
        rw [upd_ne (ne_of_none h n1), upd_ne (ne_of_none h n2)]
        exact h
      refine ⟨_, rfl, _, rfl, sl4, fun t nt x dx nx ndx _ => ?_⟩
      have ht : Ti (upd H' t (.tup [.int 2, .int 4, .int (-2), .int (-2)])) t [2, 4, -2, -2] := upd_same
      refine ⟨x, dx, t, [2, 4, -2, -2], rfl, upd_same, keep ht nx ndx, rfl, sm _ _ _ _ (by decide), fun H3 e7 g7 => ⟨rfl, ?_⟩⟩
      obtain ⟨e8, hx3⟩ := made nx ndx e7 g7 ht
      obtain ⟨dx', tx, hx1, hx2⟩ := id hx3
      have hx3' : FormAt C_Form H3 x (([1, 2, -1, -1] : List Int).map fun x => x * 2) := by
        have : (([1, 2, -1, -1] : List Int).map fun x => x * 2) = [2, 4, -2, -2] := by decide
        rw [this]
        exact hx3
      refine ⟨x, dx', _, rfl, hx1, rfl, x, [1, 2, -1, -1], 2, rfl, hx3', by show 4 ≤ 1000; decide, by decide, by decide, fun z H4 e9 hz => ?_⟩
      refine ⟨_, rfl, _, rfl, sl4, fun t2 nt2 x2 dx2 nx2 ndx2 _ => ?_⟩
      have ht2 : Ti (upd H4 t2 (.tup [.int 1, .int 2, .int (-1), .int (-1)])) t2 [1, 2, -1, -1] := upd_same
      refine ⟨x2, dx2, t2, [1, 2, -1, -1], rfl, upd_same, keep ht2 nx2 ndx2, rfl, sm _ _ _ _ (by decide), fun H5 e10 g10 => ⟨rfl, ?_⟩⟩
      obtain ⟨e11, hx4⟩ := made nx2 ndx2 e10 g10 ht2
      have hz2 := Ex0.fo ((Ex0.new nt2).trans e11) hz
      obtain ⟨d1, t1, m1, m2⟩ := id hz2
      obtain ⟨d2, t3, m3, m4⟩ := id hx4
      refine ⟨z, d1, _, _, rfl, m1, ty_ins T.ty_Form T.cl_Form m3, first_self, z, x2, [1, 2, -1, -1], [1, 2, -1, -1], rfl, hz2, hx4, _, rfl, _, rfl, ?_⟩
      rw [decide_eq_true (show ([1, 2, -1, -1] : List Int) = [1, 2, -1, -1] from rfl)]
      refine iteT ?_
      refine ⟨sl4, fun t5 nt5 x5 dx5 nx5 ndx5 _ => ?_⟩
      have ht5 : Ti (upd H5 t5 (.tup [.int 0, .int 0, .int 0, .int 0])) t5 [0, 0, 0, 0] := upd_same
      refine ⟨x5, dx5, t5, [0, 0, 0, 0], rfl, upd_same, keep ht5 nx5 ndx5, rfl, sm _ _ _ _ (by decide), fun H6 e12 g12 => ⟨rfl, ?_⟩⟩
      obtain ⟨e13, hx6⟩ := made nx5 ndx5 e12 g12 ht5
      obtain ⟨dx6, tx6, hx7, hx8⟩ := id hx6
      have b0 : B 1000 0 := (small 0 (by decide)).2
      refine ⟨x5, dx6, _, rfl, hx7, rfl, x5, [0, 0, 0, 0], 5, rfl, hx6, by show 4 ≤ 1000; decide, (small 5 (by decide)).1, fun n hn => ?_, fun z3 H7 e14 hz3 => ?_⟩
      · simp only [List.mem_cons, List.mem_nil_iff, or_false, or_self] at hn
        rw [hn]
        exact b0
      obtain ⟨dz, tz, hz4, hz5⟩ := id hz3
      have hz3' : FormAt C_Form H7 z3 (([0, 0, 0, 0] : List Int).map fun x => x * 7) := by
        have : (([0, 0, 0, 0] : List Int).map fun x => x * 7) = ([0, 0, 0, 0] : List Int).map fun x => x * 5 := by decide
        rw [this]
        exact hz3
      refine ⟨z3, dz, _, rfl, hz4, rfl, z3, [0, 0, 0, 0], 7, rfl, hz3', by show 4 ≤ 1000; decide, by decide, by decide, fun z6 H8 e15 hz6 => ?_⟩
      refine ⟨sl4, fun t9 nt9 x9 dx9 nx9 ndx9 _ => ?_⟩
      have ht9 : Ti (upd H8 t9 (.tup [.int 0, .int 0, .int 0, .int 0])) t9 [0, 0, 0, 0] := upd_same
      refine ⟨x9, dx9, t9, [0, 0, 0, 0], rfl, upd_same, keep ht9 nx9 ndx9, rfl, sm _ _ _ _ (by decide), fun H9 e16 g16 => ⟨rfl, ?_⟩⟩
      obtain ⟨e17, hx10⟩ := made nx9 ndx9 e16 g16 ht9
      have hz7 := Ex0.fo ((Ex0.new nt9).trans e17) hz6
      obtain ⟨d1, t1, m1, m2⟩ := id hz7
      obtain ⟨d2, t3, m3, m4⟩ := id hx10
      refine ⟨z6, d1, _, _, rfl, m1, ty_ins T.ty_Form T.cl_Form m3, first_self, z6, x9, [0, 0, 0, 0], [0, 0, 0, 0], rfl, hz7, hx10, _, rfl, ?_⟩
      rw [decide_eq_true (show ([0, 0, 0, 0] : List Int) = [0, 0, 0, 0] from rfl)]
      exact q H9
end
theorem all_mk {l : PySem.W.OpenLaw} {w : World} {K : PySem.W.Frag} {h : Heap} {mg : Str → Option Value} {fa C_Form C_Double : Addr} (X : K.In h) (G : h.Ns mainGlobals mg) (hfa : mg "law" = some (.ref fa))
    (aC_Form : PySem.W.nsIn K mainGlobals "Form" = some (some (.ref C_Form))) (pg_Form : PySem.W.plainGet K C_Form Str.empty = true) (hd_Form : PySem.W.hasDictIn K C_Form = true) (po_Form : PySem.W.plainOver K C_Form = true) (sa_Form : PySem.W.findIn K (.ref C_Form) "__setattr__" = some (some (.builtin "object.__setattr__")))
    (ca_Form : PySem.W.findIn K (.ref C_Form) "__class__" = some (some (.builtin "object.__class__"))) (cn_Form : PySem.W.specialIn K (.builtin "object.__class__") "__get__" = some (some (.builtin "getset_descriptor.__get__"))) (ct_Form : PySem.W.takesIn K (.builtin "object.__class__") = some true) (cm_Form : PySem.W.mroIn K C_Form (.type "object") = some true)
    (na_Form_coefficients : PySem.W.findIn K (.ref C_Form) "_coefficients" = some none)
    (aC_Double : PySem.W.nsIn K mainGlobals "Double" = some (some (.ref C_Double))) (pg_Double : PySem.W.plainGet K C_Double Str.empty = true) (hd_Double : PySem.W.hasDictIn K C_Double = true) (po_Double : PySem.W.plainOver K C_Double = true) (sa_Double : PySem.W.findIn K (.ref C_Double) "__setattr__" = some (some (.builtin "object.__setattr__")))
    (ca_Double : PySem.W.findIn K (.ref C_Double) "__class__" = some (some (.builtin "object.__class__"))) (cn_Double : PySem.W.specialIn K (.builtin "object.__class__") "__get__" = some (some (.builtin "getset_descriptor.__get__"))) (ct_Double : PySem.W.takesIn K (.builtin "object.__class__") = some true) (cm_Double : PySem.W.mroIn K C_Double (.type "object") = some true)
    (na_Double_coefficients : PySem.W.findIn K (.ref C_Double) "_coefficients" = some none)
    {f0 : Addr} {od0 an0 : Option Addr} {sl0 : Array (Option Value)} {oc0 kV0 dc0 pm0 cd0 ct0 : Value} (a0 : PySem.W.nsIn K mainGlobals "is_any_integer" = some (some (.ref f0))) (l0 : K.lookup f0 = some ⟨oc0, od0, .func (PySem.W.fnOf "is_any_integer" "is_any_integer" (defArgs s_is_any_integer) (defBody s_is_any_integer) (defScope s_is_any_integer) .none kV0 dc0 pm0 an0 cd0 ct0), sl0⟩) (c0 : PySem.W.codeIn K cd0 "is_any_integer" = true) (k0 : PySem.W.keepIn K (.ref f0) = true)
    {f1 : Addr} {od1 an1 : Option Addr} {sl1 : Array (Option Value)} {oc1 kV1 dc1 pm1 cd1 ct1 : Value} (a1 : PySem.W.nsIn K mainGlobals "is_short_integer" = some (some (.ref f1))) (l1 : K.lookup f1 = some ⟨oc1, od1, .func (PySem.W.fnOf "is_short_integer" "is_short_integer" (defArgs s_is_short_integer) (defBody s_is_short_integer) (defScope s_is_short_integer) .none kV1 dc1 pm1 an1 cd1 ct1), sl1⟩) (c1 : PySem.W.codeIn K cd1 "is_short_integer" = true) (k1 : PySem.W.keepIn K (.ref f1) = true)
    {f2 : Addr} {od2 an2 : Option Addr} {sl2 : Array (Option Value)} {oc2 kV2 dc2 pm2 cd2 ct2 : Value} (a2 : PySem.W.nsIn K mainGlobals "are_any_integers" = some (some (.ref f2))) (l2 : K.lookup f2 = some ⟨oc2, od2, .func (PySem.W.fnOf "are_any_integers" "are_any_integers" (defArgs s_are_any_integers) (defBody s_are_any_integers) (defScope s_are_any_integers) .none kV2 dc2 pm2 an2 cd2 ct2), sl2⟩) (c2 : PySem.W.codeIn K cd2 "are_any_integers" = true) (k2 : PySem.W.keepIn K (.ref f2) = true)
    {f3 : Addr} {od3 an3 : Option Addr} {sl3 : Array (Option Value)} {oc3 kV3 dc3 pm3 cd3 ct3 : Value} (a3 : PySem.W.nsIn K mainGlobals "are_short_integers" = some (some (.ref f3))) (l3 : K.lookup f3 = some ⟨oc3, od3, .func (PySem.W.fnOf "are_short_integers" "are_short_integers" (defArgs s_are_short_integers) (defBody s_are_short_integers) (defScope s_are_short_integers) .none kV3 dc3 pm3 an3 cd3 ct3), sl3⟩) (c3 : PySem.W.codeIn K cd3 "are_short_integers" = true) (k3 : PySem.W.keepIn K (.ref f3) = true)
    {f4 : Addr} {od4 an4 : Option Addr} {sl4 : Array (Option Value)} {oc4 kV4 dc4 pm4 cd4 ct4 : Value} (a4 : PySem.W.nsIn K mainGlobals "check_integer" = some (some (.ref f4))) (l4 : K.lookup f4 = some ⟨oc4, od4, .func (PySem.W.fnOf "check_integer" "check_integer" (defArgs s_check_integer) (defBody s_check_integer) (defScope s_check_integer) .none kV4 dc4 pm4 an4 cd4 ct4), sl4⟩) (c4 : PySem.W.codeIn K cd4 "check_integer" = true) (k4 : PySem.W.keepIn K (.ref f4) = true)
    {f5 : Addr} {od5 an5 : Option Addr} {sl5 : Array (Option Value)} {oc5 kV5 dc5 pm5 cd5 ct5 : Value} (a5 : PySem.W.nsIn K mainGlobals "determinant_of" = some (some (.ref f5))) (l5 : K.lookup f5 = some ⟨oc5, od5, .func (PySem.W.fnOf "determinant_of" "determinant_of" (defArgs s_determinant_of) (defBody s_determinant_of) (defScope s_determinant_of) .none kV5 dc5 pm5 an5 cd5 ct5), sl5⟩) (c5 : PySem.W.codeIn K cd5 "determinant_of" = true) (k5 : PySem.W.keepIn K (.ref f5) = true)
    {f6 : Addr} {od6 an6 : Option Addr} {sl6 : Array (Option Value)} {oc6 kV6 dc6 pm6 cd6 ct6 : Value} (a6 : PySem.W.nsIn K mainGlobals "is_change" = some (some (.ref f6))) (l6 : K.lookup f6 = some ⟨oc6, od6, .func (PySem.W.fnOf "is_change" "is_change" (defArgs s_is_change) (defBody s_is_change) (defScope s_is_change) .none kV6 dc6 pm6 an6 cd6 ct6), sl6⟩) (c6 : PySem.W.codeIn K cd6 "is_change" = true) (k6 : PySem.W.keepIn K (.ref f6) = true)
    {f7 : Addr} {od7 an7 : Option Addr} {sl7 : Array (Option Value)} {oc7 kV7 dc7 pm7 cd7 ct7 : Value} (a7 : PySem.W.nsIn K mainGlobals "is_short_change" = some (some (.ref f7))) (l7 : K.lookup f7 = some ⟨oc7, od7, .func (PySem.W.fnOf "is_short_change" "is_short_change" (defArgs s_is_short_change) (defBody s_is_short_change) (defScope s_is_short_change) .none kV7 dc7 pm7 an7 cd7 ct7), sl7⟩) (c7 : PySem.W.codeIn K cd7 "is_short_change" = true) (k7 : PySem.W.keepIn K (.ref f7) = true)
    {f8 : Addr} {od8 an8 : Option Addr} {sl8 : Array (Option Value)} {oc8 kV8 dc8 pm8 cd8 ct8 : Value} (a8 : PySem.W.nsIn K mainGlobals "check_change" = some (some (.ref f8))) (l8 : K.lookup f8 = some ⟨oc8, od8, .func (PySem.W.fnOf "check_change" "check_change" (defArgs s_check_change) (defBody s_check_change) (defScope s_check_change) .none kV8 dc8 pm8 an8 cd8 ct8), sl8⟩) (c8 : PySem.W.codeIn K cd8 "check_change" = true) (k8 : PySem.W.keepIn K (.ref f8) = true)
    {f9 : Addr} {od9 an9 : Option Addr} {sl9 : Array (Option Value)} {oc9 kV9 dc9 pm9 cd9 ct9 : Value} (a9 : PySem.W.nsIn K mainGlobals "both" = some (some (.ref f9))) (l9 : K.lookup f9 = some ⟨oc9, od9, .func (PySem.W.fnOf "both" "both" (defArgs s_both) (defBody s_both) (defScope s_both) .none kV9 dc9 pm9 an9 cd9 ct9), sl9⟩) (c9 : PySem.W.codeIn K cd9 "both" = true) (k9 : PySem.W.keepIn K (.ref f9) = true)
    {f10 : Addr} {od10 an10 : Option Addr} {sl10 : Array (Option Value)} {oc10 kV10 dc10 pm10 cd10 ct10 : Value} (a10 : PySem.W.nsIn K mainGlobals "taken_back" = some (some (.ref f10))) (l10 : K.lookup f10 = some ⟨oc10, od10, .func (PySem.W.fnOf "taken_back" "taken_back" (defArgs s_taken_back) (defBody s_taken_back) (defScope s_taken_back) .none kV10 dc10 pm10 an10 cd10 ct10), sl10⟩) (c10 : PySem.W.codeIn K cd10 "taken_back" = true) (k10 : PySem.W.keepIn K (.ref f10) = true)
    {f11 : Addr} {od11 an11 : Option Addr} {sl11 : Array (Option Value)} {oc11 kV11 dc11 pm11 cd11 ct11 : Value} (a11 : PySem.W.nsIn K mainGlobals "joined" = some (some (.ref f11))) (l11 : K.lookup f11 = some ⟨oc11, od11, .func (PySem.W.fnOf "joined" "joined" (defArgs s_joined) (defBody s_joined) (defScope s_joined) .none kV11 dc11 pm11 an11 cd11 ct11), sl11⟩) (c11 : PySem.W.codeIn K cd11 "joined" = true) (k11 : PySem.W.keepIn K (.ref f11) = true)
    {f12 : Addr} {od12 an12 : Option Addr} {sl12 : Array (Option Value)} {oc12 kV12 dc12 pm12 cd12 ct12 : Value} (a12 : PySem.W.nsIn K mainGlobals "undone" = some (some (.ref f12))) (l12 : K.lookup f12 = some ⟨oc12, od12, .func (PySem.W.fnOf "undone" "undone" (defArgs s_undone) (defBody s_undone) (defScope s_undone) .none kV12 dc12 pm12 an12 cd12 ct12), sl12⟩) (c12 : PySem.W.codeIn K cd12 "undone" = true) (k12 : PySem.W.keepIn K (.ref f12) = true)
    {f13 : Addr} {od13 an13 : Option Addr} {sl13 : Array (Option Value)} {oc13 kV13 dc13 pm13 cd13 ct13 : Value} (a13 : PySem.W.nsIn K mainGlobals "shared_divisor" = some (some (.ref f13))) (l13 : K.lookup f13 = some ⟨oc13, od13, .func (PySem.W.fnOf "shared_divisor" "shared_divisor" (defArgs s_shared_divisor) (defBody s_shared_divisor) (defScope s_shared_divisor) .none kV13 dc13 pm13 an13 cd13 ct13), sl13⟩) (c13 : PySem.W.codeIn K cd13 "shared_divisor" = true) (k13 : PySem.W.keepIn K (.ref f13) = true)
    {f14 : Addr} {od14 an14 : Option Addr} {sl14 : Array (Option Value)} {oc14 kV14 dc14 pm14 cd14 ct14 : Value} (a14 : PySem.W.nsIn K mainGlobals "double_discriminant" = some (some (.ref f14))) (l14 : K.lookup f14 = some ⟨oc14, od14, .func (PySem.W.fnOf "double_discriminant" "double_discriminant" (defArgs s_double_discriminant) (defBody s_double_discriminant) (defScope s_double_discriminant) .none kV14 dc14 pm14 an14 cd14 ct14), sl14⟩) (c14 : PySem.W.codeIn K cd14 "double_discriminant" = true) (k14 : PySem.W.keepIn K (.ref f14) = true)
    {f15 : Addr} {od15 an15 : Option Addr} {sl15 : Array (Option Value)} {oc15 kV15 dc15 pm15 cd15 ct15 : Value} (a15 : PySem.W.nsIn K mainGlobals "double_of" = some (some (.ref f15))) (l15 : K.lookup f15 = some ⟨oc15, od15, .func (PySem.W.fnOf "double_of" "double_of" (defArgs s_double_of) (defBody s_double_of) (defScope s_double_of) .none kV15 dc15 pm15 an15 cd15 ct15), sl15⟩) (c15 : PySem.W.codeIn K cd15 "double_of" = true) (k15 : PySem.W.keepIn K (.ref f15) = true)
    {f16 : Addr} {od16 an16 : Option Addr} {sl16 : Array (Option Value)} {oc16 kV16 dc16 pm16 cd16 ct16 : Value} (a16 : PySem.W.findIn K (.ref C_Double) "__init__" = some (some (.ref f16))) (i16 : PySem.W.isFn K (.ref f16) = true) (mk16 : PySem.W.makesIn K C_Double = true) (kc16 : PySem.W.keepIn K (.ref C_Double) = true) (l16 : K.lookup f16 = some ⟨oc16, od16, .func (PySem.W.fnOf "__init__" "Double.__init__" (defArgs s_Double___init__) (defBody s_Double___init__) (defScope s_Double___init__) .none kV16 dc16 pm16 an16 cd16 ct16), sl16⟩) (c16 : PySem.W.codeIn K cd16 "Double.__init__" = true) (k16 : PySem.W.keepIn K (.ref f16) = true)
    {f17 : Addr} {od17 an17 : Option Addr} {sl17 : Array (Option Value)} {oc17 kV17 dc17 pm17 cd17 ct17 : Value} {p17 : Addr} {rs17 : List Value} (a17 : PySem.W.findIn K (.ref C_Double) "coefficients" = some (some (.ref p17))) (b17 : PySem.W.specialIn K (.ref p17) "__get__" = some (some (.builtin "property.__get__"))) (t17 : PySem.W.takesIn K (.ref p17) = some true) (r17 : PySem.W.recIn K p17 "property" = some (.ref f17 :: rs17)) (l17 : K.lookup f17 = some ⟨oc17, od17, .func (PySem.W.fnOf "coefficients" "Double.coefficients" (defArgs s_Double_coefficients) (defBody s_Double_coefficients) (defScope s_Double_coefficients) .none kV17 dc17 pm17 an17 cd17 ct17), sl17⟩) (c17 : PySem.W.codeIn K cd17 "Double.coefficients" = true) (k17 : PySem.W.keepIn K (.ref f17) = true)
    {f18 : Addr} {od18 an18 : Option Addr} {sl18 : Array (Option Value)} {oc18 kV18 dc18 pm18 cd18 ct18 : Value} {p18 : Addr} {rs18 : List Value} (a18 : PySem.W.findIn K (.ref C_Double) "discriminant" = some (some (.ref p18))) (b18 : PySem.W.specialIn K (.ref p18) "__get__" = some (some (.builtin "property.__get__"))) (t18 : PySem.W.takesIn K (.ref p18) = some true) (r18 : PySem.W.recIn K p18 "property" = some (.ref f18 :: rs18)) (l18 : K.lookup f18 = some ⟨oc18, od18, .func (PySem.W.fnOf "discriminant" "Double.discriminant" (defArgs s_Double_discriminant) (defBody s_Double_discriminant) (defScope s_Double_discriminant) .none kV18 dc18 pm18 an18 cd18 ct18), sl18⟩) (c18 : PySem.W.codeIn K cd18 "Double.discriminant" = true) (k18 : PySem.W.keepIn K (.ref f18) = true)
    {f19 : Addr} {od19 an19 : Option Addr} {sl19 : Array (Option Value)} {oc19 kV19 dc19 pm19 cd19 ct19 : Value} {p19 : Addr} {rs19 : List Value} (a19 : PySem.W.findIn K (.ref C_Double) "content" = some (some (.ref p19))) (b19 : PySem.W.specialIn K (.ref p19) "__get__" = some (some (.builtin "property.__get__"))) (t19 : PySem.W.takesIn K (.ref p19) = some true) (r19 : PySem.W.recIn K p19 "property" = some (.ref f19 :: rs19)) (l19 : K.lookup f19 = some ⟨oc19, od19, .func (PySem.W.fnOf "content" "Double.content" (defArgs s_Double_content) (defBody s_Double_content) (defScope s_Double_content) .none kV19 dc19 pm19 an19 cd19 ct19), sl19⟩) (c19 : PySem.W.codeIn K cd19 "Double.content" = true) (k19 : PySem.W.keepIn K (.ref f19) = true)
    {f20 : Addr} {od20 an20 : Option Addr} {sl20 : Array (Option Value)} {oc20 kV20 dc20 pm20 cd20 ct20 : Value} (a20 : PySem.W.nsIn K mainGlobals "form_value" = some (some (.ref f20))) (l20 : K.lookup f20 = some ⟨oc20, od20, .func (PySem.W.fnOf "form_value" "form_value" (defArgs s_form_value) (defBody s_form_value) (defScope s_form_value) .none kV20 dc20 pm20 an20 cd20 ct20), sl20⟩) (c20 : PySem.W.codeIn K cd20 "form_value" = true) (k20 : PySem.W.keepIn K (.ref f20) = true)
    {f21 : Addr} {od21 an21 : Option Addr} {sl21 : Array (Option Value)} {oc21 kV21 dc21 pm21 cd21 ct21 : Value} (a21 : PySem.W.nsIn K mainGlobals "form_discriminant" = some (some (.ref f21))) (l21 : K.lookup f21 = some ⟨oc21, od21, .func (PySem.W.fnOf "form_discriminant" "form_discriminant" (defArgs s_form_discriminant) (defBody s_form_discriminant) (defScope s_form_discriminant) .none kV21 dc21 pm21 an21 cd21 ct21), sl21⟩) (c21 : PySem.W.codeIn K cd21 "form_discriminant" = true) (k21 : PySem.W.keepIn K (.ref f21) = true)
    {f22 : Addr} {od22 an22 : Option Addr} {sl22 : Array (Option Value)} {oc22 kV22 dc22 pm22 cd22 ct22 : Value} (a22 : PySem.W.nsIn K mainGlobals "form_hessian" = some (some (.ref f22))) (l22 : K.lookup f22 = some ⟨oc22, od22, .func (PySem.W.fnOf "form_hessian" "form_hessian" (defArgs s_form_hessian) (defBody s_form_hessian) (defScope s_form_hessian) .none kV22 dc22 pm22 an22 cd22 ct22), sl22⟩) (c22 : PySem.W.codeIn K cd22 "form_hessian" = true) (k22 : PySem.W.keepIn K (.ref f22) = true)
    {f23 : Addr} {od23 an23 : Option Addr} {sl23 : Array (Option Value)} {oc23 kV23 dc23 pm23 cd23 ct23 : Value} (a23 : PySem.W.nsIn K mainGlobals "form_covariant" = some (some (.ref f23))) (l23 : K.lookup f23 = some ⟨oc23, od23, .func (PySem.W.fnOf "form_covariant" "form_covariant" (defArgs s_form_covariant) (defBody s_form_covariant) (defScope s_form_covariant) .none kV23 dc23 pm23 an23 cd23 ct23), sl23⟩) (c23 : PySem.W.codeIn K cd23 "form_covariant" = true) (k23 : PySem.W.keepIn K (.ref f23) = true)
    {f24 : Addr} {od24 an24 : Option Addr} {sl24 : Array (Option Value)} {oc24 kV24 dc24 pm24 cd24 ct24 : Value} (a24 : PySem.W.nsIn K mainGlobals "form_led" = some (some (.ref f24))) (l24 : K.lookup f24 = some ⟨oc24, od24, .func (PySem.W.fnOf "form_led" "form_led" (defArgs s_form_led) (defBody s_form_led) (defScope s_form_led) .none kV24 dc24 pm24 an24 cd24 ct24), sl24⟩) (c24 : PySem.W.codeIn K cd24 "form_led" = true) (k24 : PySem.W.keepIn K (.ref f24) = true)
    {f25 : Addr} {od25 an25 : Option Addr} {sl25 : Array (Option Value)} {oc25 kV25 dc25 pm25 cd25 ct25 : Value} (a25 : PySem.W.nsIn K mainGlobals "form_of" = some (some (.ref f25))) (l25 : K.lookup f25 = some ⟨oc25, od25, .func (PySem.W.fnOf "form_of" "form_of" (defArgs s_form_of) (defBody s_form_of) (defScope s_form_of) .none kV25 dc25 pm25 an25 cd25 ct25), sl25⟩) (c25 : PySem.W.codeIn K cd25 "form_of" = true) (k25 : PySem.W.keepIn K (.ref f25) = true)
    {f26 : Addr} {od26 an26 : Option Addr} {sl26 : Array (Option Value)} {oc26 kV26 dc26 pm26 cd26 ct26 : Value} (a26 : PySem.W.findIn K (.ref C_Form) "__init__" = some (some (.ref f26))) (i26 : PySem.W.isFn K (.ref f26) = true) (mk26 : PySem.W.makesIn K C_Form = true) (kc26 : PySem.W.keepIn K (.ref C_Form) = true) (l26 : K.lookup f26 = some ⟨oc26, od26, .func (PySem.W.fnOf "__init__" "Form.__init__" (defArgs s_Form___init__) (defBody s_Form___init__) (defScope s_Form___init__) .none kV26 dc26 pm26 an26 cd26 ct26), sl26⟩) (c26 : PySem.W.codeIn K cd26 "Form.__init__" = true) (k26 : PySem.W.keepIn K (.ref f26) = true)
    {f27 : Addr} {od27 an27 : Option Addr} {sl27 : Array (Option Value)} {oc27 kV27 dc27 pm27 cd27 ct27 : Value} {p27 : Addr} {rs27 : List Value} (a27 : PySem.W.findIn K (.ref C_Form) "coefficients" = some (some (.ref p27))) (b27 : PySem.W.specialIn K (.ref p27) "__get__" = some (some (.builtin "property.__get__"))) (t27 : PySem.W.takesIn K (.ref p27) = some true) (r27 : PySem.W.recIn K p27 "property" = some (.ref f27 :: rs27)) (l27 : K.lookup f27 = some ⟨oc27, od27, .func (PySem.W.fnOf "coefficients" "Form.coefficients" (defArgs s_Form_coefficients) (defBody s_Form_coefficients) (defScope s_Form_coefficients) .none kV27 dc27 pm27 an27 cd27 ct27), sl27⟩) (c27 : PySem.W.codeIn K cd27 "Form.coefficients" = true) (k27 : PySem.W.keepIn K (.ref f27) = true)
    {f28 : Addr} {od28 an28 : Option Addr} {sl28 : Array (Option Value)} {oc28 kV28 dc28 pm28 cd28 ct28 : Value} {p28 : Addr} {rs28 : List Value} (a28 : PySem.W.findIn K (.ref C_Form) "discriminant" = some (some (.ref p28))) (b28 : PySem.W.specialIn K (.ref p28) "__get__" = some (some (.builtin "property.__get__"))) (t28 : PySem.W.takesIn K (.ref p28) = some true) (r28 : PySem.W.recIn K p28 "property" = some (.ref f28 :: rs28)) (l28 : K.lookup f28 = some ⟨oc28, od28, .func (PySem.W.fnOf "discriminant" "Form.discriminant" (defArgs s_Form_discriminant) (defBody s_Form_discriminant) (defScope s_Form_discriminant) .none kV28 dc28 pm28 an28 cd28 ct28), sl28⟩) (c28 : PySem.W.codeIn K cd28 "Form.discriminant" = true) (k28 : PySem.W.keepIn K (.ref f28) = true)
    {f29 : Addr} {od29 an29 : Option Addr} {sl29 : Array (Option Value)} {oc29 kV29 dc29 pm29 cd29 ct29 : Value} {p29 : Addr} {rs29 : List Value} (a29 : PySem.W.findIn K (.ref C_Form) "content" = some (some (.ref p29))) (b29 : PySem.W.specialIn K (.ref p29) "__get__" = some (some (.builtin "property.__get__"))) (t29 : PySem.W.takesIn K (.ref p29) = some true) (r29 : PySem.W.recIn K p29 "property" = some (.ref f29 :: rs29)) (l29 : K.lookup f29 = some ⟨oc29, od29, .func (PySem.W.fnOf "content" "Form.content" (defArgs s_Form_content) (defBody s_Form_content) (defScope s_Form_content) .none kV29 dc29 pm29 an29 cd29 ct29), sl29⟩) (c29 : PySem.W.codeIn K cd29 "Form.content" = true) (k29 : PySem.W.keepIn K (.ref f29) = true)
    {f30 : Addr} {od30 an30 : Option Addr} {sl30 : Array (Option Value)} {oc30 kV30 dc30 pm30 cd30 ct30 : Value} {p30 : Addr} {rs30 : List Value} (a30 : PySem.W.findIn K (.ref C_Form) "hessian" = some (some (.ref p30))) (b30 : PySem.W.specialIn K (.ref p30) "__get__" = some (some (.builtin "property.__get__"))) (t30 : PySem.W.takesIn K (.ref p30) = some true) (r30 : PySem.W.recIn K p30 "property" = some (.ref f30 :: rs30)) (l30 : K.lookup f30 = some ⟨oc30, od30, .func (PySem.W.fnOf "hessian" "Form.hessian" (defArgs s_Form_hessian) (defBody s_Form_hessian) (defScope s_Form_hessian) .none kV30 dc30 pm30 an30 cd30 ct30), sl30⟩) (c30 : PySem.W.codeIn K cd30 "Form.hessian" = true) (k30 : PySem.W.keepIn K (.ref f30) = true)
    {f31 : Addr} {od31 an31 : Option Addr} {sl31 : Array (Option Value)} {oc31 kV31 dc31 pm31 cd31 ct31 : Value} {p31 : Addr} {rs31 : List Value} (a31 : PySem.W.findIn K (.ref C_Form) "covariant" = some (some (.ref p31))) (b31 : PySem.W.specialIn K (.ref p31) "__get__" = some (some (.builtin "property.__get__"))) (t31 : PySem.W.takesIn K (.ref p31) = some true) (r31 : PySem.W.recIn K p31 "property" = some (.ref f31 :: rs31)) (l31 : K.lookup f31 = some ⟨oc31, od31, .func (PySem.W.fnOf "covariant" "Form.covariant" (defArgs s_Form_covariant) (defBody s_Form_covariant) (defScope s_Form_covariant) .none kV31 dc31 pm31 an31 cd31 ct31), sl31⟩) (c31 : PySem.W.codeIn K cd31 "Form.covariant" = true) (k31 : PySem.W.keepIn K (.ref f31) = true)
    {f32 : Addr} {od32 an32 : Option Addr} {sl32 : Array (Option Value)} {oc32 kV32 dc32 pm32 cd32 ct32 : Value} (a32 : PySem.W.findIn K (.ref C_Form) "__call__" = some (some (.ref f32))) (i32 : PySem.W.isFn K (.ref f32) = true) (fi32 : PySem.W.fnIn K f32 = true) (l32 : K.lookup f32 = some ⟨oc32, od32, .func (PySem.W.fnOf "__call__" "Form.__call__" (defArgs s_Form___call__) (defBody s_Form___call__) (defScope s_Form___call__) .none kV32 dc32 pm32 an32 cd32 ct32), sl32⟩) (c32 : PySem.W.codeIn K cd32 "Form.__call__" = true) (k32 : PySem.W.keepIn K (.ref f32) = true)
    {f33 : Addr} {od33 an33 : Option Addr} {sl33 : Array (Option Value)} {oc33 kV33 dc33 pm33 cd33 ct33 : Value} (a33 : PySem.W.findIn K (.ref C_Form) "led" = some (some (.ref f33))) (i33 : PySem.W.isFn K (.ref f33) = true) (l33 : K.lookup f33 = some ⟨oc33, od33, .func (PySem.W.fnOf "led" "Form.led" (defArgs s_Form_led) (defBody s_Form_led) (defScope s_Form_led) .none kV33 dc33 pm33 an33 cd33 ct33), sl33⟩) (c33 : PySem.W.codeIn K cd33 "Form.led" = true) (k33 : PySem.W.keepIn K (.ref f33) = true)
    {f34 : Addr} {od34 an34 : Option Addr} {sl34 : Array (Option Value)} {oc34 kV34 dc34 pm34 cd34 ct34 : Value} (a34 : PySem.W.findIn K (.ref C_Form) "times" = some (some (.ref f34))) (i34 : PySem.W.isFn K (.ref f34) = true) (l34 : K.lookup f34 = some ⟨oc34, od34, .func (PySem.W.fnOf "times" "Form.times" (defArgs s_Form_times) (defBody s_Form_times) (defScope s_Form_times) .none kV34 dc34 pm34 an34 cd34 ct34), sl34⟩) (c34 : PySem.W.codeIn K cd34 "Form.times" = true) (k34 : PySem.W.keepIn K (.ref f34) = true)
    {f35 : Addr} {od35 an35 : Option Addr} {sl35 : Array (Option Value)} {oc35 kV35 dc35 pm35 cd35 ct35 : Value} (a35 : PySem.W.findIn K (.ref C_Form) "divided" = some (some (.ref f35))) (i35 : PySem.W.isFn K (.ref f35) = true) (l35 : K.lookup f35 = some ⟨oc35, od35, .func (PySem.W.fnOf "divided" "Form.divided" (defArgs s_Form_divided) (defBody s_Form_divided) (defScope s_Form_divided) .none kV35 dc35 pm35 an35 cd35 ct35), sl35⟩) (c35 : PySem.W.codeIn K cd35 "Form.divided" = true) (k35 : PySem.W.keepIn K (.ref f35) = true)
    {f36 : Addr} {od36 an36 : Option Addr} {sl36 : Array (Option Value)} {oc36 kV36 dc36 pm36 cd36 ct36 : Value} (a36 : PySem.W.findIn K (.ref C_Form) "__neg__" = some (some (.ref f36))) (i36 : PySem.W.isFn K (.ref f36) = true) (l36 : K.lookup f36 = some ⟨oc36, od36, .func (PySem.W.fnOf "__neg__" "Form.__neg__" (defArgs s_Form___neg__) (defBody s_Form___neg__) (defScope s_Form___neg__) .none kV36 dc36 pm36 an36 cd36 ct36), sl36⟩) (c36 : PySem.W.codeIn K cd36 "Form.__neg__" = true) (k36 : PySem.W.keepIn K (.ref f36) = true)
    {f37 : Addr} {od37 an37 : Option Addr} {sl37 : Array (Option Value)} {oc37 kV37 dc37 pm37 cd37 ct37 : Value} (a37 : PySem.W.findIn K (.ref C_Form) "__eq__" = some (some (.ref f37))) (i37 : PySem.W.isFn K (.ref f37) = true) (ne37 : PySem.W.findIn K (.ref C_Form) "__ne__" = some (some (.builtin "object.__ne__"))) (mo37 : PySem.W.mroIn K C_Form (.type "object") = some true) (l37 : K.lookup f37 = some ⟨oc37, od37, .func (PySem.W.fnOf "__eq__" "Form.__eq__" (defArgs s_Form___eq__) (defBody s_Form___eq__) (defScope s_Form___eq__) .none kV37 dc37 pm37 an37 cd37 ct37), sl37⟩) (c37 : PySem.W.codeIn K cd37 "Form.__eq__" = true) (k37 : PySem.W.keepIn K (.ref f37) = true)
    {f38 : Addr} {od38 an38 : Option Addr} {sl38 : Array (Option Value)} {oc38 kV38 dc38 pm38 cd38 ct38 : Value} (a38 : PySem.W.nsIn K mainGlobals "_law_cask" = some (some (.ref f38))) (l38 : K.lookup f38 = some ⟨oc38, od38, .func (PySem.W.fnOf "_law_cask" "_law_cask" (defArgs s_l_cask) (defBody s_l_cask) (defScope s_l_cask) .none kV38 dc38 pm38 an38 cd38 ct38), sl38⟩) (c38 : PySem.W.codeIn K cd38 "_law_cask" = true) (k38 : PySem.W.keepIn K (.ref f38) = true)
    {f39 : Addr} {od39 an39 : Option Addr} {sl39 : Array (Option Value)} {oc39 kV39 dc39 pm39 cd39 ct39 : Value} (a39 : PySem.W.nsIn K mainGlobals "_law_tap" = some (some (.ref f39))) (l39 : K.lookup f39 = some ⟨oc39, od39, .func (PySem.W.fnOf "_law_tap" "_law_tap" (defArgs s_l_tap) (defBody s_l_tap) (defScope s_l_tap) .none kV39 dc39 pm39 an39 cd39 ct39), sl39⟩) (c39 : PySem.W.codeIn K cd39 "_law_tap" = true) (k39 : PySem.W.keepIn K (.ref f39) = true)
    {f40 : Addr} {od40 an40 : Option Addr} {sl40 : Array (Option Value)} {oc40 kV40 dc40 pm40 cd40 ct40 : Value} (a40 : PySem.W.nsIn K mainGlobals "_law_one" = some (some (.ref f40))) (l40 : K.lookup f40 = some ⟨oc40, od40, .func (PySem.W.fnOf "_law_one" "_law_one" (defArgs s_l_one) (defBody s_l_one) (defScope s_l_one) .none kV40 dc40 pm40 an40 cd40 ct40), sl40⟩) (c40 : PySem.W.codeIn K cd40 "_law_one" = true) (k40 : PySem.W.keepIn K (.ref f40) = true)
    {f41 : Addr} {od41 an41 : Option Addr} {sl41 : Array (Option Value)} {oc41 kV41 dc41 pm41 cd41 ct41 : Value} (a41 : PySem.W.nsIn K mainGlobals "_law_number" = some (some (.ref f41))) (l41 : K.lookup f41 = some ⟨oc41, od41, .func (PySem.W.fnOf "_law_number" "_law_number" (defArgs s_l_number) (defBody s_l_number) (defScope s_l_number) .none kV41 dc41 pm41 an41 cd41 ct41), sl41⟩) (c41 : PySem.W.codeIn K cd41 "_law_number" = true) (k41 : PySem.W.keepIn K (.ref f41) = true)
    {f42 : Addr} {od42 an42 : Option Addr} {sl42 : Array (Option Value)} {oc42 kV42 dc42 pm42 cd42 ct42 : Value} (a42 : PySem.W.nsIn K mainGlobals "_law_numbers" = some (some (.ref f42))) (l42 : K.lookup f42 = some ⟨oc42, od42, .func (PySem.W.fnOf "_law_numbers" "_law_numbers" (defArgs s_l_numbers) (defBody s_l_numbers) (defScope s_l_numbers) .none kV42 dc42 pm42 an42 cd42 ct42), sl42⟩) (c42 : PySem.W.codeIn K cd42 "_law_numbers" = true) (k42 : PySem.W.keepIn K (.ref f42) = true)
    {f43 : Addr} {od43 an43 : Option Addr} {sl43 : Array (Option Value)} {oc43 kV43 dc43 pm43 cd43 ct43 : Value} (a43 : PySem.W.nsIn K mainGlobals "_law_then" = some (some (.ref f43))) (l43 : K.lookup f43 = some ⟨oc43, od43, .func (PySem.W.fnOf "_law_then" "_law_then" (defArgs s_l_then) (defBody s_l_then) (defScope s_l_then) .none kV43 dc43 pm43 an43 cd43 ct43), sl43⟩) (c43 : PySem.W.codeIn K cd43 "_law_then" = true) (k43 : PySem.W.keepIn K (.ref f43) = true)
    {f44 : Addr} {od44 an44 : Option Addr} {sl44 : Array (Option Value)} {oc44 kV44 dc44 pm44 cd44 ct44 : Value} (a44 : PySem.W.nsIn K mainGlobals "_law_change" = some (some (.ref f44))) (l44 : K.lookup f44 = some ⟨oc44, od44, .func (PySem.W.fnOf "_law_change" "_law_change" (defArgs s_l_change) (defBody s_l_change) (defScope s_l_change) .none kV44 dc44 pm44 an44 cd44 ct44), sl44⟩) (c44 : PySem.W.codeIn K cd44 "_law_change" = true) (k44 : PySem.W.keepIn K (.ref f44) = true)
    {f45 : Addr} {od45 an45 : Option Addr} {sl45 : Array (Option Value)} {oc45 kV45 dc45 pm45 cd45 ct45 : Value} (a45 : PySem.W.nsIn K mainGlobals "_law_sense" = some (some (.ref f45))) (l45 : K.lookup f45 = some ⟨oc45, od45, .func (PySem.W.fnOf "_law_sense" "_law_sense" (defArgs s_l_sense) (defBody s_l_sense) (defScope s_l_sense) .none kV45 dc45 pm45 an45 cd45 ct45), sl45⟩) (c45 : PySem.W.codeIn K cd45 "_law_sense" = true) (k45 : PySem.W.keepIn K (.ref f45) = true)
    {f46 : Addr} {od46 an46 : Option Addr} {sl46 : Array (Option Value)} {oc46 kV46 dc46 pm46 cd46 ct46 : Value} (a46 : PySem.W.nsIn K mainGlobals "_law_common" = some (some (.ref f46))) (l46 : K.lookup f46 = some ⟨oc46, od46, .func (PySem.W.fnOf "_law_common" "_law_common" (defArgs s_l_common) (defBody s_l_common) (defScope s_l_common) .none kV46 dc46 pm46 an46 cd46 ct46), sl46⟩) (c46 : PySem.W.codeIn K cd46 "_law_common" = true) (k46 : PySem.W.keepIn K (.ref f46) = true)
    {f47 : Addr} {od47 an47 : Option Addr} {sl47 : Array (Option Value)} {oc47 kV47 dc47 pm47 cd47 ct47 : Value} (a47 : PySem.W.nsIn K mainGlobals "_law_many" = some (some (.ref f47))) (l47 : K.lookup f47 = some ⟨oc47, od47, .func (PySem.W.fnOf "_law_many" "_law_many" (defArgs s_l_many) (defBody s_l_many) (defScope s_l_many) .none kV47 dc47 pm47 an47 cd47 ct47), sl47⟩) (c47 : PySem.W.codeIn K cd47 "_law_many" = true) (k47 : PySem.W.keepIn K (.ref f47) = true)
    {f48 : Addr} {od48 an48 : Option Addr} {sl48 : Array (Option Value)} {oc48 kV48 dc48 pm48 cd48 ct48 : Value} (a48 : PySem.W.nsIn K mainGlobals "_law_lowest" = some (some (.ref f48))) (l48 : K.lookup f48 = some ⟨oc48, od48, .func (PySem.W.fnOf "_law_lowest" "_law_lowest" (defArgs s_l_lowest) (defBody s_l_lowest) (defScope s_l_lowest) .none kV48 dc48 pm48 an48 cd48 ct48), sl48⟩) (c48 : PySem.W.codeIn K cd48 "_law_lowest" = true) (k48 : PySem.W.keepIn K (.ref f48) = true)
    {f49 : Addr} {od49 an49 : Option Addr} {sl49 : Array (Option Value)} {oc49 kV49 dc49 pm49 cd49 ct49 : Value} (a49 : PySem.W.nsIn K mainGlobals "_law_entry" = some (some (.ref f49))) (l49 : K.lookup f49 = some ⟨oc49, od49, .func (PySem.W.fnOf "_law_entry" "_law_entry" (defArgs s_l_entry) (defBody s_l_entry) (defScope s_l_entry) .none kV49 dc49 pm49 an49 cd49 ct49), sl49⟩) (c49 : PySem.W.codeIn K cd49 "_law_entry" = true) (k49 : PySem.W.keepIn K (.ref f49) = true)
    {f50 : Addr} {od50 an50 : Option Addr} {sl50 : Array (Option Value)} {oc50 kV50 dc50 pm50 cd50 ct50 : Value} (a50 : PySem.W.nsIn K mainGlobals "_law_place" = some (some (.ref f50))) (l50 : K.lookup f50 = some ⟨oc50, od50, .func (PySem.W.fnOf "_law_place" "_law_place" (defArgs s_l_place) (defBody s_l_place) (defScope s_l_place) .none kV50 dc50 pm50 an50 cd50 ct50), sl50⟩) (c50 : PySem.W.codeIn K cd50 "_law_place" = true) (k50 : PySem.W.keepIn K (.ref f50) = true)
    {f51 : Addr} {od51 an51 : Option Addr} {sl51 : Array (Option Value)} {oc51 kV51 dc51 pm51 cd51 ct51 : Value} (a51 : PySem.W.nsIn K mainGlobals "_law_row_right" = some (some (.ref f51))) (l51 : K.lookup f51 = some ⟨oc51, od51, .func (PySem.W.fnOf "_law_row_right" "_law_row_right" (defArgs s_l_row_right) (defBody s_l_row_right) (defScope s_l_row_right) .none kV51 dc51 pm51 an51 cd51 ct51), sl51⟩) (c51 : PySem.W.codeIn K cd51 "_law_row_right" = true) (k51 : PySem.W.keepIn K (.ref f51) = true)
    {f52 : Addr} {od52 an52 : Option Addr} {sl52 : Array (Option Value)} {oc52 kV52 dc52 pm52 cd52 ct52 : Value} (a52 : PySem.W.nsIn K mainGlobals "_law_multiple_right" = some (some (.ref f52))) (l52 : K.lookup f52 = some ⟨oc52, od52, .func (PySem.W.fnOf "_law_multiple_right" "_law_multiple_right" (defArgs s_l_multiple_right) (defBody s_l_multiple_right) (defScope s_l_multiple_right) .none kV52 dc52 pm52 an52 cd52 ct52), sl52⟩) (c52 : PySem.W.codeIn K cd52 "_law_multiple_right" = true) (k52 : PySem.W.keepIn K (.ref f52) = true)
    {f53 : Addr} {od53 an53 : Option Addr} {sl53 : Array (Option Value)} {oc53 kV53 dc53 pm53 cd53 ct53 : Value} (a53 : PySem.W.nsIn K mainGlobals "_law_partner" = some (some (.ref f53))) (l53 : K.lookup f53 = some ⟨oc53, od53, .func (PySem.W.fnOf "_law_partner" "_law_partner" (defArgs s_l_partner) (defBody s_l_partner) (defScope s_l_partner) .none kV53 dc53 pm53 an53 cd53 ct53), sl53⟩) (c53 : PySem.W.codeIn K cd53 "_law_partner" = true) (k53 : PySem.W.keepIn K (.ref f53) = true)
    {f54 : Addr} {od54 an54 : Option Addr} {sl54 : Array (Option Value)} {oc54 kV54 dc54 pm54 cd54 ct54 : Value} (a54 : PySem.W.nsIn K mainGlobals "_law_right" = some (some (.ref f54))) (l54 : K.lookup f54 = some ⟨oc54, od54, .func (PySem.W.fnOf "_law_right" "_law_right" (defArgs s_l_right) (defBody s_l_right) (defScope s_l_right) .none kV54 dc54 pm54 an54 cd54 ct54), sl54⟩) (c54 : PySem.W.codeIn K cd54 "_law_right" = true) (k54 : PySem.W.keepIn K (.ref f54) = true)
    {f55 : Addr} {od55 an55 : Option Addr} {sl55 : Array (Option Value)} {oc55 kV55 dc55 pm55 cd55 ct55 : Value} (a55 : PySem.W.nsIn K mainGlobals "law" = some (some (.ref f55))) (l55 : K.lookup f55 = some ⟨oc55, od55, .func (PySem.W.fnOf "law" "law" (defArgs s_law) (defBody s_law) (defScope s_law) .none kV55 dc55 pm55 an55 cd55 ct55), sl55⟩) (c55 : PySem.W.codeIn K cd55 "law" = true) (k55 : PySem.W.keepIn K (.ref f55) = true)
    (z_abs : PySem.W.nsIn K mainGlobals "abs" = some none)
    (z_all : PySem.W.nsIn K mainGlobals "all" = some none)
    (z_bool : PySem.W.nsIn K mainGlobals "bool" = some none)
    (z_int : PySem.W.nsIn K mainGlobals "int" = some none)
    (z_isinstance : PySem.W.nsIn K mainGlobals "isinstance" = some none)
    (z_len : PySem.W.nsIn K mainGlobals "len" = some none)
    (z_max : PySem.W.nsIn K mainGlobals "max" = some none)
    (z_min : PySem.W.nsIn K mainGlobals "min" = some none)
    (z_range : PySem.W.nsIn K mainGlobals "range" = some none)
    (z_sum : PySem.W.nsIn K mainGlobals "sum" = some none)
    (z_tuple : PySem.W.nsIn K mainGlobals "tuple" = some none)
    {tk_LIMIT : Tok} (q_LIMIT : PySem.W.nsIn K mainGlobals "LIMIT" = some (some (.int (1000000000000000000000000000000000000000000000000000000000000) tk_LIMIT)))
    (m_gcd : PySem.W.nsIn K mainGlobals "gcd" = some (some (.builtin "math.gcd")))
    {A0_IDLE A1_IDLE A2_IDLE : Addr} {od0_IDLE od1_IDLE od2_IDLE : Option Addr} {sl0_IDLE sl1_IDLE sl2_IDLE : Array (Option Value)} {n0_IDLE n1_IDLE n2_IDLE : Nat} {t1_IDLE t2_IDLE t3_IDLE t4_IDLE : Tok} (i_IDLE : PySem.W.nsIn K mainGlobals "IDLE" = some (some (.ref A0_IDLE)))
    (j0_IDLE : K.lookup A0_IDLE = some ⟨.type "tuple", od0_IDLE, .seq #[.ref A1_IDLE, .ref A2_IDLE] n0_IDLE, sl0_IDLE⟩) (j1_IDLE : K.lookup A1_IDLE = some ⟨.type "tuple", od1_IDLE, .seq #[.int 1 t1_IDLE, .int 0 t2_IDLE] n1_IDLE, sl1_IDLE⟩) (j2_IDLE : K.lookup A2_IDLE = some ⟨.type "tuple", od2_IDLE, .seq #[.int 0 t3_IDLE, .int 1 t4_IDLE] n2_IDLE, sl2_IDLE⟩) :
    ∃ fd : FuncData, (∀ (s : Shared) (v : Value), BindsTo s fd ⟨[v], []⟩ [("_law_script", v)]) ∧ ∀ base : Heap, K.In base → base.Ns mainGlobals mg → FnOk l.prog w K mg base CX0 11 fa fd ["_law_script"] (sp_lawW K) := by
  have T : Txt K mg C_Form C_Double := ⟨PySem.W.mg_of X G aC_Form, ⟨pg_Form, hd_Form, po_Form, sa_Form⟩, ⟨ca_Form, cn_Form, ct_Form, cm_Form⟩, na_Form_coefficients, PySem.W.mg_of X G aC_Double, ⟨pg_Double, hd_Double, po_Double, sa_Double⟩, ⟨ca_Double, cn_Double, ct_Double, cm_Double⟩, na_Double_coefficients, ⟨_, _, PySem.W.mg_of X G a0, fun_mk (st := s_is_any_integer) l0 c0 k0⟩, ⟨_, _, PySem.W.mg_of X G a1, fun_mk (st := s_is_short_integer) l1 c1 k1⟩, ⟨_, _, PySem.W.mg_of X G a2, fun_mk (st := s_are_any_integers) l2 c2 k2⟩, ⟨_, _, PySem.W.mg_of X G a3, fun_mk (st := s_are_short_integers) l3 c3 k3⟩, ⟨_, _, PySem.W.mg_of X G a4, fun_mk (st := s_check_integer) l4 c4 k4⟩, ⟨_, _, PySem.W.mg_of X G a5, fun_mk (st := s_determinant_of) l5 c5 k5⟩, ⟨_, _, PySem.W.mg_of X G a6, fun_mk (st := s_is_change) l6 c6 k6⟩, ⟨_, _, PySem.W.mg_of X G a7, fun_mk (st := s_is_short_change) l7 c7 k7⟩, ⟨_, _, PySem.W.mg_of X G a8, fun_mk (st := s_check_change) l8 c8 k8⟩, ⟨_, _, PySem.W.mg_of X G a9, fun_mk (st := s_both) l9 c9 k9⟩, ⟨_, _, PySem.W.mg_of X G a10, fun_mk (st := s_taken_back) l10 c10 k10⟩, ⟨_, _, PySem.W.mg_of X G a11, fun_mk (st := s_joined) l11 c11 k11⟩, ⟨_, _, PySem.W.mg_of X G a12, fun_mk (st := s_undone) l12 c12 k12⟩, ⟨_, _, PySem.W.mg_of X G a13, fun_mk (st := s_shared_divisor) l13 c13 k13⟩, ⟨_, _, PySem.W.mg_of X G a14, fun_mk (st := s_double_discriminant) l14 c14 k14⟩, ⟨_, _, PySem.W.mg_of X G a15, fun_mk (st := s_double_of) l15 c15 k15⟩, ⟨f16, f16, _, ⟨mk16, a16, i16, kc16⟩, fun_mk (st := s_Double___init__) l16 c16 k16⟩, ⟨_, _, _, ⟨a17, b17, t17, ⟨_, r17⟩⟩, fun_mk (st := s_Double_coefficients) l17 c17 k17⟩, ⟨_, _, _, ⟨a18, b18, t18, ⟨_, r18⟩⟩, fun_mk (st := s_Double_discriminant) l18 c18 k18⟩, ⟨_, _, _, ⟨a19, b19, t19, ⟨_, r19⟩⟩, fun_mk (st := s_Double_content) l19 c19 k19⟩, ⟨_, _, PySem.W.mg_of X G a20, fun_mk (st := s_form_value) l20 c20 k20⟩, ⟨_, _, PySem.W.mg_of X G a21, fun_mk (st := s_form_discriminant) l21 c21 k21⟩, ⟨_, _, PySem.W.mg_of X G a22, fun_mk (st := s_form_hessian) l22 c22 k22⟩, ⟨_, _, PySem.W.mg_of X G a23, fun_mk (st := s_form_covariant) l23 c23 k23⟩, ⟨_, _, PySem.W.mg_of X G a24, fun_mk (st := s_form_led) l24 c24 k24⟩, ⟨_, _, PySem.W.mg_of X G a25, fun_mk (st := s_form_of) l25 c25 k25⟩, ⟨f26, f26, _, ⟨mk26, a26, i26, kc26⟩, fun_mk (st := s_Form___init__) l26 c26 k26⟩, ⟨_, _, _, ⟨a27, b27, t27, ⟨_, r27⟩⟩, fun_mk (st := s_Form_coefficients) l27 c27 k27⟩, ⟨_, _, _, ⟨a28, b28, t28, ⟨_, r28⟩⟩, fun_mk (st := s_Form_discriminant) l28 c28 k28⟩, ⟨_, _, _, ⟨a29, b29, t29, ⟨_, r29⟩⟩, fun_mk (st := s_Form_content) l29 c29 k29⟩, ⟨_, _, _, ⟨a30, b30, t30, ⟨_, r30⟩⟩, fun_mk (st := s_Form_hessian) l30 c30 k30⟩, ⟨_, _, _, ⟨a31, b31, t31, ⟨_, r31⟩⟩, fun_mk (st := s_Form_covariant) l31 c31 k31⟩, ⟨f32, f32, _, ⟨a32, i32, fi32⟩, fun_mk (st := s_Form___call__) l32 c32 k32⟩, ⟨f33, f33, _, ⟨a33, i33, k33⟩, fun_mk (st := s_Form_led) l33 c33 k33⟩, ⟨f34, f34, _, ⟨a34, i34, k34⟩, fun_mk (st := s_Form_times) l34 c34 k34⟩, ⟨f35, f35, _, ⟨a35, i35, k35⟩, fun_mk (st := s_Form_divided) l35 c35 k35⟩, ⟨f36, f36, _, ⟨a36, i36, k36⟩, fun_mk (st := s_Form___neg__) l36 c36 k36⟩, ⟨f37, f37, _, ⟨a37, i37, ne37, mo37⟩, fun_mk (st := s_Form___eq__) l37 c37 k37⟩, ⟨_, _, PySem.W.mg_of X G a38, fun_mk (st := s_l_cask) l38 c38 k38⟩, ⟨_, _, PySem.W.mg_of X G a39, fun_mk (st := s_l_tap) l39 c39 k39⟩, ⟨_, _, PySem.W.mg_of X G a40, fun_mk (st := s_l_one) l40 c40 k40⟩, ⟨_, _, PySem.W.mg_of X G a41, fun_mk (st := s_l_number) l41 c41 k41⟩, ⟨_, _, PySem.W.mg_of X G a42, fun_mk (st := s_l_numbers) l42 c42 k42⟩, ⟨_, _, PySem.W.mg_of X G a43, fun_mk (st := s_l_then) l43 c43 k43⟩, ⟨_, _, PySem.W.mg_of X G a44, fun_mk (st := s_l_change) l44 c44 k44⟩, ⟨_, _, PySem.W.mg_of X G a45, fun_mk (st := s_l_sense) l45 c45 k45⟩, ⟨_, _, PySem.W.mg_of X G a46, fun_mk (st := s_l_common) l46 c46 k46⟩, ⟨_, _, PySem.W.mg_of X G a47, fun_mk (st := s_l_many) l47 c47 k47⟩, ⟨_, _, PySem.W.mg_of X G a48, fun_mk (st := s_l_lowest) l48 c48 k48⟩, ⟨_, _, PySem.W.mg_of X G a49, fun_mk (st := s_l_entry) l49 c49 k49⟩, ⟨_, _, PySem.W.mg_of X G a50, fun_mk (st := s_l_place) l50 c50 k50⟩, ⟨_, _, PySem.W.mg_of X G a51, fun_mk (st := s_l_row_right) l51 c51 k51⟩, ⟨_, _, PySem.W.mg_of X G a52, fun_mk (st := s_l_multiple_right) l52 c52 k52⟩, ⟨_, _, PySem.W.mg_of X G a53, fun_mk (st := s_l_partner) l53 c53 k53⟩, ⟨_, _, PySem.W.mg_of X G a54, fun_mk (st := s_l_right) l54 c54 k54⟩, ⟨_, _, PySem.W.mg_of X G a55, fun_mk (st := s_law) l55 c55 k55⟩, PySem.W.mg_none_of X G z_abs, PySem.W.mg_none_of X G z_all, PySem.W.mg_none_of X G z_bool, PySem.W.mg_none_of X G z_int, PySem.W.mg_none_of X G z_isinstance, PySem.W.mg_none_of X G z_len, PySem.W.mg_none_of X G z_max, PySem.W.mg_none_of X G z_min, PySem.W.mg_none_of X G z_range, PySem.W.mg_none_of X G z_sum, PySem.W.mg_none_of X G z_tuple, ⟨_, PySem.W.mg_of X G q_LIMIT⟩, PySem.W.mg_of X G m_gcd, ⟨_, PySem.W.mg_of X G i_IDLE, fun H => tq_k j0_IDLE j1_IDLE j2_IDLE⟩⟩
  have e := hfa.symm.trans (PySem.W.mg_of X G a55)
  cases e
  refine ⟨PySem.W.fnOf "law" "law" (defArgs s_law) (defBody s_law) (defScope s_law) .none kV55 dc55 pm55 an55 cd55 ct55, fun s v => .of_eq rfl, fun base _ _ => ?_⟩
  exact ok_law0 (P := l.prog) (w := w) (base := base) T (fun_mk (st := s_law) l55 c55 k55)
end K09
open PySem PySem.W PyProof.Rows
set_option maxHeartbeats 0 in
theorem PySem.Challenge.cw_formrings_k09_whole_multiples_and_rows_o_holds : PySem.Challenge.rw_formrings_k09_whole_multiples_and_rows_o.Holds := by
  w_on; o_law; k_head; (case hw => w_witness2)
  k_fill
  refine L2.walk_of (l := PySem.Challenge.rw_formrings_k09_whole_multiples_and_rows_o) (n := 63) (k := 11) (x := "_law_script") (CX := fun _ => L2.CX0) (sp := fun w => K09.sp_lawW _) rfl (by decide) rfl ⟨rfl, by decide, by decide⟩ (fun w h Y => PySem.W.kIn_of Y) ?F (fun _ _ a ns hl _ hS => ⟨a, ns, rfl, hS, hl, fun _ => rfl⟩) (fun _ _ _ _ _ h => h)
  case F =>
    intro w mg fa h KX G hmg
    refine' K09.all_mk KX G hmg ?aC_Form ?pg_Form ?hd_Form ?po_Form ?sa_Form ?ca_Form ?cn_Form ?ct_Form ?cm_Form ?na_Form_coefficients ?aC_Double ?pg_Double ?hd_Double ?po_Double ?sa_Double ?ca_Double ?cn_Double ?ct_Double ?cm_Double ?na_Double_coefficients ?a0 ?l0 ?c0 ?k0 ?a1 ?l1 ?c1 ?k1 ?a2 ?l2 ?c2 ?k2 ?a3 ?l3 ?c3 ?k3 ?a4 ?l4 ?c4 ?k4 ?a5 ?l5 ?c5 ?k5 ?a6 ?l6 ?c6 ?k6 ?a7 ?l7 ?c7 ?k7 ?a8 ?l8 ?c8 ?k8 ?a9 ?l9 ?c9 ?k9 ?a10 ?l10 ?c10 ?k10 ?a11 ?l11 ?c11 ?k11 ?a12 ?l12 ?c12 ?k12 ?a13 ?l13 ?c13 ?k13 ?a14 ?l14 ?c14 ?k14 ?a15 ?l15 ?c15 ?k15 ?a16 ?i16 ?mk16 ?kc16 ?l16 ?c16 ?k16 ?a17 ?b17 ?t17 ?r17 ?l17 ?c17 ?k17 ?a18 ?b18 ?t18 ?r18 ?l18 ?c18 ?k18 ?a19 ?b19 ?t19 ?r19 ?l19 ?c19 ?k19 ?a20 ?l20 ?c20 ?k20 ?a21 ?l21 ?c21 ?k21 ?a22 ?l22 ?c22 ?k22 ?a23 ?l23 ?c23 ?k23 ?a24 ?l24 ?c24 ?k24 ?a25 ?l25 ?c25 ?k25 ?a26 ?i26 ?mk26 ?kc26 ?l26 ?c26 ?k26 ?a27 ?b27 ?t27 ?r27 ?l27 ?c27 ?k27 ?a28 ?b28 ?t28 ?r28 ?l28 ?c28 ?k28 ?a29 ?b29 ?t29 ?r29 ?l29 ?c29 ?k29 ?a30 ?b30 ?t30 ?r30 ?l30 ?c30 ?k30 ?a31 ?b31 ?t31 ?r31 ?l31 ?c31 ?k31 ?a32 ?i32 ?fi32 ?l32 ?c32 ?k32 ?a33 ?i33 ?l33 ?c33 ?k33 ?a34 ?i34 ?l34 ?c34 ?k34 ?a35 ?i35 ?l35 ?c35 ?k35 ?a36 ?i36 ?l36 ?c36 ?k36 ?a37 ?i37 ?ne37 ?mo37 ?l37 ?c37 ?k37 ?a38 ?l38 ?c38 ?k38 ?a39 ?l39 ?c39 ?k39 ?a40 ?l40 ?c40 ?k40 ?a41 ?l41 ?c41 ?k41 ?a42 ?l42 ?c42 ?k42 ?a43 ?l43 ?c43 ?k43 ?a44 ?l44 ?c44 ?k44 ?a45 ?l45 ?c45 ?k45 ?a46 ?l46 ?c46 ?k46 ?a47 ?l47 ?c47 ?k47 ?a48 ?l48 ?c48 ?k48 ?a49 ?l49 ?c49 ?k49 ?a50 ?l50 ?c50 ?k50 ?a51 ?l51 ?c51 ?k51 ?a52 ?l52 ?c52 ?k52 ?a53 ?l53 ?c53 ?k53 ?a54 ?l54 ?c54 ?k54 ?a55 ?l55 ?c55 ?k55 ?z_abs ?z_all ?z_bool ?z_int ?z_isinstance ?z_len ?z_max ?z_min ?z_range ?z_sum ?z_tuple ?q_LIMIT ?m_gcd ?i_IDLE ?j0_IDLE ?j1_IDLE ?j2_IDLE
    (case aC_Form => k_is); (case pg_Form => k_is); (case hd_Form => k_is); (case po_Form => k_is); (case sa_Form => k_is); (case ca_Form => k_is); (case cn_Form => k_is); (case ct_Form => k_is); (case cm_Form => k_is); (case na_Form_coefficients => k_is); (case aC_Double => k_is); (case pg_Double => k_is); (case hd_Double => k_is); (case po_Double => k_is); (case sa_Double => k_is); (case ca_Double => k_is); (case cn_Double => k_is); (case ct_Double => k_is); (case cm_Double => k_is); (case na_Double_coefficients => k_is); (case a0 => k_is); (case l0 => k_is); (case c0 => k_is); (case k0 => k_is); (case a1 => k_is); (case l1 => k_is); (case c1 => k_is); (case k1 => k_is); (case a2 => k_is); (case l2 => k_is); (case c2 => k_is); (case k2 => k_is); (case a3 => k_is); (case l3 => k_is); (case c3 => k_is); (case k3 => k_is); (case a4 => k_is); (case l4 => k_is); (case c4 => k_is); (case k4 => k_is); (case a5 => k_is); (case l5 => k_is); (case c5 => k_is); (case k5 => k_is); (case a6 => k_is); (case l6 => k_is); (case c6 => k_is); (case k6 => k_is); (case a7 => k_is); (case l7 => k_is); (case c7 => k_is); (case k7 => k_is); (case a8 => k_is); (case l8 => k_is); (case c8 => k_is); (case k8 => k_is); (case a9 => k_is); (case l9 => k_is); (case c9 => k_is); (case k9 => k_is); (case a10 => k_is); (case l10 => k_is); (case c10 => k_is); (case k10 => k_is); (case a11 => k_is); (case l11 => k_is); (case c11 => k_is); (case k11 => k_is); (case a12 => k_is); (case l12 => k_is); (case c12 => k_is); (case k12 => k_is); (case a13 => k_is); (case l13 => k_is); (case c13 => k_is); (case k13 => k_is); (case a14 => k_is); (case l14 => k_is); (case c14 => k_is); (case k14 => k_is); (case a15 => k_is); (case l15 => k_is); (case c15 => k_is); (case k15 => k_is); (case a16 => k_is); (case i16 => k_is); (case mk16 => k_is); (case kc16 => k_is); (case l16 => k_is); (case c16 => k_is); (case k16 => k_is); (case a17 => k_is); (case b17 => k_is); (case t17 => k_is); (case r17 => k_is); (case l17 => k_is); (case c17 => k_is); (case k17 => k_is); (case a18 => k_is); (case b18 => k_is); (case t18 => k_is); (case r18 => k_is); (case l18 => k_is); (case c18 => k_is); (case k18 => k_is); (case a19 => k_is); (case b19 => k_is); (case t19 => k_is); (case r19 => k_is); (case l19 => k_is); (case c19 => k_is); (case k19 => k_is); (case a20 => k_is); (case l20 => k_is); (case c20 => k_is); (case k20 => k_is); (case a21 => k_is); (case l21 => k_is); (case c21 => k_is); (case k21 => k_is); (case a22 => k_is); (case l22 => k_is); (case c22 => k_is); (case k22 => k_is); (case a23 => k_is); (case l23 => k_is); (case c23 => k_is); (case k23 => k_is); (case a24 => k_is); (case l24 => k_is); (case c24 => k_is); (case k24 => k_is); (case a25 => k_is); (case l25 => k_is); (case c25 => k_is); (case k25 => k_is); (case a26 => k_is); (case i26 => k_is); (case mk26 => k_is); (case kc26 => k_is); (case l26 => k_is); (case c26 => k_is); (case k26 => k_is); (case a27 => k_is); (case b27 => k_is); (case t27 => k_is); (case r27 => k_is); (case l27 => k_is); (case c27 => k_is); (case k27 => k_is); (case a28 => k_is); (case b28 => k_is); (case t28 => k_is); (case r28 => k_is); (case l28 => k_is); (case c28 => k_is); (case k28 => k_is); (case a29 => k_is); (case b29 => k_is); (case t29 => k_is); (case r29 => k_is); (case l29 => k_is); (case c29 => k_is); (case k29 => k_is); (case a30 => k_is); (case b30 => k_is); (case t30 => k_is); (case r30 => k_is); (case l30 => k_is); (case c30 => k_is); (case k30 => k_is); (case a31 => k_is); (case b31 => k_is); (case t31 => k_is); (case r31 => k_is); (case l31 => k_is); (case c31 => k_is); (case k31 => k_is); (case a32 => k_is); (case i32 => k_is); (case fi32 => k_is); (case l32 => k_is); (case c32 => k_is); (case k32 => k_is); (case a33 => k_is); (case i33 => k_is); (case l33 => k_is); (case c33 => k_is); (case k33 => k_is); (case a34 => k_is); (case i34 => k_is); (case l34 => k_is); (case c34 => k_is); (case k34 => k_is); (case a35 => k_is); (case i35 => k_is); (case l35 => k_is); (case c35 => k_is); (case k35 => k_is); (case a36 => k_is); (case i36 => k_is); (case l36 => k_is); (case c36 => k_is); (case k36 => k_is); (case a37 => k_is); (case i37 => k_is); (case ne37 => k_is); (case mo37 => k_is); (case l37 => k_is); (case c37 => k_is); (case k37 => k_is); (case a38 => k_is); (case l38 => k_is); (case c38 => k_is); (case k38 => k_is); (case a39 => k_is); (case l39 => k_is); (case c39 => k_is); (case k39 => k_is); (case a40 => k_is); (case l40 => k_is); (case c40 => k_is); (case k40 => k_is); (case a41 => k_is); (case l41 => k_is); (case c41 => k_is); (case k41 => k_is); (case a42 => k_is); (case l42 => k_is); (case c42 => k_is); (case k42 => k_is); (case a43 => k_is); (case l43 => k_is); (case c43 => k_is); (case k43 => k_is); (case a44 => k_is); (case l44 => k_is); (case c44 => k_is); (case k44 => k_is); (case a45 => k_is); (case l45 => k_is); (case c45 => k_is); (case k45 => k_is); (case a46 => k_is); (case l46 => k_is); (case c46 => k_is); (case k46 => k_is); (case a47 => k_is); (case l47 => k_is); (case c47 => k_is); (case k47 => k_is); (case a48 => k_is); (case l48 => k_is); (case c48 => k_is); (case k48 => k_is); (case a49 => k_is); (case l49 => k_is); (case c49 => k_is); (case k49 => k_is); (case a50 => k_is); (case l50 => k_is); (case c50 => k_is); (case k50 => k_is); (case a51 => k_is); (case l51 => k_is); (case c51 => k_is); (case k51 => k_is); (case a52 => k_is); (case l52 => k_is); (case c52 => k_is); (case k52 => k_is); (case a53 => k_is); (case l53 => k_is); (case c53 => k_is); (case k53 => k_is); (case a54 => k_is); (case l54 => k_is); (case c54 => k_is); (case k54 => k_is); (case a55 => k_is); (case l55 => k_is); (case c55 => k_is); (case k55 => k_is); (case z_abs => k_is); (case z_all => k_is); (case z_bool => k_is); (case z_int => k_is); (case z_isinstance => k_is); (case z_len => k_is); (case z_max => k_is); (case z_min => k_is); (case z_range => k_is); (case z_sum => k_is); (case z_tuple => k_is); (case q_LIMIT => k_is); (case m_gcd => k_is); (case i_IDLE => k_is); (case j0_IDLE => k_is); (case j1_IDLE => k_is); (case j2_IDLE => k_is)
