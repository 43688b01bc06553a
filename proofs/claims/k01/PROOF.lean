import PyProof.Rows.All
import Wide.All
import OpenK.AllK
import Wide.FinOn
import HandS.ForMost
import HandS.Wide
import HandS.WideBits
import HandS.Gcd
import HandS.IsInst
import HandS.Style
import HandS.Evl
import Flt.RightSqrt
import HandS.More
import HandS.OwnEq
import HandS.Property
import HandS.Star
import KE.KOpsOwn
import HandS.ForExc
import HandS.HeadHook1
import KE.IntBitsLaws
import KE.KStateDown
import HandS.Base
import HandS.Call
import HandS.Ends
import HandS.Words
import HandS.Defaults
import HandS.Head0
import HandS.Head1
import HandS.Head2
import HandS.Head3
import HandS.HeadEnd
import HandS.HeadHook2
import PySem.Challenge.RW_formrings_k01_whole_integers_told_apart
set_option Elab.async false
set_option linter.all false
set_option maxRecDepth 100000
set_option maxHeartbeats 4000000
namespace Fr
open PySem PySem.Spec PyProof.Rows L2
open Evl (Ex)
def Def (P : Program) (w : World) (K : PySem.W.Frag) (mg : Str → Option Value) (base : Heap) (k : Nat) (x : Str) (ps : List Str) (sp : Sp) : Prop :=
  ∃ f fd, mg x = some (.ref f) ∧ PySem.W.keepIn K (.ref f) = true ∧ Binds K fd ps [] ∧ FnOk P w K mg base CX0 k f fd ps sp
structure Fm (S : Addr → Prop) (I : Hp → Prop) : Prop where
  fresh : ∀ {H D}, I H → H D = none → ¬ S D
  stay : ∀ {H D o}, ¬ S D → I H → I (upd H D o)
def Fx (S : Addr → Prop) (I : Hp → Prop) (H H' : Hp) : Prop := I H' ∧ ∀ b o, ¬ S b → H b = some o → H' b = some o
section
variable {S : Addr → Prop} {I : Hp → Prop} {H H1 H2 : Hp}
theorem Fx.refl (i : I H) : Fx S I H H := ⟨i, fun _ _ _ h => h⟩
theorem Fx.trans (a : Fx S I H H1) (b : Fx S I H1 H2) : Fx S I H H2 := ⟨b.1, fun x o n h => b.2 x o n (a.2 x o n h)⟩
theorem Fx.new (m : Fm S I) (i : I H) {p : Addr} {o : HO} (h : H p = none) : Fx S I H (upd H p o) := ⟨m.stay (m.fresh i h) i, fun b u _ e => by
  rw [upd_ne (ne_of_none e h)]
  exact e⟩
theorem Fx.mut (m : Fm S I) (a : Fx S I H H1) (i : I H) {p : Addr} {o : HO} (h : H p = none) : Fx S I H (upd H1 p o) := ⟨m.stay (m.fresh i h) a.1, fun b u n e => by
  rw [upd_ne (ne_of_none e h)]
  exact a.2 b u n e⟩
theorem Fx.at (a : Fx S I H H1) {p : Addr} {o : HO} (n : ¬ S p) (h : H p = some o) : H1 p = some o := a.2 p o n h
theorem Fx.sqT {K : PySem.W.Frag} (a : Fx S I H H1) {p : Addr} {xs : List V} (n : ¬ S p) (h : SqT K H p xs) : SqT K H1 p xs := by
  rcases h with (h | ⟨o, h⟩) | h
  · exact .inl (.inl (a.2 _ _ n h))
  · exact .inl (.inr ⟨o, a.2 _ _ n h⟩)
  · exact .inr h
theorem Fx.sqL {K : PySem.W.Frag} (a : Fx S I H H1) {p : Addr} {xs : List V} (n : ¬ S p) (h : SqL K H p xs) : SqL K H1 p xs := by
  rcases h with (h | ⟨o, h⟩) | h
  · exact .inl (.inl (a.2 _ _ n h))
  · exact .inl (.inr ⟨o, a.2 _ _ n h⟩)
  · exact .inr h
theorem Fx.free (a : Fx S I H H1) {p : Addr} (n : ¬ S p) (h : H1 p = none) : H p = none := by
  cases e : H p with
  | none => rfl
  | some o => rw [a.2 p o n e] at h; cases h
theorem Fx.free' (m : Fm S I) (a : Fx S I H H1) {p : Addr} (h : H1 p = none) : H p = none := a.free (m.fresh a.1 h) h
end
abbrev S0 : Addr → Prop := fun _ => False
abbrev I0 : Hp → Prop := fun _ => True
theorem fm0 : Fm S0 I0 := ⟨fun _ _ h => h, fun _ _ => trivial⟩
abbrev Ex0 : Hp → Hp → Prop := Fx S0 I0
theorem Ex0.of {H H' : Hp} (h : ∀ b o, H b = some o → H' b = some o) : Ex0 H H' := ⟨trivial, fun b o _ e => h b o e⟩
theorem Ex0.ap {H H' : Hp} (h : Ex0 H H') {b : Addr} {o : HO} (e : H b = some o) : H' b = some o := h.2 b o (fun z => z) e
theorem Ex0.refl (H : Hp) : Ex0 H H := Fx.refl trivial
theorem Ex0.new {H : Hp} {p : Addr} {o : HO} (h : H p = none) : Ex0 H (upd H p o) := Fx.new fm0 trivial h
def Cs (S : Addr → Prop) (I : Hp → Prop) (H : Hp) (P : Nat → List V → Hp → Prop) (D : Addr) (i : Nat) (H' : Hp) : Prop := Fx S I H H' ∧ ∃ acc, H' D = some (.lst acc) ∧ acc.length ≤ i ∧ P i acc H'
section
variable {K : PySem.W.Frag} {S : Addr → Prop} {I : Hp → Prop} {σ : L2.St} {H : Hp} {Q : Addr → Hp → Prop} {te : TE} {vs : List Nat} {g : TG} {tt : TT} {P : Nat → List V → Hp → Prop}
theorem cs_yes (m : Fm S I) (i0 : I H) {D : Addr} {i : Nat} {acc : List V} {H' H4 : Hp} {y : V} (hD : H D = none) (p1 : Fx S I H H') (p2 : H' D = some (.lst acc)) (p3 : acc.length ≤ i) (hi : i < 1000000) (e : Fx S I H' H4) (h : P (i + 1) (acc ++ [y]) (upd H4 D (.lst (acc ++ [y])))) :
    ∃ acc', H4 D = some (.lst acc') ∧ acc'.length < sizeLine ∧ Cs S I H P D (i + 1) (upd H4 D (.lst (acc' ++ [y]))) :=
  ⟨acc, e.2 _ _ (m.fresh i0 hD) p2, Nat.lt_of_le_of_lt p3 (Nat.lt_of_lt_of_le hi (by decide)), Fx.mut m (p1.trans e) i0 hD, _, upd_same, by rw [List.length_append]; exact Nat.add_le_add_right p3 1, h⟩
theorem cs_no (m : Fm S I) (i0 : I H) {D : Addr} {i : Nat} {acc : List V} {H' H4 : Hp} (hD : H D = none) (p1 : Fx S I H H') (p2 : H' D = some (.lst acc)) (p3 : acc.length ≤ i) (e : Fx S I H' H4) (h : P (i + 1) acc H4) : Cs S I H P D (i + 1) H4 :=
  ⟨p1.trans e, acc, e.2 _ _ (m.fresh i0 hD) p2, Nat.le_succ_of_le p3, h⟩
theorem lcT (m : Fm S I) (i0 : I H) {a : Addr} {xs : List V} (hx : SqT K H a xs) (ha : ¬ S a) (P : Nat → List V → Hp → Prop) (p0 : ∀ D, H D = none → P 0 [] (upd H D (.lst [])))
    (hs : ∀ D i x acc H', H D = none → xs[i]? = some x → Fx S I H H' → H' D = some (.lst acc) → acc.length ≤ i → P i acc H' → g x (wipe σ vs) H' fun σ2 H2 => wipe σ2 vs = wipe σ vs ∧ tt σ2 H2 fun b H3 =>
      if b = true then te σ2 H3 fun y H4 => ∃ acc, H4 D = some (.lst acc) ∧ acc.length < sizeLine ∧ Cs S I H P D (i + 1) (upd H4 D (.lst (acc ++ [y]))) else Cs S I H P D (i + 1) H3)
    (q : ∀ D H' acc, H D = none → Fx S I H H' → H' D = some (.lst acc) → P xs.length acc H' → Q D H') :
    ∀ D, H D = none → ∃ W : Nat → Nat → Hp → Prop, (∃ m, W 0 m (upd H D (.lst []))) ∧ ∀ i m H, W i m H →
      ((Itt K a).stop i H ∧ Q D H) ∨ ((Itt K a).go i H ∧ ∃ Nx : Hp → Prop, (∀ H', Nx H' → ∃ m', m' < m ∧ W (i + 1) m' H') ∧ ∀ x H', (Itt K a).yld i H x H' → g x (wipe σ vs) H' fun σ2 H2 => wipe σ2 vs = wipe σ vs ∧ tt σ2 H2 fun b H3 =>
        if b = true then te σ2 H3 fun y H4 => ∃ acc, H4 D = some (.lst acc) ∧ acc.length < sizeLine ∧ Nx (upd H4 D (.lst (acc ++ [y]))) else Nx H3) := fun D hD =>
  lc_tup (xs := xs) (Cs S I H P D) ⟨Fx.new m i0 hD, [], upd_same, Nat.le_refl _, p0 D hD⟩ (fun i H' _ p => p.1.sqT ha hx)
    (fun i x H' hi p => by
      obtain ⟨p1, acc, p2, p3, p4⟩ := p
      exact hs D i x acc H' hD hi p1 p2 p3 p4)
    (fun H' p => by
      obtain ⟨p1, acc, p2, p3, p4⟩ := p
      exact q D H' acc hD p1 p2 p4)
theorem lcL (m : Fm S I) (i0 : I H) {a : Addr} {xs : List V} (hx : SqL K H a xs) (ha : ¬ S a) (P : Nat → List V → Hp → Prop) (p0 : ∀ D, H D = none → P 0 [] (upd H D (.lst [])))
    (hs : ∀ D i x acc H', H D = none → xs[i]? = some x → Fx S I H H' → H' D = some (.lst acc) → acc.length ≤ i → P i acc H' → g x (wipe σ vs) H' fun σ2 H2 => wipe σ2 vs = wipe σ vs ∧ tt σ2 H2 fun b H3 =>
      if b = true then te σ2 H3 fun y H4 => ∃ acc, H4 D = some (.lst acc) ∧ acc.length < sizeLine ∧ Cs S I H P D (i + 1) (upd H4 D (.lst (acc ++ [y]))) else Cs S I H P D (i + 1) H3)
    (q : ∀ D H' acc, H D = none → Fx S I H H' → H' D = some (.lst acc) → P xs.length acc H' → Q D H') :
    ∀ D, H D = none → ∃ W : Nat → Nat → Hp → Prop, (∃ m, W 0 m (upd H D (.lst []))) ∧ ∀ i m H, W i m H →
      ((Itl K a).stop i H ∧ Q D H) ∨ ((Itl K a).go i H ∧ ∃ Nx : Hp → Prop, (∀ H', Nx H' → ∃ m', m' < m ∧ W (i + 1) m' H') ∧ ∀ x H', (Itl K a).yld i H x H' → g x (wipe σ vs) H' fun σ2 H2 => wipe σ2 vs = wipe σ vs ∧ tt σ2 H2 fun b H3 =>
        if b = true then te σ2 H3 fun y H4 => ∃ acc, H4 D = some (.lst acc) ∧ acc.length < sizeLine ∧ Nx (upd H4 D (.lst (acc ++ [y]))) else Nx H3) := fun D hD =>
  lc_list (xs := xs) (Cs S I H P D) ⟨Fx.new m i0 hD, [], upd_same, Nat.le_refl _, p0 D hD⟩ (fun i H' _ p => p.1.sqL ha hx)
    (fun i x H' hi p => by
      obtain ⟨p1, acc, p2, p3, p4⟩ := p
      exact hs D i x acc H' hD hi p1 p2 p3 p4)
    (fun H' p => by
      obtain ⟨p1, acc, p2, p3, p4⟩ := p
      exact q D H' acc hD p1 p2 p4)
theorem lcR (m : Fm S I) (i0 : I H) {lo : Int} {n : Nat} (P : Nat → List V → Hp → Prop) (p0 : ∀ D, H D = none → P 0 [] (upd H D (.lst [])))
    (hs : ∀ D i acc H', H D = none → i < n → Fx S I H H' → H' D = some (.lst acc) → acc.length ≤ i → P i acc H' → g (.int (lo + i)) (wipe σ vs) H' fun σ2 H2 => wipe σ2 vs = wipe σ vs ∧ tt σ2 H2 fun b H3 =>
      if b = true then te σ2 H3 fun y H4 => ∃ acc, H4 D = some (.lst acc) ∧ acc.length < sizeLine ∧ Cs S I H P D (i + 1) (upd H4 D (.lst (acc ++ [y]))) else Cs S I H P D (i + 1) H3)
    (q : ∀ D H' acc, H D = none → Fx S I H H' → H' D = some (.lst acc) → P n acc H' → Q D H') :
    ∀ D, H D = none → ∃ W : Nat → Nat → Hp → Prop, (∃ m, W 0 m (upd H D (.lst []))) ∧ ∀ i m H, W i m H →
      ((Itr lo n).stop i H ∧ Q D H) ∨ ((Itr lo n).go i H ∧ ∃ Nx : Hp → Prop, (∀ H', Nx H' → ∃ m', m' < m ∧ W (i + 1) m' H') ∧ ∀ x H', (Itr lo n).yld i H x H' → g x (wipe σ vs) H' fun σ2 H2 => wipe σ2 vs = wipe σ vs ∧ tt σ2 H2 fun b H3 =>
        if b = true then te σ2 H3 fun y H4 => ∃ acc, H4 D = some (.lst acc) ∧ acc.length < sizeLine ∧ Nx (upd H4 D (.lst (acc ++ [y]))) else Nx H3) := fun D hD =>
  lc_range (lo := lo) (n := n) (Cs S I H P D) ⟨Fx.new m i0 hD, [], upd_same, Nat.le_refl _, p0 D hD⟩
    (fun i H' hi p => by
      obtain ⟨p1, acc, p2, p3, p4⟩ := p
      exact hs D i acc H' hD hi p1 p2 p3 p4)
    (fun H' p => by
      obtain ⟨p1, acc, p2, p3, p4⟩ := p
      exact q D H' acc hD p1 p2 p4)
end
theorem log_lt {i : Int} {a : Nat} (h : i.natAbs < 2 ^ a) (h0 : 0 < a) : i.natAbs.log2 < a := by
  by_cases z : i.natAbs = 0
  · rw [z]
    exact h0
  · exact (Nat.log2_lt z).mpr h
theorem mw {i j : Int} (h1 : -(2 ^ 250) < i) (h2 : i < 2 ^ 250) (h3 : -(2 ^ 250) < j) (h4 : j < 2 ^ 250) : CMulW i j :=
  wide_mul (a := 250) (b := 250) (by omega) (by omega) (by decide) (by decide) (by decide)
theorem dw {i j : Int} (h : 0 < j) (h4 : j < 2 ^ 250) : CDivW i j := wide_div (b := 250) h (by omega) (by decide) (by decide)
theorem iteB {b : Bool} {A B : Prop} (h1 : b = true → A) (h2 : b = false → B) : if b = true then A else B := by
  cases b with
  | true => rw [if_pos rfl]; exact h1 rfl
  | false => rw [if_neg Bool.false_ne_true]; exact h2 rfl
theorem iteD {c : Prop} [Decidable c] {A B : Prop} (h1 : c → A) (h2 : ¬ c → B) : if decide c = true then A else B :=
  iteB (fun h => h1 (of_decide_eq_true h)) (fun h => h2 (of_decide_eq_false h))
theorem iteN {c : Prop} [Decidable c] {A B : Prop} (h1 : ¬ c → A) (h2 : c → B) : if (!decide c) = true then A else B := by
  by_cases h : c
  · rw [decide_eq_true h]; exact iteF (h2 h)
  · rw [decide_eq_false h]; exact iteT (h1 h)
theorem dT {c : Prop} [Decidable c] {A B : Prop} (h : c) (a : A) : if decide c = true then A else B := by rw [decide_eq_true h, if_pos rfl]; exact a
theorem dF {c : Prop} [Decidable c] {A B : Prop} (h : ¬ c) (a : B) : if decide c = true then A else B := by rw [decide_eq_false h, if_neg Bool.false_ne_true]; exact a
theorem ndT {c : Prop} [Decidable c] {A B : Prop} (h : ¬ c) (a : A) : if (!decide c) = true then A else B := by rw [decide_eq_false h]; exact iteT a
theorem ndF {c : Prop} [Decidable c] {A B : Prop} (h : c) (a : B) : if (!decide c) = true then A else B := by rw [decide_eq_true h]; exact iteF a
theorem sl1 : 1 ≤ sizeLine := by decide
theorem sl2 : 2 ≤ sizeLine := by decide
theorem sl3 : 3 ≤ sizeLine := by decide
theorem sl4 : 4 ≤ sizeLine := by decide
theorem sl5 : 5 ≤ sizeLine := by decide
theorem sl6 : 6 ≤ sizeLine := by decide
theorem sl8 : 8 ≤ sizeLine := by decide
theorem slN {n : Nat} (h : n ≤ 1000000) : n ≤ sizeLine := Nat.le_trans h (by decide)
section
variable {X : Cx}
def rIsqrt : List V → Hp → VK → Prop := fun vs H Q => ∃ a : Int, vs = [.int a] ∧ 0 ≤ a ∧ a < 2 ^ 64 ∧ ∀ r : Int, 0 ≤ r → r * r ≤ a → a < (r + 1) * (r + 1) → Q (.int r) H
theorem cr_isqrt : CallR X (.builtin "math.isqrt") rIsqrt := by
  intro pins s σ H vs us Q I r h
  obtain ⟨a, rfl, h0, h1, q⟩ := h
  obtain ⟨u, rfl, ru⟩ := Vals.one r
  obtain ⟨t, rfl⟩ := ru
  have sp := PySem.Float64.isqrt_spec a.toNat
  refine PySem.W.mg_isqrt h0 h1 ⟨.int _, H, I.tok _, ⟨_, rfl⟩, q _ (Int.natCast_nonneg _) ?_ ?_⟩
  · have := sp.1
    have e : ((Float64.isqrt a.toNat * Float64.isqrt a.toNat : Nat) : Int) ≤ (a.toNat : Int) := Int.ofNat_le.mpr this
    rw [Int.toNat_of_nonneg h0] at e
    simpa using e
  · have := sp.2
    have e : (a.toNat : Int) < (((Float64.isqrt a.toNat + 1) * (Float64.isqrt a.toNat + 1) : Nat) : Int) := Int.ofNat_lt.mpr this
    rw [Int.toNat_of_nonneg h0] at e
    simpa using e
end
end Fr
namespace Fr
open PySem PySem.Spec PyProof.Rows L2
section
variable {X : Cx}
def CPowC (i j : Int) : Prop := 0 ≤ j ∧ (Builtin.Int.intBits i : Int) * j ≤ 2 ^ 27
theorem op_powC : OpR X (binaryOp .Pow) (rI CPowC fun i j => .int (i ^ j.toNat)) := opI fun _ _ _ _ _ _ _ hc q => PyProof.Rows.pow_int hc.1 hc.2 q
end
end Fr
namespace Fr
open PySem PySem.Spec PyProof.Rows L2
theorem deI {i j : Int} : decide (V.int i = V.int j) = decide (i = j) := by
  rw [dec_int]
  rfl
theorem iteE {i j : Int} {A B : Prop} (h1 : i = j → A) (h2 : i ≠ j → B) : if decide (V.int i = V.int j) = true then A else B := by
  rw [deI]
  exact iteD h1 h2
theorem iteEn {i j : Int} {A B : Prop} (h1 : i ≠ j → A) (h2 : i = j → B) : if (!decide (V.int i = V.int j)) = true then A else B := by
  rw [deI]
  exact iteN h1 h2
end Fr
namespace Fr
open PySem PySem.Spec PyProof.Rows L2
def inb (lo hi : Int) : V → Bool
  | .int i => decide (lo ≤ i) && decide (i ≤ hi)
  | _ => false
theorem in_b {lo hi : Int} {xs : List V} {v : V} (hv : v ∈ xs) (h : xs.all (inb lo hi) = true) : ∃ f : Int, v = .int f ∧ lo ≤ f ∧ f ≤ hi := by
  have := List.all_eq_true.mp h v hv
  cases v with
  | int i =>
    unfold inb at this
    rw [Bool.and_eq_true, decide_eq_true_iff, decide_eq_true_iff] at this
    exact ⟨i, rfl, this.1, this.2⟩
  | _ => cases this
theorem shaped_ints (ns : List Int) : SeqAt.shaped (.list (ns.map .int)) = true := by
  have h : PyData.canLayAll0 (ns.map PyData.int) = true ∧ PyData.depthAll (ns.map PyData.int) ≤ 1 := by
    induction ns with
    | nil => exact ⟨rfl, by simp [PyData.depthAll]⟩
    | cons n r ih =>
      refine ⟨?_, ?_⟩
      · rw [List.map_cons, PyData.canLayAll0, PyData.canLay0, ih.1]; rfl
      · rw [List.map_cons, PyData.depthAll, PyData.depth]; exact Nat.max_le.mpr ⟨by decide, ih.2⟩
  unfold SeqAt.shaped
  rw [PyData.canLay0, PyData.depth, h.1]
  simp
  omega
theorem dp_ints {K : PySem.W.Frag} {H : Hp} : ∀ ns : List Int, DpAll K H (ns.map V.int) (ns.map PyData.int)
  | [] => .nil
  | n :: r => .cons (.int n) (dp_ints r)
theorem eqv_ints : ∀ ns ms : List Int, PyData.eqvAll (ns.map PyData.int) (ms.map PyData.int) = decide (ns = ms)
  | [], [] => rfl
  | [], m :: ms => rfl
  | n :: ns, [] => rfl
  | n :: ns, m :: ms => by
    rw [List.map_cons, List.map_cons, PyData.eqvAll, PyData.eqv, eqv_ints ns ms]
    apply Bool.eq_iff_iff.mpr
    simp
def pr2 (q : Nat × Nat) : PyData := .tuple [.int (q.1 : Int), .int (q.2 : Int)]
theorem shaped_prs (fs : List (Nat × Nat)) : SeqAt.shaped (.tuple (fs.map pr2)) = true := by
  have h : PyData.canLayAll0 (fs.map pr2) = true ∧ PyData.depthAll (fs.map pr2) ≤ 2 := by
    induction fs with
    | nil => exact ⟨rfl, by simp [PyData.depthAll]⟩
    | cons n r ih =>
      refine ⟨?_, ?_⟩
      · rw [List.map_cons, PyData.canLayAll0, ih.1]; simp [pr2, PyData.canLay0, PyData.canLayAll0]
      · rw [List.map_cons, PyData.depthAll]; exact Nat.max_le.mpr ⟨by simp [pr2, PyData.depth, PyData.depthAll], ih.2⟩
  unfold SeqAt.shaped
  rw [PyData.canLay0, PyData.depth, h.1]
  simp
  omega
theorem eqv_prs : ∀ fs gs : List (Nat × Nat), PyData.eqvAll (fs.map pr2) (gs.map pr2) = decide (fs = gs)
  | [], [] => rfl
  | [], m :: ms => rfl
  | n :: ns, [] => rfl
  | (a, b) :: ns, (c, d) :: ms => by
    rw [List.map_cons, List.map_cons, PyData.eqvAll, eqv_prs ns ms]
    apply Bool.eq_iff_iff.mpr
    simp [pr2, PyData.eqv, PyData.eqvAll]
    omega
end Fr
namespace Fr
open PySem PySem.Spec PyProof.Rows L2
def B (a : Nat) (i : Int) : Prop := i.natAbs < 2 ^ a ∧ 0 < a
theorem two_pow_two {a : Nat} (h : 0 < a) : 2 ≤ 2 ^ a := by
  obtain ⟨k, rfl⟩ : ∃ k, a = k + 1 := ⟨a - 1, by omega⟩
  rw [Nat.pow_succ]
  have := Nat.two_pow_pos k
  omega
theorem pow_sum {a b : Nat} (ha : 0 < a) (hb : 0 < b) : 2 ^ a + 2 ^ b ≤ 2 ^ (a + b) := by
  rw [Nat.pow_add]
  have h1 := two_pow_two ha
  have h2 := two_pow_two hb
  generalize 2 ^ a = x at *
  generalize 2 ^ b = y at *
  have := Nat.mul_le_mul h1 (Nat.le_refl y)
  have := Nat.mul_le_mul (Nat.le_refl x) h2
  rcases Nat.le_total x y with h | h <;> omega
theorem B.mul {a b : Nat} {i j : Int} (h1 : B a i) (h2 : B b j) : B (a + b) (i * j) := ⟨wide_lt h1.1 h2.1, Nat.add_pos_left h1.2 _⟩
theorem B.add {a b : Nat} {i j : Int} (h1 : B a i) (h2 : B b j) : B (a + b) (i + j) :=
  ⟨Nat.lt_of_lt_of_le (by have := h1.1; have := h2.1; omega : (i + j).natAbs < 2 ^ a + 2 ^ b) (pow_sum h1.2 h2.2), Nat.add_pos_left h1.2 _⟩
theorem B.sub {a b : Nat} {i j : Int} (h1 : B a i) (h2 : B b j) : B (a + b) (i - j) :=
  ⟨Nat.lt_of_lt_of_le (by have := h1.1; have := h2.1; omega : (i - j).natAbs < 2 ^ a + 2 ^ b) (pow_sum h1.2 h2.2), Nat.add_pos_left h1.2 _⟩
theorem B.neg {a : Nat} {i : Int} (h1 : B a i) : B a (-i) := ⟨by rw [Int.natAbs_neg]; exact h1.1, h1.2⟩
theorem B.lit {i : Int} (h : i.natAbs < 2 ^ 64) : B 64 i := ⟨h, by decide⟩
theorem B.mono {a b : Nat} {i : Int} (h : B a i) (hab : a ≤ b) : B b i := ⟨Nat.lt_of_lt_of_le h.1 (Nat.pow_le_pow_right (by decide) hab), Nat.lt_of_lt_of_le h.2 hab⟩
theorem mulB {a b : Nat} {i j : Int} (h1 : B a i) (h2 : B b j) (h : a + b ≤ 1000000) : CMulW i j := wide_mul h1.1 h2.1 h1.2 h2.2 h
end Fr
namespace Fr
open PySem PySem.Spec PyProof.Rows L2
theorem shaped_tints (ns : List Int) : SeqAt.shaped (.tuple (ns.map .int)) = true := by
  have h : PyData.canLayAll0 (ns.map .int) = true ∧ PyData.depthAll (ns.map .int) ≤ 1 := by
    induction ns with
    | nil => exact ⟨rfl, by simp [PyData.depthAll]⟩
    | cons n r ih =>
      refine ⟨?_, ?_⟩
      · rw [List.map_cons, PyData.canLayAll0, ih.1]; simp [PyData.canLay0]
      · rw [List.map_cons, PyData.depthAll]; exact Nat.max_le.mpr ⟨by simp [PyData.depth], ih.2⟩
  unfold SeqAt.shaped
  rw [PyData.canLay0, PyData.depth, h.1]
  simp
  omega
end Fr
namespace Fr
open PySem PySem.Spec PyProof.Rows L2
section
variable {M : Model} {prog : Program} {w : World} {A : Around} {E : Value → Shared → Prop} {s : Shared} {K : PySem.W.Frag} {x C f : Addr} {ox : Obj} {od : Option Obj}
theorem ifBound_ne {args : List Value} {Q : Option Value → Shared → Prop} (X : K.In s.heap) (I : PySem.W.InstAt s.heap x ox C od) (hs : PySem.W.findIn K (.ref C) "__ne__" = some (some (.builtin "object.__ne__")))
    (h : wpAny M A (call (.builtin "object.__ne__") (.ref x :: args)) (fun v => Q (some v)) E s) : wpAny M A (callSpecialIfBound? (.ref x) "__ne__" args) Q E s := by
  simp only [callSpecialIfBound?, bindSpecialIfBound?]
  refine wpAny_holding (wpAny_bind (wpAny_bind (wpAny_bind (I.type.here ((PySem.W.looks_findIn X hs).here ?_)))))
  refine wpAny_bind (wpAny_askSetting (wpAny_ite ?_))
  have fin : wpAny M A (call (.builtin "object.__ne__") ([.ref x] ++ args) >>= fun v => pure (some v)) Q E s := wpAny_bind (wpAny_mono h (fun v s' h' => wpAny_pure h') fun _ _ h' => h')
  split
  · exact wpAny_bind (wpAny_of_eq (F.cmp_object.ne.bind _) (wpAny_pure (by exact fin)))
  · exact wpAny_tryCatch (wpAny_bind (wpAny_of_eq (F.cmp_object.ne.bind _) (wpAny_pure (by exact fin))))
def NeB (Q : Value → Shared → Prop) (v : Value) (s' : Shared) : Prop := ∃ b, v = .bool b ∧ Q (.bool (!b)) s'
theorem entry_ne {b : Value} {Q : Fin → Shared → Prop} (hu : A.units < cLine) (X : K.In s.heap) (I : PySem.W.InstAt s.heap x ox C od) (hs : PySem.W.findIn K (.ref C) "__eq__" = some (some (.ref f))) (hf : PySem.W.isFn K (.ref f) = true)
    (h : wpAny (model prog w) A (call (.ref f) [.ref x, b]) (NeB fun v s' => Q (.done (.ret v)) s') E s) : wpAny (model prog w) A (Builtin.«object.__ne__» ⟨[.ref x, b], []⟩) Q E s := by
  unfold Builtin.«object.__ne__»
  repeat (first | with_reducible refine wpAny_cRoomFor hu ?_ | (refine wpAny_bind (PySem.W.ifBound_K X I hs hf (wpAny_mono h (fun v s' hv => ?_) fun _ _ e => e))) | wp_step)
  all_goals (obtain ⟨b', rfl, q⟩ := hv)
  all_goals (repeat (first | wp_step))
  all_goals exact q
theorem ne_K {h₀ : Heap} {L : Addr} {m : Str → Option Value} {b tb : Value} {Q : Value → Shared → Prop} (hu : A.units + 1 < cLine) (F : Fr h₀ L s.heap m) (X₀ : K.In h₀) (I : PySem.W.InstAt s.heap x ox C od) (hb : PySem.W.Looks (model prog w) s.heap (typeOf b) tb) (hn : PySem.W.notFirst K C tb = true)
    (hne : PySem.W.findIn K (.ref C) "__ne__" = some (some (.builtin "object.__ne__"))) (hs : PySem.W.findIn K (.ref C) "__eq__" = some (some (.ref f))) (hf : PySem.W.isFn K (.ref f) = true) (hm : PySem.W.mroIn K C (.type "object") = some true)
    (h : wpAny (model prog w) A.in1 (call (.ref f) [.ref x, b]) (NeB Q) E s) : wpAny (model prog w) A (richCompare .NotEq (.ref x) b) Q E s := by
  have X := X₀.keeps F.keep
  have one : wpAny (model prog w) A (tryCompare (.ref x) "__ne__" b) (fun r s' => ∃ v, r = some v ∧ Q v s') E s := by
    unfold tryCompare
    refine wpAny_bind (ifBound_ne X I hne (wpAny_call (codeAny_call_builtin PySem.F.cmp_object.ne.plain PySem.F.cmpEntry_ne (PySem.W.check_slot PySem.F.cmpKind_ne PySem.F.cmpSplit_ne (I.type.andThen (PySem.W.looks_mroIn X hm)) (PySem.F.cmpArgs_ne _ _) ?_))))
    refine entry_ne (A := A.in1) hu X I hs hf (wpAny_mono h (fun v s' hv => ?_) fun _ _ e => e)
    obtain ⟨b', rfl, q⟩ := hv
    exact ⟨b', rfl, wpAny_pure ⟨_, rfl, q⟩⟩
  unfold richCompare
  simp only [oneThing_ref]
  refine wpAny_holding (wpAny_bind (wpAny_cRoomFor (Nat.lt_of_succ_lt hu) ?_))
  refine wpAny_bind (I.type.here (wpAny_bind (hb.here ?_)))
  split
  · rename_i q
    have e : PySem.W.subIn K tb (.ref C) = some false := by
      rcases Bool.or_eq_true_iff.mp hn with e | e
      · rw [beq_iff_eq.mp e] at q; simp at q
      · exact beq_iff_eq.mp e
    refine wpAny_bind ((PySem.W.looks_subIn X e).here ?_)
    simp only [Bool.false_eq_true, if_false]
    refine wpAny_bind (wpAny_mono one (fun r s' z => ?_) fun _ _ e => e)
    obtain ⟨v, rfl, hq⟩ := z
    exact wpAny_pure hq
  · refine wpAny_bind (wpAny_pure ?_)
    simp only [Bool.false_eq_true, if_false]
    refine wpAny_bind (wpAny_mono one (fun r s' z => ?_) fun _ _ e => e)
    obtain ⟨v, rfl, hq⟩ := z
    exact wpAny_pure hq
end
section
variable {X : Cx} {CX : CXT} {C f : Addr} {fd : FuncData} {ps : List Str} {k : Nat} {sp : Sp} {E : XK}
structure EqC (K : PySem.W.Frag) (C f : Addr) : Prop where
  eq : PySem.W.findIn K (.ref C) "__eq__" = some (some (.ref f))
  fn : PySem.W.isFn K (.ref f) = true
  ne : PySem.W.findIn K (.ref C) "__ne__" = some (some (.builtin "object.__ne__"))
  mo : PySem.W.mroIn K C (.type "object") = some true
def rEqI (K : PySem.W.Frag) (C : Addr) (sp : Sp) (E : XK) (neg : Bool) : R2 := fun x y H Q => ∃ a dx fs tb, x = .ref a ∧ H a = some (.ins C dx fs) ∧ TyX K H y tb ∧ PySem.W.notFirst K C tb = true ∧ sp [x, y] H (fun v H' => ∃ b, v = .bl b ∧ Q (.bl (if neg = true then !b else b)) H') E
theorem op_eqI (c : EqC X.K C f) (F : FnOk X.prog X.w X.K X.mg X.base CX k f fd ps sp) (hb : Binds X.K fd ps []) (hr : Room k X.A) (hx : Passes CX X E) : OpR X (compareOp .Eq) (rEqI X.K C sp E false) := by
  intro pins s σ H x y v u Q I rx ry h
  obtain ⟨a, dx, fs, tb, rfl, ha, ty, hn, q⟩ := h
  cases (show v = Value.ref a from rx)
  obtain ⟨mA, J, _⟩ := ins_get I.hok ha
  obtain ⟨od, J, _⟩ := J.look
  obtain ⟨m, hF⟩ := I.fr
  obtain ⟨P, kt, hP, _⟩ := kit_of I ry ty
  refine PySem.W.cmp_K (op := .Eq) hr.units0 hF I.ok.mod.kin J (kt.ty _ _ I.kIn hP) hn c.eq c.fn ?_
  refine wpAny_mono (run_fn (us := [.ref a, u]) (vs := [.ref a, y]) F hr hb .nil hx I (.cons rfl (.cons ry .nil)) q) (fun w s' z => ?_) fun _ _ x => x
  obtain ⟨z', H', I', rz, b, rfl, qz⟩ := z
  cases (show w = Value.bool b from rz)
  exact ⟨.bl b, H', I', rfl, qz⟩
theorem op_neI (c : EqC X.K C f) (F : FnOk X.prog X.w X.K X.mg X.base CX k f fd ps sp) (hb : Binds X.K fd ps []) (hr : Room (k + 1) X.A) (hx : Passes CX X E) : OpR X (compareOp .NotEq) (rEqI X.K C sp E true) := by
  intro pins s σ H x y v u Q I rx ry h
  obtain ⟨a, dx, fs, tb, rfl, ha, ty, hn, q⟩ := h
  cases (show v = Value.ref a from rx)
  obtain ⟨mA, J, _⟩ := ins_get I.hok ha
  obtain ⟨od, J, _⟩ := J.look
  obtain ⟨m, hF⟩ := I.fr
  obtain ⟨P, kt, hP, _⟩ := kit_of I ry ty
  refine ne_K (Nat.lt_of_le_of_lt (Nat.add_le_add_left (by decide : 1 ≤ 64) _) hr.units) hF I.ok.mod.kin J (kt.ty _ _ I.kIn hP) hn c.ne c.eq c.fn c.mo ?_
  refine wpAny_call (codeAny_mono ((F.raw hb .nil) X.A.in1 X.stack s H [.ref a, u] [.ref a, y] _ E hr.in1 I.env0.in1 (.cons rfl (.cons ry .nil)) q) fun r s' hq => ?_)
  cases r with
  | error e => exact hx pins σ H s e s' I hq
  | ok fl =>
    cases fl with
    | ret w =>
      obtain ⟨z', H', I', rz, b, rfl, qz⟩ := I.after hq
      cases (show w = Value.bool b from rz)
      exact ⟨b, rfl, .bl (!b), H', I', rfl, qz⟩
    | next => exact False.elim hq
    | brk => exact False.elim hq
    | cont => exact False.elim hq
structure TyI (K : PySem.W.Frag) (C : Addr) : Prop where
  ca : PySem.W.findIn K (.ref C) "__class__" = some (some (.builtin "object.__class__"))
  cn : PySem.W.specialIn K (.builtin "object.__class__") "__get__" = some (some (.builtin "getset_descriptor.__get__"))
  ct : PySem.W.takesIn K (.builtin "object.__class__") = some true
  cm : PySem.W.mroIn K C (.type "object") = some true
theorem ty_ins {K : PySem.W.Frag} {C a dx : Addr} {H : Hp} {fs : List (Str × V)} (t : TyI K C) (cl : Cls K C) (e : H a = some (.ins C dx fs)) : TyX K H (.ref a) (.ref C) := .base (.ins e cl t.ca t.cn t.ct t.cm)
theorem first_self {K : PySem.W.Frag} {C : Addr} : PySem.W.notFirst K C (.ref C) = true := by simp [PySem.W.notFirst]
theorem kit_self {K : PySem.W.Frag} {C : Addr} : PySem.W.kitOne K (.ref C) (.ref C) = some true := by simp [PySem.W.kitOne]
theorem un_negI (c : Meth X.K C "__neg__" f) (F : FnOk X.prog X.w X.K X.mg X.base CX k f fd ps sp) (hb : Binds X.K fd ps []) (hr : Room k X.A) (hx : Passes CX X E) :
    UnR X (unaryOp .USub) (fun x H Q => ∃ a dx fs, x = .ref a ∧ H a = some (.ins C dx fs) ∧ sp [x] H Q E) := by
  intro pins s σ H x v Q I rx h
  obtain ⟨a, dx, fs, rfl, ha, q⟩ := h
  cases (show v = Value.ref a from rx)
  obtain ⟨mA, J, _⟩ := ins_get I.hok ha
  obtain ⟨od, J, _⟩ := J.look
  obtain ⟨m, hF⟩ := I.fr
  exact PySem.W.ksp_neg hF I.ok.mod.kin J c.at_ c.fn (run_fn (us := [.ref a]) (vs := [.ref a]) F hr hb .nil hx I (.cons rfl .nil) q)
def MDef (R : Addr → Addr → Prop) (P : Program) (w : World) (K : PySem.W.Frag) (mg : Str → Option Value) (base : Heap) (k : Nat) (ps : List Str) (sp : Sp) : Prop :=
  ∃ p f fd, R p f ∧ Binds K fd ps [] ∧ FnOk P w K mg base CX0 k f fd ps sp
end
section
variable {X : Cx} {K : PySem.W.Frag}
theorem call_isiKK (hK : X.K = K) : CallR X (.builtin "isinstance") (rIsi K) := hK ▸ call_isi
end
section
variable {X : Cx}
theorem pi_or {tg l : Expr} {wa wb : TI} (a : PI X tg l wa) (b : PI X tg l wb) : PI X tg l (fun σ H R => wa σ H R ∨ wb σ H R) := ⟨fun pins s σ H R I h => h.elim (fun z => a.run pins s σ H R I z) (fun z => b.run pins s σ H R I z)⟩
end
abbrev XA (K : PySem.W.Frag) (x : Str) : Addr := He.ga K x
structure Xc (K : PySem.W.Frag) (mg : Str → Option Value) (x : Str) (bm : List Value) (newId : String) : Prop where
  g : mg x = some (.ref (XA K x))
  ex : PySem.W.excIn K (XA K x) bm newId = true
  kp : PySem.W.keepIn K (.ref (XA K x)) = true
  sb : PySem.W.subIn K (.ref (XA K x)) (.type "BaseException") = some true
  ty : PySem.W.typeIn K (.ref (XA K x)) = some (.type "type")
  te : PySem.W.exmOne K (.ref (XA K x)) (.ref (XA K x)) = some true
def DefX (P : Program) (w : World) (K : PySem.W.Frag) (mg : Str → Option Value) (base : Heap) (k : Nat) (x : Str) (ps : List Str) (sp : Sp) : Prop :=
  ∃ f fd, mg x = some (.ref f) ∧ PySem.W.keepIn K (.ref f) = true ∧ Binds K fd ps [] ∧ FnOk P w K mg base (L2.CX P w) k f fd ps sp
end Fr
set_option linter.all false
namespace K01
inductive TF : Nat → Nat → List (Nat × Nat) → Prop where
  | stop1 {l d : Nat} (h : l < d * d) (h1 : 1 < l) : TF l d [(l, 1)]
  | stop0 {l d : Nat} (h : l < d * d) (h1 : ¬ 1 < l) : TF l d []
  | skip {l d : Nat} {r : List (Nat × Nat)} (h : d * d ≤ l) (h1 : l % d ≠ 0) (t : TF l (d + 1) r) : TF l d r
  | take {l d m k : Nat} {r : List (Nat × Nat)} (h : d * d ≤ l) (hm : m % d ≠ 0) (hk : 0 < k) (e : l = m * d ^ k) (t : TF m (d + 1) r) : TF l d ((d, k) :: r)
theorem pow_mod {m d k : Nat} (hk : 0 < k) : (m * d ^ k) % d = 0 := by
  obtain ⟨j, rfl⟩ : ∃ j, k = j + 1 := ⟨k - 1, by omega⟩
  rw [Nat.pow_succ, ← Nat.mul_assoc]
  exact Nat.mul_mod_left _ _
theorem strip_uniq {d : Nat} (hd : 2 ≤ d) : ∀ {k k' m m' : Nat}, m * d ^ k = m' * d ^ k' → m % d ≠ 0 → m' % d ≠ 0 → m = m' ∧ k = k'
  | 0, 0, m, m', e, _, _ => ⟨by simpa using e, rfl⟩
  | 0, k' + 1, m, m', e, h, _ => by
    exfalso
    apply h
    have : m = m' * d ^ (k' + 1) := by simpa using e
    rw [this]
    exact pow_mod (Nat.succ_pos _)
  | k + 1, 0, m, m', e, _, h' => by
    exfalso
    apply h'
    have : m' = m * d ^ (k + 1) := by simpa using e.symm
    rw [this]
    exact pow_mod (Nat.succ_pos _)
  | k + 1, k' + 1, m, m', e, h, h' => by
    have e2 : m * d ^ k = m' * d ^ k' := by
      rw [Nat.pow_succ, Nat.pow_succ, ← Nat.mul_assoc, ← Nat.mul_assoc] at e
      exact Nat.eq_of_mul_eq_mul_right (by omega) e
    have := strip_uniq hd e2 h h'
    exact ⟨this.1, by omega⟩
theorem TF.det {l d : Nat} {r : List (Nat × Nat)} (t : TF l d r) : 2 ≤ d → ∀ {r'}, TF l d r' → r = r' := by
  induction t with
  | stop1 h h1 =>
    intro hd r' t'
    cases t' with
    | stop1 => rfl
    | stop0 _ h2 => exact absurd h1 h2
    | skip h2 => omega
    | take h2 => omega
  | stop0 h h1 =>
    intro hd r' t'
    cases t' with
    | stop1 _ h2 => exact absurd h2 h1
    | stop0 => rfl
    | skip h2 => omega
    | take h2 => omega
  | skip h h1 t ih =>
    intro hd r' t'
    cases t' with
    | stop1 h2 => omega
    | stop0 h2 => omega
    | skip _ _ t2 => exact ih (by omega) t2
    | take _ _ hk e _ => exact absurd (by rw [e]; exact pow_mod hk) h1
  | take h hm hk e t ih =>
    intro hd r' t'
    cases t' with
    | stop1 h2 => omega
    | stop0 h2 => omega
    | skip _ h2 _ => exact absurd (by rw [e]; exact pow_mod hk) h2
    | take _ hm' hk' e' t2 =>
      obtain ⟨a, b⟩ := strip_uniq hd (e.symm.trans e') hm hm'
      subst a
      subst b
      rw [ih (by omega) t2]
theorem TF.two {m d : Nat} {r : List (Nat × Nat)} (hm : m % 2 = 1) (hd : d % 2 = 1) (t : TF m (d + 2) r) : TF m (d + 1) r := by
  by_cases h : (d + 1) * (d + 1) ≤ m
  · refine .skip h ?_ t
    intro z
    have : m % 2 = 0 := by
      have h2 : 2 ∣ d + 1 := ⟨(d + 1) / 2, by omega⟩
      have h3 : d + 1 ∣ m := Nat.dvd_of_mod_eq_zero z
      exact Nat.mod_eq_zero_of_dvd (Nat.dvd_trans h2 h3)
    omega
  · have h' : m < (d + 1) * (d + 1) := by omega
    have h2 : m < (d + 2) * (d + 2) := Nat.lt_of_lt_of_le h' (Nat.mul_le_mul (by omega) (by omega))
    cases t with
    | stop1 _ h1 => exact .stop1 h' h1
    | stop0 _ h1 => exact .stop0 h' h1
    | skip h3 => omega
    | take h3 => omega
theorem TF.skips {l b : Nat} {r : List (Nat × Nat)} (t : TF l b r) : ∀ (n a : Nat), a + n = b → (∀ d, a ≤ d → d < b → d * d ≤ l ∧ l % d ≠ 0) → TF l a r
  | 0, a, e, _ => by
    have : a = b := by omega
    rw [this]
    exact t
  | n + 1, a, e, h => .skip (h a (Nat.le_refl _) (by omega)).1 (h a (Nat.le_refl _) (by omega)).2 (TF.skips t n (a + 1) (by omega) fun d h1 h2 => h d (by omega) h2)
def strip : Nat → Nat → Nat → Nat × Nat
  | 0, l, _ => (l, 0)
  | f + 1, l, d => if l % d = 0 then ((strip f (l / d) d).1, (strip f (l / d) d).2 + 1) else (l, 0)
theorem strip_ok {d : Nat} (hd : 2 ≤ d) : ∀ (f l : Nat), 0 < l → l ≤ f → l = (strip f l d).1 * d ^ (strip f l d).2 ∧ (strip f l d).1 % d ≠ 0 ∧ (l % d = 0 → 0 < (strip f l d).2)
  | 0, l, h, h1 => by omega
  | f + 1, l, h, h1 => by
    unfold strip
    by_cases z : l % d = 0
    · rw [if_pos z]
      have hdl : d ≤ l := Nat.le_of_dvd h (Nat.dvd_of_mod_eq_zero z)
      have h2 : 0 < l / d := Nat.div_pos hdl (by omega)
      have h3 : l / d < l := Nat.div_lt_self h (by omega)
      obtain ⟨a, b, _⟩ := strip_ok hd f (l / d) h2 (by omega)
      refine ⟨?_, b, fun _ => Nat.succ_pos _⟩
      show l = (strip f (l / d) d).1 * d ^ ((strip f (l / d) d).2 + 1)
      rw [Nat.pow_succ, ← Nat.mul_assoc, ← a]
      exact (Nat.div_mul_cancel (Nat.dvd_of_mod_eq_zero z)).symm
    · rw [if_neg z]
      exact ⟨by simp, z, fun y => absurd y z⟩
def tf : Nat → Nat → Nat → List (Nat × Nat)
  | 0, l, _ => if 1 < l then [(l, 1)] else []
  | f + 1, l, d => if d * d ≤ l then (if l % d = 0 then (d, (strip l l d).2) :: tf f (strip l l d).1 (d + 1) else tf f l (d + 1)) else (if 1 < l then [(l, 1)] else [])
theorem tf_end {l d : Nat} (h : l < d * d) : TF l d (if 1 < l then [(l, 1)] else []) := by
  by_cases z : 1 < l
  · rw [if_pos z]; exact .stop1 h z
  · rw [if_neg z]; exact .stop0 h z
theorem tf_ok : ∀ (f l d : Nat), 2 ≤ d → l < d + f → TF l d (tf f l d)
  | 0, l, d, hd, h => tf_end (Nat.lt_of_lt_of_le (by omega : l < d) (Nat.le_mul_of_pos_left d (by omega)))
  | f + 1, l, d, hd, h => by
    unfold tf
    by_cases z : d * d ≤ l
    · rw [if_pos z]
      by_cases y : l % d = 0
      · rw [if_pos y]
        have hl : 0 < l := Nat.lt_of_lt_of_le (Nat.mul_pos (by omega) (by omega)) z
        obtain ⟨a, b, c⟩ := strip_ok hd l l hl (Nat.le_refl _)
        refine .take z b (c y) a (tf_ok f _ _ (by omega) ?_)
        have : (strip l l d).1 ≤ l := by
          conv => rhs; rw [a]
          exact Nat.le_mul_of_pos_right _ (Nat.pow_pos (by omega))
        omega
      · rw [if_neg y]
        exact .skip z y (tf_ok f l (d + 1) (by omega) (by omega))
    · rw [if_neg z]
      exact tf_end (by omega)
def fac (n : Nat) : List (Nat × Nat) := tf n n 2
theorem fac_ok (n : Nat) : TF n 2 (fac n) := tf_ok n n 2 (by omega) (by omega)
theorem TF.fac {n : Nat} {r : List (Nat × Nat)} (t : TF n 2 r) : r = fac n := t.det (by omega) (fac_ok n)
theorem TF.pos {l d : Nat} {r : List (Nat × Nat)} (t : TF l d r) : ∀ q ∈ r, 0 < q.2 := by
  induction t with
  | stop1 => intro q hq; simp at hq; rw [hq]; exact Nat.one_pos
  | stop0 => intro q hq; simp at hq
  | skip _ _ _ ih => exact ih
  | take _ _ hk _ _ ih =>
    intro q hq
    rcases List.mem_cons.mp hq with h | h
    · rw [h]; exact hk
    · exact ih q h
theorem TF.len {l d : Nat} {r : List (Nat × Nat)} (t : TF l d r) : 2 ≤ d → 1 ≤ l → 2 ^ r.length ≤ l := by
  induction t with
  | stop1 h h1 => intro _ _; exact h1
  | stop0 h h1 => intro _ h2; exact h2
  | skip _ _ _ ih => intro h2 h3; exact ih (by omega) h3
  | @take l d m k r h hm hk e t ih =>
    intro h2 h3
    have m1 : 1 ≤ m := by
      rcases Nat.eq_zero_or_pos m with z | z
      · subst z; simp at hm
      · exact z
    have := ih (by omega) m1
    rw [List.length_cons, Nat.pow_succ, e]
    obtain ⟨j, rfl⟩ : ∃ j, k = j + 1 := ⟨k - 1, by omega⟩
    exact Nat.mul_le_mul this (Nat.le_trans h2 (by rw [Nat.pow_succ]; exact Nat.le_mul_of_pos_left _ (Nat.pow_pos (by omega))))
theorem fac_len {n : Nat} (h : 1 ≤ n) (h2 : n < 2 ^ 100) : (fac n).length < 100 := by
  have := (fac_ok n).len (by omega) h
  exact (Nat.pow_lt_pow_iff_right (by decide : 1 < 2)).mp (Nat.lt_of_le_of_lt this h2)
def Pr (n : Nat) : Prop := 2 ≤ n ∧ ∀ c, 2 ≤ c → c * c ≤ n → n % c ≠ 0
theorem TF.pr {l d : Nat} {r : List (Nat × Nat)} (t : TF l d r) : 2 ≤ d → 2 ≤ l → (r = [(l, 1)] ↔ ∀ c, d ≤ c → c * c ≤ l → l % c ≠ 0) := by
  induction t with
  | stop1 h h1 =>
    intro hd hl
    refine ⟨fun _ c hc h2 => ?_, fun _ => rfl⟩
    exact absurd (Nat.lt_of_lt_of_le h (Nat.mul_le_mul hc hc)) (by omega)
  | stop0 h h1 => intro hd hl; omega
  | @skip l d r h h1 t ih =>
    intro hd hl
    rw [ih (by omega) hl]
    refine ⟨fun q c hc h2 => ?_, fun q c hc h2 => q c (by omega) h2⟩
    rcases Nat.lt_or_ge d c with h3 | h3
    · exact q c h3 h2
    · have : c = d := by omega
      rw [this]; exact h1
  | @take l d m k r h hm hk e t ih =>
    intro hd hl
    refine ⟨fun q => ?_, fun q => ?_⟩
    · exfalso
      have := (List.cons.inj q).1
      have e1 : d = l := congrArg Prod.fst this
      have : d * 2 ≤ d * d := Nat.mul_le_mul_left d hd
      omega
    · exact absurd (by rw [e]; exact pow_mod hk) (q d (Nat.le_refl _) h)
theorem fac_pr {n : Nat} (h1 : 1 ≤ n) : fac n = [(n, 1)] ↔ Pr n := by
  by_cases h : 2 ≤ n
  · rw [(fac_ok n).pr (by omega) h]
    exact ⟨fun q => ⟨h, q⟩, fun q => q.2⟩
  · have : n = 1 := by omega
    subst this
    refine ⟨fun q => ?_, fun q => absurd q.1 h⟩
    exact absurd q (by decide)
def sqf (m : Nat) : Bool := (fac m).all fun q => q.2 == 1
def fund (n : Int) : Bool := if n % 4 = 1 then sqf n.natAbs else if n % 4 ≠ 0 then false else (decide ((n / 4) % 4 = 2) || decide ((n / 4) % 4 = 3)) && sqf (n / 4).natAbs
def chk (n lo : Nat) : Nat → Bool
  | 0 => true
  | k + 1 => (n % (lo + k) != 0) && chk n lo k
theorem chk_ok {n lo : Nat} : ∀ (k : Nat), chk n lo k = true → ∀ d, lo ≤ d → d < lo + k → n % d ≠ 0
  | 0, _, d, h1, h2 => by omega
  | k + 1, h, d, h1, h2 => by
    unfold chk at h
    rw [Bool.and_eq_true] at h
    rcases Nat.lt_or_ge d (lo + k) with h3 | h3
    · exact chk_ok k h.2 d h1 h3
    · have : d = lo + k := by omega
      rw [this]
      intro z
      have := h.1
      rw [z] at this
      exact absurd this (by decide)
def chks (n : Nat) : Nat → Bool
  | 0 => true
  | k + 1 => chk n (1000 * k + 2) 1000 && chks n k
theorem chks_ok {n : Nat} : ∀ (k : Nat), chks n k = true → ∀ d, 2 ≤ d → d < 1000 * k + 2 → n % d ≠ 0
  | 0, _, d, h1, h2 => by omega
  | k + 1, h, d, h1, h2 => by
    unfold chks at h
    rw [Bool.and_eq_true] at h
    rcases Nat.lt_or_ge d (1000 * k + 2) with h3 | h3
    · exact chks_ok k h.2 d h1 h3
    · exact chk_ok 1000 h.1 d h3 (by omega)
theorem great_chk : chks (99991 * 99989) 99 = true := by decide +kernel
theorem great_chk2 : chk (99991 * 99989) 99002 987 = true := by decide +kernel
theorem great_fac : fac (99991 * 99989) = [(99989, 1), (99991, 1)] := by
  refine ((TF.fac ?_)).symm
  refine TF.skips (b := 99989) ?_ 99987 2 (by omega) (fun d h1 h2 => ⟨?_, ?_⟩)
  · refine .take (m := 99991) (k := 1) (by omega) (by omega) (by omega) (by omega) ?_
    exact .stop1 (by omega) (by omega)
  · calc d * d ≤ 99989 * 99989 := Nat.mul_le_mul (by omega) (by omega)
      _ ≤ _ := by omega
  · rcases Nat.lt_or_ge d 99002 with h | h
    · exact chks_ok 99 great_chk d h1 (by omega)
    · exact chk_ok 987 great_chk2 d h (by omega)
theorem pr_a : Pr 999983 := by
  refine ⟨by decide, fun c h1 h2 => ?_⟩
  have h3 : c < 1000 := by
    rcases Nat.lt_or_ge c 1000 with h | h
    · exact h
    · have := Nat.mul_le_mul h h
      omega
  exact chk_ok 998 (by decide +kernel : chk 999983 2 998 = true) c h1 (by omega)
theorem pr_b : ¬ Pr 988027 := fun h => h.2 991 (by decide) (by decide) (by decide)
theorem fund_list : ((List.range 38).map fun (i : Nat) => fund ((-24 : Int) + (i : Int))) = [true, true, false, false, true, true, false, false, false, true, false, false, false, true, false, false, true, true, false, false, true, true, false, false, false, true, false, false, false, true, false, false, true, false, false, false, true, true] := by decide +kernel
end K01
namespace K01
def Strong (n o h a : Nat) : Prop := a ^ o % n = 1 ∨ ∃ s, s < h ∧ a ^ (o * 2 ^ s) % n = n - 1
theorem sq_end {n : Nat} (h : 1 < n) : (n - 1) * (n - 1) % n = 1 := by
  obtain ⟨m, rfl⟩ : ∃ m, n = m + 2 := ⟨n - 2, by omega⟩
  have : (m + 2 - 1) * (m + 2 - 1) = 1 + (m + 2) * m := by
    show (m + 1) * (m + 1) = _
    grind
  rw [this, Nat.add_mul_mod_self_left]
  exact Nat.mod_eq_of_lt (by omega)
theorem one_pow_mod {x n k : Nat} (h : 1 < n) (e : x % n = 1) : x ^ k % n = 1 := by
  rw [Nat.pow_mod, e, Nat.one_pow]
  exact Nat.mod_eq_of_lt h
theorem Strong.fermat {n o h a : Nat} (h1 : 1 < n) (e : n - 1 = o * 2 ^ h) (s : Strong n o h a) : a ^ (n - 1) % n = 1 := by
  rcases s with s | ⟨s, hs, q⟩
  · rw [e, Nat.pow_mul]
    exact one_pow_mod h1 s
  · obtain ⟨j, rfl⟩ : ∃ j, h = s + 1 + j := ⟨h - s - 1, by omega⟩
    have e2 : o * 2 ^ (s + 1 + j) = (o * 2 ^ s) * 2 * 2 ^ j := by
      rw [Nat.pow_add, Nat.pow_succ]
      grind
    rw [e, e2, Nat.pow_mul, Nat.pow_mul]
    refine one_pow_mod h1 ?_
    rw [Nat.pow_mod, q, Nat.pow_two]
    exact sq_end h1
def pm : Nat → Nat → Nat → Nat → Nat → Nat
  | 0, acc, _, _, _ => acc
  | f + 1, acc, a, e, n => cond (Nat.beq (e % 2) 1) (pm f (acc * a % n) (a * a % n) (e / 2) n) (pm f acc (a * a % n) (e / 2) n)
theorem pm_ok : ∀ (f acc a e n : Nat), e < 2 ^ f → pm f acc a e n % n = acc * a ^ e % n
  | 0, acc, a, e, n, h => by
    have : e = 0 := by simpa using h
    subst this
    show acc % n = _
    rw [Nat.pow_zero, Nat.mul_one]
  | f + 1, acc, a, e, n, h => by
    have h2 : e / 2 < 2 ^ f := by rw [Nat.pow_succ] at h; omega
    have sq : a ^ (2 * (e / 2)) = (a * a) ^ (e / 2) := by rw [Nat.pow_mul, Nat.pow_two]
    show (cond (Nat.beq (e % 2) 1) (pm f (acc * a % n) (a * a % n) (e / 2) n) (pm f acc (a * a % n) (e / 2) n)) % n = _
    rcases Nat.mod_two_eq_zero_or_one e with z | z
    · rw [z]
      show pm f acc (a * a % n) (e / 2) n % n = _
      rw [pm_ok f _ _ _ _ h2]
      have ee : e = 2 * (e / 2) := by omega
      conv => rhs; rw [ee, sq]
      rw [Nat.mul_mod, ← Nat.pow_mod, ← Nat.mul_mod]
    · rw [z]
      show pm f (acc * a % n) (a * a % n) (e / 2) n % n = _
      rw [pm_ok f _ _ _ _ h2]
      have ee : e = 2 * (e / 2) + 1 := by omega
      conv => rhs; rw [ee, Nat.pow_succ, sq, Nat.mul_comm ((a * a) ^ (e / 2)) a, ← Nat.mul_assoc]
      rw [Nat.mul_mod, Nat.mod_mod, ← Nat.pow_mod, ← Nat.mul_mod]
theorem pm_lt : ∀ (f acc a e n : Nat), 0 < n → acc < n → pm f acc a e n < n
  | 0, acc, a, e, n, _, h => h
  | f + 1, acc, a, e, n, hn, h => by
    show (cond (Nat.beq (e % 2) 1) (pm f (acc * a % n) (a * a % n) (e / 2) n) (pm f acc (a * a % n) (e / 2) n)) < n
    cases Nat.beq (e % 2) 1
    · exact pm_lt f _ _ _ _ hn h
    · exact pm_lt f _ _ _ _ hn (Nat.mod_lt _ hn)
def sqs : Nat → Nat → Nat → Bool
  | 0, _, _ => true
  | h + 1, x, n => cond (Nat.beq x (n - 1)) false (sqs h (x * x % n) n)
theorem sqs_ok : ∀ (h x n : Nat), x < n → sqs h x n = true → ∀ s, s < h → x ^ (2 ^ s) % n ≠ n - 1
  | 0, _, _, _, _, s, hs => by omega
  | h + 1, x, n, hx, q, s, hs => by
    have q' : cond (Nat.beq x (n - 1)) false (sqs h (x * x % n) n) = true := q
    cases z : Nat.beq x (n - 1) with
    | true => rw [z] at q'; cases q'
    | false =>
      rw [z] at q'
      have ne : x ≠ n - 1 := fun e => by rw [e, Nat.beq_refl] at z; cases z
      match s with
      | 0 =>
        rw [Nat.pow_zero, Nat.pow_one, Nat.mod_eq_of_lt hx]
        exact ne
      | s + 1 =>
        have := sqs_ok h (x * x % n) n (Nat.mod_lt _ (by omega)) q' s (by omega)
        rw [Nat.pow_succ, Nat.mul_comm, Nat.pow_mul, Nat.pow_two]
        rw [← Nat.pow_mod] at this
        exact this
def odd2 : Nat → Nat → Nat → Nat × Nat
  | 0, o, h => (o, h)
  | f + 1, o, h => cond (Nat.beq (o % 2) 0) (odd2 f (o / 2) (h + 1)) (o, h)
theorem odd2_ok : ∀ (f o h : Nat), (odd2 f o h).1 * 2 ^ (odd2 f o h).2 = o * 2 ^ h
  | 0, _, _ => rfl
  | f + 1, o, h => by
    show (cond (Nat.beq (o % 2) 0) (odd2 f (o / 2) (h + 1)) (o, h)).1 * 2 ^ (cond (Nat.beq (o % 2) 0) (odd2 f (o / 2) (h + 1)) (o, h)).2 = _
    cases z : Nat.beq (o % 2) 0 with
    | true =>
      have z' : o % 2 = 0 := Nat.eq_of_beq_eq_true z
      show (odd2 f (o / 2) (h + 1)).1 * 2 ^ (odd2 f (o / 2) (h + 1)).2 = _
      rw [odd2_ok f, Nat.pow_succ, Nat.mul_comm (2 ^ h) 2, ← Nat.mul_assoc, Nat.div_mul_cancel (Nat.dvd_of_mod_eq_zero z')]
    | false => rfl
def failsX (n x h : Nat) : Bool := cond (Nat.beq x 1) false (sqs h x n)
def failsO (n a : Nat) (p : Nat × Nat) : Bool := cond (Nat.beq (p.1 % 2) 1) (failsX n (pm 40 1 a p.1 n) p.2) false
def fails (n a : Nat) : Bool := failsO n a (odd2 40 (n - 1) 0)
theorem fails_ok {n a o h : Nat} (h1 : 2 < n) (h2 : n < 2 ^ 40) (e : n - 1 = o * 2 ^ h) (ho : o % 2 = 1) (f : fails n a = true) : ¬ Strong n o h a := by
  unfold fails failsO at f
  have u := odd2_ok 40 (n - 1) 0
  generalize odd2 40 (n - 1) 0 = p at f u
  obtain ⟨o', h'⟩ := p
  rw [Nat.pow_zero, Nat.mul_one] at u
  have u' : o' * 2 ^ h' = n - 1 := u
  cases z : Nat.beq (o' % 2) 1 with
  | false => simp only [z, cond_false] at f; cases f
  | true =>
    simp only [z, cond_true] at f
    have z' := Nat.eq_of_beq_eq_true z
    obtain ⟨rfl, rfl⟩ := strip_uniq (d := 2) (by omega) (u'.trans e) (by omega) (by omega)
    unfold failsX at f
    have hlt : o' < 2 ^ 40 := by
      have : o' ≤ o' * 2 ^ h' := Nat.le_mul_of_pos_right _ (Nat.pow_pos (by omega))
      omega
    have hx := pm_ok 40 1 a o' n hlt
    have hx2 := pm_lt 40 1 a o' n (by omega) (by omega)
    rw [Nat.mod_eq_of_lt hx2, Nat.one_mul] at hx
    rw [hx] at f
    cases y : Nat.beq (a ^ o' % n) 1 with
    | true => rw [y] at f; cases f
    | false =>
      rw [y] at f
      have ne : a ^ o' % n ≠ 1 := fun e => by rw [e] at y; cases y
      rintro (s | ⟨s, hs, q⟩)
      · exact ne s
      · have := sqs_ok h' (a ^ o' % n) n (Nat.mod_lt _ (by omega)) f s hs
        rw [← Nat.pow_mod, ← Nat.pow_mul] at this
        exact this q
def isD (p d : Nat) : Bool := Nat.beq (pm 14 1 2 d p) 1 && (Nat.beq (pm 14 1 3 d p) 1 && (Nat.beq (pm 14 1 5 d p) 1 && (Nat.beq (pm 14 1 7 d p) 1 && (Nat.beq (pm 14 1 11 d p) 1 && Nat.beq (pm 14 1 13 d p) 1))))
def DD (p d : Nat) : Prop := ∀ a ∈ [2, 3, 5, 7, 11, 13], a ^ d % p = 1
theorem pm_one {p d a : Nat} (hp : 1 < p) (hd : d < 2 ^ 14) : Nat.beq (pm 14 1 a d p) 1 = true ↔ a ^ d % p = 1 := by
  have hx := pm_ok 14 1 a d p hd
  have hx2 := pm_lt 14 1 a d p (by omega) (by omega)
  rw [Nat.mod_eq_of_lt hx2, Nat.one_mul] at hx
  rw [hx]
  exact ⟨Nat.eq_of_beq_eq_true, fun e => by rw [e]; rfl⟩
theorem isD_ok {p d : Nat} (hp : 1 < p) (hd : d < 2 ^ 14) : isD p d = true ↔ DD p d := by
  unfold isD DD
  simp only [Bool.and_eq_true, pm_one hp hd, List.mem_cons, List.mem_nil_iff, or_false, forall_eq_or_imp, forall_eq]
theorem DD.mod {p x y : Nat} (hp : 1 < p) (hx : DD p x) (hy : DD p y) : DD p (x % y) := fun a ha => by
  have h1 := hx a ha
  have h2 := hy a ha
  rw [← Nat.div_add_mod x y, Nat.pow_add, Nat.pow_mul, Nat.mul_mod, one_pow_mod hp h2, Nat.one_mul, Nat.mod_mod] at h1
  exact h1
theorem DD.gcd {p : Nat} (hp : 1 < p) : ∀ (m x y : Nat), x ≤ m → DD p x → DD p y → DD p (Nat.gcd x y)
  | 0, x, y, h, hx, hy => by
    have : x = 0 := by omega
    subst this
    rw [Nat.gcd_zero_left]
    exact hy
  | m + 1, x, y, h, hx, hy => by
    rcases Nat.eq_zero_or_pos x with z | z
    · subst z
      rw [Nat.gcd_zero_left]
      exact hy
    · rw [Nat.gcd_rec]
      exact DD.gcd hp m _ _ (by have := Nat.mod_lt y z; omega) (hy.mod hp hx) hx
def mins : Nat → Nat → Nat → Bool
  | 0, _, _ => true
  | r + 1, p, d => cond (Nat.beq (d % (r + 1)) 0) ((Nat.beq r 0 || !(isD p (d / (r + 1)))) && (Nat.beq (r + 1) d || !(isD p (r + 1)))) true && mins r p d
theorem mins_ok {p d : Nat} : ∀ (k : Nat), mins k p d = true → ∀ r, 1 ≤ r → r ≤ k → d % r = 0 → (r = 1 ∨ isD p (d / r) = false) ∧ (r = d ∨ isD p r = false)
  | 0, _, r, h1, h2, _ => by omega
  | k + 1, h, r, h1, h2, hd => by
    have h' : (cond (Nat.beq (d % (k + 1)) 0) ((Nat.beq k 0 || !(isD p (d / (k + 1)))) && (Nat.beq (k + 1) d || !(isD p (k + 1)))) true && mins k p d) = true := h
    rw [Bool.and_eq_true] at h'
    rcases Nat.lt_or_ge r (k + 1) with z | z
    · exact mins_ok k h'.2 r h1 (by omega) hd
    · have : r = k + 1 := by omega
      subst this
      have h3 := h'.1
      rw [hd] at h3
      simp only [Nat.beq_refl, cond_true, Bool.and_eq_true, Bool.or_eq_true, Bool.not_eq_true'] at h3
      refine ⟨h3.1.imp (fun e => by have := Nat.eq_of_beq_eq_true e; omega) id, h3.2.imp Nat.eq_of_beq_eq_true id⟩
theorem D_dvd {p d x : Nat} (hp : 1 < p) (hd : d < 2 ^ 14) (d1 : 1 ≤ d) (d4 : d ≤ 10000) (h0 : DD p d) (hm : mins 100 p d = true) (hx : DD p x) : d ∣ x := by
  have hg : DD p (Nat.gcd x d) := DD.gcd hp x x d (Nat.le_refl _) hx h0
  have g1 : Nat.gcd x d ∣ d := Nat.gcd_dvd_right _ _
  have gx : Nat.gcd x d ∣ x := Nat.gcd_dvd_left _ _
  generalize Nat.gcd x d = g at hg g1 gx
  obtain ⟨r, hr⟩ := g1
  have g0 : 1 ≤ g := by
    rcases Nat.eq_zero_or_pos g with z | z
    · subst z; omega
    · exact z
  have r0 : 1 ≤ r := by
    rcases Nat.eq_zero_or_pos r with z | z
    · subst z; omega
    · exact z
  have gl : g ≤ d := by rw [hr]; exact Nat.le_mul_of_pos_right _ r0
  have hD := (isD_ok hp (by omega : g < 2 ^ 14)).mpr hg
  have gd : g = d := by
    rcases Nat.lt_or_ge 100 r with z | z
    · have g100 : g ≤ 100 := by
        rcases Nat.lt_or_ge 100 g with y | y
        · have : 101 * 101 ≤ g * r := Nat.mul_le_mul y z
          omega
        · exact y
      rcases (mins_ok 100 hm g g0 g100 (by rw [hr]; exact Nat.mul_mod_right _ _)).2 with y | y
      · exact y
      · rw [hD] at y; cases y
    · have e : d / r = g := by rw [hr]; exact Nat.mul_div_cancel _ r0
      rcases (mins_ok 100 hm r r0 z (by rw [hr]; exact Nat.mul_mod_left _ _)).1 with y | y
      · subst y; omega
      · rw [e, hD] at y; cases y
  rw [← gd]
  exact gx
def smalls (q : Nat) : Bool := Nat.beq (q % 3) 0 || (Nat.beq (q % 5) 0 || (Nat.beq (q % 7) 0 || (Nat.beq (q % 11) 0 || (Nat.beq (q % 13) 0 || (Nat.beq (q % 17) 0 || (Nat.beq (q % 19) 0 || (Nat.beq (q % 23) 0 || (Nat.beq (q % 29) 0 || Nat.beq (q % 31) 0))))))))
theorem smalls_ok {q : Nat} (h : smalls q = true) : ∃ r, 2 ≤ r ∧ r < 501 ∧ q % r = 0 := by
  unfold smalls at h
  simp only [Bool.or_eq_true] at h
  have e : ∀ r, Nat.beq (q % r) 0 = true → q % r = 0 := fun r h => Nat.eq_of_beq_eq_true h
  rcases h with h | h | h | h | h | h | h | h | h | h <;> exact ⟨_, by decide, by decide, e _ h⟩
def okq (p q : Nat) : Bool := Nat.blt q p || (Nat.blt 100000000 (p * q) || (smalls q || (fails (p * q) 2 || (fails (p * q) 3 || (fails (p * q) 5 || fails (p * q) 7)))))
def cands : Nat → Nat → Nat → Bool
  | 0, _, _ => true
  | k + 1, p, d => okq p (1 + (k + 1) * d) && cands k p d
theorem cands_ok {p d : Nat} : ∀ (n : Nat), cands n p d = true → ∀ k, 1 ≤ k → k ≤ n → okq p (1 + k * d) = true
  | 0, _, k, h1, h2 => by omega
  | n + 1, h, k, h1, h2 => by
    have h' : (okq p (1 + (n + 1) * d) && cands n p d) = true := h
    rw [Bool.and_eq_true] at h'
    rcases Nat.lt_or_ge k (n + 1) with z | z
    · exact cands_ok n h'.2 k h1 (by omega)
    · have : k = n + 1 := by omega
      rw [this]
      exact h'.1
def dOf (p : Nat) : Nat := cond (Nat.beq p 1559) 779 (cond (Nat.beq p 2999) 1499 (cond (Nat.beq p 5711) 2855 (cond (Nat.beq p 6551) 3275 (cond (Nat.beq p 8089) 4044 (cond (Nat.beq p 8761) 4380 (cond (Nat.beq p 9239) 4619 (p - 1)))))))
def hasDiv : Nat → Nat → Nat → Bool
  | 0, _, _ => false
  | f + 1, r, p => Nat.beq (p % r) 0 || hasDiv f (r + 1) p
theorem hasDiv_ok {p : Nat} : ∀ (f r : Nat), hasDiv f r p = true → ∃ c, r ≤ c ∧ c < r + f ∧ p % c = 0
  | 0, _, h => by cases h
  | f + 1, r, h => by
    have h' : (Nat.beq (p % r) 0 || hasDiv f (r + 1) p) = true := h
    rw [Bool.or_eq_true] at h'
    rcases h' with h | h
    · exact ⟨r, Nat.le_refl _, by omega, Nat.eq_of_beq_eq_true h⟩
    · obtain ⟨c, h1, h2, h3⟩ := hasDiv_ok f (r + 1) h
      exact ⟨c, by omega, by omega, h3⟩
def chkD (p d : Nat) : Bool := Nat.beq ((p - 1) % d) 0 && (Nat.ble 1 d && (Nat.ble d 10000 && (isD p d && (mins 100 p d && cands (100000000 / (p * d)) p d))))
def chkP (p : Nat) : Bool := hasDiv 99 2 p || chkD p (dOf p)
def chkAll : Nat → Nat → Bool
  | 0, _ => true
  | k + 1, lo => chkP (lo + 2 * k) && chkAll k lo
theorem chkAll_ok {lo : Nat} : ∀ (n : Nat), chkAll n lo = true → ∀ k, k < n → chkP (lo + 2 * k) = true
  | 0, _, k, h => by omega
  | n + 1, h, k, hk => by
    have h' : (chkP (lo + 2 * n) && chkAll n lo) = true := h
    rw [Bool.and_eq_true] at h'
    rcases Nat.lt_or_ge k n with z | z
    · exact chkAll_ok n h'.2 k z
    · have : k = n := by omega
      rw [this]
      exact h'.1
theorem ck0 : chkAll 100 501 = true := by decide +kernel
theorem ck1 : chkAll 250 701 = true := by decide +kernel
theorem ck2 : chkAll 250 1201 = true := by decide +kernel
theorem ck3 : chkAll 250 1701 = true := by decide +kernel
theorem ck4 : chkAll 250 2201 = true := by decide +kernel
theorem ck5 : chkAll 250 2701 = true := by decide +kernel
theorem ck6 : chkAll 250 3201 = true := by decide +kernel
theorem ck7 : chkAll 250 3701 = true := by decide +kernel
theorem ck8 : chkAll 250 4201 = true := by decide +kernel
theorem ck9 : chkAll 250 4701 = true := by decide +kernel
theorem ck10 : chkAll 250 5201 = true := by decide +kernel
theorem ck11 : chkAll 250 5701 = true := by decide +kernel
theorem ck12 : chkAll 250 6201 = true := by decide +kernel
theorem ck13 : chkAll 250 6701 = true := by decide +kernel
theorem ck14 : chkAll 250 7201 = true := by decide +kernel
theorem ck15 : chkAll 250 7701 = true := by decide +kernel
theorem ck16 : chkAll 250 8201 = true := by decide +kernel
theorem ck17 : chkAll 250 8701 = true := by decide +kernel
theorem ck18 : chkAll 250 9201 = true := by decide +kernel
theorem ck19 : chkAll 150 9701 = true := by decide +kernel
end K01
namespace K01
theorem chk_p {p : Nat} (h1 : 501 ≤ p) (h2 : p ≤ 10000) (ho : p % 2 = 1) : chkP p = true := by
  have go : ∀ {lo n : Nat}, chkAll n lo = true → lo % 2 = 1 → lo ≤ p → p < lo + 2 * n → chkP p = true := fun {lo n} c l1 l2 l3 => by
    have := chkAll_ok n c ((p - lo) / 2) (by omega)
    rw [show lo + 2 * ((p - lo) / 2) = p by omega] at this
    exact this
  rcases Nat.lt_or_ge p 701 with h | h
  · exact go ck0 rfl h1 h
  rcases Nat.lt_or_ge p 1201 with h' | h
  · exact go ck1 rfl h h'
  rcases Nat.lt_or_ge p 1701 with h' | h
  · exact go ck2 rfl h h'
  rcases Nat.lt_or_ge p 2201 with h' | h
  · exact go ck3 rfl h h'
  rcases Nat.lt_or_ge p 2701 with h' | h
  · exact go ck4 rfl h h'
  rcases Nat.lt_or_ge p 3201 with h' | h
  · exact go ck5 rfl h h'
  rcases Nat.lt_or_ge p 3701 with h' | h
  · exact go ck6 rfl h h'
  rcases Nat.lt_or_ge p 4201 with h' | h
  · exact go ck7 rfl h h'
  rcases Nat.lt_or_ge p 4701 with h' | h
  · exact go ck8 rfl h h'
  rcases Nat.lt_or_ge p 5201 with h' | h
  · exact go ck9 rfl h h'
  rcases Nat.lt_or_ge p 5701 with h' | h
  · exact go ck10 rfl h h'
  rcases Nat.lt_or_ge p 6201 with h' | h
  · exact go ck11 rfl h h'
  rcases Nat.lt_or_ge p 6701 with h' | h
  · exact go ck12 rfl h h'
  rcases Nat.lt_or_ge p 7201 with h' | h
  · exact go ck13 rfl h h'
  rcases Nat.lt_or_ge p 7701 with h' | h
  · exact go ck14 rfl h h'
  rcases Nat.lt_or_ge p 8201 with h' | h
  · exact go ck15 rfl h h'
  rcases Nat.lt_or_ge p 8701 with h' | h
  · exact go ck16 rfl h h'
  rcases Nat.lt_or_ge p 9201 with h' | h
  · exact go ck17 rfl h h'
  rcases Nat.lt_or_ge p 9701 with h' | h
  · exact go ck18 rfl h h'
  exact go ck19 rfl h (by omega)
theorem least_div {n c : Nat} (h1 : 2 ≤ c) (h2 : n % c = 0) : ∃ p, 2 ≤ p ∧ p ≤ c ∧ n % p = 0 ∧ ∀ r, 2 ≤ r → r < p → n % r ≠ 0 := by
  induction c using Nat.strongRecOn with
  | _ c ih =>
    by_cases h : ∃ r, 2 ≤ r ∧ r < c ∧ n % r = 0
    · obtain ⟨r, a, b, e⟩ := h
      obtain ⟨p, p1, p2, p3, p4⟩ := ih r b a e
      exact ⟨p, p1, by omega, p3, p4⟩
    · exact ⟨c, h1, Nat.le_refl _, h2, fun r a b e => h ⟨r, a, b, e⟩⟩
def Passes (n : Nat) : Prop := ∀ o h, n - 1 = o * 2 ^ h → o % 2 = 1 → ∀ a ∈ [2, 3, 5, 7, 11, 13], Strong n o h a
theorem odd_part : ∀ (f n : Nat), 1 ≤ n → n ≤ f → ∃ o h, n = o * 2 ^ h ∧ o % 2 = 1
  | 0, n, h1, h2 => by omega
  | f + 1, n, h1, h2 => by
    rcases Nat.mod_two_eq_zero_or_one n with z | z
    · obtain ⟨o, h, e, ho⟩ := odd_part f (n / 2) (by omega) (by omega)
      exact ⟨o, h + 1, by rw [Nat.pow_succ, ← Nat.mul_assoc, ← e]; omega, ho⟩
    · exact ⟨n, 0, by simp, z⟩
theorem gp {n : Nat} (h1 : 501 ≤ n) (hn : n ≤ 100000000) (hs : ∀ c, 2 ≤ c → c < 501 → n % c ≠ 0) (st : Passes n) : Pr n := by
  refine ⟨by omega, fun c c2 cc cd => ?_⟩
  obtain ⟨p, p2, pc, pd, pl⟩ := least_div c2 cd
  have p5 : 501 ≤ p := by
    rcases Nat.lt_or_ge p 501 with h | h
    · exact absurd pd (hs p p2 h)
    · exact h
  have pp : p * p ≤ n := Nat.le_trans (Nat.mul_le_mul pc pc) cc
  have p4 : p ≤ 10000 := by
    rcases Nat.lt_or_ge 10000 p with h | h
    · have : 10001 * 10001 ≤ p * p := Nat.mul_le_mul h h
      omega
    · exact h
  obtain ⟨q, hq⟩ := Nat.dvd_of_mod_eq_zero pd
  have up : ∀ r, p % r = 0 → n % r = 0 := fun r h => by
    rw [hq]
    exact Nat.mod_eq_zero_of_dvd (Nat.dvd_trans (Nat.dvd_of_mod_eq_zero h) (Nat.dvd_mul_right _ _))
  have uq : ∀ r, q % r = 0 → n % r = 0 := fun r h => by
    rw [hq]
    exact Nat.mod_eq_zero_of_dvd (Nat.dvd_trans (Nat.dvd_of_mod_eq_zero h) (Nat.dvd_mul_left _ _))
  have po : p % 2 = 1 := by
    rcases Nat.mod_two_eq_zero_or_one p with h | h
    · exact absurd (up 2 h) (hs 2 (by omega) (by omega))
    · exact h
  have qp : p ≤ q := by
    rw [hq] at pp
    exact Nat.le_of_mul_le_mul_left pp (by omega)
  have ck := chk_p p5 p4 po
  unfold chkP at ck
  rw [Bool.or_eq_true] at ck
  rcases ck with ck | ck
  · obtain ⟨c', a1, a2, a3⟩ := hasDiv_ok 99 2 ck
    exact pl c' a1 (by omega) (up c' a3)
  · generalize dOf p = d at ck
    unfold chkD at ck
    simp only [Bool.and_eq_true] at ck
    obtain ⟨k1, k2, k3, k4, k5, k6⟩ := ck
    have k1 := Nat.eq_of_beq_eq_true k1
    have k2 := Nat.le_of_ble_eq_true k2
    have k3 := Nat.le_of_ble_eq_true k3
    have d14 : d < 2 ^ 14 := by omega
    have hD : DD p d := (isD_ok (by omega) d14).mp k4
    obtain ⟨o, h, eo, oo⟩ := odd_part (n - 1) (n - 1) (by omega) (Nat.le_refl _)
    have S := st o h eo oo
    have hN : DD p (n - 1) := fun a ha => by
      have := (S a ha).fermat (by omega) eo
      have e : a ^ (n - 1) % n % p = a ^ (n - 1) % p := Nat.mod_mod_of_dvd _ ⟨q, hq⟩
      rw [this, Nat.mod_eq_of_lt (by omega)] at e
      exact e.symm
    have dv := D_dvd (by omega) d14 k2 k3 hD k5 hN
    have dp : d ∣ p - 1 := Nat.dvd_of_mod_eq_zero k1
    have dq : d ∣ q - 1 := by
      have e : n - 1 = (p - 1) * q + (q - 1) := by
        rw [hq]
        obtain ⟨p', rfl⟩ : ∃ p', p = p' + 1 := ⟨p - 1, by omega⟩
        rw [Nat.add_mul]
        show p' * q + 1 * q - 1 = p' * q + (q - 1)
        omega
      rw [e] at dv
      exact (Nat.dvd_add_right (Nat.dvd_mul_right_of_dvd dp q)).mp dv
    obtain ⟨k, hk⟩ := dq
    have q1 : q = 1 + k * d := by rw [Nat.mul_comm k d]; omega
    have kp : 1 ≤ k := by
      rcases Nat.eq_zero_or_pos k with z | z
      · subst z; omega
      · exact z
    have km : k ≤ 100000000 / (p * d) := by
      rw [Nat.le_div_iff_mul_le (Nat.mul_pos (by omega) (by omega))]
      have : k * (p * d) = p * (k * d) := by grind
      rw [this]
      exact Nat.le_trans (Nat.mul_le_mul_left p (by omega : k * d ≤ q)) (by rw [← hq]; exact hn)
    have cq := cands_ok _ k6 k kp km
    rw [← q1] at cq
    unfold okq at cq
    simp only [Bool.or_eq_true] at cq
    rw [← hq] at cq
    have ff : ∀ a, a ∈ [2, 3, 5, 7, 11, 13] → fails n a = true → False := fun a ha f => fails_ok (by omega) (by omega) eo oo f (S a ha)
    rcases cq with c1 | c1 | c1 | c1 | c1 | c1 | c1
    · have := Nat.le_of_ble_eq_true c1; omega
    · have := Nat.le_of_ble_eq_true c1; omega
    · obtain ⟨r, r1, r2, r3⟩ := smalls_ok c1
      exact hs r r1 r2 (uq r r3)
    · exact ff 2 (by simp) c1
    · exact ff 3 (by simp) c1
    · exact ff 5 (by simp) c1
    · exact ff 7 (by simp) c1
theorem gp_great : fails (99991 * 99989) 2 = true := by decide +kernel
def Ask (n : Nat) : Prop := n ≤ 100000000 ∨ n = 99991 * 99989
theorem gpX {n m : Nat} (ha : Ask n) (hd : m ∣ n) (n0 : 1 ≤ n) (h1 : 501 ≤ m) (hs : ∀ c, 2 ≤ c → c < 501 → m % c ≠ 0) (st : Passes m) : Pr m := by
  rcases ha with h | h
  · exact gp h1 (Nat.le_trans (Nat.le_of_dvd n0 hd) h) hs st
  · obtain ⟨k, hk⟩ := hd
    rcases Nat.lt_or_ge 1 k with z | z
    · rcases Nat.lt_or_ge k 99002 with y | y
      · exfalso
        have := chks_ok 99 great_chk k z (by omega)
        apply this
        rw [← h, hk]
        exact Nat.mul_mod_left _ _
      · refine gp h1 ?_ hs st
        rcases Nat.lt_or_ge 100000000 m with x | x
        · have : 100000001 * 99002 ≤ m * k := Nat.mul_le_mul x y
          omega
        · exact x
    · have k1 : k = 1 := by
        have : k ≠ 0 := fun z => by subst z; omega
        omega
      subst k1
      have : m = 99991 * 99989 := by omega
      subst this
      exfalso
      obtain ⟨o, h, eo, oo⟩ := odd_part (99991 * 99989 - 1) (99991 * 99989 - 1) (by omega) (Nat.le_refl _)
      exact fails_ok (by omega) (by omega) eo oo gp_great (st o h eo oo 2 (by simp))
def SqF (m : Nat) : Prop := ∀ c, 2 ≤ c → ¬ c * c ∣ m
theorem SqF.take {m d : Nat} (hd : 2 ≤ d) (hs : ∀ c, 2 ≤ c → c < d → (m * d) % c ≠ 0) (hm : m % d ≠ 0) : SqF (m * d) ↔ SqF m := by
  refine ⟨fun q c c2 h => q c c2 (Nat.dvd_trans h (Nat.dvd_mul_right _ _)), fun q c c2 h => ?_⟩
  by_cases dc : d ∣ c
  · apply hm
    have : d * d ∣ m * d := Nat.dvd_trans (Nat.mul_dvd_mul dc dc) h
    exact Nat.mod_eq_zero_of_dvd (Nat.dvd_of_mul_dvd_mul_right (by omega) this)
  · have cop : Nat.Coprime c d := by
      have g1 : Nat.gcd c d ∣ d := Nat.gcd_dvd_right _ _
      have g2 : Nat.gcd c d ∣ c := Nat.gcd_dvd_left _ _
      have gl := Nat.le_of_dvd (by omega) g1
      show Nat.gcd c d = 1
      generalize Nat.gcd c d = g at g1 g2 gl
      rcases Nat.lt_or_ge g 2 with z | z
      · have : g ≠ 0 := fun e => by subst e; have := Nat.eq_zero_of_zero_dvd g1; omega
        omega
      · exfalso
        rcases Nat.lt_or_ge g d with y | y
        · exact hs g z y (Nat.mod_eq_zero_of_dvd (Nat.dvd_trans g1 (Nat.dvd_mul_left _ _)))
        · have : g = d := by omega
          subst this
          exact dc g2
    have cop2 : Nat.Coprime (c * c) d := Nat.Coprime.mul_left cop cop
    exact q c c2 (cop2.dvd_of_dvd_mul_right h)
theorem SqF.many {m d k : Nat} (hd : 2 ≤ d) (hk : 2 ≤ k) : ¬ SqF (m * d ^ k) := fun q => by
  refine q d hd ?_
  obtain ⟨j, rfl⟩ : ∃ j, k = j + 2 := ⟨k - 2, by omega⟩
  rw [Nat.pow_add, Nat.pow_two]
  exact Nat.dvd_trans (Nat.dvd_mul_left _ _) (Nat.dvd_mul_left _ _)
theorem TF.sqF {l d : Nat} {r : List (Nat × Nat)} (t : TF l d r) : 2 ≤ d → 1 ≤ l → (∀ c, 2 ≤ c → c < d → l % c ≠ 0) → ((∀ q ∈ r, q.2 = 1) ↔ SqF l) := by
  induction t with
  | @stop1 l d h h1 =>
    intro hd hl hs
    refine ⟨fun _ c c2 hc => ?_, fun _ q hq => by simp at hq; rw [hq]⟩
    have cl : l % c = 0 := Nat.mod_eq_zero_of_dvd (Nat.dvd_trans (Nat.dvd_mul_right _ _) hc)
    rcases Nat.lt_or_ge c d with z | z
    · exact hs c c2 z cl
    · have := Nat.le_of_dvd (by omega) hc
      have := Nat.mul_le_mul z z
      omega
  | @stop0 l d h h1 =>
    intro hd hl hs
    refine ⟨fun _ c c2 hc => ?_, fun _ q hq => by cases hq⟩
    have := Nat.le_of_dvd (by omega) hc
    have := Nat.mul_le_mul c2 c2
    omega
  | @skip l d r h h1 t ih =>
    intro hd hl hs
    refine ih (by omega) hl fun c c2 cd => ?_
    rcases Nat.lt_or_ge c d with z | z
    · exact hs c c2 z
    · have : c = d := by omega
      rw [this]
      exact h1
  | @take l d m k r h hm hk e t ih =>
    intro hd hl hs
    have m1 : 1 ≤ m := by
      rcases Nat.eq_zero_or_pos m with z | z
      · subst z; simp at hm
      · exact z
    have im := ih (by omega) m1 fun c c2 cd => by
      rcases Nat.lt_or_ge c d with z | z
      · intro y
        apply hs c c2 z
        rw [e]
        exact Nat.mod_eq_zero_of_dvd (Nat.dvd_trans (Nat.dvd_of_mod_eq_zero y) (Nat.dvd_mul_right _ _))
      · have : c = d := by omega
        rw [this]
        exact hm
    rcases Nat.lt_or_ge k 2 with z | z
    · have k1 : k = 1 := by omega
      subst k1
      rw [Nat.pow_one] at e
      rw [e] at hs ⊢
      rw [SqF.take hd hs hm, ← im]
      refine ⟨fun q p hp => q p (List.mem_cons_of_mem _ hp), fun q p hp => ?_⟩
      rcases List.mem_cons.mp hp with y | y
      · rw [y]
      · exact q p y
    · refine ⟨fun q => ?_, fun q => ?_⟩
      · have := q (d, k) List.mem_cons_self
        simp at this
        omega
      · rw [e] at q
        exact absurd q (SqF.many hd z)
theorem sqf_SqF {m : Nat} (h : 1 ≤ m) : sqf m = true ↔ SqF m := by
  rw [← (fac_ok m).sqF (by omega) h (fun c c2 cd => by omega)]
  unfold sqf
  rw [List.all_eq_true]
  simp only [beq_iff_eq]
theorem SqF.rest {l d s : Nat} (hd : 2 ≤ d) (hl : 1 ≤ l) (h3 : l < d * d * d) (hs : ∀ c, 2 ≤ c → c < d → l % c ≠ 0) (s1 : s * s ≤ l) (s2 : l < (s + 1) * (s + 1)) : SqF l ↔ ¬ (1 < s ∧ s * s = l) := by
  refine ⟨fun q ⟨a, b⟩ => q s a ⟨1, by omega⟩, fun q c c2 ⟨e, he⟩ => ?_⟩
  have big : ∀ x, 2 ≤ x → x ∣ l → d ≤ x := fun x x2 xl => by
    rcases Nat.lt_or_ge x d with z | z
    · exact absurd (Nat.mod_eq_zero_of_dvd xl) (hs x x2 z)
    · exact z
  have cd := big c c2 ⟨c * e, by rw [he, Nat.mul_assoc]⟩
  rcases Nat.lt_or_ge 1 e with z | z
  · have ed := big e z ⟨c * c, by rw [he, Nat.mul_comm]⟩
    have : d * d * d ≤ c * c * e := Nat.mul_le_mul (Nat.mul_le_mul cd cd) ed
    omega
  · have e1 : e = 1 := by
      have : e ≠ 0 := fun y => by subst y; omega
      omega
    subst e1
    have hc : l = c * c := by omega
    have cs : s = c := by
      rcases Nat.lt_trichotomy s c with y | y | y
      · have := Nat.mul_le_mul y y
        have e2 : Nat.succ s * Nat.succ s = (s + 1) * (s + 1) := rfl
        omega
      · exact y
      · have := Nat.mul_le_mul y y
        have e2 : Nat.succ c * Nat.succ c = c * c + c + c + 1 := by
          show (c + 1) * (c + 1) = _
          grind
        omega
    exact q ⟨by omega, by rw [cs, hc]⟩
end K01
namespace K01
open PySem PySem.Spec PyProof.Rows L2 Fr
def topS (i : Nat) : Stmt := PySem.Challenge.pw_formrings_k01_whole_integers_told_apart.main.body.getD i (.Pass ⟨0, 0, 0, 0⟩)
abbrev s_is_any_integer : Stmt := topS 7
abbrev N_is_any_integer : List Str := ["value"]
theorem sc_is_any_integer : FnScope N_is_any_integer ["value"] (defScope s_is_any_integer) := ⟨rfl, rfl, rfl, by decide +kernel, rfl, by decide +kernel, by decide +kernel⟩
abbrev s_is_short_integer : Stmt := topS 8
abbrev N_is_short_integer : List Str := ["value"]
theorem sc_is_short_integer : FnScope N_is_short_integer ["value"] (defScope s_is_short_integer) := ⟨rfl, rfl, rfl, by decide +kernel, rfl, by decide +kernel, by decide +kernel⟩
abbrev s_is_between : Stmt := topS 9
abbrev N_is_between : List Str := ["value", "low", "high"]
theorem sc_is_between : FnScope N_is_between ["value", "low", "high"] (defScope s_is_between) := ⟨rfl, rfl, rfl, by decide +kernel, rfl, by decide +kernel, by decide +kernel⟩
abbrev s_are_short_integers : Stmt := topS 10
abbrev N_are_short_integers : List Str := ["value", "many", "n"]
theorem sc_are_short_integers : FnScope N_are_short_integers ["value", "many"] (defScope s_are_short_integers) := ⟨rfl, rfl, rfl, by decide +kernel, rfl, by decide +kernel, by decide +kernel⟩
abbrev s_check_between : Stmt := topS 11
abbrev N_check_between : List Str := ["value", "low", "high"]
theorem sc_check_between : FnScope N_check_between ["value", "low", "high"] (defScope s_check_between) := ⟨rfl, rfl, rfl, by decide +kernel, rfl, by decide +kernel, by decide +kernel⟩
abbrev s_power_at : Stmt := topS 13
abbrev N_power_at : List Str := ["base", "exponent", "prime", "result", "square", "left"]
theorem sc_power_at : FnScope N_power_at ["base", "exponent", "prime"] (defScope s_power_at) := ⟨rfl, rfl, rfl, by decide +kernel, rfl, by decide +kernel, by decide +kernel⟩
abbrev s_shared_divisor : Stmt := topS 20
abbrev N_shared_divisor : List Str := ["numbers", "shared", "number"]
theorem sc_shared_divisor : FnScope N_shared_divisor ["numbers"] (defScope s_shared_divisor) := ⟨rfl, rfl, rfl, by decide +kernel, rfl, by decide +kernel, by decide +kernel⟩
abbrev s_common_divisor : Stmt := topS 21
abbrev N_common_divisor : List Str := ["numbers"]
theorem sc_common_divisor : FnScope N_common_divisor ["numbers"] (defScope s_common_divisor) := ⟨rfl, rfl, rfl, by decide +kernel, rfl, by decide +kernel, by decide +kernel⟩
abbrev s_is_prime : Stmt := topS 22
abbrev N_is_prime : List Str := ["number", "divisor"]
theorem sc_is_prime : FnScope N_is_prime ["number"] (defScope s_is_prime) := ⟨rfl, rfl, rfl, by decide +kernel, rfl, by decide +kernel, by decide +kernel⟩
abbrev s_times_within : Stmt := topS 23
abbrev N_times_within : List Str := ["number", "prime", "times", "left"]
theorem sc_times_within : FnScope N_times_within ["number", "prime"] (defScope s_times_within) := ⟨rfl, rfl, rfl, by decide +kernel, rfl, by decide +kernel, by decide +kernel⟩
abbrev s_is_great_prime : Stmt := topS 24
abbrev N_is_great_prime : List Str := ["number", "odd", "halves", "base", "power", "squares"]
theorem sc_is_great_prime : FnScope N_is_great_prime ["number"] (defScope s_is_great_prime) := ⟨rfl, rfl, rfl, by decide +kernel, rfl, by decide +kernel, by decide +kernel⟩
abbrev s_factored : Stmt := topS 25
abbrev N_factored : List Str := ["number", "found", "left", "divisor", "times"]
theorem sc_factored : FnScope N_factored ["number"] (defScope s_factored) := ⟨rfl, rfl, rfl, by decide +kernel, rfl, by decide +kernel, by decide +kernel⟩
abbrev s_primes_twice : Stmt := topS 26
abbrev N_primes_twice : List Str := ["number", "found", "left", "divisor", "times", "side"]
theorem sc_primes_twice : FnScope N_primes_twice ["number"] (defScope s_primes_twice) := ⟨rfl, rfl, rfl, by decide +kernel, rfl, by decide +kernel, by decide +kernel⟩
abbrev s_raised : Stmt := topS 27
abbrev N_raised : List Str := ["base", "exponent", "result", "_"]
theorem sc_raised : FnScope N_raised ["base", "exponent"] (defScope s_raised) := ⟨rfl, rfl, rfl, by decide +kernel, rfl, by decide +kernel, by decide +kernel⟩
abbrev s_whole_root : Stmt := topS 28
abbrev N_whole_root : List Str := ["number", "exponent", "low", "high", "middle"]
theorem sc_whole_root : FnScope N_whole_root ["number", "exponent"] (defScope s_whole_root) := ⟨rfl, rfl, rfl, by decide +kernel, rfl, by decide +kernel, by decide +kernel⟩
abbrev s_is_square_free : Stmt := topS 29
abbrev N_is_square_free : List Str := ["number"]
theorem sc_is_square_free : FnScope N_is_square_free ["number"] (defScope s_is_square_free) := ⟨rfl, rfl, rfl, by decide +kernel, rfl, by decide +kernel, by decide +kernel⟩
abbrev s_is_fundamental : Stmt := topS 30
abbrev N_is_fundamental : List Str := ["number", "quarter"]
theorem sc_is_fundamental : FnScope N_is_fundamental ["number"] (defScope s_is_fundamental) := ⟨rfl, rfl, rfl, by decide +kernel, rfl, by decide +kernel, by decide +kernel⟩
abbrev s_l_vat : Stmt := topS 32
abbrev N_l_vat : List Str := ["_law_script", "_law_at", "_law_cell", "_law_great", "_law_seed"]
theorem sc_l_vat : FnScope N_l_vat ["_law_script", "_law_at"] (defScope s_l_vat) := ⟨rfl, rfl, rfl, by decide +kernel, rfl, by decide +kernel, by decide +kernel⟩
abbrev s_l_scoop : Stmt := topS 33
abbrev N_l_scoop : List Str := ["_law_vat_here", "_law_total", "_law_found", "_law_one", "_law_two"]
theorem sc_l_scoop : FnScope N_l_scoop ["_law_vat_here", "_law_total"] (defScope s_l_scoop) := ⟨rfl, rfl, rfl, by decide +kernel, rfl, by decide +kernel, by decide +kernel⟩
abbrev s_l_from : Stmt := topS 34
abbrev N_l_from : List Str := ["_law_vat_here", "_law_items"]
theorem sc_l_from : FnScope N_l_from ["_law_vat_here", "_law_items"] (defScope s_l_from) := ⟨rfl, rfl, rfl, by decide +kernel, rfl, by decide +kernel, by decide +kernel⟩
abbrev s_l_size : Stmt := topS 35
abbrev N_l_size : List Str := ["_law_vat_here", "_law_most"]
theorem sc_l_size : FnScope N_l_size ["_law_vat_here", "_law_most"] (defScope s_l_size) := ⟨rfl, rfl, rfl, by decide +kernel, rfl, by decide +kernel, by decide +kernel⟩
abbrev s_l_share : Stmt := topS 36
abbrev N_l_share : List Str := ["_law_one", "_law_other"]
theorem sc_l_share : FnScope N_l_share ["_law_one", "_law_other"] (defScope s_l_share) := ⟨rfl, rfl, rfl, by decide +kernel, rfl, by decide +kernel, by decide +kernel⟩
abbrev s_l_trial_factors : Stmt := topS 37
abbrev N_l_trial_factors : List Str := ["_law_number", "_law_found", "_law_left", "_law_prime", "_law_many"]
theorem sc_l_trial_factors : FnScope N_l_trial_factors ["_law_number"] (defScope s_l_trial_factors) := ⟨rfl, rfl, rfl, by decide +kernel, rfl, by decide +kernel, by decide +kernel⟩
abbrev s_l_raised : Stmt := topS 38
abbrev N_l_raised : List Str := ["_law_number", "_law_exponent", "_law_found", "_law_turn"]
theorem sc_l_raised : FnScope N_l_raised ["_law_number", "_law_exponent"] (defScope s_l_raised) := ⟨rfl, rfl, rfl, by decide +kernel, rfl, by decide +kernel, by decide +kernel⟩
abbrev s_l_is_basic : Stmt := topS 39
abbrev N_l_is_basic : List Str := ["_law_number", "_law_part", "_law_prime", "_law_many"]
theorem sc_l_is_basic : FnScope N_l_is_basic ["_law_number"] (defScope s_l_is_basic) := ⟨rfl, rfl, rfl, by decide +kernel, rfl, by decide +kernel, by decide +kernel⟩
abbrev s_l_divisors_right : Stmt := topS 40
abbrev N_l_divisors_right : List Str := ["_law_vat_here", "_law_factor", "_law_numbers", "_law_due", "_law_number", "_law_turn"]
theorem sc_l_divisors_right : FnScope N_l_divisors_right ["_law_vat_here"] (defScope s_l_divisors_right) := ⟨rfl, rfl, rfl, by decide +kernel, rfl, by decide +kernel, by decide +kernel⟩
abbrev s_l_factors_right : Stmt := topS 41
abbrev N_l_factors_right : List Str := ["_law_vat_here", "_law_number", "_law_turn", "_law_prime", "_law_other", "_law_one", "_law_told"]
theorem sc_l_factors_right : FnScope N_l_factors_right ["_law_vat_here"] (defScope s_l_factors_right) := ⟨rfl, rfl, rfl, by decide +kernel, rfl, by decide +kernel, by decide +kernel⟩
abbrev s_l_roots_right : Stmt := topS 42
abbrev N_l_roots_right : List Str := ["_law_vat_here", "_law_exponent", "_law_base", "_law_power", "_law_number", "_law_root", "_law_great"]
theorem sc_l_roots_right : FnScope N_l_roots_right ["_law_vat_here"] (defScope s_l_roots_right) := ⟨rfl, rfl, rfl, by decide +kernel, rfl, by decide +kernel, by decide +kernel⟩
abbrev s_l_basic_right : Stmt := topS 43
abbrev N_l_basic_right : List Str := ["_law_vat_here", "_law_some", "_law_turn", "_law_number"]
theorem sc_l_basic_right : FnScope N_l_basic_right ["_law_vat_here"] (defScope s_l_basic_right) := ⟨rfl, rfl, rfl, by decide +kernel, rfl, by decide +kernel, by decide +kernel⟩
abbrev s_law : Stmt := topS 44
abbrev N_law : List Str := ["_law_script", "_law_at", "_law_vat_here", "_law_turn", "_law_told", "_law_some", "_law_number"]
theorem sc_law : FnScope N_law ["_law_script"] (defScope s_law) := ⟨rfl, rfl, rfl, by decide +kernel, rfl, by decide +kernel, by decide +kernel⟩
structure Txt (K : PySem.W.Frag) (mg : Str → Option Value) : Prop where
  d_is_any_integer : ∃ f fd, mg "is_any_integer" = some (.ref f) ∧ Fun K "is_any_integer" "is_any_integer" s_is_any_integer f fd
  d_is_short_integer : ∃ f fd, mg "is_short_integer" = some (.ref f) ∧ Fun K "is_short_integer" "is_short_integer" s_is_short_integer f fd
  d_is_between : ∃ f fd, mg "is_between" = some (.ref f) ∧ Fun K "is_between" "is_between" s_is_between f fd
  d_are_short_integers : ∃ f fd, mg "are_short_integers" = some (.ref f) ∧ Fun K "are_short_integers" "are_short_integers" s_are_short_integers f fd
  d_check_between : ∃ f fd, mg "check_between" = some (.ref f) ∧ Fun K "check_between" "check_between" s_check_between f fd
  d_power_at : ∃ f fd, mg "power_at" = some (.ref f) ∧ Fun K "power_at" "power_at" s_power_at f fd
  d_shared_divisor : ∃ f fd, mg "shared_divisor" = some (.ref f) ∧ Fun K "shared_divisor" "shared_divisor" s_shared_divisor f fd
  d_common_divisor : ∃ f fd, mg "common_divisor" = some (.ref f) ∧ Fun K "common_divisor" "common_divisor" s_common_divisor f fd
  d_is_prime : ∃ f fd, mg "is_prime" = some (.ref f) ∧ Fun K "is_prime" "is_prime" s_is_prime f fd
  d_times_within : ∃ f fd, mg "times_within" = some (.ref f) ∧ Fun K "times_within" "times_within" s_times_within f fd
  d_is_great_prime : ∃ f fd, mg "is_great_prime" = some (.ref f) ∧ Fun K "is_great_prime" "is_great_prime" s_is_great_prime f fd
  d_factored : ∃ f fd, mg "factored" = some (.ref f) ∧ Fun K "factored" "factored" s_factored f fd
  d_primes_twice : ∃ f fd, mg "primes_twice" = some (.ref f) ∧ Fun K "primes_twice" "primes_twice" s_primes_twice f fd
  d_raised : ∃ f fd, mg "raised" = some (.ref f) ∧ Fun K "raised" "raised" s_raised f fd
  d_whole_root : ∃ f fd, mg "whole_root" = some (.ref f) ∧ Fun K "whole_root" "whole_root" s_whole_root f fd
  d_is_square_free : ∃ f fd, mg "is_square_free" = some (.ref f) ∧ Fun K "is_square_free" "is_square_free" s_is_square_free f fd
  d_is_fundamental : ∃ f fd, mg "is_fundamental" = some (.ref f) ∧ Fun K "is_fundamental" "is_fundamental" s_is_fundamental f fd
  d_l_vat : ∃ f fd, mg "_law_vat" = some (.ref f) ∧ Fun K "_law_vat" "_law_vat" s_l_vat f fd
  d_l_scoop : ∃ f fd, mg "_law_scoop" = some (.ref f) ∧ Fun K "_law_scoop" "_law_scoop" s_l_scoop f fd
  d_l_from : ∃ f fd, mg "_law_from" = some (.ref f) ∧ Fun K "_law_from" "_law_from" s_l_from f fd
  d_l_size : ∃ f fd, mg "_law_size" = some (.ref f) ∧ Fun K "_law_size" "_law_size" s_l_size f fd
  d_l_share : ∃ f fd, mg "_law_share" = some (.ref f) ∧ Fun K "_law_share" "_law_share" s_l_share f fd
  d_l_trial_factors : ∃ f fd, mg "_law_trial_factors" = some (.ref f) ∧ Fun K "_law_trial_factors" "_law_trial_factors" s_l_trial_factors f fd
  d_l_raised : ∃ f fd, mg "_law_raised" = some (.ref f) ∧ Fun K "_law_raised" "_law_raised" s_l_raised f fd
  d_l_is_basic : ∃ f fd, mg "_law_is_basic" = some (.ref f) ∧ Fun K "_law_is_basic" "_law_is_basic" s_l_is_basic f fd
  d_l_divisors_right : ∃ f fd, mg "_law_divisors_right" = some (.ref f) ∧ Fun K "_law_divisors_right" "_law_divisors_right" s_l_divisors_right f fd
  d_l_factors_right : ∃ f fd, mg "_law_factors_right" = some (.ref f) ∧ Fun K "_law_factors_right" "_law_factors_right" s_l_factors_right f fd
  d_l_roots_right : ∃ f fd, mg "_law_roots_right" = some (.ref f) ∧ Fun K "_law_roots_right" "_law_roots_right" s_l_roots_right f fd
  d_l_basic_right : ∃ f fd, mg "_law_basic_right" = some (.ref f) ∧ Fun K "_law_basic_right" "_law_basic_right" s_l_basic_right f fd
  d_law : ∃ f fd, mg "law" = some (.ref f) ∧ Fun K "law" "law" s_law f fd
  b_abs : mg "abs" = none
  b_all : mg "all" = none
  b_bool : mg "bool" = none
  b_int : mg "int" = none
  b_isinstance : mg "isinstance" = none
  b_len : mg "len" = none
  b_max : mg "max" = none
  b_min : mg "min" = none
  b_range : mg "range" = none
  b_tuple : mg "tuple" = none
  x_ASKED : ∃ t, mg "ASKED" = some (.int (501) t)
  x_LIMIT : ∃ t, mg "LIMIT" = some (.int (1000000000000000000000000000000000000000000000000000000000000) t)
  x_MAX_FACTORED : ∃ t, mg "MAX_FACTORED" = some (.int (1000000000000) t)
  x_MAX_FUNDAMENTAL : ∃ t, mg "MAX_FUNDAMENTAL" = some (.int (1000000000) t)
  x_MAX_PRIME : ∃ t, mg "MAX_PRIME" = some (.int (1000000) t)
  x_MOST_NUMBERS : ∃ t, mg "MOST_NUMBERS" = some (.int (1000) t)
  m_gcd : mg "gcd" = some (.builtin "math.gcd")
  m_isqrt : mg "isqrt" = some (.builtin "math.isqrt")
def Short (i : Int) : Prop := -1000000000000000000000000000000000000000000000000000000000000 < i ∧ i < 1000000000000000000000000000000000000000000000000000000000000
def sp_is_any_integer (_ : PySem.W.Frag) : Sp := fun vs H Q _ => ∃ i : Int, vs = [.int i] ∧ Q (.bl true) H
def sp_is_short_integer (_ : PySem.W.Frag) : Sp := fun vs H Q _ => ∃ i : Int, vs = [.int i] ∧ Short i ∧ Q (.bl true) H
def sp_is_between (_ : PySem.W.Frag) : Sp := fun vs H Q _ => ∃ i lo hi : Int, vs = [.int i, .int lo, .int hi] ∧ Short i ∧ lo ≤ i ∧ i ≤ hi ∧ Q (.bl true) H
def sp_check_between (_ : PySem.W.Frag) : Sp := fun vs H Q _ => ∃ i lo hi : Int, vs = [.int i, .int lo, .int hi] ∧ Short i ∧ lo ≤ i ∧ i ≤ hi ∧ Q .non H
def sp_are_short_integers (_ : PySem.W.Frag) : Sp := fun vs H Q _ => ∃ (a : Addr) (ns : List Int), vs = [.ref a, .int (ns.length : Int)] ∧ H a = some (.tup (ns.map V.int)) ∧ ns.length ≤ 1000 ∧ (∀ n ∈ ns, Short n) ∧ ∀ H', Ex0 H H' → Q (.bl true) H'
def Vat (c : Addr) (H : Hp) : Prop := ∃ x y z : Int, H c = some (.lst [.int x, .int y, .int z])
def Sv (c : Addr) : Addr → Prop := fun b => b = c
theorem fmV (c : Addr) : Fm (Sv c) (Vat c) := by
  constructor
  · intro H D i h e
    obtain ⟨x, y, z, q⟩ := i
    unfold Sv at e
    rw [e, q] at h
    cases h
  · intro H D o n i
    obtain ⟨x, y, z, q⟩ := i
    exact ⟨x, y, z, by rw [upd_ne (fun e => n e.symm)]; exact q⟩
abbrev Fv (c : Addr) : Hp → Hp → Prop := Fx (Sv c) (Vat c)
def sp_l_vat (K : PySem.W.Frag) : Sp := fun vs H Q _ => ∃ (a : Addr) (ns : List Int) (i : Nat), vs = [.ref a, .int (i : Int)] ∧ SqL K H a (ns.map V.int) ∧ ∀ p H', H p = none → Ex0 H H' → Vat p H' → Q (.ref p) H'
def sp_l_scoop (_ : PySem.W.Frag) : Sp := fun vs H Q _ => ∃ (c : Addr) (t : Int), vs = [.ref c, .int t] ∧ Vat c H ∧ 0 < t ∧ t < 2 ^ 250 ∧ ∀ (r : Int) H', 0 ≤ r → r < t → Fv c H H' → Q (.int r) H'
def sp_l_from (K : PySem.W.Frag) : Sp := fun vs H Q _ => ∃ (c l : Addr) (xs : List V), vs = [.ref c, .ref l] ∧ Vat c H ∧ H l = some (.lst xs) ∧ l ≠ c ∧ xs ≠ [] ∧ xs.length ≤ 1000 ∧ ∀ v H', v ∈ xs → Fv c H H' → Q v H'
def sp_l_size (_ : PySem.W.Frag) : Sp := fun vs H Q _ => ∃ (c : Addr) (t : Int), vs = [.ref c, .int t] ∧ Vat c H ∧ 0 ≤ t ∧ t < 2 ^ 240 ∧ ∀ (r : Int) H', -t ≤ r → r ≤ t → Fv c H H' → Q (.int r) H'
def sp_l_share (_ : PySem.W.Frag) : Sp := fun vs H Q _ => ∃ (i j : Int), vs = [.int i, .int j] ∧ Q (.int ((Nat.gcd i.natAbs j.natAbs : Nat) : Int)) H
section
variable {P : Program} {w : World} {K : PySem.W.Frag} {mg : Str → Option Value} {base : Heap}
theorem ok_is_any_integer (T : Txt K mg) : Def P w K mg base 1 "is_any_integer" ["value"] (sp_is_any_integer K) := by
  obtain ⟨f_, fd_, g_, F_⟩ := T.d_is_any_integer
  refine ⟨f_, fd_, g_, F_.kp, F_.binds (ps := ["value"]) (fun _ _ _ _ _ _ us hl => match us, hl with | [_], _ => rfl), ?_⟩
  refine F_.ok sc_is_any_integer (fun vs H Q E h => ?_) (fun cdv A outer s H vs Q E hr h => ?_)
  · first | (obtain ⟨rfl, _⟩ := h; rfl) | (obtain ⟨_, rfl, _⟩ := h; rfl) | (obtain ⟨_, _, rfl, _⟩ := h; rfl) | (obtain ⟨_, _, _, rfl, _⟩ := h; rfl) | (obtain ⟨_, _, _, _, rfl, _⟩ := h; rfl) | (obtain ⟨_, _, _, _, _, rfl, _⟩ := h; rfl) | (obtain ⟨_, _, _, _, _, _, rfl, _⟩ := h; rfl) | (obtain ⟨_, _, _, _, _, _, _, rfl, _⟩ := h; rfl) | (obtain ⟨_, _, _, _, _, _, _, _, rfl, _⟩ := h; rfl) | (obtain ⟨_, _, _, _, _, _, _, _, _, rfl, _⟩ := h; rfl) | (obtain ⟨_, _, _, _, _, _, _, _, _, _, rfl, _⟩ := h; rfl) | (obtain ⟨_, _, _, _, _, _, _, _, _, _, _, rfl, _⟩ := h; rfl) | (obtain ⟨_, _, _, _, _, _, _, _, _, _, _, _, rfl, _⟩ := h; rfl) | (obtain ⟨_, _, _, _, _, _, _, _, _, _, _, _, _, rfl, _⟩ := h; rfl) | (obtain ⟨_, _, _, _, _, _, _, _, _, _, _, _, _, _, rfl, _⟩ := h; rfl) | (obtain ⟨_, _, _, _, _, _, _, _, _, _, _, _, _, _, _, rfl, _⟩ := h; rfl) | (obtain ⟨_, _, _, _, _, _, _, _, _, _, _, _, _, _, _, _, rfl, _⟩ := h; rfl) | (obtain ⟨_, _, _, _, _, _, _, _, _, _, _, _, _, _, _, _, _, rfl, _⟩ := h; rfl) | (obtain ⟨_, _, _, _, _, _, _, _, _, _, _, _, _, _, _, _, _, _, rfl, _⟩ := h; rfl) | (obtain ⟨_, _, _, _, _, _, _, _, _, _, _, _, _, _, _, _, _, _, _, rfl, _⟩ := h; rfl) | (obtain ⟨_, _, _, _, _, _, _, _, _, _, _, _, _, _, _, _, _, _, _, _, rfl, _⟩ := h; rfl) | (obtain ⟨_, _, _, _, _, _, _, _, _, _, _, _, _, _, _, _, _, _, _, _, _, rfl, _⟩ := h; rfl) | (obtain ⟨_, _, _, _, _, _, _, _, _, _, _, _, _, _, _, _, _, _, _, _, _, _, rfl, _⟩ := h; rfl) | (obtain ⟨_, _, _, _, _, _, _, _, _, _, _, _, _, _, _, _, _, _, _, _, _, _, _, rfl, _⟩ := h; rfl)
  · obtain ⟨i, rfl, q⟩ := h
    refine ⟨_, (pss_one (ps_ret (pe_and (pe_callB call_isi (by rfl) T.b_isinstance (by decide +kernel) (pa_cons (pv 0) (pa_cons (pe_bltn (v := .ty "int") (by rfl) T.b_int (by decide +kernel) rfl) pa_nil))) (pe_one (pe_not (pe_callB call_isi (by rfl) T.b_isinstance (by decide +kernel) (pa_cons (pv 0) (pa_cons (pe_bltn (v := .ty "bool") (by rfl) T.b_bool (by decide +kernel) rfl) pa_nil)))))))), ?_⟩
    refine ⟨_, rfl, _, _, _, _, true, rfl, .ty _, .base (.int i), kit_ty (by decide +kernel), _, rfl, iteT ?_⟩
    exact ⟨_, rfl, _, _, _, _, false, rfl, .ty _, .base (.int i), kit_ty (by decide +kernel), _, rfl, q⟩
theorem ok_is_short_integer (T : Txt K mg) : Def P w K mg base 2 "is_short_integer" ["value"] (sp_is_short_integer K) := by
  obtain ⟨f_, fd_, g_, F_⟩ := T.d_is_short_integer
  obtain ⟨f_is_any_integer, fd_is_any_integer, g_is_any_integer, k_is_any_integer, b_is_any_integer, G_is_any_integer⟩ := (ok_is_any_integer (P := P) (w := w) (base := base) T)
  refine ⟨f_, fd_, g_, F_.kp, F_.binds (ps := ["value"]) (fun _ _ _ _ _ _ us hl => match us, hl with | [_], _ => rfl), ?_⟩
  refine F_.ok sc_is_short_integer (fun vs H Q E h => ?_) (fun cdv A outer s H vs Q E hr h => ?_)
  · first | (obtain ⟨rfl, _⟩ := h; rfl) | (obtain ⟨_, rfl, _⟩ := h; rfl) | (obtain ⟨_, _, rfl, _⟩ := h; rfl) | (obtain ⟨_, _, _, rfl, _⟩ := h; rfl) | (obtain ⟨_, _, _, _, rfl, _⟩ := h; rfl) | (obtain ⟨_, _, _, _, _, rfl, _⟩ := h; rfl) | (obtain ⟨_, _, _, _, _, _, rfl, _⟩ := h; rfl) | (obtain ⟨_, _, _, _, _, _, _, rfl, _⟩ := h; rfl) | (obtain ⟨_, _, _, _, _, _, _, _, rfl, _⟩ := h; rfl) | (obtain ⟨_, _, _, _, _, _, _, _, _, rfl, _⟩ := h; rfl) | (obtain ⟨_, _, _, _, _, _, _, _, _, _, rfl, _⟩ := h; rfl) | (obtain ⟨_, _, _, _, _, _, _, _, _, _, _, rfl, _⟩ := h; rfl) | (obtain ⟨_, _, _, _, _, _, _, _, _, _, _, _, rfl, _⟩ := h; rfl) | (obtain ⟨_, _, _, _, _, _, _, _, _, _, _, _, _, rfl, _⟩ := h; rfl) | (obtain ⟨_, _, _, _, _, _, _, _, _, _, _, _, _, _, rfl, _⟩ := h; rfl) | (obtain ⟨_, _, _, _, _, _, _, _, _, _, _, _, _, _, _, rfl, _⟩ := h; rfl) | (obtain ⟨_, _, _, _, _, _, _, _, _, _, _, _, _, _, _, _, rfl, _⟩ := h; rfl) | (obtain ⟨_, _, _, _, _, _, _, _, _, _, _, _, _, _, _, _, _, rfl, _⟩ := h; rfl) | (obtain ⟨_, _, _, _, _, _, _, _, _, _, _, _, _, _, _, _, _, _, rfl, _⟩ := h; rfl) | (obtain ⟨_, _, _, _, _, _, _, _, _, _, _, _, _, _, _, _, _, _, _, rfl, _⟩ := h; rfl) | (obtain ⟨_, _, _, _, _, _, _, _, _, _, _, _, _, _, _, _, _, _, _, _, rfl, _⟩ := h; rfl) | (obtain ⟨_, _, _, _, _, _, _, _, _, _, _, _, _, _, _, _, _, _, _, _, _, rfl, _⟩ := h; rfl) | (obtain ⟨_, _, _, _, _, _, _, _, _, _, _, _, _, _, _, _, _, _, _, _, _, _, rfl, _⟩ := h; rfl) | (obtain ⟨_, _, _, _, _, _, _, _, _, _, _, _, _, _, _, _, _, _, _, _, _, _, _, rfl, _⟩ := h; rfl)
  · obtain ⟨i, rfl, hs, q⟩ := h
    obtain ⟨t_LIMIT, h_LIMIT⟩ := T.x_LIMIT
    refine ⟨_, (pss_one (ps_ret (pe_and (pe_call G_is_any_integer (hr.mono (by decide)) (by rfl) g_is_any_integer k_is_any_integer b_is_any_integer .nil pass0 (pa_cons (pv 0) pa_nil)) (pe_one (pe_chain op_lt op_lt (pe_un un_neg (pe_glob (v := .int 1000000000000000000000000000000000000000000000000000000000000) (by rfl) h_LIMIT ⟨_, rfl⟩)) (pv 0) (pe_glob (v := .int 1000000000000000000000000000000000000000000000000000000000000) (by rfl) h_LIMIT ⟨_, rfl⟩)))))), ?_⟩
    refine ⟨_, rfl, i, rfl, _, rfl, iteT ?_⟩
    refine ⟨_, rfl, _, rfl, _, _, rfl, rfl, _, rfl, dT hs.1 ⟨_, _, rfl, rfl, ?_⟩⟩
    show Q (.bl (decide (i < 1000000000000000000000000000000000000000000000000000000000000))) H
    rw [decide_eq_true hs.2]
    exact q
theorem ok_is_between (T : Txt K mg) : Def P w K mg base 3 "is_between" ["value", "low", "high"] (sp_is_between K) := by
  obtain ⟨f_, fd_, g_, F_⟩ := T.d_is_between
  obtain ⟨f_is_short_integer, fd_is_short_integer, g_is_short_integer, k_is_short_integer, b_is_short_integer, G_is_short_integer⟩ := (ok_is_short_integer (P := P) (w := w) (base := base) T)
  refine ⟨f_, fd_, g_, F_.kp, F_.binds (ps := ["value", "low", "high"]) (fun _ _ _ _ _ _ us hl => match us, hl with | [_, _, _], _ => rfl), ?_⟩
  refine F_.ok sc_is_between (fun vs H Q E h => ?_) (fun cdv A outer s H vs Q E hr h => ?_)
  · first | (obtain ⟨rfl, _⟩ := h; rfl) | (obtain ⟨_, rfl, _⟩ := h; rfl) | (obtain ⟨_, _, rfl, _⟩ := h; rfl) | (obtain ⟨_, _, _, rfl, _⟩ := h; rfl) | (obtain ⟨_, _, _, _, rfl, _⟩ := h; rfl) | (obtain ⟨_, _, _, _, _, rfl, _⟩ := h; rfl) | (obtain ⟨_, _, _, _, _, _, rfl, _⟩ := h; rfl) | (obtain ⟨_, _, _, _, _, _, _, rfl, _⟩ := h; rfl) | (obtain ⟨_, _, _, _, _, _, _, _, rfl, _⟩ := h; rfl) | (obtain ⟨_, _, _, _, _, _, _, _, _, rfl, _⟩ := h; rfl) | (obtain ⟨_, _, _, _, _, _, _, _, _, _, rfl, _⟩ := h; rfl) | (obtain ⟨_, _, _, _, _, _, _, _, _, _, _, rfl, _⟩ := h; rfl) | (obtain ⟨_, _, _, _, _, _, _, _, _, _, _, _, rfl, _⟩ := h; rfl) | (obtain ⟨_, _, _, _, _, _, _, _, _, _, _, _, _, rfl, _⟩ := h; rfl) | (obtain ⟨_, _, _, _, _, _, _, _, _, _, _, _, _, _, rfl, _⟩ := h; rfl) | (obtain ⟨_, _, _, _, _, _, _, _, _, _, _, _, _, _, _, rfl, _⟩ := h; rfl) | (obtain ⟨_, _, _, _, _, _, _, _, _, _, _, _, _, _, _, _, rfl, _⟩ := h; rfl) | (obtain ⟨_, _, _, _, _, _, _, _, _, _, _, _, _, _, _, _, _, rfl, _⟩ := h; rfl) | (obtain ⟨_, _, _, _, _, _, _, _, _, _, _, _, _, _, _, _, _, _, rfl, _⟩ := h; rfl) | (obtain ⟨_, _, _, _, _, _, _, _, _, _, _, _, _, _, _, _, _, _, _, rfl, _⟩ := h; rfl) | (obtain ⟨_, _, _, _, _, _, _, _, _, _, _, _, _, _, _, _, _, _, _, _, rfl, _⟩ := h; rfl) | (obtain ⟨_, _, _, _, _, _, _, _, _, _, _, _, _, _, _, _, _, _, _, _, _, rfl, _⟩ := h; rfl) | (obtain ⟨_, _, _, _, _, _, _, _, _, _, _, _, _, _, _, _, _, _, _, _, _, _, rfl, _⟩ := h; rfl) | (obtain ⟨_, _, _, _, _, _, _, _, _, _, _, _, _, _, _, _, _, _, _, _, _, _, _, rfl, _⟩ := h; rfl)
  · obtain ⟨i, lo, hi, rfl, hs, h1, h2, q⟩ := h
    refine ⟨_, (pss_one (ps_ret (pe_and (pe_call G_is_short_integer (hr.mono (by decide)) (by rfl) g_is_short_integer k_is_short_integer b_is_short_integer .nil pass0 (pa_cons (pv 0) pa_nil)) (pe_one (pe_chain op_le op_le (pv 1) (pv 0) (pv 2)))))), ?_⟩
    refine ⟨_, rfl, i, rfl, hs, _, rfl, iteT ?_⟩
    refine ⟨_, rfl, _, rfl, _, _, rfl, rfl, _, rfl, dT h1 ⟨_, rfl, _, _, rfl, rfl, ?_⟩⟩
    show Q (.bl (decide (i ≤ hi))) H
    rw [decide_eq_true h2]
    exact q
theorem ok_check_between (T : Txt K mg) : Def P w K mg base 4 "check_between" ["value", "low", "high"] (sp_check_between K) := by
  obtain ⟨f_, fd_, g_, F_⟩ := T.d_check_between
  obtain ⟨f_is_between, fd_is_between, g_is_between, k_is_between, b_is_between, G_is_between⟩ := (ok_is_between (P := P) (w := w) (base := base) T)
  refine ⟨f_, fd_, g_, F_.kp, F_.binds (ps := ["value", "low", "high"]) (fun _ _ _ _ _ _ us hl => match us, hl with | [_, _, _], _ => rfl), ?_⟩
  refine F_.ok sc_check_between (fun vs H Q E h => ?_) (fun cdv A outer s H vs Q E hr h => ?_)
  · first | (obtain ⟨rfl, _⟩ := h; rfl) | (obtain ⟨_, rfl, _⟩ := h; rfl) | (obtain ⟨_, _, rfl, _⟩ := h; rfl) | (obtain ⟨_, _, _, rfl, _⟩ := h; rfl) | (obtain ⟨_, _, _, _, rfl, _⟩ := h; rfl) | (obtain ⟨_, _, _, _, _, rfl, _⟩ := h; rfl) | (obtain ⟨_, _, _, _, _, _, rfl, _⟩ := h; rfl) | (obtain ⟨_, _, _, _, _, _, _, rfl, _⟩ := h; rfl) | (obtain ⟨_, _, _, _, _, _, _, _, rfl, _⟩ := h; rfl) | (obtain ⟨_, _, _, _, _, _, _, _, _, rfl, _⟩ := h; rfl) | (obtain ⟨_, _, _, _, _, _, _, _, _, _, rfl, _⟩ := h; rfl) | (obtain ⟨_, _, _, _, _, _, _, _, _, _, _, rfl, _⟩ := h; rfl) | (obtain ⟨_, _, _, _, _, _, _, _, _, _, _, _, rfl, _⟩ := h; rfl) | (obtain ⟨_, _, _, _, _, _, _, _, _, _, _, _, _, rfl, _⟩ := h; rfl) | (obtain ⟨_, _, _, _, _, _, _, _, _, _, _, _, _, _, rfl, _⟩ := h; rfl) | (obtain ⟨_, _, _, _, _, _, _, _, _, _, _, _, _, _, _, rfl, _⟩ := h; rfl) | (obtain ⟨_, _, _, _, _, _, _, _, _, _, _, _, _, _, _, _, rfl, _⟩ := h; rfl) | (obtain ⟨_, _, _, _, _, _, _, _, _, _, _, _, _, _, _, _, _, rfl, _⟩ := h; rfl) | (obtain ⟨_, _, _, _, _, _, _, _, _, _, _, _, _, _, _, _, _, _, rfl, _⟩ := h; rfl) | (obtain ⟨_, _, _, _, _, _, _, _, _, _, _, _, _, _, _, _, _, _, _, rfl, _⟩ := h; rfl) | (obtain ⟨_, _, _, _, _, _, _, _, _, _, _, _, _, _, _, _, _, _, _, _, rfl, _⟩ := h; rfl) | (obtain ⟨_, _, _, _, _, _, _, _, _, _, _, _, _, _, _, _, _, _, _, _, _, rfl, _⟩ := h; rfl) | (obtain ⟨_, _, _, _, _, _, _, _, _, _, _, _, _, _, _, _, _, _, _, _, _, _, rfl, _⟩ := h; rfl) | (obtain ⟨_, _, _, _, _, _, _, _, _, _, _, _, _, _, _, _, _, _, _, _, _, _, _, rfl, _⟩ := h; rfl)
  · obtain ⟨i, lo, hi, rfl, hs, h1, h2, q⟩ := h
    refine ⟨_, (pss_one (ps_if (pt_not (pt_val (pe_call G_is_between (hr.mono (by decide)) (by rfl) g_is_between k_is_between b_is_between .nil pass0 (pa_cons (pv 0) (pa_cons (pv 1) (pa_cons (pv 2) pa_nil))))))
      pss_never
      pss_nil)), ?_⟩
    refine ⟨_, rfl, _, rfl, _, rfl, i, lo, hi, rfl, hs, h1, h2, _, rfl, ?_⟩
    exact iteF q
theorem ok_are_short_integers (T : Txt K mg) : Def P w K mg base 1 "are_short_integers" ["value", "many"] (sp_are_short_integers K) := by
  obtain ⟨f_, fd_, g_, F_⟩ := T.d_are_short_integers
  refine ⟨f_, fd_, g_, F_.kp, F_.binds (ps := ["value", "many"]) (fun _ _ _ _ _ _ us hl => match us, hl with | [_, _], _ => rfl), ?_⟩
  refine F_.ok sc_are_short_integers (fun vs H Q E h => ?_) (fun cdv A outer s H vs Q E hr h => ?_)
  · first | (obtain ⟨rfl, _⟩ := h; rfl) | (obtain ⟨_, rfl, _⟩ := h; rfl) | (obtain ⟨_, _, rfl, _⟩ := h; rfl) | (obtain ⟨_, _, _, rfl, _⟩ := h; rfl) | (obtain ⟨_, _, _, _, rfl, _⟩ := h; rfl) | (obtain ⟨_, _, _, _, _, rfl, _⟩ := h; rfl) | (obtain ⟨_, _, _, _, _, _, rfl, _⟩ := h; rfl) | (obtain ⟨_, _, _, _, _, _, _, rfl, _⟩ := h; rfl) | (obtain ⟨_, _, _, _, _, _, _, _, rfl, _⟩ := h; rfl) | (obtain ⟨_, _, _, _, _, _, _, _, _, rfl, _⟩ := h; rfl) | (obtain ⟨_, _, _, _, _, _, _, _, _, _, rfl, _⟩ := h; rfl) | (obtain ⟨_, _, _, _, _, _, _, _, _, _, _, rfl, _⟩ := h; rfl) | (obtain ⟨_, _, _, _, _, _, _, _, _, _, _, _, rfl, _⟩ := h; rfl) | (obtain ⟨_, _, _, _, _, _, _, _, _, _, _, _, _, rfl, _⟩ := h; rfl) | (obtain ⟨_, _, _, _, _, _, _, _, _, _, _, _, _, _, rfl, _⟩ := h; rfl) | (obtain ⟨_, _, _, _, _, _, _, _, _, _, _, _, _, _, _, rfl, _⟩ := h; rfl) | (obtain ⟨_, _, _, _, _, _, _, _, _, _, _, _, _, _, _, _, rfl, _⟩ := h; rfl) | (obtain ⟨_, _, _, _, _, _, _, _, _, _, _, _, _, _, _, _, _, rfl, _⟩ := h; rfl) | (obtain ⟨_, _, _, _, _, _, _, _, _, _, _, _, _, _, _, _, _, _, rfl, _⟩ := h; rfl) | (obtain ⟨_, _, _, _, _, _, _, _, _, _, _, _, _, _, _, _, _, _, _, rfl, _⟩ := h; rfl) | (obtain ⟨_, _, _, _, _, _, _, _, _, _, _, _, _, _, _, _, _, _, _, _, rfl, _⟩ := h; rfl) | (obtain ⟨_, _, _, _, _, _, _, _, _, _, _, _, _, _, _, _, _, _, _, _, _, rfl, _⟩ := h; rfl) | (obtain ⟨_, _, _, _, _, _, _, _, _, _, _, _, _, _, _, _, _, _, _, _, _, _, rfl, _⟩ := h; rfl) | (obtain ⟨_, _, _, _, _, _, _, _, _, _, _, _, _, _, _, _, _, _, _, _, _, _, _, rfl, _⟩ := h; rfl)
  · obtain ⟨a, ns, rfl, ha, hl, hs, q⟩ := h
    obtain ⟨t_LIMIT, h_LIMIT⟩ := T.x_LIMIT
    refine ⟨_, (pss_cons (ps_if (PW.pt (pw_or (pt_not (pt_val (pe_callB call_isi (by rfl) T.b_isinstance (by decide +kernel) (pa_cons (pv 0) (pa_cons (pe_bltn (v := .ty "tuple") (by rfl) T.b_tuple (by decide +kernel) rfl) pa_nil))))) (pw_or1 (pt_cmpR op_ne (pe_callB call_len_seq (by rfl) T.b_len PySem.boot_len (pa_cons (pv 0) pa_nil)) (pv 1) (nomark _)))))
      (pss_one (ps_ret pe_bl))
      pss_nil)
    (pss_one (ps_ret (pe_callB (cr_all rfl) (by rfl) T.b_all (by decide +kernel) (pa_cons (pe_lc (own := [("n", 2)]) (g := (gName 2)) rfl sc_are_short_integers.nd (pi_tup (pv 0)) (blkOk_by (N := N_are_short_integers) (sc := defScope s_are_short_integers) (by decide +kernel)) (fun _ _ _ _ _ => (pg_name (i := 2) sc_are_short_integers.nd rfl (.inl rfl))) (fun _ _ _ _ _ => pts_nil) (fun _ _ _ _ _ => (pe_and (pe_callB (call_isiKK (K := K) rfl) (by rfl) T.b_isinstance (by decide +kernel) (pa_cons (pv 2) (pa_cons (pe_bltn (v := .ty "int") (by rfl) T.b_int (by decide +kernel) rfl) pa_nil))) (pe_and (pe_not (pe_callB (call_isiKK (K := K) rfl) (by rfl) T.b_isinstance (by decide +kernel) (pa_cons (pv 2) (pa_cons (pe_bltn (v := .ty "bool") (by rfl) T.b_bool (by decide +kernel) rfl) pa_nil)))) (pe_one (pe_chain op_lt op_lt (pe_un un_neg (pe_glob (v := .int 1000000000000000000000000000000000000000000000000000000000000) (by rfl) h_LIMIT ⟨_, rfl⟩)) (pv 2) (pe_glob (v := .int 1000000000000000000000000000000000000000000000000000000000000) (by rfl) h_LIMIT ⟨_, rfl⟩))))))) pa_nil))))), ?_⟩
    refine ⟨_, rfl, _, _, _, _, true, rfl, .ty _, .base (.tup ha), kit_ty (by decide +kernel), _, rfl, ?_⟩
    refine iteF ⟨_, rfl, a, _, rfl, .inr (SqT.of ha), _, rfl, rfl, _, rfl, ?_⟩
    refine ndF (by rw [List.length_map]) ?_
    refine ⟨_, rfl, a, rfl, ⟨_, SqT.of ha⟩, ?_⟩
    refine lcT fm0 trivial (SqT.of ha) (fun z => z) (fun i acc _ => acc = (List.replicate i true).map V.bl) (fun _ _ => rfl) (fun D i x acc H' hD hx e hA hlen hp => ?_) (fun D H' acc hD e hA hp => ?_)
    · obtain ⟨n, hn, rfl⟩ : ∃ n, ns[i]? = some n ∧ x = V.int n := by
        rw [List.getElem?_map] at hx
        cases e : ns[i]? with
        | none => rw [e] at hx; cases hx
        | some z => rw [e] at hx; exact ⟨z, rfl, (Option.some.inj hx).symm⟩
      have hi := (List.getElem?_eq_some_iff.mp hn).1
      refine ⟨rfl, ?_⟩
      have hn2 := hs n (List.mem_of_getElem? hn)
      refine ⟨_, rfl, _, _, _, _, true, rfl, .ty _, .base (.int n), kit_ty (by decide +kernel), _, rfl, iteT ?_⟩
      refine ⟨_, rfl, _, _, _, _, false, rfl, .ty _, .base (.int n), kit_ty (by decide +kernel), _, rfl, _, rfl, iteT ?_⟩
      refine ⟨_, rfl, _, rfl, _, _, rfl, rfl, _, rfl, dT hn2.1 ⟨_, _, rfl, rfl, ?_⟩⟩
      simp only [decide_eq_true hn2.2]
      refine cs_yes fm0 trivial hD e hA hlen (by omega) (Fx.refl trivial) ?_
      show acc ++ [V.bl true] = _
      rw [hp, List.replicate_succ', List.map_append]
      rfl
    · rw [List.length_map] at hp
      subst hp
      refine ⟨D, _, rfl, SqL.of hA, ?_⟩
      rw [show ((List.replicate ns.length true).all id) = true by simp]
      exact q H' e
theorem ok_l_scoop (T : Txt K mg) : Def P w K mg base 1 "_law_scoop" ["_law_vat_here", "_law_total"] (sp_l_scoop K) := by
  obtain ⟨f_, fd_, g_, F_⟩ := T.d_l_scoop
  refine ⟨f_, fd_, g_, F_.kp, F_.binds (ps := ["_law_vat_here", "_law_total"]) (fun _ _ _ _ _ _ us hl => match us, hl with | [_, _], _ => rfl), ?_⟩
  refine F_.ok sc_l_scoop (fun vs H Q E h => ?_) (fun cdv A outer s H vs Q E hr h => ?_)
  · first | (obtain ⟨rfl, _⟩ := h; rfl) | (obtain ⟨_, rfl, _⟩ := h; rfl) | (obtain ⟨_, _, rfl, _⟩ := h; rfl) | (obtain ⟨_, _, _, rfl, _⟩ := h; rfl) | (obtain ⟨_, _, _, _, rfl, _⟩ := h; rfl) | (obtain ⟨_, _, _, _, _, rfl, _⟩ := h; rfl) | (obtain ⟨_, _, _, _, _, _, rfl, _⟩ := h; rfl) | (obtain ⟨_, _, _, _, _, _, _, rfl, _⟩ := h; rfl) | (obtain ⟨_, _, _, _, _, _, _, _, rfl, _⟩ := h; rfl) | (obtain ⟨_, _, _, _, _, _, _, _, _, rfl, _⟩ := h; rfl) | (obtain ⟨_, _, _, _, _, _, _, _, _, _, rfl, _⟩ := h; rfl) | (obtain ⟨_, _, _, _, _, _, _, _, _, _, _, rfl, _⟩ := h; rfl) | (obtain ⟨_, _, _, _, _, _, _, _, _, _, _, _, rfl, _⟩ := h; rfl) | (obtain ⟨_, _, _, _, _, _, _, _, _, _, _, _, _, rfl, _⟩ := h; rfl) | (obtain ⟨_, _, _, _, _, _, _, _, _, _, _, _, _, _, rfl, _⟩ := h; rfl) | (obtain ⟨_, _, _, _, _, _, _, _, _, _, _, _, _, _, _, rfl, _⟩ := h; rfl) | (obtain ⟨_, _, _, _, _, _, _, _, _, _, _, _, _, _, _, _, rfl, _⟩ := h; rfl) | (obtain ⟨_, _, _, _, _, _, _, _, _, _, _, _, _, _, _, _, _, rfl, _⟩ := h; rfl) | (obtain ⟨_, _, _, _, _, _, _, _, _, _, _, _, _, _, _, _, _, _, rfl, _⟩ := h; rfl) | (obtain ⟨_, _, _, _, _, _, _, _, _, _, _, _, _, _, _, _, _, _, _, rfl, _⟩ := h; rfl) | (obtain ⟨_, _, _, _, _, _, _, _, _, _, _, _, _, _, _, _, _, _, _, _, rfl, _⟩ := h; rfl) | (obtain ⟨_, _, _, _, _, _, _, _, _, _, _, _, _, _, _, _, _, _, _, _, _, rfl, _⟩ := h; rfl) | (obtain ⟨_, _, _, _, _, _, _, _, _, _, _, _, _, _, _, _, _, _, _, _, _, _, rfl, _⟩ := h; rfl) | (obtain ⟨_, _, _, _, _, _, _, _, _, _, _, _, _, _, _, _, _, _, _, _, _, _, _, rfl, _⟩ := h; rfl)
  · obtain ⟨c, t, rfl, ⟨x, y, z, hv⟩, h0, h1, q⟩ := h
    refine ⟨_, (pss_cons (ps_if (pt_cmpR op_gt (pe_ix ix_list (pv 0) pe_int (fun _ _ => rfl)) pe_int (nomark _))
      (pss_cons (ps_set (i := 2) sc_l_scoop.nd rfl (.inl rfl) (pe_op op_mod (pe_callTy call_int1 (by rfl) T.b_int (by decide +kernel) (pa_cons (pe_ix ix_list (pv 0) pe_int (fun _ _ => rfl)) pa_nil)) (pv 1)))
    (pss_cons (ps_asg (pe_op op_fdivW (pe_ix ix_list (pv 0) pe_int (fun _ _ => rfl)) (pv 1)) (pg_sub (pv 0) pe_int set_list))
    (pss_one (ps_ret (pv 2)))))
      pss_nil)
    (pss_cons (ps_asg (pe_op op_add (pe_ix ix_list (pv 0) pe_int (fun _ _ => rfl)) pe_int) (pg_sub (pv 0) pe_int set_list))
    (pss_cons (ps_set (i := 3) sc_l_scoop.nd rfl (.inl rfl) (pe_op op_mod (pe_callTy call_int1 (by rfl) T.b_int (by decide +kernel) (pa_cons (pe_op op_add (pe_ix ix_list (pv 0) pe_int (fun _ _ => rfl)) (pe_op op_mul pe_int (pe_ix ix_list (pv 0) pe_int (fun _ _ => rfl)))) pa_nil)) pe_int))
    (pss_cons (ps_set (i := 4) sc_l_scoop.nd rfl (.inl rfl) (pe_op op_mod (pe_callTy call_int1 (by rfl) T.b_int (by decide +kernel) (pa_cons (pe_op op_add (pe_op op_mul (pv 3) (pv 3)) (pe_op op_mul pe_int (pe_ix ix_list (pv 0) pe_int (fun _ _ => rfl)))) pa_nil)) pe_int))
    (pss_one (ps_ret (pe_op op_mod (pe_callTy call_int1 (by rfl) T.b_int (by decide +kernel) (pa_cons (pe_op op_fdivW (pe_callTy call_int1 (by rfl) T.b_int (by decide +kernel) (pa_cons (pe_op op_add (pe_op op_mul (pv 4) pe_int) (pv 3)) pa_nil)) pe_int) pa_nil)) (pv 1)))))))), ?_⟩
    have fv : ∀ (H' : Hp) (x' y' z' : Int), (∀ b o, b ≠ c → H b = some o → H' b = some o) → H' c = some (.lst [.int x', .int y', .int z']) → Fv c H H' := fun H' x' y' z' a b => ⟨⟨x', y', z', b⟩, a⟩
    refine ⟨_, rfl, c, _, 0, .int x, rfl, rfl, SqL.of hv, rfl, x, 0, rfl, rfl, _, rfl, iteD (fun g => ?_) (fun g => ?_)⟩
    · refine ⟨_, rfl, c, _, 0, .int x, rfl, rfl, SqL.of hv, rfl, .inl ⟨x, rfl, _, rfl, x, t, rfl, rfl, h0, ?_⟩⟩
      refine ⟨_, rfl, c, _, 0, .int x, rfl, rfl, SqL.of hv, rfl, _, rfl, x, t, rfl, rfl, dw h0 h1, ?_⟩
      refine ⟨_, rfl, c, _, 0, 0, rfl, rfl, hv, rfl, ?_⟩
      refine ⟨_, rfl, ?_⟩
      exact q _ _ (Int.emod_nonneg _ (by omega)) (Int.emod_lt_of_pos _ h0) (fv _ _ _ _ (fun b o n e => by rw [upd_ne n]; exact e) upd_same)
    · refine ⟨_, rfl, c, _, 2, .int z, rfl, rfl, SqL.of hv, rfl, _, 1, rfl, rfl, ?_⟩
      refine ⟨_, rfl, c, _, 2, 2, rfl, rfl, hv, rfl, ?_⟩
      have hv2 : upd H c (.lst [.int x, .int y, .int (z + 1)]) c = some (.lst [.int x, .int y, .int (z + 1)]) := upd_same
      refine ⟨_, rfl, c, _, 1, .int y, rfl, rfl, SqL.of hv2, rfl, _, rfl, c, _, 2, .int (z + 1), rfl, rfl, SqL.of hv2, rfl, _, _, rfl, rfl, .inl ⟨by decide, by decide⟩, _, _, rfl, rfl, .inl ⟨_, rfl, ?_⟩⟩
      refine ⟨_, _, rfl, rfl, (show (0 : Int) < 4611686018427387701 by decide), ?_⟩
      refine ⟨_, rfl, _, rfl, _, _, rfl, rfl, .inl ⟨by omega, by omega⟩, _, rfl, c, _, 2, .int (z + 1), rfl, rfl, SqL.of hv2, rfl, _, _, rfl, rfl, .inl ⟨by decide, by decide⟩, _, _, rfl, rfl, .inl ⟨_, rfl, ?_⟩⟩
      refine ⟨_, _, rfl, rfl, (show (0 : Int) < 4611686018427387617 by decide), ?_⟩
      refine ⟨_, rfl, _, _, rfl, rfl, .inl ⟨by omega, by omega⟩, _, rfl, _, _, rfl, rfl, .inl ⟨_, rfl, ?_⟩⟩
      refine ⟨_, _, rfl, rfl, dw (by decide) (by decide), .inl ⟨_, rfl, _, rfl, _, _, rfl, rfl, h0, ?_⟩⟩
      exact q _ _ (Int.emod_nonneg _ (by omega)) (Int.emod_lt_of_pos _ h0) (fv _ _ _ _ (fun b o n e => by rw [upd_ne n]; exact e) hv2)
theorem ok_l_from (T : Txt K mg) : Def P w K mg base 2 "_law_from" ["_law_vat_here", "_law_items"] (sp_l_from K) := by
  obtain ⟨f_, fd_, g_, F_⟩ := T.d_l_from
  obtain ⟨f_l_scoop, fd_l_scoop, g_l_scoop, k_l_scoop, b_l_scoop, G_l_scoop⟩ := (ok_l_scoop (P := P) (w := w) (base := base) T)
  refine ⟨f_, fd_, g_, F_.kp, F_.binds (ps := ["_law_vat_here", "_law_items"]) (fun _ _ _ _ _ _ us hl => match us, hl with | [_, _], _ => rfl), ?_⟩
  refine F_.ok sc_l_from (fun vs H Q E h => ?_) (fun cdv A outer s H vs Q E hr h => ?_)
  · first | (obtain ⟨rfl, _⟩ := h; rfl) | (obtain ⟨_, rfl, _⟩ := h; rfl) | (obtain ⟨_, _, rfl, _⟩ := h; rfl) | (obtain ⟨_, _, _, rfl, _⟩ := h; rfl) | (obtain ⟨_, _, _, _, rfl, _⟩ := h; rfl) | (obtain ⟨_, _, _, _, _, rfl, _⟩ := h; rfl) | (obtain ⟨_, _, _, _, _, _, rfl, _⟩ := h; rfl) | (obtain ⟨_, _, _, _, _, _, _, rfl, _⟩ := h; rfl) | (obtain ⟨_, _, _, _, _, _, _, _, rfl, _⟩ := h; rfl) | (obtain ⟨_, _, _, _, _, _, _, _, _, rfl, _⟩ := h; rfl) | (obtain ⟨_, _, _, _, _, _, _, _, _, _, rfl, _⟩ := h; rfl) | (obtain ⟨_, _, _, _, _, _, _, _, _, _, _, rfl, _⟩ := h; rfl) | (obtain ⟨_, _, _, _, _, _, _, _, _, _, _, _, rfl, _⟩ := h; rfl) | (obtain ⟨_, _, _, _, _, _, _, _, _, _, _, _, _, rfl, _⟩ := h; rfl) | (obtain ⟨_, _, _, _, _, _, _, _, _, _, _, _, _, _, rfl, _⟩ := h; rfl) | (obtain ⟨_, _, _, _, _, _, _, _, _, _, _, _, _, _, _, rfl, _⟩ := h; rfl) | (obtain ⟨_, _, _, _, _, _, _, _, _, _, _, _, _, _, _, _, rfl, _⟩ := h; rfl) | (obtain ⟨_, _, _, _, _, _, _, _, _, _, _, _, _, _, _, _, _, rfl, _⟩ := h; rfl) | (obtain ⟨_, _, _, _, _, _, _, _, _, _, _, _, _, _, _, _, _, _, rfl, _⟩ := h; rfl) | (obtain ⟨_, _, _, _, _, _, _, _, _, _, _, _, _, _, _, _, _, _, _, rfl, _⟩ := h; rfl) | (obtain ⟨_, _, _, _, _, _, _, _, _, _, _, _, _, _, _, _, _, _, _, _, rfl, _⟩ := h; rfl) | (obtain ⟨_, _, _, _, _, _, _, _, _, _, _, _, _, _, _, _, _, _, _, _, _, rfl, _⟩ := h; rfl) | (obtain ⟨_, _, _, _, _, _, _, _, _, _, _, _, _, _, _, _, _, _, _, _, _, _, rfl, _⟩ := h; rfl) | (obtain ⟨_, _, _, _, _, _, _, _, _, _, _, _, _, _, _, _, _, _, _, _, _, _, _, rfl, _⟩ := h; rfl)
  · obtain ⟨c, l, xs, rfl, hc, hl, ne, hx, hz, q⟩ := h
    refine ⟨_, (pss_one (ps_ret (pe_ix ix_list (pv 1) (pe_call G_l_scoop (hr.mono (by decide)) (by rfl) g_l_scoop k_l_scoop b_l_scoop .nil pass0 (pa_cons (pv 0) (pa_cons (pe_callB call_len_seq (by rfl) T.b_len PySem.boot_len (pa_cons (pv 1) pa_nil)) pa_nil))) (fun _ _ => rfl)))), ?_⟩
    have h0 : 0 < xs.length := List.length_pos_iff.mpr hx
    refine ⟨_, rfl, _, rfl, _, rfl, l, xs, rfl, .inl (SqL.of hl), c, _, rfl, hc, by omega, by omega, fun r H' r0 r1 e => ?_⟩
    obtain ⟨j, rfl⟩ : ∃ j : Nat, r = (j : Int) := ⟨r.toNat, by omega⟩
    have hj : j < xs.length := by omega
    exact ⟨l, xs, _, xs[j], rfl, rfl, SqL.of (e.2 _ _ ne hl), atI_nat (List.getElem?_eq_getElem hj), q _ _ (List.getElem_mem hj) e⟩
theorem ok_l_size (T : Txt K mg) : Def P w K mg base 2 "_law_size" ["_law_vat_here", "_law_most"] (sp_l_size K) := by
  obtain ⟨f_, fd_, g_, F_⟩ := T.d_l_size
  obtain ⟨f_l_scoop, fd_l_scoop, g_l_scoop, k_l_scoop, b_l_scoop, G_l_scoop⟩ := (ok_l_scoop (P := P) (w := w) (base := base) T)
  refine ⟨f_, fd_, g_, F_.kp, F_.binds (ps := ["_law_vat_here", "_law_most"]) (fun _ _ _ _ _ _ us hl => match us, hl with | [_, _], _ => rfl), ?_⟩
  refine F_.ok sc_l_size (fun vs H Q E h => ?_) (fun cdv A outer s H vs Q E hr h => ?_)
  · first | (obtain ⟨rfl, _⟩ := h; rfl) | (obtain ⟨_, rfl, _⟩ := h; rfl) | (obtain ⟨_, _, rfl, _⟩ := h; rfl) | (obtain ⟨_, _, _, rfl, _⟩ := h; rfl) | (obtain ⟨_, _, _, _, rfl, _⟩ := h; rfl) | (obtain ⟨_, _, _, _, _, rfl, _⟩ := h; rfl) | (obtain ⟨_, _, _, _, _, _, rfl, _⟩ := h; rfl) | (obtain ⟨_, _, _, _, _, _, _, rfl, _⟩ := h; rfl) | (obtain ⟨_, _, _, _, _, _, _, _, rfl, _⟩ := h; rfl) | (obtain ⟨_, _, _, _, _, _, _, _, _, rfl, _⟩ := h; rfl) | (obtain ⟨_, _, _, _, _, _, _, _, _, _, rfl, _⟩ := h; rfl) | (obtain ⟨_, _, _, _, _, _, _, _, _, _, _, rfl, _⟩ := h; rfl) | (obtain ⟨_, _, _, _, _, _, _, _, _, _, _, _, rfl, _⟩ := h; rfl) | (obtain ⟨_, _, _, _, _, _, _, _, _, _, _, _, _, rfl, _⟩ := h; rfl) | (obtain ⟨_, _, _, _, _, _, _, _, _, _, _, _, _, _, rfl, _⟩ := h; rfl) | (obtain ⟨_, _, _, _, _, _, _, _, _, _, _, _, _, _, _, rfl, _⟩ := h; rfl) | (obtain ⟨_, _, _, _, _, _, _, _, _, _, _, _, _, _, _, _, rfl, _⟩ := h; rfl) | (obtain ⟨_, _, _, _, _, _, _, _, _, _, _, _, _, _, _, _, _, rfl, _⟩ := h; rfl) | (obtain ⟨_, _, _, _, _, _, _, _, _, _, _, _, _, _, _, _, _, _, rfl, _⟩ := h; rfl) | (obtain ⟨_, _, _, _, _, _, _, _, _, _, _, _, _, _, _, _, _, _, _, rfl, _⟩ := h; rfl) | (obtain ⟨_, _, _, _, _, _, _, _, _, _, _, _, _, _, _, _, _, _, _, _, rfl, _⟩ := h; rfl) | (obtain ⟨_, _, _, _, _, _, _, _, _, _, _, _, _, _, _, _, _, _, _, _, _, rfl, _⟩ := h; rfl) | (obtain ⟨_, _, _, _, _, _, _, _, _, _, _, _, _, _, _, _, _, _, _, _, _, _, rfl, _⟩ := h; rfl) | (obtain ⟨_, _, _, _, _, _, _, _, _, _, _, _, _, _, _, _, _, _, _, _, _, _, _, rfl, _⟩ := h; rfl)
  · obtain ⟨c, t, rfl, hc, h0, h1, q⟩ := h
    refine ⟨_, (pss_one (ps_ret (pe_op op_sub (pe_call G_l_scoop (hr.mono (by decide)) (by rfl) g_l_scoop k_l_scoop b_l_scoop .nil pass0 (pa_cons (pv 0) (pa_cons (pe_op op_add (pe_op op_mul pe_int (pv 1)) pe_int) pa_nil))) (pv 1)))), ?_⟩
    refine ⟨_, rfl, _, rfl, _, _, rfl, rfl, .inl ⟨by decide, by decide⟩, _, _, rfl, rfl, c, _, rfl, hc, by omega, by omega, fun r H' r0 r1 e => ?_⟩
    exact ⟨_, rfl, _, _, rfl, rfl, q _ _ (by omega) (by omega) e⟩
theorem ok_l_vat (T : Txt K mg) : Def P w K mg base 1 "_law_vat" ["_law_script", "_law_at"] (sp_l_vat K) := by
  obtain ⟨f_, fd_, g_, F_⟩ := T.d_l_vat
  refine ⟨f_, fd_, g_, F_.kp, F_.binds (ps := ["_law_script", "_law_at"]) (fun _ _ _ _ _ _ us hl => match us, hl with | [_, _], _ => rfl), ?_⟩
  refine F_.ok sc_l_vat (fun vs H Q E h => ?_) (fun cdv A outer s H vs Q E hr h => ?_)
  · first | (obtain ⟨rfl, _⟩ := h; rfl) | (obtain ⟨_, rfl, _⟩ := h; rfl) | (obtain ⟨_, _, rfl, _⟩ := h; rfl) | (obtain ⟨_, _, _, rfl, _⟩ := h; rfl) | (obtain ⟨_, _, _, _, rfl, _⟩ := h; rfl) | (obtain ⟨_, _, _, _, _, rfl, _⟩ := h; rfl) | (obtain ⟨_, _, _, _, _, _, rfl, _⟩ := h; rfl) | (obtain ⟨_, _, _, _, _, _, _, rfl, _⟩ := h; rfl) | (obtain ⟨_, _, _, _, _, _, _, _, rfl, _⟩ := h; rfl) | (obtain ⟨_, _, _, _, _, _, _, _, _, rfl, _⟩ := h; rfl) | (obtain ⟨_, _, _, _, _, _, _, _, _, _, rfl, _⟩ := h; rfl) | (obtain ⟨_, _, _, _, _, _, _, _, _, _, _, rfl, _⟩ := h; rfl) | (obtain ⟨_, _, _, _, _, _, _, _, _, _, _, _, rfl, _⟩ := h; rfl) | (obtain ⟨_, _, _, _, _, _, _, _, _, _, _, _, _, rfl, _⟩ := h; rfl) | (obtain ⟨_, _, _, _, _, _, _, _, _, _, _, _, _, _, rfl, _⟩ := h; rfl) | (obtain ⟨_, _, _, _, _, _, _, _, _, _, _, _, _, _, _, rfl, _⟩ := h; rfl) | (obtain ⟨_, _, _, _, _, _, _, _, _, _, _, _, _, _, _, _, rfl, _⟩ := h; rfl) | (obtain ⟨_, _, _, _, _, _, _, _, _, _, _, _, _, _, _, _, _, rfl, _⟩ := h; rfl) | (obtain ⟨_, _, _, _, _, _, _, _, _, _, _, _, _, _, _, _, _, _, rfl, _⟩ := h; rfl) | (obtain ⟨_, _, _, _, _, _, _, _, _, _, _, _, _, _, _, _, _, _, _, rfl, _⟩ := h; rfl) | (obtain ⟨_, _, _, _, _, _, _, _, _, _, _, _, _, _, _, _, _, _, _, _, rfl, _⟩ := h; rfl) | (obtain ⟨_, _, _, _, _, _, _, _, _, _, _, _, _, _, _, _, _, _, _, _, _, rfl, _⟩ := h; rfl) | (obtain ⟨_, _, _, _, _, _, _, _, _, _, _, _, _, _, _, _, _, _, _, _, _, _, rfl, _⟩ := h; rfl) | (obtain ⟨_, _, _, _, _, _, _, _, _, _, _, _, _, _, _, _, _, _, _, _, _, _, _, rfl, _⟩ := h; rfl)
  · obtain ⟨a, ns, i, rfl, ha, q⟩ := h
    refine ⟨_, (Evl.pss_cut (ps_set (i := 2) sc_l_vat.nd rfl (.inl rfl) (pe_ifExp (pt_cmpR op_lt (pv 1) (pe_callB call_len_seq (by rfl) T.b_len PySem.boot_len (pa_cons (pv 0) pa_nil)) (nomark _)) (pe_callTy call_int1 (by rfl) T.b_int (by decide +kernel) (pa_cons (pe_ix ix_list (pv 0) (pv 1) (fun _ _ => rfl)) pa_nil)) (pe_op op_add (pe_op op_mul pe_int (pv 1)) pe_int)))
    (pss_cons (ps_set (i := 3) sc_l_vat.nd rfl (.inl rfl) (pe_op op_mod (pe_callB call_abs (by rfl) T.b_abs (by decide +kernel) (pa_cons (pv 2) pa_nil)) (pe_op op_powC (pe_op op_pow pe_int pe_int) pe_int)))
    (pss_cons (ps_set (i := 4) sc_l_vat.nd rfl (.inl rfl) (pe_op op_add (pe_op op_add (pe_op op_add (pe_op op_mul (pe_op op_mod (pv 3) pe_int) pe_int) (pe_op op_mul pe_int (pv 1))) (pe_op op_mul pe_int (pe_callTy call_int1 (by rfl) T.b_int (by decide +kernel) (pa_cons (pe_cmpR op_lt (pv 2) pe_int (nomark _)) pa_nil)))) pe_int))
    (pss_one (ps_ret (pe_lst (pa_cons (pe_callB (call_max2 rfl) (by rfl) T.b_max (by decide +kernel) (pa_cons pe_int (pa_cons (pe_op op_sub (pv 3) (pe_op op_pow pe_int pe_int)) pa_nil))) (pa_cons (pv 4) (pa_cons pe_int pa_nil))))))))), ?_⟩
    refine ⟨fun σ H' => ∃ cell : Int, σ = [some (.ref a), some (.int (i : Int)), some (.int cell), none, none] ∧ H' = H, ?_, ?_⟩
    · refine ⟨_, rfl, _, rfl, a, _, rfl, .inl ha, _, _, rfl, rfl, _, rfl, iteD (fun g => ?_) (fun g => ?_)⟩
      · have hi : i < ns.length := by rw [List.length_map] at g; omega
        refine ⟨_, rfl, _, rfl, a, _, (i : Int), .int ns[i], rfl, rfl, ha, atI_nat (by rw [List.getElem?_map, List.getElem?_eq_getElem hi]; rfl), .inl ⟨_, rfl, ?_⟩⟩
        exact ⟨_, rfl, rfl⟩
      · refine ⟨_, rfl, _, _, rfl, rfl, .inl ⟨by decide, by decide⟩, _, _, rfl, rfl, ?_⟩
        exact ⟨_, rfl, rfl⟩
    · rintro σ H' ⟨cell, rfl, rfl⟩
      refine ⟨_, rfl, cell, rfl, _, _, rfl, rfl, ⟨by decide, by decide, by decide⟩, _, _, rfl, rfl, ⟨by decide, by decide +kernel⟩, _, _, rfl, rfl, by show (0 : Int) < (10 ^ 54) ^ 4; decide +kernel, ?_⟩
      refine ⟨_, rfl, _, _, rfl, rfl, (show (0 : Int) < 4611686018427387733 by decide), _, _, rfl, rfl, .inr ⟨by decide, by decide⟩, _, rfl, _, _, rfl, rfl, .inl ⟨by decide, by decide⟩, _, _, rfl, rfl, ?_⟩
      refine ⟨_, rfl, _, _, rfl, rfl, .inr ⟨_, rfl, _, _, rfl, rfl, .inl ⟨by decide, by decide⟩, _, _, rfl, rfl, _, _, rfl, rfl, ?_⟩⟩
      refine ⟨_, rfl, _, _, rfl, rfl, ⟨by decide, by decide, by decide⟩, _, _, rfl, rfl, _, _, rfl, _, rfl, sl3, fun p hp => ?_⟩
      exact q p _ hp (Ex0.new hp) ⟨_, _, _, upd_same⟩
theorem ok_l_share (T : Txt K mg) : Def P w K mg base 1 "_law_share" ["_law_one", "_law_other"] (sp_l_share K) := by
  obtain ⟨f_, fd_, g_, F_⟩ := T.d_l_share
  refine ⟨f_, fd_, g_, F_.kp, F_.binds (ps := ["_law_one", "_law_other"]) (fun _ _ _ _ _ _ us hl => match us, hl with | [_, _], _ => rfl), ?_⟩
  refine F_.ok sc_l_share (fun vs H Q E h => ?_) (fun cdv A outer s H vs Q E hr h => ?_)
  · first | (obtain ⟨rfl, _⟩ := h; rfl) | (obtain ⟨_, rfl, _⟩ := h; rfl) | (obtain ⟨_, _, rfl, _⟩ := h; rfl) | (obtain ⟨_, _, _, rfl, _⟩ := h; rfl) | (obtain ⟨_, _, _, _, rfl, _⟩ := h; rfl) | (obtain ⟨_, _, _, _, _, rfl, _⟩ := h; rfl) | (obtain ⟨_, _, _, _, _, _, rfl, _⟩ := h; rfl) | (obtain ⟨_, _, _, _, _, _, _, rfl, _⟩ := h; rfl) | (obtain ⟨_, _, _, _, _, _, _, _, rfl, _⟩ := h; rfl) | (obtain ⟨_, _, _, _, _, _, _, _, _, rfl, _⟩ := h; rfl) | (obtain ⟨_, _, _, _, _, _, _, _, _, _, rfl, _⟩ := h; rfl) | (obtain ⟨_, _, _, _, _, _, _, _, _, _, _, rfl, _⟩ := h; rfl) | (obtain ⟨_, _, _, _, _, _, _, _, _, _, _, _, rfl, _⟩ := h; rfl) | (obtain ⟨_, _, _, _, _, _, _, _, _, _, _, _, _, rfl, _⟩ := h; rfl) | (obtain ⟨_, _, _, _, _, _, _, _, _, _, _, _, _, _, rfl, _⟩ := h; rfl) | (obtain ⟨_, _, _, _, _, _, _, _, _, _, _, _, _, _, _, rfl, _⟩ := h; rfl) | (obtain ⟨_, _, _, _, _, _, _, _, _, _, _, _, _, _, _, _, rfl, _⟩ := h; rfl) | (obtain ⟨_, _, _, _, _, _, _, _, _, _, _, _, _, _, _, _, _, rfl, _⟩ := h; rfl) | (obtain ⟨_, _, _, _, _, _, _, _, _, _, _, _, _, _, _, _, _, _, rfl, _⟩ := h; rfl) | (obtain ⟨_, _, _, _, _, _, _, _, _, _, _, _, _, _, _, _, _, _, _, rfl, _⟩ := h; rfl) | (obtain ⟨_, _, _, _, _, _, _, _, _, _, _, _, _, _, _, _, _, _, _, _, rfl, _⟩ := h; rfl) | (obtain ⟨_, _, _, _, _, _, _, _, _, _, _, _, _, _, _, _, _, _, _, _, _, rfl, _⟩ := h; rfl) | (obtain ⟨_, _, _, _, _, _, _, _, _, _, _, _, _, _, _, _, _, _, _, _, _, _, rfl, _⟩ := h; rfl) | (obtain ⟨_, _, _, _, _, _, _, _, _, _, _, _, _, _, _, _, _, _, _, _, _, _, _, rfl, _⟩ := h; rfl)
  · obtain ⟨i, j, rfl, q⟩ := h
    refine ⟨_, (pss_cons (ps_par (i := 0) (j := 1) (by rfl) sc_l_share.nd rfl rfl (by decide) rfl rfl (pa_cons (pe_callB call_abs (by rfl) T.b_abs (by decide +kernel) (pa_cons (pv 0) pa_nil)) (pa_cons (pe_callB call_abs (by rfl) T.b_abs (by decide +kernel) (pa_cons (pv 1) pa_nil)) pa_nil)) (by rfl))
    (pss_cons (ps_while PassesOwn.never (pt_cmpR op_gt (pv 1) pe_int (nomark _))
      (pss_one (ps_par (i := 0) (j := 1) (by rfl) sc_l_share.nd rfl rfl (by decide) rfl rfl (pa_cons (pv 1) (pa_cons (pe_op op_mod (pv 0) (pv 1)) pa_nil)) (by rfl))))
    (pss_one (ps_ret (pv 0))))), ?_⟩
    have ab : ∀ z : Int, (if z < 0 then -z else z) = (z.natAbs : Int) := fun z => by
      by_cases h : z < 0
      · rw [if_pos h]; omega
      · rw [if_neg h]; omega
    refine ⟨_, rfl, i, rfl, _, rfl, j, rfl, _, _, rfl, ?_⟩
    rw [ab, ab]
    refine ⟨fun m σ H' => ∃ x y : Nat, σ = [some (.int (x : Int)), some (.int (y : Int))] ∧ H' = H ∧ Nat.gcd x y = Nat.gcd i.natAbs j.natAbs ∧ m = y, ⟨_, _, _, rfl, rfl, rfl, rfl⟩, ?_⟩
    rintro m σ H' ⟨x, y, rfl, rfl, hg, rfl⟩
    refine ⟨_, rfl, _, _, rfl, rfl, _, rfl, iteD (fun g => ?_) (fun g => ?_)⟩
    · refine ⟨fun σ' H'' => ∃ x' y' : Nat, σ' = [some (.int (x' : Int)), some (.int (y' : Int))] ∧ H'' = H' ∧ Nat.gcd x' y' = Nat.gcd i.natAbs j.natAbs ∧ y' < m, fun σ' H'' ⟨x', y', e1, e2, e3, e4⟩ => ⟨y', e4, x', y', e1, e2, e3, rfl⟩, ?_⟩
      refine ⟨_, rfl, _, rfl, _, rfl, (x : Int), (m : Int), rfl, rfl, g, _, _, rfl, ?_⟩
      refine ⟨m, x % m, rfl, rfl, ?_, Nat.mod_lt _ (by omega)⟩
      rw [← hg, Nat.gcd_comm x m, Nat.gcd_rec m x, Nat.gcd_comm]
    · have : m = 0 := by omega
      subst this
      refine ⟨_, rfl, ?_⟩
      rw [Nat.gcd_zero_right] at hg
      rw [hg]
      exact q
end
end K01
namespace K01
open PySem PySem.Spec PyProof.Rows L2 Fr
def gcdL (ns : List Int) : Nat := ns.foldl (fun g n => Nat.gcd g n.natAbs) 0
theorem gcdL_take {ns : List Int} {i : Nat} {n : Int} (h : ns[i]? = some n) : gcdL (ns.take (i + 1)) = Nat.gcd (gcdL (ns.take i)) n.natAbs := by
  unfold gcdL
  obtain ⟨hi, e⟩ := List.getElem?_eq_some_iff.mp h
  rw [List.take_add_one, h, List.foldl_append]
  rfl
theorem get_int {ns : List Int} {i : Nat} {x : V} (hx : (ns.map V.int)[i]? = some x) : ∃ n, ns[i]? = some n ∧ x = V.int n := by
  rw [List.getElem?_map] at hx
  cases e : ns[i]? with
  | none => rw [e] at hx; cases hx
  | some z => rw [e] at hx; exact ⟨z, rfl, (Option.some.inj hx).symm⟩
theorem modN {n i : Nat} : ((n : Int) % (2 + (i : Int)) = 0) ↔ n % (2 + i) = 0 := by
  rw [show (2 : Int) + (i : Int) = ((2 + i : Nat) : Int) by omega, ← Int.natCast_emod]
  omega
inductive Prs (H : Hp) : List V → List (Nat × Nat) → Prop where
  | nil : Prs H [] []
  | cons {t : Addr} {p k : Nat} {xs : List V} {fs : List (Nat × Nat)} (h : H t = some (.tup [.int (p : Int), .int (k : Int)])) (r : Prs H xs fs) : Prs H (.ref t :: xs) ((p, k) :: fs)
theorem Prs.mono {H H' : Hp} {xs : List V} {fs : List (Nat × Nat)} (r : Prs H xs fs) (e : ∀ t xs, H t = some (.tup xs) → H' t = some (.tup xs)) : Prs H' xs fs := by
  induction r with
  | nil => exact .nil
  | cons h _ ih => exact .cons (e _ _ h) ih
theorem Prs.snoc {H : Hp} {xs : List V} {fs : List (Nat × Nat)} (r : Prs H xs fs) {t : Addr} {p k : Nat} (h : H t = some (.tup [.int (p : Int), .int (k : Int)])) : Prs H (xs ++ [.ref t]) (fs ++ [(p, k)]) := by
  induction r with
  | nil => exact .cons h .nil
  | cons h' _ ih => exact .cons h' ih
theorem Prs.len {H : Hp} {xs : List V} {fs : List (Nat × Nat)} (r : Prs H xs fs) : xs.length = fs.length := by
  induction r with
  | nil => rfl
  | cons _ _ ih => rw [List.length_cons, List.length_cons, ih]
theorem Prs.get {H : Hp} {xs : List V} {fs : List (Nat × Nat)} (r : Prs H xs fs) : ∀ {i : Nat} {x : V}, xs[i]? = some x → ∃ t p k, x = .ref t ∧ fs[i]? = some (p, k) ∧ H t = some (.tup [.int (p : Int), .int (k : Int)]) := by
  induction r with
  | nil => intro i x h; simp at h
  | @cons t p k xs fs h _ ih =>
    intro i x hx
    cases i with
    | zero => exact ⟨t, p, k, (Option.some.inj hx).symm, rfl, h⟩
    | succ i => exact ih hx
def TupF (H : Hp) (p : Addr) (fs : List (Nat × Nat)) : Prop := ∃ xs, H p = some (.tup xs) ∧ Prs H xs fs
def sp_shared_divisor (K : PySem.W.Frag) : Sp := fun vs H Q _ => ∃ (a : Addr) (ns : List Int), vs = [.ref a] ∧ SqT K H a (ns.map V.int) ∧ Q (.int (gcdL ns : Nat)) H
def sp_common_divisor (_ : PySem.W.Frag) : Sp := fun vs H Q _ => ∃ (a : Addr) (ns : List Int), vs = [.ref a] ∧ H a = some (.tup (ns.map V.int)) ∧ ns.length ≤ 1000 ∧ (∀ n ∈ ns, Short n) ∧ ∀ H', Ex0 H H' → Q (.int (gcdL ns : Nat)) H'
def sp_is_prime (_ : PySem.W.Frag) : Sp := fun vs H Q _ => ∃ n : Nat, vs = [.int (n : Int)] ∧ n ≤ 1000000 ∧ (Pr n → Q (.bl true) H) ∧ (¬ Pr n → Q (.bl false) H)
def sp_factored (_ : PySem.W.Frag) : Sp := fun vs H Q _ => ∃ n : Nat, vs = [.int (n : Int)] ∧ 1 ≤ n ∧ Ask n ∧ ∀ p H', Ex0 H H' → TupF H' p (fac n) → Q (.ref p) H'
def sp_raised (_ : PySem.W.Frag) : Sp := fun vs H Q _ => ∃ (b : Int) (e : Nat), vs = [.int b, .int (e : Int)] ∧ (∃ k : Nat, 0 < k ∧ k * e ≤ 2600 ∧ k ≤ 250 ∧ b.natAbs < 2 ^ k) ∧ Q (.int (b ^ e)) H
def sp_times_within (_ : PySem.W.Frag) : Sp := fun vs H Q _ => ∃ n d : Nat, vs = [.int (n : Int), .int (d : Int)] ∧ 1 ≤ n ∧ n ≤ 1000000000000 ∧ 2 ≤ d ∧ d ≤ 1000002 ∧ ∀ m k : Nat, 1 ≤ m → n = m * d ^ k → m % d ≠ 0 → Q (.int (k : Int)) H
def sp_whole_root (_ : PySem.W.Frag) : Sp := fun vs H Q _ => ∃ n e : Nat, vs = [.int (n : Int), .int (e : Int)] ∧ n < 1000000000000000000000000000000000000000000000000000000000000 ∧ 2 ≤ e ∧ e ≤ 10 ∧ ∀ r : Nat, r ^ e ≤ n → n < (r + 1) ^ e → Q (.int (r : Int)) H
def sp_power_at (_ : PySem.W.Frag) : Sp := fun vs H Q _ => ∃ a e n : Nat, vs = [.int (a : Int), .int (e : Int), .int (n : Int)] ∧ 2 ≤ n ∧ n ≤ 1000000000000 ∧ a ≤ 100 ∧ e ≤ 1000000000000 ∧ Q (.int ((a ^ e % n : Nat) : Int)) H
def sp_is_great_prime (_ : PySem.W.Frag) : Sp := fun vs H Q _ => ∃ n : Nat, vs = [.int (n : Int)] ∧ 501 ≤ n ∧ n ≤ 1000000000000 ∧ n % 2 = 1 ∧ ∀ b H', Ex0 H H' → (b = true → Passes n) → Q (.bl b) H'
def sp_primes_twice (_ : PySem.W.Frag) : Sp := fun vs H Q _ => ∃ n : Nat, vs = [.int (n : Int)] ∧ 1 ≤ n ∧ n ≤ 1000000000000 ∧ ∀ p H' xs, Ex0 H H' → H' p = some (.lst xs) → (xs.length = 0 ↔ SqF n) → Q (.ref p) H'
def sp_is_square_free (_ : PySem.W.Frag) : Sp := fun vs H Q _ => ∃ i : Int, vs = [.int i] ∧ 1 ≤ i.natAbs ∧ i.natAbs ≤ 1000000000000 ∧ ∀ H', Ex0 H H' → Q (.bl (sqf i.natAbs)) H'
def sp_is_fundamental (_ : PySem.W.Frag) : Sp := fun vs H Q _ => ∃ i : Int, vs = [.int i] ∧ i.natAbs ≤ 1000000000 ∧ ∀ H', Ex0 H H' → Q (.bl (fund i)) H'
section
variable {P : Program} {w : World} {K : PySem.W.Frag} {mg : Str → Option Value} {base : Heap}
theorem ok_shared_divisor (T : Txt K mg) : Def P w K mg base 1 "shared_divisor" ["numbers"] (sp_shared_divisor K) := by
  obtain ⟨f_, fd_, g_, F_⟩ := T.d_shared_divisor
  refine ⟨f_, fd_, g_, F_.kp, F_.binds (ps := ["numbers"]) (fun _ _ _ _ _ _ us hl => match us, hl with | [_], _ => rfl), ?_⟩
  refine F_.ok sc_shared_divisor (fun vs H Q E h => ?_) (fun cdv A outer s H vs Q E hr h => ?_)
  · first | (obtain ⟨rfl, _⟩ := h; rfl) | (obtain ⟨_, rfl, _⟩ := h; rfl) | (obtain ⟨_, _, rfl, _⟩ := h; rfl) | (obtain ⟨_, _, _, rfl, _⟩ := h; rfl) | (obtain ⟨_, _, _, _, rfl, _⟩ := h; rfl) | (obtain ⟨_, _, _, _, _, rfl, _⟩ := h; rfl) | (obtain ⟨_, _, _, _, _, _, rfl, _⟩ := h; rfl) | (obtain ⟨_, _, _, _, _, _, _, rfl, _⟩ := h; rfl) | (obtain ⟨_, _, _, _, _, _, _, _, rfl, _⟩ := h; rfl) | (obtain ⟨_, _, _, _, _, _, _, _, _, rfl, _⟩ := h; rfl) | (obtain ⟨_, _, _, _, _, _, _, _, _, _, rfl, _⟩ := h; rfl) | (obtain ⟨_, _, _, _, _, _, _, _, _, _, _, rfl, _⟩ := h; rfl) | (obtain ⟨_, _, _, _, _, _, _, _, _, _, _, _, rfl, _⟩ := h; rfl) | (obtain ⟨_, _, _, _, _, _, _, _, _, _, _, _, _, rfl, _⟩ := h; rfl) | (obtain ⟨_, _, _, _, _, _, _, _, _, _, _, _, _, _, rfl, _⟩ := h; rfl) | (obtain ⟨_, _, _, _, _, _, _, _, _, _, _, _, _, _, _, rfl, _⟩ := h; rfl) | (obtain ⟨_, _, _, _, _, _, _, _, _, _, _, _, _, _, _, _, rfl, _⟩ := h; rfl) | (obtain ⟨_, _, _, _, _, _, _, _, _, _, _, _, _, _, _, _, _, rfl, _⟩ := h; rfl) | (obtain ⟨_, _, _, _, _, _, _, _, _, _, _, _, _, _, _, _, _, _, rfl, _⟩ := h; rfl) | (obtain ⟨_, _, _, _, _, _, _, _, _, _, _, _, _, _, _, _, _, _, _, rfl, _⟩ := h; rfl) | (obtain ⟨_, _, _, _, _, _, _, _, _, _, _, _, _, _, _, _, _, _, _, _, rfl, _⟩ := h; rfl) | (obtain ⟨_, _, _, _, _, _, _, _, _, _, _, _, _, _, _, _, _, _, _, _, _, rfl, _⟩ := h; rfl) | (obtain ⟨_, _, _, _, _, _, _, _, _, _, _, _, _, _, _, _, _, _, _, _, _, _, rfl, _⟩ := h; rfl) | (obtain ⟨_, _, _, _, _, _, _, _, _, _, _, _, _, _, _, _, _, _, _, _, _, _, _, rfl, _⟩ := h; rfl)
  · obtain ⟨a, ns, rfl, ha, q⟩ := h
    refine ⟨_, (pss_cons (ps_set (i := 1) sc_shared_divisor.nd rfl (.inl rfl) pe_int)
    (pss_cons (ps_for PassesOwn.never rfl (pi_tup (pv 0)) (pg_name (i := 2) sc_shared_divisor.nd rfl (.inl rfl))
      (pss_one (ps_set (i := 1) sc_shared_divisor.nd rfl (.inl rfl) (pe_callBfun cr_gcd (by rfl) T.m_gcd (pa_cons (pv 1) (pa_cons (pv 2) pa_nil))))))
    (pss_one (ps_ret (pv 1))))), ?_⟩
    refine ⟨_, rfl, a, rfl, ⟨_, ha⟩, for_tup (xs := ns.map V.int) (fun i σ H' => ∃ y2, σ = [some (.ref a), some (.int (gcdL (ns.take i) : Nat)), y2] ∧ H = H') ⟨none, rfl, rfl⟩ (fun i σ H' _ ⟨_, _, e⟩ => e ▸ ha) ?_ ?_⟩
    · rintro i x σ H' hx ⟨y2, rfl, rfl⟩
      obtain ⟨n, hn, rfl⟩ := get_int hx
      refine ⟨_, rfl, _, rfl, _, _, rfl, ?_⟩
      refine ⟨some (.int n), ?_, rfl⟩
      rw [gcdL_take hn]
      rfl
    · rintro σ H' ⟨y2, rfl, rfl⟩
      refine ⟨_, rfl, ?_⟩
      rw [List.length_map, List.take_length]
      exact q
theorem ok_common_divisor (T : Txt K mg) : Def P w K mg base 2 "common_divisor" ["numbers"] (sp_common_divisor K) := by
  obtain ⟨f_, fd_, g_, F_⟩ := T.d_common_divisor
  obtain ⟨f_are_short_integers, fd_are_short_integers, g_are_short_integers, k_are_short_integers, b_are_short_integers, G_are_short_integers⟩ := (ok_are_short_integers (P := P) (w := w) (base := base) T)
  obtain ⟨f_shared_divisor, fd_shared_divisor, g_shared_divisor, k_shared_divisor, b_shared_divisor, G_shared_divisor⟩ := (ok_shared_divisor (P := P) (w := w) (base := base) T)
  refine ⟨f_, fd_, g_, F_.kp, F_.binds (ps := ["numbers"]) (fun _ _ _ _ _ _ us hl => match us, hl with | [_], _ => rfl), ?_⟩
  refine F_.ok sc_common_divisor (fun vs H Q E h => ?_) (fun cdv A outer s H vs Q E hr h => ?_)
  · first | (obtain ⟨rfl, _⟩ := h; rfl) | (obtain ⟨_, rfl, _⟩ := h; rfl) | (obtain ⟨_, _, rfl, _⟩ := h; rfl) | (obtain ⟨_, _, _, rfl, _⟩ := h; rfl) | (obtain ⟨_, _, _, _, rfl, _⟩ := h; rfl) | (obtain ⟨_, _, _, _, _, rfl, _⟩ := h; rfl) | (obtain ⟨_, _, _, _, _, _, rfl, _⟩ := h; rfl) | (obtain ⟨_, _, _, _, _, _, _, rfl, _⟩ := h; rfl) | (obtain ⟨_, _, _, _, _, _, _, _, rfl, _⟩ := h; rfl) | (obtain ⟨_, _, _, _, _, _, _, _, _, rfl, _⟩ := h; rfl) | (obtain ⟨_, _, _, _, _, _, _, _, _, _, rfl, _⟩ := h; rfl) | (obtain ⟨_, _, _, _, _, _, _, _, _, _, _, rfl, _⟩ := h; rfl) | (obtain ⟨_, _, _, _, _, _, _, _, _, _, _, _, rfl, _⟩ := h; rfl) | (obtain ⟨_, _, _, _, _, _, _, _, _, _, _, _, _, rfl, _⟩ := h; rfl) | (obtain ⟨_, _, _, _, _, _, _, _, _, _, _, _, _, _, rfl, _⟩ := h; rfl) | (obtain ⟨_, _, _, _, _, _, _, _, _, _, _, _, _, _, _, rfl, _⟩ := h; rfl) | (obtain ⟨_, _, _, _, _, _, _, _, _, _, _, _, _, _, _, _, rfl, _⟩ := h; rfl) | (obtain ⟨_, _, _, _, _, _, _, _, _, _, _, _, _, _, _, _, _, rfl, _⟩ := h; rfl) | (obtain ⟨_, _, _, _, _, _, _, _, _, _, _, _, _, _, _, _, _, _, rfl, _⟩ := h; rfl) | (obtain ⟨_, _, _, _, _, _, _, _, _, _, _, _, _, _, _, _, _, _, _, rfl, _⟩ := h; rfl) | (obtain ⟨_, _, _, _, _, _, _, _, _, _, _, _, _, _, _, _, _, _, _, _, rfl, _⟩ := h; rfl) | (obtain ⟨_, _, _, _, _, _, _, _, _, _, _, _, _, _, _, _, _, _, _, _, _, rfl, _⟩ := h; rfl) | (obtain ⟨_, _, _, _, _, _, _, _, _, _, _, _, _, _, _, _, _, _, _, _, _, _, rfl, _⟩ := h; rfl) | (obtain ⟨_, _, _, _, _, _, _, _, _, _, _, _, _, _, _, _, _, _, _, _, _, _, _, rfl, _⟩ := h; rfl)
  · obtain ⟨a, ns, rfl, ha, hl, hs, q⟩ := h
    obtain ⟨t_MOST_NUMBERS, h_MOST_NUMBERS⟩ := T.x_MOST_NUMBERS
    refine ⟨_, (pss_cons (ps_if (PW.pt (pw_or (pt_not (pt_val (pe_callB call_isi (by rfl) T.b_isinstance (by decide +kernel) (pa_cons (pv 0) (pa_cons (pe_bltn (v := .ty "tuple") (by rfl) T.b_tuple (by decide +kernel) rfl) pa_nil))))) (pw_or1 (pt_cmpR op_gt (pe_callB call_len_seq (by rfl) T.b_len PySem.boot_len (pa_cons (pv 0) pa_nil)) (pe_glob (v := .int 1000) (by rfl) h_MOST_NUMBERS ⟨_, rfl⟩) (nomark _)))))
      pss_never
      pss_nil)
    (pss_cons (ps_if (pt_not (pt_val (pe_call G_are_short_integers (hr.mono (by decide)) (by rfl) g_are_short_integers k_are_short_integers b_are_short_integers .nil pass0 (pa_cons (pv 0) (pa_cons (pe_callB call_len_seq (by rfl) T.b_len PySem.boot_len (pa_cons (pv 0) pa_nil)) pa_nil)))))
      pss_never
      pss_nil)
    (pss_one (ps_ret (pe_call G_shared_divisor (hr.mono (by decide)) (by rfl) g_shared_divisor k_shared_divisor b_shared_divisor .nil pass0 (pa_cons (pv 0) pa_nil)))))), ?_⟩
    refine ⟨_, rfl, _, _, _, _, true, rfl, .ty _, .base (.tup ha), kit_ty (by decide +kernel), _, rfl, ?_⟩
    refine iteF ⟨_, rfl, a, _, rfl, .inr (SqT.of ha), _, _, rfl, rfl, _, rfl, ?_⟩
    refine dF (by rw [List.length_map]; omega) ?_
    refine ⟨_, rfl, _, rfl, a, _, rfl, .inr (SqT.of ha), a, ns, ?_, ha, hl, hs, fun H' e => ⟨_, rfl, ?_⟩⟩
    · rw [List.length_map]
      rfl
    · exact iteF ⟨_, rfl, a, ns, rfl, SqT.of (e.ap ha), q H' e⟩
theorem ok_is_prime (T : Txt K mg) : Def P w K mg base 5 "is_prime" ["number"] (sp_is_prime K) := by
  obtain ⟨f_, fd_, g_, F_⟩ := T.d_is_prime
  obtain ⟨f_check_between, fd_check_between, g_check_between, k_check_between, b_check_between, G_check_between⟩ := (ok_check_between (P := P) (w := w) (base := base) T)
  refine ⟨f_, fd_, g_, F_.kp, F_.binds (ps := ["number"]) (fun _ _ _ _ _ _ us hl => match us, hl with | [_], _ => rfl), ?_⟩
  refine F_.ok sc_is_prime (fun vs H Q E h => ?_) (fun cdv A outer s H vs Q E hr h => ?_)
  · first | (obtain ⟨rfl, _⟩ := h; rfl) | (obtain ⟨_, rfl, _⟩ := h; rfl) | (obtain ⟨_, _, rfl, _⟩ := h; rfl) | (obtain ⟨_, _, _, rfl, _⟩ := h; rfl) | (obtain ⟨_, _, _, _, rfl, _⟩ := h; rfl) | (obtain ⟨_, _, _, _, _, rfl, _⟩ := h; rfl) | (obtain ⟨_, _, _, _, _, _, rfl, _⟩ := h; rfl) | (obtain ⟨_, _, _, _, _, _, _, rfl, _⟩ := h; rfl) | (obtain ⟨_, _, _, _, _, _, _, _, rfl, _⟩ := h; rfl) | (obtain ⟨_, _, _, _, _, _, _, _, _, rfl, _⟩ := h; rfl) | (obtain ⟨_, _, _, _, _, _, _, _, _, _, rfl, _⟩ := h; rfl) | (obtain ⟨_, _, _, _, _, _, _, _, _, _, _, rfl, _⟩ := h; rfl) | (obtain ⟨_, _, _, _, _, _, _, _, _, _, _, _, rfl, _⟩ := h; rfl) | (obtain ⟨_, _, _, _, _, _, _, _, _, _, _, _, _, rfl, _⟩ := h; rfl) | (obtain ⟨_, _, _, _, _, _, _, _, _, _, _, _, _, _, rfl, _⟩ := h; rfl) | (obtain ⟨_, _, _, _, _, _, _, _, _, _, _, _, _, _, _, rfl, _⟩ := h; rfl) | (obtain ⟨_, _, _, _, _, _, _, _, _, _, _, _, _, _, _, _, rfl, _⟩ := h; rfl) | (obtain ⟨_, _, _, _, _, _, _, _, _, _, _, _, _, _, _, _, _, rfl, _⟩ := h; rfl) | (obtain ⟨_, _, _, _, _, _, _, _, _, _, _, _, _, _, _, _, _, _, rfl, _⟩ := h; rfl) | (obtain ⟨_, _, _, _, _, _, _, _, _, _, _, _, _, _, _, _, _, _, _, rfl, _⟩ := h; rfl) | (obtain ⟨_, _, _, _, _, _, _, _, _, _, _, _, _, _, _, _, _, _, _, _, rfl, _⟩ := h; rfl) | (obtain ⟨_, _, _, _, _, _, _, _, _, _, _, _, _, _, _, _, _, _, _, _, _, rfl, _⟩ := h; rfl) | (obtain ⟨_, _, _, _, _, _, _, _, _, _, _, _, _, _, _, _, _, _, _, _, _, _, rfl, _⟩ := h; rfl) | (obtain ⟨_, _, _, _, _, _, _, _, _, _, _, _, _, _, _, _, _, _, _, _, _, _, _, rfl, _⟩ := h; rfl)
  · obtain ⟨n, rfl, hn, qt, qf⟩ := h
    obtain ⟨t_MAX_PRIME, h_MAX_PRIME⟩ := T.x_MAX_PRIME
    refine ⟨_, (pss_cons (ps_expr (pe_call G_check_between (hr.mono (by decide)) (by rfl) g_check_between k_check_between b_check_between .nil pass0 (pa_cons (pv 0) (pa_cons pe_int (pa_cons (pe_glob (v := .int 1000000) (by rfl) h_MAX_PRIME ⟨_, rfl⟩) pa_nil)))))
    (pss_cons (ps_if (pt_cmpR op_lt (pv 0) pe_int (nomark _))
      (pss_one (ps_ret pe_bl))
      pss_nil)
    (pss_cons (ps_for PassesOwn.never rfl (pi_range2 (by rfl) T.b_range (pa_cons pe_int (pa_cons (pe_op op_add (pe_callBfun cr_isqrt (by rfl) T.m_isqrt (pa_cons (pv 0) pa_nil)) pe_int) pa_nil))) (pg_name (i := 1) sc_is_prime.nd rfl (.inl rfl))
      (pss_one (ps_if (pt_cmpR op_eq (pe_op op_mod (pv 0) (pv 1)) pe_int (nomark _))
      (pss_one (ps_ret pe_bl))
      pss_nil)))
    (pss_one (ps_ret pe_bl))))), ?_⟩
    refine ⟨_, rfl, _, _, _, rfl, ⟨by omega, by omega⟩, by omega, by omega, ?_⟩
    refine ⟨_, rfl, _, _, rfl, rfl, _, rfl, iteD (fun g => ?_) (fun g => ?_)⟩
    · exact qf (fun z => by have := z.1; omega)
    · refine ⟨_, rfl, _, rfl, by omega, by omega, fun r r0 r1 r2 => ?_⟩
      have r3 : r < 2 ^ 60 := by
        rcases Int.lt_or_le r (2 ^ 60) with h | h
        · exact h
        · have := Int.mul_le_mul h h (by decide) (by omega)
          omega
      refine ⟨_, _, rfl, rfl, _, _, rfl, ⟨by decide, by decide, by omega, by omega⟩, ?_⟩
      refine for_range (lo := 2) (n := (r + 1 - 2).toNat) (fun i σ H' => ∃ y1, σ = [some (.int (n : Int)), y1] ∧ H = H' ∧ ∀ c : Nat, 2 ≤ c → c < 2 + i → n % c ≠ 0) ⟨none, rfl, rfl, fun c h1 h2 => by omega⟩ ?_ ?_
      · rintro i σ H' hi ⟨y1, rfl, rfl, hc⟩
        refine ⟨_, rfl, _, rfl, (n : Int), 2 + (i : Int), rfl, rfl, (show (0 : Int) < 2 + (i : Int) by omega), rfl, _, rfl, ?_⟩
        have e : decide (V.int ((n : Int) % (2 + (i : Int))) = V.int 0) = decide ((n : Int) % (2 + (i : Int)) = 0) := by rw [dec_int]; rfl
        show if decide (V.int ((n : Int) % (2 + (i : Int))) = V.int 0) = true then _ else _
        rw [e]
        refine iteD (fun z => ?_) (fun z => ?_)
        · refine qf (fun h => h.2 (2 + i) (by omega) ?_ (modN.mp z))
          have : (2 + (i : Int)) ≤ r := by omega
          have := Int.mul_le_mul this this (by omega) (by omega)
          have : ((2 + i : Nat) : Int) * ((2 + i : Nat) : Int) ≤ (n : Int) := by
            rw [show ((2 + i : Nat) : Int) = 2 + (i : Int) by omega]
            omega
          exact Int.ofNat_le.mp (by rw [Int.natCast_mul]; exact this)
        · refine ⟨_, rfl, rfl, fun c h1 h2 => ?_⟩
          rcases Nat.lt_or_ge c (2 + i) with h | h
          · exact hc c h1 h
          · have : c = 2 + i := by omega
            rw [this]
            exact fun h => z (modN.mpr h)
      · rintro σ H' ⟨y1, rfl, rfl, hc⟩
        refine qt ⟨by omega, fun c h1 h2 => hc c h1 ?_⟩
        rcases Nat.lt_or_ge c (2 + (r + 1 - 2).toNat) with h | h
        · exact h
        · exfalso
          have h3 : r + 1 ≤ (c : Int) := by omega
          have h4 := Int.mul_le_mul h3 h3 (by omega) (by omega)
          have h5 : (c : Int) * (c : Int) ≤ (n : Int) := by
            rw [← Int.natCast_mul]
            exact Int.ofNat_le.mpr h2
          omega
theorem ok_raised (T : Txt K mg) : Def P w K mg base 1 "raised" ["base", "exponent"] (sp_raised K) := by
  obtain ⟨f_, fd_, g_, F_⟩ := T.d_raised
  refine ⟨f_, fd_, g_, F_.kp, F_.binds (ps := ["base", "exponent"]) (fun _ _ _ _ _ _ us hl => match us, hl with | [_, _], _ => rfl), ?_⟩
  refine F_.ok sc_raised (fun vs H Q E h => ?_) (fun cdv A outer s H vs Q E hr h => ?_)
  · first | (obtain ⟨rfl, _⟩ := h; rfl) | (obtain ⟨_, rfl, _⟩ := h; rfl) | (obtain ⟨_, _, rfl, _⟩ := h; rfl) | (obtain ⟨_, _, _, rfl, _⟩ := h; rfl) | (obtain ⟨_, _, _, _, rfl, _⟩ := h; rfl) | (obtain ⟨_, _, _, _, _, rfl, _⟩ := h; rfl) | (obtain ⟨_, _, _, _, _, _, rfl, _⟩ := h; rfl) | (obtain ⟨_, _, _, _, _, _, _, rfl, _⟩ := h; rfl) | (obtain ⟨_, _, _, _, _, _, _, _, rfl, _⟩ := h; rfl) | (obtain ⟨_, _, _, _, _, _, _, _, _, rfl, _⟩ := h; rfl) | (obtain ⟨_, _, _, _, _, _, _, _, _, _, rfl, _⟩ := h; rfl) | (obtain ⟨_, _, _, _, _, _, _, _, _, _, _, rfl, _⟩ := h; rfl) | (obtain ⟨_, _, _, _, _, _, _, _, _, _, _, _, rfl, _⟩ := h; rfl) | (obtain ⟨_, _, _, _, _, _, _, _, _, _, _, _, _, rfl, _⟩ := h; rfl) | (obtain ⟨_, _, _, _, _, _, _, _, _, _, _, _, _, _, rfl, _⟩ := h; rfl) | (obtain ⟨_, _, _, _, _, _, _, _, _, _, _, _, _, _, _, rfl, _⟩ := h; rfl) | (obtain ⟨_, _, _, _, _, _, _, _, _, _, _, _, _, _, _, _, rfl, _⟩ := h; rfl) | (obtain ⟨_, _, _, _, _, _, _, _, _, _, _, _, _, _, _, _, _, rfl, _⟩ := h; rfl) | (obtain ⟨_, _, _, _, _, _, _, _, _, _, _, _, _, _, _, _, _, _, rfl, _⟩ := h; rfl) | (obtain ⟨_, _, _, _, _, _, _, _, _, _, _, _, _, _, _, _, _, _, _, rfl, _⟩ := h; rfl) | (obtain ⟨_, _, _, _, _, _, _, _, _, _, _, _, _, _, _, _, _, _, _, _, rfl, _⟩ := h; rfl) | (obtain ⟨_, _, _, _, _, _, _, _, _, _, _, _, _, _, _, _, _, _, _, _, _, rfl, _⟩ := h; rfl) | (obtain ⟨_, _, _, _, _, _, _, _, _, _, _, _, _, _, _, _, _, _, _, _, _, _, rfl, _⟩ := h; rfl) | (obtain ⟨_, _, _, _, _, _, _, _, _, _, _, _, _, _, _, _, _, _, _, _, _, _, _, rfl, _⟩ := h; rfl)
  · obtain ⟨b, e, rfl, ⟨k, k0, ke, k1, hb⟩, q⟩ := h
    have he : e ≤ 2600 := Nat.le_trans (Nat.le_mul_of_pos_left e k0) ke
    refine ⟨_, (pss_cons (ps_set (i := 2) sc_raised.nd rfl (.inl rfl) pe_int)
    (pss_cons (ps_for PassesOwn.never rfl (pi_range1 (by rfl) T.b_range (pa_cons (pv 1) pa_nil)) (pg_name (i := 3) sc_raised.nd rfl (.inl rfl))
      (pss_one (ps_set (i := 2) sc_raised.nd rfl (.inl rfl) (pe_op op_mulW (pv 2) (pv 0)))))
    (pss_one (ps_ret (pv 2))))), ?_⟩
    have pw : ∀ i : Nat, (b ^ i).natAbs < 2 ^ (k * i + 1) := fun i => by
      induction i with
      | zero => rw [Int.pow_zero]; show 1 < 2 ^ (k * 0 + 1); rw [Nat.mul_zero]; decide
      | succ i ih =>
        rw [Int.pow_succ, show k * (i + 1) + 1 = (k * i + 1) + k by rw [Nat.mul_add]; omega]
        exact wide_lt ih hb
    refine ⟨_, rfl, _, rfl, by omega, by omega, for_range (lo := 0) (n := ((e : Int)).toNat) (fun i σ H' => ∃ y3, σ = [some (.int b), some (.int (e : Int)), some (.int (b ^ i)), y3] ∧ H = H') ⟨none, by rw [Int.pow_zero]; rfl, rfl⟩ ?_ ?_⟩
    · rintro i σ H' hi ⟨y3, rfl, rfl⟩
      have hki : k * i ≤ 2600 := Nat.le_trans (Nat.mul_le_mul_left k (by omega)) ke
      refine ⟨_, rfl, _, rfl, _, _, rfl, rfl, wide_mul (a := k * i + 1) (b := k) (pw i) hb (by omega) k0 (by omega), ?_⟩
      refine ⟨some (.int (0 + (i : Int))), ?_, rfl⟩
      rw [Int.pow_succ]
      rfl
    · rintro σ H' ⟨y3, rfl, rfl⟩
      exact ⟨_, rfl, q⟩
theorem ok_times_within (T : Txt K mg) : Def P w K mg base 1 "times_within" ["number", "prime"] (sp_times_within K) := by
  obtain ⟨f_, fd_, g_, F_⟩ := T.d_times_within
  refine ⟨f_, fd_, g_, F_.kp, F_.binds (ps := ["number", "prime"]) (fun _ _ _ _ _ _ us hl => match us, hl with | [_, _], _ => rfl), ?_⟩
  refine F_.ok sc_times_within (fun vs H Q E h => ?_) (fun cdv A outer s H vs Q E hr h => ?_)
  · first | (obtain ⟨rfl, _⟩ := h; rfl) | (obtain ⟨_, rfl, _⟩ := h; rfl) | (obtain ⟨_, _, rfl, _⟩ := h; rfl) | (obtain ⟨_, _, _, rfl, _⟩ := h; rfl) | (obtain ⟨_, _, _, _, rfl, _⟩ := h; rfl) | (obtain ⟨_, _, _, _, _, rfl, _⟩ := h; rfl) | (obtain ⟨_, _, _, _, _, _, rfl, _⟩ := h; rfl) | (obtain ⟨_, _, _, _, _, _, _, rfl, _⟩ := h; rfl) | (obtain ⟨_, _, _, _, _, _, _, _, rfl, _⟩ := h; rfl) | (obtain ⟨_, _, _, _, _, _, _, _, _, rfl, _⟩ := h; rfl) | (obtain ⟨_, _, _, _, _, _, _, _, _, _, rfl, _⟩ := h; rfl) | (obtain ⟨_, _, _, _, _, _, _, _, _, _, _, rfl, _⟩ := h; rfl) | (obtain ⟨_, _, _, _, _, _, _, _, _, _, _, _, rfl, _⟩ := h; rfl) | (obtain ⟨_, _, _, _, _, _, _, _, _, _, _, _, _, rfl, _⟩ := h; rfl) | (obtain ⟨_, _, _, _, _, _, _, _, _, _, _, _, _, _, rfl, _⟩ := h; rfl) | (obtain ⟨_, _, _, _, _, _, _, _, _, _, _, _, _, _, _, rfl, _⟩ := h; rfl) | (obtain ⟨_, _, _, _, _, _, _, _, _, _, _, _, _, _, _, _, rfl, _⟩ := h; rfl) | (obtain ⟨_, _, _, _, _, _, _, _, _, _, _, _, _, _, _, _, _, rfl, _⟩ := h; rfl) | (obtain ⟨_, _, _, _, _, _, _, _, _, _, _, _, _, _, _, _, _, _, rfl, _⟩ := h; rfl) | (obtain ⟨_, _, _, _, _, _, _, _, _, _, _, _, _, _, _, _, _, _, _, rfl, _⟩ := h; rfl) | (obtain ⟨_, _, _, _, _, _, _, _, _, _, _, _, _, _, _, _, _, _, _, _, rfl, _⟩ := h; rfl) | (obtain ⟨_, _, _, _, _, _, _, _, _, _, _, _, _, _, _, _, _, _, _, _, _, rfl, _⟩ := h; rfl) | (obtain ⟨_, _, _, _, _, _, _, _, _, _, _, _, _, _, _, _, _, _, _, _, _, _, rfl, _⟩ := h; rfl) | (obtain ⟨_, _, _, _, _, _, _, _, _, _, _, _, _, _, _, _, _, _, _, _, _, _, _, rfl, _⟩ := h; rfl)
  · obtain ⟨n, d, rfl, n1, n2, d2, d3, q⟩ := h
    refine ⟨_, (pss_cons (ps_set (i := 2) sc_times_within.nd rfl (.inl rfl) pe_int)
    (pss_cons (ps_set (i := 3) sc_times_within.nd rfl (.inl rfl) (pv 0))
    (pss_cons (ps_while PassesOwn.never (pt_cmpR op_eq (pe_op op_mod (pv 3) (pv 1)) pe_int (nomark _))
      (pss_cons (ps_set (i := 3) sc_times_within.nd rfl (.inl rfl) (pe_op op_fdivW (pv 3) (pv 1)))
    (pss_one (ps_aug (i := 2) sc_times_within.nd rfl (.inl rfl) pe_int ip_add))))
    (pss_one (ps_ret (pv 2)))))), ?_⟩
    refine ⟨_, rfl, ?_⟩
    refine ⟨fun m σ' H'' => ∃ (left' k : Nat), σ' = [some (.int (n : Int)), some (.int (d : Int)), some (.int (k : Int)), some (.int (left' : Int))] ∧ H = H'' ∧ 1 ≤ left' ∧ n = left' * d ^ k ∧ m = left', ⟨_, n, 0, rfl, rfl, n1, by simp, rfl⟩, ?_⟩
    rintro m σ' H'' ⟨left', k, rfl, rfl, p1, p2, rfl⟩
    refine ⟨_, rfl, _, rfl, (m : Int), (d : Int), rfl, rfl, (show (0 : Int) < d by omega), rfl, _, rfl, ?_⟩
    have em : decide (V.int ((m : Int) % (d : Int)) = V.int 0) = decide (m % d = 0) := by
      rw [dec_int, ← Int.natCast_emod]
      apply Bool.eq_iff_iff.mpr
      rw [decide_eq_true_iff, beq_iff_eq]
      omega
    show if decide (V.int ((m : Int) % (d : Int)) = V.int 0) = true then _ else _
    rw [em]
    refine iteD (fun z => ?_) (fun z => ?_)
    · have dm : d ≤ m := Nat.le_of_dvd p1 (Nat.dvd_of_mod_eq_zero z)
      refine ⟨fun σ' H'' => ∃ (left' k : Nat), σ' = [some (.int (n : Int)), some (.int (d : Int)), some (.int (k : Int)), some (.int (left' : Int))] ∧ H = H'' ∧ 1 ≤ left' ∧ n = left' * d ^ k ∧ left' < m, fun σ' H'' ⟨a, b, c1, c2, c3, c4, c5⟩ => ⟨a, c5, a, b, c1, c2, c3, c4, rfl⟩, ?_⟩
      refine ⟨_, rfl, _, rfl, (m : Int), (d : Int), rfl, rfl, dw (by omega) (by omega), ?_⟩
      refine ⟨_, rfl, (k : Int), 1, rfl, rfl, ?_⟩
      refine ⟨m / d, k + 1, rfl, rfl, Nat.div_pos dm (by omega), ?_, Nat.div_lt_self p1 (by omega)⟩
      rw [Nat.pow_succ, Nat.mul_comm (d ^ k) d, ← Nat.mul_assoc, Nat.div_mul_cancel (Nat.dvd_of_mod_eq_zero z)]
      exact p2
    · exact ⟨_, rfl, q m k p1 p2 z⟩
theorem ok_power_at (T : Txt K mg) : Def P w K mg base 1 "power_at" ["base", "exponent", "prime"] (sp_power_at K) := by
  obtain ⟨f_, fd_, g_, F_⟩ := T.d_power_at
  refine ⟨f_, fd_, g_, F_.kp, F_.binds (ps := ["base", "exponent", "prime"]) (fun _ _ _ _ _ _ us hl => match us, hl with | [_, _, _], _ => rfl), ?_⟩
  refine F_.ok sc_power_at (fun vs H Q E h => ?_) (fun cdv A outer s H vs Q E hr h => ?_)
  · first | (obtain ⟨rfl, _⟩ := h; rfl) | (obtain ⟨_, rfl, _⟩ := h; rfl) | (obtain ⟨_, _, rfl, _⟩ := h; rfl) | (obtain ⟨_, _, _, rfl, _⟩ := h; rfl) | (obtain ⟨_, _, _, _, rfl, _⟩ := h; rfl) | (obtain ⟨_, _, _, _, _, rfl, _⟩ := h; rfl) | (obtain ⟨_, _, _, _, _, _, rfl, _⟩ := h; rfl) | (obtain ⟨_, _, _, _, _, _, _, rfl, _⟩ := h; rfl) | (obtain ⟨_, _, _, _, _, _, _, _, rfl, _⟩ := h; rfl) | (obtain ⟨_, _, _, _, _, _, _, _, _, rfl, _⟩ := h; rfl) | (obtain ⟨_, _, _, _, _, _, _, _, _, _, rfl, _⟩ := h; rfl) | (obtain ⟨_, _, _, _, _, _, _, _, _, _, _, rfl, _⟩ := h; rfl) | (obtain ⟨_, _, _, _, _, _, _, _, _, _, _, _, rfl, _⟩ := h; rfl) | (obtain ⟨_, _, _, _, _, _, _, _, _, _, _, _, _, rfl, _⟩ := h; rfl) | (obtain ⟨_, _, _, _, _, _, _, _, _, _, _, _, _, _, rfl, _⟩ := h; rfl) | (obtain ⟨_, _, _, _, _, _, _, _, _, _, _, _, _, _, _, rfl, _⟩ := h; rfl) | (obtain ⟨_, _, _, _, _, _, _, _, _, _, _, _, _, _, _, _, rfl, _⟩ := h; rfl) | (obtain ⟨_, _, _, _, _, _, _, _, _, _, _, _, _, _, _, _, _, rfl, _⟩ := h; rfl) | (obtain ⟨_, _, _, _, _, _, _, _, _, _, _, _, _, _, _, _, _, _, rfl, _⟩ := h; rfl) | (obtain ⟨_, _, _, _, _, _, _, _, _, _, _, _, _, _, _, _, _, _, _, rfl, _⟩ := h; rfl) | (obtain ⟨_, _, _, _, _, _, _, _, _, _, _, _, _, _, _, _, _, _, _, _, rfl, _⟩ := h; rfl) | (obtain ⟨_, _, _, _, _, _, _, _, _, _, _, _, _, _, _, _, _, _, _, _, _, rfl, _⟩ := h; rfl) | (obtain ⟨_, _, _, _, _, _, _, _, _, _, _, _, _, _, _, _, _, _, _, _, _, _, rfl, _⟩ := h; rfl) | (obtain ⟨_, _, _, _, _, _, _, _, _, _, _, _, _, _, _, _, _, _, _, _, _, _, _, rfl, _⟩ := h; rfl)
  · obtain ⟨a, e, n, rfl, n2, n1, a1, e1, q⟩ := h
    refine ⟨_, (pss_cons (ps_set (i := 3) sc_power_at.nd rfl (.inl rfl) pe_int)
    (pss_cons (ps_set (i := 4) sc_power_at.nd rfl (.inl rfl) (pe_op op_mod (pv 0) (pv 2)))
    (pss_cons (ps_set (i := 5) sc_power_at.nd rfl (.inl rfl) (pv 1))
    (pss_cons (ps_while PassesOwn.never (pt_cmpR op_gt (pv 5) pe_int (nomark _))
      (Evl.pss_cut (ps_if (pt_cmpR op_eq (pe_op op_odd (pv 5) pe_int) pe_int (nomark _))
      (pss_one (ps_set (i := 3) sc_power_at.nd rfl (.inl rfl) (pe_op op_mod (pe_op op_mul (pv 3) (pv 4)) (pv 2))))
      pss_nil)
    (pss_cons (ps_set (i := 4) sc_power_at.nd rfl (.inl rfl) (pe_op op_mod (pe_op op_mul (pv 4) (pv 4)) (pv 2)))
    (pss_one (ps_set (i := 5) sc_power_at.nd rfl (.inl rfl) (pe_op op_halfN (pv 5) pe_int))))))
    (pss_one (ps_ret (pv 3))))))), ?_⟩
    refine ⟨_, rfl, _, rfl, (a : Int), (n : Int), rfl, rfl, (show (0 : Int) < n by omega), ?_⟩
    refine ⟨_, rfl, ?_⟩
    have m0 : (a : Int) % (n : Int) = ((a % n : Nat) : Int) := (Int.natCast_emod a n).symm
    refine ⟨fun m σ H' => ∃ r s l : Nat, σ = [some (.int (a : Int)), some (.int (e : Int)), some (.int (n : Int)), some (.int (r : Int)), some (.int (s : Int)), some (.int (l : Int))] ∧ H = H' ∧ r < n ∧ s < n ∧ l ≤ e ∧ r * s ^ l % n = a ^ e % n ∧ m = l, ⟨_, 1, a % n, e, by rw [← m0]; rfl, rfl, by omega, Nat.mod_lt _ (by omega), Nat.le_refl _, ?_, rfl⟩, ?_⟩
    · rw [Nat.one_mul, ← Nat.pow_mod]
    rintro m σ H' ⟨r, s, l, rfl, rfl, r1, s1, l1, hh, rfl⟩
    refine ⟨_, rfl, _, _, rfl, rfl, _, rfl, iteD (fun g => ?_) (fun g => ?_)⟩
    · have g' : 0 < m := by omega
      refine ⟨fun σ' H'' => ∃ r s l : Nat, σ' = [some (.int (a : Int)), some (.int (e : Int)), some (.int (n : Int)), some (.int (r : Int)), some (.int (s : Int)), some (.int (l : Int))] ∧ H = H'' ∧ r < n ∧ s < n ∧ l ≤ e ∧ r * s ^ l % n = a ^ e % n ∧ l < m, fun σ' H'' ⟨r, s, l, b1, b2, b3, b4, b5, b6, b7⟩ => ⟨l, b7, r, s, l, b1, b2, b3, b4, b5, b6, rfl⟩, ?_⟩
      have sq : s ^ (2 * (m / 2)) = (s * s) ^ (m / 2) := by rw [Nat.pow_mul, Nat.pow_two]
      refine ⟨fun σ' H'' => ∃ r' : Nat, σ' = [some (.int (a : Int)), some (.int (e : Int)), some (.int (n : Int)), some (.int (r' : Int)), some (.int (s : Int)), some (.int (m : Int))] ∧ H = H'' ∧ r' < n ∧ r' * (s * s) ^ (m / 2) % n = a ^ e % n, ?_, ?_⟩
      · refine ⟨_, rfl, m, rfl, rfl, rfl, _, rfl, iteE (fun z => ?_) (fun z => ?_)⟩
        · have z' : m % 2 = 1 := by omega
          have mr : ((r : Int) * (s : Int)) % (n : Int) = ((r * s % n : Nat) : Int) := by rw [← Int.natCast_mul, ← Int.natCast_emod]
          refine ⟨_, rfl, _, rfl, _, _, rfl, rfl, .inl ⟨by omega, by omega⟩, _, rfl, (r : Int) * (s : Int), (n : Int), rfl, rfl, (show (0 : Int) < n by omega), ?_⟩
          refine ⟨r * s % n, by rw [← mr]; rfl, rfl, Nat.mod_lt _ (by omega), ?_⟩
          rw [← hh]
          conv => rhs; rw [show m = 2 * (m / 2) + 1 by omega, Nat.pow_succ, sq, Nat.mul_comm ((s * s) ^ (m / 2)) s, ← Nat.mul_assoc]
          rw [Nat.mul_mod, Nat.mod_mod, ← Nat.mul_mod]
        · refine ⟨r, rfl, rfl, r1, ?_⟩
          rw [← hh]
          conv => rhs; rw [show m = 2 * (m / 2) by omega, sq]
      rintro σ' H'' ⟨r', rfl, rfl, r1', hh'⟩
      have ms : ((s : Int) * (s : Int)) % (n : Int) = ((s * s % n : Nat) : Int) := by rw [← Int.natCast_mul, ← Int.natCast_emod]
      refine ⟨_, rfl, _, rfl, _, _, rfl, rfl, .inl ⟨by omega, by omega⟩, _, rfl, (s : Int) * (s : Int), (n : Int), rfl, rfl, (show (0 : Int) < n by omega), ?_⟩
      refine ⟨_, rfl, m, rfl, rfl, ?_⟩
      refine ⟨r', s * s % n, m / 2, by rw [← ms]; rfl, rfl, r1', Nat.mod_lt _ (by omega), by omega, ?_, by omega⟩
      rw [← hh', Nat.mul_mod, ← Nat.pow_mod, ← Nat.mul_mod]
    · have : m = 0 := by omega
      subst this
      rw [Nat.pow_zero, Nat.mul_one, Nat.mod_eq_of_lt r1] at hh
      refine ⟨_, rfl, ?_⟩
      rw [hh]
      exact q
theorem ok_is_great_prime (T : Txt K mg) : Def P w K mg base 2 "is_great_prime" ["number"] (sp_is_great_prime K) := by
  obtain ⟨f_, fd_, g_, F_⟩ := T.d_is_great_prime
  obtain ⟨f_power_at, fd_power_at, g_power_at, k_power_at, b_power_at, G_power_at⟩ := (ok_power_at (P := P) (w := w) (base := base) T)
  refine ⟨f_, fd_, g_, F_.kp, F_.binds (ps := ["number"]) (fun _ _ _ _ _ _ us hl => match us, hl with | [_], _ => rfl), ?_⟩
  refine F_.ok sc_is_great_prime (fun vs H Q E h => ?_) (fun cdv A outer s H vs Q E hr h => ?_)
  · first | (obtain ⟨rfl, _⟩ := h; rfl) | (obtain ⟨_, rfl, _⟩ := h; rfl) | (obtain ⟨_, _, rfl, _⟩ := h; rfl) | (obtain ⟨_, _, _, rfl, _⟩ := h; rfl) | (obtain ⟨_, _, _, _, rfl, _⟩ := h; rfl) | (obtain ⟨_, _, _, _, _, rfl, _⟩ := h; rfl) | (obtain ⟨_, _, _, _, _, _, rfl, _⟩ := h; rfl) | (obtain ⟨_, _, _, _, _, _, _, rfl, _⟩ := h; rfl) | (obtain ⟨_, _, _, _, _, _, _, _, rfl, _⟩ := h; rfl) | (obtain ⟨_, _, _, _, _, _, _, _, _, rfl, _⟩ := h; rfl) | (obtain ⟨_, _, _, _, _, _, _, _, _, _, rfl, _⟩ := h; rfl) | (obtain ⟨_, _, _, _, _, _, _, _, _, _, _, rfl, _⟩ := h; rfl) | (obtain ⟨_, _, _, _, _, _, _, _, _, _, _, _, rfl, _⟩ := h; rfl) | (obtain ⟨_, _, _, _, _, _, _, _, _, _, _, _, _, rfl, _⟩ := h; rfl) | (obtain ⟨_, _, _, _, _, _, _, _, _, _, _, _, _, _, rfl, _⟩ := h; rfl) | (obtain ⟨_, _, _, _, _, _, _, _, _, _, _, _, _, _, _, rfl, _⟩ := h; rfl) | (obtain ⟨_, _, _, _, _, _, _, _, _, _, _, _, _, _, _, _, rfl, _⟩ := h; rfl) | (obtain ⟨_, _, _, _, _, _, _, _, _, _, _, _, _, _, _, _, _, rfl, _⟩ := h; rfl) | (obtain ⟨_, _, _, _, _, _, _, _, _, _, _, _, _, _, _, _, _, _, rfl, _⟩ := h; rfl) | (obtain ⟨_, _, _, _, _, _, _, _, _, _, _, _, _, _, _, _, _, _, _, rfl, _⟩ := h; rfl) | (obtain ⟨_, _, _, _, _, _, _, _, _, _, _, _, _, _, _, _, _, _, _, _, rfl, _⟩ := h; rfl) | (obtain ⟨_, _, _, _, _, _, _, _, _, _, _, _, _, _, _, _, _, _, _, _, _, rfl, _⟩ := h; rfl) | (obtain ⟨_, _, _, _, _, _, _, _, _, _, _, _, _, _, _, _, _, _, _, _, _, _, rfl, _⟩ := h; rfl) | (obtain ⟨_, _, _, _, _, _, _, _, _, _, _, _, _, _, _, _, _, _, _, _, _, _, _, rfl, _⟩ := h; rfl)
  · obtain ⟨n, rfl, n1, n2, no, q⟩ := h
    refine ⟨_, (pss_cons (ps_set (i := 1) sc_is_great_prime.nd rfl (.inl rfl) (pe_op op_sub (pv 0) pe_int))
    (pss_cons (ps_set (i := 2) sc_is_great_prime.nd rfl (.inl rfl) pe_int)
    (Evl.pss_cut (ps_while PassesOwn.never (pt_cmpR op_eq (pe_op op_mod (pv 1) pe_int) pe_int (nomark _))
      (pss_cons (ps_set (i := 1) sc_is_great_prime.nd rfl (.inl rfl) (pe_op op_fdivW (pv 1) pe_int))
    (pss_one (ps_aug (i := 2) sc_is_great_prime.nd rfl (.inl rfl) pe_int ip_add))))
    (pss_cons (ps_for PassesOwn.never rfl (pi_tup (pe_tup (pa_cons pe_int (pa_cons pe_int (pa_cons pe_int (pa_cons pe_int (pa_cons pe_int (pa_cons pe_int pa_nil)))))))) (pg_name (i := 3) sc_is_great_prime.nd rfl (.inl rfl))
      (pss_cons (ps_set (i := 4) sc_is_great_prime.nd rfl (.inl rfl) (pe_call G_power_at (hr.mono (by decide)) (by rfl) g_power_at k_power_at b_power_at .nil pass0 (pa_cons (pv 3) (pa_cons (pv 1) (pa_cons (pv 0) pa_nil)))))
    (pss_cons (ps_set (i := 5) sc_is_great_prime.nd rfl (.inl rfl) pe_int)
    (Evl.pss_cut (ps_while PassesOwn.never (PW.pt (pw_and (pt_cmpR op_lt (pv 5) (pv 2) (nomark _)) (pw_and1 (pt_cmpR op_notIn_seq (pv 4) (pe_tup (pa_cons pe_int (pa_cons (pe_op op_sub (pv 0) pe_int) pa_nil))) (by with_unfolding_all rfl)))))
      (pss_cons (ps_set (i := 4) sc_is_great_prime.nd rfl (.inl rfl) (pe_op op_mod (pe_op op_mul (pv 4) (pv 4)) (pv 0)))
    (pss_one (ps_aug (i := 5) sc_is_great_prime.nd rfl (.inl rfl) pe_int ip_add))))
    (pss_one (ps_if (PW.pt (pw_and (pt_cmpR op_ne (pv 4) (pe_op op_sub (pv 0) pe_int) (nomark _)) (pw_and1 (PW.pt (pw_or (pt_cmpR op_ne (pv 4) pe_int (nomark _)) (pw_or1 (pt_cmpR op_gt (pv 5) pe_int (nomark _))))))))
      (pss_one (ps_ret pe_bl))
      pss_nil))))))
    (pss_one (ps_ret pe_bl)))))), ?_⟩
    refine ⟨_, rfl, _, _, rfl, rfl, ?_⟩
    have c1 : (n : Int) - 1 = ((n - 1 : Nat) : Int) := by omega
    refine ⟨fun σ H' => ∃ o h : Nat, σ = [some (.int (n : Int)), some (.int (o : Int)), some (.int (h : Int)), none, none, none] ∧ H = H' ∧ n - 1 = o * 2 ^ h ∧ o % 2 = 1, ?_, ?_⟩
    · refine ⟨fun m σ H' => ∃ o h : Nat, σ = [some (.int (n : Int)), some (.int (o : Int)), some (.int (h : Int)), none, none, none] ∧ H = H' ∧ n - 1 = o * 2 ^ h ∧ 1 ≤ o ∧ m = o, ⟨_, n - 1, 0, by rw [← c1]; rfl, rfl, by simp, by omega, rfl⟩, ?_⟩
      rintro m σ H' ⟨o, h, rfl, rfl, eo, o1, rfl⟩
      have mo : (m : Int) % 2 = ((m % 2 : Nat) : Int) := by omega
      refine ⟨_, rfl, (m : Int), 2, rfl, rfl, (show (0 : Int) < 2 by decide), rfl, _, rfl, iteE (fun z => ?_) (fun z => ?_)⟩
      · refine ⟨fun σ' H'' => ∃ o h : Nat, σ' = [some (.int (n : Int)), some (.int (o : Int)), some (.int (h : Int)), none, none, none] ∧ H = H'' ∧ n - 1 = o * 2 ^ h ∧ 1 ≤ o ∧ o < m, fun σ' H'' ⟨o, h, b1, b2, b3, b4, b5⟩ => ⟨o, b5, o, h, b1, b2, b3, b4, rfl⟩, ?_⟩
        refine ⟨_, rfl, (m : Int), 2, rfl, rfl, dw (by decide) (by decide), ?_⟩
        refine ⟨_, rfl, (h : Int), 1, rfl, rfl, ?_⟩
        refine ⟨m / 2, h + 1, rfl, rfl, ?_, by omega, by omega⟩
        rw [eo, Nat.pow_succ, Nat.mul_comm (2 ^ h) 2, ← Nat.mul_assoc, Nat.div_mul_cancel (Nat.dvd_of_mod_eq_zero (by omega))]
      · exact ⟨m, h, rfl, rfl, eo, by omega⟩
    rintro σ H' ⟨o, h, rfl, rfl, eo, oo⟩
    have h1 : 1 ≤ h := by
      rcases Nat.eq_zero_or_pos h with z | z
      · subst z; rw [Nat.pow_zero, Nat.mul_one] at eo; omega
      · exact z
    have ole : o ≤ n - 1 := by rw [eo]; exact Nat.le_mul_of_pos_right _ (Nat.two_pow_pos _)
    have hle : h < 41 := by
      have h2 : 2 ^ h ≤ n - 1 := by rw [eo]; exact Nat.le_mul_of_pos_left _ (by omega)
      have h3 : 2 ^ h < 2 ^ 41 := by omega
      exact (Nat.pow_lt_pow_iff_right (by decide)).mp h3
    refine ⟨sl6, fun T nT => ?_⟩
    have eT := Ex0.new (o := .tup [.int 2, .int 3, .int 5, .int 7, .int 11, .int 13]) nT
    have hT : (upd H T (.tup [.int 2, .int 3, .int 5, .int 7, .int 11, .int 13])) T = some (.tup ((([2, 3, 5, 7, 11, 13] : List Nat).map fun (a : Nat) => V.int (a : Int)))) := upd_same
    generalize upd H T (.tup [.int 2, .int 3, .int 5, .int 7, .int 11, .int 13]) = H1 at eT hT ⊢
    refine ⟨T, rfl, ⟨_, SqT.of hT⟩, for_tup (xs := ([2, 3, 5, 7, 11, 13] : List Nat).map fun (a : Nat) => V.int (a : Int)) (fun i σ H' => ∃ y3 y4 y5, σ = [some (.int (n : Int)), some (.int (o : Int)), some (.int (h : Int)), y3, y4, y5] ∧ Ex0 H H' ∧ H' T = some (.tup (([2, 3, 5, 7, 11, 13] : List Nat).map fun (a : Nat) => V.int (a : Int))) ∧ ∀ a ∈ ([2, 3, 5, 7, 11, 13] : List Nat).take i, Strong n o h a) ⟨none, none, none, rfl, eT, hT, fun a ha => by simp at ha⟩ (fun i σ H' _ ⟨_, _, _, _, _, z, _⟩ => SqT.of z) ?_ ?_⟩
    · rintro i x σ H' hx ⟨y3, y4, y5, rfl, e1, hT1, st⟩
      obtain ⟨a, ha, rfl⟩ : ∃ a, ([2, 3, 5, 7, 11, 13] : List Nat)[i]? = some a ∧ x = V.int (a : Int) := by
        rw [List.getElem?_map] at hx
        cases e : ([2, 3, 5, 7, 11, 13] : List Nat)[i]? with
        | none => rw [e] at hx; cases hx
        | some z => rw [e] at hx; exact ⟨z, rfl, (Option.some.inj hx).symm⟩
      have a100 : a ≤ 100 := by
        have := List.mem_of_getElem? ha
        simp only [List.mem_cons, List.mem_nil_iff, or_false] at this
        omega
      refine ⟨_, rfl, _, rfl, _, rfl, a, o, n, rfl, by omega, n2, a100, by omega, ?_⟩
      refine ⟨fun σ' H'' => ∃ s : Nat, σ' = [some (.int (n : Int)), some (.int (o : Int)), some (.int (h : Int)), some (.int (a : Int)), some (.int ((a ^ (o * 2 ^ s) % n : Nat) : Int)), some (.int ((s + 1 : Nat) : Int))] ∧ Ex0 H' H'' ∧ s < h, ?_, ?_⟩
      · refine ⟨fun m σ' H'' => ∃ s : Nat, σ' = [some (.int (n : Int)), some (.int (o : Int)), some (.int (h : Int)), some (.int (a : Int)), some (.int ((a ^ (o * 2 ^ s) % n : Nat) : Int)), some (.int ((s + 1 : Nat) : Int))] ∧ Ex0 H' H'' ∧ s < h ∧ m = h - s, ⟨_, 0, by rw [Nat.pow_zero, Nat.mul_one]; rfl, Ex0.refl _, by omega, rfl⟩, ?_⟩
        rintro m σ' H'' ⟨s, rfl, e2, sh, rfl⟩
        refine ⟨_, rfl, _, rfl, _, _, rfl, rfl, _, rfl, iteD (fun g => ?_) (fun g => ?_)⟩
        · refine ⟨_, rfl, _, rfl, _, _, rfl, rfl, sl2, fun u nu => ?_⟩
          have eu := Ex0.new (o := .tup [.int 1, .int ((n : Int) - 1)]) nu
          have hlt : a ^ (o * 2 ^ s) % n < n := Nat.mod_lt _ (by omega)
          have hp : a ^ (o * 2 ^ (s + 1)) % n = (a ^ (o * 2 ^ s) % n) * (a ^ (o * 2 ^ s) % n) % n := by
            rw [← Nat.mul_mod, ← Nat.pow_add, Nat.pow_succ, ← Nat.mul_assoc, Nat.mul_two]
          refine ⟨u, _, rfl, .inr (SqT.of upd_same), rfl, rfl, _, rfl, ?_⟩
          refine iteB (fun g2 => ?_) (fun g2 => ?_)
          · refine ⟨fun σ' H'' => ∃ s' : Nat, σ' = [some (.int (n : Int)), some (.int (o : Int)), some (.int (h : Int)), some (.int (a : Int)), some (.int ((a ^ (o * 2 ^ s') % n : Nat) : Int)), some (.int ((s' + 1 : Nat) : Int))] ∧ Ex0 H' H'' ∧ s' < h ∧ h - s' < h - s, fun σ' H'' ⟨s', b1, b2, b3, b4⟩ => ⟨_, b4, s', b1, b2, b3, rfl⟩, ?_⟩
            generalize a ^ (o * 2 ^ s) % n = x at hlt hp ⊢
            have ms : ((x : Int) * (x : Int)) % (n : Int) = ((x * x % n : Nat) : Int) := by rw [← Int.natCast_mul, ← Int.natCast_emod]
            refine ⟨_, rfl, _, rfl, _, _, rfl, rfl, .inl ⟨by omega, by omega⟩, _, rfl, (x : Int) * (x : Int), (n : Int), rfl, rfl, (show (0 : Int) < n by omega), ?_⟩
            refine ⟨_, rfl, ((s + 1 : Nat) : Int), 1, rfl, rfl, ?_⟩
            exact ⟨s + 1, by rw [hp, ← ms]; rfl, e2.trans eu, by omega, by omega⟩
          · exact ⟨s, rfl, e2.trans eu, sh⟩
        · exact ⟨s, rfl, e2, sh⟩
      rintro σ' H'' ⟨s, rfl, e2, sh⟩
      have nxt : Strong n o h a → ∃ y3 y4 y5 : Option V, ([some (.int (n : Int)), some (.int (o : Int)), some (.int (h : Int)), some (.int (a : Int)), some (.int ((a ^ (o * 2 ^ s) % n : Nat) : Int)), some (.int ((s + 1 : Nat) : Int))] : List (Option V)) = [some (.int (n : Int)), some (.int (o : Int)), some (.int (h : Int)), y3, y4, y5] ∧ Ex0 H H'' ∧ H'' T = some (.tup (([2, 3, 5, 7, 11, 13] : List Nat).map fun (a : Nat) => V.int (a : Int))) ∧ ∀ a ∈ ([2, 3, 5, 7, 11, 13] : List Nat).take (i + 1), Strong n o h a := fun S => by
        refine ⟨_, _, _, rfl, e1.trans e2, Ex0.ap e2 hT1, fun b hb => ?_⟩
        rw [List.take_add_one, ha] at hb
        rcases List.mem_append.mp hb with hb | hb
        · exact st b hb
        · have : b = a := by simpa using hb
          rw [this]
          exact S
      refine ⟨_, rfl, _, rfl, _, _, rfl, rfl, rfl, _, rfl, iteEn (fun g => ?_) (fun g => ?_)⟩
      · refine ⟨_, rfl, rfl, _, rfl, iteEn (fun g2 => ?_) (fun g2 => ?_)⟩
        · exact q false _ (e1.trans e2) (fun z => by cases z)
        · refine ⟨_, rfl, _, _, rfl, rfl, _, rfl, iteD (fun g3 => ?_) (fun g3 => ?_)⟩
          · exact q false _ (e1.trans e2) (fun z => by cases z)
          · have s0 : s = 0 := by omega
            subst s0
            refine nxt (.inl ?_)
            rw [Nat.pow_zero, Nat.mul_one] at g2
            omega
      · exact nxt (.inr ⟨s, sh, by omega⟩)
    · rintro σ H' ⟨y3, y4, y5, rfl, e1, _, st⟩
      refine q true _ e1 fun _ o' h' e' o1' => ?_
      obtain ⟨rfl, rfl⟩ := strip_uniq (d := 2) (by omega) (eo.symm.trans e') (by omega) (by omega)
      exact st
theorem ok_factored (T : Txt K mg) : Def P w K mg base 5 "factored" ["number"] (sp_factored K) := by
  obtain ⟨f_, fd_, g_, F_⟩ := T.d_factored
  obtain ⟨f_check_between, fd_check_between, g_check_between, k_check_between, b_check_between, G_check_between⟩ := (ok_check_between (P := P) (w := w) (base := base) T)
  obtain ⟨f_is_great_prime, fd_is_great_prime, g_is_great_prime, k_is_great_prime, b_is_great_prime, G_is_great_prime⟩ := (ok_is_great_prime (P := P) (w := w) (base := base) T)
  obtain ⟨f_raised, fd_raised, g_raised, k_raised, b_raised, G_raised⟩ := (ok_raised (P := P) (w := w) (base := base) T)
  obtain ⟨f_times_within, fd_times_within, g_times_within, k_times_within, b_times_within, G_times_within⟩ := (ok_times_within (P := P) (w := w) (base := base) T)
  refine ⟨f_, fd_, g_, F_.kp, F_.binds (ps := ["number"]) (fun _ _ _ _ _ _ us hl => match us, hl with | [_], _ => rfl), ?_⟩
  refine F_.ok sc_factored (fun vs H Q E h => ?_) (fun cdv A outer s H vs Q E hr h => ?_)
  · first | (obtain ⟨rfl, _⟩ := h; rfl) | (obtain ⟨_, rfl, _⟩ := h; rfl) | (obtain ⟨_, _, rfl, _⟩ := h; rfl) | (obtain ⟨_, _, _, rfl, _⟩ := h; rfl) | (obtain ⟨_, _, _, _, rfl, _⟩ := h; rfl) | (obtain ⟨_, _, _, _, _, rfl, _⟩ := h; rfl) | (obtain ⟨_, _, _, _, _, _, rfl, _⟩ := h; rfl) | (obtain ⟨_, _, _, _, _, _, _, rfl, _⟩ := h; rfl) | (obtain ⟨_, _, _, _, _, _, _, _, rfl, _⟩ := h; rfl) | (obtain ⟨_, _, _, _, _, _, _, _, _, rfl, _⟩ := h; rfl) | (obtain ⟨_, _, _, _, _, _, _, _, _, _, rfl, _⟩ := h; rfl) | (obtain ⟨_, _, _, _, _, _, _, _, _, _, _, rfl, _⟩ := h; rfl) | (obtain ⟨_, _, _, _, _, _, _, _, _, _, _, _, rfl, _⟩ := h; rfl) | (obtain ⟨_, _, _, _, _, _, _, _, _, _, _, _, _, rfl, _⟩ := h; rfl) | (obtain ⟨_, _, _, _, _, _, _, _, _, _, _, _, _, _, rfl, _⟩ := h; rfl) | (obtain ⟨_, _, _, _, _, _, _, _, _, _, _, _, _, _, _, rfl, _⟩ := h; rfl) | (obtain ⟨_, _, _, _, _, _, _, _, _, _, _, _, _, _, _, _, rfl, _⟩ := h; rfl) | (obtain ⟨_, _, _, _, _, _, _, _, _, _, _, _, _, _, _, _, _, rfl, _⟩ := h; rfl) | (obtain ⟨_, _, _, _, _, _, _, _, _, _, _, _, _, _, _, _, _, _, rfl, _⟩ := h; rfl) | (obtain ⟨_, _, _, _, _, _, _, _, _, _, _, _, _, _, _, _, _, _, _, rfl, _⟩ := h; rfl) | (obtain ⟨_, _, _, _, _, _, _, _, _, _, _, _, _, _, _, _, _, _, _, _, rfl, _⟩ := h; rfl) | (obtain ⟨_, _, _, _, _, _, _, _, _, _, _, _, _, _, _, _, _, _, _, _, _, rfl, _⟩ := h; rfl) | (obtain ⟨_, _, _, _, _, _, _, _, _, _, _, _, _, _, _, _, _, _, _, _, _, _, rfl, _⟩ := h; rfl) | (obtain ⟨_, _, _, _, _, _, _, _, _, _, _, _, _, _, _, _, _, _, _, _, _, _, _, rfl, _⟩ := h; rfl)
  · obtain ⟨n, rfl, h1, h2, q⟩ := h
    obtain ⟨t_ASKED, h_ASKED⟩ := T.x_ASKED
    obtain ⟨t_MAX_FACTORED, h_MAX_FACTORED⟩ := T.x_MAX_FACTORED
    refine ⟨_, (pss_cons (ps_expr (pe_call G_check_between (hr.mono (by decide)) (by rfl) g_check_between k_check_between b_check_between .nil pass0 (pa_cons (pv 0) (pa_cons pe_int (pa_cons (pe_glob (v := .int 1000000000000) (by rfl) h_MAX_FACTORED ⟨_, rfl⟩) pa_nil)))))
    (pss_cons (ps_set (i := 1) sc_factored.nd rfl (.inl rfl) (pe_lst pa_nil))
    (pss_cons (ps_set (i := 2) sc_factored.nd rfl (.inl rfl) (pv 0))
    (pss_cons (ps_set (i := 3) sc_factored.nd rfl (.inl rfl) pe_int)
    (Evl.pss_cut (ps_while PassesOwn.never (pt_cmpR op_le (pe_op op_mul (pv 3) (pv 3)) (pv 2) (nomark _))
      (Evl.pss_cut (ps_if (PW.pt (pw_and (pt_cmpR op_eq (pv 3) (pe_glob (v := .int 501) (by rfl) h_ASKED ⟨_, rfl⟩) (nomark _)) (pw_and1 (pt_val (pe_call G_is_great_prime (hr.mono (by decide)) (by rfl) g_is_great_prime k_is_great_prime b_is_great_prime .nil pass0 (pa_cons (pv 2) pa_nil))))))
      (pss_one ps_break)
      pss_nil)
    (Evl.pss_cut (ps_if (pt_cmpR op_eq (pe_op op_mod (pv 2) (pv 3)) pe_int (nomark _))
      (pss_cons (ps_set (i := 4) sc_factored.nd rfl (.inl rfl) (pe_call G_times_within (hr.mono (by decide)) (by rfl) g_times_within k_times_within b_times_within .nil pass0 (pa_cons (pv 2) (pa_cons (pv 3) pa_nil))))
    (pss_cons (ps_expr (pe_bm PySem.F.plainAttrs_list PySem.F.slot_list_append PySem.F.type_list_append mt_append (pv 1) (pa_cons (pe_tup (pa_cons (pv 3) (pa_cons (pv 4) pa_nil))) pa_nil)))
    (pss_one (ps_set (i := 2) sc_factored.nd rfl (.inl rfl) (pe_op op_fdivW (pv 2) (pe_call G_raised (hr.mono (by decide)) (by rfl) g_raised k_raised b_raised .nil pass0 (pa_cons (pv 3) (pa_cons (pv 4) pa_nil))))))))
      pss_nil)
    (pss_one (ps_set (i := 3) sc_factored.nd rfl (.inl rfl) (pe_ifExp (pt_cmpR op_gt (pv 3) pe_int (nomark _)) (pe_op op_add (pv 3) pe_int) pe_int))))))
    (Evl.pss_cut (ps_if (pt_cmpR op_gt (pv 2) pe_int (nomark _))
      (pss_one (ps_expr (pe_bm PySem.F.plainAttrs_list PySem.F.slot_list_append PySem.F.type_list_append mt_append (pv 1) (pa_cons (pe_tup (pa_cons (pv 2) (pa_cons pe_int pa_nil))) pa_nil))))
      pss_nil)
    (pss_one (ps_ret (pe_callTy call_tuple_of (by rfl) T.b_tuple (by decide +kernel) (pa_cons (pv 1) pa_nil)))))))))), ?_⟩
    have h9 : n ≤ 10000000000 := by rcases h2 with h | h <;> omega
    refine ⟨_, rfl, _, _, _, rfl, ⟨by omega, by omega⟩, by omega, by omega, ?_⟩
    refine ⟨Nat.zero_le _, fun l hl => ?_⟩
    have e0 : Ex0 H (upd H l (.lst [])) := Ex0.new hl
    refine ⟨_, rfl, ?_⟩
    let Inv : Nat → Nat → Hp → (Nat → List (Nat × Nat) → List (Nat × Nat) → Prop) → Prop := fun left d H' G => Ex0 H H' ∧ ∃ xs fs, H' l = some (.lst xs) ∧ Prs H' xs fs ∧ 1 ≤ left ∧ left ≤ n ∧ (d = 2 ∨ (d % 2 = 1 ∧ 3 ≤ d ∧ left % 2 = 1)) ∧ d ≤ 1000002 ∧ fs.length ≤ d ∧ left ∣ n ∧ (∀ c, 2 ≤ c → c < d → left % c ≠ 0) ∧ ∀ r, G left fs r
    refine ⟨fun σ H' => ∃ (left d : Nat) (y4 : Option V), σ = [some (.int (n : Int)), some (.ref l), some (.int (left : Int)), some (.int (d : Int)), y4] ∧ Ex0 H H' ∧ ∃ xs fs, H' l = some (.lst xs) ∧ Prs H' xs fs ∧ fs.length ≤ 1000002 ∧ (∀ r, TF left d r → TF n 2 (fs ++ r)) ∧ (1 < left → TF left d [(left, 1)]) ∧ (¬ 1 < left → TF left d []), ?_, ?_⟩
    rotate_left
    · rintro σ H' ⟨left, d, y4, rfl, ex, xs, fs, hA, hP, hz, ht, t1, t0⟩
      refine ⟨fun σ' H'' => (∃ y4, σ' = [some (.int (n : Int)), some (.ref l), some (.int (left : Int)), some (.int (d : Int)), y4]) ∧ Ex0 H H'' ∧ ∃ xs fs, H'' l = some (.lst xs) ∧ Prs H'' xs fs ∧ TF n 2 fs, ?_, ?_⟩
      · refine ⟨_, rfl, _, _, rfl, rfl, _, rfl, iteD (fun kz => ?_) (fun kz => ?_)⟩
        · refine ⟨_, rfl, .inl ⟨rfl, _, SqL.of hA⟩, _, rfl, sl2, fun t nt => ?_⟩
          have ntl : l ≠ t := ne_of_none hA nt
          have hA2 : upd H' t (.tup [.int (left : Int), .int 1]) l = some (.lst xs) := by rw [upd_ne ntl]; exact hA
          refine ⟨l, xs, _, rfl, rfl, hA2, Nat.lt_of_le_of_lt (by rw [hP.len]; omega : xs.length ≤ 1000002) (by decide), ?_⟩
          refine ⟨⟨_, rfl⟩, Fx.mut fm0 (ex.trans (Ex0.new nt)) trivial hl, _, fs ++ [(left, 1)], upd_same, ?_, ht _ (t1 (by omega))⟩
          refine (Prs.mono hP fun t' zs ht' => ?_).snoc ?_
          · rw [upd_ne (ne_of ht' hA (by intro z; cases z)), upd_ne (ne_of_none ht' nt)]
            exact ht'
          · rw [upd_ne ntl.symm]
            exact upd_same
        · exact ⟨⟨_, rfl⟩, ex, xs, fs, hA, hP, by have := ht [] (t0 (by omega)); rw [List.append_nil] at this; exact this⟩
      · rintro σ' H'' ⟨⟨y4, rfl⟩, ex2, xs2, fs2, hA2, hP2, ht2⟩
        refine ⟨_, rfl, l, xs2, rfl, .inl ⟨SqL.of hA2, fun p np => ?_⟩⟩
        refine q p _ (ex2.trans (Ex0.new np)) ⟨xs2, upd_same, ?_⟩
        rw [← ht2.fac]
        refine hP2.mono fun t zs ht' => ?_
        rw [upd_ne (ne_of_none ht' np)]
        exact ht'
    refine ⟨fun m σ H' => ∃ (left d : Nat) (y4 : Option V), σ = [some (.int (n : Int)), some (.ref l), some (.int (left : Int)), some (.int (d : Int)), y4] ∧ Inv left d H' (fun left fs r => TF left d r → TF n 2 (fs ++ r)) ∧ m = 2000000 - d, ?_, ?_⟩
    · exact ⟨_, n, 2, none, rfl, ⟨e0, [], [], upd_same, .nil, h1, Nat.le_refl _, .inl rfl, by decide, by decide, Nat.dvd_refl _, fun c c2 cd => by omega, fun r t => t⟩, rfl⟩
    rintro m σ H' ⟨left, d, y4, rfl, ⟨ex, xs, fs, hA, hP, l1, l2, hd, d3, hz, ldv, lsm, ht⟩, rfl⟩
    have d2 : 2 ≤ d := by omega
    refine ⟨_, rfl, _, rfl, _, _, rfl, rfl, .inl ⟨by omega, by omega⟩, _, rfl, _, _, rfl, rfl, _, rfl, iteD (fun g => ?_) (fun g => ?_)⟩
    · have g' : d * d ≤ left := by
        have : ((d * d : Nat) : Int) ≤ (left : Int) := by rw [Int.natCast_mul]; exact g
        exact Int.ofNat_le.mp this
      have d4 : d ≤ 1000000 := by
        rcases Nat.lt_or_ge 1000000 d with h | h
        · have := Nat.mul_le_mul h h
          omega
        · exact h
      refine ⟨fun σ' H'' => ∃ (left' d' : Nat) (y4 : Option V), σ' = [some (.int (n : Int)), some (.ref l), some (.int (left' : Int)), some (.int (d' : Int)), y4] ∧ Inv left' d' H'' (fun left fs r => TF left d' r → TF n 2 (fs ++ r)) ∧ d < d', ?_, ?_⟩
      · rintro σ' H'' ⟨left', d', y4, e1, e2, e3⟩
        exact ⟨_, by have := e2.2; obtain ⟨_, _, _, _, _, _, _, b, _⟩ := this; omega, left', d', y4, e1, e2, rfl⟩
      refine ⟨fun σ' H'' => σ' = [some (.int (n : Int)), some (.ref l), some (.int (left : Int)), some (.int (d : Int)), y4] ∧ Ex0 H' H'', ?_, ?_⟩
      · refine ⟨_, rfl, rfl, _, rfl, iteE (fun gd => ?_) (fun gd => ?_)⟩
        · have d501 : d = 501 := by omega
          subst d501
          refine ⟨_, rfl, left, rfl, by omega, by omega, by omega, fun b H3 e3 hb => ?_⟩
          refine ⟨_, rfl, iteB (fun hb' => ?_) (fun _ => ?_)⟩
          · have pr := gpX h2 ldv h1 (by omega) lsm (hb hb')
            have tf := (tf_ok left left 501 (by decide) (by omega)).pr (by decide) (by omega)
            have tq := tf.mpr fun c c1 c2 => pr.2 c (by omega) c2
            have t5 := tf_ok left left 501 (by decide) (by omega)
            rw [tq] at t5
            exact ⟨left, 501, y4, rfl, ex.trans e3, xs, fs, Ex0.ap e3 hA, hP.mono fun a b z => Ex0.ap e3 z, by omega, ht, fun _ => t5, fun z => by omega⟩
          · exact ⟨rfl, e3⟩
        · exact iteF ⟨rfl, Ex0.refl _⟩
      rintro σ2 Hb ⟨rfl, e2⟩
      replace hA := Ex0.ap e2 hA
      replace hP := hP.mono fun a b z => Ex0.ap e2 z
      replace ex := ex.trans e2
      clear e2
      have odd : ∀ (m k : Nat), left = m * d ^ k → m % d ≠ 0 → m % 2 = 1 := fun m k p2 z => by
        rcases hd with h | ⟨_, _, h'⟩
        · subst h; omega
        · rcases Nat.mod_two_eq_zero_or_one m with y | y
          · exfalso
            have : 2 ∣ left := by
              rw [p2]
              exact Nat.dvd_mul_right_of_dvd (Nat.dvd_of_mod_eq_zero y) _
            omega
          · exact y
      refine ⟨fun σ' H'' => ∃ (m : Nat) (y4 : Option V), σ' = [some (.int (n : Int)), some (.ref l), some (.int (m : Int)), some (.int (d : Int)), y4] ∧ Ex0 H H'' ∧ ∃ xs fs, H'' l = some (.lst xs) ∧ Prs H'' xs fs ∧ fs.length ≤ d + 1 ∧ 1 ≤ m ∧ m ≤ left ∧ m % 2 = 1 ∧ m ∣ left ∧ m % d ≠ 0 ∧ ∀ r, TF m (d + 1) r → TF n 2 (fs ++ r), ?_, ?_⟩
      · refine ⟨_, rfl, _, rfl, (left : Int), (d : Int), rfl, rfl, (show (0 : Int) < d by omega), rfl, _, rfl, ?_⟩
        have em : decide (V.int ((left : Int) % (d : Int)) = V.int 0) = decide (left % d = 0) := by
          rw [dec_int, ← Int.natCast_emod]
          apply Bool.eq_iff_iff.mpr
          rw [decide_eq_true_iff, beq_iff_eq]
          omega
        show if decide (V.int ((left : Int) % (d : Int)) = V.int 0) = true then _ else _
        rw [em]
        refine iteD (fun z => ?_) (fun z => ?_)
        · refine ⟨_, rfl, _, rfl, left, d, rfl, l1, by omega, d2, by omega, fun m k p1 p2 pz => ?_⟩
          have dk : d ^ k ≤ left := by rw [p2]; exact Nat.le_mul_of_pos_left _ p1
          have k40 : k < 40 := by
            have h1 : 2 ^ k ≤ d ^ k := Nat.pow_le_pow_left d2 k
            have h2 : 2 ^ k < 2 ^ 40 := by omega
            exact (Nat.pow_lt_pow_iff_right (by decide)).mp h2
          have kp : 0 < k := by
            rcases Nat.eq_zero_or_pos k with h | h
            · subst h
              exfalso
              apply pz
              rw [show left = m by simpa using p2] at z
              exact z
            · exact h
          have m2 : m ≤ left := by
            rw [p2]
            exact Nat.le_mul_of_pos_right _ (Nat.pow_pos (by omega))
          refine ⟨_, rfl, .inl ⟨rfl, _, SqL.of hA⟩, _, rfl, _, rfl, sl2, fun t nt => ?_⟩
          have ntl : l ≠ t := ne_of_none hA nt
          have hA2 : upd Hb t (.tup [.int (d : Int), .int (k : Int)]) l = some (.lst xs) := by rw [upd_ne ntl]; exact hA
          refine ⟨l, xs, _, rfl, rfl, hA2, Nat.lt_of_le_of_lt (by rw [hP.len]; omega : xs.length ≤ 1000002) (by decide), ?_⟩
          have ep : ((d : Int)) ^ k = ((d ^ k : Nat) : Int) := by rw [Int.natCast_pow]
          have dp : 0 < d ^ k := Nat.pow_pos (by omega)
          have eq1 : (left : Int) / ((d : Int)) ^ k = (m : Int) := by
            rw [ep, ← Int.natCast_ediv, p2, Nat.mul_div_cancel _ dp]
          refine ⟨_, rfl, _, rfl, _, rfl, (d : Int), k, rfl, ⟨20, by decide, by omega, by decide, by omega⟩, (left : Int), (d : Int) ^ k, rfl, rfl, dw (by omega) (by omega), ?_⟩
          refine ⟨m, some (.int (k : Int)), ?_, Fx.mut fm0 (ex.trans (Ex0.new nt)) trivial hl, _, fs ++ [(d, k)], upd_same, ?_, by rw [List.length_append]; exact Nat.add_le_add_right hz 1, p1, m2, odd m k p2 pz, ⟨d ^ k, p2⟩, pz, fun r t => ?_⟩
          · rw [← eq1]
            rfl
          · refine (Prs.mono hP fun t' zs ht' => ?_).snoc ?_
            · rw [upd_ne (ne_of ht' hA (by intro z; cases z)), upd_ne (ne_of_none ht' nt)]
              exact ht'
            · rw [upd_ne ntl.symm]
              exact upd_same
          · rw [List.append_assoc]
            exact ht _ (.take g' pz kp p2 t)
        · exact ⟨left, y4, rfl, ex, xs, fs, hA, hP, by omega, l1, Nat.le_refl _, odd left 0 (by simp) z, Nat.dvd_refl _, z, fun r t => ht r (.skip g' z t)⟩
      · rintro σ' H'' ⟨m, y4', rfl, ex2, xs2, fs2, hA2, hP2, hz2, p1, m2, mOdd, mdv, mnd, ht2⟩
        have msm : ∀ c, 2 ≤ c → c < d → m % c ≠ 0 := fun c c2 cd z => lsm c c2 cd (Nat.mod_eq_zero_of_dvd (Nat.dvd_trans (Nat.dvd_of_mod_eq_zero z) mdv))
        refine ⟨_, rfl, _, _, rfl, rfl, _, rfl, iteD (fun dz => ?_) (fun dz => ?_)⟩
        · refine ⟨_, rfl, _, _, rfl, rfl, ?_⟩
          exact ⟨m, d + 2, _, rfl, ⟨ex2, xs2, fs2, hA2, hP2, p1, by omega, .inr ⟨by omega, by omega, mOdd⟩, by omega, by omega, Nat.dvd_trans mdv ldv, fun c c2 cd => by
            rcases Nat.lt_or_ge c d with h | h
            · exact msm c c2 h
            rcases Nat.lt_or_ge d c with h' | h'
            · have : c = d + 1 := by omega
              intro z
              have y : m % 2 = 0 := Nat.mod_eq_zero_of_dvd (Nat.dvd_trans ⟨c / 2, by omega⟩ (Nat.dvd_of_mod_eq_zero z))
              omega
            · have : c = d := by omega
              rw [this]
              exact mnd, fun r t => ht2 r (TF.two mOdd (by omega) t)⟩, by omega⟩
        · have : d = 2 := by omega
          subst this
          exact ⟨m, 3, _, rfl, ⟨ex2, xs2, fs2, hA2, hP2, p1, by omega, .inr ⟨by decide, by decide, mOdd⟩, by decide, by omega, Nat.dvd_trans mdv ldv, fun c c2 cd => (show c = 2 by omega) ▸ mnd, ht2⟩, by decide⟩
    · have g' : left < d * d := by
        have : ¬ ((d * d : Nat) : Int) ≤ (left : Int) := by rw [Int.natCast_mul]; exact g
        omega
      exact ⟨left, d, y4, rfl, ex, xs, fs, hA, hP, by omega, ht, fun z => .stop1 g' z, fun z => .stop0 g' z⟩
theorem ok_whole_root (T : Txt K mg) : Def P w K mg base 5 "whole_root" ["number", "exponent"] (sp_whole_root K) := by
  obtain ⟨f_, fd_, g_, F_⟩ := T.d_whole_root
  obtain ⟨f_check_between, fd_check_between, g_check_between, k_check_between, b_check_between, G_check_between⟩ := (ok_check_between (P := P) (w := w) (base := base) T)
  obtain ⟨f_is_short_integer, fd_is_short_integer, g_is_short_integer, k_is_short_integer, b_is_short_integer, G_is_short_integer⟩ := (ok_is_short_integer (P := P) (w := w) (base := base) T)
  obtain ⟨f_raised, fd_raised, g_raised, k_raised, b_raised, G_raised⟩ := (ok_raised (P := P) (w := w) (base := base) T)
  refine ⟨f_, fd_, g_, F_.kp, F_.binds (ps := ["number", "exponent"]) (fun _ _ _ _ _ _ us hl => match us, hl with | [_, _], _ => rfl), ?_⟩
  refine F_.ok sc_whole_root (fun vs H Q E h => ?_) (fun cdv A outer s H vs Q E hr h => ?_)
  · first | (obtain ⟨rfl, _⟩ := h; rfl) | (obtain ⟨_, rfl, _⟩ := h; rfl) | (obtain ⟨_, _, rfl, _⟩ := h; rfl) | (obtain ⟨_, _, _, rfl, _⟩ := h; rfl) | (obtain ⟨_, _, _, _, rfl, _⟩ := h; rfl) | (obtain ⟨_, _, _, _, _, rfl, _⟩ := h; rfl) | (obtain ⟨_, _, _, _, _, _, rfl, _⟩ := h; rfl) | (obtain ⟨_, _, _, _, _, _, _, rfl, _⟩ := h; rfl) | (obtain ⟨_, _, _, _, _, _, _, _, rfl, _⟩ := h; rfl) | (obtain ⟨_, _, _, _, _, _, _, _, _, rfl, _⟩ := h; rfl) | (obtain ⟨_, _, _, _, _, _, _, _, _, _, rfl, _⟩ := h; rfl) | (obtain ⟨_, _, _, _, _, _, _, _, _, _, _, rfl, _⟩ := h; rfl) | (obtain ⟨_, _, _, _, _, _, _, _, _, _, _, _, rfl, _⟩ := h; rfl) | (obtain ⟨_, _, _, _, _, _, _, _, _, _, _, _, _, rfl, _⟩ := h; rfl) | (obtain ⟨_, _, _, _, _, _, _, _, _, _, _, _, _, _, rfl, _⟩ := h; rfl) | (obtain ⟨_, _, _, _, _, _, _, _, _, _, _, _, _, _, _, rfl, _⟩ := h; rfl) | (obtain ⟨_, _, _, _, _, _, _, _, _, _, _, _, _, _, _, _, rfl, _⟩ := h; rfl) | (obtain ⟨_, _, _, _, _, _, _, _, _, _, _, _, _, _, _, _, _, rfl, _⟩ := h; rfl) | (obtain ⟨_, _, _, _, _, _, _, _, _, _, _, _, _, _, _, _, _, _, rfl, _⟩ := h; rfl) | (obtain ⟨_, _, _, _, _, _, _, _, _, _, _, _, _, _, _, _, _, _, _, rfl, _⟩ := h; rfl) | (obtain ⟨_, _, _, _, _, _, _, _, _, _, _, _, _, _, _, _, _, _, _, _, rfl, _⟩ := h; rfl) | (obtain ⟨_, _, _, _, _, _, _, _, _, _, _, _, _, _, _, _, _, _, _, _, _, rfl, _⟩ := h; rfl) | (obtain ⟨_, _, _, _, _, _, _, _, _, _, _, _, _, _, _, _, _, _, _, _, _, _, rfl, _⟩ := h; rfl) | (obtain ⟨_, _, _, _, _, _, _, _, _, _, _, _, _, _, _, _, _, _, _, _, _, _, _, rfl, _⟩ := h; rfl)
  · obtain ⟨n, e, rfl, hn, e1, e2, q⟩ := h
    refine ⟨_, (pss_cons (ps_if (PW.pt (pw_or (pt_not (pt_val (pe_call G_is_short_integer (hr.mono (by decide)) (by rfl) g_is_short_integer k_is_short_integer b_is_short_integer .nil pass0 (pa_cons (pv 0) pa_nil)))) (pw_or1 (pt_cmpR op_lt (pv 0) pe_int (nomark _)))))
      pss_never
      pss_nil)
    (pss_cons (ps_expr (pe_call G_check_between (hr.mono (by decide)) (by rfl) g_check_between k_check_between b_check_between .nil pass0 (pa_cons (pv 1) (pa_cons pe_int (pa_cons pe_int pa_nil)))))
    (pss_cons (ps_set (i := 2) sc_whole_root.nd rfl (.inl rfl) pe_int)
    (pss_cons (ps_set (i := 3) sc_whole_root.nd rfl (.inl rfl) (pe_op op_oneShl pe_int (pe_op op_add (pe_op op_fdivW (pe_bits (pv 0)) (pv 1)) pe_int)))
    (pss_cons (ps_while PassesOwn.never (pt_cmpR op_gt (pe_op op_sub (pv 3) (pv 2)) pe_int (nomark _))
      (pss_cons (ps_set (i := 4) sc_whole_root.nd rfl (.inl rfl) (pe_op op_fdivW (pe_op op_add (pv 2) (pv 3)) pe_int))
    (pss_one (ps_if (pt_cmpR op_le (pe_call G_raised (hr.mono (by decide)) (by rfl) g_raised k_raised b_raised .nil pass0 (pa_cons (pv 4) (pa_cons (pv 1) pa_nil))) (pv 0) (nomark _))
      (pss_one (ps_set (i := 2) sc_whole_root.nd rfl (.inl rfl) (pv 4)))
      (pss_one (ps_set (i := 3) sc_whole_root.nd rfl (.inl rfl) (pv 4)))))))
    (pss_one (ps_ret (pv 2)))))))), ?_⟩
    refine ⟨_, rfl, _, rfl, ⟨by omega, by omega⟩, _, rfl, ?_⟩
    refine iteF ⟨_, rfl, _, _, rfl, rfl, _, rfl, dF (by omega) ?_⟩
    refine ⟨_, rfl, _, _, _, rfl, ⟨by omega, by omega⟩, by omega, by omega, ?_⟩
    have bits : n < 2 ^ (Builtin.Int.intBits (n : Int)) := (intBits_le_iff (x := (n : Int))).mp (Nat.le_refl _)
    have bl : Builtin.Int.intBits (n : Int) ≤ 200 := (intBits_le_iff (x := (n : Int))).mpr (by show n < 2 ^ 200; omega)
    have kb : Builtin.Int.intBits (n : Int) / e + 1 ≤ 201 := by
      have := Nat.div_le_self (Builtin.Int.intBits (n : Int)) e
      omega
    refine ⟨_, rfl, (n : Int), rfl, _, rfl, _, _, rfl, rfl, dw (by omega) (by omega), _, _, rfl, rfl, Builtin.Int.intBits (n : Int) / e + 1, rfl, ?_, by omega, ?_⟩
    · show V.int (((Builtin.Int.intBits (n : Int) : Nat) : Int) / (e : Int) + 1) = V.int ((Builtin.Int.intBits (n : Int) / e + 1 : Nat) : Int)
      rw [Int.natCast_add, Int.natCast_ediv]
      rfl
    have hi : n < (2 ^ (Builtin.Int.intBits (n : Int) / e + 1)) ^ e := by
      rw [← Nat.pow_mul]
      refine Nat.lt_of_lt_of_le bits (Nat.pow_le_pow_right (by decide) ?_)
      have := Nat.div_add_mod (Builtin.Int.intBits (n : Int)) e
      have m := Nat.mod_lt (Builtin.Int.intBits (n : Int)) (show e > 0 by omega)
      rw [Nat.add_mul, Nat.mul_comm, Nat.one_mul]
      omega
    have hu : 2 ^ (Builtin.Int.intBits (n : Int) / e + 1) ≤ 2 ^ 201 := Nat.pow_le_pow_right (by decide) kb
    have h0 : 0 < 2 ^ (Builtin.Int.intBits (n : Int) / e + 1) := Nat.two_pow_pos _
    have hc : ((2 : Int) ^ (Builtin.Int.intBits (n : Int) / e + 1)) = ((2 ^ (Builtin.Int.intBits (n : Int) / e + 1) : Nat) : Int) := by
      rw [Int.natCast_pow]
      rfl
    refine ⟨fun m σ H' => ∃ (low high : Nat) (y4 : Option V), σ = [some (.int (n : Int)), some (.int (e : Int)), some (.int (low : Int)), some (.int (high : Int)), y4] ∧ H = H' ∧ low ^ e ≤ n ∧ n < high ^ e ∧ low < high ∧ high ≤ 2 ^ 201 ∧ m = high - low, ⟨_, 0, 2 ^ (Builtin.Int.intBits (n : Int) / e + 1), none, ?_, rfl, ?_, hi, h0, hu, rfl⟩, ?_⟩
    · rw [← hc]
      rfl
    · rw [Nat.zero_pow (by omega)]
      exact Nat.zero_le _
    rintro m σ H' ⟨low, high, y4, rfl, rfl, a1, a2, a3, a4, rfl⟩
    refine ⟨_, rfl, _, rfl, _, _, rfl, rfl, _, _, rfl, rfl, _, rfl, iteD (fun g => ?_) (fun g => ?_)⟩
    · have em : ((low : Int) + (high : Int)) / 2 = (((low + high) / 2 : Nat) : Int) := by omega
      have ep : (((low : Int) + (high : Int)) / 2) ^ e = ((((low + high) / 2) ^ e : Nat) : Int) := by rw [em, Int.natCast_pow]
      refine ⟨fun σ H' => ∃ (low' high' : Nat) (y4 : Option V), σ = [some (.int (n : Int)), some (.int (e : Int)), some (.int (low' : Int)), some (.int (high' : Int)), y4] ∧ H = H' ∧ low' ^ e ≤ n ∧ n < high' ^ e ∧ low' < high' ∧ high' ≤ 2 ^ 201 ∧ high' - low' < high - low, ?_, ?_⟩
      · rintro σ' H' ⟨b1, b2, b3, b4, b5, b6, b7, b8, b9, b10⟩
        exact ⟨_, b10, b1, b2, b3, b4, b5, b6, b7, b8, b9, rfl⟩
      refine ⟨_, rfl, _, rfl, _, _, rfl, rfl, _, _, rfl, rfl, dw (by decide) (by decide), ?_⟩
      refine ⟨_, rfl, _, rfl, ((low : Int) + (high : Int)) / 2, e, rfl, ⟨250, by decide, by omega, Nat.le_refl _, by omega⟩, _, rfl, _, _, rfl, rfl, _, rfl, iteD (fun g2 => ?_) (fun g2 => ?_)⟩
      · rw [ep] at g2
        refine ⟨_, rfl, (low + high) / 2, high, some (.int (((low : Int) + (high : Int)) / 2)), ?_, rfl, Int.ofNat_le.mp g2, a2, by omega, a4, by omega⟩
        rw [← em]
        rfl
      · rw [ep] at g2
        refine ⟨_, rfl, low, (low + high) / 2, some (.int (((low : Int) + (high : Int)) / 2)), ?_, rfl, a1, by omega, by omega, by omega, by omega⟩
        rw [← em]
        rfl
    · have : high = low + 1 := by omega
      subst this
      exact ⟨_, rfl, q low a1 a2⟩
theorem ok_primes_twice (T : Txt K mg) : Def P w K mg base 2 "primes_twice" ["number"] (sp_primes_twice K) := by
  obtain ⟨f_, fd_, g_, F_⟩ := T.d_primes_twice
  obtain ⟨f_raised, fd_raised, g_raised, k_raised, b_raised, G_raised⟩ := (ok_raised (P := P) (w := w) (base := base) T)
  obtain ⟨f_times_within, fd_times_within, g_times_within, k_times_within, b_times_within, G_times_within⟩ := (ok_times_within (P := P) (w := w) (base := base) T)
  refine ⟨f_, fd_, g_, F_.kp, F_.binds (ps := ["number"]) (fun _ _ _ _ _ _ us hl => match us, hl with | [_], _ => rfl), ?_⟩
  refine F_.ok sc_primes_twice (fun vs H Q E h => ?_) (fun cdv A outer s H vs Q E hr h => ?_)
  · first | (obtain ⟨rfl, _⟩ := h; rfl) | (obtain ⟨_, rfl, _⟩ := h; rfl) | (obtain ⟨_, _, rfl, _⟩ := h; rfl) | (obtain ⟨_, _, _, rfl, _⟩ := h; rfl) | (obtain ⟨_, _, _, _, rfl, _⟩ := h; rfl) | (obtain ⟨_, _, _, _, _, rfl, _⟩ := h; rfl) | (obtain ⟨_, _, _, _, _, _, rfl, _⟩ := h; rfl) | (obtain ⟨_, _, _, _, _, _, _, rfl, _⟩ := h; rfl) | (obtain ⟨_, _, _, _, _, _, _, _, rfl, _⟩ := h; rfl) | (obtain ⟨_, _, _, _, _, _, _, _, _, rfl, _⟩ := h; rfl) | (obtain ⟨_, _, _, _, _, _, _, _, _, _, rfl, _⟩ := h; rfl) | (obtain ⟨_, _, _, _, _, _, _, _, _, _, _, rfl, _⟩ := h; rfl) | (obtain ⟨_, _, _, _, _, _, _, _, _, _, _, _, rfl, _⟩ := h; rfl) | (obtain ⟨_, _, _, _, _, _, _, _, _, _, _, _, _, rfl, _⟩ := h; rfl) | (obtain ⟨_, _, _, _, _, _, _, _, _, _, _, _, _, _, rfl, _⟩ := h; rfl) | (obtain ⟨_, _, _, _, _, _, _, _, _, _, _, _, _, _, _, rfl, _⟩ := h; rfl) | (obtain ⟨_, _, _, _, _, _, _, _, _, _, _, _, _, _, _, _, rfl, _⟩ := h; rfl) | (obtain ⟨_, _, _, _, _, _, _, _, _, _, _, _, _, _, _, _, _, rfl, _⟩ := h; rfl) | (obtain ⟨_, _, _, _, _, _, _, _, _, _, _, _, _, _, _, _, _, _, rfl, _⟩ := h; rfl) | (obtain ⟨_, _, _, _, _, _, _, _, _, _, _, _, _, _, _, _, _, _, _, rfl, _⟩ := h; rfl) | (obtain ⟨_, _, _, _, _, _, _, _, _, _, _, _, _, _, _, _, _, _, _, _, rfl, _⟩ := h; rfl) | (obtain ⟨_, _, _, _, _, _, _, _, _, _, _, _, _, _, _, _, _, _, _, _, _, rfl, _⟩ := h; rfl) | (obtain ⟨_, _, _, _, _, _, _, _, _, _, _, _, _, _, _, _, _, _, _, _, _, _, rfl, _⟩ := h; rfl) | (obtain ⟨_, _, _, _, _, _, _, _, _, _, _, _, _, _, _, _, _, _, _, _, _, _, _, rfl, _⟩ := h; rfl)
  · obtain ⟨n, rfl, h1, h2, q⟩ := h
    refine ⟨_, (pss_cons (ps_set (i := 1) sc_primes_twice.nd rfl (.inl rfl) (pe_lst pa_nil))
    (pss_cons (ps_set (i := 2) sc_primes_twice.nd rfl (.inl rfl) (pv 0))
    (pss_cons (ps_set (i := 3) sc_primes_twice.nd rfl (.inl rfl) pe_int)
    (Evl.pss_cut (ps_while PassesOwn.never (pt_cmpR op_le (pe_op op_mul (pe_op op_mul (pv 3) (pv 3)) (pv 3)) (pv 2) (nomark _))
      (Evl.pss_cut (ps_if (pt_cmpR op_eq (pe_op op_mod (pv 2) (pv 3)) pe_int (nomark _))
      (pss_cons (ps_set (i := 4) sc_primes_twice.nd rfl (.inl rfl) (pe_call G_times_within (hr.mono (by decide)) (by rfl) g_times_within k_times_within b_times_within .nil pass0 (pa_cons (pv 2) (pa_cons (pv 3) pa_nil))))
    (pss_cons (ps_set (i := 2) sc_primes_twice.nd rfl (.inl rfl) (pe_op op_fdivW (pv 2) (pe_call G_raised (hr.mono (by decide)) (by rfl) g_raised k_raised b_raised .nil pass0 (pa_cons (pv 3) (pa_cons (pv 4) pa_nil)))))
    (pss_one (ps_if (pt_cmpR op_gt (pv 4) pe_int (nomark _))
      (pss_one (ps_expr (pe_bm PySem.F.plainAttrs_list PySem.F.slot_list_append PySem.F.type_list_append mt_append (pv 1) (pa_cons (pv 3) pa_nil))))
      pss_nil))))
      pss_nil)
    (pss_one (ps_set (i := 3) sc_primes_twice.nd rfl (.inl rfl) (pe_ifExp (pt_cmpR op_gt (pv 3) pe_int (nomark _)) (pe_op op_add (pv 3) pe_int) pe_int)))))
    (pss_cons (ps_set (i := 5) sc_primes_twice.nd rfl (.inl rfl) (pe_callBfun cr_isqrt (by rfl) T.m_isqrt (pa_cons (pv 2) pa_nil)))
    (pss_one (ps_ret (pe_ifExp (PW.pt (pw_and (pt_cmpR op_gt (pv 5) pe_int (nomark _)) (pw_and1 (pt_cmpR op_eq (pe_op op_mul (pv 5) (pv 5)) (pv 2) (nomark _))))) (pe_op op_cat (pv 1) (pe_lst (pa_cons (pv 5) pa_nil))) (pv 1))))))))), ?_⟩
    refine ⟨Nat.zero_le _, fun l hl => ?_⟩
    have e0 : Ex0 H (upd H l (.lst [])) := Ex0.new hl
    refine ⟨_, rfl, ?_⟩
    refine ⟨fun σ H' => ∃ (left d : Nat) (y4 y5 : Option V) (xs : List V), σ = [some (.int (n : Int)), some (.ref l), some (.int (left : Int)), some (.int (d : Int)), y4, y5] ∧ Ex0 H H' ∧ H' l = some (.lst xs) ∧ xs.length ≤ 20000 ∧ 2 ≤ d ∧ 1 ≤ left ∧ left ≤ n ∧ (∀ c, 2 ≤ c → c < d → left % c ≠ 0) ∧ left < d * d * d ∧ (SqF n ↔ xs = [] ∧ SqF left), ?_, ?_⟩
    · refine ⟨fun m σ H' => ∃ (left d : Nat) (y4 y5 : Option V) (xs : List V), σ = [some (.int (n : Int)), some (.ref l), some (.int (left : Int)), some (.int (d : Int)), y4, y5] ∧ (Ex0 H H' ∧ H' l = some (.lst xs) ∧ xs.length ≤ d ∧ 1 ≤ left ∧ left ≤ n ∧ (d = 2 ∨ (d % 2 = 1 ∧ 3 ≤ d ∧ left % 2 = 1)) ∧ d ≤ 10002 ∧ (∀ c, 2 ≤ c → c < d → left % c ≠ 0) ∧ (SqF n ↔ xs = [] ∧ SqF left)) ∧ m = 20000 - d, ?_, ?_⟩
      · exact ⟨_, n, 2, none, none, [], rfl, ⟨e0, upd_same, by decide, h1, Nat.le_refl _, .inl rfl, by decide, fun c c2 cd => by omega, by simp⟩, rfl⟩
      rintro m σ H' ⟨left, d, y4, y5, xs, rfl, ⟨ex, hA, hx, l1, l2, hd, d3, lsm, hq⟩, rfl⟩
      have d2 : 2 ≤ d := by omega
      have dd : d * d ≤ 10002 * 10002 := Nat.mul_le_mul d3 d3
      have c2 : (d : Int) * (d : Int) = ((d * d : Nat) : Int) := (Int.natCast_mul d d).symm
      have c3 : (d : Int) * (d : Int) * (d : Int) = ((d * d * d : Nat) : Int) := by rw [c2, ← Int.natCast_mul]
      refine ⟨_, rfl, _, rfl, _, _, rfl, rfl, .inl ⟨by omega, by omega⟩, _, rfl, _, _, rfl, rfl, .inl ⟨by rw [c2]; omega, by omega⟩, _, rfl, _, _, rfl, rfl, _, rfl, iteD (fun g => ?_) (fun g => ?_)⟩
      · have g' : d * d * d ≤ left := by
          have : ((d * d * d : Nat) : Int) ≤ (left : Int) := by rw [← c3]; exact g
          exact Int.ofNat_le.mp this
        have d4 : d ≤ 10000 := by
          rcases Nat.lt_or_ge 10000 d with h | h
          · have := Nat.mul_le_mul (Nat.mul_le_mul h h) h
            omega
          · exact h
        refine ⟨fun σ' H'' => ∃ (left' d' : Nat) (y4 y5 : Option V) (xs : List V), σ' = [some (.int (n : Int)), some (.ref l), some (.int (left' : Int)), some (.int (d' : Int)), y4, y5] ∧ (Ex0 H H'' ∧ H'' l = some (.lst xs) ∧ xs.length ≤ d' ∧ 1 ≤ left' ∧ left' ≤ n ∧ (d' = 2 ∨ (d' % 2 = 1 ∧ 3 ≤ d' ∧ left' % 2 = 1)) ∧ d' ≤ 10002 ∧ (∀ c, 2 ≤ c → c < d' → left' % c ≠ 0) ∧ (SqF n ↔ xs = [] ∧ SqF left')) ∧ d < d', ?_, ?_⟩
        · rintro σ' H'' ⟨left', d', y4, y5, xs, e1, e2, e3⟩
          exact ⟨_, by have := e2.2.2.2.2.2.2.1; omega, left', d', y4, y5, xs, e1, e2, rfl⟩
        have odd : ∀ (m k : Nat), left = m * d ^ k → m % d ≠ 0 → m % 2 = 1 := fun m k p2 z => by
          rcases hd with h | ⟨_, _, h'⟩
          · subst h; omega
          · rcases Nat.mod_two_eq_zero_or_one m with y | y
            · exfalso
              have : 2 ∣ left := by
                rw [p2]
                exact Nat.dvd_mul_right_of_dvd (Nat.dvd_of_mod_eq_zero y) _
              omega
            · exact y
        refine ⟨fun σ' H'' => ∃ (m : Nat) (y4 y5 : Option V) (xs : List V), σ' = [some (.int (n : Int)), some (.ref l), some (.int (m : Int)), some (.int (d : Int)), y4, y5] ∧ Ex0 H H'' ∧ H'' l = some (.lst xs) ∧ xs.length ≤ d + 1 ∧ 1 ≤ m ∧ m ≤ left ∧ m % 2 = 1 ∧ m ∣ left ∧ m % d ≠ 0 ∧ (SqF n ↔ xs = [] ∧ SqF m), ?_, ?_⟩
        · refine ⟨_, rfl, _, rfl, (left : Int), (d : Int), rfl, rfl, (show (0 : Int) < d by omega), rfl, _, rfl, iteE (fun z => ?_) (fun z => ?_)⟩
          · have z' : left % d = 0 := by
              have : ((left % d : Nat) : Int) = 0 := by rw [Int.natCast_emod]; exact z
              omega
            refine ⟨_, rfl, _, rfl, left, d, rfl, l1, by omega, d2, by omega, fun m k p1 p2 pz => ?_⟩
            have dk : d ^ k ≤ left := by rw [p2]; exact Nat.le_mul_of_pos_left _ p1
            have k40 : k < 40 := by
              have h1 : 2 ^ k ≤ d ^ k := Nat.pow_le_pow_left d2 k
              have h2 : 2 ^ k < 2 ^ 40 := by omega
              exact (Nat.pow_lt_pow_iff_right (by decide)).mp h2
            have kp : 0 < k := by
              rcases Nat.eq_zero_or_pos k with h | h
              · subst h
                exfalso
                apply pz
                rw [show left = m by simpa using p2] at z'
                exact z'
              · exact h
            have m2 : m ≤ left := by
              rw [p2]
              exact Nat.le_mul_of_pos_right _ (Nat.pow_pos (by omega))
            have ep : ((d : Int)) ^ k = ((d ^ k : Nat) : Int) := by rw [Int.natCast_pow]
            have dp : 0 < d ^ k := Nat.pow_pos (by omega)
            have eq1 : (left : Int) / ((d : Int)) ^ k = (m : Int) := by
              rw [ep, ← Int.natCast_ediv, p2, Nat.mul_div_cancel _ dp]
            refine ⟨_, rfl, _, rfl, _, rfl, (d : Int), k, rfl, ⟨20, by decide, by omega, by decide, by omega⟩, (left : Int), (d : Int) ^ k, rfl, rfl, dw (by omega) (by omega), ?_⟩
            refine ⟨_, rfl, _, _, rfl, rfl, _, rfl, iteD (fun kz => ?_) (fun kz => ?_)⟩
            · refine ⟨_, rfl, .inl ⟨rfl, _, SqL.of hA⟩, _, rfl, l, xs, _, rfl, rfl, hA, Nat.lt_of_le_of_lt (by omega : xs.length ≤ 10002) (by decide), ?_⟩
              refine ⟨m, some (.int (k : Int)), y5, xs ++ [.int (d : Int)], ?_, Fx.mut fm0 ex trivial hl, upd_same, by rw [List.length_append]; exact Nat.add_le_add_right hx 1, p1, m2, odd m k p2 pz, ⟨d ^ k, p2⟩, pz, ?_⟩
              · rw [← eq1]
                rfl
              · rw [hq]
                refine ⟨fun y => ?_, fun y => ?_⟩
                · exfalso
                  rw [p2] at y
                  exact SqF.many d2 (by omega) y.2
                · exact absurd y.1 (by simp)
            · refine ⟨m, some (.int (k : Int)), y5, xs, ?_, ex, hA, by omega, p1, m2, odd m k p2 pz, ⟨d ^ k, p2⟩, pz, ?_⟩
              · rw [← eq1]
                rfl
              · have k1 : k = 1 := by omega
                subst k1
                rw [Nat.pow_one] at p2
                rw [hq, p2, SqF.take d2 (by rw [← p2]; exact lsm) pz]
          · have z' : left % d ≠ 0 := fun y => z (by rw [← Int.natCast_emod, y]; rfl)
            exact ⟨left, y4, y5, xs, rfl, ex, hA, by omega, l1, Nat.le_refl _, odd left 0 (by simp) z', Nat.dvd_refl _, z', hq⟩
        · rintro σ' H'' ⟨m, y4', y5', xs2, rfl, ex2, hA2, hx2, p1, m2, mOdd, mdv, mnd, hq2⟩
          have msm : ∀ c, 2 ≤ c → c < d → m % c ≠ 0 := fun c c2 cd z => lsm c c2 cd (Nat.mod_eq_zero_of_dvd (Nat.dvd_trans (Nat.dvd_of_mod_eq_zero z) mdv))
          refine ⟨_, rfl, _, _, rfl, rfl, _, rfl, iteD (fun dz => ?_) (fun dz => ?_)⟩
          · refine ⟨_, rfl, _, _, rfl, rfl, ?_⟩
            refine ⟨m, d + 2, _, _, xs2, rfl, ⟨ex2, hA2, by omega, p1, by omega, .inr ⟨by omega, by omega, mOdd⟩, by omega, fun c c2 cd => ?_, hq2⟩, by omega⟩
            rcases Nat.lt_or_ge c d with h | h
            · exact msm c c2 h
            rcases Nat.lt_or_ge d c with h' | h'
            · have : c = d + 1 := by omega
              intro z
              have y : m % 2 = 0 := Nat.mod_eq_zero_of_dvd (Nat.dvd_trans ⟨c / 2, by omega⟩ (Nat.dvd_of_mod_eq_zero z))
              omega
            · have : c = d := by omega
              rw [this]
              exact mnd
          · have : d = 2 := by omega
            subst this
            refine ⟨m, 3, _, _, xs2, rfl, ⟨ex2, hA2, by omega, p1, by omega, .inr ⟨by decide, by decide, mOdd⟩, by decide, fun c c2 cd => ?_, hq2⟩, by decide⟩
            have : c = 2 := by omega
            rw [this]
            exact mnd
      · have g' : left < d * d * d := by
          have : ¬ ((d * d * d : Nat) : Int) ≤ (left : Int) := by rw [← c3]; exact g
          omega
        exact ⟨left, d, y4, y5, xs, rfl, ex, hA, by omega, d2, l1, l2, lsm, g', hq⟩
    rintro σ H' ⟨left, d, y4, y5, xs, rfl, ex, hA, hx, d2, l1, l2, lsm, g', hq⟩
    refine ⟨_, rfl, _, rfl, by omega, by omega, fun r r0 r1 r2 => ?_⟩
    obtain ⟨s, rfl⟩ : ∃ s : Nat, r = (s : Int) := ⟨r.toNat, by omega⟩
    have s1 : s * s ≤ left := by
      have : ((s * s : Nat) : Int) ≤ (left : Int) := by rw [Int.natCast_mul]; exact r1
      exact Int.ofNat_le.mp this
    have s2 : left < (s + 1) * (s + 1) := by
      have : (left : Int) < (((s + 1) * (s + 1) : Nat) : Int) := by rw [Int.natCast_mul, Int.natCast_add]; exact r2
      exact Int.ofNat_lt.mp this
    have s3 : s ≤ 1000000 := by
      rcases Nat.lt_or_ge 1000000 s with h | h
      · have := Nat.mul_le_mul h h
        omega
      · exact h
    have fin := SqF.rest d2 l1 g' lsm s1 s2
    refine ⟨_, rfl, _, _, rfl, rfl, _, rfl, iteD (fun k1 => ?_) (fun k1 => ?_)⟩
    · refine ⟨_, rfl, _, rfl, _, _, rfl, rfl, .inl ⟨by omega, by omega⟩, _, rfl, rfl, _, rfl, iteE (fun k2 => ?_) (fun k2 => ?_)⟩
      · have k2' : s * s = left := by
          have : ((s * s : Nat) : Int) = (left : Int) := by rw [Int.natCast_mul]; exact k2
          omega
        refine ⟨_, rfl, _, rfl, sl1, fun u nu => ?_⟩
        have lu : l ≠ u := ne_of_none hA nu
        refine ⟨l, u, xs, _, rfl, rfl, by rw [upd_ne lu]; exact hA, upd_same, Nat.le_trans (by show xs.length + 1 ≤ 20001; omega) (by decide : 20001 ≤ sizeLine), fun p np => ?_⟩
        refine q p _ _ ((ex.trans (Ex0.new nu)).trans (Ex0.new np)) upd_same ?_
        rw [hq, fin]
        refine ⟨fun y => ?_, fun y => absurd ⟨by omega, k2'⟩ y.2⟩
        rw [List.length_append] at y
        exact absurd y (by show ¬ xs.length + 1 = 0; omega)
      · refine ⟨_, rfl, ?_⟩
        refine q l H' xs ex hA ?_
        rw [hq, fin, List.length_eq_zero_iff]
        refine ⟨fun y => ⟨y, fun z => k2 ?_⟩, fun y => y.1⟩
        rw [← Int.natCast_mul, z.2]
    · refine iteF ⟨_, rfl, ?_⟩
      refine q l H' xs ex hA ?_
      rw [hq, fin, List.length_eq_zero_iff]
      exact ⟨fun y => ⟨y, fun z => k1 (by have := z.1; omega)⟩, fun y => y.1⟩
theorem ok_is_square_free (T : Txt K mg) : Def P w K mg base 3 "is_square_free" ["number"] (sp_is_square_free K) := by
  obtain ⟨f_, fd_, g_, F_⟩ := T.d_is_square_free
  obtain ⟨f_primes_twice, fd_primes_twice, g_primes_twice, k_primes_twice, b_primes_twice, G_primes_twice⟩ := (ok_primes_twice (P := P) (w := w) (base := base) T)
  refine ⟨f_, fd_, g_, F_.kp, F_.binds (ps := ["number"]) (fun _ _ _ _ _ _ us hl => match us, hl with | [_], _ => rfl), ?_⟩
  refine F_.ok sc_is_square_free (fun vs H Q E h => ?_) (fun cdv A outer s H vs Q E hr h => ?_)
  · first | (obtain ⟨rfl, _⟩ := h; rfl) | (obtain ⟨_, rfl, _⟩ := h; rfl) | (obtain ⟨_, _, rfl, _⟩ := h; rfl) | (obtain ⟨_, _, _, rfl, _⟩ := h; rfl) | (obtain ⟨_, _, _, _, rfl, _⟩ := h; rfl) | (obtain ⟨_, _, _, _, _, rfl, _⟩ := h; rfl) | (obtain ⟨_, _, _, _, _, _, rfl, _⟩ := h; rfl) | (obtain ⟨_, _, _, _, _, _, _, rfl, _⟩ := h; rfl) | (obtain ⟨_, _, _, _, _, _, _, _, rfl, _⟩ := h; rfl) | (obtain ⟨_, _, _, _, _, _, _, _, _, rfl, _⟩ := h; rfl) | (obtain ⟨_, _, _, _, _, _, _, _, _, _, rfl, _⟩ := h; rfl) | (obtain ⟨_, _, _, _, _, _, _, _, _, _, _, rfl, _⟩ := h; rfl) | (obtain ⟨_, _, _, _, _, _, _, _, _, _, _, _, rfl, _⟩ := h; rfl) | (obtain ⟨_, _, _, _, _, _, _, _, _, _, _, _, _, rfl, _⟩ := h; rfl) | (obtain ⟨_, _, _, _, _, _, _, _, _, _, _, _, _, _, rfl, _⟩ := h; rfl) | (obtain ⟨_, _, _, _, _, _, _, _, _, _, _, _, _, _, _, rfl, _⟩ := h; rfl) | (obtain ⟨_, _, _, _, _, _, _, _, _, _, _, _, _, _, _, _, rfl, _⟩ := h; rfl) | (obtain ⟨_, _, _, _, _, _, _, _, _, _, _, _, _, _, _, _, _, rfl, _⟩ := h; rfl) | (obtain ⟨_, _, _, _, _, _, _, _, _, _, _, _, _, _, _, _, _, _, rfl, _⟩ := h; rfl) | (obtain ⟨_, _, _, _, _, _, _, _, _, _, _, _, _, _, _, _, _, _, _, rfl, _⟩ := h; rfl) | (obtain ⟨_, _, _, _, _, _, _, _, _, _, _, _, _, _, _, _, _, _, _, _, rfl, _⟩ := h; rfl) | (obtain ⟨_, _, _, _, _, _, _, _, _, _, _, _, _, _, _, _, _, _, _, _, _, rfl, _⟩ := h; rfl) | (obtain ⟨_, _, _, _, _, _, _, _, _, _, _, _, _, _, _, _, _, _, _, _, _, _, rfl, _⟩ := h; rfl) | (obtain ⟨_, _, _, _, _, _, _, _, _, _, _, _, _, _, _, _, _, _, _, _, _, _, _, rfl, _⟩ := h; rfl)
  · obtain ⟨i, rfl, i1, i2, q⟩ := h
    refine ⟨_, (pss_one (ps_ret (pe_cmpR op_eq (pe_callB call_len_seq (by rfl) T.b_len PySem.boot_len (pa_cons (pe_call G_primes_twice (hr.mono (by decide)) (by rfl) g_primes_twice k_primes_twice b_primes_twice .nil pass0 (pa_cons (pe_callB call_abs (by rfl) T.b_abs (by decide +kernel) (pa_cons (pv 0) pa_nil)) pa_nil)) pa_nil)) pe_int (nomark _)))), ?_⟩
    refine ⟨_, rfl, i, rfl, i.natAbs, ?_, i1, i2, fun p H1 xs e1 hp hx => ?_⟩
    · have : (if i < 0 then -i else i) = (i.natAbs : Int) := by
        by_cases h : i < 0
        · rw [if_pos h]; omega
        · rw [if_neg h]; omega
      rw [this]
      rfl
    refine ⟨p, xs, rfl, .inl (SqL.of hp), rfl, ?_⟩
    have e : decide (V.int (xs.length : Int) = V.int 0) = sqf i.natAbs := by
      rw [deI]
      apply Bool.eq_iff_iff.mpr
      rw [decide_eq_true_iff, sqf_SqF i1, ← hx]
      omega
    rw [e]
    exact q H1 e1
theorem ok_is_fundamental (T : Txt K mg) : Def P w K mg base 5 "is_fundamental" ["number"] (sp_is_fundamental K) := by
  obtain ⟨f_, fd_, g_, F_⟩ := T.d_is_fundamental
  obtain ⟨f_check_between, fd_check_between, g_check_between, k_check_between, b_check_between, G_check_between⟩ := (ok_check_between (P := P) (w := w) (base := base) T)
  obtain ⟨f_is_square_free, fd_is_square_free, g_is_square_free, k_is_square_free, b_is_square_free, G_is_square_free⟩ := (ok_is_square_free (P := P) (w := w) (base := base) T)
  refine ⟨f_, fd_, g_, F_.kp, F_.binds (ps := ["number"]) (fun _ _ _ _ _ _ us hl => match us, hl with | [_], _ => rfl), ?_⟩
  refine F_.ok sc_is_fundamental (fun vs H Q E h => ?_) (fun cdv A outer s H vs Q E hr h => ?_)
  · first | (obtain ⟨rfl, _⟩ := h; rfl) | (obtain ⟨_, rfl, _⟩ := h; rfl) | (obtain ⟨_, _, rfl, _⟩ := h; rfl) | (obtain ⟨_, _, _, rfl, _⟩ := h; rfl) | (obtain ⟨_, _, _, _, rfl, _⟩ := h; rfl) | (obtain ⟨_, _, _, _, _, rfl, _⟩ := h; rfl) | (obtain ⟨_, _, _, _, _, _, rfl, _⟩ := h; rfl) | (obtain ⟨_, _, _, _, _, _, _, rfl, _⟩ := h; rfl) | (obtain ⟨_, _, _, _, _, _, _, _, rfl, _⟩ := h; rfl) | (obtain ⟨_, _, _, _, _, _, _, _, _, rfl, _⟩ := h; rfl) | (obtain ⟨_, _, _, _, _, _, _, _, _, _, rfl, _⟩ := h; rfl) | (obtain ⟨_, _, _, _, _, _, _, _, _, _, _, rfl, _⟩ := h; rfl) | (obtain ⟨_, _, _, _, _, _, _, _, _, _, _, _, rfl, _⟩ := h; rfl) | (obtain ⟨_, _, _, _, _, _, _, _, _, _, _, _, _, rfl, _⟩ := h; rfl) | (obtain ⟨_, _, _, _, _, _, _, _, _, _, _, _, _, _, rfl, _⟩ := h; rfl) | (obtain ⟨_, _, _, _, _, _, _, _, _, _, _, _, _, _, _, rfl, _⟩ := h; rfl) | (obtain ⟨_, _, _, _, _, _, _, _, _, _, _, _, _, _, _, _, rfl, _⟩ := h; rfl) | (obtain ⟨_, _, _, _, _, _, _, _, _, _, _, _, _, _, _, _, _, rfl, _⟩ := h; rfl) | (obtain ⟨_, _, _, _, _, _, _, _, _, _, _, _, _, _, _, _, _, _, rfl, _⟩ := h; rfl) | (obtain ⟨_, _, _, _, _, _, _, _, _, _, _, _, _, _, _, _, _, _, _, rfl, _⟩ := h; rfl) | (obtain ⟨_, _, _, _, _, _, _, _, _, _, _, _, _, _, _, _, _, _, _, _, rfl, _⟩ := h; rfl) | (obtain ⟨_, _, _, _, _, _, _, _, _, _, _, _, _, _, _, _, _, _, _, _, _, rfl, _⟩ := h; rfl) | (obtain ⟨_, _, _, _, _, _, _, _, _, _, _, _, _, _, _, _, _, _, _, _, _, _, rfl, _⟩ := h; rfl) | (obtain ⟨_, _, _, _, _, _, _, _, _, _, _, _, _, _, _, _, _, _, _, _, _, _, _, rfl, _⟩ := h; rfl)
  · obtain ⟨i, rfl, i1, q⟩ := h
    obtain ⟨t_MAX_FUNDAMENTAL, h_MAX_FUNDAMENTAL⟩ := T.x_MAX_FUNDAMENTAL
    refine ⟨_, (pss_cons (ps_expr (pe_call G_check_between (hr.mono (by decide)) (by rfl) g_check_between k_check_between b_check_between .nil pass0 (pa_cons (pv 0) (pa_cons (pe_un un_neg (pe_glob (v := .int 1000000000) (by rfl) h_MAX_FUNDAMENTAL ⟨_, rfl⟩)) (pa_cons (pe_glob (v := .int 1000000000) (by rfl) h_MAX_FUNDAMENTAL ⟨_, rfl⟩) pa_nil)))))
    (pss_cons (ps_if (pt_cmpR op_eq (pe_op op_mod (pv 0) pe_int) pe_int (nomark _))
      (pss_one (ps_ret (pe_call G_is_square_free (hr.mono (by decide)) (by rfl) g_is_square_free k_is_square_free b_is_square_free .nil pass0 (pa_cons (pv 0) pa_nil))))
      pss_nil)
    (pss_cons (ps_if (pt_cmpR op_ne (pe_op op_mod (pv 0) pe_int) pe_int (nomark _))
      (pss_one (ps_ret pe_bl))
      pss_nil)
    (pss_cons (ps_set (i := 1) sc_is_fundamental.nd rfl (.inl rfl) (pe_op op_fdivW (pv 0) pe_int))
    (pss_one (ps_ret (pe_and (pe_cmpR op_in_seq (pe_op op_mod (pv 1) pe_int) (pe_tup (pa_cons pe_int (pa_cons pe_int pa_nil))) (by with_unfolding_all rfl)) (pe_one (pe_call G_is_square_free (hr.mono (by decide)) (by rfl) g_is_square_free k_is_square_free b_is_square_free .nil pass0 (pa_cons (pv 1) pa_nil)))))))))), ?_⟩
    refine ⟨_, rfl, _, rfl, i, -1000000000, 1000000000, rfl, ⟨by omega, by omega⟩, by omega, by omega, ?_⟩
    unfold fund at q
    refine ⟨_, rfl, i, 4, rfl, rfl, (show (0 : Int) < 4 by decide), rfl, _, rfl, iteE (fun g => ?_) (fun g => ?_)⟩
    · rw [if_pos g] at q
      exact ⟨_, rfl, i, rfl, by omega, by omega, q⟩
    refine ⟨_, rfl, i, 4, rfl, rfl, (show (0 : Int) < 4 by decide), rfl, _, rfl, iteEn (fun g2 => ?_) (fun g2 => ?_)⟩
    · rw [if_neg g, if_pos g2] at q
      exact q H (Ex0.refl H)
    rw [if_neg g, if_neg (fun z => z g2)] at q
    refine ⟨_, rfl, _, _, rfl, rfl, dw (by decide) (by decide), ?_⟩
    refine ⟨_, rfl, i / 4, 4, rfl, rfl, (show (0 : Int) < 4 by decide), sl2, fun p np => ?_⟩
    refine ⟨p, _, rfl, .inr (SqT.of upd_same), rfl, rfl, _, rfl, ?_⟩
    have e : inV (.int (i / 4 % 4)) [.int 2, .int 3] = (decide (i / 4 % 4 = 2) || decide (i / 4 % 4 = 3)) := by
      show (((2 : Int) == i / 4 % 4) || (((3 : Int) == i / 4 % 4) || false)) = _
      rw [Bool.or_false]
      apply Bool.eq_iff_iff.mpr
      simp only [Bool.or_eq_true, beq_iff_eq, decide_eq_true_iff]
      omega
    show if inV (.int (i / 4 % 4)) [.int 2, .int 3] = true then _ else _
    rw [e]
    refine iteB (fun g3 => ?_) (fun g3 => ?_)
    · rw [g3, Bool.true_and] at q
      have g4 : i / 4 % 4 = 2 ∨ i / 4 % 4 = 3 := by
        rw [Bool.or_eq_true, decide_eq_true_iff, decide_eq_true_iff] at g3
        exact g3
      exact ⟨_, rfl, i / 4, rfl, by omega, by omega, fun H' e' => q H' ((Ex0.new np).trans e')⟩
    · rw [g3, Bool.false_and] at q
      exact q _ (Ex0.new np)
end
end K01
namespace K01
open PySem PySem.Spec PyProof.Rows L2 Fr
def sp_l_trial_factors (_ : PySem.W.Frag) : Sp := fun vs H Q _ => ∃ n : Nat, vs = [.int (n : Int)] ∧ 1 ≤ n ∧ n ≤ 1000000000000 ∧ ∀ p H' xs, Ex0 H H' → H' p = some (.lst xs) → Prs H' xs (fac n) → Q (.ref p) H'
def sp_l_raised (_ : PySem.W.Frag) : Sp := fun vs H Q _ => ∃ (b : Int) (e : Nat), vs = [.int b, .int (e : Int)] ∧ e ≤ 10 ∧ b.natAbs < 2 ^ 250 ∧ Q (.int (b ^ e)) H
def sp_l_is_basic (_ : PySem.W.Frag) : Sp := fun vs H Q _ => ∃ i : Int, vs = [.int i] ∧ i.natAbs ≤ 1000000000 ∧ ∀ H', Ex0 H H' → Q (.bl (fund i)) H'
def spR : Sp := fun vs H Q _ => ∃ c : Addr, vs = [.ref c] ∧ Vat c H ∧ ∀ H', Fv c H H' → Q (.bl true) H'
def sp_l_divisors_right (_ : PySem.W.Frag) : Sp := spR
def sp_l_factors_right (_ : PySem.W.Frag) : Sp := spR
def sp_l_roots_right (_ : PySem.W.Frag) : Sp := spR
def sp_l_basic_right (_ : PySem.W.Frag) : Sp := spR
theorem vat_new {c l : Addr} {H : Hp} {o : HO} (hc : Vat c H) (hl : H l = none) : Vat c (upd H l o) := (fmV c).stay ((fmV c).fresh hc hl) hc
theorem fv_new {c l : Addr} {H : Hp} {o : HO} (hc : Vat c H) (hl : H l = none) : Fv c H (upd H l o) := Fx.new (fmV c) hc hl
theorem fv_ne {c l : Addr} {H : Hp} (hc : Vat c H) (hl : H l = none) : l ≠ c := (fmV c).fresh hc hl
theorem fv_ex {c : Addr} {H H' : Hp} (hc : Vat c H) (e : Ex0 H H') : Fv c H H' := by
  obtain ⟨x, y, z, h⟩ := hc
  exact ⟨⟨x, y, z, e.2 _ _ (fun q => q) h⟩, fun b o _ q => e.2 b o (fun z => z) q⟩
theorem gcdL_lt {B : Nat} (hB : 0 < B) {ns : List Int} (h : ∀ n ∈ ns, n.natAbs < B) : gcdL ns < B := by
  unfold gcdL
  have : ∀ (ns : List Int) (g : Nat), g < B → (∀ n ∈ ns, n.natAbs < B) → ns.foldl (fun g n => Nat.gcd g n.natAbs) g < B := by
    intro ns
    induction ns with
    | nil => intro g hg _; exact hg
    | cons n r ih =>
      intro g hg h
      refine ih _ ?_ fun m hm => h m (List.mem_cons_of_mem _ hm)
      show Nat.gcd g n.natAbs < B
      rcases Nat.eq_zero_or_pos n.natAbs with z | z
      · rw [z, Nat.gcd_zero_right]; exact hg
      · exact Nat.lt_of_le_of_lt (Nat.gcd_le_right _ z) (h n List.mem_cons_self)
  exact this ns 0 hB h
theorem fund_zero : fund 0 = false := by decide +kernel
section
variable {P : Program} {w : World} {K : PySem.W.Frag} {mg : Str → Option Value} {base : Heap}
theorem ok_l_raised (T : Txt K mg) : Def P w K mg base 1 "_law_raised" ["_law_number", "_law_exponent"] (sp_l_raised K) := by
  obtain ⟨f_, fd_, g_, F_⟩ := T.d_l_raised
  refine ⟨f_, fd_, g_, F_.kp, F_.binds (ps := ["_law_number", "_law_exponent"]) (fun _ _ _ _ _ _ us hl => match us, hl with | [_, _], _ => rfl), ?_⟩
  refine F_.ok sc_l_raised (fun vs H Q E h => ?_) (fun cdv A outer s H vs Q E hr h => ?_)
  · first | (obtain ⟨rfl, _⟩ := h; rfl) | (obtain ⟨_, rfl, _⟩ := h; rfl) | (obtain ⟨_, _, rfl, _⟩ := h; rfl) | (obtain ⟨_, _, _, rfl, _⟩ := h; rfl) | (obtain ⟨_, _, _, _, rfl, _⟩ := h; rfl) | (obtain ⟨_, _, _, _, _, rfl, _⟩ := h; rfl) | (obtain ⟨_, _, _, _, _, _, rfl, _⟩ := h; rfl) | (obtain ⟨_, _, _, _, _, _, _, rfl, _⟩ := h; rfl) | (obtain ⟨_, _, _, _, _, _, _, _, rfl, _⟩ := h; rfl) | (obtain ⟨_, _, _, _, _, _, _, _, _, rfl, _⟩ := h; rfl) | (obtain ⟨_, _, _, _, _, _, _, _, _, _, rfl, _⟩ := h; rfl) | (obtain ⟨_, _, _, _, _, _, _, _, _, _, _, rfl, _⟩ := h; rfl) | (obtain ⟨_, _, _, _, _, _, _, _, _, _, _, _, rfl, _⟩ := h; rfl) | (obtain ⟨_, _, _, _, _, _, _, _, _, _, _, _, _, rfl, _⟩ := h; rfl) | (obtain ⟨_, _, _, _, _, _, _, _, _, _, _, _, _, _, rfl, _⟩ := h; rfl) | (obtain ⟨_, _, _, _, _, _, _, _, _, _, _, _, _, _, _, rfl, _⟩ := h; rfl) | (obtain ⟨_, _, _, _, _, _, _, _, _, _, _, _, _, _, _, _, rfl, _⟩ := h; rfl) | (obtain ⟨_, _, _, _, _, _, _, _, _, _, _, _, _, _, _, _, _, rfl, _⟩ := h; rfl) | (obtain ⟨_, _, _, _, _, _, _, _, _, _, _, _, _, _, _, _, _, _, rfl, _⟩ := h; rfl) | (obtain ⟨_, _, _, _, _, _, _, _, _, _, _, _, _, _, _, _, _, _, _, rfl, _⟩ := h; rfl) | (obtain ⟨_, _, _, _, _, _, _, _, _, _, _, _, _, _, _, _, _, _, _, _, rfl, _⟩ := h; rfl) | (obtain ⟨_, _, _, _, _, _, _, _, _, _, _, _, _, _, _, _, _, _, _, _, _, rfl, _⟩ := h; rfl) | (obtain ⟨_, _, _, _, _, _, _, _, _, _, _, _, _, _, _, _, _, _, _, _, _, _, rfl, _⟩ := h; rfl) | (obtain ⟨_, _, _, _, _, _, _, _, _, _, _, _, _, _, _, _, _, _, _, _, _, _, _, rfl, _⟩ := h; rfl)
  · obtain ⟨b, e, rfl, he, hb, q⟩ := h
    refine ⟨_, (pss_cons (ps_set (i := 2) sc_l_raised.nd rfl (.inl rfl) pe_int)
    (pss_cons (ps_for PassesOwn.never rfl (pi_range1 (by rfl) T.b_range (pa_cons (pv 1) pa_nil)) (pg_name (i := 3) sc_l_raised.nd rfl (.inl rfl))
      (pss_one (ps_set (i := 2) sc_l_raised.nd rfl (.inl rfl) (pe_op op_mulW (pv 2) (pv 0)))))
    (pss_one (ps_ret (pv 2))))), ?_⟩
    have pw : ∀ i : Nat, (b ^ i).natAbs < 2 ^ (250 * i + 1) := fun i => by
      induction i with
      | zero => rw [Int.pow_zero]; decide
      | succ i ih =>
        rw [Int.pow_succ, show 250 * (i + 1) + 1 = (250 * i + 1) + 250 by omega]
        exact wide_lt ih hb
    refine ⟨_, rfl, _, rfl, by omega, by omega, for_range (lo := 0) (n := ((e : Int)).toNat) (fun i σ H' => ∃ y3, σ = [some (.int b), some (.int (e : Int)), some (.int (b ^ i)), y3] ∧ H = H') ⟨none, by rw [Int.pow_zero]; rfl, rfl⟩ ?_ ?_⟩
    · rintro i σ H' hi ⟨y3, rfl, rfl⟩
      refine ⟨_, rfl, _, rfl, _, _, rfl, rfl, wide_mul (a := 250 * i + 1) (b := 250) (pw i) hb (by omega) (by decide) (by omega), ?_⟩
      refine ⟨some (.int (0 + (i : Int))), ?_, rfl⟩
      rw [Int.pow_succ]
      rfl
    · rintro σ H' ⟨y3, rfl, rfl⟩
      exact ⟨_, rfl, q⟩
theorem ok_l_trial_factors (T : Txt K mg) : Def P w K mg base 1 "_law_trial_factors" ["_law_number"] (sp_l_trial_factors K) := by
  obtain ⟨f_, fd_, g_, F_⟩ := T.d_l_trial_factors
  refine ⟨f_, fd_, g_, F_.kp, F_.binds (ps := ["_law_number"]) (fun _ _ _ _ _ _ us hl => match us, hl with | [_], _ => rfl), ?_⟩
  refine F_.ok sc_l_trial_factors (fun vs H Q E h => ?_) (fun cdv A outer s H vs Q E hr h => ?_)
  · first | (obtain ⟨rfl, _⟩ := h; rfl) | (obtain ⟨_, rfl, _⟩ := h; rfl) | (obtain ⟨_, _, rfl, _⟩ := h; rfl) | (obtain ⟨_, _, _, rfl, _⟩ := h; rfl) | (obtain ⟨_, _, _, _, rfl, _⟩ := h; rfl) | (obtain ⟨_, _, _, _, _, rfl, _⟩ := h; rfl) | (obtain ⟨_, _, _, _, _, _, rfl, _⟩ := h; rfl) | (obtain ⟨_, _, _, _, _, _, _, rfl, _⟩ := h; rfl) | (obtain ⟨_, _, _, _, _, _, _, _, rfl, _⟩ := h; rfl) | (obtain ⟨_, _, _, _, _, _, _, _, _, rfl, _⟩ := h; rfl) | (obtain ⟨_, _, _, _, _, _, _, _, _, _, rfl, _⟩ := h; rfl) | (obtain ⟨_, _, _, _, _, _, _, _, _, _, _, rfl, _⟩ := h; rfl) | (obtain ⟨_, _, _, _, _, _, _, _, _, _, _, _, rfl, _⟩ := h; rfl) | (obtain ⟨_, _, _, _, _, _, _, _, _, _, _, _, _, rfl, _⟩ := h; rfl) | (obtain ⟨_, _, _, _, _, _, _, _, _, _, _, _, _, _, rfl, _⟩ := h; rfl) | (obtain ⟨_, _, _, _, _, _, _, _, _, _, _, _, _, _, _, rfl, _⟩ := h; rfl) | (obtain ⟨_, _, _, _, _, _, _, _, _, _, _, _, _, _, _, _, rfl, _⟩ := h; rfl) | (obtain ⟨_, _, _, _, _, _, _, _, _, _, _, _, _, _, _, _, _, rfl, _⟩ := h; rfl) | (obtain ⟨_, _, _, _, _, _, _, _, _, _, _, _, _, _, _, _, _, _, rfl, _⟩ := h; rfl) | (obtain ⟨_, _, _, _, _, _, _, _, _, _, _, _, _, _, _, _, _, _, _, rfl, _⟩ := h; rfl) | (obtain ⟨_, _, _, _, _, _, _, _, _, _, _, _, _, _, _, _, _, _, _, _, rfl, _⟩ := h; rfl) | (obtain ⟨_, _, _, _, _, _, _, _, _, _, _, _, _, _, _, _, _, _, _, _, _, rfl, _⟩ := h; rfl) | (obtain ⟨_, _, _, _, _, _, _, _, _, _, _, _, _, _, _, _, _, _, _, _, _, _, rfl, _⟩ := h; rfl) | (obtain ⟨_, _, _, _, _, _, _, _, _, _, _, _, _, _, _, _, _, _, _, _, _, _, _, rfl, _⟩ := h; rfl)
  · obtain ⟨n, rfl, h1, h2, q⟩ := h
    refine ⟨_, (pss_cons (ps_par3 (i := 1) (j := 2) (l := 3) (by rfl) sc_l_trial_factors.nd rfl rfl rfl (by decide) (by decide) (by decide) rfl rfl rfl (pa_cons (pe_lst pa_nil) (pa_cons (pv 0) (pa_cons pe_int pa_nil))) (by rfl))
    (pss_cons (ps_while PassesOwn.never (pt_cmpR op_le (pe_op op_mul (pv 3) (pv 3)) (pv 2) (nomark _))
      (pss_cons (ps_set (i := 4) sc_l_trial_factors.nd rfl (.inl rfl) pe_int)
    (pss_cons (ps_while PassesOwn.never (pt_cmpR op_eq (pe_op op_mod (pv 2) (pv 3)) pe_int (nomark _))
      (pss_one (ps_par (i := 2) (j := 4) (by rfl) sc_l_trial_factors.nd rfl rfl (by decide) rfl rfl (pa_cons (pe_op op_fdivW (pv 2) (pv 3)) (pa_cons (pe_op op_add (pv 4) pe_int) pa_nil)) (by rfl))))
    (pss_cons (ps_if (pt_cmpR op_gt (pv 4) pe_int (nomark _))
      (pss_one (ps_expr (pe_bm PySem.F.plainAttrs_list PySem.F.slot_list_append PySem.F.type_list_append mt_append (pv 1) (pa_cons (pe_tup (pa_cons (pv 3) (pa_cons (pv 4) pa_nil))) pa_nil))))
      pss_nil)
    (pss_one (ps_set (i := 3) sc_l_trial_factors.nd rfl (.inl rfl) (pe_op op_add (pv 3) pe_int)))))))
    (pss_one (ps_ret (pe_ifExp (pt_cmpR op_gt (pv 2) pe_int (nomark _)) (pe_op op_cat (pv 1) (pe_lst (pa_cons (pe_tup (pa_cons (pv 2) (pa_cons pe_int pa_nil))) pa_nil))) (pv 1)))))), ?_⟩
    refine ⟨Nat.zero_le _, fun l hl => ?_⟩
    have e0 : Ex0 H (upd H l (.lst [])) := Ex0.new hl
    refine ⟨_, rfl, _, _, _, rfl, ?_⟩
    refine ⟨fun m σ H' => ∃ (left d : Nat) (y4 : Option V), σ = [some (.int (n : Int)), some (.ref l), some (.int (left : Int)), some (.int (d : Int)), y4] ∧ Ex0 H H' ∧ (∃ xs fs, H' l = some (.lst xs) ∧ Prs H' xs fs ∧ 1 ≤ left ∧ left ≤ n ∧ 2 ≤ d ∧ d ≤ 1000002 ∧ fs.length ≤ d ∧ ∀ r, TF left d r → TF n 2 (fs ++ r)) ∧ m = 2000000 - d, ?_, ?_⟩
    · exact ⟨_, n, 2, none, rfl, e0, ⟨[], [], upd_same, .nil, h1, Nat.le_refl _, by decide, by decide, by decide, fun r t => t⟩, rfl⟩
    rintro m σ H' ⟨left, d, y4, rfl, ex, ⟨xs, fs, hA, hP, l1, l2, d2, d3, hz, ht⟩, rfl⟩
    refine ⟨_, rfl, _, rfl, _, _, rfl, rfl, .inl ⟨by omega, by omega⟩, _, rfl, _, _, rfl, rfl, _, rfl, iteD (fun g => ?_) (fun g => ?_)⟩
    · have g' : d * d ≤ left := by
        have : ((d * d : Nat) : Int) ≤ (left : Int) := by rw [Int.natCast_mul]; exact g
        exact Int.ofNat_le.mp this
      have d4 : d ≤ 1000000 := by
        rcases Nat.lt_or_ge 1000000 d with h | h
        · have := Nat.mul_le_mul h h
          omega
        · exact h
      refine ⟨fun σ' H'' => ∃ (left' : Nat) (y4 : Option V), σ' = [some (.int (n : Int)), some (.ref l), some (.int (left' : Int)), some (.int ((d + 1 : Nat) : Int)), y4] ∧ Ex0 H H'' ∧ (∃ xs fs, H'' l = some (.lst xs) ∧ Prs H'' xs fs ∧ 1 ≤ left' ∧ left' ≤ n ∧ fs.length ≤ d + 1 ∧ ∀ r, TF left' (d + 1) r → TF n 2 (fs ++ r)), ?_, ?_⟩
      · rintro σ' H'' ⟨left', y4, e1, e2, xs, fs, f1, f2, f3, f4, f5, f6⟩
        exact ⟨2000000 - (d + 1), by omega, left', d + 1, y4, e1, e2, ⟨xs, fs, f1, f2, f3, f4, by omega, by omega, f5, f6⟩, rfl⟩
      refine ⟨fun m σ' H'' => ∃ (left' k : Nat), σ' = [some (.int (n : Int)), some (.ref l), some (.int (left' : Int)), some (.int (d : Int)), some (.int (k : Int))] ∧ H' = H'' ∧ 1 ≤ left' ∧ left = left' * d ^ k ∧ m = left', ⟨_, left, 0, rfl, rfl, l1, by simp, rfl⟩, ?_⟩
      rintro m σ' H'' ⟨left', k, rfl, rfl, p1, p2, rfl⟩
      refine ⟨_, rfl, _, rfl, (m : Int), (d : Int), rfl, rfl, (show (0 : Int) < d by omega), rfl, _, rfl, ?_⟩
      have em : decide (V.int ((m : Int) % (d : Int)) = V.int 0) = decide (m % d = 0) := by
        rw [dec_int, ← Int.natCast_emod]
        apply Bool.eq_iff_iff.mpr
        rw [decide_eq_true_iff, beq_iff_eq]
        omega
      show if decide (V.int ((m : Int) % (d : Int)) = V.int 0) = true then _ else _
      rw [em]
      refine iteD (fun z => ?_) (fun z => ?_)
      · have dm : d ≤ m := Nat.le_of_dvd p1 (Nat.dvd_of_mod_eq_zero z)
        refine ⟨fun σ' H'' => ∃ (left' k : Nat), σ' = [some (.int (n : Int)), some (.ref l), some (.int (left' : Int)), some (.int (d : Int)), some (.int (k : Int))] ∧ H' = H'' ∧ 1 ≤ left' ∧ left = left' * d ^ k ∧ left' < m, fun σ' H'' ⟨a, b, c1, c2, c3, c4, c5⟩ => ⟨a, c5, a, b, c1, c2, c3, c4, rfl⟩, ?_⟩
        refine ⟨_, rfl, _, rfl, (m : Int), (d : Int), rfl, rfl, dw (by omega) (by omega), _, rfl, (k : Int), 1, rfl, rfl, _, _, rfl, ?_⟩
        refine ⟨m / d, k + 1, rfl, rfl, Nat.div_pos dm (by omega), ?_, Nat.div_lt_self p1 (by omega)⟩
        rw [Nat.pow_succ, Nat.mul_comm (d ^ k) d, ← Nat.mul_assoc, Nat.div_mul_cancel (Nat.dvd_of_mod_eq_zero z)]
        exact p2
      · have m2 : m ≤ left := by
          rw [p2]
          exact Nat.le_mul_of_pos_right _ (Nat.pow_pos (by omega))
        refine ⟨_, rfl, _, _, rfl, rfl, _, rfl, iteD (fun kz => ?_) (fun kz => ?_)⟩
        · refine ⟨_, rfl, .inl ⟨rfl, _, SqL.of hA⟩, _, rfl, _, rfl, sl2, fun t nt => ?_⟩
          have ntl : l ≠ t := ne_of_none hA nt
          have hA2 : upd H' t (.tup [.int (d : Int), .int (k : Int)]) l = some (.lst xs) := by rw [upd_ne ntl]; exact hA
          refine ⟨l, xs, _, rfl, rfl, hA2, Nat.lt_of_le_of_lt (by rw [hP.len]; omega : xs.length ≤ 1000002) (by decide), ?_⟩
          refine ⟨_, rfl, _, _, rfl, rfl, ?_⟩
          refine ⟨m, some (.int (k : Int)), rfl, Fx.mut fm0 (ex.trans (Ex0.new nt)) trivial hl, _, fs ++ [(d, k)], upd_same, ?_, p1, by omega, by rw [List.length_append]; exact Nat.add_le_add_right hz 1, fun r t => ?_⟩
          · refine (Prs.mono hP fun t' zs ht' => ?_).snoc ?_
            · rw [upd_ne (ne_of ht' hA (by intro z; cases z)), upd_ne (ne_of_none ht' nt)]
              exact ht'
            · rw [upd_ne ntl.symm]
              exact upd_same
          · rw [List.append_assoc]
            exact ht _ (.take g' z (by omega) p2 t)
        · have k0 : k = 0 := by omega
          subst k0
          have : left = m := by simpa using p2
          subst this
          refine ⟨_, rfl, _, _, rfl, rfl, ?_⟩
          exact ⟨left, some (.int 0), rfl, ex, xs, fs, hA, hP, p1, by omega, by omega, fun r t => ht r (.skip g' z t)⟩
    · have g' : left < d * d := by
        have : ¬ ((d * d : Nat) : Int) ≤ (left : Int) := by rw [Int.natCast_mul]; exact g
        omega
      refine ⟨_, rfl, _, _, rfl, rfl, _, rfl, iteD (fun kz => ?_) (fun kz => ?_)⟩
      · refine ⟨_, rfl, _, rfl, sl2, fun t nt => ⟨sl1, fun u nu => ?_⟩⟩
        have ntl : l ≠ t := ne_of_none hA nt
        have hA1 : upd H' t (.tup [.int (left : Int), .int 1]) l = some (.lst xs) := by rw [upd_ne ntl]; exact hA
        have nul : l ≠ u := ne_of_none hA1 nu
        have nut : t ≠ u := ne_of_none (show upd H' t (.tup [.int (left : Int), .int 1]) t = some _ from upd_same) nu
        refine ⟨l, u, xs, _, rfl, rfl, by rw [upd_ne nul]; exact hA1, upd_same, Nat.le_trans (by rw [hP.len]; show fs.length + 1 ≤ 1000003; omega) (by decide : 1000003 ≤ sizeLine), fun p np => ?_⟩
        have ntp : t ≠ p := ne_of_none (show upd (upd H' t (.tup [.int (left : Int), .int 1])) u (.lst [.ref t]) t = some _ by rw [upd_ne nut]; exact upd_same) np
        have e1 : Ex0 H' (upd (upd (upd H' t (.tup [.int (left : Int), .int 1])) u (.lst [.ref t])) p (.lst (xs ++ [.ref t]))) := ((Ex0.new nt).trans (Ex0.new nu)).trans (Ex0.new np)
        refine q p _ (xs ++ [.ref t]) (ex.trans e1) upd_same ?_
        have tf := ht _ (.stop1 g' (by omega))
        rw [← tf.fac]
        refine (Prs.mono hP fun t' zs ht' => Ex0.ap e1 ht').snoc ?_
        rw [upd_ne ntp, upd_ne nut]
        exact upd_same
      · refine ⟨_, rfl, ?_⟩
        refine q l H' xs ex hA ?_
        have := ht [] (.stop0 g' (by omega))
        rw [List.append_nil] at this
        rw [← this.fac]
        exact hP
theorem ok_l_is_basic (T : Txt K mg) : Def P w K mg base 2 "_law_is_basic" ["_law_number"] (sp_l_is_basic K) := by
  obtain ⟨f_, fd_, g_, F_⟩ := T.d_l_is_basic
  obtain ⟨f_l_trial_factors, fd_l_trial_factors, g_l_trial_factors, k_l_trial_factors, b_l_trial_factors, G_l_trial_factors⟩ := (ok_l_trial_factors (P := P) (w := w) (base := base) T)
  refine ⟨f_, fd_, g_, F_.kp, F_.binds (ps := ["_law_number"]) (fun _ _ _ _ _ _ us hl => match us, hl with | [_], _ => rfl), ?_⟩
  refine F_.ok sc_l_is_basic (fun vs H Q E h => ?_) (fun cdv A outer s H vs Q E hr h => ?_)
  · first | (obtain ⟨rfl, _⟩ := h; rfl) | (obtain ⟨_, rfl, _⟩ := h; rfl) | (obtain ⟨_, _, rfl, _⟩ := h; rfl) | (obtain ⟨_, _, _, rfl, _⟩ := h; rfl) | (obtain ⟨_, _, _, _, rfl, _⟩ := h; rfl) | (obtain ⟨_, _, _, _, _, rfl, _⟩ := h; rfl) | (obtain ⟨_, _, _, _, _, _, rfl, _⟩ := h; rfl) | (obtain ⟨_, _, _, _, _, _, _, rfl, _⟩ := h; rfl) | (obtain ⟨_, _, _, _, _, _, _, _, rfl, _⟩ := h; rfl) | (obtain ⟨_, _, _, _, _, _, _, _, _, rfl, _⟩ := h; rfl) | (obtain ⟨_, _, _, _, _, _, _, _, _, _, rfl, _⟩ := h; rfl) | (obtain ⟨_, _, _, _, _, _, _, _, _, _, _, rfl, _⟩ := h; rfl) | (obtain ⟨_, _, _, _, _, _, _, _, _, _, _, _, rfl, _⟩ := h; rfl) | (obtain ⟨_, _, _, _, _, _, _, _, _, _, _, _, _, rfl, _⟩ := h; rfl) | (obtain ⟨_, _, _, _, _, _, _, _, _, _, _, _, _, _, rfl, _⟩ := h; rfl) | (obtain ⟨_, _, _, _, _, _, _, _, _, _, _, _, _, _, _, rfl, _⟩ := h; rfl) | (obtain ⟨_, _, _, _, _, _, _, _, _, _, _, _, _, _, _, _, rfl, _⟩ := h; rfl) | (obtain ⟨_, _, _, _, _, _, _, _, _, _, _, _, _, _, _, _, _, rfl, _⟩ := h; rfl) | (obtain ⟨_, _, _, _, _, _, _, _, _, _, _, _, _, _, _, _, _, _, rfl, _⟩ := h; rfl) | (obtain ⟨_, _, _, _, _, _, _, _, _, _, _, _, _, _, _, _, _, _, _, rfl, _⟩ := h; rfl) | (obtain ⟨_, _, _, _, _, _, _, _, _, _, _, _, _, _, _, _, _, _, _, _, rfl, _⟩ := h; rfl) | (obtain ⟨_, _, _, _, _, _, _, _, _, _, _, _, _, _, _, _, _, _, _, _, _, rfl, _⟩ := h; rfl) | (obtain ⟨_, _, _, _, _, _, _, _, _, _, _, _, _, _, _, _, _, _, _, _, _, _, rfl, _⟩ := h; rfl) | (obtain ⟨_, _, _, _, _, _, _, _, _, _, _, _, _, _, _, _, _, _, _, _, _, _, _, rfl, _⟩ := h; rfl)
  · obtain ⟨i, rfl, i1, q⟩ := h
    refine ⟨_, (pss_cons (ps_if (pt_cmpR op_eq (pv 0) pe_int (nomark _))
      (pss_one (ps_ret pe_bl))
      pss_nil)
    (Evl.pss_cut (ps_set (i := 1) sc_l_is_basic.nd rfl (.inl rfl) (pe_ifExp (pt_cmpR op_eq (pe_op op_mod (pv 0) pe_int) pe_int (nomark _)) (pv 0) (pe_op op_fdivW (pv 0) pe_int)))
    (Evl.pss_cut (ps_if (PW.pt (pw_or (pt_cmpR op_notIn_seq (pe_op op_mod (pv 0) pe_int) (pe_tup (pa_cons pe_int (pa_cons pe_int pa_nil))) (by with_unfolding_all rfl)) (pw_or1 (PW.pt (pw_and (pt_cmpR op_eq (pe_op op_mod (pv 0) pe_int) pe_int (nomark _)) (pw_and1 (pt_cmpR op_notIn_seq (pe_op op_mod (pv 1) pe_int) (pe_tup (pa_cons pe_int (pa_cons pe_int pa_nil))) (by with_unfolding_all rfl))))))))
      (pss_one (ps_ret pe_bl))
      pss_nil)
    (pss_one (ps_ret (pe_cmpR (op_eqD hr.units) (pe_lc (own := [("_law_prime", 2), ("_law_many", 3)]) (g := (gTup K 2 (gCons (gName 2) (gCons (gName 3) gNil)))) rfl sc_l_is_basic.nd (pi_list (pe_call G_l_trial_factors (hr.mono (by decide)) (by rfl) g_l_trial_factors k_l_trial_factors b_l_trial_factors .nil pass0 (pa_cons (pe_callB call_abs (by rfl) T.b_abs (by decide +kernel) (pa_cons (pv 1) pa_nil)) pa_nil))) (blkOk_by (N := N_l_is_basic) (sc := defScope s_l_is_basic) (by decide +kernel)) (fun _ _ _ _ _ => (pg_tup (by rfl) (pgs_cons (pg_name (i := 2) sc_l_is_basic.nd rfl (.inl rfl)) (pgs_cons (pg_name (i := 3) sc_l_is_basic.nd rfl (.inl rfl)) pgs_nil)))) (fun _ _ _ _ _ => (pts_one (pt_cmpR op_gt (pv 3) pe_int (nomark _)))) (fun _ _ _ _ _ => (pv 3))) (pe_lst pa_nil) (nomark _))))))), ?_⟩
    have r4 : (show (0 : Int) < 4 from by decide) = (show (0 : Int) < 4 from by decide) := rfl
    refine ⟨_, rfl, rfl, _, rfl, iteE (fun g => ?_) (fun g => ?_)⟩
    · subst g
      rw [fund_zero] at q
      exact q H (Ex0.refl H)
    refine ⟨fun σ H' => σ = [some (.int i), some (.int (if i % 4 = 1 then i else i / 4)), none, none] ∧ H = H', ?_, ?_⟩
    · refine ⟨_, rfl, i, 4, rfl, rfl, (show (0 : Int) < 4 by decide), rfl, _, rfl, iteE (fun g => ?_) (fun g => ?_)⟩
      · rw [if_pos g]
        exact ⟨_, rfl, rfl, rfl⟩
      · rw [if_neg g]
        exact ⟨_, rfl, _, _, rfl, rfl, dw (by decide) (by decide), rfl, rfl⟩
    rintro σ H' ⟨rfl, rfl⟩
    have in01 : ∀ a b c : Int, inV (.int a) [.int b, .int c] = (decide (a = b) || decide (a = c)) := fun a b c => by
      show (b == a || (c == a || false)) = _
      rw [Bool.or_false]
      apply Bool.eq_iff_iff.mpr
      simp only [Bool.or_eq_true, beq_iff_eq, decide_eq_true_iff]
      omega
    refine ⟨fun σ H' => σ = [some (.int i), some (.int (if i % 4 = 1 then i else i / 4)), none, none] ∧ Ex0 H H' ∧ fund i = sqf (if i % 4 = 1 then i else i / 4).natAbs ∧ 1 ≤ (if i % 4 = 1 then i else i / 4).natAbs ∧ (if i % 4 = 1 then i else i / 4).natAbs ≤ 1000000000, ?_, ?_⟩
    · refine ⟨_, rfl, i, 4, rfl, rfl, (show (0 : Int) < 4 by decide), sl2, fun p np => ?_⟩
      refine ⟨p, _, rfl, .inr (SqT.of upd_same), rfl, rfl, _, rfl, ?_⟩
      show if (!inV (.int (i % 4)) [.int 0, .int 1]) = true then _ else _
      rw [in01]
      unfold fund at q ⊢
      refine iteB (fun g1 => ?_) (fun g1 => ?_)
      · -- another rest by 4
        have g2 : ¬ i % 4 = 0 ∧ ¬ i % 4 = 1 := by
          rw [Bool.not_eq_true', Bool.or_eq_false_iff, decide_eq_false_iff_not, decide_eq_false_iff_not] at g1
          exact g1
        rw [if_neg g2.2, if_pos g2.1] at q
        exact q _ (Ex0.new np)
      have g2 : i % 4 = 0 ∨ i % 4 = 1 := by
        rw [Bool.not_eq_false', Bool.or_eq_true, decide_eq_true_iff, decide_eq_true_iff] at g1
        exact g1
      refine ⟨_, rfl, i, 4, rfl, rfl, (show (0 : Int) < 4 by decide), rfl, _, rfl, iteE (fun g3 => ?_) (fun g3 => ?_)⟩
      · have n1 : ¬ i % 4 = 1 := by omega
        rw [if_neg n1, if_neg (fun z => z g3)] at q
        refine ⟨_, rfl, if i % 4 = 1 then i else i / 4, 4, rfl, rfl, (show (0 : Int) < 4 by decide), sl2, fun u nu => ?_⟩
        refine ⟨u, _, rfl, .inr (SqT.of upd_same), rfl, rfl, _, rfl, ?_⟩
        show if (!inV (.int ((if i % 4 = 1 then i else i / 4) % 4)) [.int 2, .int 3]) = true then _ else _
        rw [in01, if_neg n1]
        refine iteB (fun g4 => ?_) (fun g4 => ?_)
        · rw [Bool.not_eq_true'] at g4
          rw [g4, Bool.false_and] at q
          exact q _ ((Ex0.new np).trans (Ex0.new nu))
        · rw [Bool.not_eq_false'] at g4
          refine ⟨rfl, (Ex0.new np).trans (Ex0.new nu), ?_, ?_, ?_⟩
          · rw [if_neg n1, if_neg (fun z => z g3), g4, Bool.true_and]
          · rw [Bool.or_eq_true, decide_eq_true_iff, decide_eq_true_iff] at g4
            omega
          · omega
      · have y1 : i % 4 = 1 := by omega
        refine ⟨by rw [if_pos y1], Ex0.new np, ?_, ?_, ?_⟩
        · rw [if_pos y1, if_pos y1]
        · rw [if_pos y1]; omega
        · rw [if_pos y1]; omega
    rintro σ H' ⟨rfl, e1, hf, p1, p2⟩
    generalize (if i % 4 = 1 then i else i / 4) = part at hf p1 p2
    have ab : (if part < 0 then -part else part) = (part.natAbs : Int) := by
      by_cases h : part < 0
      · rw [if_pos h]; omega
      · rw [if_neg h]; omega
    refine ⟨_, rfl, part, rfl, part.natAbs, by rw [ab]; rfl, p1, by omega, fun p H2 xs e2 hp hP => ?_⟩
    refine ⟨p, rfl, ⟨_, SqL.of hp⟩, ?_⟩
    refine lcL fm0 trivial (SqL.of hp) (fun z => z) (fun j acc _ => acc = (((fac part.natAbs).take j).filter fun q => decide (1 < q.2)).map fun q => V.int (q.2 : Int)) (fun _ _ => rfl) (fun D j x acc H3 hD hx e3 hA hlen hacc => ?_) (fun D H3 acc hD e3 hA hacc => ?_)
    · obtain ⟨t, pp, k, rfl, hk, ht⟩ := hP.get hx
      have hj := (List.getElem?_eq_some_iff.mp hx).1
      have hjl : j < 1000000 := by
        have := fac_len p1 (Nat.lt_of_le_of_lt p2 (by decide))
        have := hP.len
        omega
      refine ⟨t, _, rfl, SqT.of (Ex0.ap e3 ht), rfl, _, _, rfl, ?_⟩
      refine ⟨_, _, rfl, ⟨rfl, ?_⟩⟩
      refine ⟨rfl, ?_⟩
      refine ⟨_, rfl, _, _, rfl, rfl, _, rfl, ?_⟩
      refine iteD (fun g => ?_) (fun g => ?_)
      · refine ⟨_, rfl, ?_⟩
        refine cs_yes fm0 trivial hD e3 hA hlen hjl (Fx.refl trivial) ?_
        rw [hacc, List.take_add_one, hk, List.filter_append, List.map_append]
        show _ = _ ++ ((List.filter (fun q => decide (1 < q.2)) [(pp, k)]).map fun q => V.int (q.2 : Int))
        rw [List.filter_cons, if_pos (by show decide (1 < k) = true; rw [decide_eq_true_iff]; omega)]
        rfl
      · refine cs_no fm0 trivial hD e3 hA hlen (Fx.refl trivial) ?_
        rw [hacc, List.take_add_one, hk, List.filter_append, List.map_append]
        show _ = _ ++ ((List.filter (fun q => decide (1 < q.2)) [(pp, k)]).map fun q => V.int (q.2 : Int))
        rw [List.filter_cons, if_neg (by show ¬ decide (1 < k) = true; rw [decide_eq_true_iff]; omega)]
        exact (List.append_nil _).symm
    · rw [hP.len, List.take_length] at hacc
      refine ⟨Nat.zero_le _, fun u nu => ?_⟩
      have hDu : D ≠ u := ne_of_none hA nu
      have ks : acc = (((fac part.natAbs).filter fun q => decide (1 < q.2)).map fun q => (q.2 : Int)).map V.int := by
        rw [hacc, List.map_map]
        rfl
      refine ⟨.list ((((fac part.natAbs).filter fun q => decide (1 < q.2)).map fun q => (q.2 : Int)).map .int), .list (([] : List Int).map .int), .lst (SqL.of (by rw [upd_ne hDu, hA, ks])) (dp_ints _), .lst (SqL.of upd_same) .nil, shaped_ints _, shaped_ints [], ?_⟩
      have ev : PyData.eqv (.list ((((fac part.natAbs).filter fun q => decide (1 < q.2)).map fun q => (q.2 : Int)).map .int)) (.list (([] : List Int).map .int)) = fund i := by
        rw [PyData.eqv, eqv_ints, hf]
        unfold sqf
        have ps := (fac_ok part.natAbs).pos
        generalize fac part.natAbs = fs at ps
        apply Bool.eq_iff_iff.mpr
        rw [decide_eq_true_iff, List.map_eq_nil_iff, List.filter_eq_nil_iff, List.all_eq_true]
        constructor
        · intro h q hq
          have := h q hq
          have := ps q hq
          simp at *
          omega
        · intro h q hq
          have := h q hq
          simp at *
          omega
      rw [ev]
      exact q _ (((e1.trans e2).trans e3).trans (Ex0.new nu))
theorem ok_l_divisors_right (T : Txt K mg) : Def P w K mg base 3 "_law_divisors_right" ["_law_vat_here"] (sp_l_divisors_right K) := by
  obtain ⟨f_, fd_, g_, F_⟩ := T.d_l_divisors_right
  obtain ⟨f_l_from, fd_l_from, g_l_from, k_l_from, b_l_from, G_l_from⟩ := (ok_l_from (P := P) (w := w) (base := base) T)
  obtain ⟨f_l_scoop, fd_l_scoop, g_l_scoop, k_l_scoop, b_l_scoop, G_l_scoop⟩ := (ok_l_scoop (P := P) (w := w) (base := base) T)
  obtain ⟨f_l_share, fd_l_share, g_l_share, k_l_share, b_l_share, G_l_share⟩ := (ok_l_share (P := P) (w := w) (base := base) T)
  obtain ⟨f_l_size, fd_l_size, g_l_size, k_l_size, b_l_size, G_l_size⟩ := (ok_l_size (P := P) (w := w) (base := base) T)
  obtain ⟨f_common_divisor, fd_common_divisor, g_common_divisor, k_common_divisor, b_common_divisor, G_common_divisor⟩ := (ok_common_divisor (P := P) (w := w) (base := base) T)
  refine ⟨f_, fd_, g_, F_.kp, F_.binds (ps := ["_law_vat_here"]) (fun _ _ _ _ _ _ us hl => match us, hl with | [_], _ => rfl), ?_⟩
  refine F_.ok sc_l_divisors_right (fun vs H Q E h => ?_) (fun cdv A outer s H vs Q E hr h => ?_)
  · first | (obtain ⟨rfl, _⟩ := h; rfl) | (obtain ⟨_, rfl, _⟩ := h; rfl) | (obtain ⟨_, _, rfl, _⟩ := h; rfl) | (obtain ⟨_, _, _, rfl, _⟩ := h; rfl) | (obtain ⟨_, _, _, _, rfl, _⟩ := h; rfl) | (obtain ⟨_, _, _, _, _, rfl, _⟩ := h; rfl) | (obtain ⟨_, _, _, _, _, _, rfl, _⟩ := h; rfl) | (obtain ⟨_, _, _, _, _, _, _, rfl, _⟩ := h; rfl) | (obtain ⟨_, _, _, _, _, _, _, _, rfl, _⟩ := h; rfl) | (obtain ⟨_, _, _, _, _, _, _, _, _, rfl, _⟩ := h; rfl) | (obtain ⟨_, _, _, _, _, _, _, _, _, _, rfl, _⟩ := h; rfl) | (obtain ⟨_, _, _, _, _, _, _, _, _, _, _, rfl, _⟩ := h; rfl) | (obtain ⟨_, _, _, _, _, _, _, _, _, _, _, _, rfl, _⟩ := h; rfl) | (obtain ⟨_, _, _, _, _, _, _, _, _, _, _, _, _, rfl, _⟩ := h; rfl) | (obtain ⟨_, _, _, _, _, _, _, _, _, _, _, _, _, _, rfl, _⟩ := h; rfl) | (obtain ⟨_, _, _, _, _, _, _, _, _, _, _, _, _, _, _, rfl, _⟩ := h; rfl) | (obtain ⟨_, _, _, _, _, _, _, _, _, _, _, _, _, _, _, _, rfl, _⟩ := h; rfl) | (obtain ⟨_, _, _, _, _, _, _, _, _, _, _, _, _, _, _, _, _, rfl, _⟩ := h; rfl) | (obtain ⟨_, _, _, _, _, _, _, _, _, _, _, _, _, _, _, _, _, _, rfl, _⟩ := h; rfl) | (obtain ⟨_, _, _, _, _, _, _, _, _, _, _, _, _, _, _, _, _, _, _, rfl, _⟩ := h; rfl) | (obtain ⟨_, _, _, _, _, _, _, _, _, _, _, _, _, _, _, _, _, _, _, _, rfl, _⟩ := h; rfl) | (obtain ⟨_, _, _, _, _, _, _, _, _, _, _, _, _, _, _, _, _, _, _, _, _, rfl, _⟩ := h; rfl) | (obtain ⟨_, _, _, _, _, _, _, _, _, _, _, _, _, _, _, _, _, _, _, _, _, _, rfl, _⟩ := h; rfl) | (obtain ⟨_, _, _, _, _, _, _, _, _, _, _, _, _, _, _, _, _, _, _, _, _, _, _, rfl, _⟩ := h; rfl)
  · obtain ⟨c, rfl, hc, q⟩ := h
    refine ⟨_, (pss_cons (ps_set (i := 1) sc_l_divisors_right.nd rfl (.inr rfl) (pe_call G_l_from (hr.mono (by decide)) (by rfl) g_l_from k_l_from b_l_from .nil pass0 (pa_cons (pv 0) (pa_cons (pe_lst (pa_cons pe_int (pa_cons pe_int (pa_cons pe_int (pa_cons pe_int (pa_cons (pe_op op_add (pe_op op_pow pe_int pe_int) pe_int) pa_nil)))))) pa_nil))))
    (pss_cons (ps_setLc (i := 2) (own := [("_law_turn", 5)]) (g := (gName 5)) rfl sc_l_divisors_right.nd rfl rfl (sw_true rfl rfl rfl (by decide +kernel)) (pi_range1 (by rfl) T.b_range (pa_cons (pe_call G_l_scoop (hr.mono (by decide)) (by rfl) g_l_scoop k_l_scoop b_l_scoop .nil pass0 (pa_cons (pv 0) (pa_cons pe_int pa_nil))) pa_nil)) (blkOk_by (N := N_l_divisors_right) (sc := defScope s_l_divisors_right) (by decide +kernel)) (fun _ _ _ _ _ => (pg_name (i := 5) sc_l_divisors_right.nd rfl (.inl rfl))) (fun _ _ _ _ _ => pts_nil) (fun _ _ _ _ _ => (pe_op op_mul (pv 1) (pe_call G_l_size (hr.mono (by decide)) (by rfl) g_l_size k_l_size b_l_size .nil pass0 (pa_cons (pv 0) (pa_cons (pe_call G_l_from (hr.mono (by decide)) (by rfl) g_l_from k_l_from b_l_from .nil pass0 (pa_cons (pv 0) (pa_cons (pe_lst (pa_cons pe_int (pa_cons pe_int (pa_cons (pe_op op_pow pe_int pe_int) pa_nil)))) pa_nil))) pa_nil))))))
    (pss_cons (ps_set (i := 3) sc_l_divisors_right.nd rfl (.inl rfl) pe_int)
    (pss_cons (ps_for PassesOwn.never rfl (pi_list (pv 2)) (pg_name (i := 4) sc_l_divisors_right.nd rfl (.inl rfl))
      (pss_one (ps_set (i := 3) sc_l_divisors_right.nd rfl (.inl rfl) (pe_call G_l_share (hr.mono (by decide)) (by rfl) g_l_share k_l_share b_l_share .nil pass0 (pa_cons (pv 3) (pa_cons (pv 4) pa_nil))))))
    (pss_one (ps_ret (pe_and (pe_cmpR op_eq (pe_call G_common_divisor (hr.mono (by decide)) (by rfl) g_common_divisor k_common_divisor b_common_divisor .nil pass0 (pa_cons (pe_callTy call_tuple_of (by rfl) T.b_tuple (by decide +kernel) (pa_cons (pv 2) pa_nil)) pa_nil)) (pv 3) (nomark _)) (pe_one (pe_cmpR op_eq (pe_call G_common_divisor (hr.mono (by decide)) (by rfl) g_common_divisor k_common_divisor b_common_divisor .nil pass0 (pa_cons (pe_callTy call_tuple_of (by rfl) T.b_tuple (by decide +kernel) (pa_cons (pe_op op_cat (pv 2) (pe_lst (pa_cons (pe_op op_sub pe_int (pv 3)) pa_nil))) pa_nil)) pa_nil)) (pv 3) (nomark _)))))))))), ?_⟩
    refine ⟨_, rfl, _, _, rfl, rfl, ⟨by decide, by decide, by decide⟩, _, _, rfl, rfl, slN (by decide), fun l nl => ?_⟩
    refine ⟨c, l, [.int 1, .int 1, .int 6, .int 35, .int 1000000007], rfl, vat_new hc nl, upd_same, fv_ne hc nl, by simp, by decide, fun v H1 hv e1 => ?_⟩
    obtain ⟨f, rfl, f1, f2⟩ := in_b (lo := 1) (hi := 1000000007) hv (by decide)
    have e1' : Fv c H H1 := (fv_new hc nl).trans e1
    refine ⟨_, rfl, c, 6, rfl, e1'.1, by decide, by decide, fun r H2 r0 r1 e2 => ?_⟩
    refine ⟨_, rfl, by omega, by omega, ?_⟩
    have hc2 : Vat c H2 := e2.1
    refine lcR (fmV c) hc2 (fun i acc _ => ∃ ns : List Int, acc = ns.map V.int ∧ ns.length = i ∧ ∀ n ∈ ns, Short n) (fun _ _ => ⟨[], rfl, rfl, fun _ h => by cases h⟩) (fun D i acc H3 hD hi e3 hA hlen hp => ?_) (fun D H3 acc hD e3 hA hp => ?_)
    · obtain ⟨ns, rfl, hln, hns⟩ := hp
      refine ⟨rfl, ?_⟩
      refine ⟨_, rfl, _, rfl, _, rfl, _, _, rfl, rfl, ⟨by decide, by decide, by decide⟩, slN (by decide), fun l2 nl2 => ?_⟩
      refine ⟨c, l2, [.int 5, .int 1000, .int 10000000000000000000000000000000000000000], rfl, vat_new e3.1 nl2, upd_same, fv_ne e3.1 nl2, by simp, by decide, fun v H4 hv e4 => ?_⟩
      obtain ⟨t, rfl, t1, t2⟩ := in_b (lo := 5) (hi := 10000000000000000000000000000000000000000) hv (by decide)
      have e4' : Fv c H3 H4 := (fv_new e3.1 nl2).trans e4
      refine ⟨c, t, rfl, e4'.1, by omega, by omega, fun z H5 z1 z2 e5 => ?_⟩
      refine ⟨_, _, rfl, rfl, .inl ⟨by omega, by omega⟩, ?_⟩
      refine cs_yes (fmV c) hc2 hD e3 hA hlen (by omega) (e4'.trans e5) ⟨ns ++ [f * z], by rw [List.map_append]; rfl, by rw [List.length_append, hln]; rfl, fun n hn => ?_⟩
      rcases List.mem_append.mp hn with h | h
      · exact hns n h
      · have : n = f * z := by simpa using h
        rw [this]
        have b1 : (f * z).natAbs ≤ 1000000007 * 10000000000000000000000000000000000000000 := by
          rw [Int.natAbs_mul]
          exact Nat.mul_le_mul (by omega) (by omega)
        exact ⟨by omega, by omega⟩
    · obtain ⟨ns, rfl, hln, hns⟩ := hp
      have hnl : ns.length ≤ 5 := by omega
      have e13 : Fv c H H3 := (e1'.trans e2).trans e3
      refine ⟨_, rfl, D, rfl, ⟨_, SqL.of hA⟩, for_list (xs := ns.map V.int) (fun i σ H' => ∃ y4, σ = [some (.ref c), some (.int f), some (.ref D), some (.int (gcdL (ns.take i) : Nat)), y4, none] ∧ H3 = H') ⟨none, rfl, rfl⟩ (fun i σ H' _ ⟨_, _, e⟩ => e ▸ SqL.of hA) ?_ ?_⟩
      · rintro i x σ H' hx ⟨y4, rfl, rfl⟩
        obtain ⟨n, hn, rfl⟩ := get_int hx
        refine ⟨_, rfl, _, rfl, _, _, rfl, ?_⟩
        refine ⟨some (.int n), ?_, rfl⟩
        rw [gcdL_take hn]
        rfl
      · rintro σ H' ⟨y4, rfl, rfl⟩
        rw [List.length_map, List.take_length]
        refine ⟨_, rfl, D, _, rfl, .inl ⟨SqL.of hA, fun p np => ?_⟩⟩
        refine ⟨p, ns, rfl, upd_same, by omega, hns, fun H4 e4 => ?_⟩
        have e4' : Ex0 H3 H4 := (Ex0.new np).trans e4
        refine ⟨_, rfl, rfl, _, rfl, ?_⟩
        refine dT rfl ?_
        have hA4 : H4 D = some (.lst (ns.map V.int)) := e4'.ap hA
        refine ⟨_, rfl, _, rfl, _, _, rfl, rfl, sl1, fun u nu => ?_⟩
        have hDu : D ≠ u := ne_of_none hA4 nu
        refine ⟨D, u, _, _, rfl, rfl, by rw [upd_ne hDu]; exact hA4, upd_same, slN (by rw [List.length_map]; show ns.length + 1 ≤ 1000000; omega), fun v nv => ?_⟩
        refine ⟨v, _, rfl, .inl ⟨SqL.of upd_same, fun t nt => ?_⟩⟩
        have sg : Short (0 - ((gcdL ns : Nat) : Int)) := by
          have := gcdL_lt (B := 1000000000000000000000000000000000000000000000000000000000000) (by decide) (ns := ns) (fun n hn => by have := hns n hn; unfold Short at this; omega)
          exact ⟨by omega, by omega⟩
        refine ⟨t, ns ++ [0 - ((gcdL ns : Nat) : Int)], rfl, by rw [upd_same, List.map_append]; rfl, by rw [List.length_append]; show ns.length + 1 ≤ 1000; omega, fun n hn => ?_, fun H5 e5 => ?_⟩
        · rcases List.mem_append.mp hn with h | h
          · exact hns n h
          · have : n = 0 - ((gcdL ns : Nat) : Int) := by simpa using h
            rw [this]
            exact sg
        have gg : gcdL (ns ++ [0 - ((gcdL ns : Nat) : Int)]) = gcdL ns := by
          unfold gcdL
          rw [List.foldl_append]
          show Nat.gcd (gcdL ns) (0 - ((gcdL ns : Nat) : Int)).natAbs = gcdL ns
          rw [show (0 - ((gcdL ns : Nat) : Int)).natAbs = gcdL ns by omega]
          exact Nat.gcd_self _
        refine ⟨_, rfl, rfl, ?_⟩
        rw [gg]
        show Q (.bl (decide (V.int (gcdL ns : Nat) = V.int (gcdL ns : Nat)))) H5
        rw [decide_eq_true rfl]
        have e45 : Ex0 H3 H5 := (((e4'.trans (Ex0.new nu)).trans (Ex0.new nv)).trans (Ex0.new nt)).trans e5
        exact q H5 (e13.trans (fv_ex e13.1 e45))
theorem ok_l_roots_right (T : Txt K mg) : Def P w K mg base 6 "_law_roots_right" ["_law_vat_here"] (sp_l_roots_right K) := by
  obtain ⟨f_, fd_, g_, F_⟩ := T.d_l_roots_right
  obtain ⟨f_l_from, fd_l_from, g_l_from, k_l_from, b_l_from, G_l_from⟩ := (ok_l_from (P := P) (w := w) (base := base) T)
  obtain ⟨f_l_raised, fd_l_raised, g_l_raised, k_l_raised, b_l_raised, G_l_raised⟩ := (ok_l_raised (P := P) (w := w) (base := base) T)
  obtain ⟨f_l_scoop, fd_l_scoop, g_l_scoop, k_l_scoop, b_l_scoop, G_l_scoop⟩ := (ok_l_scoop (P := P) (w := w) (base := base) T)
  obtain ⟨f_whole_root, fd_whole_root, g_whole_root, k_whole_root, b_whole_root, G_whole_root⟩ := (ok_whole_root (P := P) (w := w) (base := base) T)
  refine ⟨f_, fd_, g_, F_.kp, F_.binds (ps := ["_law_vat_here"]) (fun _ _ _ _ _ _ us hl => match us, hl with | [_], _ => rfl), ?_⟩
  refine F_.ok sc_l_roots_right (fun vs H Q E h => ?_) (fun cdv A outer s H vs Q E hr h => ?_)
  · first | (obtain ⟨rfl, _⟩ := h; rfl) | (obtain ⟨_, rfl, _⟩ := h; rfl) | (obtain ⟨_, _, rfl, _⟩ := h; rfl) | (obtain ⟨_, _, _, rfl, _⟩ := h; rfl) | (obtain ⟨_, _, _, _, rfl, _⟩ := h; rfl) | (obtain ⟨_, _, _, _, _, rfl, _⟩ := h; rfl) | (obtain ⟨_, _, _, _, _, _, rfl, _⟩ := h; rfl) | (obtain ⟨_, _, _, _, _, _, _, rfl, _⟩ := h; rfl) | (obtain ⟨_, _, _, _, _, _, _, _, rfl, _⟩ := h; rfl) | (obtain ⟨_, _, _, _, _, _, _, _, _, rfl, _⟩ := h; rfl) | (obtain ⟨_, _, _, _, _, _, _, _, _, _, rfl, _⟩ := h; rfl) | (obtain ⟨_, _, _, _, _, _, _, _, _, _, _, rfl, _⟩ := h; rfl) | (obtain ⟨_, _, _, _, _, _, _, _, _, _, _, _, rfl, _⟩ := h; rfl) | (obtain ⟨_, _, _, _, _, _, _, _, _, _, _, _, _, rfl, _⟩ := h; rfl) | (obtain ⟨_, _, _, _, _, _, _, _, _, _, _, _, _, _, rfl, _⟩ := h; rfl) | (obtain ⟨_, _, _, _, _, _, _, _, _, _, _, _, _, _, _, rfl, _⟩ := h; rfl) | (obtain ⟨_, _, _, _, _, _, _, _, _, _, _, _, _, _, _, _, rfl, _⟩ := h; rfl) | (obtain ⟨_, _, _, _, _, _, _, _, _, _, _, _, _, _, _, _, _, rfl, _⟩ := h; rfl) | (obtain ⟨_, _, _, _, _, _, _, _, _, _, _, _, _, _, _, _, _, _, rfl, _⟩ := h; rfl) | (obtain ⟨_, _, _, _, _, _, _, _, _, _, _, _, _, _, _, _, _, _, _, rfl, _⟩ := h; rfl) | (obtain ⟨_, _, _, _, _, _, _, _, _, _, _, _, _, _, _, _, _, _, _, _, rfl, _⟩ := h; rfl) | (obtain ⟨_, _, _, _, _, _, _, _, _, _, _, _, _, _, _, _, _, _, _, _, _, rfl, _⟩ := h; rfl) | (obtain ⟨_, _, _, _, _, _, _, _, _, _, _, _, _, _, _, _, _, _, _, _, _, _, rfl, _⟩ := h; rfl) | (obtain ⟨_, _, _, _, _, _, _, _, _, _, _, _, _, _, _, _, _, _, _, _, _, _, _, rfl, _⟩ := h; rfl)
  · obtain ⟨c, rfl, hc, q⟩ := h
    refine ⟨_, (pss_cons (ps_set (i := 1) sc_l_roots_right.nd rfl (.inl rfl) (pe_op op_add pe_int (pe_call G_l_scoop (hr.mono (by decide)) (by rfl) g_l_scoop k_l_scoop b_l_scoop .nil pass0 (pa_cons (pv 0) (pa_cons pe_int pa_nil)))))
    (pss_cons (ps_set (i := 2) sc_l_roots_right.nd rfl (.inl rfl) (pe_call G_l_scoop (hr.mono (by decide)) (by rfl) g_l_scoop k_l_scoop b_l_scoop .nil pass0 (pa_cons (pv 0) (pa_cons (pe_call G_l_from (hr.mono (by decide)) (by rfl) g_l_from k_l_from b_l_from .nil pass0 (pa_cons (pv 0) (pa_cons (pe_lst (pa_cons pe_int (pa_cons pe_int (pa_cons (pe_op op_pow pe_int pe_int) pa_nil)))) pa_nil))) pa_nil))))
    (pss_cons (ps_set (i := 3) sc_l_roots_right.nd rfl (.inl rfl) (pe_call G_l_raised (hr.mono (by decide)) (by rfl) g_l_raised k_l_raised b_l_raised .nil pass0 (pa_cons (pv 2) (pa_cons (pv 1) pa_nil))))
    (pss_cons (ps_set (i := 4) sc_l_roots_right.nd rfl (.inl rfl) (pe_op op_add (pv 3) (pe_call G_l_from (hr.mono (by decide)) (by rfl) g_l_from k_l_from b_l_from .nil pass0 (pa_cons (pv 0) (pa_cons (pe_lst (pa_cons pe_int (pa_cons pe_int (pa_cons pe_int (pa_cons (pe_un un_neg pe_int) (pa_cons (pe_call G_l_scoop (hr.mono (by decide)) (by rfl) g_l_scoop k_l_scoop b_l_scoop .nil pass0 (pa_cons (pv 0) (pa_cons (pe_op op_add pe_int (pv 3)) pa_nil))) pa_nil)))))) pa_nil)))))
    (Evl.pss_cut (ps_set (i := 4) sc_l_roots_right.nd rfl (.inl rfl) (pe_ifExp (pt_chain op_le op_lt pe_int (pv 4) (pe_op op_mulW (pe_op op_pow pe_int pe_int) (pe_op op_pow pe_int pe_int))) (pv 4) (pv 2)))
    (pss_cons (ps_set (i := 5) sc_l_roots_right.nd rfl (.inl rfl) (pe_call G_whole_root (hr.mono (by decide)) (by rfl) g_whole_root k_whole_root b_whole_root .nil pass0 (pa_cons (pv 4) (pa_cons (pv 1) pa_nil))))
    (pss_cons (ps_if (PW.pt (pw_or (pt_cmpR op_gt (pe_call G_l_raised (hr.mono (by decide)) (by rfl) g_l_raised k_l_raised b_l_raised .nil pass0 (pa_cons (pv 5) (pa_cons (pv 1) pa_nil))) (pv 4) (nomark _)) (pw_or1 (pt_cmpR op_le (pe_call G_l_raised (hr.mono (by decide)) (by rfl) g_l_raised k_l_raised b_l_raised .nil pass0 (pa_cons (pe_op op_add (pv 5) pe_int) (pa_cons (pv 1) pa_nil))) (pv 4) (nomark _)))))
      (pss_one (ps_ret pe_bl))
      pss_nil)
    (pss_cons (ps_set (i := 6) sc_l_roots_right.nd rfl (.inl rfl) (pe_call G_l_scoop (hr.mono (by decide)) (by rfl) g_l_scoop k_l_scoop b_l_scoop .nil pass0 (pa_cons (pv 0) (pa_cons (pe_op op_pow pe_int pe_int) pa_nil))))
    (pss_cons (ps_set (i := 5) sc_l_roots_right.nd rfl (.inl rfl) (pe_call G_whole_root (hr.mono (by decide)) (by rfl) g_whole_root k_whole_root b_whole_root .nil pass0 (pa_cons (pe_op op_mulW (pv 6) (pv 6)) (pa_cons pe_int pa_nil))))
    (pss_one (ps_ret (pe_and (pe_cmpR op_eq (pv 5) (pv 6) (nomark _)) (pe_one (pe_cmpR op_eq (pe_call G_whole_root (hr.mono (by decide)) (by rfl) g_whole_root k_whole_root b_whole_root .nil pass0 (pa_cons (pe_op op_add (pe_op op_mulW (pv 6) (pv 6)) (pv 6)) (pa_cons pe_int pa_nil))) (pv 6) (nomark _))))))))))))))), ?_⟩
    refine ⟨_, rfl, c, 9, rfl, hc, by decide, by decide, fun ex H1 x0 x1 e1 => ⟨_, _, rfl, rfl, ?_⟩⟩
    obtain ⟨ee, rfl⟩ : ∃ ee : Nat, ex = (ee : Int) := ⟨ex.toNat, by omega⟩
    have e' : (2 : Int) + (ee : Int) = ((2 + ee : Nat) : Int) := by omega
    obtain ⟨e, he⟩ : ∃ e, e = 2 + ee := ⟨_, rfl⟩
    refine ⟨_, rfl, _, rfl, _, _, rfl, rfl, ⟨by decide, by decide, by decide⟩, slN (by decide), fun l nl => ?_⟩
    refine ⟨c, l, [.int 12, .int 1000, .int 100000], rfl, vat_new e1.1 nl, upd_same, fv_ne e1.1 nl, by simp, by decide, fun v H2 hv e2 => ?_⟩
    obtain ⟨t, rfl, t1, t2⟩ := in_b (lo := 12) (hi := 100000) hv (by decide)
    refine ⟨c, t, rfl, e2.1, by omega, by omega, fun b H3 b0 b1 e3 => ?_⟩
    obtain ⟨bb, rfl⟩ : ∃ bb : Nat, b = (bb : Int) := ⟨b.toNat, by omega⟩
    have e03 : Fv c H H3 := ((e1.trans (fv_new e1.1 nl)).trans e2).trans e3
    refine ⟨_, rfl, _, rfl, (bb : Int), e, by rw [he, ← e']; rfl, by omega, by omega, ?_⟩
    have pb : bb ^ e < 2 ^ 200 := by
      refine Nat.lt_of_le_of_lt (Nat.pow_le_pow_left (show bb ≤ 100000 by omega) e) (Nat.lt_of_le_of_lt (Nat.pow_le_pow_right (by decide) (show e ≤ 10 by omega)) (by decide))
    have pc : ((bb : Int) ^ e) = ((bb ^ e : Nat) : Int) := (Int.natCast_pow bb e).symm
    refine ⟨_, rfl, _, rfl, _, rfl, _, rfl, _, rfl, _, _, rfl, rfl, c, 1 + (bb : Int) ^ e, rfl, e03.1, by omega, by omega, fun z H4 z0 z1 e4 => ⟨slN (by show 5 ≤ 1000000; decide), fun l2 nl2 => ?_⟩⟩
    have e04 := e03.trans e4
    refine ⟨c, l2, [.int 0, .int 0, .int 1, .int (-1), .int z], rfl, vat_new e04.1 nl2, upd_same, fv_ne e04.1 nl2, by simp, by show 5 ≤ 1000; decide, fun v H5 hv e5 => ?_⟩
    obtain ⟨y, rfl, y1, y2⟩ : ∃ y : Int, v = .int y ∧ -1 ≤ y ∧ y ≤ 1 + (bb ^ e : Nat) := by
      simp only [List.mem_cons, List.mem_nil_iff, or_false] at hv
      rcases hv with rfl | rfl | rfl | rfl | rfl
      · exact ⟨_, rfl, by omega, by omega⟩
      · exact ⟨_, rfl, by omega, by omega⟩
      · exact ⟨_, rfl, by omega, by omega⟩
      · exact ⟨_, rfl, by omega, by omega⟩
      · exact ⟨_, rfl, by omega, by omega⟩
    have e05 : Fv c H H5 := (e04.trans (fv_new e04.1 nl2)).trans e5
    refine ⟨_, _, rfl, rfl, ?_⟩
    refine ⟨fun σ H' => ∃ n : Nat, σ = [some (.ref c), some (.int (e : Int)), some (.int (bb : Int)), some (.int ((bb : Int) ^ e)), some (.int (n : Int)), none, none] ∧ H5 = H' ∧ n < 1000000000000000000000000000000000000000000000000000000000000, ?_, ?_⟩
    · have e'' : (2 : Int) + (ee : Int) = (e : Int) := by omega
      refine ⟨_, rfl, _, _, rfl, rfl, _, rfl, iteD (fun g1 => ?_) (fun g1 => ?_)⟩
      · refine ⟨_, _, rfl, rfl, ⟨by decide, by decide, by decide⟩, _, _, rfl, rfl, ⟨by decide, by decide, by decide⟩, _, _, rfl, rfl, mw (by decide) (by decide) (by decide) (by decide), _, _, rfl, rfl, _, rfl, iteD (fun g2 => ?_) (fun g2 => ?_)⟩
        · refine ⟨_, rfl, ((bb : Int) ^ e + y).toNat, ?_, rfl, ?_⟩
          · rw [← e'', Int.toNat_of_nonneg g1]
            rfl
          · have g3 : (bb : Int) ^ e + y < 1000000000000000000000000000000000000000000000000000000000000 := Int.lt_of_lt_of_le g2 (by decide)
            omega
        · refine ⟨_, rfl, bb, ?_, rfl, by omega⟩
          rw [← e'']
          rfl
      · refine ⟨_, rfl, ?_⟩
        refine ⟨_, rfl, bb, ?_, rfl, by omega⟩
        rw [← e'']
        rfl
    rintro σ H' ⟨n, rfl, rfl, hn⟩
    refine ⟨_, rfl, _, rfl, n, e, rfl, hn, by omega, by omega, fun r r1 r2 => ?_⟩
    have rr : r ≤ r ^ e := Nat.le_self_pow (by omega) r
    have rc : ((r : Int) ^ e) = ((r ^ e : Nat) : Int) := (Int.natCast_pow r e).symm
    have rc2 : (((r : Int) + 1) ^ e) = (((r + 1) ^ e : Nat) : Int) := by rw [Int.natCast_pow]; rfl
    refine ⟨_, rfl, _, rfl, (r : Int), e, rfl, by omega, by omega, _, rfl, _, _, rfl, rfl, _, rfl, dF (by rw [rc]; omega) ?_⟩
    refine ⟨_, rfl, _, _, rfl, rfl, _, rfl, (r : Int) + 1, e, rfl, by omega, by omega, _, rfl, _, _, rfl, rfl, _, rfl, dF (by rw [rc2]; omega) ?_⟩
    refine ⟨_, rfl, _, _, rfl, rfl, ⟨by decide, by decide, by decide⟩, c, 100000000000000000000000000000, rfl, e05.1, by decide, by decide, fun g H6 g0 g1 e6 => ?_⟩
    obtain ⟨gg, rfl⟩ : ∃ gg : Nat, g = (gg : Int) := ⟨g.toNat, by omega⟩
    have gb : gg * gg ≤ 99999999999999999999999999999 * 99999999999999999999999999999 := Nat.mul_le_mul (by omega) (by omega)
    have gc : ((gg : Int) * (gg : Int)) = ((gg * gg : Nat) : Int) := (Int.natCast_mul gg gg).symm
    have root : ∀ r m : Nat, r ^ 2 ≤ m → m < (r + 1) ^ 2 → gg * gg ≤ m → m < (gg + 1) * (gg + 1) → r = gg := by
      intro r m h1 h2 h3 h4
      rw [Nat.pow_two] at h1 h2
      rcases Nat.lt_trichotomy r gg with h | h | h
      · have := Nat.mul_le_mul (show r + 1 ≤ gg by omega) (show r + 1 ≤ gg by omega)
        omega
      · exact h
      · have := Nat.mul_le_mul (show gg + 1 ≤ r by omega) (show gg + 1 ≤ r by omega)
        omega
    have g2 : (gg + 1) * (gg + 1) = gg * gg + 2 * gg + 1 := by
      rw [Nat.add_mul, Nat.mul_add]
      omega
    refine ⟨_, rfl, _, rfl, _, _, rfl, rfl, mw (by omega) (by omega) (by omega) (by omega), gg * gg, 2, by show [V.int ((gg : Int) * (gg : Int)), V.int 2] = _; rw [gc]; rfl, by omega, by decide, by decide, fun r' p1 p2 => ?_⟩
    have hr' := root r' (gg * gg) p1 p2 (Nat.le_refl _) (by omega)
    subst hr'
    refine ⟨_, rfl, _, rfl, rfl, _, rfl, dT rfl ?_⟩
    refine ⟨_, rfl, _, rfl, _, _, rfl, rfl, mw (by omega) (by omega) (by omega) (by omega), _, rfl, _, _, rfl, rfl, r' * r' + r', 2, by show [V.int ((r' : Int) * (r' : Int) + (r' : Int)), V.int 2] = _; rw [gc, ← Int.natCast_add]; rfl, by omega, by decide, by decide, fun r'' p3 p4 => ?_⟩
    have hr'' := root r'' (r' * r' + r') p3 p4 (by omega) (by omega)
    subst hr''
    refine ⟨_, rfl, rfl, ?_⟩
    show Q (.bl (decide (V.int (r'' : Int) = V.int (r'' : Int)))) H6
    rw [decide_eq_true rfl]
    exact q H6 (e05.trans e6)
end
end K01
set_option Elab.async false
set_option linter.all false
set_option maxRecDepth 100000
namespace Hd
open PySem PySem.Spec PyProof.Rows L2 Fr
open He (ga ma eqO eqO_ok ba)
def pa (K : PySem.W.Frag) (C : Addr) (m : Str) : Addr := match PySem.W.recIn K (ma K C m) "property" with
  | some (.ref g :: _) => g
  | _ => 0
def itA (K : PySem.W.Frag) (a : Addr) (i : Nat) : Addr := match K.lookup a with
  | some ⟨_, _, .seq its _, _⟩ => (match its[i]? with
    | some (.ref b) => b
    | _ => 0)
  | _ => 0
structure Dd where
  at_ : PySem.W.Frag → Addr
  name : Str
  qual : Str
  st : Stmt
  dfl : List V := []
def fnA (K : PySem.W.Frag) (a : Addr) : He.FnW := match K.lookup a with
  | some ⟨_, _, .func fd, _⟩ => some (fd.name, fd.qualname, fd.params, fd.body, fd.scope, fd.globals, fd.closure, fd.builtins)
  | _ => none
def Dd.val (d : Dd) : He.FnW := some (d.name, d.qual, defArgs d.st, .stmts (defBody d.st), defScope d.st, mainGlobals, [], builtinsNs)
def Dd.ok (K : PySem.W.Frag) (d : Dd) : Bool := PySem.W.keepIn K (.ref (d.at_ K)) && (match K.lookup (d.at_ K) with
  | some ⟨_, _, .func fd, _⟩ => PySem.W.codeIn K fd.code d.qual && He.dflB K fd.defaults d.dfl
  | _ => false)
theorem Dd.funD {K : PySem.W.Frag} {d : Dd} (e : fnA K (d.at_ K) = d.val) (c : d.ok K = true) : ∃ fd, FunD K d.name d.qual (defArgs d.st) (defBody d.st) (defScope d.st) d.dfl [] (d.at_ K) fd := by
  obtain ⟨kp, c2⟩ := ba c
  unfold fnA at e
  cases hk : K.lookup (d.at_ K) with
  | none => rw [hk] at c2; cases c2
  | some o =>
    obtain ⟨oc, od, dt, osl⟩ := o
    rw [hk] at c2 e
    cases dt with
    | func fd =>
      obtain ⟨n1, n2, n3, n4, n5, n6, n7, n8, n9, n10, n11, n12, n13, n14, n15⟩ := fd
      have e0 : (some (n1, n2, n3, n4, n5, n6, n7, n15) : He.FnW) = some (d.name, d.qual, defArgs d.st, .stmts (defBody d.st), defScope d.st, mainGlobals, [], builtinsNs) := e
      simp only [Option.some.injEq, Prod.mk.injEq] at e0
      obtain ⟨h1, h2, h3, h4, h5, h6, h7, h8⟩ := e0
      subst h1 h2 h3 h4 h5 h6 h7 h8
      obtain ⟨k1, k2⟩ := ba (show (PySem.W.codeIn K n13 d.qual && He.dflB K n8 d.dfl) = true from c2)
      exact ⟨_, ⟨oc, od, n8, n9, n10, n11, n12, n13, n14, osl, rfl, hk, k1, He.dflB_ok k2, .inl rfl⟩, kp⟩
    | _ => cases c2
theorem fun_of {K : PySem.W.Frag} {x q : Str} {st : Stmt} {f : Addr} {fd : FuncData} (F : FunD K x q (defArgs st) (defBody st) (defScope st) [] [] f fd) : Fun K x q st f fd := by
  obtain ⟨⟨oc, od, dV, kV, doc, pm, an, cdv, ct, osl, e1, e2, e3, e4, e5⟩, kp⟩ := F
  rcases e4 with ⟨_, rfl⟩ | ⟨h, _⟩
  · exact ⟨⟨oc, od, kV, doc, pm, an, cdv, ct, osl, e1, e2, e3⟩, kp⟩
  · exact absurd rfl h
def refsP (o : Obj) : List Addr := match o.data with
  | .seq its _ => its.toList.flatMap He.refV
  | .dict es _ => es.toList.flatMap fun e => He.refV e.val
  | .func fd => He.refV fd.code ++ He.refV fd.defaults
  | .cls cd => [cd.ns]
  | .fields vs => (match o.cls with
    | .type c => (match c == "property" with
      | true => vs.toList.flatMap He.refV
      | false => [])
    | _ => [])
  | _ => []
def nxt (g : Addr → Option Obj) (as : List Addr) : List Addr := as.flatMap fun a => match g a with
  | some o => refsP o
  | none => []
def asM (g : Addr → Option Obj) : Nat → List Addr → List Addr
  | 0, as => as
  | n + 1, as => as ++ asM g n (nxt g as)
abbrev Fb : Type := PySem.W.Frag → Bool
abbrev AlM : Type := Bool × List He.FnW
def obsM (fa : List Fb) (fn : List Dd) (K : PySem.W.Frag) : AlM := ((fa.all fun f => f K) && fn.all fun d => d.ok K, fn.map fun d => fnA K (d.at_ K))
def valM (fn : List Dd) : AlM := (true, fn.map Dd.val)
def SaysM (fa : List Fb) (fn : List Dd) (K : PySem.W.Frag) : Prop := obsM fa fn K = valM fn
def obsMG (n : Nat) (fa : List Fb) (fn : List Dd) (g : Addr → Option Obj) : AlM := obsM fa fn (He.frG g (asM g n [mainGlobals]))
def hookM (n : Nat) (fa : List Fb) (fn : List Dd) : PySem.W.Hook where
  α := AlM
  obs := fun s => obsMG n fa fn s.heap.get?
  val := fun _ => valM fn
  says := fun _ h => ∃ K : PySem.W.Frag, K.In h ∧ SaysM fa fn K
  of := fun _ _ e => ⟨_, He.frG_in, e⟩
  keeps := fun _ _ _ ⟨K, hK, c⟩ k => ⟨K, PySem.W.Frag.In.keeps hK k, c⟩
theorem obsMG_eq {n : Nat} {fa : List Fb} {fn : List Dd} {g : Addr → Option Obj} {s : Shared} (h : ∀ a, g a = s.heap.get? a) : obsMG n fa fn g = (hookM n fa fn).obs s := by
  have e : g = s.heap.get? := funext h
  rw [e] <;> rfl
section
variable {fa : List Fb} {fn : List Dd} {K : PySem.W.Frag}
theorem SaysM.fact (c : SaysM fa fn K) (i : Nat) {f : Fb} (h : fa[i]? = some f := by rfl) : f K = true := by
  have c1 : ((fa.all fun f => f K) && fn.all fun d => d.ok K) = true := congrArg (fun z : AlM => z.1) c
  exact List.all_eq_true.mp (ba c1).1 f (List.mem_of_getElem? h)
theorem SaysM.def_ (c : SaysM fa fn K) (i : Nat) {d : Dd} (h : fn[i]? = some d := by rfl) : ∃ fd, FunD K d.name d.qual (defArgs d.st) (defBody d.st) (defScope d.st) d.dfl [] (d.at_ K) fd := by
  have c1 : ((fa.all fun f => f K) && fn.all fun d => d.ok K) = true := congrArg (fun z : AlM => z.1) c
  have c2 : fn.map (fun d => fnA K (d.at_ K)) = fn.map Dd.val := congrArg (fun z : AlM => z.2) c
  have c3 : (fn.map fun d => fnA K (d.at_ K))[i]? = (fn.map Dd.val)[i]? := by rw [c2]
  rw [List.getElem?_map, List.getElem?_map, h] at c3
  exact Dd.funD (Option.some.inj c3) (List.all_eq_true.mp (ba c1).2 d (List.mem_of_getElem? h))
end
def decO (a b : Option Bool) : Bool := decide (a = b)
theorem decO_ok {a b : Option Bool} (h : decO a b = true) : a = b := of_decide_eq_true h
def bltB (x : Str) (id : String) : Fb := fun K => eqO (PySem.W.nsIn K mainGlobals x) (some (some (.builtin id)))
theorem blt_ok {K : PySem.W.Frag} {h : Heap} {mg : Str → Option Value} (X : K.In h) (G : h.Ns mainGlobals mg) {x : Str} {id : String} (c : bltB x id K = true) : mg x = some (.builtin id) := PySem.W.mg_of X G (eqO_ok c)
def tyB (C : Str) : Fb := fun K => eqO (PySem.W.findIn K (.ref (ga K C)) "__class__") (some (some (.builtin "object.__class__"))) && (eqO (PySem.W.specialIn K (.builtin "object.__class__") "__get__") (some (some (.builtin "getset_descriptor.__get__"))) && (decO (PySem.W.takesIn K (.builtin "object.__class__")) (some true) && decO (PySem.W.mroIn K (ga K C) (.type "object")) (some true)))
theorem ty_ok {K : PySem.W.Frag} {C : Str} (c : tyB C K = true) : TyI K (ga K C) := by
  obtain ⟨c1, c⟩ := ba c
  obtain ⟨c2, c⟩ := ba c
  obtain ⟨c3, c4⟩ := ba c
  exact ⟨eqO_ok c1, eqO_ok c2, decO_ok c3, decO_ok c4⟩
def propB (C m : Str) : Fb := fun K => eqO (PySem.W.findIn K (.ref (ga K C)) m) (some (some (.ref (ma K (ga K C) m)))) && (eqO (PySem.W.specialIn K (.ref (ma K (ga K C) m)) "__get__") (some (some (.builtin "property.__get__"))) && (decO (PySem.W.takesIn K (.ref (ma K (ga K C) m))) (some true) && (match PySem.W.recIn K (ma K (ga K C) m) "property" with
  | some (.ref _ :: _) => true
  | _ => false)))
theorem prop_ok {K : PySem.W.Frag} {C m : Str} (c : propB C m K = true) : PropOf K (ga K C) m (ma K (ga K C) m) (pa K (ga K C) m) := by
  obtain ⟨c1, c⟩ := ba c
  obtain ⟨c2, c⟩ := ba c
  obtain ⟨c3, c4⟩ := ba c
  refine ⟨eqO_ok c1, eqO_ok c2, decO_ok c3, ?_⟩
  unfold pa
  cases hr : PySem.W.recIn K (ma K (ga K C) m) "property" with
  | none => rw [hr] at c4; cases c4
  | some l =>
    rw [hr] at c4
    cases l with
    | nil => cases c4
    | cons v rest =>
      cases v with
      | ref g => exact ⟨rest, rfl⟩
      | _ => cases c4
def eqB (C : Str) : Fb := fun K => eqO (PySem.W.findIn K (.ref (ga K C)) "__eq__") (some (some (.ref (ma K (ga K C) "__eq__")))) && (PySem.W.isFn K (.ref (ma K (ga K C) "__eq__")) && (eqO (PySem.W.findIn K (.ref (ga K C)) "__ne__") (some (some (.builtin "object.__ne__"))) && decO (PySem.W.mroIn K (ga K C) (.type "object")) (some true)))
theorem eq_ok {K : PySem.W.Frag} {C : Str} (c : eqB C K = true) : EqC K (ga K C) (ma K (ga K C) "__eq__") := by
  obtain ⟨c1, c⟩ := ba c
  obtain ⟨c2, c⟩ := ba c
  obtain ⟨c3, c4⟩ := ba c
  exact ⟨eqO_ok c1, c2, eqO_ok c3, decO_ok c4⟩
def callB (C : Str) : Fb := fun K => eqO (PySem.W.findIn K (.ref (ga K C)) "__call__") (some (some (.ref (ma K (ga K C) "__call__")))) && (PySem.W.isFn K (.ref (ma K (ga K C) "__call__")) && PySem.W.fnIn K (ma K (ga K C) "__call__"))
theorem call_ok {K : PySem.W.Frag} {C : Str} (c : callB C K = true) : StX.CallO K (ga K C) (ma K (ga K C) "__call__") := by
  obtain ⟨c1, c⟩ := ba c
  obtain ⟨c2, c3⟩ := ba c
  exact ⟨eqO_ok c1, c2, c3⟩
def binB (C m : Str) : Fb := fun K => eqO (PySem.W.findIn K (.ref (ga K C)) m) (some (some (.ref (ma K (ga K C) m)))) && (PySem.W.isFn K (.ref (ma K (ga K C) m)) && PySem.W.selfFirst K (ga K C))
theorem bin_ok {K : PySem.W.Frag} {C m : Str} (c : binB C m K = true) : PySem.W.findIn K (.ref (ga K C)) m = some (some (.ref (ma K (ga K C) m))) ∧ PySem.W.isFn K (.ref (ma K (ga K C) m)) = true ∧ PySem.W.selfFirst K (ga K C) = true := by
  obtain ⟨c1, c⟩ := ba c
  obtain ⟨c2, c3⟩ := ba c
  exact ⟨eqO_ok c1, c2, c3⟩
def intsB (a : PySem.W.Frag → Addr) (ns : List Int) : Fb := fun K => match K.lookup (a K) with
  | some ⟨.type c, _, .seq its _, _⟩ => decide (c = "tuple") && (decide (its.size ≤ sizeLine) && He.relAll (ns.map V.int) its.toList)
  | _ => false
theorem ints_ok {K : PySem.W.Frag} {a : PySem.W.Frag → Addr} {ns : List Int} (c : intsB a ns K = true) (H : Hp) : SqT K H (a K) (ns.map V.int) := by
  unfold intsB at c
  cases hk : K.lookup (a K) with
  | none => rw [hk] at c; cases c
  | some o =>
    obtain ⟨oc, od, dt, sl⟩ := o
    rw [hk] at c
    cases oc with
    | type t =>
      cases dt with
      | seq its m =>
        obtain ⟨c1, c⟩ := ba c
        obtain ⟨c2, c3⟩ := ba c
        exact .inr ⟨_, its, m, hk, congrArg Value.type (of_decide_eq_true c1), rfl, of_decide_eq_true c2, He.relAll_ok c3⟩
      | _ => cases c
    | _ => cases dt <;> cases c
def refsB (a : PySem.W.Frag → Addr) (n : Nat) : Fb := fun K => match K.lookup (a K) with
  | some ⟨.type c, _, .seq its _, _⟩ => decide (c = "tuple") && (decide (its.size ≤ sizeLine) && He.relAll ((List.range n).map fun i => V.ref (itA K (a K) i)) its.toList)
  | _ => false
theorem refs_ok {K : PySem.W.Frag} {a : PySem.W.Frag → Addr} {n : Nat} (c : refsB a n K = true) (H : Hp) : SqT K H (a K) ((List.range n).map fun i => V.ref (itA K (a K) i)) := by
  unfold refsB at c
  generalize hl : (List.range n).map (fun i => V.ref (itA K (a K) i)) = l at c ⊢
  cases hk : K.lookup (a K) with
  | none => rw [hk] at c; cases c
  | some o =>
    obtain ⟨oc, od, dt, sl⟩ := o
    rw [hk] at c
    cases oc with
    | type t =>
      cases dt with
      | seq its m =>
        obtain ⟨c1, c⟩ := ba c
        obtain ⟨c2, c3⟩ := ba c
        exact .inr ⟨_, its, m, hk, congrArg Value.type (of_decide_eq_true c1), rfl, of_decide_eq_true c2, He.relAll_ok c3⟩
      | _ => cases c
    | _ => cases dt <;> cases c
def foreB (C : Str) (t : String) : Fb := fun K => decO (PySem.W.kitOne K (.type t) (.ref (ga K C))) (some false) && PySem.W.notFirst K (ga K C) (.type t)
theorem fore_ok {K : PySem.W.Frag} {C : Str} {t : String} (c : foreB C t K = true) : PySem.W.kitOne K (.type t) (.ref (ga K C)) = some false ∧ PySem.W.notFirst K (ga K C) (.type t) = true := by
  obtain ⟨c1, c2⟩ := ba c
  exact ⟨decO_ok c1, c2⟩
def foreCB (C D : Str) : Fb := fun K => decO (PySem.W.kitOne K (.ref (ga K D)) (.ref (ga K C))) (some false) && PySem.W.notFirst K (ga K C) (.ref (ga K D))
theorem foreC_ok {K : PySem.W.Frag} {C D : Str} (c : foreCB C D K = true) : PySem.W.kitOne K (.ref (ga K D)) (.ref (ga K C)) = some false ∧ PySem.W.notFirst K (ga K C) (.ref (ga K D)) = true := by
  obtain ⟨c1, c2⟩ := ba c
  exact ⟨decO_ok c1, c2⟩
def fmtB (C : Str) : Fb := fun K => eqO (PySem.W.findIn K (.ref (ga K C)) "__format__") (some (some (.builtin "object.__format__"))) && decO (PySem.W.mroIn K (ga K C) (.type "object")) (some true)
theorem fmt_ok {K : PySem.W.Frag} {C : Str} (c : fmtB C K = true) : PySem.W.findIn K (.ref (ga K C)) "__format__" = some (some (.builtin "object.__format__")) ∧ PySem.W.mroIn K (ga K C) (.type "object") = some true := by
  obtain ⟨c1, c2⟩ := ba c
  exact ⟨eqO_ok c1, decO_ok c2⟩
def xcB (x : Str) (bm : List Value) (newId : String) : Fb := fun K => He.Fa.ok K (.glo x) && (PySem.W.excIn K (ga K x) bm newId && (PySem.W.keepIn K (.ref (ga K x)) && (decO (PySem.W.subIn K (.ref (ga K x)) (.type "BaseException")) (some true) && (decide (PySem.W.typeIn K (.ref (ga K x)) = some (.type "type")) && decO (PySem.W.exmOne K (.ref (ga K x)) (.ref (ga K x))) (some true)))))
theorem xc_ok {K : PySem.W.Frag} {h : Heap} {mg : Str → Option Value} (X : K.In h) (G : h.Ns mainGlobals mg) {x : Str} {bm : List Value} {newId : String} (c : xcB x bm newId K = true) : Xc K mg x bm newId := by
  obtain ⟨c1, c⟩ := ba c
  obtain ⟨c2, c⟩ := ba c
  obtain ⟨c3, c⟩ := ba c
  obtain ⟨c4, c⟩ := ba c
  obtain ⟨c5, c6⟩ := ba c
  exact ⟨He.glo_ok X G c1, c2, c3, decO_ok c4, of_decide_eq_true c5, decO_ok c6⟩
end Hd
namespace K01
open PySem PySem.Spec PyProof.Rows L2 Fr
def sp_lawW (K : PySem.W.Frag) : Sp := fun vs H Q _ => ∃ (a : Addr) (ns : List Int), vs = [.ref a] ∧ SqL K H a (ns.map V.int) ∧ ns.length ≤ 63 ∧ ∀ H', Q (.bl true) H'
abbrev sp_law (K : PySem.W.Frag) : Sp := sp_lawW K
theorem Prs.dp {K : PySem.W.Frag} {H : Hp} {xs : List V} {fs : List (Nat × Nat)} (r : Prs H xs fs) : DpAll K H xs (fs.map pr2) := by
  induction r with
  | nil => exact .nil
  | cons h _ ih => exact .cons (.tup (SqT.of h) (.cons (.int _) (.cons (.int _) .nil))) ih
theorem ex_fv {p : Addr} {H H1 H2 : Hp} (e : Ex0 H H1) (hp : H p = none) (f : Fv p H1 H2) : Ex0 H H2 := ⟨trivial, fun b o _ h => f.2 b o (fun z => by unfold Sv at z; rw [z, hp] at h; cases h) (Ex0.ap e h)⟩
theorem fund_one : fund 1 = true := by decide +kernel
theorem pr_two : Pr 2 := ⟨by decide, fun c h1 h2 => by have := Nat.mul_le_mul h1 h1; omega⟩
theorem fund_some : (((List.range 38).filter fun (j : Nat) => fund ((-24 : Int) + (j : Int))).map fun (j : Nat) => ((-24 : Int) + (j : Int))) = [-24, -23, -20, -19, -15, -11, -8, -7, -4, -3, 1, 5, 8, 12, 13] := by decide +kernel
section
variable {P : Program} {w : World} {K : PySem.W.Frag} {mg : Str → Option Value} {base : Heap}
theorem ok_l_factors_right (T : Txt K mg) : Def P w K mg base 6 "_law_factors_right" ["_law_vat_here"] (sp_l_factors_right K) := by
  obtain ⟨f_, fd_, g_, F_⟩ := T.d_l_factors_right
  obtain ⟨f_l_from, fd_l_from, g_l_from, k_l_from, b_l_from, G_l_from⟩ := (ok_l_from (P := P) (w := w) (base := base) T)
  obtain ⟨f_l_scoop, fd_l_scoop, g_l_scoop, k_l_scoop, b_l_scoop, G_l_scoop⟩ := (ok_l_scoop (P := P) (w := w) (base := base) T)
  obtain ⟨f_l_trial_factors, fd_l_trial_factors, g_l_trial_factors, k_l_trial_factors, b_l_trial_factors, G_l_trial_factors⟩ := (ok_l_trial_factors (P := P) (w := w) (base := base) T)
  obtain ⟨f_factored, fd_factored, g_factored, k_factored, b_factored, G_factored⟩ := (ok_factored (P := P) (w := w) (base := base) T)
  obtain ⟨f_is_prime, fd_is_prime, g_is_prime, k_is_prime, b_is_prime, G_is_prime⟩ := (ok_is_prime (P := P) (w := w) (base := base) T)
  refine ⟨f_, fd_, g_, F_.kp, F_.binds (ps := ["_law_vat_here"]) (fun _ _ _ _ _ _ us hl => match us, hl with | [_], _ => rfl), ?_⟩
  refine F_.ok sc_l_factors_right (fun vs H Q E h => ?_) (fun cdv A outer s H vs Q E hr h => ?_)
  · first | (obtain ⟨rfl, _⟩ := h; rfl) | (obtain ⟨_, rfl, _⟩ := h; rfl) | (obtain ⟨_, _, rfl, _⟩ := h; rfl) | (obtain ⟨_, _, _, rfl, _⟩ := h; rfl) | (obtain ⟨_, _, _, _, rfl, _⟩ := h; rfl) | (obtain ⟨_, _, _, _, _, rfl, _⟩ := h; rfl) | (obtain ⟨_, _, _, _, _, _, rfl, _⟩ := h; rfl) | (obtain ⟨_, _, _, _, _, _, _, rfl, _⟩ := h; rfl) | (obtain ⟨_, _, _, _, _, _, _, _, rfl, _⟩ := h; rfl) | (obtain ⟨_, _, _, _, _, _, _, _, _, rfl, _⟩ := h; rfl) | (obtain ⟨_, _, _, _, _, _, _, _, _, _, rfl, _⟩ := h; rfl) | (obtain ⟨_, _, _, _, _, _, _, _, _, _, _, rfl, _⟩ := h; rfl) | (obtain ⟨_, _, _, _, _, _, _, _, _, _, _, _, rfl, _⟩ := h; rfl) | (obtain ⟨_, _, _, _, _, _, _, _, _, _, _, _, _, rfl, _⟩ := h; rfl) | (obtain ⟨_, _, _, _, _, _, _, _, _, _, _, _, _, _, rfl, _⟩ := h; rfl) | (obtain ⟨_, _, _, _, _, _, _, _, _, _, _, _, _, _, _, rfl, _⟩ := h; rfl) | (obtain ⟨_, _, _, _, _, _, _, _, _, _, _, _, _, _, _, _, rfl, _⟩ := h; rfl) | (obtain ⟨_, _, _, _, _, _, _, _, _, _, _, _, _, _, _, _, _, rfl, _⟩ := h; rfl) | (obtain ⟨_, _, _, _, _, _, _, _, _, _, _, _, _, _, _, _, _, _, rfl, _⟩ := h; rfl) | (obtain ⟨_, _, _, _, _, _, _, _, _, _, _, _, _, _, _, _, _, _, _, rfl, _⟩ := h; rfl) | (obtain ⟨_, _, _, _, _, _, _, _, _, _, _, _, _, _, _, _, _, _, _, _, rfl, _⟩ := h; rfl) | (obtain ⟨_, _, _, _, _, _, _, _, _, _, _, _, _, _, _, _, _, _, _, _, _, rfl, _⟩ := h; rfl) | (obtain ⟨_, _, _, _, _, _, _, _, _, _, _, _, _, _, _, _, _, _, _, _, _, _, rfl, _⟩ := h; rfl) | (obtain ⟨_, _, _, _, _, _, _, _, _, _, _, _, _, _, _, _, _, _, _, _, _, _, _, rfl, _⟩ := h; rfl)
  · obtain ⟨c, rfl, hc, q⟩ := h
    refine ⟨_, (pss_cons (ps_set (i := 1) sc_l_factors_right.nd rfl (.inl rfl) pe_int)
    (pss_cons (ps_for PassesOwn.never rfl (pi_range1 (by rfl) T.b_range (pa_cons (pe_call G_l_scoop (hr.mono (by decide)) (by rfl) g_l_scoop k_l_scoop b_l_scoop .nil pass0 (pa_cons (pv 0) (pa_cons pe_int pa_nil))) pa_nil)) (pg_name (i := 2) sc_l_factors_right.nd rfl (.inl rfl))
      (pss_cons (ps_set (i := 3) sc_l_factors_right.nd rfl (.inl rfl) (pe_call G_l_from (hr.mono (by decide)) (by rfl) g_l_from k_l_from b_l_from .nil pass0 (pa_cons (pv 0) (pa_cons (pe_lst (pa_cons pe_int (pa_cons pe_int (pa_cons pe_int (pa_cons pe_int (pa_cons pe_int (pa_cons pe_int (pa_cons pe_int (pa_cons pe_int (pa_cons pe_int (pa_cons pe_int pa_nil))))))))))) pa_nil))))
    (pss_one (ps_set (i := 1) sc_l_factors_right.nd rfl (.inl rfl) (pe_ifExp (pt_cmpR op_le (pe_op op_mul (pv 1) (pv 3)) (pe_op op_pow pe_int pe_int) (nomark _)) (pe_op op_mul (pv 1) (pv 3)) (pv 1))))))
    (Evl.pss_cut (ps_set (i := 4) sc_l_factors_right.nd rfl (.inl rfl) (pe_op op_add pe_int (pe_call G_l_scoop (hr.mono (by decide)) (by rfl) g_l_scoop k_l_scoop b_l_scoop .nil pass0 (pa_cons (pv 0) (pa_cons (pe_call G_l_from (hr.mono (by decide)) (by rfl) g_l_from k_l_from b_l_from .nil pass0 (pa_cons (pv 0) (pa_cons (pe_lst (pa_cons pe_int (pa_cons (pe_op op_pow pe_int pe_int) (pa_cons (pe_op op_pow pe_int pe_int) pa_nil)))) pa_nil))) pa_nil)))))
    (pss_cons (ps_for PassesOwn.never rfl (pi_tup (pe_tup (pa_cons (pv 1) (pa_cons (pv 4) pa_nil)))) (pg_name (i := 5) sc_l_factors_right.nd rfl (.inl rfl))
      (pss_cons (ps_set (i := 6) sc_l_factors_right.nd rfl (.inl rfl) (pe_call G_factored (hr.mono (by decide)) (by rfl) g_factored k_factored b_factored .nil pass0 (pa_cons (pv 5) pa_nil)))
    (pss_cons (ps_if (pt_cmpR (op_neD hr.units) (pv 6) (pe_callTy call_tuple_of (by rfl) T.b_tuple (by decide +kernel) (pa_cons (pe_call G_l_trial_factors (hr.mono (by decide)) (by rfl) g_l_trial_factors k_l_trial_factors b_l_trial_factors .nil pass0 (pa_cons (pv 5) pa_nil)) pa_nil)) (nomark _))
      (pss_one (ps_ret pe_bl))
      pss_nil)
    (pss_one (ps_if (PW.pt (pw_and (pt_cmpR op_le (pv 5) (pe_op op_pow pe_int pe_int) (nomark _)) (pw_and1 (pt_cmpR op_ne (pe_call G_is_prime (hr.mono (by decide)) (by rfl) g_is_prime k_is_prime b_is_prime .nil pass0 (pa_cons (pv 5) pa_nil)) (pe_cmpR (op_eqD hr.units) (pv 6) (pe_tup (pa_cons (pe_tup (pa_cons (pv 5) (pa_cons pe_int pa_nil))) pa_nil)) (nomark _)) (nomark _)))))
      (pss_one (ps_ret pe_bl))
      pss_nil)))))
    (pss_one (ps_ret pe_bl)))))), ?_⟩
    refine ⟨_, rfl, c, 7, rfl, hc, by decide, by decide, fun r H1 r0 r1 e1 => ⟨_, rfl, by omega, by omega, ?_⟩⟩
    refine for_range (lo := 0) (n := r.toNat) (fun i σ H' => ∃ (m : Nat) (y2 y3 : Option V), σ = [some (.ref c), some (.int (m : Int)), y2, y3, none, none, none] ∧ Fv c H H' ∧ 1 ≤ m ∧ m ≤ 10000000) ⟨1, none, none, rfl, e1, by decide, by decide⟩ ?_ ?_
    · rintro i σ H' hi ⟨m, y2, y3, rfl, e2, m1, m2⟩
      refine ⟨_, rfl, slN (by decide), fun l nl => ?_⟩
      refine ⟨c, l, [.int 2, .int 2, .int 3, .int 3, .int 5, .int 7, .int 11, .int 97, .int 101, .int 997], rfl, vat_new e2.1 nl, upd_same, fv_ne e2.1 nl, by simp, by decide, fun v H3 hv e3 => ?_⟩
      obtain ⟨f, rfl, f1, f2⟩ := in_b (lo := 2) (hi := 997) hv (by decide)
      obtain ⟨ff, rfl⟩ : ∃ ff : Nat, f = (ff : Int) := ⟨f.toNat, by omega⟩
      have e4 : Fv c H H3 := (e2.trans (fv_new e2.1 nl)).trans e3
      have mc : (m : Int) * (ff : Int) = ((m * ff : Nat) : Int) := (Int.natCast_mul m ff).symm
      refine ⟨_, rfl, _, rfl, _, _, rfl, rfl, .inl ⟨by omega, by omega⟩, _, _, rfl, rfl, ⟨by decide, by decide, by decide⟩, _, _, rfl, rfl, _, rfl, iteD (fun g => ?_) (fun g => ?_)⟩
      · refine ⟨_, rfl, _, rfl, _, _, rfl, rfl, .inl ⟨by omega, by omega⟩, ?_⟩
        refine ⟨m * ff, some (.int (0 + (i : Int))), some (.int (ff : Int)), ?_, e4, Nat.le_trans m1 (Nat.le_mul_of_pos_right _ (by omega)), ?_⟩
        · rw [← mc]
          rfl
        · have g2 : (m : Int) * (ff : Int) ≤ 10000000 := Int.le_trans g (by decide)
          omega
      · exact ⟨_, rfl, m, _, _, rfl, e4, m1, m2⟩
    · rintro σ H' ⟨m, y2, y3, rfl, e2, m1, m2⟩
      refine ⟨fun σ H' => ∃ (o : Nat), σ = [some (.ref c), some (.int (m : Int)), y2, y3, some (.int (o : Int)), none, none] ∧ Fv c H H' ∧ 1 ≤ o ∧ o ≤ 100000000, ?_, ?_⟩
      · refine ⟨_, rfl, _, rfl, _, _, rfl, rfl, ⟨by decide, by decide, by decide⟩, _, _, rfl, rfl, ⟨by decide, by decide, by decide⟩, slN (by decide), fun l nl => ?_⟩
        refine ⟨c, l, [.int 30, .int 10000, .int 100000000], rfl, vat_new e2.1 nl, upd_same, fv_ne e2.1 nl, by simp, by decide, fun v H3 hv e3 => ?_⟩
        obtain ⟨f, rfl, f1, f2⟩ := in_b (lo := 30) (hi := 100000000) hv (by decide)
        have e4 : Fv c H H3 := (e2.trans (fv_new e2.1 nl)).trans e3
        refine ⟨c, f, rfl, e4.1, by omega, by omega, fun z H4 z0 z1 e5 => ⟨_, _, rfl, rfl, ?_⟩⟩
        refine ⟨(1 + z).toNat, ?_, e4.trans e5, by omega, by omega⟩
        rw [Int.toNat_of_nonneg (by omega)]
        rfl
      rintro σ H' ⟨o, rfl, e3, o1, o2⟩
      refine ⟨_, rfl, _, rfl, sl2, fun t nt => ?_⟩
      have e4 : Fv c H (upd H' t (.tup [.int (m : Int), .int (o : Int)])) := e3.trans (fv_new e3.1 nt)
      have tc : t ≠ c := fv_ne e3.1 nt
      refine ⟨t, rfl, ⟨_, SqT.of upd_same⟩, for_tup (xs := [.int (m : Int), .int (o : Int)]) (fun i σ H'' => (∃ y5 y6, σ = [some (.ref c), some (.int (m : Int)), y2, y3, some (.int (o : Int)), y5, y6]) ∧ Fv c H H'' ∧ H'' t = some (.tup [.int (m : Int), .int (o : Int)])) ⟨⟨none, none, rfl⟩, e4, upd_same⟩ (fun i σ H'' _ ⟨_, _, z⟩ => SqT.of z) ?_ ?_⟩
      · rintro i x σ H'' hx ⟨⟨y5, y6, rfl⟩, e5, ht⟩
        obtain ⟨n, rfl, n1, n2⟩ : ∃ n : Nat, x = V.int (n : Int) ∧ 1 ≤ n ∧ n ≤ 100000000 := by
          match i, hx with
          | 0, h => exact ⟨m, (Option.some.inj h).symm, m1, by omega⟩
          | 1, h => exact ⟨o, (Option.some.inj h).symm, o1, o2⟩
        refine ⟨_, rfl, n, rfl, n1, .inl n2, fun p H6 e6 ⟨xs, hp, hP⟩ => ?_⟩
        refine ⟨_, rfl, _, rfl, n, rfl, n1, by omega, fun l H7 ys e7 hl hL => ?_⟩
        refine ⟨l, ys, rfl, .inl ⟨SqL.of hl, fun u nu => ?_⟩⟩
        have e8 : Ex0 H7 (upd H7 u (.tup ys)) := Ex0.new nu
        have hp8 := Ex0.ap e8 (Ex0.ap e7 hp)
        refine ⟨.tuple ((fac n).map pr2), .tuple ((fac n).map pr2), .tup (SqT.of hp8) (hP.mono fun a b z => Ex0.ap e8 (Ex0.ap e7 z)).dp, .tup (SqT.of upd_same) (hL.mono fun a b z => Ex0.ap e8 z).dp, shaped_prs _, shaped_prs _, _, rfl, ?_⟩
        rw [PyData.eqv, eqv_prs]
        refine ndF rfl ?_
        have e68 : Ex0 H'' (upd H7 u (.tup ys)) := (e6.trans e7).trans e8
        have e58 : Fv c H (upd H7 u (.tup ys)) := e5.trans (fv_ex e5.1 e68)
        have ht8 := Ex0.ap e68 ht
        refine ⟨_, rfl, _, _, rfl, rfl, ⟨by decide, by decide, by decide⟩, _, _, rfl, rfl, _, rfl, iteD (fun g => ?_) (fun g => ?_)⟩
        · have g2 : (n : Int) ≤ 1000000 := Int.le_trans g (by decide)
          have fin : ∀ b : Bool, (b = true ↔ Pr n) → ∀ (σ : L2.St), True := fun _ _ _ => trivial
          refine ⟨_, rfl, n, rfl, by omega, fun hpr => ?_, fun hpr => ?_⟩
          · refine ⟨_, rfl, _, rfl, sl2, fun t1 nt1 => ⟨sl1, fun t2 nt2 => ?_⟩⟩
            have e9 : Ex0 (upd H7 u (.tup ys)) (upd (upd (upd H7 u (.tup ys)) t1 (.tup [.int (n : Int), .int 1])) t2 (.tup [.ref t1])) := (Ex0.new nt1).trans (Ex0.new nt2)
            have h1 : (upd (upd (upd H7 u (.tup ys)) t1 (.tup [.int (n : Int), .int 1])) t2 (.tup [.ref t1])) t1 = some (.tup [.int (n : Int), .int 1]) := Ex0.ap (Ex0.new nt2) upd_same
            refine ⟨.tuple ((fac n).map pr2), .tuple ([(n, 1)].map pr2), .tup (SqT.of (Ex0.ap e9 hp8)) (hP.mono fun a b z => Ex0.ap e9 (Ex0.ap e8 (Ex0.ap e7 z))).dp, .tup (SqT.of upd_same) (.cons (.tup (SqT.of h1) (.cons (.int _) (.cons (.int _) .nil))) .nil), shaped_prs _, shaped_prs _, rfl, _, rfl, ?_⟩
            rw [PyData.eqv, eqv_prs, decide_eq_true ((fac_pr n1).mpr hpr)]
            refine ndF rfl ?_
            exact ⟨⟨_, _, rfl⟩, e58.trans (fv_ex e58.1 e9), Ex0.ap e9 ht8⟩
          · refine ⟨_, rfl, _, rfl, sl2, fun t1 nt1 => ⟨sl1, fun t2 nt2 => ?_⟩⟩
            have e9 : Ex0 (upd H7 u (.tup ys)) (upd (upd (upd H7 u (.tup ys)) t1 (.tup [.int (n : Int), .int 1])) t2 (.tup [.ref t1])) := (Ex0.new nt1).trans (Ex0.new nt2)
            have h1 : (upd (upd (upd H7 u (.tup ys)) t1 (.tup [.int (n : Int), .int 1])) t2 (.tup [.ref t1])) t1 = some (.tup [.int (n : Int), .int 1]) := Ex0.ap (Ex0.new nt2) upd_same
            refine ⟨.tuple ((fac n).map pr2), .tuple ([(n, 1)].map pr2), .tup (SqT.of (Ex0.ap e9 hp8)) (hP.mono fun a b z => Ex0.ap e9 (Ex0.ap e8 (Ex0.ap e7 z))).dp, .tup (SqT.of upd_same) (.cons (.tup (SqT.of h1) (.cons (.int _) (.cons (.int _) .nil))) .nil), shaped_prs _, shaped_prs _, rfl, _, rfl, ?_⟩
            rw [PyData.eqv, eqv_prs, decide_eq_false (fun z => hpr ((fac_pr n1).mp z))]
            refine ndF rfl ?_
            exact ⟨⟨_, _, rfl⟩, e58.trans (fv_ex e58.1 e9), Ex0.ap e9 ht8⟩
        · exact ⟨⟨_, _, rfl⟩, e58, ht8⟩
      · rintro σ H'' ⟨_, e5, _⟩
        exact q H'' e5
theorem ok_l_basic_right (T : Txt K mg) : Def P w K mg base 6 "_law_basic_right" ["_law_vat_here"] (sp_l_basic_right K) := by
  obtain ⟨f_, fd_, g_, F_⟩ := T.d_l_basic_right
  obtain ⟨f_l_is_basic, fd_l_is_basic, g_l_is_basic, k_l_is_basic, b_l_is_basic, G_l_is_basic⟩ := (ok_l_is_basic (P := P) (w := w) (base := base) T)
  obtain ⟨f_l_size, fd_l_size, g_l_size, k_l_size, b_l_size, G_l_size⟩ := (ok_l_size (P := P) (w := w) (base := base) T)
  obtain ⟨f_is_fundamental, fd_is_fundamental, g_is_fundamental, k_is_fundamental, b_is_fundamental, G_is_fundamental⟩ := (ok_is_fundamental (P := P) (w := w) (base := base) T)
  refine ⟨f_, fd_, g_, F_.kp, F_.binds (ps := ["_law_vat_here"]) (fun _ _ _ _ _ _ us hl => match us, hl with | [_], _ => rfl), ?_⟩
  refine F_.ok sc_l_basic_right (fun vs H Q E h => ?_) (fun cdv A outer s H vs Q E hr h => ?_)
  · first | (obtain ⟨rfl, _⟩ := h; rfl) | (obtain ⟨_, rfl, _⟩ := h; rfl) | (obtain ⟨_, _, rfl, _⟩ := h; rfl) | (obtain ⟨_, _, _, rfl, _⟩ := h; rfl) | (obtain ⟨_, _, _, _, rfl, _⟩ := h; rfl) | (obtain ⟨_, _, _, _, _, rfl, _⟩ := h; rfl) | (obtain ⟨_, _, _, _, _, _, rfl, _⟩ := h; rfl) | (obtain ⟨_, _, _, _, _, _, _, rfl, _⟩ := h; rfl) | (obtain ⟨_, _, _, _, _, _, _, _, rfl, _⟩ := h; rfl) | (obtain ⟨_, _, _, _, _, _, _, _, _, rfl, _⟩ := h; rfl) | (obtain ⟨_, _, _, _, _, _, _, _, _, _, rfl, _⟩ := h; rfl) | (obtain ⟨_, _, _, _, _, _, _, _, _, _, _, rfl, _⟩ := h; rfl) | (obtain ⟨_, _, _, _, _, _, _, _, _, _, _, _, rfl, _⟩ := h; rfl) | (obtain ⟨_, _, _, _, _, _, _, _, _, _, _, _, _, rfl, _⟩ := h; rfl) | (obtain ⟨_, _, _, _, _, _, _, _, _, _, _, _, _, _, rfl, _⟩ := h; rfl) | (obtain ⟨_, _, _, _, _, _, _, _, _, _, _, _, _, _, _, rfl, _⟩ := h; rfl) | (obtain ⟨_, _, _, _, _, _, _, _, _, _, _, _, _, _, _, _, rfl, _⟩ := h; rfl) | (obtain ⟨_, _, _, _, _, _, _, _, _, _, _, _, _, _, _, _, _, rfl, _⟩ := h; rfl) | (obtain ⟨_, _, _, _, _, _, _, _, _, _, _, _, _, _, _, _, _, _, rfl, _⟩ := h; rfl) | (obtain ⟨_, _, _, _, _, _, _, _, _, _, _, _, _, _, _, _, _, _, _, rfl, _⟩ := h; rfl) | (obtain ⟨_, _, _, _, _, _, _, _, _, _, _, _, _, _, _, _, _, _, _, _, rfl, _⟩ := h; rfl) | (obtain ⟨_, _, _, _, _, _, _, _, _, _, _, _, _, _, _, _, _, _, _, _, _, rfl, _⟩ := h; rfl) | (obtain ⟨_, _, _, _, _, _, _, _, _, _, _, _, _, _, _, _, _, _, _, _, _, _, rfl, _⟩ := h; rfl) | (obtain ⟨_, _, _, _, _, _, _, _, _, _, _, _, _, _, _, _, _, _, _, _, _, _, _, rfl, _⟩ := h; rfl)
  · obtain ⟨c, rfl, hc, q⟩ := h
    refine ⟨_, (pss_cons (ps_setLc (i := 1) (own := [("_law_turn", 2)]) (g := (gName 2)) rfl sc_l_basic_right.nd rfl rfl (sw_true rfl rfl rfl (by decide +kernel)) (pi_range1 (by rfl) T.b_range (pa_cons pe_int pa_nil)) (blkOk_by (N := N_l_basic_right) (sc := defScope s_l_basic_right) (by decide +kernel)) (fun _ _ _ _ _ => (pg_name (i := 2) sc_l_basic_right.nd rfl (.inl rfl))) (fun _ _ _ _ _ => pts_nil) (fun _ _ _ _ _ => (pe_call G_l_size (hr.mono (by decide)) (by rfl) g_l_size k_l_size b_l_size .nil pass0 (pa_cons (pv 0) (pa_cons pe_int pa_nil)))))
    (pss_cons (ps_expr (pe_bm PySem.F.plainAttrs_list PySem.F.slot_list_append PySem.F.type_list_append mt_append (pv 1) (pa_cons (pe_op op_mul pe_int (pe_call G_l_size (hr.mono (by decide)) (by rfl) g_l_size k_l_size b_l_size .nil pass0 (pa_cons (pv 0) (pa_cons (pe_op op_pow pe_int pe_int) pa_nil)))) pa_nil)))
    (pss_cons (ps_expr (pe_bm PySem.F.plainAttrs_list PySem.F.slot_list_append PySem.F.type_list_append mt_append (pv 1) (pa_cons (pe_op op_add (pe_op op_mul pe_int (pe_call G_l_size (hr.mono (by decide)) (by rfl) g_l_size k_l_size b_l_size .nil pass0 (pa_cons (pv 0) (pa_cons (pe_op op_pow pe_int pe_int) pa_nil)))) pe_int) pa_nil)))
    (pss_cons (ps_expr (pe_bm PySem.F.plainAttrs_list PySem.F.slot_list_append PySem.F.type_list_append mt_append (pv 1) (pa_cons (pe_op op_mul pe_int (pe_op op_add (pe_op op_mul pe_int (pe_call G_l_size (hr.mono (by decide)) (by rfl) g_l_size k_l_size b_l_size .nil pass0 (pa_cons (pv 0) (pa_cons pe_int pa_nil)))) pe_int)) pa_nil)))
    (pss_one (ps_ret (pe_cmpR (op_eqD hr.units) (pe_lc (own := [("_law_number", 3)]) (g := (gName 3)) rfl sc_l_basic_right.nd (pi_list (pv 1)) (blkOk_by (N := N_l_basic_right) (sc := defScope s_l_basic_right) (by decide +kernel)) (fun _ _ _ _ _ => (pg_name (i := 3) sc_l_basic_right.nd rfl (.inl rfl))) (fun _ _ _ _ _ => (pts_one (pt_cmpR op_ne (pe_call G_is_fundamental (hr.mono (by decide)) (by rfl) g_is_fundamental k_is_fundamental b_is_fundamental .nil pass0 (pa_cons (pv 3) pa_nil)) (pe_call G_l_is_basic (hr.mono (by decide)) (by rfl) g_l_is_basic k_l_is_basic b_l_is_basic .nil pass0 (pa_cons (pv 3) pa_nil)) (nomark _)))) (fun _ _ _ _ _ => (pv 3))) (pe_lst pa_nil) (nomark _)))))))), ?_⟩
    have ok : ∀ n : Int, n.natAbs ≤ 1000000000 → n.natAbs ≤ 1000000000 := fun _ h => h
    refine ⟨_, rfl, by decide, by decide, ?_⟩
    refine lcR (fmV c) hc (fun i acc _ => ∃ ns : List Int, acc = ns.map V.int ∧ ns.length = i ∧ ∀ n ∈ ns, n.natAbs ≤ 1000000000) (fun _ _ => ⟨[], rfl, rfl, fun _ h => by cases h⟩) (fun D i acc H3 hD hi e3 hA hlen hp => ?_) (fun D H3 acc hD e3 hA hp => ?_)
    · obtain ⟨ns, rfl, hln, hns⟩ := hp
      refine ⟨rfl, ?_⟩
      refine ⟨_, rfl, c, 60, rfl, e3.1, by decide, by decide, fun z H4 z0 z1 e4 => ?_⟩
      refine cs_yes (fmV c) hc hD e3 hA hlen (by omega) e4 ⟨ns ++ [z], by rw [List.map_append]; rfl, by rw [List.length_append, hln]; rfl, fun n hn => ?_⟩
      rcases List.mem_append.mp hn with h | h
      · exact hns n h
      · have : n = z := by simpa using h
        rw [this]
        omega
    · obtain ⟨ns, rfl, hln, hns⟩ := hp
      have hl6 : ns.length = 6 := hln
      have Dc : D ≠ c := fv_ne hc hD
      refine ⟨_, rfl, .inl ⟨rfl, _, SqL.of hA⟩, _, rfl, _, _, rfl, rfl, ⟨by decide, by decide, by decide⟩, c, 10000, rfl, e3.1, by decide, by decide, fun z1 H4 a1 b1 e4 => ⟨_, _, rfl, rfl, .inl ⟨by decide, by decide⟩, ?_⟩⟩
      have hA4 : H4 D = some (.lst (ns.map V.int)) := e4.2 _ _ Dc hA
      refine ⟨D, _, _, rfl, rfl, hA4, Nat.lt_of_le_of_lt (by rw [List.length_map]; omega : _ ≤ 6) (by decide), ?_⟩
      have e5 : Fv c H (upd H4 D (.lst (ns.map V.int ++ [V.int (4 * z1)]))) := Fx.mut (fmV c) (e3.trans e4) hc hD
      refine ⟨_, rfl, .inl ⟨rfl, _, SqL.of upd_same⟩, _, rfl, _, _, rfl, rfl, ⟨by decide, by decide, by decide⟩, c, 100000, rfl, e5.1, by decide, by decide, fun z2 H6 a2 b2 e6 => ⟨_, _, rfl, rfl, .inl ⟨by decide, by decide⟩, _, _, rfl, rfl, ?_⟩⟩
      have hA6 : H6 D = some (.lst (ns.map V.int ++ [V.int (4 * z1)])) := e6.2 _ _ Dc upd_same
      refine ⟨D, _, _, rfl, rfl, hA6, Nat.lt_of_le_of_lt (by rw [List.length_append, List.length_map]; show ns.length + 1 ≤ 7; omega : _ ≤ 7) (by decide), ?_⟩
      have e7 : Fv c H (upd H6 D (.lst (ns.map V.int ++ [V.int (4 * z1)] ++ [V.int (4 * z2 + 1)]))) := Fx.mut (fmV c) (e5.trans e6) hc hD
      refine ⟨_, rfl, .inl ⟨rfl, _, SqL.of upd_same⟩, _, rfl, c, 1000, rfl, e7.1, by decide, by decide, fun z3 H8 a3 b3 e8 => ⟨_, _, rfl, rfl, .inl ⟨by decide, by decide⟩, _, _, rfl, rfl, _, _, rfl, rfl, .inl ⟨by decide, by decide⟩, ?_⟩⟩
      have hA8 : H8 D = some (.lst (ns.map V.int ++ [V.int (4 * z1)] ++ [V.int (4 * z2 + 1)])) := e8.2 _ _ Dc upd_same
      refine ⟨D, _, _, rfl, rfl, hA8, Nat.lt_of_le_of_lt (by rw [List.length_append, List.length_append, List.length_map]; show ns.length + 1 + 1 ≤ 8; omega : _ ≤ 8) (by decide), ?_⟩
      have e9 : Fv c H (upd H8 D (.lst (ns.map V.int ++ [V.int (4 * z1)] ++ [V.int (4 * z2 + 1)] ++ [V.int (8 * (2 * z3 + 1))]))) := Fx.mut (fmV c) (e7.trans e8) hc hD
      refine ⟨_, rfl, D, rfl, ⟨_, SqL.of upd_same⟩, ?_⟩
      have all : ∀ (x : V), x ∈ ns.map V.int ++ [V.int (4 * z1)] ++ [V.int (4 * z2 + 1)] ++ [V.int (8 * (2 * z3 + 1))] → ∃ n : Int, x = V.int n ∧ n.natAbs ≤ 1000000000 := fun x hx => by
        simp only [List.mem_append, List.mem_map, List.mem_singleton] at hx
        rcases hx with ((⟨n, hn, rfl⟩ | rfl) | rfl) | rfl
        · exact ⟨n, rfl, hns n hn⟩
        · exact ⟨_, rfl, by omega⟩
        · exact ⟨_, rfl, by omega⟩
        · exact ⟨_, rfl, by omega⟩
      refine lcL fm0 trivial (SqL.of upd_same) (fun z => z) (fun i acc _ => acc = []) (fun _ _ => rfl) (fun E2 i x acc H10 hE hx e10 hA10 hlen10 hp10 => ?_) (fun E2 H10 acc hE e10 hA10 hp10 => ?_)
      · obtain ⟨n, rfl, hn⟩ := all x (List.mem_of_getElem? hx)
        refine ⟨rfl, ?_⟩
        refine ⟨_, rfl, n, rfl, hn, fun H11 e11 => ⟨_, rfl, n, rfl, hn, fun H12 e12 => ⟨rfl, _, rfl, ?_⟩⟩⟩
        refine ndF rfl ?_
        exact cs_no fm0 trivial hE e10 hA10 hlen10 (e11.trans e12) hp10
      · subst hp10
        refine ⟨Nat.zero_le _, fun u nu => ?_⟩
        have hEu : E2 ≠ u := ne_of_none hA10 nu
        refine ⟨.list (([] : List Int).map .int), .list (([] : List Int).map .int), .lst (SqL.of (by rw [upd_ne hEu]; exact hA10)) .nil, .lst (SqL.of upd_same) .nil, shaped_ints [], shaped_ints [], ?_⟩
        exact q _ (e9.trans (fv_ex e9.1 (e10.trans (Ex0.new nu))))
theorem ok_law0 (T : Txt K mg) {f_ : Addr} {fd_ : FuncData} (F_ : Fun K "law" "law" s_law f_ fd_) : FnOk P w K mg base CX0 7 f_ fd_ ["_law_script"] (sp_law K) := by
  obtain ⟨f_l_basic_right, fd_l_basic_right, g_l_basic_right, k_l_basic_right, b_l_basic_right, G_l_basic_right⟩ := (ok_l_basic_right (P := P) (w := w) (base := base) T)
  obtain ⟨f_l_divisors_right, fd_l_divisors_right, g_l_divisors_right, k_l_divisors_right, b_l_divisors_right, G_l_divisors_right⟩ := (ok_l_divisors_right (P := P) (w := w) (base := base) T)
  obtain ⟨f_l_factors_right, fd_l_factors_right, g_l_factors_right, k_l_factors_right, b_l_factors_right, G_l_factors_right⟩ := (ok_l_factors_right (P := P) (w := w) (base := base) T)
  obtain ⟨f_l_roots_right, fd_l_roots_right, g_l_roots_right, k_l_roots_right, b_l_roots_right, G_l_roots_right⟩ := (ok_l_roots_right (P := P) (w := w) (base := base) T)
  obtain ⟨f_l_vat, fd_l_vat, g_l_vat, k_l_vat, b_l_vat, G_l_vat⟩ := (ok_l_vat (P := P) (w := w) (base := base) T)
  obtain ⟨f_common_divisor, fd_common_divisor, g_common_divisor, k_common_divisor, b_common_divisor, G_common_divisor⟩ := (ok_common_divisor (P := P) (w := w) (base := base) T)
  obtain ⟨f_factored, fd_factored, g_factored, k_factored, b_factored, G_factored⟩ := (ok_factored (P := P) (w := w) (base := base) T)
  obtain ⟨f_is_fundamental, fd_is_fundamental, g_is_fundamental, k_is_fundamental, b_is_fundamental, G_is_fundamental⟩ := (ok_is_fundamental (P := P) (w := w) (base := base) T)
  obtain ⟨f_is_prime, fd_is_prime, g_is_prime, k_is_prime, b_is_prime, G_is_prime⟩ := (ok_is_prime (P := P) (w := w) (base := base) T)
  refine F_.ok sc_law (fun vs H Q E h => ?_) (fun cdv A outer s H vs Q E hr h => ?_)
  · first | (obtain ⟨rfl, _⟩ := h; rfl) | (obtain ⟨_, rfl, _⟩ := h; rfl) | (obtain ⟨_, _, rfl, _⟩ := h; rfl) | (obtain ⟨_, _, _, rfl, _⟩ := h; rfl) | (obtain ⟨_, _, _, _, rfl, _⟩ := h; rfl) | (obtain ⟨_, _, _, _, _, rfl, _⟩ := h; rfl) | (obtain ⟨_, _, _, _, _, _, rfl, _⟩ := h; rfl) | (obtain ⟨_, _, _, _, _, _, _, rfl, _⟩ := h; rfl) | (obtain ⟨_, _, _, _, _, _, _, _, rfl, _⟩ := h; rfl) | (obtain ⟨_, _, _, _, _, _, _, _, _, rfl, _⟩ := h; rfl) | (obtain ⟨_, _, _, _, _, _, _, _, _, _, rfl, _⟩ := h; rfl) | (obtain ⟨_, _, _, _, _, _, _, _, _, _, _, rfl, _⟩ := h; rfl) | (obtain ⟨_, _, _, _, _, _, _, _, _, _, _, _, rfl, _⟩ := h; rfl) | (obtain ⟨_, _, _, _, _, _, _, _, _, _, _, _, _, rfl, _⟩ := h; rfl) | (obtain ⟨_, _, _, _, _, _, _, _, _, _, _, _, _, _, rfl, _⟩ := h; rfl) | (obtain ⟨_, _, _, _, _, _, _, _, _, _, _, _, _, _, _, rfl, _⟩ := h; rfl) | (obtain ⟨_, _, _, _, _, _, _, _, _, _, _, _, _, _, _, _, rfl, _⟩ := h; rfl) | (obtain ⟨_, _, _, _, _, _, _, _, _, _, _, _, _, _, _, _, _, rfl, _⟩ := h; rfl) | (obtain ⟨_, _, _, _, _, _, _, _, _, _, _, _, _, _, _, _, _, _, rfl, _⟩ := h; rfl) | (obtain ⟨_, _, _, _, _, _, _, _, _, _, _, _, _, _, _, _, _, _, _, rfl, _⟩ := h; rfl) | (obtain ⟨_, _, _, _, _, _, _, _, _, _, _, _, _, _, _, _, _, _, _, _, rfl, _⟩ := h; rfl) | (obtain ⟨_, _, _, _, _, _, _, _, _, _, _, _, _, _, _, _, _, _, _, _, _, rfl, _⟩ := h; rfl) | (obtain ⟨_, _, _, _, _, _, _, _, _, _, _, _, _, _, _, _, _, _, _, _, _, _, rfl, _⟩ := h; rfl) | (obtain ⟨_, _, _, _, _, _, _, _, _, _, _, _, _, _, _, _, _, _, _, _, _, _, _, rfl, _⟩ := h; rfl)
  · obtain ⟨a, ns, rfl, hS, hn, q⟩ := h
    refine ⟨_, (pss_cons (ps_for PassesOwn.never rfl (pi_range1 (by rfl) T.b_range (pa_cons (pe_callB (call_max2 rfl) (by rfl) T.b_max (by decide +kernel) (pa_cons pe_int (pa_cons (pe_callB (call_min2 rfl) (by rfl) T.b_min (by decide +kernel) (pa_cons pe_int (pa_cons (pe_callB call_len_seq (by rfl) T.b_len PySem.boot_len (pa_cons (pv 0) pa_nil)) pa_nil))) pa_nil))) pa_nil)) (pg_name (i := 1) sc_law.nd rfl (.inl rfl))
      (pss_cons (ps_set (i := 2) sc_law.nd rfl (.inl rfl) (pe_call G_l_vat (hr.mono (by decide)) (by rfl) g_l_vat k_l_vat b_l_vat .nil pass0 (pa_cons (pv 0) (pa_cons (pv 1) pa_nil))))
    (pss_cons (ps_for PassesOwn.never rfl (pi_range1 (by rfl) T.b_range (pa_cons pe_int pa_nil)) (pg_name (i := 3) sc_law.nd rfl (.inl rfl))
      (pss_one (ps_if (PW.pt (pw_or (pt_not (pt_val (pe_call G_l_divisors_right (hr.mono (by decide)) (by rfl) g_l_divisors_right k_l_divisors_right b_l_divisors_right .nil pass0 (pa_cons (pv 2) pa_nil)))) (pw_or (pt_not (pt_val (pe_call G_l_roots_right (hr.mono (by decide)) (by rfl) g_l_roots_right k_l_roots_right b_l_roots_right .nil pass0 (pa_cons (pv 2) pa_nil)))) (pw_or1 (pt_not (pt_val (pe_call G_l_basic_right (hr.mono (by decide)) (by rfl) g_l_basic_right k_l_basic_right b_l_basic_right .nil pass0 (pa_cons (pv 2) pa_nil))))))))
      (pss_one (ps_ret pe_bl))
      pss_nil)))
    (pss_one (ps_if (pt_not (pt_val (pe_call G_l_factors_right (hr.mono (by decide)) (by rfl) g_l_factors_right k_l_factors_right b_l_factors_right .nil pass0 (pa_cons (pv 2) pa_nil))))
      (pss_one (ps_ret pe_bl))
      pss_nil)))))
    (pss_cons (ps_set (i := 4) sc_law.nd rfl (.inl rfl) (pe_lst (pa_cons (pe_call G_is_prime (hr.mono (by decide)) (by rfl) g_is_prime k_is_prime b_is_prime .nil pass0 (pa_cons pe_int pa_nil)) (pa_cons (pe_call G_is_prime (hr.mono (by decide)) (by rfl) g_is_prime k_is_prime b_is_prime .nil pass0 (pa_cons pe_int pa_nil)) (pa_cons (pe_call G_is_prime (hr.mono (by decide)) (by rfl) g_is_prime k_is_prime b_is_prime .nil pass0 (pa_cons pe_int pa_nil)) (pa_cons (pe_call G_is_prime (hr.mono (by decide)) (by rfl) g_is_prime k_is_prime b_is_prime .nil pass0 (pa_cons pe_int pa_nil)) (pa_cons (pe_call G_is_prime (hr.mono (by decide)) (by rfl) g_is_prime k_is_prime b_is_prime .nil pass0 (pa_cons (pe_op op_mul pe_int pe_int) pa_nil)) (pa_cons (pe_call G_is_fundamental (hr.mono (by decide)) (by rfl) g_is_fundamental k_is_fundamental b_is_fundamental .nil pass0 (pa_cons pe_int pa_nil)) (pa_cons (pe_call G_is_fundamental (hr.mono (by decide)) (by rfl) g_is_fundamental k_is_fundamental b_is_fundamental .nil pass0 (pa_cons pe_int pa_nil)) pa_nil)))))))))
    (pss_cons (ps_if (PW.pt (pw_or (pt_cmpR (op_neD hr.units) (pv 4) (pe_lst (pa_cons pe_bl (pa_cons pe_bl (pa_cons pe_bl (pa_cons pe_bl (pa_cons pe_bl (pa_cons pe_bl (pa_cons pe_bl pa_nil)))))))) (nomark _)) (pw_or1 (pt_cmpR (op_neD hr.units) (pe_call G_factored (hr.mono (by decide)) (by rfl) g_factored k_factored b_factored .nil pass0 (pa_cons (pe_op op_mul pe_int pe_int) pa_nil)) (pe_tup (pa_cons (pe_tup (pa_cons pe_int (pa_cons pe_int pa_nil))) (pa_cons (pe_tup (pa_cons pe_int (pa_cons pe_int pa_nil))) pa_nil))) (nomark _)))))
      (pss_one (ps_ret pe_bl))
      pss_nil)
    (pss_cons (ps_setLc (i := 5) (own := [("_law_number", 6)]) (g := (gName 6)) rfl sc_law.nd rfl rfl (sw_true rfl rfl rfl (by decide +kernel)) (pi_range2 (by rfl) T.b_range (pa_cons (pe_un un_neg pe_int) (pa_cons pe_int pa_nil))) (blkOk_by (N := N_law) (sc := defScope s_law) (by decide +kernel)) (fun _ _ _ _ _ => (pg_name (i := 6) sc_law.nd rfl (.inl rfl))) (fun _ _ _ _ _ => (pts_one (pt_val (pe_call G_is_fundamental (hr.mono (by decide)) (by rfl) g_is_fundamental k_is_fundamental b_is_fundamental .nil pass0 (pa_cons (pv 6) pa_nil))))) (fun _ _ _ _ _ => (pv 6)))
    (pss_one (ps_ret (pe_and (pe_cmpR (op_eqD hr.units) (pv 5) (pe_lst (pa_cons (pe_un un_neg pe_int) (pa_cons (pe_un un_neg pe_int) (pa_cons (pe_un un_neg pe_int) (pa_cons (pe_un un_neg pe_int) (pa_cons (pe_un un_neg pe_int) (pa_cons (pe_un un_neg pe_int) (pa_cons (pe_un un_neg pe_int) (pa_cons (pe_un un_neg pe_int) (pa_cons (pe_un un_neg pe_int) (pa_cons (pe_un un_neg pe_int) (pa_cons pe_int (pa_cons pe_int (pa_cons pe_int (pa_cons pe_int (pa_cons pe_int pa_nil)))))))))))))))) (nomark _)) (pe_one (pe_cmpR op_eq (pe_call G_common_divisor (hr.mono (by decide)) (by rfl) g_common_divisor k_common_divisor b_common_divisor .nil pass0 (pa_cons (pe_tup pa_nil) pa_nil)) pe_int (nomark _)))))))))), ?_⟩
    have hm : ∀ z : Int, z ≤ 63 → -(2 ^ 62) ≤ (if (if z < 3 then z else 3) > 1 then (if z < 3 then z else 3) else 1) ∧ (if (if z < 3 then z else 3) > 1 then (if z < 3 then z else 3) else 1) < 2 ^ 62 := fun z hz => by
      split <;> split <;> omega
    have hm2 := hm (((ns.map V.int).length : Nat) : Int) (by rw [List.length_map]; omega)
    refine ⟨_, rfl, a, _, rfl, .inl hS, _, _, rfl, _, _, rfl, _, rfl, hm2.1, hm2.2, ?_⟩
    refine for_range (lo := 0) (fun i σ H' => ∃ y1 y2 y3, σ = [some (.ref a), y1, y2, y3, none, none, none] ∧ Ex0 H H') ⟨none, none, none, rfl, Ex0.refl H⟩ ?_ ?_
    · rintro i σ H' hi ⟨y1, y2, y3, rfl, e⟩
      refine ⟨_, rfl, _, rfl, a, ns, i, by show [V.ref a, V.int (0 + (i : Int))] = _; rw [Int.zero_add], e.sqL (fun z => z) hS, fun p H1 np e1 hv => ?_⟩
      have hp0 : H p = none := Fx.free e (fun z => z) np
      have e01 : Ex0 H H1 := e.trans e1
      refine ⟨_, rfl, by decide, by decide, ?_⟩
      refine for_range (lo := 0) (fun j σ H'' => (∃ y3, σ = [some (.ref a), some (.int (0 + (i : Int))), some (.ref p), y3, none, none, none]) ∧ Ex0 H H'' ∧ Vat p H'') ⟨⟨y3, rfl⟩, e01, hv⟩ ?_ ?_
      · rintro j σ H'' hj ⟨⟨y3, rfl⟩, e2, hv2⟩
        refine ⟨_, rfl, p, rfl, hv2, fun H3 e3 => ⟨_, rfl, ?_⟩⟩
        refine iteF ⟨_, rfl, p, rfl, e3.1, fun H4 e4 => ⟨_, rfl, ?_⟩⟩
        refine iteF ⟨_, rfl, p, rfl, e4.1, fun H5 e5 => ⟨_, rfl, ?_⟩⟩
        refine iteF ?_
        exact ⟨⟨_, rfl⟩, ex_fv e2 hp0 ((e3.trans e4).trans e5), e5.1⟩
      · rintro σ H'' ⟨⟨y3, rfl⟩, e2, hv2⟩
        refine ⟨_, rfl, p, rfl, hv2, fun H3 e3 => ⟨_, rfl, ?_⟩⟩
        refine iteF ?_
        exact ⟨_, _, _, rfl, ex_fv e2 hp0 e3⟩
    · rintro σ H' ⟨y1, y2, y3, rfl, e⟩
      refine ⟨0, rfl, by decide, fun z => absurd z.1 (by decide), fun _ => ?_⟩
      refine ⟨1, rfl, by decide, fun z => absurd z.1 (by decide), fun _ => ?_⟩
      refine ⟨2, rfl, by decide, fun _ => ?_, fun z => absurd pr_two z⟩
      refine ⟨999983, rfl, by decide, fun _ => ?_, fun z => absurd pr_a z⟩
      refine ⟨_, _, rfl, rfl, .inl ⟨by decide, by decide⟩, 988027, rfl, by decide, fun z => absurd z pr_b, fun _ => ?_⟩
      refine ⟨0, rfl, by decide, fun H1 e1 => ⟨1, rfl, by decide, fun H2 e2 => ⟨slN (by decide), fun l nl => ?_⟩⟩⟩
      refine ⟨_, rfl, slN (by decide), fun u nu => ?_⟩
      have hlu : l ≠ u := ne_of_none (show upd H2 l _ l = some _ from upd_same) nu
      refine ⟨.list [.bool false, .bool false, .bool true, .bool true, .bool false, .bool (fund 0), .bool (fund 1)], .list [.bool false, .bool false, .bool true, .bool true, .bool false, .bool false, .bool true], .lst (SqL.of (by rw [upd_ne hlu]; exact upd_same)) (.cons (.bl _) (.cons (.bl _) (.cons (.bl _) (.cons (.bl _) (.cons (.bl _) (.cons (.bl _) (.cons (.bl _) .nil))))))), .lst (SqL.of upd_same) (.cons (.bl _) (.cons (.bl _) (.cons (.bl _) (.cons (.bl _) (.cons (.bl _) (.cons (.bl _) (.cons (.bl _) .nil))))))), by decide +kernel, by decide +kernel, _, rfl, ?_⟩
      rw [fund_zero, fund_one]
      refine iteF ⟨_, _, rfl, rfl, .inl ⟨by decide, by decide⟩, 99991 * 99989, rfl, by decide, .inr rfl, fun p H4 e4 ⟨xs, hp, hP⟩ => ?_⟩
      refine ⟨sl2, fun t1 n1 => ⟨sl2, fun t2 n2 => ⟨sl2, fun t3 n3 => ?_⟩⟩⟩
      have n12 : t1 ≠ t2 := ne_of_none (show upd H4 t1 _ t1 = some _ from upd_same) n2
      have x3 : Ex0 H4 (upd (upd (upd H4 t1 (.tup [.int 99989, .int 1])) t2 (.tup [.int 99991, .int 1])) t3 (.tup [.ref t1, .ref t2])) := ((Ex0.new n1).trans (Ex0.new n2)).trans (Ex0.new n3)
      have g1 : (upd (upd (upd H4 t1 (.tup [.int 99989, .int 1])) t2 (.tup [.int 99991, .int 1])) t3 (.tup [.ref t1, .ref t2])) t1 = some (.tup [.int 99989, .int 1]) := Ex0.ap (Ex0.new n3) (Ex0.ap (Ex0.new n2) upd_same)
      have g2 : (upd (upd (upd H4 t1 (.tup [.int 99989, .int 1])) t2 (.tup [.int 99991, .int 1])) t3 (.tup [.ref t1, .ref t2])) t2 = some (.tup [.int 99991, .int 1]) := Ex0.ap (Ex0.new n3) upd_same
      refine ⟨.tuple ((fac (99991 * 99989)).map pr2), .tuple ([(99989, 1), (99991, 1)].map pr2), .tup (SqT.of (Ex0.ap x3 hp)) (hP.mono fun a b z => Ex0.ap x3 z).dp, .tup (SqT.of upd_same) (.cons (.tup (SqT.of g1) (.cons (.int _) (.cons (.int _) .nil))) (.cons (.tup (SqT.of g2) (.cons (.int _) (.cons (.int _) .nil))) .nil)), shaped_prs _, shaped_prs _, _, rfl, ?_⟩
      rw [PyData.eqv, eqv_prs, decide_eq_true great_fac]
      refine iteF ?_
      refine ⟨_, rfl, _, _, rfl, ⟨by decide, by decide, by decide, by decide⟩, ?_⟩
      refine lcR fm0 trivial (fun i acc _ => acc = (((List.range i).filter fun (j : Nat) => fund ((-24 : Int) + (j : Int))).map fun (j : Nat) => ((-24 : Int) + (j : Int))).map V.int) (fun _ _ => rfl) (fun D i acc H6 hD hi e6 hA hlen hp6 => ?_) (fun D H6 acc hD e6 hA hp6 => ?_)
      · have hi' : i < 38 := hi
        have rs : ∀ b : Bool, fund ((-24 : Int) + (i : Int)) = b → (((List.range (i + 1)).filter fun (j : Nat) => fund ((-24 : Int) + (j : Int))).map fun (j : Nat) => ((-24 : Int) + (j : Int))).map V.int = acc ++ (if b = true then [V.int ((-24 : Int) + (i : Int))] else []) := fun b hb => by
          rw [hp6, List.range_succ, List.filter_append, List.map_append, List.map_append]
          congr 1
          rw [List.filter_cons, hb]
          cases b <;> rfl
        refine ⟨rfl, ?_⟩
        refine ⟨_, rfl, (-24 : Int) + (i : Int), rfl, by omega, fun H7 e7 => ⟨_, rfl, ?_⟩⟩
        refine iteB (fun hb => ?_) (fun hb => ?_)
        · refine ⟨_, rfl, ?_⟩
          refine cs_yes fm0 trivial hD e6 hA hlen (by omega) e7 ?_
          rw [rs true hb]
          rfl
        · refine cs_no fm0 trivial hD e6 hA hlen e7 ?_
          rw [rs false hb]
          exact (List.append_nil _).symm
      · have hacc : acc = [-24, -23, -20, -19, -15, -11, -8, -7, -4, -3, 1, 5, 8, 12, 13].map V.int := by
          rw [hp6]
          exact congrArg (List.map V.int) fund_some
        refine ⟨_, rfl, _, rfl, _, rfl, _, rfl, _, rfl, _, rfl, _, rfl, _, rfl, _, rfl, _, rfl, _, rfl, slN (by decide), fun v nv => ?_⟩
        have hDv : D ≠ v := ne_of_none hA nv
        refine ⟨.list ([-24, -23, -20, -19, -15, -11, -8, -7, -4, -3, 1, 5, 8, 12, 13].map .int), .list ([-24, -23, -20, -19, -15, -11, -8, -7, -4, -3, 1, 5, 8, 12, 13].map .int), .lst (SqL.of (by rw [upd_ne hDv, hA, hacc])) (dp_ints _), .lst (SqL.of upd_same) (dp_ints [-24, -23, -20, -19, -15, -11, -8, -7, -4, -3, 1, 5, 8, 12, 13]), shaped_ints _, shaped_ints _, _, rfl, ?_⟩
        rw [PyData.eqv, eqv_ints]
        refine dT rfl ?_
        refine ⟨Nat.zero_le _, fun t nt => ?_⟩
        refine ⟨t, [], rfl, upd_same, by decide, fun _ h => (by cases h), fun H9 e9 => ⟨rfl, ?_⟩⟩
        exact q H9
end
def e0 : Hd.Dd := ⟨fun K => He.ga K "is_any_integer", "is_any_integer", "is_any_integer", s_is_any_integer, []⟩
def e1 : Hd.Dd := ⟨fun K => He.ga K "is_short_integer", "is_short_integer", "is_short_integer", s_is_short_integer, []⟩
def e2 : Hd.Dd := ⟨fun K => He.ga K "is_between", "is_between", "is_between", s_is_between, []⟩
def e3 : Hd.Dd := ⟨fun K => He.ga K "are_short_integers", "are_short_integers", "are_short_integers", s_are_short_integers, []⟩
def e4 : Hd.Dd := ⟨fun K => He.ga K "check_between", "check_between", "check_between", s_check_between, []⟩
def e5 : Hd.Dd := ⟨fun K => He.ga K "power_at", "power_at", "power_at", s_power_at, []⟩
def e6 : Hd.Dd := ⟨fun K => He.ga K "shared_divisor", "shared_divisor", "shared_divisor", s_shared_divisor, []⟩
def e7 : Hd.Dd := ⟨fun K => He.ga K "common_divisor", "common_divisor", "common_divisor", s_common_divisor, []⟩
def e8 : Hd.Dd := ⟨fun K => He.ga K "is_prime", "is_prime", "is_prime", s_is_prime, []⟩
def e9 : Hd.Dd := ⟨fun K => He.ga K "times_within", "times_within", "times_within", s_times_within, []⟩
def e10 : Hd.Dd := ⟨fun K => He.ga K "is_great_prime", "is_great_prime", "is_great_prime", s_is_great_prime, []⟩
def e11 : Hd.Dd := ⟨fun K => He.ga K "factored", "factored", "factored", s_factored, []⟩
def e12 : Hd.Dd := ⟨fun K => He.ga K "primes_twice", "primes_twice", "primes_twice", s_primes_twice, []⟩
def e13 : Hd.Dd := ⟨fun K => He.ga K "raised", "raised", "raised", s_raised, []⟩
def e14 : Hd.Dd := ⟨fun K => He.ga K "whole_root", "whole_root", "whole_root", s_whole_root, []⟩
def e15 : Hd.Dd := ⟨fun K => He.ga K "is_square_free", "is_square_free", "is_square_free", s_is_square_free, []⟩
def e16 : Hd.Dd := ⟨fun K => He.ga K "is_fundamental", "is_fundamental", "is_fundamental", s_is_fundamental, []⟩
def e17 : Hd.Dd := ⟨fun K => He.ga K "_law_vat", "_law_vat", "_law_vat", s_l_vat, []⟩
def e18 : Hd.Dd := ⟨fun K => He.ga K "_law_scoop", "_law_scoop", "_law_scoop", s_l_scoop, []⟩
def e19 : Hd.Dd := ⟨fun K => He.ga K "_law_from", "_law_from", "_law_from", s_l_from, []⟩
def e20 : Hd.Dd := ⟨fun K => He.ga K "_law_size", "_law_size", "_law_size", s_l_size, []⟩
def e21 : Hd.Dd := ⟨fun K => He.ga K "_law_share", "_law_share", "_law_share", s_l_share, []⟩
def e22 : Hd.Dd := ⟨fun K => He.ga K "_law_trial_factors", "_law_trial_factors", "_law_trial_factors", s_l_trial_factors, []⟩
def e23 : Hd.Dd := ⟨fun K => He.ga K "_law_raised", "_law_raised", "_law_raised", s_l_raised, []⟩
def e24 : Hd.Dd := ⟨fun K => He.ga K "_law_is_basic", "_law_is_basic", "_law_is_basic", s_l_is_basic, []⟩
def e25 : Hd.Dd := ⟨fun K => He.ga K "_law_divisors_right", "_law_divisors_right", "_law_divisors_right", s_l_divisors_right, []⟩
def e26 : Hd.Dd := ⟨fun K => He.ga K "_law_factors_right", "_law_factors_right", "_law_factors_right", s_l_factors_right, []⟩
def e27 : Hd.Dd := ⟨fun K => He.ga K "_law_roots_right", "_law_roots_right", "_law_roots_right", s_l_roots_right, []⟩
def e28 : Hd.Dd := ⟨fun K => He.ga K "_law_basic_right", "_law_basic_right", "_law_basic_right", s_l_basic_right, []⟩
def e29 : Hd.Dd := ⟨fun K => He.ga K "law", "law", "law", s_law, []⟩
def dd0 : List Hd.Dd := [e0, e1, e2, e3, e4, e5, e6, e7, e8, e9, e10, e11, e12, e13, e14, e15, e16, e17, e18, e19]
def dd1 : List Hd.Dd := [e20, e21, e22, e23, e24, e25, e26, e27, e28, e29]
def dd : List Hd.Dd := dd0 ++ (dd1)
def g0 : Hd.Fb := fun K => (fun K => (He.Fa.glo "is_any_integer").ok K) K
def g1 : Hd.Fb := fun K => (fun K => (He.Fa.glo "is_short_integer").ok K) K
def g2 : Hd.Fb := fun K => (fun K => (He.Fa.glo "is_between").ok K) K
def g3 : Hd.Fb := fun K => (fun K => (He.Fa.glo "are_short_integers").ok K) K
def g4 : Hd.Fb := fun K => (fun K => (He.Fa.glo "check_between").ok K) K
def g5 : Hd.Fb := fun K => (fun K => (He.Fa.glo "power_at").ok K) K
def g6 : Hd.Fb := fun K => (fun K => (He.Fa.glo "shared_divisor").ok K) K
def g7 : Hd.Fb := fun K => (fun K => (He.Fa.glo "common_divisor").ok K) K
def g8 : Hd.Fb := fun K => (fun K => (He.Fa.glo "is_prime").ok K) K
def g9 : Hd.Fb := fun K => (fun K => (He.Fa.glo "times_within").ok K) K
def g10 : Hd.Fb := fun K => (fun K => (He.Fa.glo "is_great_prime").ok K) K
def g11 : Hd.Fb := fun K => (fun K => (He.Fa.glo "factored").ok K) K
def g12 : Hd.Fb := fun K => (fun K => (He.Fa.glo "primes_twice").ok K) K
def g13 : Hd.Fb := fun K => (fun K => (He.Fa.glo "raised").ok K) K
def g14 : Hd.Fb := fun K => (fun K => (He.Fa.glo "whole_root").ok K) K
def g15 : Hd.Fb := fun K => (fun K => (He.Fa.glo "is_square_free").ok K) K
def g16 : Hd.Fb := fun K => (fun K => (He.Fa.glo "is_fundamental").ok K) K
def g17 : Hd.Fb := fun K => (fun K => (He.Fa.glo "_law_vat").ok K) K
def g18 : Hd.Fb := fun K => (fun K => (He.Fa.glo "_law_scoop").ok K) K
def g19 : Hd.Fb := fun K => (fun K => (He.Fa.glo "_law_from").ok K) K
def g20 : Hd.Fb := fun K => (fun K => (He.Fa.glo "_law_size").ok K) K
def g21 : Hd.Fb := fun K => (fun K => (He.Fa.glo "_law_share").ok K) K
def g22 : Hd.Fb := fun K => (fun K => (He.Fa.glo "_law_trial_factors").ok K) K
def g23 : Hd.Fb := fun K => (fun K => (He.Fa.glo "_law_raised").ok K) K
def g24 : Hd.Fb := fun K => (fun K => (He.Fa.glo "_law_is_basic").ok K) K
def g25 : Hd.Fb := fun K => (fun K => (He.Fa.glo "_law_divisors_right").ok K) K
def g26 : Hd.Fb := fun K => (fun K => (He.Fa.glo "_law_factors_right").ok K) K
def g27 : Hd.Fb := fun K => (fun K => (He.Fa.glo "_law_roots_right").ok K) K
def g28 : Hd.Fb := fun K => (fun K => (He.Fa.glo "_law_basic_right").ok K) K
def g29 : Hd.Fb := fun K => (fun K => (He.Fa.glo "law").ok K) K
def g30 : Hd.Fb := fun K => (fun K => (He.Fa.free "abs").ok K) K
def g31 : Hd.Fb := fun K => (fun K => (He.Fa.free "all").ok K) K
def g32 : Hd.Fb := fun K => (fun K => (He.Fa.free "bool").ok K) K
def g33 : Hd.Fb := fun K => (fun K => (He.Fa.free "int").ok K) K
def g34 : Hd.Fb := fun K => (fun K => (He.Fa.free "isinstance").ok K) K
def g35 : Hd.Fb := fun K => (fun K => (He.Fa.free "len").ok K) K
def g36 : Hd.Fb := fun K => (fun K => (He.Fa.free "max").ok K) K
def g37 : Hd.Fb := fun K => (fun K => (He.Fa.free "min").ok K) K
def g38 : Hd.Fb := fun K => (fun K => (He.Fa.free "range").ok K) K
def g39 : Hd.Fb := fun K => (fun K => (He.Fa.free "tuple").ok K) K
def g40 : Hd.Fb := fun K => (fun K => (He.Fa.int "ASKED" (501)).ok K) K
def g41 : Hd.Fb := fun K => (fun K => (He.Fa.int "LIMIT" (1000000000000000000000000000000000000000000000000000000000000)).ok K) K
def g42 : Hd.Fb := fun K => (fun K => (He.Fa.int "MAX_FACTORED" (1000000000000)).ok K) K
def g43 : Hd.Fb := fun K => (fun K => (He.Fa.int "MAX_FUNDAMENTAL" (1000000000)).ok K) K
def g44 : Hd.Fb := fun K => (fun K => (He.Fa.int "MAX_PRIME" (1000000)).ok K) K
def g45 : Hd.Fb := fun K => (fun K => (He.Fa.int "MOST_NUMBERS" (1000)).ok K) K
def g46 : Hd.Fb := fun K => Hd.bltB "gcd" "math.gcd" K
def g47 : Hd.Fb := fun K => Hd.bltB "isqrt" "math.isqrt" K
def fa0 : List Hd.Fb := [g0, g1, g2, g3, g4, g5, g6, g7, g8, g9, g10, g11, g12, g13, g14, g15, g16, g17, g18, g19]
def fa1 : List Hd.Fb := [g20, g21, g22, g23, g24, g25, g26, g27, g28, g29, g30, g31, g32, g33, g34, g35, g36, g37, g38, g39]
def fa2 : List Hd.Fb := [g40, g41, g42, g43, g44, g45, g46, g47]
def fa : List Hd.Fb := fa0 ++ (fa1 ++ (fa2))
def names0 : List Str := ["__name__", "RingError", "InvalidOperation", "InvalidNumber", "LIMIT", "is_any_integer", "is_short_integer", "is_between", "are_short_integers", "check_between", "power_at", "MAX_PRIME", "MAX_FACTORED", "MAX_FUNDAMENTAL", "MOST_NUMBERS", "ASKED", "shared_divisor", "common_divisor", "is_prime", "times_within", "is_great_prime", "factored", "primes_twice", "raised", "whole_root", "is_square_free", "is_fundamental", "_law_vat", "_law_scoop", "_law_from"]
def names1 : List Str := ["_law_size", "_law_share", "_law_trial_factors", "_law_raised", "_law_is_basic", "_law_divisors_right", "_law_factors_right", "_law_roots_right", "_law_basic_right"]
def names : List Str := names0 ++ (names1)
abbrev RR : PySem.W.OpenRow := PySem.W.OpenLaw.row PySem.Challenge.rw_formrings_k01_whole_integers_told_apart
abbrev vw : Program := PySem.W.view RR.prog [0, 44]
abbrev hk : PySem.W.Hook := Hd.hookM 5 fa dd
def ob (s : PySem.W.SharedT) : Hd.AlM := Hd.obsMG 5 fa dd (HandSHeadRun.getT s)
theorem ob_eq (s : PySem.W.SharedT) : ob s = hk.obs s.abs := Hd.obsMG_eq (HandSHeadRun.getT_eq s)
theorem run (w : World) : HandSHeadRun.RunEqI RR vw hk ob 12000 names w := by
  unfold HandSHeadRun.RunEqI
  kernel_rfl
theorem facts {P : Program} {w : World} {K : PySem.W.Frag} {h : Heap} {mg : Str → Option Value} {f : Addr} (X : K.In h) (G : h.Ns mainGlobals mg) (hfa : mg ("law" : Str) = some (.ref f)) (c : Hd.SaysM fa dd K) :
    ∃ fd : FuncData, (∀ (s : Shared) (v : Value), BindsTo s fd ⟨[v], []⟩ [("_law_script", v)]) ∧ ∀ base : Heap, K.In base → base.Ns mainGlobals mg → FnOk P w K mg base CX0 7 f fd ["_law_script"] (sp_lawW K) := by
  obtain ⟨fd0, F0⟩ := c.def_ 0 (d := e0) rfl
  obtain ⟨fd1, F1⟩ := c.def_ 1 (d := e1) rfl
  obtain ⟨fd2, F2⟩ := c.def_ 2 (d := e2) rfl
  obtain ⟨fd3, F3⟩ := c.def_ 3 (d := e3) rfl
  obtain ⟨fd4, F4⟩ := c.def_ 4 (d := e4) rfl
  obtain ⟨fd5, F5⟩ := c.def_ 5 (d := e5) rfl
  obtain ⟨fd6, F6⟩ := c.def_ 6 (d := e6) rfl
  obtain ⟨fd7, F7⟩ := c.def_ 7 (d := e7) rfl
  obtain ⟨fd8, F8⟩ := c.def_ 8 (d := e8) rfl
  obtain ⟨fd9, F9⟩ := c.def_ 9 (d := e9) rfl
  obtain ⟨fd10, F10⟩ := c.def_ 10 (d := e10) rfl
  obtain ⟨fd11, F11⟩ := c.def_ 11 (d := e11) rfl
  obtain ⟨fd12, F12⟩ := c.def_ 12 (d := e12) rfl
  obtain ⟨fd13, F13⟩ := c.def_ 13 (d := e13) rfl
  obtain ⟨fd14, F14⟩ := c.def_ 14 (d := e14) rfl
  obtain ⟨fd15, F15⟩ := c.def_ 15 (d := e15) rfl
  obtain ⟨fd16, F16⟩ := c.def_ 16 (d := e16) rfl
  obtain ⟨fd17, F17⟩ := c.def_ 17 (d := e17) rfl
  obtain ⟨fd18, F18⟩ := c.def_ 18 (d := e18) rfl
  obtain ⟨fd19, F19⟩ := c.def_ 19 (d := e19) rfl
  obtain ⟨fd20, F20⟩ := c.def_ 20 (d := e20) rfl
  obtain ⟨fd21, F21⟩ := c.def_ 21 (d := e21) rfl
  obtain ⟨fd22, F22⟩ := c.def_ 22 (d := e22) rfl
  obtain ⟨fd23, F23⟩ := c.def_ 23 (d := e23) rfl
  obtain ⟨fd24, F24⟩ := c.def_ 24 (d := e24) rfl
  obtain ⟨fd25, F25⟩ := c.def_ 25 (d := e25) rfl
  obtain ⟨fd26, F26⟩ := c.def_ 26 (d := e26) rfl
  obtain ⟨fd27, F27⟩ := c.def_ 27 (d := e27) rfl
  obtain ⟨fd28, F28⟩ := c.def_ 28 (d := e28) rfl
  obtain ⟨fd29, F29⟩ := c.def_ 29 (d := e29) rfl
  have T : Txt K mg := ⟨⟨_, _, He.glo_ok X G (c.fact 0 (f := g0) rfl), Hd.fun_of F0⟩,
    ⟨_, _, He.glo_ok X G (c.fact 1 (f := g1) rfl), Hd.fun_of F1⟩,
    ⟨_, _, He.glo_ok X G (c.fact 2 (f := g2) rfl), Hd.fun_of F2⟩,
    ⟨_, _, He.glo_ok X G (c.fact 3 (f := g3) rfl), Hd.fun_of F3⟩,
    ⟨_, _, He.glo_ok X G (c.fact 4 (f := g4) rfl), Hd.fun_of F4⟩,
    ⟨_, _, He.glo_ok X G (c.fact 5 (f := g5) rfl), Hd.fun_of F5⟩,
    ⟨_, _, He.glo_ok X G (c.fact 6 (f := g6) rfl), Hd.fun_of F6⟩,
    ⟨_, _, He.glo_ok X G (c.fact 7 (f := g7) rfl), Hd.fun_of F7⟩,
    ⟨_, _, He.glo_ok X G (c.fact 8 (f := g8) rfl), Hd.fun_of F8⟩,
    ⟨_, _, He.glo_ok X G (c.fact 9 (f := g9) rfl), Hd.fun_of F9⟩,
    ⟨_, _, He.glo_ok X G (c.fact 10 (f := g10) rfl), Hd.fun_of F10⟩,
    ⟨_, _, He.glo_ok X G (c.fact 11 (f := g11) rfl), Hd.fun_of F11⟩,
    ⟨_, _, He.glo_ok X G (c.fact 12 (f := g12) rfl), Hd.fun_of F12⟩,
    ⟨_, _, He.glo_ok X G (c.fact 13 (f := g13) rfl), Hd.fun_of F13⟩,
    ⟨_, _, He.glo_ok X G (c.fact 14 (f := g14) rfl), Hd.fun_of F14⟩,
    ⟨_, _, He.glo_ok X G (c.fact 15 (f := g15) rfl), Hd.fun_of F15⟩,
    ⟨_, _, He.glo_ok X G (c.fact 16 (f := g16) rfl), Hd.fun_of F16⟩,
    ⟨_, _, He.glo_ok X G (c.fact 17 (f := g17) rfl), Hd.fun_of F17⟩,
    ⟨_, _, He.glo_ok X G (c.fact 18 (f := g18) rfl), Hd.fun_of F18⟩,
    ⟨_, _, He.glo_ok X G (c.fact 19 (f := g19) rfl), Hd.fun_of F19⟩,
    ⟨_, _, He.glo_ok X G (c.fact 20 (f := g20) rfl), Hd.fun_of F20⟩,
    ⟨_, _, He.glo_ok X G (c.fact 21 (f := g21) rfl), Hd.fun_of F21⟩,
    ⟨_, _, He.glo_ok X G (c.fact 22 (f := g22) rfl), Hd.fun_of F22⟩,
    ⟨_, _, He.glo_ok X G (c.fact 23 (f := g23) rfl), Hd.fun_of F23⟩,
    ⟨_, _, He.glo_ok X G (c.fact 24 (f := g24) rfl), Hd.fun_of F24⟩,
    ⟨_, _, He.glo_ok X G (c.fact 25 (f := g25) rfl), Hd.fun_of F25⟩,
    ⟨_, _, He.glo_ok X G (c.fact 26 (f := g26) rfl), Hd.fun_of F26⟩,
    ⟨_, _, He.glo_ok X G (c.fact 27 (f := g27) rfl), Hd.fun_of F27⟩,
    ⟨_, _, He.glo_ok X G (c.fact 28 (f := g28) rfl), Hd.fun_of F28⟩,
    ⟨_, _, He.glo_ok X G (c.fact 29 (f := g29) rfl), Hd.fun_of F29⟩,
    He.free_ok X G (c.fact 30 (f := g30) rfl),
    He.free_ok X G (c.fact 31 (f := g31) rfl),
    He.free_ok X G (c.fact 32 (f := g32) rfl),
    He.free_ok X G (c.fact 33 (f := g33) rfl),
    He.free_ok X G (c.fact 34 (f := g34) rfl),
    He.free_ok X G (c.fact 35 (f := g35) rfl),
    He.free_ok X G (c.fact 36 (f := g36) rfl),
    He.free_ok X G (c.fact 37 (f := g37) rfl),
    He.free_ok X G (c.fact 38 (f := g38) rfl),
    He.free_ok X G (c.fact 39 (f := g39) rfl),
    He.int_ok X G (c.fact 40 (f := g40) rfl),
    He.int_ok X G (c.fact 41 (f := g41) rfl),
    He.int_ok X G (c.fact 42 (f := g42) rfl),
    He.int_ok X G (c.fact 43 (f := g43) rfl),
    He.int_ok X G (c.fact 44 (f := g44) rfl),
    He.int_ok X G (c.fact 45 (f := g45) rfl),
    Hd.blt_ok X G (c.fact 46 (f := g46) rfl),
    Hd.blt_ok X G (c.fact 47 (f := g47) rfl)⟩
  have e := hfa.symm.trans (He.glo_ok X G (c.fact 29 (f := g29) rfl))
  cases e
  have b := FunD.bindsA (ps := ["_law_script"]) F29 fun _ _ _ _ _ _ us hl => match us, hl with | [_], _ => rfl
  exact ⟨fd29, fun s v => b s [v] rfl, fun base _ _ => ok_law0 (P := P) (w := w) (base := base) T (Hd.fun_of F29)⟩
end K01
open PySem PySem.W PySem.Calls PyProof.Rows
set_option maxHeartbeats 0 in
theorem PySem.Challenge.cw_formrings_k01_whole_integers_told_apart_holds : PySem.Challenge.rw_formrings_k01_whole_integers_told_apart.Holds := by
  w_on; o_law
  refine HandSHeadRun.head_imp (r := OpenLaw.row PySem.Challenge.rw_formrings_k01_whole_integers_told_apart) (q := K01.vw) (H := K01.hk) (ob := K01.ob) (M := 12000) (loose := K01.names) (d := HandSHeadRun.topDef (OpenLaw.row PySem.Challenge.rw_formrings_k01_whole_integers_told_apart).prog 44) (kwd := []) K01.ob_eq K01.run (by kernel_rfl) (by kernel_rfl) (by kernel_rfl) (by rfl) (by first | assumption | decide +kernel) (by decide +kernel) ⟨rfl, rfl, rfl, rfl, rfl, by decide +kernel⟩ ?hw ?hc
  case hw => w_witness2
  case hc =>
    refine L2.walk_ofE (l := PySem.Challenge.rw_formrings_k01_whole_integers_told_apart) (n := 63) (k := 7) (x := "_law_script") (CX := L2.CX0) rfl (by decide) (by kernel_rfl) ⟨rfl, by decide, by decide⟩ ?F (fun _ _ _ _ z => z)
    intro w mg fa h Y G hmg0
    obtain ⟨K, KX, c⟩ := Y
    have hmg : mg ("law" : PySem.Str) = some (.ref fa) := by
      have e : (HandSHeadRun.topDef (OpenLaw.row PySem.Challenge.rw_formrings_k01_whole_integers_told_apart).prog 44).name = ("law" : PySem.Str) := by kernel_rfl
      rw [← e]
      exact hmg0
    obtain ⟨fd, hb, hF⟩ := K01.facts (P := (PySem.Challenge.rw_formrings_k01_whole_integers_told_apart).prog) (w := w) KX G hmg c
    exact ⟨K, fd, K01.sp_lawW K, KX, hb, fun H a ns hl _ hS => ⟨a, ns, rfl, hS, hl, fun _ => rfl⟩, hF⟩
