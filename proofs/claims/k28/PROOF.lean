import PyProof.Rows.All
import Wide.All
import OpenK.AllK
import Wide.FinOn
import HandS.ForMost
import HandS.Wide
import HandS.WideBits
import HandS.Gcd
import HandS.IsInst
import HandS.Style
import HandS.Evl
import Flt.RightSqrt
import HandS.More
import HandS.OwnEq
import HandS.Property
import HandS.Star
import KE.KOpsOwn
import HandS.ForExc
import HandS.HeadHook1
import HandS.TupMul
import HandS.TupAny
import HandS.Text
import HandS.RaiseMore
import KE.IntBitsLaws
import HandS.Walk
import KE.KStateDown
import HandS.Base
import HandS.Call
import HandS.Ends
import HandS.Words
import HandS.Defaults
import HandS.Head0
import HandS.Head1
import HandS.Head2
import HandS.Head3
import HandS.HeadEnd
import HandS.HeadHook2
import PySem.Challenge.RW_formrings_k28_ways_judged
set_option Elab.async false
set_option linter.all false
set_option maxRecDepth 100000
set_option maxHeartbeats 4000000
namespace Fr
open PySem PySem.Spec PyProof.Rows L2
open Evl (Ex)
def Def (P : Program) (w : World) (K : PySem.W.Frag) (mg : Str → Option Value) (base : Heap) (k : Nat) (x : Str) (ps : List Str) (sp : Sp) : Prop :=
  ∃ f fd, mg x = some (.ref f) ∧ PySem.W.keepIn K (.ref f) = true ∧ Binds K fd ps [] ∧ FnOk P w K mg base CX0 k f fd ps sp
structure Fm (S : Addr → Prop) (I : Hp → Prop) : Prop where
  fresh : ∀ {H D}, I H → H D = none → ¬ S D
  stay : ∀ {H D o}, ¬ S D → I H → I (upd H D o)
def Fx (S : Addr → Prop) (I : Hp → Prop) (H H' : Hp) : Prop := I H' ∧ ∀ b o, ¬ S b → H b = some o → H' b = some o
section
variable {S : Addr → Prop} {I : Hp → Prop} {H H1 H2 : Hp}
theorem Fx.refl (i : I H) : Fx S I H H := ⟨i, fun _ _ _ h => h⟩
theorem Fx.trans (a : Fx S I H H1) (b : Fx S I H1 H2) : Fx S I H H2 := ⟨b.1, fun x o n h => b.2 x o n (a.2 x o n h)⟩
theorem Fx.new (m : Fm S I) (i : I H) {p : Addr} {o : HO} (h : H p = none) : Fx S I H (upd H p o) := ⟨m.stay (m.fresh i h) i, fun b u _ e => by
  rw [upd_ne (ne_of_none e h)]
  exact e⟩
theorem Fx.mut (m : Fm S I) (a : Fx S I H H1) (i : I H) {p : Addr} {o : HO} (h : H p = none) : Fx S I H (upd H1 p o) := ⟨m.stay (m.fresh i h) a.1, fun b u n e => by
  rw [upd_ne (ne_of_none e h)]
  exact a.2 b u n e⟩
theorem Fx.at (a : Fx S I H H1) {p : Addr} {o : HO} (n : ¬ S p) (h : H p = some o) : H1 p = some o := a.2 p o n h
theorem Fx.sqT {K : PySem.W.Frag} (a : Fx S I H H1) {p : Addr} {xs : List V} (n : ¬ S p) (h : SqT K H p xs) : SqT K H1 p xs := by
  rcases h with (h | ⟨o, h⟩) | h
  · exact .inl (.inl (a.2 _ _ n h))
  · exact .inl (.inr ⟨o, a.2 _ _ n h⟩)
  · exact .inr h
theorem Fx.sqL {K : PySem.W.Frag} (a : Fx S I H H1) {p : Addr} {xs : List V} (n : ¬ S p) (h : SqL K H p xs) : SqL K H1 p xs := by
  rcases h with (h | ⟨o, h⟩) | h
  · exact .inl (.inl (a.2 _ _ n h))
  · exact .inl (.inr ⟨o, a.2 _ _ n h⟩)
  · exact .inr h
theorem Fx.free (a : Fx S I H H1) {p : Addr} (n : ¬ S p) (h : H1 p = none) : H p = none := by
  cases e : H p with
  | none => rfl
  | some o => rw [a.2 p o n e] at h; cases h
theorem Fx.free' (m : Fm S I) (a : Fx S I H H1) {p : Addr} (h : H1 p = none) : H p = none := a.free (m.fresh a.1 h) h
end
abbrev S0 : Addr → Prop := fun _ => False
abbrev I0 : Hp → Prop := fun _ => True
theorem fm0 : Fm S0 I0 := ⟨fun _ _ h => h, fun _ _ => trivial⟩
abbrev Ex0 : Hp → Hp → Prop := Fx S0 I0
theorem Ex0.of {H H' : Hp} (h : ∀ b o, H b = some o → H' b = some o) : Ex0 H H' := ⟨trivial, fun b o _ e => h b o e⟩
theorem Ex0.ap {H H' : Hp} (h : Ex0 H H') {b : Addr} {o : HO} (e : H b = some o) : H' b = some o := h.2 b o (fun z => z) e
theorem Ex0.refl (H : Hp) : Ex0 H H := Fx.refl trivial
theorem Ex0.new {H : Hp} {p : Addr} {o : HO} (h : H p = none) : Ex0 H (upd H p o) := Fx.new fm0 trivial h
def Cs (S : Addr → Prop) (I : Hp → Prop) (H : Hp) (P : Nat → List V → Hp → Prop) (D : Addr) (i : Nat) (H' : Hp) : Prop := Fx S I H H' ∧ ∃ acc, H' D = some (.lst acc) ∧ acc.length ≤ i ∧ P i acc H'
section
variable {K : PySem.W.Frag} {S : Addr → Prop} {I : Hp → Prop} {σ : L2.St} {H : Hp} {Q : Addr → Hp → Prop} {te : TE} {vs : List Nat} {g : TG} {tt : TT} {P : Nat → List V → Hp → Prop}
theorem cs_yes (m : Fm S I) (i0 : I H) {D : Addr} {i : Nat} {acc : List V} {H' H4 : Hp} {y : V} (hD : H D = none) (p1 : Fx S I H H') (p2 : H' D = some (.lst acc)) (p3 : acc.length ≤ i) (hi : i < 1000000) (e : Fx S I H' H4) (h : P (i + 1) (acc ++ [y]) (upd H4 D (.lst (acc ++ [y])))) :
    ∃ acc', H4 D = some (.lst acc') ∧ acc'.length < sizeLine ∧ Cs S I H P D (i + 1) (upd H4 D (.lst (acc' ++ [y]))) :=
  ⟨acc, e.2 _ _ (m.fresh i0 hD) p2, Nat.lt_of_le_of_lt p3 (Nat.lt_of_lt_of_le hi (by decide)), Fx.mut m (p1.trans e) i0 hD, _, upd_same, by rw [List.length_append]; exact Nat.add_le_add_right p3 1, h⟩
theorem cs_no (m : Fm S I) (i0 : I H) {D : Addr} {i : Nat} {acc : List V} {H' H4 : Hp} (hD : H D = none) (p1 : Fx S I H H') (p2 : H' D = some (.lst acc)) (p3 : acc.length ≤ i) (e : Fx S I H' H4) (h : P (i + 1) acc H4) : Cs S I H P D (i + 1) H4 :=
  ⟨p1.trans e, acc, e.2 _ _ (m.fresh i0 hD) p2, Nat.le_succ_of_le p3, h⟩
theorem lcT (m : Fm S I) (i0 : I H) {a : Addr} {xs : List V} (hx : SqT K H a xs) (ha : ¬ S a) (P : Nat → List V → Hp → Prop) (p0 : ∀ D, H D = none → P 0 [] (upd H D (.lst [])))
    (hs : ∀ D i x acc H', H D = none → xs[i]? = some x → Fx S I H H' → H' D = some (.lst acc) → acc.length ≤ i → P i acc H' → g x (wipe σ vs) H' fun σ2 H2 => wipe σ2 vs = wipe σ vs ∧ tt σ2 H2 fun b H3 =>
      if b = true then te σ2 H3 fun y H4 => ∃ acc, H4 D = some (.lst acc) ∧ acc.length < sizeLine ∧ Cs S I H P D (i + 1) (upd H4 D (.lst (acc ++ [y]))) else Cs S I H P D (i + 1) H3)
    (q : ∀ D H' acc, H D = none → Fx S I H H' → H' D = some (.lst acc) → P xs.length acc H' → Q D H') :
    ∀ D, H D = none → ∃ W : Nat → Nat → Hp → Prop, (∃ m, W 0 m (upd H D (.lst []))) ∧ ∀ i m H, W i m H →
      ((Itt K a).stop i H ∧ Q D H) ∨ ((Itt K a).go i H ∧ ∃ Nx : Hp → Prop, (∀ H', Nx H' → ∃ m', m' < m ∧ W (i + 1) m' H') ∧ ∀ x H', (Itt K a).yld i H x H' → g x (wipe σ vs) H' fun σ2 H2 => wipe σ2 vs = wipe σ vs ∧ tt σ2 H2 fun b H3 =>
        if b = true then te σ2 H3 fun y H4 => ∃ acc, H4 D = some (.lst acc) ∧ acc.length < sizeLine ∧ Nx (upd H4 D (.lst (acc ++ [y]))) else Nx H3) := fun D hD =>
  lc_tup (xs := xs) (Cs S I H P D) ⟨Fx.new m i0 hD, [], upd_same, Nat.le_refl _, p0 D hD⟩ (fun i H' _ p => p.1.sqT ha hx)
    (fun i x H' hi p => by
      obtain ⟨p1, acc, p2, p3, p4⟩ := p
      exact hs D i x acc H' hD hi p1 p2 p3 p4)
    (fun H' p => by
      obtain ⟨p1, acc, p2, p3, p4⟩ := p
      exact q D H' acc hD p1 p2 p4)
theorem lcL (m : Fm S I) (i0 : I H) {a : Addr} {xs : List V} (hx : SqL K H a xs) (ha : ¬ S a) (P : Nat → List V → Hp → Prop) (p0 : ∀ D, H D = none → P 0 [] (upd H D (.lst [])))
    (hs : ∀ D i x acc H', H D = none → xs[i]? = some x → Fx S I H H' → H' D = some (.lst acc) → acc.length ≤ i → P i acc H' → g x (wipe σ vs) H' fun σ2 H2 => wipe σ2 vs = wipe σ vs ∧ tt σ2 H2 fun b H3 =>
      if b = true then te σ2 H3 fun y H4 => ∃ acc, H4 D = some (.lst acc) ∧ acc.length < sizeLine ∧ Cs S I H P D (i + 1) (upd H4 D (.lst (acc ++ [y]))) else Cs S I H P D (i + 1) H3)
    (q : ∀ D H' acc, H D = none → Fx S I H H' → H' D = some (.lst acc) → P xs.length acc H' → Q D H') :
    ∀ D, H D = none → ∃ W : Nat → Nat → Hp → Prop, (∃ m, W 0 m (upd H D (.lst []))) ∧ ∀ i m H, W i m H →
      ((Itl K a).stop i H ∧ Q D H) ∨ ((Itl K a).go i H ∧ ∃ Nx : Hp → Prop, (∀ H', Nx H' → ∃ m', m' < m ∧ W (i + 1) m' H') ∧ ∀ x H', (Itl K a).yld i H x H' → g x (wipe σ vs) H' fun σ2 H2 => wipe σ2 vs = wipe σ vs ∧ tt σ2 H2 fun b H3 =>
        if b = true then te σ2 H3 fun y H4 => ∃ acc, H4 D = some (.lst acc) ∧ acc.length < sizeLine ∧ Nx (upd H4 D (.lst (acc ++ [y]))) else Nx H3) := fun D hD =>
  lc_list (xs := xs) (Cs S I H P D) ⟨Fx.new m i0 hD, [], upd_same, Nat.le_refl _, p0 D hD⟩ (fun i H' _ p => p.1.sqL ha hx)
    (fun i x H' hi p => by
      obtain ⟨p1, acc, p2, p3, p4⟩ := p
      exact hs D i x acc H' hD hi p1 p2 p3 p4)
    (fun H' p => by
      obtain ⟨p1, acc, p2, p3, p4⟩ := p
      exact q D H' acc hD p1 p2 p4)
theorem lcR (m : Fm S I) (i0 : I H) {lo : Int} {n : Nat} (P : Nat → List V → Hp → Prop) (p0 : ∀ D, H D = none → P 0 [] (upd H D (.lst [])))
    (hs : ∀ D i acc H', H D = none → i < n → Fx S I H H' → H' D = some (.lst acc) → acc.length ≤ i → P i acc H' → g (.int (lo + i)) (wipe σ vs) H' fun σ2 H2 => wipe σ2 vs = wipe σ vs ∧ tt σ2 H2 fun b H3 =>
      if b = true then te σ2 H3 fun y H4 => ∃ acc, H4 D = some (.lst acc) ∧ acc.length < sizeLine ∧ Cs S I H P D (i + 1) (upd H4 D (.lst (acc ++ [y]))) else Cs S I H P D (i + 1) H3)
    (q : ∀ D H' acc, H D = none → Fx S I H H' → H' D = some (.lst acc) → P n acc H' → Q D H') :
    ∀ D, H D = none → ∃ W : Nat → Nat → Hp → Prop, (∃ m, W 0 m (upd H D (.lst []))) ∧ ∀ i m H, W i m H →
      ((Itr lo n).stop i H ∧ Q D H) ∨ ((Itr lo n).go i H ∧ ∃ Nx : Hp → Prop, (∀ H', Nx H' → ∃ m', m' < m ∧ W (i + 1) m' H') ∧ ∀ x H', (Itr lo n).yld i H x H' → g x (wipe σ vs) H' fun σ2 H2 => wipe σ2 vs = wipe σ vs ∧ tt σ2 H2 fun b H3 =>
        if b = true then te σ2 H3 fun y H4 => ∃ acc, H4 D = some (.lst acc) ∧ acc.length < sizeLine ∧ Nx (upd H4 D (.lst (acc ++ [y]))) else Nx H3) := fun D hD =>
  lc_range (lo := lo) (n := n) (Cs S I H P D) ⟨Fx.new m i0 hD, [], upd_same, Nat.le_refl _, p0 D hD⟩
    (fun i H' hi p => by
      obtain ⟨p1, acc, p2, p3, p4⟩ := p
      exact hs D i acc H' hD hi p1 p2 p3 p4)
    (fun H' p => by
      obtain ⟨p1, acc, p2, p3, p4⟩ := p
      exact q D H' acc hD p1 p2 p4)
end
theorem log_lt {i : Int} {a : Nat} (h : i.natAbs < 2 ^ a) (h0 : 0 < a) : i.natAbs.log2 < a := by
  by_cases z : i.natAbs = 0
  · rw [z]
    exact h0
  · exact (Nat.log2_lt z).mpr h
theorem mw {i j : Int} (h1 : -(2 ^ 250) < i) (h2 : i < 2 ^ 250) (h3 : -(2 ^ 250) < j) (h4 : j < 2 ^ 250) : CMulW i j :=
  wide_mul (a := 250) (b := 250) (by omega) (by omega) (by decide) (by decide) (by decide)
theorem dw {i j : Int} (h : 0 < j) (h4 : j < 2 ^ 250) : CDivW i j := wide_div (b := 250) h (by omega) (by decide) (by decide)
theorem iteB {b : Bool} {A B : Prop} (h1 : b = true → A) (h2 : b = false → B) : if b = true then A else B := by
  cases b with
  | true => rw [if_pos rfl]; exact h1 rfl
  | false => rw [if_neg Bool.false_ne_true]; exact h2 rfl
theorem iteD {c : Prop} [Decidable c] {A B : Prop} (h1 : c → A) (h2 : ¬ c → B) : if decide c = true then A else B :=
  iteB (fun h => h1 (of_decide_eq_true h)) (fun h => h2 (of_decide_eq_false h))
theorem iteN {c : Prop} [Decidable c] {A B : Prop} (h1 : ¬ c → A) (h2 : c → B) : if (!decide c) = true then A else B := by
  by_cases h : c
  · rw [decide_eq_true h]; exact iteF (h2 h)
  · rw [decide_eq_false h]; exact iteT (h1 h)
theorem dT {c : Prop} [Decidable c] {A B : Prop} (h : c) (a : A) : if decide c = true then A else B := by rw [decide_eq_true h, if_pos rfl]; exact a
theorem dF {c : Prop} [Decidable c] {A B : Prop} (h : ¬ c) (a : B) : if decide c = true then A else B := by rw [decide_eq_false h, if_neg Bool.false_ne_true]; exact a
theorem ndT {c : Prop} [Decidable c] {A B : Prop} (h : ¬ c) (a : A) : if (!decide c) = true then A else B := by rw [decide_eq_false h]; exact iteT a
theorem ndF {c : Prop} [Decidable c] {A B : Prop} (h : c) (a : B) : if (!decide c) = true then A else B := by rw [decide_eq_true h]; exact iteF a
theorem sl1 : 1 ≤ sizeLine := by decide
theorem sl2 : 2 ≤ sizeLine := by decide
theorem sl3 : 3 ≤ sizeLine := by decide
theorem sl4 : 4 ≤ sizeLine := by decide
theorem sl5 : 5 ≤ sizeLine := by decide
theorem sl6 : 6 ≤ sizeLine := by decide
theorem sl8 : 8 ≤ sizeLine := by decide
theorem slN {n : Nat} (h : n ≤ 1000000) : n ≤ sizeLine := Nat.le_trans h (by decide)
section
variable {X : Cx}
def rIsqrt : List V → Hp → VK → Prop := fun vs H Q => ∃ a : Int, vs = [.int a] ∧ 0 ≤ a ∧ a < 2 ^ 64 ∧ ∀ r : Int, 0 ≤ r → r * r ≤ a → a < (r + 1) * (r + 1) → Q (.int r) H
theorem cr_isqrt : CallR X (.builtin "math.isqrt") rIsqrt := by
  intro pins s σ H vs us Q I r h
  obtain ⟨a, rfl, h0, h1, q⟩ := h
  obtain ⟨u, rfl, ru⟩ := Vals.one r
  obtain ⟨t, rfl⟩ := ru
  have sp := PySem.Float64.isqrt_spec a.toNat
  refine PySem.W.mg_isqrt h0 h1 ⟨.int _, H, I.tok _, ⟨_, rfl⟩, q _ (Int.natCast_nonneg _) ?_ ?_⟩
  · have := sp.1
    have e : ((Float64.isqrt a.toNat * Float64.isqrt a.toNat : Nat) : Int) ≤ (a.toNat : Int) := Int.ofNat_le.mpr this
    rw [Int.toNat_of_nonneg h0] at e
    simpa using e
  · have := sp.2
    have e : (a.toNat : Int) < (((Float64.isqrt a.toNat + 1) * (Float64.isqrt a.toNat + 1) : Nat) : Int) := Int.ofNat_lt.mpr this
    rw [Int.toNat_of_nonneg h0] at e
    simpa using e
end
end Fr
namespace Fr
open PySem PySem.Spec PyProof.Rows L2
section
variable {X : Cx}
def CPowC (i j : Int) : Prop := 0 ≤ j ∧ (Builtin.Int.intBits i : Int) * j ≤ 2 ^ 27
theorem op_powC : OpR X (binaryOp .Pow) (rI CPowC fun i j => .int (i ^ j.toNat)) := opI fun _ _ _ _ _ _ _ hc q => PyProof.Rows.pow_int hc.1 hc.2 q
end
end Fr
namespace Fr
open PySem PySem.Spec PyProof.Rows L2
theorem deI {i j : Int} : decide (V.int i = V.int j) = decide (i = j) := by
  rw [dec_int]
  rfl
theorem iteE {i j : Int} {A B : Prop} (h1 : i = j → A) (h2 : i ≠ j → B) : if decide (V.int i = V.int j) = true then A else B := by
  rw [deI]
  exact iteD h1 h2
theorem iteEn {i j : Int} {A B : Prop} (h1 : i ≠ j → A) (h2 : i = j → B) : if (!decide (V.int i = V.int j)) = true then A else B := by
  rw [deI]
  exact iteN h1 h2
end Fr
namespace Fr
open PySem PySem.Spec PyProof.Rows L2
def inb (lo hi : Int) : V → Bool
  | .int i => decide (lo ≤ i) && decide (i ≤ hi)
  | _ => false
theorem in_b {lo hi : Int} {xs : List V} {v : V} (hv : v ∈ xs) (h : xs.all (inb lo hi) = true) : ∃ f : Int, v = .int f ∧ lo ≤ f ∧ f ≤ hi := by
  have := List.all_eq_true.mp h v hv
  cases v with
  | int i =>
    unfold inb at this
    rw [Bool.and_eq_true, decide_eq_true_iff, decide_eq_true_iff] at this
    exact ⟨i, rfl, this.1, this.2⟩
  | _ => cases this
theorem shaped_ints (ns : List Int) : SeqAt.shaped (.list (ns.map .int)) = true := by
  have h : PyData.canLayAll0 (ns.map PyData.int) = true ∧ PyData.depthAll (ns.map PyData.int) ≤ 1 := by
    induction ns with
    | nil => exact ⟨rfl, by simp [PyData.depthAll]⟩
    | cons n r ih =>
      refine ⟨?_, ?_⟩
      · rw [List.map_cons, PyData.canLayAll0, PyData.canLay0, ih.1]; rfl
      · rw [List.map_cons, PyData.depthAll, PyData.depth]; exact Nat.max_le.mpr ⟨by decide, ih.2⟩
  unfold SeqAt.shaped
  rw [PyData.canLay0, PyData.depth, h.1]
  simp
  omega
theorem dp_ints {K : PySem.W.Frag} {H : Hp} : ∀ ns : List Int, DpAll K H (ns.map V.int) (ns.map PyData.int)
  | [] => .nil
  | n :: r => .cons (.int n) (dp_ints r)
theorem eqv_ints : ∀ ns ms : List Int, PyData.eqvAll (ns.map PyData.int) (ms.map PyData.int) = decide (ns = ms)
  | [], [] => rfl
  | [], m :: ms => rfl
  | n :: ns, [] => rfl
  | n :: ns, m :: ms => by
    rw [List.map_cons, List.map_cons, PyData.eqvAll, PyData.eqv, eqv_ints ns ms]
    apply Bool.eq_iff_iff.mpr
    simp
def pr2 (q : Nat × Nat) : PyData := .tuple [.int (q.1 : Int), .int (q.2 : Int)]
theorem shaped_prs (fs : List (Nat × Nat)) : SeqAt.shaped (.tuple (fs.map pr2)) = true := by
  have h : PyData.canLayAll0 (fs.map pr2) = true ∧ PyData.depthAll (fs.map pr2) ≤ 2 := by
    induction fs with
    | nil => exact ⟨rfl, by simp [PyData.depthAll]⟩
    | cons n r ih =>
      refine ⟨?_, ?_⟩
      · rw [List.map_cons, PyData.canLayAll0, ih.1]; simp [pr2, PyData.canLay0, PyData.canLayAll0]
      · rw [List.map_cons, PyData.depthAll]; exact Nat.max_le.mpr ⟨by simp [pr2, PyData.depth, PyData.depthAll], ih.2⟩
  unfold SeqAt.shaped
  rw [PyData.canLay0, PyData.depth, h.1]
  simp
  omega
theorem eqv_prs : ∀ fs gs : List (Nat × Nat), PyData.eqvAll (fs.map pr2) (gs.map pr2) = decide (fs = gs)
  | [], [] => rfl
  | [], m :: ms => rfl
  | n :: ns, [] => rfl
  | (a, b) :: ns, (c, d) :: ms => by
    rw [List.map_cons, List.map_cons, PyData.eqvAll, eqv_prs ns ms]
    apply Bool.eq_iff_iff.mpr
    simp [pr2, PyData.eqv, PyData.eqvAll]
    omega
end Fr
namespace Fr
open PySem PySem.Spec PyProof.Rows L2
def B (a : Nat) (i : Int) : Prop := i.natAbs < 2 ^ a ∧ 0 < a
theorem two_pow_two {a : Nat} (h : 0 < a) : 2 ≤ 2 ^ a := by
  obtain ⟨k, rfl⟩ : ∃ k, a = k + 1 := ⟨a - 1, by omega⟩
  rw [Nat.pow_succ]
  have := Nat.two_pow_pos k
  omega
theorem pow_sum {a b : Nat} (ha : 0 < a) (hb : 0 < b) : 2 ^ a + 2 ^ b ≤ 2 ^ (a + b) := by
  rw [Nat.pow_add]
  have h1 := two_pow_two ha
  have h2 := two_pow_two hb
  generalize 2 ^ a = x at *
  generalize 2 ^ b = y at *
  have := Nat.mul_le_mul h1 (Nat.le_refl y)
  have := Nat.mul_le_mul (Nat.le_refl x) h2
  rcases Nat.le_total x y with h | h <;> omega
theorem B.mul {a b : Nat} {i j : Int} (h1 : B a i) (h2 : B b j) : B (a + b) (i * j) := ⟨wide_lt h1.1 h2.1, Nat.add_pos_left h1.2 _⟩
theorem B.add {a b : Nat} {i j : Int} (h1 : B a i) (h2 : B b j) : B (a + b) (i + j) :=
  ⟨Nat.lt_of_lt_of_le (by have := h1.1; have := h2.1; omega : (i + j).natAbs < 2 ^ a + 2 ^ b) (pow_sum h1.2 h2.2), Nat.add_pos_left h1.2 _⟩
theorem B.sub {a b : Nat} {i j : Int} (h1 : B a i) (h2 : B b j) : B (a + b) (i - j) :=
  ⟨Nat.lt_of_lt_of_le (by have := h1.1; have := h2.1; omega : (i - j).natAbs < 2 ^ a + 2 ^ b) (pow_sum h1.2 h2.2), Nat.add_pos_left h1.2 _⟩
theorem B.neg {a : Nat} {i : Int} (h1 : B a i) : B a (-i) := ⟨by rw [Int.natAbs_neg]; exact h1.1, h1.2⟩
theorem B.lit {i : Int} (h : i.natAbs < 2 ^ 64) : B 64 i := ⟨h, by decide⟩
theorem B.mono {a b : Nat} {i : Int} (h : B a i) (hab : a ≤ b) : B b i := ⟨Nat.lt_of_lt_of_le h.1 (Nat.pow_le_pow_right (by decide) hab), Nat.lt_of_lt_of_le h.2 hab⟩
theorem mulB {a b : Nat} {i j : Int} (h1 : B a i) (h2 : B b j) (h : a + b ≤ 1000000) : CMulW i j := wide_mul h1.1 h2.1 h1.2 h2.2 h
end Fr
namespace Fr
open PySem PySem.Spec PyProof.Rows L2
theorem shaped_tints (ns : List Int) : SeqAt.shaped (.tuple (ns.map .int)) = true := by
  have h : PyData.canLayAll0 (ns.map .int) = true ∧ PyData.depthAll (ns.map .int) ≤ 1 := by
    induction ns with
    | nil => exact ⟨rfl, by simp [PyData.depthAll]⟩
    | cons n r ih =>
      refine ⟨?_, ?_⟩
      · rw [List.map_cons, PyData.canLayAll0, ih.1]; simp [PyData.canLay0]
      · rw [List.map_cons, PyData.depthAll]; exact Nat.max_le.mpr ⟨by simp [PyData.depth], ih.2⟩
  unfold SeqAt.shaped
  rw [PyData.canLay0, PyData.depth, h.1]
  simp
  omega
end Fr
namespace Fr
open PySem PySem.Spec PyProof.Rows L2
section
variable {M : Model} {prog : Program} {w : World} {A : Around} {E : Value → Shared → Prop} {s : Shared} {K : PySem.W.Frag} {x C f : Addr} {ox : Obj} {od : Option Obj}
theorem ifBound_ne {args : List Value} {Q : Option Value → Shared → Prop} (X : K.In s.heap) (I : PySem.W.InstAt s.heap x ox C od) (hs : PySem.W.findIn K (.ref C) "__ne__" = some (some (.builtin "object.__ne__")))
    (h : wpAny M A (call (.builtin "object.__ne__") (.ref x :: args)) (fun v => Q (some v)) E s) : wpAny M A (callSpecialIfBound? (.ref x) "__ne__" args) Q E s := by
  simp only [callSpecialIfBound?, bindSpecialIfBound?]
  refine wpAny_holding (wpAny_bind (wpAny_bind (wpAny_bind (I.type.here ((PySem.W.looks_findIn X hs).here ?_)))))
  refine wpAny_bind (wpAny_askSetting (wpAny_ite ?_))
  have fin : wpAny M A (call (.builtin "object.__ne__") ([.ref x] ++ args) >>= fun v => pure (some v)) Q E s := wpAny_bind (wpAny_mono h (fun v s' h' => wpAny_pure h') fun _ _ h' => h')
  split
  · exact wpAny_bind (wpAny_of_eq (F.cmp_object.ne.bind _) (wpAny_pure (by exact fin)))
  · exact wpAny_tryCatch (wpAny_bind (wpAny_of_eq (F.cmp_object.ne.bind _) (wpAny_pure (by exact fin))))
def NeB (Q : Value → Shared → Prop) (v : Value) (s' : Shared) : Prop := ∃ b, v = .bool b ∧ Q (.bool (!b)) s'
theorem entry_ne {b : Value} {Q : Fin → Shared → Prop} (hu : A.units < cLine) (X : K.In s.heap) (I : PySem.W.InstAt s.heap x ox C od) (hs : PySem.W.findIn K (.ref C) "__eq__" = some (some (.ref f))) (hf : PySem.W.isFn K (.ref f) = true)
    (h : wpAny (model prog w) A (call (.ref f) [.ref x, b]) (NeB fun v s' => Q (.done (.ret v)) s') E s) : wpAny (model prog w) A (Builtin.«object.__ne__» ⟨[.ref x, b], []⟩) Q E s := by
  unfold Builtin.«object.__ne__»
  repeat (first | with_reducible refine wpAny_cRoomFor hu ?_ | (refine wpAny_bind (PySem.W.ifBound_K X I hs hf (wpAny_mono h (fun v s' hv => ?_) fun _ _ e => e))) | wp_step)
  all_goals (obtain ⟨b', rfl, q⟩ := hv)
  all_goals (repeat (first | wp_step))
  all_goals exact q
theorem ne_K {h₀ : Heap} {L : Addr} {m : Str → Option Value} {b tb : Value} {Q : Value → Shared → Prop} (hu : A.units + 1 < cLine) (F : Fr h₀ L s.heap m) (X₀ : K.In h₀) (I : PySem.W.InstAt s.heap x ox C od) (hb : PySem.W.Looks (model prog w) s.heap (typeOf b) tb) (hn : PySem.W.notFirst K C tb = true)
    (hne : PySem.W.findIn K (.ref C) "__ne__" = some (some (.builtin "object.__ne__"))) (hs : PySem.W.findIn K (.ref C) "__eq__" = some (some (.ref f))) (hf : PySem.W.isFn K (.ref f) = true) (hm : PySem.W.mroIn K C (.type "object") = some true)
    (h : wpAny (model prog w) A.in1 (call (.ref f) [.ref x, b]) (NeB Q) E s) : wpAny (model prog w) A (richCompare .NotEq (.ref x) b) Q E s := by
  have X := X₀.keeps F.keep
  have one : wpAny (model prog w) A (tryCompare (.ref x) "__ne__" b) (fun r s' => ∃ v, r = some v ∧ Q v s') E s := by
    unfold tryCompare
    refine wpAny_bind (ifBound_ne X I hne (wpAny_call (codeAny_call_builtin PySem.F.cmp_object.ne.plain PySem.F.cmpEntry_ne (PySem.W.check_slot PySem.F.cmpKind_ne PySem.F.cmpSplit_ne (I.type.andThen (PySem.W.looks_mroIn X hm)) (PySem.F.cmpArgs_ne _ _) ?_))))
    refine entry_ne (A := A.in1) hu X I hs hf (wpAny_mono h (fun v s' hv => ?_) fun _ _ e => e)
    obtain ⟨b', rfl, q⟩ := hv
    exact ⟨b', rfl, wpAny_pure ⟨_, rfl, q⟩⟩
  unfold richCompare
  simp only [oneThing_ref]
  refine wpAny_holding (wpAny_bind (wpAny_cRoomFor (Nat.lt_of_succ_lt hu) ?_))
  refine wpAny_bind (I.type.here (wpAny_bind (hb.here ?_)))
  split
  · rename_i q
    have e : PySem.W.subIn K tb (.ref C) = some false := by
      rcases Bool.or_eq_true_iff.mp hn with e | e
      · rw [beq_iff_eq.mp e] at q; simp at q
      · exact beq_iff_eq.mp e
    refine wpAny_bind ((PySem.W.looks_subIn X e).here ?_)
    simp only [Bool.false_eq_true, if_false]
    refine wpAny_bind (wpAny_mono one (fun r s' z => ?_) fun _ _ e => e)
    obtain ⟨v, rfl, hq⟩ := z
    exact wpAny_pure hq
  · refine wpAny_bind (wpAny_pure ?_)
    simp only [Bool.false_eq_true, if_false]
    refine wpAny_bind (wpAny_mono one (fun r s' z => ?_) fun _ _ e => e)
    obtain ⟨v, rfl, hq⟩ := z
    exact wpAny_pure hq
end
section
variable {X : Cx} {CX : CXT} {C f : Addr} {fd : FuncData} {ps : List Str} {k : Nat} {sp : Sp} {E : XK}
structure EqC (K : PySem.W.Frag) (C f : Addr) : Prop where
  eq : PySem.W.findIn K (.ref C) "__eq__" = some (some (.ref f))
  fn : PySem.W.isFn K (.ref f) = true
  ne : PySem.W.findIn K (.ref C) "__ne__" = some (some (.builtin "object.__ne__"))
  mo : PySem.W.mroIn K C (.type "object") = some true
def rEqI (K : PySem.W.Frag) (C : Addr) (sp : Sp) (E : XK) (neg : Bool) : R2 := fun x y H Q => ∃ a dx fs tb, x = .ref a ∧ H a = some (.ins C dx fs) ∧ TyX K H y tb ∧ PySem.W.notFirst K C tb = true ∧ sp [x, y] H (fun v H' => ∃ b, v = .bl b ∧ Q (.bl (if neg = true then !b else b)) H') E
theorem op_eqI (c : EqC X.K C f) (F : FnOk X.prog X.w X.K X.mg X.base CX k f fd ps sp) (hb : Binds X.K fd ps []) (hr : Room k X.A) (hx : Passes CX X E) : OpR X (compareOp .Eq) (rEqI X.K C sp E false) := by
  intro pins s σ H x y v u Q I rx ry h
  obtain ⟨a, dx, fs, tb, rfl, ha, ty, hn, q⟩ := h
  cases (show v = Value.ref a from rx)
  obtain ⟨mA, J, _⟩ := ins_get I.hok ha
  obtain ⟨od, J, _⟩ := J.look
  obtain ⟨m, hF⟩ := I.fr
  obtain ⟨P, kt, hP, _⟩ := kit_of I ry ty
  refine PySem.W.cmp_K (op := .Eq) hr.units0 hF I.ok.mod.kin J (kt.ty _ _ I.kIn hP) hn c.eq c.fn ?_
  refine wpAny_mono (run_fn (us := [.ref a, u]) (vs := [.ref a, y]) F hr hb .nil hx I (.cons rfl (.cons ry .nil)) q) (fun w s' z => ?_) fun _ _ x => x
  obtain ⟨z', H', I', rz, b, rfl, qz⟩ := z
  cases (show w = Value.bool b from rz)
  exact ⟨.bl b, H', I', rfl, qz⟩
theorem op_neI (c : EqC X.K C f) (F : FnOk X.prog X.w X.K X.mg X.base CX k f fd ps sp) (hb : Binds X.K fd ps []) (hr : Room (k + 1) X.A) (hx : Passes CX X E) : OpR X (compareOp .NotEq) (rEqI X.K C sp E true) := by
  intro pins s σ H x y v u Q I rx ry h
  obtain ⟨a, dx, fs, tb, rfl, ha, ty, hn, q⟩ := h
  cases (show v = Value.ref a from rx)
  obtain ⟨mA, J, _⟩ := ins_get I.hok ha
  obtain ⟨od, J, _⟩ := J.look
  obtain ⟨m, hF⟩ := I.fr
  obtain ⟨P, kt, hP, _⟩ := kit_of I ry ty
  refine ne_K (Nat.lt_of_le_of_lt (Nat.add_le_add_left (by decide : 1 ≤ 64) _) hr.units) hF I.ok.mod.kin J (kt.ty _ _ I.kIn hP) hn c.ne c.eq c.fn c.mo ?_
  refine wpAny_call (codeAny_mono ((F.raw hb .nil) X.A.in1 X.stack s H [.ref a, u] [.ref a, y] _ E hr.in1 I.env0.in1 (.cons rfl (.cons ry .nil)) q) fun r s' hq => ?_)
  cases r with
  | error e => exact hx pins σ H s e s' I hq
  | ok fl =>
    cases fl with
    | ret w =>
      obtain ⟨z', H', I', rz, b, rfl, qz⟩ := I.after hq
      cases (show w = Value.bool b from rz)
      exact ⟨b, rfl, .bl (!b), H', I', rfl, qz⟩
    | next => exact False.elim hq
    | brk => exact False.elim hq
    | cont => exact False.elim hq
structure TyI (K : PySem.W.Frag) (C : Addr) : Prop where
  ca : PySem.W.findIn K (.ref C) "__class__" = some (some (.builtin "object.__class__"))
  cn : PySem.W.specialIn K (.builtin "object.__class__") "__get__" = some (some (.builtin "getset_descriptor.__get__"))
  ct : PySem.W.takesIn K (.builtin "object.__class__") = some true
  cm : PySem.W.mroIn K C (.type "object") = some true
theorem ty_ins {K : PySem.W.Frag} {C a dx : Addr} {H : Hp} {fs : List (Str × V)} (t : TyI K C) (cl : Cls K C) (e : H a = some (.ins C dx fs)) : TyX K H (.ref a) (.ref C) := .base (.ins e cl t.ca t.cn t.ct t.cm)
theorem first_self {K : PySem.W.Frag} {C : Addr} : PySem.W.notFirst K C (.ref C) = true := by simp [PySem.W.notFirst]
theorem kit_self {K : PySem.W.Frag} {C : Addr} : PySem.W.kitOne K (.ref C) (.ref C) = some true := by simp [PySem.W.kitOne]
theorem un_negI (c : Meth X.K C "__neg__" f) (F : FnOk X.prog X.w X.K X.mg X.base CX k f fd ps sp) (hb : Binds X.K fd ps []) (hr : Room k X.A) (hx : Passes CX X E) :
    UnR X (unaryOp .USub) (fun x H Q => ∃ a dx fs, x = .ref a ∧ H a = some (.ins C dx fs) ∧ sp [x] H Q E) := by
  intro pins s σ H x v Q I rx h
  obtain ⟨a, dx, fs, rfl, ha, q⟩ := h
  cases (show v = Value.ref a from rx)
  obtain ⟨mA, J, _⟩ := ins_get I.hok ha
  obtain ⟨od, J, _⟩ := J.look
  obtain ⟨m, hF⟩ := I.fr
  exact PySem.W.ksp_neg hF I.ok.mod.kin J c.at_ c.fn (run_fn (us := [.ref a]) (vs := [.ref a]) F hr hb .nil hx I (.cons rfl .nil) q)
def MDef (R : Addr → Addr → Prop) (P : Program) (w : World) (K : PySem.W.Frag) (mg : Str → Option Value) (base : Heap) (k : Nat) (ps : List Str) (sp : Sp) : Prop :=
  ∃ p f fd, R p f ∧ Binds K fd ps [] ∧ FnOk P w K mg base CX0 k f fd ps sp
end
section
variable {X : Cx} {K : PySem.W.Frag}
theorem call_isiKK (hK : X.K = K) : CallR X (.builtin "isinstance") (rIsi K) := hK ▸ call_isi
end
section
variable {X : Cx}
theorem pi_or {tg l : Expr} {wa wb : TI} (a : PI X tg l wa) (b : PI X tg l wb) : PI X tg l (fun σ H R => wa σ H R ∨ wb σ H R) := ⟨fun pins s σ H R I h => h.elim (fun z => a.run pins s σ H R I z) (fun z => b.run pins s σ H R I z)⟩
end
abbrev XA (K : PySem.W.Frag) (x : Str) : Addr := He.ga K x
structure Xc (K : PySem.W.Frag) (mg : Str → Option Value) (x : Str) (bm : List Value) (newId : String) : Prop where
  g : mg x = some (.ref (XA K x))
  ex : PySem.W.excIn K (XA K x) bm newId = true
  kp : PySem.W.keepIn K (.ref (XA K x)) = true
  sb : PySem.W.subIn K (.ref (XA K x)) (.type "BaseException") = some true
  ty : PySem.W.typeIn K (.ref (XA K x)) = some (.type "type")
  te : PySem.W.exmOne K (.ref (XA K x)) (.ref (XA K x)) = some true
def DefX (P : Program) (w : World) (K : PySem.W.Frag) (mg : Str → Option Value) (base : Heap) (k : Nat) (x : Str) (ps : List Str) (sp : Sp) : Prop :=
  ∃ f fd, mg x = some (.ref f) ∧ PySem.W.keepIn K (.ref f) = true ∧ Binds K fd ps [] ∧ FnOk P w K mg base (L2.CX P w) k f fd ps sp
end Fr
set_option Elab.async false
set_option linter.all false
set_option maxRecDepth 100000
namespace K05M
def fv (a b c d x y : Int) : Int := a * x * x * x + b * x * x * y + c * x * y * y + d * y * y * y
def fdisc (a b c d : Int) : Int := b * b * c * c - 4 * a * c * c * c - 4 * b * b * b * d - 27 * a * a * d * d + 18 * a * b * c * d
def fl2 (a b c d p q r s : Int) : Int := 3 * a * p * p * r + b * p * (p * s + 2 * q * r) + c * q * (2 * p * s + q * r) + 3 * d * q * q * s
def fl3 (a b c d p q r s : Int) : Int := 3 * a * p * r * r + b * r * (2 * p * s + q * r) + c * s * (p * s + 2 * q * r) + 3 * d * q * s * s
theorem put1 (a b c d p q r s i j : Int) : fv (fv a b c d p q) (fl2 a b c d p q r s) (fl3 a b c d p q r s) (fv a b c d r s) i j = fv a b c d (i * p + j * r) (i * q + j * s) := by
  unfold fv fl2 fl3
  grind
theorem put2 (a b c d p q r s i j k m : Int) : fl2 (fv a b c d p q) (fl2 a b c d p q r s) (fl3 a b c d p q r s) (fv a b c d r s) i j k m = fl2 a b c d (i * p + j * r) (i * q + j * s) (k * p + m * r) (k * q + m * s) := by
  unfold fv fl2 fl3
  grind
theorem put3 (a b c d p q r s i j k m : Int) : fl3 (fv a b c d p q) (fl2 a b c d p q r s) (fl3 a b c d p q r s) (fv a b c d r s) i j k m = fl3 a b c d (i * p + j * r) (i * q + j * s) (k * p + m * r) (k * q + m * s) := by
  unfold fv fl2 fl3
  grind
theorem disc (a b c d p q r s : Int) : fdisc (fv a b c d p q) (fl2 a b c d p q r s) (fl3 a b c d p q r s) (fv a b c d r s) = (p * s - q * r) * (p * s - q * r) * (p * s - q * r) * (p * s - q * r) * (p * s - q * r) * (p * s - q * r) * fdisc a b c d := by
  unfold fdisc fv fl2 fl3
  grind
theorem fv_mul (e a b c d x y : Int) : fv (e * a) (e * b) (e * c) (e * d) x y = e * fv a b c d x y := by unfold fv; grind
theorem fl2_mul (e a b c d p q r s : Int) : fl2 (e * a) (e * b) (e * c) (e * d) p q r s = e * fl2 a b c d p q r s := by unfold fl2; grind
theorem fl3_mul (e a b c d p q r s : Int) : fl3 (e * a) (e * b) (e * c) (e * d) p q r s = e * fl3 a b c d p q r s := by unfold fl3; grind
theorem disc_neg (a b c d : Int) : fdisc (-1 * a) (-1 * b) (-1 * c) (-1 * d) = fdisc a b c d := by unfold fdisc; grind
theorem det_mul (p q r s i j k m : Int) : (i * p + j * r) * (k * q + m * s) - (i * q + j * s) * (k * p + m * r) = (i * m - j * k) * (p * s - q * r) := by grind
theorem fv_one (a b c d : Int) : fv a b c d 1 0 = a ∧ fv a b c d 0 1 = d ∧ fl2 a b c d 1 0 0 1 = b ∧ fl3 a b c d 1 0 0 1 = c := by
  unfold fv fl2 fl3
  refine ⟨?_, ?_, ?_, ?_⟩ <;> grind
theorem und (p q r s e : Int) (he : e = p * s - q * r) (h : e = 1 ∨ e = -1) : (e * s) * p + (-e * q) * r = 1 ∧ (e * s) * q + (-e * q) * s = 0 ∧ (-e * r) * p + (e * p) * r = 0 ∧ (-e * r) * q + (e * p) * s = 1 := by
  have h1 : e * e = 1 := by rcases h with rfl | rfl <;> decide
  refine ⟨?_, ?_, ?_, ?_⟩ <;> grind
end K05M
set_option Elab.async false
set_option linter.all false
namespace K06M
open K05M
def h0 (a b c d : Int) : Int := b * b - 3 * a * c
def h1 (a b c d : Int) : Int := b * c - 9 * a * d
def h2 (a b c d : Int) : Int := c * c - 3 * b * d
def g0 (a b c d : Int) : Int := 2 * b * b * b - 9 * a * b * c + 27 * a * a * d
def g1 (a b c d : Int) : Int := 3 * b * b * c - 18 * a * c * c + 27 * a * b * d
def g2 (a b c d : Int) : Int := -3 * b * c * c + 18 * b * b * d - 27 * a * c * d
def g3 (a b c d : Int) : Int := -2 * c * c * c + 9 * b * c * d - 27 * a * d * d
def dv (a b c x y : Int) : Int := a * x * x + b * x * y + c * y * y
def ddisc (a b c : Int) : Int := b * b - 4 * a * c
def dl (a b c p q r s : Int) : Int := 2 * a * p * r + b * (p * s + q * r) + 2 * c * q * s
theorem hdisc (a b c d : Int) : ddisc (h0 a b c d) (h1 a b c d) (h2 a b c d) = -3 * fdisc a b c d := by
  unfold ddisc h0 h1 h2 fdisc; grind
theorem gh0 (a b c d : Int) : h0 (g0 a b c d) (g1 a b c d) (g2 a b c d) (g3 a b c d) = 27 * fdisc a b c d * h0 a b c d := by
  unfold h0 g0 g1 g2 fdisc; grind
theorem gh1 (a b c d : Int) : h1 (g0 a b c d) (g1 a b c d) (g2 a b c d) (g3 a b c d) = 27 * fdisc a b c d * h1 a b c d := by
  unfold h1 g0 g1 g2 g3 fdisc; grind
theorem gh2 (a b c d : Int) : h2 (g0 a b c d) (g1 a b c d) (g2 a b c d) (g3 a b c d) = 27 * fdisc a b c d * h2 a b c d := by
  unfold h2 g1 g2 g3 fdisc; grind
theorem led0 (a b c d p q r s : Int) : h0 (fv a b c d p q) (fl2 a b c d p q r s) (fl3 a b c d p q r s) (fv a b c d r s) = (p * s - q * r) * (p * s - q * r) * dv (h0 a b c d) (h1 a b c d) (h2 a b c d) p q := by
  unfold h0 h1 h2 fv fl2 fl3 dv; grind
theorem led1 (a b c d p q r s : Int) : h1 (fv a b c d p q) (fl2 a b c d p q r s) (fl3 a b c d p q r s) (fv a b c d r s) = (p * s - q * r) * (p * s - q * r) * dl (h0 a b c d) (h1 a b c d) (h2 a b c d) p q r s := by
  unfold h0 h1 h2 fv fl2 fl3 dl; grind
theorem led2 (a b c d p q r s : Int) : h2 (fv a b c d p q) (fl2 a b c d p q r s) (fl3 a b c d p q r s) (fv a b c d r s) = (p * s - q * r) * (p * s - q * r) * dv (h0 a b c d) (h1 a b c d) (h2 a b c d) r s := by
  unfold h0 h1 h2 fv fl2 fl3 dv; grind
theorem syz (a b c d x y : Int) : 4 * dv (h0 a b c d) (h1 a b c d) (h2 a b c d) x y * dv (h0 a b c d) (h1 a b c d) (h2 a b c d) x y * dv (h0 a b c d) (h1 a b c d) (h2 a b c d) x y = fv (g0 a b c d) (g1 a b c d) (g2 a b c d) (g3 a b c d) x y * fv (g0 a b c d) (g1 a b c d) (g2 a b c d) (g3 a b c d) x y + 27 * fdisc a b c d * fv a b c d x y * fv a b c d x y := by
  unfold dv h0 h1 h2 g0 g1 g2 g3 fdisc fv; grind
theorem gdisc (a b c d : Int) : fdisc (g0 a b c d) (g1 a b c d) (g2 a b c d) (g3 a b c d) = 729 * fdisc a b c d * fdisc a b c d * fdisc a b c d := by
  unfold g0 g1 g2 g3 fdisc; grind
theorem gled0 (a b c d p q r s : Int) : g0 (fv a b c d p q) (fl2 a b c d p q r s) (fl3 a b c d p q r s) (fv a b c d r s) = (p * s - q * r) * (p * s - q * r) * (p * s - q * r) * fv (g0 a b c d) (g1 a b c d) (g2 a b c d) (g3 a b c d) p q := by
  unfold g0 g1 g2 g3 fv fl2 fl3; grind
theorem gled1 (a b c d p q r s : Int) : g1 (fv a b c d p q) (fl2 a b c d p q r s) (fl3 a b c d p q r s) (fv a b c d r s) = (p * s - q * r) * (p * s - q * r) * (p * s - q * r) * fl2 (g0 a b c d) (g1 a b c d) (g2 a b c d) (g3 a b c d) p q r s := by
  unfold g0 g1 g2 g3 fv fl2 fl3; grind
theorem gled2 (a b c d p q r s : Int) : g2 (fv a b c d p q) (fl2 a b c d p q r s) (fl3 a b c d p q r s) (fv a b c d r s) = (p * s - q * r) * (p * s - q * r) * (p * s - q * r) * fl3 (g0 a b c d) (g1 a b c d) (g2 a b c d) (g3 a b c d) p q r s := by
  unfold g0 g1 g2 g3 fv fl2 fl3; grind
theorem gled3 (a b c d p q r s : Int) : g3 (fv a b c d p q) (fl2 a b c d p q r s) (fl3 a b c d p q r s) (fv a b c d r s) = (p * s - q * r) * (p * s - q * r) * (p * s - q * r) * fv (g0 a b c d) (g1 a b c d) (g2 a b c d) (g3 a b c d) r s := by
  unfold g0 g1 g2 g3 fv fl2 fl3; grind
theorem h_mul (e a b c d : Int) : h0 (e * a) (e * b) (e * c) (e * d) = e * e * h0 a b c d ∧ h1 (e * a) (e * b) (e * c) (e * d) = e * e * h1 a b c d ∧ h2 (e * a) (e * b) (e * c) (e * d) = e * e * h2 a b c d := by
  unfold h0 h1 h2
  refine ⟨?_, ?_, ?_⟩ <;> grind
theorem g_mul (e a b c d : Int) : g0 (e * a) (e * b) (e * c) (e * d) = e * e * e * g0 a b c d ∧ g1 (e * a) (e * b) (e * c) (e * d) = e * e * e * g1 a b c d ∧ g2 (e * a) (e * b) (e * c) (e * d) = e * e * e * g2 a b c d ∧ g3 (e * a) (e * b) (e * c) (e * d) = e * e * e * g3 a b c d := by
  unfold g0 g1 g2 g3
  refine ⟨?_, ?_, ?_, ?_⟩ <;> grind
end K06M
namespace TF
open PySem PySem.Spec PyProof.Rows L2 Fr
open K05M (fv fl2 fl3 fdisc)
open K06M
def topS (i : Nat) : Stmt := PySem.Challenge.pw_formrings_k28_ways_judged.main.body.getD i (.Pass ⟨0, 0, 0, 0⟩)
abbrev s_is_any_integer : Stmt := topS 10
abbrev N_is_any_integer : List Str := ["value"]
theorem sc_is_any_integer : FnScope N_is_any_integer ["value"] (defScope s_is_any_integer) := ⟨rfl, rfl, rfl, by decide +kernel, rfl, by decide +kernel, by decide +kernel⟩
abbrev s_is_short_integer : Stmt := topS 11
abbrev N_is_short_integer : List Str := ["value"]
theorem sc_is_short_integer : FnScope N_is_short_integer ["value"] (defScope s_is_short_integer) := ⟨rfl, rfl, rfl, by decide +kernel, rfl, by decide +kernel, by decide +kernel⟩
abbrev s_are_any_integers : Stmt := topS 13
abbrev N_are_any_integers : List Str := ["value", "many", "number"]
theorem sc_are_any_integers : FnScope N_are_any_integers ["value", "many"] (defScope s_are_any_integers) := ⟨rfl, rfl, rfl, by decide +kernel, rfl, by decide +kernel, by decide +kernel⟩
abbrev s_are_short_integers : Stmt := topS 14
abbrev N_are_short_integers : List Str := ["value", "many", "n"]
theorem sc_are_short_integers : FnScope N_are_short_integers ["value", "many"] (defScope s_are_short_integers) := ⟨rfl, rfl, rfl, by decide +kernel, rfl, by decide +kernel, by decide +kernel⟩
abbrev s_determinant_of : Stmt := topS 19
abbrev N_determinant_of : List Str := ["change", "p", "q", "r", "s"]
theorem sc_determinant_of : FnScope N_determinant_of ["change"] (defScope s_determinant_of) := ⟨rfl, rfl, rfl, by decide +kernel, rfl, by decide +kernel, by decide +kernel⟩
abbrev s_is_change : Stmt := topS 20
abbrev N_is_change : List Str := ["value", "row"]
theorem sc_is_change : FnScope N_is_change ["value"] (defScope s_is_change) := ⟨rfl, rfl, rfl, by decide +kernel, rfl, by decide +kernel, by decide +kernel⟩
abbrev s_raised : Stmt := topS 22
abbrev N_raised : List Str := ["base", "exponent", "result", "_"]
theorem sc_raised : FnScope N_raised ["base", "exponent"] (defScope s_raised) := ⟨rfl, rfl, rfl, by decide +kernel, rfl, by decide +kernel, by decide +kernel⟩
abbrev s_form_value : Stmt := topS 24
abbrev N_form_value : List Str := ["coefficients", "x", "y", "a", "b", "c", "d"]
theorem sc_form_value : FnScope N_form_value ["coefficients", "x", "y"] (defScope s_form_value) := ⟨rfl, rfl, rfl, by decide +kernel, rfl, by decide +kernel, by decide +kernel⟩
abbrev s_form_led : Stmt := topS 25
abbrev N_form_led : List Str := ["coefficients", "change", "a", "b", "c", "d", "p", "q", "r", "s", "e", "second", "third"]
theorem sc_form_led : FnScope N_form_led ["coefficients", "change"] (defScope s_form_led) := ⟨rfl, rfl, rfl, by decide +kernel, rfl, by decide +kernel, by decide +kernel⟩
abbrev s_check_form : Stmt := topS 26
abbrev N_check_form : List Str := ["value"]
theorem sc_check_form : FnScope N_check_form ["value"] (defScope s_check_form) := ⟨rfl, rfl, rfl, by decide +kernel, rfl, by decide +kernel, by decide +kernel⟩
abbrev s_form_of : Stmt := topS 27
abbrev N_form_of : List Str := ["coefficients", "form"]
theorem sc_form_of : FnScope N_form_of ["coefficients"] (defScope s_form_of) := ⟨rfl, rfl, rfl, by decide +kernel, rfl, by decide +kernel, by decide +kernel⟩
abbrev s_Form___init__ : Stmt := inClass (topS 28) 0
abbrev N_Form___init__ : List Str := ["self", "coefficients"]
theorem sc_Form___init__ : FnScope N_Form___init__ ["self", "coefficients"] (defScope s_Form___init__) := ⟨rfl, rfl, rfl, by decide +kernel, rfl, by decide +kernel, by decide +kernel⟩
abbrev s_Form_coefficients : Stmt := inClass (topS 28) 2
abbrev N_Form_coefficients : List Str := ["self"]
theorem sc_Form_coefficients : FnScope N_Form_coefficients ["self"] (defScope s_Form_coefficients) := ⟨rfl, rfl, rfl, by decide +kernel, rfl, by decide +kernel, by decide +kernel⟩
abbrev s_Form___neg__ : Stmt := inClass (topS 28) 13
abbrev N_Form___neg__ : List Str := ["self", "number"]
theorem sc_Form___neg__ : FnScope N_Form___neg__ ["self"] (defScope s_Form___neg__) := ⟨rfl, rfl, rfl, by decide +kernel, rfl, by decide +kernel, by decide +kernel⟩
abbrev s_are_within_digits : Stmt := topS 31
abbrev N_are_within_digits : List Str := ["coefficients", "limit", "number"]
theorem sc_are_within_digits : FnScope N_are_within_digits ["coefficients"] (defScope s_are_within_digits) := ⟨rfl, rfl, rfl, by decide +kernel, rfl, by decide +kernel, by decide +kernel⟩
abbrev s_check_digits : Stmt := topS 32
abbrev N_check_digits : List Str := ["form"]
theorem sc_check_digits : FnScope N_check_digits ["form"] (defScope s_check_digits) := ⟨rfl, rfl, rfl, by decide +kernel, rfl, by decide +kernel, by decide +kernel⟩
abbrev s_check_pair : Stmt := topS 34
abbrev N_check_pair : List Str := ["one", "other"]
theorem sc_check_pair : FnScope N_check_pair ["one", "other"] (defScope s_check_pair) := ⟨rfl, rfl, rfl, by decide +kernel, rfl, by decide +kernel, by decide +kernel⟩
abbrev s_leads : Stmt := topS 35
abbrev N_leads : List Str := ["one", "other", "change"]
theorem sc_leads : FnScope N_leads ["one", "other", "change"] (defScope s_leads) := ⟨rfl, rfl, rfl, by decide +kernel, rfl, by decide +kernel, by decide +kernel⟩
abbrev s_is_way : Stmt := topS 36
abbrev N_is_way : List Str := ["one", "other", "value"]
theorem sc_is_way : FnScope N_is_way ["one", "other", "value"] (defScope s_is_way) := ⟨rfl, rfl, rfl, by decide +kernel, rfl, by decide +kernel, by decide +kernel⟩
abbrev s_l_pot : Stmt := topS 38
abbrev N_l_pot : List Str := ["_law_script", "_law_at_here", "_law_cell", "_law_great", "_law_mixed"]
theorem sc_l_pot : FnScope N_l_pot ["_law_script", "_law_at_here"] (defScope s_l_pot) := ⟨rfl, rfl, rfl, by decide +kernel, rfl, by decide +kernel, by decide +kernel⟩
abbrev s_l_dip : Stmt := topS 39
abbrev N_l_dip : List Str := ["_law_pot_here", "_law_total", "_law_found", "_law_one", "_law_two"]
theorem sc_l_dip : FnScope N_l_dip ["_law_pot_here", "_law_total"] (defScope s_l_dip) := ⟨rfl, rfl, rfl, by decide +kernel, rfl, by decide +kernel, by decide +kernel⟩
abbrev s_l_pick : Stmt := topS 40
abbrev N_l_pick : List Str := ["_law_pot_here", "_law_items"]
theorem sc_l_pick : FnScope N_l_pick ["_law_pot_here", "_law_items"] (defScope s_l_pick) := ⟨rfl, rfl, rfl, by decide +kernel, rfl, by decide +kernel, by decide +kernel⟩
abbrev s_l_at : Stmt := topS 41
abbrev N_l_at : List Str := ["_law_row_here", "_law_x", "_law_y", "_law_a", "_law_b", "_law_c", "_law_d"]
theorem sc_l_at : FnScope N_l_at ["_law_row_here", "_law_x", "_law_y"] (defScope s_l_at) := ⟨rfl, rfl, rfl, by decide +kernel, rfl, by decide +kernel, by decide +kernel⟩
abbrev s_l_led : Stmt := topS 42
abbrev N_l_led : List Str := ["_law_row_here", "_law_change_here", "_law_p", "_law_q", "_law_r", "_law_s", "_law_sense", "_law_first", "_law_last", "_law_plus", "_law_minus", "_law_third", "_law_second"]
theorem sc_l_led : FnScope N_l_led ["_law_row_here", "_law_change_here"] (defScope s_l_led) := ⟨rfl, rfl, rfl, by decide +kernel, rfl, by decide +kernel, by decide +kernel⟩
abbrev s_l_joined : Stmt := topS 43
abbrev N_l_joined : List Str := ["_law_one", "_law_other", "_law_p", "_law_q", "_law_r", "_law_s", "_law_i", "_law_j", "_law_k", "_law_l"]
theorem sc_l_joined : FnScope N_l_joined ["_law_one", "_law_other"] (defScope s_l_joined) := ⟨rfl, rfl, rfl, by decide +kernel, rfl, by decide +kernel, by decide +kernel⟩
abbrev s_l_back : Stmt := topS 44
abbrev N_l_back : List Str := ["_law_change_here", "_law_p", "_law_q", "_law_r", "_law_s", "_law_sense"]
theorem sc_l_back : FnScope N_l_back ["_law_change_here"] (defScope s_l_back) := ⟨rfl, rfl, rfl, by decide +kernel, rfl, by decide +kernel, by decide +kernel⟩
abbrev s_l_change : Stmt := topS 45
abbrev N_l_change : List Str := ["_law_pot_here", "_law_most", "_law_found", "_law_turn", "_law_step", "_law_some"]
theorem sc_l_change : FnScope N_l_change ["_law_pot_here", "_law_most"] (defScope s_l_change) := ⟨rfl, rfl, rfl, by decide +kernel, rfl, by decide +kernel, by decide +kernel⟩
abbrev s_l_row : Stmt := topS 46
abbrev N_l_row : List Str := ["_law_pot_here", "_law_most", "_law_sort", "_law_a", "_law_b", "_law_c", "_law_d", "_law_turn"]
theorem sc_l_row : FnScope N_l_row ["_law_pot_here", "_law_most"] (defScope s_l_row) := ⟨rfl, rfl, rfl, by decide +kernel, rfl, by decide +kernel, by decide +kernel⟩
abbrev s_l_is_pair : Stmt := topS 47
abbrev N_l_is_pair : List Str := ["_law_value", "_law_entry"]
theorem sc_l_is_pair : FnScope N_l_is_pair ["_law_value"] (defScope s_l_is_pair) := ⟨rfl, rfl, rfl, by decide +kernel, rfl, by decide +kernel, by decide +kernel⟩
abbrev s_l_is_due : Stmt := topS 48
abbrev N_l_is_due : List Str := ["_law_one", "_law_other", "_law_value", "_law_p", "_law_q", "_law_r", "_law_s"]
theorem sc_l_is_due : FnScope N_l_is_due ["_law_one", "_law_other", "_law_value"] (defScope s_l_is_due) := ⟨rfl, rfl, rfl, by decide +kernel, rfl, by decide +kernel, by decide +kernel⟩
abbrev s_l_near : Stmt := topS 49
abbrev N_l_near : List Str := ["_law_pot_here", "_law_change_here", "_law_p", "_law_q", "_law_r", "_law_s", "_law_odd", "_law_found"]
theorem sc_l_near : FnScope N_l_near ["_law_pot_here", "_law_change_here"] (defScope s_l_near) := ⟨rfl, rfl, rfl, by decide +kernel, rfl, by decide +kernel, by decide +kernel⟩
abbrev s_l_right : Stmt := topS 50
abbrev N_l_right : List Str := ["_law_pot_here", "_law_one", "_law_change_here", "_law_other", "_law_value", "_law_first", "_law_second"]
theorem sc_l_right : FnScope N_l_right ["_law_pot_here"] (defScope s_l_right) := ⟨rfl, rfl, rfl, by decide +kernel, rfl, by decide +kernel, by decide +kernel⟩
abbrev s_law : Stmt := topS 51
abbrev N_law : List Str := ["_law_script", "_law_spot", "_law_plain", "_law_cubic", "_law_told", "_law_far", "_law_flat"]
theorem sc_law : FnScope N_law ["_law_script"] (defScope s_law) := ⟨rfl, rfl, rfl, by decide +kernel, rfl, by decide +kernel, by decide +kernel⟩
structure Txt (K : PySem.W.Frag) (mg : Str → Option Value) (C_Form : Addr) : Prop where
  g_Form : mg "Form" = some (.ref C_Form)
  cl_Form : Cls K C_Form
  ty_Form : TyI K C_Form
  na_Form_coefficients : NoAttr K C_Form "_coefficients"
  d_is_any_integer : ∃ f fd, mg "is_any_integer" = some (.ref f) ∧ Fun K "is_any_integer" "is_any_integer" s_is_any_integer f fd
  d_is_short_integer : ∃ f fd, mg "is_short_integer" = some (.ref f) ∧ Fun K "is_short_integer" "is_short_integer" s_is_short_integer f fd
  d_are_any_integers : ∃ f fd, mg "are_any_integers" = some (.ref f) ∧ Fun K "are_any_integers" "are_any_integers" s_are_any_integers f fd
  d_are_short_integers : ∃ f fd, mg "are_short_integers" = some (.ref f) ∧ Fun K "are_short_integers" "are_short_integers" s_are_short_integers f fd
  d_determinant_of : ∃ f fd, mg "determinant_of" = some (.ref f) ∧ Fun K "determinant_of" "determinant_of" s_determinant_of f fd
  d_is_change : ∃ f fd, mg "is_change" = some (.ref f) ∧ Fun K "is_change" "is_change" s_is_change f fd
  d_raised : ∃ f fd, mg "raised" = some (.ref f) ∧ Fun K "raised" "raised" s_raised f fd
  d_form_value : ∃ f fd, mg "form_value" = some (.ref f) ∧ Fun K "form_value" "form_value" s_form_value f fd
  d_form_led : ∃ f fd, mg "form_led" = some (.ref f) ∧ Fun K "form_led" "form_led" s_form_led f fd
  d_check_form : ∃ f fd, mg "check_form" = some (.ref f) ∧ Fun K "check_form" "check_form" s_check_form f fd
  d_form_of : ∃ f fd, mg "form_of" = some (.ref f) ∧ Fun K "form_of" "form_of" s_form_of f fd
  e_Form___init__ : ∃ (p f : Addr) (fd : FuncData), Mk K C_Form f ∧ Fun K "__init__" "Form.__init__" s_Form___init__ f fd
  e_Form_coefficients : ∃ (p f : Addr) (fd : FuncData), PropOf K C_Form "coefficients" p f ∧ Fun K "coefficients" "Form.coefficients" s_Form_coefficients f fd
  e_Form___neg__ : ∃ (p f : Addr) (fd : FuncData), Meth K C_Form "__neg__" f ∧ Fun K "__neg__" "Form.__neg__" s_Form___neg__ f fd
  d_are_within_digits : ∃ f fd, mg "are_within_digits" = some (.ref f) ∧ Fun K "are_within_digits" "are_within_digits" s_are_within_digits f fd
  d_check_digits : ∃ f fd, mg "check_digits" = some (.ref f) ∧ Fun K "check_digits" "check_digits" s_check_digits f fd
  d_check_pair : ∃ f fd, mg "check_pair" = some (.ref f) ∧ Fun K "check_pair" "check_pair" s_check_pair f fd
  d_leads : ∃ f fd, mg "leads" = some (.ref f) ∧ Fun K "leads" "leads" s_leads f fd
  d_is_way : ∃ f fd, mg "is_way" = some (.ref f) ∧ Fun K "is_way" "is_way" s_is_way f fd
  d_l_pot : ∃ f fd, mg "_law_pot" = some (.ref f) ∧ Fun K "_law_pot" "_law_pot" s_l_pot f fd
  d_l_dip : ∃ f fd, mg "_law_dip" = some (.ref f) ∧ Fun K "_law_dip" "_law_dip" s_l_dip f fd
  d_l_pick : ∃ f fd, mg "_law_pick" = some (.ref f) ∧ Fun K "_law_pick" "_law_pick" s_l_pick f fd
  d_l_at : ∃ f fd, mg "_law_at" = some (.ref f) ∧ Fun K "_law_at" "_law_at" s_l_at f fd
  d_l_led : ∃ f fd, mg "_law_led" = some (.ref f) ∧ Fun K "_law_led" "_law_led" s_l_led f fd
  d_l_joined : ∃ f fd, mg "_law_joined" = some (.ref f) ∧ Fun K "_law_joined" "_law_joined" s_l_joined f fd
  d_l_back : ∃ f fd, mg "_law_back" = some (.ref f) ∧ Fun K "_law_back" "_law_back" s_l_back f fd
  d_l_change : ∃ f fd, mg "_law_change" = some (.ref f) ∧ Fun K "_law_change" "_law_change" s_l_change f fd
  d_l_row : ∃ f fd, mg "_law_row" = some (.ref f) ∧ Fun K "_law_row" "_law_row" s_l_row f fd
  d_l_is_pair : ∃ f fd, mg "_law_is_pair" = some (.ref f) ∧ Fun K "_law_is_pair" "_law_is_pair" s_l_is_pair f fd
  d_l_is_due : ∃ f fd, mg "_law_is_due" = some (.ref f) ∧ Fun K "_law_is_due" "_law_is_due" s_l_is_due f fd
  d_l_near : ∃ f fd, mg "_law_near" = some (.ref f) ∧ Fun K "_law_near" "_law_near" s_l_near f fd
  d_l_right : ∃ f fd, mg "_law_right" = some (.ref f) ∧ Fun K "_law_right" "_law_right" s_l_right f fd
  d_law : ∃ f fd, mg "law" = some (.ref f) ∧ Fun K "law" "law" s_law f fd
  b_abs : mg "abs" = none
  b_all : mg "all" = none
  b_bool : mg "bool" = none
  b_int : mg "int" = none
  b_isinstance : mg "isinstance" = none
  b_len : mg "len" = none
  b_max : mg "max" = none
  b_min : mg "min" = none
  b_range : mg "range" = none
  b_tuple : mg "tuple" = none
  x_LIMIT : ∃ t, mg "LIMIT" = some (.int (1000000000000000000000000000000000000000000000000000000000000) t)
  x_MOST_DIGITS : ∃ t, mg "MOST_DIGITS" = some (.int (20) t)
def Short (i : Int) : Prop := -1000000000000000000000000000000000000000000000000000000000000 < i ∧ i < 1000000000000000000000000000000000000000000000000000000000000
theorem Short.b {i : Int} (h : Short i) : B 200 i := ⟨by have := h.1; have := h.2; omega, by decide⟩
def Ti (H : Hp) (a : Addr) (ns : List Int) : Prop := H a = some (.tup (ns.map V.int))
def T4 (H : Hp) (a : Addr) (p q r s : Int) : Prop := ∃ t1 t2, H a = some (.tup [.ref t1, .ref t2]) ∧ H t1 = some (.tup [.int p, .int q]) ∧ H t2 = some (.tup [.int r, .int s])
def FormAt (C : Addr) (H : Hp) (x : Addr) (ns : List Int) : Prop := ∃ dx t, H x = some (.ins C dx [(("_coefficients" : Str), .ref t)]) ∧ Ti H t ns
def ChOk (p q r s : Int) : Prop := Short p ∧ Short q ∧ Short r ∧ Short s ∧ (p * s - q * r = 1 ∨ p * s - q * r = -1)
theorem Ti.ex {H H' : Hp} {a : Addr} {ns : List Int} (h : Ti H a ns) (e : ∀ b xs, H b = some (.tup xs) → H' b = some (.tup xs)) : Ti H' a ns := e _ _ h
theorem T4.ex {H H' : Hp} {a : Addr} {p q r s : Int} (h : T4 H a p q r s) (e : ∀ b xs, H b = some (.tup xs) → H' b = some (.tup xs)) : T4 H' a p q r s := by
  obtain ⟨t1, t2, h0, h1, h2⟩ := h
  exact ⟨t1, t2, e _ _ h0, e _ _ h1, e _ _ h2⟩
theorem get_int {ns : List Int} {i : Nat} {x : V} (hx : (ns.map V.int)[i]? = some x) : ∃ n, ns[i]? = some n ∧ x = V.int n := by
  rw [List.getElem?_map] at hx
  cases e : ns[i]? with
  | none => rw [e] at hx; cases hx
  | some z => rw [e] at hx; exact ⟨z, rfl, (Option.some.inj hx).symm⟩
def gcdL (ns : List Int) : Nat := ns.foldl (fun g n => Nat.gcd g n.natAbs) 0
theorem gcdL_take {ns : List Int} {i : Nat} {n : Int} (h : ns[i]? = some n) : gcdL (ns.take (i + 1)) = Nat.gcd (gcdL (ns.take i)) n.natAbs := by
  unfold gcdL
  rw [List.take_add_one, h, List.foldl_append]
  rfl
def fled (a b c d p q r s : Int) : List Int := [(p * s - q * r) * fv a b c d p q, (p * s - q * r) * fl2 a b c d p q r s, (p * s - q * r) * fl3 a b c d p q r s, (p * s - q * r) * fv a b c d r s]
theorem un4 {K : PySem.W.Frag} {i j k l : Nat} {σ : L2.St} {H : Hp} {a : Addr} {p q r s : Int} {Q : L2.St → Hp → Prop} (h : T4 H a p q r s)
    (z : Q ((((σ.set i (some (.int p))).set j (some (.int q))).set k (some (.int r))).set l (some (.int s))) H) :
    gTup K 2 (gCons (gTup K 2 (gCons (gName i) (gCons (gName j) gNil))) (gCons (gTup K 2 (gCons (gName k) (gCons (gName l) gNil))) gNil)) (.ref a) σ H Q := by
  obtain ⟨t1, t2, h0, h1, h2⟩ := h
  refine ⟨a, _, rfl, SqT.of h0, rfl, _, _, rfl, ?_⟩
  refine ⟨t1, _, rfl, SqT.of h1, rfl, _, _, rfl, ?_⟩
  refine ⟨_, _, rfl, ⟨rfl, ?_⟩⟩
  refine ⟨_, _, rfl, ?_⟩
  refine ⟨t2, _, rfl, SqT.of h2, rfl, _, _, rfl, ?_⟩
  exact ⟨_, _, rfl, ⟨rfl, ⟨rfl, z⟩⟩⟩
theorem unI4 {K : PySem.W.Frag} {i j k l : Nat} {σ : L2.St} {H : Hp} {t : Addr} {a b c d : Int} {Q : L2.St → Hp → Prop} (h : Ti H t [a, b, c, d])
    (z : Q ((((σ.set i (some (.int a))).set j (some (.int b))).set k (some (.int c))).set l (some (.int d))) H) :
    gTup K 4 (gCons (gName i) (gCons (gName j) (gCons (gName k) (gCons (gName l) gNil)))) (.ref t) σ H Q :=
  ⟨t, _, rfl, SqT.of h, rfl, _, _, rfl, _, _, rfl, _, _, rfl, _, _, rfl, rfl, z⟩
theorem unI3 {K : PySem.W.Frag} {i j k : Nat} {σ : L2.St} {H : Hp} {t : Addr} {a b c : Int} {Q : L2.St → Hp → Prop} (h : Ti H t [a, b, c])
    (z : Q (((σ.set i (some (.int a))).set j (some (.int b))).set k (some (.int c))) H) :
    gTup K 3 (gCons (gName i) (gCons (gName j) (gCons (gName k) gNil))) (.ref t) σ H Q :=
  ⟨t, _, rfl, SqT.of h, rfl, _, _, rfl, _, _, rfl, _, _, rfl, rfl, z⟩
theorem t4_new {H : Hp} {t1 t2 x : Addr} {p q r s : Int} (n1 : H t1 = none) (n2 : upd H t1 (.tup [.int p, .int q]) t2 = none) (n3 : upd (upd H t1 (.tup [.int p, .int q])) t2 (.tup [.int r, .int s]) x = none) :
    Ex0 H (upd (upd (upd H t1 (.tup [.int p, .int q])) t2 (.tup [.int r, .int s])) x (.tup [.ref t1, .ref t2])) ∧ T4 (upd (upd (upd H t1 (.tup [.int p, .int q])) t2 (.tup [.int r, .int s])) x (.tup [.ref t1, .ref t2])) x p q r s :=
  ⟨((Ex0.new n1).trans (Ex0.new n2)).trans (Ex0.new n3), t1, t2, upd_same, Ex0.ap (Ex0.new n3) (Ex0.ap (Ex0.new n2) upd_same), Ex0.ap (Ex0.new n3) upd_same⟩
theorem Ex0.t4 {H H' : Hp} {a : Addr} {p q r s : Int} (e : Ex0 H H') (h : T4 H a p q r s) : T4 H' a p q r s := h.ex fun _ _ z => Ex0.ap e z
theorem Ex0.ti {H H' : Hp} {a : Addr} {ns : List Int} (e : Ex0 H H') (h : Ti H a ns) : Ti H' a ns := Ex0.ap e h
theorem Ex0.fo {C : Addr} {H H' : Hp} {x : Addr} {ns : List Int} (e : Ex0 H H') (h : FormAt C H x ns) : FormAt C H' x ns := by
  obtain ⟨dx, t, h1, h2⟩ := h
  exact ⟨dx, t, Ex0.ap e h1, Ex0.ap e h2⟩
inductive Od (H : Hp) : V → Prop where
  | non : Od H .non
  | tt : Od H (.bl true)
  | one : Od H (.str "1")
  | tup {a : Addr} (h : H a = some (.tup [.int 1])) : Od H (.ref a)
inductive RowV (H : Hp) : V → Option (Int × Int) → Prop where
  | yes {a : Addr} {p q : Int} (h : H a = some (.tup [.int p, .int q])) : RowV H (.ref a) (some (p, q))
  | odd {v : V} (h : Od H v) : RowV H v none
  | int (n : Int) : RowV H (.int n) none
  | lst {a : Addr} {xs : List V} (h : H a = some (.lst xs)) : RowV H (.ref a) none
  | snd {a : Addr} {n : Int} {v : V} (h : H a = some (.tup [.int n, v])) (o : Od H v) : RowV H (.ref a) none
def two (o1 o2 : Option (Int × Int)) : Option (Int × Int × Int × Int) := match o1, o2 with
  | some (p, q), some (r, s) => some (p, q, r, s)
  | _, _ => none
inductive ChV (H : Hp) : V → Option (Int × Int × Int × Int) → Prop where
  | two {a : Addr} {x y : V} {o1 o2 : Option (Int × Int)} (h : H a = some (.tup [x, y])) (h1 : RowV H x o1) (h2 : RowV H y o2) : ChV H (.ref a) (two o1 o2)
  | odd {v : V} (h : Od H v) : ChV H v none
  | int (n : Int) : ChV H (.int n) none
  | lst {a : Addr} {xs : List V} (h : H a = some (.lst xs)) : ChV H (.ref a) none
  | len {a : Addr} {xs : List V} (h : H a = some (.tup xs)) (l : xs.length ≠ 2) : ChV H (.ref a) none
theorem Od.ex {H H' : Hp} {v : V} (e : Ex0 H H') (h : Od H v) : Od H' v := by
  cases h with
  | non => exact .non
  | tt => exact .tt
  | one => exact .one
  | tup h => exact .tup (Ex0.ap e h)
theorem RowV.ex {H H' : Hp} {v : V} {o : Option (Int × Int)} (e : Ex0 H H') (h : RowV H v o) : RowV H' v o := by
  cases h with
  | yes h => exact .yes (Ex0.ap e h)
  | odd h => exact .odd (h.ex e)
  | int n => exact .int n
  | lst h => exact .lst (Ex0.ap e h)
  | snd h o => exact .snd (Ex0.ap e h) (o.ex e)
theorem ChV.ex {H H' : Hp} {v : V} {o : Option (Int × Int × Int × Int)} (e : Ex0 H H') (h : ChV H v o) : ChV H' v o := by
  cases h with
  | two h h1 h2 => exact .two (Ex0.ap e h) (h1.ex e) (h2.ex e)
  | odd h => exact .odd (h.ex e)
  | int n => exact .int n
  | lst h => exact .lst (Ex0.ap e h)
  | len h l => exact .len (Ex0.ap e h) l
def good (o : Option (Int × Int × Int × Int)) : Bool := match o with
  | some (p, q, r, s) => decide (p * s - q * r = 1 ∨ p * s - q * r = -1)
  | none => false
def leadsTo (o : Option (Int × Int × Int × Int)) (a b c d : Int) (ms : List Int) : Bool := match o with
  | some (p, q, r, s) => decide ((p * s - q * r = 1 ∨ p * s - q * r = -1) ∧ fled a b c d p q r s = ms)
  | none => false
def OB (o : Option (Int × Int × Int × Int)) : Prop := ∀ p q r s, o = some (p, q, r, s) → B 300 p ∧ B 300 q ∧ B 300 r ∧ B 300 s
def Dig (n : Int) : Prop := -100000000000000000000 < n ∧ n < 100000000000000000000
theorem putF_same {u v : V} : putF ("_coefficients" : Str) v [(("_coefficients" : Str), u)] = [(("_coefficients" : Str), v)] := by simp [putF]
theorem lk_same {u : V} : List.lookup ("_coefficients" : Str) [(("_coefficients" : Str), u)] = some u := by simp [List.lookup]
section
def sp_is_any_integer (_ : PySem.W.Frag) (C : Addr) : Sp := fun vs H Q _ => ∃ (v : V) (b : Bool), vs = [v] ∧ ((∃ i, v = .int i ∧ b = true) ∨ (Od H v ∧ b = false)) ∧ Q (.bl b) H
def sp_are_any_integers (_ : PySem.W.Frag) (C : Addr) : Sp := fun vs H Q _ => ∃ (v : V) (o : Option (Int × Int)), vs = [v, .int 2] ∧ RowV H v o ∧ ∀ H', Ex0 H H' → Q (.bl o.isSome) H'
def sp_determinant_of (_ : PySem.W.Frag) (C : Addr) : Sp := fun vs H Q _ => ∃ (a : Addr) (p q r s : Int), vs = [.ref a] ∧ T4 H a p q r s ∧ B 300 p ∧ B 300 q ∧ B 300 r ∧ B 300 s ∧ Q (.int (p * s - q * r)) H
def sp_is_change (_ : PySem.W.Frag) (C : Addr) : Sp := fun vs H Q _ => ∃ (v : V) (o : Option (Int × Int × Int × Int)), vs = [v] ∧ ChV H v o ∧ OB o ∧ ∀ H', Ex0 H H' → Q (.bl (good o)) H'
def sp_raised (_ : PySem.W.Frag) (C : Addr) : Sp := fun vs H Q _ => ∃ (b : Int) (e : Nat), vs = [.int b, .int (e : Int)] ∧ (∃ k : Nat, 0 < k ∧ k * e ≤ 2600 ∧ k ≤ 250 ∧ b.natAbs < 2 ^ k) ∧ Q (.int (b ^ e)) H
def sp_are_within_digits (_ : PySem.W.Frag) (C : Addr) : Sp := fun vs H Q _ => ∃ (t : Addr) (ns : List Int), vs = [.ref t] ∧ Ti H t ns ∧ ns.length ≤ 1000 ∧ (∀ n ∈ ns, Dig n) ∧ ∀ H', Ex0 H H' → Q (.bl true) H'
def sp_check_digits (_ : PySem.W.Frag) (C : Addr) : Sp := fun vs H Q _ => ∃ (x : Addr) (ns : List Int), vs = [.ref x] ∧ FormAt C H x ns ∧ ns.length ≤ 1000 ∧ (∀ n ∈ ns, Dig n) ∧ ∀ H', Ex0 H H' → Q .non H'
def sp_check_pair (_ : PySem.W.Frag) (C : Addr) : Sp := fun vs H Q _ => ∃ (x y : Addr) (ns ms : List Int), vs = [.ref x, .ref y] ∧ FormAt C H x ns ∧ FormAt C H y ms ∧ ns.length ≤ 1000 ∧ ms.length ≤ 1000 ∧ (∀ n ∈ ns, Dig n) ∧ (∀ n ∈ ms, Dig n) ∧ ∀ H', Ex0 H H' → Q .non H'
def sp_leads (_ : PySem.W.Frag) (C : Addr) : Sp := fun vs H Q _ => ∃ (x y u : Addr) (a b c d p q r s : Int) (ms : List Int), vs = [.ref x, .ref y, .ref u] ∧ FormAt C H x [a, b, c, d] ∧ FormAt C H y ms ∧ T4 H u p q r s ∧ B 1000 a ∧ B 1000 b ∧ B 1000 c ∧ B 1000 d ∧ (B 300 p ∧ B 300 q ∧ B 300 r ∧ B 300 s) ∧ ∀ H', Ex0 H H' → Q (.bl (decide (fled a b c d p q r s = ms))) H'
def sp_is_way (_ : PySem.W.Frag) (C : Addr) : Sp := fun vs H Q _ => ∃ (x y : Addr) (v : V) (a b c d : Int) (ms : List Int) (o : Option (Int × Int × Int × Int)), vs = [.ref x, .ref y, v] ∧ FormAt C H x [a, b, c, d] ∧ FormAt C H y ms ∧ ms.length ≤ 1000 ∧ (∀ n ∈ [a, b, c, d], Dig n) ∧ (∀ n ∈ ms, Dig n) ∧ ChV H v o ∧ OB o ∧ ∀ H', Ex0 H H' → Q (.bl (leadsTo o a b c d ms)) H'
def sp_is_short_integer (_ : PySem.W.Frag) (C : Addr) : Sp := fun vs H Q _ => ∃ i : Int, vs = [.int i] ∧ Short i ∧ Q (.bl true) H
def sp_are_short_integers (_ : PySem.W.Frag) (C : Addr) : Sp := fun vs H Q _ => ∃ (a : Addr) (ns : List Int), vs = [.ref a, .int (ns.length : Int)] ∧ Ti H a ns ∧ ns.length ≤ 1000 ∧ (∀ n ∈ ns, Short n) ∧ ∀ H', Ex0 H H' → Q (.bl true) H'
def sp_check_form (_ : PySem.W.Frag) (C : Addr) : Sp := fun vs H Q _ => ∃ (x : Addr) (ns : List Int), vs = [.ref x] ∧ FormAt C H x ns ∧ Q .non H
def sp_form_value (_ : PySem.W.Frag) (C : Addr) : Sp := fun vs H Q _ => ∃ (t : Addr) (a b c d x y : Int), vs = [.ref t, .int x, .int y] ∧ Ti H t [a, b, c, d] ∧ B 1000 a ∧ B 1000 b ∧ B 1000 c ∧ B 1000 d ∧ B 300 x ∧ B 300 y ∧ Q (.int (fv a b c d x y)) H
def sp_form_led (_ : PySem.W.Frag) (C : Addr) : Sp := fun vs H Q _ => ∃ (t u : Addr) (a b c d p q r s : Int), vs = [.ref t, .ref u] ∧ Ti H t [a, b, c, d] ∧ T4 H u p q r s ∧ B 1000 a ∧ B 1000 b ∧ B 1000 c ∧ B 1000 d ∧ B 300 p ∧ B 300 q ∧ B 300 r ∧ B 300 s ∧ ∀ x H', Ex0 H H' → Ti H' x (fled a b c d p q r s) → Q (.ref x) H'
def sp_form_of (_ : PySem.W.Frag) (C : Addr) : Sp := fun vs H Q _ => ∃ (t : Addr) (ns : List Int), vs = [.ref t] ∧ Ti H t ns ∧ ∀ x H', Ex0 H H' → FormAt C H' x ns → Q (.ref x) H'
def sp_Form___init__ (_ : PySem.W.Frag) (C : Addr) : Sp := fun vs H Q _ => ∃ (x dx t : Addr) (ns : List Int), vs = [.ref x, .ref t] ∧ H x = some (.ins C dx []) ∧ Ti H t ns ∧ ns.length = 4 ∧ (∀ n ∈ ns, Short n) ∧ ∀ H', (∀ b o, b ≠ x → H b = some o → H' b = some o) → H' x = some (.ins C dx [(("_coefficients" : Str), .ref t)]) → Q .non H'
def sp_Form_coefficients (_ : PySem.W.Frag) (C : Addr) : Sp := fun vs H Q _ => ∃ (x : Addr) (ns : List Int), vs = [.ref x] ∧ FormAt C H x ns ∧ ∀ t, Ti H t ns → Q (.ref t) H
def sp_Form___neg__ (_ : PySem.W.Frag) (C : Addr) : Sp := fun vs H Q _ => ∃ (z : Addr) (ns : List Int), vs = [.ref z] ∧ FormAt C H z ns ∧ ns.length ≤ 1000 ∧ ∀ x H', Ex0 H H' → FormAt C H' x (ns.map fun n => -n) → Q (.ref x) H'
end
section
variable {P : Program} {w : World} {K : PySem.W.Frag} {mg : Str → Option Value} {base : Heap} {C_Form : Addr}
theorem ok_is_any_integer (T : Txt K mg C_Form) : Def P w K mg base 1 "is_any_integer" ["value"] (sp_is_any_integer K C_Form) := by
  obtain ⟨f_, fd_, g_, F_⟩ := T.d_is_any_integer
  refine ⟨f_, fd_, g_, F_.kp, F_.binds (ps := ["value"]) (fun _ _ _ _ _ _ us hl => match us, hl with | [_], _ => rfl), ?_⟩
  refine F_.ok sc_is_any_integer (fun vs H Q E h => ?_) (fun cdv A outer s H vs Q E hr h => ?_)
  · first | (obtain ⟨rfl, _⟩ := h; rfl) | (obtain ⟨_, rfl, _⟩ := h; rfl) | (obtain ⟨_, _, rfl, _⟩ := h; rfl) | (obtain ⟨_, _, _, rfl, _⟩ := h; rfl) | (obtain ⟨_, _, _, _, rfl, _⟩ := h; rfl) | (obtain ⟨_, _, _, _, _, rfl, _⟩ := h; rfl) | (obtain ⟨_, _, _, _, _, _, rfl, _⟩ := h; rfl) | (obtain ⟨_, _, _, _, _, _, _, rfl, _⟩ := h; rfl) | (obtain ⟨_, _, _, _, _, _, _, _, rfl, _⟩ := h; rfl) | (obtain ⟨_, _, _, _, _, _, _, _, _, rfl, _⟩ := h; rfl) | (obtain ⟨_, _, _, _, _, _, _, _, _, _, rfl, _⟩ := h; rfl) | (obtain ⟨_, _, _, _, _, _, _, _, _, _, _, rfl, _⟩ := h; rfl) | (obtain ⟨_, _, _, _, _, _, _, _, _, _, _, _, rfl, _⟩ := h; rfl) | (obtain ⟨_, _, _, _, _, _, _, _, _, _, _, _, _, rfl, _⟩ := h; rfl) | (obtain ⟨_, _, _, _, _, _, _, _, _, _, _, _, _, _, rfl, _⟩ := h; rfl) | (obtain ⟨_, _, _, _, _, _, _, _, _, _, _, _, _, _, _, rfl, _⟩ := h; rfl) | (obtain ⟨_, _, _, _, _, _, _, _, _, _, _, _, _, _, _, _, rfl, _⟩ := h; rfl) | (obtain ⟨_, _, _, _, _, _, _, _, _, _, _, _, _, _, _, _, _, rfl, _⟩ := h; rfl) | (obtain ⟨_, _, _, _, _, _, _, _, _, _, _, _, _, _, _, _, _, _, rfl, _⟩ := h; rfl) | (obtain ⟨_, _, _, _, _, _, _, _, _, _, _, _, _, _, _, _, _, _, _, rfl, _⟩ := h; rfl) | (obtain ⟨_, _, _, _, _, _, _, _, _, _, _, _, _, _, _, _, _, _, _, _, rfl, _⟩ := h; rfl) | (obtain ⟨_, _, _, _, _, _, _, _, _, _, _, _, _, _, _, _, _, _, _, _, _, rfl, _⟩ := h; rfl) | (obtain ⟨_, _, _, _, _, _, _, _, _, _, _, _, _, _, _, _, _, _, _, _, _, _, rfl, _⟩ := h; rfl) | (obtain ⟨_, _, _, _, _, _, _, _, _, _, _, _, _, _, _, _, _, _, _, _, _, _, _, rfl, _⟩ := h; rfl)
  · obtain ⟨v, b, rfl, hv, q⟩ := h
    refine ⟨_, (pss_one (ps_ret (pe_and (pe_callB call_isi (by rfl) T.b_isinstance (by decide +kernel) (pa_cons (pv 0) (pa_cons (pe_bltn (v := .ty "int") (by rfl) T.b_int (by decide +kernel) rfl) pa_nil))) (pe_one (pe_not (pe_callB call_isi (by rfl) T.b_isinstance (by decide +kernel) (pa_cons (pv 0) (pa_cons (pe_bltn (v := .ty "bool") (by rfl) T.b_bool (by decide +kernel) rfl) pa_nil)))))))), ?_⟩
    rcases hv with ⟨i, rfl, rfl⟩ | ⟨od, rfl⟩
    · refine ⟨_, rfl, _, _, _, _, true, rfl, .ty _, .base (.int i), kit_ty (by decide +kernel), _, rfl, iteT ?_⟩
      exact ⟨_, rfl, _, _, _, _, false, rfl, .ty _, .base (.int i), kit_ty (by decide +kernel), _, rfl, q⟩
    · cases od with
      | non => exact ⟨_, rfl, _, _, _, _, false, rfl, .ty _, .base .non, kit_ty (by decide +kernel), _, rfl, iteF q⟩
      | tt =>
        refine ⟨_, rfl, _, _, _, _, true, rfl, .ty _, .base (.bl true), kit_ty (by decide +kernel), _, rfl, iteT ?_⟩
        exact ⟨_, rfl, _, _, _, _, true, rfl, .ty _, .base (.bl true), kit_ty (by decide +kernel), _, rfl, q⟩
      | one => exact ⟨_, rfl, _, _, _, _, false, rfl, .ty _, .base (.str _), kit_ty (by decide +kernel), _, rfl, iteF q⟩
      | tup h => exact ⟨_, rfl, _, _, _, _, false, rfl, .ty _, .base (.tup h), kit_ty (by decide +kernel), _, rfl, iteF q⟩
theorem ok_is_short_integer (T : Txt K mg C_Form) : Def P w K mg base 2 "is_short_integer" ["value"] (sp_is_short_integer K C_Form) := by
  obtain ⟨f_, fd_, g_, F_⟩ := T.d_is_short_integer
  obtain ⟨f_is_any_integer, fd_is_any_integer, g_is_any_integer, k_is_any_integer, b_is_any_integer, G_is_any_integer⟩ := (ok_is_any_integer (P := P) (w := w) (base := base) T)
  refine ⟨f_, fd_, g_, F_.kp, F_.binds (ps := ["value"]) (fun _ _ _ _ _ _ us hl => match us, hl with | [_], _ => rfl), ?_⟩
  refine F_.ok sc_is_short_integer (fun vs H Q E h => ?_) (fun cdv A outer s H vs Q E hr h => ?_)
  · first | (obtain ⟨rfl, _⟩ := h; rfl) | (obtain ⟨_, rfl, _⟩ := h; rfl) | (obtain ⟨_, _, rfl, _⟩ := h; rfl) | (obtain ⟨_, _, _, rfl, _⟩ := h; rfl) | (obtain ⟨_, _, _, _, rfl, _⟩ := h; rfl) | (obtain ⟨_, _, _, _, _, rfl, _⟩ := h; rfl) | (obtain ⟨_, _, _, _, _, _, rfl, _⟩ := h; rfl) | (obtain ⟨_, _, _, _, _, _, _, rfl, _⟩ := h; rfl) | (obtain ⟨_, _, _, _, _, _, _, _, rfl, _⟩ := h; rfl) | (obtain ⟨_, _, _, _, _, _, _, _, _, rfl, _⟩ := h; rfl) | (obtain ⟨_, _, _, _, _, _, _, _, _, _, rfl, _⟩ := h; rfl) | (obtain ⟨_, _, _, _, _, _, _, _, _, _, _, rfl, _⟩ := h; rfl) | (obtain ⟨_, _, _, _, _, _, _, _, _, _, _, _, rfl, _⟩ := h; rfl) | (obtain ⟨_, _, _, _, _, _, _, _, _, _, _, _, _, rfl, _⟩ := h; rfl) | (obtain ⟨_, _, _, _, _, _, _, _, _, _, _, _, _, _, rfl, _⟩ := h; rfl) | (obtain ⟨_, _, _, _, _, _, _, _, _, _, _, _, _, _, _, rfl, _⟩ := h; rfl) | (obtain ⟨_, _, _, _, _, _, _, _, _, _, _, _, _, _, _, _, rfl, _⟩ := h; rfl) | (obtain ⟨_, _, _, _, _, _, _, _, _, _, _, _, _, _, _, _, _, rfl, _⟩ := h; rfl) | (obtain ⟨_, _, _, _, _, _, _, _, _, _, _, _, _, _, _, _, _, _, rfl, _⟩ := h; rfl) | (obtain ⟨_, _, _, _, _, _, _, _, _, _, _, _, _, _, _, _, _, _, _, rfl, _⟩ := h; rfl) | (obtain ⟨_, _, _, _, _, _, _, _, _, _, _, _, _, _, _, _, _, _, _, _, rfl, _⟩ := h; rfl) | (obtain ⟨_, _, _, _, _, _, _, _, _, _, _, _, _, _, _, _, _, _, _, _, _, rfl, _⟩ := h; rfl) | (obtain ⟨_, _, _, _, _, _, _, _, _, _, _, _, _, _, _, _, _, _, _, _, _, _, rfl, _⟩ := h; rfl) | (obtain ⟨_, _, _, _, _, _, _, _, _, _, _, _, _, _, _, _, _, _, _, _, _, _, _, rfl, _⟩ := h; rfl)
  · obtain ⟨i, rfl, hs, q⟩ := h
    obtain ⟨t_LIMIT, h_LIMIT⟩ := T.x_LIMIT
    refine ⟨_, (pss_one (ps_ret (pe_and (pe_call G_is_any_integer (hr.mono (by decide)) (by rfl) g_is_any_integer k_is_any_integer b_is_any_integer .nil pass0 (pa_cons (pv 0) pa_nil)) (pe_one (pe_chain op_lt op_lt (pe_un un_neg (pe_glob (v := .int 1000000000000000000000000000000000000000000000000000000000000) (by rfl) h_LIMIT ⟨_, rfl⟩)) (pv 0) (pe_glob (v := .int 1000000000000000000000000000000000000000000000000000000000000) (by rfl) h_LIMIT ⟨_, rfl⟩)))))), ?_⟩
    refine ⟨_, rfl, _, true, rfl, .inl ⟨i, rfl, rfl⟩, _, rfl, iteT ?_⟩
    refine ⟨_, rfl, _, rfl, _, _, rfl, rfl, _, rfl, dT hs.1 ⟨_, _, rfl, rfl, ?_⟩⟩
    show Q (.bl (decide (i < 1000000000000000000000000000000000000000000000000000000000000))) H
    rw [decide_eq_true hs.2]
    exact q
theorem ok_are_short_integers (T : Txt K mg C_Form) : Def P w K mg base 1 "are_short_integers" ["value", "many"] (sp_are_short_integers K C_Form) := by
  obtain ⟨f_, fd_, g_, F_⟩ := T.d_are_short_integers
  refine ⟨f_, fd_, g_, F_.kp, F_.binds (ps := ["value", "many"]) (fun _ _ _ _ _ _ us hl => match us, hl with | [_, _], _ => rfl), ?_⟩
  refine F_.ok sc_are_short_integers (fun vs H Q E h => ?_) (fun cdv A outer s H vs Q E hr h => ?_)
  · first | (obtain ⟨rfl, _⟩ := h; rfl) | (obtain ⟨_, rfl, _⟩ := h; rfl) | (obtain ⟨_, _, rfl, _⟩ := h; rfl) | (obtain ⟨_, _, _, rfl, _⟩ := h; rfl) | (obtain ⟨_, _, _, _, rfl, _⟩ := h; rfl) | (obtain ⟨_, _, _, _, _, rfl, _⟩ := h; rfl) | (obtain ⟨_, _, _, _, _, _, rfl, _⟩ := h; rfl) | (obtain ⟨_, _, _, _, _, _, _, rfl, _⟩ := h; rfl) | (obtain ⟨_, _, _, _, _, _, _, _, rfl, _⟩ := h; rfl) | (obtain ⟨_, _, _, _, _, _, _, _, _, rfl, _⟩ := h; rfl) | (obtain ⟨_, _, _, _, _, _, _, _, _, _, rfl, _⟩ := h; rfl) | (obtain ⟨_, _, _, _, _, _, _, _, _, _, _, rfl, _⟩ := h; rfl) | (obtain ⟨_, _, _, _, _, _, _, _, _, _, _, _, rfl, _⟩ := h; rfl) | (obtain ⟨_, _, _, _, _, _, _, _, _, _, _, _, _, rfl, _⟩ := h; rfl) | (obtain ⟨_, _, _, _, _, _, _, _, _, _, _, _, _, _, rfl, _⟩ := h; rfl) | (obtain ⟨_, _, _, _, _, _, _, _, _, _, _, _, _, _, _, rfl, _⟩ := h; rfl) | (obtain ⟨_, _, _, _, _, _, _, _, _, _, _, _, _, _, _, _, rfl, _⟩ := h; rfl) | (obtain ⟨_, _, _, _, _, _, _, _, _, _, _, _, _, _, _, _, _, rfl, _⟩ := h; rfl) | (obtain ⟨_, _, _, _, _, _, _, _, _, _, _, _, _, _, _, _, _, _, rfl, _⟩ := h; rfl) | (obtain ⟨_, _, _, _, _, _, _, _, _, _, _, _, _, _, _, _, _, _, _, rfl, _⟩ := h; rfl) | (obtain ⟨_, _, _, _, _, _, _, _, _, _, _, _, _, _, _, _, _, _, _, _, rfl, _⟩ := h; rfl) | (obtain ⟨_, _, _, _, _, _, _, _, _, _, _, _, _, _, _, _, _, _, _, _, _, rfl, _⟩ := h; rfl) | (obtain ⟨_, _, _, _, _, _, _, _, _, _, _, _, _, _, _, _, _, _, _, _, _, _, rfl, _⟩ := h; rfl) | (obtain ⟨_, _, _, _, _, _, _, _, _, _, _, _, _, _, _, _, _, _, _, _, _, _, _, rfl, _⟩ := h; rfl)
  · obtain ⟨a, ns, rfl, ha, hl, hs, q⟩ := h
    obtain ⟨t_LIMIT, h_LIMIT⟩ := T.x_LIMIT
    refine ⟨_, (pss_cons (ps_if (PW.pt (pw_or (pt_not (pt_val (pe_callB call_isi (by rfl) T.b_isinstance (by decide +kernel) (pa_cons (pv 0) (pa_cons (pe_bltn (v := .ty "tuple") (by rfl) T.b_tuple (by decide +kernel) rfl) pa_nil))))) (pw_or1 (pt_cmpR op_ne (pe_callB call_len_seq (by rfl) T.b_len PySem.boot_len (pa_cons (pv 0) pa_nil)) (pv 1) (nomark _)))))
      (pss_one (ps_ret pe_bl))
      pss_nil)
    (pss_one (ps_ret (pe_callB (cr_all rfl) (by rfl) T.b_all (by decide +kernel) (pa_cons (pe_lc (own := [("n", 2)]) (g := (gName 2)) rfl sc_are_short_integers.nd (pi_tup (pv 0)) (blkOk_by (N := N_are_short_integers) (sc := defScope s_are_short_integers) (by decide +kernel)) (fun _ _ _ _ _ => (pg_name (i := 2) sc_are_short_integers.nd rfl (.inl rfl))) (fun _ _ _ _ _ => pts_nil) (fun _ _ _ _ _ => (pe_and (pe_callB (call_isiKK (K := K) rfl) (by rfl) T.b_isinstance (by decide +kernel) (pa_cons (pv 2) (pa_cons (pe_bltn (v := .ty "int") (by rfl) T.b_int (by decide +kernel) rfl) pa_nil))) (pe_and (pe_not (pe_callB (call_isiKK (K := K) rfl) (by rfl) T.b_isinstance (by decide +kernel) (pa_cons (pv 2) (pa_cons (pe_bltn (v := .ty "bool") (by rfl) T.b_bool (by decide +kernel) rfl) pa_nil)))) (pe_one (pe_chain op_lt op_lt (pe_un un_neg (pe_glob (v := .int 1000000000000000000000000000000000000000000000000000000000000) (by rfl) h_LIMIT ⟨_, rfl⟩)) (pv 2) (pe_glob (v := .int 1000000000000000000000000000000000000000000000000000000000000) (by rfl) h_LIMIT ⟨_, rfl⟩))))))) pa_nil))))), ?_⟩
    refine ⟨_, rfl, _, _, _, _, true, rfl, .ty _, .base (.tup ha), kit_ty (by decide +kernel), _, rfl, ?_⟩
    refine iteF ⟨_, rfl, a, _, rfl, .inr (SqT.of ha), _, rfl, rfl, _, rfl, ?_⟩
    refine ndF (by rw [List.length_map]) ?_
    refine ⟨_, rfl, a, rfl, ⟨_, SqT.of ha⟩, ?_⟩
    refine lcT fm0 trivial (SqT.of ha) (fun z => z) (fun i acc _ => acc = (List.replicate i true).map V.bl) (fun _ _ => rfl) (fun D i x acc H' hD hx e hA hlen hp => ?_) (fun D H' acc hD e hA hp => ?_)
    · obtain ⟨n, hn, rfl⟩ := get_int hx
      have hi := (List.getElem?_eq_some_iff.mp hn).1
      refine ⟨rfl, ?_⟩
      have hn2 := hs n (List.mem_of_getElem? hn)
      refine ⟨_, rfl, _, _, _, _, true, rfl, .ty _, .base (.int n), kit_ty (by decide +kernel), _, rfl, iteT ?_⟩
      refine ⟨_, rfl, _, _, _, _, false, rfl, .ty _, .base (.int n), kit_ty (by decide +kernel), _, rfl, _, rfl, iteT ?_⟩
      refine ⟨_, rfl, _, rfl, _, _, rfl, rfl, _, rfl, dT hn2.1 ⟨_, _, rfl, rfl, ?_⟩⟩
      simp only [decide_eq_true hn2.2]
      refine cs_yes fm0 trivial hD e hA hlen (by omega) (Fx.refl trivial) ?_
      show acc ++ [V.bl true] = _
      rw [hp, List.replicate_succ', List.map_append]
      rfl
    · rw [List.length_map] at hp
      subst hp
      refine ⟨D, _, rfl, SqL.of hA, ?_⟩
      rw [show ((List.replicate ns.length true).all id) = true by simp]
      exact q H' e
theorem ok_determinant_of (T : Txt K mg C_Form) : Def P w K mg base 1 "determinant_of" ["change"] (sp_determinant_of K C_Form) := by
  obtain ⟨f_, fd_, g_, F_⟩ := T.d_determinant_of
  refine ⟨f_, fd_, g_, F_.kp, F_.binds (ps := ["change"]) (fun _ _ _ _ _ _ us hl => match us, hl with | [_], _ => rfl), ?_⟩
  refine F_.ok sc_determinant_of (fun vs H Q E h => ?_) (fun cdv A outer s H vs Q E hr h => ?_)
  · first | (obtain ⟨rfl, _⟩ := h; rfl) | (obtain ⟨_, rfl, _⟩ := h; rfl) | (obtain ⟨_, _, rfl, _⟩ := h; rfl) | (obtain ⟨_, _, _, rfl, _⟩ := h; rfl) | (obtain ⟨_, _, _, _, rfl, _⟩ := h; rfl) | (obtain ⟨_, _, _, _, _, rfl, _⟩ := h; rfl) | (obtain ⟨_, _, _, _, _, _, rfl, _⟩ := h; rfl) | (obtain ⟨_, _, _, _, _, _, _, rfl, _⟩ := h; rfl) | (obtain ⟨_, _, _, _, _, _, _, _, rfl, _⟩ := h; rfl) | (obtain ⟨_, _, _, _, _, _, _, _, _, rfl, _⟩ := h; rfl) | (obtain ⟨_, _, _, _, _, _, _, _, _, _, rfl, _⟩ := h; rfl) | (obtain ⟨_, _, _, _, _, _, _, _, _, _, _, rfl, _⟩ := h; rfl) | (obtain ⟨_, _, _, _, _, _, _, _, _, _, _, _, rfl, _⟩ := h; rfl) | (obtain ⟨_, _, _, _, _, _, _, _, _, _, _, _, _, rfl, _⟩ := h; rfl) | (obtain ⟨_, _, _, _, _, _, _, _, _, _, _, _, _, _, rfl, _⟩ := h; rfl) | (obtain ⟨_, _, _, _, _, _, _, _, _, _, _, _, _, _, _, rfl, _⟩ := h; rfl) | (obtain ⟨_, _, _, _, _, _, _, _, _, _, _, _, _, _, _, _, rfl, _⟩ := h; rfl) | (obtain ⟨_, _, _, _, _, _, _, _, _, _, _, _, _, _, _, _, _, rfl, _⟩ := h; rfl) | (obtain ⟨_, _, _, _, _, _, _, _, _, _, _, _, _, _, _, _, _, _, rfl, _⟩ := h; rfl) | (obtain ⟨_, _, _, _, _, _, _, _, _, _, _, _, _, _, _, _, _, _, _, rfl, _⟩ := h; rfl) | (obtain ⟨_, _, _, _, _, _, _, _, _, _, _, _, _, _, _, _, _, _, _, _, rfl, _⟩ := h; rfl) | (obtain ⟨_, _, _, _, _, _, _, _, _, _, _, _, _, _, _, _, _, _, _, _, _, rfl, _⟩ := h; rfl) | (obtain ⟨_, _, _, _, _, _, _, _, _, _, _, _, _, _, _, _, _, _, _, _, _, _, rfl, _⟩ := h; rfl) | (obtain ⟨_, _, _, _, _, _, _, _, _, _, _, _, _, _, _, _, _, _, _, _, _, _, _, rfl, _⟩ := h; rfl)
  · obtain ⟨a, p, q', r, s', rfl, ⟨t1, t2, h0, h1, h2⟩, bp, bq, br, bs, q⟩ := h
    refine ⟨_, (pss_cons (ps_asg (pv 0) (pg_tup (by rfl) (pgs_cons (pg_tup (by rfl) (pgs_cons (pg_name (i := 1) sc_determinant_of.nd rfl (.inl rfl)) (pgs_cons (pg_name (i := 2) sc_determinant_of.nd rfl (.inl rfl)) pgs_nil))) (pgs_cons (pg_tup (by rfl) (pgs_cons (pg_name (i := 3) sc_determinant_of.nd rfl (.inl rfl)) (pgs_cons (pg_name (i := 4) sc_determinant_of.nd rfl (.inl rfl)) pgs_nil))) pgs_nil))))
    (pss_one (ps_ret (pe_op op_sub (pe_op op_mulW (pv 1) (pv 4)) (pe_op op_mulW (pv 2) (pv 3)))))), ?_⟩
    refine ⟨_, rfl, a, _, rfl, SqT.of h0, rfl, _, _, rfl, ?_⟩
    refine ⟨t1, _, rfl, SqT.of h1, rfl, _, _, rfl, ?_⟩
    refine ⟨_, _, rfl, ⟨rfl, ?_⟩⟩
    refine ⟨_, _, rfl, ?_⟩
    refine ⟨t2, _, rfl, SqT.of h2, rfl, _, _, rfl, ?_⟩
    refine ⟨_, _, rfl, ⟨rfl, ?_⟩⟩
    refine ⟨rfl, ?_⟩
    exact ⟨_, rfl, _, rfl, _, _, rfl, rfl, mulB (by with_reducible assumption) (by with_reducible assumption) (by decide), _, rfl, _, rfl, _, _, rfl, rfl, mulB (by with_reducible assumption) (by with_reducible assumption) (by decide), _, _, rfl, rfl, q⟩
theorem ok_form_value (T : Txt K mg C_Form) : Def P w K mg base 1 "form_value" ["coefficients", "x", "y"] (sp_form_value K C_Form) := by
  obtain ⟨f_, fd_, g_, F_⟩ := T.d_form_value
  refine ⟨f_, fd_, g_, F_.kp, F_.binds (ps := ["coefficients", "x", "y"]) (fun _ _ _ _ _ _ us hl => match us, hl with | [_, _, _], _ => rfl), ?_⟩
  refine F_.ok sc_form_value (fun vs H Q E h => ?_) (fun cdv A outer s H vs Q E hr h => ?_)
  · first | (obtain ⟨rfl, _⟩ := h; rfl) | (obtain ⟨_, rfl, _⟩ := h; rfl) | (obtain ⟨_, _, rfl, _⟩ := h; rfl) | (obtain ⟨_, _, _, rfl, _⟩ := h; rfl) | (obtain ⟨_, _, _, _, rfl, _⟩ := h; rfl) | (obtain ⟨_, _, _, _, _, rfl, _⟩ := h; rfl) | (obtain ⟨_, _, _, _, _, _, rfl, _⟩ := h; rfl) | (obtain ⟨_, _, _, _, _, _, _, rfl, _⟩ := h; rfl) | (obtain ⟨_, _, _, _, _, _, _, _, rfl, _⟩ := h; rfl) | (obtain ⟨_, _, _, _, _, _, _, _, _, rfl, _⟩ := h; rfl) | (obtain ⟨_, _, _, _, _, _, _, _, _, _, rfl, _⟩ := h; rfl) | (obtain ⟨_, _, _, _, _, _, _, _, _, _, _, rfl, _⟩ := h; rfl) | (obtain ⟨_, _, _, _, _, _, _, _, _, _, _, _, rfl, _⟩ := h; rfl) | (obtain ⟨_, _, _, _, _, _, _, _, _, _, _, _, _, rfl, _⟩ := h; rfl) | (obtain ⟨_, _, _, _, _, _, _, _, _, _, _, _, _, _, rfl, _⟩ := h; rfl) | (obtain ⟨_, _, _, _, _, _, _, _, _, _, _, _, _, _, _, rfl, _⟩ := h; rfl) | (obtain ⟨_, _, _, _, _, _, _, _, _, _, _, _, _, _, _, _, rfl, _⟩ := h; rfl) | (obtain ⟨_, _, _, _, _, _, _, _, _, _, _, _, _, _, _, _, _, rfl, _⟩ := h; rfl) | (obtain ⟨_, _, _, _, _, _, _, _, _, _, _, _, _, _, _, _, _, _, rfl, _⟩ := h; rfl) | (obtain ⟨_, _, _, _, _, _, _, _, _, _, _, _, _, _, _, _, _, _, _, rfl, _⟩ := h; rfl) | (obtain ⟨_, _, _, _, _, _, _, _, _, _, _, _, _, _, _, _, _, _, _, _, rfl, _⟩ := h; rfl) | (obtain ⟨_, _, _, _, _, _, _, _, _, _, _, _, _, _, _, _, _, _, _, _, _, rfl, _⟩ := h; rfl) | (obtain ⟨_, _, _, _, _, _, _, _, _, _, _, _, _, _, _, _, _, _, _, _, _, _, rfl, _⟩ := h; rfl) | (obtain ⟨_, _, _, _, _, _, _, _, _, _, _, _, _, _, _, _, _, _, _, _, _, _, _, rfl, _⟩ := h; rfl)
  · obtain ⟨t, a, b, c, d, x, y, rfl, ht, ba, bb, bc, bd, bx, by', q⟩ := h
    refine ⟨_, (pss_cons (ps_asg (pv 0) (pg_tup (by rfl) (pgs_cons (pg_name (i := 3) sc_form_value.nd rfl (.inl rfl)) (pgs_cons (pg_name (i := 4) sc_form_value.nd rfl (.inl rfl)) (pgs_cons (pg_name (i := 5) sc_form_value.nd rfl (.inl rfl)) (pgs_cons (pg_name (i := 6) sc_form_value.nd rfl (.inl rfl)) pgs_nil))))))
    (pss_one (ps_ret (pe_op op_add (pe_op op_add (pe_op op_add (pe_op op_mulW (pe_op op_mulW (pe_op op_mulW (pv 3) (pv 1)) (pv 1)) (pv 1)) (pe_op op_mulW (pe_op op_mulW (pe_op op_mulW (pv 4) (pv 1)) (pv 1)) (pv 2))) (pe_op op_mulW (pe_op op_mulW (pe_op op_mulW (pv 5) (pv 1)) (pv 2)) (pv 2))) (pe_op op_mulW (pe_op op_mulW (pe_op op_mulW (pv 6) (pv 2)) (pv 2)) (pv 2)))))), ?_⟩
    refine ⟨_, rfl, unI4 ht ?_⟩
    exact ⟨_, rfl, _, rfl, _, _, rfl, rfl, mulB (by with_reducible assumption) (by with_reducible assumption) (by decide), _, rfl, _, _, rfl, rfl, mulB (B.mul (by with_reducible assumption) (by with_reducible assumption)) (by with_reducible assumption) (by decide), _, rfl, _, _, rfl, rfl, mulB (B.mul (B.mul (by with_reducible assumption) (by with_reducible assumption)) (by with_reducible assumption)) (by with_reducible assumption) (by decide), _, rfl, _, rfl, _, _, rfl, rfl, mulB (by with_reducible assumption) (by with_reducible assumption) (by decide), _, rfl, _, _, rfl, rfl, mulB (B.mul (by with_reducible assumption) (by with_reducible assumption)) (by with_reducible assumption) (by decide), _, rfl, _, _, rfl, rfl, mulB (B.mul (B.mul (by with_reducible assumption) (by with_reducible assumption)) (by with_reducible assumption)) (by with_reducible assumption) (by decide), _, _, rfl, rfl, _, rfl, _, rfl, _, _, rfl, rfl, mulB (by with_reducible assumption) (by with_reducible assumption) (by decide), _, rfl, _, _, rfl, rfl, mulB (B.mul (by with_reducible assumption) (by with_reducible assumption)) (by with_reducible assumption) (by decide), _, rfl, _, _, rfl, rfl, mulB (B.mul (B.mul (by with_reducible assumption) (by with_reducible assumption)) (by with_reducible assumption)) (by with_reducible assumption) (by decide), _, _, rfl, rfl, _, rfl, _, rfl, _, _, rfl, rfl, mulB (by with_reducible assumption) (by with_reducible assumption) (by decide), _, rfl, _, _, rfl, rfl, mulB (B.mul (by with_reducible assumption) (by with_reducible assumption)) (by with_reducible assumption) (by decide), _, rfl, _, _, rfl, rfl, mulB (B.mul (B.mul (by with_reducible assumption) (by with_reducible assumption)) (by with_reducible assumption)) (by with_reducible assumption) (by decide), _, _, rfl, rfl, q⟩
theorem ok_form_led (T : Txt K mg C_Form) : Def P w K mg base 2 "form_led" ["coefficients", "change"] (sp_form_led K C_Form) := by
  obtain ⟨f_, fd_, g_, F_⟩ := T.d_form_led
  obtain ⟨f_determinant_of, fd_determinant_of, g_determinant_of, k_determinant_of, b_determinant_of, G_determinant_of⟩ := (ok_determinant_of (P := P) (w := w) (base := base) T)
  obtain ⟨f_form_value, fd_form_value, g_form_value, k_form_value, b_form_value, G_form_value⟩ := (ok_form_value (P := P) (w := w) (base := base) T)
  refine ⟨f_, fd_, g_, F_.kp, F_.binds (ps := ["coefficients", "change"]) (fun _ _ _ _ _ _ us hl => match us, hl with | [_, _], _ => rfl), ?_⟩
  refine F_.ok sc_form_led (fun vs H Q E h => ?_) (fun cdv A outer s H vs Q E hr h => ?_)
  · first | (obtain ⟨rfl, _⟩ := h; rfl) | (obtain ⟨_, rfl, _⟩ := h; rfl) | (obtain ⟨_, _, rfl, _⟩ := h; rfl) | (obtain ⟨_, _, _, rfl, _⟩ := h; rfl) | (obtain ⟨_, _, _, _, rfl, _⟩ := h; rfl) | (obtain ⟨_, _, _, _, _, rfl, _⟩ := h; rfl) | (obtain ⟨_, _, _, _, _, _, rfl, _⟩ := h; rfl) | (obtain ⟨_, _, _, _, _, _, _, rfl, _⟩ := h; rfl) | (obtain ⟨_, _, _, _, _, _, _, _, rfl, _⟩ := h; rfl) | (obtain ⟨_, _, _, _, _, _, _, _, _, rfl, _⟩ := h; rfl) | (obtain ⟨_, _, _, _, _, _, _, _, _, _, rfl, _⟩ := h; rfl) | (obtain ⟨_, _, _, _, _, _, _, _, _, _, _, rfl, _⟩ := h; rfl) | (obtain ⟨_, _, _, _, _, _, _, _, _, _, _, _, rfl, _⟩ := h; rfl) | (obtain ⟨_, _, _, _, _, _, _, _, _, _, _, _, _, rfl, _⟩ := h; rfl) | (obtain ⟨_, _, _, _, _, _, _, _, _, _, _, _, _, _, rfl, _⟩ := h; rfl) | (obtain ⟨_, _, _, _, _, _, _, _, _, _, _, _, _, _, _, rfl, _⟩ := h; rfl) | (obtain ⟨_, _, _, _, _, _, _, _, _, _, _, _, _, _, _, _, rfl, _⟩ := h; rfl) | (obtain ⟨_, _, _, _, _, _, _, _, _, _, _, _, _, _, _, _, _, rfl, _⟩ := h; rfl) | (obtain ⟨_, _, _, _, _, _, _, _, _, _, _, _, _, _, _, _, _, _, rfl, _⟩ := h; rfl) | (obtain ⟨_, _, _, _, _, _, _, _, _, _, _, _, _, _, _, _, _, _, _, rfl, _⟩ := h; rfl) | (obtain ⟨_, _, _, _, _, _, _, _, _, _, _, _, _, _, _, _, _, _, _, _, rfl, _⟩ := h; rfl) | (obtain ⟨_, _, _, _, _, _, _, _, _, _, _, _, _, _, _, _, _, _, _, _, _, rfl, _⟩ := h; rfl) | (obtain ⟨_, _, _, _, _, _, _, _, _, _, _, _, _, _, _, _, _, _, _, _, _, _, rfl, _⟩ := h; rfl) | (obtain ⟨_, _, _, _, _, _, _, _, _, _, _, _, _, _, _, _, _, _, _, _, _, _, _, rfl, _⟩ := h; rfl)
  · obtain ⟨t, u, a, b, c, d, p, q', r, s', rfl, ht, h4, ba, bb, bc, bd, bp, bq, br, bs, q⟩ := h
    refine ⟨_, (pss_cons (ps_asg (pv 0) (pg_tup (by rfl) (pgs_cons (pg_name (i := 2) sc_form_led.nd rfl (.inl rfl)) (pgs_cons (pg_name (i := 3) sc_form_led.nd rfl (.inl rfl)) (pgs_cons (pg_name (i := 4) sc_form_led.nd rfl (.inl rfl)) (pgs_cons (pg_name (i := 5) sc_form_led.nd rfl (.inl rfl)) pgs_nil))))))
    (pss_cons (ps_asg (pv 1) (pg_tup (by rfl) (pgs_cons (pg_tup (by rfl) (pgs_cons (pg_name (i := 6) sc_form_led.nd rfl (.inl rfl)) (pgs_cons (pg_name (i := 7) sc_form_led.nd rfl (.inl rfl)) pgs_nil))) (pgs_cons (pg_tup (by rfl) (pgs_cons (pg_name (i := 8) sc_form_led.nd rfl (.inl rfl)) (pgs_cons (pg_name (i := 9) sc_form_led.nd rfl (.inl rfl)) pgs_nil))) pgs_nil))))
    (pss_cons (ps_set (i := 10) sc_form_led.nd rfl (.inl rfl) (pe_call G_determinant_of (hr.mono (by decide)) (by rfl) g_determinant_of k_determinant_of b_determinant_of .nil pass0 (pa_cons (pv 1) pa_nil)))
    (pss_cons (ps_set (i := 11) sc_form_led.nd rfl (.inl rfl) (pe_op op_add (pe_op op_add (pe_op op_add (pe_op op_mulW (pe_op op_mulW (pe_op op_mulW (pe_op op_mulW pe_int (pv 2)) (pv 6)) (pv 6)) (pv 8)) (pe_op op_mulW (pe_op op_mulW (pv 3) (pv 6)) (pe_op op_add (pe_op op_mulW (pv 6) (pv 9)) (pe_op op_mulW (pe_op op_mulW pe_int (pv 7)) (pv 8))))) (pe_op op_mulW (pe_op op_mulW (pv 4) (pv 7)) (pe_op op_add (pe_op op_mulW (pe_op op_mulW pe_int (pv 6)) (pv 9)) (pe_op op_mulW (pv 7) (pv 8))))) (pe_op op_mulW (pe_op op_mulW (pe_op op_mulW (pe_op op_mulW pe_int (pv 5)) (pv 7)) (pv 7)) (pv 9))))
    (pss_cons (ps_set (i := 12) sc_form_led.nd rfl (.inl rfl) (pe_op op_add (pe_op op_add (pe_op op_add (pe_op op_mulW (pe_op op_mulW (pe_op op_mulW (pe_op op_mulW pe_int (pv 2)) (pv 6)) (pv 8)) (pv 8)) (pe_op op_mulW (pe_op op_mulW (pv 3) (pv 8)) (pe_op op_add (pe_op op_mulW (pe_op op_mulW pe_int (pv 6)) (pv 9)) (pe_op op_mulW (pv 7) (pv 8))))) (pe_op op_mulW (pe_op op_mulW (pv 4) (pv 9)) (pe_op op_add (pe_op op_mulW (pv 6) (pv 9)) (pe_op op_mulW (pe_op op_mulW pe_int (pv 7)) (pv 8))))) (pe_op op_mulW (pe_op op_mulW (pe_op op_mulW (pe_op op_mulW pe_int (pv 5)) (pv 7)) (pv 9)) (pv 9))))
    (pss_one (ps_ret (pe_tup (pa_cons (pe_op op_mulW (pv 10) (pe_call G_form_value (hr.mono (by decide)) (by rfl) g_form_value k_form_value b_form_value .nil pass0 (pa_cons (pv 0) (pa_cons (pv 6) (pa_cons (pv 7) pa_nil))))) (pa_cons (pe_op op_mulW (pv 10) (pv 11)) (pa_cons (pe_op op_mulW (pv 10) (pv 12)) (pa_cons (pe_op op_mulW (pv 10) (pe_call G_form_value (hr.mono (by decide)) (by rfl) g_form_value k_form_value b_form_value .nil pass0 (pa_cons (pv 0) (pa_cons (pv 8) (pa_cons (pv 9) pa_nil))))) pa_nil)))))))))))), ?_⟩
    refine ⟨_, rfl, unI4 ht ?_⟩
    refine ⟨_, rfl, un4 h4 ?_⟩
    refine ⟨_, rfl, u, p, q', r, s', rfl, h4, bp, bq, br, bs, ?_⟩
    refine ⟨_, rfl, _, _, rfl, rfl, mulB (B.lit (by decide)) (by with_reducible assumption) (by decide), _, rfl, _, _, rfl, rfl, mulB (B.mul (B.lit (by decide)) (by with_reducible assumption)) (by with_reducible assumption) (by decide), _, rfl, _, _, rfl, rfl, mulB (B.mul (B.mul (B.lit (by decide)) (by with_reducible assumption)) (by with_reducible assumption)) (by with_reducible assumption) (by decide), _, rfl, _, _, rfl, rfl, mulB (B.mul (B.mul (B.mul (B.lit (by decide)) (by with_reducible assumption)) (by with_reducible assumption)) (by with_reducible assumption)) (by with_reducible assumption) (by decide), _, rfl, _, rfl, _, _, rfl, rfl, mulB (by with_reducible assumption) (by with_reducible assumption) (by decide), _, rfl, _, rfl, _, _, rfl, rfl, mulB (by with_reducible assumption) (by with_reducible assumption) (by decide), _, rfl, _, _, rfl, rfl, mulB (B.lit (by decide)) (by with_reducible assumption) (by decide), _, rfl, _, _, rfl, rfl, mulB (B.mul (B.lit (by decide)) (by with_reducible assumption)) (by with_reducible assumption) (by decide), _, _, rfl, rfl, _, _, rfl, rfl, mulB (B.mul (by with_reducible assumption) (by with_reducible assumption)) (B.add (B.mul (by with_reducible assumption) (by with_reducible assumption)) (B.mul (B.mul (B.lit (by decide)) (by with_reducible assumption)) (by with_reducible assumption))) (by decide), _, _, rfl, rfl, _, rfl, _, rfl, _, _, rfl, rfl, mulB (by with_reducible assumption) (by with_reducible assumption) (by decide), _, rfl, _, _, rfl, rfl, mulB (B.lit (by decide)) (by with_reducible assumption) (by decide), _, rfl, _, _, rfl, rfl, mulB (B.mul (B.lit (by decide)) (by with_reducible assumption)) (by with_reducible assumption) (by decide), _, rfl, _, rfl, _, _, rfl, rfl, mulB (by with_reducible assumption) (by with_reducible assumption) (by decide), _, _, rfl, rfl, _, _, rfl, rfl, mulB (B.mul (by with_reducible assumption) (by with_reducible assumption)) (B.add (B.mul (B.mul (B.lit (by decide)) (by with_reducible assumption)) (by with_reducible assumption)) (B.mul (by with_reducible assumption) (by with_reducible assumption))) (by decide), _, _, rfl, rfl, _, rfl, _, _, rfl, rfl, mulB (B.lit (by decide)) (by with_reducible assumption) (by decide), _, rfl, _, _, rfl, rfl, mulB (B.mul (B.lit (by decide)) (by with_reducible assumption)) (by with_reducible assumption) (by decide), _, rfl, _, _, rfl, rfl, mulB (B.mul (B.mul (B.lit (by decide)) (by with_reducible assumption)) (by with_reducible assumption)) (by with_reducible assumption) (by decide), _, rfl, _, _, rfl, rfl, mulB (B.mul (B.mul (B.mul (B.lit (by decide)) (by with_reducible assumption)) (by with_reducible assumption)) (by with_reducible assumption)) (by with_reducible assumption) (by decide), _, _, rfl, rfl, ?_⟩
    refine ⟨_, rfl, _, _, rfl, rfl, mulB (B.lit (by decide)) (by with_reducible assumption) (by decide), _, rfl, _, _, rfl, rfl, mulB (B.mul (B.lit (by decide)) (by with_reducible assumption)) (by with_reducible assumption) (by decide), _, rfl, _, _, rfl, rfl, mulB (B.mul (B.mul (B.lit (by decide)) (by with_reducible assumption)) (by with_reducible assumption)) (by with_reducible assumption) (by decide), _, rfl, _, _, rfl, rfl, mulB (B.mul (B.mul (B.mul (B.lit (by decide)) (by with_reducible assumption)) (by with_reducible assumption)) (by with_reducible assumption)) (by with_reducible assumption) (by decide), _, rfl, _, rfl, _, _, rfl, rfl, mulB (by with_reducible assumption) (by with_reducible assumption) (by decide), _, rfl, _, _, rfl, rfl, mulB (B.lit (by decide)) (by with_reducible assumption) (by decide), _, rfl, _, _, rfl, rfl, mulB (B.mul (B.lit (by decide)) (by with_reducible assumption)) (by with_reducible assumption) (by decide), _, rfl, _, rfl, _, _, rfl, rfl, mulB (by with_reducible assumption) (by with_reducible assumption) (by decide), _, _, rfl, rfl, _, _, rfl, rfl, mulB (B.mul (by with_reducible assumption) (by with_reducible assumption)) (B.add (B.mul (B.mul (B.lit (by decide)) (by with_reducible assumption)) (by with_reducible assumption)) (B.mul (by with_reducible assumption) (by with_reducible assumption))) (by decide), _, _, rfl, rfl, _, rfl, _, rfl, _, _, rfl, rfl, mulB (by with_reducible assumption) (by with_reducible assumption) (by decide), _, rfl, _, rfl, _, _, rfl, rfl, mulB (by with_reducible assumption) (by with_reducible assumption) (by decide), _, rfl, _, _, rfl, rfl, mulB (B.lit (by decide)) (by with_reducible assumption) (by decide), _, rfl, _, _, rfl, rfl, mulB (B.mul (B.lit (by decide)) (by with_reducible assumption)) (by with_reducible assumption) (by decide), _, _, rfl, rfl, _, _, rfl, rfl, mulB (B.mul (by with_reducible assumption) (by with_reducible assumption)) (B.add (B.mul (by with_reducible assumption) (by with_reducible assumption)) (B.mul (B.mul (B.lit (by decide)) (by with_reducible assumption)) (by with_reducible assumption))) (by decide), _, _, rfl, rfl, _, rfl, _, _, rfl, rfl, mulB (B.lit (by decide)) (by with_reducible assumption) (by decide), _, rfl, _, _, rfl, rfl, mulB (B.mul (B.lit (by decide)) (by with_reducible assumption)) (by with_reducible assumption) (by decide), _, rfl, _, _, rfl, rfl, mulB (B.mul (B.mul (B.lit (by decide)) (by with_reducible assumption)) (by with_reducible assumption)) (by with_reducible assumption) (by decide), _, rfl, _, _, rfl, rfl, mulB (B.mul (B.mul (B.mul (B.lit (by decide)) (by with_reducible assumption)) (by with_reducible assumption)) (by with_reducible assumption)) (by with_reducible assumption) (by decide), _, _, rfl, rfl, ?_⟩
    have be : B 1200 (p * s' - q' * r) := B.sub (B.mul bp bs) (B.mul bq br)
    have b2 : B _ (3 * a * p * p * r + b * p * (p * s' + 2 * q' * r) + c * q' * (2 * p * s' + q' * r) + 3 * d * q' * q' * s') := (B.add (B.add (B.add (B.mul (B.mul (B.mul (B.mul (B.lit (by decide)) (by with_reducible assumption)) (by with_reducible assumption)) (by with_reducible assumption)) (by with_reducible assumption)) (B.mul (B.mul (by with_reducible assumption) (by with_reducible assumption)) (B.add (B.mul (by with_reducible assumption) (by with_reducible assumption)) (B.mul (B.mul (B.lit (by decide)) (by with_reducible assumption)) (by with_reducible assumption))))) (B.mul (B.mul (by with_reducible assumption) (by with_reducible assumption)) (B.add (B.mul (B.mul (B.lit (by decide)) (by with_reducible assumption)) (by with_reducible assumption)) (B.mul (by with_reducible assumption) (by with_reducible assumption))))) (B.mul (B.mul (B.mul (B.mul (B.lit (by decide)) (by with_reducible assumption)) (by with_reducible assumption)) (by with_reducible assumption)) (by with_reducible assumption)))
    have b3 : B _ (3 * a * p * r * r + b * r * (2 * p * s' + q' * r) + c * s' * (p * s' + 2 * q' * r) + 3 * d * q' * s' * s') := (B.add (B.add (B.add (B.mul (B.mul (B.mul (B.mul (B.lit (by decide)) (by with_reducible assumption)) (by with_reducible assumption)) (by with_reducible assumption)) (by with_reducible assumption)) (B.mul (B.mul (by with_reducible assumption) (by with_reducible assumption)) (B.add (B.mul (B.mul (B.lit (by decide)) (by with_reducible assumption)) (by with_reducible assumption)) (B.mul (by with_reducible assumption) (by with_reducible assumption))))) (B.mul (B.mul (by with_reducible assumption) (by with_reducible assumption)) (B.add (B.mul (by with_reducible assumption) (by with_reducible assumption)) (B.mul (B.mul (B.lit (by decide)) (by with_reducible assumption)) (by with_reducible assumption))))) (B.mul (B.mul (B.mul (B.mul (B.lit (by decide)) (by with_reducible assumption)) (by with_reducible assumption)) (by with_reducible assumption)) (by with_reducible assumption)))
    have f1 : B 7600 (fv a b c d p q') := B.add (B.add (B.add (B.mul (B.mul (B.mul ba bp) bp) bp) (B.mul (B.mul (B.mul bb bp) bp) bq)) (B.mul (B.mul (B.mul bc bp) bq) bq)) (B.mul (B.mul (B.mul bd bq) bq) bq)
    have f2 : B 7600 (fv a b c d r s') := B.add (B.add (B.add (B.mul (B.mul (B.mul ba br) br) br) (B.mul (B.mul (B.mul bb br) br) bs)) (B.mul (B.mul (B.mul bc br) bs) bs)) (B.mul (B.mul (B.mul bd bs) bs) bs)
    refine ⟨_, rfl, _, rfl, _, rfl, _, rfl, t, a, b, c, d, p, q', rfl, ht, ba, bb, bc, bd, bp, bq, _, _, rfl, rfl, mulB be f1 (by decide), ?_⟩
    refine ⟨_, rfl, _, rfl, _, _, rfl, rfl, mulB be b2 (by decide), _, rfl, _, rfl, _, _, rfl, rfl, mulB be b3 (by decide), ?_⟩
    refine ⟨_, rfl, _, rfl, _, rfl, _, rfl, t, a, b, c, d, r, s', rfl, ht, ba, bb, bc, bd, br, bs, _, _, rfl, rfl, mulB be f2 (by decide), sl4, fun x nx => ?_⟩
    exact q x _ (Ex0.new nx) upd_same
theorem ok_Form___init__ (T : Txt K mg C_Form) : MDef (fun p f => Mk K C_Form f) P w K mg base 2 ["self", "coefficients"] (sp_Form___init__ K C_Form) := by
  obtain ⟨p_, f_, fd_, R_, F_⟩ := T.e_Form___init__
  obtain ⟨f_are_short_integers, fd_are_short_integers, g_are_short_integers, k_are_short_integers, b_are_short_integers, G_are_short_integers⟩ := (ok_are_short_integers (P := P) (w := w) (base := base) T)
  refine ⟨p_, f_, fd_, R_, F_.binds (ps := ["self", "coefficients"]) (fun _ _ _ _ _ _ us hl => match us, hl with | [_, _], _ => rfl), ?_⟩
  refine F_.ok sc_Form___init__ (fun vs H Q E h => ?_) (fun cdv A outer s H vs Q E hr h => ?_)
  · first | (obtain ⟨rfl, _⟩ := h; rfl) | (obtain ⟨_, rfl, _⟩ := h; rfl) | (obtain ⟨_, _, rfl, _⟩ := h; rfl) | (obtain ⟨_, _, _, rfl, _⟩ := h; rfl) | (obtain ⟨_, _, _, _, rfl, _⟩ := h; rfl) | (obtain ⟨_, _, _, _, _, rfl, _⟩ := h; rfl) | (obtain ⟨_, _, _, _, _, _, rfl, _⟩ := h; rfl) | (obtain ⟨_, _, _, _, _, _, _, rfl, _⟩ := h; rfl) | (obtain ⟨_, _, _, _, _, _, _, _, rfl, _⟩ := h; rfl) | (obtain ⟨_, _, _, _, _, _, _, _, _, rfl, _⟩ := h; rfl) | (obtain ⟨_, _, _, _, _, _, _, _, _, _, rfl, _⟩ := h; rfl) | (obtain ⟨_, _, _, _, _, _, _, _, _, _, _, rfl, _⟩ := h; rfl) | (obtain ⟨_, _, _, _, _, _, _, _, _, _, _, _, rfl, _⟩ := h; rfl) | (obtain ⟨_, _, _, _, _, _, _, _, _, _, _, _, _, rfl, _⟩ := h; rfl) | (obtain ⟨_, _, _, _, _, _, _, _, _, _, _, _, _, _, rfl, _⟩ := h; rfl) | (obtain ⟨_, _, _, _, _, _, _, _, _, _, _, _, _, _, _, rfl, _⟩ := h; rfl) | (obtain ⟨_, _, _, _, _, _, _, _, _, _, _, _, _, _, _, _, rfl, _⟩ := h; rfl) | (obtain ⟨_, _, _, _, _, _, _, _, _, _, _, _, _, _, _, _, _, rfl, _⟩ := h; rfl) | (obtain ⟨_, _, _, _, _, _, _, _, _, _, _, _, _, _, _, _, _, _, rfl, _⟩ := h; rfl) | (obtain ⟨_, _, _, _, _, _, _, _, _, _, _, _, _, _, _, _, _, _, _, rfl, _⟩ := h; rfl) | (obtain ⟨_, _, _, _, _, _, _, _, _, _, _, _, _, _, _, _, _, _, _, _, rfl, _⟩ := h; rfl) | (obtain ⟨_, _, _, _, _, _, _, _, _, _, _, _, _, _, _, _, _, _, _, _, _, rfl, _⟩ := h; rfl) | (obtain ⟨_, _, _, _, _, _, _, _, _, _, _, _, _, _, _, _, _, _, _, _, _, _, rfl, _⟩ := h; rfl) | (obtain ⟨_, _, _, _, _, _, _, _, _, _, _, _, _, _, _, _, _, _, _, _, _, _, _, rfl, _⟩ := h; rfl)
  · obtain ⟨x, dx, t, ns, rfl, hx, ht, hl, hs, q⟩ := h
    refine ⟨_, (pss_cons (ps_if (pt_not (pt_val (pe_call G_are_short_integers (hr.mono (by decide)) (by rfl) g_are_short_integers k_are_short_integers b_are_short_integers .nil pass0 (pa_cons (pv 1) (pa_cons pe_int pa_nil)))))
      pss_never
      pss_nil)
    (pss_one (ps_fld (pv 0) (pe_callTy call_tuple_of (by rfl) T.b_tuple (by decide +kernel) (pa_cons (pv 1) pa_nil)) (by rfl)))), ?_⟩
    refine ⟨_, rfl, t, ns, by rw [hl]; rfl, ht, by omega, hs, fun H1 e1 => ⟨_, rfl, ?_⟩⟩
    refine iteF ⟨_, rfl, t, _, rfl, .inr ⟨SqT.of (Ex0.ti e1 ht), ?_⟩⟩
    refine ⟨_, rfl, x, C_Form, dx, _, rfl, e1.ap hx, T.cl_Form, T.na_Form_coefficients, (by decide : (0:Nat) < 1000), ?_⟩
    exact q _ (fun b o n e => by rw [upd_ne n]; exact e1.ap e) upd_same
theorem ok_form_of (T : Txt K mg C_Form) : Def P w K mg base 5 "form_of" ["coefficients"] (sp_form_of K C_Form) := by
  obtain ⟨f_, fd_, g_, F_⟩ := T.d_form_of
  obtain ⟨p_Form___init__, f_Form___init__, fd_Form___init__, R_Form___init__, b_Form___init__, G_Form___init__⟩ := (ok_Form___init__ (P := P) (w := w) (base := base) T)
  refine ⟨f_, fd_, g_, F_.kp, F_.binds (ps := ["coefficients"]) (fun _ _ _ _ _ _ us hl => match us, hl with | [_], _ => rfl), ?_⟩
  refine F_.ok sc_form_of (fun vs H Q E h => ?_) (fun cdv A outer s H vs Q E hr h => ?_)
  · first | (obtain ⟨rfl, _⟩ := h; rfl) | (obtain ⟨_, rfl, _⟩ := h; rfl) | (obtain ⟨_, _, rfl, _⟩ := h; rfl) | (obtain ⟨_, _, _, rfl, _⟩ := h; rfl) | (obtain ⟨_, _, _, _, rfl, _⟩ := h; rfl) | (obtain ⟨_, _, _, _, _, rfl, _⟩ := h; rfl) | (obtain ⟨_, _, _, _, _, _, rfl, _⟩ := h; rfl) | (obtain ⟨_, _, _, _, _, _, _, rfl, _⟩ := h; rfl) | (obtain ⟨_, _, _, _, _, _, _, _, rfl, _⟩ := h; rfl) | (obtain ⟨_, _, _, _, _, _, _, _, _, rfl, _⟩ := h; rfl) | (obtain ⟨_, _, _, _, _, _, _, _, _, _, rfl, _⟩ := h; rfl) | (obtain ⟨_, _, _, _, _, _, _, _, _, _, _, rfl, _⟩ := h; rfl) | (obtain ⟨_, _, _, _, _, _, _, _, _, _, _, _, rfl, _⟩ := h; rfl) | (obtain ⟨_, _, _, _, _, _, _, _, _, _, _, _, _, rfl, _⟩ := h; rfl) | (obtain ⟨_, _, _, _, _, _, _, _, _, _, _, _, _, _, rfl, _⟩ := h; rfl) | (obtain ⟨_, _, _, _, _, _, _, _, _, _, _, _, _, _, _, rfl, _⟩ := h; rfl) | (obtain ⟨_, _, _, _, _, _, _, _, _, _, _, _, _, _, _, _, rfl, _⟩ := h; rfl) | (obtain ⟨_, _, _, _, _, _, _, _, _, _, _, _, _, _, _, _, _, rfl, _⟩ := h; rfl) | (obtain ⟨_, _, _, _, _, _, _, _, _, _, _, _, _, _, _, _, _, _, rfl, _⟩ := h; rfl) | (obtain ⟨_, _, _, _, _, _, _, _, _, _, _, _, _, _, _, _, _, _, _, rfl, _⟩ := h; rfl) | (obtain ⟨_, _, _, _, _, _, _, _, _, _, _, _, _, _, _, _, _, _, _, _, rfl, _⟩ := h; rfl) | (obtain ⟨_, _, _, _, _, _, _, _, _, _, _, _, _, _, _, _, _, _, _, _, _, rfl, _⟩ := h; rfl) | (obtain ⟨_, _, _, _, _, _, _, _, _, _, _, _, _, _, _, _, _, _, _, _, _, _, rfl, _⟩ := h; rfl) | (obtain ⟨_, _, _, _, _, _, _, _, _, _, _, _, _, _, _, _, _, _, _, _, _, _, _, rfl, _⟩ := h; rfl)
  · obtain ⟨t, ns, rfl, ht, q⟩ := h
    refine ⟨_, (pss_cons (ps_set (i := 1) sc_form_of.nd rfl (.inl rfl) (pe_make R_Form___init__ G_Form___init__ (hr.mono (by decide)) (by rfl) T.g_Form b_Form___init__ .nil pass0 (pa_cons (pe_tup (pa_cons pe_int (pa_cons pe_int (pa_cons pe_int (pa_cons pe_int pa_nil))))) pa_nil)))
    (pss_cons (ps_fld (pv 1) (pv 0) (by rfl))
    (pss_one (ps_ret (pv 1))))), ?_⟩
    refine ⟨sl4, fun t0 n0 => ?_⟩
    intro x dx nx ndx ne
    have e0 : Ex0 H (upd H t0 (.tup [.int 0, .int 0, .int 0, .int 0])) := Ex0.new n0
    have hx0 : H x = none := Fx.free e0 (fun z => z) nx
    have hd0 : H dx = none := Fx.free e0 (fun z => z) ndx
    have nt : t0 ≠ x := ne_of_none (show upd H t0 (.tup [.int 0, .int 0, .int 0, .int 0]) t0 = some _ from upd_same) nx
    have nd : t0 ≠ dx := ne_of_none (show upd H t0 (.tup [.int 0, .int 0, .int 0, .int 0]) t0 = some _ from upd_same) ndx
    refine ⟨x, dx, t0, [0, 0, 0, 0], rfl, upd_same, ?_, rfl, fun n hn => ?_, fun H' e1 e2 => ⟨rfl, ?_⟩⟩
    · show (upd (upd (upd H t0 _) dx _) x _) t0 = _
      rw [upd_ne nt, upd_ne nd]
      exact upd_same
    · have : n = 0 := by simpa using hn
      rw [this]
      exact ⟨by decide, by decide⟩
    refine ⟨_, rfl, _, rfl, x, C_Form, dx, _, rfl, e2, T.cl_Form, T.na_Form_coefficients, (by decide : (1:Nat) < 1000), ?_⟩
    refine ⟨_, rfl, ?_⟩
    have ex : ∀ b o, H b = some o → b ≠ x ∧ H' b = some o := fun b o e => by
      have n1 : b ≠ x := ne_of_none e hx0
      have n2 : b ≠ dx := ne_of_none e hd0
      refine ⟨n1, e1 b o n1 ?_⟩
      rw [upd_ne n1, upd_ne n2]
      exact e0.ap e
    refine q x _ (Ex0.of fun b o e => ?_) ⟨dx, t, ?_, ?_⟩
    · rw [upd_ne (ex b o e).1]
      exact (ex b o e).2
    · rw [upd_same, putF_same]
    · show (upd H' x _) t = _
      rw [upd_ne (ex _ _ ht).1]
      exact (ex _ _ ht).2
theorem ok_Form_coefficients (T : Txt K mg C_Form) : MDef (fun p f => PropOf K C_Form "coefficients" p f) P w K mg base 1 ["self"] (sp_Form_coefficients K C_Form) := by
  obtain ⟨p_, f_, fd_, R_, F_⟩ := T.e_Form_coefficients
  refine ⟨p_, f_, fd_, R_, F_.binds (ps := ["self"]) (fun _ _ _ _ _ _ us hl => match us, hl with | [_], _ => rfl), ?_⟩
  refine F_.ok sc_Form_coefficients (fun vs H Q E h => ?_) (fun cdv A outer s H vs Q E hr h => ?_)
  · first | (obtain ⟨rfl, _⟩ := h; rfl) | (obtain ⟨_, rfl, _⟩ := h; rfl) | (obtain ⟨_, _, rfl, _⟩ := h; rfl) | (obtain ⟨_, _, _, rfl, _⟩ := h; rfl) | (obtain ⟨_, _, _, _, rfl, _⟩ := h; rfl) | (obtain ⟨_, _, _, _, _, rfl, _⟩ := h; rfl) | (obtain ⟨_, _, _, _, _, _, rfl, _⟩ := h; rfl) | (obtain ⟨_, _, _, _, _, _, _, rfl, _⟩ := h; rfl) | (obtain ⟨_, _, _, _, _, _, _, _, rfl, _⟩ := h; rfl) | (obtain ⟨_, _, _, _, _, _, _, _, _, rfl, _⟩ := h; rfl) | (obtain ⟨_, _, _, _, _, _, _, _, _, _, rfl, _⟩ := h; rfl) | (obtain ⟨_, _, _, _, _, _, _, _, _, _, _, rfl, _⟩ := h; rfl) | (obtain ⟨_, _, _, _, _, _, _, _, _, _, _, _, rfl, _⟩ := h; rfl) | (obtain ⟨_, _, _, _, _, _, _, _, _, _, _, _, _, rfl, _⟩ := h; rfl) | (obtain ⟨_, _, _, _, _, _, _, _, _, _, _, _, _, _, rfl, _⟩ := h; rfl) | (obtain ⟨_, _, _, _, _, _, _, _, _, _, _, _, _, _, _, rfl, _⟩ := h; rfl) | (obtain ⟨_, _, _, _, _, _, _, _, _, _, _, _, _, _, _, _, rfl, _⟩ := h; rfl) | (obtain ⟨_, _, _, _, _, _, _, _, _, _, _, _, _, _, _, _, _, rfl, _⟩ := h; rfl) | (obtain ⟨_, _, _, _, _, _, _, _, _, _, _, _, _, _, _, _, _, _, rfl, _⟩ := h; rfl) | (obtain ⟨_, _, _, _, _, _, _, _, _, _, _, _, _, _, _, _, _, _, _, rfl, _⟩ := h; rfl) | (obtain ⟨_, _, _, _, _, _, _, _, _, _, _, _, _, _, _, _, _, _, _, _, rfl, _⟩ := h; rfl) | (obtain ⟨_, _, _, _, _, _, _, _, _, _, _, _, _, _, _, _, _, _, _, _, _, rfl, _⟩ := h; rfl) | (obtain ⟨_, _, _, _, _, _, _, _, _, _, _, _, _, _, _, _, _, _, _, _, _, _, rfl, _⟩ := h; rfl) | (obtain ⟨_, _, _, _, _, _, _, _, _, _, _, _, _, _, _, _, _, _, _, _, _, _, _, rfl, _⟩ := h; rfl)
  · obtain ⟨x, ns, rfl, ⟨dx, t, hx, ht⟩, q⟩ := h
    refine ⟨_, (pss_one (ps_ret (pe_fld (pv 0) (by rfl)))), ?_⟩
    exact ⟨_, rfl, x, C_Form, dx, _, .ref t, rfl, hx, T.cl_Form, T.na_Form_coefficients, lk_same, q t ht⟩
theorem ok_check_form (T : Txt K mg C_Form) : Def P w K mg base 1 "check_form" ["value"] (sp_check_form K C_Form) := by
  obtain ⟨f_, fd_, g_, F_⟩ := T.d_check_form
  refine ⟨f_, fd_, g_, F_.kp, F_.binds (ps := ["value"]) (fun _ _ _ _ _ _ us hl => match us, hl with | [_], _ => rfl), ?_⟩
  refine F_.ok sc_check_form (fun vs H Q E h => ?_) (fun cdv A outer s H vs Q E hr h => ?_)
  · first | (obtain ⟨rfl, _⟩ := h; rfl) | (obtain ⟨_, rfl, _⟩ := h; rfl) | (obtain ⟨_, _, rfl, _⟩ := h; rfl) | (obtain ⟨_, _, _, rfl, _⟩ := h; rfl) | (obtain ⟨_, _, _, _, rfl, _⟩ := h; rfl) | (obtain ⟨_, _, _, _, _, rfl, _⟩ := h; rfl) | (obtain ⟨_, _, _, _, _, _, rfl, _⟩ := h; rfl) | (obtain ⟨_, _, _, _, _, _, _, rfl, _⟩ := h; rfl) | (obtain ⟨_, _, _, _, _, _, _, _, rfl, _⟩ := h; rfl) | (obtain ⟨_, _, _, _, _, _, _, _, _, rfl, _⟩ := h; rfl) | (obtain ⟨_, _, _, _, _, _, _, _, _, _, rfl, _⟩ := h; rfl) | (obtain ⟨_, _, _, _, _, _, _, _, _, _, _, rfl, _⟩ := h; rfl) | (obtain ⟨_, _, _, _, _, _, _, _, _, _, _, _, rfl, _⟩ := h; rfl) | (obtain ⟨_, _, _, _, _, _, _, _, _, _, _, _, _, rfl, _⟩ := h; rfl) | (obtain ⟨_, _, _, _, _, _, _, _, _, _, _, _, _, _, rfl, _⟩ := h; rfl) | (obtain ⟨_, _, _, _, _, _, _, _, _, _, _, _, _, _, _, rfl, _⟩ := h; rfl) | (obtain ⟨_, _, _, _, _, _, _, _, _, _, _, _, _, _, _, _, rfl, _⟩ := h; rfl) | (obtain ⟨_, _, _, _, _, _, _, _, _, _, _, _, _, _, _, _, _, rfl, _⟩ := h; rfl) | (obtain ⟨_, _, _, _, _, _, _, _, _, _, _, _, _, _, _, _, _, _, rfl, _⟩ := h; rfl) | (obtain ⟨_, _, _, _, _, _, _, _, _, _, _, _, _, _, _, _, _, _, _, rfl, _⟩ := h; rfl) | (obtain ⟨_, _, _, _, _, _, _, _, _, _, _, _, _, _, _, _, _, _, _, _, rfl, _⟩ := h; rfl) | (obtain ⟨_, _, _, _, _, _, _, _, _, _, _, _, _, _, _, _, _, _, _, _, _, rfl, _⟩ := h; rfl) | (obtain ⟨_, _, _, _, _, _, _, _, _, _, _, _, _, _, _, _, _, _, _, _, _, _, rfl, _⟩ := h; rfl) | (obtain ⟨_, _, _, _, _, _, _, _, _, _, _, _, _, _, _, _, _, _, _, _, _, _, _, rfl, _⟩ := h; rfl)
  · obtain ⟨x, ns, rfl, ⟨dx, t, hx, ht⟩, q⟩ := h
    refine ⟨_, (pss_one (ps_if (pt_not (pt_val (pe_callB call_isi (by rfl) T.b_isinstance (by decide +kernel) (pa_cons (pv 0) (pa_cons (pe_glob (v := .ref C_Form) (by rfl) T.g_Form rfl) pa_nil)))))
      pss_never
      pss_nil)), ?_⟩
    refine ⟨_, rfl, _, _, _, _, true, rfl, .own _, ty_ins T.ty_Form T.cl_Form hx, kit_self, _, rfl, ?_⟩
    exact iteF q
theorem ok_Form___neg__ (T : Txt K mg C_Form) : MDef (fun p f => Meth K C_Form "__neg__" f) P w K mg base 6 ["self"] (sp_Form___neg__ K C_Form) := by
  obtain ⟨p_, f_, fd_, R_, F_⟩ := T.e_Form___neg__
  obtain ⟨f_form_of, fd_form_of, g_form_of, k_form_of, b_form_of, G_form_of⟩ := (ok_form_of (P := P) (w := w) (base := base) T)
  refine ⟨p_, f_, fd_, R_, F_.binds (ps := ["self"]) (fun _ _ _ _ _ _ us hl => match us, hl with | [_], _ => rfl), ?_⟩
  refine F_.ok sc_Form___neg__ (fun vs H Q E h => ?_) (fun cdv A outer s H vs Q E hr h => ?_)
  · first | (obtain ⟨rfl, _⟩ := h; rfl) | (obtain ⟨_, rfl, _⟩ := h; rfl) | (obtain ⟨_, _, rfl, _⟩ := h; rfl) | (obtain ⟨_, _, _, rfl, _⟩ := h; rfl) | (obtain ⟨_, _, _, _, rfl, _⟩ := h; rfl) | (obtain ⟨_, _, _, _, _, rfl, _⟩ := h; rfl) | (obtain ⟨_, _, _, _, _, _, rfl, _⟩ := h; rfl) | (obtain ⟨_, _, _, _, _, _, _, rfl, _⟩ := h; rfl) | (obtain ⟨_, _, _, _, _, _, _, _, rfl, _⟩ := h; rfl) | (obtain ⟨_, _, _, _, _, _, _, _, _, rfl, _⟩ := h; rfl) | (obtain ⟨_, _, _, _, _, _, _, _, _, _, rfl, _⟩ := h; rfl) | (obtain ⟨_, _, _, _, _, _, _, _, _, _, _, rfl, _⟩ := h; rfl) | (obtain ⟨_, _, _, _, _, _, _, _, _, _, _, _, rfl, _⟩ := h; rfl) | (obtain ⟨_, _, _, _, _, _, _, _, _, _, _, _, _, rfl, _⟩ := h; rfl) | (obtain ⟨_, _, _, _, _, _, _, _, _, _, _, _, _, _, rfl, _⟩ := h; rfl) | (obtain ⟨_, _, _, _, _, _, _, _, _, _, _, _, _, _, _, rfl, _⟩ := h; rfl) | (obtain ⟨_, _, _, _, _, _, _, _, _, _, _, _, _, _, _, _, rfl, _⟩ := h; rfl) | (obtain ⟨_, _, _, _, _, _, _, _, _, _, _, _, _, _, _, _, _, rfl, _⟩ := h; rfl) | (obtain ⟨_, _, _, _, _, _, _, _, _, _, _, _, _, _, _, _, _, _, rfl, _⟩ := h; rfl) | (obtain ⟨_, _, _, _, _, _, _, _, _, _, _, _, _, _, _, _, _, _, _, rfl, _⟩ := h; rfl) | (obtain ⟨_, _, _, _, _, _, _, _, _, _, _, _, _, _, _, _, _, _, _, _, rfl, _⟩ := h; rfl) | (obtain ⟨_, _, _, _, _, _, _, _, _, _, _, _, _, _, _, _, _, _, _, _, _, rfl, _⟩ := h; rfl) | (obtain ⟨_, _, _, _, _, _, _, _, _, _, _, _, _, _, _, _, _, _, _, _, _, _, rfl, _⟩ := h; rfl) | (obtain ⟨_, _, _, _, _, _, _, _, _, _, _, _, _, _, _, _, _, _, _, _, _, _, _, rfl, _⟩ := h; rfl)
  · obtain ⟨z, ns, rfl, ⟨dx, t, hx, ht⟩, hl, q⟩ := h
    refine ⟨_, (pss_one (ps_ret (pe_call G_form_of (hr.mono (by decide)) (by rfl) g_form_of k_form_of b_form_of .nil pass0 (pa_cons (pe_callTy call_tuple_of (by rfl) T.b_tuple (by decide +kernel) (pa_cons (pe_lc (own := [("number", 1)]) (g := (gName 1)) rfl sc_Form___neg__.nd (pi_tup (pe_fld (pv 0) (by rfl))) (blkOk_by (N := N_Form___neg__) (sc := defScope s_Form___neg__) (by decide +kernel)) (fun _ _ _ _ _ => (pg_name (i := 1) sc_Form___neg__.nd rfl (.inl rfl))) (fun _ _ _ _ _ => pts_nil) (fun _ _ _ _ _ => (pe_un un_neg (pv 1)))) pa_nil)) pa_nil)))), ?_⟩
    refine ⟨_, rfl, z, C_Form, dx, _, .ref t, rfl, hx, T.cl_Form, T.na_Form_coefficients, lk_same, t, rfl, ⟨_, SqT.of ht⟩, ?_⟩
    refine lcT fm0 trivial (SqT.of ht) (fun z => z) (fun i acc _ => acc = ((ns.take i).map fun n => -n).map V.int) (fun _ _ => rfl) (fun D i x acc H' hD hx' e hA hlen hp => ?_) (fun D H' acc hD e hA hp => ?_)
    · obtain ⟨n, hn, rfl⟩ := get_int hx'
      have hi := (List.getElem?_eq_some_iff.mp hn).1
      refine ⟨rfl, ?_⟩
      refine ⟨_, rfl, n, rfl, ?_⟩
      refine cs_yes fm0 trivial hD e hA hlen (by omega) (Fx.refl trivial) ?_
      rw [hp, List.take_add_one, hn, List.map_append, List.map_append]
      rfl
    · rw [List.length_map, List.take_length] at hp
      subst hp
      refine ⟨D, _, rfl, .inl ⟨SqL.of hA, fun p np => ?_⟩⟩
      exact ⟨p, ns.map fun n => -n, rfl, upd_same, fun x H3 e3 hx3 => q x H3 ((e.trans (Ex0.new np)).trans e3) hx3⟩
end
end TF
set_option Elab.async false
set_option linter.all false
set_option maxRecDepth 100000
namespace Fr
open PySem PySem.Spec PyProof.Rows L2
def Vat (c : Addr) (H : Hp) : Prop := ∃ x y z : Int, H c = some (.lst [.int x, .int y, .int z])
def Sv (c : Addr) : Addr → Prop := fun b => b = c
theorem fmV (c : Addr) : Fm (Sv c) (Vat c) := by
  constructor
  · intro H D i h e
    obtain ⟨x, y, z, q⟩ := i
    unfold Sv at e
    rw [e, q] at h
    cases h
  · intro H D o n i
    obtain ⟨x, y, z, q⟩ := i
    exact ⟨x, y, z, by rw [upd_ne (fun e => n e.symm)]; exact q⟩
abbrev Fv (c : Addr) : Hp → Hp → Prop := Fx (Sv c) (Vat c)
theorem vat_new {c l : Addr} {H : Hp} {o : HO} (hc : Vat c H) (hl : H l = none) : Vat c (upd H l o) := (fmV c).stay ((fmV c).fresh hc hl) hc
theorem fv_new {c l : Addr} {H : Hp} {o : HO} (hc : Vat c H) (hl : H l = none) : Fv c H (upd H l o) := Fx.new (fmV c) hc hl
theorem fv_ne {c l : Addr} {H : Hp} (hc : Vat c H) (hl : H l = none) : l ≠ c := (fmV c).fresh hc hl
theorem vat_ex {c : Addr} {H H' : Hp} (hc : Vat c H) (e : Ex0 H H') : Vat c H' := by
  obtain ⟨x, y, z, q⟩ := hc
  exact ⟨x, y, z, Ex0.ap e q⟩
theorem fv_ex {c : Addr} {H H' : Hp} (hc : Vat c H) (e : Ex0 H H') : Fv c H H' := ⟨vat_ex hc e, fun b o _ h => Ex0.ap e h⟩
theorem fv_tup {c a : Addr} {H H' : Hp} {xs : List V} (hc : Vat c H) (f : Fv c H H') (h : H a = some (.tup xs)) : H' a = some (.tup xs) := f.2 a _ (fun e => by
  obtain ⟨x, y, z, q⟩ := hc
  unfold Sv at e
  rw [e, q] at h
  cases h) h
theorem ex_fv {p : Addr} {H H1 H2 : Hp} (e : Ex0 H H1) (hp : H p = none) (f : Fv p H1 H2) : Ex0 H H2 := ⟨trivial, fun b o _ h => f.2 b o (fun z => by unfold Sv at z; rw [z, hp] at h; cases h) (Ex0.ap e h)⟩
theorem cut_map (ns : List Int) (lo hi : Option Int) : cutV (ns.map V.int) lo hi = ((ns.drop (HT.sIx (ns.map V.int).length 0 lo)).take (HT.sIx (ns.map V.int).length (ns.map V.int).length hi - HT.sIx (ns.map V.int).length 0 lo)).map V.int := by
  unfold cutV
  rw [← List.map_drop, ← List.map_take]
end Fr
namespace TF
open PySem PySem.Spec PyProof.Rows L2 Fr
theorem made_ex {H H' : Hp} {x dx : Addr} {o1 o2 : HO} (nx : H x = none) (ndx : H dx = none) (e1 : ∀ b o, b ≠ x → (upd (upd H dx o1) x o2) b = some o → H' b = some o) : Ex0 H H' := Ex0.of fun b o e => by
  have n1 : b ≠ x := ne_of_none e nx
  have n2 : b ≠ dx := ne_of_none e ndx
  refine e1 b o n1 ?_
  rw [upd_ne n1, upd_ne n2]
  exact e
theorem made_at {H : Hp} {x dx t : Addr} {o1 o2 : HO} {xs : List V} (nx : H x = none) (ndx : H dx = none) (h : H t = some (.tup xs)) : upd (upd H dx o1) x o2 t = some (.tup xs) := by
  rw [upd_ne (ne_of_none h nx), upd_ne (ne_of_none h ndx)]
  exact h
theorem ex_two {H : Hp} {x dx : Addr} {o1 o2 : HO} (nx : H x = none) (ndx : H dx = none) : Ex0 H (upd (upd H dx o1) x o2) := Ex0.of fun b o e => by
  rw [upd_ne (ne_of_none e nx), upd_ne (ne_of_none e ndx)]
  exact e
theorem fo_made {C : Addr} {H H' : Hp} {x dx t : Addr} {ns : List Int} {o1 o2 : HO} (nx : H x = none) (ndx : H dx = none) (ht : Ti H t ns) (e1 : ∀ b o, b ≠ x → (upd (upd H dx o1) x o2) b = some o → H' b = some o)
    (e2 : H' x = some (.ins C dx [(("_coefficients" : Str), .ref t)])) : Ex0 H H' ∧ FormAt C H' x ns :=
  ⟨made_ex nx ndx e1, dx, t, e2, Ex0.ti (made_ex nx ndx e1) ht⟩
end TF
namespace TF
open PySem PySem.Spec PyProof.Rows L2 Fr
open K05M (fv fl2 fl3 fdisc)
open K06M
def El (H : Hp) (x : V) (b : Bool) : Prop := (∃ i, x = .int i ∧ b = true) ∨ (Od H x ∧ b = false)
theorem El.ex {H H' : Hp} {x : V} {b : Bool} (e : Ex0 H H') (h : El H x b) : El H' x b := by
  rcases h with h | ⟨h, z⟩
  · exact .inl h
  · exact .inr ⟨h.ex e, z⟩
theorem ChV.t4 {H : Hp} {v : V} {p q r s : Int} (h : ChV H v (some (p, q, r, s))) : ∃ a, v = .ref a ∧ T4 H a p q r s := by
  generalize ho : (some (p, q, r, s)) = o at h
  cases h with
  | @two a x y o1 o2 h h1 h2 =>
    cases h1 with
    | yes g1 =>
      cases h2 with
      | yes g2 =>
        have := Option.some.inj ho
        obtain ⟨rfl, rfl, rfl, rfl⟩ : p = _ ∧ q = _ ∧ r = _ ∧ s = _ := by simpa using this
        exact ⟨a, rfl, _, _, h, g1, g2⟩
      | odd => cases ho
      | int => cases ho
      | lst => cases ho
      | snd => cases ho
    | odd => cases ho
    | int => cases ho
    | lst => cases ho
    | snd => cases ho
  | odd => cases ho
  | int => cases ho
  | lst => cases ho
  | len => cases ho
section
variable {P : Program} {w : World} {K : PySem.W.Frag} {mg : Str → Option Value} {base : Heap} {C_Form : Addr}
theorem ok_are_any_integers (T : Txt K mg C_Form) : Def P w K mg base 2 "are_any_integers" ["value", "many"] (sp_are_any_integers K C_Form) := by
  obtain ⟨f_, fd_, g_, F_⟩ := T.d_are_any_integers
  obtain ⟨f_is_any_integer, fd_is_any_integer, g_is_any_integer, k_is_any_integer, b_is_any_integer, G_is_any_integer⟩ := (ok_is_any_integer (P := P) (w := w) (base := base) T)
  refine ⟨f_, fd_, g_, F_.kp, F_.binds (ps := ["value", "many"]) (fun _ _ _ _ _ _ us hl => match us, hl with | [_, _], _ => rfl), ?_⟩
  refine F_.ok sc_are_any_integers (fun vs H Q E h => ?_) (fun cdv A outer s H vs Q E hr h => ?_)
  · first | (obtain ⟨rfl, _⟩ := h; rfl) | (obtain ⟨_, rfl, _⟩ := h; rfl) | (obtain ⟨_, _, rfl, _⟩ := h; rfl) | (obtain ⟨_, _, _, rfl, _⟩ := h; rfl) | (obtain ⟨_, _, _, _, rfl, _⟩ := h; rfl) | (obtain ⟨_, _, _, _, _, rfl, _⟩ := h; rfl) | (obtain ⟨_, _, _, _, _, _, rfl, _⟩ := h; rfl) | (obtain ⟨_, _, _, _, _, _, _, rfl, _⟩ := h; rfl) | (obtain ⟨_, _, _, _, _, _, _, _, rfl, _⟩ := h; rfl) | (obtain ⟨_, _, _, _, _, _, _, _, _, rfl, _⟩ := h; rfl) | (obtain ⟨_, _, _, _, _, _, _, _, _, _, rfl, _⟩ := h; rfl) | (obtain ⟨_, _, _, _, _, _, _, _, _, _, _, rfl, _⟩ := h; rfl) | (obtain ⟨_, _, _, _, _, _, _, _, _, _, _, _, rfl, _⟩ := h; rfl) | (obtain ⟨_, _, _, _, _, _, _, _, _, _, _, _, _, rfl, _⟩ := h; rfl) | (obtain ⟨_, _, _, _, _, _, _, _, _, _, _, _, _, _, rfl, _⟩ := h; rfl) | (obtain ⟨_, _, _, _, _, _, _, _, _, _, _, _, _, _, _, rfl, _⟩ := h; rfl) | (obtain ⟨_, _, _, _, _, _, _, _, _, _, _, _, _, _, _, _, rfl, _⟩ := h; rfl) | (obtain ⟨_, _, _, _, _, _, _, _, _, _, _, _, _, _, _, _, _, rfl, _⟩ := h; rfl) | (obtain ⟨_, _, _, _, _, _, _, _, _, _, _, _, _, _, _, _, _, _, rfl, _⟩ := h; rfl) | (obtain ⟨_, _, _, _, _, _, _, _, _, _, _, _, _, _, _, _, _, _, _, rfl, _⟩ := h; rfl) | (obtain ⟨_, _, _, _, _, _, _, _, _, _, _, _, _, _, _, _, _, _, _, _, rfl, _⟩ := h; rfl) | (obtain ⟨_, _, _, _, _, _, _, _, _, _, _, _, _, _, _, _, _, _, _, _, _, rfl, _⟩ := h; rfl) | (obtain ⟨_, _, _, _, _, _, _, _, _, _, _, _, _, _, _, _, _, _, _, _, _, _, rfl, _⟩ := h; rfl) | (obtain ⟨_, _, _, _, _, _, _, _, _, _, _, _, _, _, _, _, _, _, _, _, _, _, _, rfl, _⟩ := h; rfl)
  · obtain ⟨v, o, rfl, hv, q⟩ := h
    refine ⟨_, (pss_cons (ps_if (PW.pt (pw_or (pt_not (pt_val (pe_callB call_isi (by rfl) T.b_isinstance (by decide +kernel) (pa_cons (pv 0) (pa_cons (pe_bltn (v := .ty "tuple") (by rfl) T.b_tuple (by decide +kernel) rfl) pa_nil))))) (pw_or1 (pt_cmpR op_ne (pe_callB call_len_seq (by rfl) T.b_len PySem.boot_len (pa_cons (pv 0) pa_nil)) (pv 1) (nomark _)))))
      (pss_one (ps_ret pe_bl))
      pss_nil)
    (pss_one (ps_ret (pe_callB (cr_all rfl) (by rfl) T.b_all (by decide +kernel) (pa_cons (pe_lc (own := [("number", 2)]) (g := (gName 2)) rfl sc_are_any_integers.nd (pi_tup (pv 0)) (blkOk_by (N := N_are_any_integers) (sc := defScope s_are_any_integers) (by decide +kernel)) (fun _ _ _ _ _ => (pg_name (i := 2) sc_are_any_integers.nd rfl (.inl rfl))) (fun _ _ _ _ _ => pts_nil) (fun _ _ _ _ _ => (pe_call G_is_any_integer (hr.mono (by decide)) (by rfl) g_is_any_integer k_is_any_integer b_is_any_integer .nil pass0 (pa_cons (pv 2) pa_nil)))) pa_nil))))), ?_⟩
    have cls : (∃ (a : Addr) (x y : V) (b1 b2 : Bool), v = .ref a ∧ H a = some (.tup [x, y]) ∧ El H x b1 ∧ El H y b2 ∧ o.isSome = (b1 && b2)) ∨ (∃ t, TyX K H v t ∧ PySem.W.kitOne K t (.type "tuple") = some false ∧ o.isSome = false) ∨ (∃ a, v = .ref a ∧ H a = some (.tup [.int 1]) ∧ o.isSome = false) := by
      cases hv with
      | yes h => exact .inl ⟨_, _, _, true, true, rfl, h, .inl ⟨_, rfl, rfl⟩, .inl ⟨_, rfl, rfl⟩, rfl⟩
      | odd h =>
        cases h with
        | non => exact .inr (.inl ⟨_, .base .non, kit_ty (by decide +kernel), rfl⟩)
        | tt => exact .inr (.inl ⟨_, .base (.bl true), kit_ty (by decide +kernel), rfl⟩)
        | one => exact .inr (.inl ⟨_, .base (.str _), kit_ty (by decide +kernel), rfl⟩)
        | tup h => exact .inr (.inr ⟨_, rfl, h, rfl⟩)
      | int n => exact .inr (.inl ⟨_, .base (.int n), kit_ty (by decide +kernel), rfl⟩)
      | lst h => exact .inr (.inl ⟨_, .base (.lst h), kit_ty (by decide +kernel), rfl⟩)
      | snd h o => exact .inl ⟨_, _, _, true, false, rfl, h, .inl ⟨_, rfl, rfl⟩, .inr ⟨o, rfl⟩, rfl⟩
    rcases cls with ⟨a, x, y, b1, b2, rfl, ha, hx, hy, ho⟩ | ⟨t, ty, kt, ho⟩ | ⟨a, rfl, ha, ho⟩
    · rw [ho] at q
      refine ⟨_, rfl, _, _, _, _, true, rfl, .ty _, .base (.tup ha), kit_ty (by decide +kernel), _, rfl, ?_⟩
      refine iteF ⟨_, rfl, a, _, rfl, .inr (SqT.of ha), _, rfl, rfl, _, rfl, ?_⟩
      refine ndF rfl ?_
      refine ⟨_, rfl, a, rfl, ⟨_, SqT.of ha⟩, ?_⟩
      refine lcT fm0 trivial (SqT.of ha) (fun z => z) (fun i acc _ => acc = (([b1, b2] : List Bool).take i).map V.bl) (fun _ _ => rfl) (fun D i z acc H' hD hz e hA hlen hp => ?_) (fun D H' acc hD e hA hp => ?_)
      · have gz : ∃ b, El H z b ∧ ([b1, b2] : List Bool)[i]? = some b ∧ i < 2 := by
          match i, hz with
          | 0, hz => exact ⟨b1, (Option.some.inj hz) ▸ hx, rfl, by decide⟩
          | 1, hz => exact ⟨b2, (Option.some.inj hz) ▸ hy, rfl, by decide⟩
        obtain ⟨b, hb, hbi, hi⟩ := gz
        refine ⟨rfl, ?_⟩
        refine ⟨_, rfl, z, b, rfl, El.ex e hb, ?_⟩
        refine cs_yes fm0 trivial hD e hA hlen (by omega) (Fx.refl trivial) ?_
        rw [hp, List.take_add_one, hbi, List.map_append]
        rfl
      · subst hp
        refine ⟨D, [b1, b2], rfl, SqL.of hA, ?_⟩
        have e2 : ([b1, b2] : List Bool).all id = (b1 && b2) := by cases b1 <;> cases b2 <;> rfl
        rw [e2]
        exact q H' e
    · have := q H (Ex0.refl H)
      rw [ho] at this
      exact ⟨_, rfl, _, _, _, _, false, rfl, .ty _, ty, kt, _, rfl, iteT this⟩
    · have := q H (Ex0.refl H)
      rw [ho] at this
      refine ⟨_, rfl, _, _, _, _, true, rfl, .ty _, .base (.tup ha), kit_ty (by decide +kernel), _, rfl, ?_⟩
      refine iteF ⟨_, rfl, a, _, rfl, .inr (SqT.of ha), _, rfl, rfl, _, rfl, ?_⟩
      exact ndT (by decide) this
theorem ok_is_change (T : Txt K mg C_Form) : Def P w K mg base 3 "is_change" ["value"] (sp_is_change K C_Form) := by
  obtain ⟨f_, fd_, g_, F_⟩ := T.d_is_change
  obtain ⟨f_are_any_integers, fd_are_any_integers, g_are_any_integers, k_are_any_integers, b_are_any_integers, G_are_any_integers⟩ := (ok_are_any_integers (P := P) (w := w) (base := base) T)
  obtain ⟨f_determinant_of, fd_determinant_of, g_determinant_of, k_determinant_of, b_determinant_of, G_determinant_of⟩ := (ok_determinant_of (P := P) (w := w) (base := base) T)
  refine ⟨f_, fd_, g_, F_.kp, F_.binds (ps := ["value"]) (fun _ _ _ _ _ _ us hl => match us, hl with | [_], _ => rfl), ?_⟩
  refine F_.ok sc_is_change (fun vs H Q E h => ?_) (fun cdv A outer s H vs Q E hr h => ?_)
  · first | (obtain ⟨rfl, _⟩ := h; rfl) | (obtain ⟨_, rfl, _⟩ := h; rfl) | (obtain ⟨_, _, rfl, _⟩ := h; rfl) | (obtain ⟨_, _, _, rfl, _⟩ := h; rfl) | (obtain ⟨_, _, _, _, rfl, _⟩ := h; rfl) | (obtain ⟨_, _, _, _, _, rfl, _⟩ := h; rfl) | (obtain ⟨_, _, _, _, _, _, rfl, _⟩ := h; rfl) | (obtain ⟨_, _, _, _, _, _, _, rfl, _⟩ := h; rfl) | (obtain ⟨_, _, _, _, _, _, _, _, rfl, _⟩ := h; rfl) | (obtain ⟨_, _, _, _, _, _, _, _, _, rfl, _⟩ := h; rfl) | (obtain ⟨_, _, _, _, _, _, _, _, _, _, rfl, _⟩ := h; rfl) | (obtain ⟨_, _, _, _, _, _, _, _, _, _, _, rfl, _⟩ := h; rfl) | (obtain ⟨_, _, _, _, _, _, _, _, _, _, _, _, rfl, _⟩ := h; rfl) | (obtain ⟨_, _, _, _, _, _, _, _, _, _, _, _, _, rfl, _⟩ := h; rfl) | (obtain ⟨_, _, _, _, _, _, _, _, _, _, _, _, _, _, rfl, _⟩ := h; rfl) | (obtain ⟨_, _, _, _, _, _, _, _, _, _, _, _, _, _, _, rfl, _⟩ := h; rfl) | (obtain ⟨_, _, _, _, _, _, _, _, _, _, _, _, _, _, _, _, rfl, _⟩ := h; rfl) | (obtain ⟨_, _, _, _, _, _, _, _, _, _, _, _, _, _, _, _, _, rfl, _⟩ := h; rfl) | (obtain ⟨_, _, _, _, _, _, _, _, _, _, _, _, _, _, _, _, _, _, rfl, _⟩ := h; rfl) | (obtain ⟨_, _, _, _, _, _, _, _, _, _, _, _, _, _, _, _, _, _, _, rfl, _⟩ := h; rfl) | (obtain ⟨_, _, _, _, _, _, _, _, _, _, _, _, _, _, _, _, _, _, _, _, rfl, _⟩ := h; rfl) | (obtain ⟨_, _, _, _, _, _, _, _, _, _, _, _, _, _, _, _, _, _, _, _, _, rfl, _⟩ := h; rfl) | (obtain ⟨_, _, _, _, _, _, _, _, _, _, _, _, _, _, _, _, _, _, _, _, _, _, rfl, _⟩ := h; rfl) | (obtain ⟨_, _, _, _, _, _, _, _, _, _, _, _, _, _, _, _, _, _, _, _, _, _, _, rfl, _⟩ := h; rfl)
  · obtain ⟨v, o, rfl, hv, hB, q⟩ := h
    refine ⟨_, (pss_cons (ps_if (PW.pt (pw_or (pt_not (pt_val (pe_callB call_isi (by rfl) T.b_isinstance (by decide +kernel) (pa_cons (pv 0) (pa_cons (pe_bltn (v := .ty "tuple") (by rfl) T.b_tuple (by decide +kernel) rfl) pa_nil))))) (pw_or1 (pt_cmpR op_ne (pe_callB call_len_seq (by rfl) T.b_len PySem.boot_len (pa_cons (pv 0) pa_nil)) pe_int (nomark _)))))
      (pss_one (ps_ret pe_bl))
      pss_nil)
    (pss_cons (ps_if (pt_not (pt_val (pe_callB (cr_all rfl) (by rfl) T.b_all (by decide +kernel) (pa_cons (pe_lc (own := [("row", 1)]) (g := (gName 1)) rfl sc_is_change.nd (pi_tup (pv 0)) (blkOk_by (N := N_is_change) (sc := defScope s_is_change) (by decide +kernel)) (fun _ _ _ _ _ => (pg_name (i := 1) sc_is_change.nd rfl (.inl rfl))) (fun _ _ _ _ _ => pts_nil) (fun _ _ _ _ _ => (pe_call G_are_any_integers (hr.mono (by decide)) (by rfl) g_are_any_integers k_are_any_integers b_are_any_integers .nil pass0 (pa_cons (pv 1) (pa_cons pe_int pa_nil))))) pa_nil))))
      (pss_one (ps_ret pe_bl))
      pss_nil)
    (pss_one (ps_ret (pe_cmpR op_in_seq (pe_call G_determinant_of (hr.mono (by decide)) (by rfl) g_determinant_of k_determinant_of b_determinant_of .nil pass0 (pa_cons (pv 0) pa_nil)) (pe_tup (pa_cons pe_int (pa_cons (pe_un un_neg pe_int) pa_nil))) (by with_unfolding_all rfl)))))), ?_⟩
    have cls : (∃ (a : Addr) (x y : V) (o1 o2 : Option (Int × Int)), v = .ref a ∧ H a = some (.tup [x, y]) ∧ RowV H x o1 ∧ RowV H y o2 ∧ o = two o1 o2) ∨ (∃ t, TyX K H v t ∧ PySem.W.kitOne K t (.type "tuple") = some false ∧ o = none) ∨ (∃ a xs, v = .ref a ∧ H a = some (.tup xs) ∧ xs.length ≠ 2 ∧ o = none) := by
      cases hv with
      | two h h1 h2 => exact .inl ⟨_, _, _, _, _, rfl, h, h1, h2, rfl⟩
      | odd h =>
        cases h with
        | non => exact .inr (.inl ⟨_, .base .non, kit_ty (by decide +kernel), rfl⟩)
        | tt => exact .inr (.inl ⟨_, .base (.bl true), kit_ty (by decide +kernel), rfl⟩)
        | one => exact .inr (.inl ⟨_, .base (.str _), kit_ty (by decide +kernel), rfl⟩)
        | tup h => exact .inr (.inr ⟨_, _, rfl, h, by decide, rfl⟩)
      | int n => exact .inr (.inl ⟨_, .base (.int n), kit_ty (by decide +kernel), rfl⟩)
      | lst h => exact .inr (.inl ⟨_, .base (.lst h), kit_ty (by decide +kernel), rfl⟩)
      | len h l => exact .inr (.inr ⟨_, _, rfl, h, l, rfl⟩)
    rcases cls with ⟨a, x, y, o1, o2, rfl, ha, hx, hy, rfl⟩ | ⟨t, ty, kt, rfl⟩ | ⟨a, xs, rfl, ha, hl, rfl⟩
    · refine ⟨_, rfl, _, _, _, _, true, rfl, .ty _, .base (.tup ha), kit_ty (by decide +kernel), _, rfl, ?_⟩
      refine iteF ⟨_, rfl, a, _, rfl, .inr (SqT.of ha), rfl, _, rfl, ?_⟩
      refine ndF rfl ?_
      refine ⟨_, rfl, a, rfl, ⟨_, SqT.of ha⟩, ?_⟩
      refine lcT fm0 trivial (SqT.of ha) (fun z => z) (fun i acc _ => acc = (([o1.isSome, o2.isSome] : List Bool).take i).map V.bl) (fun _ _ => rfl) (fun D i z acc H' hD hz e hA hlen hp => ?_) (fun D H' acc hD e hA hp => ?_)
      · have gz : ∃ o, RowV H z o ∧ ([o1.isSome, o2.isSome] : List Bool)[i]? = some o.isSome ∧ i < 2 := by
          match i, hz with
          | 0, hz => exact ⟨o1, (Option.some.inj hz) ▸ hx, rfl, by decide⟩
          | 1, hz => exact ⟨o2, (Option.some.inj hz) ▸ hy, rfl, by decide⟩
        obtain ⟨oz, hb, hbi, hi⟩ := gz
        refine ⟨rfl, ?_⟩
        refine ⟨_, rfl, z, oz, rfl, hb.ex e, fun H'' e'' => ?_⟩
        refine cs_yes fm0 trivial hD e hA hlen (by omega) e'' ?_
        rw [hp, List.take_add_one, hbi, List.map_append]
        rfl
      · subst hp
        refine ⟨D, [o1.isSome, o2.isSome], rfl, SqL.of hA, _, rfl, ?_⟩
        cases o1 with
        | none => exact iteT (q H' e)
        | some u =>
          cases o2 with
          | none => exact iteT (q H' e)
          | some w =>
            obtain ⟨p, q'⟩ := u
            obtain ⟨r, s'⟩ := w
            refine iteF ?_
            cases hx with
            | yes h1 =>
              cases hy with
              | yes h2 =>
                obtain ⟨bp, bq, br, bs⟩ := hB p q' r s' rfl
                refine ⟨_, rfl, a, p, q', r, s', rfl, ⟨_, _, Ex0.ap e ha, Ex0.ap e h1, Ex0.ap e h2⟩, bp, bq, br, bs, _, rfl, sl2, fun u nu => ?_⟩
                refine ⟨u, _, rfl, .inr (SqT.of upd_same), rfl, rfl, ?_⟩
                have e1 : inV (.int (p * s' - q' * r)) [.int 1, .int (-1)] = decide (p * s' - q' * r = 1 ∨ p * s' - q' * r = -1) := by
                  show ((1 : Int) == p * s' - q' * r || ((-1 : Int) == p * s' - q' * r || false)) = _
                  apply Bool.eq_iff_iff.mpr
                  simp only [Bool.or_false, Bool.or_eq_true, beq_iff_eq, decide_eq_true_iff]
                  omega
                show Q (.bl (inV (.int (p * s' - q' * r)) [.int 1, .int (-1)])) _
                rw [e1]
                exact q _ (e.trans (Ex0.new nu))
    · exact ⟨_, rfl, _, _, _, _, false, rfl, .ty _, ty, kt, _, rfl, iteT (q H (Ex0.refl H))⟩
    · refine ⟨_, rfl, _, _, _, _, true, rfl, .ty _, .base (.tup ha), kit_ty (by decide +kernel), _, rfl, ?_⟩
      refine iteF ⟨_, rfl, a, _, rfl, .inr (SqT.of ha), rfl, _, rfl, ?_⟩
      exact ndT (fun z => hl (by have := V.int.inj z; omega)) (q H (Ex0.refl H))
theorem ok_raised (T : Txt K mg C_Form) : Def P w K mg base 1 "raised" ["base", "exponent"] (sp_raised K C_Form) := by
  obtain ⟨f_, fd_, g_, F_⟩ := T.d_raised
  refine ⟨f_, fd_, g_, F_.kp, F_.binds (ps := ["base", "exponent"]) (fun _ _ _ _ _ _ us hl => match us, hl with | [_, _], _ => rfl), ?_⟩
  refine F_.ok sc_raised (fun vs H Q E h => ?_) (fun cdv A outer s H vs Q E hr h => ?_)
  · first | (obtain ⟨rfl, _⟩ := h; rfl) | (obtain ⟨_, rfl, _⟩ := h; rfl) | (obtain ⟨_, _, rfl, _⟩ := h; rfl) | (obtain ⟨_, _, _, rfl, _⟩ := h; rfl) | (obtain ⟨_, _, _, _, rfl, _⟩ := h; rfl) | (obtain ⟨_, _, _, _, _, rfl, _⟩ := h; rfl) | (obtain ⟨_, _, _, _, _, _, rfl, _⟩ := h; rfl) | (obtain ⟨_, _, _, _, _, _, _, rfl, _⟩ := h; rfl) | (obtain ⟨_, _, _, _, _, _, _, _, rfl, _⟩ := h; rfl) | (obtain ⟨_, _, _, _, _, _, _, _, _, rfl, _⟩ := h; rfl) | (obtain ⟨_, _, _, _, _, _, _, _, _, _, rfl, _⟩ := h; rfl) | (obtain ⟨_, _, _, _, _, _, _, _, _, _, _, rfl, _⟩ := h; rfl) | (obtain ⟨_, _, _, _, _, _, _, _, _, _, _, _, rfl, _⟩ := h; rfl) | (obtain ⟨_, _, _, _, _, _, _, _, _, _, _, _, _, rfl, _⟩ := h; rfl) | (obtain ⟨_, _, _, _, _, _, _, _, _, _, _, _, _, _, rfl, _⟩ := h; rfl) | (obtain ⟨_, _, _, _, _, _, _, _, _, _, _, _, _, _, _, rfl, _⟩ := h; rfl) | (obtain ⟨_, _, _, _, _, _, _, _, _, _, _, _, _, _, _, _, rfl, _⟩ := h; rfl) | (obtain ⟨_, _, _, _, _, _, _, _, _, _, _, _, _, _, _, _, _, rfl, _⟩ := h; rfl) | (obtain ⟨_, _, _, _, _, _, _, _, _, _, _, _, _, _, _, _, _, _, rfl, _⟩ := h; rfl) | (obtain ⟨_, _, _, _, _, _, _, _, _, _, _, _, _, _, _, _, _, _, _, rfl, _⟩ := h; rfl) | (obtain ⟨_, _, _, _, _, _, _, _, _, _, _, _, _, _, _, _, _, _, _, _, rfl, _⟩ := h; rfl) | (obtain ⟨_, _, _, _, _, _, _, _, _, _, _, _, _, _, _, _, _, _, _, _, _, rfl, _⟩ := h; rfl) | (obtain ⟨_, _, _, _, _, _, _, _, _, _, _, _, _, _, _, _, _, _, _, _, _, _, rfl, _⟩ := h; rfl) | (obtain ⟨_, _, _, _, _, _, _, _, _, _, _, _, _, _, _, _, _, _, _, _, _, _, _, rfl, _⟩ := h; rfl)
  · obtain ⟨b, e, rfl, ⟨k, k0, ke, k1, hb⟩, q⟩ := h
    have he : e ≤ 2600 := Nat.le_trans (Nat.le_mul_of_pos_left e k0) ke
    refine ⟨_, (pss_cons (ps_set (i := 2) sc_raised.nd rfl (.inl rfl) pe_int)
    (pss_cons (ps_for PassesOwn.never rfl (pi_range1 (by rfl) T.b_range (pa_cons (pv 1) pa_nil)) (pg_name (i := 3) sc_raised.nd rfl (.inl rfl))
      (pss_one (ps_set (i := 2) sc_raised.nd rfl (.inl rfl) (pe_op op_mulW (pv 2) (pv 0)))))
    (pss_one (ps_ret (pv 2))))), ?_⟩
    have pw : ∀ i : Nat, (b ^ i).natAbs < 2 ^ (k * i + 1) := fun i => by
      induction i with
      | zero => rw [Int.pow_zero]; show 1 < 2 ^ (k * 0 + 1); rw [Nat.mul_zero]; decide
      | succ i ih =>
        rw [Int.pow_succ, show k * (i + 1) + 1 = (k * i + 1) + k by rw [Nat.mul_add]; omega]
        exact wide_lt ih hb
    refine ⟨_, rfl, _, rfl, by omega, by omega, for_range (lo := 0) (n := ((e : Int)).toNat) (fun i σ H' => ∃ y3, σ = [some (.int b), some (.int (e : Int)), some (.int (b ^ i)), y3] ∧ H = H') ⟨none, by rw [Int.pow_zero]; rfl, rfl⟩ ?_ ?_⟩
    · rintro i σ H' hi ⟨y3, rfl, rfl⟩
      have hki : k * i ≤ 2600 := Nat.le_trans (Nat.mul_le_mul_left k (by omega)) ke
      refine ⟨_, rfl, _, rfl, _, _, rfl, rfl, wide_mul (a := k * i + 1) (b := k) (pw i) hb (by omega) k0 (by omega), ?_⟩
      refine ⟨some (.int (0 + (i : Int))), ?_, rfl⟩
      rw [Int.pow_succ]
      rfl
    · rintro σ H' ⟨y3, rfl, rfl⟩
      exact ⟨_, rfl, q⟩
theorem ok_are_within_digits (T : Txt K mg C_Form) : Def P w K mg base 2 "are_within_digits" ["coefficients"] (sp_are_within_digits K C_Form) := by
  obtain ⟨f_, fd_, g_, F_⟩ := T.d_are_within_digits
  obtain ⟨f_raised, fd_raised, g_raised, k_raised, b_raised, G_raised⟩ := (ok_raised (P := P) (w := w) (base := base) T)
  refine ⟨f_, fd_, g_, F_.kp, F_.binds (ps := ["coefficients"]) (fun _ _ _ _ _ _ us hl => match us, hl with | [_], _ => rfl), ?_⟩
  refine F_.ok sc_are_within_digits (fun vs H Q E h => ?_) (fun cdv A outer s H vs Q E hr h => ?_)
  · first | (obtain ⟨rfl, _⟩ := h; rfl) | (obtain ⟨_, rfl, _⟩ := h; rfl) | (obtain ⟨_, _, rfl, _⟩ := h; rfl) | (obtain ⟨_, _, _, rfl, _⟩ := h; rfl) | (obtain ⟨_, _, _, _, rfl, _⟩ := h; rfl) | (obtain ⟨_, _, _, _, _, rfl, _⟩ := h; rfl) | (obtain ⟨_, _, _, _, _, _, rfl, _⟩ := h; rfl) | (obtain ⟨_, _, _, _, _, _, _, rfl, _⟩ := h; rfl) | (obtain ⟨_, _, _, _, _, _, _, _, rfl, _⟩ := h; rfl) | (obtain ⟨_, _, _, _, _, _, _, _, _, rfl, _⟩ := h; rfl) | (obtain ⟨_, _, _, _, _, _, _, _, _, _, rfl, _⟩ := h; rfl) | (obtain ⟨_, _, _, _, _, _, _, _, _, _, _, rfl, _⟩ := h; rfl) | (obtain ⟨_, _, _, _, _, _, _, _, _, _, _, _, rfl, _⟩ := h; rfl) | (obtain ⟨_, _, _, _, _, _, _, _, _, _, _, _, _, rfl, _⟩ := h; rfl) | (obtain ⟨_, _, _, _, _, _, _, _, _, _, _, _, _, _, rfl, _⟩ := h; rfl) | (obtain ⟨_, _, _, _, _, _, _, _, _, _, _, _, _, _, _, rfl, _⟩ := h; rfl) | (obtain ⟨_, _, _, _, _, _, _, _, _, _, _, _, _, _, _, _, rfl, _⟩ := h; rfl) | (obtain ⟨_, _, _, _, _, _, _, _, _, _, _, _, _, _, _, _, _, rfl, _⟩ := h; rfl) | (obtain ⟨_, _, _, _, _, _, _, _, _, _, _, _, _, _, _, _, _, _, rfl, _⟩ := h; rfl) | (obtain ⟨_, _, _, _, _, _, _, _, _, _, _, _, _, _, _, _, _, _, _, rfl, _⟩ := h; rfl) | (obtain ⟨_, _, _, _, _, _, _, _, _, _, _, _, _, _, _, _, _, _, _, _, rfl, _⟩ := h; rfl) | (obtain ⟨_, _, _, _, _, _, _, _, _, _, _, _, _, _, _, _, _, _, _, _, _, rfl, _⟩ := h; rfl) | (obtain ⟨_, _, _, _, _, _, _, _, _, _, _, _, _, _, _, _, _, _, _, _, _, _, rfl, _⟩ := h; rfl) | (obtain ⟨_, _, _, _, _, _, _, _, _, _, _, _, _, _, _, _, _, _, _, _, _, _, _, rfl, _⟩ := h; rfl)
  · obtain ⟨t, ns, rfl, ht, hl, hd, q⟩ := h
    obtain ⟨t_MOST_DIGITS, h_MOST_DIGITS⟩ := T.x_MOST_DIGITS
    refine ⟨_, (pss_cons (ps_set (i := 1) sc_are_within_digits.nd rfl (.inr rfl) (pe_call G_raised (hr.mono (by decide)) (by rfl) g_raised k_raised b_raised .nil pass0 (pa_cons pe_int (pa_cons (pe_glob (v := .int 20) (by rfl) h_MOST_DIGITS ⟨_, rfl⟩) pa_nil))))
    (pss_one (ps_ret (pe_callB (cr_all rfl) (by rfl) T.b_all (by decide +kernel) (pa_cons (pe_lc (own := [("number", 2)]) (g := (gName 2)) rfl sc_are_within_digits.nd (pi_tup (pv 0)) (blkOk_by (N := N_are_within_digits) (sc := defScope s_are_within_digits) (by decide +kernel)) (fun _ _ _ _ _ => (pg_name (i := 2) sc_are_within_digits.nd rfl (.inl rfl))) (fun _ _ _ _ _ => pts_nil) (fun _ _ _ _ _ => (pe_chain op_lt op_lt (pe_un un_neg (pv 1)) (pv 2) (pv 1)))) pa_nil))))), ?_⟩
    have e10 : (10 : Int) ^ 20 = 100000000000000000000 := by decide +kernel
    refine ⟨10, 20, rfl, ⟨4, by decide, by decide, by decide, by decide⟩, ?_⟩
    refine ⟨_, rfl, t, rfl, ⟨_, SqT.of ht⟩, ?_⟩
    refine lcT fm0 trivial (SqT.of ht) (fun z => z) (fun i acc _ => acc = (List.replicate i true).map V.bl) (fun _ _ => rfl) (fun D i x acc H' hD hx e hA hlen hp => ?_) (fun D H' acc hD e hA hp => ?_)
    · obtain ⟨n, hn, rfl⟩ := get_int hx
      have hi := (List.getElem?_eq_some_iff.mp hn).1
      have hn2 := hd n (List.mem_of_getElem? hn)
      unfold Dig at hn2
      refine ⟨rfl, ?_⟩
      refine ⟨_, rfl, _, rfl, _, rfl, _, _, rfl, rfl, _, rfl, dT (by rw [e10]; exact hn2.1) ⟨_, rfl, _, _, rfl, rfl, ?_⟩⟩
      simp only [decide_eq_true (show n < (10 : Int) ^ 20 by rw [e10]; exact hn2.2)]
      refine cs_yes fm0 trivial hD e hA hlen (by omega) (Fx.refl trivial) ?_
      rw [hp, List.replicate_succ', List.map_append]
      rfl
    · rw [List.length_map] at hp
      subst hp
      refine ⟨D, _, rfl, SqL.of hA, ?_⟩
      rw [show ((List.replicate ns.length true).all id) = true by simp]
      exact q H' e
theorem ok_check_digits (T : Txt K mg C_Form) : Def P w K mg base 4 "check_digits" ["form"] (sp_check_digits K C_Form) := by
  obtain ⟨f_, fd_, g_, F_⟩ := T.d_check_digits
  obtain ⟨p_Form_coefficients, f_Form_coefficients, fd_Form_coefficients, R_Form_coefficients, b_Form_coefficients, G_Form_coefficients⟩ := (ok_Form_coefficients (P := P) (w := w) (base := base) T)
  obtain ⟨f_are_within_digits, fd_are_within_digits, g_are_within_digits, k_are_within_digits, b_are_within_digits, G_are_within_digits⟩ := (ok_are_within_digits (P := P) (w := w) (base := base) T)
  refine ⟨f_, fd_, g_, F_.kp, F_.binds (ps := ["form"]) (fun _ _ _ _ _ _ us hl => match us, hl with | [_], _ => rfl), ?_⟩
  refine F_.ok sc_check_digits (fun vs H Q E h => ?_) (fun cdv A outer s H vs Q E hr h => ?_)
  · first | (obtain ⟨rfl, _⟩ := h; rfl) | (obtain ⟨_, rfl, _⟩ := h; rfl) | (obtain ⟨_, _, rfl, _⟩ := h; rfl) | (obtain ⟨_, _, _, rfl, _⟩ := h; rfl) | (obtain ⟨_, _, _, _, rfl, _⟩ := h; rfl) | (obtain ⟨_, _, _, _, _, rfl, _⟩ := h; rfl) | (obtain ⟨_, _, _, _, _, _, rfl, _⟩ := h; rfl) | (obtain ⟨_, _, _, _, _, _, _, rfl, _⟩ := h; rfl) | (obtain ⟨_, _, _, _, _, _, _, _, rfl, _⟩ := h; rfl) | (obtain ⟨_, _, _, _, _, _, _, _, _, rfl, _⟩ := h; rfl) | (obtain ⟨_, _, _, _, _, _, _, _, _, _, rfl, _⟩ := h; rfl) | (obtain ⟨_, _, _, _, _, _, _, _, _, _, _, rfl, _⟩ := h; rfl) | (obtain ⟨_, _, _, _, _, _, _, _, _, _, _, _, rfl, _⟩ := h; rfl) | (obtain ⟨_, _, _, _, _, _, _, _, _, _, _, _, _, rfl, _⟩ := h; rfl) | (obtain ⟨_, _, _, _, _, _, _, _, _, _, _, _, _, _, rfl, _⟩ := h; rfl) | (obtain ⟨_, _, _, _, _, _, _, _, _, _, _, _, _, _, _, rfl, _⟩ := h; rfl) | (obtain ⟨_, _, _, _, _, _, _, _, _, _, _, _, _, _, _, _, rfl, _⟩ := h; rfl) | (obtain ⟨_, _, _, _, _, _, _, _, _, _, _, _, _, _, _, _, _, rfl, _⟩ := h; rfl) | (obtain ⟨_, _, _, _, _, _, _, _, _, _, _, _, _, _, _, _, _, _, rfl, _⟩ := h; rfl) | (obtain ⟨_, _, _, _, _, _, _, _, _, _, _, _, _, _, _, _, _, _, _, rfl, _⟩ := h; rfl) | (obtain ⟨_, _, _, _, _, _, _, _, _, _, _, _, _, _, _, _, _, _, _, _, rfl, _⟩ := h; rfl) | (obtain ⟨_, _, _, _, _, _, _, _, _, _, _, _, _, _, _, _, _, _, _, _, _, rfl, _⟩ := h; rfl) | (obtain ⟨_, _, _, _, _, _, _, _, _, _, _, _, _, _, _, _, _, _, _, _, _, _, rfl, _⟩ := h; rfl) | (obtain ⟨_, _, _, _, _, _, _, _, _, _, _, _, _, _, _, _, _, _, _, _, _, _, _, rfl, _⟩ := h; rfl)
  · obtain ⟨x, ns, rfl, hx, hl, hd, q⟩ := h
    obtain ⟨dx, t, hx1, hx2⟩ := id hx
    obtain ⟨t_MOST_DIGITS, h_MOST_DIGITS⟩ := T.x_MOST_DIGITS
    refine ⟨_, (pss_one (ps_if (pt_not (pt_val (pe_call G_are_within_digits (hr.mono (by decide)) (by rfl) g_are_within_digits k_are_within_digits b_are_within_digits .nil pass0 (pa_cons (pe_prop (pv 0) T.cl_Form R_Form_coefficients G_Form_coefficients (hr.mono (by decide)) b_Form_coefficients .nil pass0 (by rfl)) pa_nil))))
      pss_never
      pss_nil)), ?_⟩
    refine ⟨_, rfl, x, dx, _, rfl, hx1, x, _, rfl, hx, fun t ht => ?_⟩
    refine ⟨t, ns, rfl, ht, hl, hd, fun H1 e1 => ⟨_, rfl, iteF (q H1 e1)⟩⟩
theorem ok_check_pair (T : Txt K mg C_Form) : Def P w K mg base 5 "check_pair" ["one", "other"] (sp_check_pair K C_Form) := by
  obtain ⟨f_, fd_, g_, F_⟩ := T.d_check_pair
  obtain ⟨f_check_digits, fd_check_digits, g_check_digits, k_check_digits, b_check_digits, G_check_digits⟩ := (ok_check_digits (P := P) (w := w) (base := base) T)
  obtain ⟨f_check_form, fd_check_form, g_check_form, k_check_form, b_check_form, G_check_form⟩ := (ok_check_form (P := P) (w := w) (base := base) T)
  refine ⟨f_, fd_, g_, F_.kp, F_.binds (ps := ["one", "other"]) (fun _ _ _ _ _ _ us hl => match us, hl with | [_, _], _ => rfl), ?_⟩
  refine F_.ok sc_check_pair (fun vs H Q E h => ?_) (fun cdv A outer s H vs Q E hr h => ?_)
  · first | (obtain ⟨rfl, _⟩ := h; rfl) | (obtain ⟨_, rfl, _⟩ := h; rfl) | (obtain ⟨_, _, rfl, _⟩ := h; rfl) | (obtain ⟨_, _, _, rfl, _⟩ := h; rfl) | (obtain ⟨_, _, _, _, rfl, _⟩ := h; rfl) | (obtain ⟨_, _, _, _, _, rfl, _⟩ := h; rfl) | (obtain ⟨_, _, _, _, _, _, rfl, _⟩ := h; rfl) | (obtain ⟨_, _, _, _, _, _, _, rfl, _⟩ := h; rfl) | (obtain ⟨_, _, _, _, _, _, _, _, rfl, _⟩ := h; rfl) | (obtain ⟨_, _, _, _, _, _, _, _, _, rfl, _⟩ := h; rfl) | (obtain ⟨_, _, _, _, _, _, _, _, _, _, rfl, _⟩ := h; rfl) | (obtain ⟨_, _, _, _, _, _, _, _, _, _, _, rfl, _⟩ := h; rfl) | (obtain ⟨_, _, _, _, _, _, _, _, _, _, _, _, rfl, _⟩ := h; rfl) | (obtain ⟨_, _, _, _, _, _, _, _, _, _, _, _, _, rfl, _⟩ := h; rfl) | (obtain ⟨_, _, _, _, _, _, _, _, _, _, _, _, _, _, rfl, _⟩ := h; rfl) | (obtain ⟨_, _, _, _, _, _, _, _, _, _, _, _, _, _, _, rfl, _⟩ := h; rfl) | (obtain ⟨_, _, _, _, _, _, _, _, _, _, _, _, _, _, _, _, rfl, _⟩ := h; rfl) | (obtain ⟨_, _, _, _, _, _, _, _, _, _, _, _, _, _, _, _, _, rfl, _⟩ := h; rfl) | (obtain ⟨_, _, _, _, _, _, _, _, _, _, _, _, _, _, _, _, _, _, rfl, _⟩ := h; rfl) | (obtain ⟨_, _, _, _, _, _, _, _, _, _, _, _, _, _, _, _, _, _, _, rfl, _⟩ := h; rfl) | (obtain ⟨_, _, _, _, _, _, _, _, _, _, _, _, _, _, _, _, _, _, _, _, rfl, _⟩ := h; rfl) | (obtain ⟨_, _, _, _, _, _, _, _, _, _, _, _, _, _, _, _, _, _, _, _, _, rfl, _⟩ := h; rfl) | (obtain ⟨_, _, _, _, _, _, _, _, _, _, _, _, _, _, _, _, _, _, _, _, _, _, rfl, _⟩ := h; rfl) | (obtain ⟨_, _, _, _, _, _, _, _, _, _, _, _, _, _, _, _, _, _, _, _, _, _, _, rfl, _⟩ := h; rfl)
  · obtain ⟨x, y, ns, ms, rfl, hx, hy, lx, ly, dx, dy, q⟩ := h
    refine ⟨_, (pss_cons (ps_expr (pe_call G_check_form (hr.mono (by decide)) (by rfl) g_check_form k_check_form b_check_form .nil pass0 (pa_cons (pv 0) pa_nil)))
    (pss_cons (ps_expr (pe_call G_check_form (hr.mono (by decide)) (by rfl) g_check_form k_check_form b_check_form .nil pass0 (pa_cons (pv 1) pa_nil)))
    (pss_cons (ps_expr (pe_call G_check_digits (hr.mono (by decide)) (by rfl) g_check_digits k_check_digits b_check_digits .nil pass0 (pa_cons (pv 0) pa_nil)))
    (pss_one (ps_expr (pe_call G_check_digits (hr.mono (by decide)) (by rfl) g_check_digits k_check_digits b_check_digits .nil pass0 (pa_cons (pv 1) pa_nil))))))), ?_⟩
    refine ⟨_, rfl, x, _, rfl, hx, ?_⟩
    refine ⟨_, rfl, y, _, rfl, hy, ?_⟩
    refine ⟨_, rfl, x, _, rfl, hx, lx, dx, fun H1 e1 => ?_⟩
    exact ⟨_, rfl, y, _, rfl, Ex0.fo e1 hy, ly, dy, fun H2 e2 => q H2 (e1.trans e2)⟩
theorem ok_leads (T : Txt K mg C_Form) : Def P w K mg base 4 "leads" ["one", "other", "change"] (sp_leads K C_Form) := by
  obtain ⟨f_, fd_, g_, F_⟩ := T.d_leads
  obtain ⟨p_Form_coefficients, f_Form_coefficients, fd_Form_coefficients, R_Form_coefficients, b_Form_coefficients, G_Form_coefficients⟩ := (ok_Form_coefficients (P := P) (w := w) (base := base) T)
  obtain ⟨f_form_led, fd_form_led, g_form_led, k_form_led, b_form_led, G_form_led⟩ := (ok_form_led (P := P) (w := w) (base := base) T)
  refine ⟨f_, fd_, g_, F_.kp, F_.binds (ps := ["one", "other", "change"]) (fun _ _ _ _ _ _ us hl => match us, hl with | [_, _, _], _ => rfl), ?_⟩
  refine F_.ok sc_leads (fun vs H Q E h => ?_) (fun cdv A outer s H vs Q E hr h => ?_)
  · first | (obtain ⟨rfl, _⟩ := h; rfl) | (obtain ⟨_, rfl, _⟩ := h; rfl) | (obtain ⟨_, _, rfl, _⟩ := h; rfl) | (obtain ⟨_, _, _, rfl, _⟩ := h; rfl) | (obtain ⟨_, _, _, _, rfl, _⟩ := h; rfl) | (obtain ⟨_, _, _, _, _, rfl, _⟩ := h; rfl) | (obtain ⟨_, _, _, _, _, _, rfl, _⟩ := h; rfl) | (obtain ⟨_, _, _, _, _, _, _, rfl, _⟩ := h; rfl) | (obtain ⟨_, _, _, _, _, _, _, _, rfl, _⟩ := h; rfl) | (obtain ⟨_, _, _, _, _, _, _, _, _, rfl, _⟩ := h; rfl) | (obtain ⟨_, _, _, _, _, _, _, _, _, _, rfl, _⟩ := h; rfl) | (obtain ⟨_, _, _, _, _, _, _, _, _, _, _, rfl, _⟩ := h; rfl) | (obtain ⟨_, _, _, _, _, _, _, _, _, _, _, _, rfl, _⟩ := h; rfl) | (obtain ⟨_, _, _, _, _, _, _, _, _, _, _, _, _, rfl, _⟩ := h; rfl) | (obtain ⟨_, _, _, _, _, _, _, _, _, _, _, _, _, _, rfl, _⟩ := h; rfl) | (obtain ⟨_, _, _, _, _, _, _, _, _, _, _, _, _, _, _, rfl, _⟩ := h; rfl) | (obtain ⟨_, _, _, _, _, _, _, _, _, _, _, _, _, _, _, _, rfl, _⟩ := h; rfl) | (obtain ⟨_, _, _, _, _, _, _, _, _, _, _, _, _, _, _, _, _, rfl, _⟩ := h; rfl) | (obtain ⟨_, _, _, _, _, _, _, _, _, _, _, _, _, _, _, _, _, _, rfl, _⟩ := h; rfl) | (obtain ⟨_, _, _, _, _, _, _, _, _, _, _, _, _, _, _, _, _, _, _, rfl, _⟩ := h; rfl) | (obtain ⟨_, _, _, _, _, _, _, _, _, _, _, _, _, _, _, _, _, _, _, _, rfl, _⟩ := h; rfl) | (obtain ⟨_, _, _, _, _, _, _, _, _, _, _, _, _, _, _, _, _, _, _, _, _, rfl, _⟩ := h; rfl) | (obtain ⟨_, _, _, _, _, _, _, _, _, _, _, _, _, _, _, _, _, _, _, _, _, _, rfl, _⟩ := h; rfl) | (obtain ⟨_, _, _, _, _, _, _, _, _, _, _, _, _, _, _, _, _, _, _, _, _, _, _, rfl, _⟩ := h; rfl)
  · obtain ⟨x, y, u, a, b, c, d, p, q', r, s', ms, rfl, hx, hy, hu, ba, bb, bc, bd, ⟨bp, bq, br, bs⟩, q⟩ := h
    obtain ⟨dx, t, hx1, hx2⟩ := id hx
    refine ⟨_, (pss_one (ps_ret (pe_cmpR (op_eqD hr.units) (pe_call G_form_led (hr.mono (by decide)) (by rfl) g_form_led k_form_led b_form_led .nil pass0 (pa_cons (pe_prop (pv 0) T.cl_Form R_Form_coefficients G_Form_coefficients (hr.mono (by decide)) b_Form_coefficients .nil pass0 (by rfl)) (pa_cons (pv 2) pa_nil))) (pe_prop (pv 1) T.cl_Form R_Form_coefficients G_Form_coefficients (hr.mono (by decide)) b_Form_coefficients .nil pass0 (by rfl)) (nomark _)))), ?_⟩
    refine ⟨_, rfl, x, dx, _, rfl, hx1, x, _, rfl, hx, fun t ht => ?_⟩
    refine ⟨_, rfl, t, u, a, b, c, d, p, q', r, s', rfl, ht, hu, ba, bb, bc, bd, bp, bq, br, bs, fun z H1 e1 hz => ?_⟩
    obtain ⟨dy, t2, hy1, hy2⟩ := id (Ex0.fo e1 hy)
    refine ⟨_, rfl, y, dy, _, rfl, hy1, y, _, rfl, Ex0.fo e1 hy, fun t3 ht3 => ?_⟩
    refine ⟨.tuple ((fled a b c d p q' r s').map .int), .tuple (ms.map .int), .tup (SqT.of hz) (dp_ints _), .tup (SqT.of ht3) (dp_ints _), shaped_tints _, shaped_tints _, ?_⟩
    rw [PyData.eqv, eqv_ints]
    exact q H1 e1
theorem ok_is_way (T : Txt K mg C_Form) : Def P w K mg base 6 "is_way" ["one", "other", "value"] (sp_is_way K C_Form) := by
  obtain ⟨f_, fd_, g_, F_⟩ := T.d_is_way
  obtain ⟨f_check_pair, fd_check_pair, g_check_pair, k_check_pair, b_check_pair, G_check_pair⟩ := (ok_check_pair (P := P) (w := w) (base := base) T)
  obtain ⟨f_is_change, fd_is_change, g_is_change, k_is_change, b_is_change, G_is_change⟩ := (ok_is_change (P := P) (w := w) (base := base) T)
  obtain ⟨f_leads, fd_leads, g_leads, k_leads, b_leads, G_leads⟩ := (ok_leads (P := P) (w := w) (base := base) T)
  refine ⟨f_, fd_, g_, F_.kp, F_.binds (ps := ["one", "other", "value"]) (fun _ _ _ _ _ _ us hl => match us, hl with | [_, _, _], _ => rfl), ?_⟩
  refine F_.ok sc_is_way (fun vs H Q E h => ?_) (fun cdv A outer s H vs Q E hr h => ?_)
  · first | (obtain ⟨rfl, _⟩ := h; rfl) | (obtain ⟨_, rfl, _⟩ := h; rfl) | (obtain ⟨_, _, rfl, _⟩ := h; rfl) | (obtain ⟨_, _, _, rfl, _⟩ := h; rfl) | (obtain ⟨_, _, _, _, rfl, _⟩ := h; rfl) | (obtain ⟨_, _, _, _, _, rfl, _⟩ := h; rfl) | (obtain ⟨_, _, _, _, _, _, rfl, _⟩ := h; rfl) | (obtain ⟨_, _, _, _, _, _, _, rfl, _⟩ := h; rfl) | (obtain ⟨_, _, _, _, _, _, _, _, rfl, _⟩ := h; rfl) | (obtain ⟨_, _, _, _, _, _, _, _, _, rfl, _⟩ := h; rfl) | (obtain ⟨_, _, _, _, _, _, _, _, _, _, rfl, _⟩ := h; rfl) | (obtain ⟨_, _, _, _, _, _, _, _, _, _, _, rfl, _⟩ := h; rfl) | (obtain ⟨_, _, _, _, _, _, _, _, _, _, _, _, rfl, _⟩ := h; rfl) | (obtain ⟨_, _, _, _, _, _, _, _, _, _, _, _, _, rfl, _⟩ := h; rfl) | (obtain ⟨_, _, _, _, _, _, _, _, _, _, _, _, _, _, rfl, _⟩ := h; rfl) | (obtain ⟨_, _, _, _, _, _, _, _, _, _, _, _, _, _, _, rfl, _⟩ := h; rfl) | (obtain ⟨_, _, _, _, _, _, _, _, _, _, _, _, _, _, _, _, rfl, _⟩ := h; rfl) | (obtain ⟨_, _, _, _, _, _, _, _, _, _, _, _, _, _, _, _, _, rfl, _⟩ := h; rfl) | (obtain ⟨_, _, _, _, _, _, _, _, _, _, _, _, _, _, _, _, _, _, rfl, _⟩ := h; rfl) | (obtain ⟨_, _, _, _, _, _, _, _, _, _, _, _, _, _, _, _, _, _, _, rfl, _⟩ := h; rfl) | (obtain ⟨_, _, _, _, _, _, _, _, _, _, _, _, _, _, _, _, _, _, _, _, rfl, _⟩ := h; rfl) | (obtain ⟨_, _, _, _, _, _, _, _, _, _, _, _, _, _, _, _, _, _, _, _, _, rfl, _⟩ := h; rfl) | (obtain ⟨_, _, _, _, _, _, _, _, _, _, _, _, _, _, _, _, _, _, _, _, _, _, rfl, _⟩ := h; rfl) | (obtain ⟨_, _, _, _, _, _, _, _, _, _, _, _, _, _, _, _, _, _, _, _, _, _, _, rfl, _⟩ := h; rfl)
  · obtain ⟨x, y, v, a, b, c, d, ms, o, rfl, hx, hy, lm, dn, dm, hv, hB, q⟩ := h
    refine ⟨_, (pss_cons (ps_expr (pe_call G_check_pair (hr.mono (by decide)) (by rfl) g_check_pair k_check_pair b_check_pair .nil pass0 (pa_cons (pv 0) (pa_cons (pv 1) pa_nil))))
    (pss_one (ps_ret (pe_and (pe_call G_is_change (hr.mono (by decide)) (by rfl) g_is_change k_is_change b_is_change .nil pass0 (pa_cons (pv 2) pa_nil)) (pe_one (pe_call G_leads (hr.mono (by decide)) (by rfl) g_leads k_leads b_leads .nil pass0 (pa_cons (pv 0) (pa_cons (pv 1) (pa_cons (pv 2) pa_nil))))))))), ?_⟩
    refine ⟨_, rfl, _, rfl, x, y, _, ms, rfl, hx, hy, by show 4 ≤ 1000; decide, lm, dn, dm, fun H1 e1 => ?_⟩
    refine ⟨_, rfl, v, o, rfl, hv.ex e1, hB, fun H2 e2 => ⟨_, rfl, ?_⟩⟩
    have e12 := e1.trans e2
    have bb : ∀ n ∈ [a, b, c, d], B 1000 n := fun n hn => ⟨Nat.lt_of_le_of_lt (by have := dn n hn; unfold Dig at this; omega : n.natAbs ≤ 100000000000000000000) (by decide), by decide⟩
    cases hg : good o with
    | false =>
      refine iteF ?_
      have := q H2 e12
      have e3 : leadsTo o a b c d ms = false := by
        cases o with
        | none => rfl
        | some z =>
          obtain ⟨p, q', r, s'⟩ := z
          unfold good at hg
          unfold leadsTo
          exact decide_eq_false fun y => of_decide_eq_false hg y.1
      rw [e3] at this
      exact this
    | true =>
      refine iteT ?_
      cases o with
      | none => cases hg
      | some z =>
        obtain ⟨p, q', r, s'⟩ := z
        obtain ⟨u, rfl, hu⟩ := hv.t4
        have hd : p * s' - q' * r = 1 ∨ p * s' - q' * r = -1 := of_decide_eq_true hg
        refine ⟨_, rfl, _, rfl, _, rfl, x, y, u, a, b, c, d, p, q', r, s', ms, rfl, Ex0.fo e12 hx, Ex0.fo e12 hy, Ex0.t4 e12 hu, bb a (by simp), bb b (by simp), bb c (by simp), bb d (by simp), hB _ _ _ _ rfl, fun H3 e3 => ?_⟩
        have this : Q (.bl (decide ((p * s' - q' * r = 1 ∨ p * s' - q' * r = -1) ∧ fled a b c d p q' r s' = ms))) H3 := q H3 (e12.trans e3)
        rw [show decide ((p * s' - q' * r = 1 ∨ p * s' - q' * r = -1) ∧ fled a b c d p q' r s' = ms) = decide (fled a b c d p q' r s' = ms) from decide_eq_decide.mpr ⟨fun z => z.2, fun z => ⟨hd, z⟩⟩] at this
        exact this
end
end TF
namespace TF
open PySem PySem.Spec PyProof.Rows L2 Fr
open K05M (fv fl2 fl3 fdisc)
open K06M
def sp_l_pot (K : PySem.W.Frag) (_ : Addr) : Sp := fun vs H Q _ => ∃ (a : Addr) (ns : List Int) (i : Nat), vs = [.ref a, .int (i : Int)] ∧ SqL K H a (ns.map V.int) ∧ ∀ p H', H p = none → Ex0 H H' → Vat p H' → Q (.ref p) H'
def sp_l_dip (_ : PySem.W.Frag) (_ : Addr) : Sp := fun vs H Q _ => ∃ (c : Addr) (t : Int), vs = [.ref c, .int t] ∧ Vat c H ∧ 0 < t ∧ t < 2 ^ 250 ∧ ∀ (r : Int) H', 0 ≤ r → r < t → Fv c H H' → Q (.int r) H'
def sp_l_pick (K : PySem.W.Frag) (_ : Addr) : Sp := fun vs H Q _ => ∃ (c l : Addr) (xs : List V), vs = [.ref c, .ref l] ∧ Vat c H ∧ H l = some (.lst xs) ∧ l ≠ c ∧ xs ≠ [] ∧ xs.length ≤ 1000 ∧ ∀ v H', v ∈ xs → Fv c H H' → Q v H'
def sp_l_at (_ : PySem.W.Frag) (_ : Addr) : Sp := fun vs H Q _ => ∃ (t : Addr) (a b c d x y : Int), vs = [.ref t, .int x, .int y] ∧ Ti H t [a, b, c, d] ∧ B 400 a ∧ B 400 b ∧ B 400 c ∧ B 400 d ∧ B 310 x ∧ B 310 y ∧ Q (.int (fv a b c d x y)) H
def sp_l_led (_ : PySem.W.Frag) (_ : Addr) : Sp := fun vs H Q _ => ∃ (t u : Addr) (a b c d p q r s : Int), vs = [.ref t, .ref u] ∧ Ti H t [a, b, c, d] ∧ T4 H u p q r s ∧ B 400 a ∧ B 400 b ∧ B 400 c ∧ B 400 d ∧ B 300 p ∧ B 300 q ∧ B 300 r ∧ B 300 s ∧ ∀ x H', Ex0 H H' → Ti H' x (fled a b c d p q r s) → Q (.ref x) H'
def sp_l_joined (_ : PySem.W.Frag) (_ : Addr) : Sp := fun vs H Q _ => ∃ (a b : Addr) (p q r s i j k m : Int), vs = [.ref a, .ref b] ∧ T4 H a p q r s ∧ T4 H b i j k m ∧ B 400 p ∧ B 400 q ∧ B 400 r ∧ B 400 s ∧ B 400 i ∧ B 400 j ∧ B 400 k ∧ B 400 m ∧ ∀ x H', Ex0 H H' → T4 H' x (i * p + j * r) (i * q + j * s) (k * p + m * r) (k * q + m * s) → Q (.ref x) H'
def sp_l_back (_ : PySem.W.Frag) (_ : Addr) : Sp := fun vs H Q _ => ∃ (a : Addr) (p q r s : Int), vs = [.ref a] ∧ T4 H a p q r s ∧ B 300 p ∧ B 300 q ∧ B 300 r ∧ B 300 s ∧ ∀ x H', Ex0 H H' → T4 H' x ((p * s - q * r) * s) (0 - (p * s - q * r) * q) (0 - (p * s - q * r) * r) ((p * s - q * r) * p) → Q (.ref x) H'
def Gc (p q r s : Int) (M : Nat) : Prop := p.natAbs ≤ M ∧ q.natAbs ≤ M ∧ r.natAbs ≤ M ∧ s.natAbs ≤ M ∧ (p * s - q * r = 1 ∨ p * s - q * r = -1)
def sp_l_change (_ : PySem.W.Frag) (_ : Addr) : Sp := fun vs H Q _ => ∃ c : Addr, vs = [.ref c, .int 2] ∧ Vat c H ∧ ∀ x p q r s H', Fv c H H' → T4 H' x p q r s → Gc p q r s 243 → Q (.ref x) H'
def sp_l_row (_ : PySem.W.Frag) (_ : Addr) : Sp := fun vs H Q _ => ∃ c : Addr, vs = [.ref c, .int 6] ∧ Vat c H ∧ ∀ t a b e d H', Fv c H H' → Ti H' t [a, b, e, d] → (∀ n ∈ [a, b, e, d], n.natAbs ≤ 24) → Q (.ref t) H'
def sp_l_is_pair (_ : PySem.W.Frag) (_ : Addr) : Sp := fun vs H Q _ => ∃ (v : V) (o : Option (Int × Int)), vs = [v] ∧ RowV H v o ∧ ∀ H', Ex0 H H' → Q (.bl o.isSome) H'
def sp_l_is_due (_ : PySem.W.Frag) (_ : Addr) : Sp := fun vs H Q _ => ∃ (t u : Addr) (v : V) (a b c d : Int) (ms : List Int) (o : Option (Int × Int × Int × Int)), vs = [.ref t, .ref u, v] ∧ Ti H t [a, b, c, d] ∧ Ti H u ms ∧ B 400 a ∧ B 400 b ∧ B 400 c ∧ B 400 d ∧ ChV H v o ∧ OB o ∧ ∀ H', Ex0 H H' → Q (.bl (leadsTo o a b c d ms)) H'
def AllCh (H : Hp) (vs : List V) : Prop := ∀ v ∈ vs, ∃ o, ChV H v o ∧ OB o
def sp_l_near (_ : PySem.W.Frag) (_ : Addr) : Sp := fun vs H Q _ => ∃ (c x : Addr) (p q r s : Int), vs = [.ref c, .ref x] ∧ Vat c H ∧ T4 H x p q r s ∧ Gc p q r s 243 ∧ ∀ L us H', Fv c H H' → H' L = some (.lst us) → AllCh H' us → Q (.ref L) H'
def sp_l_right (_ : PySem.W.Frag) (_ : Addr) : Sp := fun vs H Q _ => ∃ c : Addr, vs = [.ref c] ∧ Vat c H ∧ ∀ H', Fv c H H' → Q (.bl true) H'
theorem fv_big {a b c d x y : Int} (ba : B 400 a) (bb : B 400 b) (bc : B 400 c) (bd : B 400 d) (bx : B 300 x) (by' : B 300 y) : B 5200 (fv a b c d x y) :=
  B.add (B.add (B.add (B.mul (B.mul (B.mul ba bx) bx) bx) (B.mul (B.mul (B.mul bb bx) bx) by')) (B.mul (B.mul (B.mul bc bx) by') by')) (B.mul (B.mul (B.mul bd by') by') by')
theorem fl_big {a b c d p q r s : Int} (ba : B 400 a) (bb : B 400 b) (bc : B 400 c) (bd : B 400 d) (bp : B 300 p) (bq : B 300 q) (br : B 300 r) (bs : B 300 s) : B 20000 (fl2 a b c d p q r s) ∧ B 20000 (fl3 a b c d p q r s) := by
  have b2 : B 300 2 := ⟨by decide, by decide⟩
  have b3 : B 300 3 := ⟨by decide, by decide⟩
  have m1 : B 1500 (p * s + 2 * q * r) := B.add (B.mul bp bs) (B.mul (B.mul b2 bq) br)
  have m2 : B 1500 (2 * p * s + q * r) := B.add (B.mul (B.mul b2 bp) bs) (B.mul bq br)
  unfold fl2 fl3
  constructor
  · exact (B.add (B.add (B.add (B.mul (B.mul (B.mul (B.mul b3 ba) bp) bp) br) (B.mul (B.mul bb bp) m1)) (B.mul (B.mul bc bq) m2)) (B.mul (B.mul (B.mul (B.mul b3 bd) bq) bq) bs)).mono (by decide)
  · exact (B.add (B.add (B.add (B.mul (B.mul (B.mul (B.mul b3 ba) bp) br) br) (B.mul (B.mul bb br) m2)) (B.mul (B.mul bc bs) m1)) (B.mul (B.mul (B.mul (B.mul b3 bd) bq) bs) bs)).mono (by decide)
theorem fl2_mid (a b c d p q r s : Int) : fv a b c d (p + r) (q + s) - fv a b c d (p - r) (q - s) = 2 * (fl2 a b c d p q r s + fv a b c d r s) := by unfold fv fl2; grind
theorem fl3_mid (a b c d p q r s : Int) : fv a b c d (p + r) (q + s) + fv a b c d (p - r) (q - s) = 2 * (fl3 a b c d p q r s + fv a b c d p q) := by unfold fv fl3; grind
section
variable {P : Program} {w : World} {K : PySem.W.Frag} {mg : Str → Option Value} {base : Heap} {C_Form : Addr}
theorem ok_l_pot (T : Txt K mg C_Form) : Def P w K mg base 1 "_law_pot" ["_law_script", "_law_at_here"] (sp_l_pot K C_Form) := by
  obtain ⟨f_, fd_, g_, F_⟩ := T.d_l_pot
  refine ⟨f_, fd_, g_, F_.kp, F_.binds (ps := ["_law_script", "_law_at_here"]) (fun _ _ _ _ _ _ us hl => match us, hl with | [_, _], _ => rfl), ?_⟩
  refine F_.ok sc_l_pot (fun vs H Q E h => ?_) (fun cdv A outer s H vs Q E hr h => ?_)
  · first | (obtain ⟨rfl, _⟩ := h; rfl) | (obtain ⟨_, rfl, _⟩ := h; rfl) | (obtain ⟨_, _, rfl, _⟩ := h; rfl) | (obtain ⟨_, _, _, rfl, _⟩ := h; rfl) | (obtain ⟨_, _, _, _, rfl, _⟩ := h; rfl) | (obtain ⟨_, _, _, _, _, rfl, _⟩ := h; rfl) | (obtain ⟨_, _, _, _, _, _, rfl, _⟩ := h; rfl) | (obtain ⟨_, _, _, _, _, _, _, rfl, _⟩ := h; rfl) | (obtain ⟨_, _, _, _, _, _, _, _, rfl, _⟩ := h; rfl) | (obtain ⟨_, _, _, _, _, _, _, _, _, rfl, _⟩ := h; rfl) | (obtain ⟨_, _, _, _, _, _, _, _, _, _, rfl, _⟩ := h; rfl) | (obtain ⟨_, _, _, _, _, _, _, _, _, _, _, rfl, _⟩ := h; rfl) | (obtain ⟨_, _, _, _, _, _, _, _, _, _, _, _, rfl, _⟩ := h; rfl) | (obtain ⟨_, _, _, _, _, _, _, _, _, _, _, _, _, rfl, _⟩ := h; rfl) | (obtain ⟨_, _, _, _, _, _, _, _, _, _, _, _, _, _, rfl, _⟩ := h; rfl) | (obtain ⟨_, _, _, _, _, _, _, _, _, _, _, _, _, _, _, rfl, _⟩ := h; rfl) | (obtain ⟨_, _, _, _, _, _, _, _, _, _, _, _, _, _, _, _, rfl, _⟩ := h; rfl) | (obtain ⟨_, _, _, _, _, _, _, _, _, _, _, _, _, _, _, _, _, rfl, _⟩ := h; rfl) | (obtain ⟨_, _, _, _, _, _, _, _, _, _, _, _, _, _, _, _, _, _, rfl, _⟩ := h; rfl) | (obtain ⟨_, _, _, _, _, _, _, _, _, _, _, _, _, _, _, _, _, _, _, rfl, _⟩ := h; rfl) | (obtain ⟨_, _, _, _, _, _, _, _, _, _, _, _, _, _, _, _, _, _, _, _, rfl, _⟩ := h; rfl) | (obtain ⟨_, _, _, _, _, _, _, _, _, _, _, _, _, _, _, _, _, _, _, _, _, rfl, _⟩ := h; rfl) | (obtain ⟨_, _, _, _, _, _, _, _, _, _, _, _, _, _, _, _, _, _, _, _, _, _, rfl, _⟩ := h; rfl) | (obtain ⟨_, _, _, _, _, _, _, _, _, _, _, _, _, _, _, _, _, _, _, _, _, _, _, rfl, _⟩ := h; rfl)
  · obtain ⟨a, ns, i, rfl, ha, q⟩ := h
    refine ⟨_, (Evl.pss_cut (ps_set (i := 2) sc_l_pot.nd rfl (.inl rfl) (pe_ifExp (pt_cmpR op_lt (pv 1) (pe_callB call_len_seq (by rfl) T.b_len PySem.boot_len (pa_cons (pv 0) pa_nil)) (nomark _)) (pe_ix ix_list (pv 0) (pv 1) (fun _ _ => rfl)) (pe_op op_add (pe_op op_mul pe_int (pv 1)) pe_int)))
    (pss_cons (ps_set (i := 3) sc_l_pot.nd rfl (.inl rfl) (pe_op op_mod (pe_callTy call_int1 (by rfl) T.b_int (by decide +kernel) (pa_cons (pe_callB call_abs (by rfl) T.b_abs (by decide +kernel) (pa_cons (pv 2) pa_nil)) pa_nil)) (pe_op op_powC (pe_op op_pow pe_int pe_int) pe_int)))
    (pss_cons (ps_set (i := 4) sc_l_pot.nd rfl (.inl rfl) (pe_op op_add (pe_op op_add (pe_op op_add (pe_op op_mul (pe_op op_mod (pe_callTy call_int1 (by rfl) T.b_int (by decide +kernel) (pa_cons (pv 3) pa_nil)) pe_int) pe_int) (pe_op op_mul pe_int (pv 1))) (pe_op op_mul pe_int (pe_callTy call_int1 (by rfl) T.b_int (by decide +kernel) (pa_cons (pe_cmpR op_lt (pv 2) pe_int (nomark _)) pa_nil)))) pe_int))
    (pss_one (ps_ret (pe_lst (pa_cons (pe_callB (call_max2 rfl) (by rfl) T.b_max (by decide +kernel) (pa_cons pe_int (pa_cons (pe_op op_add (pe_op op_sub (pv 3) (pe_op op_pow pe_int pe_int)) pe_int) pa_nil))) (pa_cons (pe_op op_mod (pe_callTy call_int1 (by rfl) T.b_int (by decide +kernel) (pa_cons (pv 4) pa_nil)) pe_int) (pa_cons pe_int pa_nil))))))))), ?_⟩
    refine ⟨fun σ H' => ∃ cell : Int, σ = [some (.ref a), some (.int (i : Int)), some (.int cell), none, none] ∧ H' = H, ?_, ?_⟩
    · refine ⟨_, rfl, _, rfl, a, _, rfl, .inl ha, _, _, rfl, rfl, _, rfl, iteD (fun g => ?_) (fun g => ?_)⟩
      · have hi : i < ns.length := by rw [List.length_map] at g; omega
        refine ⟨_, rfl, _, rfl, a, _, (i : Int), .int ns[i], rfl, rfl, ha, atI_nat (by rw [List.getElem?_map, List.getElem?_eq_getElem hi]; rfl), ?_⟩
        exact ⟨_, rfl, rfl⟩
      · refine ⟨_, rfl, _, _, rfl, rfl, .inl ⟨by decide, by decide⟩, _, _, rfl, rfl, ?_⟩
        exact ⟨_, rfl, rfl⟩
    · rintro σ H' ⟨cell, rfl, rfl⟩
      refine ⟨_, rfl, cell, rfl, .inl ⟨_, rfl, ?_⟩⟩
      refine ⟨_, _, rfl, rfl, ⟨by decide, by decide, by decide⟩, _, _, rfl, rfl, ⟨by decide, by decide +kernel⟩, _, _, rfl, rfl, by show (0 : Int) < (10 ^ 59) ^ 8; decide +kernel, ?_⟩
      refine ⟨_, rfl, .inl ⟨_, rfl, _, _, rfl, rfl, (show (0 : Int) < 2305843009213693669 by decide), _, _, rfl, rfl, .inr ⟨by decide, by decide⟩, _, rfl, _, _, rfl, rfl, .inl ⟨by decide, by decide⟩, _, _, rfl, rfl, ?_⟩⟩
      refine ⟨_, rfl, _, _, rfl, rfl, .inr ⟨_, rfl, _, _, rfl, rfl, .inl ⟨by decide, by decide⟩, _, _, rfl, rfl, _, _, rfl, rfl, ?_⟩⟩
      refine ⟨_, rfl, _, _, rfl, rfl, ⟨by decide, by decide, by decide⟩, _, _, rfl, rfl, _, _, rfl, rfl, _, _, rfl, _, rfl, .inl ⟨_, rfl, _, _, rfl, rfl, (show (0 : Int) < 2305843009213693951 by decide), sl3, fun p hp => ?_⟩⟩
      exact q p _ hp (Ex0.new hp) ⟨_, _, _, upd_same⟩
theorem ok_l_dip (T : Txt K mg C_Form) : Def P w K mg base 1 "_law_dip" ["_law_pot_here", "_law_total"] (sp_l_dip K C_Form) := by
  obtain ⟨f_, fd_, g_, F_⟩ := T.d_l_dip
  refine ⟨f_, fd_, g_, F_.kp, F_.binds (ps := ["_law_pot_here", "_law_total"]) (fun _ _ _ _ _ _ us hl => match us, hl with | [_, _], _ => rfl), ?_⟩
  refine F_.ok sc_l_dip (fun vs H Q E h => ?_) (fun cdv A outer s H vs Q E hr h => ?_)
  · first | (obtain ⟨rfl, _⟩ := h; rfl) | (obtain ⟨_, rfl, _⟩ := h; rfl) | (obtain ⟨_, _, rfl, _⟩ := h; rfl) | (obtain ⟨_, _, _, rfl, _⟩ := h; rfl) | (obtain ⟨_, _, _, _, rfl, _⟩ := h; rfl) | (obtain ⟨_, _, _, _, _, rfl, _⟩ := h; rfl) | (obtain ⟨_, _, _, _, _, _, rfl, _⟩ := h; rfl) | (obtain ⟨_, _, _, _, _, _, _, rfl, _⟩ := h; rfl) | (obtain ⟨_, _, _, _, _, _, _, _, rfl, _⟩ := h; rfl) | (obtain ⟨_, _, _, _, _, _, _, _, _, rfl, _⟩ := h; rfl) | (obtain ⟨_, _, _, _, _, _, _, _, _, _, rfl, _⟩ := h; rfl) | (obtain ⟨_, _, _, _, _, _, _, _, _, _, _, rfl, _⟩ := h; rfl) | (obtain ⟨_, _, _, _, _, _, _, _, _, _, _, _, rfl, _⟩ := h; rfl) | (obtain ⟨_, _, _, _, _, _, _, _, _, _, _, _, _, rfl, _⟩ := h; rfl) | (obtain ⟨_, _, _, _, _, _, _, _, _, _, _, _, _, _, rfl, _⟩ := h; rfl) | (obtain ⟨_, _, _, _, _, _, _, _, _, _, _, _, _, _, _, rfl, _⟩ := h; rfl) | (obtain ⟨_, _, _, _, _, _, _, _, _, _, _, _, _, _, _, _, rfl, _⟩ := h; rfl) | (obtain ⟨_, _, _, _, _, _, _, _, _, _, _, _, _, _, _, _, _, rfl, _⟩ := h; rfl) | (obtain ⟨_, _, _, _, _, _, _, _, _, _, _, _, _, _, _, _, _, _, rfl, _⟩ := h; rfl) | (obtain ⟨_, _, _, _, _, _, _, _, _, _, _, _, _, _, _, _, _, _, _, rfl, _⟩ := h; rfl) | (obtain ⟨_, _, _, _, _, _, _, _, _, _, _, _, _, _, _, _, _, _, _, _, rfl, _⟩ := h; rfl) | (obtain ⟨_, _, _, _, _, _, _, _, _, _, _, _, _, _, _, _, _, _, _, _, _, rfl, _⟩ := h; rfl) | (obtain ⟨_, _, _, _, _, _, _, _, _, _, _, _, _, _, _, _, _, _, _, _, _, _, rfl, _⟩ := h; rfl) | (obtain ⟨_, _, _, _, _, _, _, _, _, _, _, _, _, _, _, _, _, _, _, _, _, _, _, rfl, _⟩ := h; rfl)
  · obtain ⟨c, t, rfl, ⟨x, y, z, hv⟩, h0, h1, q⟩ := h
    refine ⟨_, (pss_cons (ps_if (pt_cmpR op_gt (pe_ix ix_list (pv 0) pe_int (fun _ _ => rfl)) pe_int (nomark _))
      (pss_cons (ps_set (i := 2) sc_l_dip.nd rfl (.inl rfl) (pe_op op_mod (pe_callTy call_int1 (by rfl) T.b_int (by decide +kernel) (pa_cons (pe_ix ix_list (pv 0) pe_int (fun _ _ => rfl)) pa_nil)) (pv 1)))
    (pss_cons (ps_asg (pe_op op_fdivW (pe_ix ix_list (pv 0) pe_int (fun _ _ => rfl)) (pv 1)) (pg_sub (pv 0) pe_int set_list))
    (pss_one (ps_ret (pv 2)))))
      pss_nil)
    (pss_cons (ps_asg (pe_op op_add (pe_ix ix_list (pv 0) pe_int (fun _ _ => rfl)) pe_int) (pg_sub (pv 0) pe_int set_list))
    (pss_cons (ps_set (i := 3) sc_l_dip.nd rfl (.inl rfl) (pe_op op_mod (pe_callTy call_int1 (by rfl) T.b_int (by decide +kernel) (pa_cons (pe_op op_add (pe_ix ix_list (pv 0) pe_int (fun _ _ => rfl)) (pe_op op_mul pe_int (pe_ix ix_list (pv 0) pe_int (fun _ _ => rfl)))) pa_nil)) pe_int))
    (pss_cons (ps_set (i := 4) sc_l_dip.nd rfl (.inl rfl) (pe_op op_add (pe_op op_mul (pe_op op_mod (pe_callTy call_int1 (by rfl) T.b_int (by decide +kernel) (pa_cons (pe_op op_mul (pv 3) (pv 3)) pa_nil)) pe_int) (pv 3)) (pe_op op_mul pe_int (pe_ix ix_list (pv 0) pe_int (fun _ _ => rfl)))))
    (pss_one (ps_ret (pe_op op_mod (pe_callTy call_int1 (by rfl) T.b_int (by decide +kernel) (pa_cons (pe_op op_fdivW (pe_op op_mod (pe_callTy call_int1 (by rfl) T.b_int (by decide +kernel) (pa_cons (pv 4) pa_nil)) pe_int) pe_int) pa_nil)) (pv 1)))))))), ?_⟩
    have fv : ∀ (H' : Hp) (x' y' z' : Int), (∀ b o, b ≠ c → H b = some o → H' b = some o) → H' c = some (.lst [.int x', .int y', .int z']) → Fv c H H' := fun H' x' y' z' a b => ⟨⟨x', y', z', b⟩, a⟩
    refine ⟨_, rfl, c, _, 0, .int x, rfl, rfl, SqL.of hv, rfl, x, 0, rfl, rfl, _, rfl, iteD (fun g => ?_) (fun g => ?_)⟩
    · refine ⟨_, rfl, c, _, 0, .int x, rfl, rfl, SqL.of hv, rfl, .inl ⟨x, rfl, _, rfl, x, t, rfl, rfl, h0, ?_⟩⟩
      refine ⟨_, rfl, c, _, 0, .int x, rfl, rfl, SqL.of hv, rfl, _, rfl, x, t, rfl, rfl, dw h0 h1, ?_⟩
      refine ⟨_, rfl, c, _, 0, 0, rfl, rfl, hv, rfl, ?_⟩
      refine ⟨_, rfl, ?_⟩
      exact q _ _ (Int.emod_nonneg _ (by omega)) (Int.emod_lt_of_pos _ h0) (fv _ _ _ _ (fun b o n e => by rw [upd_ne n]; exact e) upd_same)
    · refine ⟨_, rfl, c, _, 2, .int z, rfl, rfl, SqL.of hv, rfl, _, 1, rfl, rfl, ?_⟩
      refine ⟨_, rfl, c, _, 2, 2, rfl, rfl, hv, rfl, ?_⟩
      have hv2 : upd H c (.lst [.int x, .int y, .int (z + 1)]) c = some (.lst [.int x, .int y, .int (z + 1)]) := upd_same
      refine ⟨_, rfl, c, _, 1, .int y, rfl, rfl, SqL.of hv2, rfl, _, rfl, c, _, 2, .int (z + 1), rfl, rfl, SqL.of hv2, rfl, _, _, rfl, rfl, .inl ⟨by decide, by decide⟩, _, _, rfl, rfl, .inl ⟨_, rfl, ?_⟩⟩
      refine ⟨_, _, rfl, rfl, (show (0 : Int) < 2305843009213693951 by decide), ?_⟩
      refine ⟨_, rfl, _, rfl, _, _, rfl, rfl, .inl ⟨by omega, by omega⟩, .inl ⟨_, rfl, _, _, rfl, rfl, (show (0 : Int) < 2305843009213693907 by decide), _, rfl, _, _, rfl, rfl, .inl ⟨by omega, by omega⟩, _, rfl, c, _, 2, .int (z + 1), rfl, rfl, SqL.of hv2, rfl, _, _, rfl, rfl, .inl ⟨by decide, by decide⟩, _, _, rfl, rfl, ?_⟩⟩
      refine ⟨_, rfl, .inl ⟨_, rfl, _, _, rfl, rfl, (show (0 : Int) < 2305843009213693921 by decide), _, _, rfl, rfl, dw (by decide) (by decide), .inl ⟨_, rfl, _, rfl, _, _, rfl, rfl, h0, ?_⟩⟩⟩
      exact q _ _ (Int.emod_nonneg _ (by omega)) (Int.emod_lt_of_pos _ h0) (fv _ _ _ _ (fun b o n e => by rw [upd_ne n]; exact e) hv2)
theorem ok_l_pick (T : Txt K mg C_Form) : Def P w K mg base 2 "_law_pick" ["_law_pot_here", "_law_items"] (sp_l_pick K C_Form) := by
  obtain ⟨f_, fd_, g_, F_⟩ := T.d_l_pick
  obtain ⟨f_l_dip, fd_l_dip, g_l_dip, k_l_dip, b_l_dip, G_l_dip⟩ := (ok_l_dip (P := P) (w := w) (base := base) T)
  refine ⟨f_, fd_, g_, F_.kp, F_.binds (ps := ["_law_pot_here", "_law_items"]) (fun _ _ _ _ _ _ us hl => match us, hl with | [_, _], _ => rfl), ?_⟩
  refine F_.ok sc_l_pick (fun vs H Q E h => ?_) (fun cdv A outer s H vs Q E hr h => ?_)
  · first | (obtain ⟨rfl, _⟩ := h; rfl) | (obtain ⟨_, rfl, _⟩ := h; rfl) | (obtain ⟨_, _, rfl, _⟩ := h; rfl) | (obtain ⟨_, _, _, rfl, _⟩ := h; rfl) | (obtain ⟨_, _, _, _, rfl, _⟩ := h; rfl) | (obtain ⟨_, _, _, _, _, rfl, _⟩ := h; rfl) | (obtain ⟨_, _, _, _, _, _, rfl, _⟩ := h; rfl) | (obtain ⟨_, _, _, _, _, _, _, rfl, _⟩ := h; rfl) | (obtain ⟨_, _, _, _, _, _, _, _, rfl, _⟩ := h; rfl) | (obtain ⟨_, _, _, _, _, _, _, _, _, rfl, _⟩ := h; rfl) | (obtain ⟨_, _, _, _, _, _, _, _, _, _, rfl, _⟩ := h; rfl) | (obtain ⟨_, _, _, _, _, _, _, _, _, _, _, rfl, _⟩ := h; rfl) | (obtain ⟨_, _, _, _, _, _, _, _, _, _, _, _, rfl, _⟩ := h; rfl) | (obtain ⟨_, _, _, _, _, _, _, _, _, _, _, _, _, rfl, _⟩ := h; rfl) | (obtain ⟨_, _, _, _, _, _, _, _, _, _, _, _, _, _, rfl, _⟩ := h; rfl) | (obtain ⟨_, _, _, _, _, _, _, _, _, _, _, _, _, _, _, rfl, _⟩ := h; rfl) | (obtain ⟨_, _, _, _, _, _, _, _, _, _, _, _, _, _, _, _, rfl, _⟩ := h; rfl) | (obtain ⟨_, _, _, _, _, _, _, _, _, _, _, _, _, _, _, _, _, rfl, _⟩ := h; rfl) | (obtain ⟨_, _, _, _, _, _, _, _, _, _, _, _, _, _, _, _, _, _, rfl, _⟩ := h; rfl) | (obtain ⟨_, _, _, _, _, _, _, _, _, _, _, _, _, _, _, _, _, _, _, rfl, _⟩ := h; rfl) | (obtain ⟨_, _, _, _, _, _, _, _, _, _, _, _, _, _, _, _, _, _, _, _, rfl, _⟩ := h; rfl) | (obtain ⟨_, _, _, _, _, _, _, _, _, _, _, _, _, _, _, _, _, _, _, _, _, rfl, _⟩ := h; rfl) | (obtain ⟨_, _, _, _, _, _, _, _, _, _, _, _, _, _, _, _, _, _, _, _, _, _, rfl, _⟩ := h; rfl) | (obtain ⟨_, _, _, _, _, _, _, _, _, _, _, _, _, _, _, _, _, _, _, _, _, _, _, rfl, _⟩ := h; rfl)
  · obtain ⟨c, l, xs, rfl, hc, hl, ne, hx, hz, q⟩ := h
    refine ⟨_, (pss_one (ps_ret (pe_ix ix_list (pv 1) (pe_call G_l_dip (hr.mono (by decide)) (by rfl) g_l_dip k_l_dip b_l_dip .nil pass0 (pa_cons (pv 0) (pa_cons (pe_callB call_len_seq (by rfl) T.b_len PySem.boot_len (pa_cons (pv 1) pa_nil)) pa_nil))) (fun _ _ => rfl)))), ?_⟩
    have h0 : 0 < xs.length := List.length_pos_iff.mpr hx
    refine ⟨_, rfl, _, rfl, _, rfl, l, xs, rfl, .inl (SqL.of hl), c, _, rfl, hc, by omega, by omega, fun r H' r0 r1 e => ?_⟩
    obtain ⟨j, rfl⟩ : ∃ j : Nat, r = (j : Int) := ⟨r.toNat, by omega⟩
    have hj : j < xs.length := by omega
    exact ⟨l, xs, _, xs[j], rfl, rfl, SqL.of (e.2 _ _ ne hl), atI_nat (List.getElem?_eq_getElem hj), q _ _ (List.getElem_mem hj) e⟩
theorem ok_l_at (T : Txt K mg C_Form) : Def P w K mg base 1 "_law_at" ["_law_row_here", "_law_x", "_law_y"] (sp_l_at K C_Form) := by
  obtain ⟨f_, fd_, g_, F_⟩ := T.d_l_at
  refine ⟨f_, fd_, g_, F_.kp, F_.binds (ps := ["_law_row_here", "_law_x", "_law_y"]) (fun _ _ _ _ _ _ us hl => match us, hl with | [_, _, _], _ => rfl), ?_⟩
  refine F_.ok sc_l_at (fun vs H Q E h => ?_) (fun cdv A outer s H vs Q E hr h => ?_)
  · first | (obtain ⟨rfl, _⟩ := h; rfl) | (obtain ⟨_, rfl, _⟩ := h; rfl) | (obtain ⟨_, _, rfl, _⟩ := h; rfl) | (obtain ⟨_, _, _, rfl, _⟩ := h; rfl) | (obtain ⟨_, _, _, _, rfl, _⟩ := h; rfl) | (obtain ⟨_, _, _, _, _, rfl, _⟩ := h; rfl) | (obtain ⟨_, _, _, _, _, _, rfl, _⟩ := h; rfl) | (obtain ⟨_, _, _, _, _, _, _, rfl, _⟩ := h; rfl) | (obtain ⟨_, _, _, _, _, _, _, _, rfl, _⟩ := h; rfl) | (obtain ⟨_, _, _, _, _, _, _, _, _, rfl, _⟩ := h; rfl) | (obtain ⟨_, _, _, _, _, _, _, _, _, _, rfl, _⟩ := h; rfl) | (obtain ⟨_, _, _, _, _, _, _, _, _, _, _, rfl, _⟩ := h; rfl) | (obtain ⟨_, _, _, _, _, _, _, _, _, _, _, _, rfl, _⟩ := h; rfl) | (obtain ⟨_, _, _, _, _, _, _, _, _, _, _, _, _, rfl, _⟩ := h; rfl) | (obtain ⟨_, _, _, _, _, _, _, _, _, _, _, _, _, _, rfl, _⟩ := h; rfl) | (obtain ⟨_, _, _, _, _, _, _, _, _, _, _, _, _, _, _, rfl, _⟩ := h; rfl) | (obtain ⟨_, _, _, _, _, _, _, _, _, _, _, _, _, _, _, _, rfl, _⟩ := h; rfl) | (obtain ⟨_, _, _, _, _, _, _, _, _, _, _, _, _, _, _, _, _, rfl, _⟩ := h; rfl) | (obtain ⟨_, _, _, _, _, _, _, _, _, _, _, _, _, _, _, _, _, _, rfl, _⟩ := h; rfl) | (obtain ⟨_, _, _, _, _, _, _, _, _, _, _, _, _, _, _, _, _, _, _, rfl, _⟩ := h; rfl) | (obtain ⟨_, _, _, _, _, _, _, _, _, _, _, _, _, _, _, _, _, _, _, _, rfl, _⟩ := h; rfl) | (obtain ⟨_, _, _, _, _, _, _, _, _, _, _, _, _, _, _, _, _, _, _, _, _, rfl, _⟩ := h; rfl) | (obtain ⟨_, _, _, _, _, _, _, _, _, _, _, _, _, _, _, _, _, _, _, _, _, _, rfl, _⟩ := h; rfl) | (obtain ⟨_, _, _, _, _, _, _, _, _, _, _, _, _, _, _, _, _, _, _, _, _, _, _, rfl, _⟩ := h; rfl)
  · obtain ⟨t, a, b, c, d, x, y, rfl, ht, ba, bb, bc, bd, bx, by', q⟩ := h
    refine ⟨_, (pss_cons (ps_asg (pv 0) (pg_tup (by rfl) (pgs_cons (pg_name (i := 3) sc_l_at.nd rfl (.inl rfl)) (pgs_cons (pg_name (i := 4) sc_l_at.nd rfl (.inl rfl)) (pgs_cons (pg_name (i := 5) sc_l_at.nd rfl (.inl rfl)) (pgs_cons (pg_name (i := 6) sc_l_at.nd rfl (.inl rfl)) pgs_nil))))))
    (pss_one (ps_ret (pe_op op_add (pe_op op_add (pe_op op_add (pe_op op_mulW (pe_op op_mulW (pe_op op_mulW (pv 3) (pv 1)) (pv 1)) (pv 1)) (pe_op op_mulW (pe_op op_mulW (pe_op op_mulW (pv 4) (pv 1)) (pv 1)) (pv 2))) (pe_op op_mulW (pe_op op_mulW (pe_op op_mulW (pv 5) (pv 1)) (pv 2)) (pv 2))) (pe_op op_mulW (pe_op op_mulW (pe_op op_mulW (pv 6) (pv 2)) (pv 2)) (pv 2)))))), ?_⟩
    refine ⟨_, rfl, unI4 ht ?_⟩
    exact ⟨_, rfl, _, rfl, _, _, rfl, rfl, mulB (by with_reducible assumption) (by with_reducible assumption) (by decide), _, rfl, _, _, rfl, rfl, mulB (B.mul (by with_reducible assumption) (by with_reducible assumption)) (by with_reducible assumption) (by decide), _, rfl, _, _, rfl, rfl, mulB (B.mul (B.mul (by with_reducible assumption) (by with_reducible assumption)) (by with_reducible assumption)) (by with_reducible assumption) (by decide), _, rfl, _, rfl, _, _, rfl, rfl, mulB (by with_reducible assumption) (by with_reducible assumption) (by decide), _, rfl, _, _, rfl, rfl, mulB (B.mul (by with_reducible assumption) (by with_reducible assumption)) (by with_reducible assumption) (by decide), _, rfl, _, _, rfl, rfl, mulB (B.mul (B.mul (by with_reducible assumption) (by with_reducible assumption)) (by with_reducible assumption)) (by with_reducible assumption) (by decide), _, _, rfl, rfl, _, rfl, _, rfl, _, _, rfl, rfl, mulB (by with_reducible assumption) (by with_reducible assumption) (by decide), _, rfl, _, _, rfl, rfl, mulB (B.mul (by with_reducible assumption) (by with_reducible assumption)) (by with_reducible assumption) (by decide), _, rfl, _, _, rfl, rfl, mulB (B.mul (B.mul (by with_reducible assumption) (by with_reducible assumption)) (by with_reducible assumption)) (by with_reducible assumption) (by decide), _, _, rfl, rfl, _, rfl, _, rfl, _, _, rfl, rfl, mulB (by with_reducible assumption) (by with_reducible assumption) (by decide), _, rfl, _, _, rfl, rfl, mulB (B.mul (by with_reducible assumption) (by with_reducible assumption)) (by with_reducible assumption) (by decide), _, rfl, _, _, rfl, rfl, mulB (B.mul (B.mul (by with_reducible assumption) (by with_reducible assumption)) (by with_reducible assumption)) (by with_reducible assumption) (by decide), _, _, rfl, rfl, q⟩
theorem ok_l_led (T : Txt K mg C_Form) : Def P w K mg base 2 "_law_led" ["_law_row_here", "_law_change_here"] (sp_l_led K C_Form) := by
  obtain ⟨f_, fd_, g_, F_⟩ := T.d_l_led
  obtain ⟨f_l_at, fd_l_at, g_l_at, k_l_at, b_l_at, G_l_at⟩ := (ok_l_at (P := P) (w := w) (base := base) T)
  refine ⟨f_, fd_, g_, F_.kp, F_.binds (ps := ["_law_row_here", "_law_change_here"]) (fun _ _ _ _ _ _ us hl => match us, hl with | [_, _], _ => rfl), ?_⟩
  refine F_.ok sc_l_led (fun vs H Q E h => ?_) (fun cdv A outer s H vs Q E hr h => ?_)
  · first | (obtain ⟨rfl, _⟩ := h; rfl) | (obtain ⟨_, rfl, _⟩ := h; rfl) | (obtain ⟨_, _, rfl, _⟩ := h; rfl) | (obtain ⟨_, _, _, rfl, _⟩ := h; rfl) | (obtain ⟨_, _, _, _, rfl, _⟩ := h; rfl) | (obtain ⟨_, _, _, _, _, rfl, _⟩ := h; rfl) | (obtain ⟨_, _, _, _, _, _, rfl, _⟩ := h; rfl) | (obtain ⟨_, _, _, _, _, _, _, rfl, _⟩ := h; rfl) | (obtain ⟨_, _, _, _, _, _, _, _, rfl, _⟩ := h; rfl) | (obtain ⟨_, _, _, _, _, _, _, _, _, rfl, _⟩ := h; rfl) | (obtain ⟨_, _, _, _, _, _, _, _, _, _, rfl, _⟩ := h; rfl) | (obtain ⟨_, _, _, _, _, _, _, _, _, _, _, rfl, _⟩ := h; rfl) | (obtain ⟨_, _, _, _, _, _, _, _, _, _, _, _, rfl, _⟩ := h; rfl) | (obtain ⟨_, _, _, _, _, _, _, _, _, _, _, _, _, rfl, _⟩ := h; rfl) | (obtain ⟨_, _, _, _, _, _, _, _, _, _, _, _, _, _, rfl, _⟩ := h; rfl) | (obtain ⟨_, _, _, _, _, _, _, _, _, _, _, _, _, _, _, rfl, _⟩ := h; rfl) | (obtain ⟨_, _, _, _, _, _, _, _, _, _, _, _, _, _, _, _, rfl, _⟩ := h; rfl) | (obtain ⟨_, _, _, _, _, _, _, _, _, _, _, _, _, _, _, _, _, rfl, _⟩ := h; rfl) | (obtain ⟨_, _, _, _, _, _, _, _, _, _, _, _, _, _, _, _, _, _, rfl, _⟩ := h; rfl) | (obtain ⟨_, _, _, _, _, _, _, _, _, _, _, _, _, _, _, _, _, _, _, rfl, _⟩ := h; rfl) | (obtain ⟨_, _, _, _, _, _, _, _, _, _, _, _, _, _, _, _, _, _, _, _, rfl, _⟩ := h; rfl) | (obtain ⟨_, _, _, _, _, _, _, _, _, _, _, _, _, _, _, _, _, _, _, _, _, rfl, _⟩ := h; rfl) | (obtain ⟨_, _, _, _, _, _, _, _, _, _, _, _, _, _, _, _, _, _, _, _, _, _, rfl, _⟩ := h; rfl) | (obtain ⟨_, _, _, _, _, _, _, _, _, _, _, _, _, _, _, _, _, _, _, _, _, _, _, rfl, _⟩ := h; rfl)
  · obtain ⟨t, u, a, b, c, d, p, q', r, s', rfl, ht, hu, ba, bb, bc, bd, bp, bq, br, bs, q⟩ := h
    refine ⟨_, (pss_cons (ps_asg (pv 1) (pg_tup (by rfl) (pgs_cons (pg_tup (by rfl) (pgs_cons (pg_name (i := 2) sc_l_led.nd rfl (.inl rfl)) (pgs_cons (pg_name (i := 3) sc_l_led.nd rfl (.inl rfl)) pgs_nil))) (pgs_cons (pg_tup (by rfl) (pgs_cons (pg_name (i := 4) sc_l_led.nd rfl (.inl rfl)) (pgs_cons (pg_name (i := 5) sc_l_led.nd rfl (.inl rfl)) pgs_nil))) pgs_nil))))
    (pss_cons (ps_set (i := 6) sc_l_led.nd rfl (.inl rfl) (pe_op op_sub (pe_op op_mulW (pv 2) (pv 5)) (pe_op op_mulW (pv 3) (pv 4))))
    (Evl.pss_cut (ps_par (i := 7) (j := 8) (by rfl) sc_l_led.nd rfl rfl (by decide) rfl rfl (pa_cons (pe_call G_l_at (hr.mono (by decide)) (by rfl) g_l_at k_l_at b_l_at .nil pass0 (pa_cons (pv 0) (pa_cons (pv 2) (pa_cons (pv 3) pa_nil)))) (pa_cons (pe_call G_l_at (hr.mono (by decide)) (by rfl) g_l_at k_l_at b_l_at .nil pass0 (pa_cons (pv 0) (pa_cons (pv 4) (pa_cons (pv 5) pa_nil)))) pa_nil)) (by rfl))
    (Evl.pss_cut (ps_par (i := 9) (j := 10) (by rfl) sc_l_led.nd rfl rfl (by decide) rfl rfl (pa_cons (pe_call G_l_at (hr.mono (by decide)) (by rfl) g_l_at k_l_at b_l_at .nil pass0 (pa_cons (pv 0) (pa_cons (pe_op op_add (pv 2) (pv 4)) (pa_cons (pe_op op_add (pv 3) (pv 5)) pa_nil)))) (pa_cons (pe_call G_l_at (hr.mono (by decide)) (by rfl) g_l_at k_l_at b_l_at .nil pass0 (pa_cons (pv 0) (pa_cons (pe_op op_sub (pv 2) (pv 4)) (pa_cons (pe_op op_sub (pv 3) (pv 5)) pa_nil)))) pa_nil)) (by rfl))
    (Evl.pss_cut (ps_set (i := 11) sc_l_led.nd rfl (.inl rfl) (pe_op op_sub (pe_op op_fdivW (pe_op op_add (pv 9) (pv 10)) pe_int) (pv 7)))
    (Evl.pss_cut (ps_set (i := 12) sc_l_led.nd rfl (.inl rfl) (pe_op op_sub (pe_op op_fdivW (pe_op op_sub (pv 9) (pv 10)) pe_int) (pv 8)))
    (pss_one (ps_ret (pe_tup (pa_cons (pe_op op_mulW (pv 6) (pv 7)) (pa_cons (pe_op op_mulW (pv 6) (pv 12)) (pa_cons (pe_op op_mulW (pv 6) (pv 11)) (pa_cons (pe_op op_mulW (pv 6) (pv 8)) pa_nil))))))))))))), ?_⟩
    refine ⟨_, rfl, un4 hu ?_⟩
    have p1 : ∀ {n : Int}, B 300 n → B 310 n := fun h => h.mono (by decide)
    have be : B 1200 (p * s' - q' * r) := B.sub (B.mul bp bs) (B.mul bq br)
    have f1 := fv_big ba bb bc bd bp bq
    have f4 := fv_big ba bb bc bd br bs
    have f2 := (fl_big ba bb bc bd bp bq br bs).1
    have f3 := (fl_big ba bb bc bd bp bq br bs).2
    have a1 : B 310 (p + r) := ⟨by have := bp.1; have := br.1; omega, by decide⟩
    have a2 : B 310 (q' + s') := ⟨by have := bq.1; have := bs.1; omega, by decide⟩
    have a3 : B 310 (p - r) := ⟨by have := bp.1; have := br.1; omega, by decide⟩
    have a4 : B 310 (q' - s') := ⟨by have := bq.1; have := bs.1; omega, by decide⟩
    have t3 : (fv a b c d (p + r) (q' + s') + fv a b c d (p - r) (q' - s')) / 2 - fv a b c d p q' = fl3 a b c d p q' r s' := by
      rw [fl3_mid, Int.mul_ediv_cancel_left _ (by decide)]
      omega
    have t2 : (fv a b c d (p + r) (q' + s') - fv a b c d (p - r) (q' - s')) / 2 - fv a b c d r s' = fl2 a b c d p q' r s' := by
      rw [fl2_mid, Int.mul_ediv_cancel_left _ (by decide)]
      omega
    refine ⟨_, rfl, _, rfl, _, _, rfl, rfl, mulB bp bs (by decide), _, rfl, _, rfl, _, _, rfl, rfl, mulB bq br (by decide), _, _, rfl, rfl, ?_⟩
    refine ⟨fun σ H' => σ = [some (.ref t), some (.ref u), some (.int p), some (.int q'), some (.int r), some (.int s'), some (.int (p * s' - q' * r)), some (.int (fv a b c d p q')), some (.int (fv a b c d r s')), none, none, none, none] ∧ H' = H, ?_, ?_⟩
    · refine ⟨_, rfl, _, rfl, _, rfl, t, a, b, c, d, p, q', rfl, ht, ba, bb, bc, bd, p1 bp, p1 bq, ?_⟩
      refine ⟨_, rfl, _, rfl, _, rfl, t, a, b, c, d, r, s', rfl, ht, ba, bb, bc, bd, p1 br, p1 bs, ?_⟩
      exact ⟨_, _, rfl, rfl, rfl⟩
    rintro σ H1 ⟨rfl, rfl⟩
    refine ⟨fun σ H' => σ = [some (.ref t), some (.ref u), some (.int p), some (.int q'), some (.int r), some (.int s'), some (.int (p * s' - q' * r)), some (.int (fv a b c d p q')), some (.int (fv a b c d r s')), some (.int (fv a b c d (p + r) (q' + s'))), some (.int (fv a b c d (p - r) (q' - s'))), none, none] ∧ H' = H1, ?_, ?_⟩
    · refine ⟨_, rfl, _, rfl, _, rfl, _, _, rfl, rfl, _, rfl, _, rfl, _, _, rfl, rfl, t, a, b, c, d, _, _, rfl, ht, ba, bb, bc, bd, a1, a2, ?_⟩
      refine ⟨_, rfl, _, rfl, _, rfl, _, _, rfl, rfl, _, rfl, _, rfl, _, _, rfl, rfl, t, a, b, c, d, _, _, rfl, ht, ba, bb, bc, bd, a3, a4, ?_⟩
      exact ⟨_, _, rfl, rfl, rfl⟩
    rintro σ H2 ⟨rfl, rfl⟩
    refine ⟨fun σ H' => σ = [some (.ref t), some (.ref u), some (.int p), some (.int q'), some (.int r), some (.int s'), some (.int (p * s' - q' * r)), some (.int (fv a b c d p q')), some (.int (fv a b c d r s')), some (.int (fv a b c d (p + r) (q' + s'))), some (.int (fv a b c d (p - r) (q' - s'))), some (.int (fl3 a b c d p q' r s')), none] ∧ H' = H2, ?_, ?_⟩
    · refine ⟨_, rfl, _, rfl, _, _, rfl, rfl, _, _, rfl, rfl, dw (by decide) (by decide), _, rfl, _, _, rfl, rfl, ?_, rfl⟩
      rw [← t3]
      rfl
    rintro σ H3 ⟨rfl, rfl⟩
    refine ⟨fun σ H' => σ = [some (.ref t), some (.ref u), some (.int p), some (.int q'), some (.int r), some (.int s'), some (.int (p * s' - q' * r)), some (.int (fv a b c d p q')), some (.int (fv a b c d r s')), some (.int (fv a b c d (p + r) (q' + s'))), some (.int (fv a b c d (p - r) (q' - s'))), some (.int (fl3 a b c d p q' r s')), some (.int (fl2 a b c d p q' r s'))] ∧ H' = H3, ?_, ?_⟩
    · refine ⟨_, rfl, _, rfl, _, _, rfl, rfl, _, _, rfl, rfl, dw (by decide) (by decide), _, rfl, _, _, rfl, rfl, ?_, rfl⟩
      rw [← t2]
      rfl
    rintro σ H4 ⟨rfl, rfl⟩
    refine ⟨_, rfl, _, rfl, _, _, rfl, rfl, mulB be f1 (by decide), _, rfl, _, rfl, _, _, rfl, rfl, mulB be f2 (by decide), _, rfl, _, rfl, _, _, rfl, rfl, mulB be f3 (by decide), _, rfl, _, rfl, _, _, rfl, rfl, mulB be f4 (by decide), sl4, fun x nx => ?_⟩
    exact q x _ (Ex0.new nx) upd_same
theorem ok_l_joined (T : Txt K mg C_Form) : Def P w K mg base 1 "_law_joined" ["_law_one", "_law_other"] (sp_l_joined K C_Form) := by
  obtain ⟨f_, fd_, g_, F_⟩ := T.d_l_joined
  refine ⟨f_, fd_, g_, F_.kp, F_.binds (ps := ["_law_one", "_law_other"]) (fun _ _ _ _ _ _ us hl => match us, hl with | [_, _], _ => rfl), ?_⟩
  refine F_.ok sc_l_joined (fun vs H Q E h => ?_) (fun cdv A outer s H vs Q E hr h => ?_)
  · first | (obtain ⟨rfl, _⟩ := h; rfl) | (obtain ⟨_, rfl, _⟩ := h; rfl) | (obtain ⟨_, _, rfl, _⟩ := h; rfl) | (obtain ⟨_, _, _, rfl, _⟩ := h; rfl) | (obtain ⟨_, _, _, _, rfl, _⟩ := h; rfl) | (obtain ⟨_, _, _, _, _, rfl, _⟩ := h; rfl) | (obtain ⟨_, _, _, _, _, _, rfl, _⟩ := h; rfl) | (obtain ⟨_, _, _, _, _, _, _, rfl, _⟩ := h; rfl) | (obtain ⟨_, _, _, _, _, _, _, _, rfl, _⟩ := h; rfl) | (obtain ⟨_, _, _, _, _, _, _, _, _, rfl, _⟩ := h; rfl) | (obtain ⟨_, _, _, _, _, _, _, _, _, _, rfl, _⟩ := h; rfl) | (obtain ⟨_, _, _, _, _, _, _, _, _, _, _, rfl, _⟩ := h; rfl) | (obtain ⟨_, _, _, _, _, _, _, _, _, _, _, _, rfl, _⟩ := h; rfl) | (obtain ⟨_, _, _, _, _, _, _, _, _, _, _, _, _, rfl, _⟩ := h; rfl) | (obtain ⟨_, _, _, _, _, _, _, _, _, _, _, _, _, _, rfl, _⟩ := h; rfl) | (obtain ⟨_, _, _, _, _, _, _, _, _, _, _, _, _, _, _, rfl, _⟩ := h; rfl) | (obtain ⟨_, _, _, _, _, _, _, _, _, _, _, _, _, _, _, _, rfl, _⟩ := h; rfl) | (obtain ⟨_, _, _, _, _, _, _, _, _, _, _, _, _, _, _, _, _, rfl, _⟩ := h; rfl) | (obtain ⟨_, _, _, _, _, _, _, _, _, _, _, _, _, _, _, _, _, _, rfl, _⟩ := h; rfl) | (obtain ⟨_, _, _, _, _, _, _, _, _, _, _, _, _, _, _, _, _, _, _, rfl, _⟩ := h; rfl) | (obtain ⟨_, _, _, _, _, _, _, _, _, _, _, _, _, _, _, _, _, _, _, _, rfl, _⟩ := h; rfl) | (obtain ⟨_, _, _, _, _, _, _, _, _, _, _, _, _, _, _, _, _, _, _, _, _, rfl, _⟩ := h; rfl) | (obtain ⟨_, _, _, _, _, _, _, _, _, _, _, _, _, _, _, _, _, _, _, _, _, _, rfl, _⟩ := h; rfl) | (obtain ⟨_, _, _, _, _, _, _, _, _, _, _, _, _, _, _, _, _, _, _, _, _, _, _, rfl, _⟩ := h; rfl)
  · obtain ⟨a, b, p, q', r, s', i, j, k, m, rfl, h4, h4', bp, bq, br, bs, bi, bj, bk, bm, q⟩ := h
    refine ⟨_, (pss_cons (ps_asg (pv 0) (pg_tup (by rfl) (pgs_cons (pg_tup (by rfl) (pgs_cons (pg_name (i := 2) sc_l_joined.nd rfl (.inl rfl)) (pgs_cons (pg_name (i := 3) sc_l_joined.nd rfl (.inl rfl)) pgs_nil))) (pgs_cons (pg_tup (by rfl) (pgs_cons (pg_name (i := 4) sc_l_joined.nd rfl (.inl rfl)) (pgs_cons (pg_name (i := 5) sc_l_joined.nd rfl (.inl rfl)) pgs_nil))) pgs_nil))))
    (pss_cons (ps_asg (pv 1) (pg_tup (by rfl) (pgs_cons (pg_tup (by rfl) (pgs_cons (pg_name (i := 6) sc_l_joined.nd rfl (.inl rfl)) (pgs_cons (pg_name (i := 7) sc_l_joined.nd rfl (.inl rfl)) pgs_nil))) (pgs_cons (pg_tup (by rfl) (pgs_cons (pg_name (i := 8) sc_l_joined.nd rfl (.inl rfl)) (pgs_cons (pg_name (i := 9) sc_l_joined.nd rfl (.inl rfl)) pgs_nil))) pgs_nil))))
    (pss_one (ps_ret (pe_tup (pa_cons (pe_tup (pa_cons (pe_op op_add (pe_op op_mulW (pv 6) (pv 2)) (pe_op op_mulW (pv 7) (pv 4))) (pa_cons (pe_op op_add (pe_op op_mulW (pv 6) (pv 3)) (pe_op op_mulW (pv 7) (pv 5))) pa_nil))) (pa_cons (pe_tup (pa_cons (pe_op op_add (pe_op op_mulW (pv 8) (pv 2)) (pe_op op_mulW (pv 9) (pv 4))) (pa_cons (pe_op op_add (pe_op op_mulW (pv 8) (pv 3)) (pe_op op_mulW (pv 9) (pv 5))) pa_nil))) pa_nil))))))), ?_⟩
    refine ⟨_, rfl, un4 h4 ?_⟩
    refine ⟨_, rfl, un4 h4' ?_⟩
    refine ⟨_, rfl, _, rfl, _, _, rfl, rfl, mulB (by with_reducible assumption) (by with_reducible assumption) (by decide), _, rfl, _, rfl, _, _, rfl, rfl, mulB (by with_reducible assumption) (by with_reducible assumption) (by decide), _, _, rfl, rfl, _, rfl, _, rfl, _, _, rfl, rfl, mulB (by with_reducible assumption) (by with_reducible assumption) (by decide), _, rfl, _, rfl, _, _, rfl, rfl, mulB (by with_reducible assumption) (by with_reducible assumption) (by decide), _, _, rfl, rfl, sl2, fun t1 n1 => ⟨_, rfl, _, rfl, _, _, rfl, rfl, mulB (by with_reducible assumption) (by with_reducible assumption) (by decide), _, rfl, _, rfl, _, _, rfl, rfl, mulB (by with_reducible assumption) (by with_reducible assumption) (by decide), _, _, rfl, rfl, _, rfl, _, rfl, _, _, rfl, rfl, mulB (by with_reducible assumption) (by with_reducible assumption) (by decide), _, rfl, _, rfl, _, _, rfl, rfl, mulB (by with_reducible assumption) (by with_reducible assumption) (by decide), _, _, rfl, rfl, sl2, fun t2 n2 => ⟨sl2, fun x nx => ?_⟩⟩⟩
    have z := t4_new n1 n2 nx
    exact q x _ z.1 z.2
theorem ok_l_back (T : Txt K mg C_Form) : Def P w K mg base 1 "_law_back" ["_law_change_here"] (sp_l_back K C_Form) := by
  obtain ⟨f_, fd_, g_, F_⟩ := T.d_l_back
  refine ⟨f_, fd_, g_, F_.kp, F_.binds (ps := ["_law_change_here"]) (fun _ _ _ _ _ _ us hl => match us, hl with | [_], _ => rfl), ?_⟩
  refine F_.ok sc_l_back (fun vs H Q E h => ?_) (fun cdv A outer s H vs Q E hr h => ?_)
  · first | (obtain ⟨rfl, _⟩ := h; rfl) | (obtain ⟨_, rfl, _⟩ := h; rfl) | (obtain ⟨_, _, rfl, _⟩ := h; rfl) | (obtain ⟨_, _, _, rfl, _⟩ := h; rfl) | (obtain ⟨_, _, _, _, rfl, _⟩ := h; rfl) | (obtain ⟨_, _, _, _, _, rfl, _⟩ := h; rfl) | (obtain ⟨_, _, _, _, _, _, rfl, _⟩ := h; rfl) | (obtain ⟨_, _, _, _, _, _, _, rfl, _⟩ := h; rfl) | (obtain ⟨_, _, _, _, _, _, _, _, rfl, _⟩ := h; rfl) | (obtain ⟨_, _, _, _, _, _, _, _, _, rfl, _⟩ := h; rfl) | (obtain ⟨_, _, _, _, _, _, _, _, _, _, rfl, _⟩ := h; rfl) | (obtain ⟨_, _, _, _, _, _, _, _, _, _, _, rfl, _⟩ := h; rfl) | (obtain ⟨_, _, _, _, _, _, _, _, _, _, _, _, rfl, _⟩ := h; rfl) | (obtain ⟨_, _, _, _, _, _, _, _, _, _, _, _, _, rfl, _⟩ := h; rfl) | (obtain ⟨_, _, _, _, _, _, _, _, _, _, _, _, _, _, rfl, _⟩ := h; rfl) | (obtain ⟨_, _, _, _, _, _, _, _, _, _, _, _, _, _, _, rfl, _⟩ := h; rfl) | (obtain ⟨_, _, _, _, _, _, _, _, _, _, _, _, _, _, _, _, rfl, _⟩ := h; rfl) | (obtain ⟨_, _, _, _, _, _, _, _, _, _, _, _, _, _, _, _, _, rfl, _⟩ := h; rfl) | (obtain ⟨_, _, _, _, _, _, _, _, _, _, _, _, _, _, _, _, _, _, rfl, _⟩ := h; rfl) | (obtain ⟨_, _, _, _, _, _, _, _, _, _, _, _, _, _, _, _, _, _, _, rfl, _⟩ := h; rfl) | (obtain ⟨_, _, _, _, _, _, _, _, _, _, _, _, _, _, _, _, _, _, _, _, rfl, _⟩ := h; rfl) | (obtain ⟨_, _, _, _, _, _, _, _, _, _, _, _, _, _, _, _, _, _, _, _, _, rfl, _⟩ := h; rfl) | (obtain ⟨_, _, _, _, _, _, _, _, _, _, _, _, _, _, _, _, _, _, _, _, _, _, rfl, _⟩ := h; rfl) | (obtain ⟨_, _, _, _, _, _, _, _, _, _, _, _, _, _, _, _, _, _, _, _, _, _, _, rfl, _⟩ := h; rfl)
  · obtain ⟨a, p, q', r, s', rfl, h4, bp, bq, br, bs, q⟩ := h
    refine ⟨_, (pss_cons (ps_asg (pv 0) (pg_tup (by rfl) (pgs_cons (pg_tup (by rfl) (pgs_cons (pg_name (i := 1) sc_l_back.nd rfl (.inl rfl)) (pgs_cons (pg_name (i := 2) sc_l_back.nd rfl (.inl rfl)) pgs_nil))) (pgs_cons (pg_tup (by rfl) (pgs_cons (pg_name (i := 3) sc_l_back.nd rfl (.inl rfl)) (pgs_cons (pg_name (i := 4) sc_l_back.nd rfl (.inl rfl)) pgs_nil))) pgs_nil))))
    (pss_cons (ps_set (i := 5) sc_l_back.nd rfl (.inl rfl) (pe_op op_sub (pe_op op_mulW (pv 1) (pv 4)) (pe_op op_mulW (pv 2) (pv 3))))
    (pss_one (ps_ret (pe_tup (pa_cons (pe_tup (pa_cons (pe_op op_mulW (pv 5) (pv 4)) (pa_cons (pe_op op_sub pe_int (pe_op op_mulW (pv 5) (pv 2))) pa_nil))) (pa_cons (pe_tup (pa_cons (pe_op op_sub pe_int (pe_op op_mulW (pv 5) (pv 3))) (pa_cons (pe_op op_mulW (pv 5) (pv 1)) pa_nil))) pa_nil))))))), ?_⟩
    refine ⟨_, rfl, un4 h4 ?_⟩
    have be : B 1200 (p * s' - q' * r) := B.sub (B.mul bp bs) (B.mul bq br)
    refine ⟨_, rfl, _, rfl, _, _, rfl, rfl, mulB bp bs (by decide), _, rfl, _, rfl, _, _, rfl, rfl, mulB bq br (by decide), _, _, rfl, rfl, ?_⟩
    refine ⟨_, rfl, _, rfl, _, _, rfl, rfl, mulB be bs (by decide), _, rfl, _, rfl, _, _, rfl, rfl, mulB be bq (by decide), _, _, rfl, rfl, sl2, fun t1 n1 => ?_⟩
    refine ⟨_, rfl, _, rfl, _, _, rfl, rfl, mulB be br (by decide), _, _, rfl, rfl, _, rfl, _, rfl, _, _, rfl, rfl, mulB be bp (by decide), sl2, fun t2 n2 => ⟨sl2, fun x nx => ?_⟩⟩
    have z := t4_new n1 n2 nx
    exact q x _ z.1 z.2
end
end TF
namespace TF
open PySem PySem.Spec PyProof.Rows L2 Fr
open K05M (fv fl2 fl3 fdisc)
open K06M
def Pk (i j k m : Int) : Prop := ∃ z : Int, z.natAbs ≤ 2 ∧ ((i = 1 ∧ j = z ∧ k = 0 ∧ m = 1) ∨ (i = 1 ∧ j = 0 ∧ k = z ∧ m = 1) ∨ (i = 0 ∧ j = 1 ∧ k = -1 ∧ m = 0) ∨ (i = 1 ∧ j = 0 ∧ k = 0 ∧ m = -1) ∨ (i = -1 ∧ j = 0 ∧ k = 0 ∧ m = -1))
theorem Pk.b {i j k m : Int} (g : Pk i j k m) : B 400 i ∧ B 400 j ∧ B 400 k ∧ B 400 m := by
  obtain ⟨z, hz, g⟩ := g
  have bz : B 400 z := ⟨Nat.lt_of_le_of_lt hz (by decide), by decide⟩
  have b0 : B 400 0 := ⟨by decide, by decide⟩
  have b1 : B 400 1 := ⟨by decide, by decide⟩
  have b2 : B 400 (-1) := ⟨by decide, by decide⟩
  rcases g with ⟨rfl, rfl, rfl, rfl⟩ | ⟨rfl, rfl, rfl, rfl⟩ | ⟨rfl, rfl, rfl, rfl⟩ | ⟨rfl, rfl, rfl, rfl⟩ | ⟨rfl, rfl, rfl, rfl⟩ <;> refine ⟨?_, ?_, ?_, ?_⟩ <;> assumption
theorem near2 {M : Nat} {x y z : Int} (hx : x.natAbs ≤ M) (hy : y.natAbs ≤ M) (hz : z.natAbs ≤ 2) : (x + z * y).natAbs ≤ 3 * M := by
  have h1 : (z * y).natAbs ≤ 2 * M := by rw [Int.natAbs_mul]; exact Nat.mul_le_mul hz hy
  omega
theorem Gc.step {M : Nat} {p q r s i j k m : Int} (h : Gc p q r s M) (g : Pk i j k m) : Gc (i * p + j * r) (i * q + j * s) (k * p + m * r) (k * q + m * s) (3 * M) := by
  obtain ⟨a, b, c, d, e⟩ := h
  obtain ⟨z, hz, g⟩ := g
  have det : (i * p + j * r) * (k * q + m * s) - (i * q + j * s) * (k * p + m * r) = (i * m - j * k) * (p * s - q * r) := by grind
  have dd : ∀ u : Int, i * m - j * k = u → (u = 1 ∨ u = -1) → ((i * p + j * r) * (k * q + m * s) - (i * q + j * s) * (k * p + m * r) = 1 ∨ (i * p + j * r) * (k * q + m * s) - (i * q + j * s) * (k * p + m * r) = -1) := fun u hu hv => by
    rw [det, hu]
    rcases hv with rfl | rfl <;> rcases e with e | e <;> rw [e] <;> decide
  rcases g with ⟨rfl, rfl, rfl, rfl⟩ | ⟨rfl, rfl, rfl, rfl⟩ | ⟨rfl, rfl, rfl, rfl⟩ | ⟨rfl, rfl, rfl, rfl⟩ | ⟨rfl, rfl, rfl, rfl⟩
  · refine ⟨?_, ?_, ?_, ?_, dd 1 (by omega) (.inl rfl)⟩
    · rw [Int.one_mul]; exact near2 a c hz
    · rw [Int.one_mul]; exact near2 b d hz
    · omega
    · omega
  · refine ⟨?_, ?_, ?_, ?_, dd 1 (by omega) (.inl rfl)⟩
    · omega
    · omega
    · rw [Int.one_mul, Int.add_comm]; exact near2 c a hz
    · rw [Int.one_mul, Int.add_comm]; exact near2 d b hz
  · refine ⟨?_, ?_, ?_, ?_, dd 1 (by decide) (.inl rfl)⟩ <;> omega
  · refine ⟨?_, ?_, ?_, ?_, dd (-1) (by decide) (.inr rfl)⟩ <;> omega
  · refine ⟨?_, ?_, ?_, ?_, dd 1 (by decide) (.inl rfl)⟩ <;> omega
theorem Gc.b {M : Nat} {p q r s : Int} (h : Gc p q r s M) (hm : M ≤ 100000) : B 300 p ∧ B 300 q ∧ B 300 r ∧ B 300 s := by
  obtain ⟨a, b, c, d, _⟩ := h
  have sm : ∀ {n : Int}, n.natAbs ≤ M → B 300 n := fun h => ⟨Nat.lt_of_le_of_lt (Nat.le_trans h hm) (by decide), by decide⟩
  exact ⟨sm a, sm b, sm c, sm d⟩
theorem Gc.mono {M N : Nat} {p q r s : Int} (h : Gc p q r s M) (hm : M ≤ N) : Gc p q r s N := by
  obtain ⟨a, b, c, d, e⟩ := h
  exact ⟨Nat.le_trans a hm, Nat.le_trans b hm, Nat.le_trans c hm, Nat.le_trans d hm, e⟩
section
variable {P : Program} {w : World} {K : PySem.W.Frag} {mg : Str → Option Value} {base : Heap} {C_Form : Addr}
theorem ok_l_change (T : Txt K mg C_Form) : Def P w K mg base 3 "_law_change" ["_law_pot_here", "_law_most"] (sp_l_change K C_Form) := by
  obtain ⟨f_, fd_, g_, F_⟩ := T.d_l_change
  obtain ⟨f_l_dip, fd_l_dip, g_l_dip, k_l_dip, b_l_dip, G_l_dip⟩ := (ok_l_dip (P := P) (w := w) (base := base) T)
  obtain ⟨f_l_joined, fd_l_joined, g_l_joined, k_l_joined, b_l_joined, G_l_joined⟩ := (ok_l_joined (P := P) (w := w) (base := base) T)
  obtain ⟨f_l_pick, fd_l_pick, g_l_pick, k_l_pick, b_l_pick, G_l_pick⟩ := (ok_l_pick (P := P) (w := w) (base := base) T)
  refine ⟨f_, fd_, g_, F_.kp, F_.binds (ps := ["_law_pot_here", "_law_most"]) (fun _ _ _ _ _ _ us hl => match us, hl with | [_, _], _ => rfl), ?_⟩
  refine F_.ok sc_l_change (fun vs H Q E h => ?_) (fun cdv A outer s H vs Q E hr h => ?_)
  · first | (obtain ⟨rfl, _⟩ := h; rfl) | (obtain ⟨_, rfl, _⟩ := h; rfl) | (obtain ⟨_, _, rfl, _⟩ := h; rfl) | (obtain ⟨_, _, _, rfl, _⟩ := h; rfl) | (obtain ⟨_, _, _, _, rfl, _⟩ := h; rfl) | (obtain ⟨_, _, _, _, _, rfl, _⟩ := h; rfl) | (obtain ⟨_, _, _, _, _, _, rfl, _⟩ := h; rfl) | (obtain ⟨_, _, _, _, _, _, _, rfl, _⟩ := h; rfl) | (obtain ⟨_, _, _, _, _, _, _, _, rfl, _⟩ := h; rfl) | (obtain ⟨_, _, _, _, _, _, _, _, _, rfl, _⟩ := h; rfl) | (obtain ⟨_, _, _, _, _, _, _, _, _, _, rfl, _⟩ := h; rfl) | (obtain ⟨_, _, _, _, _, _, _, _, _, _, _, rfl, _⟩ := h; rfl) | (obtain ⟨_, _, _, _, _, _, _, _, _, _, _, _, rfl, _⟩ := h; rfl) | (obtain ⟨_, _, _, _, _, _, _, _, _, _, _, _, _, rfl, _⟩ := h; rfl) | (obtain ⟨_, _, _, _, _, _, _, _, _, _, _, _, _, _, rfl, _⟩ := h; rfl) | (obtain ⟨_, _, _, _, _, _, _, _, _, _, _, _, _, _, _, rfl, _⟩ := h; rfl) | (obtain ⟨_, _, _, _, _, _, _, _, _, _, _, _, _, _, _, _, rfl, _⟩ := h; rfl) | (obtain ⟨_, _, _, _, _, _, _, _, _, _, _, _, _, _, _, _, _, rfl, _⟩ := h; rfl) | (obtain ⟨_, _, _, _, _, _, _, _, _, _, _, _, _, _, _, _, _, _, rfl, _⟩ := h; rfl) | (obtain ⟨_, _, _, _, _, _, _, _, _, _, _, _, _, _, _, _, _, _, _, rfl, _⟩ := h; rfl) | (obtain ⟨_, _, _, _, _, _, _, _, _, _, _, _, _, _, _, _, _, _, _, _, rfl, _⟩ := h; rfl) | (obtain ⟨_, _, _, _, _, _, _, _, _, _, _, _, _, _, _, _, _, _, _, _, _, rfl, _⟩ := h; rfl) | (obtain ⟨_, _, _, _, _, _, _, _, _, _, _, _, _, _, _, _, _, _, _, _, _, _, rfl, _⟩ := h; rfl) | (obtain ⟨_, _, _, _, _, _, _, _, _, _, _, _, _, _, _, _, _, _, _, _, _, _, _, rfl, _⟩ := h; rfl)
  · obtain ⟨c, rfl, hc, q⟩ := h
    refine ⟨_, (pss_cons (ps_set (i := 2) sc_l_change.nd rfl (.inl rfl) (pe_tup (pa_cons (pe_tup (pa_cons pe_int (pa_cons pe_int pa_nil))) (pa_cons (pe_tup (pa_cons pe_int (pa_cons pe_int pa_nil))) pa_nil))))
    (pss_cons (ps_for PassesOwn.never rfl (pi_range1 (by rfl) T.b_range (pa_cons (pe_op op_add pe_int (pe_call G_l_dip (hr.mono (by decide)) (by rfl) g_l_dip k_l_dip b_l_dip .nil pass0 (pa_cons (pv 0) (pa_cons pe_int pa_nil)))) pa_nil)) (pg_name (i := 3) sc_l_change.nd rfl (.inl rfl))
      (pss_cons (ps_set (i := 4) sc_l_change.nd rfl (.inl rfl) (pe_op op_sub (pe_call G_l_dip (hr.mono (by decide)) (by rfl) g_l_dip k_l_dip b_l_dip .nil pass0 (pa_cons (pv 0) (pa_cons (pe_op op_add (pe_op op_mul pe_int (pv 1)) pe_int) pa_nil))) (pv 1)))
    (pss_cons (ps_set (i := 5) sc_l_change.nd rfl (.inl rfl) (pe_lst (pa_cons (pe_tup (pa_cons (pe_tup (pa_cons pe_int (pa_cons (pv 4) pa_nil))) (pa_cons (pe_tup (pa_cons pe_int (pa_cons pe_int pa_nil))) pa_nil))) (pa_cons (pe_tup (pa_cons (pe_tup (pa_cons pe_int (pa_cons pe_int pa_nil))) (pa_cons (pe_tup (pa_cons (pv 4) (pa_cons pe_int pa_nil))) pa_nil))) (pa_cons (pe_tup (pa_cons (pe_tup (pa_cons pe_int (pa_cons pe_int pa_nil))) (pa_cons (pe_tup (pa_cons (pe_un un_neg pe_int) (pa_cons pe_int pa_nil))) pa_nil))) (pa_cons (pe_tup (pa_cons (pe_tup (pa_cons pe_int (pa_cons pe_int pa_nil))) (pa_cons (pe_tup (pa_cons pe_int (pa_cons (pe_un un_neg pe_int) pa_nil))) pa_nil))) (pa_cons (pe_tup (pa_cons (pe_tup (pa_cons (pe_un un_neg pe_int) (pa_cons pe_int pa_nil))) (pa_cons (pe_tup (pa_cons pe_int (pa_cons (pe_un un_neg pe_int) pa_nil))) pa_nil))) pa_nil)))))))
    (pss_one (ps_set (i := 2) sc_l_change.nd rfl (.inl rfl) (pe_call G_l_joined (hr.mono (by decide)) (by rfl) g_l_joined k_l_joined b_l_joined .nil pass0 (pa_cons (pv 2) (pa_cons (pe_call G_l_pick (hr.mono (by decide)) (by rfl) g_l_pick k_l_pick b_l_pick .nil pass0 (pa_cons (pv 0) (pa_cons (pv 5) pa_nil))) pa_nil))))))))
    (pss_one (ps_ret (pv 2))))), ?_⟩
    refine ⟨sl2, fun t1 n1 => ⟨sl2, fun t2 n2 => ⟨sl2, fun x0 n0 => ?_⟩⟩⟩
    have z0 := t4_new n1 n2 n0
    have f0 : Fv c H _ := fv_ex hc z0.1
    refine ⟨_, rfl, c, 5, rfl, f0.1, by decide, by decide, fun u H1 u0 u1 e1 => ⟨_, _, rfl, rfl, _, rfl, by omega, by omega, ?_⟩⟩
    have i0 : T4 H1 x0 1 0 0 1 := z0.2.ex fun b xs z => fv_tup f0.1 e1 z
    refine for_range (lo := 0) (n := (1 + u).toNat) (fun i σ H' => ∃ x p q r s y3 y4 y5, σ = [some (.ref c), some (.int 2), some (.ref x), y3, y4, y5] ∧ Fv c H H' ∧ T4 H' x p q r s ∧ Gc p q r s (3 ^ i)) ⟨x0, 1, 0, 0, 1, none, none, none, rfl, f0.trans e1, i0, ⟨by decide, by decide, by decide, by decide, .inl (by decide)⟩⟩ ?_ ?_
    · rintro i σ H' hi ⟨x, p, q', r, s', y3, y4, y5, rfl, e2, h4, hg⟩
      have hi5 : i < 5 := by omega
      have m5 : (3 : Nat) ^ i ≤ 100000 := Nat.le_trans (Nat.pow_le_pow_right (by decide) (show i ≤ 5 by omega)) (by decide)
      refine ⟨_, rfl, _, rfl, _, _, rfl, rfl, .inl ⟨by decide, by decide⟩, _, _, rfl, rfl, c, 5, rfl, e2.1, by decide, by decide, fun v H3 v0 v1 e3 => ⟨_, rfl, _, _, rfl, rfl, ?_⟩⟩
      have f3 : Fv c H' H3 := e3
      obtain ⟨z, hz, hz2⟩ : ∃ z : Int, z = v - 2 ∧ z.natAbs ≤ 2 := ⟨_, rfl, by omega⟩
      refine ⟨_, rfl, sl2, fun a1 m1 => ⟨sl2, fun a2 m2 => ⟨sl2, fun a3 m3 => ?_⟩⟩⟩
      have w1 := t4_new m1 m2 m3
      refine ⟨sl2, fun c1 k1 => ⟨_, rfl, sl2, fun c2 k2 => ⟨sl2, fun b3 k3 => ?_⟩⟩⟩
      have w2 := t4_new k1 k2 k3
      refine ⟨sl2, fun d1 l1 => ⟨_, rfl, sl2, fun d2 l2 => ⟨sl2, fun c3 l3 => ?_⟩⟩⟩
      have w3 := t4_new l1 l2 l3
      refine ⟨sl2, fun g1 o1 => ⟨_, rfl, sl2, fun g2 o2 => ⟨sl2, fun d3 o3 => ?_⟩⟩⟩
      have w4 := t4_new o1 o2 o3
      refine ⟨_, rfl, sl2, fun h1' p1 => ⟨_, rfl, sl2, fun h2' p2 => ⟨sl2, fun g3 p3 => ?_⟩⟩⟩
      have w5 := t4_new p1 p2 p3
      refine ⟨sl5, fun l2' nl2 => ?_⟩
      have eg := (((w1.1.trans w2.1).trans w3.1).trans w4.1).trans w5.1
      have f5 : Fv c H' _ := f3.trans (fv_ex f3.1 eg)
      have f6 := fv_new (o := .lst [.ref a3, .ref b3, .ref c3, .ref d3, .ref g3]) f5.1 nl2
      refine ⟨_, rfl, _, rfl, _, rfl, c, l2', [.ref a3, .ref b3, .ref c3, .ref d3, .ref g3], rfl, f6.1, upd_same, fv_ne f5.1 nl2, by simp, by show 5 ≤ 1000; decide, fun y H6 hy e6 => ?_⟩
      have f7 := f6.trans e6
      have up : ∀ {t : Addr} {i j k m : Int}, T4 _ t i j k m → T4 H6 t i j k m := fun h => h.ex fun b xs z => fv_tup f5.1 f7 z
      obtain ⟨x2, i', j, k, m, rfl, h2, g2'⟩ : ∃ x2 i' j k m, y = .ref x2 ∧ T4 H6 x2 i' j k m ∧ Pk i' j k m := by
        simp only [List.mem_cons, List.mem_nil_iff, or_false] at hy
        rcases hy with rfl | rfl | rfl | rfl | rfl
        · exact ⟨_, _, _, _, _, rfl, up (Ex0.t4 (((w2.1.trans w3.1).trans w4.1).trans w5.1) w1.2), v - 2, hz ▸ hz2, .inl ⟨rfl, rfl, rfl, rfl⟩⟩
        · exact ⟨_, _, _, _, _, rfl, up (Ex0.t4 ((w3.1.trans w4.1).trans w5.1) w2.2), v - 2, hz ▸ hz2, .inr (.inl ⟨rfl, rfl, rfl, rfl⟩)⟩
        · exact ⟨_, _, _, _, _, rfl, up (Ex0.t4 (w4.1.trans w5.1) w3.2), v - 2, hz ▸ hz2, .inr (.inr (.inl ⟨rfl, rfl, rfl, rfl⟩))⟩
        · exact ⟨_, _, _, _, _, rfl, up (Ex0.t4 w5.1 w4.2), v - 2, hz ▸ hz2, .inr (.inr (.inr (.inl ⟨rfl, rfl, rfl, rfl⟩)))⟩
        · exact ⟨_, _, _, _, _, rfl, up w5.2, v - 2, hz ▸ hz2, .inr (.inr (.inr (.inr ⟨rfl, rfl, rfl, rfl⟩)))⟩
      have f8 : Fv c H' H6 := f5.trans f7
      have h1 : T4 H6 x p q' r s' := h4.ex fun b xs z => fv_tup e2.1 f8 z
      have gb := hg.b m5
      have pb := g2'.b
      refine ⟨x, x2, p, q', r, s', i', j, k, m, rfl, h1, h2, gb.1.mono (by decide), gb.2.1.mono (by decide), gb.2.2.1.mono (by decide), gb.2.2.2.mono (by decide), pb.1, pb.2.1, pb.2.2.1, pb.2.2.2, fun x3 H7 e7 h7 => ?_⟩
      refine ⟨x3, _, _, _, _, _, _, _, rfl, e2.trans (f8.trans (fv_ex f8.1 e7)), h7, ?_⟩
      rw [Nat.pow_succ, Nat.mul_comm]
      exact hg.step g2'
    · rintro σ H' ⟨x, p, q', r, s', y3, y4, y5, rfl, e2, h4, hg⟩
      exact ⟨_, rfl, q x p q' r s' H' e2 h4 (hg.mono (Nat.le_trans (Nat.pow_le_pow_right (by decide) (show (1 + u).toNat ≤ 5 by omega)) (by decide)))⟩
theorem ok_l_row (T : Txt K mg C_Form) : Def P w K mg base 3 "_law_row" ["_law_pot_here", "_law_most"] (sp_l_row K C_Form) := by
  obtain ⟨f_, fd_, g_, F_⟩ := T.d_l_row
  obtain ⟨f_l_dip, fd_l_dip, g_l_dip, k_l_dip, b_l_dip, G_l_dip⟩ := (ok_l_dip (P := P) (w := w) (base := base) T)
  obtain ⟨f_l_pick, fd_l_pick, g_l_pick, k_l_pick, b_l_pick, G_l_pick⟩ := (ok_l_pick (P := P) (w := w) (base := base) T)
  refine ⟨f_, fd_, g_, F_.kp, F_.binds (ps := ["_law_pot_here", "_law_most"]) (fun _ _ _ _ _ _ us hl => match us, hl with | [_, _], _ => rfl), ?_⟩
  refine F_.ok sc_l_row (fun vs H Q E h => ?_) (fun cdv A outer s H vs Q E hr h => ?_)
  · first | (obtain ⟨rfl, _⟩ := h; rfl) | (obtain ⟨_, rfl, _⟩ := h; rfl) | (obtain ⟨_, _, rfl, _⟩ := h; rfl) | (obtain ⟨_, _, _, rfl, _⟩ := h; rfl) | (obtain ⟨_, _, _, _, rfl, _⟩ := h; rfl) | (obtain ⟨_, _, _, _, _, rfl, _⟩ := h; rfl) | (obtain ⟨_, _, _, _, _, _, rfl, _⟩ := h; rfl) | (obtain ⟨_, _, _, _, _, _, _, rfl, _⟩ := h; rfl) | (obtain ⟨_, _, _, _, _, _, _, _, rfl, _⟩ := h; rfl) | (obtain ⟨_, _, _, _, _, _, _, _, _, rfl, _⟩ := h; rfl) | (obtain ⟨_, _, _, _, _, _, _, _, _, _, rfl, _⟩ := h; rfl) | (obtain ⟨_, _, _, _, _, _, _, _, _, _, _, rfl, _⟩ := h; rfl) | (obtain ⟨_, _, _, _, _, _, _, _, _, _, _, _, rfl, _⟩ := h; rfl) | (obtain ⟨_, _, _, _, _, _, _, _, _, _, _, _, _, rfl, _⟩ := h; rfl) | (obtain ⟨_, _, _, _, _, _, _, _, _, _, _, _, _, _, rfl, _⟩ := h; rfl) | (obtain ⟨_, _, _, _, _, _, _, _, _, _, _, _, _, _, _, rfl, _⟩ := h; rfl) | (obtain ⟨_, _, _, _, _, _, _, _, _, _, _, _, _, _, _, _, rfl, _⟩ := h; rfl) | (obtain ⟨_, _, _, _, _, _, _, _, _, _, _, _, _, _, _, _, _, rfl, _⟩ := h; rfl) | (obtain ⟨_, _, _, _, _, _, _, _, _, _, _, _, _, _, _, _, _, _, rfl, _⟩ := h; rfl) | (obtain ⟨_, _, _, _, _, _, _, _, _, _, _, _, _, _, _, _, _, _, _, rfl, _⟩ := h; rfl) | (obtain ⟨_, _, _, _, _, _, _, _, _, _, _, _, _, _, _, _, _, _, _, _, rfl, _⟩ := h; rfl) | (obtain ⟨_, _, _, _, _, _, _, _, _, _, _, _, _, _, _, _, _, _, _, _, _, rfl, _⟩ := h; rfl) | (obtain ⟨_, _, _, _, _, _, _, _, _, _, _, _, _, _, _, _, _, _, _, _, _, _, rfl, _⟩ := h; rfl) | (obtain ⟨_, _, _, _, _, _, _, _, _, _, _, _, _, _, _, _, _, _, _, _, _, _, _, rfl, _⟩ := h; rfl)
  · obtain ⟨c, rfl, hc, q⟩ := h
    refine ⟨_, (pss_cons (ps_set (i := 2) sc_l_row.nd rfl (.inl rfl) (pe_call G_l_dip (hr.mono (by decide)) (by rfl) g_l_dip k_l_dip b_l_dip .nil pass0 (pa_cons (pv 0) (pa_cons pe_int pa_nil))))
    (pss_cons (ps_asg (pe_lc (own := [("_law_turn", 7)]) (g := (gName 7)) rfl sc_l_row.nd (pi_range1 (by rfl) T.b_range (pa_cons pe_int pa_nil)) (blkOk_by (N := N_l_row) (sc := defScope s_l_row) (by decide +kernel)) (fun _ _ _ _ _ => (pg_name (i := 7) sc_l_row.nd rfl (.inl rfl))) (fun _ _ _ _ _ => pts_nil) (fun _ _ _ _ _ => (pe_op op_sub (pe_call G_l_dip (hr.mono (by decide)) (by rfl) g_l_dip k_l_dip b_l_dip .nil pass0 (pa_cons (pv 0) (pa_cons (pe_op op_add (pe_op op_mul pe_int (pv 1)) pe_int) pa_nil))) (pv 1)))) (pg_lst (by rfl) (pgs_cons (pg_name (i := 3) sc_l_row.nd rfl (.inl rfl)) (pgs_cons (pg_name (i := 4) sc_l_row.nd rfl (.inl rfl)) (pgs_cons (pg_name (i := 5) sc_l_row.nd rfl (.inl rfl)) (pgs_cons (pg_name (i := 6) sc_l_row.nd rfl (.inl rfl)) pgs_nil))))))
    (pss_cons (ps_if (pt_cmpR op_eq (pv 2) pe_int (nomark _))
      (pss_one (ps_ret (pe_tup (pa_cons pe_int (pa_cons (pv 4) (pa_cons (pv 5) (pa_cons (pv 6) pa_nil)))))))
      pss_nil)
    (pss_cons (ps_if (pt_cmpR op_eq (pv 2) pe_int (nomark _))
      (pss_one (ps_ret (pe_tup (pa_cons (pv 3) (pa_cons (pv 4) (pa_cons (pe_op op_sub (pv 4) (pe_op op_mul pe_int (pv 3))) (pa_cons (pe_op op_sub pe_int (pv 3)) pa_nil)))))))
      pss_nil)
    (pss_cons (ps_if (pt_cmpR op_eq (pv 2) pe_int (nomark _))
      (pss_one (ps_ret (pe_tup (pa_cons pe_int (pa_cons (pv 4) (pa_cons (pe_call G_l_pick (hr.mono (by decide)) (by rfl) g_l_pick k_l_pick b_l_pick .nil pass0 (pa_cons (pv 0) (pa_cons (pe_lst (pa_cons pe_int (pa_cons (pv 4) (pa_cons (pv 5) pa_nil)))) pa_nil))) (pa_cons (pv 6) pa_nil)))))))
      pss_nil)
    (pss_one (ps_ret (pe_tup (pa_cons (pv 3) (pa_cons (pv 4) (pa_cons (pv 5) (pa_cons (pv 6) pa_nil)))))))))))), ?_⟩
    refine ⟨_, rfl, c, 6, rfl, hc, by decide, by decide, fun w0 H1 w1 w2 e1 => ?_⟩
    refine ⟨_, rfl, by decide, by decide, ?_⟩
    refine lcR (fmV c) e1.1 (fun i acc _ => ∃ ns : List Int, acc = ns.map V.int ∧ ns.length = i ∧ ∀ n ∈ ns, n.natAbs ≤ 6) (fun _ _ => ⟨[], rfl, rfl, fun _ h => by cases h⟩) (fun D i acc H3 hD hi e5 hA hlen hp => ?_) (fun D H3 acc hD e5 hA hp => ?_)
    · obtain ⟨ns, rfl, hln, hns⟩ := hp
      have hi' : i < 4 := by simpa using hi
      refine ⟨rfl, ?_⟩
      refine ⟨_, rfl, _, rfl, _, _, rfl, rfl, .inl ⟨by decide, by decide⟩, _, _, rfl, rfl, c, 13, rfl, e5.1, by decide, by decide, fun r H4 r0 r1 e6 => ⟨_, rfl, _, _, rfl, rfl, ?_⟩⟩
      refine cs_yes (fmV c) e1.1 hD e5 hA hlen (by omega) e6 ⟨ns ++ [r - 6], by rw [List.map_append]; rfl, by rw [List.length_append, hln]; rfl, fun n hn => ?_⟩
      rcases List.mem_append.mp hn with h | h
      · exact hns n h
      · have : n = r - 6 := by simpa using h
        omega
    · obtain ⟨ns, rfl, hln, hns⟩ := hp
      obtain ⟨A, B', C, D', rfl⟩ : ∃ A1 A2 A3 A4, ns = [A1, A2, A3, A4] := by
        have hln' : ns.length = 4 := by simpa using hln
        match ns, hln' with
        | [x, y, z, w], _ => exact ⟨x, y, z, w, rfl⟩
      have a1 := hns A (by simp)
      have a2 := hns B' (by simp)
      have a3 := hns C (by simp)
      have a4 := hns D' (by simp)
      have al : ∀ {x y z w : Int}, x.natAbs ≤ 24 → y.natAbs ≤ 24 → z.natAbs ≤ 24 → w.natAbs ≤ 24 → ∀ n ∈ [x, y, z, w], n.natAbs ≤ 24 := fun h1 h2 h3 h4 n hn => by
        simp only [List.mem_cons, List.mem_nil_iff, or_false] at hn
        rcases hn with rfl | rfl | rfl | rfl <;> assumption
      have e15 := e1.trans e5
      refine ⟨D, _, rfl, SqL.of hA, rfl, _, _, rfl, _, _, rfl, _, _, rfl, _, _, rfl, rfl, ?_⟩
      refine ⟨_, rfl, rfl, _, rfl, iteE (fun g => ?_) (fun g => ?_)⟩
      · refine ⟨_, rfl, _, rfl, _, rfl, sl4, fun t nt => ?_⟩
        exact q t 0 B' C D' _ (e15.trans (fv_new e15.1 nt)) upd_same (al (by decide) (by omega) (by omega) (by omega))
      refine ⟨_, rfl, rfl, _, rfl, iteE (fun g => ?_) (fun g => ?_)⟩
      · refine ⟨_, rfl, _, rfl, _, rfl, _, rfl, _, _, rfl, rfl, .inl ⟨by decide, by omega⟩, _, _, rfl, rfl, _, rfl, _, _, rfl, rfl, sl4, fun t nt => ?_⟩
        exact q t A B' (B' - 3 * A) (0 - A) _ (e15.trans (fv_new e15.1 nt)) upd_same (al (by omega) (by omega) (by omega) (by omega))
      refine ⟨_, rfl, rfl, _, rfl, iteE (fun g => ?_) (fun g => ?_)⟩
      · refine ⟨_, rfl, _, rfl, _, rfl, _, rfl, sl3, fun l nl => ?_⟩
        refine ⟨c, l, [.int 0, .int B', .int C], rfl, vat_new e15.1 nl, upd_same, fv_ne e15.1 nl, by simp, by show 3 ≤ 1000; decide, fun v H5 hv e6 => ?_⟩
        obtain ⟨m, rfl, hm⟩ : ∃ m : Int, v = .int m ∧ m.natAbs ≤ 6 := by
          simp only [List.mem_cons, List.mem_nil_iff, or_false] at hv
          rcases hv with rfl | rfl | rfl
          · exact ⟨_, rfl, by decide⟩
          · exact ⟨_, rfl, a2⟩
          · exact ⟨_, rfl, a3⟩
        have e16 := e15.trans ((fv_new e15.1 nl).trans e6)
        refine ⟨_, rfl, sl4, fun t nt => ?_⟩
        exact q t 0 B' m D' _ (e16.trans (fv_new e16.1 nt)) upd_same (al (by decide) (by omega) (by omega) (by omega))
      · refine ⟨_, rfl, _, rfl, _, rfl, _, rfl, sl4, fun t nt => ?_⟩
        exact q t A B' C D' _ (e15.trans (fv_new e15.1 nt)) upd_same (al (by omega) (by omega) (by omega) (by omega))
end
end TF
namespace TF
open PySem PySem.Spec PyProof.Rows L2 Fr
open K05M (fv fl2 fl3 fdisc)
open K06M
theorem Od.dp {K : PySem.W.Frag} {H : Hp} {v : V} (h : Od H v) : ∃ d, Dp K H v d ∧ SeqAt.shaped (.list [d]) = true ∧ PyData.eqv (.list [d]) (.list []) = false := by
  cases h with
  | non => exact ⟨_, .non, by decide +kernel, by decide +kernel⟩
  | tt => exact ⟨_, .bl true, by decide +kernel, by decide +kernel⟩
  | one => exact ⟨_, .str "1", by decide +kernel, by decide +kernel⟩
  | tup h => exact ⟨_, .tup (SqT.of h) (.cons (.int 1) .nil), by decide +kernel, by decide +kernel⟩
section
variable {P : Program} {w : World} {K : PySem.W.Frag} {mg : Str → Option Value} {base : Heap} {C_Form : Addr}
theorem ok_l_is_pair (T : Txt K mg C_Form) : Def P w K mg base 1 "_law_is_pair" ["_law_value"] (sp_l_is_pair K C_Form) := by
  obtain ⟨f_, fd_, g_, F_⟩ := T.d_l_is_pair
  refine ⟨f_, fd_, g_, F_.kp, F_.binds (ps := ["_law_value"]) (fun _ _ _ _ _ _ us hl => match us, hl with | [_], _ => rfl), ?_⟩
  refine F_.ok sc_l_is_pair (fun vs H Q E h => ?_) (fun cdv A outer s H vs Q E hr h => ?_)
  · first | (obtain ⟨rfl, _⟩ := h; rfl) | (obtain ⟨_, rfl, _⟩ := h; rfl) | (obtain ⟨_, _, rfl, _⟩ := h; rfl) | (obtain ⟨_, _, _, rfl, _⟩ := h; rfl) | (obtain ⟨_, _, _, _, rfl, _⟩ := h; rfl) | (obtain ⟨_, _, _, _, _, rfl, _⟩ := h; rfl) | (obtain ⟨_, _, _, _, _, _, rfl, _⟩ := h; rfl) | (obtain ⟨_, _, _, _, _, _, _, rfl, _⟩ := h; rfl) | (obtain ⟨_, _, _, _, _, _, _, _, rfl, _⟩ := h; rfl) | (obtain ⟨_, _, _, _, _, _, _, _, _, rfl, _⟩ := h; rfl) | (obtain ⟨_, _, _, _, _, _, _, _, _, _, rfl, _⟩ := h; rfl) | (obtain ⟨_, _, _, _, _, _, _, _, _, _, _, rfl, _⟩ := h; rfl) | (obtain ⟨_, _, _, _, _, _, _, _, _, _, _, _, rfl, _⟩ := h; rfl) | (obtain ⟨_, _, _, _, _, _, _, _, _, _, _, _, _, rfl, _⟩ := h; rfl) | (obtain ⟨_, _, _, _, _, _, _, _, _, _, _, _, _, _, rfl, _⟩ := h; rfl) | (obtain ⟨_, _, _, _, _, _, _, _, _, _, _, _, _, _, _, rfl, _⟩ := h; rfl) | (obtain ⟨_, _, _, _, _, _, _, _, _, _, _, _, _, _, _, _, rfl, _⟩ := h; rfl) | (obtain ⟨_, _, _, _, _, _, _, _, _, _, _, _, _, _, _, _, _, rfl, _⟩ := h; rfl) | (obtain ⟨_, _, _, _, _, _, _, _, _, _, _, _, _, _, _, _, _, _, rfl, _⟩ := h; rfl) | (obtain ⟨_, _, _, _, _, _, _, _, _, _, _, _, _, _, _, _, _, _, _, rfl, _⟩ := h; rfl) | (obtain ⟨_, _, _, _, _, _, _, _, _, _, _, _, _, _, _, _, _, _, _, _, rfl, _⟩ := h; rfl) | (obtain ⟨_, _, _, _, _, _, _, _, _, _, _, _, _, _, _, _, _, _, _, _, _, rfl, _⟩ := h; rfl) | (obtain ⟨_, _, _, _, _, _, _, _, _, _, _, _, _, _, _, _, _, _, _, _, _, _, rfl, _⟩ := h; rfl) | (obtain ⟨_, _, _, _, _, _, _, _, _, _, _, _, _, _, _, _, _, _, _, _, _, _, _, rfl, _⟩ := h; rfl)
  · obtain ⟨v, o, rfl, hv, q⟩ := h
    refine ⟨_, (pss_cons (ps_if (PW.pt (pw_or (pt_not (pt_val (pe_callB call_isi (by rfl) T.b_isinstance (by decide +kernel) (pa_cons (pv 0) (pa_cons (pe_bltn (v := .ty "tuple") (by rfl) T.b_tuple (by decide +kernel) rfl) pa_nil))))) (pw_or1 (pt_cmpR op_ne (pe_callB call_len_seq (by rfl) T.b_len PySem.boot_len (pa_cons (pv 0) pa_nil)) pe_int (nomark _)))))
      (pss_one (ps_ret pe_bl))
      pss_nil)
    (pss_one (ps_ret (pe_cmpR (op_eqD hr.units) (pe_lc (own := [("_law_entry", 1)]) (g := (gName 1)) rfl sc_l_is_pair.nd (pi_tup (pv 0)) (blkOk_by (N := N_l_is_pair) (sc := defScope s_l_is_pair) (by decide +kernel)) (fun _ _ _ _ _ => (pg_name (i := 1) sc_l_is_pair.nd rfl (.inl rfl))) (fun _ _ _ _ _ => (pts_one (PW.pt (pw_or (pt_not (pt_val (pe_callB (call_isiKK (K := K) rfl) (by rfl) T.b_isinstance (by decide +kernel) (pa_cons (pv 1) (pa_cons (pe_bltn (v := .ty "int") (by rfl) T.b_int (by decide +kernel) rfl) pa_nil))))) (pw_or1 (pt_val (pe_callB (call_isiKK (K := K) rfl) (by rfl) T.b_isinstance (by decide +kernel) (pa_cons (pv 1) (pa_cons (pe_bltn (v := .ty "bool") (by rfl) T.b_bool (by decide +kernel) rfl) pa_nil))))))))) (fun _ _ _ _ _ => (pv 1))) (pe_lst pa_nil) (nomark _))))), ?_⟩
    have cls : (∃ (a : Addr) (n : Int) (y : V) (b2 : Bool), v = .ref a ∧ H a = some (.tup [.int n, y]) ∧ El H y b2 ∧ o.isSome = b2) ∨ (∃ t, TyX K H v t ∧ PySem.W.kitOne K t (.type "tuple") = some false ∧ o.isSome = false) ∨ (∃ a, v = .ref a ∧ H a = some (.tup [.int 1]) ∧ o.isSome = false) := by
      cases hv with
      | yes h => exact .inl ⟨_, _, _, true, rfl, h, .inl ⟨_, rfl, rfl⟩, rfl⟩
      | odd h =>
        cases h with
        | non => exact .inr (.inl ⟨_, .base .non, kit_ty (by decide +kernel), rfl⟩)
        | tt => exact .inr (.inl ⟨_, .base (.bl true), kit_ty (by decide +kernel), rfl⟩)
        | one => exact .inr (.inl ⟨_, .base (.str _), kit_ty (by decide +kernel), rfl⟩)
        | tup h => exact .inr (.inr ⟨_, rfl, h, rfl⟩)
      | int n => exact .inr (.inl ⟨_, .base (.int n), kit_ty (by decide +kernel), rfl⟩)
      | lst h => exact .inr (.inl ⟨_, .base (.lst h), kit_ty (by decide +kernel), rfl⟩)
      | snd h o => exact .inl ⟨_, _, _, false, rfl, h, .inr ⟨o, rfl⟩, rfl⟩
    rcases cls with ⟨a, n, y, b2, rfl, ha, hy, ho⟩ | ⟨t, ty, kt, ho⟩ | ⟨a, rfl, ha, ho⟩
    · rw [ho] at q
      refine ⟨_, rfl, _, _, _, _, true, rfl, .ty _, .base (.tup ha), kit_ty (by decide +kernel), _, rfl, ?_⟩
      refine iteF ⟨_, rfl, a, _, rfl, .inr (SqT.of ha), rfl, _, rfl, ?_⟩
      refine ndF rfl ?_
      refine ⟨_, rfl, a, rfl, ⟨_, SqT.of ha⟩, ?_⟩
      refine lcT fm0 trivial (SqT.of ha) (fun z => z) (fun i acc _ => acc = if i ≤ 1 then [] else if b2 = true then [] else [y]) (fun _ _ => rfl) (fun D i z acc H' hD hz e hA hlen hp => ?_) (fun D H' acc hD e hA hp => ?_)
      · refine ⟨rfl, ?_⟩
        match i, hz with
        | 0, hz =>
          obtain rfl := Option.some.inj hz
          refine ⟨_, rfl, _, _, _, _, true, rfl, .ty _, .base (.int n), kit_ty (by decide +kernel), _, rfl, iteF ?_⟩
          refine ⟨_, rfl, _, _, _, _, false, rfl, .ty _, .base (.int n), kit_ty (by decide +kernel), _, rfl, iteF ?_⟩
          exact cs_no fm0 trivial hD e hA hlen (Fx.refl trivial) hp
        | 1, hz =>
          obtain rfl := Option.some.inj hz
          rcases hy with ⟨m, rfl, rfl⟩ | ⟨od, rfl⟩
          · refine ⟨_, rfl, _, _, _, _, true, rfl, .ty _, .base (.int m), kit_ty (by decide +kernel), _, rfl, iteF ?_⟩
            refine ⟨_, rfl, _, _, _, _, false, rfl, .ty _, .base (.int m), kit_ty (by decide +kernel), _, rfl, iteF ?_⟩
            exact cs_no fm0 trivial hD e hA hlen (Fx.refl trivial) hp
          · have ty : (∃ t, TyX K H' y t ∧ PySem.W.kitOne K t (.type "int") = some false) ∨ y = .bl true := by
              cases od.ex e with
              | non => exact .inl ⟨_, .base .non, kit_ty (by decide +kernel)⟩
              | tt => exact .inr rfl
              | one => exact .inl ⟨_, .base (.str _), kit_ty (by decide +kernel)⟩
              | tup h => exact .inl ⟨_, .base (.tup h), kit_ty (by decide +kernel)⟩
            rcases ty with ⟨t, ty, kt⟩ | rfl
            · refine ⟨_, rfl, _, _, _, _, false, rfl, .ty _, ty, kt, _, rfl, iteT ?_⟩
              refine ⟨_, rfl, ?_⟩
              refine cs_yes fm0 trivial hD e hA hlen (by decide) (Fx.refl trivial) ?_
              rw [hp]
              rfl
            · refine ⟨_, rfl, _, _, _, _, true, rfl, .ty _, .base (.bl true), kit_ty (by decide +kernel), _, rfl, iteF ?_⟩
              refine ⟨_, rfl, _, _, _, _, true, rfl, .ty _, .base (.bl true), kit_ty (by decide +kernel), _, rfl, iteT ?_⟩
              refine ⟨_, rfl, ?_⟩
              refine cs_yes fm0 trivial hD e hA hlen (by decide) (Fx.refl trivial) ?_
              rw [hp]
              rfl
      · have hp' : acc = if b2 = true then [] else [y] := hp
        refine ⟨Nat.zero_le _, fun u nu => ?_⟩
        have eu := Ex0.new (o := .lst []) nu
        have hA2 := Ex0.ap eu hA
        rcases hy with ⟨m, rfl, rfl⟩ | ⟨od, rfl⟩
        · rw [hp'] at hA2
          refine ⟨.list [], .list [], .lst (SqL.of hA2) .nil, .lst (SqL.of upd_same) .nil, by decide +kernel, by decide +kernel, ?_⟩
          have kk : PyData.eqv (.list []) (.list []) = true := by decide +kernel
          rw [kk]
          exact q _ (Fx.trans e eu)
        · rw [hp'] at hA2
          obtain ⟨d, h1, h2, h3⟩ := (od.ex (Fx.trans e eu)).dp (K := K)
          refine ⟨.list [d], .list [], .lst (SqL.of hA2) (.cons h1 .nil), .lst (SqL.of upd_same) .nil, h2, by decide +kernel, ?_⟩
          rw [h3]
          exact q _ (Fx.trans e eu)
    · have := q H (Ex0.refl H)
      rw [ho] at this
      exact ⟨_, rfl, _, _, _, _, false, rfl, .ty _, ty, kt, _, rfl, iteT this⟩
    · have := q H (Ex0.refl H)
      rw [ho] at this
      refine ⟨_, rfl, _, _, _, _, true, rfl, .ty _, .base (.tup ha), kit_ty (by decide +kernel), _, rfl, ?_⟩
      refine iteF ⟨_, rfl, a, _, rfl, .inr (SqT.of ha), rfl, _, rfl, ?_⟩
      exact ndT (by decide) this
theorem ok_l_is_due (T : Txt K mg C_Form) : Def P w K mg base 3 "_law_is_due" ["_law_one", "_law_other", "_law_value"] (sp_l_is_due K C_Form) := by
  obtain ⟨f_, fd_, g_, F_⟩ := T.d_l_is_due
  obtain ⟨f_l_is_pair, fd_l_is_pair, g_l_is_pair, k_l_is_pair, b_l_is_pair, G_l_is_pair⟩ := (ok_l_is_pair (P := P) (w := w) (base := base) T)
  obtain ⟨f_l_led, fd_l_led, g_l_led, k_l_led, b_l_led, G_l_led⟩ := (ok_l_led (P := P) (w := w) (base := base) T)
  refine ⟨f_, fd_, g_, F_.kp, F_.binds (ps := ["_law_one", "_law_other", "_law_value"]) (fun _ _ _ _ _ _ us hl => match us, hl with | [_, _, _], _ => rfl), ?_⟩
  refine F_.ok sc_l_is_due (fun vs H Q E h => ?_) (fun cdv A outer s H vs Q E hr h => ?_)
  · first | (obtain ⟨rfl, _⟩ := h; rfl) | (obtain ⟨_, rfl, _⟩ := h; rfl) | (obtain ⟨_, _, rfl, _⟩ := h; rfl) | (obtain ⟨_, _, _, rfl, _⟩ := h; rfl) | (obtain ⟨_, _, _, _, rfl, _⟩ := h; rfl) | (obtain ⟨_, _, _, _, _, rfl, _⟩ := h; rfl) | (obtain ⟨_, _, _, _, _, _, rfl, _⟩ := h; rfl) | (obtain ⟨_, _, _, _, _, _, _, rfl, _⟩ := h; rfl) | (obtain ⟨_, _, _, _, _, _, _, _, rfl, _⟩ := h; rfl) | (obtain ⟨_, _, _, _, _, _, _, _, _, rfl, _⟩ := h; rfl) | (obtain ⟨_, _, _, _, _, _, _, _, _, _, rfl, _⟩ := h; rfl) | (obtain ⟨_, _, _, _, _, _, _, _, _, _, _, rfl, _⟩ := h; rfl) | (obtain ⟨_, _, _, _, _, _, _, _, _, _, _, _, rfl, _⟩ := h; rfl) | (obtain ⟨_, _, _, _, _, _, _, _, _, _, _, _, _, rfl, _⟩ := h; rfl) | (obtain ⟨_, _, _, _, _, _, _, _, _, _, _, _, _, _, rfl, _⟩ := h; rfl) | (obtain ⟨_, _, _, _, _, _, _, _, _, _, _, _, _, _, _, rfl, _⟩ := h; rfl) | (obtain ⟨_, _, _, _, _, _, _, _, _, _, _, _, _, _, _, _, rfl, _⟩ := h; rfl) | (obtain ⟨_, _, _, _, _, _, _, _, _, _, _, _, _, _, _, _, _, rfl, _⟩ := h; rfl) | (obtain ⟨_, _, _, _, _, _, _, _, _, _, _, _, _, _, _, _, _, _, rfl, _⟩ := h; rfl) | (obtain ⟨_, _, _, _, _, _, _, _, _, _, _, _, _, _, _, _, _, _, _, rfl, _⟩ := h; rfl) | (obtain ⟨_, _, _, _, _, _, _, _, _, _, _, _, _, _, _, _, _, _, _, _, rfl, _⟩ := h; rfl) | (obtain ⟨_, _, _, _, _, _, _, _, _, _, _, _, _, _, _, _, _, _, _, _, _, rfl, _⟩ := h; rfl) | (obtain ⟨_, _, _, _, _, _, _, _, _, _, _, _, _, _, _, _, _, _, _, _, _, _, rfl, _⟩ := h; rfl) | (obtain ⟨_, _, _, _, _, _, _, _, _, _, _, _, _, _, _, _, _, _, _, _, _, _, _, rfl, _⟩ := h; rfl)
  · obtain ⟨t, u, v, a, b, c, d, ms, o, rfl, ht, hu, ba, bb, bc, bd, hv, hB, q⟩ := h
    refine ⟨_, (pss_cons (ps_if (PW.pt (pw_or (pt_not (pt_val (pe_callB call_isi (by rfl) T.b_isinstance (by decide +kernel) (pa_cons (pv 2) (pa_cons (pe_bltn (v := .ty "tuple") (by rfl) T.b_tuple (by decide +kernel) rfl) pa_nil))))) (pw_or (pt_cmpR op_ne (pe_callB call_len_seq (by rfl) T.b_len PySem.boot_len (pa_cons (pv 2) pa_nil)) pe_int (nomark _)) (pw_or (pt_not (pt_val (pe_call G_l_is_pair (hr.mono (by decide)) (by rfl) g_l_is_pair k_l_is_pair b_l_is_pair .nil pass0 (pa_cons (pe_ix ix_tup (pv 2) pe_int (fun _ _ => rfl)) pa_nil)))) (pw_or1 (pt_not (pt_val (pe_call G_l_is_pair (hr.mono (by decide)) (by rfl) g_l_is_pair k_l_is_pair b_l_is_pair .nil pass0 (pa_cons (pe_ix ix_tup (pv 2) pe_int (fun _ _ => rfl)) pa_nil)))))))))
      (pss_one (ps_ret pe_bl))
      pss_nil)
    (pss_cons (ps_asg (pv 2) (pg_tup (by rfl) (pgs_cons (pg_tup (by rfl) (pgs_cons (pg_name (i := 3) sc_l_is_due.nd rfl (.inl rfl)) (pgs_cons (pg_name (i := 4) sc_l_is_due.nd rfl (.inl rfl)) pgs_nil))) (pgs_cons (pg_tup (by rfl) (pgs_cons (pg_name (i := 5) sc_l_is_due.nd rfl (.inl rfl)) (pgs_cons (pg_name (i := 6) sc_l_is_due.nd rfl (.inl rfl)) pgs_nil))) pgs_nil))))
    (pss_one (ps_ret (pe_and (pe_cmpR op_in_seq (pe_op op_sub (pe_op op_mulW (pv 3) (pv 6)) (pe_op op_mulW (pv 4) (pv 5))) (pe_tup (pa_cons pe_int (pa_cons (pe_un un_neg pe_int) pa_nil))) (by with_unfolding_all rfl)) (pe_one (pe_cmpR (op_eqD hr.units) (pe_call G_l_led (hr.mono (by decide)) (by rfl) g_l_led k_l_led b_l_led .nil pass0 (pa_cons (pv 0) (pa_cons (pv 2) pa_nil))) (pv 1) (nomark _)))))))), ?_⟩
    have cls : (∃ (a : Addr) (x y : V) (o1 o2 : Option (Int × Int)), v = .ref a ∧ H a = some (.tup [x, y]) ∧ RowV H x o1 ∧ RowV H y o2 ∧ o = two o1 o2) ∨ (∃ t, TyX K H v t ∧ PySem.W.kitOne K t (.type "tuple") = some false ∧ o = none) ∨ (∃ a xs, v = .ref a ∧ H a = some (.tup xs) ∧ xs.length ≠ 2 ∧ o = none) := by
      cases hv with
      | two h h1 h2 => exact .inl ⟨_, _, _, _, _, rfl, h, h1, h2, rfl⟩
      | odd h =>
        cases h with
        | non => exact .inr (.inl ⟨_, .base .non, kit_ty (by decide +kernel), rfl⟩)
        | tt => exact .inr (.inl ⟨_, .base (.bl true), kit_ty (by decide +kernel), rfl⟩)
        | one => exact .inr (.inl ⟨_, .base (.str _), kit_ty (by decide +kernel), rfl⟩)
        | tup h => exact .inr (.inr ⟨_, _, rfl, h, by decide, rfl⟩)
      | int n => exact .inr (.inl ⟨_, .base (.int n), kit_ty (by decide +kernel), rfl⟩)
      | lst h => exact .inr (.inl ⟨_, .base (.lst h), kit_ty (by decide +kernel), rfl⟩)
      | len h l => exact .inr (.inr ⟨_, _, rfl, h, l, rfl⟩)
    rcases cls with ⟨a0, x, y, o1, o2, rfl, ha, hx, hy, rfl⟩ | ⟨t0, ty, kt, rfl⟩ | ⟨a0, xs, rfl, ha, hl, rfl⟩
    · refine ⟨_, rfl, _, _, _, _, true, rfl, .ty _, .base (.tup ha), kit_ty (by decide +kernel), _, rfl, ?_⟩
      refine iteF ⟨_, rfl, a0, _, rfl, .inr (SqT.of ha), rfl, _, rfl, ?_⟩
      refine ndF rfl ?_
      refine ⟨_, rfl, a0, _, 0, x, rfl, rfl, SqT.of ha, rfl, x, o1, rfl, hx, fun H1 e1 => ⟨_, rfl, ?_⟩⟩
      cases o1 with
      | none => exact iteT (q H1 e1)
      | some p1 =>
        refine iteF ?_
        refine ⟨_, rfl, a0, _, 1, y, rfl, rfl, SqT.of (Ex0.ap e1 ha), rfl, y, o2, rfl, hy.ex e1, fun H2 e2 => ⟨_, rfl, ?_⟩⟩
        have e12 := e1.trans e2
        cases o2 with
        | none => exact iteT (q H2 e12)
        | some p2 =>
          obtain ⟨p, q'⟩ := p1
          obtain ⟨r, s'⟩ := p2
          refine iteF ?_
          obtain ⟨bp, bq, br, bs⟩ := hB p q' r s' rfl
          have h4 : T4 H a0 p q' r s' := by
            cases hx with
            | yes h1 =>
              cases hy with
              | yes h2 => exact ⟨_, _, ha, h1, h2⟩
          refine ⟨_, rfl, un4 (Ex0.t4 e12 h4) ?_⟩
          refine ⟨_, rfl, _, rfl, _, _, rfl, rfl, mulB bp bs (by decide), _, rfl, _, rfl, _, _, rfl, rfl, mulB bq br (by decide), _, _, rfl, rfl, _, rfl, sl2, fun z nz => ?_⟩
          have ez := Ex0.new (o := .tup [.int 1, .int (-1)]) nz
          have e1z := e12.trans ez
          refine ⟨z, _, rfl, .inr (SqT.of upd_same), rfl, rfl, _, rfl, ?_⟩
          have e1 : inV (.int (p * s' - q' * r)) [.int 1, .int (-1)] = decide (p * s' - q' * r = 1 ∨ p * s' - q' * r = -1) := by
            show ((1 : Int) == p * s' - q' * r || ((-1 : Int) == p * s' - q' * r || false)) = _
            apply Bool.eq_iff_iff.mpr
            simp only [Bool.or_false, Bool.or_eq_true, beq_iff_eq, decide_eq_true_iff]
            omega
          show if inV (.int (p * s' - q' * r)) [.int 1, .int (-1)] = true then _ else _
          rw [e1]
          refine iteD (fun hd => ?_) (fun hd => ?_)
          · refine ⟨_, rfl, _, rfl, t, a0, a, b, c, d, p, q', r, s', rfl, Ex0.ti e1z ht, Ex0.t4 e1z h4, ba, bb, bc, bd, bp, bq, br, bs, fun w0 H3 e3 hw => ?_⟩
            refine ⟨_, rfl, .tuple ((fled a b c d p q' r s').map .int), .tuple (ms.map .int), .tup (SqT.of hw) (dp_ints _), .tup (SqT.of (Ex0.ti (e1z.trans e3) hu)) (dp_ints _), shaped_tints _, shaped_tints _, ?_⟩
            rw [PyData.eqv, eqv_ints]
            have this : Q (.bl (decide ((p * s' - q' * r = 1 ∨ p * s' - q' * r = -1) ∧ fled a b c d p q' r s' = ms))) H3 := q H3 (e1z.trans e3)
            rw [show decide ((p * s' - q' * r = 1 ∨ p * s' - q' * r = -1) ∧ fled a b c d p q' r s' = ms) = decide (fled a b c d p q' r s' = ms) from decide_eq_decide.mpr ⟨fun z => z.2, fun z => ⟨hd, z⟩⟩] at this
            exact this
          · have this : Q (.bl (decide ((p * s' - q' * r = 1 ∨ p * s' - q' * r = -1) ∧ fled a b c d p q' r s' = ms))) _ := q _ e1z
            rw [decide_eq_false (fun z => hd z.1)] at this
            exact this
    · exact ⟨_, rfl, _, _, _, _, false, rfl, .ty _, ty, kt, _, rfl, iteT (q H (Ex0.refl H))⟩
    · refine ⟨_, rfl, _, _, _, _, true, rfl, .ty _, .base (.tup ha), kit_ty (by decide +kernel), _, rfl, ?_⟩
      refine iteF ⟨_, rfl, a0, _, rfl, .inr (SqT.of ha), rfl, _, rfl, ?_⟩
      exact ndT (fun z => hl (by have := V.int.inj z; omega)) (q H (Ex0.refl H))
end
end TF
namespace TF
open PySem PySem.Spec PyProof.Rows L2 Fr
open K05M (fv fl2 fl3 fdisc)
open K06M
def OddV (H : Hp) (v : V) : Prop := Od H v ∨ ∃ n : Int, v = .int n ∧ B 300 n
theorem OddV.ex {H H' : Hp} {v : V} (e : Ex0 H H') (h : OddV H v) : OddV H' v := by
  rcases h with h | h
  · exact .inl (h.ex e)
  · exact .inr h
abbrev Chs (H : Hp) (v : V) : Prop := ∃ o, ChV H v o ∧ OB o
theorem Chs.ex {H H' : Hp} {v : V} (e : Ex0 H H') (h : Chs H v) : Chs H' v := by
  obtain ⟨o, h1, h2⟩ := h
  exact ⟨o, h1.ex e, h2⟩
theorem AllCh.ex {H H' : Hp} {us : List V} (e : Ex0 H H') (h : AllCh H us) : AllCh H' us := fun v hv => Chs.ex e (h v hv)
theorem AllCh.app {H : Hp} {us ws : List V} (h : AllCh H us) (g : AllCh H ws) : AllCh H (us ++ ws) := fun v hv => by
  rcases List.mem_append.mp hv with z | z
  · exact h v z
  · exact g v z
theorem ch4 {H : Hp} {a : Addr} {p q r s : Int} (h : T4 H a p q r s) (b : B 300 p ∧ B 300 q ∧ B 300 r ∧ B 300 s) : Chs H (.ref a) := by
  obtain ⟨t1, t2, h0, h1, h2⟩ := h
  refine ⟨_, .two h0 (.yes h1) (.yes h2), fun p' q' r' s' e => ?_⟩
  obtain ⟨rfl, rfl, rfl, rfl⟩ : p = p' ∧ q = q' ∧ r = r' ∧ s = s' := by simpa using Option.some.inj e
  exact b
theorem chN {H : Hp} {v : V} (h : ChV H v none) : Chs H v := ⟨none, h, fun _ _ _ _ z => by cases z⟩
theorem OddV.row {H : Hp} {v : V} (h : OddV H v) : RowV H v none := by
  rcases h with h | ⟨n, rfl, _⟩
  · exact .odd h
  · exact .int n
theorem OddV.val {H : Hp} {v : V} (h : OddV H v) : ChV H v none := by
  rcases h with h | ⟨n, rfl, _⟩
  · exact .odd h
  · exact .int n
theorem chOdd1 {H : Hp} {a t : Addr} {v : V} {r s : Int} (h : H a = some (.tup [v, .ref t])) (o : OddV H v) (ht : H t = some (.tup [.int r, .int s])) : Chs H (.ref a) := by
  refine ⟨_, .two h o.row (.yes ht), fun p' q' r' s' e => ?_⟩
  cases e
theorem chOdd2 {H : Hp} {a t1 t2 : Addr} {v : V} {p q r : Int} (h : H a = some (.tup [.ref t1, .ref t2])) (h1 : H t1 = some (.tup [.int p, .int q])) (h2 : H t2 = some (.tup [.int r, v])) (o : OddV H v) (b : B 300 p ∧ B 300 q ∧ B 300 r) : Chs H (.ref a) := by
  rcases o with o | ⟨n, rfl, bn⟩
  · exact ⟨_, .two h (.yes h1) (.snd h2 o), fun p' q' r' s' e => by cases e⟩
  · exact ch4 ⟨t1, t2, h, h1, h2⟩ ⟨b.1, b.2.1, b.2.2, bn⟩
section
variable {P : Program} {w : World} {K : PySem.W.Frag} {mg : Str → Option Value} {base : Heap} {C_Form : Addr}
theorem ok_l_near (T : Txt K mg C_Form) : Def P w K mg base 3 "_law_near" ["_law_pot_here", "_law_change_here"] (sp_l_near K C_Form) := by
  obtain ⟨f_, fd_, g_, F_⟩ := T.d_l_near
  obtain ⟨f_l_back, fd_l_back, g_l_back, k_l_back, b_l_back, G_l_back⟩ := (ok_l_back (P := P) (w := w) (base := base) T)
  obtain ⟨f_l_pick, fd_l_pick, g_l_pick, k_l_pick, b_l_pick, G_l_pick⟩ := (ok_l_pick (P := P) (w := w) (base := base) T)
  refine ⟨f_, fd_, g_, F_.kp, F_.binds (ps := ["_law_pot_here", "_law_change_here"]) (fun _ _ _ _ _ _ us hl => match us, hl with | [_, _], _ => rfl), ?_⟩
  refine F_.ok sc_l_near (fun vs H Q E h => ?_) (fun cdv A outer s H vs Q E hr h => ?_)
  · first | (obtain ⟨rfl, _⟩ := h; rfl) | (obtain ⟨_, rfl, _⟩ := h; rfl) | (obtain ⟨_, _, rfl, _⟩ := h; rfl) | (obtain ⟨_, _, _, rfl, _⟩ := h; rfl) | (obtain ⟨_, _, _, _, rfl, _⟩ := h; rfl) | (obtain ⟨_, _, _, _, _, rfl, _⟩ := h; rfl) | (obtain ⟨_, _, _, _, _, _, rfl, _⟩ := h; rfl) | (obtain ⟨_, _, _, _, _, _, _, rfl, _⟩ := h; rfl) | (obtain ⟨_, _, _, _, _, _, _, _, rfl, _⟩ := h; rfl) | (obtain ⟨_, _, _, _, _, _, _, _, _, rfl, _⟩ := h; rfl) | (obtain ⟨_, _, _, _, _, _, _, _, _, _, rfl, _⟩ := h; rfl) | (obtain ⟨_, _, _, _, _, _, _, _, _, _, _, rfl, _⟩ := h; rfl) | (obtain ⟨_, _, _, _, _, _, _, _, _, _, _, _, rfl, _⟩ := h; rfl) | (obtain ⟨_, _, _, _, _, _, _, _, _, _, _, _, _, rfl, _⟩ := h; rfl) | (obtain ⟨_, _, _, _, _, _, _, _, _, _, _, _, _, _, rfl, _⟩ := h; rfl) | (obtain ⟨_, _, _, _, _, _, _, _, _, _, _, _, _, _, _, rfl, _⟩ := h; rfl) | (obtain ⟨_, _, _, _, _, _, _, _, _, _, _, _, _, _, _, _, rfl, _⟩ := h; rfl) | (obtain ⟨_, _, _, _, _, _, _, _, _, _, _, _, _, _, _, _, _, rfl, _⟩ := h; rfl) | (obtain ⟨_, _, _, _, _, _, _, _, _, _, _, _, _, _, _, _, _, _, rfl, _⟩ := h; rfl) | (obtain ⟨_, _, _, _, _, _, _, _, _, _, _, _, _, _, _, _, _, _, _, rfl, _⟩ := h; rfl) | (obtain ⟨_, _, _, _, _, _, _, _, _, _, _, _, _, _, _, _, _, _, _, _, rfl, _⟩ := h; rfl) | (obtain ⟨_, _, _, _, _, _, _, _, _, _, _, _, _, _, _, _, _, _, _, _, _, rfl, _⟩ := h; rfl) | (obtain ⟨_, _, _, _, _, _, _, _, _, _, _, _, _, _, _, _, _, _, _, _, _, _, rfl, _⟩ := h; rfl) | (obtain ⟨_, _, _, _, _, _, _, _, _, _, _, _, _, _, _, _, _, _, _, _, _, _, _, rfl, _⟩ := h; rfl)
  · obtain ⟨c, x, p, q', r, s', rfl, hc, hx, hg, q⟩ := h
    refine ⟨_, (pss_cons (ps_asg (pv 1) (pg_tup (by rfl) (pgs_cons (pg_tup (by rfl) (pgs_cons (pg_name (i := 2) sc_l_near.nd rfl (.inl rfl)) (pgs_cons (pg_name (i := 3) sc_l_near.nd rfl (.inl rfl)) pgs_nil))) (pgs_cons (pg_tup (by rfl) (pgs_cons (pg_name (i := 4) sc_l_near.nd rfl (.inl rfl)) (pgs_cons (pg_name (i := 5) sc_l_near.nd rfl (.inl rfl)) pgs_nil))) pgs_nil))))
    (Evl.pss_cut (ps_set (i := 6) sc_l_near.nd rfl (.inl rfl) (pe_call G_l_pick (hr.mono (by decide)) (by rfl) g_l_pick k_l_pick b_l_pick .nil pass0 (pa_cons (pv 0) (pa_cons (pe_lst (pa_cons pe_non (pa_cons pe_bl (pa_cons pe_str (pa_cons (pe_op op_mulW (pe_op op_pow pe_int pe_int) (pe_op op_pow pe_int pe_int)) (pa_cons (pe_tup (pa_cons pe_int pa_nil)) (pa_cons pe_int pa_nil))))))) pa_nil))))
    (Evl.pss_cut (ps_set (i := 7) sc_l_near.nd rfl (.inl rfl) (pe_lst (pa_cons (pv 1) (pa_cons (pe_tup (pa_cons (pe_tup (pa_cons (pv 4) (pa_cons (pv 5) pa_nil))) (pa_cons (pe_tup (pa_cons (pv 2) (pa_cons (pv 3) pa_nil))) pa_nil))) (pa_cons (pe_tup (pa_cons (pe_tup (pa_cons (pv 3) (pa_cons (pv 2) pa_nil))) (pa_cons (pe_tup (pa_cons (pv 5) (pa_cons (pv 4) pa_nil))) pa_nil))) (pa_cons (pe_tup (pa_cons (pe_tup (pa_cons (pv 2) (pa_cons (pv 4) pa_nil))) (pa_cons (pe_tup (pa_cons (pv 3) (pa_cons (pv 5) pa_nil))) pa_nil))) (pa_cons (pe_call G_l_back (hr.mono (by decide)) (by rfl) g_l_back k_l_back b_l_back .nil pass0 (pa_cons (pv 1) pa_nil)) (pa_cons (pe_tup (pa_cons (pe_tup (pa_cons (pe_op op_sub pe_int (pv 2)) (pa_cons (pe_op op_sub pe_int (pv 3)) pa_nil))) (pa_cons (pe_tup (pa_cons (pe_op op_sub pe_int (pv 4)) (pa_cons (pe_op op_sub pe_int (pv 5)) pa_nil))) pa_nil))) pa_nil))))))))
    (Evl.pss_cut (ps_set (i := 7) sc_l_near.nd rfl (.inl rfl) (pe_op op_cat (pv 7) (pe_lst (pa_cons (pe_tup (pa_cons (pe_tup (pa_cons (pv 2) (pa_cons (pv 3) pa_nil))) (pa_cons (pe_tup (pa_cons (pe_op op_sub pe_int (pv 4)) (pa_cons (pe_op op_sub pe_int (pv 5)) pa_nil))) pa_nil))) (pa_cons (pe_tup (pa_cons (pe_tup (pa_cons (pe_op op_add (pv 2) pe_int) (pa_cons (pv 3) pa_nil))) (pa_cons (pe_tup (pa_cons (pv 4) (pa_cons (pv 5) pa_nil))) pa_nil))) (pa_cons (pe_tup (pa_cons (pe_tup (pa_cons (pe_op op_add (pv 2) (pv 4)) (pa_cons (pe_op op_add (pv 3) (pv 5)) pa_nil))) (pa_cons (pe_tup (pa_cons (pv 4) (pa_cons (pv 5) pa_nil))) pa_nil))) (pa_cons (pe_tup (pa_cons (pe_tup (pa_cons (pv 2) (pa_cons (pv 3) pa_nil))) (pa_cons (pe_tup (pa_cons (pv 4) (pa_cons (pv 6) pa_nil))) pa_nil))) (pa_cons (pe_tup (pa_cons (pv 6) (pa_cons (pe_tup (pa_cons (pv 4) (pa_cons (pv 5) pa_nil))) pa_nil))) pa_nil))))))))
    (pss_one (ps_ret (pe_op op_cat (pv 7) (pe_lst (pa_cons (pe_tup (pa_cons (pe_tup (pa_cons (pe_op op_mulW pe_int (pv 2)) (pa_cons (pe_op op_mulW pe_int (pv 3)) pa_nil))) (pa_cons (pe_tup (pa_cons (pv 4) (pa_cons (pv 5) pa_nil))) pa_nil))) (pa_cons (pe_lst (pa_cons (pe_tup (pa_cons (pv 2) (pa_cons (pv 3) pa_nil))) (pa_cons (pe_tup (pa_cons (pv 4) (pa_cons (pv 5) pa_nil))) pa_nil))) (pa_cons (pe_tup (pa_cons (pe_lst (pa_cons (pv 2) (pa_cons (pv 3) pa_nil))) (pa_cons (pe_tup (pa_cons (pv 4) (pa_cons (pv 5) pa_nil))) pa_nil))) (pa_cons (pe_tup (pa_cons (pv 2) (pa_cons (pv 3) (pa_cons (pv 4) (pa_cons (pv 5) pa_nil))))) (pa_cons (pe_tup (pa_cons (pe_tup (pa_cons (pv 2) (pa_cons (pv 3) pa_nil))) pa_nil)) (pa_cons pe_non (pa_cons (pe_tup pa_nil) (pa_cons (pv 6) (pa_cons (pe_tup (pa_cons (pe_tup (pa_cons pe_int (pa_cons pe_int pa_nil))) (pa_cons (pe_tup (pa_cons pe_int (pa_cons pe_int pa_nil))) pa_nil))) pa_nil))))))))))))))))), ?_⟩
    have big : B 250 ((10 : Int) ^ 60) := ⟨by decide +kernel, by decide⟩
    have big2 : B 60 ((10 : Int) ^ 9) := ⟨by decide +kernel, by decide⟩
    obtain ⟨g1, g2, g3, g4, g5⟩ := id hg
    have sm : ∀ {n : Int}, n.natAbs ≤ 1000000 → B 300 n := fun h => ⟨Nat.lt_of_le_of_lt h (by decide), by decide⟩
    have bp : B 300 p := sm (by omega)
    have bq : B 300 q' := sm (by omega)
    have br : B 300 r := sm (by omega)
    have bs : B 300 s' := sm (by omega)
    refine ⟨_, rfl, un4 hx ?_⟩
    refine ⟨fun σ H' => ∃ v : V, σ = [some (.ref c), some (.ref x), some (.int p), some (.int q'), some (.int r), some (.int s'), some v, none] ∧ Fv c H H' ∧ OddV H' v, ?_, ?_⟩
    · refine ⟨_, rfl, _, _, rfl, rfl, ⟨by decide, by decide, by decide⟩, _, _, rfl, rfl, ⟨by decide, by decide, by decide⟩, _, _, rfl, rfl, mulB big big2 (by decide), sl1, fun t1 n1 => ⟨sl6, fun l nl => ?_⟩⟩
      have f1 := fv_new (o := .tup [.int 1]) hc n1
      have f2 := fv_new (o := .lst [.non, .bl true, .str "1", .int (10 ^ 60 * 10 ^ 9), .ref t1, .int 0]) f1.1 nl
      refine ⟨c, l, [.non, .bl true, .str "1", .int (10 ^ 60 * 10 ^ 9), .ref t1, .int 0], rfl, f2.1, upd_same, fv_ne f1.1 nl, by simp, by show 6 ≤ 1000; decide, fun v H1 hv e1 => ?_⟩
      have f3 := f2.trans e1
      refine ⟨v, rfl, f1.trans f3, ?_⟩
      simp only [List.mem_cons, List.mem_nil_iff, or_false] at hv
      rcases hv with rfl | rfl | rfl | rfl | rfl | rfl
      · exact .inl .non
      · exact .inl .tt
      · exact .inl .one
      · exact .inr ⟨_, rfl, ⟨by decide +kernel, by decide⟩⟩
      · exact .inl (.tup (fv_tup f1.1 f3 upd_same))
      · exact .inr ⟨_, rfl, ⟨by decide, by decide⟩⟩
    rintro σ H1 ⟨v, rfl, f1, ov⟩
    have hx1 : T4 H1 x p q' r s' := hx.ex fun b xs z => fv_tup hc f1 z
    refine ⟨fun σ H' => ∃ (L : Addr) (us : List V), σ = [some (.ref c), some (.ref x), some (.int p), some (.int q'), some (.int r), some (.int s'), some v, some (.ref L)] ∧ Ex0 H1 H' ∧ H' L = some (.lst us) ∧ AllCh H' us ∧ us.length ≤ 100, ?_, ?_⟩
    · refine ⟨_, rfl, ?_⟩
      refine ⟨_, rfl, _, rfl, sl2, fun a1 m1 => ⟨_, rfl, _, rfl, sl2, fun a2 m2 => ⟨sl2, fun a3 m3 => ?_⟩⟩⟩
      have w1 := t4_new m1 m2 m3
      refine ⟨_, rfl, _, rfl, sl2, fun b1 k1 => ⟨_, rfl, _, rfl, sl2, fun b2 k2 => ⟨sl2, fun b3 k3 => ?_⟩⟩⟩
      have w2 := t4_new k1 k2 k3
      refine ⟨_, rfl, _, rfl, sl2, fun d1 l1 => ⟨_, rfl, _, rfl, sl2, fun d2 l2 => ⟨sl2, fun d3 l3 => ?_⟩⟩⟩
      have w3 := t4_new l1 l2 l3
      have w13 := (w1.1.trans w2.1).trans w3.1
      refine ⟨_, rfl, x, p, q', r, s', rfl, Ex0.t4 w13 hx1, bp, bq, br, bs, fun b0 H5 e5 hb0 => ?_⟩
      refine ⟨_, rfl, _, _, rfl, rfl, _, rfl, _, _, rfl, rfl, sl2, fun i1 o1 => ⟨_, rfl, _, _, rfl, rfl, _, rfl, _, _, rfl, rfl, sl2, fun i2 o2 => ⟨sl2, fun i3 o3 => ?_⟩⟩⟩
      have w5 := t4_new o1 o2 o3
      refine ⟨sl6, fun L nL => ?_⟩
      have eL := Ex0.new (o := .lst [.ref x, .ref a3, .ref b3, .ref d3, .ref b0, .ref i3]) nL
      have e5L := w5.1.trans eL
      have e4L := e5.trans e5L
      refine ⟨L, _, rfl, w13.trans e4L, upd_same, fun v hv => ?_, by show 6 ≤ 100; decide⟩
      simp only [List.mem_cons, List.mem_nil_iff, or_false] at hv
      rcases hv with rfl | rfl | rfl | rfl | rfl | rfl
      · exact ch4 (Ex0.t4 (w13.trans e4L) hx1) ⟨bp, bq, br, bs⟩
      · exact ch4 (Ex0.t4 ((w2.1.trans w3.1).trans e4L) w1.2) ⟨br, bs, bp, bq⟩
      · exact ch4 (Ex0.t4 (w3.1.trans e4L) w2.2) ⟨bq, bp, bs, br⟩
      · exact ch4 (Ex0.t4 e4L w3.2) ⟨bp, br, bq, bs⟩
      · have m1 : ∀ {n : Int}, n.natAbs ≤ 243 → ((p * s' - q' * r) * n).natAbs ≤ 243 := fun {n} hn => by
          rcases g5 with g | g <;> rw [g] <;> omega
        have m2 : ∀ {n : Int}, n.natAbs ≤ 243 → (0 - (p * s' - q' * r) * n).natAbs ≤ 243 := fun {n} hn => by
          have := m1 hn
          omega
        exact ch4 (Ex0.t4 e5L hb0) ⟨sm (Nat.le_trans (m1 g4) (by decide)), sm (Nat.le_trans (m2 g2) (by decide)), sm (Nat.le_trans (m2 g3) (by decide)), sm (Nat.le_trans (m1 g1) (by decide))⟩
      · exact ch4 (Ex0.t4 eL w5.2) ⟨sm (by omega), sm (by omega), sm (by omega), sm (by omega)⟩
    rintro σ H2 ⟨L, us, rfl, e2, hL, hall, hlen⟩
    have ov2 := ov.ex e2
    refine ⟨fun σ H' => ∃ (L : Addr) (us : List V), σ = [some (.ref c), some (.ref x), some (.int p), some (.int q'), some (.int r), some (.int s'), some v, some (.ref L)] ∧ Ex0 H2 H' ∧ H' L = some (.lst us) ∧ AllCh H' us ∧ us.length ≤ 200, ?_, ?_⟩
    · refine ⟨_, rfl, ?_⟩
      refine ⟨_, rfl, _, rfl, sl2, fun a1 m1 => ⟨_, rfl, _, _, rfl, rfl, _, rfl, _, _, rfl, rfl, sl2, fun a2 m2 => ⟨sl2, fun a3 m3 => ?_⟩⟩⟩
      have w1 := t4_new m1 m2 m3
      refine ⟨_, rfl, _, _, rfl, rfl, _, rfl, sl2, fun b1 k1 => ⟨_, rfl, _, rfl, sl2, fun b2 k2 => ⟨sl2, fun b3 k3 => ?_⟩⟩⟩
      have w2 := t4_new k1 k2 k3
      refine ⟨_, rfl, _, rfl, _, _, rfl, rfl, _, rfl, _, rfl, _, _, rfl, rfl, sl2, fun d1 l1 => ⟨_, rfl, _, rfl, sl2, fun d2 l2 => ⟨sl2, fun d3 l3 => ?_⟩⟩⟩
      have w3 := t4_new l1 l2 l3
      have w13 := (w1.1.trans w2.1).trans w3.1
      refine ⟨_, rfl, _, rfl, sl2, fun i1 o1 => ⟨_, rfl, _, rfl, sl2, fun i2 o2 => ⟨sl2, fun i3 o3 => ?_⟩⟩⟩
      have x1 := Ex0.new (o := .tup [.int p, .int q']) o1
      have x2 := Ex0.new (o := .tup [.int r, v]) o2
      have x3 := Ex0.new (o := .tup [.ref i1, .ref i2]) o3
      have x13 := (x1.trans x2).trans x3
      refine ⟨_, rfl, _, rfl, _, rfl, sl2, fun j1 y1 => ⟨sl2, fun j2 y2 => ?_⟩⟩
      have z1 := Ex0.new (o := .tup [.int r, .int s']) y1
      have z2 := Ex0.new (o := .tup [v, .ref j1]) y2
      have z12 := z1.trans z2
      refine ⟨sl5, fun L2 nL => ?_⟩
      have eL := Ex0.new (o := .lst [.ref a3, .ref b3, .ref d3, .ref i3, .ref j2]) nL
      have eA := (w13.trans x13).trans (z12.trans eL)
      refine ⟨L, L2, us, _, rfl, rfl, Ex0.ap eA hL, upd_same, Nat.le_trans (by show us.length + 5 ≤ 200; omega) (by decide : 200 ≤ sizeLine), fun M nM => ?_⟩
      have eM := Ex0.new (o := .lst (us ++ [.ref a3, .ref b3, .ref d3, .ref i3, .ref j2])) nM
      have zM := z12.trans (eL.trans eM)
      have xM := x13.trans zM
      refine ⟨M, _, rfl, eA.trans eM, upd_same, (hall.ex (eA.trans eM)).app fun u hu => ?_, by rw [List.length_append]; show us.length + 5 ≤ 200; omega⟩
      simp only [List.mem_cons, List.mem_nil_iff, or_false] at hu
      rcases hu with rfl | rfl | rfl | rfl | rfl
      · exact ch4 (Ex0.t4 ((w2.1.trans w3.1).trans xM) w1.2) ⟨bp, bq, sm (by omega), sm (by omega)⟩
      · exact ch4 (Ex0.t4 (w3.1.trans xM) w2.2) ⟨sm (by omega), bq, br, bs⟩
      · exact ch4 (Ex0.t4 xM w3.2) ⟨sm (by omega), sm (by omega), br, bs⟩
      · exact chOdd2 (Ex0.ap zM upd_same) (Ex0.ap ((x2.trans x3).trans zM) upd_same) (Ex0.ap (x3.trans zM) upd_same) (ov2.ex (eA.trans eM)) ⟨bp, bq, br⟩
      · exact chOdd1 (Ex0.ap (eL.trans eM) upd_same) (ov2.ex (eA.trans eM)) (Ex0.ap (z2.trans (eL.trans eM)) upd_same)
    clear hL hall hlen L us
    rintro σ H3 ⟨L, us, rfl, e3, hL, hall, hlen⟩
    have ov3 := ov2.ex e3
    have b2 : B 2 2 := ⟨by decide, by decide⟩
    refine ⟨_, rfl, ?_⟩
    refine ⟨_, rfl, _, _, rfl, rfl, mulB b2 bp (by decide), _, rfl, _, _, rfl, rfl, mulB b2 bq (by decide), sl2, fun a1 m1 => ⟨_, rfl, _, rfl, sl2, fun a2 m2 => ⟨sl2, fun a3 m3 => ?_⟩⟩⟩
    have w1 := t4_new m1 m2 m3
    refine ⟨_, rfl, _, rfl, sl2, fun b1 k1 => ⟨_, rfl, _, rfl, sl2, fun b2 k2 => ⟨sl2, fun b3 k3 => ?_⟩⟩⟩
    have x1 := Ex0.new (o := .tup [.int p, .int q']) k1
    have x2 := Ex0.new (o := .tup [.int r, .int s']) k2
    have x3 := Ex0.new (o := .lst [.ref b1, .ref b2]) k3
    have x13 := (x1.trans x2).trans x3
    refine ⟨_, rfl, _, rfl, sl2, fun d1 l1 => ⟨_, rfl, _, rfl, sl2, fun d2 l2 => ⟨sl2, fun d3 l3 => ?_⟩⟩⟩
    have y1 := Ex0.new (o := .lst [.int p, .int q']) l1
    have y2 := Ex0.new (o := .tup [.int r, .int s']) l2
    have y3 := Ex0.new (o := .tup [.ref d1, .ref d2]) l3
    have y13 := (y1.trans y2).trans y3
    refine ⟨_, rfl, _, rfl, _, rfl, _, rfl, sl4, fun i1 o1 => ?_⟩
    have z1 := Ex0.new (o := .tup [.int p, .int q', .int r, .int s']) o1
    refine ⟨_, rfl, _, rfl, sl2, fun i2 o2 => ⟨sl1, fun i3 o3 => ?_⟩⟩
    have z2 := Ex0.new (o := .tup [.int p, .int q']) o2
    have z3 := Ex0.new (o := .tup [.ref i2]) o3
    refine ⟨Nat.zero_le _, fun i4 o4 => ?_⟩
    have z4 := Ex0.new (o := .tup []) o4
    refine ⟨_, rfl, sl2, fun j1 u1 => ⟨sl2, fun j2 u2 => ⟨sl2, fun j3 u3 => ?_⟩⟩⟩
    have w9 := t4_new u1 u2 u3
    refine ⟨slN (by show 9 ≤ 1000000; decide), fun L2 nL => ?_⟩
    have eL := Ex0.new (o := .lst [.ref a3, .ref b3, .ref d3, .ref i1, .ref i3, .non, .ref i4, v, .ref j3]) nL
    have k9 := w9.1.trans eL
    have k4 := z4.trans k9
    have k3' := z3.trans k4
    have k2' := z2.trans k3'
    have k1' := z1.trans k2'
    have ky := y13.trans k1'
    have kx := x13.trans ky
    have eA := w1.1.trans kx
    refine ⟨L, L2, us, _, rfl, rfl, Ex0.ap eA hL, upd_same, Nat.le_trans (by show us.length + 9 ≤ 300; omega) (by decide : 300 ≤ sizeLine), fun M nM => ?_⟩
    have eM := Ex0.new (o := .lst (us ++ [.ref a3, .ref b3, .ref d3, .ref i1, .ref i3, .non, .ref i4, v, .ref j3])) nM
    refine q M _ _ (f1.trans (fv_ex f1.1 (((e2.trans e3).trans eA).trans eM))) upd_same ((hall.ex (eA.trans eM)).app fun u hu => ?_)
    simp only [List.mem_cons, List.mem_nil_iff, or_false] at hu
    rcases hu with rfl | rfl | rfl | rfl | rfl | rfl | rfl | rfl | rfl
    · exact ch4 (Ex0.t4 (kx.trans eM) w1.2) ⟨sm (by omega), sm (by omega), br, bs⟩
    · exact chN (.lst (Ex0.ap (ky.trans eM) upd_same))
    · refine ⟨_, .two (Ex0.ap (k1'.trans eM) upd_same) (.lst (Ex0.ap ((y2.trans y3).trans (k1'.trans eM)) upd_same)) (.yes (Ex0.ap (y3.trans (k1'.trans eM)) upd_same)), fun _ _ _ _ z => by cases z⟩
    · exact chN (.len (Ex0.ap (k2'.trans eM) upd_same) (by show 4 ≠ 2; decide))
    · exact chN (.len (Ex0.ap (k4.trans eM) upd_same) (by show 1 ≠ 2; decide))
    · exact chN (.odd .non)
    · exact chN (.len (Ex0.ap (k9.trans eM) upd_same) (by decide))
    · exact chN (ov3.ex (eA.trans eM)).val
    · exact ch4 (Ex0.t4 (eL.trans eM) w9.2) ⟨sm (by decide), sm (by decide), sm (by decide), sm (by decide)⟩
end
end TF
namespace TF
open PySem PySem.Spec PyProof.Rows L2 Fr
open K05M (fv fl2 fl3 fdisc)
open K06M
theorem B.plus {n : Nat} {i j : Int} (h1 : B n i) (h2 : B n j) : B (n + 1) (i + j) := ⟨by
  have a := h1.1
  have b := h2.1
  rw [Nat.pow_succ]
  omega, by omega⟩
theorem e_B {e : Int} (h : e = 1 ∨ e = -1) : B 1 e := by
  rcases h with rfl | rfl <;> exact ⟨by decide, by decide⟩
theorem fled_small {a b c d p q r s : Int} (ba : B 5 a) (bb : B 5 b) (bc : B 5 c) (bd : B 5 d) (bp : B 8 p) (bq : B 8 q) (br : B 8 r) (bs : B 8 s) (hd : p * s - q * r = 1 ∨ p * s - q * r = -1) : ∀ n ∈ fled a b c d p q r s, B 60 n := by
  have b2 : B 2 2 := ⟨by decide, by decide⟩
  have b3 : B 2 3 := ⟨by decide, by decide⟩
  have e := e_B hd
  have fvB : ∀ {x y : Int}, B 8 x → B 8 y → B 40 (fv a b c d x y) := fun hx hy => by
    unfold fv
    exact (B.plus (B.plus (B.plus (n := 32) ((B.mul (B.mul (B.mul ba hx) hx) hx).mono (by decide)) ((B.mul (B.mul (B.mul bb hx) hx) hy).mono (by decide))) ((B.mul (B.mul (B.mul bc hx) hy) hy).mono (by decide))) ((B.mul (B.mul (B.mul bd hy) hy) hy).mono (by decide))).mono (by decide)
  have m1 : B 20 (p * s + 2 * q * r) := (B.plus (n := 19) ((B.mul bp bs).mono (by decide)) ((B.mul (B.mul b2 bq) br).mono (by decide))).mono (by decide)
  have m2 : B 20 (2 * p * s + q * r) := (B.plus (n := 19) ((B.mul (B.mul b2 bp) bs).mono (by decide)) ((B.mul bq br).mono (by decide))).mono (by decide)
  have f2 : B 50 (fl2 a b c d p q r s) := by
    unfold fl2
    exact (B.plus (B.plus (B.plus (n := 40) ((B.mul (B.mul (B.mul (B.mul b3 ba) bp) bp) br).mono (by decide)) ((B.mul (B.mul bb bp) m1).mono (by decide))) ((B.mul (B.mul bc bq) m2).mono (by decide))) ((B.mul (B.mul (B.mul (B.mul b3 bd) bq) bq) bs).mono (by decide))).mono (by decide)
  have f3 : B 50 (fl3 a b c d p q r s) := by
    unfold fl3
    exact (B.plus (B.plus (B.plus (n := 40) ((B.mul (B.mul (B.mul (B.mul b3 ba) bp) br) br).mono (by decide)) ((B.mul (B.mul bb br) m2).mono (by decide))) ((B.mul (B.mul bc bs) m1).mono (by decide))) ((B.mul (B.mul (B.mul (B.mul b3 bd) bq) bs) bs).mono (by decide))).mono (by decide)
  intro n hn
  unfold fled at hn
  simp only [List.mem_cons, List.mem_nil_iff, or_false] at hn
  rcases hn with rfl | rfl | rfl | rfl
  · exact (B.mul e (fvB bp bq)).mono (by decide)
  · exact (B.mul e f2).mono (by decide)
  · exact (B.mul e f3).mono (by decide)
  · exact (B.mul e (fvB br bs)).mono (by decide)
def Fo (H : Hp) (t : Addr) (a b c d : Int) : Prop := Ti H t [a, b, c, d] ∧ ∀ n ∈ [a, b, c, d], B 60 n
theorem Fo.ex {H H' : Hp} {t : Addr} {a b c d : Int} (e : Ex0 H H') (h : Fo H t a b c d) : Fo H' t a b c d := ⟨Ex0.ti e h.1, h.2⟩
theorem Fo.dig {H : Hp} {t : Addr} {a b c d : Int} (h : Fo H t a b c d) : ∀ n ∈ [a, b, c, d], Dig n := fun n hn => by
  have h1 : n.natAbs < 1152921504606846976 := (h.2 n hn).1
  unfold Dig
  omega
theorem Fo.short {H : Hp} {t : Addr} {a b c d : Int} (h : Fo H t a b c d) : ∀ n ∈ [a, b, c, d], Short n := fun n hn => by
  have h1 : n.natAbs < 1152921504606846976 := (h.2 n hn).1
  exact ⟨by omega, by omega⟩
section
variable {P : Program} {w : World} {K : PySem.W.Frag} {mg : Str → Option Value} {base : Heap} {C_Form : Addr}
theorem ok_l_right (T : Txt K mg C_Form) : Def P w K mg base 7 "_law_right" ["_law_pot_here"] (sp_l_right K C_Form) := by
  obtain ⟨f_, fd_, g_, F_⟩ := T.d_l_right
  obtain ⟨p_Form___init__, f_Form___init__, fd_Form___init__, R_Form___init__, b_Form___init__, G_Form___init__⟩ := (ok_Form___init__ (P := P) (w := w) (base := base) T)
  obtain ⟨f_l_change, fd_l_change, g_l_change, k_l_change, b_l_change, G_l_change⟩ := (ok_l_change (P := P) (w := w) (base := base) T)
  obtain ⟨f_l_is_due, fd_l_is_due, g_l_is_due, k_l_is_due, b_l_is_due, G_l_is_due⟩ := (ok_l_is_due (P := P) (w := w) (base := base) T)
  obtain ⟨f_l_led, fd_l_led, g_l_led, k_l_led, b_l_led, G_l_led⟩ := (ok_l_led (P := P) (w := w) (base := base) T)
  obtain ⟨f_l_near, fd_l_near, g_l_near, k_l_near, b_l_near, G_l_near⟩ := (ok_l_near (P := P) (w := w) (base := base) T)
  obtain ⟨f_l_row, fd_l_row, g_l_row, k_l_row, b_l_row, G_l_row⟩ := (ok_l_row (P := P) (w := w) (base := base) T)
  obtain ⟨f_is_way, fd_is_way, g_is_way, k_is_way, b_is_way, G_is_way⟩ := (ok_is_way (P := P) (w := w) (base := base) T)
  refine ⟨f_, fd_, g_, F_.kp, F_.binds (ps := ["_law_pot_here"]) (fun _ _ _ _ _ _ us hl => match us, hl with | [_], _ => rfl), ?_⟩
  refine F_.ok sc_l_right (fun vs H Q E h => ?_) (fun cdv A outer s H vs Q E hr h => ?_)
  · first | (obtain ⟨rfl, _⟩ := h; rfl) | (obtain ⟨_, rfl, _⟩ := h; rfl) | (obtain ⟨_, _, rfl, _⟩ := h; rfl) | (obtain ⟨_, _, _, rfl, _⟩ := h; rfl) | (obtain ⟨_, _, _, _, rfl, _⟩ := h; rfl) | (obtain ⟨_, _, _, _, _, rfl, _⟩ := h; rfl) | (obtain ⟨_, _, _, _, _, _, rfl, _⟩ := h; rfl) | (obtain ⟨_, _, _, _, _, _, _, rfl, _⟩ := h; rfl) | (obtain ⟨_, _, _, _, _, _, _, _, rfl, _⟩ := h; rfl) | (obtain ⟨_, _, _, _, _, _, _, _, _, rfl, _⟩ := h; rfl) | (obtain ⟨_, _, _, _, _, _, _, _, _, _, rfl, _⟩ := h; rfl) | (obtain ⟨_, _, _, _, _, _, _, _, _, _, _, rfl, _⟩ := h; rfl) | (obtain ⟨_, _, _, _, _, _, _, _, _, _, _, _, rfl, _⟩ := h; rfl) | (obtain ⟨_, _, _, _, _, _, _, _, _, _, _, _, _, rfl, _⟩ := h; rfl) | (obtain ⟨_, _, _, _, _, _, _, _, _, _, _, _, _, _, rfl, _⟩ := h; rfl) | (obtain ⟨_, _, _, _, _, _, _, _, _, _, _, _, _, _, _, rfl, _⟩ := h; rfl) | (obtain ⟨_, _, _, _, _, _, _, _, _, _, _, _, _, _, _, _, rfl, _⟩ := h; rfl) | (obtain ⟨_, _, _, _, _, _, _, _, _, _, _, _, _, _, _, _, _, rfl, _⟩ := h; rfl) | (obtain ⟨_, _, _, _, _, _, _, _, _, _, _, _, _, _, _, _, _, _, rfl, _⟩ := h; rfl) | (obtain ⟨_, _, _, _, _, _, _, _, _, _, _, _, _, _, _, _, _, _, _, rfl, _⟩ := h; rfl) | (obtain ⟨_, _, _, _, _, _, _, _, _, _, _, _, _, _, _, _, _, _, _, _, rfl, _⟩ := h; rfl) | (obtain ⟨_, _, _, _, _, _, _, _, _, _, _, _, _, _, _, _, _, _, _, _, _, rfl, _⟩ := h; rfl) | (obtain ⟨_, _, _, _, _, _, _, _, _, _, _, _, _, _, _, _, _, _, _, _, _, _, rfl, _⟩ := h; rfl) | (obtain ⟨_, _, _, _, _, _, _, _, _, _, _, _, _, _, _, _, _, _, _, _, _, _, _, rfl, _⟩ := h; rfl)
  · obtain ⟨c, rfl, hc, q⟩ := h
    refine ⟨_, (Evl.pss_cut (ps_par (i := 1) (j := 2) (by rfl) sc_l_right.nd rfl rfl (by decide) rfl rfl (pa_cons (pe_call G_l_row (hr.mono (by decide)) (by rfl) g_l_row k_l_row b_l_row .nil pass0 (pa_cons (pv 0) (pa_cons pe_int pa_nil))) (pa_cons (pe_call G_l_change (hr.mono (by decide)) (by rfl) g_l_change k_l_change b_l_change .nil pass0 (pa_cons (pv 0) (pa_cons pe_int pa_nil))) pa_nil)) (by rfl))
    (Evl.pss_cut (ps_set (i := 3) sc_l_right.nd rfl (.inl rfl) (pe_call G_l_led (hr.mono (by decide)) (by rfl) g_l_led k_l_led b_l_led .nil pass0 (pa_cons (pv 1) (pa_cons (pv 2) pa_nil))))
    (pss_cons (ps_for PassesOwn.never rfl (pi_list (pe_call G_l_near (hr.mono (by decide)) (by rfl) g_l_near k_l_near b_l_near .nil pass0 (pa_cons (pv 0) (pa_cons (pv 2) pa_nil)))) (pg_name (i := 4) sc_l_right.nd rfl (.inl rfl))
      (pss_one (ps_for PassesOwn.never rfl (pi_tup (pe_tup (pa_cons (pe_tup (pa_cons (pv 1) (pa_cons (pv 3) pa_nil))) (pa_cons (pe_tup (pa_cons (pv 1) (pa_cons (pv 1) pa_nil))) (pa_cons (pe_tup (pa_cons (pv 3) (pa_cons (pv 1) pa_nil))) pa_nil))))) (pg_tup (by rfl) (pgs_cons (pg_name (i := 5) sc_l_right.nd rfl (.inl rfl)) (pgs_cons (pg_name (i := 6) sc_l_right.nd rfl (.inl rfl)) pgs_nil)))
      (pss_one (ps_if (pt_cmpR op_ne (pe_call G_is_way (hr.mono (by decide)) (by rfl) g_is_way k_is_way b_is_way .nil pass0 (pa_cons (pe_make R_Form___init__ G_Form___init__ (hr.mono (by decide)) (by rfl) T.g_Form b_Form___init__ .nil pass0 (pa_cons (pv 5) pa_nil)) (pa_cons (pe_make R_Form___init__ G_Form___init__ (hr.mono (by decide)) (by rfl) T.g_Form b_Form___init__ .nil pass0 (pa_cons (pv 6) pa_nil)) (pa_cons (pv 4) pa_nil)))) (pe_call G_l_is_due (hr.mono (by decide)) (by rfl) g_l_is_due k_l_is_due b_l_is_due .nil pass0 (pa_cons (pv 5) (pa_cons (pv 6) (pa_cons (pv 4) pa_nil)))) (nomark _))
      (pss_one (ps_ret pe_bl))
      pss_nil)))))
    (pss_one (ps_ret (pe_call G_is_way (hr.mono (by decide)) (by rfl) g_is_way k_is_way b_is_way .nil pass0 (pa_cons (pe_make R_Form___init__ G_Form___init__ (hr.mono (by decide)) (by rfl) T.g_Form b_Form___init__ .nil pass0 (pa_cons (pv 1) pa_nil)) (pa_cons (pe_make R_Form___init__ G_Form___init__ (hr.mono (by decide)) (by rfl) T.g_Form b_Form___init__ .nil pass0 (pa_cons (pv 3) pa_nil)) (pa_cons (pv 2) pa_nil))))))))), ?_⟩
    refine ⟨fun σ H' => ∃ (t x : Addr) (a b e d p q' r s' : Int), σ = [some (.ref c), some (.ref t), some (.ref x), none, none, none, none] ∧ Fv c H H' ∧ Ti H' t [a, b, e, d] ∧ T4 H' x p q' r s' ∧ (∀ n ∈ [a, b, e, d], n.natAbs ≤ 24) ∧ Gc p q' r s' 243, ?_, ?_⟩
    · refine ⟨_, rfl, c, rfl, hc, fun t a b e d H1 e1 ht hs => ?_⟩
      refine ⟨_, rfl, c, rfl, e1.1, fun x p q' r s' H2 e2 hx hg => ?_⟩
      exact ⟨_, _, rfl, t, x, a, b, e, d, p, q', r, s', rfl, e1.trans e2, fv_tup e1.1 e2 ht, hx, hs, hg⟩
    rintro σ H1 ⟨t, x, a, b, e, d, p, q', r, s', rfl, f1, ht, hx, hs, hg⟩
    obtain ⟨g1, g2, g3, g4, g5⟩ := id hg
    have b5 : ∀ n ∈ [a, b, e, d], B 5 n := fun n hn => ⟨Nat.lt_of_le_of_lt (hs n hn) (by decide), by decide⟩
    have b8 : ∀ {n : Int}, n.natAbs ≤ 243 → B 8 n := fun h => ⟨Nat.lt_of_le_of_lt h (by decide), by decide⟩
    have fs := fled_small (b5 a (by simp)) (b5 b (by simp)) (b5 e (by simp)) (b5 d (by simp)) (b8 g1) (b8 g2) (b8 g3) (b8 g4) g5
    have ho : Fo H1 t a b e d := ⟨ht, fun n hn => (b5 n hn).mono (by decide)⟩
    obtain ⟨bp, bq, br, bs⟩ := hg.b (by decide)
    refine ⟨fun σ H' => ∃ t2 : Addr, σ = [some (.ref c), some (.ref t), some (.ref x), some (.ref t2), none, none, none] ∧ Ex0 H1 H' ∧ Ti H' t2 (fled a b e d p q' r s'), ?_, ?_⟩
    · refine ⟨_, rfl, _, rfl, t, x, a, b, e, d, p, q', r, s', rfl, ht, hx, (b5 a (by simp)).mono (by decide), (b5 b (by simp)).mono (by decide), (b5 e (by simp)).mono (by decide), (b5 d (by simp)).mono (by decide), bp, bq, br, bs, fun t2 H2 e2 h2 => ?_⟩
      exact ⟨t2, rfl, e2, h2⟩
    rintro σ H2 ⟨t2, rfl, e2, ht2⟩
    have ho2 := ho.ex e2
    obtain ⟨o0, o1, o2, o3, ho3⟩ : ∃ o0 o1 o2 o3, fled a b e d p q' r s' = [o0, o1, o2, o3] := ⟨_, _, _, _, rfl⟩
    have hf2 : Fo H2 t2 o0 o1 o2 o3 := ⟨ho3 ▸ ht2, ho3 ▸ fs⟩
    have f2 : Fv c H H2 := f1.trans (fv_ex f1.1 e2)
    refine ⟨_, rfl, _, rfl, c, x, p, q', r, s', rfl, f2.1, Ex0.t4 e2 hx, hg, fun L us H3 f3 hL hall => ?_⟩
    have ho4 : Fo H3 t a b e d := ⟨fv_tup f2.1 f3 ho2.1, ho2.2⟩
    have hf4 : Fo H3 t2 o0 o1 o2 o3 := ⟨fv_tup f2.1 f3 hf2.1, hf2.2⟩
    have hx4 : T4 H3 x p q' r s' := (Ex0.t4 e2 hx).ex fun b xs z => fv_tup f2.1 f3 z
    refine ⟨L, rfl, ⟨_, SqL.of hL⟩, ?_⟩
    refine for_list (fun i σ H' => ∃ y4 y5 y6, σ = [some (.ref c), some (.ref t), some (.ref x), some (.ref t2), y4, y5, y6] ∧ Ex0 H3 H') ⟨none, none, none, rfl, Ex0.refl _⟩ (fun i σ H' _ ⟨_, _, _, _, e⟩ => SqL.of (Ex0.ap e hL)) ?_ ?_
    · rintro i v σ H4 hv ⟨y4, y5, y6, rfl, e4⟩
      obtain ⟨o, hch, hB⟩ := hall v (List.mem_of_getElem? hv)
      have hch4 := hch.ex e4
      have ho5 := ho4.ex e4
      have hf5 := hf4.ex e4
      refine ⟨_, rfl, _, rfl, sl2, fun u1 n1 => ⟨_, rfl, _, rfl, sl2, fun u2 n2 => ⟨_, rfl, _, rfl, sl2, fun u3 n3 => ⟨sl3, fun T0 nT => ?_⟩⟩⟩⟩
      have w1 := Ex0.new (o := .tup [.ref t, .ref t2]) n1
      have w2 := Ex0.new (o := .tup [.ref t, .ref t]) n2
      have w3 := Ex0.new (o := .tup [.ref t2, .ref t]) n3
      have w4 := Ex0.new (o := .tup [.ref u1, .ref u2, .ref u3]) nT
      have w34 := w3.trans w4
      have w24 := w2.trans w34
      have w14 := w1.trans w24
      have r1 := Ex0.ap w24 (show upd H4 u1 (.tup [.ref t, .ref t2]) u1 = some _ from upd_same)
      have r2 := Ex0.ap w34 (show upd (upd H4 u1 (.tup [.ref t, .ref t2])) u2 (.tup [.ref t, .ref t]) u2 = some _ from upd_same)
      have r3 := Ex0.ap w4 (show upd (upd (upd H4 u1 (.tup [.ref t, .ref t2])) u2 (.tup [.ref t, .ref t])) u3 (.tup [.ref t2, .ref t]) u3 = some _ from upd_same)
      refine ⟨T0, rfl, ⟨_, SqT.of upd_same⟩, for_tup (xs := [.ref u1, .ref u2, .ref u3]) (fun i σ H' => ∃ y5 y6, σ = [some (.ref c), some (.ref t), some (.ref x), some (.ref t2), some v, y5, y6] ∧ Ex0 _ H') ⟨y5, y6, rfl, Ex0.refl _⟩ (fun i σ H' _ ⟨_, _, _, e⟩ => SqT.of (Ex0.ap e upd_same)) ?_ ?_⟩
      · rintro j z σ H5 hz ⟨z5, z6, rfl, e5⟩
        have e45 := w14.trans e5
        obtain ⟨u, k1, k2, a1, b1, c1, d1, a2, b2, c2, d2, rfl, hu, m1, m2⟩ : ∃ (u k1 k2 : Addr) (a1 b1 c1 d1 a2 b2 c2 d2 : Int), z = .ref u ∧ H5 u = some (.tup [.ref k1, .ref k2]) ∧ Fo H5 k1 a1 b1 c1 d1 ∧ Fo H5 k2 a2 b2 c2 d2 := by
          match j, hz with
          | 0, hz => exact ⟨u1, t, t2, _, _, _, _, _, _, _, _, (Option.some.inj hz).symm, Ex0.ap e5 r1, ho5.ex e45, hf5.ex e45⟩
          | 1, hz => exact ⟨u2, t, t, _, _, _, _, _, _, _, _, (Option.some.inj hz).symm, Ex0.ap e5 r2, ho5.ex e45, ho5.ex e45⟩
          | 2, hz => exact ⟨u3, t2, t, _, _, _, _, _, _, _, _, (Option.some.inj hz).symm, Ex0.ap e5 r3, hf5.ex e45, ho5.ex e45⟩
        have hch5 := hch4.ex e45
        refine ⟨u, _, rfl, SqT.of hu, rfl, _, _, rfl, _, _, rfl, rfl, ?_⟩
        refine ⟨_, rfl, fun y dy ny ndy _ => ?_⟩
        refine ⟨y, dy, k1, _, rfl, upd_same, made_at ny ndy m1.1, rfl, m1.short, fun Hb eb hb' => ⟨rfl, ?_⟩⟩
        obtain ⟨eb', hy⟩ := fo_made ny ndy m1.1 eb hb'
        have m2b := m2.ex eb'
        refine ⟨_, rfl, fun y2 dy2 ny2 ndy2 _ => ?_⟩
        refine ⟨y2, dy2, k2, _, rfl, upd_same, made_at ny2 ndy2 m2b.1, rfl, m2.short, fun Hc ec hc' => ⟨rfl, ?_⟩⟩
        obtain ⟨ec', hy2⟩ := fo_made ny2 ndy2 m2b.1 ec hc'
        have ebc := eb'.trans ec'
        refine ⟨_, rfl, y, y2, v, a1, b1, c1, d1, _, o, rfl, Ex0.fo ec' hy, hy2, by show 4 ≤ 1000; decide, m1.dig, m2.dig, hch5.ex ebc, hB, fun Hd ed => ?_⟩
        have ebd := ebc.trans ed
        refine ⟨_, rfl, _, rfl, _, rfl, k1, k2, v, a1, b1, c1, d1, _, o, rfl, Ex0.ti ebd m1.1, Ex0.ti ebd m2.1, (m1.2 _ (by simp)).mono (by decide), (m1.2 _ (by simp)).mono (by decide), (m1.2 _ (by simp)).mono (by decide), (m1.2 _ (by simp)).mono (by decide), hch5.ex ebd, hB, fun He ee => ?_⟩
        refine ⟨rfl, _, rfl, ndF rfl ?_⟩
        exact ⟨_, _, rfl, e5.trans (ebd.trans ee)⟩
      · rintro σ H5 ⟨z5, z6, rfl, e5⟩
        exact ⟨_, _, _, rfl, e4.trans (w14.trans e5)⟩
    · rintro σ H4 ⟨y4, y5, y6, rfl, e4⟩
      have ho5 := ho4.ex e4
      have hf5 := hf4.ex e4
      obtain ⟨x1, x2, hx0, hx1, hx2⟩ := Ex0.t4 e4 hx4
      refine ⟨_, rfl, fun y dy ny ndy _ => ?_⟩
      refine ⟨y, dy, t, _, rfl, upd_same, made_at ny ndy ho5.1, rfl, ho5.short, fun Hb eb hb' => ⟨rfl, ?_⟩⟩
      obtain ⟨eb', hy⟩ := fo_made ny ndy ho5.1 eb hb'
      have m2b := hf5.ex eb'
      refine ⟨_, rfl, fun y2 dy2 ny2 ndy2 _ => ?_⟩
      refine ⟨y2, dy2, t2, _, rfl, upd_same, made_at ny2 ndy2 m2b.1, rfl, hf5.short, fun Hc ec hc' => ⟨rfl, ?_⟩⟩
      obtain ⟨ec', hy2⟩ := fo_made ny2 ndy2 m2b.1 ec hc'
      have ebc := eb'.trans ec'
      have hv : ChV Hc (.ref x) (some (p, q', r, s')) := .two (o1 := some (p, q')) (o2 := some (r, s')) (Ex0.ap ebc hx0) (.yes (Ex0.ap ebc hx1)) (.yes (Ex0.ap ebc hx2))
      refine ⟨_, rfl, y, y2, .ref x, a, b, e, d, _, _, rfl, Ex0.fo ec' hy, hy2, by show 4 ≤ 1000; decide, ho5.dig, hf5.dig, hv, fun p1 q1 r1 s1 h => ?_, fun Hd ed => ?_⟩
      · obtain ⟨rfl, rfl, rfl, rfl⟩ : p = p1 ∧ q' = q1 ∧ r = r1 ∧ s' = s1 := by simpa using Option.some.inj h
        exact ⟨bp, bq, br, bs⟩
      · have lt : leadsTo (some (p, q', r, s')) a b e d [o0, o1, o2, o3] = true := decide_eq_true ⟨g5, ho3⟩
        rw [lt]
        have f4 := f2.trans f3
        exact q _ (f4.trans (fv_ex f4.1 (e4.trans (ebc.trans ed))))
end
end TF
set_option Elab.async false
set_option linter.all false
set_option maxRecDepth 100000
namespace Hd
open PySem PySem.Spec PyProof.Rows L2 Fr
open He (ga ma eqO eqO_ok ba)
def pa (K : PySem.W.Frag) (C : Addr) (m : Str) : Addr := match PySem.W.recIn K (ma K C m) "property" with
  | some (.ref g :: _) => g
  | _ => 0
def itA (K : PySem.W.Frag) (a : Addr) (i : Nat) : Addr := match K.lookup a with
  | some ⟨_, _, .seq its _, _⟩ => (match its[i]? with
    | some (.ref b) => b
    | _ => 0)
  | _ => 0
structure Dd where
  at_ : PySem.W.Frag → Addr
  name : Str
  qual : Str
  st : Stmt
  dfl : List V := []
def fnA (K : PySem.W.Frag) (a : Addr) : He.FnW := match K.lookup a with
  | some ⟨_, _, .func fd, _⟩ => some (fd.name, fd.qualname, fd.params, fd.body, fd.scope, fd.globals, fd.closure, fd.builtins)
  | _ => none
def Dd.val (d : Dd) : He.FnW := some (d.name, d.qual, defArgs d.st, .stmts (defBody d.st), defScope d.st, mainGlobals, [], builtinsNs)
def Dd.ok (K : PySem.W.Frag) (d : Dd) : Bool := PySem.W.keepIn K (.ref (d.at_ K)) && (match K.lookup (d.at_ K) with
  | some ⟨_, _, .func fd, _⟩ => PySem.W.codeIn K fd.code d.qual && He.dflB K fd.defaults d.dfl
  | _ => false)
theorem Dd.funD {K : PySem.W.Frag} {d : Dd} (e : fnA K (d.at_ K) = d.val) (c : d.ok K = true) : ∃ fd, FunD K d.name d.qual (defArgs d.st) (defBody d.st) (defScope d.st) d.dfl [] (d.at_ K) fd := by
  obtain ⟨kp, c2⟩ := ba c
  unfold fnA at e
  cases hk : K.lookup (d.at_ K) with
  | none => rw [hk] at c2; cases c2
  | some o =>
    obtain ⟨oc, od, dt, osl⟩ := o
    rw [hk] at c2 e
    cases dt with
    | func fd =>
      obtain ⟨n1, n2, n3, n4, n5, n6, n7, n8, n9, n10, n11, n12, n13, n14, n15⟩ := fd
      have e0 : (some (n1, n2, n3, n4, n5, n6, n7, n15) : He.FnW) = some (d.name, d.qual, defArgs d.st, .stmts (defBody d.st), defScope d.st, mainGlobals, [], builtinsNs) := e
      simp only [Option.some.injEq, Prod.mk.injEq] at e0
      obtain ⟨h1, h2, h3, h4, h5, h6, h7, h8⟩ := e0
      subst h1 h2 h3 h4 h5 h6 h7 h8
      obtain ⟨k1, k2⟩ := ba (show (PySem.W.codeIn K n13 d.qual && He.dflB K n8 d.dfl) = true from c2)
      exact ⟨_, ⟨oc, od, n8, n9, n10, n11, n12, n13, n14, osl, rfl, hk, k1, He.dflB_ok k2, .inl rfl⟩, kp⟩
    | _ => cases c2
theorem fun_of {K : PySem.W.Frag} {x q : Str} {st : Stmt} {f : Addr} {fd : FuncData} (F : FunD K x q (defArgs st) (defBody st) (defScope st) [] [] f fd) : Fun K x q st f fd := by
  obtain ⟨⟨oc, od, dV, kV, doc, pm, an, cdv, ct, osl, e1, e2, e3, e4, e5⟩, kp⟩ := F
  rcases e4 with ⟨_, rfl⟩ | ⟨h, _⟩
  · exact ⟨⟨oc, od, kV, doc, pm, an, cdv, ct, osl, e1, e2, e3⟩, kp⟩
  · exact absurd rfl h
def refsP (o : Obj) : List Addr := match o.data with
  | .seq its _ => its.toList.flatMap He.refV
  | .dict es _ => es.toList.flatMap fun e => He.refV e.val
  | .func fd => He.refV fd.code ++ He.refV fd.defaults
  | .cls cd => [cd.ns]
  | .fields vs => (match o.cls with
    | .type c => (match c == "property" with
      | true => vs.toList.flatMap He.refV
      | false => [])
    | _ => [])
  | _ => []
def nxt (g : Addr → Option Obj) (as : List Addr) : List Addr := as.flatMap fun a => match g a with
  | some o => refsP o
  | none => []
def asM (g : Addr → Option Obj) : Nat → List Addr → List Addr
  | 0, as => as
  | n + 1, as => as ++ asM g n (nxt g as)
abbrev Fb : Type := PySem.W.Frag → Bool
abbrev AlM : Type := Bool × List He.FnW
def obsM (fa : List Fb) (fn : List Dd) (K : PySem.W.Frag) : AlM := ((fa.all fun f => f K) && fn.all fun d => d.ok K, fn.map fun d => fnA K (d.at_ K))
def valM (fn : List Dd) : AlM := (true, fn.map Dd.val)
def SaysM (fa : List Fb) (fn : List Dd) (K : PySem.W.Frag) : Prop := obsM fa fn K = valM fn
def obsMG (n : Nat) (fa : List Fb) (fn : List Dd) (g : Addr → Option Obj) : AlM := obsM fa fn (He.frG g (asM g n [mainGlobals]))
def hookM (n : Nat) (fa : List Fb) (fn : List Dd) : PySem.W.Hook where
  α := AlM
  obs := fun s => obsMG n fa fn s.heap.get?
  val := fun _ => valM fn
  says := fun _ h => ∃ K : PySem.W.Frag, K.In h ∧ SaysM fa fn K
  of := fun _ _ e => ⟨_, He.frG_in, e⟩
  keeps := fun _ _ _ ⟨K, hK, c⟩ k => ⟨K, PySem.W.Frag.In.keeps hK k, c⟩
theorem obsMG_eq {n : Nat} {fa : List Fb} {fn : List Dd} {g : Addr → Option Obj} {s : Shared} (h : ∀ a, g a = s.heap.get? a) : obsMG n fa fn g = (hookM n fa fn).obs s := by
  have e : g = s.heap.get? := funext h
  rw [e] <;> rfl
section
variable {fa : List Fb} {fn : List Dd} {K : PySem.W.Frag}
theorem SaysM.fact (c : SaysM fa fn K) (i : Nat) {f : Fb} (h : fa[i]? = some f := by rfl) : f K = true := by
  have c1 : ((fa.all fun f => f K) && fn.all fun d => d.ok K) = true := congrArg (fun z : AlM => z.1) c
  exact List.all_eq_true.mp (ba c1).1 f (List.mem_of_getElem? h)
theorem SaysM.def_ (c : SaysM fa fn K) (i : Nat) {d : Dd} (h : fn[i]? = some d := by rfl) : ∃ fd, FunD K d.name d.qual (defArgs d.st) (defBody d.st) (defScope d.st) d.dfl [] (d.at_ K) fd := by
  have c1 : ((fa.all fun f => f K) && fn.all fun d => d.ok K) = true := congrArg (fun z : AlM => z.1) c
  have c2 : fn.map (fun d => fnA K (d.at_ K)) = fn.map Dd.val := congrArg (fun z : AlM => z.2) c
  have c3 : (fn.map fun d => fnA K (d.at_ K))[i]? = (fn.map Dd.val)[i]? := by rw [c2]
  rw [List.getElem?_map, List.getElem?_map, h] at c3
  exact Dd.funD (Option.some.inj c3) (List.all_eq_true.mp (ba c1).2 d (List.mem_of_getElem? h))
end
def decO (a b : Option Bool) : Bool := decide (a = b)
theorem decO_ok {a b : Option Bool} (h : decO a b = true) : a = b := of_decide_eq_true h
def bltB (x : Str) (id : String) : Fb := fun K => eqO (PySem.W.nsIn K mainGlobals x) (some (some (.builtin id)))
theorem blt_ok {K : PySem.W.Frag} {h : Heap} {mg : Str → Option Value} (X : K.In h) (G : h.Ns mainGlobals mg) {x : Str} {id : String} (c : bltB x id K = true) : mg x = some (.builtin id) := PySem.W.mg_of X G (eqO_ok c)
def tyB (C : Str) : Fb := fun K => eqO (PySem.W.findIn K (.ref (ga K C)) "__class__") (some (some (.builtin "object.__class__"))) && (eqO (PySem.W.specialIn K (.builtin "object.__class__") "__get__") (some (some (.builtin "getset_descriptor.__get__"))) && (decO (PySem.W.takesIn K (.builtin "object.__class__")) (some true) && decO (PySem.W.mroIn K (ga K C) (.type "object")) (some true)))
theorem ty_ok {K : PySem.W.Frag} {C : Str} (c : tyB C K = true) : TyI K (ga K C) := by
  obtain ⟨c1, c⟩ := ba c
  obtain ⟨c2, c⟩ := ba c
  obtain ⟨c3, c4⟩ := ba c
  exact ⟨eqO_ok c1, eqO_ok c2, decO_ok c3, decO_ok c4⟩
def propB (C m : Str) : Fb := fun K => eqO (PySem.W.findIn K (.ref (ga K C)) m) (some (some (.ref (ma K (ga K C) m)))) && (eqO (PySem.W.specialIn K (.ref (ma K (ga K C) m)) "__get__") (some (some (.builtin "property.__get__"))) && (decO (PySem.W.takesIn K (.ref (ma K (ga K C) m))) (some true) && (match PySem.W.recIn K (ma K (ga K C) m) "property" with
  | some (.ref _ :: _) => true
  | _ => false)))
theorem prop_ok {K : PySem.W.Frag} {C m : Str} (c : propB C m K = true) : PropOf K (ga K C) m (ma K (ga K C) m) (pa K (ga K C) m) := by
  obtain ⟨c1, c⟩ := ba c
  obtain ⟨c2, c⟩ := ba c
  obtain ⟨c3, c4⟩ := ba c
  refine ⟨eqO_ok c1, eqO_ok c2, decO_ok c3, ?_⟩
  unfold pa
  cases hr : PySem.W.recIn K (ma K (ga K C) m) "property" with
  | none => rw [hr] at c4; cases c4
  | some l =>
    rw [hr] at c4
    cases l with
    | nil => cases c4
    | cons v rest =>
      cases v with
      | ref g => exact ⟨rest, rfl⟩
      | _ => cases c4
def eqB (C : Str) : Fb := fun K => eqO (PySem.W.findIn K (.ref (ga K C)) "__eq__") (some (some (.ref (ma K (ga K C) "__eq__")))) && (PySem.W.isFn K (.ref (ma K (ga K C) "__eq__")) && (eqO (PySem.W.findIn K (.ref (ga K C)) "__ne__") (some (some (.builtin "object.__ne__"))) && decO (PySem.W.mroIn K (ga K C) (.type "object")) (some true)))
theorem eq_ok {K : PySem.W.Frag} {C : Str} (c : eqB C K = true) : EqC K (ga K C) (ma K (ga K C) "__eq__") := by
  obtain ⟨c1, c⟩ := ba c
  obtain ⟨c2, c⟩ := ba c
  obtain ⟨c3, c4⟩ := ba c
  exact ⟨eqO_ok c1, c2, eqO_ok c3, decO_ok c4⟩
def callB (C : Str) : Fb := fun K => eqO (PySem.W.findIn K (.ref (ga K C)) "__call__") (some (some (.ref (ma K (ga K C) "__call__")))) && (PySem.W.isFn K (.ref (ma K (ga K C) "__call__")) && PySem.W.fnIn K (ma K (ga K C) "__call__"))
theorem call_ok {K : PySem.W.Frag} {C : Str} (c : callB C K = true) : StX.CallO K (ga K C) (ma K (ga K C) "__call__") := by
  obtain ⟨c1, c⟩ := ba c
  obtain ⟨c2, c3⟩ := ba c
  exact ⟨eqO_ok c1, c2, c3⟩
def binB (C m : Str) : Fb := fun K => eqO (PySem.W.findIn K (.ref (ga K C)) m) (some (some (.ref (ma K (ga K C) m)))) && (PySem.W.isFn K (.ref (ma K (ga K C) m)) && PySem.W.selfFirst K (ga K C))
theorem bin_ok {K : PySem.W.Frag} {C m : Str} (c : binB C m K = true) : PySem.W.findIn K (.ref (ga K C)) m = some (some (.ref (ma K (ga K C) m))) ∧ PySem.W.isFn K (.ref (ma K (ga K C) m)) = true ∧ PySem.W.selfFirst K (ga K C) = true := by
  obtain ⟨c1, c⟩ := ba c
  obtain ⟨c2, c3⟩ := ba c
  exact ⟨eqO_ok c1, c2, c3⟩
def intsB (a : PySem.W.Frag → Addr) (ns : List Int) : Fb := fun K => match K.lookup (a K) with
  | some ⟨.type c, _, .seq its _, _⟩ => decide (c = "tuple") && (decide (its.size ≤ sizeLine) && He.relAll (ns.map V.int) its.toList)
  | _ => false
theorem ints_ok {K : PySem.W.Frag} {a : PySem.W.Frag → Addr} {ns : List Int} (c : intsB a ns K = true) (H : Hp) : SqT K H (a K) (ns.map V.int) := by
  unfold intsB at c
  cases hk : K.lookup (a K) with
  | none => rw [hk] at c; cases c
  | some o =>
    obtain ⟨oc, od, dt, sl⟩ := o
    rw [hk] at c
    cases oc with
    | type t =>
      cases dt with
      | seq its m =>
        obtain ⟨c1, c⟩ := ba c
        obtain ⟨c2, c3⟩ := ba c
        exact .inr ⟨_, its, m, hk, congrArg Value.type (of_decide_eq_true c1), rfl, of_decide_eq_true c2, He.relAll_ok c3⟩
      | _ => cases c
    | _ => cases dt <;> cases c
def refsB (a : PySem.W.Frag → Addr) (n : Nat) : Fb := fun K => match K.lookup (a K) with
  | some ⟨.type c, _, .seq its _, _⟩ => decide (c = "tuple") && (decide (its.size ≤ sizeLine) && He.relAll ((List.range n).map fun i => V.ref (itA K (a K) i)) its.toList)
  | _ => false
theorem refs_ok {K : PySem.W.Frag} {a : PySem.W.Frag → Addr} {n : Nat} (c : refsB a n K = true) (H : Hp) : SqT K H (a K) ((List.range n).map fun i => V.ref (itA K (a K) i)) := by
  unfold refsB at c
  generalize hl : (List.range n).map (fun i => V.ref (itA K (a K) i)) = l at c ⊢
  cases hk : K.lookup (a K) with
  | none => rw [hk] at c; cases c
  | some o =>
    obtain ⟨oc, od, dt, sl⟩ := o
    rw [hk] at c
    cases oc with
    | type t =>
      cases dt with
      | seq its m =>
        obtain ⟨c1, c⟩ := ba c
        obtain ⟨c2, c3⟩ := ba c
        exact .inr ⟨_, its, m, hk, congrArg Value.type (of_decide_eq_true c1), rfl, of_decide_eq_true c2, He.relAll_ok c3⟩
      | _ => cases c
    | _ => cases dt <;> cases c
def foreB (C : Str) (t : String) : Fb := fun K => decO (PySem.W.kitOne K (.type t) (.ref (ga K C))) (some false) && PySem.W.notFirst K (ga K C) (.type t)
theorem fore_ok {K : PySem.W.Frag} {C : Str} {t : String} (c : foreB C t K = true) : PySem.W.kitOne K (.type t) (.ref (ga K C)) = some false ∧ PySem.W.notFirst K (ga K C) (.type t) = true := by
  obtain ⟨c1, c2⟩ := ba c
  exact ⟨decO_ok c1, c2⟩
def foreCB (C D : Str) : Fb := fun K => decO (PySem.W.kitOne K (.ref (ga K D)) (.ref (ga K C))) (some false) && PySem.W.notFirst K (ga K C) (.ref (ga K D))
theorem foreC_ok {K : PySem.W.Frag} {C D : Str} (c : foreCB C D K = true) : PySem.W.kitOne K (.ref (ga K D)) (.ref (ga K C)) = some false ∧ PySem.W.notFirst K (ga K C) (.ref (ga K D)) = true := by
  obtain ⟨c1, c2⟩ := ba c
  exact ⟨decO_ok c1, c2⟩
def fmtB (C : Str) : Fb := fun K => eqO (PySem.W.findIn K (.ref (ga K C)) "__format__") (some (some (.builtin "object.__format__"))) && decO (PySem.W.mroIn K (ga K C) (.type "object")) (some true)
theorem fmt_ok {K : PySem.W.Frag} {C : Str} (c : fmtB C K = true) : PySem.W.findIn K (.ref (ga K C)) "__format__" = some (some (.builtin "object.__format__")) ∧ PySem.W.mroIn K (ga K C) (.type "object") = some true := by
  obtain ⟨c1, c2⟩ := ba c
  exact ⟨eqO_ok c1, decO_ok c2⟩
def xcB (x : Str) (bm : List Value) (newId : String) : Fb := fun K => He.Fa.ok K (.glo x) && (PySem.W.excIn K (ga K x) bm newId && (PySem.W.keepIn K (.ref (ga K x)) && (decO (PySem.W.subIn K (.ref (ga K x)) (.type "BaseException")) (some true) && (decide (PySem.W.typeIn K (.ref (ga K x)) = some (.type "type")) && decO (PySem.W.exmOne K (.ref (ga K x)) (.ref (ga K x))) (some true)))))
theorem xc_ok {K : PySem.W.Frag} {h : Heap} {mg : Str → Option Value} (X : K.In h) (G : h.Ns mainGlobals mg) {x : Str} {bm : List Value} {newId : String} (c : xcB x bm newId K = true) : Xc K mg x bm newId := by
  obtain ⟨c1, c⟩ := ba c
  obtain ⟨c2, c⟩ := ba c
  obtain ⟨c3, c⟩ := ba c
  obtain ⟨c4, c⟩ := ba c
  obtain ⟨c5, c6⟩ := ba c
  exact ⟨He.glo_ok X G c1, c2, c3, decO_ok c4, of_decide_eq_true c5, decO_ok c6⟩
end Hd
namespace TF
open PySem PySem.Spec PyProof.Rows L2 Fr
open K05M (fv fl2 fl3 fdisc)
open K06M
def sp_lawW (K : PySem.W.Frag) : Sp := fun vs H Q _ => ∃ (a : Addr) (ns : List Int), vs = [.ref a] ∧ SqL K H a (ns.map V.int) ∧ ns.length ≤ 63 ∧ ∀ H', Q (.bl true) H'
abbrev sp_law (K : PySem.W.Frag) (_ : Addr) : Sp := sp_lawW K
theorem ex_fv {p : Addr} {H H1 H2 : Hp} (e : Ex0 H H1) (hp : H p = none) (f : Fv p H1 H2) : Ex0 H H2 := ⟨trivial, fun b o _ h => f.2 b o (fun z => by unfold Sv at z; rw [z, hp] at h; cases h) (Ex0.ap e h)⟩
theorem ch4s {H : Hp} {a : Addr} {p q r s : Int} (h : T4 H a p q r s) : ChV H (.ref a) (some (p, q, r, s)) := by
  obtain ⟨t1, t2, h0, h1, h2⟩ := h
  exact .two (o1 := some (p, q)) (o2 := some (r, s)) h0 (.yes h1) (.yes h2)
theorem obs {p q r s : Int} (b : B 300 p ∧ B 300 q ∧ B 300 r ∧ B 300 s) : OB (some (p, q, r, s)) := fun p' q' r' s' e => by
  obtain ⟨rfl, rfl, rfl, rfl⟩ : p = p' ∧ q = q' ∧ r = r' ∧ s = s' := by simpa using Option.some.inj e
  exact b
section
variable {P : Program} {w : World} {K : PySem.W.Frag} {mg : Str → Option Value} {base : Heap} {C_Form : Addr}
theorem ok_law0 (T : Txt K mg C_Form) {f_ : Addr} {fd_ : FuncData} (F_ : Fun K "law" "law" s_law f_ fd_) : FnOk P w K mg base CX0 9 f_ fd_ ["_law_script"] (sp_law K C_Form) := by
  obtain ⟨p_Form___init__, f_Form___init__, fd_Form___init__, R_Form___init__, b_Form___init__, G_Form___init__⟩ := (ok_Form___init__ (P := P) (w := w) (base := base) T)
  obtain ⟨p_Form___neg__, f_Form___neg__, fd_Form___neg__, R_Form___neg__, b_Form___neg__, G_Form___neg__⟩ := (ok_Form___neg__ (P := P) (w := w) (base := base) T)
  obtain ⟨f_l_pot, fd_l_pot, g_l_pot, k_l_pot, b_l_pot, G_l_pot⟩ := (ok_l_pot (P := P) (w := w) (base := base) T)
  obtain ⟨f_l_right, fd_l_right, g_l_right, k_l_right, b_l_right, G_l_right⟩ := (ok_l_right (P := P) (w := w) (base := base) T)
  obtain ⟨f_is_way, fd_is_way, g_is_way, k_is_way, b_is_way, G_is_way⟩ := (ok_is_way (P := P) (w := w) (base := base) T)
  refine F_.ok sc_law (fun vs H Q E h => ?_) (fun cdv A outer s H vs Q E hr h => ?_)
  · first | (obtain ⟨rfl, _⟩ := h; rfl) | (obtain ⟨_, rfl, _⟩ := h; rfl) | (obtain ⟨_, _, rfl, _⟩ := h; rfl) | (obtain ⟨_, _, _, rfl, _⟩ := h; rfl) | (obtain ⟨_, _, _, _, rfl, _⟩ := h; rfl) | (obtain ⟨_, _, _, _, _, rfl, _⟩ := h; rfl) | (obtain ⟨_, _, _, _, _, _, rfl, _⟩ := h; rfl) | (obtain ⟨_, _, _, _, _, _, _, rfl, _⟩ := h; rfl) | (obtain ⟨_, _, _, _, _, _, _, _, rfl, _⟩ := h; rfl) | (obtain ⟨_, _, _, _, _, _, _, _, _, rfl, _⟩ := h; rfl) | (obtain ⟨_, _, _, _, _, _, _, _, _, _, rfl, _⟩ := h; rfl) | (obtain ⟨_, _, _, _, _, _, _, _, _, _, _, rfl, _⟩ := h; rfl) | (obtain ⟨_, _, _, _, _, _, _, _, _, _, _, _, rfl, _⟩ := h; rfl) | (obtain ⟨_, _, _, _, _, _, _, _, _, _, _, _, _, rfl, _⟩ := h; rfl) | (obtain ⟨_, _, _, _, _, _, _, _, _, _, _, _, _, _, rfl, _⟩ := h; rfl) | (obtain ⟨_, _, _, _, _, _, _, _, _, _, _, _, _, _, _, rfl, _⟩ := h; rfl) | (obtain ⟨_, _, _, _, _, _, _, _, _, _, _, _, _, _, _, _, rfl, _⟩ := h; rfl) | (obtain ⟨_, _, _, _, _, _, _, _, _, _, _, _, _, _, _, _, _, rfl, _⟩ := h; rfl) | (obtain ⟨_, _, _, _, _, _, _, _, _, _, _, _, _, _, _, _, _, _, rfl, _⟩ := h; rfl) | (obtain ⟨_, _, _, _, _, _, _, _, _, _, _, _, _, _, _, _, _, _, _, rfl, _⟩ := h; rfl) | (obtain ⟨_, _, _, _, _, _, _, _, _, _, _, _, _, _, _, _, _, _, _, _, rfl, _⟩ := h; rfl) | (obtain ⟨_, _, _, _, _, _, _, _, _, _, _, _, _, _, _, _, _, _, _, _, _, rfl, _⟩ := h; rfl) | (obtain ⟨_, _, _, _, _, _, _, _, _, _, _, _, _, _, _, _, _, _, _, _, _, _, rfl, _⟩ := h; rfl) | (obtain ⟨_, _, _, _, _, _, _, _, _, _, _, _, _, _, _, _, _, _, _, _, _, _, _, rfl, _⟩ := h; rfl)
  · obtain ⟨a, ns, rfl, hS, hn, q⟩ := h
    refine ⟨_, (pss_cons (ps_for PassesOwn.never rfl (pi_range1 (by rfl) T.b_range (pa_cons (pe_callB (call_max2 rfl) (by rfl) T.b_max (by decide +kernel) (pa_cons pe_int (pa_cons (pe_callB (call_min2 rfl) (by rfl) T.b_min (by decide +kernel) (pa_cons pe_int (pa_cons (pe_callB call_len_seq (by rfl) T.b_len PySem.boot_len (pa_cons (pv 0) pa_nil)) pa_nil))) pa_nil))) pa_nil)) (pg_name (i := 1) sc_law.nd rfl (.inl rfl))
      (pss_one (ps_if (pt_not (pt_val (pe_call G_l_right (hr.mono (by decide)) (by rfl) g_l_right k_l_right b_l_right .nil pass0 (pa_cons (pe_call G_l_pot (hr.mono (by decide)) (by rfl) g_l_pot k_l_pot b_l_pot .nil pass0 (pa_cons (pv 0) (pa_cons (pv 1) pa_nil))) pa_nil))))
      (pss_one (ps_ret pe_bl))
      pss_nil)))
    (Evl.pss_cut (ps_par (i := 2) (j := 3) (by rfl) sc_law.nd rfl rfl (by decide) rfl rfl (pa_cons (pe_make R_Form___init__ G_Form___init__ (hr.mono (by decide)) (by rfl) T.g_Form b_Form___init__ .nil pass0 (pa_cons (pe_tup (pa_cons pe_int (pa_cons pe_int (pa_cons pe_int (pa_cons pe_int pa_nil))))) pa_nil)) (pa_cons (pe_make R_Form___init__ G_Form___init__ (hr.mono (by decide)) (by rfl) T.g_Form b_Form___init__ .nil pass0 (pa_cons (pe_tup (pa_cons pe_int (pa_cons pe_int (pa_cons pe_int (pa_cons pe_int pa_nil))))) pa_nil)) pa_nil)) (by rfl))
    (Evl.pss_cut (ps_set (i := 4) sc_law.nd rfl (.inl rfl) (pe_lst (pa_cons (pe_call G_is_way (hr.mono (by decide)) (by rfl) g_is_way k_is_way b_is_way .nil pass0 (pa_cons (pv 3) (pa_cons (pe_un (un_negI R_Form___neg__ G_Form___neg__ b_Form___neg__ (hr.mono (by decide)) pass0) (pv 3)) (pa_cons (pe_tup (pa_cons (pe_tup (pa_cons (pe_un un_neg pe_int) (pa_cons pe_int pa_nil))) (pa_cons (pe_tup (pa_cons pe_int (pa_cons (pe_un un_neg pe_int) pa_nil))) pa_nil))) pa_nil)))) (pa_cons (pe_call G_is_way (hr.mono (by decide)) (by rfl) g_is_way k_is_way b_is_way .nil pass0 (pa_cons (pv 2) (pa_cons (pv 2) (pa_cons (pe_tup (pa_cons (pe_tup (pa_cons pe_int (pa_cons (pe_un un_neg pe_int) pa_nil))) (pa_cons (pe_tup (pa_cons (pe_un un_neg pe_int) (pa_cons pe_int pa_nil))) pa_nil))) pa_nil)))) (pa_cons (pe_call G_is_way (hr.mono (by decide)) (by rfl) g_is_way k_is_way b_is_way .nil pass0 (pa_cons (pv 2) (pa_cons (pv 2) (pa_cons (pe_tup (pa_cons (pe_tup (pa_cons pe_int (pa_cons pe_int pa_nil))) (pa_cons (pe_tup (pa_cons pe_int (pa_cons pe_int pa_nil))) pa_nil))) pa_nil)))) pa_nil)))))
    (Evl.pss_cut (ps_set (i := 5) sc_law.nd rfl (.inl rfl) (pe_op op_mulW (pe_op op_pow pe_int pe_int) (pe_op op_pow pe_int pe_int)))
    (Evl.pss_cut (ps_set (i := 6) sc_law.nd rfl (.inl rfl) (pe_make R_Form___init__ G_Form___init__ (hr.mono (by decide)) (by rfl) T.g_Form b_Form___init__ .nil pass0 (pa_cons (pe_tup (pa_cons pe_int (pa_cons pe_int (pa_cons pe_int (pa_cons pe_int pa_nil))))) pa_nil)))
    (pss_one (ps_ret (pe_and (pe_cmpR (op_eqD hr.units) (pv 4) (pe_lst (pa_cons pe_bl (pa_cons pe_bl (pa_cons pe_bl pa_nil)))) (nomark _)) (pe_and (pe_not (pe_call G_is_way (hr.mono (by decide)) (by rfl) g_is_way k_is_way b_is_way .nil pass0 (pa_cons (pv 6) (pa_cons (pv 6) (pa_cons (pe_tup (pa_cons (pe_tup (pa_cons pe_int (pa_cons (pv 5) pa_nil))) (pa_cons (pe_tup (pa_cons pe_int (pa_cons pe_int pa_nil))) pa_nil))) pa_nil))))) (pe_one (pe_call G_is_way (hr.mono (by decide)) (by rfl) g_is_way k_is_way b_is_way .nil pass0 (pa_cons (pe_make R_Form___init__ G_Form___init__ (hr.mono (by decide)) (by rfl) T.g_Form b_Form___init__ .nil pass0 (pa_cons (pe_tup (pa_cons pe_int (pa_cons pe_int (pa_cons pe_int (pa_cons pe_int pa_nil))))) pa_nil)) (pa_cons (pe_make R_Form___init__ G_Form___init__ (hr.mono (by decide)) (by rfl) T.g_Form b_Form___init__ .nil pass0 (pa_cons (pe_tup (pa_cons pe_int (pa_cons pe_int (pa_cons pe_int (pa_cons pe_int pa_nil))))) pa_nil)) (pa_cons (pe_tup (pa_cons (pe_tup (pa_cons pe_int (pa_cons (pv 5) pa_nil))) (pa_cons (pe_tup (pa_cons pe_int (pa_cons pe_int pa_nil))) pa_nil))) pa_nil)))))))))))))), ?_⟩
    have hm : ∀ z : Int, z ≤ 63 → -(2 ^ 62) ≤ (if (if z < 3 then z else 3) > 1 then (if z < 3 then z else 3) else 1) ∧ (if (if z < 3 then z else 3) > 1 then (if z < 3 then z else 3) else 1) < 2 ^ 62 := fun z hz => by
      split <;> split <;> omega
    have hm2 := hm (((ns.map V.int).length : Nat) : Int) (by rw [List.length_map]; omega)
    refine ⟨_, rfl, a, _, rfl, .inl hS, _, _, rfl, _, _, rfl, _, rfl, hm2.1, hm2.2, ?_⟩
    refine for_range (lo := 0) (fun i σ H' => ∃ y1, σ = [some (.ref a), y1, none, none, none, none, none] ∧ Ex0 H H') ⟨none, rfl, Ex0.refl H⟩ ?_ ?_
    · rintro i σ H' hi ⟨y1, rfl, e⟩
      refine ⟨_, rfl, _, rfl, a, ns, i, by show [V.ref a, V.int (0 + (i : Int))] = _; rw [Int.zero_add], e.sqL (fun z => z) hS, fun p H1 np e1 hv => ?_⟩
      have hp0 : H p = none := Fx.free e (fun z => z) np
      have e01 : Ex0 H H1 := e.trans e1
      refine ⟨p, rfl, hv, fun H3 e3 => ⟨_, rfl, ?_⟩⟩
      refine iteF ?_
      exact ⟨_, rfl, ex_fv e01 hp0 e3⟩
    · rintro σ H' ⟨y1, rfl, e⟩
      have b300 : ∀ {n : Int}, n.natAbs ≤ 100 → B 300 n := fun h => ⟨Nat.lt_of_le_of_lt h (by decide), by decide⟩
      have sh : ∀ {a b c d : Int}, a.natAbs ≤ 10 → b.natAbs ≤ 10 → c.natAbs ≤ 10 → d.natAbs ≤ 10 → (∀ n ∈ [a, b, c, d], Short n) ∧ (∀ n ∈ [a, b, c, d], Dig n) := fun h1 h2 h3 h4 => by
        constructor <;> intro n hn <;> simp only [List.mem_cons, List.mem_nil_iff, or_false] at hn <;> rcases hn with rfl | rfl | rfl | rfl <;> constructor <;> omega
      have big : B 250 ((10 : Int) ^ 60) := ⟨by decide +kernel, by decide⟩
      have big2 : B 60 ((10 : Int) ^ 9) := ⟨by decide +kernel, by decide⟩
      have s1 := sh (a := 0) (b := 1) (c := 1) (d := 0) (by decide) (by decide) (by decide) (by decide)
      have s2 := sh (a := 1) (b := 1) (c := 2) (d := 1) (by decide) (by decide) (by decide) (by decide)
      have s2' := sh (a := -1) (b := -1) (c := -2) (d := -1) (by decide) (by decide) (by decide) (by decide)
      have s3 := sh (a := 0) (b := 0) (c := 1) (d := 0) (by decide) (by decide) (by decide) (by decide)
      have s4 := sh (a := 0) (b := 0) (c := 0) (d := 0) (by decide) (by decide) (by decide) (by decide)
      refine ⟨fun σ H2 => ∃ z1 z2 : Addr, σ = [some (.ref a), y1, some (.ref z1), some (.ref z2), none, none, none] ∧ FormAt C_Form H2 z1 [0, 1, 1, 0] ∧ FormAt C_Form H2 z2 [1, 1, 2, 1], ?_, ?_⟩
      · refine ⟨sl4, fun t nt x dx nx ndx _ => ?_⟩
        have ht : Ti (upd H' t (.tup [.int 0, .int 1, .int 1, .int 0])) t [0, 1, 1, 0] := upd_same
        refine ⟨x, dx, t, _, rfl, upd_same, made_at nx ndx ht, rfl, s1.1, fun H2 e2 h2 => ⟨rfl, ?_⟩⟩
        obtain ⟨e3, hx⟩ := fo_made nx ndx ht e2 h2
        refine ⟨sl4, fun t' nt' y dy ny ndy _ => ?_⟩
        have e4 := Ex0.new (o := .tup [.int 1, .int 1, .int 2, .int 1]) nt'
        have ht' : Ti (upd H2 t' (.tup [.int 1, .int 1, .int 2, .int 1])) t' [1, 1, 2, 1] := upd_same
        refine ⟨y, dy, t', _, rfl, upd_same, made_at ny ndy ht', rfl, s2.1, fun H3 e5 h5 => ⟨rfl, ?_⟩⟩
        obtain ⟨e6, hy⟩ := fo_made ny ndy ht' e5 h5
        exact ⟨_, _, rfl, x, y, rfl, Ex0.fo (e4.trans e6) hx, hy⟩
      rintro σ H2 ⟨z1, z2, rfl, hz1, hz2⟩
      obtain ⟨d2, t2, g1, g2⟩ := id hz2
      refine ⟨fun σ H3 => ∃ L : Addr, σ = [some (.ref a), y1, some (.ref z1), some (.ref z2), some (.ref L), none, none] ∧ H3 L = some (.lst [.bl true, .bl true, .bl false]), ?_, ?_⟩
      · refine ⟨_, rfl, _, rfl, z2, d2, _, rfl, g1, z2, [1, 1, 2, 1], rfl, hz2, by show 4 ≤ 1000; decide, fun y H3 e3 hy => ?_⟩
        refine ⟨_, rfl, sl2, fun t1 n1 => ⟨_, rfl, sl2, fun t3 n3 => ⟨sl2, fun u nu => ?_⟩⟩⟩
        have w1 := t4_new n1 n3 nu
        have e1 := e3.trans w1.1
        refine ⟨z2, y, .ref u, 1, 1, 2, 1, [-1, -1, -2, -1], some (-1, 0, 0, -1), rfl, Ex0.fo e1 hz2, Ex0.fo w1.1 hy, by show 4 ≤ 1000; decide, s2.2, s2'.2, ch4s w1.2, obs ⟨b300 (by decide), b300 (by decide), b300 (by decide), b300 (by decide)⟩, fun H4 e4 => ?_⟩
        have k1 : leadsTo (some (-1, 0, 0, -1)) 1 1 2 1 [-1, -1, -2, -1] = true := by decide +kernel
        rw [k1]
        have e24 := e1.trans e4
        refine ⟨_, rfl, _, rfl, _, rfl, sl2, fun t1 n1 => ⟨_, rfl, sl2, fun t3 n3 => ⟨sl2, fun u nu => ?_⟩⟩⟩
        have w2 := t4_new n1 n3 nu
        have e25 := e24.trans w2.1
        refine ⟨z1, z1, .ref u, 0, 1, 1, 0, [0, 1, 1, 0], some (0, -1, -1, 0), rfl, Ex0.fo e25 hz1, Ex0.fo e25 hz1, by show 4 ≤ 1000; decide, s1.2, s1.2, ch4s w2.2, obs ⟨b300 (by decide), b300 (by decide), b300 (by decide), b300 (by decide)⟩, fun H5 e5 => ?_⟩
        have k2 : leadsTo (some (0, -1, -1, 0)) 0 1 1 0 [0, 1, 1, 0] = true := by decide +kernel
        rw [k2]
        have e26 := e25.trans e5
        refine ⟨_, rfl, _, rfl, sl2, fun t1 n1 => ⟨sl2, fun t3 n3 => ⟨sl2, fun u nu => ?_⟩⟩⟩
        have w3 := t4_new n1 n3 nu
        have e27 := e26.trans w3.1
        refine ⟨z1, z1, .ref u, 0, 1, 1, 0, [0, 1, 1, 0], some (0, 1, 1, 0), rfl, Ex0.fo e27 hz1, Ex0.fo e27 hz1, by show 4 ≤ 1000; decide, s1.2, s1.2, ch4s w3.2, obs ⟨b300 (by decide), b300 (by decide), b300 (by decide), b300 (by decide)⟩, fun H6 e6 => ?_⟩
        have k3 : leadsTo (some (0, 1, 1, 0)) 0 1 1 0 [0, 1, 1, 0] = false := by decide +kernel
        rw [k3]
        exact ⟨sl3, fun L nL => ⟨L, rfl, upd_same⟩⟩
      rintro σ H3 ⟨L, rfl, hL⟩
      refine ⟨fun σ H4 => σ = [some (.ref a), y1, some (.ref z1), some (.ref z2), some (.ref L), some (.int (10 ^ 60 * 10 ^ 9)), none] ∧ H4 = H3, ?_, ?_⟩
      · exact ⟨_, _, rfl, rfl, ⟨by decide, by decide, by decide⟩, _, _, rfl, rfl, ⟨by decide, by decide, by decide⟩, _, _, rfl, rfl, mulB big big2 (by decide), rfl, rfl⟩
      rintro σ H4 ⟨rfl, rfl⟩
      refine ⟨fun σ H5 => ∃ z : Addr, σ = [some (.ref a), y1, some (.ref z1), some (.ref z2), some (.ref L), some (.int (10 ^ 60 * 10 ^ 9)), some (.ref z)] ∧ Ex0 H4 H5 ∧ FormAt C_Form H5 z [0, 0, 1, 0], ?_, ?_⟩
      · refine ⟨sl4, fun t nt x dx nx ndx _ => ?_⟩
        have e1 := Ex0.new (o := .tup [.int 0, .int 0, .int 1, .int 0]) nt
        have ht : Ti (upd H4 t (.tup [.int 0, .int 0, .int 1, .int 0])) t [0, 0, 1, 0] := upd_same
        refine ⟨x, dx, t, _, rfl, upd_same, made_at nx ndx ht, rfl, s3.1, fun H5 e2 h2 => ⟨rfl, ?_⟩⟩
        obtain ⟨e3, hx⟩ := fo_made nx ndx ht e2 h2
        exact ⟨x, rfl, e1.trans e3, hx⟩
      rintro σ H5 ⟨z, rfl, e5, hz⟩
      refine ⟨_, rfl, sl3, fun u nu => ?_⟩
      have eu := Ex0.new (o := .lst [.bl true, .bl true, .bl false]) nu
      refine ⟨.list [.bool true, .bool true, .bool false], .list [.bool true, .bool true, .bool false], .lst (SqL.of (Ex0.ap (e5.trans eu) hL)) (.cons (.bl _) (.cons (.bl _) (.cons (.bl _) .nil))), .lst (SqL.of upd_same) (.cons (.bl _) (.cons (.bl _) (.cons (.bl _) .nil))), by decide +kernel, by decide +kernel, ?_⟩
      have kk : PyData.eqv (.list [.bool true, .bool true, .bool false]) (.list [.bool true, .bool true, .bool false]) = true := by decide +kernel
      rw [kk]
      refine ⟨_, rfl, iteT ?_⟩
      have bf : B 300 ((10 : Int) ^ 60 * 10 ^ 9) := ⟨by decide +kernel, by decide⟩
      refine ⟨_, rfl, _, rfl, _, rfl, sl2, fun t1 n1 => ⟨sl2, fun t3 n3 => ⟨sl2, fun u2 nu2 => ?_⟩⟩⟩
      have w1 := t4_new n1 n3 nu2
      have ew := eu.trans w1.1
      refine ⟨z, z, .ref u2, 0, 0, 1, 0, [0, 0, 1, 0], some (1, 10 ^ 60 * 10 ^ 9, 0, 1), rfl, Ex0.fo ew hz, Ex0.fo ew hz, by show 4 ≤ 1000; decide, s3.2, s3.2, ch4s w1.2, obs ⟨b300 (by decide), bf, b300 (by decide), b300 (by decide)⟩, fun H6 e6 => ?_⟩
      have k1 : leadsTo (some (1, 10 ^ 60 * 10 ^ 9, 0, 1)) 0 0 1 0 [0, 0, 1, 0] = false := by decide +kernel
      rw [k1]
      refine ⟨_, rfl, _, rfl, iteT ?_⟩
      refine ⟨sl4, fun t nt x dx nx ndx _ => ?_⟩
      have ht : Ti (upd H6 t (.tup [.int 0, .int 0, .int 0, .int 0])) t [0, 0, 0, 0] := upd_same
      refine ⟨x, dx, t, _, rfl, upd_same, made_at nx ndx ht, rfl, s4.1, fun H7 e2 h2 => ⟨rfl, ?_⟩⟩
      obtain ⟨e3, hx⟩ := fo_made nx ndx ht e2 h2
      refine ⟨sl4, fun t' nt' y dy ny ndy _ => ?_⟩
      have e4 := Ex0.new (o := .tup [.int 0, .int 0, .int 0, .int 0]) nt'
      have ht' : Ti (upd H7 t' (.tup [.int 0, .int 0, .int 0, .int 0])) t' [0, 0, 0, 0] := upd_same
      refine ⟨y, dy, t', _, rfl, upd_same, made_at ny ndy ht', rfl, s4.1, fun H8 e7 h7 => ⟨rfl, ?_⟩⟩
      obtain ⟨e8, hy⟩ := fo_made ny ndy ht' e7 h7
      refine ⟨_, rfl, sl2, fun t4 n4 => ⟨sl2, fun t5 n5 => ⟨sl2, fun u3 nu3 => ?_⟩⟩⟩
      have w2 := t4_new n4 n5 nu3
      refine ⟨x, y, .ref u3, 0, 0, 0, 0, [0, 0, 0, 0], some (1, 10 ^ 60 * 10 ^ 9, 0, 1), rfl, Ex0.fo ((e4.trans e8).trans w2.1) hx, Ex0.fo w2.1 hy, by show 4 ≤ 1000; decide, s4.2, s4.2, ch4s w2.2, obs ⟨b300 (by decide), bf, b300 (by decide), b300 (by decide)⟩, fun H9 e9 => ?_⟩
      have k2 : leadsTo (some (1, 10 ^ 60 * 10 ^ 9, 0, 1)) 0 0 0 0 [0, 0, 0, 0] = true := by decide +kernel
      rw [k2]
      exact q H9
end
def e0 : Hd.Dd := ⟨fun K => He.ga K "is_any_integer", "is_any_integer", "is_any_integer", s_is_any_integer, []⟩
def e1 : Hd.Dd := ⟨fun K => He.ga K "is_short_integer", "is_short_integer", "is_short_integer", s_is_short_integer, []⟩
def e2 : Hd.Dd := ⟨fun K => He.ga K "are_any_integers", "are_any_integers", "are_any_integers", s_are_any_integers, []⟩
def e3 : Hd.Dd := ⟨fun K => He.ga K "are_short_integers", "are_short_integers", "are_short_integers", s_are_short_integers, []⟩
def e4 : Hd.Dd := ⟨fun K => He.ga K "determinant_of", "determinant_of", "determinant_of", s_determinant_of, []⟩
def e5 : Hd.Dd := ⟨fun K => He.ga K "is_change", "is_change", "is_change", s_is_change, []⟩
def e6 : Hd.Dd := ⟨fun K => He.ga K "raised", "raised", "raised", s_raised, []⟩
def e7 : Hd.Dd := ⟨fun K => He.ga K "form_value", "form_value", "form_value", s_form_value, []⟩
def e8 : Hd.Dd := ⟨fun K => He.ga K "form_led", "form_led", "form_led", s_form_led, []⟩
def e9 : Hd.Dd := ⟨fun K => He.ga K "check_form", "check_form", "check_form", s_check_form, []⟩
def e10 : Hd.Dd := ⟨fun K => He.ga K "form_of", "form_of", "form_of", s_form_of, []⟩
def e11 : Hd.Dd := ⟨fun K => He.ma K (He.ga K "Form") "__init__", "__init__", "Form.__init__", s_Form___init__, []⟩
def e12 : Hd.Dd := ⟨fun K => Hd.pa K (He.ga K "Form") "coefficients", "coefficients", "Form.coefficients", s_Form_coefficients, []⟩
def e13 : Hd.Dd := ⟨fun K => He.ma K (He.ga K "Form") "__neg__", "__neg__", "Form.__neg__", s_Form___neg__, []⟩
def e14 : Hd.Dd := ⟨fun K => He.ga K "are_within_digits", "are_within_digits", "are_within_digits", s_are_within_digits, []⟩
def e15 : Hd.Dd := ⟨fun K => He.ga K "check_digits", "check_digits", "check_digits", s_check_digits, []⟩
def e16 : Hd.Dd := ⟨fun K => He.ga K "check_pair", "check_pair", "check_pair", s_check_pair, []⟩
def e17 : Hd.Dd := ⟨fun K => He.ga K "leads", "leads", "leads", s_leads, []⟩
def e18 : Hd.Dd := ⟨fun K => He.ga K "is_way", "is_way", "is_way", s_is_way, []⟩
def e19 : Hd.Dd := ⟨fun K => He.ga K "_law_pot", "_law_pot", "_law_pot", s_l_pot, []⟩
def e20 : Hd.Dd := ⟨fun K => He.ga K "_law_dip", "_law_dip", "_law_dip", s_l_dip, []⟩
def e21 : Hd.Dd := ⟨fun K => He.ga K "_law_pick", "_law_pick", "_law_pick", s_l_pick, []⟩
def e22 : Hd.Dd := ⟨fun K => He.ga K "_law_at", "_law_at", "_law_at", s_l_at, []⟩
def e23 : Hd.Dd := ⟨fun K => He.ga K "_law_led", "_law_led", "_law_led", s_l_led, []⟩
def e24 : Hd.Dd := ⟨fun K => He.ga K "_law_joined", "_law_joined", "_law_joined", s_l_joined, []⟩
def e25 : Hd.Dd := ⟨fun K => He.ga K "_law_back", "_law_back", "_law_back", s_l_back, []⟩
def e26 : Hd.Dd := ⟨fun K => He.ga K "_law_change", "_law_change", "_law_change", s_l_change, []⟩
def e27 : Hd.Dd := ⟨fun K => He.ga K "_law_row", "_law_row", "_law_row", s_l_row, []⟩
def e28 : Hd.Dd := ⟨fun K => He.ga K "_law_is_pair", "_law_is_pair", "_law_is_pair", s_l_is_pair, []⟩
def e29 : Hd.Dd := ⟨fun K => He.ga K "_law_is_due", "_law_is_due", "_law_is_due", s_l_is_due, []⟩
def e30 : Hd.Dd := ⟨fun K => He.ga K "_law_near", "_law_near", "_law_near", s_l_near, []⟩
def e31 : Hd.Dd := ⟨fun K => He.ga K "_law_right", "_law_right", "_law_right", s_l_right, []⟩
def e32 : Hd.Dd := ⟨fun K => He.ga K "law", "law", "law", s_law, []⟩
def dd0 : List Hd.Dd := [e0, e1, e2, e3, e4, e5, e6, e7, e8, e9, e10, e11, e12, e13, e14, e15, e16, e17, e18, e19]
def dd1 : List Hd.Dd := [e20, e21, e22, e23, e24, e25, e26, e27, e28, e29, e30, e31, e32]
def dd : List Hd.Dd := dd0 ++ (dd1)
def g0 : Hd.Fb := fun K => (fun K => (He.Fa.glo "Form").ok K) K
def g1 : Hd.Fb := fun K => (fun K => (He.Fa.cls "Form").ok K) K
def g2 : Hd.Fb := fun K => Hd.tyB "Form" K
def g3 : Hd.Fb := fun K => (fun K => (He.Fa.noat "Form" "_coefficients").ok K) K
def g4 : Hd.Fb := fun K => (fun K => (He.Fa.glo "is_any_integer").ok K) K
def g5 : Hd.Fb := fun K => (fun K => (He.Fa.glo "is_short_integer").ok K) K
def g6 : Hd.Fb := fun K => (fun K => (He.Fa.glo "are_any_integers").ok K) K
def g7 : Hd.Fb := fun K => (fun K => (He.Fa.glo "are_short_integers").ok K) K
def g8 : Hd.Fb := fun K => (fun K => (He.Fa.glo "determinant_of").ok K) K
def g9 : Hd.Fb := fun K => (fun K => (He.Fa.glo "is_change").ok K) K
def g10 : Hd.Fb := fun K => (fun K => (He.Fa.glo "raised").ok K) K
def g11 : Hd.Fb := fun K => (fun K => (He.Fa.glo "form_value").ok K) K
def g12 : Hd.Fb := fun K => (fun K => (He.Fa.glo "form_led").ok K) K
def g13 : Hd.Fb := fun K => (fun K => (He.Fa.glo "check_form").ok K) K
def g14 : Hd.Fb := fun K => (fun K => (He.Fa.glo "form_of").ok K) K
def g15 : Hd.Fb := fun K => (fun K => (He.Fa.mkr "Form").ok K) K
def g16 : Hd.Fb := fun K => Hd.propB "Form" "coefficients" K
def g17 : Hd.Fb := fun K => (fun K => (He.Fa.meth "Form" "__neg__").ok K) K
def g18 : Hd.Fb := fun K => (fun K => (He.Fa.glo "are_within_digits").ok K) K
def g19 : Hd.Fb := fun K => (fun K => (He.Fa.glo "check_digits").ok K) K
def g20 : Hd.Fb := fun K => (fun K => (He.Fa.glo "check_pair").ok K) K
def g21 : Hd.Fb := fun K => (fun K => (He.Fa.glo "leads").ok K) K
def g22 : Hd.Fb := fun K => (fun K => (He.Fa.glo "is_way").ok K) K
def g23 : Hd.Fb := fun K => (fun K => (He.Fa.glo "_law_pot").ok K) K
def g24 : Hd.Fb := fun K => (fun K => (He.Fa.glo "_law_dip").ok K) K
def g25 : Hd.Fb := fun K => (fun K => (He.Fa.glo "_law_pick").ok K) K
def g26 : Hd.Fb := fun K => (fun K => (He.Fa.glo "_law_at").ok K) K
def g27 : Hd.Fb := fun K => (fun K => (He.Fa.glo "_law_led").ok K) K
def g28 : Hd.Fb := fun K => (fun K => (He.Fa.glo "_law_joined").ok K) K
def g29 : Hd.Fb := fun K => (fun K => (He.Fa.glo "_law_back").ok K) K
def g30 : Hd.Fb := fun K => (fun K => (He.Fa.glo "_law_change").ok K) K
def g31 : Hd.Fb := fun K => (fun K => (He.Fa.glo "_law_row").ok K) K
def g32 : Hd.Fb := fun K => (fun K => (He.Fa.glo "_law_is_pair").ok K) K
def g33 : Hd.Fb := fun K => (fun K => (He.Fa.glo "_law_is_due").ok K) K
def g34 : Hd.Fb := fun K => (fun K => (He.Fa.glo "_law_near").ok K) K
def g35 : Hd.Fb := fun K => (fun K => (He.Fa.glo "_law_right").ok K) K
def g36 : Hd.Fb := fun K => (fun K => (He.Fa.glo "law").ok K) K
def g37 : Hd.Fb := fun K => (fun K => (He.Fa.free "abs").ok K) K
def g38 : Hd.Fb := fun K => (fun K => (He.Fa.free "all").ok K) K
def g39 : Hd.Fb := fun K => (fun K => (He.Fa.free "bool").ok K) K
def g40 : Hd.Fb := fun K => (fun K => (He.Fa.free "int").ok K) K
def g41 : Hd.Fb := fun K => (fun K => (He.Fa.free "isinstance").ok K) K
def g42 : Hd.Fb := fun K => (fun K => (He.Fa.free "len").ok K) K
def g43 : Hd.Fb := fun K => (fun K => (He.Fa.free "max").ok K) K
def g44 : Hd.Fb := fun K => (fun K => (He.Fa.free "min").ok K) K
def g45 : Hd.Fb := fun K => (fun K => (He.Fa.free "range").ok K) K
def g46 : Hd.Fb := fun K => (fun K => (He.Fa.free "tuple").ok K) K
def g47 : Hd.Fb := fun K => (fun K => (He.Fa.int "LIMIT" (1000000000000000000000000000000000000000000000000000000000000)).ok K) K
def g48 : Hd.Fb := fun K => (fun K => (He.Fa.int "MOST_DIGITS" (20)).ok K) K
def fa0 : List Hd.Fb := [g0, g1, g2, g3, g4, g5, g6, g7, g8, g9, g10, g11, g12, g13, g14, g15, g16, g17, g18, g19]
def fa1 : List Hd.Fb := [g20, g21, g22, g23, g24, g25, g26, g27, g28, g29, g30, g31, g32, g33, g34, g35, g36, g37, g38, g39]
def fa2 : List Hd.Fb := [g40, g41, g42, g43, g44, g45, g46, g47, g48]
def fa : List Hd.Fb := fa0 ++ (fa1 ++ (fa2))
def names0 : List Str := ["_wall", "__name__", "RingError", "InvalidForm", "ParseError", "InvalidNumber", "TooMany", "DIGITS", "LIMIT", "is_any_integer", "is_short_integer", "is_between", "are_any_integers", "are_short_integers", "is_written_integer", "check_integer", "check_between", "determinant_of", "is_change", "raised", "form_value", "form_led", "check_form", "form_of", "Form", "MOST_DIGITS", "are_within_digits", "check_digits", "check_pair", "leads"]
def names1 : List Str := ["is_way", "_law_pot", "_law_dip", "_law_pick", "_law_at", "_law_led", "_law_joined", "_law_back", "_law_change", "_law_row", "_law_is_pair", "_law_is_due", "_law_near", "_law_right"]
def names : List Str := names0 ++ (names1)
abbrev RR : PySem.W.OpenRow := PySem.W.OpenLaw.row PySem.Challenge.rw_formrings_k28_ways_judged
abbrev vw : Program := PySem.W.view RR.prog [51]
abbrev hk : PySem.W.Hook := Hd.hookM 5 fa dd
def ob (s : PySem.W.SharedT) : Hd.AlM := Hd.obsMG 5 fa dd (HandSHeadRun.getT s)
theorem ob_eq (s : PySem.W.SharedT) : ob s = hk.obs s.abs := Hd.obsMG_eq (HandSHeadRun.getT_eq s)
theorem run (w : World) : HandSHeadRun.RunEq RR vw hk ob 12000 names w := by
  intro os
  kernel_rfl
theorem facts {P : Program} {w : World} {K : PySem.W.Frag} {h : Heap} {mg : Str → Option Value} {f : Addr} (X : K.In h) (G : h.Ns mainGlobals mg) (hfa : mg ("law" : Str) = some (.ref f)) (c : Hd.SaysM fa dd K) :
    ∃ fd : FuncData, (∀ (s : Shared) (v : Value), BindsTo s fd ⟨[v], []⟩ [("_law_script", v)]) ∧ ∀ base : Heap, K.In base → base.Ns mainGlobals mg → FnOk P w K mg base CX0 9 f fd ["_law_script"] (sp_lawW K) := by
  obtain ⟨fd0, F0⟩ := c.def_ 0 (d := e0) rfl
  obtain ⟨fd1, F1⟩ := c.def_ 1 (d := e1) rfl
  obtain ⟨fd2, F2⟩ := c.def_ 2 (d := e2) rfl
  obtain ⟨fd3, F3⟩ := c.def_ 3 (d := e3) rfl
  obtain ⟨fd4, F4⟩ := c.def_ 4 (d := e4) rfl
  obtain ⟨fd5, F5⟩ := c.def_ 5 (d := e5) rfl
  obtain ⟨fd6, F6⟩ := c.def_ 6 (d := e6) rfl
  obtain ⟨fd7, F7⟩ := c.def_ 7 (d := e7) rfl
  obtain ⟨fd8, F8⟩ := c.def_ 8 (d := e8) rfl
  obtain ⟨fd9, F9⟩ := c.def_ 9 (d := e9) rfl
  obtain ⟨fd10, F10⟩ := c.def_ 10 (d := e10) rfl
  obtain ⟨fd11, F11⟩ := c.def_ 11 (d := e11) rfl
  obtain ⟨fd12, F12⟩ := c.def_ 12 (d := e12) rfl
  obtain ⟨fd13, F13⟩ := c.def_ 13 (d := e13) rfl
  obtain ⟨fd14, F14⟩ := c.def_ 14 (d := e14) rfl
  obtain ⟨fd15, F15⟩ := c.def_ 15 (d := e15) rfl
  obtain ⟨fd16, F16⟩ := c.def_ 16 (d := e16) rfl
  obtain ⟨fd17, F17⟩ := c.def_ 17 (d := e17) rfl
  obtain ⟨fd18, F18⟩ := c.def_ 18 (d := e18) rfl
  obtain ⟨fd19, F19⟩ := c.def_ 19 (d := e19) rfl
  obtain ⟨fd20, F20⟩ := c.def_ 20 (d := e20) rfl
  obtain ⟨fd21, F21⟩ := c.def_ 21 (d := e21) rfl
  obtain ⟨fd22, F22⟩ := c.def_ 22 (d := e22) rfl
  obtain ⟨fd23, F23⟩ := c.def_ 23 (d := e23) rfl
  obtain ⟨fd24, F24⟩ := c.def_ 24 (d := e24) rfl
  obtain ⟨fd25, F25⟩ := c.def_ 25 (d := e25) rfl
  obtain ⟨fd26, F26⟩ := c.def_ 26 (d := e26) rfl
  obtain ⟨fd27, F27⟩ := c.def_ 27 (d := e27) rfl
  obtain ⟨fd28, F28⟩ := c.def_ 28 (d := e28) rfl
  obtain ⟨fd29, F29⟩ := c.def_ 29 (d := e29) rfl
  obtain ⟨fd30, F30⟩ := c.def_ 30 (d := e30) rfl
  obtain ⟨fd31, F31⟩ := c.def_ 31 (d := e31) rfl
  obtain ⟨fd32, F32⟩ := c.def_ 32 (d := e32) rfl
  have T : Txt K mg (He.ga K "Form") := ⟨He.glo_ok X G (c.fact 0 (f := g0) rfl),
    He.cls_ok (c.fact 1 (f := g1) rfl),
    Hd.ty_ok (c.fact 2 (f := g2) rfl),
    He.noat_ok (c.fact 3 (f := g3) rfl),
    ⟨_, _, He.glo_ok X G (c.fact 4 (f := g4) rfl), Hd.fun_of F0⟩,
    ⟨_, _, He.glo_ok X G (c.fact 5 (f := g5) rfl), Hd.fun_of F1⟩,
    ⟨_, _, He.glo_ok X G (c.fact 6 (f := g6) rfl), Hd.fun_of F2⟩,
    ⟨_, _, He.glo_ok X G (c.fact 7 (f := g7) rfl), Hd.fun_of F3⟩,
    ⟨_, _, He.glo_ok X G (c.fact 8 (f := g8) rfl), Hd.fun_of F4⟩,
    ⟨_, _, He.glo_ok X G (c.fact 9 (f := g9) rfl), Hd.fun_of F5⟩,
    ⟨_, _, He.glo_ok X G (c.fact 10 (f := g10) rfl), Hd.fun_of F6⟩,
    ⟨_, _, He.glo_ok X G (c.fact 11 (f := g11) rfl), Hd.fun_of F7⟩,
    ⟨_, _, He.glo_ok X G (c.fact 12 (f := g12) rfl), Hd.fun_of F8⟩,
    ⟨_, _, He.glo_ok X G (c.fact 13 (f := g13) rfl), Hd.fun_of F9⟩,
    ⟨_, _, He.glo_ok X G (c.fact 14 (f := g14) rfl), Hd.fun_of F10⟩,
    ⟨He.ga K "Form", _, _, He.mkr_ok (c.fact 15 (f := g15) rfl), Hd.fun_of F11⟩,
    ⟨_, _, _, Hd.prop_ok (c.fact 16 (f := g16) rfl), Hd.fun_of F12⟩,
    ⟨He.ga K "Form", _, _, He.meth_ok (c.fact 17 (f := g17) rfl), Hd.fun_of F13⟩,
    ⟨_, _, He.glo_ok X G (c.fact 18 (f := g18) rfl), Hd.fun_of F14⟩,
    ⟨_, _, He.glo_ok X G (c.fact 19 (f := g19) rfl), Hd.fun_of F15⟩,
    ⟨_, _, He.glo_ok X G (c.fact 20 (f := g20) rfl), Hd.fun_of F16⟩,
    ⟨_, _, He.glo_ok X G (c.fact 21 (f := g21) rfl), Hd.fun_of F17⟩,
    ⟨_, _, He.glo_ok X G (c.fact 22 (f := g22) rfl), Hd.fun_of F18⟩,
    ⟨_, _, He.glo_ok X G (c.fact 23 (f := g23) rfl), Hd.fun_of F19⟩,
    ⟨_, _, He.glo_ok X G (c.fact 24 (f := g24) rfl), Hd.fun_of F20⟩,
    ⟨_, _, He.glo_ok X G (c.fact 25 (f := g25) rfl), Hd.fun_of F21⟩,
    ⟨_, _, He.glo_ok X G (c.fact 26 (f := g26) rfl), Hd.fun_of F22⟩,
    ⟨_, _, He.glo_ok X G (c.fact 27 (f := g27) rfl), Hd.fun_of F23⟩,
    ⟨_, _, He.glo_ok X G (c.fact 28 (f := g28) rfl), Hd.fun_of F24⟩,
    ⟨_, _, He.glo_ok X G (c.fact 29 (f := g29) rfl), Hd.fun_of F25⟩,
    ⟨_, _, He.glo_ok X G (c.fact 30 (f := g30) rfl), Hd.fun_of F26⟩,
    ⟨_, _, He.glo_ok X G (c.fact 31 (f := g31) rfl), Hd.fun_of F27⟩,
    ⟨_, _, He.glo_ok X G (c.fact 32 (f := g32) rfl), Hd.fun_of F28⟩,
    ⟨_, _, He.glo_ok X G (c.fact 33 (f := g33) rfl), Hd.fun_of F29⟩,
    ⟨_, _, He.glo_ok X G (c.fact 34 (f := g34) rfl), Hd.fun_of F30⟩,
    ⟨_, _, He.glo_ok X G (c.fact 35 (f := g35) rfl), Hd.fun_of F31⟩,
    ⟨_, _, He.glo_ok X G (c.fact 36 (f := g36) rfl), Hd.fun_of F32⟩,
    He.free_ok X G (c.fact 37 (f := g37) rfl),
    He.free_ok X G (c.fact 38 (f := g38) rfl),
    He.free_ok X G (c.fact 39 (f := g39) rfl),
    He.free_ok X G (c.fact 40 (f := g40) rfl),
    He.free_ok X G (c.fact 41 (f := g41) rfl),
    He.free_ok X G (c.fact 42 (f := g42) rfl),
    He.free_ok X G (c.fact 43 (f := g43) rfl),
    He.free_ok X G (c.fact 44 (f := g44) rfl),
    He.free_ok X G (c.fact 45 (f := g45) rfl),
    He.free_ok X G (c.fact 46 (f := g46) rfl),
    He.int_ok X G (c.fact 47 (f := g47) rfl),
    He.int_ok X G (c.fact 48 (f := g48) rfl)⟩
  have e := hfa.symm.trans (He.glo_ok X G (c.fact 36 (f := g36) rfl))
  cases e
  have b := FunD.bindsA (ps := ["_law_script"]) F32 fun _ _ _ _ _ _ us hl => match us, hl with | [_], _ => rfl
  exact ⟨fd32, fun s v => b s [v] rfl, fun base _ _ => ok_law0 (P := P) (w := w) (base := base) T (Hd.fun_of F32)⟩
end TF
open PySem PySem.W PySem.Calls PyProof.Rows
set_option maxHeartbeats 0 in
theorem PySem.Challenge.cw_formrings_k28_ways_judged_holds : PySem.Challenge.rw_formrings_k28_ways_judged.Holds := by
  w_on; o_law
  refine HandSHeadRun.head_any (r := OpenLaw.row PySem.Challenge.rw_formrings_k28_ways_judged) (q := TF.vw) (H := TF.hk) (ob := TF.ob) (M := 12000) (loose := TF.names) (d := HandSHeadRun.topDef (OpenLaw.row PySem.Challenge.rw_formrings_k28_ways_judged).prog 51) (kwd := []) TF.ob_eq (by kernel_rfl) (fun s => by kernel_rfl) TF.run (by kernel_rfl) (by kernel_rfl) (by kernel_rfl) (by rfl) (by first | assumption | decide +kernel) (by decide +kernel) ⟨rfl, rfl, rfl, rfl, rfl, by decide +kernel⟩ ?hw ?hc
  case hw => w_witness2
  case hc =>
    refine L2.walk_ofE (l := PySem.Challenge.rw_formrings_k28_ways_judged) (n := 63) (k := 9) (x := "_law_script") (CX := L2.CX0) rfl (by decide) (by kernel_rfl) ⟨rfl, by decide, by decide⟩ ?F (fun _ _ _ _ z => z)
    intro w mg fa h Y G hmg0
    obtain ⟨K, KX, c⟩ := Y
    have hmg : mg ("law" : PySem.Str) = some (.ref fa) := by
      have e : (HandSHeadRun.topDef (OpenLaw.row PySem.Challenge.rw_formrings_k28_ways_judged).prog 51).name = ("law" : PySem.Str) := by kernel_rfl
      rw [← e]
      exact hmg0
    obtain ⟨fd, hb, hF⟩ := TF.facts (P := (PySem.Challenge.rw_formrings_k28_ways_judged).prog) (w := w) KX G hmg c
    exact ⟨K, fd, TF.sp_lawW K, KX, hb, fun H a ns hl _ hS => ⟨a, ns, rfl, hS, hl, fun _ => rfl⟩, hF⟩
