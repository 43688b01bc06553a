import PyProof.Rows.All
import Wide.All
import OpenK.AllK
import Wide.FinOn
import HandS.ForMost
import HandS.Wide
import HandS.WideBits
import HandS.Gcd
import HandS.IsInst
import HandS.Style
import HandS.Evl
import Flt.RightSqrt
import HandS.More
import HandS.OwnEq
import HandS.Property
import HandS.Star
import KE.KOpsOwn
import HandS.ForExc
import HandS.HeadHook1
import HandS.Walk
import HandS.Zip
import KE.GoesEnum
import HandS.SortRule
import HandS.List
import HandS.Deep
import HandS.Defaults
import HandS.TupMul
import HandS.TupAny
import HandS.TryOnly
import HandS.Text
import HandS.FStr
import HandS.RaiseMore
import HandS.Sort
import KE.IntBitsLaws
import KE.KStateDown
import HandS.Base
import HandS.Call
import HandS.Ends
import HandS.Words
import HandS.Head0
import HandS.Head1
import HandS.Head2
import HandS.Head3
import HandS.HeadEnd
import HandS.HeadHook2
import PySem.Challenge.RW_formrings_k39_whole_roots_and_heavy_plac
set_option Elab.async false
set_option linter.all false
set_option maxRecDepth 100000
set_option maxHeartbeats 4000000
namespace Fr
open PySem PySem.Spec PyProof.Rows L2
open Evl (Ex)
def Def (P : Program) (w : World) (K : PySem.W.Frag) (mg : Str → Option Value) (base : Heap) (k : Nat) (x : Str) (ps : List Str) (sp : Sp) : Prop :=
  ∃ f fd, mg x = some (.ref f) ∧ PySem.W.keepIn K (.ref f) = true ∧ Binds K fd ps [] ∧ FnOk P w K mg base CX0 k f fd ps sp
structure Fm (S : Addr → Prop) (I : Hp → Prop) : Prop where
  fresh : ∀ {H D}, I H → H D = none → ¬ S D
  stay : ∀ {H D o}, ¬ S D → I H → I (upd H D o)
def Fx (S : Addr → Prop) (I : Hp → Prop) (H H' : Hp) : Prop := I H' ∧ ∀ b o, ¬ S b → H b = some o → H' b = some o
section
variable {S : Addr → Prop} {I : Hp → Prop} {H H1 H2 : Hp}
theorem Fx.refl (i : I H) : Fx S I H H := ⟨i, fun _ _ _ h => h⟩
theorem Fx.trans (a : Fx S I H H1) (b : Fx S I H1 H2) : Fx S I H H2 := ⟨b.1, fun x o n h => b.2 x o n (a.2 x o n h)⟩
theorem Fx.new (m : Fm S I) (i : I H) {p : Addr} {o : HO} (h : H p = none) : Fx S I H (upd H p o) := ⟨m.stay (m.fresh i h) i, fun b u _ e => by
  rw [upd_ne (ne_of_none e h)]
  exact e⟩
theorem Fx.mut (m : Fm S I) (a : Fx S I H H1) (i : I H) {p : Addr} {o : HO} (h : H p = none) : Fx S I H (upd H1 p o) := ⟨m.stay (m.fresh i h) a.1, fun b u n e => by
  rw [upd_ne (ne_of_none e h)]
  exact a.2 b u n e⟩
theorem Fx.at (a : Fx S I H H1) {p : Addr} {o : HO} (n : ¬ S p) (h : H p = some o) : H1 p = some o := a.2 p o n h
theorem Fx.sqT {K : PySem.W.Frag} (a : Fx S I H H1) {p : Addr} {xs : List V} (n : ¬ S p) (h : SqT K H p xs) : SqT K H1 p xs := by
  rcases h with (h | ⟨o, h⟩) | h
  · exact .inl (.inl (a.2 _ _ n h))
  · exact .inl (.inr ⟨o, a.2 _ _ n h⟩)
  · exact .inr h
theorem Fx.sqL {K : PySem.W.Frag} (a : Fx S I H H1) {p : Addr} {xs : List V} (n : ¬ S p) (h : SqL K H p xs) : SqL K H1 p xs := by
  rcases h with (h | ⟨o, h⟩) | h
  · exact .inl (.inl (a.2 _ _ n h))
  · exact .inl (.inr ⟨o, a.2 _ _ n h⟩)
  · exact .inr h
theorem Fx.free (a : Fx S I H H1) {p : Addr} (n : ¬ S p) (h : H1 p = none) : H p = none := by
  cases e : H p with
  | none => rfl
  | some o => rw [a.2 p o n e] at h; cases h
theorem Fx.free' (m : Fm S I) (a : Fx S I H H1) {p : Addr} (h : H1 p = none) : H p = none := a.free (m.fresh a.1 h) h
end
abbrev S0 : Addr → Prop := fun _ => False
abbrev I0 : Hp → Prop := fun _ => True
theorem fm0 : Fm S0 I0 := ⟨fun _ _ h => h, fun _ _ => trivial⟩
abbrev Ex0 : Hp → Hp → Prop := Fx S0 I0
theorem Ex0.of {H H' : Hp} (h : ∀ b o, H b = some o → H' b = some o) : Ex0 H H' := ⟨trivial, fun b o _ e => h b o e⟩
theorem Ex0.ap {H H' : Hp} (h : Ex0 H H') {b : Addr} {o : HO} (e : H b = some o) : H' b = some o := h.2 b o (fun z => z) e
theorem Ex0.refl (H : Hp) : Ex0 H H := Fx.refl trivial
theorem Ex0.new {H : Hp} {p : Addr} {o : HO} (h : H p = none) : Ex0 H (upd H p o) := Fx.new fm0 trivial h
def Cs (S : Addr → Prop) (I : Hp → Prop) (H : Hp) (P : Nat → List V → Hp → Prop) (D : Addr) (i : Nat) (H' : Hp) : Prop := Fx S I H H' ∧ ∃ acc, H' D = some (.lst acc) ∧ acc.length ≤ i ∧ P i acc H'
section
variable {K : PySem.W.Frag} {S : Addr → Prop} {I : Hp → Prop} {σ : L2.St} {H : Hp} {Q : Addr → Hp → Prop} {te : TE} {vs : List Nat} {g : TG} {tt : TT} {P : Nat → List V → Hp → Prop}
theorem cs_yes (m : Fm S I) (i0 : I H) {D : Addr} {i : Nat} {acc : List V} {H' H4 : Hp} {y : V} (hD : H D = none) (p1 : Fx S I H H') (p2 : H' D = some (.lst acc)) (p3 : acc.length ≤ i) (hi : i < 1000000) (e : Fx S I H' H4) (h : P (i + 1) (acc ++ [y]) (upd H4 D (.lst (acc ++ [y])))) :
    ∃ acc', H4 D = some (.lst acc') ∧ acc'.length < sizeLine ∧ Cs S I H P D (i + 1) (upd H4 D (.lst (acc' ++ [y]))) :=
  ⟨acc, e.2 _ _ (m.fresh i0 hD) p2, Nat.lt_of_le_of_lt p3 (Nat.lt_of_lt_of_le hi (by decide)), Fx.mut m (p1.trans e) i0 hD, _, upd_same, by rw [List.length_append]; exact Nat.add_le_add_right p3 1, h⟩
theorem cs_no (m : Fm S I) (i0 : I H) {D : Addr} {i : Nat} {acc : List V} {H' H4 : Hp} (hD : H D = none) (p1 : Fx S I H H') (p2 : H' D = some (.lst acc)) (p3 : acc.length ≤ i) (e : Fx S I H' H4) (h : P (i + 1) acc H4) : Cs S I H P D (i + 1) H4 :=
  ⟨p1.trans e, acc, e.2 _ _ (m.fresh i0 hD) p2, Nat.le_succ_of_le p3, h⟩
theorem lcT (m : Fm S I) (i0 : I H) {a : Addr} {xs : List V} (hx : SqT K H a xs) (ha : ¬ S a) (P : Nat → List V → Hp → Prop) (p0 : ∀ D, H D = none → P 0 [] (upd H D (.lst [])))
    (hs : ∀ D i x acc H', H D = none → xs[i]? = some x → Fx S I H H' → H' D = some (.lst acc) → acc.length ≤ i → P i acc H' → g x (wipe σ vs) H' fun σ2 H2 => wipe σ2 vs = wipe σ vs ∧ tt σ2 H2 fun b H3 =>
      if b = true then te σ2 H3 fun y H4 => ∃ acc, H4 D = some (.lst acc) ∧ acc.length < sizeLine ∧ Cs S I H P D (i + 1) (upd H4 D (.lst (acc ++ [y]))) else Cs S I H P D (i + 1) H3)
    (q : ∀ D H' acc, H D = none → Fx S I H H' → H' D = some (.lst acc) → P xs.length acc H' → Q D H') :
    ∀ D, H D = none → ∃ W : Nat → Nat → Hp → Prop, (∃ m, W 0 m (upd H D (.lst []))) ∧ ∀ i m H, W i m H →
      ((Itt K a).stop i H ∧ Q D H) ∨ ((Itt K a).go i H ∧ ∃ Nx : Hp → Prop, (∀ H', Nx H' → ∃ m', m' < m ∧ W (i + 1) m' H') ∧ ∀ x H', (Itt K a).yld i H x H' → g x (wipe σ vs) H' fun σ2 H2 => wipe σ2 vs = wipe σ vs ∧ tt σ2 H2 fun b H3 =>
        if b = true then te σ2 H3 fun y H4 => ∃ acc, H4 D = some (.lst acc) ∧ acc.length < sizeLine ∧ Nx (upd H4 D (.lst (acc ++ [y]))) else Nx H3) := fun D hD =>
  lc_tup (xs := xs) (Cs S I H P D) ⟨Fx.new m i0 hD, [], upd_same, Nat.le_refl _, p0 D hD⟩ (fun i H' _ p => p.1.sqT ha hx)
    (fun i x H' hi p => by
      obtain ⟨p1, acc, p2, p3, p4⟩ := p
      exact hs D i x acc H' hD hi p1 p2 p3 p4)
    (fun H' p => by
      obtain ⟨p1, acc, p2, p3, p4⟩ := p
      exact q D H' acc hD p1 p2 p4)
theorem lcL (m : Fm S I) (i0 : I H) {a : Addr} {xs : List V} (hx : SqL K H a xs) (ha : ¬ S a) (P : Nat → List V → Hp → Prop) (p0 : ∀ D, H D = none → P 0 [] (upd H D (.lst [])))
    (hs : ∀ D i x acc H', H D = none → xs[i]? = some x → Fx S I H H' → H' D = some (.lst acc) → acc.length ≤ i → P i acc H' → g x (wipe σ vs) H' fun σ2 H2 => wipe σ2 vs = wipe σ vs ∧ tt σ2 H2 fun b H3 =>
      if b = true then te σ2 H3 fun y H4 => ∃ acc, H4 D = some (.lst acc) ∧ acc.length < sizeLine ∧ Cs S I H P D (i + 1) (upd H4 D (.lst (acc ++ [y]))) else Cs S I H P D (i + 1) H3)
    (q : ∀ D H' acc, H D = none → Fx S I H H' → H' D = some (.lst acc) → P xs.length acc H' → Q D H') :
    ∀ D, H D = none → ∃ W : Nat → Nat → Hp → Prop, (∃ m, W 0 m (upd H D (.lst []))) ∧ ∀ i m H, W i m H →
      ((Itl K a).stop i H ∧ Q D H) ∨ ((Itl K a).go i H ∧ ∃ Nx : Hp → Prop, (∀ H', Nx H' → ∃ m', m' < m ∧ W (i + 1) m' H') ∧ ∀ x H', (Itl K a).yld i H x H' → g x (wipe σ vs) H' fun σ2 H2 => wipe σ2 vs = wipe σ vs ∧ tt σ2 H2 fun b H3 =>
        if b = true then te σ2 H3 fun y H4 => ∃ acc, H4 D = some (.lst acc) ∧ acc.length < sizeLine ∧ Nx (upd H4 D (.lst (acc ++ [y]))) else Nx H3) := fun D hD =>
  lc_list (xs := xs) (Cs S I H P D) ⟨Fx.new m i0 hD, [], upd_same, Nat.le_refl _, p0 D hD⟩ (fun i H' _ p => p.1.sqL ha hx)
    (fun i x H' hi p => by
      obtain ⟨p1, acc, p2, p3, p4⟩ := p
      exact hs D i x acc H' hD hi p1 p2 p3 p4)
    (fun H' p => by
      obtain ⟨p1, acc, p2, p3, p4⟩ := p
      exact q D H' acc hD p1 p2 p4)
theorem lcR (m : Fm S I) (i0 : I H) {lo : Int} {n : Nat} (P : Nat → List V → Hp → Prop) (p0 : ∀ D, H D = none → P 0 [] (upd H D (.lst [])))
    (hs : ∀ D i acc H', H D = none → i < n → Fx S I H H' → H' D = some (.lst acc) → acc.length ≤ i → P i acc H' → g (.int (lo + i)) (wipe σ vs) H' fun σ2 H2 => wipe σ2 vs = wipe σ vs ∧ tt σ2 H2 fun b H3 =>
      if b = true then te σ2 H3 fun y H4 => ∃ acc, H4 D = some (.lst acc) ∧ acc.length < sizeLine ∧ Cs S I H P D (i + 1) (upd H4 D (.lst (acc ++ [y]))) else Cs S I H P D (i + 1) H3)
    (q : ∀ D H' acc, H D = none → Fx S I H H' → H' D = some (.lst acc) → P n acc H' → Q D H') :
    ∀ D, H D = none → ∃ W : Nat → Nat → Hp → Prop, (∃ m, W 0 m (upd H D (.lst []))) ∧ ∀ i m H, W i m H →
      ((Itr lo n).stop i H ∧ Q D H) ∨ ((Itr lo n).go i H ∧ ∃ Nx : Hp → Prop, (∀ H', Nx H' → ∃ m', m' < m ∧ W (i + 1) m' H') ∧ ∀ x H', (Itr lo n).yld i H x H' → g x (wipe σ vs) H' fun σ2 H2 => wipe σ2 vs = wipe σ vs ∧ tt σ2 H2 fun b H3 =>
        if b = true then te σ2 H3 fun y H4 => ∃ acc, H4 D = some (.lst acc) ∧ acc.length < sizeLine ∧ Nx (upd H4 D (.lst (acc ++ [y]))) else Nx H3) := fun D hD =>
  lc_range (lo := lo) (n := n) (Cs S I H P D) ⟨Fx.new m i0 hD, [], upd_same, Nat.le_refl _, p0 D hD⟩
    (fun i H' hi p => by
      obtain ⟨p1, acc, p2, p3, p4⟩ := p
      exact hs D i acc H' hD hi p1 p2 p3 p4)
    (fun H' p => by
      obtain ⟨p1, acc, p2, p3, p4⟩ := p
      exact q D H' acc hD p1 p2 p4)
end
theorem log_lt {i : Int} {a : Nat} (h : i.natAbs < 2 ^ a) (h0 : 0 < a) : i.natAbs.log2 < a := by
  by_cases z : i.natAbs = 0
  · rw [z]
    exact h0
  · exact (Nat.log2_lt z).mpr h
theorem mw {i j : Int} (h1 : -(2 ^ 250) < i) (h2 : i < 2 ^ 250) (h3 : -(2 ^ 250) < j) (h4 : j < 2 ^ 250) : CMulW i j :=
  wide_mul (a := 250) (b := 250) (by omega) (by omega) (by decide) (by decide) (by decide)
theorem dw {i j : Int} (h : 0 < j) (h4 : j < 2 ^ 250) : CDivW i j := wide_div (b := 250) h (by omega) (by decide) (by decide)
theorem iteB {b : Bool} {A B : Prop} (h1 : b = true → A) (h2 : b = false → B) : if b = true then A else B := by
  cases b with
  | true => rw [if_pos rfl]; exact h1 rfl
  | false => rw [if_neg Bool.false_ne_true]; exact h2 rfl
theorem iteD {c : Prop} [Decidable c] {A B : Prop} (h1 : c → A) (h2 : ¬ c → B) : if decide c = true then A else B :=
  iteB (fun h => h1 (of_decide_eq_true h)) (fun h => h2 (of_decide_eq_false h))
theorem iteN {c : Prop} [Decidable c] {A B : Prop} (h1 : ¬ c → A) (h2 : c → B) : if (!decide c) = true then A else B := by
  by_cases h : c
  · rw [decide_eq_true h]; exact iteF (h2 h)
  · rw [decide_eq_false h]; exact iteT (h1 h)
theorem dT {c : Prop} [Decidable c] {A B : Prop} (h : c) (a : A) : if decide c = true then A else B := by rw [decide_eq_true h, if_pos rfl]; exact a
theorem dF {c : Prop} [Decidable c] {A B : Prop} (h : ¬ c) (a : B) : if decide c = true then A else B := by rw [decide_eq_false h, if_neg Bool.false_ne_true]; exact a
theorem ndT {c : Prop} [Decidable c] {A B : Prop} (h : ¬ c) (a : A) : if (!decide c) = true then A else B := by rw [decide_eq_false h]; exact iteT a
theorem ndF {c : Prop} [Decidable c] {A B : Prop} (h : c) (a : B) : if (!decide c) = true then A else B := by rw [decide_eq_true h]; exact iteF a
theorem sl1 : 1 ≤ sizeLine := by decide
theorem sl2 : 2 ≤ sizeLine := by decide
theorem sl3 : 3 ≤ sizeLine := by decide
theorem sl4 : 4 ≤ sizeLine := by decide
theorem sl5 : 5 ≤ sizeLine := by decide
theorem sl6 : 6 ≤ sizeLine := by decide
theorem sl8 : 8 ≤ sizeLine := by decide
theorem slN {n : Nat} (h : n ≤ 1000000) : n ≤ sizeLine := Nat.le_trans h (by decide)
section
variable {X : Cx}
def rIsqrt : List V → Hp → VK → Prop := fun vs H Q => ∃ a : Int, vs = [.int a] ∧ 0 ≤ a ∧ a < 2 ^ 64 ∧ ∀ r : Int, 0 ≤ r → r * r ≤ a → a < (r + 1) * (r + 1) → Q (.int r) H
theorem cr_isqrt : CallR X (.builtin "math.isqrt") rIsqrt := by
  intro pins s σ H vs us Q I r h
  obtain ⟨a, rfl, h0, h1, q⟩ := h
  obtain ⟨u, rfl, ru⟩ := Vals.one r
  obtain ⟨t, rfl⟩ := ru
  have sp := PySem.Float64.isqrt_spec a.toNat
  refine PySem.W.mg_isqrt h0 h1 ⟨.int _, H, I.tok _, ⟨_, rfl⟩, q _ (Int.natCast_nonneg _) ?_ ?_⟩
  · have := sp.1
    have e : ((Float64.isqrt a.toNat * Float64.isqrt a.toNat : Nat) : Int) ≤ (a.toNat : Int) := Int.ofNat_le.mpr this
    rw [Int.toNat_of_nonneg h0] at e
    simpa using e
  · have := sp.2
    have e : (a.toNat : Int) < (((Float64.isqrt a.toNat + 1) * (Float64.isqrt a.toNat + 1) : Nat) : Int) := Int.ofNat_lt.mpr this
    rw [Int.toNat_of_nonneg h0] at e
    simpa using e
end
end Fr
namespace Fr
open PySem PySem.Spec PyProof.Rows L2
section
variable {X : Cx}
def CPowC (i j : Int) : Prop := 0 ≤ j ∧ (Builtin.Int.intBits i : Int) * j ≤ 2 ^ 27
theorem op_powC : OpR X (binaryOp .Pow) (rI CPowC fun i j => .int (i ^ j.toNat)) := opI fun _ _ _ _ _ _ _ hc q => PyProof.Rows.pow_int hc.1 hc.2 q
end
end Fr
namespace Fr
open PySem PySem.Spec PyProof.Rows L2
theorem deI {i j : Int} : decide (V.int i = V.int j) = decide (i = j) := by
  rw [dec_int]
  rfl
theorem iteE {i j : Int} {A B : Prop} (h1 : i = j → A) (h2 : i ≠ j → B) : if decide (V.int i = V.int j) = true then A else B := by
  rw [deI]
  exact iteD h1 h2
theorem iteEn {i j : Int} {A B : Prop} (h1 : i ≠ j → A) (h2 : i = j → B) : if (!decide (V.int i = V.int j)) = true then A else B := by
  rw [deI]
  exact iteN h1 h2
end Fr
namespace Fr
open PySem PySem.Spec PyProof.Rows L2
def inb (lo hi : Int) : V → Bool
  | .int i => decide (lo ≤ i) && decide (i ≤ hi)
  | _ => false
theorem in_b {lo hi : Int} {xs : List V} {v : V} (hv : v ∈ xs) (h : xs.all (inb lo hi) = true) : ∃ f : Int, v = .int f ∧ lo ≤ f ∧ f ≤ hi := by
  have := List.all_eq_true.mp h v hv
  cases v with
  | int i =>
    unfold inb at this
    rw [Bool.and_eq_true, decide_eq_true_iff, decide_eq_true_iff] at this
    exact ⟨i, rfl, this.1, this.2⟩
  | _ => cases this
theorem shaped_ints (ns : List Int) : SeqAt.shaped (.list (ns.map .int)) = true := by
  have h : PyData.canLayAll0 (ns.map PyData.int) = true ∧ PyData.depthAll (ns.map PyData.int) ≤ 1 := by
    induction ns with
    | nil => exact ⟨rfl, by simp [PyData.depthAll]⟩
    | cons n r ih =>
      refine ⟨?_, ?_⟩
      · rw [List.map_cons, PyData.canLayAll0, PyData.canLay0, ih.1]; rfl
      · rw [List.map_cons, PyData.depthAll, PyData.depth]; exact Nat.max_le.mpr ⟨by decide, ih.2⟩
  unfold SeqAt.shaped
  rw [PyData.canLay0, PyData.depth, h.1]
  simp
  omega
theorem dp_ints {K : PySem.W.Frag} {H : Hp} : ∀ ns : List Int, DpAll K H (ns.map V.int) (ns.map PyData.int)
  | [] => .nil
  | n :: r => .cons (.int n) (dp_ints r)
theorem eqv_ints : ∀ ns ms : List Int, PyData.eqvAll (ns.map PyData.int) (ms.map PyData.int) = decide (ns = ms)
  | [], [] => rfl
  | [], m :: ms => rfl
  | n :: ns, [] => rfl
  | n :: ns, m :: ms => by
    rw [List.map_cons, List.map_cons, PyData.eqvAll, PyData.eqv, eqv_ints ns ms]
    apply Bool.eq_iff_iff.mpr
    simp
def pr2 (q : Nat × Nat) : PyData := .tuple [.int (q.1 : Int), .int (q.2 : Int)]
theorem shaped_prs (fs : List (Nat × Nat)) : SeqAt.shaped (.tuple (fs.map pr2)) = true := by
  have h : PyData.canLayAll0 (fs.map pr2) = true ∧ PyData.depthAll (fs.map pr2) ≤ 2 := by
    induction fs with
    | nil => exact ⟨rfl, by simp [PyData.depthAll]⟩
    | cons n r ih =>
      refine ⟨?_, ?_⟩
      · rw [List.map_cons, PyData.canLayAll0, ih.1]; simp [pr2, PyData.canLay0, PyData.canLayAll0]
      · rw [List.map_cons, PyData.depthAll]; exact Nat.max_le.mpr ⟨by simp [pr2, PyData.depth, PyData.depthAll], ih.2⟩
  unfold SeqAt.shaped
  rw [PyData.canLay0, PyData.depth, h.1]
  simp
  omega
theorem eqv_prs : ∀ fs gs : List (Nat × Nat), PyData.eqvAll (fs.map pr2) (gs.map pr2) = decide (fs = gs)
  | [], [] => rfl
  | [], m :: ms => rfl
  | n :: ns, [] => rfl
  | (a, b) :: ns, (c, d) :: ms => by
    rw [List.map_cons, List.map_cons, PyData.eqvAll, eqv_prs ns ms]
    apply Bool.eq_iff_iff.mpr
    simp [pr2, PyData.eqv, PyData.eqvAll]
    omega
end Fr
namespace Fr
open PySem PySem.Spec PyProof.Rows L2
def B (a : Nat) (i : Int) : Prop := i.natAbs < 2 ^ a ∧ 0 < a
theorem two_pow_two {a : Nat} (h : 0 < a) : 2 ≤ 2 ^ a := by
  obtain ⟨k, rfl⟩ : ∃ k, a = k + 1 := ⟨a - 1, by omega⟩
  rw [Nat.pow_succ]
  have := Nat.two_pow_pos k
  omega
theorem pow_sum {a b : Nat} (ha : 0 < a) (hb : 0 < b) : 2 ^ a + 2 ^ b ≤ 2 ^ (a + b) := by
  rw [Nat.pow_add]
  have h1 := two_pow_two ha
  have h2 := two_pow_two hb
  generalize 2 ^ a = x at *
  generalize 2 ^ b = y at *
  have := Nat.mul_le_mul h1 (Nat.le_refl y)
  have := Nat.mul_le_mul (Nat.le_refl x) h2
  rcases Nat.le_total x y with h | h <;> omega
theorem B.mul {a b : Nat} {i j : Int} (h1 : B a i) (h2 : B b j) : B (a + b) (i * j) := ⟨wide_lt h1.1 h2.1, Nat.add_pos_left h1.2 _⟩
theorem B.add {a b : Nat} {i j : Int} (h1 : B a i) (h2 : B b j) : B (a + b) (i + j) :=
  ⟨Nat.lt_of_lt_of_le (by have := h1.1; have := h2.1; omega : (i + j).natAbs < 2 ^ a + 2 ^ b) (pow_sum h1.2 h2.2), Nat.add_pos_left h1.2 _⟩
theorem B.sub {a b : Nat} {i j : Int} (h1 : B a i) (h2 : B b j) : B (a + b) (i - j) :=
  ⟨Nat.lt_of_lt_of_le (by have := h1.1; have := h2.1; omega : (i - j).natAbs < 2 ^ a + 2 ^ b) (pow_sum h1.2 h2.2), Nat.add_pos_left h1.2 _⟩
theorem B.neg {a : Nat} {i : Int} (h1 : B a i) : B a (-i) := ⟨by rw [Int.natAbs_neg]; exact h1.1, h1.2⟩
theorem B.lit {i : Int} (h : i.natAbs < 2 ^ 64) : B 64 i := ⟨h, by decide⟩
theorem B.mono {a b : Nat} {i : Int} (h : B a i) (hab : a ≤ b) : B b i := ⟨Nat.lt_of_lt_of_le h.1 (Nat.pow_le_pow_right (by decide) hab), Nat.lt_of_lt_of_le h.2 hab⟩
theorem mulB {a b : Nat} {i j : Int} (h1 : B a i) (h2 : B b j) (h : a + b ≤ 1000000) : CMulW i j := wide_mul h1.1 h2.1 h1.2 h2.2 h
end Fr
namespace Fr
open PySem PySem.Spec PyProof.Rows L2
theorem shaped_tints (ns : List Int) : SeqAt.shaped (.tuple (ns.map .int)) = true := by
  have h : PyData.canLayAll0 (ns.map .int) = true ∧ PyData.depthAll (ns.map .int) ≤ 1 := by
    induction ns with
    | nil => exact ⟨rfl, by simp [PyData.depthAll]⟩
    | cons n r ih =>
      refine ⟨?_, ?_⟩
      · rw [List.map_cons, PyData.canLayAll0, ih.1]; simp [PyData.canLay0]
      · rw [List.map_cons, PyData.depthAll]; exact Nat.max_le.mpr ⟨by simp [PyData.depth], ih.2⟩
  unfold SeqAt.shaped
  rw [PyData.canLay0, PyData.depth, h.1]
  simp
  omega
end Fr
namespace Fr
open PySem PySem.Spec PyProof.Rows L2
section
variable {M : Model} {prog : Program} {w : World} {A : Around} {E : Value → Shared → Prop} {s : Shared} {K : PySem.W.Frag} {x C f : Addr} {ox : Obj} {od : Option Obj}
theorem ifBound_ne {args : List Value} {Q : Option Value → Shared → Prop} (X : K.In s.heap) (I : PySem.W.InstAt s.heap x ox C od) (hs : PySem.W.findIn K (.ref C) "__ne__" = some (some (.builtin "object.__ne__")))
    (h : wpAny M A (call (.builtin "object.__ne__") (.ref x :: args)) (fun v => Q (some v)) E s) : wpAny M A (callSpecialIfBound? (.ref x) "__ne__" args) Q E s := by
  simp only [callSpecialIfBound?, bindSpecialIfBound?]
  refine wpAny_holding (wpAny_bind (wpAny_bind (wpAny_bind (I.type.here ((PySem.W.looks_findIn X hs).here ?_)))))
  refine wpAny_bind (wpAny_askSetting (wpAny_ite ?_))
  have fin : wpAny M A (call (.builtin "object.__ne__") ([.ref x] ++ args) >>= fun v => pure (some v)) Q E s := wpAny_bind (wpAny_mono h (fun v s' h' => wpAny_pure h') fun _ _ h' => h')
  split
  · exact wpAny_bind (wpAny_of_eq (F.cmp_object.ne.bind _) (wpAny_pure (by exact fin)))
  · exact wpAny_tryCatch (wpAny_bind (wpAny_of_eq (F.cmp_object.ne.bind _) (wpAny_pure (by exact fin))))
def NeB (Q : Value → Shared → Prop) (v : Value) (s' : Shared) : Prop := ∃ b, v = .bool b ∧ Q (.bool (!b)) s'
theorem entry_ne {b : Value} {Q : Fin → Shared → Prop} (hu : A.units < cLine) (X : K.In s.heap) (I : PySem.W.InstAt s.heap x ox C od) (hs : PySem.W.findIn K (.ref C) "__eq__" = some (some (.ref f))) (hf : PySem.W.isFn K (.ref f) = true)
    (h : wpAny (model prog w) A (call (.ref f) [.ref x, b]) (NeB fun v s' => Q (.done (.ret v)) s') E s) : wpAny (model prog w) A (Builtin.«object.__ne__» ⟨[.ref x, b], []⟩) Q E s := by
  unfold Builtin.«object.__ne__»
  repeat (first | with_reducible refine wpAny_cRoomFor hu ?_ | (refine wpAny_bind (PySem.W.ifBound_K X I hs hf (wpAny_mono h (fun v s' hv => ?_) fun _ _ e => e))) | wp_step)
  all_goals (obtain ⟨b', rfl, q⟩ := hv)
  all_goals (repeat (first | wp_step))
  all_goals exact q
theorem ne_K {h₀ : Heap} {L : Addr} {m : Str → Option Value} {b tb : Value} {Q : Value → Shared → Prop} (hu : A.units + 1 < cLine) (F : Fr h₀ L s.heap m) (X₀ : K.In h₀) (I : PySem.W.InstAt s.heap x ox C od) (hb : PySem.W.Looks (model prog w) s.heap (typeOf b) tb) (hn : PySem.W.notFirst K C tb = true)
    (hne : PySem.W.findIn K (.ref C) "__ne__" = some (some (.builtin "object.__ne__"))) (hs : PySem.W.findIn K (.ref C) "__eq__" = some (some (.ref f))) (hf : PySem.W.isFn K (.ref f) = true) (hm : PySem.W.mroIn K C (.type "object") = some true)
    (h : wpAny (model prog w) A.in1 (call (.ref f) [.ref x, b]) (NeB Q) E s) : wpAny (model prog w) A (richCompare .NotEq (.ref x) b) Q E s := by
  have X := X₀.keeps F.keep
  have one : wpAny (model prog w) A (tryCompare (.ref x) "__ne__" b) (fun r s' => ∃ v, r = some v ∧ Q v s') E s := by
    unfold tryCompare
    refine wpAny_bind (ifBound_ne X I hne (wpAny_call (codeAny_call_builtin PySem.F.cmp_object.ne.plain PySem.F.cmpEntry_ne (PySem.W.check_slot PySem.F.cmpKind_ne PySem.F.cmpSplit_ne (I.type.andThen (PySem.W.looks_mroIn X hm)) (PySem.F.cmpArgs_ne _ _) ?_))))
    refine entry_ne (A := A.in1) hu X I hs hf (wpAny_mono h (fun v s' hv => ?_) fun _ _ e => e)
    obtain ⟨b', rfl, q⟩ := hv
    exact ⟨b', rfl, wpAny_pure ⟨_, rfl, q⟩⟩
  unfold richCompare
  simp only [oneThing_ref]
  refine wpAny_holding (wpAny_bind (wpAny_cRoomFor (Nat.lt_of_succ_lt hu) ?_))
  refine wpAny_bind (I.type.here (wpAny_bind (hb.here ?_)))
  split
  · rename_i q
    have e : PySem.W.subIn K tb (.ref C) = some false := by
      rcases Bool.or_eq_true_iff.mp hn with e | e
      · rw [beq_iff_eq.mp e] at q; simp at q
      · exact beq_iff_eq.mp e
    refine wpAny_bind ((PySem.W.looks_subIn X e).here ?_)
    simp only [Bool.false_eq_true, if_false]
    refine wpAny_bind (wpAny_mono one (fun r s' z => ?_) fun _ _ e => e)
    obtain ⟨v, rfl, hq⟩ := z
    exact wpAny_pure hq
  · refine wpAny_bind (wpAny_pure ?_)
    simp only [Bool.false_eq_true, if_false]
    refine wpAny_bind (wpAny_mono one (fun r s' z => ?_) fun _ _ e => e)
    obtain ⟨v, rfl, hq⟩ := z
    exact wpAny_pure hq
end
section
variable {X : Cx} {CX : CXT} {C f : Addr} {fd : FuncData} {ps : List Str} {k : Nat} {sp : Sp} {E : XK}
structure EqC (K : PySem.W.Frag) (C f : Addr) : Prop where
  eq : PySem.W.findIn K (.ref C) "__eq__" = some (some (.ref f))
  fn : PySem.W.isFn K (.ref f) = true
  ne : PySem.W.findIn K (.ref C) "__ne__" = some (some (.builtin "object.__ne__"))
  mo : PySem.W.mroIn K C (.type "object") = some true
def rEqI (K : PySem.W.Frag) (C : Addr) (sp : Sp) (E : XK) (neg : Bool) : R2 := fun x y H Q => ∃ a dx fs tb, x = .ref a ∧ H a = some (.ins C dx fs) ∧ TyX K H y tb ∧ PySem.W.notFirst K C tb = true ∧ sp [x, y] H (fun v H' => ∃ b, v = .bl b ∧ Q (.bl (if neg = true then !b else b)) H') E
theorem op_eqI (c : EqC X.K C f) (F : FnOk X.prog X.w X.K X.mg X.base CX k f fd ps sp) (hb : Binds X.K fd ps []) (hr : Room k X.A) (hx : Passes CX X E) : OpR X (compareOp .Eq) (rEqI X.K C sp E false) := by
  intro pins s σ H x y v u Q I rx ry h
  obtain ⟨a, dx, fs, tb, rfl, ha, ty, hn, q⟩ := h
  cases (show v = Value.ref a from rx)
  obtain ⟨mA, J, _⟩ := ins_get I.hok ha
  obtain ⟨od, J, _⟩ := J.look
  obtain ⟨m, hF⟩ := I.fr
  obtain ⟨P, kt, hP, _⟩ := kit_of I ry ty
  refine PySem.W.cmp_K (op := .Eq) hr.units0 hF I.ok.mod.kin J (kt.ty _ _ I.kIn hP) hn c.eq c.fn ?_
  refine wpAny_mono (run_fn (us := [.ref a, u]) (vs := [.ref a, y]) F hr hb .nil hx I (.cons rfl (.cons ry .nil)) q) (fun w s' z => ?_) fun _ _ x => x
  obtain ⟨z', H', I', rz, b, rfl, qz⟩ := z
  cases (show w = Value.bool b from rz)
  exact ⟨.bl b, H', I', rfl, qz⟩
theorem op_neI (c : EqC X.K C f) (F : FnOk X.prog X.w X.K X.mg X.base CX k f fd ps sp) (hb : Binds X.K fd ps []) (hr : Room (k + 1) X.A) (hx : Passes CX X E) : OpR X (compareOp .NotEq) (rEqI X.K C sp E true) := by
  intro pins s σ H x y v u Q I rx ry h
  obtain ⟨a, dx, fs, tb, rfl, ha, ty, hn, q⟩ := h
  cases (show v = Value.ref a from rx)
  obtain ⟨mA, J, _⟩ := ins_get I.hok ha
  obtain ⟨od, J, _⟩ := J.look
  obtain ⟨m, hF⟩ := I.fr
  obtain ⟨P, kt, hP, _⟩ := kit_of I ry ty
  refine ne_K (Nat.lt_of_le_of_lt (Nat.add_le_add_left (by decide : 1 ≤ 64) _) hr.units) hF I.ok.mod.kin J (kt.ty _ _ I.kIn hP) hn c.ne c.eq c.fn c.mo ?_
  refine wpAny_call (codeAny_mono ((F.raw hb .nil) X.A.in1 X.stack s H [.ref a, u] [.ref a, y] _ E hr.in1 I.env0.in1 (.cons rfl (.cons ry .nil)) q) fun r s' hq => ?_)
  cases r with
  | error e => exact hx pins σ H s e s' I hq
  | ok fl =>
    cases fl with
    | ret w =>
      obtain ⟨z', H', I', rz, b, rfl, qz⟩ := I.after hq
      cases (show w = Value.bool b from rz)
      exact ⟨b, rfl, .bl (!b), H', I', rfl, qz⟩
    | next => exact False.elim hq
    | brk => exact False.elim hq
    | cont => exact False.elim hq
structure TyI (K : PySem.W.Frag) (C : Addr) : Prop where
  ca : PySem.W.findIn K (.ref C) "__class__" = some (some (.builtin "object.__class__"))
  cn : PySem.W.specialIn K (.builtin "object.__class__") "__get__" = some (some (.builtin "getset_descriptor.__get__"))
  ct : PySem.W.takesIn K (.builtin "object.__class__") = some true
  cm : PySem.W.mroIn K C (.type "object") = some true
theorem ty_ins {K : PySem.W.Frag} {C a dx : Addr} {H : Hp} {fs : List (Str × V)} (t : TyI K C) (cl : Cls K C) (e : H a = some (.ins C dx fs)) : TyX K H (.ref a) (.ref C) := .base (.ins e cl t.ca t.cn t.ct t.cm)
theorem first_self {K : PySem.W.Frag} {C : Addr} : PySem.W.notFirst K C (.ref C) = true := by simp [PySem.W.notFirst]
theorem kit_self {K : PySem.W.Frag} {C : Addr} : PySem.W.kitOne K (.ref C) (.ref C) = some true := by simp [PySem.W.kitOne]
theorem un_negI (c : Meth X.K C "__neg__" f) (F : FnOk X.prog X.w X.K X.mg X.base CX k f fd ps sp) (hb : Binds X.K fd ps []) (hr : Room k X.A) (hx : Passes CX X E) :
    UnR X (unaryOp .USub) (fun x H Q => ∃ a dx fs, x = .ref a ∧ H a = some (.ins C dx fs) ∧ sp [x] H Q E) := by
  intro pins s σ H x v Q I rx h
  obtain ⟨a, dx, fs, rfl, ha, q⟩ := h
  cases (show v = Value.ref a from rx)
  obtain ⟨mA, J, _⟩ := ins_get I.hok ha
  obtain ⟨od, J, _⟩ := J.look
  obtain ⟨m, hF⟩ := I.fr
  exact PySem.W.ksp_neg hF I.ok.mod.kin J c.at_ c.fn (run_fn (us := [.ref a]) (vs := [.ref a]) F hr hb .nil hx I (.cons rfl .nil) q)
def MDef (R : Addr → Addr → Prop) (P : Program) (w : World) (K : PySem.W.Frag) (mg : Str → Option Value) (base : Heap) (k : Nat) (ps : List Str) (sp : Sp) : Prop :=
  ∃ p f fd, R p f ∧ Binds K fd ps [] ∧ FnOk P w K mg base CX0 k f fd ps sp
end
section
variable {X : Cx} {K : PySem.W.Frag}
theorem call_isiKK (hK : X.K = K) : CallR X (.builtin "isinstance") (rIsi K) := hK ▸ call_isi
end
section
variable {X : Cx}
theorem pi_or {tg l : Expr} {wa wb : TI} (a : PI X tg l wa) (b : PI X tg l wb) : PI X tg l (fun σ H R => wa σ H R ∨ wb σ H R) := ⟨fun pins s σ H R I h => h.elim (fun z => a.run pins s σ H R I z) (fun z => b.run pins s σ H R I z)⟩
end
abbrev XA (K : PySem.W.Frag) (x : Str) : Addr := He.ga K x
structure Xc (K : PySem.W.Frag) (mg : Str → Option Value) (x : Str) (bm : List Value) (newId : String) : Prop where
  g : mg x = some (.ref (XA K x))
  ex : PySem.W.excIn K (XA K x) bm newId = true
  kp : PySem.W.keepIn K (.ref (XA K x)) = true
  sb : PySem.W.subIn K (.ref (XA K x)) (.type "BaseException") = some true
  ty : PySem.W.typeIn K (.ref (XA K x)) = some (.type "type")
  te : PySem.W.exmOne K (.ref (XA K x)) (.ref (XA K x)) = some true
def DefX (P : Program) (w : World) (K : PySem.W.Frag) (mg : Str → Option Value) (base : Heap) (k : Nat) (x : Str) (ps : List Str) (sp : Sp) : Prop :=
  ∃ f fd, mg x = some (.ref f) ∧ PySem.W.keepIn K (.ref f) = true ∧ Binds K fd ps [] ∧ FnOk P w K mg base (L2.CX P w) k f fd ps sp
end Fr
set_option Elab.async false
set_option linter.all false
set_option maxRecDepth 100000
namespace Fr
open PySem PySem.Spec PyProof.Rows L2
set_option maxHeartbeats 1000000 in
theorem meets_en1 {v : Value} {o : Obj} {H : Heap → Prop} (B : Begins v o H) :
    Meets (Builtin.«enumerate.__new__» ⟨[.type "enumerate", v], []⟩) (fun _ R s => H s.heap ∧
      R (.ok (.ret (.ref (s.heap.push o).objs.size))) { s with heap := (s.heap.push o).push { cls := .type "enumerate", data := .fields #[.none, .bool false, .ref s.heap.objs.size, rawInt 0, .none, .none] } }) :=
  .of_wp fun prog w A R s h => by
    obtain ⟨hp, g, d, tk, os⟩ := s; obtain ⟨h1, h⟩ := h
    have hsub := sub_enumerate
    have q1 : ∀ {A' : Around} {E : Value → Shared → Prop} {Q : Value → Shared → Prop}, Q (.ref hp.objs.size) ⟨hp.push o, g, d, tk, os⟩ → wpAny (model prog w) A' (pyIter v) Q E ⟨hp, g, d, tk, os⟩ :=
      fun q => B.iter prog w _ _ ⟨hp, g, d, tk, os⟩ _ h1 q
    wp_walk using q1
    refine wpAny_stack_any fun st => wpAny_pure ?_
    split
    · rename_i c _ _ _ _ _
      cases (c == Value.type "enumerate")
      · wp_walk using q1
        exact ⟨_, rfl, h⟩
      · wp_walk using q1
        exact ⟨_, rfl, h⟩
    · wp_walk using q1
      exact ⟨_, rfl, h⟩
theorem call_en1 {prog : Program} {w : World} {A : Around} {E : Value → Shared → Prop} {s : Shared} {v : Value} {o : Obj} {H : Heap → Prop} {Q : Value → Shared → Prop} (B : Begins v o H) (h1 : H s.heap)
    (h : ∀ h', IsEnum h' (s.heap.objs.size + 1) s.heap.objs.size 0 .none → h'.get? s.heap.objs.size = some o → h'.objs.size = s.heap.objs.size + 2 →
      (∀ b o, s.heap.get? b = some o → h'.get? b = some o) → Q (.ref (s.heap.objs.size + 1)) { s with heap := h' }) :
    wpAny (model prog w) A (call (.type "enumerate") [v]) Q E s := by
  refine callType_new F.called_enumerate (by decide) (F.typeCall_enumerate_1 _) (F.newCall_enumerate_1 _) (fun obj => F.args_object_init_2 obj _) F.entry_enumerate_new (meets_en1 B) ⟨h1, ?_⟩
  have hz : (s.heap.push o).objs.size = s.heap.objs.size + 1 := Heap.size_push ..
  show _ ∧ _
  rw [hz]
  have he : IsEnum ((s.heap.push o).push { cls := .type "enumerate", data := .fields #[.none, .bool false, .ref s.heap.objs.size, rawInt 0, .none, .none] }) (s.heap.objs.size + 1) s.heap.objs.size 0 .none := by
    have := Heap.get?_push_size (s.heap.push o) (o := { cls := .type "enumerate", data := .fields #[.none, .bool false, .ref s.heap.objs.size, rawInt 0, .none, .none] }) rfl
    rw [hz] at this; exact this
  exact ⟨⟨_, he, rfl⟩, h _ he (Heap.get?_push_of_some _ (Heap.get?_push_size _ B.free)) (by rw [Heap.size_push, hz]) fun b o x => Heap.get?_push_of_some _ (Heap.get?_push_of_some _ x)⟩
def IteT (K : PySem.W.Frag) (a : Addr) : It :=
  ⟨fun i H => ∃ (xs : List V) (x : V), SqT K H a xs ∧ xs[i]? = some x, fun i H v H' => ∃ T x, v = .ref T ∧ H T = none ∧ H' = upd H T (.tup [.int (i : Nat), x]) ∧ ∀ xs, SqT K H a xs → xs[i]? = some x, fun i H => ∃ xs : List V, SqT K H a xs ∧ xs.length = i⟩
theorem turn_enumT {P : Program} {w : World} {K : PySem.W.Frag} {elts : List Expr} {kk : Nat} {tpos : Pos} (a e it : Addr) (hae : a ≠ it) :
    Turn P w K (.Tuple elts kk tpos) (IteT K a) [e, it] e (fun i h => (∃ old, IsEnum h e it ((i : Nat) : Int) old) ∧ h.IsTupleIter it a i ∧ e ≠ it) where
  mem := by simp
  obj := fun i h st b hb => by
    obtain ⟨⟨old, he⟩, ⟨o, ho, hc, hd⟩, _⟩ := st
    have e' : b = e ∨ b = it := by simpa using hb
    rcases e' with z | z
    · rw [z]; exact ⟨_, he, fun v q => nomatch q⟩
    · rw [z]; exact ⟨o, ho, fun v q => by rw [hd] at q; cases q⟩
  keep := fun i h h' st k => let ⟨⟨old, he⟩, hi, hne⟩ := st; ⟨⟨old, k e (by simp) _ he⟩, hi.at fun o q => k it (by simp) o q, hne⟩
  item := by
    intro X hP hw hK hc i pins s σ H E I hf st hg
    subst hP hw hK
    obtain ⟨⟨old, he⟩, hit, hne⟩ := st
    obtain ⟨xs, x, hq, hx⟩ := hg
    obtain ⟨its, rv, p, hz⟩ := I.tuple hq
    obtain ⟨u, hu, ru⟩ := rv.get hx
    have hel : e < s.heap.objs.size := Heap.lt_size he
    have hi : i < its.toArray.size := by
      have := (List.getElem?_eq_some_iff.mp hu).1
      simpa using this
    have hea : e ∉ [it, a] := fun z => by
      have z' : e = it ∨ e = a := by simpa using z
      rcases z' with z | z
      · exact hne z
      · obtain ⟨o, ho, hc', _⟩ := id p
        rw [← z, he] at ho
        cases ho
        injection hc' with z2
        exact absurd z2 (by decide)
    have D := Draws.tuple (prog := X.prog) (w := X.w) (A := X.A.in1) (I.ok.hd hc) it a hae its.toArray
    refine wpAny_pyNext_enum_itemC D he ⟨hit, p⟩ hi hne hea fun y h' tk hy ho hit' hT hsz hk => ?_
    obtain rfl : u = y := by
      have hu' : its.toArray[i]? = some u := by simpa using hu
      have hy' : its.toArray[i]? = some y := hy
      rw [hu'] at hy'
      exact Option.some.inj hy'
    refine ⟨_, rfl, wpAny_letOwnedTupleGo_enum (s := { s with heap := h', toks := tk + 1 }) ho fun h'' he' sb => ?_⟩
    have hT2 : h''.get? s.heap.objs.size = some { cls := .type "tuple", data := .seq #[.int i tk, u] } := (sb.2 _ (Nat.ne_of_gt hel)).trans hT
    have new : ObjOk X.prog X.w (upd H s.heap.objs.size (.tup [.int (i : Nat), x])) h'' s.heap.objs.size (.tup [.int (i : Nat), x]) :=
      ⟨by show 2 ≤ sizeLine; decide, [.int i tk, u], .cons ⟨_, rfl⟩ (.cons ru .nil), ⟨_, hT2, rfl, _, rfl⟩⟩
    have I1 : Inv X pins σ (upd H s.heap.objs.size (.tup [.int (i : Nat), x])) { s with heap := h'', toks := tk + 1 } :=
      I.turnedNew (ch := [e, it]) (fun b ob hb q => (sb.2 b (fun z => hb (by simp [z]))).trans (hk b ob (fun z => hb (by simp [z])) (fun z => hb (by simp [z])) q)) hf (Nat.le_refl _) new
    refine ⟨.ref s.heap.objs.size, _, I1, rfl, ⟨_, x, rfl, I.hok.fresh (Nat.le_refl _), rfl, fun ys hy => by rw [I.tuple_inj hy hq]; exact hx⟩, ⟨⟨u, ?_⟩, hit'.1.at fun o q => (sb.2 it (Ne.symm hne)).trans q, hne⟩, fun b hb => ?_⟩
    · have e1 : ((i + 1 : Nat) : Int) = (i : Int) + 1 := by omega
      rw [e1]; exact he'
    · have hb' : b < s.heap.objs.size := by
        have e' : b = e ∨ b = it := by simpa using hb
        rcases e' with z | z
        · rw [z]; exact hel
        · rw [z]; obtain ⟨_, q, _⟩ := hit; exact Heap.lt_size q
      rw [upd_ne (Nat.ne_of_lt hb')]
      exact (hf b hb).1
  done := by
    intro X hP hw hK hc i pins s σ H E I hf st hg
    subst hP hw hK
    obtain ⟨⟨old, he⟩, hit, hne⟩ := st
    obtain ⟨xs, hq, hx⟩ := hg
    obtain ⟨its, rv, p, hz⟩ := I.tuple hq
    obtain ⟨f0, f1, f2, f3, f4, f5⟩ := hf it (by simp)
    have hl := rv.length
    have D := Draws.tuple (prog := X.prog) (w := X.w) (A := X.A.in1) (I.ok.hd hc) it a hae its.toArray
    have hi : its.toArray.size = i := by simp; omega
    exact wpAny_pyNext_enum_endD D he (by rw [hi]; exact ⟨hit, p⟩) fun h' eb => ⟨rfl, I.turned (t' := s.toks) (fun b o hb q => eb b o hb q) f0 f1 f3 f4 f5⟩
  self := fun A i s Q E st h => let ⟨⟨_, he⟩, _⟩ := st; wpAny_pyIter_enum he h
def iEnumT (K : PySem.W.Frag) (ta : TA) : TI := fun σ H R => ta σ H fun vs H1 => ∃ a xs, vs = [.ref a] ∧ SqT K H1 a xs ∧ R (IteT K a) H1
theorem pi_enumT {X : Cx} {e : Expr} {ta : TA} {p pos tpos : Pos} {elts : List Expr} {kk : Nat} (hg : Gl X "enumerate") (hm : X.mg "enumerate" = none) (ha : PA X [e] ta) (hs : starEach [e] X.env = [(false, eval e X.env)] := by rfl) :
    PI X (.Tuple elts kk tpos) (.Call (.Name "enumerate" p) [e] [] pos) (iEnumT X.K ta) := by
  refine ⟨fun pins s σ H R I h => ?_⟩
  refine Call_ (ld_blt I hg hm boot_enumerate (PyProof.Rows.callWith_type1 (thn (ha.run pos pins s σ H _ I h) fun us s1 ⟨vs, H1, I1, r1, q1⟩ => ?_) hs rfl))
  obtain ⟨a, xs, ex, hq, q⟩ := q1
  subst ex
  cases r1 with
  | cons r rr =>
    cases rr
    cases r
    obtain ⟨its, rv, p', hz⟩ := I1.tuple hq
    have hal : a < s1.heap.objs.size := by obtain ⟨o, ho, _⟩ := id p'; exact Heap.lt_size ho
    refine call_en1 (begins_tuple a its.toArray) p' fun h' he hit hsz hk => wpAny_pyIter_enum he ?_
    have I2 : Inv X pins σ H1 { s1 with heap := h' } := I1.kept (t' := s1.toks) hk
    refine ⟨s1.heap.objs.size + 1, [s1.heap.objs.size + 1, s1.heap.objs.size], _, _, H1, rfl, I2, turn_enumT a (s1.heap.objs.size + 1) s1.heap.objs.size (Nat.ne_of_lt hal), ⟨⟨.none, he⟩, ⟨_, hit, rfl, rfl⟩, Nat.succ_ne_self _⟩, fun b hb => ?_, q⟩
    have e' : b = s1.heap.objs.size + 1 ∨ b = s1.heap.objs.size := by simpa using hb
    have hle : s1.heap.objs.size ≤ b := by
      rcases e' with z | z
      · rw [z]; exact Nat.le_add_right _ _
      · rw [z]; exact Nat.le_refl _
    exact I1.fpOk hle (I1.hok.fresh hle)
section
variable {K : PySem.W.Frag} {a b : Addr} {xs ys : List V}
theorem walk_enumT : Walk (IteT K a) xs.length (fun H => SqT K H a xs) (YPair (fun i => some (.int (i : Nat))) fun i => xs[i]?) :=
  ⟨fun i _ hi q => ⟨xs, xs[i], q, by simp [hi]⟩, fun _ q => ⟨xs, q, rfl⟩, fun i H v H' _ q y => by
    obtain ⟨T, x, rfl, hT, rfl, f⟩ := y
    exact ⟨T, _, x, rfl, hT, rfl, rfl, f xs q⟩⟩
theorem walk_zipT (hl : xs.length = ys.length) : Walk (RZ.ItzT K a b) xs.length (fun H => SqT K H a xs ∧ SqT K H b ys) (YPair (fun i => xs[i]?) fun i => ys[i]?) :=
  ⟨fun i _ hi q => ⟨xs, ys, xs[i], ys[i], q.1, q.2, by simp [hi], by simp [← hl, hi]⟩, fun _ q => ⟨xs, ys, q.1, q.2, .inl (Nat.le_refl _)⟩, fun i H v H' _ q y => by
    obtain ⟨T, x, y, rfl, hT, rfl, f1, f2⟩ := y
    exact ⟨T, x, y, rfl, hT, rfl, f1 xs q.1, f2 ys q.2⟩⟩
theorem walk_zipL (hl : xs.length = ys.length) : Walk (Itz K a b) xs.length (fun H => SqL K H a xs ∧ SqL K H b ys) (YPair (fun i => xs[i]?) fun i => ys[i]?) :=
  ⟨fun i _ hi q => ⟨xs, ys, xs[i], ys[i], q.1, q.2, by simp [hi], by simp [← hl, hi]⟩, fun _ q => ⟨xs, ys, q.1, q.2, .inl (Nat.le_refl _)⟩, fun i H v H' _ q y => by
    obtain ⟨T, x, y, rfl, hT, rfl, f1, f2⟩ := y
    exact ⟨T, x, y, rfl, hT, rfl, f1 xs q.1, f2 ys q.2⟩⟩
end
section
variable {S : Addr → Prop} {I : Hp → Prop} {H : Hp} {J : It} {n : Nat} {G : Hp → Prop} {fx fy : Nat → Option V} {g : TG} {tt : TT} {te : TE} {vs : List Nat} {σ : L2.St} {Q : Addr → Hp → Prop}
theorem lcP (w : Walk J n G (YPair fx fy)) (m : Fm S I) (i0 : I H) (hG : ∀ H', Fx S I H H' → G H') (P : Nat → List V → Hp → Prop) (p0 : ∀ D, H D = none → P 0 [] (upd H D (.lst [])))
    (hs : ∀ D i T x y acc H', H D = none → i < n → fx i = some x → fy i = some y → Fx S I H H' → H' D = some (.lst acc) → acc.length ≤ i → P i acc H' → H' T = none → g (.ref T) (wipe σ vs) (upd H' T (.tup [x, y])) fun σ2 H2 => wipe σ2 vs = wipe σ vs ∧ tt σ2 H2 fun b H3 =>
      if b = true then te σ2 H3 fun y H4 => ∃ acc, H4 D = some (.lst acc) ∧ acc.length < sizeLine ∧ Cs S I H P D (i + 1) (upd H4 D (.lst (acc ++ [y]))) else Cs S I H P D (i + 1) H3)
    (q : ∀ D H' acc, H D = none → Fx S I H H' → H' D = some (.lst acc) → P n acc H' → Q D H') :
    ∀ D, H D = none → ∃ W : Nat → Nat → Hp → Prop, (∃ m, W 0 m (upd H D (.lst []))) ∧ ∀ i m H, W i m H →
      (J.stop i H ∧ Q D H) ∨ (J.go i H ∧ ∃ Nx : Hp → Prop, (∀ H', Nx H' → ∃ m', m' < m ∧ W (i + 1) m' H') ∧ ∀ x H', J.yld i H x H' → g x (wipe σ vs) H' fun σ2 H2 => wipe σ2 vs = wipe σ vs ∧ tt σ2 H2 fun b H3 =>
        if b = true then te σ2 H3 fun y H4 => ∃ acc, H4 D = some (.lst acc) ∧ acc.length < sizeLine ∧ Nx (upd H4 D (.lst (acc ++ [y]))) else Nx H3) := fun D hD =>
  lc_it w (Cs S I H P D) ⟨Fx.new m i0 hD, [], upd_same, Nat.le_refl _, p0 D hD⟩ (fun i H' _ p => hG H' p.1)
    (fun i x H' H'' hi p y => by
      obtain ⟨p1, acc, p2, p3, p4⟩ := p
      obtain ⟨T, x, y, rfl, hT, rfl, f1, f2⟩ := y
      exact hs D i T x y acc H' hD hi f1 f2 p1 p2 p3 p4 hT)
    (fun H' p => by
      obtain ⟨p1, acc, p2, p3, p4⟩ := p
      exact q D H' acc hD p1 p2 p4)
theorem for_P (w : Walk J n G (YPair fx fy)) {g : TG} {tb : TS} {D : Ends} {σ : L2.St} {H : Hp} (Pv : Nat → L2.St → Hp → Prop) (h0 : Pv 0 σ H) (hG : ∀ i σ H, i ≤ n → Pv i σ H → G H)
    (hs : ∀ i T x y σ H, i < n → fx i = some x → fy i = some y → Pv i σ H → H T = none → g (.ref T) σ (upd H T (.tup [x, y])) fun σ2 H2 => tb { D with nx := Pv (i + 1), ct := Pv (i + 1), bk := D.nx } σ2 H2) (hd : ∀ σ H, Pv n σ H → D.nx σ H) :
    ∃ W : Nat → Nat → L2.St → Hp → Prop, (∃ m, W 0 m σ H) ∧ ∀ i m σ H, W i m σ H →
      (J.stop i H ∧ D.nx σ H) ∨ (J.go i H ∧ ∃ N : L2.St → Hp → Prop, (∀ σ' H', N σ' H' → ∃ m', m' < m ∧ W (i + 1) m' σ' H') ∧ ∀ x H', J.yld i H x H' → g x σ H' fun σ2 H2 => tb { D with nx := N, ct := N, bk := D.nx } σ2 H2) :=
  for_it w Pv h0 hG (fun i v σ H H' hi p y => by
    obtain ⟨T, x, y, rfl, hT, rfl, f1, f2⟩ := y
    exact hs i T x y σ H hi f1 f2 p hT) hd
end
end Fr
set_option Elab.async false
set_option linter.all false
set_option maxRecDepth 100000
namespace Fr
open PySem PySem.Spec PyProof.Rows L2
def Vat (c : Addr) (H : Hp) : Prop := ∃ x y z : Int, H c = some (.lst [.int x, .int y, .int z])
def Sv (c : Addr) : Addr → Prop := fun b => b = c
theorem fmV (c : Addr) : Fm (Sv c) (Vat c) := by
  constructor
  · intro H D i h e
    obtain ⟨x, y, z, q⟩ := i
    unfold Sv at e
    rw [e, q] at h
    cases h
  · intro H D o n i
    obtain ⟨x, y, z, q⟩ := i
    exact ⟨x, y, z, by rw [upd_ne (fun e => n e.symm)]; exact q⟩
abbrev Fv (c : Addr) : Hp → Hp → Prop := Fx (Sv c) (Vat c)
theorem vat_new {c l : Addr} {H : Hp} {o : HO} (hc : Vat c H) (hl : H l = none) : Vat c (upd H l o) := (fmV c).stay ((fmV c).fresh hc hl) hc
theorem fv_new {c l : Addr} {H : Hp} {o : HO} (hc : Vat c H) (hl : H l = none) : Fv c H (upd H l o) := Fx.new (fmV c) hc hl
theorem fv_ne {c l : Addr} {H : Hp} (hc : Vat c H) (hl : H l = none) : l ≠ c := (fmV c).fresh hc hl
theorem vat_ex {c : Addr} {H H' : Hp} (hc : Vat c H) (e : Ex0 H H') : Vat c H' := by
  obtain ⟨x, y, z, q⟩ := hc
  exact ⟨x, y, z, Ex0.ap e q⟩
theorem fv_ex {c : Addr} {H H' : Hp} (hc : Vat c H) (e : Ex0 H H') : Fv c H H' := ⟨vat_ex hc e, fun b o _ h => Ex0.ap e h⟩
theorem fv_tup {c a : Addr} {H H' : Hp} {xs : List V} (hc : Vat c H) (f : Fv c H H') (h : H a = some (.tup xs)) : H' a = some (.tup xs) := f.2 a _ (fun e => by
  obtain ⟨x, y, z, q⟩ := hc
  unfold Sv at e
  rw [e, q] at h
  cases h) h
theorem ex_fv {p : Addr} {H H1 H2 : Hp} (e : Ex0 H H1) (hp : H p = none) (f : Fv p H1 H2) : Ex0 H H2 := ⟨trivial, fun b o _ h => f.2 b o (fun z => by unfold Sv at z; rw [z, hp] at h; cases h) (Ex0.ap e h)⟩
theorem cut_map (ns : List Int) (lo hi : Option Int) : cutV (ns.map V.int) lo hi = ((ns.drop (HT.sIx (ns.map V.int).length 0 lo)).take (HT.sIx (ns.map V.int).length (ns.map V.int).length hi - HT.sIx (ns.map V.int).length 0 lo)).map V.int := by
  unfold cutV
  rw [← List.map_drop, ← List.map_take]
end Fr
namespace Fr
open PySem PySem.Spec PyProof.Rows L2
inductive PrT (K : PySem.W.Frag) (H : Hp) : List V → List (Int × Int) → Prop where
  | nil : PrT K H [] []
  | cons {t : Addr} {x y : Int} {xs : List V} {ps : List (Int × Int)} (h : SqT K H t [.int x, .int y]) (r : PrT K H xs ps) : PrT K H (.ref t :: xs) ((x, y) :: ps)
section
variable {K : PySem.W.Frag} {H H' : Hp}
theorem PrT.ex (e : Ex0 H H') {xs : List V} {ps : List (Int × Int)} (h : PrT K H xs ps) : PrT K H' xs ps := by
  induction h with
  | nil => exact .nil
  | cons h _ ih => exact .cons (Fx.sqT e (fun z => z) h) ih
theorem sqT_upd {a D : Addr} {vs acc ys : List V} (hD : H D = some (.lst acc)) (h : SqT K H a vs) : SqT K (upd H D (.lst ys)) a vs := by
  have ne : ∀ {o : HO}, H a = some o → (∀ z, o ≠ .lst z) → a ≠ D := fun h n z => by
    rw [z, hD] at h
    exact n _ (Option.some.inj h).symm
  rcases h with (h | ⟨o, h⟩) | h
  · exact .inl (.inl (by rw [upd_ne (ne h (by intro z w; cases w))]; exact h))
  · exact .inl (.inr ⟨o, by rw [upd_ne (ne h (by intro z w; cases w))]; exact h⟩)
  · exact .inr h
theorem PrT.upd {D : Addr} {acc ys : List V} (hD : H D = some (.lst acc)) {xs : List V} {ps : List (Int × Int)} (h : PrT K H xs ps) : PrT K (L2.upd H D (.lst ys)) xs ps := by
  induction h with
  | nil => exact .nil
  | cons h _ ih => exact .cons (sqT_upd hD h) ih
theorem PrT.app {xs ys : List V} {ps qs : List (Int × Int)} (h : PrT K H xs ps) (g : PrT K H ys qs) : PrT K H (xs ++ ys) (ps ++ qs) := by
  induction h with
  | nil => exact g
  | cons h _ ih => exact .cons h ih
theorem PrT.snoc {xs : List V} {ps : List (Int × Int)} (h : PrT K H xs ps) {t : Addr} {x y : Int} (g : SqT K H t [.int x, .int y]) : PrT K H (xs ++ [.ref t]) (ps ++ [(x, y)]) := h.app (.cons g .nil)
theorem PrT.len {xs : List V} {ps : List (Int × Int)} (h : PrT K H xs ps) : xs.length = ps.length := by
  induction h with
  | nil => rfl
  | cons _ _ ih => rw [List.length_cons, List.length_cons, ih]
theorem PrT.get {xs : List V} {ps : List (Int × Int)} (h : PrT K H xs ps) : ∀ {i : Nat} {v : V}, xs[i]? = some v → ∃ t x y, v = .ref t ∧ ps[i]? = some (x, y) ∧ SqT K H t [.int x, .int y] := by
  induction h with
  | nil => intro i v hv; simp at hv
  | @cons t x y xs ps h _ ih =>
    intro i v hv
    cases i with
    | zero => exact ⟨t, x, y, (Option.some.inj hv).symm, rfl, h⟩
    | succ i => exact ih hv
theorem PrT.mem {xs : List V} {ps : List (Int × Int)} (h : PrT K H xs ps) : ∀ v ∈ xs, ∃ t x y, v = .ref t ∧ SqT K H t [.int x, .int y] ∧ (x, y) ∈ ps := by
  induction h with
  | nil => intro v hv; cases hv
  | @cons t x y xs ps h _ ih =>
    intro v hv
    rcases List.mem_cons.mp hv with z | z
    · exact ⟨t, x, y, z, h, List.mem_cons_self⟩
    · obtain ⟨t', x', y', h1, h2, h3⟩ := ih v z
      exact ⟨t', x', y', h1, h2, List.mem_cons_of_mem _ h3⟩
theorem sqT_ty {a : Addr} {xs : List V} (h : SqT K H a xs) : TyX K H (.ref a) (.type "tuple") := by
  rcases h with (h | ⟨o, h⟩) | ⟨o, its, n, h1, h2, _⟩
  · exact .base (.tup h)
  · exact .fTuple h
  · exact .kTuple h1 h2
end
def lexP (p q : Int × Int) : Prop := p.1 < q.1 ∨ (p.1 = q.1 ∧ p.2 ≤ q.2)
theorem eq_sorted : ∀ {l1 l2 : List (Int × Int)}, l1.Pairwise lexP → l1.Nodup → l2.Pairwise lexP → l2.Nodup → (∀ a, a ∈ l1 ↔ a ∈ l2) → l1 = l2
  | [], [], _, _, _, _, _ => rfl
  | [], b :: l2, _, _, _, _, h => by have := (h b).mpr List.mem_cons_self; cases this
  | a :: l1, [], _, _, _, _, h => by have := (h a).mp List.mem_cons_self; cases this
  | a :: l1, b :: l2, p1, n1, p2, n2, h => by
    have p1' := List.pairwise_cons.mp p1
    have p2' := List.pairwise_cons.mp p2
    have n1' := List.nodup_cons.mp n1
    have n2' := List.nodup_cons.mp n2
    have e : a = b := by
      rcases List.mem_cons.mp ((h a).mp List.mem_cons_self) with z | z
      · exact z
      · rcases List.mem_cons.mp ((h b).mpr List.mem_cons_self) with y | y
        · exact y.symm
        · have q1 := p2'.1 a z
          have q2 := p1'.1 b y
          unfold lexP at q1 q2
          refine Prod.ext ?_ ?_ <;> omega
    subst e
    have t : l1 = l2 := eq_sorted p1'.2 n1'.2 p2'.2 n2'.2 fun x => by
      constructor
      · intro hx
        rcases List.mem_cons.mp ((h x).mp (List.mem_cons_of_mem _ hx)) with z | z
        · exact absurd (z ▸ hx) n1'.1
        · exact z
      · intro hx
        rcases List.mem_cons.mp ((h x).mpr (List.mem_cons_of_mem _ hx)) with z | z
        · exact absurd (z ▸ hx) n2'.1
        · exact z
    rw [t]
theorem srt_lex {k : V → Int × Int} {ys : List V} (h : SrtO.Srtd (ltP k) ys) : (ys.map k).Pairwise lexP := by
  rw [List.pairwise_map]
  refine List.Pairwise.imp (fun {u v} h => ?_) h
  rcases Int.lt_trichotomy (k u).1 (k v).1 with z | z | z
  · exact .inl z
  · refine .inr ⟨z, ?_⟩
    rcases Int.lt_or_le (k v).2 (k u).2 with w | w
    · have := SrtO.lexB_iff.mpr (Or.inr ⟨z.symm, w⟩)
      rw [show SrtO.lexB (k v) (k u) = false from h] at this
      cases this
    · exact w
  · have := SrtO.lexB_iff.mpr (Or.inl z)
    rw [show SrtO.lexB (k v) (k u) = false from h] at this
    cases this
noncomputable def kvT (K : PySem.W.Frag) (H : Hp) (v : V) : Int × Int := @dite _ (∃ p : Int × Int, ∃ t, v = .ref t ∧ SqT K H t [.int p.1, .int p.2]) (Classical.propDecidable _) (fun h => Classical.choose h) (fun _ => (0, 0))
theorem kvT_at {K : PySem.W.Frag} {H : Hp} {t : Addr} {x y : Int} (h : SqT K H t [.int x, .int y]) : SqT K H t [.int (kvT K H (.ref t)).1, .int (kvT K H (.ref t)).2] := by
  have ex : ∃ p : Int × Int, ∃ t', V.ref t = .ref t' ∧ SqT K H t' [.int p.1, .int p.2] := ⟨(x, y), t, rfl, h⟩
  unfold kvT
  rw [dif_pos ex]
  obtain ⟨t', e1, e2⟩ := Classical.choose_spec ex
  cases e1
  exact e2
def rSortedPT (K : PySem.W.Frag) : List V → Hp → VK → Prop := fun vs H Q => ∃ (a : Addr) (xs : List V) (ps : List (Int × Int)), vs = [V.ref a] ∧ SqL K H a xs ∧ PrT K H xs ps ∧
  ∀ ys qs p, qs.Perm ps → qs.Pairwise lexP → PrT K H ys qs → H p = none → Q (.ref p) (upd H p (.lst ys))
section
variable {X : Cx}
theorem PrT.map_k {pins : List (Addr × Obj)} {σ : L2.St} {H : Hp} {s : Shared} (I : Inv X pins σ H s) {xs : List V} {ps : List (Int × Int)} (h : PrT X.K H xs ps) : xs.map (kvT X.K H) = ps := by
  induction h with
  | nil => rfl
  | cons h _ ih =>
    have e := I.tuple_inj (kvT_at h) h
    injection e with e1 e
    injection e with e2 _
    injection e1 with e1
    injection e2 with e2
    rw [List.map_cons, ih]
    exact congrArg (· :: _) (Prod.ext e1 e2)
theorem PrT.of_mem {K : PySem.W.Frag} {H : Hp} : ∀ {ys : List V}, (∀ v ∈ ys, ∃ t x y, v = .ref t ∧ SqT K H t [.int x, .int y]) → PrT K H ys (ys.map (kvT K H))
  | [], _ => .nil
  | v :: ys, h => by
    obtain ⟨t, x, y, rfl, ht⟩ := h v List.mem_cons_self
    exact .cons (kvT_at ht) (PrT.of_mem fun v hv => h v (List.mem_cons_of_mem _ hv))
theorem cr_sortedPT : CallR X (.builtin "sorted") (rSortedPT X.K) := by
  intro pins s σ H vs us Q I r h
  obtain ⟨a, xs, ps, rfl, hs, hP, q⟩ := h
  have hx : ∀ x ∈ xs, ∃ t, x = V.ref t ∧ SqT X.K H t [.int (kvT X.K H x).1, .int (kvT X.K H x).2] := fun x m => by
    obtain ⟨t, i, j, e, ht, _⟩ := hP.mem x m
    subst e
    exact ⟨t, rfl, kvT_at ht⟩
  obtain ⟨its, rv, hl, hz⟩ := I.list hs
  obtain ⟨u, rfl, ru⟩ := vals1 r
  obtain rfl : u = Value.ref a := ru
  obtain ⟨e1, e2⟩ := refs_back rv fun x m => by
    obtain ⟨t, e, _⟩ := hx x m
    exact ⟨t, e⟩
  refine SrtO.sorted_pairsO (k := fun u => kvT X.K H (backV u)) hl.isList (by rw [← rv.length]; exact hz) (fun v hv => ?_) fun h' d out h1 h2 kp hd hn => ?_
  · obtain ⟨t, rfl⟩ := e2 v hv
    have hm : V.ref t ∈ xs := by rw [e1]; exact List.mem_map.mpr ⟨_, hv, rfl⟩
    obtain ⟨t', e, ht⟩ := hx _ hm
    cases e
    obtain ⟨its2, r2, ⟨o, ho, hc, n, hd⟩, _⟩ := I.tuple ht
    obtain ⟨u1, u2, rfl, ri, rj⟩ := vals2 r2
    obtain ⟨t1, rfl⟩ := ri
    obtain ⟨t2, rfl⟩ := rj
    exact ⟨t, o, t1, t2, n, rfl, ho, hc, hd⟩
  · have h3 : ∀ u ∈ out, ∃ a, u = Value.ref a := fun u hu => e2 u (h2.perm.mem_iff.mp hu)
    obtain ⟨n, hn⟩ := hn
    have hb : SrtO.Stb (ltP (kvT X.K H)) (out.map backV) xs := by
      rw [e1]
      exact SrtO.Stb.map (ltP_swo (kvT X.K H)) backV h2
    have hy : PrT X.K H (out.map backV) ((out.map backV).map (kvT X.K H)) := PrT.of_mem fun v hv => by
      obtain ⟨t, i, j, e, ht, _⟩ := hP.mem v (hb.perm.mem_iff.mp hv)
      exact ⟨t, i, j, e, ht⟩
    refine ⟨.ref d, upd H d (.lst (out.map backV)), I.laid (t' := s.toks) kp hd ⟨?_, out, n, vals_back h3, hn⟩, rfl, q _ _ d ?_ (srt_lex (SrtO.srtd_map h1)) hy (I.hok.fresh hd)⟩
    · rw [hb.len]
      exact hz
    · rw [← hP.map_k I]
      exact hb.perm.map _
end
def pi2 (q : Int × Int) : PyData := .tuple [.int q.1, .int q.2]
theorem pis_ok (fs : List (Int × Int)) : PyData.canLayAll0 (fs.map pi2) = true ∧ PyData.depthAll (fs.map pi2) ≤ 2 := by
  induction fs with
  | nil => exact ⟨rfl, by simp [PyData.depthAll]⟩
  | cons n r ih =>
    refine ⟨?_, ?_⟩
    · rw [List.map_cons, PyData.canLayAll0, ih.1]; simp [pi2, PyData.canLay0, PyData.canLayAll0]
    · rw [List.map_cons, PyData.depthAll]; exact Nat.max_le.mpr ⟨by simp [pi2, PyData.depth, PyData.depthAll], ih.2⟩
theorem shaped_pis (fs : List (Int × Int)) : SeqAt.shaped (.tuple (fs.map pi2)) = true := by
  have h := pis_ok fs
  unfold SeqAt.shaped
  rw [PyData.canLay0, PyData.depth, h.1]
  simp
  omega
theorem eqv_pis : ∀ fs gs : List (Int × Int), PyData.eqvAll (fs.map pi2) (gs.map pi2) = decide (fs = gs)
  | [], [] => rfl
  | [], m :: ms => rfl
  | n :: ns, [] => rfl
  | (a, b) :: ns, (c, d) :: ms => by
    rw [List.map_cons, List.map_cons, PyData.eqvAll, eqv_pis ns ms]
    apply Bool.eq_iff_iff.mpr
    simp [pi2, PyData.eqv, PyData.eqvAll]
theorem PrT.dp {K : PySem.W.Frag} {H : Hp} {xs : List V} {ps : List (Int × Int)} (h : PrT K H xs ps) : DpAll K H xs (ps.map pi2) := by
  induction h with
  | nil => exact .nil
  | cons h _ ih => exact .cons (.tup h (dp_ints [_, _])) ih
theorem eqv_tp (ps qs : List (Int × Int)) : PyData.eqv (.tuple (ps.map pi2)) (.tuple (qs.map pi2)) = decide (ps = qs) := by
  rw [PyData.eqv, eqv_pis]
end Fr
namespace Fr
open PySem PySem.Spec PyProof.Rows L2
theorem ix_tupK {X : Cx} {K : PySem.W.Frag} (hK : X.K = K) : IxR X (rIxT K) := hK ▸ ix_tup
theorem units65 {k : Nat} {A : Around} (r : Room k A) : A.units + 65 < cLine := by have := r.un; omega
theorem op_inDK {X : Cx} {K : PySem.W.Frag} (hK : X.K = K) (hu : X.A.units + 65 < cLine) : OpR X (compareOp .In) (rInD K) := hK ▸ op_inD hu
theorem op_notInDK {X : Cx} {K : PySem.W.Frag} (hK : X.K = K) (hu : X.A.units + 65 < cLine) : OpR X (compareOp .NotIn) (rNotInD K) := hK ▸ op_notInD hu
end Fr
namespace K39
open PySem PySem.Spec PyProof.Rows L2 Fr
def topS (i : Nat) : Stmt := PySem.Challenge.pw_formrings_k39_whole_roots_and_heavy_plac.main.body.getD i (.Pass ⟨0, 0, 0, 0⟩)
abbrev s_is_any_integer : Stmt := topS 14
abbrev N_is_any_integer : List Str := ["value"]
theorem sc_is_any_integer : FnScope N_is_any_integer ["value"] (defScope s_is_any_integer) := ⟨rfl, rfl, rfl, by decide +kernel, rfl, by decide +kernel, by decide +kernel⟩
abbrev s_is_short_integer : Stmt := topS 15
abbrev N_is_short_integer : List Str := ["value"]
theorem sc_is_short_integer : FnScope N_is_short_integer ["value"] (defScope s_is_short_integer) := ⟨rfl, rfl, rfl, by decide +kernel, rfl, by decide +kernel, by decide +kernel⟩
abbrev s_is_between : Stmt := topS 16
abbrev N_is_between : List Str := ["value", "low", "high"]
theorem sc_is_between : FnScope N_is_between ["value", "low", "high"] (defScope s_is_between) := ⟨rfl, rfl, rfl, by decide +kernel, rfl, by decide +kernel, by decide +kernel⟩
abbrev s_are_any_integers : Stmt := topS 17
abbrev N_are_any_integers : List Str := ["value", "many", "number"]
theorem sc_are_any_integers : FnScope N_are_any_integers ["value", "many"] (defScope s_are_any_integers) := ⟨rfl, rfl, rfl, by decide +kernel, rfl, by decide +kernel, by decide +kernel⟩
abbrev s_are_short_integers : Stmt := topS 18
abbrev N_are_short_integers : List Str := ["value", "many", "n"]
theorem sc_are_short_integers : FnScope N_are_short_integers ["value", "many"] (defScope s_are_short_integers) := ⟨rfl, rfl, rfl, by decide +kernel, rfl, by decide +kernel, by decide +kernel⟩
abbrev s_check_between : Stmt := topS 21
abbrev N_check_between : List Str := ["value", "low", "high"]
theorem sc_check_between : FnScope N_check_between ["value", "low", "high"] (defScope s_check_between) := ⟨rfl, rfl, rfl, by decide +kernel, rfl, by decide +kernel, by decide +kernel⟩
abbrev s_power_at : Stmt := topS 23
abbrev N_power_at : List Str := ["base", "exponent", "prime", "result", "square", "left"]
theorem sc_power_at : FnScope N_power_at ["base", "exponent", "prime"] (defScope s_power_at) := ⟨rfl, rfl, rfl, by decide +kernel, rfl, by decide +kernel, by decide +kernel⟩
abbrev s_inverse_at : Stmt := topS 24
abbrev N_inverse_at : List Str := ["number", "prime"]
theorem sc_inverse_at : FnScope N_inverse_at ["number", "prime"] (defScope s_inverse_at) := ⟨rfl, rfl, rfl, by decide +kernel, rfl, by decide +kernel, by decide +kernel⟩
abbrev s_shared_divisor : Stmt := topS 37
abbrev N_shared_divisor : List Str := ["numbers", "shared", "number"]
theorem sc_shared_divisor : FnScope N_shared_divisor ["numbers"] (defScope s_shared_divisor) := ⟨rfl, rfl, rfl, by decide +kernel, rfl, by decide +kernel, by decide +kernel⟩
abbrev s_is_prime : Stmt := topS 38
abbrev N_is_prime : List Str := ["number", "divisor"]
theorem sc_is_prime : FnScope N_is_prime ["number"] (defScope s_is_prime) := ⟨rfl, rfl, rfl, by decide +kernel, rfl, by decide +kernel, by decide +kernel⟩
abbrev s_check_prime : Stmt := topS 39
abbrev N_check_prime : List Str := ["number"]
theorem sc_check_prime : FnScope N_check_prime ["number"] (defScope s_check_prime) := ⟨rfl, rfl, rfl, by decide +kernel, rfl, by decide +kernel, by decide +kernel⟩
abbrev s_determinant_of : Stmt := topS 41
abbrev N_determinant_of : List Str := ["change", "p", "q", "r", "s"]
theorem sc_determinant_of : FnScope N_determinant_of ["change"] (defScope s_determinant_of) := ⟨rfl, rfl, rfl, by decide +kernel, rfl, by decide +kernel, by decide +kernel⟩
abbrev s_is_change : Stmt := topS 42
abbrev N_is_change : List Str := ["value", "row"]
theorem sc_is_change : FnScope N_is_change ["value"] (defScope s_is_change) := ⟨rfl, rfl, rfl, by decide +kernel, rfl, by decide +kernel, by decide +kernel⟩
abbrev s_is_short_change : Stmt := topS 43
abbrev N_is_short_change : List Str := ["value", "row"]
theorem sc_is_short_change : FnScope N_is_short_change ["value"] (defScope s_is_short_change) := ⟨rfl, rfl, rfl, by decide +kernel, rfl, by decide +kernel, by decide +kernel⟩
abbrev s_check_change : Stmt := topS 44
abbrev N_check_change : List Str := ["value"]
theorem sc_check_change : FnScope N_check_change ["value"] (defScope s_check_change) := ⟨rfl, rfl, rfl, by decide +kernel, rfl, by decide +kernel, by decide +kernel⟩
abbrev s_form_value : Stmt := topS 63
abbrev N_form_value : List Str := ["coefficients", "x", "y", "a", "b", "c", "d"]
theorem sc_form_value : FnScope N_form_value ["coefficients", "x", "y"] (defScope s_form_value) := ⟨rfl, rfl, rfl, by decide +kernel, rfl, by decide +kernel, by decide +kernel⟩
abbrev s_form_discriminant : Stmt := topS 64
abbrev N_form_discriminant : List Str := ["coefficients", "a", "b", "c", "d"]
theorem sc_form_discriminant : FnScope N_form_discriminant ["coefficients"] (defScope s_form_discriminant) := ⟨rfl, rfl, rfl, by decide +kernel, rfl, by decide +kernel, by decide +kernel⟩
abbrev s_form_hessian : Stmt := topS 65
abbrev N_form_hessian : List Str := ["coefficients", "a", "b", "c", "d"]
theorem sc_form_hessian : FnScope N_form_hessian ["coefficients"] (defScope s_form_hessian) := ⟨rfl, rfl, rfl, by decide +kernel, rfl, by decide +kernel, by decide +kernel⟩
abbrev s_form_led : Stmt := topS 66
abbrev N_form_led : List Str := ["coefficients", "change", "a", "b", "c", "d", "p", "q", "r", "s", "e", "second", "third"]
theorem sc_form_led : FnScope N_form_led ["coefficients", "change"] (defScope s_form_led) := ⟨rfl, rfl, rfl, by decide +kernel, rfl, by decide +kernel, by decide +kernel⟩
abbrev s_check_form : Stmt := topS 68
abbrev N_check_form : List Str := ["value"]
theorem sc_check_form : FnScope N_check_form ["value"] (defScope s_check_form) := ⟨rfl, rfl, rfl, by decide +kernel, rfl, by decide +kernel, by decide +kernel⟩
abbrev s_form_of : Stmt := topS 69
abbrev N_form_of : List Str := ["coefficients", "form"]
theorem sc_form_of : FnScope N_form_of ["coefficients"] (defScope s_form_of) := ⟨rfl, rfl, rfl, by decide +kernel, rfl, by decide +kernel, by decide +kernel⟩
abbrev s_Form___init__ : Stmt := inClass (topS 70) 0
abbrev N_Form___init__ : List Str := ["self", "coefficients"]
theorem sc_Form___init__ : FnScope N_Form___init__ ["self", "coefficients"] (defScope s_Form___init__) := ⟨rfl, rfl, rfl, by decide +kernel, rfl, by decide +kernel, by decide +kernel⟩
abbrev s_Form_coefficients : Stmt := inClass (topS 70) 2
abbrev N_Form_coefficients : List Str := ["self"]
theorem sc_Form_coefficients : FnScope N_Form_coefficients ["self"] (defScope s_Form_coefficients) := ⟨rfl, rfl, rfl, by decide +kernel, rfl, by decide +kernel, by decide +kernel⟩
abbrev s_Form_discriminant : Stmt := inClass (topS 70) 3
abbrev N_Form_discriminant : List Str := ["self"]
theorem sc_Form_discriminant : FnScope N_Form_discriminant ["self"] (defScope s_Form_discriminant) := ⟨rfl, rfl, rfl, by decide +kernel, rfl, by decide +kernel, by decide +kernel⟩
abbrev s_Form_content : Stmt := inClass (topS 70) 4
abbrev N_Form_content : List Str := ["self"]
theorem sc_Form_content : FnScope N_Form_content ["self"] (defScope s_Form_content) := ⟨rfl, rfl, rfl, by decide +kernel, rfl, by decide +kernel, by decide +kernel⟩
abbrev s_Form_led : Stmt := inClass (topS 70) 8
abbrev N_Form_led : List Str := ["self", "change"]
theorem sc_Form_led : FnScope N_Form_led ["self", "change"] (defScope s_Form_led) := ⟨rfl, rfl, rfl, by decide +kernel, rfl, by decide +kernel, by decide +kernel⟩
abbrev s_is_heavy_at : Stmt := topS 74
abbrev N_is_heavy_at : List Str := ["coefficients", "prime", "place", "a", "b", "c", "d", "x", "_"]
theorem sc_is_heavy_at : FnScope N_is_heavy_at ["coefficients", "prime", "place"] (defScope s_is_heavy_at) := ⟨rfl, rfl, rfl, by decide +kernel, rfl, by decide +kernel, by decide +kernel⟩
abbrev s_places_of_roots : Stmt := topS 75
abbrev N_places_of_roots : List Str := ["coefficients", "prime", "a", "b", "c", "d", "found", "number", "x"]
theorem sc_places_of_roots : FnScope N_places_of_roots ["coefficients", "prime"] (defScope s_places_of_roots) := ⟨rfl, rfl, rfl, by decide +kernel, rfl, by decide +kernel, by decide +kernel⟩
abbrev s_multiple_place : Stmt := topS 76
abbrev N_multiple_place : List Str := ["coefficients", "prime", "first", "middle", "_", "a", "b", "top", "bottom", "number"]
theorem sc_multiple_place : FnScope N_multiple_place ["coefficients", "prime"] (defScope s_multiple_place) := ⟨rfl, rfl, rfl, by decide +kernel, rfl, by decide +kernel, by decide +kernel⟩
abbrev s_places_of_heavy_roots : Stmt := topS 77
abbrev N_places_of_heavy_roots : List Str := ["coefficients", "prime", "short", "places", "place", "number"]
theorem sc_places_of_heavy_roots : FnScope N_places_of_heavy_roots ["coefficients", "prime"] (defScope s_places_of_heavy_roots) := ⟨rfl, rfl, rfl, by decide +kernel, rfl, by decide +kernel, by decide +kernel⟩
abbrev s_is_full : Stmt := topS 78
abbrev N_is_full : List Str := ["coefficients", "prime"]
theorem sc_is_full : FnScope N_is_full ["coefficients", "prime"] (defScope s_is_full) := ⟨rfl, rfl, rfl, by decide +kernel, rfl, by decide +kernel, by decide +kernel⟩
abbrev s_roots_at : Stmt := topS 80
abbrev N_roots_at : List Str := ["form", "prime"]
theorem sc_roots_at : FnScope N_roots_at ["form", "prime"] (defScope s_roots_at) := ⟨rfl, rfl, rfl, by decide +kernel, rfl, by decide +kernel, by decide +kernel⟩
abbrev s_heavy_places : Stmt := topS 81
abbrev N_heavy_places : List Str := ["form", "prime"]
theorem sc_heavy_places : FnScope N_heavy_places ["form", "prime"] (defScope s_heavy_places) := ⟨rfl, rfl, rfl, by decide +kernel, rfl, by decide +kernel, by decide +kernel⟩
abbrev s_l_kettle : Stmt := topS 83
abbrev N_l_kettle : List Str := ["_law_script", "_law_spot", "_law_cell", "_law_great"]
theorem sc_l_kettle : FnScope N_l_kettle ["_law_script", "_law_spot"] (defScope s_l_kettle) := ⟨rfl, rfl, rfl, by decide +kernel, rfl, by decide +kernel, by decide +kernel⟩
abbrev s_l_sip : Stmt := topS 84
abbrev N_l_sip : List Str := ["_law_kettle_here", "_law_top", "_law_found", "_law_one", "_law_two"]
theorem sc_l_sip : FnScope N_l_sip ["_law_kettle_here", "_law_top"] (defScope s_l_sip) := ⟨rfl, rfl, rfl, by decide +kernel, rfl, by decide +kernel, by decide +kernel⟩
abbrev s_l_taken : Stmt := topS 85
abbrev N_l_taken : List Str := ["_law_kettle_here", "_law_items"]
theorem sc_l_taken : FnScope N_l_taken ["_law_kettle_here", "_law_items"] (defScope s_l_taken) := ⟨rfl, rfl, rfl, by decide +kernel, rfl, by decide +kernel, by decide +kernel⟩
abbrev s_l_value : Stmt := topS 86
abbrev N_l_value : List Str := ["_law_row_here", "_law_x", "_law_y", "_law_a", "_law_b", "_law_c", "_law_d"]
theorem sc_l_value : FnScope N_l_value ["_law_row_here", "_law_x", "_law_y"] (defScope s_l_value) := ⟨rfl, rfl, rfl, by decide +kernel, rfl, by decide +kernel, by decide +kernel⟩
abbrev s_l_moved : Stmt := topS 87
abbrev N_l_moved : List Str := ["_law_row_here", "_law_change_here", "_law_a", "_law_b", "_law_c", "_law_d", "_law_p", "_law_q", "_law_r", "_law_s", "_law_second", "_law_third"]
theorem sc_l_moved : FnScope N_l_moved ["_law_row_here", "_law_change_here"] (defScope s_l_moved) := ⟨rfl, rfl, rfl, by decide +kernel, rfl, by decide +kernel, by decide +kernel⟩
abbrev s_l_discriminant : Stmt := topS 88
abbrev N_l_discriminant : List Str := ["_law_row_here", "_law_a", "_law_b", "_law_c", "_law_d", "_law_found"]
theorem sc_l_discriminant : FnScope N_l_discriminant ["_law_row_here"] (defScope s_l_discriminant) := ⟨rfl, rfl, rfl, by decide +kernel, rfl, by decide +kernel, by decide +kernel⟩
abbrev s_l_content : Stmt := topS 89
abbrev N_l_content : List Str := ["_law_row_here", "_law_found", "_law_entry", "_law_one"]
theorem sc_l_content : FnScope N_l_content ["_law_row_here"] (defScope s_l_content) := ⟨rfl, rfl, rfl, by decide +kernel, rfl, by decide +kernel, by decide +kernel⟩
abbrev s_l_row : Stmt := topS 90
abbrev N_l_row : List Str := ["_law_kettle_here", "_law_most", "_law_row_here", "_law_turn"]
theorem sc_l_row : FnScope N_l_row ["_law_kettle_here", "_law_most"] (defScope s_l_row) := ⟨rfl, rfl, rfl, by decide +kernel, rfl, by decide +kernel, by decide +kernel⟩
abbrev s_l_change : Stmt := topS 91
abbrev N_l_change : List Str := ["_law_kettle_here", "_law_p", "_law_q", "_law_r", "_law_s", "_law_turn", "_law_way", "_law_many"]
theorem sc_l_change : FnScope N_l_change ["_law_kettle_here"] (defScope s_l_change) := ⟨rfl, rfl, rfl, by decide +kernel, rfl, by decide +kernel, by decide +kernel⟩
abbrev s_l_led : Stmt := topS 92
abbrev N_l_led : List Str := ["_law_row_here", "_law_change_here", "_law_p", "_law_q", "_law_r", "_law_s", "_law_entry"]
theorem sc_l_led : FnScope N_l_led ["_law_row_here", "_law_change_here"] (defScope s_l_led) := ⟨rfl, rfl, rfl, by decide +kernel, rfl, by decide +kernel, by decide +kernel⟩
abbrev s_l_places : Stmt := topS 93
abbrev N_l_places : List Str := ["_law_prime_here", "_law_x"]
theorem sc_l_places : FnScope N_l_places ["_law_prime_here"] (defScope s_l_places) := ⟨rfl, rfl, rfl, by decide +kernel, rfl, by decide +kernel, by decide +kernel⟩
abbrev s_l_is_heavy : Stmt := topS 94
abbrev N_l_is_heavy : List Str := ["_law_row_here", "_law_prime_here", "_law_place", "_law_moved_here"]
theorem sc_l_is_heavy : FnScope N_l_is_heavy ["_law_row_here", "_law_prime_here", "_law_place"] (defScope s_l_is_heavy) := ⟨rfl, rfl, rfl, by decide +kernel, rfl, by decide +kernel, by decide +kernel⟩
abbrev s_l_prime : Stmt := topS 95
abbrev N_l_prime : List Str := ["_law_kettle_here"]
theorem sc_l_prime : FnScope N_l_prime ["_law_kettle_here"] (defScope s_l_prime) := ⟨rfl, rfl, rfl, by decide +kernel, rfl, by decide +kernel, by decide +kernel⟩
abbrev s_l_any_row : Stmt := topS 96
abbrev N_l_any_row : List Str := ["_law_kettle_here", "_law_prime_here", "_law_row_here", "_law_way", "_law_entry"]
theorem sc_l_any_row : FnScope N_l_any_row ["_law_kettle_here", "_law_prime_here"] (defScope s_l_any_row) := ⟨rfl, rfl, rfl, by decide +kernel, rfl, by decide +kernel, by decide +kernel⟩
abbrev s_l_moved_place : Stmt := topS 97
abbrev N_l_moved_place : List Str := ["_law_prime_here", "_law_place", "_law_change_here", "_law_p", "_law_q", "_law_r", "_law_s", "_law_sense", "_law_x", "_law_y", "_law_one"]
theorem sc_l_moved_place : FnScope N_l_moved_place ["_law_prime_here", "_law_place", "_law_change_here"] (defScope s_l_moved_place) := ⟨rfl, rfl, rfl, by decide +kernel, rfl, by decide +kernel, by decide +kernel⟩
abbrev s_l_right : Stmt := topS 98
abbrev N_l_right : List Str := ["_law_kettle_here", "_law_prime_here", "_law_row_here", "_law_form", "_law_places_here", "_law_roots", "_law_place", "_law_heavy", "_law_is_whole", "_law_far", "_law_change_here", "_law_led_here", "_law_one"]
theorem sc_l_right : FnScope N_l_right ["_law_kettle_here"] (defScope s_l_right) := ⟨rfl, rfl, rfl, by decide +kernel, rfl, by decide +kernel, by decide +kernel⟩
abbrev s_law : Stmt := topS 99
abbrev N_law : List Str := ["_law_script", "_law_spot", "_law_kettle_here", "_law_plain", "_law_cubic", "_law_told"]
theorem sc_law : FnScope N_law ["_law_script"] (defScope s_law) := ⟨rfl, rfl, rfl, by decide +kernel, rfl, by decide +kernel, by decide +kernel⟩
structure Txt (K : PySem.W.Frag) (mg : Str → Option Value) (C_Form : Addr) : Prop where
  g_Form : mg "Form" = some (.ref C_Form)
  cl_Form : Cls K C_Form
  ty_Form : TyI K C_Form
  na_Form_coefficients : NoAttr K C_Form "_coefficients"
  d_is_any_integer : ∃ f fd, mg "is_any_integer" = some (.ref f) ∧ Fun K "is_any_integer" "is_any_integer" s_is_any_integer f fd
  d_is_short_integer : ∃ f fd, mg "is_short_integer" = some (.ref f) ∧ Fun K "is_short_integer" "is_short_integer" s_is_short_integer f fd
  d_is_between : ∃ f fd, mg "is_between" = some (.ref f) ∧ Fun K "is_between" "is_between" s_is_between f fd
  d_are_any_integers : ∃ f fd, mg "are_any_integers" = some (.ref f) ∧ Fun K "are_any_integers" "are_any_integers" s_are_any_integers f fd
  d_are_short_integers : ∃ f fd, mg "are_short_integers" = some (.ref f) ∧ Fun K "are_short_integers" "are_short_integers" s_are_short_integers f fd
  d_check_between : ∃ f fd, mg "check_between" = some (.ref f) ∧ Fun K "check_between" "check_between" s_check_between f fd
  d_power_at : ∃ f fd, mg "power_at" = some (.ref f) ∧ Fun K "power_at" "power_at" s_power_at f fd
  d_inverse_at : ∃ f fd, mg "inverse_at" = some (.ref f) ∧ Fun K "inverse_at" "inverse_at" s_inverse_at f fd
  d_shared_divisor : ∃ f fd, mg "shared_divisor" = some (.ref f) ∧ Fun K "shared_divisor" "shared_divisor" s_shared_divisor f fd
  d_is_prime : ∃ f fd, mg "is_prime" = some (.ref f) ∧ Fun K "is_prime" "is_prime" s_is_prime f fd
  d_check_prime : ∃ f fd, mg "check_prime" = some (.ref f) ∧ Fun K "check_prime" "check_prime" s_check_prime f fd
  d_determinant_of : ∃ f fd, mg "determinant_of" = some (.ref f) ∧ Fun K "determinant_of" "determinant_of" s_determinant_of f fd
  d_is_change : ∃ f fd, mg "is_change" = some (.ref f) ∧ Fun K "is_change" "is_change" s_is_change f fd
  d_is_short_change : ∃ f fd, mg "is_short_change" = some (.ref f) ∧ Fun K "is_short_change" "is_short_change" s_is_short_change f fd
  d_check_change : ∃ f fd, mg "check_change" = some (.ref f) ∧ Fun K "check_change" "check_change" s_check_change f fd
  d_form_value : ∃ f fd, mg "form_value" = some (.ref f) ∧ Fun K "form_value" "form_value" s_form_value f fd
  d_form_discriminant : ∃ f fd, mg "form_discriminant" = some (.ref f) ∧ Fun K "form_discriminant" "form_discriminant" s_form_discriminant f fd
  d_form_hessian : ∃ f fd, mg "form_hessian" = some (.ref f) ∧ Fun K "form_hessian" "form_hessian" s_form_hessian f fd
  d_form_led : ∃ f fd, mg "form_led" = some (.ref f) ∧ Fun K "form_led" "form_led" s_form_led f fd
  d_check_form : ∃ f fd, mg "check_form" = some (.ref f) ∧ Fun K "check_form" "check_form" s_check_form f fd
  d_form_of : ∃ f fd, mg "form_of" = some (.ref f) ∧ Fun K "form_of" "form_of" s_form_of f fd
  e_Form___init__ : ∃ (p f : Addr) (fd : FuncData), Mk K C_Form f ∧ Fun K "__init__" "Form.__init__" s_Form___init__ f fd
  e_Form_coefficients : ∃ (p f : Addr) (fd : FuncData), PropOf K C_Form "coefficients" p f ∧ Fun K "coefficients" "Form.coefficients" s_Form_coefficients f fd
  e_Form_discriminant : ∃ (p f : Addr) (fd : FuncData), PropOf K C_Form "discriminant" p f ∧ Fun K "discriminant" "Form.discriminant" s_Form_discriminant f fd
  e_Form_content : ∃ (p f : Addr) (fd : FuncData), PropOf K C_Form "content" p f ∧ Fun K "content" "Form.content" s_Form_content f fd
  e_Form_led : ∃ (p f : Addr) (fd : FuncData), Meth K C_Form "led" f ∧ Fun K "led" "Form.led" s_Form_led f fd
  d_is_heavy_at : ∃ f fd, mg "is_heavy_at" = some (.ref f) ∧ Fun K "is_heavy_at" "is_heavy_at" s_is_heavy_at f fd
  d_places_of_roots : ∃ f fd, mg "places_of_roots" = some (.ref f) ∧ Fun K "places_of_roots" "places_of_roots" s_places_of_roots f fd
  d_multiple_place : ∃ f fd, mg "multiple_place" = some (.ref f) ∧ Fun K "multiple_place" "multiple_place" s_multiple_place f fd
  d_places_of_heavy_roots : ∃ f fd, mg "places_of_heavy_roots" = some (.ref f) ∧ Fun K "places_of_heavy_roots" "places_of_heavy_roots" s_places_of_heavy_roots f fd
  d_is_full : ∃ f fd, mg "is_full" = some (.ref f) ∧ Fun K "is_full" "is_full" s_is_full f fd
  d_roots_at : ∃ f fd, mg "roots_at" = some (.ref f) ∧ Fun K "roots_at" "roots_at" s_roots_at f fd
  d_heavy_places : ∃ f fd, mg "heavy_places" = some (.ref f) ∧ Fun K "heavy_places" "heavy_places" s_heavy_places f fd
  d_l_kettle : ∃ f fd, mg "_law_kettle" = some (.ref f) ∧ Fun K "_law_kettle" "_law_kettle" s_l_kettle f fd
  d_l_sip : ∃ f fd, mg "_law_sip" = some (.ref f) ∧ Fun K "_law_sip" "_law_sip" s_l_sip f fd
  d_l_taken : ∃ f fd, mg "_law_taken" = some (.ref f) ∧ Fun K "_law_taken" "_law_taken" s_l_taken f fd
  d_l_value : ∃ f fd, mg "_law_value" = some (.ref f) ∧ Fun K "_law_value" "_law_value" s_l_value f fd
  d_l_moved : ∃ f fd, mg "_law_moved" = some (.ref f) ∧ Fun K "_law_moved" "_law_moved" s_l_moved f fd
  d_l_discriminant : ∃ f fd, mg "_law_discriminant" = some (.ref f) ∧ Fun K "_law_discriminant" "_law_discriminant" s_l_discriminant f fd
  d_l_content : ∃ f fd, mg "_law_content" = some (.ref f) ∧ Fun K "_law_content" "_law_content" s_l_content f fd
  d_l_row : ∃ f fd, mg "_law_row" = some (.ref f) ∧ Fun K "_law_row" "_law_row" s_l_row f fd
  d_l_change : ∃ f fd, mg "_law_change" = some (.ref f) ∧ Fun K "_law_change" "_law_change" s_l_change f fd
  d_l_led : ∃ f fd, mg "_law_led" = some (.ref f) ∧ Fun K "_law_led" "_law_led" s_l_led f fd
  d_l_places : ∃ f fd, mg "_law_places" = some (.ref f) ∧ Fun K "_law_places" "_law_places" s_l_places f fd
  d_l_is_heavy : ∃ f fd, mg "_law_is_heavy" = some (.ref f) ∧ Fun K "_law_is_heavy" "_law_is_heavy" s_l_is_heavy f fd
  d_l_prime : ∃ f fd, mg "_law_prime" = some (.ref f) ∧ Fun K "_law_prime" "_law_prime" s_l_prime f fd
  d_l_any_row : ∃ f fd, mg "_law_any_row" = some (.ref f) ∧ Fun K "_law_any_row" "_law_any_row" s_l_any_row f fd
  d_l_moved_place : ∃ f fd, mg "_law_moved_place" = some (.ref f) ∧ Fun K "_law_moved_place" "_law_moved_place" s_l_moved_place f fd
  d_l_right : ∃ f fd, mg "_law_right" = some (.ref f) ∧ Fun K "_law_right" "_law_right" s_l_right f fd
  d_law : ∃ f fd, mg "law" = some (.ref f) ∧ Fun K "law" "law" s_law f fd
  b_abs : mg "abs" = none
  b_all : mg "all" = none
  b_any : mg "any" = none
  b_bool : mg "bool" = none
  b_int : mg "int" = none
  b_isinstance : mg "isinstance" = none
  b_len : mg "len" = none
  b_list : mg "list" = none
  b_max : mg "max" = none
  b_min : mg "min" = none
  b_range : mg "range" = none
  b_sorted : mg "sorted" = none
  b_tuple : mg "tuple" = none
  x_GREAT : ∃ t, mg "GREAT" = some (.int (1000) t)
  x_GREATEST_PRIME : ∃ t, mg "GREATEST_PRIME" = some (.int (10000) t)
  x_LIMIT : ∃ t, mg "LIMIT" = some (.int (1000000000000000000000000000000000000000000000000000000000000) t)
  x_MAX_PRIME : ∃ t, mg "MAX_PRIME" = some (.int (1000000) t)
  m_gcd : mg "gcd" = some (.builtin "math.gcd")
  m_isqrt : mg "isqrt" = some (.builtin "math.isqrt")
  k_END : ∃ A, mg "END" = some (.ref A) ∧ ∀ H, SqT K H A [.int 1, .int 0]
def Short (i : Int) : Prop := -1000000000000000000000000000000000000000000000000000000000000 < i ∧ i < 1000000000000000000000000000000000000000000000000000000000000
theorem Short.b {i : Int} (h : Short i) : B 200 i := ⟨by have := h.1; have := h.2; omega, by decide⟩
def Ti (H : Hp) (a : Addr) (ns : List Int) : Prop := H a = some (.tup (ns.map V.int))
def T4 (H : Hp) (a : Addr) (p q r s : Int) : Prop := ∃ t1 t2, H a = some (.tup [.ref t1, .ref t2]) ∧ H t1 = some (.tup [.int p, .int q]) ∧ H t2 = some (.tup [.int r, .int s])
def FormAt (C : Addr) (H : Hp) (x : Addr) (ns : List Int) : Prop := ∃ dx t, H x = some (.ins C dx [(("_coefficients" : Str), .ref t)]) ∧ Ti H t ns
def ChOk (p q r s : Int) : Prop := Short p ∧ Short q ∧ Short r ∧ Short s ∧ (p * s - q * r = 1 ∨ p * s - q * r = -1)
theorem Ti.ex {H H' : Hp} {a : Addr} {ns : List Int} (h : Ti H a ns) (e : ∀ b xs, H b = some (.tup xs) → H' b = some (.tup xs)) : Ti H' a ns := e _ _ h
theorem T4.ex {H H' : Hp} {a : Addr} {p q r s : Int} (h : T4 H a p q r s) (e : ∀ b xs, H b = some (.tup xs) → H' b = some (.tup xs)) : T4 H' a p q r s := by
  obtain ⟨t1, t2, h0, h1, h2⟩ := h
  exact ⟨t1, t2, e _ _ h0, e _ _ h1, e _ _ h2⟩
theorem get_int {ns : List Int} {i : Nat} {x : V} (hx : (ns.map V.int)[i]? = some x) : ∃ n, ns[i]? = some n ∧ x = V.int n := by
  rw [List.getElem?_map] at hx
  cases e : ns[i]? with
  | none => rw [e] at hx; cases hx
  | some z => rw [e] at hx; exact ⟨z, rfl, (Option.some.inj hx).symm⟩
def gcdL (ns : List Int) : Nat := ns.foldl (fun g n => Nat.gcd g n.natAbs) 0
theorem gcdL_take {ns : List Int} {i : Nat} {n : Int} (h : ns[i]? = some n) : gcdL (ns.take (i + 1)) = Nat.gcd (gcdL (ns.take i)) n.natAbs := by
  unfold gcdL
  rw [List.take_add_one, h, List.foldl_append]
  rfl
def fv (a b c d x y : Int) : Int := a * x * x * x + b * x * x * y + c * x * y * y + d * y * y * y
def fdisc (a b c d : Int) : Int := b * b * c * c - 4 * a * c * c * c - 4 * b * b * b * d - 27 * a * a * d * d + 18 * a * b * c * d
def fl2 (a b c d p q r s : Int) : Int := 3 * a * p * p * r + b * p * (p * s + 2 * q * r) + c * q * (2 * p * s + q * r) + 3 * d * q * q * s
def fl3 (a b c d p q r s : Int) : Int := 3 * a * p * r * r + b * r * (2 * p * s + q * r) + c * s * (p * s + 2 * q * r) + 3 * d * q * s * s
def fled (a b c d p q r s : Int) : List Int := [(p * s - q * r) * fv a b c d p q, (p * s - q * r) * fl2 a b c d p q r s, (p * s - q * r) * fl3 a b c d p q r s, (p * s - q * r) * fv a b c d r s]
theorem un4 {K : PySem.W.Frag} {i j k l : Nat} {σ : L2.St} {H : Hp} {a : Addr} {p q r s : Int} {Q : L2.St → Hp → Prop} (h : T4 H a p q r s)
    (z : Q ((((σ.set i (some (.int p))).set j (some (.int q))).set k (some (.int r))).set l (some (.int s))) H) :
    gTup K 2 (gCons (gTup K 2 (gCons (gName i) (gCons (gName j) gNil))) (gCons (gTup K 2 (gCons (gName k) (gCons (gName l) gNil))) gNil)) (.ref a) σ H Q := by
  obtain ⟨t1, t2, h0, h1, h2⟩ := h
  refine ⟨a, _, rfl, SqT.of h0, rfl, _, _, rfl, ?_⟩
  refine ⟨t1, _, rfl, SqT.of h1, rfl, _, _, rfl, ?_⟩
  refine ⟨_, _, rfl, ⟨rfl, ?_⟩⟩
  refine ⟨_, _, rfl, ?_⟩
  refine ⟨t2, _, rfl, SqT.of h2, rfl, _, _, rfl, ?_⟩
  exact ⟨_, _, rfl, ⟨rfl, ⟨rfl, z⟩⟩⟩
theorem unI4 {K : PySem.W.Frag} {i j k l : Nat} {σ : L2.St} {H : Hp} {t : Addr} {a b c d : Int} {Q : L2.St → Hp → Prop} (h : Ti H t [a, b, c, d])
    (z : Q ((((σ.set i (some (.int a))).set j (some (.int b))).set k (some (.int c))).set l (some (.int d))) H) :
    gTup K 4 (gCons (gName i) (gCons (gName j) (gCons (gName k) (gCons (gName l) gNil)))) (.ref t) σ H Q :=
  ⟨t, _, rfl, SqT.of h, rfl, _, _, rfl, _, _, rfl, _, _, rfl, _, _, rfl, rfl, z⟩
theorem t4_new {H : Hp} {t1 t2 x : Addr} {p q r s : Int} (n1 : H t1 = none) (n2 : upd H t1 (.tup [.int p, .int q]) t2 = none) (n3 : upd (upd H t1 (.tup [.int p, .int q])) t2 (.tup [.int r, .int s]) x = none) :
    Ex0 H (upd (upd (upd H t1 (.tup [.int p, .int q])) t2 (.tup [.int r, .int s])) x (.tup [.ref t1, .ref t2])) ∧ T4 (upd (upd (upd H t1 (.tup [.int p, .int q])) t2 (.tup [.int r, .int s])) x (.tup [.ref t1, .ref t2])) x p q r s :=
  ⟨((Ex0.new n1).trans (Ex0.new n2)).trans (Ex0.new n3), t1, t2, upd_same, Ex0.ap (Ex0.new n3) (Ex0.ap (Ex0.new n2) upd_same), Ex0.ap (Ex0.new n3) upd_same⟩
theorem Ex0.t4 {H H' : Hp} {a : Addr} {p q r s : Int} (e : Ex0 H H') (h : T4 H a p q r s) : T4 H' a p q r s := h.ex fun _ _ z => Ex0.ap e z
theorem Ex0.ti {H H' : Hp} {a : Addr} {ns : List Int} (e : Ex0 H H') (h : Ti H a ns) : Ti H' a ns := Ex0.ap e h
theorem Ex0.fo {C : Addr} {H H' : Hp} {x : Addr} {ns : List Int} (e : Ex0 H H') (h : FormAt C H x ns) : FormAt C H' x ns := by
  obtain ⟨dx, t, h1, h2⟩ := h
  exact ⟨dx, t, Ex0.ap e h1, Ex0.ap e h2⟩
section
def sp_is_any_integer (_ : PySem.W.Frag) (C : Addr) : Sp := fun vs H Q _ => ∃ i : Int, vs = [.int i] ∧ Q (.bl true) H
def sp_is_short_integer (_ : PySem.W.Frag) (C : Addr) : Sp := fun vs H Q _ => ∃ i : Int, vs = [.int i] ∧ Short i ∧ Q (.bl true) H
def sp_are_short_integers (_ : PySem.W.Frag) (C : Addr) : Sp := fun vs H Q _ => ∃ (a : Addr) (ns : List Int), vs = [.ref a, .int (ns.length : Int)] ∧ Ti H a ns ∧ ns.length ≤ 1000 ∧ (∀ n ∈ ns, Short n) ∧ ∀ H', Ex0 H H' → Q (.bl true) H'
def sp_check_integer (_ : PySem.W.Frag) (C : Addr) : Sp := fun vs H Q _ => ∃ i : Int, vs = [.int i] ∧ Short i ∧ Q .non H
def sp_shared_divisor (_ : PySem.W.Frag) (C : Addr) : Sp := fun vs H Q _ => ∃ (a : Addr) (ns : List Int), vs = [.ref a] ∧ Ti H a ns ∧ Q (.int (gcdL ns : Nat)) H
def sp_form_value (_ : PySem.W.Frag) (C : Addr) : Sp := fun vs H Q _ => ∃ (t : Addr) (a b c d x y : Int), vs = [.ref t, .int x, .int y] ∧ Ti H t [a, b, c, d] ∧ B 1000 a ∧ B 1000 b ∧ B 1000 c ∧ B 1000 d ∧ B 200 x ∧ B 200 y ∧ Q (.int (fv a b c d x y)) H
def sp_form_discriminant (_ : PySem.W.Frag) (C : Addr) : Sp := fun vs H Q _ => ∃ (t : Addr) (a b c d : Int), vs = [.ref t] ∧ Ti H t [a, b, c, d] ∧ B 1000 a ∧ B 1000 b ∧ B 1000 c ∧ B 1000 d ∧ Q (.int (fdisc a b c d)) H
def sp_form_of (_ : PySem.W.Frag) (C : Addr) : Sp := fun vs H Q _ => ∃ (t : Addr) (ns : List Int), vs = [.ref t] ∧ Ti H t ns ∧ ∀ x H', Ex0 H H' → FormAt C H' x ns → Q (.ref x) H'
def sp_determinant_of (_ : PySem.W.Frag) (C : Addr) : Sp := fun vs H Q _ => ∃ (a : Addr) (p q r s : Int), vs = [.ref a] ∧ T4 H a p q r s ∧ B 200 p ∧ B 200 q ∧ B 200 r ∧ B 200 s ∧ Q (.int (p * s - q * r)) H
def sp_is_change (_ : PySem.W.Frag) (C : Addr) : Sp := fun vs H Q _ => ∃ (a : Addr) (p q r s : Int), vs = [.ref a] ∧ T4 H a p q r s ∧ ChOk p q r s ∧ ∀ H', Ex0 H H' → Q (.bl true) H'
def sp_is_short_change (_ : PySem.W.Frag) (C : Addr) : Sp := fun vs H Q _ => ∃ (a : Addr) (p q r s : Int), vs = [.ref a] ∧ T4 H a p q r s ∧ ChOk p q r s ∧ ∀ H', Ex0 H H' → Q (.bl true) H'
def sp_check_change (_ : PySem.W.Frag) (C : Addr) : Sp := fun vs H Q _ => ∃ (a : Addr) (p q r s : Int), vs = [.ref a] ∧ T4 H a p q r s ∧ ChOk p q r s ∧ ∀ H', Ex0 H H' → Q .non H'
def sp_form_led (_ : PySem.W.Frag) (C : Addr) : Sp := fun vs H Q _ => ∃ (t u : Addr) (a b c d p q r s : Int), vs = [.ref t, .ref u] ∧ Ti H t [a, b, c, d] ∧ T4 H u p q r s ∧ B 1000 a ∧ B 1000 b ∧ B 1000 c ∧ B 1000 d ∧ B 200 p ∧ B 200 q ∧ B 200 r ∧ B 200 s ∧ ∀ x H', Ex0 H H' → Ti H' x (fled a b c d p q r s) → Q (.ref x) H'
def sp_Form_led (_ : PySem.W.Frag) (C : Addr) : Sp := fun vs H Q _ => ∃ (z u : Addr) (a b c d p q r s : Int), vs = [.ref z, .ref u] ∧ FormAt C H z [a, b, c, d] ∧ T4 H u p q r s ∧ B 1000 a ∧ B 1000 b ∧ B 1000 c ∧ B 1000 d ∧ ChOk p q r s ∧ ∀ x H', Ex0 H H' → FormAt C H' x (fled a b c d p q r s) → Q (.ref x) H'
def sp_Form___init__ (_ : PySem.W.Frag) (C : Addr) : Sp := fun vs H Q _ => ∃ (x dx t : Addr) (ns : List Int), vs = [.ref x, .ref t] ∧ H x = some (.ins C dx []) ∧ Ti H t ns ∧ ns.length = 4 ∧ (∀ n ∈ ns, Short n) ∧ ∀ H', (∀ b o, b ≠ x → H b = some o → H' b = some o) → H' x = some (.ins C dx [(("_coefficients" : Str), .ref t)]) → Q .non H'
def sp_Form_coefficients (_ : PySem.W.Frag) (C : Addr) : Sp := fun vs H Q _ => ∃ (x : Addr) (ns : List Int), vs = [.ref x] ∧ FormAt C H x ns ∧ ∀ t, Ti H t ns → Q (.ref t) H
def sp_Form_discriminant (_ : PySem.W.Frag) (C : Addr) : Sp := fun vs H Q _ => ∃ (x : Addr) (a b c d : Int), vs = [.ref x] ∧ FormAt C H x [a, b, c, d] ∧ B 1000 a ∧ B 1000 b ∧ B 1000 c ∧ B 1000 d ∧ Q (.int (fdisc a b c d)) H
def sp_Form_content (_ : PySem.W.Frag) (C : Addr) : Sp := fun vs H Q _ => ∃ (x : Addr) (ns : List Int), vs = [.ref x] ∧ FormAt C H x ns ∧ Q (.int (gcdL ns : Nat)) H
def Plc (p x y : Int) : Prop := (y = 1 ∧ 0 ≤ x ∧ x < p) ∨ (x = 1 ∧ y = 0)
def Pr (n : Nat) : Prop := 2 ≤ n ∧ ∀ c, 2 ≤ c → c * c ≤ n → n % c ≠ 0
theorem modN {n i : Nat} : ((n : Int) % (2 + (i : Int)) = 0) ↔ n % (2 + i) = 0 := by
  rw [show (2 : Int) + (i : Int) = ((2 + i : Nat) : Int) by omega, ← Int.natCast_emod]
  omega
def rootB (a b c d p x y : Int) : Bool := decide (fv a b c d x y % p = 0)
def within (a b c d p x y : Int) : List Int := if y = 1 then [a * p * p, (3 * a * x + b) * p, (3 * a * x + 2 * b) * x + c, fv a b c d x 1 / p] else [a / p, b, c * p, d * p * p]
def rootsL (a b c d : Int) (p : Nat) : List (Int × Int) := (((List.range p).filter fun (x : Nat) => rootB a b c d p x 1).map fun (x : Nat) => ((x : Int), (1 : Int))) ++ (if a % (p : Int) = 0 then [((1 : Int), (0 : Int))] else [])
theorem horner (a b c d x p : Int) : (((a % p * x + b % p) * x + c % p) * x + d % p) % p = fv a b c d x 1 % p := by
  have ha := Int.emod_add_mul_ediv a p
  have hb := Int.emod_add_mul_ediv b p
  have hc := Int.emod_add_mul_ediv c p
  have hd := Int.emod_add_mul_ediv d p
  generalize a % p = a0 at *
  generalize b % p = b0 at *
  generalize c % p = c0 at *
  generalize d % p = d0 at *
  generalize a / p = a1 at *
  generalize b / p = b1 at *
  generalize c / p = c1 at *
  generalize d / p = d1 at *
  have e : fv a b c d x 1 = (((a0 * x + b0) * x + c0) * x + d0) + p * (a1 * x * x * x + b1 * x * x + c1 * x + d1) := by
    rw [← ha, ← hb, ← hc, ← hd]
    unfold fv
    grind
  rw [e, Int.add_mul_emod_self_left]
def sp_are_any_integers (K : PySem.W.Frag) (C : Addr) : Sp := fun vs H Q _ => ∃ (a : Addr) (ns : List Int), vs = [.ref a, .int (ns.length : Int)] ∧ SqT K H a (ns.map V.int) ∧ ns.length ≤ 1000 ∧ ∀ H', Ex0 H H' → Q (.bl true) H'
def sp_is_between (_ : PySem.W.Frag) (C : Addr) : Sp := fun vs H Q _ => ∃ i lo hi : Int, vs = [.int i, .int lo, .int hi] ∧ Short i ∧ lo ≤ i ∧ i ≤ hi ∧ Q (.bl true) H
def sp_check_between (_ : PySem.W.Frag) (C : Addr) : Sp := fun vs H Q _ => ∃ i lo hi : Int, vs = [.int i, .int lo, .int hi] ∧ Short i ∧ lo ≤ i ∧ i ≤ hi ∧ Q .non H
def sp_is_prime (_ : PySem.W.Frag) (C : Addr) : Sp := fun vs H Q _ => ∃ n : Nat, vs = [.int (n : Int)] ∧ n ≤ 10000 ∧ Pr n ∧ Q (.bl true) H
def sp_check_prime (_ : PySem.W.Frag) (C : Addr) : Sp := fun vs H Q _ => ∃ n : Nat, vs = [.int (n : Int)] ∧ n ≤ 10000 ∧ Pr n ∧ Q .non H
def sp_check_form (_ : PySem.W.Frag) (C : Addr) : Sp := fun vs H Q _ => ∃ (x : Addr) (ns : List Int), vs = [.ref x] ∧ FormAt C H x ns ∧ Q .non H
def sp_is_place (K : PySem.W.Frag) (C : Addr) : Sp := fun vs H Q _ => ∃ (t : Addr) (x y p : Int), vs = [.ref t, .int p] ∧ SqT K H t [.int x, .int y] ∧ Plc p x y ∧ ∀ H', Ex0 H H' → Q (.bl true) H'
def sp_is_root_at (K : PySem.W.Frag) (C : Addr) : Sp := fun vs H Q _ => ∃ (t u : Addr) (a b c d p x y : Int), vs = [.ref t, .int p, .ref u] ∧ Ti H t [a, b, c, d] ∧ SqT K H u [.int x, .int y] ∧ B 100 a ∧ B 100 b ∧ B 100 c ∧ B 100 d ∧ B 50 x ∧ B 50 y ∧ 0 < p ∧ p ≤ 10000 ∧ Q (.bl (rootB a b c d p x y)) H
def sp_places_of_roots (K : PySem.W.Frag) (C : Addr) : Sp := fun vs H Q _ => ∃ (t : Addr) (a b c d : Int) (p : Nat), vs = [.ref t, .int (p : Int)] ∧ Ti H t [a, b, c, d] ∧ 0 < p ∧ p < 1000 ∧ ∀ l H' ys qs, Ex0 H H' → H' l = some (.lst ys) → PrT K H' ys qs → qs.Perm (rootsL a b c d p) → qs.Pairwise lexP → Q (.ref l) H'
def sp_form_within (K : PySem.W.Frag) (C : Addr) : Sp := fun vs H Q _ => ∃ (t u : Addr) (a b c d p x y : Int), vs = [.ref t, .int p, .ref u] ∧ Ti H t [a, b, c, d] ∧ SqT K H u [.int x, .int y] ∧ B 100 a ∧ B 100 b ∧ B 100 c ∧ B 100 d ∧ Plc p x y ∧ 0 < p ∧ p ≤ 10000 ∧ ∀ o H', Ex0 H H' → Ti H' o (within a b c d p x y) → Q (.ref o) H'
def sp_roots_at (K : PySem.W.Frag) (C : Addr) : Sp := fun vs H Q _ => ∃ (z : Addr) (a b c d : Int) (p : Nat), vs = [.ref z, .int (p : Int)] ∧ FormAt C H z [a, b, c, d] ∧ Pr p ∧ p < 1000 ∧ ∀ o H' ys qs, Ex0 H H' → H' o = some (.tup ys) → PrT K H' ys qs → qs.Perm (rootsL a b c d p) → qs.Pairwise lexP → Q (.ref o) H'
def sp_below (K : PySem.W.Frag) (C : Addr) : Sp := fun vs H Q _ => ∃ (z u : Addr) (a b c d x y : Int) (p : Nat), vs = [.ref z, .int (p : Int), .ref u] ∧ FormAt C H z [a, b, c, d] ∧ SqT K H u [.int x, .int y] ∧ B 100 a ∧ B 100 b ∧ B 100 c ∧ B 100 d ∧ Plc p x y ∧ rootB a b c d p x y = true ∧ Pr p ∧ p < 1000 ∧ ∀ o H', Ex0 H H' → FormAt C H' o (within a b c d p x y) → Q (.ref o) H'
def heavyB (a b c d p x y : Int) : Bool := if y = 1 then decide (fv a b c d x 1 % (p * p) = 0) && decide (((3 * a * x + 2 * b) * x + c) % p = 0) else decide (a % (p * p) = 0) && decide (b % p = 0)
def allP (p : Nat) : List (Int × Int) := ((List.range p).map fun (x : Nat) => ((x : Int), (1 : Int))) ++ [((1 : Int), (0 : Int))]
def Asc (p : Nat) (f : Int × Int → Bool) (qs : List (Int × Int)) : Prop := qs.Pairwise lexP ∧ qs.Nodup ∧ ∀ z, z ∈ qs ↔ z ∈ allP p ∧ f z = true
def h0 (a b c d : Int) : Int := b * b - 3 * a * c
def h1 (a b c d : Int) : Int := b * c - 9 * a * d
def h2 (a b c d : Int) : Int := c * c - 3 * b * d
def around (a b c d p x y : Int) : List Int := if y = 1 then [a * p, 3 * a * x + b, ((3 * a * x + 2 * b) * x + c) / p, fv a b c d x 1 / (p * p)] else [a / (p * p), b / p, c, d * p]
def sp_power_at (_ : PySem.W.Frag) (C : Addr) : Sp := fun vs H Q _ => ∃ a e n : Nat, vs = [.int (a : Int), .int (e : Int), .int (n : Int)] ∧ 2 ≤ n ∧ n ≤ 1000000000000 ∧ a ≤ 1000 ∧ e ≤ 1000000000000 ∧ Q (.int ((a ^ e % n : Nat) : Int)) H
def sp_inverse_at (_ : PySem.W.Frag) (C : Addr) : Sp := fun vs H Q _ => ∃ a p : Nat, vs = [.int (a : Int), .int (p : Int)] ∧ 2 ≤ p ∧ p ≤ 1000 ∧ a ≤ 1000 ∧ Q (.int ((a ^ (p - 2) % p : Nat) : Int)) H
def sp_form_hessian (_ : PySem.W.Frag) (C : Addr) : Sp := fun vs H Q _ => ∃ (t : Addr) (a b c d : Int), vs = [.ref t] ∧ Ti H t [a, b, c, d] ∧ B 1000 a ∧ B 1000 b ∧ B 1000 c ∧ B 1000 d ∧ ∀ x H', Ex0 H H' → Ti H' x [h0 a b c d, h1 a b c d, h2 a b c d] → Q (.ref x) H'
def sp_is_full (_ : PySem.W.Frag) (C : Addr) : Sp := fun vs H Q _ => ∃ (t : Addr) (ns : List Int) (p : Int), vs = [.ref t, .int p] ∧ Ti H t ns ∧ 0 < p ∧ Q (.bl (decide (((gcdL ns : Nat) : Int) % p = 0))) H
def sp_is_heavy_at (K : PySem.W.Frag) (C : Addr) : Sp := fun vs H Q _ => ∃ (t u : Addr) (a b c d p x y : Int), vs = [.ref t, .int p, .ref u] ∧ Ti H t [a, b, c, d] ∧ SqT K H u [.int x, .int y] ∧ B 100 a ∧ B 100 b ∧ B 100 c ∧ B 100 d ∧ Plc p x y ∧ 0 < p ∧ p ≤ 1000 ∧ Q (.bl (heavyB a b c d p x y)) H
def tbl (a b c d : Int) (p : Nat) : Int × Int := if h0 a b c d % (p : Int) = 0 then (b % (p : Int), 3 * (a % (p : Int))) else (h1 a b c d % (p : Int), 2 * (h0 a b c d % (p : Int)))
def mpl (a b c d : Int) (p : Nat) : Int × Int := if (tbl a b c d p).2 % (p : Int) = 0 then (1, 0) else (-(tbl a b c d p).1 * (((tbl a b c d p).2.toNat ^ (p - 2) % p : Nat) : Int) % (p : Int), 1)
def sp_multiple_place (K : PySem.W.Frag) (C : Addr) : Sp := fun vs H Q _ => ∃ (t : Addr) (a b c d : Int) (p : Nat), vs = [.ref t, .int (p : Int)] ∧ Ti H t [a, b, c, d] ∧ B 100 a ∧ B 100 b ∧ B 100 c ∧ B 100 d ∧ 2 ≤ p ∧ p ≤ 300 ∧ ∀ u H', Ex0 H H' → SqT K H' u [.int (mpl a b c d p).1, .int (mpl a b c d p).2] → Q (.ref u) H'
def sp_places_of_heavy_roots (K : PySem.W.Frag) (C : Addr) : Sp := fun vs H Q _ => ∃ (t : Addr) (a b c d : Int) (p : Nat), vs = [.ref t, .int (p : Int)] ∧ Ti H t [a, b, c, d] ∧ B 100 a ∧ B 100 b ∧ B 100 c ∧ B 100 d ∧ Pr p ∧ p ≤ 13 ∧ ∀ l H' ys qs, Ex0 H H' → H' l = some (.lst ys) → PrT K H' ys qs → Asc p (fun z => heavyB a b c d p z.1 z.2) qs → Q (.ref l) H'
def sp_heavy_places (K : PySem.W.Frag) (C : Addr) : Sp := fun vs H Q _ => ∃ (z : Addr) (a b c d : Int) (p : Nat), vs = [.ref z, .int (p : Int)] ∧ FormAt C H z [a, b, c, d] ∧ B 100 a ∧ B 100 b ∧ B 100 c ∧ B 100 d ∧ Pr p ∧ p ≤ 13 ∧ ∀ o H' ys qs, Ex0 H H' → H' o = some (.tup ys) → PrT K H' ys qs → Asc p (fun z => heavyB a b c d p z.1 z.2) qs → Q (.ref o) H'
def sp_form_around (K : PySem.W.Frag) (C : Addr) : Sp := fun vs H Q _ => ∃ (t u : Addr) (a b c d p x y : Int), vs = [.ref t, .int p, .ref u] ∧ Ti H t [a, b, c, d] ∧ SqT K H u [.int x, .int y] ∧ B 100 a ∧ B 100 b ∧ B 100 c ∧ B 100 d ∧ Plc p x y ∧ 0 < p ∧ p ≤ 1000 ∧ ∀ o H', Ex0 H H' → Ti H' o (around a b c d p x y) → Q (.ref o) H'
def sp_above (K : PySem.W.Frag) (C : Addr) : Sp := fun vs H Q _ => ∃ (z u : Addr) (a b c d x y : Int) (p : Nat), vs = [.ref z, .int (p : Int), .ref u] ∧ FormAt C H z [a, b, c, d] ∧ SqT K H u [.int x, .int y] ∧ B 100 a ∧ B 100 b ∧ B 100 c ∧ B 100 d ∧ Plc p x y ∧ heavyB a b c d p x y = true ∧ Pr p ∧ p < 1000 ∧ ∀ o H', Ex0 H H' → FormAt C H' o (around a b c d p x y) → Q (.ref o) H'
theorem putF_same {u v : V} : putF ("_coefficients" : Str) v [(("_coefficients" : Str), u)] = [(("_coefficients" : Str), v)] := by simp [putF]
theorem lk_same {u : V} : List.lookup ("_coefficients" : Str) [(("_coefficients" : Str), u)] = some u := by simp [List.lookup]
end
section
variable {P : Program} {w : World} {K : PySem.W.Frag} {mg : Str → Option Value} {base : Heap} {C_Form : Addr}
theorem ok_is_any_integer (T : Txt K mg C_Form) : Def P w K mg base 1 "is_any_integer" ["value"] (sp_is_any_integer K C_Form) := by
  obtain ⟨f_, fd_, g_, F_⟩ := T.d_is_any_integer
  refine ⟨f_, fd_, g_, F_.kp, F_.binds (ps := ["value"]) (fun _ _ _ _ _ _ us hl => match us, hl with | [_], _ => rfl), ?_⟩
  refine F_.ok sc_is_any_integer (fun vs H Q E h => ?_) (fun cdv A outer s H vs Q E hr h => ?_)
  · first | (obtain ⟨rfl, _⟩ := h; rfl) | (obtain ⟨_, rfl, _⟩ := h; rfl) | (obtain ⟨_, _, rfl, _⟩ := h; rfl) | (obtain ⟨_, _, _, rfl, _⟩ := h; rfl) | (obtain ⟨_, _, _, _, rfl, _⟩ := h; rfl) | (obtain ⟨_, _, _, _, _, rfl, _⟩ := h; rfl) | (obtain ⟨_, _, _, _, _, _, rfl, _⟩ := h; rfl) | (obtain ⟨_, _, _, _, _, _, _, rfl, _⟩ := h; rfl) | (obtain ⟨_, _, _, _, _, _, _, _, rfl, _⟩ := h; rfl) | (obtain ⟨_, _, _, _, _, _, _, _, _, rfl, _⟩ := h; rfl) | (obtain ⟨_, _, _, _, _, _, _, _, _, _, rfl, _⟩ := h; rfl) | (obtain ⟨_, _, _, _, _, _, _, _, _, _, _, rfl, _⟩ := h; rfl) | (obtain ⟨_, _, _, _, _, _, _, _, _, _, _, _, rfl, _⟩ := h; rfl) | (obtain ⟨_, _, _, _, _, _, _, _, _, _, _, _, _, rfl, _⟩ := h; rfl) | (obtain ⟨_, _, _, _, _, _, _, _, _, _, _, _, _, _, rfl, _⟩ := h; rfl) | (obtain ⟨_, _, _, _, _, _, _, _, _, _, _, _, _, _, _, rfl, _⟩ := h; rfl) | (obtain ⟨_, _, _, _, _, _, _, _, _, _, _, _, _, _, _, _, rfl, _⟩ := h; rfl) | (obtain ⟨_, _, _, _, _, _, _, _, _, _, _, _, _, _, _, _, _, rfl, _⟩ := h; rfl) | (obtain ⟨_, _, _, _, _, _, _, _, _, _, _, _, _, _, _, _, _, _, rfl, _⟩ := h; rfl) | (obtain ⟨_, _, _, _, _, _, _, _, _, _, _, _, _, _, _, _, _, _, _, rfl, _⟩ := h; rfl) | (obtain ⟨_, _, _, _, _, _, _, _, _, _, _, _, _, _, _, _, _, _, _, _, rfl, _⟩ := h; rfl) | (obtain ⟨_, _, _, _, _, _, _, _, _, _, _, _, _, _, _, _, _, _, _, _, _, rfl, _⟩ := h; rfl) | (obtain ⟨_, _, _, _, _, _, _, _, _, _, _, _, _, _, _, _, _, _, _, _, _, _, rfl, _⟩ := h; rfl) | (obtain ⟨_, _, _, _, _, _, _, _, _, _, _, _, _, _, _, _, _, _, _, _, _, _, _, rfl, _⟩ := h; rfl)
  · obtain ⟨i, rfl, q⟩ := h
    refine ⟨_, (pss_one (ps_ret (pe_and (pe_callB call_isi (by rfl) T.b_isinstance (by decide +kernel) (pa_cons (pv 0) (pa_cons (pe_bltn (v := .ty "int") (by rfl) T.b_int (by decide +kernel) rfl) pa_nil))) (pe_one (pe_not (pe_callB call_isi (by rfl) T.b_isinstance (by decide +kernel) (pa_cons (pv 0) (pa_cons (pe_bltn (v := .ty "bool") (by rfl) T.b_bool (by decide +kernel) rfl) pa_nil)))))))), ?_⟩
    refine ⟨_, rfl, _, _, _, _, true, rfl, .ty _, .base (.int i), kit_ty (by decide +kernel), _, rfl, iteT ?_⟩
    exact ⟨_, rfl, _, _, _, _, false, rfl, .ty _, .base (.int i), kit_ty (by decide +kernel), _, rfl, q⟩
theorem ok_is_short_integer (T : Txt K mg C_Form) : Def P w K mg base 2 "is_short_integer" ["value"] (sp_is_short_integer K C_Form) := by
  obtain ⟨f_, fd_, g_, F_⟩ := T.d_is_short_integer
  obtain ⟨f_is_any_integer, fd_is_any_integer, g_is_any_integer, k_is_any_integer, b_is_any_integer, G_is_any_integer⟩ := (ok_is_any_integer (P := P) (w := w) (base := base) T)
  refine ⟨f_, fd_, g_, F_.kp, F_.binds (ps := ["value"]) (fun _ _ _ _ _ _ us hl => match us, hl with | [_], _ => rfl), ?_⟩
  refine F_.ok sc_is_short_integer (fun vs H Q E h => ?_) (fun cdv A outer s H vs Q E hr h => ?_)
  · first | (obtain ⟨rfl, _⟩ := h; rfl) | (obtain ⟨_, rfl, _⟩ := h; rfl) | (obtain ⟨_, _, rfl, _⟩ := h; rfl) | (obtain ⟨_, _, _, rfl, _⟩ := h; rfl) | (obtain ⟨_, _, _, _, rfl, _⟩ := h; rfl) | (obtain ⟨_, _, _, _, _, rfl, _⟩ := h; rfl) | (obtain ⟨_, _, _, _, _, _, rfl, _⟩ := h; rfl) | (obtain ⟨_, _, _, _, _, _, _, rfl, _⟩ := h; rfl) | (obtain ⟨_, _, _, _, _, _, _, _, rfl, _⟩ := h; rfl) | (obtain ⟨_, _, _, _, _, _, _, _, _, rfl, _⟩ := h; rfl) | (obtain ⟨_, _, _, _, _, _, _, _, _, _, rfl, _⟩ := h; rfl) | (obtain ⟨_, _, _, _, _, _, _, _, _, _, _, rfl, _⟩ := h; rfl) | (obtain ⟨_, _, _, _, _, _, _, _, _, _, _, _, rfl, _⟩ := h; rfl) | (obtain ⟨_, _, _, _, _, _, _, _, _, _, _, _, _, rfl, _⟩ := h; rfl) | (obtain ⟨_, _, _, _, _, _, _, _, _, _, _, _, _, _, rfl, _⟩ := h; rfl) | (obtain ⟨_, _, _, _, _, _, _, _, _, _, _, _, _, _, _, rfl, _⟩ := h; rfl) | (obtain ⟨_, _, _, _, _, _, _, _, _, _, _, _, _, _, _, _, rfl, _⟩ := h; rfl) | (obtain ⟨_, _, _, _, _, _, _, _, _, _, _, _, _, _, _, _, _, rfl, _⟩ := h; rfl) | (obtain ⟨_, _, _, _, _, _, _, _, _, _, _, _, _, _, _, _, _, _, rfl, _⟩ := h; rfl) | (obtain ⟨_, _, _, _, _, _, _, _, _, _, _, _, _, _, _, _, _, _, _, rfl, _⟩ := h; rfl) | (obtain ⟨_, _, _, _, _, _, _, _, _, _, _, _, _, _, _, _, _, _, _, _, rfl, _⟩ := h; rfl) | (obtain ⟨_, _, _, _, _, _, _, _, _, _, _, _, _, _, _, _, _, _, _, _, _, rfl, _⟩ := h; rfl) | (obtain ⟨_, _, _, _, _, _, _, _, _, _, _, _, _, _, _, _, _, _, _, _, _, _, rfl, _⟩ := h; rfl) | (obtain ⟨_, _, _, _, _, _, _, _, _, _, _, _, _, _, _, _, _, _, _, _, _, _, _, rfl, _⟩ := h; rfl)
  · obtain ⟨i, rfl, hs, q⟩ := h
    obtain ⟨t_LIMIT, h_LIMIT⟩ := T.x_LIMIT
    refine ⟨_, (pss_one (ps_ret (pe_and (pe_call G_is_any_integer (hr.mono (by decide)) (by rfl) g_is_any_integer k_is_any_integer b_is_any_integer .nil pass0 (pa_cons (pv 0) pa_nil)) (pe_one (pe_chain op_lt op_lt (pe_un un_neg (pe_glob (v := .int 1000000000000000000000000000000000000000000000000000000000000) (by rfl) h_LIMIT ⟨_, rfl⟩)) (pv 0) (pe_glob (v := .int 1000000000000000000000000000000000000000000000000000000000000) (by rfl) h_LIMIT ⟨_, rfl⟩)))))), ?_⟩
    refine ⟨_, rfl, i, rfl, _, rfl, iteT ?_⟩
    refine ⟨_, rfl, _, rfl, _, _, rfl, rfl, _, rfl, dT hs.1 ⟨_, _, rfl, rfl, ?_⟩⟩
    show Q (.bl (decide (i < 1000000000000000000000000000000000000000000000000000000000000))) H
    rw [decide_eq_true hs.2]
    exact q
theorem ok_are_any_integers (T : Txt K mg C_Form) : Def P w K mg base 2 "are_any_integers" ["value", "many"] (sp_are_any_integers K C_Form) := by
  obtain ⟨f_, fd_, g_, F_⟩ := T.d_are_any_integers
  obtain ⟨f_is_any_integer, fd_is_any_integer, g_is_any_integer, k_is_any_integer, b_is_any_integer, G_is_any_integer⟩ := (ok_is_any_integer (P := P) (w := w) (base := base) T)
  refine ⟨f_, fd_, g_, F_.kp, F_.binds (ps := ["value", "many"]) (fun _ _ _ _ _ _ us hl => match us, hl with | [_, _], _ => rfl), ?_⟩
  refine F_.ok sc_are_any_integers (fun vs H Q E h => ?_) (fun cdv A outer s H vs Q E hr h => ?_)
  · first | (obtain ⟨rfl, _⟩ := h; rfl) | (obtain ⟨_, rfl, _⟩ := h; rfl) | (obtain ⟨_, _, rfl, _⟩ := h; rfl) | (obtain ⟨_, _, _, rfl, _⟩ := h; rfl) | (obtain ⟨_, _, _, _, rfl, _⟩ := h; rfl) | (obtain ⟨_, _, _, _, _, rfl, _⟩ := h; rfl) | (obtain ⟨_, _, _, _, _, _, rfl, _⟩ := h; rfl) | (obtain ⟨_, _, _, _, _, _, _, rfl, _⟩ := h; rfl) | (obtain ⟨_, _, _, _, _, _, _, _, rfl, _⟩ := h; rfl) | (obtain ⟨_, _, _, _, _, _, _, _, _, rfl, _⟩ := h; rfl) | (obtain ⟨_, _, _, _, _, _, _, _, _, _, rfl, _⟩ := h; rfl) | (obtain ⟨_, _, _, _, _, _, _, _, _, _, _, rfl, _⟩ := h; rfl) | (obtain ⟨_, _, _, _, _, _, _, _, _, _, _, _, rfl, _⟩ := h; rfl) | (obtain ⟨_, _, _, _, _, _, _, _, _, _, _, _, _, rfl, _⟩ := h; rfl) | (obtain ⟨_, _, _, _, _, _, _, _, _, _, _, _, _, _, rfl, _⟩ := h; rfl) | (obtain ⟨_, _, _, _, _, _, _, _, _, _, _, _, _, _, _, rfl, _⟩ := h; rfl) | (obtain ⟨_, _, _, _, _, _, _, _, _, _, _, _, _, _, _, _, rfl, _⟩ := h; rfl) | (obtain ⟨_, _, _, _, _, _, _, _, _, _, _, _, _, _, _, _, _, rfl, _⟩ := h; rfl) | (obtain ⟨_, _, _, _, _, _, _, _, _, _, _, _, _, _, _, _, _, _, rfl, _⟩ := h; rfl) | (obtain ⟨_, _, _, _, _, _, _, _, _, _, _, _, _, _, _, _, _, _, _, rfl, _⟩ := h; rfl) | (obtain ⟨_, _, _, _, _, _, _, _, _, _, _, _, _, _, _, _, _, _, _, _, rfl, _⟩ := h; rfl) | (obtain ⟨_, _, _, _, _, _, _, _, _, _, _, _, _, _, _, _, _, _, _, _, _, rfl, _⟩ := h; rfl) | (obtain ⟨_, _, _, _, _, _, _, _, _, _, _, _, _, _, _, _, _, _, _, _, _, _, rfl, _⟩ := h; rfl) | (obtain ⟨_, _, _, _, _, _, _, _, _, _, _, _, _, _, _, _, _, _, _, _, _, _, _, rfl, _⟩ := h; rfl)
  · obtain ⟨a, ns, rfl, ha, hl, q⟩ := h
    refine ⟨_, (pss_cons (ps_if (PW.pt (pw_or (pt_not (pt_val (pe_callB call_isi (by rfl) T.b_isinstance (by decide +kernel) (pa_cons (pv 0) (pa_cons (pe_bltn (v := .ty "tuple") (by rfl) T.b_tuple (by decide +kernel) rfl) pa_nil))))) (pw_or1 (pt_cmpR op_ne (pe_callB call_len_seq (by rfl) T.b_len PySem.boot_len (pa_cons (pv 0) pa_nil)) (pv 1) (nomark _)))))
      (pss_one (ps_ret pe_bl))
      pss_nil)
    (pss_one (ps_ret (pe_callB (cr_all rfl) (by rfl) T.b_all (by decide +kernel) (pa_cons (pe_lc (own := [("number", 2)]) (g := (gName 2)) rfl sc_are_any_integers.nd (pi_tup (pv 0)) (blkOk_by (N := N_are_any_integers) (sc := defScope s_are_any_integers) (by decide +kernel)) (fun _ _ _ _ _ => (pg_name (i := 2) sc_are_any_integers.nd rfl (.inl rfl))) (fun _ _ _ _ _ => pts_nil) (fun _ _ _ _ _ => (pe_call G_is_any_integer (hr.mono (by decide)) (by rfl) g_is_any_integer k_is_any_integer b_is_any_integer .nil pass0 (pa_cons (pv 2) pa_nil)))) pa_nil))))), ?_⟩
    refine ⟨_, rfl, _, _, _, _, true, rfl, .ty _, sqT_ty ha, kit_ty (by decide +kernel), _, rfl, ?_⟩
    refine iteF ⟨_, rfl, a, _, rfl, .inr ha, _, rfl, rfl, _, rfl, ?_⟩
    refine ndF (by rw [List.length_map]) ?_
    refine ⟨_, rfl, a, rfl, ⟨_, ha⟩, ?_⟩
    refine lcT fm0 trivial ha (fun z => z) (fun i acc _ => acc = (List.replicate i true).map V.bl) (fun _ _ => rfl) (fun D i x acc H' hD hx e hA hlen hp => ?_) (fun D H' acc hD e hA hp => ?_)
    · obtain ⟨n, hn, rfl⟩ := get_int hx
      have hi := (List.getElem?_eq_some_iff.mp hn).1
      refine ⟨rfl, ?_⟩
      refine ⟨_, rfl, n, rfl, ?_⟩
      refine cs_yes fm0 trivial hD e hA hlen (by omega) (Fx.refl trivial) ?_
      show acc ++ [V.bl true] = _
      rw [hp, List.replicate_succ', List.map_append]
      rfl
    · rw [List.length_map] at hp
      subst hp
      refine ⟨D, _, rfl, SqL.of hA, ?_⟩
      rw [show ((List.replicate ns.length true).all id) = true by simp]
      exact q H' e
theorem ok_are_short_integers (T : Txt K mg C_Form) : Def P w K mg base 1 "are_short_integers" ["value", "many"] (sp_are_short_integers K C_Form) := by
  obtain ⟨f_, fd_, g_, F_⟩ := T.d_are_short_integers
  refine ⟨f_, fd_, g_, F_.kp, F_.binds (ps := ["value", "many"]) (fun _ _ _ _ _ _ us hl => match us, hl with | [_, _], _ => rfl), ?_⟩
  refine F_.ok sc_are_short_integers (fun vs H Q E h => ?_) (fun cdv A outer s H vs Q E hr h => ?_)
  · first | (obtain ⟨rfl, _⟩ := h; rfl) | (obtain ⟨_, rfl, _⟩ := h; rfl) | (obtain ⟨_, _, rfl, _⟩ := h; rfl) | (obtain ⟨_, _, _, rfl, _⟩ := h; rfl) | (obtain ⟨_, _, _, _, rfl, _⟩ := h; rfl) | (obtain ⟨_, _, _, _, _, rfl, _⟩ := h; rfl) | (obtain ⟨_, _, _, _, _, _, rfl, _⟩ := h; rfl) | (obtain ⟨_, _, _, _, _, _, _, rfl, _⟩ := h; rfl) | (obtain ⟨_, _, _, _, _, _, _, _, rfl, _⟩ := h; rfl) | (obtain ⟨_, _, _, _, _, _, _, _, _, rfl, _⟩ := h; rfl) | (obtain ⟨_, _, _, _, _, _, _, _, _, _, rfl, _⟩ := h; rfl) | (obtain ⟨_, _, _, _, _, _, _, _, _, _, _, rfl, _⟩ := h; rfl) | (obtain ⟨_, _, _, _, _, _, _, _, _, _, _, _, rfl, _⟩ := h; rfl) | (obtain ⟨_, _, _, _, _, _, _, _, _, _, _, _, _, rfl, _⟩ := h; rfl) | (obtain ⟨_, _, _, _, _, _, _, _, _, _, _, _, _, _, rfl, _⟩ := h; rfl) | (obtain ⟨_, _, _, _, _, _, _, _, _, _, _, _, _, _, _, rfl, _⟩ := h; rfl) | (obtain ⟨_, _, _, _, _, _, _, _, _, _, _, _, _, _, _, _, rfl, _⟩ := h; rfl) | (obtain ⟨_, _, _, _, _, _, _, _, _, _, _, _, _, _, _, _, _, rfl, _⟩ := h; rfl) | (obtain ⟨_, _, _, _, _, _, _, _, _, _, _, _, _, _, _, _, _, _, rfl, _⟩ := h; rfl) | (obtain ⟨_, _, _, _, _, _, _, _, _, _, _, _, _, _, _, _, _, _, _, rfl, _⟩ := h; rfl) | (obtain ⟨_, _, _, _, _, _, _, _, _, _, _, _, _, _, _, _, _, _, _, _, rfl, _⟩ := h; rfl) | (obtain ⟨_, _, _, _, _, _, _, _, _, _, _, _, _, _, _, _, _, _, _, _, _, rfl, _⟩ := h; rfl) | (obtain ⟨_, _, _, _, _, _, _, _, _, _, _, _, _, _, _, _, _, _, _, _, _, _, rfl, _⟩ := h; rfl) | (obtain ⟨_, _, _, _, _, _, _, _, _, _, _, _, _, _, _, _, _, _, _, _, _, _, _, rfl, _⟩ := h; rfl)
  · obtain ⟨a, ns, rfl, ha, hl, hs, q⟩ := h
    obtain ⟨t_LIMIT, h_LIMIT⟩ := T.x_LIMIT
    refine ⟨_, (pss_cons (ps_if (PW.pt (pw_or (pt_not (pt_val (pe_callB call_isi (by rfl) T.b_isinstance (by decide +kernel) (pa_cons (pv 0) (pa_cons (pe_bltn (v := .ty "tuple") (by rfl) T.b_tuple (by decide +kernel) rfl) pa_nil))))) (pw_or1 (pt_cmpR op_ne (pe_callB call_len_seq (by rfl) T.b_len PySem.boot_len (pa_cons (pv 0) pa_nil)) (pv 1) (nomark _)))))
      (pss_one (ps_ret pe_bl))
      pss_nil)
    (pss_one (ps_ret (pe_callB (cr_all rfl) (by rfl) T.b_all (by decide +kernel) (pa_cons (pe_lc (own := [("n", 2)]) (g := (gName 2)) rfl sc_are_short_integers.nd (pi_tup (pv 0)) (blkOk_by (N := N_are_short_integers) (sc := defScope s_are_short_integers) (by decide +kernel)) (fun _ _ _ _ _ => (pg_name (i := 2) sc_are_short_integers.nd rfl (.inl rfl))) (fun _ _ _ _ _ => pts_nil) (fun _ _ _ _ _ => (pe_and (pe_callB (call_isiKK (K := K) rfl) (by rfl) T.b_isinstance (by decide +kernel) (pa_cons (pv 2) (pa_cons (pe_bltn (v := .ty "int") (by rfl) T.b_int (by decide +kernel) rfl) pa_nil))) (pe_and (pe_not (pe_callB (call_isiKK (K := K) rfl) (by rfl) T.b_isinstance (by decide +kernel) (pa_cons (pv 2) (pa_cons (pe_bltn (v := .ty "bool") (by rfl) T.b_bool (by decide +kernel) rfl) pa_nil)))) (pe_one (pe_chain op_lt op_lt (pe_un un_neg (pe_glob (v := .int 1000000000000000000000000000000000000000000000000000000000000) (by rfl) h_LIMIT ⟨_, rfl⟩)) (pv 2) (pe_glob (v := .int 1000000000000000000000000000000000000000000000000000000000000) (by rfl) h_LIMIT ⟨_, rfl⟩))))))) pa_nil))))), ?_⟩
    refine ⟨_, rfl, _, _, _, _, true, rfl, .ty _, .base (.tup ha), kit_ty (by decide +kernel), _, rfl, ?_⟩
    refine iteF ⟨_, rfl, a, _, rfl, .inr (SqT.of ha), _, rfl, rfl, _, rfl, ?_⟩
    refine ndF (by rw [List.length_map]) ?_
    refine ⟨_, rfl, a, rfl, ⟨_, SqT.of ha⟩, ?_⟩
    refine lcT fm0 trivial (SqT.of ha) (fun z => z) (fun i acc _ => acc = (List.replicate i true).map V.bl) (fun _ _ => rfl) (fun D i x acc H' hD hx e hA hlen hp => ?_) (fun D H' acc hD e hA hp => ?_)
    · obtain ⟨n, hn, rfl⟩ := get_int hx
      have hi := (List.getElem?_eq_some_iff.mp hn).1
      refine ⟨rfl, ?_⟩
      have hn2 := hs n (List.mem_of_getElem? hn)
      refine ⟨_, rfl, _, _, _, _, true, rfl, .ty _, .base (.int n), kit_ty (by decide +kernel), _, rfl, iteT ?_⟩
      refine ⟨_, rfl, _, _, _, _, false, rfl, .ty _, .base (.int n), kit_ty (by decide +kernel), _, rfl, _, rfl, iteT ?_⟩
      refine ⟨_, rfl, _, rfl, _, _, rfl, rfl, _, rfl, dT hn2.1 ⟨_, _, rfl, rfl, ?_⟩⟩
      simp only [decide_eq_true hn2.2]
      refine cs_yes fm0 trivial hD e hA hlen (by omega) (Fx.refl trivial) ?_
      show acc ++ [V.bl true] = _
      rw [hp, List.replicate_succ', List.map_append]
      rfl
    · rw [List.length_map] at hp
      subst hp
      refine ⟨D, _, rfl, SqL.of hA, ?_⟩
      rw [show ((List.replicate ns.length true).all id) = true by simp]
      exact q H' e
theorem ok_shared_divisor (T : Txt K mg C_Form) : Def P w K mg base 1 "shared_divisor" ["numbers"] (sp_shared_divisor K C_Form) := by
  obtain ⟨f_, fd_, g_, F_⟩ := T.d_shared_divisor
  refine ⟨f_, fd_, g_, F_.kp, F_.binds (ps := ["numbers"]) (fun _ _ _ _ _ _ us hl => match us, hl with | [_], _ => rfl), ?_⟩
  refine F_.ok sc_shared_divisor (fun vs H Q E h => ?_) (fun cdv A outer s H vs Q E hr h => ?_)
  · first | (obtain ⟨rfl, _⟩ := h; rfl) | (obtain ⟨_, rfl, _⟩ := h; rfl) | (obtain ⟨_, _, rfl, _⟩ := h; rfl) | (obtain ⟨_, _, _, rfl, _⟩ := h; rfl) | (obtain ⟨_, _, _, _, rfl, _⟩ := h; rfl) | (obtain ⟨_, _, _, _, _, rfl, _⟩ := h; rfl) | (obtain ⟨_, _, _, _, _, _, rfl, _⟩ := h; rfl) | (obtain ⟨_, _, _, _, _, _, _, rfl, _⟩ := h; rfl) | (obtain ⟨_, _, _, _, _, _, _, _, rfl, _⟩ := h; rfl) | (obtain ⟨_, _, _, _, _, _, _, _, _, rfl, _⟩ := h; rfl) | (obtain ⟨_, _, _, _, _, _, _, _, _, _, rfl, _⟩ := h; rfl) | (obtain ⟨_, _, _, _, _, _, _, _, _, _, _, rfl, _⟩ := h; rfl) | (obtain ⟨_, _, _, _, _, _, _, _, _, _, _, _, rfl, _⟩ := h; rfl) | (obtain ⟨_, _, _, _, _, _, _, _, _, _, _, _, _, rfl, _⟩ := h; rfl) | (obtain ⟨_, _, _, _, _, _, _, _, _, _, _, _, _, _, rfl, _⟩ := h; rfl) | (obtain ⟨_, _, _, _, _, _, _, _, _, _, _, _, _, _, _, rfl, _⟩ := h; rfl) | (obtain ⟨_, _, _, _, _, _, _, _, _, _, _, _, _, _, _, _, rfl, _⟩ := h; rfl) | (obtain ⟨_, _, _, _, _, _, _, _, _, _, _, _, _, _, _, _, _, rfl, _⟩ := h; rfl) | (obtain ⟨_, _, _, _, _, _, _, _, _, _, _, _, _, _, _, _, _, _, rfl, _⟩ := h; rfl) | (obtain ⟨_, _, _, _, _, _, _, _, _, _, _, _, _, _, _, _, _, _, _, rfl, _⟩ := h; rfl) | (obtain ⟨_, _, _, _, _, _, _, _, _, _, _, _, _, _, _, _, _, _, _, _, rfl, _⟩ := h; rfl) | (obtain ⟨_, _, _, _, _, _, _, _, _, _, _, _, _, _, _, _, _, _, _, _, _, rfl, _⟩ := h; rfl) | (obtain ⟨_, _, _, _, _, _, _, _, _, _, _, _, _, _, _, _, _, _, _, _, _, _, rfl, _⟩ := h; rfl) | (obtain ⟨_, _, _, _, _, _, _, _, _, _, _, _, _, _, _, _, _, _, _, _, _, _, _, rfl, _⟩ := h; rfl)
  · obtain ⟨a, ns, rfl, ha, q⟩ := h
    refine ⟨_, (pss_cons (ps_set (i := 1) sc_shared_divisor.nd rfl (.inl rfl) pe_int)
    (pss_cons (ps_for PassesOwn.never rfl (pi_tup (pv 0)) (pg_name (i := 2) sc_shared_divisor.nd rfl (.inl rfl))
      (pss_one (ps_set (i := 1) sc_shared_divisor.nd rfl (.inl rfl) (pe_callBfun cr_gcd (by rfl) T.m_gcd (pa_cons (pv 1) (pa_cons (pv 2) pa_nil))))))
    (pss_one (ps_ret (pv 1))))), ?_⟩
    refine ⟨_, rfl, a, rfl, ⟨_, SqT.of ha⟩, for_tup (xs := ns.map V.int) (fun i σ H' => ∃ y2, σ = [some (.ref a), some (.int (gcdL (ns.take i) : Nat)), y2] ∧ H = H') ⟨none, rfl, rfl⟩ (fun i σ H' _ ⟨_, _, e⟩ => e ▸ SqT.of ha) ?_ ?_⟩
    · rintro i x σ H' hx ⟨y2, rfl, rfl⟩
      obtain ⟨n, hn, rfl⟩ := get_int hx
      refine ⟨_, rfl, _, rfl, _, _, rfl, ?_⟩
      refine ⟨some (.int n), ?_, rfl⟩
      rw [gcdL_take hn]
      rfl
    · rintro σ H' ⟨y2, rfl, rfl⟩
      refine ⟨_, rfl, ?_⟩
      rw [List.length_map, List.take_length]
      exact q
theorem ok_determinant_of (T : Txt K mg C_Form) : Def P w K mg base 1 "determinant_of" ["change"] (sp_determinant_of K C_Form) := by
  obtain ⟨f_, fd_, g_, F_⟩ := T.d_determinant_of
  refine ⟨f_, fd_, g_, F_.kp, F_.binds (ps := ["change"]) (fun _ _ _ _ _ _ us hl => match us, hl with | [_], _ => rfl), ?_⟩
  refine F_.ok sc_determinant_of (fun vs H Q E h => ?_) (fun cdv A outer s H vs Q E hr h => ?_)
  · first | (obtain ⟨rfl, _⟩ := h; rfl) | (obtain ⟨_, rfl, _⟩ := h; rfl) | (obtain ⟨_, _, rfl, _⟩ := h; rfl) | (obtain ⟨_, _, _, rfl, _⟩ := h; rfl) | (obtain ⟨_, _, _, _, rfl, _⟩ := h; rfl) | (obtain ⟨_, _, _, _, _, rfl, _⟩ := h; rfl) | (obtain ⟨_, _, _, _, _, _, rfl, _⟩ := h; rfl) | (obtain ⟨_, _, _, _, _, _, _, rfl, _⟩ := h; rfl) | (obtain ⟨_, _, _, _, _, _, _, _, rfl, _⟩ := h; rfl) | (obtain ⟨_, _, _, _, _, _, _, _, _, rfl, _⟩ := h; rfl) | (obtain ⟨_, _, _, _, _, _, _, _, _, _, rfl, _⟩ := h; rfl) | (obtain ⟨_, _, _, _, _, _, _, _, _, _, _, rfl, _⟩ := h; rfl) | (obtain ⟨_, _, _, _, _, _, _, _, _, _, _, _, rfl, _⟩ := h; rfl) | (obtain ⟨_, _, _, _, _, _, _, _, _, _, _, _, _, rfl, _⟩ := h; rfl) | (obtain ⟨_, _, _, _, _, _, _, _, _, _, _, _, _, _, rfl, _⟩ := h; rfl) | (obtain ⟨_, _, _, _, _, _, _, _, _, _, _, _, _, _, _, rfl, _⟩ := h; rfl) | (obtain ⟨_, _, _, _, _, _, _, _, _, _, _, _, _, _, _, _, rfl, _⟩ := h; rfl) | (obtain ⟨_, _, _, _, _, _, _, _, _, _, _, _, _, _, _, _, _, rfl, _⟩ := h; rfl) | (obtain ⟨_, _, _, _, _, _, _, _, _, _, _, _, _, _, _, _, _, _, rfl, _⟩ := h; rfl) | (obtain ⟨_, _, _, _, _, _, _, _, _, _, _, _, _, _, _, _, _, _, _, rfl, _⟩ := h; rfl) | (obtain ⟨_, _, _, _, _, _, _, _, _, _, _, _, _, _, _, _, _, _, _, _, rfl, _⟩ := h; rfl) | (obtain ⟨_, _, _, _, _, _, _, _, _, _, _, _, _, _, _, _, _, _, _, _, _, rfl, _⟩ := h; rfl) | (obtain ⟨_, _, _, _, _, _, _, _, _, _, _, _, _, _, _, _, _, _, _, _, _, _, rfl, _⟩ := h; rfl) | (obtain ⟨_, _, _, _, _, _, _, _, _, _, _, _, _, _, _, _, _, _, _, _, _, _, _, rfl, _⟩ := h; rfl)
  · obtain ⟨a, p, q', r, s', rfl, ⟨t1, t2, h0, h1, h2⟩, bp, bq, br, bs, q⟩ := h
    refine ⟨_, (pss_cons (ps_asg (pv 0) (pg_tup (by rfl) (pgs_cons (pg_tup (by rfl) (pgs_cons (pg_name (i := 1) sc_determinant_of.nd rfl (.inl rfl)) (pgs_cons (pg_name (i := 2) sc_determinant_of.nd rfl (.inl rfl)) pgs_nil))) (pgs_cons (pg_tup (by rfl) (pgs_cons (pg_name (i := 3) sc_determinant_of.nd rfl (.inl rfl)) (pgs_cons (pg_name (i := 4) sc_determinant_of.nd rfl (.inl rfl)) pgs_nil))) pgs_nil))))
    (pss_one (ps_ret (pe_op op_sub (pe_op op_mulW (pv 1) (pv 4)) (pe_op op_mulW (pv 2) (pv 3)))))), ?_⟩
    refine ⟨_, rfl, a, _, rfl, SqT.of h0, rfl, _, _, rfl, ?_⟩
    refine ⟨t1, _, rfl, SqT.of h1, rfl, _, _, rfl, ?_⟩
    refine ⟨_, _, rfl, ⟨rfl, ?_⟩⟩
    refine ⟨_, _, rfl, ?_⟩
    refine ⟨t2, _, rfl, SqT.of h2, rfl, _, _, rfl, ?_⟩
    refine ⟨_, _, rfl, ⟨rfl, ?_⟩⟩
    refine ⟨rfl, ?_⟩
    exact ⟨_, rfl, _, rfl, _, _, rfl, rfl, mulB (by with_reducible assumption) (by with_reducible assumption) (by decide), _, rfl, _, rfl, _, _, rfl, rfl, mulB (by with_reducible assumption) (by with_reducible assumption) (by decide), _, _, rfl, rfl, q⟩
theorem ok_is_change (T : Txt K mg C_Form) : Def P w K mg base 3 "is_change" ["value"] (sp_is_change K C_Form) := by
  obtain ⟨f_, fd_, g_, F_⟩ := T.d_is_change
  obtain ⟨f_are_any_integers, fd_are_any_integers, g_are_any_integers, k_are_any_integers, b_are_any_integers, G_are_any_integers⟩ := (ok_are_any_integers (P := P) (w := w) (base := base) T)
  obtain ⟨f_determinant_of, fd_determinant_of, g_determinant_of, k_determinant_of, b_determinant_of, G_determinant_of⟩ := (ok_determinant_of (P := P) (w := w) (base := base) T)
  refine ⟨f_, fd_, g_, F_.kp, F_.binds (ps := ["value"]) (fun _ _ _ _ _ _ us hl => match us, hl with | [_], _ => rfl), ?_⟩
  refine F_.ok sc_is_change (fun vs H Q E h => ?_) (fun cdv A outer s H vs Q E hr h => ?_)
  · first | (obtain ⟨rfl, _⟩ := h; rfl) | (obtain ⟨_, rfl, _⟩ := h; rfl) | (obtain ⟨_, _, rfl, _⟩ := h; rfl) | (obtain ⟨_, _, _, rfl, _⟩ := h; rfl) | (obtain ⟨_, _, _, _, rfl, _⟩ := h; rfl) | (obtain ⟨_, _, _, _, _, rfl, _⟩ := h; rfl) | (obtain ⟨_, _, _, _, _, _, rfl, _⟩ := h; rfl) | (obtain ⟨_, _, _, _, _, _, _, rfl, _⟩ := h; rfl) | (obtain ⟨_, _, _, _, _, _, _, _, rfl, _⟩ := h; rfl) | (obtain ⟨_, _, _, _, _, _, _, _, _, rfl, _⟩ := h; rfl) | (obtain ⟨_, _, _, _, _, _, _, _, _, _, rfl, _⟩ := h; rfl) | (obtain ⟨_, _, _, _, _, _, _, _, _, _, _, rfl, _⟩ := h; rfl) | (obtain ⟨_, _, _, _, _, _, _, _, _, _, _, _, rfl, _⟩ := h; rfl) | (obtain ⟨_, _, _, _, _, _, _, _, _, _, _, _, _, rfl, _⟩ := h; rfl) | (obtain ⟨_, _, _, _, _, _, _, _, _, _, _, _, _, _, rfl, _⟩ := h; rfl) | (obtain ⟨_, _, _, _, _, _, _, _, _, _, _, _, _, _, _, rfl, _⟩ := h; rfl) | (obtain ⟨_, _, _, _, _, _, _, _, _, _, _, _, _, _, _, _, rfl, _⟩ := h; rfl) | (obtain ⟨_, _, _, _, _, _, _, _, _, _, _, _, _, _, _, _, _, rfl, _⟩ := h; rfl) | (obtain ⟨_, _, _, _, _, _, _, _, _, _, _, _, _, _, _, _, _, _, rfl, _⟩ := h; rfl) | (obtain ⟨_, _, _, _, _, _, _, _, _, _, _, _, _, _, _, _, _, _, _, rfl, _⟩ := h; rfl) | (obtain ⟨_, _, _, _, _, _, _, _, _, _, _, _, _, _, _, _, _, _, _, _, rfl, _⟩ := h; rfl) | (obtain ⟨_, _, _, _, _, _, _, _, _, _, _, _, _, _, _, _, _, _, _, _, _, rfl, _⟩ := h; rfl) | (obtain ⟨_, _, _, _, _, _, _, _, _, _, _, _, _, _, _, _, _, _, _, _, _, _, rfl, _⟩ := h; rfl) | (obtain ⟨_, _, _, _, _, _, _, _, _, _, _, _, _, _, _, _, _, _, _, _, _, _, _, rfl, _⟩ := h; rfl)
  · obtain ⟨a, p, q', r, s', rfl, h4, hc, q⟩ := h
    obtain ⟨t1, t2, h0, h1, h2⟩ := id h4
    refine ⟨_, (pss_cons (ps_if (PW.pt (pw_or (pt_not (pt_val (pe_callB call_isi (by rfl) T.b_isinstance (by decide +kernel) (pa_cons (pv 0) (pa_cons (pe_bltn (v := .ty "tuple") (by rfl) T.b_tuple (by decide +kernel) rfl) pa_nil))))) (pw_or1 (pt_cmpR op_ne (pe_callB call_len_seq (by rfl) T.b_len PySem.boot_len (pa_cons (pv 0) pa_nil)) pe_int (nomark _)))))
      (pss_one (ps_ret pe_bl))
      pss_nil)
    (pss_cons (ps_if (pt_not (pt_val (pe_callB (cr_all rfl) (by rfl) T.b_all (by decide +kernel) (pa_cons (pe_lc (own := [("row", 1)]) (g := (gName 1)) rfl sc_is_change.nd (pi_tup (pv 0)) (blkOk_by (N := N_is_change) (sc := defScope s_is_change) (by decide +kernel)) (fun _ _ _ _ _ => (pg_name (i := 1) sc_is_change.nd rfl (.inl rfl))) (fun _ _ _ _ _ => pts_nil) (fun _ _ _ _ _ => (pe_call G_are_any_integers (hr.mono (by decide)) (by rfl) g_are_any_integers k_are_any_integers b_are_any_integers .nil pass0 (pa_cons (pv 1) (pa_cons pe_int pa_nil))))) pa_nil))))
      (pss_one (ps_ret pe_bl))
      pss_nil)
    (pss_one (ps_ret (pe_cmpR op_in_seq (pe_call G_determinant_of (hr.mono (by decide)) (by rfl) g_determinant_of k_determinant_of b_determinant_of .nil pass0 (pa_cons (pv 0) pa_nil)) (pe_tup (pa_cons pe_int (pa_cons (pe_un un_neg pe_int) pa_nil))) (by with_unfolding_all rfl)))))), ?_⟩
    refine ⟨_, rfl, _, _, _, _, true, rfl, .ty _, .base (.tup h0), kit_ty (by decide +kernel), _, rfl, ?_⟩
    refine iteF ⟨_, rfl, a, _, rfl, .inr (SqT.of h0), rfl, _, rfl, ?_⟩
    refine ndF rfl ?_
    refine ⟨_, rfl, a, rfl, ⟨_, SqT.of h0⟩, ?_⟩
    refine lcT fm0 trivial (SqT.of h0) (fun z => z) (fun i acc _ => acc = (List.replicate i true).map V.bl) (fun _ _ => rfl) (fun D i x acc H' hD hx e hA hlen hp => ?_) (fun D H' acc hD e hA hp => ?_)
    · have fin : ∀ (t : Addr) (u v : Int), x = .ref t → H t = some (.tup [.int u, .int v]) → i < 2 → ∃ t, x = .ref t ∧ ∃ u v, H' t = some (.tup [.int u, .int v]) ∧ i < 2 := fun t u v e1 e2 e3 => ⟨t, e1, u, v, Ex0.ap e e2, e3⟩
      obtain ⟨t, rfl, u, v, ht, hi⟩ : ∃ t, x = .ref t ∧ ∃ u v, H' t = some (.tup [.int u, .int v]) ∧ i < 2 := by
        match i, hx with
        | 0, hx => exact fin t1 p q' (Option.some.inj hx).symm h1 (by decide)
        | 1, hx => exact fin t2 r s' (Option.some.inj hx).symm h2 (by decide)
      refine ⟨rfl, ?_⟩
      refine ⟨_, rfl, t, [u, v], rfl, SqT.of ht, by show 2 ≤ 1000; decide, fun H'' e'' => ?_⟩
      refine cs_yes fm0 trivial hD e hA hlen (by omega) e'' ?_
      rw [hp, List.replicate_succ', List.map_append]
      rfl
    · refine ⟨D, List.replicate 2 true, rfl, SqL.of (by rw [hA, hp]; rfl), _, rfl, ?_⟩
      refine ⟨_, rfl, a, p, q', r, s', rfl, Ex0.t4 e h4, hc.1.b, hc.2.1.b, hc.2.2.1.b, hc.2.2.2.1.b, _, rfl, sl2, fun u nu => ?_⟩
      refine ⟨u, _, rfl, .inr (SqT.of upd_same), rfl, rfl, ?_⟩
      have e1 : inV (.int (p * s' - q' * r)) [.int 1, .int (-1)] = true := by
        show ((1 : Int) == p * s' - q' * r || ((-1 : Int) == p * s' - q' * r || false)) = true
        rcases hc.2.2.2.2 with z | z <;> rw [z] <;> decide
      show Q (.bl (inV (.int (p * s' - q' * r)) [.int 1, .int (-1)])) _
      rw [e1]
      exact q _ (e.trans (Ex0.new nu))
theorem ok_is_short_change (T : Txt K mg C_Form) : Def P w K mg base 4 "is_short_change" ["value"] (sp_is_short_change K C_Form) := by
  obtain ⟨f_, fd_, g_, F_⟩ := T.d_is_short_change
  obtain ⟨f_are_short_integers, fd_are_short_integers, g_are_short_integers, k_are_short_integers, b_are_short_integers, G_are_short_integers⟩ := (ok_are_short_integers (P := P) (w := w) (base := base) T)
  obtain ⟨f_is_change, fd_is_change, g_is_change, k_is_change, b_is_change, G_is_change⟩ := (ok_is_change (P := P) (w := w) (base := base) T)
  refine ⟨f_, fd_, g_, F_.kp, F_.binds (ps := ["value"]) (fun _ _ _ _ _ _ us hl => match us, hl with | [_], _ => rfl), ?_⟩
  refine F_.ok sc_is_short_change (fun vs H Q E h => ?_) (fun cdv A outer s H vs Q E hr h => ?_)
  · first | (obtain ⟨rfl, _⟩ := h; rfl) | (obtain ⟨_, rfl, _⟩ := h; rfl) | (obtain ⟨_, _, rfl, _⟩ := h; rfl) | (obtain ⟨_, _, _, rfl, _⟩ := h; rfl) | (obtain ⟨_, _, _, _, rfl, _⟩ := h; rfl) | (obtain ⟨_, _, _, _, _, rfl, _⟩ := h; rfl) | (obtain ⟨_, _, _, _, _, _, rfl, _⟩ := h; rfl) | (obtain ⟨_, _, _, _, _, _, _, rfl, _⟩ := h; rfl) | (obtain ⟨_, _, _, _, _, _, _, _, rfl, _⟩ := h; rfl) | (obtain ⟨_, _, _, _, _, _, _, _, _, rfl, _⟩ := h; rfl) | (obtain ⟨_, _, _, _, _, _, _, _, _, _, rfl, _⟩ := h; rfl) | (obtain ⟨_, _, _, _, _, _, _, _, _, _, _, rfl, _⟩ := h; rfl) | (obtain ⟨_, _, _, _, _, _, _, _, _, _, _, _, rfl, _⟩ := h; rfl) | (obtain ⟨_, _, _, _, _, _, _, _, _, _, _, _, _, rfl, _⟩ := h; rfl) | (obtain ⟨_, _, _, _, _, _, _, _, _, _, _, _, _, _, rfl, _⟩ := h; rfl) | (obtain ⟨_, _, _, _, _, _, _, _, _, _, _, _, _, _, _, rfl, _⟩ := h; rfl) | (obtain ⟨_, _, _, _, _, _, _, _, _, _, _, _, _, _, _, _, rfl, _⟩ := h; rfl) | (obtain ⟨_, _, _, _, _, _, _, _, _, _, _, _, _, _, _, _, _, rfl, _⟩ := h; rfl) | (obtain ⟨_, _, _, _, _, _, _, _, _, _, _, _, _, _, _, _, _, _, rfl, _⟩ := h; rfl) | (obtain ⟨_, _, _, _, _, _, _, _, _, _, _, _, _, _, _, _, _, _, _, rfl, _⟩ := h; rfl) | (obtain ⟨_, _, _, _, _, _, _, _, _, _, _, _, _, _, _, _, _, _, _, _, rfl, _⟩ := h; rfl) | (obtain ⟨_, _, _, _, _, _, _, _, _, _, _, _, _, _, _, _, _, _, _, _, _, rfl, _⟩ := h; rfl) | (obtain ⟨_, _, _, _, _, _, _, _, _, _, _, _, _, _, _, _, _, _, _, _, _, _, rfl, _⟩ := h; rfl) | (obtain ⟨_, _, _, _, _, _, _, _, _, _, _, _, _, _, _, _, _, _, _, _, _, _, _, rfl, _⟩ := h; rfl)
  · obtain ⟨a, p, q', r, s', rfl, h4, hc, q⟩ := h
    refine ⟨_, (pss_one (ps_ret (pe_and (pe_call G_is_change (hr.mono (by decide)) (by rfl) g_is_change k_is_change b_is_change .nil pass0 (pa_cons (pv 0) pa_nil)) (pe_one (pe_callB (cr_all rfl) (by rfl) T.b_all (by decide +kernel) (pa_cons (pe_lc (own := [("row", 1)]) (g := (gName 1)) rfl sc_is_short_change.nd (pi_tup (pv 0)) (blkOk_by (N := N_is_short_change) (sc := defScope s_is_short_change) (by decide +kernel)) (fun _ _ _ _ _ => (pg_name (i := 1) sc_is_short_change.nd rfl (.inl rfl))) (fun _ _ _ _ _ => pts_nil) (fun _ _ _ _ _ => (pe_call G_are_short_integers (hr.mono (by decide)) (by rfl) g_are_short_integers k_are_short_integers b_are_short_integers .nil pass0 (pa_cons (pv 1) (pa_cons pe_int pa_nil))))) pa_nil)))))), ?_⟩
    refine ⟨_, rfl, a, p, q', r, s', rfl, h4, hc, fun H1 e1 => ⟨_, rfl, iteT ?_⟩⟩
    obtain ⟨t1, t2, h0, h1, h2⟩ := Ex0.t4 e1 h4
    refine ⟨_, rfl, a, rfl, ⟨_, SqT.of h0⟩, ?_⟩
    refine lcT fm0 trivial (SqT.of h0) (fun z => z) (fun i acc _ => acc = (List.replicate i true).map V.bl) (fun _ _ => rfl) (fun D i x acc H' hD hx e hA hlen hp => ?_) (fun D H' acc hD e hA hp => ?_)
    · have fin : ∀ (t : Addr) (u v : Int), x = .ref t → H1 t = some (.tup [.int u, .int v]) → Short u → Short v → i < 2 → ∃ t, x = .ref t ∧ ∃ u v, H' t = some (.tup [.int u, .int v]) ∧ Short u ∧ Short v ∧ i < 2 := fun t u v e1 e2 e3 e4 e5 => ⟨t, e1, u, v, Ex0.ap e e2, e3, e4, e5⟩
      obtain ⟨t, rfl, u, v, ht, su, sv, hi⟩ : ∃ t, x = .ref t ∧ ∃ u v, H' t = some (.tup [.int u, .int v]) ∧ Short u ∧ Short v ∧ i < 2 := by
        match i, hx with
        | 0, hx => exact fin t1 p q' (Option.some.inj hx).symm h1 hc.1 hc.2.1 (by decide)
        | 1, hx => exact fin t2 r s' (Option.some.inj hx).symm h2 hc.2.2.1 hc.2.2.2.1 (by decide)
      refine ⟨rfl, ?_⟩
      refine ⟨_, rfl, t, [u, v], rfl, ht, by show 2 ≤ 1000; decide, fun n hn => ?_, fun H'' e'' => ?_⟩
      · simp only [List.mem_cons, List.mem_nil_iff, or_false] at hn
        rcases hn with rfl | rfl
        · exact su
        · exact sv
      · refine cs_yes fm0 trivial hD e hA hlen (by omega) e'' ?_
        rw [hp, List.replicate_succ', List.map_append]
        rfl
    · refine ⟨D, List.replicate 2 true, rfl, SqL.of (by rw [hA, hp]; rfl), ?_⟩
      exact q _ (e1.trans e)
theorem ok_check_change (T : Txt K mg C_Form) : Def P w K mg base 5 "check_change" ["value"] (sp_check_change K C_Form) := by
  obtain ⟨f_, fd_, g_, F_⟩ := T.d_check_change
  obtain ⟨f_is_short_change, fd_is_short_change, g_is_short_change, k_is_short_change, b_is_short_change, G_is_short_change⟩ := (ok_is_short_change (P := P) (w := w) (base := base) T)
  refine ⟨f_, fd_, g_, F_.kp, F_.binds (ps := ["value"]) (fun _ _ _ _ _ _ us hl => match us, hl with | [_], _ => rfl), ?_⟩
  refine F_.ok sc_check_change (fun vs H Q E h => ?_) (fun cdv A outer s H vs Q E hr h => ?_)
  · first | (obtain ⟨rfl, _⟩ := h; rfl) | (obtain ⟨_, rfl, _⟩ := h; rfl) | (obtain ⟨_, _, rfl, _⟩ := h; rfl) | (obtain ⟨_, _, _, rfl, _⟩ := h; rfl) | (obtain ⟨_, _, _, _, rfl, _⟩ := h; rfl) | (obtain ⟨_, _, _, _, _, rfl, _⟩ := h; rfl) | (obtain ⟨_, _, _, _, _, _, rfl, _⟩ := h; rfl) | (obtain ⟨_, _, _, _, _, _, _, rfl, _⟩ := h; rfl) | (obtain ⟨_, _, _, _, _, _, _, _, rfl, _⟩ := h; rfl) | (obtain ⟨_, _, _, _, _, _, _, _, _, rfl, _⟩ := h; rfl) | (obtain ⟨_, _, _, _, _, _, _, _, _, _, rfl, _⟩ := h; rfl) | (obtain ⟨_, _, _, _, _, _, _, _, _, _, _, rfl, _⟩ := h; rfl) | (obtain ⟨_, _, _, _, _, _, _, _, _, _, _, _, rfl, _⟩ := h; rfl) | (obtain ⟨_, _, _, _, _, _, _, _, _, _, _, _, _, rfl, _⟩ := h; rfl) | (obtain ⟨_, _, _, _, _, _, _, _, _, _, _, _, _, _, rfl, _⟩ := h; rfl) | (obtain ⟨_, _, _, _, _, _, _, _, _, _, _, _, _, _, _, rfl, _⟩ := h; rfl) | (obtain ⟨_, _, _, _, _, _, _, _, _, _, _, _, _, _, _, _, rfl, _⟩ := h; rfl) | (obtain ⟨_, _, _, _, _, _, _, _, _, _, _, _, _, _, _, _, _, rfl, _⟩ := h; rfl) | (obtain ⟨_, _, _, _, _, _, _, _, _, _, _, _, _, _, _, _, _, _, rfl, _⟩ := h; rfl) | (obtain ⟨_, _, _, _, _, _, _, _, _, _, _, _, _, _, _, _, _, _, _, rfl, _⟩ := h; rfl) | (obtain ⟨_, _, _, _, _, _, _, _, _, _, _, _, _, _, _, _, _, _, _, _, rfl, _⟩ := h; rfl) | (obtain ⟨_, _, _, _, _, _, _, _, _, _, _, _, _, _, _, _, _, _, _, _, _, rfl, _⟩ := h; rfl) | (obtain ⟨_, _, _, _, _, _, _, _, _, _, _, _, _, _, _, _, _, _, _, _, _, _, rfl, _⟩ := h; rfl) | (obtain ⟨_, _, _, _, _, _, _, _, _, _, _, _, _, _, _, _, _, _, _, _, _, _, _, rfl, _⟩ := h; rfl)
  · obtain ⟨a, p, q', r, s', rfl, h4, hc, q⟩ := h
    refine ⟨_, (pss_one (ps_if (pt_not (pt_val (pe_call G_is_short_change (hr.mono (by decide)) (by rfl) g_is_short_change k_is_short_change b_is_short_change .nil pass0 (pa_cons (pv 0) pa_nil))))
      pss_never
      pss_nil)), ?_⟩
    refine ⟨_, rfl, a, p, q', r, s', rfl, h4, hc, fun H1 e1 => ⟨_, rfl, ?_⟩⟩
    exact iteF (q _ e1)
theorem ok_form_value (T : Txt K mg C_Form) : Def P w K mg base 1 "form_value" ["coefficients", "x", "y"] (sp_form_value K C_Form) := by
  obtain ⟨f_, fd_, g_, F_⟩ := T.d_form_value
  refine ⟨f_, fd_, g_, F_.kp, F_.binds (ps := ["coefficients", "x", "y"]) (fun _ _ _ _ _ _ us hl => match us, hl with | [_, _, _], _ => rfl), ?_⟩
  refine F_.ok sc_form_value (fun vs H Q E h => ?_) (fun cdv A outer s H vs Q E hr h => ?_)
  · first | (obtain ⟨rfl, _⟩ := h; rfl) | (obtain ⟨_, rfl, _⟩ := h; rfl) | (obtain ⟨_, _, rfl, _⟩ := h; rfl) | (obtain ⟨_, _, _, rfl, _⟩ := h; rfl) | (obtain ⟨_, _, _, _, rfl, _⟩ := h; rfl) | (obtain ⟨_, _, _, _, _, rfl, _⟩ := h; rfl) | (obtain ⟨_, _, _, _, _, _, rfl, _⟩ := h; rfl) | (obtain ⟨_, _, _, _, _, _, _, rfl, _⟩ := h; rfl) | (obtain ⟨_, _, _, _, _, _, _, _, rfl, _⟩ := h; rfl) | (obtain ⟨_, _, _, _, _, _, _, _, _, rfl, _⟩ := h; rfl) | (obtain ⟨_, _, _, _, _, _, _, _, _, _, rfl, _⟩ := h; rfl) | (obtain ⟨_, _, _, _, _, _, _, _, _, _, _, rfl, _⟩ := h; rfl) | (obtain ⟨_, _, _, _, _, _, _, _, _, _, _, _, rfl, _⟩ := h; rfl) | (obtain ⟨_, _, _, _, _, _, _, _, _, _, _, _, _, rfl, _⟩ := h; rfl) | (obtain ⟨_, _, _, _, _, _, _, _, _, _, _, _, _, _, rfl, _⟩ := h; rfl) | (obtain ⟨_, _, _, _, _, _, _, _, _, _, _, _, _, _, _, rfl, _⟩ := h; rfl) | (obtain ⟨_, _, _, _, _, _, _, _, _, _, _, _, _, _, _, _, rfl, _⟩ := h; rfl) | (obtain ⟨_, _, _, _, _, _, _, _, _, _, _, _, _, _, _, _, _, rfl, _⟩ := h; rfl) | (obtain ⟨_, _, _, _, _, _, _, _, _, _, _, _, _, _, _, _, _, _, rfl, _⟩ := h; rfl) | (obtain ⟨_, _, _, _, _, _, _, _, _, _, _, _, _, _, _, _, _, _, _, rfl, _⟩ := h; rfl) | (obtain ⟨_, _, _, _, _, _, _, _, _, _, _, _, _, _, _, _, _, _, _, _, rfl, _⟩ := h; rfl) | (obtain ⟨_, _, _, _, _, _, _, _, _, _, _, _, _, _, _, _, _, _, _, _, _, rfl, _⟩ := h; rfl) | (obtain ⟨_, _, _, _, _, _, _, _, _, _, _, _, _, _, _, _, _, _, _, _, _, _, rfl, _⟩ := h; rfl) | (obtain ⟨_, _, _, _, _, _, _, _, _, _, _, _, _, _, _, _, _, _, _, _, _, _, _, rfl, _⟩ := h; rfl)
  · obtain ⟨t, a, b, c, d, x, y, rfl, ht, ba, bb, bc, bd, bx, by', q⟩ := h
    refine ⟨_, (pss_cons (ps_asg (pv 0) (pg_tup (by rfl) (pgs_cons (pg_name (i := 3) sc_form_value.nd rfl (.inl rfl)) (pgs_cons (pg_name (i := 4) sc_form_value.nd rfl (.inl rfl)) (pgs_cons (pg_name (i := 5) sc_form_value.nd rfl (.inl rfl)) (pgs_cons (pg_name (i := 6) sc_form_value.nd rfl (.inl rfl)) pgs_nil))))))
    (pss_one (ps_ret (pe_op op_add (pe_op op_add (pe_op op_add (pe_op op_mulW (pe_op op_mulW (pe_op op_mulW (pv 3) (pv 1)) (pv 1)) (pv 1)) (pe_op op_mulW (pe_op op_mulW (pe_op op_mulW (pv 4) (pv 1)) (pv 1)) (pv 2))) (pe_op op_mulW (pe_op op_mulW (pe_op op_mulW (pv 5) (pv 1)) (pv 2)) (pv 2))) (pe_op op_mulW (pe_op op_mulW (pe_op op_mulW (pv 6) (pv 2)) (pv 2)) (pv 2)))))), ?_⟩
    refine ⟨_, rfl, unI4 ht ?_⟩
    exact ⟨_, rfl, _, rfl, _, _, rfl, rfl, mulB (by with_reducible assumption) (by with_reducible assumption) (by decide), _, rfl, _, _, rfl, rfl, mulB (B.mul (by with_reducible assumption) (by with_reducible assumption)) (by with_reducible assumption) (by decide), _, rfl, _, _, rfl, rfl, mulB (B.mul (B.mul (by with_reducible assumption) (by with_reducible assumption)) (by with_reducible assumption)) (by with_reducible assumption) (by decide), _, rfl, _, rfl, _, _, rfl, rfl, mulB (by with_reducible assumption) (by with_reducible assumption) (by decide), _, rfl, _, _, rfl, rfl, mulB (B.mul (by with_reducible assumption) (by with_reducible assumption)) (by with_reducible assumption) (by decide), _, rfl, _, _, rfl, rfl, mulB (B.mul (B.mul (by with_reducible assumption) (by with_reducible assumption)) (by with_reducible assumption)) (by with_reducible assumption) (by decide), _, _, rfl, rfl, _, rfl, _, rfl, _, _, rfl, rfl, mulB (by with_reducible assumption) (by with_reducible assumption) (by decide), _, rfl, _, _, rfl, rfl, mulB (B.mul (by with_reducible assumption) (by with_reducible assumption)) (by with_reducible assumption) (by decide), _, rfl, _, _, rfl, rfl, mulB (B.mul (B.mul (by with_reducible assumption) (by with_reducible assumption)) (by with_reducible assumption)) (by with_reducible assumption) (by decide), _, _, rfl, rfl, _, rfl, _, rfl, _, _, rfl, rfl, mulB (by with_reducible assumption) (by with_reducible assumption) (by decide), _, rfl, _, _, rfl, rfl, mulB (B.mul (by with_reducible assumption) (by with_reducible assumption)) (by with_reducible assumption) (by decide), _, rfl, _, _, rfl, rfl, mulB (B.mul (B.mul (by with_reducible assumption) (by with_reducible assumption)) (by with_reducible assumption)) (by with_reducible assumption) (by decide), _, _, rfl, rfl, q⟩
theorem ok_form_discriminant (T : Txt K mg C_Form) : Def P w K mg base 1 "form_discriminant" ["coefficients"] (sp_form_discriminant K C_Form) := by
  obtain ⟨f_, fd_, g_, F_⟩ := T.d_form_discriminant
  refine ⟨f_, fd_, g_, F_.kp, F_.binds (ps := ["coefficients"]) (fun _ _ _ _ _ _ us hl => match us, hl with | [_], _ => rfl), ?_⟩
  refine F_.ok sc_form_discriminant (fun vs H Q E h => ?_) (fun cdv A outer s H vs Q E hr h => ?_)
  · first | (obtain ⟨rfl, _⟩ := h; rfl) | (obtain ⟨_, rfl, _⟩ := h; rfl) | (obtain ⟨_, _, rfl, _⟩ := h; rfl) | (obtain ⟨_, _, _, rfl, _⟩ := h; rfl) | (obtain ⟨_, _, _, _, rfl, _⟩ := h; rfl) | (obtain ⟨_, _, _, _, _, rfl, _⟩ := h; rfl) | (obtain ⟨_, _, _, _, _, _, rfl, _⟩ := h; rfl) | (obtain ⟨_, _, _, _, _, _, _, rfl, _⟩ := h; rfl) | (obtain ⟨_, _, _, _, _, _, _, _, rfl, _⟩ := h; rfl) | (obtain ⟨_, _, _, _, _, _, _, _, _, rfl, _⟩ := h; rfl) | (obtain ⟨_, _, _, _, _, _, _, _, _, _, rfl, _⟩ := h; rfl) | (obtain ⟨_, _, _, _, _, _, _, _, _, _, _, rfl, _⟩ := h; rfl) | (obtain ⟨_, _, _, _, _, _, _, _, _, _, _, _, rfl, _⟩ := h; rfl) | (obtain ⟨_, _, _, _, _, _, _, _, _, _, _, _, _, rfl, _⟩ := h; rfl) | (obtain ⟨_, _, _, _, _, _, _, _, _, _, _, _, _, _, rfl, _⟩ := h; rfl) | (obtain ⟨_, _, _, _, _, _, _, _, _, _, _, _, _, _, _, rfl, _⟩ := h; rfl) | (obtain ⟨_, _, _, _, _, _, _, _, _, _, _, _, _, _, _, _, rfl, _⟩ := h; rfl) | (obtain ⟨_, _, _, _, _, _, _, _, _, _, _, _, _, _, _, _, _, rfl, _⟩ := h; rfl) | (obtain ⟨_, _, _, _, _, _, _, _, _, _, _, _, _, _, _, _, _, _, rfl, _⟩ := h; rfl) | (obtain ⟨_, _, _, _, _, _, _, _, _, _, _, _, _, _, _, _, _, _, _, rfl, _⟩ := h; rfl) | (obtain ⟨_, _, _, _, _, _, _, _, _, _, _, _, _, _, _, _, _, _, _, _, rfl, _⟩ := h; rfl) | (obtain ⟨_, _, _, _, _, _, _, _, _, _, _, _, _, _, _, _, _, _, _, _, _, rfl, _⟩ := h; rfl) | (obtain ⟨_, _, _, _, _, _, _, _, _, _, _, _, _, _, _, _, _, _, _, _, _, _, rfl, _⟩ := h; rfl) | (obtain ⟨_, _, _, _, _, _, _, _, _, _, _, _, _, _, _, _, _, _, _, _, _, _, _, rfl, _⟩ := h; rfl)
  · obtain ⟨t, a, b, c, d, rfl, ht, ba, bb, bc, bd, q⟩ := h
    refine ⟨_, (pss_cons (ps_asg (pv 0) (pg_tup (by rfl) (pgs_cons (pg_name (i := 1) sc_form_discriminant.nd rfl (.inl rfl)) (pgs_cons (pg_name (i := 2) sc_form_discriminant.nd rfl (.inl rfl)) (pgs_cons (pg_name (i := 3) sc_form_discriminant.nd rfl (.inl rfl)) (pgs_cons (pg_name (i := 4) sc_form_discriminant.nd rfl (.inl rfl)) pgs_nil))))))
    (pss_one (ps_ret (pe_op op_add (pe_op op_sub (pe_op op_sub (pe_op op_sub (pe_op op_mulW (pe_op op_mulW (pe_op op_mulW (pv 2) (pv 2)) (pv 3)) (pv 3)) (pe_op op_mulW (pe_op op_mulW (pe_op op_mulW (pe_op op_mulW pe_int (pv 1)) (pv 3)) (pv 3)) (pv 3))) (pe_op op_mulW (pe_op op_mulW (pe_op op_mulW (pe_op op_mulW pe_int (pv 2)) (pv 2)) (pv 2)) (pv 4))) (pe_op op_mulW (pe_op op_mulW (pe_op op_mulW (pe_op op_mulW pe_int (pv 1)) (pv 1)) (pv 4)) (pv 4))) (pe_op op_mulW (pe_op op_mulW (pe_op op_mulW (pe_op op_mulW pe_int (pv 1)) (pv 2)) (pv 3)) (pv 4)))))), ?_⟩
    refine ⟨_, rfl, unI4 ht ?_⟩
    exact ⟨_, rfl, _, rfl, _, _, rfl, rfl, mulB (by with_reducible assumption) (by with_reducible assumption) (by decide), _, rfl, _, _, rfl, rfl, mulB (B.mul (by with_reducible assumption) (by with_reducible assumption)) (by with_reducible assumption) (by decide), _, rfl, _, _, rfl, rfl, mulB (B.mul (B.mul (by with_reducible assumption) (by with_reducible assumption)) (by with_reducible assumption)) (by with_reducible assumption) (by decide), _, rfl, _, _, rfl, rfl, mulB (B.lit (by decide)) (by with_reducible assumption) (by decide), _, rfl, _, _, rfl, rfl, mulB (B.mul (B.lit (by decide)) (by with_reducible assumption)) (by with_reducible assumption) (by decide), _, rfl, _, _, rfl, rfl, mulB (B.mul (B.mul (B.lit (by decide)) (by with_reducible assumption)) (by with_reducible assumption)) (by with_reducible assumption) (by decide), _, rfl, _, _, rfl, rfl, mulB (B.mul (B.mul (B.mul (B.lit (by decide)) (by with_reducible assumption)) (by with_reducible assumption)) (by with_reducible assumption)) (by with_reducible assumption) (by decide), _, _, rfl, rfl, _, rfl, _, _, rfl, rfl, mulB (B.lit (by decide)) (by with_reducible assumption) (by decide), _, rfl, _, _, rfl, rfl, mulB (B.mul (B.lit (by decide)) (by with_reducible assumption)) (by with_reducible assumption) (by decide), _, rfl, _, _, rfl, rfl, mulB (B.mul (B.mul (B.lit (by decide)) (by with_reducible assumption)) (by with_reducible assumption)) (by with_reducible assumption) (by decide), _, rfl, _, _, rfl, rfl, mulB (B.mul (B.mul (B.mul (B.lit (by decide)) (by with_reducible assumption)) (by with_reducible assumption)) (by with_reducible assumption)) (by with_reducible assumption) (by decide), _, _, rfl, rfl, _, rfl, _, _, rfl, rfl, mulB (B.lit (by decide)) (by with_reducible assumption) (by decide), _, rfl, _, _, rfl, rfl, mulB (B.mul (B.lit (by decide)) (by with_reducible assumption)) (by with_reducible assumption) (by decide), _, rfl, _, _, rfl, rfl, mulB (B.mul (B.mul (B.lit (by decide)) (by with_reducible assumption)) (by with_reducible assumption)) (by with_reducible assumption) (by decide), _, rfl, _, _, rfl, rfl, mulB (B.mul (B.mul (B.mul (B.lit (by decide)) (by with_reducible assumption)) (by with_reducible assumption)) (by with_reducible assumption)) (by with_reducible assumption) (by decide), _, _, rfl, rfl, _, rfl, _, _, rfl, rfl, mulB (B.lit (by decide)) (by with_reducible assumption) (by decide), _, rfl, _, _, rfl, rfl, mulB (B.mul (B.lit (by decide)) (by with_reducible assumption)) (by with_reducible assumption) (by decide), _, rfl, _, _, rfl, rfl, mulB (B.mul (B.mul (B.lit (by decide)) (by with_reducible assumption)) (by with_reducible assumption)) (by with_reducible assumption) (by decide), _, rfl, _, _, rfl, rfl, mulB (B.mul (B.mul (B.mul (B.lit (by decide)) (by with_reducible assumption)) (by with_reducible assumption)) (by with_reducible assumption)) (by with_reducible assumption) (by decide), _, _, rfl, rfl, q⟩
theorem ok_form_led (T : Txt K mg C_Form) : Def P w K mg base 2 "form_led" ["coefficients", "change"] (sp_form_led K C_Form) := by
  obtain ⟨f_, fd_, g_, F_⟩ := T.d_form_led
  obtain ⟨f_determinant_of, fd_determinant_of, g_determinant_of, k_determinant_of, b_determinant_of, G_determinant_of⟩ := (ok_determinant_of (P := P) (w := w) (base := base) T)
  obtain ⟨f_form_value, fd_form_value, g_form_value, k_form_value, b_form_value, G_form_value⟩ := (ok_form_value (P := P) (w := w) (base := base) T)
  refine ⟨f_, fd_, g_, F_.kp, F_.binds (ps := ["coefficients", "change"]) (fun _ _ _ _ _ _ us hl => match us, hl with | [_, _], _ => rfl), ?_⟩
  refine F_.ok sc_form_led (fun vs H Q E h => ?_) (fun cdv A outer s H vs Q E hr h => ?_)
  · first | (obtain ⟨rfl, _⟩ := h; rfl) | (obtain ⟨_, rfl, _⟩ := h; rfl) | (obtain ⟨_, _, rfl, _⟩ := h; rfl) | (obtain ⟨_, _, _, rfl, _⟩ := h; rfl) | (obtain ⟨_, _, _, _, rfl, _⟩ := h; rfl) | (obtain ⟨_, _, _, _, _, rfl, _⟩ := h; rfl) | (obtain ⟨_, _, _, _, _, _, rfl, _⟩ := h; rfl) | (obtain ⟨_, _, _, _, _, _, _, rfl, _⟩ := h; rfl) | (obtain ⟨_, _, _, _, _, _, _, _, rfl, _⟩ := h; rfl) | (obtain ⟨_, _, _, _, _, _, _, _, _, rfl, _⟩ := h; rfl) | (obtain ⟨_, _, _, _, _, _, _, _, _, _, rfl, _⟩ := h; rfl) | (obtain ⟨_, _, _, _, _, _, _, _, _, _, _, rfl, _⟩ := h; rfl) | (obtain ⟨_, _, _, _, _, _, _, _, _, _, _, _, rfl, _⟩ := h; rfl) | (obtain ⟨_, _, _, _, _, _, _, _, _, _, _, _, _, rfl, _⟩ := h; rfl) | (obtain ⟨_, _, _, _, _, _, _, _, _, _, _, _, _, _, rfl, _⟩ := h; rfl) | (obtain ⟨_, _, _, _, _, _, _, _, _, _, _, _, _, _, _, rfl, _⟩ := h; rfl) | (obtain ⟨_, _, _, _, _, _, _, _, _, _, _, _, _, _, _, _, rfl, _⟩ := h; rfl) | (obtain ⟨_, _, _, _, _, _, _, _, _, _, _, _, _, _, _, _, _, rfl, _⟩ := h; rfl) | (obtain ⟨_, _, _, _, _, _, _, _, _, _, _, _, _, _, _, _, _, _, rfl, _⟩ := h; rfl) | (obtain ⟨_, _, _, _, _, _, _, _, _, _, _, _, _, _, _, _, _, _, _, rfl, _⟩ := h; rfl) | (obtain ⟨_, _, _, _, _, _, _, _, _, _, _, _, _, _, _, _, _, _, _, _, rfl, _⟩ := h; rfl) | (obtain ⟨_, _, _, _, _, _, _, _, _, _, _, _, _, _, _, _, _, _, _, _, _, rfl, _⟩ := h; rfl) | (obtain ⟨_, _, _, _, _, _, _, _, _, _, _, _, _, _, _, _, _, _, _, _, _, _, rfl, _⟩ := h; rfl) | (obtain ⟨_, _, _, _, _, _, _, _, _, _, _, _, _, _, _, _, _, _, _, _, _, _, _, rfl, _⟩ := h; rfl)
  · obtain ⟨t, u, a, b, c, d, p, q', r, s', rfl, ht, h4, ba, bb, bc, bd, bp, bq, br, bs, q⟩ := h
    refine ⟨_, (pss_cons (ps_asg (pv 0) (pg_tup (by rfl) (pgs_cons (pg_name (i := 2) sc_form_led.nd rfl (.inl rfl)) (pgs_cons (pg_name (i := 3) sc_form_led.nd rfl (.inl rfl)) (pgs_cons (pg_name (i := 4) sc_form_led.nd rfl (.inl rfl)) (pgs_cons (pg_name (i := 5) sc_form_led.nd rfl (.inl rfl)) pgs_nil))))))
    (pss_cons (ps_asg (pv 1) (pg_tup (by rfl) (pgs_cons (pg_tup (by rfl) (pgs_cons (pg_name (i := 6) sc_form_led.nd rfl (.inl rfl)) (pgs_cons (pg_name (i := 7) sc_form_led.nd rfl (.inl rfl)) pgs_nil))) (pgs_cons (pg_tup (by rfl) (pgs_cons (pg_name (i := 8) sc_form_led.nd rfl (.inl rfl)) (pgs_cons (pg_name (i := 9) sc_form_led.nd rfl (.inl rfl)) pgs_nil))) pgs_nil))))
    (pss_cons (ps_set (i := 10) sc_form_led.nd rfl (.inl rfl) (pe_call G_determinant_of (hr.mono (by decide)) (by rfl) g_determinant_of k_determinant_of b_determinant_of .nil pass0 (pa_cons (pv 1) pa_nil)))
    (pss_cons (ps_set (i := 11) sc_form_led.nd rfl (.inl rfl) (pe_op op_add (pe_op op_add (pe_op op_add (pe_op op_mulW (pe_op op_mulW (pe_op op_mulW (pe_op op_mulW pe_int (pv 2)) (pv 6)) (pv 6)) (pv 8)) (pe_op op_mulW (pe_op op_mulW (pv 3) (pv 6)) (pe_op op_add (pe_op op_mulW (pv 6) (pv 9)) (pe_op op_mulW (pe_op op_mulW pe_int (pv 7)) (pv 8))))) (pe_op op_mulW (pe_op op_mulW (pv 4) (pv 7)) (pe_op op_add (pe_op op_mulW (pe_op op_mulW pe_int (pv 6)) (pv 9)) (pe_op op_mulW (pv 7) (pv 8))))) (pe_op op_mulW (pe_op op_mulW (pe_op op_mulW (pe_op op_mulW pe_int (pv 5)) (pv 7)) (pv 7)) (pv 9))))
    (pss_cons (ps_set (i := 12) sc_form_led.nd rfl (.inl rfl) (pe_op op_add (pe_op op_add (pe_op op_add (pe_op op_mulW (pe_op op_mulW (pe_op op_mulW (pe_op op_mulW pe_int (pv 2)) (pv 6)) (pv 8)) (pv 8)) (pe_op op_mulW (pe_op op_mulW (pv 3) (pv 8)) (pe_op op_add (pe_op op_mulW (pe_op op_mulW pe_int (pv 6)) (pv 9)) (pe_op op_mulW (pv 7) (pv 8))))) (pe_op op_mulW (pe_op op_mulW (pv 4) (pv 9)) (pe_op op_add (pe_op op_mulW (pv 6) (pv 9)) (pe_op op_mulW (pe_op op_mulW pe_int (pv 7)) (pv 8))))) (pe_op op_mulW (pe_op op_mulW (pe_op op_mulW (pe_op op_mulW pe_int (pv 5)) (pv 7)) (pv 9)) (pv 9))))
    (pss_one (ps_ret (pe_tup (pa_cons (pe_op op_mulW (pv 10) (pe_call G_form_value (hr.mono (by decide)) (by rfl) g_form_value k_form_value b_form_value .nil pass0 (pa_cons (pv 0) (pa_cons (pv 6) (pa_cons (pv 7) pa_nil))))) (pa_cons (pe_op op_mulW (pv 10) (pv 11)) (pa_cons (pe_op op_mulW (pv 10) (pv 12)) (pa_cons (pe_op op_mulW (pv 10) (pe_call G_form_value (hr.mono (by decide)) (by rfl) g_form_value k_form_value b_form_value .nil pass0 (pa_cons (pv 0) (pa_cons (pv 8) (pa_cons (pv 9) pa_nil))))) pa_nil)))))))))))), ?_⟩
    refine ⟨_, rfl, unI4 ht ?_⟩
    refine ⟨_, rfl, un4 h4 ?_⟩
    refine ⟨_, rfl, u, p, q', r, s', rfl, h4, bp, bq, br, bs, ?_⟩
    refine ⟨_, rfl, _, _, rfl, rfl, mulB (B.lit (by decide)) (by with_reducible assumption) (by decide), _, rfl, _, _, rfl, rfl, mulB (B.mul (B.lit (by decide)) (by with_reducible assumption)) (by with_reducible assumption) (by decide), _, rfl, _, _, rfl, rfl, mulB (B.mul (B.mul (B.lit (by decide)) (by with_reducible assumption)) (by with_reducible assumption)) (by with_reducible assumption) (by decide), _, rfl, _, _, rfl, rfl, mulB (B.mul (B.mul (B.mul (B.lit (by decide)) (by with_reducible assumption)) (by with_reducible assumption)) (by with_reducible assumption)) (by with_reducible assumption) (by decide), _, rfl, _, rfl, _, _, rfl, rfl, mulB (by with_reducible assumption) (by with_reducible assumption) (by decide), _, rfl, _, rfl, _, _, rfl, rfl, mulB (by with_reducible assumption) (by with_reducible assumption) (by decide), _, rfl, _, _, rfl, rfl, mulB (B.lit (by decide)) (by with_reducible assumption) (by decide), _, rfl, _, _, rfl, rfl, mulB (B.mul (B.lit (by decide)) (by with_reducible assumption)) (by with_reducible assumption) (by decide), _, _, rfl, rfl, _, _, rfl, rfl, mulB (B.mul (by with_reducible assumption) (by with_reducible assumption)) (B.add (B.mul (by with_reducible assumption) (by with_reducible assumption)) (B.mul (B.mul (B.lit (by decide)) (by with_reducible assumption)) (by with_reducible assumption))) (by decide), _, _, rfl, rfl, _, rfl, _, rfl, _, _, rfl, rfl, mulB (by with_reducible assumption) (by with_reducible assumption) (by decide), _, rfl, _, _, rfl, rfl, mulB (B.lit (by decide)) (by with_reducible assumption) (by decide), _, rfl, _, _, rfl, rfl, mulB (B.mul (B.lit (by decide)) (by with_reducible assumption)) (by with_reducible assumption) (by decide), _, rfl, _, rfl, _, _, rfl, rfl, mulB (by with_reducible assumption) (by with_reducible assumption) (by decide), _, _, rfl, rfl, _, _, rfl, rfl, mulB (B.mul (by with_reducible assumption) (by with_reducible assumption)) (B.add (B.mul (B.mul (B.lit (by decide)) (by with_reducible assumption)) (by with_reducible assumption)) (B.mul (by with_reducible assumption) (by with_reducible assumption))) (by decide), _, _, rfl, rfl, _, rfl, _, _, rfl, rfl, mulB (B.lit (by decide)) (by with_reducible assumption) (by decide), _, rfl, _, _, rfl, rfl, mulB (B.mul (B.lit (by decide)) (by with_reducible assumption)) (by with_reducible assumption) (by decide), _, rfl, _, _, rfl, rfl, mulB (B.mul (B.mul (B.lit (by decide)) (by with_reducible assumption)) (by with_reducible assumption)) (by with_reducible assumption) (by decide), _, rfl, _, _, rfl, rfl, mulB (B.mul (B.mul (B.mul (B.lit (by decide)) (by with_reducible assumption)) (by with_reducible assumption)) (by with_reducible assumption)) (by with_reducible assumption) (by decide), _, _, rfl, rfl, ?_⟩
    refine ⟨_, rfl, _, _, rfl, rfl, mulB (B.lit (by decide)) (by with_reducible assumption) (by decide), _, rfl, _, _, rfl, rfl, mulB (B.mul (B.lit (by decide)) (by with_reducible assumption)) (by with_reducible assumption) (by decide), _, rfl, _, _, rfl, rfl, mulB (B.mul (B.mul (B.lit (by decide)) (by with_reducible assumption)) (by with_reducible assumption)) (by with_reducible assumption) (by decide), _, rfl, _, _, rfl, rfl, mulB (B.mul (B.mul (B.mul (B.lit (by decide)) (by with_reducible assumption)) (by with_reducible assumption)) (by with_reducible assumption)) (by with_reducible assumption) (by decide), _, rfl, _, rfl, _, _, rfl, rfl, mulB (by with_reducible assumption) (by with_reducible assumption) (by decide), _, rfl, _, _, rfl, rfl, mulB (B.lit (by decide)) (by with_reducible assumption) (by decide), _, rfl, _, _, rfl, rfl, mulB (B.mul (B.lit (by decide)) (by with_reducible assumption)) (by with_reducible assumption) (by decide), _, rfl, _, rfl, _, _, rfl, rfl, mulB (by with_reducible assumption) (by with_reducible assumption) (by decide), _, _, rfl, rfl, _, _, rfl, rfl, mulB (B.mul (by with_reducible assumption) (by with_reducible assumption)) (B.add (B.mul (B.mul (B.lit (by decide)) (by with_reducible assumption)) (by with_reducible assumption)) (B.mul (by with_reducible assumption) (by with_reducible assumption))) (by decide), _, _, rfl, rfl, _, rfl, _, rfl, _, _, rfl, rfl, mulB (by with_reducible assumption) (by with_reducible assumption) (by decide), _, rfl, _, rfl, _, _, rfl, rfl, mulB (by with_reducible assumption) (by with_reducible assumption) (by decide), _, rfl, _, _, rfl, rfl, mulB (B.lit (by decide)) (by with_reducible assumption) (by decide), _, rfl, _, _, rfl, rfl, mulB (B.mul (B.lit (by decide)) (by with_reducible assumption)) (by with_reducible assumption) (by decide), _, _, rfl, rfl, _, _, rfl, rfl, mulB (B.mul (by with_reducible assumption) (by with_reducible assumption)) (B.add (B.mul (by with_reducible assumption) (by with_reducible assumption)) (B.mul (B.mul (B.lit (by decide)) (by with_reducible assumption)) (by with_reducible assumption))) (by decide), _, _, rfl, rfl, _, rfl, _, _, rfl, rfl, mulB (B.lit (by decide)) (by with_reducible assumption) (by decide), _, rfl, _, _, rfl, rfl, mulB (B.mul (B.lit (by decide)) (by with_reducible assumption)) (by with_reducible assumption) (by decide), _, rfl, _, _, rfl, rfl, mulB (B.mul (B.mul (B.lit (by decide)) (by with_reducible assumption)) (by with_reducible assumption)) (by with_reducible assumption) (by decide), _, rfl, _, _, rfl, rfl, mulB (B.mul (B.mul (B.mul (B.lit (by decide)) (by with_reducible assumption)) (by with_reducible assumption)) (by with_reducible assumption)) (by with_reducible assumption) (by decide), _, _, rfl, rfl, ?_⟩
    have be : B 800 (p * s' - q' * r) := B.sub (B.mul bp bs) (B.mul bq br)
    have b2 : B _ (3 * a * p * p * r + b * p * (p * s' + 2 * q' * r) + c * q' * (2 * p * s' + q' * r) + 3 * d * q' * q' * s') := (B.add (B.add (B.add (B.mul (B.mul (B.mul (B.mul (B.lit (by decide)) (by with_reducible assumption)) (by with_reducible assumption)) (by with_reducible assumption)) (by with_reducible assumption)) (B.mul (B.mul (by with_reducible assumption) (by with_reducible assumption)) (B.add (B.mul (by with_reducible assumption) (by with_reducible assumption)) (B.mul (B.mul (B.lit (by decide)) (by with_reducible assumption)) (by with_reducible assumption))))) (B.mul (B.mul (by with_reducible assumption) (by with_reducible assumption)) (B.add (B.mul (B.mul (B.lit (by decide)) (by with_reducible assumption)) (by with_reducible assumption)) (B.mul (by with_reducible assumption) (by with_reducible assumption))))) (B.mul (B.mul (B.mul (B.mul (B.lit (by decide)) (by with_reducible assumption)) (by with_reducible assumption)) (by with_reducible assumption)) (by with_reducible assumption)))
    have b3 : B _ (3 * a * p * r * r + b * r * (2 * p * s' + q' * r) + c * s' * (p * s' + 2 * q' * r) + 3 * d * q' * s' * s') := (B.add (B.add (B.add (B.mul (B.mul (B.mul (B.mul (B.lit (by decide)) (by with_reducible assumption)) (by with_reducible assumption)) (by with_reducible assumption)) (by with_reducible assumption)) (B.mul (B.mul (by with_reducible assumption) (by with_reducible assumption)) (B.add (B.mul (B.mul (B.lit (by decide)) (by with_reducible assumption)) (by with_reducible assumption)) (B.mul (by with_reducible assumption) (by with_reducible assumption))))) (B.mul (B.mul (by with_reducible assumption) (by with_reducible assumption)) (B.add (B.mul (by with_reducible assumption) (by with_reducible assumption)) (B.mul (B.mul (B.lit (by decide)) (by with_reducible assumption)) (by with_reducible assumption))))) (B.mul (B.mul (B.mul (B.mul (B.lit (by decide)) (by with_reducible assumption)) (by with_reducible assumption)) (by with_reducible assumption)) (by with_reducible assumption)))
    have f1 : B 6400 (fv a b c d p q') := B.add (B.add (B.add (B.mul (B.mul (B.mul ba bp) bp) bp) (B.mul (B.mul (B.mul bb bp) bp) bq)) (B.mul (B.mul (B.mul bc bp) bq) bq)) (B.mul (B.mul (B.mul bd bq) bq) bq)
    have f2 : B 6400 (fv a b c d r s') := B.add (B.add (B.add (B.mul (B.mul (B.mul ba br) br) br) (B.mul (B.mul (B.mul bb br) br) bs)) (B.mul (B.mul (B.mul bc br) bs) bs)) (B.mul (B.mul (B.mul bd bs) bs) bs)
    refine ⟨_, rfl, _, rfl, _, rfl, _, rfl, t, a, b, c, d, p, q', rfl, ht, ba, bb, bc, bd, bp, bq, _, _, rfl, rfl, mulB be f1 (by decide), ?_⟩
    refine ⟨_, rfl, _, rfl, _, _, rfl, rfl, mulB be b2 (by decide), _, rfl, _, rfl, _, _, rfl, rfl, mulB be b3 (by decide), ?_⟩
    refine ⟨_, rfl, _, rfl, _, rfl, _, rfl, t, a, b, c, d, r, s', rfl, ht, ba, bb, bc, bd, br, bs, _, _, rfl, rfl, mulB be f2 (by decide), sl4, fun x nx => ?_⟩
    exact q x _ (Ex0.new nx) upd_same
theorem ok_Form___init__ (T : Txt K mg C_Form) : MDef (fun p f => Mk K C_Form f) P w K mg base 2 ["self", "coefficients"] (sp_Form___init__ K C_Form) := by
  obtain ⟨p_, f_, fd_, R_, F_⟩ := T.e_Form___init__
  obtain ⟨f_are_short_integers, fd_are_short_integers, g_are_short_integers, k_are_short_integers, b_are_short_integers, G_are_short_integers⟩ := (ok_are_short_integers (P := P) (w := w) (base := base) T)
  refine ⟨p_, f_, fd_, R_, F_.binds (ps := ["self", "coefficients"]) (fun _ _ _ _ _ _ us hl => match us, hl with | [_, _], _ => rfl), ?_⟩
  refine F_.ok sc_Form___init__ (fun vs H Q E h => ?_) (fun cdv A outer s H vs Q E hr h => ?_)
  · first | (obtain ⟨rfl, _⟩ := h; rfl) | (obtain ⟨_, rfl, _⟩ := h; rfl) | (obtain ⟨_, _, rfl, _⟩ := h; rfl) | (obtain ⟨_, _, _, rfl, _⟩ := h; rfl) | (obtain ⟨_, _, _, _, rfl, _⟩ := h; rfl) | (obtain ⟨_, _, _, _, _, rfl, _⟩ := h; rfl) | (obtain ⟨_, _, _, _, _, _, rfl, _⟩ := h; rfl) | (obtain ⟨_, _, _, _, _, _, _, rfl, _⟩ := h; rfl) | (obtain ⟨_, _, _, _, _, _, _, _, rfl, _⟩ := h; rfl) | (obtain ⟨_, _, _, _, _, _, _, _, _, rfl, _⟩ := h; rfl) | (obtain ⟨_, _, _, _, _, _, _, _, _, _, rfl, _⟩ := h; rfl) | (obtain ⟨_, _, _, _, _, _, _, _, _, _, _, rfl, _⟩ := h; rfl) | (obtain ⟨_, _, _, _, _, _, _, _, _, _, _, _, rfl, _⟩ := h; rfl) | (obtain ⟨_, _, _, _, _, _, _, _, _, _, _, _, _, rfl, _⟩ := h; rfl) | (obtain ⟨_, _, _, _, _, _, _, _, _, _, _, _, _, _, rfl, _⟩ := h; rfl) | (obtain ⟨_, _, _, _, _, _, _, _, _, _, _, _, _, _, _, rfl, _⟩ := h; rfl) | (obtain ⟨_, _, _, _, _, _, _, _, _, _, _, _, _, _, _, _, rfl, _⟩ := h; rfl) | (obtain ⟨_, _, _, _, _, _, _, _, _, _, _, _, _, _, _, _, _, rfl, _⟩ := h; rfl) | (obtain ⟨_, _, _, _, _, _, _, _, _, _, _, _, _, _, _, _, _, _, rfl, _⟩ := h; rfl) | (obtain ⟨_, _, _, _, _, _, _, _, _, _, _, _, _, _, _, _, _, _, _, rfl, _⟩ := h; rfl) | (obtain ⟨_, _, _, _, _, _, _, _, _, _, _, _, _, _, _, _, _, _, _, _, rfl, _⟩ := h; rfl) | (obtain ⟨_, _, _, _, _, _, _, _, _, _, _, _, _, _, _, _, _, _, _, _, _, rfl, _⟩ := h; rfl) | (obtain ⟨_, _, _, _, _, _, _, _, _, _, _, _, _, _, _, _, _, _, _, _, _, _, rfl, _⟩ := h; rfl) | (obtain ⟨_, _, _, _, _, _, _, _, _, _, _, _, _, _, _, _, _, _, _, _, _, _, _, rfl, _⟩ := h; rfl)
  · obtain ⟨x, dx, t, ns, rfl, hx, ht, hl, hs, q⟩ := h
    refine ⟨_, (pss_cons (ps_if (pt_not (pt_val (pe_call G_are_short_integers (hr.mono (by decide)) (by rfl) g_are_short_integers k_are_short_integers b_are_short_integers .nil pass0 (pa_cons (pv 1) (pa_cons pe_int pa_nil)))))
      pss_never
      pss_nil)
    (pss_one (ps_fld (pv 0) (pe_callTy call_tuple_of (by rfl) T.b_tuple (by decide +kernel) (pa_cons (pv 1) pa_nil)) (by rfl)))), ?_⟩
    refine ⟨_, rfl, t, ns, by rw [hl]; rfl, ht, by omega, hs, fun H1 e1 => ⟨_, rfl, ?_⟩⟩
    refine iteF ⟨_, rfl, t, _, rfl, .inr ⟨SqT.of (Ex0.ti e1 ht), ?_⟩⟩
    refine ⟨_, rfl, x, C_Form, dx, _, rfl, e1.ap hx, T.cl_Form, T.na_Form_coefficients, (by decide : (0:Nat) < 1000), ?_⟩
    exact q _ (fun b o n e => by rw [upd_ne n]; exact e1.ap e) upd_same
theorem ok_form_of (T : Txt K mg C_Form) : Def P w K mg base 5 "form_of" ["coefficients"] (sp_form_of K C_Form) := by
  obtain ⟨f_, fd_, g_, F_⟩ := T.d_form_of
  obtain ⟨p_Form___init__, f_Form___init__, fd_Form___init__, R_Form___init__, b_Form___init__, G_Form___init__⟩ := (ok_Form___init__ (P := P) (w := w) (base := base) T)
  refine ⟨f_, fd_, g_, F_.kp, F_.binds (ps := ["coefficients"]) (fun _ _ _ _ _ _ us hl => match us, hl with | [_], _ => rfl), ?_⟩
  refine F_.ok sc_form_of (fun vs H Q E h => ?_) (fun cdv A outer s H vs Q E hr h => ?_)
  · first | (obtain ⟨rfl, _⟩ := h; rfl) | (obtain ⟨_, rfl, _⟩ := h; rfl) | (obtain ⟨_, _, rfl, _⟩ := h; rfl) | (obtain ⟨_, _, _, rfl, _⟩ := h; rfl) | (obtain ⟨_, _, _, _, rfl, _⟩ := h; rfl) | (obtain ⟨_, _, _, _, _, rfl, _⟩ := h; rfl) | (obtain ⟨_, _, _, _, _, _, rfl, _⟩ := h; rfl) | (obtain ⟨_, _, _, _, _, _, _, rfl, _⟩ := h; rfl) | (obtain ⟨_, _, _, _, _, _, _, _, rfl, _⟩ := h; rfl) | (obtain ⟨_, _, _, _, _, _, _, _, _, rfl, _⟩ := h; rfl) | (obtain ⟨_, _, _, _, _, _, _, _, _, _, rfl, _⟩ := h; rfl) | (obtain ⟨_, _, _, _, _, _, _, _, _, _, _, rfl, _⟩ := h; rfl) | (obtain ⟨_, _, _, _, _, _, _, _, _, _, _, _, rfl, _⟩ := h; rfl) | (obtain ⟨_, _, _, _, _, _, _, _, _, _, _, _, _, rfl, _⟩ := h; rfl) | (obtain ⟨_, _, _, _, _, _, _, _, _, _, _, _, _, _, rfl, _⟩ := h; rfl) | (obtain ⟨_, _, _, _, _, _, _, _, _, _, _, _, _, _, _, rfl, _⟩ := h; rfl) | (obtain ⟨_, _, _, _, _, _, _, _, _, _, _, _, _, _, _, _, rfl, _⟩ := h; rfl) | (obtain ⟨_, _, _, _, _, _, _, _, _, _, _, _, _, _, _, _, _, rfl, _⟩ := h; rfl) | (obtain ⟨_, _, _, _, _, _, _, _, _, _, _, _, _, _, _, _, _, _, rfl, _⟩ := h; rfl) | (obtain ⟨_, _, _, _, _, _, _, _, _, _, _, _, _, _, _, _, _, _, _, rfl, _⟩ := h; rfl) | (obtain ⟨_, _, _, _, _, _, _, _, _, _, _, _, _, _, _, _, _, _, _, _, rfl, _⟩ := h; rfl) | (obtain ⟨_, _, _, _, _, _, _, _, _, _, _, _, _, _, _, _, _, _, _, _, _, rfl, _⟩ := h; rfl) | (obtain ⟨_, _, _, _, _, _, _, _, _, _, _, _, _, _, _, _, _, _, _, _, _, _, rfl, _⟩ := h; rfl) | (obtain ⟨_, _, _, _, _, _, _, _, _, _, _, _, _, _, _, _, _, _, _, _, _, _, _, rfl, _⟩ := h; rfl)
  · obtain ⟨t, ns, rfl, ht, q⟩ := h
    refine ⟨_, (pss_cons (ps_set (i := 1) sc_form_of.nd rfl (.inl rfl) (pe_make R_Form___init__ G_Form___init__ (hr.mono (by decide)) (by rfl) T.g_Form b_Form___init__ .nil pass0 (pa_cons (pe_tup (pa_cons pe_int (pa_cons pe_int (pa_cons pe_int (pa_cons pe_int pa_nil))))) pa_nil)))
    (pss_cons (ps_fld (pv 1) (pv 0) (by rfl))
    (pss_one (ps_ret (pv 1))))), ?_⟩
    refine ⟨sl4, fun t0 n0 => ?_⟩
    intro x dx nx ndx ne
    have e0 : Ex0 H (upd H t0 (.tup [.int 0, .int 0, .int 0, .int 0])) := Ex0.new n0
    have hx0 : H x = none := Fx.free e0 (fun z => z) nx
    have hd0 : H dx = none := Fx.free e0 (fun z => z) ndx
    have nt : t0 ≠ x := ne_of_none (show upd H t0 (.tup [.int 0, .int 0, .int 0, .int 0]) t0 = some _ from upd_same) nx
    have nd : t0 ≠ dx := ne_of_none (show upd H t0 (.tup [.int 0, .int 0, .int 0, .int 0]) t0 = some _ from upd_same) ndx
    refine ⟨x, dx, t0, [0, 0, 0, 0], rfl, upd_same, ?_, rfl, fun n hn => ?_, fun H' e1 e2 => ⟨rfl, ?_⟩⟩
    · show (upd (upd (upd H t0 _) dx _) x _) t0 = _
      rw [upd_ne nt, upd_ne nd]
      exact upd_same
    · have : n = 0 := by simpa using hn
      rw [this]
      exact ⟨by decide, by decide⟩
    refine ⟨_, rfl, _, rfl, x, C_Form, dx, _, rfl, e2, T.cl_Form, T.na_Form_coefficients, (by decide : (1:Nat) < 1000), ?_⟩
    refine ⟨_, rfl, ?_⟩
    have ex : ∀ b o, H b = some o → b ≠ x ∧ H' b = some o := fun b o e => by
      have n1 : b ≠ x := ne_of_none e hx0
      have n2 : b ≠ dx := ne_of_none e hd0
      refine ⟨n1, e1 b o n1 ?_⟩
      rw [upd_ne n1, upd_ne n2]
      exact e0.ap e
    refine q x _ (Ex0.of fun b o e => ?_) ⟨dx, t, ?_, ?_⟩
    · rw [upd_ne (ex b o e).1]
      exact (ex b o e).2
    · rw [upd_same, putF_same]
    · show (upd H' x _) t = _
      rw [upd_ne (ex _ _ ht).1]
      exact (ex _ _ ht).2
theorem ok_Form_led (T : Txt K mg C_Form) : MDef (fun p f => Meth K C_Form "led" f) P w K mg base 6 ["self", "change"] (sp_Form_led K C_Form) := by
  obtain ⟨p_, f_, fd_, R_, F_⟩ := T.e_Form_led
  obtain ⟨f_check_change, fd_check_change, g_check_change, k_check_change, b_check_change, G_check_change⟩ := (ok_check_change (P := P) (w := w) (base := base) T)
  obtain ⟨f_form_led, fd_form_led, g_form_led, k_form_led, b_form_led, G_form_led⟩ := (ok_form_led (P := P) (w := w) (base := base) T)
  obtain ⟨f_form_of, fd_form_of, g_form_of, k_form_of, b_form_of, G_form_of⟩ := (ok_form_of (P := P) (w := w) (base := base) T)
  refine ⟨p_, f_, fd_, R_, F_.binds (ps := ["self", "change"]) (fun _ _ _ _ _ _ us hl => match us, hl with | [_, _], _ => rfl), ?_⟩
  refine F_.ok sc_Form_led (fun vs H Q E h => ?_) (fun cdv A outer s H vs Q E hr h => ?_)
  · first | (obtain ⟨rfl, _⟩ := h; rfl) | (obtain ⟨_, rfl, _⟩ := h; rfl) | (obtain ⟨_, _, rfl, _⟩ := h; rfl) | (obtain ⟨_, _, _, rfl, _⟩ := h; rfl) | (obtain ⟨_, _, _, _, rfl, _⟩ := h; rfl) | (obtain ⟨_, _, _, _, _, rfl, _⟩ := h; rfl) | (obtain ⟨_, _, _, _, _, _, rfl, _⟩ := h; rfl) | (obtain ⟨_, _, _, _, _, _, _, rfl, _⟩ := h; rfl) | (obtain ⟨_, _, _, _, _, _, _, _, rfl, _⟩ := h; rfl) | (obtain ⟨_, _, _, _, _, _, _, _, _, rfl, _⟩ := h; rfl) | (obtain ⟨_, _, _, _, _, _, _, _, _, _, rfl, _⟩ := h; rfl) | (obtain ⟨_, _, _, _, _, _, _, _, _, _, _, rfl, _⟩ := h; rfl) | (obtain ⟨_, _, _, _, _, _, _, _, _, _, _, _, rfl, _⟩ := h; rfl) | (obtain ⟨_, _, _, _, _, _, _, _, _, _, _, _, _, rfl, _⟩ := h; rfl) | (obtain ⟨_, _, _, _, _, _, _, _, _, _, _, _, _, _, rfl, _⟩ := h; rfl) | (obtain ⟨_, _, _, _, _, _, _, _, _, _, _, _, _, _, _, rfl, _⟩ := h; rfl) | (obtain ⟨_, _, _, _, _, _, _, _, _, _, _, _, _, _, _, _, rfl, _⟩ := h; rfl) | (obtain ⟨_, _, _, _, _, _, _, _, _, _, _, _, _, _, _, _, _, rfl, _⟩ := h; rfl) | (obtain ⟨_, _, _, _, _, _, _, _, _, _, _, _, _, _, _, _, _, _, rfl, _⟩ := h; rfl) | (obtain ⟨_, _, _, _, _, _, _, _, _, _, _, _, _, _, _, _, _, _, _, rfl, _⟩ := h; rfl) | (obtain ⟨_, _, _, _, _, _, _, _, _, _, _, _, _, _, _, _, _, _, _, _, rfl, _⟩ := h; rfl) | (obtain ⟨_, _, _, _, _, _, _, _, _, _, _, _, _, _, _, _, _, _, _, _, _, rfl, _⟩ := h; rfl) | (obtain ⟨_, _, _, _, _, _, _, _, _, _, _, _, _, _, _, _, _, _, _, _, _, _, rfl, _⟩ := h; rfl) | (obtain ⟨_, _, _, _, _, _, _, _, _, _, _, _, _, _, _, _, _, _, _, _, _, _, _, rfl, _⟩ := h; rfl)
  · obtain ⟨z, u, a, b, c, d, p, q', r, s', rfl, hz, h4, ba, bb, bc, bd, hc, q⟩ := h
    refine ⟨_, (pss_cons (ps_expr (pe_call G_check_change (hr.mono (by decide)) (by rfl) g_check_change k_check_change b_check_change .nil pass0 (pa_cons (pv 1) pa_nil)))
    (pss_one (ps_ret (pe_call G_form_of (hr.mono (by decide)) (by rfl) g_form_of k_form_of b_form_of .nil pass0 (pa_cons (pe_call G_form_led (hr.mono (by decide)) (by rfl) g_form_led k_form_led b_form_led .nil pass0 (pa_cons (pe_fld (pv 0) (by rfl)) (pa_cons (pv 1) pa_nil))) pa_nil))))), ?_⟩
    refine ⟨_, rfl, u, p, q', r, s', rfl, h4, hc, fun H1 e1 => ?_⟩
    obtain ⟨dx, t, hx, ht⟩ := Ex0.fo e1 hz
    refine ⟨_, rfl, z, C_Form, dx, _, .ref t, rfl, hx, T.cl_Form, T.na_Form_coefficients, lk_same, _, rfl, t, u, a, b, c, d, p, q', r, s', rfl, ht, Ex0.t4 e1 h4, ba, bb, bc, bd, hc.1.b, hc.2.1.b, hc.2.2.1.b, hc.2.2.2.1.b, fun x H2 e2 hx2 => ?_⟩
    exact ⟨x, _, rfl, hx2, fun y H3 e3 hy => q y H3 ((e1.trans e2).trans e3) hy⟩
theorem ok_Form_coefficients (T : Txt K mg C_Form) : MDef (fun p f => PropOf K C_Form "coefficients" p f) P w K mg base 1 ["self"] (sp_Form_coefficients K C_Form) := by
  obtain ⟨p_, f_, fd_, R_, F_⟩ := T.e_Form_coefficients
  refine ⟨p_, f_, fd_, R_, F_.binds (ps := ["self"]) (fun _ _ _ _ _ _ us hl => match us, hl with | [_], _ => rfl), ?_⟩
  refine F_.ok sc_Form_coefficients (fun vs H Q E h => ?_) (fun cdv A outer s H vs Q E hr h => ?_)
  · first | (obtain ⟨rfl, _⟩ := h; rfl) | (obtain ⟨_, rfl, _⟩ := h; rfl) | (obtain ⟨_, _, rfl, _⟩ := h; rfl) | (obtain ⟨_, _, _, rfl, _⟩ := h; rfl) | (obtain ⟨_, _, _, _, rfl, _⟩ := h; rfl) | (obtain ⟨_, _, _, _, _, rfl, _⟩ := h; rfl) | (obtain ⟨_, _, _, _, _, _, rfl, _⟩ := h; rfl) | (obtain ⟨_, _, _, _, _, _, _, rfl, _⟩ := h; rfl) | (obtain ⟨_, _, _, _, _, _, _, _, rfl, _⟩ := h; rfl) | (obtain ⟨_, _, _, _, _, _, _, _, _, rfl, _⟩ := h; rfl) | (obtain ⟨_, _, _, _, _, _, _, _, _, _, rfl, _⟩ := h; rfl) | (obtain ⟨_, _, _, _, _, _, _, _, _, _, _, rfl, _⟩ := h; rfl) | (obtain ⟨_, _, _, _, _, _, _, _, _, _, _, _, rfl, _⟩ := h; rfl) | (obtain ⟨_, _, _, _, _, _, _, _, _, _, _, _, _, rfl, _⟩ := h; rfl) | (obtain ⟨_, _, _, _, _, _, _, _, _, _, _, _, _, _, rfl, _⟩ := h; rfl) | (obtain ⟨_, _, _, _, _, _, _, _, _, _, _, _, _, _, _, rfl, _⟩ := h; rfl) | (obtain ⟨_, _, _, _, _, _, _, _, _, _, _, _, _, _, _, _, rfl, _⟩ := h; rfl) | (obtain ⟨_, _, _, _, _, _, _, _, _, _, _, _, _, _, _, _, _, rfl, _⟩ := h; rfl) | (obtain ⟨_, _, _, _, _, _, _, _, _, _, _, _, _, _, _, _, _, _, rfl, _⟩ := h; rfl) | (obtain ⟨_, _, _, _, _, _, _, _, _, _, _, _, _, _, _, _, _, _, _, rfl, _⟩ := h; rfl) | (obtain ⟨_, _, _, _, _, _, _, _, _, _, _, _, _, _, _, _, _, _, _, _, rfl, _⟩ := h; rfl) | (obtain ⟨_, _, _, _, _, _, _, _, _, _, _, _, _, _, _, _, _, _, _, _, _, rfl, _⟩ := h; rfl) | (obtain ⟨_, _, _, _, _, _, _, _, _, _, _, _, _, _, _, _, _, _, _, _, _, _, rfl, _⟩ := h; rfl) | (obtain ⟨_, _, _, _, _, _, _, _, _, _, _, _, _, _, _, _, _, _, _, _, _, _, _, rfl, _⟩ := h; rfl)
  · obtain ⟨x, ns, rfl, ⟨dx, t, hx, ht⟩, q⟩ := h
    refine ⟨_, (pss_one (ps_ret (pe_fld (pv 0) (by rfl)))), ?_⟩
    exact ⟨_, rfl, x, C_Form, dx, _, .ref t, rfl, hx, T.cl_Form, T.na_Form_coefficients, lk_same, q t ht⟩
theorem ok_Form_discriminant (T : Txt K mg C_Form) : MDef (fun p f => PropOf K C_Form "discriminant" p f) P w K mg base 2 ["self"] (sp_Form_discriminant K C_Form) := by
  obtain ⟨p_, f_, fd_, R_, F_⟩ := T.e_Form_discriminant
  obtain ⟨f_form_discriminant, fd_form_discriminant, g_form_discriminant, k_form_discriminant, b_form_discriminant, G_form_discriminant⟩ := (ok_form_discriminant (P := P) (w := w) (base := base) T)
  refine ⟨p_, f_, fd_, R_, F_.binds (ps := ["self"]) (fun _ _ _ _ _ _ us hl => match us, hl with | [_], _ => rfl), ?_⟩
  refine F_.ok sc_Form_discriminant (fun vs H Q E h => ?_) (fun cdv A outer s H vs Q E hr h => ?_)
  · first | (obtain ⟨rfl, _⟩ := h; rfl) | (obtain ⟨_, rfl, _⟩ := h; rfl) | (obtain ⟨_, _, rfl, _⟩ := h; rfl) | (obtain ⟨_, _, _, rfl, _⟩ := h; rfl) | (obtain ⟨_, _, _, _, rfl, _⟩ := h; rfl) | (obtain ⟨_, _, _, _, _, rfl, _⟩ := h; rfl) | (obtain ⟨_, _, _, _, _, _, rfl, _⟩ := h; rfl) | (obtain ⟨_, _, _, _, _, _, _, rfl, _⟩ := h; rfl) | (obtain ⟨_, _, _, _, _, _, _, _, rfl, _⟩ := h; rfl) | (obtain ⟨_, _, _, _, _, _, _, _, _, rfl, _⟩ := h; rfl) | (obtain ⟨_, _, _, _, _, _, _, _, _, _, rfl, _⟩ := h; rfl) | (obtain ⟨_, _, _, _, _, _, _, _, _, _, _, rfl, _⟩ := h; rfl) | (obtain ⟨_, _, _, _, _, _, _, _, _, _, _, _, rfl, _⟩ := h; rfl) | (obtain ⟨_, _, _, _, _, _, _, _, _, _, _, _, _, rfl, _⟩ := h; rfl) | (obtain ⟨_, _, _, _, _, _, _, _, _, _, _, _, _, _, rfl, _⟩ := h; rfl) | (obtain ⟨_, _, _, _, _, _, _, _, _, _, _, _, _, _, _, rfl, _⟩ := h; rfl) | (obtain ⟨_, _, _, _, _, _, _, _, _, _, _, _, _, _, _, _, rfl, _⟩ := h; rfl) | (obtain ⟨_, _, _, _, _, _, _, _, _, _, _, _, _, _, _, _, _, rfl, _⟩ := h; rfl) | (obtain ⟨_, _, _, _, _, _, _, _, _, _, _, _, _, _, _, _, _, _, rfl, _⟩ := h; rfl) | (obtain ⟨_, _, _, _, _, _, _, _, _, _, _, _, _, _, _, _, _, _, _, rfl, _⟩ := h; rfl) | (obtain ⟨_, _, _, _, _, _, _, _, _, _, _, _, _, _, _, _, _, _, _, _, rfl, _⟩ := h; rfl) | (obtain ⟨_, _, _, _, _, _, _, _, _, _, _, _, _, _, _, _, _, _, _, _, _, rfl, _⟩ := h; rfl) | (obtain ⟨_, _, _, _, _, _, _, _, _, _, _, _, _, _, _, _, _, _, _, _, _, _, rfl, _⟩ := h; rfl) | (obtain ⟨_, _, _, _, _, _, _, _, _, _, _, _, _, _, _, _, _, _, _, _, _, _, _, rfl, _⟩ := h; rfl)
  · obtain ⟨x, a, b, c, d, rfl, ⟨dx, t, hx, ht⟩, ba, bb, bc, bd, q⟩ := h
    refine ⟨_, (pss_one (ps_ret (pe_call G_form_discriminant (hr.mono (by decide)) (by rfl) g_form_discriminant k_form_discriminant b_form_discriminant .nil pass0 (pa_cons (pe_fld (pv 0) (by rfl)) pa_nil)))), ?_⟩
    exact ⟨_, rfl, x, C_Form, dx, _, .ref t, rfl, hx, T.cl_Form, T.na_Form_coefficients, lk_same, t, a, b, c, d, rfl, ht, ba, bb, bc, bd, q⟩
theorem ok_Form_content (T : Txt K mg C_Form) : MDef (fun p f => PropOf K C_Form "content" p f) P w K mg base 2 ["self"] (sp_Form_content K C_Form) := by
  obtain ⟨p_, f_, fd_, R_, F_⟩ := T.e_Form_content
  obtain ⟨f_shared_divisor, fd_shared_divisor, g_shared_divisor, k_shared_divisor, b_shared_divisor, G_shared_divisor⟩ := (ok_shared_divisor (P := P) (w := w) (base := base) T)
  refine ⟨p_, f_, fd_, R_, F_.binds (ps := ["self"]) (fun _ _ _ _ _ _ us hl => match us, hl with | [_], _ => rfl), ?_⟩
  refine F_.ok sc_Form_content (fun vs H Q E h => ?_) (fun cdv A outer s H vs Q E hr h => ?_)
  · first | (obtain ⟨rfl, _⟩ := h; rfl) | (obtain ⟨_, rfl, _⟩ := h; rfl) | (obtain ⟨_, _, rfl, _⟩ := h; rfl) | (obtain ⟨_, _, _, rfl, _⟩ := h; rfl) | (obtain ⟨_, _, _, _, rfl, _⟩ := h; rfl) | (obtain ⟨_, _, _, _, _, rfl, _⟩ := h; rfl) | (obtain ⟨_, _, _, _, _, _, rfl, _⟩ := h; rfl) | (obtain ⟨_, _, _, _, _, _, _, rfl, _⟩ := h; rfl) | (obtain ⟨_, _, _, _, _, _, _, _, rfl, _⟩ := h; rfl) | (obtain ⟨_, _, _, _, _, _, _, _, _, rfl, _⟩ := h; rfl) | (obtain ⟨_, _, _, _, _, _, _, _, _, _, rfl, _⟩ := h; rfl) | (obtain ⟨_, _, _, _, _, _, _, _, _, _, _, rfl, _⟩ := h; rfl) | (obtain ⟨_, _, _, _, _, _, _, _, _, _, _, _, rfl, _⟩ := h; rfl) | (obtain ⟨_, _, _, _, _, _, _, _, _, _, _, _, _, rfl, _⟩ := h; rfl) | (obtain ⟨_, _, _, _, _, _, _, _, _, _, _, _, _, _, rfl, _⟩ := h; rfl) | (obtain ⟨_, _, _, _, _, _, _, _, _, _, _, _, _, _, _, rfl, _⟩ := h; rfl) | (obtain ⟨_, _, _, _, _, _, _, _, _, _, _, _, _, _, _, _, rfl, _⟩ := h; rfl) | (obtain ⟨_, _, _, _, _, _, _, _, _, _, _, _, _, _, _, _, _, rfl, _⟩ := h; rfl) | (obtain ⟨_, _, _, _, _, _, _, _, _, _, _, _, _, _, _, _, _, _, rfl, _⟩ := h; rfl) | (obtain ⟨_, _, _, _, _, _, _, _, _, _, _, _, _, _, _, _, _, _, _, rfl, _⟩ := h; rfl) | (obtain ⟨_, _, _, _, _, _, _, _, _, _, _, _, _, _, _, _, _, _, _, _, rfl, _⟩ := h; rfl) | (obtain ⟨_, _, _, _, _, _, _, _, _, _, _, _, _, _, _, _, _, _, _, _, _, rfl, _⟩ := h; rfl) | (obtain ⟨_, _, _, _, _, _, _, _, _, _, _, _, _, _, _, _, _, _, _, _, _, _, rfl, _⟩ := h; rfl) | (obtain ⟨_, _, _, _, _, _, _, _, _, _, _, _, _, _, _, _, _, _, _, _, _, _, _, rfl, _⟩ := h; rfl)
  · obtain ⟨x, ns, rfl, ⟨dx, t, hx, ht⟩, q⟩ := h
    refine ⟨_, (pss_one (ps_ret (pe_call G_shared_divisor (hr.mono (by decide)) (by rfl) g_shared_divisor k_shared_divisor b_shared_divisor .nil pass0 (pa_cons (pe_fld (pv 0) (by rfl)) pa_nil)))), ?_⟩
    exact ⟨_, rfl, x, C_Form, dx, _, .ref t, rfl, hx, T.cl_Form, T.na_Form_coefficients, lk_same, t, ns, rfl, ht, q⟩
theorem ok_is_between (T : Txt K mg C_Form) : Def P w K mg base 3 "is_between" ["value", "low", "high"] (sp_is_between K C_Form) := by
  obtain ⟨f_, fd_, g_, F_⟩ := T.d_is_between
  obtain ⟨f_is_short_integer, fd_is_short_integer, g_is_short_integer, k_is_short_integer, b_is_short_integer, G_is_short_integer⟩ := (ok_is_short_integer (P := P) (w := w) (base := base) T)
  refine ⟨f_, fd_, g_, F_.kp, F_.binds (ps := ["value", "low", "high"]) (fun _ _ _ _ _ _ us hl => match us, hl with | [_, _, _], _ => rfl), ?_⟩
  refine F_.ok sc_is_between (fun vs H Q E h => ?_) (fun cdv A outer s H vs Q E hr h => ?_)
  · first | (obtain ⟨rfl, _⟩ := h; rfl) | (obtain ⟨_, rfl, _⟩ := h; rfl) | (obtain ⟨_, _, rfl, _⟩ := h; rfl) | (obtain ⟨_, _, _, rfl, _⟩ := h; rfl) | (obtain ⟨_, _, _, _, rfl, _⟩ := h; rfl) | (obtain ⟨_, _, _, _, _, rfl, _⟩ := h; rfl) | (obtain ⟨_, _, _, _, _, _, rfl, _⟩ := h; rfl) | (obtain ⟨_, _, _, _, _, _, _, rfl, _⟩ := h; rfl) | (obtain ⟨_, _, _, _, _, _, _, _, rfl, _⟩ := h; rfl) | (obtain ⟨_, _, _, _, _, _, _, _, _, rfl, _⟩ := h; rfl) | (obtain ⟨_, _, _, _, _, _, _, _, _, _, rfl, _⟩ := h; rfl) | (obtain ⟨_, _, _, _, _, _, _, _, _, _, _, rfl, _⟩ := h; rfl) | (obtain ⟨_, _, _, _, _, _, _, _, _, _, _, _, rfl, _⟩ := h; rfl) | (obtain ⟨_, _, _, _, _, _, _, _, _, _, _, _, _, rfl, _⟩ := h; rfl) | (obtain ⟨_, _, _, _, _, _, _, _, _, _, _, _, _, _, rfl, _⟩ := h; rfl) | (obtain ⟨_, _, _, _, _, _, _, _, _, _, _, _, _, _, _, rfl, _⟩ := h; rfl) | (obtain ⟨_, _, _, _, _, _, _, _, _, _, _, _, _, _, _, _, rfl, _⟩ := h; rfl) | (obtain ⟨_, _, _, _, _, _, _, _, _, _, _, _, _, _, _, _, _, rfl, _⟩ := h; rfl) | (obtain ⟨_, _, _, _, _, _, _, _, _, _, _, _, _, _, _, _, _, _, rfl, _⟩ := h; rfl) | (obtain ⟨_, _, _, _, _, _, _, _, _, _, _, _, _, _, _, _, _, _, _, rfl, _⟩ := h; rfl) | (obtain ⟨_, _, _, _, _, _, _, _, _, _, _, _, _, _, _, _, _, _, _, _, rfl, _⟩ := h; rfl) | (obtain ⟨_, _, _, _, _, _, _, _, _, _, _, _, _, _, _, _, _, _, _, _, _, rfl, _⟩ := h; rfl) | (obtain ⟨_, _, _, _, _, _, _, _, _, _, _, _, _, _, _, _, _, _, _, _, _, _, rfl, _⟩ := h; rfl) | (obtain ⟨_, _, _, _, _, _, _, _, _, _, _, _, _, _, _, _, _, _, _, _, _, _, _, rfl, _⟩ := h; rfl)
  · obtain ⟨i, lo, hi, rfl, hs, h1, h2, q⟩ := h
    refine ⟨_, (pss_one (ps_ret (pe_and (pe_call G_is_short_integer (hr.mono (by decide)) (by rfl) g_is_short_integer k_is_short_integer b_is_short_integer .nil pass0 (pa_cons (pv 0) pa_nil)) (pe_one (pe_chain op_le op_le (pv 1) (pv 0) (pv 2)))))), ?_⟩
    refine ⟨_, rfl, i, rfl, hs, _, rfl, iteT ?_⟩
    refine ⟨_, rfl, _, rfl, _, _, rfl, rfl, _, rfl, dT h1 ⟨_, rfl, _, _, rfl, rfl, ?_⟩⟩
    show Q (.bl (decide (i ≤ hi))) H
    rw [decide_eq_true h2]
    exact q
theorem ok_check_between (T : Txt K mg C_Form) : Def P w K mg base 4 "check_between" ["value", "low", "high"] (sp_check_between K C_Form) := by
  obtain ⟨f_, fd_, g_, F_⟩ := T.d_check_between
  obtain ⟨f_is_between, fd_is_between, g_is_between, k_is_between, b_is_between, G_is_between⟩ := (ok_is_between (P := P) (w := w) (base := base) T)
  refine ⟨f_, fd_, g_, F_.kp, F_.binds (ps := ["value", "low", "high"]) (fun _ _ _ _ _ _ us hl => match us, hl with | [_, _, _], _ => rfl), ?_⟩
  refine F_.ok sc_check_between (fun vs H Q E h => ?_) (fun cdv A outer s H vs Q E hr h => ?_)
  · first | (obtain ⟨rfl, _⟩ := h; rfl) | (obtain ⟨_, rfl, _⟩ := h; rfl) | (obtain ⟨_, _, rfl, _⟩ := h; rfl) | (obtain ⟨_, _, _, rfl, _⟩ := h; rfl) | (obtain ⟨_, _, _, _, rfl, _⟩ := h; rfl) | (obtain ⟨_, _, _, _, _, rfl, _⟩ := h; rfl) | (obtain ⟨_, _, _, _, _, _, rfl, _⟩ := h; rfl) | (obtain ⟨_, _, _, _, _, _, _, rfl, _⟩ := h; rfl) | (obtain ⟨_, _, _, _, _, _, _, _, rfl, _⟩ := h; rfl) | (obtain ⟨_, _, _, _, _, _, _, _, _, rfl, _⟩ := h; rfl) | (obtain ⟨_, _, _, _, _, _, _, _, _, _, rfl, _⟩ := h; rfl) | (obtain ⟨_, _, _, _, _, _, _, _, _, _, _, rfl, _⟩ := h; rfl) | (obtain ⟨_, _, _, _, _, _, _, _, _, _, _, _, rfl, _⟩ := h; rfl) | (obtain ⟨_, _, _, _, _, _, _, _, _, _, _, _, _, rfl, _⟩ := h; rfl) | (obtain ⟨_, _, _, _, _, _, _, _, _, _, _, _, _, _, rfl, _⟩ := h; rfl) | (obtain ⟨_, _, _, _, _, _, _, _, _, _, _, _, _, _, _, rfl, _⟩ := h; rfl) | (obtain ⟨_, _, _, _, _, _, _, _, _, _, _, _, _, _, _, _, rfl, _⟩ := h; rfl) | (obtain ⟨_, _, _, _, _, _, _, _, _, _, _, _, _, _, _, _, _, rfl, _⟩ := h; rfl) | (obtain ⟨_, _, _, _, _, _, _, _, _, _, _, _, _, _, _, _, _, _, rfl, _⟩ := h; rfl) | (obtain ⟨_, _, _, _, _, _, _, _, _, _, _, _, _, _, _, _, _, _, _, rfl, _⟩ := h; rfl) | (obtain ⟨_, _, _, _, _, _, _, _, _, _, _, _, _, _, _, _, _, _, _, _, rfl, _⟩ := h; rfl) | (obtain ⟨_, _, _, _, _, _, _, _, _, _, _, _, _, _, _, _, _, _, _, _, _, rfl, _⟩ := h; rfl) | (obtain ⟨_, _, _, _, _, _, _, _, _, _, _, _, _, _, _, _, _, _, _, _, _, _, rfl, _⟩ := h; rfl) | (obtain ⟨_, _, _, _, _, _, _, _, _, _, _, _, _, _, _, _, _, _, _, _, _, _, _, rfl, _⟩ := h; rfl)
  · obtain ⟨i, lo, hi, rfl, hs, h1, h2, q⟩ := h
    refine ⟨_, (pss_one (ps_if (pt_not (pt_val (pe_call G_is_between (hr.mono (by decide)) (by rfl) g_is_between k_is_between b_is_between .nil pass0 (pa_cons (pv 0) (pa_cons (pv 1) (pa_cons (pv 2) pa_nil))))))
      pss_never
      pss_nil)), ?_⟩
    refine ⟨_, rfl, _, rfl, _, rfl, i, lo, hi, rfl, hs, h1, h2, _, rfl, ?_⟩
    exact iteF q
theorem ok_is_prime (T : Txt K mg C_Form) : Def P w K mg base 5 "is_prime" ["number"] (sp_is_prime K C_Form) := by
  obtain ⟨f_, fd_, g_, F_⟩ := T.d_is_prime
  obtain ⟨f_check_between, fd_check_between, g_check_between, k_check_between, b_check_between, G_check_between⟩ := (ok_check_between (P := P) (w := w) (base := base) T)
  refine ⟨f_, fd_, g_, F_.kp, F_.binds (ps := ["number"]) (fun _ _ _ _ _ _ us hl => match us, hl with | [_], _ => rfl), ?_⟩
  refine F_.ok sc_is_prime (fun vs H Q E h => ?_) (fun cdv A outer s H vs Q E hr h => ?_)
  · first | (obtain ⟨rfl, _⟩ := h; rfl) | (obtain ⟨_, rfl, _⟩ := h; rfl) | (obtain ⟨_, _, rfl, _⟩ := h; rfl) | (obtain ⟨_, _, _, rfl, _⟩ := h; rfl) | (obtain ⟨_, _, _, _, rfl, _⟩ := h; rfl) | (obtain ⟨_, _, _, _, _, rfl, _⟩ := h; rfl) | (obtain ⟨_, _, _, _, _, _, rfl, _⟩ := h; rfl) | (obtain ⟨_, _, _, _, _, _, _, rfl, _⟩ := h; rfl) | (obtain ⟨_, _, _, _, _, _, _, _, rfl, _⟩ := h; rfl) | (obtain ⟨_, _, _, _, _, _, _, _, _, rfl, _⟩ := h; rfl) | (obtain ⟨_, _, _, _, _, _, _, _, _, _, rfl, _⟩ := h; rfl) | (obtain ⟨_, _, _, _, _, _, _, _, _, _, _, rfl, _⟩ := h; rfl) | (obtain ⟨_, _, _, _, _, _, _, _, _, _, _, _, rfl, _⟩ := h; rfl) | (obtain ⟨_, _, _, _, _, _, _, _, _, _, _, _, _, rfl, _⟩ := h; rfl) | (obtain ⟨_, _, _, _, _, _, _, _, _, _, _, _, _, _, rfl, _⟩ := h; rfl) | (obtain ⟨_, _, _, _, _, _, _, _, _, _, _, _, _, _, _, rfl, _⟩ := h; rfl) | (obtain ⟨_, _, _, _, _, _, _, _, _, _, _, _, _, _, _, _, rfl, _⟩ := h; rfl) | (obtain ⟨_, _, _, _, _, _, _, _, _, _, _, _, _, _, _, _, _, rfl, _⟩ := h; rfl) | (obtain ⟨_, _, _, _, _, _, _, _, _, _, _, _, _, _, _, _, _, _, rfl, _⟩ := h; rfl) | (obtain ⟨_, _, _, _, _, _, _, _, _, _, _, _, _, _, _, _, _, _, _, rfl, _⟩ := h; rfl) | (obtain ⟨_, _, _, _, _, _, _, _, _, _, _, _, _, _, _, _, _, _, _, _, rfl, _⟩ := h; rfl) | (obtain ⟨_, _, _, _, _, _, _, _, _, _, _, _, _, _, _, _, _, _, _, _, _, rfl, _⟩ := h; rfl) | (obtain ⟨_, _, _, _, _, _, _, _, _, _, _, _, _, _, _, _, _, _, _, _, _, _, rfl, _⟩ := h; rfl) | (obtain ⟨_, _, _, _, _, _, _, _, _, _, _, _, _, _, _, _, _, _, _, _, _, _, _, rfl, _⟩ := h; rfl)
  · obtain ⟨n, rfl, hn, hp, q⟩ := h
    obtain ⟨t_MAX_PRIME, h_MAX_PRIME⟩ := T.x_MAX_PRIME
    refine ⟨_, (pss_cons (ps_expr (pe_call G_check_between (hr.mono (by decide)) (by rfl) g_check_between k_check_between b_check_between .nil pass0 (pa_cons (pv 0) (pa_cons pe_int (pa_cons (pe_glob (v := .int 1000000) (by rfl) h_MAX_PRIME ⟨_, rfl⟩) pa_nil)))))
    (pss_cons (ps_if (pt_cmpR op_lt (pv 0) pe_int (nomark _))
      (pss_one (ps_ret pe_bl))
      pss_nil)
    (pss_cons (ps_for PassesOwn.never rfl (pi_range2 (by rfl) T.b_range (pa_cons pe_int (pa_cons (pe_op op_add (pe_callBfun cr_isqrt (by rfl) T.m_isqrt (pa_cons (pv 0) pa_nil)) pe_int) pa_nil))) (pg_name (i := 1) sc_is_prime.nd rfl (.inl rfl))
      (pss_one (ps_if (pt_cmpR op_eq (pe_op op_mod (pv 0) (pv 1)) pe_int (nomark _))
      (pss_one (ps_ret pe_bl))
      pss_nil)))
    (pss_one (ps_ret pe_bl))))), ?_⟩
    refine ⟨_, rfl, _, _, _, rfl, ⟨by omega, by omega⟩, by omega, by omega, ?_⟩
    refine ⟨_, rfl, _, _, rfl, rfl, _, rfl, iteD (fun g => ?_) (fun g => ?_)⟩
    · have := hp.1
      omega
    · refine ⟨_, rfl, _, rfl, by omega, by omega, fun r r0 r1 r2 => ?_⟩
      have r3 : r < 2 ^ 60 := by
        rcases Int.lt_or_le r (2 ^ 60) with h | h
        · exact h
        · have := Int.mul_le_mul h h (by decide) (by omega)
          omega
      refine ⟨_, _, rfl, rfl, _, _, rfl, ⟨by decide, by decide, by omega, by omega⟩, ?_⟩
      refine for_range (lo := 2) (n := (r + 1 - 2).toNat) (fun i σ H' => ∃ y1, σ = [some (.int (n : Int)), y1] ∧ H = H') ⟨none, rfl, rfl⟩ ?_ ?_
      · rintro i σ H' hi ⟨y1, rfl, rfl⟩
        refine ⟨_, rfl, _, rfl, (n : Int), 2 + (i : Int), rfl, rfl, (show (0 : Int) < 2 + (i : Int) by omega), rfl, _, rfl, ?_⟩
        have e : decide (V.int ((n : Int) % (2 + (i : Int))) = V.int 0) = decide ((n : Int) % (2 + (i : Int)) = 0) := by rw [dec_int]; rfl
        show if decide (V.int ((n : Int) % (2 + (i : Int))) = V.int 0) = true then _ else _
        rw [e]
        refine iteD (fun z => ?_) (fun z => ⟨_, rfl, rfl⟩)
        refine absurd (modN.mp z) (hp.2 (2 + i) (by omega) ?_)
        have : (2 + (i : Int)) ≤ r := by omega
        have := Int.mul_le_mul this this (by omega) (by omega)
        have : ((2 + i : Nat) : Int) * ((2 + i : Nat) : Int) ≤ (n : Int) := by
          rw [show ((2 + i : Nat) : Int) = 2 + (i : Int) by omega]
          omega
        exact Int.ofNat_le.mp (by rw [Int.natCast_mul]; exact this)
      · rintro σ H' ⟨y1, rfl, rfl⟩
        exact q
theorem ok_check_prime (T : Txt K mg C_Form) : Def P w K mg base 6 "check_prime" ["number"] (sp_check_prime K C_Form) := by
  obtain ⟨f_, fd_, g_, F_⟩ := T.d_check_prime
  obtain ⟨f_check_between, fd_check_between, g_check_between, k_check_between, b_check_between, G_check_between⟩ := (ok_check_between (P := P) (w := w) (base := base) T)
  obtain ⟨f_is_prime, fd_is_prime, g_is_prime, k_is_prime, b_is_prime, G_is_prime⟩ := (ok_is_prime (P := P) (w := w) (base := base) T)
  refine ⟨f_, fd_, g_, F_.kp, F_.binds (ps := ["number"]) (fun _ _ _ _ _ _ us hl => match us, hl with | [_], _ => rfl), ?_⟩
  refine F_.ok sc_check_prime (fun vs H Q E h => ?_) (fun cdv A outer s H vs Q E hr h => ?_)
  · first | (obtain ⟨rfl, _⟩ := h; rfl) | (obtain ⟨_, rfl, _⟩ := h; rfl) | (obtain ⟨_, _, rfl, _⟩ := h; rfl) | (obtain ⟨_, _, _, rfl, _⟩ := h; rfl) | (obtain ⟨_, _, _, _, rfl, _⟩ := h; rfl) | (obtain ⟨_, _, _, _, _, rfl, _⟩ := h; rfl) | (obtain ⟨_, _, _, _, _, _, rfl, _⟩ := h; rfl) | (obtain ⟨_, _, _, _, _, _, _, rfl, _⟩ := h; rfl) | (obtain ⟨_, _, _, _, _, _, _, _, rfl, _⟩ := h; rfl) | (obtain ⟨_, _, _, _, _, _, _, _, _, rfl, _⟩ := h; rfl) | (obtain ⟨_, _, _, _, _, _, _, _, _, _, rfl, _⟩ := h; rfl) | (obtain ⟨_, _, _, _, _, _, _, _, _, _, _, rfl, _⟩ := h; rfl) | (obtain ⟨_, _, _, _, _, _, _, _, _, _, _, _, rfl, _⟩ := h; rfl) | (obtain ⟨_, _, _, _, _, _, _, _, _, _, _, _, _, rfl, _⟩ := h; rfl) | (obtain ⟨_, _, _, _, _, _, _, _, _, _, _, _, _, _, rfl, _⟩ := h; rfl) | (obtain ⟨_, _, _, _, _, _, _, _, _, _, _, _, _, _, _, rfl, _⟩ := h; rfl) | (obtain ⟨_, _, _, _, _, _, _, _, _, _, _, _, _, _, _, _, rfl, _⟩ := h; rfl) | (obtain ⟨_, _, _, _, _, _, _, _, _, _, _, _, _, _, _, _, _, rfl, _⟩ := h; rfl) | (obtain ⟨_, _, _, _, _, _, _, _, _, _, _, _, _, _, _, _, _, _, rfl, _⟩ := h; rfl) | (obtain ⟨_, _, _, _, _, _, _, _, _, _, _, _, _, _, _, _, _, _, _, rfl, _⟩ := h; rfl) | (obtain ⟨_, _, _, _, _, _, _, _, _, _, _, _, _, _, _, _, _, _, _, _, rfl, _⟩ := h; rfl) | (obtain ⟨_, _, _, _, _, _, _, _, _, _, _, _, _, _, _, _, _, _, _, _, _, rfl, _⟩ := h; rfl) | (obtain ⟨_, _, _, _, _, _, _, _, _, _, _, _, _, _, _, _, _, _, _, _, _, _, rfl, _⟩ := h; rfl) | (obtain ⟨_, _, _, _, _, _, _, _, _, _, _, _, _, _, _, _, _, _, _, _, _, _, _, rfl, _⟩ := h; rfl)
  · obtain ⟨n, rfl, hn, hp, q⟩ := h
    obtain ⟨t_GREATEST_PRIME, h_GREATEST_PRIME⟩ := T.x_GREATEST_PRIME
    refine ⟨_, (pss_cons (ps_expr (pe_call G_check_between (hr.mono (by decide)) (by rfl) g_check_between k_check_between b_check_between .nil pass0 (pa_cons (pv 0) (pa_cons pe_int (pa_cons (pe_glob (v := .int 10000) (by rfl) h_GREATEST_PRIME ⟨_, rfl⟩) pa_nil)))))
    (pss_one (ps_if (pt_not (pt_val (pe_call G_is_prime (hr.mono (by decide)) (by rfl) g_is_prime k_is_prime b_is_prime .nil pass0 (pa_cons (pv 0) pa_nil))))
      pss_never
      pss_nil))), ?_⟩
    have := hp.1
    refine ⟨_, rfl, _, _, _, rfl, ⟨by omega, by omega⟩, by omega, by omega, ?_⟩
    refine ⟨_, rfl, n, rfl, hn, hp, _, rfl, ?_⟩
    exact iteF q
theorem ok_check_form (T : Txt K mg C_Form) : Def P w K mg base 1 "check_form" ["value"] (sp_check_form K C_Form) := by
  obtain ⟨f_, fd_, g_, F_⟩ := T.d_check_form
  refine ⟨f_, fd_, g_, F_.kp, F_.binds (ps := ["value"]) (fun _ _ _ _ _ _ us hl => match us, hl with | [_], _ => rfl), ?_⟩
  refine F_.ok sc_check_form (fun vs H Q E h => ?_) (fun cdv A outer s H vs Q E hr h => ?_)
  · first | (obtain ⟨rfl, _⟩ := h; rfl) | (obtain ⟨_, rfl, _⟩ := h; rfl) | (obtain ⟨_, _, rfl, _⟩ := h; rfl) | (obtain ⟨_, _, _, rfl, _⟩ := h; rfl) | (obtain ⟨_, _, _, _, rfl, _⟩ := h; rfl) | (obtain ⟨_, _, _, _, _, rfl, _⟩ := h; rfl) | (obtain ⟨_, _, _, _, _, _, rfl, _⟩ := h; rfl) | (obtain ⟨_, _, _, _, _, _, _, rfl, _⟩ := h; rfl) | (obtain ⟨_, _, _, _, _, _, _, _, rfl, _⟩ := h; rfl) | (obtain ⟨_, _, _, _, _, _, _, _, _, rfl, _⟩ := h; rfl) | (obtain ⟨_, _, _, _, _, _, _, _, _, _, rfl, _⟩ := h; rfl) | (obtain ⟨_, _, _, _, _, _, _, _, _, _, _, rfl, _⟩ := h; rfl) | (obtain ⟨_, _, _, _, _, _, _, _, _, _, _, _, rfl, _⟩ := h; rfl) | (obtain ⟨_, _, _, _, _, _, _, _, _, _, _, _, _, rfl, _⟩ := h; rfl) | (obtain ⟨_, _, _, _, _, _, _, _, _, _, _, _, _, _, rfl, _⟩ := h; rfl) | (obtain ⟨_, _, _, _, _, _, _, _, _, _, _, _, _, _, _, rfl, _⟩ := h; rfl) | (obtain ⟨_, _, _, _, _, _, _, _, _, _, _, _, _, _, _, _, rfl, _⟩ := h; rfl) | (obtain ⟨_, _, _, _, _, _, _, _, _, _, _, _, _, _, _, _, _, rfl, _⟩ := h; rfl) | (obtain ⟨_, _, _, _, _, _, _, _, _, _, _, _, _, _, _, _, _, _, rfl, _⟩ := h; rfl) | (obtain ⟨_, _, _, _, _, _, _, _, _, _, _, _, _, _, _, _, _, _, _, rfl, _⟩ := h; rfl) | (obtain ⟨_, _, _, _, _, _, _, _, _, _, _, _, _, _, _, _, _, _, _, _, rfl, _⟩ := h; rfl) | (obtain ⟨_, _, _, _, _, _, _, _, _, _, _, _, _, _, _, _, _, _, _, _, _, rfl, _⟩ := h; rfl) | (obtain ⟨_, _, _, _, _, _, _, _, _, _, _, _, _, _, _, _, _, _, _, _, _, _, rfl, _⟩ := h; rfl) | (obtain ⟨_, _, _, _, _, _, _, _, _, _, _, _, _, _, _, _, _, _, _, _, _, _, _, rfl, _⟩ := h; rfl)
  · obtain ⟨x, ns, rfl, ⟨dx, t, hx, ht⟩, q⟩ := h
    refine ⟨_, (pss_one (ps_if (pt_not (pt_val (pe_callB call_isi (by rfl) T.b_isinstance (by decide +kernel) (pa_cons (pv 0) (pa_cons (pe_glob (v := .ref C_Form) (by rfl) T.g_Form rfl) pa_nil)))))
      pss_never
      pss_nil)), ?_⟩
    refine ⟨_, rfl, _, _, _, _, true, rfl, .own _, ty_ins T.ty_Form T.cl_Form hx, kit_self, _, rfl, ?_⟩
    exact iteF q
theorem ok_places_of_roots (T : Txt K mg C_Form) : Def P w K mg base 1 "places_of_roots" ["coefficients", "prime"] (sp_places_of_roots K C_Form) := by
  obtain ⟨f_, fd_, g_, F_⟩ := T.d_places_of_roots
  refine ⟨f_, fd_, g_, F_.kp, F_.binds (ps := ["coefficients", "prime"]) (fun _ _ _ _ _ _ us hl => match us, hl with | [_, _], _ => rfl), ?_⟩
  refine F_.ok sc_places_of_roots (fun vs H Q E h => ?_) (fun cdv A outer s H vs Q E hr h => ?_)
  · first | (obtain ⟨rfl, _⟩ := h; rfl) | (obtain ⟨_, rfl, _⟩ := h; rfl) | (obtain ⟨_, _, rfl, _⟩ := h; rfl) | (obtain ⟨_, _, _, rfl, _⟩ := h; rfl) | (obtain ⟨_, _, _, _, rfl, _⟩ := h; rfl) | (obtain ⟨_, _, _, _, _, rfl, _⟩ := h; rfl) | (obtain ⟨_, _, _, _, _, _, rfl, _⟩ := h; rfl) | (obtain ⟨_, _, _, _, _, _, _, rfl, _⟩ := h; rfl) | (obtain ⟨_, _, _, _, _, _, _, _, rfl, _⟩ := h; rfl) | (obtain ⟨_, _, _, _, _, _, _, _, _, rfl, _⟩ := h; rfl) | (obtain ⟨_, _, _, _, _, _, _, _, _, _, rfl, _⟩ := h; rfl) | (obtain ⟨_, _, _, _, _, _, _, _, _, _, _, rfl, _⟩ := h; rfl) | (obtain ⟨_, _, _, _, _, _, _, _, _, _, _, _, rfl, _⟩ := h; rfl) | (obtain ⟨_, _, _, _, _, _, _, _, _, _, _, _, _, rfl, _⟩ := h; rfl) | (obtain ⟨_, _, _, _, _, _, _, _, _, _, _, _, _, _, rfl, _⟩ := h; rfl) | (obtain ⟨_, _, _, _, _, _, _, _, _, _, _, _, _, _, _, rfl, _⟩ := h; rfl) | (obtain ⟨_, _, _, _, _, _, _, _, _, _, _, _, _, _, _, _, rfl, _⟩ := h; rfl) | (obtain ⟨_, _, _, _, _, _, _, _, _, _, _, _, _, _, _, _, _, rfl, _⟩ := h; rfl) | (obtain ⟨_, _, _, _, _, _, _, _, _, _, _, _, _, _, _, _, _, _, rfl, _⟩ := h; rfl) | (obtain ⟨_, _, _, _, _, _, _, _, _, _, _, _, _, _, _, _, _, _, _, rfl, _⟩ := h; rfl) | (obtain ⟨_, _, _, _, _, _, _, _, _, _, _, _, _, _, _, _, _, _, _, _, rfl, _⟩ := h; rfl) | (obtain ⟨_, _, _, _, _, _, _, _, _, _, _, _, _, _, _, _, _, _, _, _, _, rfl, _⟩ := h; rfl) | (obtain ⟨_, _, _, _, _, _, _, _, _, _, _, _, _, _, _, _, _, _, _, _, _, _, rfl, _⟩ := h; rfl) | (obtain ⟨_, _, _, _, _, _, _, _, _, _, _, _, _, _, _, _, _, _, _, _, _, _, _, rfl, _⟩ := h; rfl)
  · obtain ⟨t, a, b, c, d, p, rfl, ht, p0, p1, q⟩ := h
    obtain ⟨A_END, h_END, i_END⟩ := T.k_END
    obtain ⟨t_GREAT, h_GREAT⟩ := T.x_GREAT
    refine ⟨_, (pss_cons (ps_asg (pe_lc (own := [("number", 7)]) (g := (gName 7)) rfl sc_places_of_roots.nd (pi_tup (pv 0)) (blkOk_by (N := N_places_of_roots) (sc := defScope s_places_of_roots) (by decide +kernel)) (fun _ _ _ _ _ => (pg_name (i := 7) sc_places_of_roots.nd rfl (.inl rfl))) (fun _ _ _ _ _ => pts_nil) (fun _ _ _ _ _ => (pe_op op_mod (pv 7) (pv 1)))) (pg_lst (by rfl) (pgs_cons (pg_name (i := 2) sc_places_of_roots.nd rfl (.inr rfl)) (pgs_cons (pg_name (i := 3) sc_places_of_roots.nd rfl (.inr rfl)) (pgs_cons (pg_name (i := 4) sc_places_of_roots.nd rfl (.inr rfl)) (pgs_cons (pg_name (i := 5) sc_places_of_roots.nd rfl (.inr rfl)) pgs_nil))))))
    (Evl.pss_cut (ps_if (PW.pt (pw_or (pt_cmpR op_lt (pv 1) (pe_glob (v := .int 1000) (by rfl) h_GREAT ⟨_, rfl⟩) (nomark _)) (pw_or1 (pt_not (pt_val (pe_callB (cr_any rfl) (by rfl) T.b_any (by decide +kernel) (pa_cons (pe_lst (pa_cons (pv 2) (pa_cons (pv 3) (pa_cons (pv 4) (pa_cons (pv 5) pa_nil))))) pa_nil)))))))
      (pss_one (ps_setLc (i := 6) (own := [("x", 8)]) (g := (gName 8)) rfl sc_places_of_roots.nd rfl rfl (sw_true rfl rfl rfl (by decide +kernel)) (pi_range1 (by rfl) T.b_range (pa_cons (pv 1) pa_nil)) (blkOk_by (N := N_places_of_roots) (sc := defScope s_places_of_roots) (by decide +kernel)) (fun _ _ _ _ _ => (pg_name (i := 8) sc_places_of_roots.nd rfl (.inl rfl))) (fun _ _ _ _ _ => (pts_one (pt_cmpR op_eq (pe_op op_mod (pe_op op_add (pe_op op_mulW (pe_op op_add (pe_op op_mulW (pe_op op_add (pe_op op_mulW (pv 2) (pv 8)) (pv 3)) (pv 8)) (pv 4)) (pv 8)) (pv 5)) (pv 1)) pe_int (nomark _)))) (fun _ _ _ _ _ => (pe_tup (pa_cons (pv 8) (pa_cons pe_int pa_nil))))))
      pss_never)
    (pss_one (ps_ret (pe_callB cr_sortedPT (by rfl) T.b_sorted (by decide +kernel) (pa_cons (pe_ifExp (pt_cmpR op_eq (pv 2) pe_int (nomark _)) (pe_op op_cat (pv 6) (pe_lst (pa_cons (pe_glob (v := .ref A_END) (by rfl) h_END rfl) pa_nil))) (pv 6)) pa_nil)))))), ?_⟩
    refine ⟨_, rfl, t, rfl, ⟨_, SqT.of ht⟩, ?_⟩
    refine lcT fm0 trivial (SqT.of ht) (fun z => z) (fun i acc _ => acc = (([a % (p : Int), b % (p : Int), c % (p : Int), d % (p : Int)] : List Int).take i).map V.int) (fun _ _ => rfl) (fun D i v acc H' hD hv e hA hlen hp => ?_) (fun D H1 acc hD e hA hp => ?_)
    · obtain ⟨n, hn, rfl⟩ := get_int hv
      have hi : i < 4 := (List.getElem?_eq_some_iff.mp hn).1
      refine ⟨rfl, ?_⟩
      refine ⟨_, rfl, _, rfl, _, _, rfl, rfl, (show (0 : Int) < (p : Int) by omega), ?_⟩
      refine cs_yes fm0 trivial hD e hA hlen (by omega) (Fx.refl trivial) ?_
      show acc ++ [V.int (n % (p : Int))] = _
      rw [hp]
      match i, hn with
      | 0, hn => rw [← Option.some.inj hn]; rfl
      | 1, hn => rw [← Option.some.inj hn]; rfl
      | 2, hn => rw [← Option.some.inj hn]; rfl
      | 3, hn => rw [← Option.some.inj hn]; rfl
    have hp' : acc = ([a % (p : Int), b % (p : Int), c % (p : Int), d % (p : Int)] : List Int).map V.int := hp
    subst hp'
    refine ⟨D, _, rfl, SqL.of hA, rfl, _, _, rfl, _, _, rfl, _, _, rfl, _, _, rfl, rfl, ?_⟩
    have bm : ∀ z : Int, B 10 (z % (p : Int)) := fun z => by
      have h1 := Int.emod_nonneg z (show (p : Int) ≠ 0 by omega)
      have h2 := Int.emod_lt_of_pos z (show (0 : Int) < (p : Int) by omega)
      exact ⟨by show _ < 1024; omega, by decide⟩
    refine ⟨fun σ H2 => ∃ (l : Addr) (xs : List V), σ = [some (.ref t), some (.int (p : Int)), some (.int (a % (p : Int))), some (.int (b % (p : Int))), some (.int (c % (p : Int))), some (.int (d % (p : Int))), some (.ref l), none, none] ∧ Ex0 H H2 ∧ H2 l = some (.lst xs) ∧ PrT K H2 xs (((List.range p).filter fun (x : Nat) => rootB a b c d p x 1).map fun (x : Nat) => ((x : Int), (1 : Int))), ?_, ?_⟩
    · refine ⟨_, rfl, _, _, rfl, rfl, _, rfl, dT (by show (p : Int) < 1000; omega) ?_⟩
      refine ⟨_, rfl, _, rfl, by omega, by omega, ?_⟩
      refine lcR fm0 trivial (fun i acc H' => PrT K H' acc (((List.range i).filter fun (x : Nat) => rootB a b c d p x 1).map fun (x : Nat) => ((x : Int), (1 : Int)))) (fun _ _ => .nil) (fun D2 i acc H2 hD2 hi e2 hA2 hlen hp => ?_) (fun D2 H2 acc hD2 e2 hA2 hp => ?_)
      · have hi' : i < p := by simpa using hi
        have bx : B 10 (i : Int) := ⟨by show _ < 1024; omega, by decide⟩
        have s1 := B.add (B.mul (bm a) bx) (bm b)
        have s2 := B.add (B.mul s1 bx) (bm c)
        refine ⟨rfl, ?_⟩
        rw [show (0 : Int) + (i : Int) = (i : Int) by omega]
        refine ⟨_, rfl, _, rfl, _, _, rfl, rfl, mulB (bm a) bx (by decide), _, rfl, _, _, rfl, rfl, _, rfl, _, _, rfl, rfl, mulB s1 bx (by decide), _, rfl, _, _, rfl, rfl, _, rfl, _, _, rfl, rfl, mulB s2 bx (by decide), _, rfl, _, _, rfl, rfl, _, rfl, _, _, rfl, rfl, (show (0 : Int) < (p : Int) by omega), rfl, _, rfl, ?_⟩
        have e1 : decide (V.int ((((a % (p : Int) * (i : Int) + b % (p : Int)) * (i : Int) + c % (p : Int)) * (i : Int) + d % (p : Int)) % (p : Int)) = V.int 0) = rootB a b c d p i 1 := by
          rw [horner]
          exact decide_eq_decide.mpr ⟨fun z => V.int.inj z, fun z => congrArg V.int z⟩
        show if decide (V.int ((((a % (p : Int) * (i : Int) + b % (p : Int)) * (i : Int) + c % (p : Int)) * (i : Int) + d % (p : Int)) % (p : Int)) = V.int 0) = true then _ else _
        rw [e1]
        refine iteB (fun hk => ?_) (fun hk => ?_)
        · refine ⟨_, rfl, sl2, fun t2 n2 => ?_⟩
          have f2 := Ex0.new (o := .tup [.int (i : Int), .int 1]) n2
          refine cs_yes fm0 trivial hD2 e2 hA2 hlen (by omega) f2 ?_
          have hA3 := Ex0.ap f2 hA2
          rw [List.range_succ, List.filter_append, List.map_append, List.filter_cons, if_pos hk]
          exact ((hp.ex f2).upd hA3).snoc (sqT_upd hA3 (SqT.of upd_same))
        · refine cs_no fm0 trivial hD2 e2 hA2 hlen (Fx.refl trivial) ?_
          rw [List.range_succ, List.filter_append, List.map_append, List.filter_cons, if_neg (by rw [hk]; decide)]
          simpa using hp
      · have hn : (p : Int).toNat = p := by omega
        rw [hn] at hp
        exact ⟨D2, acc, rfl, Fx.trans e e2, hA2, hp⟩
    rintro σ H2 ⟨l, xs, rfl, e2, hl, hP⟩
    have len : (((List.range p).filter fun (x : Nat) => rootB a b c d p x 1).map fun (x : Nat) => ((x : Int), (1 : Int))).length ≤ 1000 := by
      rw [List.length_map]
      refine Nat.le_trans (List.length_filter_le _ _) ?_
      rw [List.length_range]
      omega
    refine ⟨_, rfl, rfl, _, rfl, iteE (fun h => ?_) (fun h => ?_)⟩
    · refine ⟨_, rfl, sl1, fun l1 n1 => ?_⟩
      have f1 := Ex0.new (o := .lst [.ref A_END]) n1
      have hP1 := hP.ex f1
      refine ⟨l, l1, xs, _, rfl, rfl, Ex0.ap f1 hl, upd_same, by rw [hP.len, sizeLine_eq]; show _ + 1 ≤ _; omega, fun l2 n2 => ?_⟩
      have f2 := Ex0.new (o := .lst (xs ++ [.ref A_END])) n2
      refine ⟨l2, _, _, rfl, SqL.of upd_same, (hP1.ex f2).snoc (i_END _), fun ys qs l3 pm srt hy n3 => ?_⟩
      have f3 := Ex0.new (o := .lst ys) n3
      refine q l3 _ ys qs (e2.trans (f1.trans (f2.trans f3))) upd_same (hy.ex f3) ?_ srt
      unfold rootsL
      rw [if_pos h]
      exact pm
    · refine ⟨_, rfl, l, xs, _, rfl, SqL.of hl, hP, fun ys qs l3 pm srt hy n3 => ?_⟩
      have f3 := Ex0.new (o := .lst ys) n3
      refine q l3 _ ys qs (e2.trans f3) upd_same (hy.ex f3) ?_ srt
      unfold rootsL
      rw [if_neg h, List.append_nil]
      exact pm
theorem ok_roots_at (T : Txt K mg C_Form) : Def P w K mg base 7 "roots_at" ["form", "prime"] (sp_roots_at K C_Form) := by
  obtain ⟨f_, fd_, g_, F_⟩ := T.d_roots_at
  obtain ⟨p_Form_coefficients, f_Form_coefficients, fd_Form_coefficients, R_Form_coefficients, b_Form_coefficients, G_Form_coefficients⟩ := (ok_Form_coefficients (P := P) (w := w) (base := base) T)
  obtain ⟨f_check_form, fd_check_form, g_check_form, k_check_form, b_check_form, G_check_form⟩ := (ok_check_form (P := P) (w := w) (base := base) T)
  obtain ⟨f_check_prime, fd_check_prime, g_check_prime, k_check_prime, b_check_prime, G_check_prime⟩ := (ok_check_prime (P := P) (w := w) (base := base) T)
  obtain ⟨f_places_of_roots, fd_places_of_roots, g_places_of_roots, k_places_of_roots, b_places_of_roots, G_places_of_roots⟩ := (ok_places_of_roots (P := P) (w := w) (base := base) T)
  refine ⟨f_, fd_, g_, F_.kp, F_.binds (ps := ["form", "prime"]) (fun _ _ _ _ _ _ us hl => match us, hl with | [_, _], _ => rfl), ?_⟩
  refine F_.ok sc_roots_at (fun vs H Q E h => ?_) (fun cdv A outer s H vs Q E hr h => ?_)
  · first | (obtain ⟨rfl, _⟩ := h; rfl) | (obtain ⟨_, rfl, _⟩ := h; rfl) | (obtain ⟨_, _, rfl, _⟩ := h; rfl) | (obtain ⟨_, _, _, rfl, _⟩ := h; rfl) | (obtain ⟨_, _, _, _, rfl, _⟩ := h; rfl) | (obtain ⟨_, _, _, _, _, rfl, _⟩ := h; rfl) | (obtain ⟨_, _, _, _, _, _, rfl, _⟩ := h; rfl) | (obtain ⟨_, _, _, _, _, _, _, rfl, _⟩ := h; rfl) | (obtain ⟨_, _, _, _, _, _, _, _, rfl, _⟩ := h; rfl) | (obtain ⟨_, _, _, _, _, _, _, _, _, rfl, _⟩ := h; rfl) | (obtain ⟨_, _, _, _, _, _, _, _, _, _, rfl, _⟩ := h; rfl) | (obtain ⟨_, _, _, _, _, _, _, _, _, _, _, rfl, _⟩ := h; rfl) | (obtain ⟨_, _, _, _, _, _, _, _, _, _, _, _, rfl, _⟩ := h; rfl) | (obtain ⟨_, _, _, _, _, _, _, _, _, _, _, _, _, rfl, _⟩ := h; rfl) | (obtain ⟨_, _, _, _, _, _, _, _, _, _, _, _, _, _, rfl, _⟩ := h; rfl) | (obtain ⟨_, _, _, _, _, _, _, _, _, _, _, _, _, _, _, rfl, _⟩ := h; rfl) | (obtain ⟨_, _, _, _, _, _, _, _, _, _, _, _, _, _, _, _, rfl, _⟩ := h; rfl) | (obtain ⟨_, _, _, _, _, _, _, _, _, _, _, _, _, _, _, _, _, rfl, _⟩ := h; rfl) | (obtain ⟨_, _, _, _, _, _, _, _, _, _, _, _, _, _, _, _, _, _, rfl, _⟩ := h; rfl) | (obtain ⟨_, _, _, _, _, _, _, _, _, _, _, _, _, _, _, _, _, _, _, rfl, _⟩ := h; rfl) | (obtain ⟨_, _, _, _, _, _, _, _, _, _, _, _, _, _, _, _, _, _, _, _, rfl, _⟩ := h; rfl) | (obtain ⟨_, _, _, _, _, _, _, _, _, _, _, _, _, _, _, _, _, _, _, _, _, rfl, _⟩ := h; rfl) | (obtain ⟨_, _, _, _, _, _, _, _, _, _, _, _, _, _, _, _, _, _, _, _, _, _, rfl, _⟩ := h; rfl) | (obtain ⟨_, _, _, _, _, _, _, _, _, _, _, _, _, _, _, _, _, _, _, _, _, _, _, rfl, _⟩ := h; rfl)
  · obtain ⟨z, a, b, c, d, p, rfl, hz, hp, p1, q⟩ := h
    refine ⟨_, (pss_cons (ps_expr (pe_call G_check_form (hr.mono (by decide)) (by rfl) g_check_form k_check_form b_check_form .nil pass0 (pa_cons (pv 0) pa_nil)))
    (pss_cons (ps_expr (pe_call G_check_prime (hr.mono (by decide)) (by rfl) g_check_prime k_check_prime b_check_prime .nil pass0 (pa_cons (pv 1) pa_nil)))
    (pss_one (ps_ret (pe_callTy call_tuple_of (by rfl) T.b_tuple (by decide +kernel) (pa_cons (pe_call G_places_of_roots (hr.mono (by decide)) (by rfl) g_places_of_roots k_places_of_roots b_places_of_roots .nil pass0 (pa_cons (pe_prop (pv 0) T.cl_Form R_Form_coefficients G_Form_coefficients (hr.mono (by decide)) b_Form_coefficients .nil pass0 (by rfl)) (pa_cons (pv 1) pa_nil))) pa_nil)))))), ?_⟩
    obtain ⟨dz, t0, hz1, hz2⟩ := id hz
    refine ⟨_, rfl, z, _, rfl, hz, ?_⟩
    refine ⟨_, rfl, p, rfl, by omega, hp, ?_⟩
    refine ⟨_, rfl, z, dz, _, rfl, hz1, z, _, rfl, hz, fun t ht => ?_⟩
    have := hp.1
    refine ⟨_, rfl, t, a, b, c, d, p, rfl, ht, by omega, p1, fun l H' ys qs e hl hP pm srt => ?_⟩
    refine ⟨l, ys, rfl, .inl ⟨SqL.of hl, fun o no => ?_⟩⟩
    exact q o _ ys qs (e.trans (Ex0.new no)) upd_same (hP.ex (Ex0.new no)) pm srt
theorem ok_power_at (T : Txt K mg C_Form) : Def P w K mg base 1 "power_at" ["base", "exponent", "prime"] (sp_power_at K C_Form) := by
  obtain ⟨f_, fd_, g_, F_⟩ := T.d_power_at
  refine ⟨f_, fd_, g_, F_.kp, F_.binds (ps := ["base", "exponent", "prime"]) (fun _ _ _ _ _ _ us hl => match us, hl with | [_, _, _], _ => rfl), ?_⟩
  refine F_.ok sc_power_at (fun vs H Q E h => ?_) (fun cdv A outer s H vs Q E hr h => ?_)
  · first | (obtain ⟨rfl, _⟩ := h; rfl) | (obtain ⟨_, rfl, _⟩ := h; rfl) | (obtain ⟨_, _, rfl, _⟩ := h; rfl) | (obtain ⟨_, _, _, rfl, _⟩ := h; rfl) | (obtain ⟨_, _, _, _, rfl, _⟩ := h; rfl) | (obtain ⟨_, _, _, _, _, rfl, _⟩ := h; rfl) | (obtain ⟨_, _, _, _, _, _, rfl, _⟩ := h; rfl) | (obtain ⟨_, _, _, _, _, _, _, rfl, _⟩ := h; rfl) | (obtain ⟨_, _, _, _, _, _, _, _, rfl, _⟩ := h; rfl) | (obtain ⟨_, _, _, _, _, _, _, _, _, rfl, _⟩ := h; rfl) | (obtain ⟨_, _, _, _, _, _, _, _, _, _, rfl, _⟩ := h; rfl) | (obtain ⟨_, _, _, _, _, _, _, _, _, _, _, rfl, _⟩ := h; rfl) | (obtain ⟨_, _, _, _, _, _, _, _, _, _, _, _, rfl, _⟩ := h; rfl) | (obtain ⟨_, _, _, _, _, _, _, _, _, _, _, _, _, rfl, _⟩ := h; rfl) | (obtain ⟨_, _, _, _, _, _, _, _, _, _, _, _, _, _, rfl, _⟩ := h; rfl) | (obtain ⟨_, _, _, _, _, _, _, _, _, _, _, _, _, _, _, rfl, _⟩ := h; rfl) | (obtain ⟨_, _, _, _, _, _, _, _, _, _, _, _, _, _, _, _, rfl, _⟩ := h; rfl) | (obtain ⟨_, _, _, _, _, _, _, _, _, _, _, _, _, _, _, _, _, rfl, _⟩ := h; rfl) | (obtain ⟨_, _, _, _, _, _, _, _, _, _, _, _, _, _, _, _, _, _, rfl, _⟩ := h; rfl) | (obtain ⟨_, _, _, _, _, _, _, _, _, _, _, _, _, _, _, _, _, _, _, rfl, _⟩ := h; rfl) | (obtain ⟨_, _, _, _, _, _, _, _, _, _, _, _, _, _, _, _, _, _, _, _, rfl, _⟩ := h; rfl) | (obtain ⟨_, _, _, _, _, _, _, _, _, _, _, _, _, _, _, _, _, _, _, _, _, rfl, _⟩ := h; rfl) | (obtain ⟨_, _, _, _, _, _, _, _, _, _, _, _, _, _, _, _, _, _, _, _, _, _, rfl, _⟩ := h; rfl) | (obtain ⟨_, _, _, _, _, _, _, _, _, _, _, _, _, _, _, _, _, _, _, _, _, _, _, rfl, _⟩ := h; rfl)
  · obtain ⟨a, e, n, rfl, n2, n1, a1, e1, q⟩ := h
    refine ⟨_, (pss_cons (ps_set (i := 3) sc_power_at.nd rfl (.inl rfl) pe_int)
    (pss_cons (ps_set (i := 4) sc_power_at.nd rfl (.inl rfl) (pe_op op_mod (pv 0) (pv 2)))
    (pss_cons (ps_set (i := 5) sc_power_at.nd rfl (.inl rfl) (pv 1))
    (pss_cons (ps_while PassesOwn.never (pt_cmpR op_gt (pv 5) pe_int (nomark _))
      (Evl.pss_cut (ps_if (pt_cmpR op_eq (pe_op op_odd (pv 5) pe_int) pe_int (nomark _))
      (pss_one (ps_set (i := 3) sc_power_at.nd rfl (.inl rfl) (pe_op op_mod (pe_op op_mul (pv 3) (pv 4)) (pv 2))))
      pss_nil)
    (pss_cons (ps_set (i := 4) sc_power_at.nd rfl (.inl rfl) (pe_op op_mod (pe_op op_mul (pv 4) (pv 4)) (pv 2)))
    (pss_one (ps_set (i := 5) sc_power_at.nd rfl (.inl rfl) (pe_op op_halfN (pv 5) pe_int))))))
    (pss_one (ps_ret (pv 3))))))), ?_⟩
    refine ⟨_, rfl, _, rfl, (a : Int), (n : Int), rfl, rfl, (show (0 : Int) < n by omega), ?_⟩
    refine ⟨_, rfl, ?_⟩
    have m0 : (a : Int) % (n : Int) = ((a % n : Nat) : Int) := (Int.natCast_emod a n).symm
    refine ⟨fun m σ H' => ∃ r s l : Nat, σ = [some (.int (a : Int)), some (.int (e : Int)), some (.int (n : Int)), some (.int (r : Int)), some (.int (s : Int)), some (.int (l : Int))] ∧ H = H' ∧ r < n ∧ s < n ∧ l ≤ e ∧ r * s ^ l % n = a ^ e % n ∧ m = l, ⟨_, 1, a % n, e, by rw [← m0]; rfl, rfl, by omega, Nat.mod_lt _ (by omega), Nat.le_refl _, ?_, rfl⟩, ?_⟩
    · rw [Nat.one_mul, ← Nat.pow_mod]
    rintro m σ H' ⟨r, s, l, rfl, rfl, r1, s1, l1, hh, rfl⟩
    refine ⟨_, rfl, _, _, rfl, rfl, _, rfl, iteD (fun g => ?_) (fun g => ?_)⟩
    · have g' : 0 < m := by omega
      refine ⟨fun σ' H'' => ∃ r s l : Nat, σ' = [some (.int (a : Int)), some (.int (e : Int)), some (.int (n : Int)), some (.int (r : Int)), some (.int (s : Int)), some (.int (l : Int))] ∧ H = H'' ∧ r < n ∧ s < n ∧ l ≤ e ∧ r * s ^ l % n = a ^ e % n ∧ l < m, fun σ' H'' ⟨r, s, l, b1, b2, b3, b4, b5, b6, b7⟩ => ⟨l, b7, r, s, l, b1, b2, b3, b4, b5, b6, rfl⟩, ?_⟩
      have sq : s ^ (2 * (m / 2)) = (s * s) ^ (m / 2) := by rw [Nat.pow_mul, Nat.pow_two]
      refine ⟨fun σ' H'' => ∃ r' : Nat, σ' = [some (.int (a : Int)), some (.int (e : Int)), some (.int (n : Int)), some (.int (r' : Int)), some (.int (s : Int)), some (.int (m : Int))] ∧ H = H'' ∧ r' < n ∧ r' * (s * s) ^ (m / 2) % n = a ^ e % n, ?_, ?_⟩
      · refine ⟨_, rfl, m, rfl, rfl, rfl, _, rfl, iteE (fun z => ?_) (fun z => ?_)⟩
        · have z' : m % 2 = 1 := by omega
          have mr : ((r : Int) * (s : Int)) % (n : Int) = ((r * s % n : Nat) : Int) := by rw [← Int.natCast_mul, ← Int.natCast_emod]
          refine ⟨_, rfl, _, rfl, _, _, rfl, rfl, .inl ⟨by omega, by omega⟩, _, rfl, (r : Int) * (s : Int), (n : Int), rfl, rfl, (show (0 : Int) < n by omega), ?_⟩
          refine ⟨r * s % n, by rw [← mr]; rfl, rfl, Nat.mod_lt _ (by omega), ?_⟩
          rw [← hh]
          conv => rhs; rw [show m = 2 * (m / 2) + 1 by omega, Nat.pow_succ, sq, Nat.mul_comm ((s * s) ^ (m / 2)) s, ← Nat.mul_assoc]
          rw [Nat.mul_mod, Nat.mod_mod, ← Nat.mul_mod]
        · refine ⟨r, rfl, rfl, r1, ?_⟩
          rw [← hh]
          conv => rhs; rw [show m = 2 * (m / 2) by omega, sq]
      rintro σ' H'' ⟨r', rfl, rfl, r1', hh'⟩
      have ms : ((s : Int) * (s : Int)) % (n : Int) = ((s * s % n : Nat) : Int) := by rw [← Int.natCast_mul, ← Int.natCast_emod]
      refine ⟨_, rfl, _, rfl, _, _, rfl, rfl, .inl ⟨by omega, by omega⟩, _, rfl, (s : Int) * (s : Int), (n : Int), rfl, rfl, (show (0 : Int) < n by omega), ?_⟩
      refine ⟨_, rfl, m, rfl, rfl, ?_⟩
      refine ⟨r', s * s % n, m / 2, by rw [← ms]; rfl, rfl, r1', Nat.mod_lt _ (by omega), by omega, ?_, by omega⟩
      rw [← hh', Nat.mul_mod, ← Nat.pow_mod, ← Nat.mul_mod]
    · have : m = 0 := by omega
      subst this
      rw [Nat.pow_zero, Nat.mul_one, Nat.mod_eq_of_lt r1] at hh
      refine ⟨_, rfl, ?_⟩
      rw [hh]
      exact q
theorem ok_inverse_at (T : Txt K mg C_Form) : Def P w K mg base 2 "inverse_at" ["number", "prime"] (sp_inverse_at K C_Form) := by
  obtain ⟨f_, fd_, g_, F_⟩ := T.d_inverse_at
  obtain ⟨f_power_at, fd_power_at, g_power_at, k_power_at, b_power_at, G_power_at⟩ := (ok_power_at (P := P) (w := w) (base := base) T)
  refine ⟨f_, fd_, g_, F_.kp, F_.binds (ps := ["number", "prime"]) (fun _ _ _ _ _ _ us hl => match us, hl with | [_, _], _ => rfl), ?_⟩
  refine F_.ok sc_inverse_at (fun vs H Q E h => ?_) (fun cdv A outer s H vs Q E hr h => ?_)
  · first | (obtain ⟨rfl, _⟩ := h; rfl) | (obtain ⟨_, rfl, _⟩ := h; rfl) | (obtain ⟨_, _, rfl, _⟩ := h; rfl) | (obtain ⟨_, _, _, rfl, _⟩ := h; rfl) | (obtain ⟨_, _, _, _, rfl, _⟩ := h; rfl) | (obtain ⟨_, _, _, _, _, rfl, _⟩ := h; rfl) | (obtain ⟨_, _, _, _, _, _, rfl, _⟩ := h; rfl) | (obtain ⟨_, _, _, _, _, _, _, rfl, _⟩ := h; rfl) | (obtain ⟨_, _, _, _, _, _, _, _, rfl, _⟩ := h; rfl) | (obtain ⟨_, _, _, _, _, _, _, _, _, rfl, _⟩ := h; rfl) | (obtain ⟨_, _, _, _, _, _, _, _, _, _, rfl, _⟩ := h; rfl) | (obtain ⟨_, _, _, _, _, _, _, _, _, _, _, rfl, _⟩ := h; rfl) | (obtain ⟨_, _, _, _, _, _, _, _, _, _, _, _, rfl, _⟩ := h; rfl) | (obtain ⟨_, _, _, _, _, _, _, _, _, _, _, _, _, rfl, _⟩ := h; rfl) | (obtain ⟨_, _, _, _, _, _, _, _, _, _, _, _, _, _, rfl, _⟩ := h; rfl) | (obtain ⟨_, _, _, _, _, _, _, _, _, _, _, _, _, _, _, rfl, _⟩ := h; rfl) | (obtain ⟨_, _, _, _, _, _, _, _, _, _, _, _, _, _, _, _, rfl, _⟩ := h; rfl) | (obtain ⟨_, _, _, _, _, _, _, _, _, _, _, _, _, _, _, _, _, rfl, _⟩ := h; rfl) | (obtain ⟨_, _, _, _, _, _, _, _, _, _, _, _, _, _, _, _, _, _, rfl, _⟩ := h; rfl) | (obtain ⟨_, _, _, _, _, _, _, _, _, _, _, _, _, _, _, _, _, _, _, rfl, _⟩ := h; rfl) | (obtain ⟨_, _, _, _, _, _, _, _, _, _, _, _, _, _, _, _, _, _, _, _, rfl, _⟩ := h; rfl) | (obtain ⟨_, _, _, _, _, _, _, _, _, _, _, _, _, _, _, _, _, _, _, _, _, rfl, _⟩ := h; rfl) | (obtain ⟨_, _, _, _, _, _, _, _, _, _, _, _, _, _, _, _, _, _, _, _, _, _, rfl, _⟩ := h; rfl) | (obtain ⟨_, _, _, _, _, _, _, _, _, _, _, _, _, _, _, _, _, _, _, _, _, _, _, rfl, _⟩ := h; rfl)
  · obtain ⟨a, p, rfl, h1, h2, h3, q⟩ := h
    refine ⟨_, (pss_one (ps_ret (pe_call G_power_at (hr.mono (by decide)) (by rfl) g_power_at k_power_at b_power_at .nil pass0 (pa_cons (pv 0) (pa_cons (pe_op op_sub (pv 1) pe_int) (pa_cons (pv 1) pa_nil)))))), ?_⟩
    refine ⟨_, rfl, _, rfl, _, _, rfl, rfl, _, rfl, a, p - 2, p, ?_, h1, by omega, h3, by omega, q⟩
    rw [show (((p - 2 : Nat)) : Int) = (p : Int) - 2 by omega]
    rfl
theorem ok_form_hessian (T : Txt K mg C_Form) : Def P w K mg base 1 "form_hessian" ["coefficients"] (sp_form_hessian K C_Form) := by
  obtain ⟨f_, fd_, g_, F_⟩ := T.d_form_hessian
  refine ⟨f_, fd_, g_, F_.kp, F_.binds (ps := ["coefficients"]) (fun _ _ _ _ _ _ us hl => match us, hl with | [_], _ => rfl), ?_⟩
  refine F_.ok sc_form_hessian (fun vs H Q E h => ?_) (fun cdv A outer s H vs Q E hr h => ?_)
  · first | (obtain ⟨rfl, _⟩ := h; rfl) | (obtain ⟨_, rfl, _⟩ := h; rfl) | (obtain ⟨_, _, rfl, _⟩ := h; rfl) | (obtain ⟨_, _, _, rfl, _⟩ := h; rfl) | (obtain ⟨_, _, _, _, rfl, _⟩ := h; rfl) | (obtain ⟨_, _, _, _, _, rfl, _⟩ := h; rfl) | (obtain ⟨_, _, _, _, _, _, rfl, _⟩ := h; rfl) | (obtain ⟨_, _, _, _, _, _, _, rfl, _⟩ := h; rfl) | (obtain ⟨_, _, _, _, _, _, _, _, rfl, _⟩ := h; rfl) | (obtain ⟨_, _, _, _, _, _, _, _, _, rfl, _⟩ := h; rfl) | (obtain ⟨_, _, _, _, _, _, _, _, _, _, rfl, _⟩ := h; rfl) | (obtain ⟨_, _, _, _, _, _, _, _, _, _, _, rfl, _⟩ := h; rfl) | (obtain ⟨_, _, _, _, _, _, _, _, _, _, _, _, rfl, _⟩ := h; rfl) | (obtain ⟨_, _, _, _, _, _, _, _, _, _, _, _, _, rfl, _⟩ := h; rfl) | (obtain ⟨_, _, _, _, _, _, _, _, _, _, _, _, _, _, rfl, _⟩ := h; rfl) | (obtain ⟨_, _, _, _, _, _, _, _, _, _, _, _, _, _, _, rfl, _⟩ := h; rfl) | (obtain ⟨_, _, _, _, _, _, _, _, _, _, _, _, _, _, _, _, rfl, _⟩ := h; rfl) | (obtain ⟨_, _, _, _, _, _, _, _, _, _, _, _, _, _, _, _, _, rfl, _⟩ := h; rfl) | (obtain ⟨_, _, _, _, _, _, _, _, _, _, _, _, _, _, _, _, _, _, rfl, _⟩ := h; rfl) | (obtain ⟨_, _, _, _, _, _, _, _, _, _, _, _, _, _, _, _, _, _, _, rfl, _⟩ := h; rfl) | (obtain ⟨_, _, _, _, _, _, _, _, _, _, _, _, _, _, _, _, _, _, _, _, rfl, _⟩ := h; rfl) | (obtain ⟨_, _, _, _, _, _, _, _, _, _, _, _, _, _, _, _, _, _, _, _, _, rfl, _⟩ := h; rfl) | (obtain ⟨_, _, _, _, _, _, _, _, _, _, _, _, _, _, _, _, _, _, _, _, _, _, rfl, _⟩ := h; rfl) | (obtain ⟨_, _, _, _, _, _, _, _, _, _, _, _, _, _, _, _, _, _, _, _, _, _, _, rfl, _⟩ := h; rfl)
  · obtain ⟨t, a, b, c, d, rfl, ht, ba, bb, bc, bd, q⟩ := h
    refine ⟨_, (pss_cons (ps_asg (pv 0) (pg_tup (by rfl) (pgs_cons (pg_name (i := 1) sc_form_hessian.nd rfl (.inl rfl)) (pgs_cons (pg_name (i := 2) sc_form_hessian.nd rfl (.inl rfl)) (pgs_cons (pg_name (i := 3) sc_form_hessian.nd rfl (.inl rfl)) (pgs_cons (pg_name (i := 4) sc_form_hessian.nd rfl (.inl rfl)) pgs_nil))))))
    (pss_one (ps_ret (pe_tup (pa_cons (pe_op op_sub (pe_op op_mulW (pv 2) (pv 2)) (pe_op op_mulW (pe_op op_mulW pe_int (pv 1)) (pv 3))) (pa_cons (pe_op op_sub (pe_op op_mulW (pv 2) (pv 3)) (pe_op op_mulW (pe_op op_mulW pe_int (pv 1)) (pv 4))) (pa_cons (pe_op op_sub (pe_op op_mulW (pv 3) (pv 3)) (pe_op op_mulW (pe_op op_mulW pe_int (pv 2)) (pv 4))) pa_nil))))))), ?_⟩
    refine ⟨_, rfl, unI4 ht ?_⟩
    exact ⟨_, rfl, _, rfl, _, _, rfl, rfl, mulB (by with_reducible assumption) (by with_reducible assumption) (by decide), _, rfl, _, _, rfl, rfl, mulB (B.lit (by decide)) (by with_reducible assumption) (by decide), _, rfl, _, _, rfl, rfl, mulB (B.mul (B.lit (by decide)) (by with_reducible assumption)) (by with_reducible assumption) (by decide), _, _, rfl, rfl, _, rfl, _, rfl, _, _, rfl, rfl, mulB (by with_reducible assumption) (by with_reducible assumption) (by decide), _, rfl, _, _, rfl, rfl, mulB (B.lit (by decide)) (by with_reducible assumption) (by decide), _, rfl, _, _, rfl, rfl, mulB (B.mul (B.lit (by decide)) (by with_reducible assumption)) (by with_reducible assumption) (by decide), _, _, rfl, rfl, _, rfl, _, rfl, _, _, rfl, rfl, mulB (by with_reducible assumption) (by with_reducible assumption) (by decide), _, rfl, _, _, rfl, rfl, mulB (B.lit (by decide)) (by with_reducible assumption) (by decide), _, rfl, _, _, rfl, rfl, mulB (B.mul (B.lit (by decide)) (by with_reducible assumption)) (by with_reducible assumption) (by decide), _, _, rfl, rfl, sl3, fun x nx => q x _ (Ex0.new nx) upd_same⟩
theorem ok_is_full (T : Txt K mg C_Form) : Def P w K mg base 2 "is_full" ["coefficients", "prime"] (sp_is_full K C_Form) := by
  obtain ⟨f_, fd_, g_, F_⟩ := T.d_is_full
  obtain ⟨f_shared_divisor, fd_shared_divisor, g_shared_divisor, k_shared_divisor, b_shared_divisor, G_shared_divisor⟩ := (ok_shared_divisor (P := P) (w := w) (base := base) T)
  refine ⟨f_, fd_, g_, F_.kp, F_.binds (ps := ["coefficients", "prime"]) (fun _ _ _ _ _ _ us hl => match us, hl with | [_, _], _ => rfl), ?_⟩
  refine F_.ok sc_is_full (fun vs H Q E h => ?_) (fun cdv A outer s H vs Q E hr h => ?_)
  · first | (obtain ⟨rfl, _⟩ := h; rfl) | (obtain ⟨_, rfl, _⟩ := h; rfl) | (obtain ⟨_, _, rfl, _⟩ := h; rfl) | (obtain ⟨_, _, _, rfl, _⟩ := h; rfl) | (obtain ⟨_, _, _, _, rfl, _⟩ := h; rfl) | (obtain ⟨_, _, _, _, _, rfl, _⟩ := h; rfl) | (obtain ⟨_, _, _, _, _, _, rfl, _⟩ := h; rfl) | (obtain ⟨_, _, _, _, _, _, _, rfl, _⟩ := h; rfl) | (obtain ⟨_, _, _, _, _, _, _, _, rfl, _⟩ := h; rfl) | (obtain ⟨_, _, _, _, _, _, _, _, _, rfl, _⟩ := h; rfl) | (obtain ⟨_, _, _, _, _, _, _, _, _, _, rfl, _⟩ := h; rfl) | (obtain ⟨_, _, _, _, _, _, _, _, _, _, _, rfl, _⟩ := h; rfl) | (obtain ⟨_, _, _, _, _, _, _, _, _, _, _, _, rfl, _⟩ := h; rfl) | (obtain ⟨_, _, _, _, _, _, _, _, _, _, _, _, _, rfl, _⟩ := h; rfl) | (obtain ⟨_, _, _, _, _, _, _, _, _, _, _, _, _, _, rfl, _⟩ := h; rfl) | (obtain ⟨_, _, _, _, _, _, _, _, _, _, _, _, _, _, _, rfl, _⟩ := h; rfl) | (obtain ⟨_, _, _, _, _, _, _, _, _, _, _, _, _, _, _, _, rfl, _⟩ := h; rfl) | (obtain ⟨_, _, _, _, _, _, _, _, _, _, _, _, _, _, _, _, _, rfl, _⟩ := h; rfl) | (obtain ⟨_, _, _, _, _, _, _, _, _, _, _, _, _, _, _, _, _, _, rfl, _⟩ := h; rfl) | (obtain ⟨_, _, _, _, _, _, _, _, _, _, _, _, _, _, _, _, _, _, _, rfl, _⟩ := h; rfl) | (obtain ⟨_, _, _, _, _, _, _, _, _, _, _, _, _, _, _, _, _, _, _, _, rfl, _⟩ := h; rfl) | (obtain ⟨_, _, _, _, _, _, _, _, _, _, _, _, _, _, _, _, _, _, _, _, _, rfl, _⟩ := h; rfl) | (obtain ⟨_, _, _, _, _, _, _, _, _, _, _, _, _, _, _, _, _, _, _, _, _, _, rfl, _⟩ := h; rfl) | (obtain ⟨_, _, _, _, _, _, _, _, _, _, _, _, _, _, _, _, _, _, _, _, _, _, _, rfl, _⟩ := h; rfl)
  · obtain ⟨t, ns, p, rfl, ht, p0, q⟩ := h
    refine ⟨_, (pss_one (ps_ret (pe_cmpR op_eq (pe_op op_mod (pe_call G_shared_divisor (hr.mono (by decide)) (by rfl) g_shared_divisor k_shared_divisor b_shared_divisor .nil pass0 (pa_cons (pv 0) pa_nil)) (pv 1)) pe_int (nomark _)))), ?_⟩
    refine ⟨_, rfl, t, ns, rfl, ht, _, rfl, _, _, rfl, rfl, p0, rfl, ?_⟩
    have e : decide (((gcdL ns : Nat) : Int) % p = 0) = decide (V.int (((gcdL ns : Nat) : Int) % p) = V.int 0) := decide_eq_decide.mpr ⟨fun z => congrArg V.int z, fun z => V.int.inj z⟩
    rw [e] at q
    exact q
theorem ok_is_heavy_at (T : Txt K mg C_Form) : Def P w K mg base 1 "is_heavy_at" ["coefficients", "prime", "place"] (sp_is_heavy_at K C_Form) := by
  obtain ⟨f_, fd_, g_, F_⟩ := T.d_is_heavy_at
  refine ⟨f_, fd_, g_, F_.kp, F_.binds (ps := ["coefficients", "prime", "place"]) (fun _ _ _ _ _ _ us hl => match us, hl with | [_, _, _], _ => rfl), ?_⟩
  refine F_.ok sc_is_heavy_at (fun vs H Q E h => ?_) (fun cdv A outer s H vs Q E hr h => ?_)
  · first | (obtain ⟨rfl, _⟩ := h; rfl) | (obtain ⟨_, rfl, _⟩ := h; rfl) | (obtain ⟨_, _, rfl, _⟩ := h; rfl) | (obtain ⟨_, _, _, rfl, _⟩ := h; rfl) | (obtain ⟨_, _, _, _, rfl, _⟩ := h; rfl) | (obtain ⟨_, _, _, _, _, rfl, _⟩ := h; rfl) | (obtain ⟨_, _, _, _, _, _, rfl, _⟩ := h; rfl) | (obtain ⟨_, _, _, _, _, _, _, rfl, _⟩ := h; rfl) | (obtain ⟨_, _, _, _, _, _, _, _, rfl, _⟩ := h; rfl) | (obtain ⟨_, _, _, _, _, _, _, _, _, rfl, _⟩ := h; rfl) | (obtain ⟨_, _, _, _, _, _, _, _, _, _, rfl, _⟩ := h; rfl) | (obtain ⟨_, _, _, _, _, _, _, _, _, _, _, rfl, _⟩ := h; rfl) | (obtain ⟨_, _, _, _, _, _, _, _, _, _, _, _, rfl, _⟩ := h; rfl) | (obtain ⟨_, _, _, _, _, _, _, _, _, _, _, _, _, rfl, _⟩ := h; rfl) | (obtain ⟨_, _, _, _, _, _, _, _, _, _, _, _, _, _, rfl, _⟩ := h; rfl) | (obtain ⟨_, _, _, _, _, _, _, _, _, _, _, _, _, _, _, rfl, _⟩ := h; rfl) | (obtain ⟨_, _, _, _, _, _, _, _, _, _, _, _, _, _, _, _, rfl, _⟩ := h; rfl) | (obtain ⟨_, _, _, _, _, _, _, _, _, _, _, _, _, _, _, _, _, rfl, _⟩ := h; rfl) | (obtain ⟨_, _, _, _, _, _, _, _, _, _, _, _, _, _, _, _, _, _, rfl, _⟩ := h; rfl) | (obtain ⟨_, _, _, _, _, _, _, _, _, _, _, _, _, _, _, _, _, _, _, rfl, _⟩ := h; rfl) | (obtain ⟨_, _, _, _, _, _, _, _, _, _, _, _, _, _, _, _, _, _, _, _, rfl, _⟩ := h; rfl) | (obtain ⟨_, _, _, _, _, _, _, _, _, _, _, _, _, _, _, _, _, _, _, _, _, rfl, _⟩ := h; rfl) | (obtain ⟨_, _, _, _, _, _, _, _, _, _, _, _, _, _, _, _, _, _, _, _, _, _, rfl, _⟩ := h; rfl) | (obtain ⟨_, _, _, _, _, _, _, _, _, _, _, _, _, _, _, _, _, _, _, _, _, _, _, rfl, _⟩ := h; rfl)
  · obtain ⟨t, u, a, b, c, d, p, x, y, rfl, ht, hu, ba, bb, bc, bd, hp, p0, p1, q⟩ := h
    obtain ⟨A_END, h_END, i_END⟩ := T.k_END
    refine ⟨_, (pss_cons (ps_asg (pv 0) (pg_tup (by rfl) (pgs_cons (pg_name (i := 3) sc_is_heavy_at.nd rfl (.inl rfl)) (pgs_cons (pg_name (i := 4) sc_is_heavy_at.nd rfl (.inl rfl)) (pgs_cons (pg_name (i := 5) sc_is_heavy_at.nd rfl (.inl rfl)) (pgs_cons (pg_name (i := 6) sc_is_heavy_at.nd rfl (.inl rfl)) pgs_nil))))))
    (pss_cons (ps_asg (pv 2) (pg_tup (by rfl) (pgs_cons (pg_name (i := 7) sc_is_heavy_at.nd rfl (.inl rfl)) (pgs_cons (pg_name (i := 8) sc_is_heavy_at.nd rfl (.inl rfl)) pgs_nil))))
    (pss_cons (ps_if (pt_cmpR (op_eqD hr.units) (pv 2) (pe_glob (v := .ref A_END) (by rfl) h_END rfl) (nomark _))
      (pss_one (ps_ret (pe_and (pe_cmpR op_eq (pe_op op_mod (pv 3) (pe_op op_mulW (pv 1) (pv 1))) pe_int (nomark _)) (pe_one (pe_cmpR op_eq (pe_op op_mod (pv 4) (pv 1)) pe_int (nomark _))))))
      pss_nil)
    (pss_cons (ps_if (pt_cmpR op_ne (pe_op op_mod (pe_op op_add (pe_op op_mulW (pe_op op_add (pe_op op_mulW (pe_op op_add (pe_op op_mulW (pv 3) (pv 7)) (pv 4)) (pv 7)) (pv 5)) (pv 7)) (pv 6)) (pe_op op_mulW (pv 1) (pv 1))) pe_int (nomark _))
      (pss_one (ps_ret pe_bl))
      pss_nil)
    (pss_one (ps_ret (pe_cmpR op_eq (pe_op op_mod (pe_op op_add (pe_op op_mulW (pe_op op_add (pe_op op_mulW (pe_op op_mulW pe_int (pv 3)) (pv 7)) (pe_op op_mulW pe_int (pv 4))) (pv 7)) (pv 5)) (pv 1)) pe_int (nomark _)))))))), ?_⟩
    refine ⟨_, rfl, unI4 ht ?_⟩
    refine ⟨_, rfl, u, _, rfl, hu, rfl, _, _, rfl, _, _, rfl, rfl, ?_⟩
    refine ⟨_, rfl, .tuple (([x, y] : List Int).map .int), .tuple (([1, 0] : List Int).map .int), .tup hu (dp_ints [x, y]), .tup (i_END H) (dp_ints [1, 0]), shaped_tints _, shaped_tints _, _, rfl, ?_⟩
    rw [PyData.eqv, eqv_ints]
    have bp : B 14 p := ⟨by omega, by decide⟩
    have andD : ∀ {i j : Int}, Q (.bl (decide (i = 0) && decide (j = 0))) H → (i = 0 → Q (.bl (decide (V.int j = V.int 0))) H) ∧ (i ≠ 0 → Q (.bl false) H) := fun h => ⟨fun z => by
      rw [decide_eq_true z, Bool.true_and] at h
      rw [deI]
      exact h, fun z => by
      rw [decide_eq_false z, Bool.false_and] at h
      exact h⟩
    rcases hp with ⟨rfl, h0, h1⟩ | ⟨rfl, rfl⟩
    · rw [decide_eq_false (fun z => by injection z with _ z; injection z with z; cases z)]
      refine iteF ?_
      have bx : B 14 x := ⟨by omega, by decide⟩
      have b3 : B 2 3 := ⟨by decide, by decide⟩
      have b2 : B 2 2 := ⟨by decide, by decide⟩
      have s0 := B.mul ba bx
      have s1 := B.mul (B.add s0 bb) bx
      have s2 := B.mul (B.add s1 bc) bx
      have ev : fv a b c d x 1 = ((a * x + b) * x + c) * x + d := by unfold fv; grind
      unfold heavyB at q
      rw [if_pos rfl, ev] at q
      obtain ⟨q1, q2⟩ := andD q
      refine ⟨_, rfl, _, rfl, _, _, rfl, rfl, mulB ba bx (by decide), _, rfl, _, _, rfl, rfl, _, rfl, _, _, rfl, rfl, mulB (B.add s0 bb) bx (by decide), _, rfl, _, _, rfl, rfl, _, rfl, _, _, rfl, rfl, mulB (B.add s1 bc) bx (by decide), _, rfl, _, _, rfl, rfl, ?_⟩
      refine ⟨_, rfl, _, rfl, _, _, rfl, rfl, mulB bp bp (by decide), _, _, rfl, rfl, Int.mul_pos p0 p0, rfl, _, rfl, iteEn (fun h => q2 h) (fun h => ?_)⟩
      refine ⟨_, rfl, _, _, rfl, rfl, mulB b3 ba (by decide), _, rfl, _, _, rfl, rfl, mulB (B.mul b3 ba) bx (by decide), _, rfl, _, _, rfl, rfl, mulB b2 bb (by decide), _, _, rfl, rfl, _, rfl, _, _, rfl, rfl, mulB (B.add (B.mul (B.mul b3 ba) bx) (B.mul b2 bb)) bx (by decide), _, rfl, _, _, rfl, rfl, _, rfl, _, _, rfl, rfl, p0, rfl, ?_⟩
      exact q1 h
    · rw [decide_eq_true rfl]
      refine iteT ?_
      unfold heavyB at q
      rw [if_neg (by decide)] at q
      obtain ⟨q1, q2⟩ := andD q
      refine ⟨_, rfl, _, rfl, _, rfl, _, _, rfl, rfl, mulB bp bp (by decide), _, _, rfl, rfl, Int.mul_pos p0 p0, rfl, _, rfl, iteE (fun h => ?_) (fun h => q2 h)⟩
      exact ⟨_, rfl, _, rfl, _, _, rfl, rfl, p0, rfl, q1 h⟩
end
end K39
namespace Hd
open PySem PySem.Spec PyProof.Rows L2 Fr
open He (ga ma eqO eqO_ok ba)
def pa (K : PySem.W.Frag) (C : Addr) (m : Str) : Addr := match PySem.W.recIn K (ma K C m) "property" with
  | some (.ref g :: _) => g
  | _ => 0
def itA (K : PySem.W.Frag) (a : Addr) (i : Nat) : Addr := match K.lookup a with
  | some ⟨_, _, .seq its _, _⟩ => (match its[i]? with
    | some (.ref b) => b
    | _ => 0)
  | _ => 0
structure Dd where
  at_ : PySem.W.Frag → Addr
  name : Str
  qual : Str
  st : Stmt
  dfl : List V := []
def fnA (K : PySem.W.Frag) (a : Addr) : He.FnW := match K.lookup a with
  | some ⟨_, _, .func fd, _⟩ => some (fd.name, fd.qualname, fd.params, fd.body, fd.scope, fd.globals, fd.closure, fd.builtins)
  | _ => none
def Dd.val (d : Dd) : He.FnW := some (d.name, d.qual, defArgs d.st, .stmts (defBody d.st), defScope d.st, mainGlobals, [], builtinsNs)
def Dd.ok (K : PySem.W.Frag) (d : Dd) : Bool := PySem.W.keepIn K (.ref (d.at_ K)) && (match K.lookup (d.at_ K) with
  | some ⟨_, _, .func fd, _⟩ => PySem.W.codeIn K fd.code d.qual && He.dflB K fd.defaults d.dfl
  | _ => false)
theorem Dd.funD {K : PySem.W.Frag} {d : Dd} (e : fnA K (d.at_ K) = d.val) (c : d.ok K = true) : ∃ fd, FunD K d.name d.qual (defArgs d.st) (defBody d.st) (defScope d.st) d.dfl [] (d.at_ K) fd := by
  obtain ⟨kp, c2⟩ := ba c
  unfold fnA at e
  cases hk : K.lookup (d.at_ K) with
  | none => rw [hk] at c2; cases c2
  | some o =>
    obtain ⟨oc, od, dt, osl⟩ := o
    rw [hk] at c2 e
    cases dt with
    | func fd =>
      obtain ⟨n1, n2, n3, n4, n5, n6, n7, n8, n9, n10, n11, n12, n13, n14, n15⟩ := fd
      have e0 : (some (n1, n2, n3, n4, n5, n6, n7, n15) : He.FnW) = some (d.name, d.qual, defArgs d.st, .stmts (defBody d.st), defScope d.st, mainGlobals, [], builtinsNs) := e
      simp only [Option.some.injEq, Prod.mk.injEq] at e0
      obtain ⟨h1, h2, h3, h4, h5, h6, h7, h8⟩ := e0
      subst h1 h2 h3 h4 h5 h6 h7 h8
      obtain ⟨k1, k2⟩ := ba (show (PySem.W.codeIn K n13 d.qual && He.dflB K n8 d.dfl) = true from c2)
      exact ⟨_, ⟨oc, od, n8, n9, n10, n11, n12, n13, n14, osl, rfl, hk, k1, He.dflB_ok k2, .inl rfl⟩, kp⟩
    | _ => cases c2
theorem fun_of {K : PySem.W.Frag} {x q : Str} {st : Stmt} {f : Addr} {fd : FuncData} (F : FunD K x q (defArgs st) (defBody st) (defScope st) [] [] f fd) : Fun K x q st f fd := by
  obtain ⟨⟨oc, od, dV, kV, doc, pm, an, cdv, ct, osl, e1, e2, e3, e4, e5⟩, kp⟩ := F
  rcases e4 with ⟨_, rfl⟩ | ⟨h, _⟩
  · exact ⟨⟨oc, od, kV, doc, pm, an, cdv, ct, osl, e1, e2, e3⟩, kp⟩
  · exact absurd rfl h
def refsP (o : Obj) : List Addr := match o.data with
  | .seq its _ => its.toList.flatMap He.refV
  | .dict es _ => es.toList.flatMap fun e => He.refV e.val
  | .func fd => He.refV fd.code ++ He.refV fd.defaults
  | .cls cd => [cd.ns]
  | .fields vs => (match o.cls with
    | .type c => (match c == "property" with
      | true => vs.toList.flatMap He.refV
      | false => [])
    | _ => [])
  | _ => []
def nxt (g : Addr → Option Obj) (as : List Addr) : List Addr := as.flatMap fun a => match g a with
  | some o => refsP o
  | none => []
def asM (g : Addr → Option Obj) : Nat → List Addr → List Addr
  | 0, as => as
  | n + 1, as => as ++ asM g n (nxt g as)
abbrev Fb : Type := PySem.W.Frag → Bool
abbrev AlM : Type := Bool × List He.FnW
def obsM (fa : List Fb) (fn : List Dd) (K : PySem.W.Frag) : AlM := ((fa.all fun f => f K) && fn.all fun d => d.ok K, fn.map fun d => fnA K (d.at_ K))
def valM (fn : List Dd) : AlM := (true, fn.map Dd.val)
def SaysM (fa : List Fb) (fn : List Dd) (K : PySem.W.Frag) : Prop := obsM fa fn K = valM fn
def obsMG (n : Nat) (fa : List Fb) (fn : List Dd) (g : Addr → Option Obj) : AlM := obsM fa fn (He.frG g (asM g n [mainGlobals]))
def hookM (n : Nat) (fa : List Fb) (fn : List Dd) : PySem.W.Hook where
  α := AlM
  obs := fun s => obsMG n fa fn s.heap.get?
  val := fun _ => valM fn
  says := fun _ h => ∃ K : PySem.W.Frag, K.In h ∧ SaysM fa fn K
  of := fun _ _ e => ⟨_, He.frG_in, e⟩
  keeps := fun _ _ _ ⟨K, hK, c⟩ k => ⟨K, PySem.W.Frag.In.keeps hK k, c⟩
theorem obsMG_eq {n : Nat} {fa : List Fb} {fn : List Dd} {g : Addr → Option Obj} {s : Shared} (h : ∀ a, g a = s.heap.get? a) : obsMG n fa fn g = (hookM n fa fn).obs s := by
  have e : g = s.heap.get? := funext h
  rw [e] <;> rfl
section
variable {fa : List Fb} {fn : List Dd} {K : PySem.W.Frag}
theorem SaysM.fact (c : SaysM fa fn K) (i : Nat) {f : Fb} (h : fa[i]? = some f := by rfl) : f K = true := by
  have c1 : ((fa.all fun f => f K) && fn.all fun d => d.ok K) = true := congrArg (fun z : AlM => z.1) c
  exact List.all_eq_true.mp (ba c1).1 f (List.mem_of_getElem? h)
theorem SaysM.def_ (c : SaysM fa fn K) (i : Nat) {d : Dd} (h : fn[i]? = some d := by rfl) : ∃ fd, FunD K d.name d.qual (defArgs d.st) (defBody d.st) (defScope d.st) d.dfl [] (d.at_ K) fd := by
  have c1 : ((fa.all fun f => f K) && fn.all fun d => d.ok K) = true := congrArg (fun z : AlM => z.1) c
  have c2 : fn.map (fun d => fnA K (d.at_ K)) = fn.map Dd.val := congrArg (fun z : AlM => z.2) c
  have c3 : (fn.map fun d => fnA K (d.at_ K))[i]? = (fn.map Dd.val)[i]? := by rw [c2]
  rw [List.getElem?_map, List.getElem?_map, h] at c3
  exact Dd.funD (Option.some.inj c3) (List.all_eq_true.mp (ba c1).2 d (List.mem_of_getElem? h))
end
def decO (a b : Option Bool) : Bool := decide (a = b)
theorem decO_ok {a b : Option Bool} (h : decO a b = true) : a = b := of_decide_eq_true h
def bltB (x : Str) (id : String) : Fb := fun K => eqO (PySem.W.nsIn K mainGlobals x) (some (some (.builtin id)))
theorem blt_ok {K : PySem.W.Frag} {h : Heap} {mg : Str → Option Value} (X : K.In h) (G : h.Ns mainGlobals mg) {x : Str} {id : String} (c : bltB x id K = true) : mg x = some (.builtin id) := PySem.W.mg_of X G (eqO_ok c)
def tyB (C : Str) : Fb := fun K => eqO (PySem.W.findIn K (.ref (ga K C)) "__class__") (some (some (.builtin "object.__class__"))) && (eqO (PySem.W.specialIn K (.builtin "object.__class__") "__get__") (some (some (.builtin "getset_descriptor.__get__"))) && (decO (PySem.W.takesIn K (.builtin "object.__class__")) (some true) && decO (PySem.W.mroIn K (ga K C) (.type "object")) (some true)))
theorem ty_ok {K : PySem.W.Frag} {C : Str} (c : tyB C K = true) : TyI K (ga K C) := by
  obtain ⟨c1, c⟩ := ba c
  obtain ⟨c2, c⟩ := ba c
  obtain ⟨c3, c4⟩ := ba c
  exact ⟨eqO_ok c1, eqO_ok c2, decO_ok c3, decO_ok c4⟩
def propB (C m : Str) : Fb := fun K => eqO (PySem.W.findIn K (.ref (ga K C)) m) (some (some (.ref (ma K (ga K C) m)))) && (eqO (PySem.W.specialIn K (.ref (ma K (ga K C) m)) "__get__") (some (some (.builtin "property.__get__"))) && (decO (PySem.W.takesIn K (.ref (ma K (ga K C) m))) (some true) && (match PySem.W.recIn K (ma K (ga K C) m) "property" with
  | some (.ref _ :: _) => true
  | _ => false)))
theorem prop_ok {K : PySem.W.Frag} {C m : Str} (c : propB C m K = true) : PropOf K (ga K C) m (ma K (ga K C) m) (pa K (ga K C) m) := by
  obtain ⟨c1, c⟩ := ba c
  obtain ⟨c2, c⟩ := ba c
  obtain ⟨c3, c4⟩ := ba c
  refine ⟨eqO_ok c1, eqO_ok c2, decO_ok c3, ?_⟩
  unfold pa
  cases hr : PySem.W.recIn K (ma K (ga K C) m) "property" with
  | none => rw [hr] at c4; cases c4
  | some l =>
    rw [hr] at c4
    cases l with
    | nil => cases c4
    | cons v rest =>
      cases v with
      | ref g => exact ⟨rest, rfl⟩
      | _ => cases c4
def eqB (C : Str) : Fb := fun K => eqO (PySem.W.findIn K (.ref (ga K C)) "__eq__") (some (some (.ref (ma K (ga K C) "__eq__")))) && (PySem.W.isFn K (.ref (ma K (ga K C) "__eq__")) && (eqO (PySem.W.findIn K (.ref (ga K C)) "__ne__") (some (some (.builtin "object.__ne__"))) && decO (PySem.W.mroIn K (ga K C) (.type "object")) (some true)))
theorem eq_ok {K : PySem.W.Frag} {C : Str} (c : eqB C K = true) : EqC K (ga K C) (ma K (ga K C) "__eq__") := by
  obtain ⟨c1, c⟩ := ba c
  obtain ⟨c2, c⟩ := ba c
  obtain ⟨c3, c4⟩ := ba c
  exact ⟨eqO_ok c1, c2, eqO_ok c3, decO_ok c4⟩
def callB (C : Str) : Fb := fun K => eqO (PySem.W.findIn K (.ref (ga K C)) "__call__") (some (some (.ref (ma K (ga K C) "__call__")))) && (PySem.W.isFn K (.ref (ma K (ga K C) "__call__")) && PySem.W.fnIn K (ma K (ga K C) "__call__"))
theorem call_ok {K : PySem.W.Frag} {C : Str} (c : callB C K = true) : StX.CallO K (ga K C) (ma K (ga K C) "__call__") := by
  obtain ⟨c1, c⟩ := ba c
  obtain ⟨c2, c3⟩ := ba c
  exact ⟨eqO_ok c1, c2, c3⟩
def binB (C m : Str) : Fb := fun K => eqO (PySem.W.findIn K (.ref (ga K C)) m) (some (some (.ref (ma K (ga K C) m)))) && (PySem.W.isFn K (.ref (ma K (ga K C) m)) && PySem.W.selfFirst K (ga K C))
theorem bin_ok {K : PySem.W.Frag} {C m : Str} (c : binB C m K = true) : PySem.W.findIn K (.ref (ga K C)) m = some (some (.ref (ma K (ga K C) m))) ∧ PySem.W.isFn K (.ref (ma K (ga K C) m)) = true ∧ PySem.W.selfFirst K (ga K C) = true := by
  obtain ⟨c1, c⟩ := ba c
  obtain ⟨c2, c3⟩ := ba c
  exact ⟨eqO_ok c1, c2, c3⟩
def intsB (a : PySem.W.Frag → Addr) (ns : List Int) : Fb := fun K => match K.lookup (a K) with
  | some ⟨.type c, _, .seq its _, _⟩ => decide (c = "tuple") && (decide (its.size ≤ sizeLine) && He.relAll (ns.map V.int) its.toList)
  | _ => false
theorem ints_ok {K : PySem.W.Frag} {a : PySem.W.Frag → Addr} {ns : List Int} (c : intsB a ns K = true) (H : Hp) : SqT K H (a K) (ns.map V.int) := by
  unfold intsB at c
  cases hk : K.lookup (a K) with
  | none => rw [hk] at c; cases c
  | some o =>
    obtain ⟨oc, od, dt, sl⟩ := o
    rw [hk] at c
    cases oc with
    | type t =>
      cases dt with
      | seq its m =>
        obtain ⟨c1, c⟩ := ba c
        obtain ⟨c2, c3⟩ := ba c
        exact .inr ⟨_, its, m, hk, congrArg Value.type (of_decide_eq_true c1), rfl, of_decide_eq_true c2, He.relAll_ok c3⟩
      | _ => cases c
    | _ => cases dt <;> cases c
def refsB (a : PySem.W.Frag → Addr) (n : Nat) : Fb := fun K => match K.lookup (a K) with
  | some ⟨.type c, _, .seq its _, _⟩ => decide (c = "tuple") && (decide (its.size ≤ sizeLine) && He.relAll ((List.range n).map fun i => V.ref (itA K (a K) i)) its.toList)
  | _ => false
theorem refs_ok {K : PySem.W.Frag} {a : PySem.W.Frag → Addr} {n : Nat} (c : refsB a n K = true) (H : Hp) : SqT K H (a K) ((List.range n).map fun i => V.ref (itA K (a K) i)) := by
  unfold refsB at c
  generalize hl : (List.range n).map (fun i => V.ref (itA K (a K) i)) = l at c ⊢
  cases hk : K.lookup (a K) with
  | none => rw [hk] at c; cases c
  | some o =>
    obtain ⟨oc, od, dt, sl⟩ := o
    rw [hk] at c
    cases oc with
    | type t =>
      cases dt with
      | seq its m =>
        obtain ⟨c1, c⟩ := ba c
        obtain ⟨c2, c3⟩ := ba c
        exact .inr ⟨_, its, m, hk, congrArg Value.type (of_decide_eq_true c1), rfl, of_decide_eq_true c2, He.relAll_ok c3⟩
      | _ => cases c
    | _ => cases dt <;> cases c
def foreB (C : Str) (t : String) : Fb := fun K => decO (PySem.W.kitOne K (.type t) (.ref (ga K C))) (some false) && PySem.W.notFirst K (ga K C) (.type t)
theorem fore_ok {K : PySem.W.Frag} {C : Str} {t : String} (c : foreB C t K = true) : PySem.W.kitOne K (.type t) (.ref (ga K C)) = some false ∧ PySem.W.notFirst K (ga K C) (.type t) = true := by
  obtain ⟨c1, c2⟩ := ba c
  exact ⟨decO_ok c1, c2⟩
def foreCB (C D : Str) : Fb := fun K => decO (PySem.W.kitOne K (.ref (ga K D)) (.ref (ga K C))) (some false) && PySem.W.notFirst K (ga K C) (.ref (ga K D))
theorem foreC_ok {K : PySem.W.Frag} {C D : Str} (c : foreCB C D K = true) : PySem.W.kitOne K (.ref (ga K D)) (.ref (ga K C)) = some false ∧ PySem.W.notFirst K (ga K C) (.ref (ga K D)) = true := by
  obtain ⟨c1, c2⟩ := ba c
  exact ⟨decO_ok c1, c2⟩
def fmtB (C : Str) : Fb := fun K => eqO (PySem.W.findIn K (.ref (ga K C)) "__format__") (some (some (.builtin "object.__format__"))) && decO (PySem.W.mroIn K (ga K C) (.type "object")) (some true)
theorem fmt_ok {K : PySem.W.Frag} {C : Str} (c : fmtB C K = true) : PySem.W.findIn K (.ref (ga K C)) "__format__" = some (some (.builtin "object.__format__")) ∧ PySem.W.mroIn K (ga K C) (.type "object") = some true := by
  obtain ⟨c1, c2⟩ := ba c
  exact ⟨eqO_ok c1, decO_ok c2⟩
def xcB (x : Str) (bm : List Value) (newId : String) : Fb := fun K => He.Fa.ok K (.glo x) && (PySem.W.excIn K (ga K x) bm newId && (PySem.W.keepIn K (.ref (ga K x)) && (decO (PySem.W.subIn K (.ref (ga K x)) (.type "BaseException")) (some true) && (decide (PySem.W.typeIn K (.ref (ga K x)) = some (.type "type")) && decO (PySem.W.exmOne K (.ref (ga K x)) (.ref (ga K x))) (some true)))))
theorem xc_ok {K : PySem.W.Frag} {h : Heap} {mg : Str → Option Value} (X : K.In h) (G : h.Ns mainGlobals mg) {x : Str} {bm : List Value} {newId : String} (c : xcB x bm newId K = true) : Xc K mg x bm newId := by
  obtain ⟨c1, c⟩ := ba c
  obtain ⟨c2, c⟩ := ba c
  obtain ⟨c3, c⟩ := ba c
  obtain ⟨c4, c⟩ := ba c
  obtain ⟨c5, c6⟩ := ba c
  exact ⟨He.glo_ok X G c1, c2, c3, decO_ok c4, of_decide_eq_true c5, decO_ok c6⟩
end Hd
namespace K39
open PySem PySem.Spec PyProof.Rows L2 Fr
def e0 : Hd.Dd := ⟨fun K => He.ga K "is_any_integer", "is_any_integer", "is_any_integer", s_is_any_integer, []⟩
def e1 : Hd.Dd := ⟨fun K => He.ga K "is_short_integer", "is_short_integer", "is_short_integer", s_is_short_integer, []⟩
def e2 : Hd.Dd := ⟨fun K => He.ga K "is_between", "is_between", "is_between", s_is_between, []⟩
def e3 : Hd.Dd := ⟨fun K => He.ga K "are_any_integers", "are_any_integers", "are_any_integers", s_are_any_integers, []⟩
def e4 : Hd.Dd := ⟨fun K => He.ga K "are_short_integers", "are_short_integers", "are_short_integers", s_are_short_integers, []⟩
def e5 : Hd.Dd := ⟨fun K => He.ga K "check_between", "check_between", "check_between", s_check_between, []⟩
def e6 : Hd.Dd := ⟨fun K => He.ga K "power_at", "power_at", "power_at", s_power_at, []⟩
def e7 : Hd.Dd := ⟨fun K => He.ga K "inverse_at", "inverse_at", "inverse_at", s_inverse_at, []⟩
def e8 : Hd.Dd := ⟨fun K => He.ga K "shared_divisor", "shared_divisor", "shared_divisor", s_shared_divisor, []⟩
def e9 : Hd.Dd := ⟨fun K => He.ga K "is_prime", "is_prime", "is_prime", s_is_prime, []⟩
def e10 : Hd.Dd := ⟨fun K => He.ga K "check_prime", "check_prime", "check_prime", s_check_prime, []⟩
def e11 : Hd.Dd := ⟨fun K => He.ga K "determinant_of", "determinant_of", "determinant_of", s_determinant_of, []⟩
def e12 : Hd.Dd := ⟨fun K => He.ga K "is_change", "is_change", "is_change", s_is_change, []⟩
def e13 : Hd.Dd := ⟨fun K => He.ga K "is_short_change", "is_short_change", "is_short_change", s_is_short_change, []⟩
def e14 : Hd.Dd := ⟨fun K => He.ga K "check_change", "check_change", "check_change", s_check_change, []⟩
def e15 : Hd.Dd := ⟨fun K => He.ga K "form_value", "form_value", "form_value", s_form_value, []⟩
def e16 : Hd.Dd := ⟨fun K => He.ga K "form_discriminant", "form_discriminant", "form_discriminant", s_form_discriminant, []⟩
def e17 : Hd.Dd := ⟨fun K => He.ga K "form_hessian", "form_hessian", "form_hessian", s_form_hessian, []⟩
def e18 : Hd.Dd := ⟨fun K => He.ga K "form_led", "form_led", "form_led", s_form_led, []⟩
def e19 : Hd.Dd := ⟨fun K => He.ga K "check_form", "check_form", "check_form", s_check_form, []⟩
def e20 : Hd.Dd := ⟨fun K => He.ga K "form_of", "form_of", "form_of", s_form_of, []⟩
def e21 : Hd.Dd := ⟨fun K => He.ma K (He.ga K "Form") "__init__", "__init__", "Form.__init__", s_Form___init__, []⟩
def e22 : Hd.Dd := ⟨fun K => Hd.pa K (He.ga K "Form") "coefficients", "coefficients", "Form.coefficients", s_Form_coefficients, []⟩
def e23 : Hd.Dd := ⟨fun K => Hd.pa K (He.ga K "Form") "discriminant", "discriminant", "Form.discriminant", s_Form_discriminant, []⟩
def e24 : Hd.Dd := ⟨fun K => Hd.pa K (He.ga K "Form") "content", "content", "Form.content", s_Form_content, []⟩
def e25 : Hd.Dd := ⟨fun K => He.ma K (He.ga K "Form") "led", "led", "Form.led", s_Form_led, []⟩
def e26 : Hd.Dd := ⟨fun K => He.ga K "is_heavy_at", "is_heavy_at", "is_heavy_at", s_is_heavy_at, []⟩
def e27 : Hd.Dd := ⟨fun K => He.ga K "places_of_roots", "places_of_roots", "places_of_roots", s_places_of_roots, []⟩
def e28 : Hd.Dd := ⟨fun K => He.ga K "multiple_place", "multiple_place", "multiple_place", s_multiple_place, []⟩
def e29 : Hd.Dd := ⟨fun K => He.ga K "places_of_heavy_roots", "places_of_heavy_roots", "places_of_heavy_roots", s_places_of_heavy_roots, []⟩
def e30 : Hd.Dd := ⟨fun K => He.ga K "is_full", "is_full", "is_full", s_is_full, []⟩
def e31 : Hd.Dd := ⟨fun K => He.ga K "roots_at", "roots_at", "roots_at", s_roots_at, []⟩
def e32 : Hd.Dd := ⟨fun K => He.ga K "heavy_places", "heavy_places", "heavy_places", s_heavy_places, []⟩
def e33 : Hd.Dd := ⟨fun K => He.ga K "_law_kettle", "_law_kettle", "_law_kettle", s_l_kettle, []⟩
def e34 : Hd.Dd := ⟨fun K => He.ga K "_law_sip", "_law_sip", "_law_sip", s_l_sip, []⟩
def e35 : Hd.Dd := ⟨fun K => He.ga K "_law_taken", "_law_taken", "_law_taken", s_l_taken, []⟩
def e36 : Hd.Dd := ⟨fun K => He.ga K "_law_value", "_law_value", "_law_value", s_l_value, []⟩
def e37 : Hd.Dd := ⟨fun K => He.ga K "_law_moved", "_law_moved", "_law_moved", s_l_moved, []⟩
def e38 : Hd.Dd := ⟨fun K => He.ga K "_law_discriminant", "_law_discriminant", "_law_discriminant", s_l_discriminant, []⟩
def e39 : Hd.Dd := ⟨fun K => He.ga K "_law_content", "_law_content", "_law_content", s_l_content, []⟩
def e40 : Hd.Dd := ⟨fun K => He.ga K "_law_row", "_law_row", "_law_row", s_l_row, []⟩
def e41 : Hd.Dd := ⟨fun K => He.ga K "_law_change", "_law_change", "_law_change", s_l_change, []⟩
def e42 : Hd.Dd := ⟨fun K => He.ga K "_law_led", "_law_led", "_law_led", s_l_led, []⟩
def e43 : Hd.Dd := ⟨fun K => He.ga K "_law_places", "_law_places", "_law_places", s_l_places, []⟩
def e44 : Hd.Dd := ⟨fun K => He.ga K "_law_is_heavy", "_law_is_heavy", "_law_is_heavy", s_l_is_heavy, []⟩
def e45 : Hd.Dd := ⟨fun K => He.ga K "_law_prime", "_law_prime", "_law_prime", s_l_prime, []⟩
def e46 : Hd.Dd := ⟨fun K => He.ga K "_law_any_row", "_law_any_row", "_law_any_row", s_l_any_row, []⟩
def e47 : Hd.Dd := ⟨fun K => He.ga K "_law_moved_place", "_law_moved_place", "_law_moved_place", s_l_moved_place, []⟩
def e48 : Hd.Dd := ⟨fun K => He.ga K "_law_right", "_law_right", "_law_right", s_l_right, []⟩
def e49 : Hd.Dd := ⟨fun K => He.ga K "law", "law", "law", s_law, []⟩
def dd0 : List Hd.Dd := [e0, e1, e2, e3, e4, e5, e6, e7, e8, e9, e10, e11, e12, e13, e14, e15, e16, e17, e18, e19]
def dd1 : List Hd.Dd := [e20, e21, e22, e23, e24, e25, e26, e27, e28, e29, e30, e31, e32, e33, e34, e35, e36, e37, e38, e39]
def dd2 : List Hd.Dd := [e40, e41, e42, e43, e44, e45, e46, e47, e48, e49]
def dd : List Hd.Dd := dd0 ++ (dd1 ++ (dd2))
def g0 : Hd.Fb := fun K => (fun K => (He.Fa.glo "Form").ok K) K
def g1 : Hd.Fb := fun K => (fun K => (He.Fa.cls "Form").ok K) K
def g2 : Hd.Fb := fun K => Hd.tyB "Form" K
def g3 : Hd.Fb := fun K => (fun K => (He.Fa.noat "Form" "_coefficients").ok K) K
def g4 : Hd.Fb := fun K => (fun K => (He.Fa.glo "is_any_integer").ok K) K
def g5 : Hd.Fb := fun K => (fun K => (He.Fa.glo "is_short_integer").ok K) K
def g6 : Hd.Fb := fun K => (fun K => (He.Fa.glo "is_between").ok K) K
def g7 : Hd.Fb := fun K => (fun K => (He.Fa.glo "are_any_integers").ok K) K
def g8 : Hd.Fb := fun K => (fun K => (He.Fa.glo "are_short_integers").ok K) K
def g9 : Hd.Fb := fun K => (fun K => (He.Fa.glo "check_between").ok K) K
def g10 : Hd.Fb := fun K => (fun K => (He.Fa.glo "power_at").ok K) K
def g11 : Hd.Fb := fun K => (fun K => (He.Fa.glo "inverse_at").ok K) K
def g12 : Hd.Fb := fun K => (fun K => (He.Fa.glo "shared_divisor").ok K) K
def g13 : Hd.Fb := fun K => (fun K => (He.Fa.glo "is_prime").ok K) K
def g14 : Hd.Fb := fun K => (fun K => (He.Fa.glo "check_prime").ok K) K
def g15 : Hd.Fb := fun K => (fun K => (He.Fa.glo "determinant_of").ok K) K
def g16 : Hd.Fb := fun K => (fun K => (He.Fa.glo "is_change").ok K) K
def g17 : Hd.Fb := fun K => (fun K => (He.Fa.glo "is_short_change").ok K) K
def g18 : Hd.Fb := fun K => (fun K => (He.Fa.glo "check_change").ok K) K
def g19 : Hd.Fb := fun K => (fun K => (He.Fa.glo "form_value").ok K) K
def g20 : Hd.Fb := fun K => (fun K => (He.Fa.glo "form_discriminant").ok K) K
def g21 : Hd.Fb := fun K => (fun K => (He.Fa.glo "form_hessian").ok K) K
def g22 : Hd.Fb := fun K => (fun K => (He.Fa.glo "form_led").ok K) K
def g23 : Hd.Fb := fun K => (fun K => (He.Fa.glo "check_form").ok K) K
def g24 : Hd.Fb := fun K => (fun K => (He.Fa.glo "form_of").ok K) K
def g25 : Hd.Fb := fun K => (fun K => (He.Fa.mkr "Form").ok K) K
def g26 : Hd.Fb := fun K => Hd.propB "Form" "coefficients" K
def g27 : Hd.Fb := fun K => Hd.propB "Form" "discriminant" K
def g28 : Hd.Fb := fun K => Hd.propB "Form" "content" K
def g29 : Hd.Fb := fun K => (fun K => (He.Fa.meth "Form" "led").ok K) K
def g30 : Hd.Fb := fun K => (fun K => (He.Fa.glo "is_heavy_at").ok K) K
def g31 : Hd.Fb := fun K => (fun K => (He.Fa.glo "places_of_roots").ok K) K
def g32 : Hd.Fb := fun K => (fun K => (He.Fa.glo "multiple_place").ok K) K
def g33 : Hd.Fb := fun K => (fun K => (He.Fa.glo "places_of_heavy_roots").ok K) K
def g34 : Hd.Fb := fun K => (fun K => (He.Fa.glo "is_full").ok K) K
def g35 : Hd.Fb := fun K => (fun K => (He.Fa.glo "roots_at").ok K) K
def g36 : Hd.Fb := fun K => (fun K => (He.Fa.glo "heavy_places").ok K) K
def g37 : Hd.Fb := fun K => (fun K => (He.Fa.glo "_law_kettle").ok K) K
def g38 : Hd.Fb := fun K => (fun K => (He.Fa.glo "_law_sip").ok K) K
def g39 : Hd.Fb := fun K => (fun K => (He.Fa.glo "_law_taken").ok K) K
def g40 : Hd.Fb := fun K => (fun K => (He.Fa.glo "_law_value").ok K) K
def g41 : Hd.Fb := fun K => (fun K => (He.Fa.glo "_law_moved").ok K) K
def g42 : Hd.Fb := fun K => (fun K => (He.Fa.glo "_law_discriminant").ok K) K
def g43 : Hd.Fb := fun K => (fun K => (He.Fa.glo "_law_content").ok K) K
def g44 : Hd.Fb := fun K => (fun K => (He.Fa.glo "_law_row").ok K) K
def g45 : Hd.Fb := fun K => (fun K => (He.Fa.glo "_law_change").ok K) K
def g46 : Hd.Fb := fun K => (fun K => (He.Fa.glo "_law_led").ok K) K
def g47 : Hd.Fb := fun K => (fun K => (He.Fa.glo "_law_places").ok K) K
def g48 : Hd.Fb := fun K => (fun K => (He.Fa.glo "_law_is_heavy").ok K) K
def g49 : Hd.Fb := fun K => (fun K => (He.Fa.glo "_law_prime").ok K) K
def g50 : Hd.Fb := fun K => (fun K => (He.Fa.glo "_law_any_row").ok K) K
def g51 : Hd.Fb := fun K => (fun K => (He.Fa.glo "_law_moved_place").ok K) K
def g52 : Hd.Fb := fun K => (fun K => (He.Fa.glo "_law_right").ok K) K
def g53 : Hd.Fb := fun K => (fun K => (He.Fa.glo "law").ok K) K
def g54 : Hd.Fb := fun K => (fun K => (He.Fa.free "abs").ok K) K
def g55 : Hd.Fb := fun K => (fun K => (He.Fa.free "all").ok K) K
def g56 : Hd.Fb := fun K => (fun K => (He.Fa.free "any").ok K) K
def g57 : Hd.Fb := fun K => (fun K => (He.Fa.free "bool").ok K) K
def g58 : Hd.Fb := fun K => (fun K => (He.Fa.free "int").ok K) K
def g59 : Hd.Fb := fun K => (fun K => (He.Fa.free "isinstance").ok K) K
def g60 : Hd.Fb := fun K => (fun K => (He.Fa.free "len").ok K) K
def g61 : Hd.Fb := fun K => (fun K => (He.Fa.free "list").ok K) K
def g62 : Hd.Fb := fun K => (fun K => (He.Fa.free "max").ok K) K
def g63 : Hd.Fb := fun K => (fun K => (He.Fa.free "min").ok K) K
def g64 : Hd.Fb := fun K => (fun K => (He.Fa.free "range").ok K) K
def g65 : Hd.Fb := fun K => (fun K => (He.Fa.free "sorted").ok K) K
def g66 : Hd.Fb := fun K => (fun K => (He.Fa.free "tuple").ok K) K
def g67 : Hd.Fb := fun K => (fun K => (He.Fa.int "GREAT" (1000)).ok K) K
def g68 : Hd.Fb := fun K => (fun K => (He.Fa.int "GREATEST_PRIME" (10000)).ok K) K
def g69 : Hd.Fb := fun K => (fun K => (He.Fa.int "LIMIT" (1000000000000000000000000000000000000000000000000000000000000)).ok K) K
def g70 : Hd.Fb := fun K => (fun K => (He.Fa.int "MAX_PRIME" (1000000)).ok K) K
def g71 : Hd.Fb := fun K => Hd.bltB "gcd" "math.gcd" K
def g72 : Hd.Fb := fun K => Hd.bltB "isqrt" "math.isqrt" K
def g73 : Hd.Fb := fun K => (fun K => (He.Fa.glo "END").ok K) K
def g74 : Hd.Fb := fun K => Hd.intsB (fun K => He.ga K "END") [1, 0] K
def fa0 : List Hd.Fb := [g0, g1, g2, g3, g4, g5, g6, g7, g8, g9, g10, g11, g12, g13, g14, g15, g16, g17, g18, g19]
def fa1 : List Hd.Fb := [g20, g21, g22, g23, g24, g25, g26, g27, g28, g29, g30, g31, g32, g33, g34, g35, g36, g37, g38, g39]
def fa2 : List Hd.Fb := [g40, g41, g42, g43, g44, g45, g46, g47, g48, g49, g50, g51, g52, g53, g54, g55, g56, g57, g58, g59]
def fa3 : List Hd.Fb := [g60, g61, g62, g63, g64, g65, g66, g67, g68, g69, g70, g71, g72, g73, g74]
def fa : List Hd.Fb := fa0 ++ (fa1 ++ (fa2 ++ (fa3)))
def names0 : List Str := ["_wall", "__name__", "RingError", "InvalidForm", "InvalidChange", "InvalidDouble", "InvalidOperation", "ParseError", "InvalidNumber", "Refused", "DIGITS", "LIMIT", "is_any_integer", "is_short_integer", "is_between", "are_any_integers", "are_short_integers", "is_written_integer", "check_integer", "check_between", "power_at", "inverse_at", "first_one", "rest_by", "quotient_by", "product_by_rest", "power_by_rest", "shared_by", "less_number", "split_roots"]
def names1 : List Str := ["roots_of", "MAX_PRIME", "GREATEST_PRIME", "shared_divisor", "is_prime", "check_prime", "determinant_of", "is_change", "is_short_change", "check_change", "double_value", "double_discriminant", "double_led", "double_of", "Double", "plain_root", "double_roots", "cubic_value", "cubic_span", "cubic_parts", "reached", "cubic_root", "some_root", "rest_of", "form_roots", "form_value", "form_discriminant", "form_hessian", "form_led", "is_root_of"]
def names2 : List Str := ["check_form", "form_of", "Form", "END", "GREAT", "is_heavy_at", "places_of_roots", "multiple_place", "places_of_heavy_roots", "is_full", "roots_at", "heavy_places", "_law_kettle", "_law_sip", "_law_taken", "_law_value", "_law_moved", "_law_discriminant", "_law_content", "_law_row", "_law_change", "_law_led", "_law_places", "_law_is_heavy", "_law_prime", "_law_any_row", "_law_moved_place", "_law_right"]
def names : List Str := names0 ++ (names1 ++ (names2))
abbrev RR : PySem.W.OpenRow := PySem.W.OpenLaw.row PySem.Challenge.rw_formrings_k39_whole_roots_and_heavy_plac
abbrev vw : Program := PySem.W.view RR.prog [0, 99]
abbrev hk : PySem.W.Hook := Hd.hookM 5 fa dd
def ob (s : PySem.W.SharedT) : Hd.AlM := Hd.obsMG 5 fa dd (HandSHeadRun.getT s)
theorem ob_eq (s : PySem.W.SharedT) : ob s = hk.obs s.abs := Hd.obsMG_eq (HandSHeadRun.getT_eq s)
theorem run (w : World) : HandSHeadRun.RunEqI RR vw hk ob 12000 names w := by
  unfold HandSHeadRun.RunEqI
  kernel_rfl
end K39
namespace K39
open PySem PySem.Spec PyProof.Rows L2 Fr
theorem mem_roots {a b c d : Int} {p : Nat} {z : Int × Int} : z ∈ rootsL a b c d p ↔ z ∈ allP p ∧ rootB a b c d p z.1 z.2 = true := by
  unfold rootsL allP
  have e : rootB a b c d p 1 0 = decide (a % (p : Int) = 0) := by
    unfold rootB
    rw [show fv a b c d 1 0 = a by unfold fv; grind]
  constructor
  · intro h
    rcases List.mem_append.mp h with h | h
    · obtain ⟨x, hx, rfl⟩ := List.mem_map.mp h
      obtain ⟨h1, h2⟩ := List.mem_filter.mp hx
      exact ⟨List.mem_append_left _ (List.mem_map.mpr ⟨x, h1, rfl⟩), h2⟩
    · by_cases g : a % (p : Int) = 0
      · rw [if_pos g] at h
        have : z = (1, 0) := by simpa using h
        subst this
        exact ⟨List.mem_append_right _ List.mem_cons_self, by rw [e]; exact decide_eq_true g⟩
      · rw [if_neg g] at h
        cases h
  · rintro ⟨h, hr⟩
    rcases List.mem_append.mp h with h | h
    · obtain ⟨x, hx, rfl⟩ := List.mem_map.mp h
      exact List.mem_append_left _ (List.mem_map.mpr ⟨x, List.mem_filter.mpr ⟨hx, hr⟩, rfl⟩)
    · have : z = (1, 0) := by simpa using h
      subst this
      rw [e] at hr
      rw [if_pos (of_decide_eq_true hr)]
      exact List.mem_append_right _ List.mem_cons_self
theorem mem_all {p : Nat} {z : Int × Int} (h : z ∈ allP p) : Plc p z.1 z.2 := by
  unfold allP at h
  rcases List.mem_append.mp h with h | h
  · obtain ⟨x, hx, rfl⟩ := List.mem_map.mp h
    have := List.mem_range.mp hx
    exact .inl ⟨rfl, by simp only; omega, by simp only; omega⟩
  · have : z = (1, 0) := by simpa using h
    subst this
    exact .inr ⟨rfl, rfl⟩
theorem nd_map {f : Nat → Bool} {p : Nat} : (((List.range p).filter f).map fun (x : Nat) => ((x : Int), (1 : Int))).Nodup := by
  show List.Pairwise (· ≠ ·) _
  rw [List.pairwise_map]
  refine List.Pairwise.imp (fun {x y} h e => h ?_) (List.Pairwise.filter _ (List.nodup_range (n := p)))
  injection e with e
  omega
theorem nd_one {f : Nat → Bool} {p : Nat} {l : List (Int × Int)} (hl : l = [(1, 0)] ∨ l = []) : ((((List.range p).filter f).map fun (x : Nat) => ((x : Int), (1 : Int))) ++ l).Nodup := by
  refine List.nodup_append.mpr ⟨nd_map, ?_, ?_⟩
  · rcases hl with rfl | rfl <;> simp
  · intro z hz w hw e
    subst e
    obtain ⟨x, _, rfl⟩ := List.mem_map.mp hz
    rcases hl with rfl | rfl
    · have := List.mem_singleton.mp hw
      injection this with _ h
      cases h
    · cases hw
theorem nd_roots (a b c d : Int) (p : Nat) : (rootsL a b c d p).Nodup := nd_one (by split <;> simp)
theorem nd_all (p : Nat) : (allP p).Nodup := by
  have := nd_one (f := fun _ => true) (p := p) (l := [(1, 0)]) (.inl rfl)
  rw [List.filter_eq_self.mpr fun _ _ => rfl] at this
  exact this
theorem roots_eq {a b c d : Int} {p : Nat} {qs ps : List (Int × Int)} (h1 : qs.Perm (rootsL a b c d p)) (s1 : qs.Pairwise lexP) (h2 : ps.Perm (allP p)) (s2 : ps.Pairwise lexP) : qs = ps.filter fun z => rootB a b c d p z.1 z.2 := by
  refine eq_sorted s1 (h1.nodup_iff.mpr (nd_roots _ _ _ _ _)) (s2.filter _) ((h2.nodup_iff.mpr (nd_all p)).filter _) fun z => ?_
  rw [h1.mem_iff, mem_roots, List.mem_filter, h2.mem_iff]
theorem small_p {p : Nat} (h : Pr p) (h5 : 5 ≤ p) (h13 : p ≤ 13) : p = 5 ∨ p = 7 ∨ p = 11 ∨ p = 13 := by
  have e2 := h.2 2 (by decide) (by omega)
  by_cases h9 : 9 ≤ p
  · have e3 := h.2 3 (by decide) (by omega)
    omega
  · omega
theorem inv_dec : (∀ u : Fin 5, u.val ≠ 0 → u.val * (u.val ^ 3 % 5) % 5 = 1) ∧ (∀ u : Fin 7, u.val ≠ 0 → u.val * (u.val ^ 5 % 7) % 7 = 1) ∧ (∀ u : Fin 11, u.val ≠ 0 → u.val * (u.val ^ 9 % 11) % 11 = 1) ∧ (∀ u : Fin 13, u.val ≠ 0 → u.val * (u.val ^ 11 % 13) % 13 = 1) := by decide
theorem inv_ok {p u : Nat} (h : p = 5 ∨ p = 7 ∨ p = 11 ∨ p = 13) (hu : u % p ≠ 0) : u * (u ^ (p - 2) % p) % p = 1 := by
  have e : u * (u ^ (p - 2) % p) % p = (u % p) * ((u % p) ^ (p - 2) % p) % p := by
    rw [Nat.mul_mod, Nat.mod_mod, Nat.pow_mod, Nat.mul_mod (u % p), Nat.mod_mod, Nat.mod_mod]
  rw [e]
  obtain ⟨d5, d7, d11, d13⟩ := inv_dec
  rcases h with rfl | rfl | rfl | rfl
  · exact d5 ⟨u % 5, Nat.mod_lt _ (by decide)⟩ hu
  · exact d7 ⟨u % 7, Nat.mod_lt _ (by decide)⟩ hu
  · exact d11 ⟨u % 11, Nat.mod_lt _ (by decide)⟩ hu
  · exact d13 ⟨u % 13, Nat.mod_lt _ (by decide)⟩ hu
theorem inv_int {p : Nat} (h : p = 5 ∨ p = 7 ∨ p = 11 ∨ p = 13) {u : Int} (u0 : 0 ≤ u) (hu : u % (p : Int) ≠ 0) : ∃ k : Int, u * ((u.toNat ^ (p - 2) % p : Nat) : Int) = 1 + (p : Int) * k := by
  obtain ⟨n, rfl⟩ : ∃ n : Nat, u = n := ⟨u.toNat, by omega⟩
  have hn : n % p ≠ 0 := fun z => hu (by rw [← Int.natCast_emod, z]; rfl)
  have := inv_ok h hn
  rw [Int.toNat_natCast]
  have e := Nat.div_add_mod (n * (n ^ (p - 2) % p)) p
  rw [this] at e
  refine ⟨((n * (n ^ (p - 2) % p) / p : Nat) : Int), ?_⟩
  generalize n ^ (p - 2) % p = v at *
  generalize n * v / p = q at *
  have e := congrArg (Nat.cast : Nat → Int) e
  rw [Int.natCast_add, Int.natCast_mul, Int.natCast_mul] at e
  omega
theorem cancel {p : Nat} (h : p = 5 ∨ p = 7 ∨ p = 11 ∨ p = 13) {u w : Int} (hu : ¬ (p : Int) ∣ u) (hd : (p : Int) ∣ u * w) : (p : Int) ∣ w := by
  have p0 : (0 : Int) < p := by omega
  have u0 := Int.emod_nonneg u (show (p : Int) ≠ 0 by omega)
  have un : u % (p : Int) % (p : Int) ≠ 0 := by
    rw [Int.emod_emod]
    exact fun z => hu (Int.dvd_of_emod_eq_zero z)
  obtain ⟨k, hk⟩ := inv_int h u0 un
  generalize (((u % (p : Int)).toNat ^ (p - 2) % p : Nat) : Int) = v at hk
  have eu := Int.emod_add_mul_ediv u p
  obtain ⟨m, hm⟩ := hd
  refine ⟨m * v - (u / p) * w * v - k * w, ?_⟩
  have : u % (p : Int) = u - p * (u / p) := by omega
  rw [this] at hk
  generalize u / (p : Int) = q at *
  have e1 : (u - p * q) * v * w = (1 + p * k) * w := by rw [hk]
  have e2 : u * w * v = p * m * v := by rw [hm]
  grind
theorem id_P (a b c d x : Int) : h0 a b c d = (b + 3 * a * x) * (b + 3 * a * x) - 3 * a * ((3 * a * x + 2 * b) * x + c) := by unfold h0; grind
theorem id_Q (a b c d x : Int) : h1 a b c d + 2 * x * h0 a b c d = (b + 3 * a * x) * ((3 * a * x + 2 * b) * x + c) - 9 * a * fv a b c d x 1 := by unfold h0 h1 fv; grind
theorem at_inv {p : Nat} (h : p = 5 ∨ p = 7 ∨ p = 11 ∨ p = 13) {t u x : Int} (u0 : 0 ≤ u) (hu : u % (p : Int) ≠ 0) (x0 : 0 ≤ x) (x1 : x < p) (hd : (p : Int) ∣ t + x * u) : -t * ((u.toNat ^ (p - 2) % p : Nat) : Int) % (p : Int) = x := by
  obtain ⟨k, hk⟩ := inv_int h u0 hu
  generalize ((u.toNat ^ (p - 2) % p : Nat) : Int) = v at *
  obtain ⟨m, hm⟩ := hd
  have e : -t * v = x + p * (x * k - m * v) := by
    have e1 : x * (u * v) = x * (1 + p * k) := by rw [hk]
    have e2 : (t + x * u) * v = p * m * v := by rw [hm]
    grind
  rw [e, Int.add_mul_emod_self_left]
  exact Int.emod_eq_of_lt x0 x1
theorem dvd_mod {p : Nat} {z : Int} : (p : Int) ∣ z % (p : Int) ↔ (p : Int) ∣ z := by
  rw [Int.dvd_iff_emod_eq_zero, Int.dvd_iff_emod_eq_zero, Int.emod_emod]
theorem heavy_root {a b c d p x y : Int} (hp : Plc p x y) (h : heavyB a b c d p x y = true) : rootB a b c d p x y = true := by
  unfold heavyB at h
  rcases hp with ⟨rfl, _, _⟩ | ⟨rfl, rfl⟩
  · rw [if_pos rfl] at h
    obtain ⟨h1, _⟩ := Bool.and_eq_true_iff.mp h
    obtain ⟨m, hm⟩ := Int.dvd_of_emod_eq_zero (of_decide_eq_true h1)
    exact decide_eq_true (Int.emod_eq_zero_of_dvd ⟨p * m, by rw [hm, Int.mul_assoc]⟩)
  · rw [if_neg (by decide)] at h
    obtain ⟨h1, _⟩ := Bool.and_eq_true_iff.mp h
    obtain ⟨m, hm⟩ := Int.dvd_of_emod_eq_zero (of_decide_eq_true h1)
    refine decide_eq_true (Int.emod_eq_zero_of_dvd ⟨p * m, ?_⟩)
    rw [show fv a b c d 1 0 = a by unfold fv; grind, hm, Int.mul_assoc]
theorem gcdL_dvd4 {a b c d : Int} {p : Nat} (h1 : (p : Int) ∣ a) (h2 : (p : Int) ∣ b) (h3 : (p : Int) ∣ c) (h4 : (p : Int) ∣ d) : ((gcdL [a, b, c, d] : Nat) : Int) % (p : Int) = 0 := by
  have e : gcdL [a, b, c, d] = Nat.gcd (Nat.gcd (Nat.gcd (Nat.gcd 0 a.natAbs) b.natAbs) c.natAbs) d.natAbs := rfl
  rw [e, ← Int.natCast_emod]
  refine congrArg Nat.cast (Nat.mod_eq_zero_of_dvd ?_)
  exact Nat.dvd_gcd (Nat.dvd_gcd (Nat.dvd_gcd (Nat.dvd_gcd (Nat.dvd_zero _) (Int.ofNat_dvd_left.mp h1)) (Int.ofNat_dvd_left.mp h2)) (Int.ofNat_dvd_left.mp h3)) (Int.ofNat_dvd_left.mp h4)
theorem heavy_mpl {a b c d x y : Int} {p : Nat} (hp : Pr p) (h5 : 5 ≤ p) (h13 : p ≤ 13) (nf : ((gcdL [a, b, c, d] : Nat) : Int) % (p : Int) ≠ 0) (hpl : Plc p x y) (h : heavyB a b c d p x y = true) : (x, y) = mpl a b c d p := by
  have hs := small_p hp h5 h13
  have p0 : (0 : Int) < p := by omega
  have pn : (p : Int) ≠ 0 := by omega
  unfold heavyB at h
  unfold mpl
  have n2 : ¬ (p : Int) ∣ 2 := fun z => by
    have := Int.le_of_dvd (by decide) z
    omega
  have n3 : ¬ (p : Int) ∣ 3 := fun z => by
    have := Int.le_of_dvd (by decide) z
    omega
  rcases hpl with ⟨rfl, x0, x1⟩ | ⟨rfl, rfl⟩
  · rw [if_pos rfl] at h
    obtain ⟨hF, hG⟩ := Bool.and_eq_true_iff.mp h
    have hF : (p : Int) ∣ fv a b c d x 1 := by
      obtain ⟨m, hm⟩ := Int.dvd_of_emod_eq_zero (of_decide_eq_true hF)
      exact ⟨p * m, by rw [hm, Int.mul_assoc]⟩
    have hG : (p : Int) ∣ (3 * a * x + 2 * b) * x + c := Int.dvd_of_emod_eq_zero (of_decide_eq_true hG)
    unfold tbl
    by_cases hP : h0 a b c d % (p : Int) = 0
    · rw [if_pos hP]
      have hP := Int.dvd_of_emod_eq_zero hP
      have hsq : (p : Int) ∣ (b + 3 * a * x) * (b + 3 * a * x) := by
        have e := id_P a b c d x
        have : (b + 3 * a * x) * (b + 3 * a * x) = h0 a b c d + 3 * a * ((3 * a * x + 2 * b) * x + c) := by omega
        rw [this]
        exact Int.dvd_add hP (Int.dvd_mul_of_dvd_right hG)
      have hb : (p : Int) ∣ b + 3 * a * x := by
        refine Classical.byContradiction fun z => z (cancel hs z hsq)
      have hb3 : 3 * (a % (p : Int)) % (p : Int) ≠ 0 := fun z => nf (by
        have ha : (p : Int) ∣ a := dvd_mod.mp (cancel hs n3 (Int.dvd_of_emod_eq_zero z))
        have hb' : (p : Int) ∣ b := by
          have := Int.dvd_sub hb (Int.dvd_mul_of_dvd_right (Int.dvd_mul_of_dvd_left ha (c := x)) (b := 3))
          rwa [show b + 3 * a * x - 3 * (a * x) = b by grind] at this
        have hc : (p : Int) ∣ c := by
          have := Int.dvd_sub hG (Int.dvd_add (Int.dvd_mul_of_dvd_left ha (c := 3 * x * x)) (Int.dvd_mul_of_dvd_left hb' (c := 2 * x)))
          rwa [show (3 * a * x + 2 * b) * x + c - (a * (3 * x * x) + b * (2 * x)) = c by grind] at this
        have hd : (p : Int) ∣ d := by
          have := Int.dvd_sub hF (Int.dvd_add (Int.dvd_add (Int.dvd_mul_of_dvd_left ha (c := x * x * x)) (Int.dvd_mul_of_dvd_left hb' (c := x * x))) (Int.dvd_mul_of_dvd_left hc (c := x)))
          rwa [show fv a b c d x 1 - (a * (x * x * x) + b * (x * x) + c * x) = d by unfold fv; grind] at this
        exact gcdL_dvd4 ha hb' hc hd)
      show (x, 1) = if 3 * (a % (p : Int)) % (p : Int) = 0 then _ else _
      rw [if_neg hb3]
      have a0 := Int.emod_nonneg a pn
      refine Prod.ext ?_ rfl
      refine (at_inv hs (by omega) hb3 x0 x1 ?_).symm
      have e1 := Int.emod_add_mul_ediv a p
      have e2 := Int.emod_add_mul_ediv b p
      obtain ⟨m, hm⟩ := hb
      refine ⟨m - b / p - 3 * x * (a / p), ?_⟩
      generalize a % (p : Int) = a1 at *
      generalize b % (p : Int) = b1 at *
      generalize a / (p : Int) = a2 at *
      generalize b / (p : Int) = b2 at *
      subst e1 e2
      grind
    · rw [if_neg hP]
      have hP' : ¬ (p : Int) ∣ h0 a b c d := fun z => hP (Int.emod_eq_zero_of_dvd z)
      have hb2 : 2 * (h0 a b c d % (p : Int)) % (p : Int) ≠ 0 := fun z => hP' (dvd_mod.mp (cancel hs n2 (Int.dvd_of_emod_eq_zero z)))
      show (x, 1) = if 2 * (h0 a b c d % (p : Int)) % (p : Int) = 0 then _ else _
      rw [if_neg hb2]
      have a0 := Int.emod_nonneg (h0 a b c d) pn
      refine Prod.ext ?_ rfl
      refine (at_inv hs (by omega) hb2 x0 x1 ?_).symm
      have hQ : (p : Int) ∣ h1 a b c d + 2 * x * h0 a b c d := by
        rw [id_Q]
        exact Int.dvd_sub (Int.dvd_mul_of_dvd_right hG) (Int.dvd_mul_of_dvd_right hF)
      have e1 := Int.emod_add_mul_ediv (h0 a b c d) p
      have e2 := Int.emod_add_mul_ediv (h1 a b c d) p
      obtain ⟨m, hm⟩ := hQ
      refine ⟨m - h1 a b c d / p - 2 * x * (h0 a b c d / p), ?_⟩
      generalize h0 a b c d % (p : Int) = a1 at *
      generalize h1 a b c d % (p : Int) = b1 at *
      generalize h0 a b c d / (p : Int) = a2 at *
      generalize h1 a b c d / (p : Int) = b2 at *
      generalize h0 a b c d = A at *
      generalize h1 a b c d = B' at *
      subst e1 e2
      grind
  · rw [if_neg (by decide)] at h
    obtain ⟨hA, hB⟩ := Bool.and_eq_true_iff.mp h
    have ha : (p : Int) ∣ a := by
      obtain ⟨m, hm⟩ := Int.dvd_of_emod_eq_zero (of_decide_eq_true hA)
      exact ⟨p * m, by rw [hm, Int.mul_assoc]⟩
    have hb : (p : Int) ∣ b := Int.dvd_of_emod_eq_zero (of_decide_eq_true hB)
    have hP : h0 a b c d % (p : Int) = 0 := Int.emod_eq_zero_of_dvd (by
      unfold h0
      exact Int.dvd_sub (Int.dvd_mul_of_dvd_left hb) (Int.dvd_mul_of_dvd_left (Int.dvd_mul_of_dvd_right ha)))
    unfold tbl
    rw [if_pos hP]
    show (1, 0) = if 3 * (a % (p : Int)) % (p : Int) = 0 then _ else _
    rw [Int.emod_eq_zero_of_dvd ha]
    rfl
theorem mod_lin {q A B0 C r s : Int} : (A % q * r + B0 % q * s + C % q) % q = (A * r + B0 * s + C) % q := by
  have ha := Int.emod_add_mul_ediv A q
  have hb := Int.emod_add_mul_ediv B0 q
  have hc := Int.emod_add_mul_ediv C q
  generalize A % q = a1 at *
  generalize B0 % q = b1 at *
  generalize C % q = c1 at *
  generalize A / q = a2 at *
  generalize B0 / q = b2 at *
  generalize C / q = c2 at *
  subst ha hb hc
  rw [show (a1 + q * a2) * r + (b1 + q * b2) * s + (c1 + q * c2) = (a1 * r + b1 * s + c1) + q * (a2 * r + b2 * s + c2) by grind, Int.add_mul_emod_self_left]
theorem heavy_mod (a b c d p x y : Int) : heavyB (a % (p * p)) (b % (p * p)) (c % (p * p)) (d % (p * p)) p x y = heavyB a b c d p x y := by
  unfold heavyB
  by_cases hy : y = 1
  · rw [if_pos hy, if_pos hy]
    have e1 : fv (a % (p * p)) (b % (p * p)) (c % (p * p)) (d % (p * p)) x 1 % (p * p) = fv a b c d x 1 % (p * p) := by
      rw [← horner a b c d x (p * p)]
      refine congrArg (· % (p * p)) ?_
      unfold fv
      grind
    have e2 : ((3 * (a % (p * p)) * x + 2 * (b % (p * p))) * x + c % (p * p)) % p = ((3 * a * x + 2 * b) * x + c) % p := by
      have := mod_lin (q := p * p) (A := a) (B0 := b) (C := c) (r := 3 * x * x) (s := 2 * x)
      have f : ∀ z : Int, z % (p * p) % p = z % p := fun z => Int.emod_emod_of_dvd z ⟨p, rfl⟩
      rw [show (3 * (a % (p * p)) * x + 2 * (b % (p * p))) * x + c % (p * p) = a % (p * p) * (3 * x * x) + b % (p * p) * (2 * x) + c % (p * p) by grind, show (3 * a * x + 2 * b) * x + c = a * (3 * x * x) + b * (2 * x) + c by grind, ← f, this, f]
    rw [e1, e2]
  · rw [if_neg hy, if_neg hy, Int.emod_emod, Int.emod_emod_of_dvd b ⟨p, rfl⟩]
theorem mpl_mem {a b c d : Int} {p : Nat} (p0 : 0 < p) : mpl a b c d p ∈ allP p := by
  unfold mpl allP
  split
  · exact List.mem_append_right _ List.mem_cons_self
  · refine List.mem_append_left _ (List.mem_map.mpr ?_)
    have h1 := Int.emod_nonneg (-(tbl a b c d p).1 * (((tbl a b c d p).2.toNat ^ (p - 2) % p : Nat) : Int)) (show (p : Int) ≠ 0 by omega)
    have h2 := Int.emod_lt_of_pos (-(tbl a b c d p).1 * (((tbl a b c d p).2.toNat ^ (p - 2) % p : Nat) : Int)) (show (0 : Int) < (p : Int) by omega)
    generalize -(tbl a b c d p).1 * (((tbl a b c d p).2.toNat ^ (p - 2) % p : Nat) : Int) % (p : Int) = z at *
    exact ⟨z.toNat, List.mem_range.mpr (by omega), Prod.ext (by show ((z.toNat : Nat) : Int) = z; omega) rfl⟩
end K39
namespace K39
open PySem PySem.Spec PyProof.Rows L2 Fr
section
variable {P : Program} {w : World} {K : PySem.W.Frag} {mg : Str → Option Value} {base : Heap} {C_Form : Addr}
theorem ok_multiple_place (T : Txt K mg C_Form) : Def P w K mg base 3 "multiple_place" ["coefficients", "prime"] (sp_multiple_place K C_Form) := by
  obtain ⟨f_, fd_, g_, F_⟩ := T.d_multiple_place
  obtain ⟨f_form_hessian, fd_form_hessian, g_form_hessian, k_form_hessian, b_form_hessian, G_form_hessian⟩ := (ok_form_hessian (P := P) (w := w) (base := base) T)
  obtain ⟨f_inverse_at, fd_inverse_at, g_inverse_at, k_inverse_at, b_inverse_at, G_inverse_at⟩ := (ok_inverse_at (P := P) (w := w) (base := base) T)
  refine ⟨f_, fd_, g_, F_.kp, F_.binds (ps := ["coefficients", "prime"]) (fun _ _ _ _ _ _ us hl => match us, hl with | [_, _], _ => rfl), ?_⟩
  refine F_.ok sc_multiple_place (fun vs H Q E h => ?_) (fun cdv A outer s H vs Q E hr h => ?_)
  · first | (obtain ⟨rfl, _⟩ := h; rfl) | (obtain ⟨_, rfl, _⟩ := h; rfl) | (obtain ⟨_, _, rfl, _⟩ := h; rfl) | (obtain ⟨_, _, _, rfl, _⟩ := h; rfl) | (obtain ⟨_, _, _, _, rfl, _⟩ := h; rfl) | (obtain ⟨_, _, _, _, _, rfl, _⟩ := h; rfl) | (obtain ⟨_, _, _, _, _, _, rfl, _⟩ := h; rfl) | (obtain ⟨_, _, _, _, _, _, _, rfl, _⟩ := h; rfl) | (obtain ⟨_, _, _, _, _, _, _, _, rfl, _⟩ := h; rfl) | (obtain ⟨_, _, _, _, _, _, _, _, _, rfl, _⟩ := h; rfl) | (obtain ⟨_, _, _, _, _, _, _, _, _, _, rfl, _⟩ := h; rfl) | (obtain ⟨_, _, _, _, _, _, _, _, _, _, _, rfl, _⟩ := h; rfl) | (obtain ⟨_, _, _, _, _, _, _, _, _, _, _, _, rfl, _⟩ := h; rfl) | (obtain ⟨_, _, _, _, _, _, _, _, _, _, _, _, _, rfl, _⟩ := h; rfl) | (obtain ⟨_, _, _, _, _, _, _, _, _, _, _, _, _, _, rfl, _⟩ := h; rfl) | (obtain ⟨_, _, _, _, _, _, _, _, _, _, _, _, _, _, _, rfl, _⟩ := h; rfl) | (obtain ⟨_, _, _, _, _, _, _, _, _, _, _, _, _, _, _, _, rfl, _⟩ := h; rfl) | (obtain ⟨_, _, _, _, _, _, _, _, _, _, _, _, _, _, _, _, _, rfl, _⟩ := h; rfl) | (obtain ⟨_, _, _, _, _, _, _, _, _, _, _, _, _, _, _, _, _, _, rfl, _⟩ := h; rfl) | (obtain ⟨_, _, _, _, _, _, _, _, _, _, _, _, _, _, _, _, _, _, _, rfl, _⟩ := h; rfl) | (obtain ⟨_, _, _, _, _, _, _, _, _, _, _, _, _, _, _, _, _, _, _, _, rfl, _⟩ := h; rfl) | (obtain ⟨_, _, _, _, _, _, _, _, _, _, _, _, _, _, _, _, _, _, _, _, _, rfl, _⟩ := h; rfl) | (obtain ⟨_, _, _, _, _, _, _, _, _, _, _, _, _, _, _, _, _, _, _, _, _, _, rfl, _⟩ := h; rfl) | (obtain ⟨_, _, _, _, _, _, _, _, _, _, _, _, _, _, _, _, _, _, _, _, _, _, _, rfl, _⟩ := h; rfl)
  · obtain ⟨t, a, b, c, d, p, rfl, ht, ba, bb, bc, bd, p0, p1, q⟩ := h
    obtain ⟨A_END, h_END, i_END⟩ := T.k_END
    refine ⟨_, (Evl.pss_cut (ps_asg (pe_lc (own := [("number", 9)]) (g := (gName 9)) rfl sc_multiple_place.nd (pi_tup (pe_call G_form_hessian (hr.mono (by decide)) (by rfl) g_form_hessian k_form_hessian b_form_hessian .nil pass0 (pa_cons (pv 0) pa_nil))) (blkOk_by (N := N_multiple_place) (sc := defScope s_multiple_place) (by decide +kernel)) (fun _ _ _ _ _ => (pg_name (i := 9) sc_multiple_place.nd rfl (.inl rfl))) (fun _ _ _ _ _ => pts_nil) (fun _ _ _ _ _ => (pe_op op_mod (pv 9) (pv 1)))) (pg_lst (by rfl) (pgs_cons (pg_name (i := 2) sc_multiple_place.nd rfl (.inl rfl)) (pgs_cons (pg_name (i := 3) sc_multiple_place.nd rfl (.inl rfl)) (pgs_cons (pg_name (i := 4) sc_multiple_place.nd rfl (.inl rfl)) pgs_nil)))))
    (Evl.pss_cut (ps_asg (pe_lc (own := [("number", 9)]) (g := (gName 9)) rfl sc_multiple_place.nd (pi_tup (pv 0)) (blkOk_by (N := N_multiple_place) (sc := defScope s_multiple_place) (by decide +kernel)) (fun _ _ _ _ _ => (pg_name (i := 9) sc_multiple_place.nd rfl (.inl rfl))) (fun _ _ _ _ _ => pts_nil) (fun _ _ _ _ _ => (pe_op op_mod (pv 9) (pv 1)))) (pg_lst (by rfl) (pgs_cons (pg_name (i := 5) sc_multiple_place.nd rfl (.inl rfl)) (pgs_cons (pg_name (i := 6) sc_multiple_place.nd rfl (.inl rfl)) (pgs_cons (pg_name (i := 4) sc_multiple_place.nd rfl (.inl rfl)) (pgs_cons (pg_name (i := 4) sc_multiple_place.nd rfl (.inl rfl)) pgs_nil))))))
    (Evl.pss_cut (ps_asg (pe_ifExp (pt_cmpR op_ne (pv 2) pe_int (nomark _)) (pe_tup (pa_cons (pv 3) (pa_cons (pe_op op_mulW pe_int (pv 2)) pa_nil))) (pe_tup (pa_cons (pv 6) (pa_cons (pe_op op_mulW pe_int (pv 5)) pa_nil)))) (pg_tup (by rfl) (pgs_cons (pg_name (i := 7) sc_multiple_place.nd rfl (.inl rfl)) (pgs_cons (pg_name (i := 8) sc_multiple_place.nd rfl (.inl rfl)) pgs_nil))))
    (pss_one (ps_ret (pe_ifExp (pt_cmpR op_eq (pe_op op_mod (pv 8) (pv 1)) pe_int (nomark _)) (pe_glob (v := .ref A_END) (by rfl) h_END rfl) (pe_tup (pa_cons (pe_op op_mod (pe_op op_mulW (pe_un un_neg (pv 7)) (pe_call G_inverse_at (hr.mono (by decide)) (by rfl) g_inverse_at k_inverse_at b_inverse_at .nil pass0 (pa_cons (pv 8) (pa_cons (pv 1) pa_nil)))) (pv 1)) (pa_cons pe_int pa_nil))))))))), ?_⟩
    have pp : (0 : Int) < (p : Int) := by omega
    have bm : ∀ z : Int, 0 ≤ z % (p : Int) ∧ z % (p : Int) < 300 := fun z => by
      have h1 := Int.emod_nonneg z (show (p : Int) ≠ 0 by omega)
      have h2 := Int.emod_lt_of_pos z pp
      omega
    have bB : ∀ {z : Int}, z.natAbs ≤ 1000 → B 10 z := fun h => ⟨by show _ < 1024; omega, by decide⟩
    refine ⟨fun σ H' => ∃ z2 : Int, σ = [some (.ref t), some (.int (p : Int)), some (.int (h0 a b c d % (p : Int))), some (.int (h1 a b c d % (p : Int))), some (.int z2), none, none, none, none, none] ∧ Ex0 H H', ?_, ?_⟩
    · refine ⟨_, rfl, t, a, b, c, d, rfl, ht, ba.mono (by decide), bb.mono (by decide), bc.mono (by decide), bd.mono (by decide), fun x H1 e1 hx => ?_⟩
      refine ⟨x, rfl, ⟨_, SqT.of hx⟩, ?_⟩
      refine lcT fm0 trivial (SqT.of hx) (fun z => z) (fun i acc _ => acc = (([h0 a b c d % (p : Int), h1 a b c d % (p : Int), h2 a b c d % (p : Int)] : List Int).take i).map V.int) (fun _ _ => rfl) (fun D i v acc H' hD hv e hA hlen hp' => ?_) (fun D H3 acc hD e hA hp' => ?_)
      · obtain ⟨n, hn, rfl⟩ := get_int hv
        have hi : i < 3 := (List.getElem?_eq_some_iff.mp hn).1
        refine ⟨rfl, ?_⟩
        refine ⟨_, rfl, _, rfl, _, _, rfl, rfl, pp, ?_⟩
        refine cs_yes fm0 trivial hD e hA hlen (by omega) (Fx.refl trivial) ?_
        show acc ++ [V.int (n % (p : Int))] = _
        rw [hp']
        match i, hn with
        | 0, hn => rw [← Option.some.inj hn]; rfl
        | 1, hn => rw [← Option.some.inj hn]; rfl
        | 2, hn => rw [← Option.some.inj hn]; rfl
      have hp2 : acc = ([h0 a b c d % (p : Int), h1 a b c d % (p : Int), h2 a b c d % (p : Int)] : List Int).map V.int := hp'
      subst hp2
      refine ⟨D, _, rfl, SqL.of hA, rfl, _, _, rfl, _, _, rfl, _, _, rfl, rfl, ?_⟩
      exact ⟨_, rfl, e1.trans e⟩
    rintro σ H1 ⟨z2, rfl, e1⟩
    refine ⟨fun σ H' => ∃ z2 : Int, σ = [some (.ref t), some (.int (p : Int)), some (.int (h0 a b c d % (p : Int))), some (.int (h1 a b c d % (p : Int))), some (.int z2), some (.int (a % (p : Int))), some (.int (b % (p : Int))), none, none, none] ∧ Ex0 H1 H', ?_, ?_⟩
    · have ht1 := Ex0.ti e1 ht
      refine ⟨_, rfl, t, rfl, ⟨_, SqT.of ht1⟩, ?_⟩
      refine lcT fm0 trivial (SqT.of ht1) (fun z => z) (fun i acc _ => acc = (([a % (p : Int), b % (p : Int), c % (p : Int), d % (p : Int)] : List Int).take i).map V.int) (fun _ _ => rfl) (fun D i v acc H' hD hv e hA hlen hp' => ?_) (fun D H3 acc hD e hA hp' => ?_)
      · obtain ⟨n, hn, rfl⟩ := get_int hv
        have hi : i < 4 := (List.getElem?_eq_some_iff.mp hn).1
        refine ⟨rfl, ?_⟩
        refine ⟨_, rfl, _, rfl, _, _, rfl, rfl, pp, ?_⟩
        refine cs_yes fm0 trivial hD e hA hlen (by omega) (Fx.refl trivial) ?_
        show acc ++ [V.int (n % (p : Int))] = _
        rw [hp']
        match i, hn with
        | 0, hn => rw [← Option.some.inj hn]; rfl
        | 1, hn => rw [← Option.some.inj hn]; rfl
        | 2, hn => rw [← Option.some.inj hn]; rfl
        | 3, hn => rw [← Option.some.inj hn]; rfl
      have hp2 : acc = ([a % (p : Int), b % (p : Int), c % (p : Int), d % (p : Int)] : List Int).map V.int := hp'
      subst hp2
      refine ⟨D, _, rfl, SqL.of hA, rfl, _, _, rfl, _, _, rfl, _, _, rfl, _, _, rfl, rfl, ?_⟩
      exact ⟨_, rfl, e⟩
    rintro σ H2 ⟨z3, rfl, e2⟩
    have b2 : B 2 2 := ⟨by decide, by decide⟩
    have b3 : B 2 3 := ⟨by decide, by decide⟩
    refine ⟨fun σ H' => ∃ z2 : Int, σ = [some (.ref t), some (.int (p : Int)), some (.int (h0 a b c d % (p : Int))), some (.int (h1 a b c d % (p : Int))), some (.int z2), some (.int (a % (p : Int))), some (.int (b % (p : Int))), some (.int (tbl a b c d p).1), some (.int (tbl a b c d p).2), none] ∧ Ex0 H2 H', ?_, ?_⟩
    · refine ⟨_, rfl, rfl, _, rfl, iteEn (fun g => ?_) (fun g => ?_)⟩
      · refine ⟨_, rfl, _, rfl, _, _, rfl, rfl, mulB b2 (bB (by have := bm (h0 a b c d); omega)) (by decide), sl2, fun u nu => ?_⟩
        refine ⟨u, _, rfl, SqT.of upd_same, rfl, _, _, rfl, _, _, rfl, rfl, ?_⟩
        refine ⟨z3, ?_, Ex0.new nu⟩
        unfold tbl
        rw [if_neg g]
        rfl
      · refine ⟨_, rfl, _, rfl, _, _, rfl, rfl, mulB b3 (bB (by have := bm a; omega)) (by decide), sl2, fun u nu => ?_⟩
        refine ⟨u, _, rfl, SqT.of upd_same, rfl, _, _, rfl, _, _, rfl, rfl, ?_⟩
        refine ⟨z3, ?_, Ex0.new nu⟩
        unfold tbl
        rw [if_pos g]
        rfl
    rintro σ H3 ⟨z4, rfl, e3⟩
    have bt : 0 ≤ (tbl a b c d p).1 ∧ (tbl a b c d p).1 < 300 ∧ 0 ≤ (tbl a b c d p).2 ∧ (tbl a b c d p).2 ≤ 900 := by
      unfold tbl
      have k1 := bm (h0 a b c d)
      have k2 := bm (h1 a b c d)
      have k3 := bm a
      have k4 := bm b
      split
      · exact ⟨k4.1, k4.2, by show 0 ≤ 3 * _; omega, by show 3 * _ ≤ (900 : Int); omega⟩
      · exact ⟨k2.1, k2.2, by show 0 ≤ 2 * _; omega, by show 2 * _ ≤ (900 : Int); omega⟩
    have e13 := (e1.trans e2).trans e3
    refine ⟨_, rfl, _, rfl, _, _, rfl, rfl, pp, rfl, _, rfl, iteE (fun g => ?_) (fun g => ?_)⟩
    · refine q A_END H3 e13 ?_
      unfold mpl
      rw [if_pos g]
      exact i_END H3
    · have hn : (((tbl a b c d p).2.toNat : Nat) : Int) = (tbl a b c d p).2 := by omega
      refine ⟨_, rfl, _, rfl, _, rfl, _, rfl, (tbl a b c d p).2.toNat, p, by rw [hn]; rfl, by omega, by omega, by omega, ?_⟩
      have bv : B 10 (((tbl a b c d p).2.toNat ^ (p - 2) % p : Nat) : Int) := bB (by
        rw [Int.natAbs_natCast]
        have := Nat.mod_lt ((tbl a b c d p).2.toNat ^ (p - 2)) (show 0 < p by omega)
        omega)
      refine ⟨_, _, rfl, rfl, mulB (bB (z := -(tbl a b c d p).1) (by omega)) bv (by decide), _, rfl, _, _, rfl, rfl, pp, sl2, fun u nu => ?_⟩
      refine q u _ (e13.trans (Ex0.new nu)) ?_
      unfold mpl
      rw [if_neg g]
      exact SqT.of upd_same
theorem ok_places_of_heavy_roots (T : Txt K mg C_Form) : Def P w K mg base 4 "places_of_heavy_roots" ["coefficients", "prime"] (sp_places_of_heavy_roots K C_Form) := by
  obtain ⟨f_, fd_, g_, F_⟩ := T.d_places_of_heavy_roots
  obtain ⟨f_is_full, fd_is_full, g_is_full, k_is_full, b_is_full, G_is_full⟩ := (ok_is_full (P := P) (w := w) (base := base) T)
  obtain ⟨f_is_heavy_at, fd_is_heavy_at, g_is_heavy_at, k_is_heavy_at, b_is_heavy_at, G_is_heavy_at⟩ := (ok_is_heavy_at (P := P) (w := w) (base := base) T)
  obtain ⟨f_multiple_place, fd_multiple_place, g_multiple_place, k_multiple_place, b_multiple_place, G_multiple_place⟩ := (ok_multiple_place (P := P) (w := w) (base := base) T)
  obtain ⟨f_places_of_roots, fd_places_of_roots, g_places_of_roots, k_places_of_roots, b_places_of_roots, G_places_of_roots⟩ := (ok_places_of_roots (P := P) (w := w) (base := base) T)
  refine ⟨f_, fd_, g_, F_.kp, F_.binds (ps := ["coefficients", "prime"]) (fun _ _ _ _ _ _ us hl => match us, hl with | [_, _], _ => rfl), ?_⟩
  refine F_.ok sc_places_of_heavy_roots (fun vs H Q E h => ?_) (fun cdv A outer s H vs Q E hr h => ?_)
  · first | (obtain ⟨rfl, _⟩ := h; rfl) | (obtain ⟨_, rfl, _⟩ := h; rfl) | (obtain ⟨_, _, rfl, _⟩ := h; rfl) | (obtain ⟨_, _, _, rfl, _⟩ := h; rfl) | (obtain ⟨_, _, _, _, rfl, _⟩ := h; rfl) | (obtain ⟨_, _, _, _, _, rfl, _⟩ := h; rfl) | (obtain ⟨_, _, _, _, _, _, rfl, _⟩ := h; rfl) | (obtain ⟨_, _, _, _, _, _, _, rfl, _⟩ := h; rfl) | (obtain ⟨_, _, _, _, _, _, _, _, rfl, _⟩ := h; rfl) | (obtain ⟨_, _, _, _, _, _, _, _, _, rfl, _⟩ := h; rfl) | (obtain ⟨_, _, _, _, _, _, _, _, _, _, rfl, _⟩ := h; rfl) | (obtain ⟨_, _, _, _, _, _, _, _, _, _, _, rfl, _⟩ := h; rfl) | (obtain ⟨_, _, _, _, _, _, _, _, _, _, _, _, rfl, _⟩ := h; rfl) | (obtain ⟨_, _, _, _, _, _, _, _, _, _, _, _, _, rfl, _⟩ := h; rfl) | (obtain ⟨_, _, _, _, _, _, _, _, _, _, _, _, _, _, rfl, _⟩ := h; rfl) | (obtain ⟨_, _, _, _, _, _, _, _, _, _, _, _, _, _, _, rfl, _⟩ := h; rfl) | (obtain ⟨_, _, _, _, _, _, _, _, _, _, _, _, _, _, _, _, rfl, _⟩ := h; rfl) | (obtain ⟨_, _, _, _, _, _, _, _, _, _, _, _, _, _, _, _, _, rfl, _⟩ := h; rfl) | (obtain ⟨_, _, _, _, _, _, _, _, _, _, _, _, _, _, _, _, _, _, rfl, _⟩ := h; rfl) | (obtain ⟨_, _, _, _, _, _, _, _, _, _, _, _, _, _, _, _, _, _, _, rfl, _⟩ := h; rfl) | (obtain ⟨_, _, _, _, _, _, _, _, _, _, _, _, _, _, _, _, _, _, _, _, rfl, _⟩ := h; rfl) | (obtain ⟨_, _, _, _, _, _, _, _, _, _, _, _, _, _, _, _, _, _, _, _, _, rfl, _⟩ := h; rfl) | (obtain ⟨_, _, _, _, _, _, _, _, _, _, _, _, _, _, _, _, _, _, _, _, _, _, rfl, _⟩ := h; rfl) | (obtain ⟨_, _, _, _, _, _, _, _, _, _, _, _, _, _, _, _, _, _, _, _, _, _, _, rfl, _⟩ := h; rfl)
  · obtain ⟨t, a, b, c, d, p, rfl, ht, ba, bb, bc, bd, hp, p1, q⟩ := h
    refine ⟨_, (Evl.pss_cut (ps_set (i := 2) sc_places_of_heavy_roots.nd rfl (.inr rfl) (pe_callTy call_tuple_of (by rfl) T.b_tuple (by decide +kernel) (pa_cons (pe_lc (own := [("number", 5)]) (g := (gName 5)) rfl sc_places_of_heavy_roots.nd (pi_tup (pv 0)) (blkOk_by (N := N_places_of_heavy_roots) (sc := defScope s_places_of_heavy_roots) (by decide +kernel)) (fun _ _ _ _ _ => (pg_name (i := 5) sc_places_of_heavy_roots.nd rfl (.inl rfl))) (fun _ _ _ _ _ => pts_nil) (fun _ _ _ _ _ => (pe_op op_mod (pv 5) (pe_op op_mul (pv 1) (pv 1))))) pa_nil)))
    (Evl.pss_cut (ps_if (PW.pt (pw_or (pt_cmpR op_lt (pv 1) pe_int (nomark _)) (pw_or1 (pt_val (pe_call G_is_full (hr.mono (by decide)) (by rfl) g_is_full k_is_full b_is_full .nil pass0 (pa_cons (pv 2) (pa_cons (pv 1) pa_nil)))))))
      (pss_one (ps_set (i := 3) sc_places_of_heavy_roots.nd rfl (.inl rfl) (pe_call G_places_of_roots (hr.mono (by decide)) (by rfl) g_places_of_roots k_places_of_roots b_places_of_roots .nil pass0 (pa_cons (pv 2) (pa_cons (pv 1) pa_nil)))))
      (pss_one (ps_set (i := 3) sc_places_of_heavy_roots.nd rfl (.inl rfl) (pe_lst (pa_cons (pe_call G_multiple_place (hr.mono (by decide)) (by rfl) g_multiple_place k_multiple_place b_multiple_place .nil pass0 (pa_cons (pv 2) (pa_cons (pv 1) pa_nil))) pa_nil)))))
    (pss_one (ps_ret (pe_lc (own := [("place", 4)]) (g := (gName 4)) rfl sc_places_of_heavy_roots.nd (pi_list (pv 3)) (blkOk_by (N := N_places_of_heavy_roots) (sc := defScope s_places_of_heavy_roots) (by decide +kernel)) (fun _ _ _ _ _ => (pg_name (i := 4) sc_places_of_heavy_roots.nd rfl (.inl rfl))) (fun _ _ _ _ _ => (pts_one (pt_val (pe_call G_is_heavy_at (hr.mono (by decide)) (by rfl) g_is_heavy_at k_is_heavy_at b_is_heavy_at .nil pass0 (pa_cons (pv 2) (pa_cons (pv 1) (pa_cons (pv 4) pa_nil))))))) (fun _ _ _ _ _ => (pv 4))))))), ?_⟩
    have p2 := hp.1
    have pp : (0 : Int) < (p : Int) * (p : Int) := Int.mul_pos (by omega) (by omega)
    have pl : (p : Int) * (p : Int) ≤ 169 := Int.mul_le_mul (show (p : Int) ≤ 13 by omega) (show (p : Int) ≤ 13 by omega) (by omega) (by omega)
    have bm : ∀ z : Int, B 100 (z % ((p : Int) * (p : Int))) := fun z => by
      have h1 := Int.emod_nonneg z (show (p : Int) * (p : Int) ≠ 0 by omega)
      have h2 := Int.emod_lt_of_pos z pp
      exact ⟨Nat.lt_of_le_of_lt (show _ ≤ 169 by omega) (Nat.lt_of_lt_of_le (by decide : 169 < 2 ^ 8) (Nat.pow_le_pow_right (by decide) (by decide))), by decide⟩
    refine ⟨fun σ H' => ∃ s : Addr, σ = [some (.ref t), some (.int (p : Int)), some (.ref s), none, none, none] ∧ Ex0 H H' ∧ Ti H' s [a % ((p : Int) * (p : Int)), b % ((p : Int) * (p : Int)), c % ((p : Int) * (p : Int)), d % ((p : Int) * (p : Int))], ?_, ?_⟩
    · refine ⟨_, rfl, t, rfl, ⟨_, SqT.of ht⟩, ?_⟩
      refine lcT fm0 trivial (SqT.of ht) (fun z => z) (fun i acc _ => acc = (([a % ((p : Int) * (p : Int)), b % ((p : Int) * (p : Int)), c % ((p : Int) * (p : Int)), d % ((p : Int) * (p : Int))] : List Int).take i).map V.int) (fun _ _ => rfl) (fun D i v acc H' hD hv e hA hlen hp' => ?_) (fun D H3 acc hD e hA hp' => ?_)
      · obtain ⟨n, hn, rfl⟩ := get_int hv
        have hi : i < 4 := (List.getElem?_eq_some_iff.mp hn).1
        refine ⟨rfl, ?_⟩
        refine ⟨_, rfl, _, rfl, _, rfl, _, _, rfl, rfl, .inl ⟨by omega, by omega⟩, _, _, rfl, rfl, pp, ?_⟩
        refine cs_yes fm0 trivial hD e hA hlen (by omega) (Fx.refl trivial) ?_
        show acc ++ [V.int (n % ((p : Int) * (p : Int)))] = _
        rw [hp']
        match i, hn with
        | 0, hn => rw [← Option.some.inj hn]; rfl
        | 1, hn => rw [← Option.some.inj hn]; rfl
        | 2, hn => rw [← Option.some.inj hn]; rfl
        | 3, hn => rw [← Option.some.inj hn]; rfl
      have hp2 : acc = ([a % ((p : Int) * (p : Int)), b % ((p : Int) * (p : Int)), c % ((p : Int) * (p : Int)), d % ((p : Int) * (p : Int))] : List Int).map V.int := hp'
      subst hp2
      refine ⟨D, _, rfl, .inl ⟨SqL.of hA, fun s ns => ?_⟩⟩
      exact ⟨s, rfl, e.trans (Ex0.new ns), upd_same⟩
    rintro σ H1 ⟨s, rfl, e1, hs⟩
    generalize ha : a % ((p : Int) * (p : Int)) = a1 at hs
    generalize hb : b % ((p : Int) * (p : Int)) = b1 at hs
    generalize hc : c % ((p : Int) * (p : Int)) = c1 at hs
    generalize hd : d % ((p : Int) * (p : Int)) = d1 at hs
    have ba1 : B 100 a1 := ha ▸ bm a
    have bb1 : B 100 b1 := hb ▸ bm b
    have bc1 : B 100 c1 := hc ▸ bm c
    have bd1 : B 100 d1 := hd ▸ bm d
    have hm : ∀ x y : Int, heavyB a1 b1 c1 d1 p x y = heavyB a b c d p x y := fun x y => by rw [← ha, ← hb, ← hc, ← hd]; exact heavy_mod a b c d p x y
    refine ⟨fun σ H' => ∃ (l : Addr) (ys : List V) (qs : List (Int × Int)), σ = [some (.ref t), some (.int (p : Int)), some (.ref s), some (.ref l), none, none] ∧ Ex0 H1 H' ∧ H' l = some (.lst ys) ∧ PrT K H' ys qs ∧ qs.Pairwise lexP ∧ qs.Nodup ∧ (∀ z ∈ qs, z ∈ allP p) ∧ (∀ z ∈ allP p, heavyB a b c d p z.1 z.2 = true → z ∈ qs) ∧ qs.length ≤ 100, ?_, ?_⟩
    · have roots : ∀ (l : Addr) (H' : Hp) (ys : List V) (qs : List (Int × Int)), Ex0 H1 H' → H' l = some (.lst ys) → PrT K H' ys qs → qs.Perm (rootsL a1 b1 c1 d1 p) → qs.Pairwise lexP → ∃ (l' : Addr) (ys : List V) (qs : List (Int × Int)), [some (V.ref t), some (.int (p : Int)), some (.ref s), some (.ref l), none, none] = [some (V.ref t), some (.int (p : Int)), some (.ref s), some (.ref l'), none, none] ∧ Ex0 H1 H' ∧ H' l' = some (.lst ys) ∧ PrT K H' ys qs ∧ qs.Pairwise lexP ∧ qs.Nodup ∧ (∀ z ∈ qs, z ∈ allP p) ∧ (∀ z ∈ allP p, heavyB a b c d p z.1 z.2 = true → z ∈ qs) ∧ qs.length ≤ 100 := fun l H' ys qs e hl hP pm srt => by
        refine ⟨l, ys, qs, rfl, e, hl, hP, srt, pm.nodup_iff.mpr (nd_roots _ _ _ _ _), fun z hz => (mem_roots.mp (pm.mem_iff.mp hz)).1, fun z hz hv => ?_, ?_⟩
        · refine pm.mem_iff.mpr (mem_roots.mpr ⟨hz, ?_⟩)
          exact heavy_root (mem_all hz) (by rw [hm]; exact hv)
        · rw [pm.length_eq]
          unfold rootsL
          rw [List.length_append, List.length_map]
          have l1 := List.length_filter_le (fun (x : Nat) => rootB a1 b1 c1 d1 p x 1) (List.range p)
          rw [List.length_range] at l1
          split
          · show _ + 1 ≤ 100
            omega
          · show _ + 0 ≤ 100
            omega
      refine ⟨_, rfl, _, _, rfl, rfl, _, rfl, iteD (fun g => ?_) (fun g => ?_)⟩
      · refine ⟨_, rfl, _, rfl, s, a1, b1, c1, d1, p, rfl, hs, by omega, by omega, fun l H' ys qs e hl hP pm srt => ?_⟩
        exact roots l H' ys qs e hl hP pm srt
      · have p5 : 5 ≤ p := by
          have : ¬ (p : Int) < 5 := g
          omega
        refine ⟨_, rfl, _, rfl, s, [a1, b1, c1, d1], p, rfl, hs, by omega, ⟨_, rfl, iteD (fun hf => ?_) (fun hf => ?_)⟩⟩
        · refine ⟨_, rfl, _, rfl, s, a1, b1, c1, d1, p, rfl, hs, by omega, by omega, fun l H' ys qs e hl hP pm srt => ?_⟩
          exact roots l H' ys qs e hl hP pm srt
        · refine ⟨_, rfl, _, rfl, s, a1, b1, c1, d1, p, rfl, hs, ba1, bb1, bc1, bd1, by omega, by omega, fun u H2 e2 hu => ⟨sl1, fun l nl => ?_⟩⟩
          have el := Ex0.new (o := .lst [.ref u]) nl
          refine ⟨l, _, [mpl a1 b1 c1 d1 p], rfl, e2.trans el, upd_same, .cons (Fx.sqT el (fun z => z) hu) .nil, List.pairwise_singleton _ _, List.nodup_cons.mpr ⟨by simp, List.nodup_nil⟩, fun z hz => ?_, fun z hz hv => ?_, by show 1 ≤ 100; decide⟩
          · rw [List.mem_singleton.mp hz]
            exact mpl_mem (by omega)
          · refine List.mem_singleton.mpr ?_
            exact heavy_mpl hp p5 p1 hf (mem_all hz) (by rw [hm]; exact hv)
    rintro σ H2 ⟨l, ys, qs, rfl, e2, hl, hP, srt, nd, mem, all, len⟩
    refine ⟨_, rfl, l, rfl, ⟨_, SqL.of hl⟩, ?_⟩
    refine lcL fm0 trivial (SqL.of hl) (fun z => z) (fun i acc H' => PrT K H' acc ((qs.take i).filter fun z => heavyB a b c d p z.1 z.2)) (fun _ _ => .nil) (fun D i v acc H' hD hv e4 hA hlen hp' => ?_) (fun D H4 acc hD e4 hA hp' => ?_)
    · obtain ⟨u, x, y, rfl, hi, hu⟩ := hP.get hv
      have hi2 : i < qs.length := (List.getElem?_eq_some_iff.mp hi).1
      have hpl : Plc (p : Int) x y := mem_all (z := (x, y)) (mem _ (List.mem_of_getElem? hi))
      have stp : qs.take (i + 1) = qs.take i ++ [(x, y)] := by
        rw [List.take_add_one, hi]
        rfl
      refine ⟨rfl, ?_⟩
      refine ⟨_, rfl, _, rfl, _, rfl, s, u, a1, b1, c1, d1, p, x, y, rfl, Ex0.ti (e2.trans e4) hs, Fx.sqT e4 (fun z => z) hu, ba1, bb1, bc1, bd1, hpl, by omega, by omega, ?_⟩
      rw [hm]
      refine ⟨_, rfl, iteB (fun hk => ?_) (fun hk => ?_)⟩
      · refine ⟨_, rfl, ?_⟩
        refine cs_yes fm0 trivial hD e4 hA hlen (by omega) (Fx.refl trivial) ?_
        rw [stp, List.filter_append, List.filter_cons, if_pos hk]
        exact (hp'.upd hA).snoc (sqT_upd hA (Fx.sqT e4 (fun z => z) hu))
      · refine cs_no fm0 trivial hD e4 hA hlen (Fx.refl trivial) ?_
        rw [stp, List.filter_append, List.filter_cons, if_neg (by rw [hk]; decide)]
        simpa using hp'
    · rw [hP.len, List.take_length] at hp'
      refine q D H4 acc _ (e1.trans (e2.trans e4)) hA hp' ⟨srt.filter _, nd.filter _, fun z => ?_⟩
      rw [List.mem_filter]
      exact ⟨fun h => ⟨mem z h.1, h.2⟩, fun h => ⟨all z h.1 h.2, h.2⟩⟩
theorem ok_heavy_places (T : Txt K mg C_Form) : Def P w K mg base 7 "heavy_places" ["form", "prime"] (sp_heavy_places K C_Form) := by
  obtain ⟨f_, fd_, g_, F_⟩ := T.d_heavy_places
  obtain ⟨p_Form_coefficients, f_Form_coefficients, fd_Form_coefficients, R_Form_coefficients, b_Form_coefficients, G_Form_coefficients⟩ := (ok_Form_coefficients (P := P) (w := w) (base := base) T)
  obtain ⟨f_check_form, fd_check_form, g_check_form, k_check_form, b_check_form, G_check_form⟩ := (ok_check_form (P := P) (w := w) (base := base) T)
  obtain ⟨f_check_prime, fd_check_prime, g_check_prime, k_check_prime, b_check_prime, G_check_prime⟩ := (ok_check_prime (P := P) (w := w) (base := base) T)
  obtain ⟨f_places_of_heavy_roots, fd_places_of_heavy_roots, g_places_of_heavy_roots, k_places_of_heavy_roots, b_places_of_heavy_roots, G_places_of_heavy_roots⟩ := (ok_places_of_heavy_roots (P := P) (w := w) (base := base) T)
  refine ⟨f_, fd_, g_, F_.kp, F_.binds (ps := ["form", "prime"]) (fun _ _ _ _ _ _ us hl => match us, hl with | [_, _], _ => rfl), ?_⟩
  refine F_.ok sc_heavy_places (fun vs H Q E h => ?_) (fun cdv A outer s H vs Q E hr h => ?_)
  · first | (obtain ⟨rfl, _⟩ := h; rfl) | (obtain ⟨_, rfl, _⟩ := h; rfl) | (obtain ⟨_, _, rfl, _⟩ := h; rfl) | (obtain ⟨_, _, _, rfl, _⟩ := h; rfl) | (obtain ⟨_, _, _, _, rfl, _⟩ := h; rfl) | (obtain ⟨_, _, _, _, _, rfl, _⟩ := h; rfl) | (obtain ⟨_, _, _, _, _, _, rfl, _⟩ := h; rfl) | (obtain ⟨_, _, _, _, _, _, _, rfl, _⟩ := h; rfl) | (obtain ⟨_, _, _, _, _, _, _, _, rfl, _⟩ := h; rfl) | (obtain ⟨_, _, _, _, _, _, _, _, _, rfl, _⟩ := h; rfl) | (obtain ⟨_, _, _, _, _, _, _, _, _, _, rfl, _⟩ := h; rfl) | (obtain ⟨_, _, _, _, _, _, _, _, _, _, _, rfl, _⟩ := h; rfl) | (obtain ⟨_, _, _, _, _, _, _, _, _, _, _, _, rfl, _⟩ := h; rfl) | (obtain ⟨_, _, _, _, _, _, _, _, _, _, _, _, _, rfl, _⟩ := h; rfl) | (obtain ⟨_, _, _, _, _, _, _, _, _, _, _, _, _, _, rfl, _⟩ := h; rfl) | (obtain ⟨_, _, _, _, _, _, _, _, _, _, _, _, _, _, _, rfl, _⟩ := h; rfl) | (obtain ⟨_, _, _, _, _, _, _, _, _, _, _, _, _, _, _, _, rfl, _⟩ := h; rfl) | (obtain ⟨_, _, _, _, _, _, _, _, _, _, _, _, _, _, _, _, _, rfl, _⟩ := h; rfl) | (obtain ⟨_, _, _, _, _, _, _, _, _, _, _, _, _, _, _, _, _, _, rfl, _⟩ := h; rfl) | (obtain ⟨_, _, _, _, _, _, _, _, _, _, _, _, _, _, _, _, _, _, _, rfl, _⟩ := h; rfl) | (obtain ⟨_, _, _, _, _, _, _, _, _, _, _, _, _, _, _, _, _, _, _, _, rfl, _⟩ := h; rfl) | (obtain ⟨_, _, _, _, _, _, _, _, _, _, _, _, _, _, _, _, _, _, _, _, _, rfl, _⟩ := h; rfl) | (obtain ⟨_, _, _, _, _, _, _, _, _, _, _, _, _, _, _, _, _, _, _, _, _, _, rfl, _⟩ := h; rfl) | (obtain ⟨_, _, _, _, _, _, _, _, _, _, _, _, _, _, _, _, _, _, _, _, _, _, _, rfl, _⟩ := h; rfl)
  · obtain ⟨z, a, b, c, d, p, rfl, hz, ba, bb, bc, bd, hp, p1, q⟩ := h
    refine ⟨_, (pss_cons (ps_expr (pe_call G_check_form (hr.mono (by decide)) (by rfl) g_check_form k_check_form b_check_form .nil pass0 (pa_cons (pv 0) pa_nil)))
    (pss_cons (ps_expr (pe_call G_check_prime (hr.mono (by decide)) (by rfl) g_check_prime k_check_prime b_check_prime .nil pass0 (pa_cons (pv 1) pa_nil)))
    (pss_one (ps_ret (pe_callTy call_tuple_of (by rfl) T.b_tuple (by decide +kernel) (pa_cons (pe_call G_places_of_heavy_roots (hr.mono (by decide)) (by rfl) g_places_of_heavy_roots k_places_of_heavy_roots b_places_of_heavy_roots .nil pass0 (pa_cons (pe_prop (pv 0) T.cl_Form R_Form_coefficients G_Form_coefficients (hr.mono (by decide)) b_Form_coefficients .nil pass0 (by rfl)) (pa_cons (pv 1) pa_nil))) pa_nil)))))), ?_⟩
    obtain ⟨dz, t0, hz1, hz2⟩ := id hz
    refine ⟨_, rfl, z, _, rfl, hz, ?_⟩
    refine ⟨_, rfl, p, rfl, by omega, hp, ?_⟩
    refine ⟨_, rfl, z, dz, _, rfl, hz1, z, _, rfl, hz, fun t ht => ?_⟩
    refine ⟨_, rfl, t, a, b, c, d, p, rfl, ht, ba, bb, bc, bd, hp, p1, fun l H' ys qs e hl hP has => ?_⟩
    refine ⟨l, ys, rfl, .inl ⟨SqL.of hl, fun o no => ?_⟩⟩
    exact q o _ ys qs (e.trans (Ex0.new no)) upd_same (hP.ex (Ex0.new no)) has
end
end K39
namespace K39
open PySem PySem.Spec PyProof.Rows L2 Fr
def B4 (n : Nat) (a b c d : Int) : Prop := B n a ∧ B n b ∧ B n c ∧ B n d
def B3 (n : Nat) (a b c : Int) : Prop := B n a ∧ B n b ∧ B n c
def ml2 (a b c d p q r s : Int) : Int := 3 * a * p * p * r + b * p * (p * s + 2 * q * r) + c * q * (q * r + 2 * p * s) + 3 * d * q * q * s
def ml3 (a b c d p q r s : Int) : Int := 3 * a * p * r * r + b * r * (r * q + 2 * p * s) + c * s * (s * p + 2 * q * r) + 3 * d * q * s * s
def tm0 (a b c d u v w x y z : Int) : Int := u * x - a * c * (v * y) - a * d * (v * z + w * y) - b * d * (w * z)
def tm1 (a b c d u v w x y z : Int) : Int := u * y + v * x + b * (v * y) + d * (w * z)
def tm2 (a b c d u v w x y z : Int) : Int := u * z + w * x - a * (v * y) - c * (w * z)
def tmL (a b c d u v w x y z : Int) : List Int := [tm0 a b c d u v w x y z, tm1 a b c d u v w x y z, tm2 a b c d u v w x y z]
def P33 (H : Hp) (o : Addr) (xs ys : List Int) : Prop := ∃ t1 t2, H o = some (.tup [.ref t1, .ref t2]) ∧ Ti H t1 xs ∧ Ti H t2 ys
theorem P33.ex {H H' : Hp} (e : Ex0 H H') {o : Addr} {xs ys : List Int} (h : P33 H o xs ys) : P33 H' o xs ys := by
  obtain ⟨t1, t2, h0, h1, h2⟩ := h
  exact ⟨t1, t2, Ex0.ap e h0, Ex0.ti e h1, Ex0.ti e h2⟩
def sp_l_kettle (K : PySem.W.Frag) (_ : Addr) : Sp := fun vs H Q _ => ∃ (a : Addr) (ns : List Int) (i : Nat), vs = [.ref a, .int (i : Int)] ∧ SqL K H a (ns.map V.int) ∧ ∀ p H', H p = none → Ex0 H H' → Vat p H' → Q (.ref p) H'
def sp_l_sip (_ : PySem.W.Frag) (_ : Addr) : Sp := fun vs H Q _ => ∃ (c : Addr) (t : Int), vs = [.ref c, .int t] ∧ Vat c H ∧ 0 < t ∧ t < 2 ^ 250 ∧ ∀ (r : Int) H', 0 ≤ r → r < t → Fv c H H' → Q (.int r) H'
def sp_l_taken (K : PySem.W.Frag) (_ : Addr) : Sp := fun vs H Q _ => ∃ (c l : Addr) (xs : List V), vs = [.ref c, .ref l] ∧ Vat c H ∧ H l = some (.lst xs) ∧ l ≠ c ∧ xs ≠ [] ∧ xs.length ≤ 1000 ∧ ∀ v H', v ∈ xs → Fv c H H' → Q v H'
def sp_l_value (_ : PySem.W.Frag) (_ : Addr) : Sp := fun vs H Q _ => ∃ (t : Addr) (a b c d x y : Int), vs = [.ref t, .int x, .int y] ∧ Ti H t [a, b, c, d] ∧ B 100 a ∧ B 100 b ∧ B 100 c ∧ B 100 d ∧ B 50 x ∧ B 50 y ∧ Q (.int (fv a b c d x y)) H
def Tq (K : PySem.W.Frag) (H : Hp) (u : Addr) (p q r s : Int) : Prop := ∃ t1 t2, SqT K H u [.ref t1, .ref t2] ∧ SqT K H t1 [.int p, .int q] ∧ SqT K H t2 [.int r, .int s]
theorem tq_of {K : PySem.W.Frag} {H : Hp} {u : Addr} {p q r s : Int} (h : T4 H u p q r s) : Tq K H u p q r s := by
  obtain ⟨t1, t2, h0, h1, h2⟩ := h
  exact ⟨t1, t2, SqT.of h0, SqT.of h1, SqT.of h2⟩
theorem unq4 {K : PySem.W.Frag} {i j k l : Nat} {σ : L2.St} {H : Hp} {a : Addr} {p q r s : Int} {Q : L2.St → Hp → Prop} (h : Tq K H a p q r s)
    (z : Q ((((σ.set i (some (.int p))).set j (some (.int q))).set k (some (.int r))).set l (some (.int s))) H) :
    gTup K 2 (gCons (gTup K 2 (gCons (gName i) (gCons (gName j) gNil))) (gCons (gTup K 2 (gCons (gName k) (gCons (gName l) gNil))) gNil)) (.ref a) σ H Q := by
  obtain ⟨t1, t2, h0, h1, h2⟩ := h
  refine ⟨a, _, rfl, h0, rfl, _, _, rfl, ?_⟩
  refine ⟨t1, _, rfl, h1, rfl, _, _, rfl, ?_⟩
  refine ⟨_, _, rfl, ⟨rfl, ?_⟩⟩
  refine ⟨_, _, rfl, ?_⟩
  refine ⟨t2, _, rfl, h2, rfl, _, _, rfl, ?_⟩
  exact ⟨_, _, rfl, ⟨rfl, ⟨rfl, z⟩⟩⟩
def sp_l_moved (K : PySem.W.Frag) (_ : Addr) : Sp := fun vs H Q _ => ∃ (t u : Addr) (a b c d p q r s : Int), vs = [.ref t, .ref u] ∧ Ti H t [a, b, c, d] ∧ Tq K H u p q r s ∧ B 100 a ∧ B 100 b ∧ B 100 c ∧ B 100 d ∧ B 50 p ∧ B 50 q ∧ B 50 r ∧ B 50 s ∧ ∀ o H', Ex0 H H' → Ti H' o [fv a b c d p q, ml2 a b c d p q r s, ml3 a b c d p q r s, fv a b c d r s] → Q (.ref o) H'
def sp_l_discriminant (_ : PySem.W.Frag) (_ : Addr) : Sp := fun vs H Q _ => ∃ (t : Addr) (a b c d : Int), vs = [.ref t] ∧ Ti H t [a, b, c, d] ∧ B 100 a ∧ B 100 b ∧ B 100 c ∧ B 100 d ∧ Q (.int (fdisc a b c d)) H
def sp_l_row (_ : PySem.W.Frag) (_ : Addr) : Sp := fun vs H Q _ => ∃ (c : Addr) (m : Int), vs = [.ref c, .int m] ∧ Vat c H ∧ 3 ≤ m ∧ m ≤ 1000000 ∧ ∀ t a b e d H', Fv c H H' → Ti H' t [a, b, e, d] → (∀ z ∈ [a, b, e, d], z.natAbs ≤ 1000000) → fdisc a b e d ≠ 0 → Q (.ref t) H'
def sp_l_places (K : PySem.W.Frag) (_ : Addr) : Sp := fun vs H Q _ => ∃ (p : Nat), vs = [.int (p : Int)] ∧ p < 1000 ∧ ∀ l H' ys qs, Ex0 H H' → H' l = some (.lst ys) → PrT K H' ys qs → qs.Perm (allP p) → qs.Pairwise lexP → Q (.ref l) H'
def sp_l_below (K : PySem.W.Frag) (_ : Addr) : Sp := fun vs H Q _ => ∃ (t u : Addr) (a b c d x y p : Int), vs = [.ref t, .int p, .ref u] ∧ Ti H t [a, b, c, d] ∧ SqT K H u [.int x, .int y] ∧ B 90 a ∧ B 90 b ∧ B 90 c ∧ B 90 d ∧ Plc p x y ∧ 0 < p ∧ p ≤ 1000 ∧ ∀ o H', Ex0 H H' → Ti H' o (within a b c d p x y) → Q (.ref o) H'
def sp_l_times (_ : PySem.W.Frag) (_ : Addr) : Sp := fun vs H Q _ => ∃ (t i j : Addr) (a b c d u v w x y z : Int), vs = [.ref t, .ref i, .ref j] ∧ Ti H t [a, b, c, d] ∧ Ti H i [u, v, w] ∧ Ti H j [x, y, z] ∧ B4 200 a b c d ∧ B3 200 u v w ∧ B3 200 x y z ∧ ∀ o H', Ex0 H H' → Ti H' o (tmL a b c d u v w x y z) → Q (.ref o) H'
def sp_l_prime (_ : PySem.W.Frag) (_ : Addr) : Sp := fun vs H Q _ => ∃ (c : Addr), vs = [.ref c] ∧ Vat c H ∧ ∀ (n : Nat) H', Fv c H H' → Pr n → n ≤ 13 → Q (.int (n : Int)) H'
def sp_l_content (_ : PySem.W.Frag) (_ : Addr) : Sp := fun vs H Q _ => ∃ (t : Addr) (ns : List Int), vs = [.ref t] ∧ Ti H t ns ∧ (∀ n ∈ ns, n.natAbs < 2 ^ 100) ∧ Q (.int (gcdL ns : Nat)) H
theorem pr_s : Pr 2 ∧ Pr 3 ∧ Pr 5 ∧ Pr 7 ∧ Pr 11 ∧ Pr 13 := by
  have k : ∀ n : Nat, 2 ≤ n → n ≤ 15 → n % 2 ≠ 0 ∨ n = 2 → n % 3 ≠ 0 ∨ n = 3 → Pr n := fun n h1 h2 h3 h4 => ⟨h1, fun c c1 c2 => by
    have c4 : c < 4 := by
      rcases Nat.lt_or_ge c 4 with h | h
      · exact h
      · have := Nat.mul_le_mul h h
        omega
    rcases (show c = 2 ∨ c = 3 by omega) with rfl | rfl
    · omega
    · omega⟩
  exact ⟨k 2 (by decide) (by decide) (by decide) (by decide), k 3 (by decide) (by decide) (by decide) (by decide), k 5 (by decide) (by decide) (by decide) (by decide), k 7 (by decide) (by decide) (by decide) (by decide), k 11 (by decide) (by decide) (by decide) (by decide), k 13 (by decide) (by decide) (by decide) (by decide)⟩
section
variable {P : Program} {w : World} {K : PySem.W.Frag} {mg : Str → Option Value} {base : Heap} {C_Form : Addr}
theorem ok_l_kettle (T : Txt K mg C_Form) : Def P w K mg base 1 "_law_kettle" ["_law_script", "_law_spot"] (sp_l_kettle K C_Form) := by
  obtain ⟨f_, fd_, g_, F_⟩ := T.d_l_kettle
  refine ⟨f_, fd_, g_, F_.kp, F_.binds (ps := ["_law_script", "_law_spot"]) (fun _ _ _ _ _ _ us hl => match us, hl with | [_, _], _ => rfl), ?_⟩
  refine F_.ok sc_l_kettle (fun vs H Q E h => ?_) (fun cdv A outer s H vs Q E hr h => ?_)
  · first | (obtain ⟨rfl, _⟩ := h; rfl) | (obtain ⟨_, rfl, _⟩ := h; rfl) | (obtain ⟨_, _, rfl, _⟩ := h; rfl) | (obtain ⟨_, _, _, rfl, _⟩ := h; rfl) | (obtain ⟨_, _, _, _, rfl, _⟩ := h; rfl) | (obtain ⟨_, _, _, _, _, rfl, _⟩ := h; rfl) | (obtain ⟨_, _, _, _, _, _, rfl, _⟩ := h; rfl) | (obtain ⟨_, _, _, _, _, _, _, rfl, _⟩ := h; rfl) | (obtain ⟨_, _, _, _, _, _, _, _, rfl, _⟩ := h; rfl) | (obtain ⟨_, _, _, _, _, _, _, _, _, rfl, _⟩ := h; rfl) | (obtain ⟨_, _, _, _, _, _, _, _, _, _, rfl, _⟩ := h; rfl) | (obtain ⟨_, _, _, _, _, _, _, _, _, _, _, rfl, _⟩ := h; rfl) | (obtain ⟨_, _, _, _, _, _, _, _, _, _, _, _, rfl, _⟩ := h; rfl) | (obtain ⟨_, _, _, _, _, _, _, _, _, _, _, _, _, rfl, _⟩ := h; rfl) | (obtain ⟨_, _, _, _, _, _, _, _, _, _, _, _, _, _, rfl, _⟩ := h; rfl) | (obtain ⟨_, _, _, _, _, _, _, _, _, _, _, _, _, _, _, rfl, _⟩ := h; rfl) | (obtain ⟨_, _, _, _, _, _, _, _, _, _, _, _, _, _, _, _, rfl, _⟩ := h; rfl) | (obtain ⟨_, _, _, _, _, _, _, _, _, _, _, _, _, _, _, _, _, rfl, _⟩ := h; rfl) | (obtain ⟨_, _, _, _, _, _, _, _, _, _, _, _, _, _, _, _, _, _, rfl, _⟩ := h; rfl) | (obtain ⟨_, _, _, _, _, _, _, _, _, _, _, _, _, _, _, _, _, _, _, rfl, _⟩ := h; rfl) | (obtain ⟨_, _, _, _, _, _, _, _, _, _, _, _, _, _, _, _, _, _, _, _, rfl, _⟩ := h; rfl) | (obtain ⟨_, _, _, _, _, _, _, _, _, _, _, _, _, _, _, _, _, _, _, _, _, rfl, _⟩ := h; rfl) | (obtain ⟨_, _, _, _, _, _, _, _, _, _, _, _, _, _, _, _, _, _, _, _, _, _, rfl, _⟩ := h; rfl) | (obtain ⟨_, _, _, _, _, _, _, _, _, _, _, _, _, _, _, _, _, _, _, _, _, _, _, rfl, _⟩ := h; rfl)
  · obtain ⟨a, ns, i, rfl, ha, q⟩ := h
    refine ⟨_, (Evl.pss_cut (ps_set (i := 2) sc_l_kettle.nd rfl (.inl rfl) (pe_ifExp (pt_cmpR op_lt (pv 1) (pe_callB call_len_seq (by rfl) T.b_len PySem.boot_len (pa_cons (pv 0) pa_nil)) (nomark _)) (pe_callTy call_int1 (by rfl) T.b_int (by decide +kernel) (pa_cons (pe_ix ix_list (pv 0) (pv 1) (fun _ _ => rfl)) pa_nil)) (pe_op op_add (pe_op op_mul pe_int (pv 1)) pe_int)))
    (pss_cons (ps_set (i := 3) sc_l_kettle.nd rfl (.inl rfl) (pe_op op_mod (pe_callTy call_int1 (by rfl) T.b_int (by decide +kernel) (pa_cons (pe_callB call_abs (by rfl) T.b_abs (by decide +kernel) (pa_cons (pv 2) pa_nil)) pa_nil)) (pe_op op_powC (pe_op op_pow pe_int pe_int) pe_int)))
    (pss_one (ps_ret (pe_lst (pa_cons (pe_callB (call_max2 rfl) (by rfl) T.b_max (by decide +kernel) (pa_cons pe_int (pa_cons (pe_op op_sub (pv 3) (pe_op op_pow pe_int pe_int)) pa_nil))) (pa_cons (pe_op op_add (pe_op op_add (pe_op op_add (pe_op op_mul (pe_op op_mod (pe_callTy call_int1 (by rfl) T.b_int (by decide +kernel) (pa_cons (pv 3) pa_nil)) pe_int) pe_int) (pe_op op_mul pe_int (pv 1))) (pe_op op_mul pe_int (pe_callTy call_int1 (by rfl) T.b_int (by decide +kernel) (pa_cons (pe_cmpR op_lt (pv 2) pe_int (nomark _)) pa_nil)))) pe_int) (pa_cons pe_int pa_nil)))))))), ?_⟩
    refine ⟨fun σ H' => ∃ cell : Int, σ = [some (.ref a), some (.int (i : Int)), some (.int cell), none] ∧ Ex0 H H', ?_, ?_⟩
    · refine ⟨_, rfl, _, rfl, a, _, rfl, .inl ha, _, _, rfl, rfl, _, rfl, iteD (fun g => ?_) (fun g => ?_)⟩
      · have hi : i < ns.length := by rw [List.length_map] at g; omega
        refine ⟨_, rfl, _, rfl, a, _, (i : Int), .int ns[i], rfl, rfl, ha, atI_nat (by rw [List.getElem?_map, List.getElem?_eq_getElem hi]; rfl), .inl ⟨_, rfl, ?_⟩⟩
        exact ⟨_, rfl, Ex0.refl H⟩
      · refine ⟨_, rfl, _, _, rfl, rfl, .inl ⟨by decide, by decide⟩, _, _, rfl, rfl, ?_⟩
        exact ⟨_, rfl, Ex0.refl H⟩
    · rintro σ H' ⟨cell, rfl, e⟩
      refine ⟨_, rfl, cell, rfl, .inl ⟨_, rfl, ?_⟩⟩
      refine ⟨_, _, rfl, rfl, ⟨by decide, by decide, by decide⟩, _, _, rfl, rfl, ⟨by decide, by decide +kernel⟩, _, _, rfl, rfl, by show (0 : Int) < (10 ^ 55) ^ 5; decide +kernel, ?_⟩
      refine ⟨_, rfl, _, _, rfl, rfl, ⟨by decide, by decide, by decide⟩, _, _, rfl, rfl, _, _, rfl, ?_⟩
      refine ⟨_, rfl, .inl ⟨_, rfl, _, _, rfl, rfl, (show (0 : Int) < 2147483587 by decide), _, _, rfl, rfl, .inr ⟨by decide, by decide⟩, _, rfl, _, _, rfl, rfl, .inl ⟨by decide, by decide⟩, _, _, rfl, rfl, ?_⟩⟩
      refine ⟨_, rfl, _, _, rfl, rfl, .inr ⟨_, rfl, _, _, rfl, rfl, .inl ⟨by decide, by decide⟩, _, _, rfl, rfl, _, _, rfl, rfl, ?_⟩⟩
      refine ⟨sl3, fun p hp => ?_⟩
      exact q p _ (Fx.free e (fun z => z) hp) (e.trans (Ex0.new hp)) ⟨_, _, _, upd_same⟩
theorem ok_l_sip (T : Txt K mg C_Form) : Def P w K mg base 1 "_law_sip" ["_law_kettle_here", "_law_top"] (sp_l_sip K C_Form) := by
  obtain ⟨f_, fd_, g_, F_⟩ := T.d_l_sip
  refine ⟨f_, fd_, g_, F_.kp, F_.binds (ps := ["_law_kettle_here", "_law_top"]) (fun _ _ _ _ _ _ us hl => match us, hl with | [_, _], _ => rfl), ?_⟩
  refine F_.ok sc_l_sip (fun vs H Q E h => ?_) (fun cdv A outer s H vs Q E hr h => ?_)
  · first | (obtain ⟨rfl, _⟩ := h; rfl) | (obtain ⟨_, rfl, _⟩ := h; rfl) | (obtain ⟨_, _, rfl, _⟩ := h; rfl) | (obtain ⟨_, _, _, rfl, _⟩ := h; rfl) | (obtain ⟨_, _, _, _, rfl, _⟩ := h; rfl) | (obtain ⟨_, _, _, _, _, rfl, _⟩ := h; rfl) | (obtain ⟨_, _, _, _, _, _, rfl, _⟩ := h; rfl) | (obtain ⟨_, _, _, _, _, _, _, rfl, _⟩ := h; rfl) | (obtain ⟨_, _, _, _, _, _, _, _, rfl, _⟩ := h; rfl) | (obtain ⟨_, _, _, _, _, _, _, _, _, rfl, _⟩ := h; rfl) | (obtain ⟨_, _, _, _, _, _, _, _, _, _, rfl, _⟩ := h; rfl) | (obtain ⟨_, _, _, _, _, _, _, _, _, _, _, rfl, _⟩ := h; rfl) | (obtain ⟨_, _, _, _, _, _, _, _, _, _, _, _, rfl, _⟩ := h; rfl) | (obtain ⟨_, _, _, _, _, _, _, _, _, _, _, _, _, rfl, _⟩ := h; rfl) | (obtain ⟨_, _, _, _, _, _, _, _, _, _, _, _, _, _, rfl, _⟩ := h; rfl) | (obtain ⟨_, _, _, _, _, _, _, _, _, _, _, _, _, _, _, rfl, _⟩ := h; rfl) | (obtain ⟨_, _, _, _, _, _, _, _, _, _, _, _, _, _, _, _, rfl, _⟩ := h; rfl) | (obtain ⟨_, _, _, _, _, _, _, _, _, _, _, _, _, _, _, _, _, rfl, _⟩ := h; rfl) | (obtain ⟨_, _, _, _, _, _, _, _, _, _, _, _, _, _, _, _, _, _, rfl, _⟩ := h; rfl) | (obtain ⟨_, _, _, _, _, _, _, _, _, _, _, _, _, _, _, _, _, _, _, rfl, _⟩ := h; rfl) | (obtain ⟨_, _, _, _, _, _, _, _, _, _, _, _, _, _, _, _, _, _, _, _, rfl, _⟩ := h; rfl) | (obtain ⟨_, _, _, _, _, _, _, _, _, _, _, _, _, _, _, _, _, _, _, _, _, rfl, _⟩ := h; rfl) | (obtain ⟨_, _, _, _, _, _, _, _, _, _, _, _, _, _, _, _, _, _, _, _, _, _, rfl, _⟩ := h; rfl) | (obtain ⟨_, _, _, _, _, _, _, _, _, _, _, _, _, _, _, _, _, _, _, _, _, _, _, rfl, _⟩ := h; rfl)
  · obtain ⟨c, t, rfl, ⟨x, y, z, hv⟩, h0, h1, q⟩ := h
    refine ⟨_, (pss_cons (ps_if (pt_cmpR op_gt (pe_ix ix_list (pv 0) pe_int (fun _ _ => rfl)) pe_int (nomark _))
      (pss_cons (ps_set (i := 2) sc_l_sip.nd rfl (.inl rfl) (pe_op op_mod (pe_callTy call_int1 (by rfl) T.b_int (by decide +kernel) (pa_cons (pe_ix ix_list (pv 0) pe_int (fun _ _ => rfl)) pa_nil)) (pv 1)))
    (pss_cons (ps_asg (pe_op op_fdivW (pe_ix ix_list (pv 0) pe_int (fun _ _ => rfl)) (pv 1)) (pg_sub (pv 0) pe_int set_list))
    (pss_one (ps_ret (pv 2)))))
      pss_nil)
    (pss_cons (ps_asg (pe_op op_add (pe_ix ix_list (pv 0) pe_int (fun _ _ => rfl)) pe_int) (pg_sub (pv 0) pe_int set_list))
    (pss_cons (ps_set (i := 3) sc_l_sip.nd rfl (.inl rfl) (pe_op op_mod (pe_callTy call_int1 (by rfl) T.b_int (by decide +kernel) (pa_cons (pe_op op_add (pe_ix ix_list (pv 0) pe_int (fun _ _ => rfl)) (pe_op op_mul pe_int (pe_ix ix_list (pv 0) pe_int (fun _ _ => rfl)))) pa_nil)) pe_int))
    (pss_cons (ps_set (i := 4) sc_l_sip.nd rfl (.inl rfl) (pe_op op_add (pe_op op_mul (pe_op op_mod (pe_callTy call_int1 (by rfl) T.b_int (by decide +kernel) (pa_cons (pe_op op_add (pe_op op_mul (pv 3) (pv 3)) (pe_op op_mul pe_int (pe_ix ix_list (pv 0) pe_int (fun _ _ => rfl)))) pa_nil)) pe_int) pe_int) (pv 3)))
    (pss_one (ps_ret (pe_op op_mod (pe_callTy call_int1 (by rfl) T.b_int (by decide +kernel) (pa_cons (pe_op op_fdivW (pv 4) pe_int) pa_nil)) (pv 1)))))))), ?_⟩
    have fv : ∀ (H' : Hp) (x' y' z' : Int), (∀ b o, b ≠ c → H b = some o → H' b = some o) → H' c = some (.lst [.int x', .int y', .int z']) → Fv c H H' := fun H' x' y' z' a b => ⟨⟨x', y', z', b⟩, a⟩
    refine ⟨_, rfl, c, _, 0, .int x, rfl, rfl, SqL.of hv, rfl, x, 0, rfl, rfl, _, rfl, iteD (fun g => ?_) (fun g => ?_)⟩
    · refine ⟨_, rfl, c, _, 0, .int x, rfl, rfl, SqL.of hv, rfl, .inl ⟨x, rfl, _, rfl, x, t, rfl, rfl, h0, ?_⟩⟩
      refine ⟨_, rfl, c, _, 0, .int x, rfl, rfl, SqL.of hv, rfl, _, rfl, x, t, rfl, rfl, dw h0 h1, ?_⟩
      refine ⟨_, rfl, c, _, 0, 0, rfl, rfl, hv, rfl, ?_⟩
      refine ⟨_, rfl, ?_⟩
      exact q _ _ (Int.emod_nonneg _ (by omega)) (Int.emod_lt_of_pos _ h0) (fv _ _ _ _ (fun b o n e => by rw [upd_ne n]; exact e) upd_same)
    · refine ⟨_, rfl, c, _, 2, .int z, rfl, rfl, SqL.of hv, rfl, _, 1, rfl, rfl, ?_⟩
      refine ⟨_, rfl, c, _, 2, 2, rfl, rfl, hv, rfl, ?_⟩
      have hv2 : upd H c (.lst [.int x, .int y, .int (z + 1)]) c = some (.lst [.int x, .int y, .int (z + 1)]) := upd_same
      refine ⟨_, rfl, c, _, 1, .int y, rfl, rfl, SqL.of hv2, rfl, _, rfl, c, _, 2, .int (z + 1), rfl, rfl, SqL.of hv2, rfl, _, _, rfl, rfl, .inl ⟨by decide, by decide⟩, _, _, rfl, rfl, .inl ⟨_, rfl, ?_⟩⟩
      refine ⟨_, _, rfl, rfl, (show (0 : Int) < 2305843009213693951 by decide), ?_⟩
      refine ⟨_, rfl, _, rfl, _, _, rfl, rfl, .inl ⟨by omega, by omega⟩, ?_⟩
      refine ⟨_, rfl, c, _, 2, .int (z + 1), rfl, rfl, SqL.of hv2, rfl, _, _, rfl, rfl, .inl ⟨by decide, by decide⟩, _, _, rfl, rfl, .inl ⟨_, rfl, ?_⟩⟩
      refine ⟨_, _, rfl, rfl, (show (0 : Int) < 2305843009213693951 by decide), _, _, rfl, rfl, .inr ⟨by decide, by decide⟩, ?_⟩
      refine ⟨_, rfl, _, _, rfl, rfl, ?_⟩
      refine ⟨_, rfl, _, _, rfl, rfl, dw (by decide) (by decide), .inl ⟨_, rfl, _, rfl, _, _, rfl, rfl, h0, ?_⟩⟩
      exact q _ _ (Int.emod_nonneg _ (by omega)) (Int.emod_lt_of_pos _ h0) (fv _ _ _ _ (fun b o n e => by rw [upd_ne n]; exact e) hv2)
theorem ok_l_taken (T : Txt K mg C_Form) : Def P w K mg base 2 "_law_taken" ["_law_kettle_here", "_law_items"] (sp_l_taken K C_Form) := by
  obtain ⟨f_, fd_, g_, F_⟩ := T.d_l_taken
  obtain ⟨f_l_sip, fd_l_sip, g_l_sip, k_l_sip, b_l_sip, G_l_sip⟩ := (ok_l_sip (P := P) (w := w) (base := base) T)
  refine ⟨f_, fd_, g_, F_.kp, F_.binds (ps := ["_law_kettle_here", "_law_items"]) (fun _ _ _ _ _ _ us hl => match us, hl with | [_, _], _ => rfl), ?_⟩
  refine F_.ok sc_l_taken (fun vs H Q E h => ?_) (fun cdv A outer s H vs Q E hr h => ?_)
  · first | (obtain ⟨rfl, _⟩ := h; rfl) | (obtain ⟨_, rfl, _⟩ := h; rfl) | (obtain ⟨_, _, rfl, _⟩ := h; rfl) | (obtain ⟨_, _, _, rfl, _⟩ := h; rfl) | (obtain ⟨_, _, _, _, rfl, _⟩ := h; rfl) | (obtain ⟨_, _, _, _, _, rfl, _⟩ := h; rfl) | (obtain ⟨_, _, _, _, _, _, rfl, _⟩ := h; rfl) | (obtain ⟨_, _, _, _, _, _, _, rfl, _⟩ := h; rfl) | (obtain ⟨_, _, _, _, _, _, _, _, rfl, _⟩ := h; rfl) | (obtain ⟨_, _, _, _, _, _, _, _, _, rfl, _⟩ := h; rfl) | (obtain ⟨_, _, _, _, _, _, _, _, _, _, rfl, _⟩ := h; rfl) | (obtain ⟨_, _, _, _, _, _, _, _, _, _, _, rfl, _⟩ := h; rfl) | (obtain ⟨_, _, _, _, _, _, _, _, _, _, _, _, rfl, _⟩ := h; rfl) | (obtain ⟨_, _, _, _, _, _, _, _, _, _, _, _, _, rfl, _⟩ := h; rfl) | (obtain ⟨_, _, _, _, _, _, _, _, _, _, _, _, _, _, rfl, _⟩ := h; rfl) | (obtain ⟨_, _, _, _, _, _, _, _, _, _, _, _, _, _, _, rfl, _⟩ := h; rfl) | (obtain ⟨_, _, _, _, _, _, _, _, _, _, _, _, _, _, _, _, rfl, _⟩ := h; rfl) | (obtain ⟨_, _, _, _, _, _, _, _, _, _, _, _, _, _, _, _, _, rfl, _⟩ := h; rfl) | (obtain ⟨_, _, _, _, _, _, _, _, _, _, _, _, _, _, _, _, _, _, rfl, _⟩ := h; rfl) | (obtain ⟨_, _, _, _, _, _, _, _, _, _, _, _, _, _, _, _, _, _, _, rfl, _⟩ := h; rfl) | (obtain ⟨_, _, _, _, _, _, _, _, _, _, _, _, _, _, _, _, _, _, _, _, rfl, _⟩ := h; rfl) | (obtain ⟨_, _, _, _, _, _, _, _, _, _, _, _, _, _, _, _, _, _, _, _, _, rfl, _⟩ := h; rfl) | (obtain ⟨_, _, _, _, _, _, _, _, _, _, _, _, _, _, _, _, _, _, _, _, _, _, rfl, _⟩ := h; rfl) | (obtain ⟨_, _, _, _, _, _, _, _, _, _, _, _, _, _, _, _, _, _, _, _, _, _, _, rfl, _⟩ := h; rfl)
  · obtain ⟨c, l, xs, rfl, hc, hl, ne, hx, hz, q⟩ := h
    refine ⟨_, (pss_one (ps_ret (pe_ix ix_list (pv 1) (pe_call G_l_sip (hr.mono (by decide)) (by rfl) g_l_sip k_l_sip b_l_sip .nil pass0 (pa_cons (pv 0) (pa_cons (pe_callB call_len_seq (by rfl) T.b_len PySem.boot_len (pa_cons (pv 1) pa_nil)) pa_nil))) (fun _ _ => rfl)))), ?_⟩
    have h0 : 0 < xs.length := List.length_pos_iff.mpr hx
    refine ⟨_, rfl, _, rfl, _, rfl, l, xs, rfl, .inl (SqL.of hl), c, _, rfl, hc, by omega, by omega, fun r H' r0 r1 e => ?_⟩
    obtain ⟨j, rfl⟩ : ∃ j : Nat, r = (j : Int) := ⟨r.toNat, by omega⟩
    have hj : j < xs.length := by omega
    exact ⟨l, xs, _, xs[j], rfl, rfl, SqL.of (e.2 _ _ ne hl), atI_nat (List.getElem?_eq_getElem hj), q _ _ (List.getElem_mem hj) e⟩
theorem ok_l_prime (T : Txt K mg C_Form) : Def P w K mg base 3 "_law_prime" ["_law_kettle_here"] (sp_l_prime K C_Form) := by
  obtain ⟨f_, fd_, g_, F_⟩ := T.d_l_prime
  obtain ⟨f_l_taken, fd_l_taken, g_l_taken, k_l_taken, b_l_taken, G_l_taken⟩ := (ok_l_taken (P := P) (w := w) (base := base) T)
  refine ⟨f_, fd_, g_, F_.kp, F_.binds (ps := ["_law_kettle_here"]) (fun _ _ _ _ _ _ us hl => match us, hl with | [_], _ => rfl), ?_⟩
  refine F_.ok sc_l_prime (fun vs H Q E h => ?_) (fun cdv A outer s H vs Q E hr h => ?_)
  · first | (obtain ⟨rfl, _⟩ := h; rfl) | (obtain ⟨_, rfl, _⟩ := h; rfl) | (obtain ⟨_, _, rfl, _⟩ := h; rfl) | (obtain ⟨_, _, _, rfl, _⟩ := h; rfl) | (obtain ⟨_, _, _, _, rfl, _⟩ := h; rfl) | (obtain ⟨_, _, _, _, _, rfl, _⟩ := h; rfl) | (obtain ⟨_, _, _, _, _, _, rfl, _⟩ := h; rfl) | (obtain ⟨_, _, _, _, _, _, _, rfl, _⟩ := h; rfl) | (obtain ⟨_, _, _, _, _, _, _, _, rfl, _⟩ := h; rfl) | (obtain ⟨_, _, _, _, _, _, _, _, _, rfl, _⟩ := h; rfl) | (obtain ⟨_, _, _, _, _, _, _, _, _, _, rfl, _⟩ := h; rfl) | (obtain ⟨_, _, _, _, _, _, _, _, _, _, _, rfl, _⟩ := h; rfl) | (obtain ⟨_, _, _, _, _, _, _, _, _, _, _, _, rfl, _⟩ := h; rfl) | (obtain ⟨_, _, _, _, _, _, _, _, _, _, _, _, _, rfl, _⟩ := h; rfl) | (obtain ⟨_, _, _, _, _, _, _, _, _, _, _, _, _, _, rfl, _⟩ := h; rfl) | (obtain ⟨_, _, _, _, _, _, _, _, _, _, _, _, _, _, _, rfl, _⟩ := h; rfl) | (obtain ⟨_, _, _, _, _, _, _, _, _, _, _, _, _, _, _, _, rfl, _⟩ := h; rfl) | (obtain ⟨_, _, _, _, _, _, _, _, _, _, _, _, _, _, _, _, _, rfl, _⟩ := h; rfl) | (obtain ⟨_, _, _, _, _, _, _, _, _, _, _, _, _, _, _, _, _, _, rfl, _⟩ := h; rfl) | (obtain ⟨_, _, _, _, _, _, _, _, _, _, _, _, _, _, _, _, _, _, _, rfl, _⟩ := h; rfl) | (obtain ⟨_, _, _, _, _, _, _, _, _, _, _, _, _, _, _, _, _, _, _, _, rfl, _⟩ := h; rfl) | (obtain ⟨_, _, _, _, _, _, _, _, _, _, _, _, _, _, _, _, _, _, _, _, _, rfl, _⟩ := h; rfl) | (obtain ⟨_, _, _, _, _, _, _, _, _, _, _, _, _, _, _, _, _, _, _, _, _, _, rfl, _⟩ := h; rfl) | (obtain ⟨_, _, _, _, _, _, _, _, _, _, _, _, _, _, _, _, _, _, _, _, _, _, _, rfl, _⟩ := h; rfl)
  · obtain ⟨c, rfl, hc, q⟩ := h
    refine ⟨_, (pss_one (ps_ret (pe_call G_l_taken (hr.mono (by decide)) (by rfl) g_l_taken k_l_taken b_l_taken .nil pass0 (pa_cons (pv 0) (pa_cons (pe_lst (pa_cons pe_int (pa_cons pe_int (pa_cons pe_int (pa_cons pe_int (pa_cons pe_int (pa_cons pe_int (pa_cons pe_int (pa_cons pe_int pa_nil))))))))) pa_nil))))), ?_⟩
    refine ⟨_, rfl, (by decide : 8 ≤ sizeLine), fun l nl => ?_⟩
    have f1 := fv_new (o := .lst [.int 2, .int 2, .int 3, .int 3, .int 5, .int 7, .int 11, .int 13]) hc nl
    refine ⟨c, l, _, rfl, f1.1, upd_same, fv_ne hc nl, by simp, by show 8 ≤ 1000; decide, fun v H2 hv e2 => ?_⟩
    have e := f1.trans e2
    obtain ⟨k2, k3, k5, k7, k11, k13⟩ := pr_s
    simp only [List.mem_cons, List.mem_nil_iff, or_false] at hv
    rcases hv with rfl | rfl | rfl | rfl | rfl | rfl | rfl | rfl
    · exact q 2 H2 e k2 (by decide)
    · exact q 2 H2 e k2 (by decide)
    · exact q 3 H2 e k3 (by decide)
    · exact q 3 H2 e k3 (by decide)
    · exact q 5 H2 e k5 (by decide)
    · exact q 7 H2 e k7 (by decide)
    · exact q 11 H2 e k11 (by decide)
    · exact q 13 H2 e k13 (by decide)
theorem ok_l_value (T : Txt K mg C_Form) : Def P w K mg base 1 "_law_value" ["_law_row_here", "_law_x", "_law_y"] (sp_l_value K C_Form) := by
  obtain ⟨f_, fd_, g_, F_⟩ := T.d_l_value
  refine ⟨f_, fd_, g_, F_.kp, F_.binds (ps := ["_law_row_here", "_law_x", "_law_y"]) (fun _ _ _ _ _ _ us hl => match us, hl with | [_, _, _], _ => rfl), ?_⟩
  refine F_.ok sc_l_value (fun vs H Q E h => ?_) (fun cdv A outer s H vs Q E hr h => ?_)
  · first | (obtain ⟨rfl, _⟩ := h; rfl) | (obtain ⟨_, rfl, _⟩ := h; rfl) | (obtain ⟨_, _, rfl, _⟩ := h; rfl) | (obtain ⟨_, _, _, rfl, _⟩ := h; rfl) | (obtain ⟨_, _, _, _, rfl, _⟩ := h; rfl) | (obtain ⟨_, _, _, _, _, rfl, _⟩ := h; rfl) | (obtain ⟨_, _, _, _, _, _, rfl, _⟩ := h; rfl) | (obtain ⟨_, _, _, _, _, _, _, rfl, _⟩ := h; rfl) | (obtain ⟨_, _, _, _, _, _, _, _, rfl, _⟩ := h; rfl) | (obtain ⟨_, _, _, _, _, _, _, _, _, rfl, _⟩ := h; rfl) | (obtain ⟨_, _, _, _, _, _, _, _, _, _, rfl, _⟩ := h; rfl) | (obtain ⟨_, _, _, _, _, _, _, _, _, _, _, rfl, _⟩ := h; rfl) | (obtain ⟨_, _, _, _, _, _, _, _, _, _, _, _, rfl, _⟩ := h; rfl) | (obtain ⟨_, _, _, _, _, _, _, _, _, _, _, _, _, rfl, _⟩ := h; rfl) | (obtain ⟨_, _, _, _, _, _, _, _, _, _, _, _, _, _, rfl, _⟩ := h; rfl) | (obtain ⟨_, _, _, _, _, _, _, _, _, _, _, _, _, _, _, rfl, _⟩ := h; rfl) | (obtain ⟨_, _, _, _, _, _, _, _, _, _, _, _, _, _, _, _, rfl, _⟩ := h; rfl) | (obtain ⟨_, _, _, _, _, _, _, _, _, _, _, _, _, _, _, _, _, rfl, _⟩ := h; rfl) | (obtain ⟨_, _, _, _, _, _, _, _, _, _, _, _, _, _, _, _, _, _, rfl, _⟩ := h; rfl) | (obtain ⟨_, _, _, _, _, _, _, _, _, _, _, _, _, _, _, _, _, _, _, rfl, _⟩ := h; rfl) | (obtain ⟨_, _, _, _, _, _, _, _, _, _, _, _, _, _, _, _, _, _, _, _, rfl, _⟩ := h; rfl) | (obtain ⟨_, _, _, _, _, _, _, _, _, _, _, _, _, _, _, _, _, _, _, _, _, rfl, _⟩ := h; rfl) | (obtain ⟨_, _, _, _, _, _, _, _, _, _, _, _, _, _, _, _, _, _, _, _, _, _, rfl, _⟩ := h; rfl) | (obtain ⟨_, _, _, _, _, _, _, _, _, _, _, _, _, _, _, _, _, _, _, _, _, _, _, rfl, _⟩ := h; rfl)
  · obtain ⟨t, a, b, c, d, x, y, rfl, ht, ba, bb, bc, bd, bx, by', q⟩ := h
    refine ⟨_, (pss_cons (ps_asg (pv 0) (pg_tup (by rfl) (pgs_cons (pg_name (i := 3) sc_l_value.nd rfl (.inl rfl)) (pgs_cons (pg_name (i := 4) sc_l_value.nd rfl (.inl rfl)) (pgs_cons (pg_name (i := 5) sc_l_value.nd rfl (.inl rfl)) (pgs_cons (pg_name (i := 6) sc_l_value.nd rfl (.inl rfl)) pgs_nil))))))
    (pss_one (ps_ret (pe_op op_add (pe_op op_add (pe_op op_add (pe_op op_mulW (pe_op op_mulW (pe_op op_mulW (pv 3) (pv 1)) (pv 1)) (pv 1)) (pe_op op_mulW (pe_op op_mulW (pe_op op_mulW (pv 4) (pv 1)) (pv 1)) (pv 2))) (pe_op op_mulW (pe_op op_mulW (pe_op op_mulW (pv 5) (pv 1)) (pv 2)) (pv 2))) (pe_op op_mulW (pe_op op_mulW (pe_op op_mulW (pv 6) (pv 2)) (pv 2)) (pv 2)))))), ?_⟩
    refine ⟨_, rfl, unI4 ht ?_⟩
    exact ⟨_, rfl, _, rfl, _, _, rfl, rfl, mulB (by with_reducible assumption) (by with_reducible assumption) (by decide), _, rfl, _, _, rfl, rfl, mulB (B.mul (by with_reducible assumption) (by with_reducible assumption)) (by with_reducible assumption) (by decide), _, rfl, _, _, rfl, rfl, mulB (B.mul (B.mul (by with_reducible assumption) (by with_reducible assumption)) (by with_reducible assumption)) (by with_reducible assumption) (by decide), _, rfl, _, rfl, _, _, rfl, rfl, mulB (by with_reducible assumption) (by with_reducible assumption) (by decide), _, rfl, _, _, rfl, rfl, mulB (B.mul (by with_reducible assumption) (by with_reducible assumption)) (by with_reducible assumption) (by decide), _, rfl, _, _, rfl, rfl, mulB (B.mul (B.mul (by with_reducible assumption) (by with_reducible assumption)) (by with_reducible assumption)) (by with_reducible assumption) (by decide), _, _, rfl, rfl, _, rfl, _, rfl, _, _, rfl, rfl, mulB (by with_reducible assumption) (by with_reducible assumption) (by decide), _, rfl, _, _, rfl, rfl, mulB (B.mul (by with_reducible assumption) (by with_reducible assumption)) (by with_reducible assumption) (by decide), _, rfl, _, _, rfl, rfl, mulB (B.mul (B.mul (by with_reducible assumption) (by with_reducible assumption)) (by with_reducible assumption)) (by with_reducible assumption) (by decide), _, _, rfl, rfl, _, rfl, _, rfl, _, _, rfl, rfl, mulB (by with_reducible assumption) (by with_reducible assumption) (by decide), _, rfl, _, _, rfl, rfl, mulB (B.mul (by with_reducible assumption) (by with_reducible assumption)) (by with_reducible assumption) (by decide), _, rfl, _, _, rfl, rfl, mulB (B.mul (B.mul (by with_reducible assumption) (by with_reducible assumption)) (by with_reducible assumption)) (by with_reducible assumption) (by decide), _, _, rfl, rfl, q⟩
theorem ok_l_moved (T : Txt K mg C_Form) : Def P w K mg base 2 "_law_moved" ["_law_row_here", "_law_change_here"] (sp_l_moved K C_Form) := by
  obtain ⟨f_, fd_, g_, F_⟩ := T.d_l_moved
  obtain ⟨f_l_value, fd_l_value, g_l_value, k_l_value, b_l_value, G_l_value⟩ := (ok_l_value (P := P) (w := w) (base := base) T)
  refine ⟨f_, fd_, g_, F_.kp, F_.binds (ps := ["_law_row_here", "_law_change_here"]) (fun _ _ _ _ _ _ us hl => match us, hl with | [_, _], _ => rfl), ?_⟩
  refine F_.ok sc_l_moved (fun vs H Q E h => ?_) (fun cdv A outer s H vs Q E hr h => ?_)
  · first | (obtain ⟨rfl, _⟩ := h; rfl) | (obtain ⟨_, rfl, _⟩ := h; rfl) | (obtain ⟨_, _, rfl, _⟩ := h; rfl) | (obtain ⟨_, _, _, rfl, _⟩ := h; rfl) | (obtain ⟨_, _, _, _, rfl, _⟩ := h; rfl) | (obtain ⟨_, _, _, _, _, rfl, _⟩ := h; rfl) | (obtain ⟨_, _, _, _, _, _, rfl, _⟩ := h; rfl) | (obtain ⟨_, _, _, _, _, _, _, rfl, _⟩ := h; rfl) | (obtain ⟨_, _, _, _, _, _, _, _, rfl, _⟩ := h; rfl) | (obtain ⟨_, _, _, _, _, _, _, _, _, rfl, _⟩ := h; rfl) | (obtain ⟨_, _, _, _, _, _, _, _, _, _, rfl, _⟩ := h; rfl) | (obtain ⟨_, _, _, _, _, _, _, _, _, _, _, rfl, _⟩ := h; rfl) | (obtain ⟨_, _, _, _, _, _, _, _, _, _, _, _, rfl, _⟩ := h; rfl) | (obtain ⟨_, _, _, _, _, _, _, _, _, _, _, _, _, rfl, _⟩ := h; rfl) | (obtain ⟨_, _, _, _, _, _, _, _, _, _, _, _, _, _, rfl, _⟩ := h; rfl) | (obtain ⟨_, _, _, _, _, _, _, _, _, _, _, _, _, _, _, rfl, _⟩ := h; rfl) | (obtain ⟨_, _, _, _, _, _, _, _, _, _, _, _, _, _, _, _, rfl, _⟩ := h; rfl) | (obtain ⟨_, _, _, _, _, _, _, _, _, _, _, _, _, _, _, _, _, rfl, _⟩ := h; rfl) | (obtain ⟨_, _, _, _, _, _, _, _, _, _, _, _, _, _, _, _, _, _, rfl, _⟩ := h; rfl) | (obtain ⟨_, _, _, _, _, _, _, _, _, _, _, _, _, _, _, _, _, _, _, rfl, _⟩ := h; rfl) | (obtain ⟨_, _, _, _, _, _, _, _, _, _, _, _, _, _, _, _, _, _, _, _, rfl, _⟩ := h; rfl) | (obtain ⟨_, _, _, _, _, _, _, _, _, _, _, _, _, _, _, _, _, _, _, _, _, rfl, _⟩ := h; rfl) | (obtain ⟨_, _, _, _, _, _, _, _, _, _, _, _, _, _, _, _, _, _, _, _, _, _, rfl, _⟩ := h; rfl) | (obtain ⟨_, _, _, _, _, _, _, _, _, _, _, _, _, _, _, _, _, _, _, _, _, _, _, rfl, _⟩ := h; rfl)
  · obtain ⟨t, u, a, b, c, d, p, q', r, s', rfl, ht, h4, ba, bb, bc, bd, bp, bq, br, bs, q⟩ := h
    refine ⟨_, (pss_cons (ps_asg (pv 0) (pg_tup (by rfl) (pgs_cons (pg_name (i := 2) sc_l_moved.nd rfl (.inl rfl)) (pgs_cons (pg_name (i := 3) sc_l_moved.nd rfl (.inl rfl)) (pgs_cons (pg_name (i := 4) sc_l_moved.nd rfl (.inl rfl)) (pgs_cons (pg_name (i := 5) sc_l_moved.nd rfl (.inl rfl)) pgs_nil))))))
    (Evl.pss_cut (ps_asg (pv 1) (pg_tup (by rfl) (pgs_cons (pg_tup (by rfl) (pgs_cons (pg_name (i := 6) sc_l_moved.nd rfl (.inl rfl)) (pgs_cons (pg_name (i := 7) sc_l_moved.nd rfl (.inl rfl)) pgs_nil))) (pgs_cons (pg_tup (by rfl) (pgs_cons (pg_name (i := 8) sc_l_moved.nd rfl (.inl rfl)) (pgs_cons (pg_name (i := 9) sc_l_moved.nd rfl (.inl rfl)) pgs_nil))) pgs_nil))))
    (pss_cons (ps_set (i := 10) sc_l_moved.nd rfl (.inl rfl) (pe_op op_add (pe_op op_mulW (pe_op op_mulW (pe_op op_mulW (pe_op op_mulW pe_int (pv 2)) (pv 6)) (pv 6)) (pv 8)) (pe_op op_mulW (pe_op op_mulW (pv 3) (pv 6)) (pe_op op_add (pe_op op_mulW (pv 6) (pv 9)) (pe_op op_mulW (pe_op op_mulW pe_int (pv 7)) (pv 8))))))
    (Evl.pss_cut (ps_set (i := 10) sc_l_moved.nd rfl (.inl rfl) (pe_op op_add (pe_op op_add (pv 10) (pe_op op_mulW (pe_op op_mulW (pv 4) (pv 7)) (pe_op op_add (pe_op op_mulW (pv 7) (pv 8)) (pe_op op_mulW (pe_op op_mulW pe_int (pv 6)) (pv 9))))) (pe_op op_mulW (pe_op op_mulW (pe_op op_mulW (pe_op op_mulW pe_int (pv 5)) (pv 7)) (pv 7)) (pv 9))))
    (pss_cons (ps_set (i := 11) sc_l_moved.nd rfl (.inl rfl) (pe_op op_add (pe_op op_mulW (pe_op op_mulW (pe_op op_mulW (pe_op op_mulW pe_int (pv 2)) (pv 6)) (pv 8)) (pv 8)) (pe_op op_mulW (pe_op op_mulW (pv 3) (pv 8)) (pe_op op_add (pe_op op_mulW (pv 8) (pv 7)) (pe_op op_mulW (pe_op op_mulW pe_int (pv 6)) (pv 9))))))
    (Evl.pss_cut (ps_set (i := 11) sc_l_moved.nd rfl (.inl rfl) (pe_op op_add (pe_op op_add (pv 11) (pe_op op_mulW (pe_op op_mulW (pv 4) (pv 9)) (pe_op op_add (pe_op op_mulW (pv 9) (pv 6)) (pe_op op_mulW (pe_op op_mulW pe_int (pv 7)) (pv 8))))) (pe_op op_mulW (pe_op op_mulW (pe_op op_mulW (pe_op op_mulW pe_int (pv 5)) (pv 7)) (pv 9)) (pv 9))))
    (pss_one (ps_ret (pe_tup (pa_cons (pe_call G_l_value (hr.mono (by decide)) (by rfl) g_l_value k_l_value b_l_value .nil pass0 (pa_cons (pv 0) (pa_cons (pv 6) (pa_cons (pv 7) pa_nil)))) (pa_cons (pv 10) (pa_cons (pv 11) (pa_cons (pe_call G_l_value (hr.mono (by decide)) (by rfl) g_l_value k_l_value b_l_value .nil pass0 (pa_cons (pv 0) (pa_cons (pv 8) (pa_cons (pv 9) pa_nil)))) pa_nil))))))))))))), ?_⟩
    refine ⟨_, rfl, unI4 ht ?_⟩
    refine ⟨fun σ H' => σ = [some (.ref t), some (.ref u), some (.int a), some (.int b), some (.int c), some (.int d), some (.int p), some (.int q'), some (.int r), some (.int s'), none, none] ∧ H = H', ?_, ?_⟩
    · exact ⟨_, rfl, unq4 h4 ⟨rfl, rfl⟩⟩
    rintro σ _ ⟨rfl, rfl⟩
    refine ⟨_, rfl, _, _, rfl, rfl, mulB (B.lit (by decide)) (by with_reducible assumption) (by decide), _, rfl, _, _, rfl, rfl, mulB (B.mul (B.lit (by decide)) (by with_reducible assumption)) (by with_reducible assumption) (by decide), _, rfl, _, _, rfl, rfl, mulB (B.mul (B.mul (B.lit (by decide)) (by with_reducible assumption)) (by with_reducible assumption)) (by with_reducible assumption) (by decide), _, rfl, _, _, rfl, rfl, mulB (B.mul (B.mul (B.mul (B.lit (by decide)) (by with_reducible assumption)) (by with_reducible assumption)) (by with_reducible assumption)) (by with_reducible assumption) (by decide), _, rfl, _, rfl, _, _, rfl, rfl, mulB (by with_reducible assumption) (by with_reducible assumption) (by decide), _, rfl, _, rfl, _, _, rfl, rfl, mulB (by with_reducible assumption) (by with_reducible assumption) (by decide), _, rfl, _, _, rfl, rfl, mulB (B.lit (by decide)) (by with_reducible assumption) (by decide), _, rfl, _, _, rfl, rfl, mulB (B.mul (B.lit (by decide)) (by with_reducible assumption)) (by with_reducible assumption) (by decide), _, _, rfl, rfl, _, _, rfl, rfl, mulB (B.mul (by with_reducible assumption) (by with_reducible assumption)) (B.add (B.mul (by with_reducible assumption) (by with_reducible assumption)) (B.mul (B.mul (B.lit (by decide)) (by with_reducible assumption)) (by with_reducible assumption))) (by decide), _, _, rfl, rfl, ?_⟩
    refine ⟨fun σ H' => σ = [some (.ref t), some (.ref u), some (.int a), some (.int b), some (.int c), some (.int d), some (.int p), some (.int q'), some (.int r), some (.int s'), some (.int (ml2 a b c d p q' r s')), none] ∧ H = H', ?_, ?_⟩
    · exact ⟨_, rfl, _, rfl, _, rfl, _, _, rfl, rfl, mulB (by with_reducible assumption) (by with_reducible assumption) (by decide), _, rfl, _, rfl, _, _, rfl, rfl, mulB (by with_reducible assumption) (by with_reducible assumption) (by decide), _, rfl, _, _, rfl, rfl, mulB (B.lit (by decide)) (by with_reducible assumption) (by decide), _, rfl, _, _, rfl, rfl, mulB (B.mul (B.lit (by decide)) (by with_reducible assumption)) (by with_reducible assumption) (by decide), _, _, rfl, rfl, _, _, rfl, rfl, mulB (B.mul (by with_reducible assumption) (by with_reducible assumption)) (B.add (B.mul (by with_reducible assumption) (by with_reducible assumption)) (B.mul (B.mul (B.lit (by decide)) (by with_reducible assumption)) (by with_reducible assumption))) (by decide), _, _, rfl, rfl, _, rfl, _, _, rfl, rfl, mulB (B.lit (by decide)) (by with_reducible assumption) (by decide), _, rfl, _, _, rfl, rfl, mulB (B.mul (B.lit (by decide)) (by with_reducible assumption)) (by with_reducible assumption) (by decide), _, rfl, _, _, rfl, rfl, mulB (B.mul (B.mul (B.lit (by decide)) (by with_reducible assumption)) (by with_reducible assumption)) (by with_reducible assumption) (by decide), _, rfl, _, _, rfl, rfl, mulB (B.mul (B.mul (B.mul (B.lit (by decide)) (by with_reducible assumption)) (by with_reducible assumption)) (by with_reducible assumption)) (by with_reducible assumption) (by decide), _, _, rfl, rfl, ⟨rfl, rfl⟩⟩
    rintro σ _ ⟨rfl, rfl⟩
    refine ⟨_, rfl, _, _, rfl, rfl, mulB (B.lit (by decide)) (by with_reducible assumption) (by decide), _, rfl, _, _, rfl, rfl, mulB (B.mul (B.lit (by decide)) (by with_reducible assumption)) (by with_reducible assumption) (by decide), _, rfl, _, _, rfl, rfl, mulB (B.mul (B.mul (B.lit (by decide)) (by with_reducible assumption)) (by with_reducible assumption)) (by with_reducible assumption) (by decide), _, rfl, _, _, rfl, rfl, mulB (B.mul (B.mul (B.mul (B.lit (by decide)) (by with_reducible assumption)) (by with_reducible assumption)) (by with_reducible assumption)) (by with_reducible assumption) (by decide), _, rfl, _, rfl, _, _, rfl, rfl, mulB (by with_reducible assumption) (by with_reducible assumption) (by decide), _, rfl, _, rfl, _, _, rfl, rfl, mulB (by with_reducible assumption) (by with_reducible assumption) (by decide), _, rfl, _, _, rfl, rfl, mulB (B.lit (by decide)) (by with_reducible assumption) (by decide), _, rfl, _, _, rfl, rfl, mulB (B.mul (B.lit (by decide)) (by with_reducible assumption)) (by with_reducible assumption) (by decide), _, _, rfl, rfl, _, _, rfl, rfl, mulB (B.mul (by with_reducible assumption) (by with_reducible assumption)) (B.add (B.mul (by with_reducible assumption) (by with_reducible assumption)) (B.mul (B.mul (B.lit (by decide)) (by with_reducible assumption)) (by with_reducible assumption))) (by decide), _, _, rfl, rfl, ?_⟩
    refine ⟨fun σ H' => σ = [some (.ref t), some (.ref u), some (.int a), some (.int b), some (.int c), some (.int d), some (.int p), some (.int q'), some (.int r), some (.int s'), some (.int (ml2 a b c d p q' r s')), some (.int (ml3 a b c d p q' r s'))] ∧ H = H', ?_, ?_⟩
    · exact ⟨_, rfl, _, rfl, _, rfl, _, _, rfl, rfl, mulB (by with_reducible assumption) (by with_reducible assumption) (by decide), _, rfl, _, rfl, _, _, rfl, rfl, mulB (by with_reducible assumption) (by with_reducible assumption) (by decide), _, rfl, _, _, rfl, rfl, mulB (B.lit (by decide)) (by with_reducible assumption) (by decide), _, rfl, _, _, rfl, rfl, mulB (B.mul (B.lit (by decide)) (by with_reducible assumption)) (by with_reducible assumption) (by decide), _, _, rfl, rfl, _, _, rfl, rfl, mulB (B.mul (by with_reducible assumption) (by with_reducible assumption)) (B.add (B.mul (by with_reducible assumption) (by with_reducible assumption)) (B.mul (B.mul (B.lit (by decide)) (by with_reducible assumption)) (by with_reducible assumption))) (by decide), _, _, rfl, rfl, _, rfl, _, _, rfl, rfl, mulB (B.lit (by decide)) (by with_reducible assumption) (by decide), _, rfl, _, _, rfl, rfl, mulB (B.mul (B.lit (by decide)) (by with_reducible assumption)) (by with_reducible assumption) (by decide), _, rfl, _, _, rfl, rfl, mulB (B.mul (B.mul (B.lit (by decide)) (by with_reducible assumption)) (by with_reducible assumption)) (by with_reducible assumption) (by decide), _, rfl, _, _, rfl, rfl, mulB (B.mul (B.mul (B.mul (B.lit (by decide)) (by with_reducible assumption)) (by with_reducible assumption)) (by with_reducible assumption)) (by with_reducible assumption) (by decide), _, _, rfl, rfl, ⟨rfl, rfl⟩⟩
    rintro σ _ ⟨rfl, rfl⟩
    refine ⟨_, rfl, _, rfl, _, rfl, t, a, b, c, d, p, q', rfl, ht, ba, bb, bc, bd, bp, bq, _, rfl, _, rfl, _, rfl, _, rfl, _, rfl, t, a, b, c, d, r, s', rfl, ht, ba, bb, bc, bd, br, bs, sl4, fun o no => ?_⟩
    exact q o _ (Ex0.new no) upd_same
theorem ok_l_discriminant (T : Txt K mg C_Form) : Def P w K mg base 1 "_law_discriminant" ["_law_row_here"] (sp_l_discriminant K C_Form) := by
  obtain ⟨f_, fd_, g_, F_⟩ := T.d_l_discriminant
  refine ⟨f_, fd_, g_, F_.kp, F_.binds (ps := ["_law_row_here"]) (fun _ _ _ _ _ _ us hl => match us, hl with | [_], _ => rfl), ?_⟩
  refine F_.ok sc_l_discriminant (fun vs H Q E h => ?_) (fun cdv A outer s H vs Q E hr h => ?_)
  · first | (obtain ⟨rfl, _⟩ := h; rfl) | (obtain ⟨_, rfl, _⟩ := h; rfl) | (obtain ⟨_, _, rfl, _⟩ := h; rfl) | (obtain ⟨_, _, _, rfl, _⟩ := h; rfl) | (obtain ⟨_, _, _, _, rfl, _⟩ := h; rfl) | (obtain ⟨_, _, _, _, _, rfl, _⟩ := h; rfl) | (obtain ⟨_, _, _, _, _, _, rfl, _⟩ := h; rfl) | (obtain ⟨_, _, _, _, _, _, _, rfl, _⟩ := h; rfl) | (obtain ⟨_, _, _, _, _, _, _, _, rfl, _⟩ := h; rfl) | (obtain ⟨_, _, _, _, _, _, _, _, _, rfl, _⟩ := h; rfl) | (obtain ⟨_, _, _, _, _, _, _, _, _, _, rfl, _⟩ := h; rfl) | (obtain ⟨_, _, _, _, _, _, _, _, _, _, _, rfl, _⟩ := h; rfl) | (obtain ⟨_, _, _, _, _, _, _, _, _, _, _, _, rfl, _⟩ := h; rfl) | (obtain ⟨_, _, _, _, _, _, _, _, _, _, _, _, _, rfl, _⟩ := h; rfl) | (obtain ⟨_, _, _, _, _, _, _, _, _, _, _, _, _, _, rfl, _⟩ := h; rfl) | (obtain ⟨_, _, _, _, _, _, _, _, _, _, _, _, _, _, _, rfl, _⟩ := h; rfl) | (obtain ⟨_, _, _, _, _, _, _, _, _, _, _, _, _, _, _, _, rfl, _⟩ := h; rfl) | (obtain ⟨_, _, _, _, _, _, _, _, _, _, _, _, _, _, _, _, _, rfl, _⟩ := h; rfl) | (obtain ⟨_, _, _, _, _, _, _, _, _, _, _, _, _, _, _, _, _, _, rfl, _⟩ := h; rfl) | (obtain ⟨_, _, _, _, _, _, _, _, _, _, _, _, _, _, _, _, _, _, _, rfl, _⟩ := h; rfl) | (obtain ⟨_, _, _, _, _, _, _, _, _, _, _, _, _, _, _, _, _, _, _, _, rfl, _⟩ := h; rfl) | (obtain ⟨_, _, _, _, _, _, _, _, _, _, _, _, _, _, _, _, _, _, _, _, _, rfl, _⟩ := h; rfl) | (obtain ⟨_, _, _, _, _, _, _, _, _, _, _, _, _, _, _, _, _, _, _, _, _, _, rfl, _⟩ := h; rfl) | (obtain ⟨_, _, _, _, _, _, _, _, _, _, _, _, _, _, _, _, _, _, _, _, _, _, _, rfl, _⟩ := h; rfl)
  · obtain ⟨t, a, b, c, d, rfl, ht, ba, bb, bc, bd, q⟩ := h
    refine ⟨_, (pss_cons (ps_asg (pv 0) (pg_tup (by rfl) (pgs_cons (pg_name (i := 1) sc_l_discriminant.nd rfl (.inl rfl)) (pgs_cons (pg_name (i := 2) sc_l_discriminant.nd rfl (.inl rfl)) (pgs_cons (pg_name (i := 3) sc_l_discriminant.nd rfl (.inl rfl)) (pgs_cons (pg_name (i := 4) sc_l_discriminant.nd rfl (.inl rfl)) pgs_nil))))))
    (pss_cons (ps_set (i := 5) sc_l_discriminant.nd rfl (.inl rfl) (pe_op op_sub (pe_op op_sub (pe_op op_mulW (pe_op op_mulW (pe_op op_mulW (pv 2) (pv 2)) (pv 3)) (pv 3)) (pe_op op_mulW (pe_op op_mulW (pe_op op_mulW (pe_op op_mulW pe_int (pv 1)) (pv 3)) (pv 3)) (pv 3))) (pe_op op_mulW (pe_op op_mulW (pe_op op_mulW (pe_op op_mulW pe_int (pv 2)) (pv 2)) (pv 2)) (pv 4))))
    (pss_one (ps_ret (pe_op op_add (pe_op op_sub (pv 5) (pe_op op_mulW (pe_op op_mulW (pe_op op_mulW (pe_op op_mulW pe_int (pv 1)) (pv 1)) (pv 4)) (pv 4))) (pe_op op_mulW (pe_op op_mulW (pe_op op_mulW (pe_op op_mulW pe_int (pv 1)) (pv 2)) (pv 3)) (pv 4))))))), ?_⟩
    refine ⟨_, rfl, unI4 ht ?_⟩
    refine ⟨_, rfl, _, rfl, _, _, rfl, rfl, mulB (by with_reducible assumption) (by with_reducible assumption) (by decide), _, rfl, _, _, rfl, rfl, mulB (B.mul (by with_reducible assumption) (by with_reducible assumption)) (by with_reducible assumption) (by decide), _, rfl, _, _, rfl, rfl, mulB (B.mul (B.mul (by with_reducible assumption) (by with_reducible assumption)) (by with_reducible assumption)) (by with_reducible assumption) (by decide), _, rfl, _, _, rfl, rfl, mulB (B.lit (by decide)) (by with_reducible assumption) (by decide), _, rfl, _, _, rfl, rfl, mulB (B.mul (B.lit (by decide)) (by with_reducible assumption)) (by with_reducible assumption) (by decide), _, rfl, _, _, rfl, rfl, mulB (B.mul (B.mul (B.lit (by decide)) (by with_reducible assumption)) (by with_reducible assumption)) (by with_reducible assumption) (by decide), _, rfl, _, _, rfl, rfl, mulB (B.mul (B.mul (B.mul (B.lit (by decide)) (by with_reducible assumption)) (by with_reducible assumption)) (by with_reducible assumption)) (by with_reducible assumption) (by decide), _, _, rfl, rfl, _, rfl, _, _, rfl, rfl, mulB (B.lit (by decide)) (by with_reducible assumption) (by decide), _, rfl, _, _, rfl, rfl, mulB (B.mul (B.lit (by decide)) (by with_reducible assumption)) (by with_reducible assumption) (by decide), _, rfl, _, _, rfl, rfl, mulB (B.mul (B.mul (B.lit (by decide)) (by with_reducible assumption)) (by with_reducible assumption)) (by with_reducible assumption) (by decide), _, rfl, _, _, rfl, rfl, mulB (B.mul (B.mul (B.mul (B.lit (by decide)) (by with_reducible assumption)) (by with_reducible assumption)) (by with_reducible assumption)) (by with_reducible assumption) (by decide), _, _, rfl, rfl, ?_⟩
    exact ⟨_, rfl, _, rfl, _, _, rfl, rfl, mulB (B.lit (by decide)) (by with_reducible assumption) (by decide), _, rfl, _, _, rfl, rfl, mulB (B.mul (B.lit (by decide)) (by with_reducible assumption)) (by with_reducible assumption) (by decide), _, rfl, _, _, rfl, rfl, mulB (B.mul (B.mul (B.lit (by decide)) (by with_reducible assumption)) (by with_reducible assumption)) (by with_reducible assumption) (by decide), _, rfl, _, _, rfl, rfl, mulB (B.mul (B.mul (B.mul (B.lit (by decide)) (by with_reducible assumption)) (by with_reducible assumption)) (by with_reducible assumption)) (by with_reducible assumption) (by decide), _, _, rfl, rfl, _, rfl, _, _, rfl, rfl, mulB (B.lit (by decide)) (by with_reducible assumption) (by decide), _, rfl, _, _, rfl, rfl, mulB (B.mul (B.lit (by decide)) (by with_reducible assumption)) (by with_reducible assumption) (by decide), _, rfl, _, _, rfl, rfl, mulB (B.mul (B.mul (B.lit (by decide)) (by with_reducible assumption)) (by with_reducible assumption)) (by with_reducible assumption) (by decide), _, rfl, _, _, rfl, rfl, mulB (B.mul (B.mul (B.mul (B.lit (by decide)) (by with_reducible assumption)) (by with_reducible assumption)) (by with_reducible assumption)) (by with_reducible assumption) (by decide), _, _, rfl, rfl, q⟩
end
end K39
namespace K39
open PySem PySem.Spec PyProof.Rows L2 Fr
theorem ab_nat (z : Int) : (if z < 0 then -z else z) = (z.natAbs : Int) := by
  by_cases h : z < 0
  · rw [if_pos h]; omega
  · rw [if_neg h]; omega
section
variable {P : Program} {w : World} {K : PySem.W.Frag} {mg : Str → Option Value} {base : Heap} {C_Form : Addr}
theorem ok_l_content (T : Txt K mg C_Form) : Def P w K mg base 1 "_law_content" ["_law_row_here"] (sp_l_content K C_Form) := by
  obtain ⟨f_, fd_, g_, F_⟩ := T.d_l_content
  refine ⟨f_, fd_, g_, F_.kp, F_.binds (ps := ["_law_row_here"]) (fun _ _ _ _ _ _ us hl => match us, hl with | [_], _ => rfl), ?_⟩
  refine F_.ok sc_l_content (fun vs H Q E h => ?_) (fun cdv A outer s H vs Q E hr h => ?_)
  · first | (obtain ⟨rfl, _⟩ := h; rfl) | (obtain ⟨_, rfl, _⟩ := h; rfl) | (obtain ⟨_, _, rfl, _⟩ := h; rfl) | (obtain ⟨_, _, _, rfl, _⟩ := h; rfl) | (obtain ⟨_, _, _, _, rfl, _⟩ := h; rfl) | (obtain ⟨_, _, _, _, _, rfl, _⟩ := h; rfl) | (obtain ⟨_, _, _, _, _, _, rfl, _⟩ := h; rfl) | (obtain ⟨_, _, _, _, _, _, _, rfl, _⟩ := h; rfl) | (obtain ⟨_, _, _, _, _, _, _, _, rfl, _⟩ := h; rfl) | (obtain ⟨_, _, _, _, _, _, _, _, _, rfl, _⟩ := h; rfl) | (obtain ⟨_, _, _, _, _, _, _, _, _, _, rfl, _⟩ := h; rfl) | (obtain ⟨_, _, _, _, _, _, _, _, _, _, _, rfl, _⟩ := h; rfl) | (obtain ⟨_, _, _, _, _, _, _, _, _, _, _, _, rfl, _⟩ := h; rfl) | (obtain ⟨_, _, _, _, _, _, _, _, _, _, _, _, _, rfl, _⟩ := h; rfl) | (obtain ⟨_, _, _, _, _, _, _, _, _, _, _, _, _, _, rfl, _⟩ := h; rfl) | (obtain ⟨_, _, _, _, _, _, _, _, _, _, _, _, _, _, _, rfl, _⟩ := h; rfl) | (obtain ⟨_, _, _, _, _, _, _, _, _, _, _, _, _, _, _, _, rfl, _⟩ := h; rfl) | (obtain ⟨_, _, _, _, _, _, _, _, _, _, _, _, _, _, _, _, _, rfl, _⟩ := h; rfl) | (obtain ⟨_, _, _, _, _, _, _, _, _, _, _, _, _, _, _, _, _, _, rfl, _⟩ := h; rfl) | (obtain ⟨_, _, _, _, _, _, _, _, _, _, _, _, _, _, _, _, _, _, _, rfl, _⟩ := h; rfl) | (obtain ⟨_, _, _, _, _, _, _, _, _, _, _, _, _, _, _, _, _, _, _, _, rfl, _⟩ := h; rfl) | (obtain ⟨_, _, _, _, _, _, _, _, _, _, _, _, _, _, _, _, _, _, _, _, _, rfl, _⟩ := h; rfl) | (obtain ⟨_, _, _, _, _, _, _, _, _, _, _, _, _, _, _, _, _, _, _, _, _, _, rfl, _⟩ := h; rfl) | (obtain ⟨_, _, _, _, _, _, _, _, _, _, _, _, _, _, _, _, _, _, _, _, _, _, _, rfl, _⟩ := h; rfl)
  · obtain ⟨t, ns, rfl, ht, hb, q⟩ := h
    refine ⟨_, (pss_cons (ps_set (i := 1) sc_l_content.nd rfl (.inl rfl) pe_int)
    (pss_cons (ps_for PassesOwn.never rfl (pi_tup (pv 0)) (pg_name (i := 2) sc_l_content.nd rfl (.inl rfl))
      (pss_cons (ps_set (i := 3) sc_l_content.nd rfl (.inl rfl) (pe_callB call_abs (by rfl) T.b_abs (by decide +kernel) (pa_cons (pv 2) pa_nil)))
    (pss_one (ps_while PassesOwn.never (pt_cmpR op_gt (pv 3) pe_int (nomark _))
      (pss_one (ps_par (i := 1) (j := 3) (by rfl) sc_l_content.nd rfl rfl (by decide) rfl rfl (pa_cons (pv 3) (pa_cons (pe_op op_mod (pv 1) (pv 3)) pa_nil)) (by rfl)))))))
    (pss_one (ps_ret (pv 1))))), ?_⟩
    refine ⟨_, rfl, t, rfl, ⟨_, SqT.of ht⟩, for_tup (xs := ns.map V.int) (fun i σ H' => ∃ y2 y3, σ = [some (.ref t), some (.int (gcdL (ns.take i) : Nat)), y2, y3] ∧ H = H') ⟨none, none, rfl, rfl⟩ (fun i σ H' _ ⟨_, _, _, e⟩ => e ▸ SqT.of ht) ?_ ?_⟩
    · rintro i x σ H' hx ⟨y2, y3, rfl, rfl⟩
      obtain ⟨n, hn, rfl⟩ := get_int hx
      refine ⟨_, rfl, _, rfl, ?_⟩
      rw [ab_nat]
      refine ⟨fun m σ H' => ∃ f o : Nat, σ = [some (.ref t), some (.int (f : Int)), some (.int n), some (.int (o : Int))] ∧ H = H' ∧ Nat.gcd f o = gcdL (ns.take (i + 1)) ∧ m = o, ⟨_, _, _, rfl, rfl, (gcdL_take hn).symm, rfl⟩, ?_⟩
      rintro m σ H' ⟨f, o, rfl, rfl, hg, rfl⟩
      refine ⟨_, rfl, _, _, rfl, rfl, _, rfl, iteD (fun g => ?_) (fun g => ?_)⟩
      · have o0 : 0 < m := by omega
        refine ⟨fun σ' H'' => ∃ f' o' : Nat, σ' = [some (.ref t), some (.int (f' : Int)), some (.int n), some (.int (o' : Int))] ∧ H = H'' ∧ Nat.gcd f' o' = gcdL (ns.take (i + 1)) ∧ o' < m, fun σ' H'' ⟨f', o', k1, k2, k3, k4⟩ => ⟨o', k4, f', o', k1, k2, k3, rfl⟩, ?_⟩
        refine ⟨_, rfl, _, rfl, _, rfl, _, _, rfl, rfl, (show (0 : Int) < (m : Int) by omega), ?_⟩
        refine ⟨_, _, rfl, m, f % m, ?_, rfl, ?_, Nat.mod_lt _ o0⟩
        · show [some (V.ref t), some (V.int (m : Int)), some (V.int n), some (V.int ((f : Int) % (m : Int)))] = _
          rw [Int.natCast_emod]
        · rw [← hg, Nat.gcd_comm f m, Nat.gcd_rec m f, Nat.gcd_comm]
      · have o0 : m = 0 := by omega
        subst o0
        rw [Nat.gcd_zero_right] at hg
        subst hg
        exact ⟨_, _, rfl, rfl⟩
    · rintro σ H' ⟨y2, y3, rfl, rfl⟩
      refine ⟨_, rfl, ?_⟩
      rw [List.length_map, List.take_length]
      exact q
theorem ok_l_row (T : Txt K mg C_Form) : Def P w K mg base 3 "_law_row" ["_law_kettle_here", "_law_most"] (sp_l_row K C_Form) := by
  obtain ⟨f_, fd_, g_, F_⟩ := T.d_l_row
  obtain ⟨f_l_discriminant, fd_l_discriminant, g_l_discriminant, k_l_discriminant, b_l_discriminant, G_l_discriminant⟩ := (ok_l_discriminant (P := P) (w := w) (base := base) T)
  obtain ⟨f_l_sip, fd_l_sip, g_l_sip, k_l_sip, b_l_sip, G_l_sip⟩ := (ok_l_sip (P := P) (w := w) (base := base) T)
  obtain ⟨f_l_taken, fd_l_taken, g_l_taken, k_l_taken, b_l_taken, G_l_taken⟩ := (ok_l_taken (P := P) (w := w) (base := base) T)
  refine ⟨f_, fd_, g_, F_.kp, F_.binds (ps := ["_law_kettle_here", "_law_most"]) (fun _ _ _ _ _ _ us hl => match us, hl with | [_, _], _ => rfl), ?_⟩
  refine F_.ok sc_l_row (fun vs H Q E h => ?_) (fun cdv A outer s H vs Q E hr h => ?_)
  · first | (obtain ⟨rfl, _⟩ := h; rfl) | (obtain ⟨_, rfl, _⟩ := h; rfl) | (obtain ⟨_, _, rfl, _⟩ := h; rfl) | (obtain ⟨_, _, _, rfl, _⟩ := h; rfl) | (obtain ⟨_, _, _, _, rfl, _⟩ := h; rfl) | (obtain ⟨_, _, _, _, _, rfl, _⟩ := h; rfl) | (obtain ⟨_, _, _, _, _, _, rfl, _⟩ := h; rfl) | (obtain ⟨_, _, _, _, _, _, _, rfl, _⟩ := h; rfl) | (obtain ⟨_, _, _, _, _, _, _, _, rfl, _⟩ := h; rfl) | (obtain ⟨_, _, _, _, _, _, _, _, _, rfl, _⟩ := h; rfl) | (obtain ⟨_, _, _, _, _, _, _, _, _, _, rfl, _⟩ := h; rfl) | (obtain ⟨_, _, _, _, _, _, _, _, _, _, _, rfl, _⟩ := h; rfl) | (obtain ⟨_, _, _, _, _, _, _, _, _, _, _, _, rfl, _⟩ := h; rfl) | (obtain ⟨_, _, _, _, _, _, _, _, _, _, _, _, _, rfl, _⟩ := h; rfl) | (obtain ⟨_, _, _, _, _, _, _, _, _, _, _, _, _, _, rfl, _⟩ := h; rfl) | (obtain ⟨_, _, _, _, _, _, _, _, _, _, _, _, _, _, _, rfl, _⟩ := h; rfl) | (obtain ⟨_, _, _, _, _, _, _, _, _, _, _, _, _, _, _, _, rfl, _⟩ := h; rfl) | (obtain ⟨_, _, _, _, _, _, _, _, _, _, _, _, _, _, _, _, _, rfl, _⟩ := h; rfl) | (obtain ⟨_, _, _, _, _, _, _, _, _, _, _, _, _, _, _, _, _, _, rfl, _⟩ := h; rfl) | (obtain ⟨_, _, _, _, _, _, _, _, _, _, _, _, _, _, _, _, _, _, _, rfl, _⟩ := h; rfl) | (obtain ⟨_, _, _, _, _, _, _, _, _, _, _, _, _, _, _, _, _, _, _, _, rfl, _⟩ := h; rfl) | (obtain ⟨_, _, _, _, _, _, _, _, _, _, _, _, _, _, _, _, _, _, _, _, _, rfl, _⟩ := h; rfl) | (obtain ⟨_, _, _, _, _, _, _, _, _, _, _, _, _, _, _, _, _, _, _, _, _, _, rfl, _⟩ := h; rfl) | (obtain ⟨_, _, _, _, _, _, _, _, _, _, _, _, _, _, _, _, _, _, _, _, _, _, _, rfl, _⟩ := h; rfl)
  · obtain ⟨c, m, rfl, hc, m0, m1, q⟩ := h
    refine ⟨_, (Evl.pss_cut (ps_set (i := 2) sc_l_row.nd rfl (.inl rfl) (pe_callTy call_tuple_of (by rfl) T.b_tuple (by decide +kernel) (pa_cons (pe_lc (own := [("_law_turn", 3)]) (g := (gName 3)) rfl sc_l_row.nd (pi_range1 (by rfl) T.b_range (pa_cons pe_int pa_nil)) (blkOk_by (N := N_l_row) (sc := defScope s_l_row) (by decide +kernel)) (fun _ _ _ _ _ => (pg_name (i := 3) sc_l_row.nd rfl (.inl rfl))) (fun _ _ _ _ _ => pts_nil) (fun _ _ _ _ _ => (pe_op op_sub (pe_call G_l_sip (hr.mono (by decide)) (by rfl) g_l_sip k_l_sip b_l_sip .nil pass0 (pa_cons (pv 0) (pa_cons (pe_op op_add (pe_op op_mul pe_int (pv 1)) pe_int) pa_nil))) (pv 1)))) pa_nil)))
    (pss_one (ps_ret (pe_ifExp (pt_cmpR op_ne (pe_call G_l_discriminant (hr.mono (by decide)) (by rfl) g_l_discriminant k_l_discriminant b_l_discriminant .nil pass0 (pa_cons (pv 2) pa_nil)) pe_int (nomark _)) (pv 2) (pe_call G_l_taken (hr.mono (by decide)) (by rfl) g_l_taken k_l_taken b_l_taken .nil pass0 (pa_cons (pv 0) (pa_cons (pe_lst (pa_cons (pe_tup (pa_cons pe_int (pa_cons pe_int (pa_cons pe_int (pa_cons pe_int pa_nil))))) (pa_cons (pe_tup (pa_cons pe_int (pa_cons pe_int (pa_cons pe_int (pa_cons pe_int pa_nil))))) (pa_cons (pe_tup (pa_cons pe_int (pa_cons pe_int (pa_cons pe_int (pa_cons pe_int pa_nil))))) (pa_cons (pe_tup (pa_cons pe_int (pa_cons pe_int (pa_cons pe_int (pa_cons pe_int pa_nil))))) (pa_cons (pe_tup (pa_cons pe_int (pa_cons pe_int (pa_cons (pe_un un_neg pe_int) (pa_cons (pe_un un_neg pe_int) pa_nil))))) pa_nil)))))) pa_nil))))))), ?_⟩
    refine ⟨fun σ H' => ∃ (t : Addr) (a b e d : Int), σ = [some (.ref c), some (.int m), some (.ref t), none] ∧ Fv c H H' ∧ Ti H' t [a, b, e, d] ∧ (∀ z ∈ [a, b, e, d], z.natAbs ≤ 1000000), ?_, ?_⟩
    · refine ⟨_, rfl, by decide, by decide, ?_⟩
      refine lcR (fmV c) hc (fun i acc _ => ∃ ns : List Int, acc = ns.map V.int ∧ ns.length = i ∧ ∀ z ∈ ns, z.natAbs ≤ 1000000) (fun _ _ => ⟨[], rfl, rfl, fun _ h => by cases h⟩) (fun D i acc H3 hD hi e5 hA hlen hp => ?_) (fun D H3 acc hD e5 hA hp => ?_)
      · obtain ⟨ns, rfl, hln, hns⟩ := hp
        have hi' : i < 4 := by simpa using hi
        refine ⟨rfl, ?_⟩
        refine ⟨_, rfl, _, rfl, _, _, rfl, rfl, .inl ⟨by omega, by omega⟩, _, _, rfl, rfl, c, 2 * m + 1, rfl, e5.1, by omega, by omega, fun r H4 r0 r1 e6 => ?_⟩
        refine ⟨_, rfl, _, _, rfl, rfl, ?_⟩
        refine cs_yes (fmV c) hc hD e5 hA hlen (by omega) e6 ⟨ns ++ [r - m], by rw [List.map_append]; rfl, by rw [List.length_append, hln]; rfl, fun z hz => ?_⟩
        rcases List.mem_append.mp hz with h | h
        · exact hns z h
        · have : z = r - m := by simpa using h
          omega
      · obtain ⟨ns, rfl, hln, hns⟩ := hp
        obtain ⟨a, b, e, d, rfl⟩ : ∃ A1 A2 A3 A4, ns = [A1, A2, A3, A4] := by
          have hln' : ns.length = 4 := by simpa using hln
          match ns, hln' with
          | [x, y, z, w], _ => exact ⟨x, y, z, w, rfl⟩
        refine ⟨D, _, rfl, .inl ⟨SqL.of hA, fun p np => ?_⟩⟩
        exact ⟨p, a, b, e, d, rfl, e5.trans (fv_new e5.1 np), upd_same, hns⟩
    rintro σ H1 ⟨t, a, b, e, d, rfl, e1, ht, hz⟩
    have bb : ∀ z ∈ [a, b, e, d], B 100 z := fun z h => ⟨Nat.lt_of_le_of_lt (hz z h) (Nat.lt_of_lt_of_le (by decide : 1000000 < 2 ^ 20) (Nat.pow_le_pow_right (by decide) (by decide))), by decide⟩
    refine ⟨_, rfl, t, a, b, e, d, rfl, ht, bb a (by simp), bb b (by simp), bb e (by simp), bb d (by simp), ?_⟩
    refine ⟨rfl, _, rfl, iteEn (fun g => ?_) (fun g => ?_)⟩
    · exact ⟨_, rfl, q t a b e d H1 e1 ht hz g⟩
    · refine ⟨_, rfl, sl4, fun t1 n1 => ⟨sl4, fun t2 n2 => ⟨sl4, fun t3 n3 => ⟨sl4, fun t4 n4 => ⟨_, rfl, _, rfl, sl4, fun t5 n5 => ⟨by show 5 ≤ sizeLine; decide, fun l nl => ?_⟩⟩⟩⟩⟩⟩
      have f1 := Ex0.new (o := .tup [.int 1, .int 0, .int 0, .int 2]) n1
      have f2 := Ex0.new (o := .tup [.int 1, .int 1, .int 2, .int 1]) n2
      have f3 := Ex0.new (o := .tup [.int 0, .int 1, .int 1, .int 0]) n3
      have f4 := Ex0.new (o := .tup [.int 0, .int 2, .int 1, .int 3]) n4
      have f5 := Ex0.new (o := .tup [.int 1, .int 2, .int (-1), .int (-1)]) n5
      have f6 := Ex0.new (o := .lst [.ref t1, .ref t2, .ref t3, .ref t4, .ref t5]) nl
      have r5 := f6
      have r4 := f5.trans r5
      have r3 := f4.trans r4
      have r2 := f3.trans r3
      have r1 := f2.trans r2
      have r0 := f1.trans r1
      have v6 := fv_ex e1.1 r0
      have nlc := fv_ne (vat_ex e1.1 (f1.trans (f2.trans (f3.trans (f4.trans f5))))) nl
      refine ⟨c, l, _, rfl, v6.1, upd_same, nlc, by simp, by show 5 ≤ 1000; decide, fun v H2 hv e2 => ?_⟩
      have fin : ∀ {t' : Addr} {a b e d : Int}, Ti (upd (upd (upd (upd (upd (upd H1 t1 (.tup [.int 1, .int 0, .int 0, .int 2])) t2 (.tup [.int 1, .int 1, .int 2, .int 1])) t3 (.tup [.int 0, .int 1, .int 1, .int 0])) t4 (.tup [.int 0, .int 2, .int 1, .int 3])) t5 (.tup [.int 1, .int 2, .int (-1), .int (-1)])) l (.lst [.ref t1, .ref t2, .ref t3, .ref t4, .ref t5])) t' [a, b, e, d] → (∀ z ∈ [a, b, e, d], z.natAbs ≤ 1000000) → fdisc a b e d ≠ 0 → Q (.ref t') H2 := fun h1 h2 h3 => q _ _ _ _ _ H2 (e1.trans (v6.trans e2)) (fv_tup v6.1 e2 h1) h2 h3
      simp only [List.mem_cons, List.mem_nil_iff, or_false] at hv
      rcases hv with rfl | rfl | rfl | rfl | rfl
      · exact fin (a := 1) (b := 0) (e := 0) (d := 2) (Ex0.ap r1 upd_same) (by decide) (by decide)
      · exact fin (a := 1) (b := 1) (e := 2) (d := 1) (Ex0.ap r2 upd_same) (by decide) (by decide)
      · exact fin (a := 0) (b := 1) (e := 1) (d := 0) (Ex0.ap r3 upd_same) (by decide) (by decide)
      · exact fin (a := 0) (b := 2) (e := 1) (d := 3) (Ex0.ap r4 upd_same) (by decide) (by decide)
      · exact fin (a := 1) (b := 2) (e := -1) (d := -1) (Ex0.ap r5 upd_same) (by decide) (by decide)
theorem ok_l_places (T : Txt K mg C_Form) : Def P w K mg base 1 "_law_places" ["_law_prime_here"] (sp_l_places K C_Form) := by
  obtain ⟨f_, fd_, g_, F_⟩ := T.d_l_places
  refine ⟨f_, fd_, g_, F_.kp, F_.binds (ps := ["_law_prime_here"]) (fun _ _ _ _ _ _ us hl => match us, hl with | [_], _ => rfl), ?_⟩
  refine F_.ok sc_l_places (fun vs H Q E h => ?_) (fun cdv A outer s H vs Q E hr h => ?_)
  · first | (obtain ⟨rfl, _⟩ := h; rfl) | (obtain ⟨_, rfl, _⟩ := h; rfl) | (obtain ⟨_, _, rfl, _⟩ := h; rfl) | (obtain ⟨_, _, _, rfl, _⟩ := h; rfl) | (obtain ⟨_, _, _, _, rfl, _⟩ := h; rfl) | (obtain ⟨_, _, _, _, _, rfl, _⟩ := h; rfl) | (obtain ⟨_, _, _, _, _, _, rfl, _⟩ := h; rfl) | (obtain ⟨_, _, _, _, _, _, _, rfl, _⟩ := h; rfl) | (obtain ⟨_, _, _, _, _, _, _, _, rfl, _⟩ := h; rfl) | (obtain ⟨_, _, _, _, _, _, _, _, _, rfl, _⟩ := h; rfl) | (obtain ⟨_, _, _, _, _, _, _, _, _, _, rfl, _⟩ := h; rfl) | (obtain ⟨_, _, _, _, _, _, _, _, _, _, _, rfl, _⟩ := h; rfl) | (obtain ⟨_, _, _, _, _, _, _, _, _, _, _, _, rfl, _⟩ := h; rfl) | (obtain ⟨_, _, _, _, _, _, _, _, _, _, _, _, _, rfl, _⟩ := h; rfl) | (obtain ⟨_, _, _, _, _, _, _, _, _, _, _, _, _, _, rfl, _⟩ := h; rfl) | (obtain ⟨_, _, _, _, _, _, _, _, _, _, _, _, _, _, _, rfl, _⟩ := h; rfl) | (obtain ⟨_, _, _, _, _, _, _, _, _, _, _, _, _, _, _, _, rfl, _⟩ := h; rfl) | (obtain ⟨_, _, _, _, _, _, _, _, _, _, _, _, _, _, _, _, _, rfl, _⟩ := h; rfl) | (obtain ⟨_, _, _, _, _, _, _, _, _, _, _, _, _, _, _, _, _, _, rfl, _⟩ := h; rfl) | (obtain ⟨_, _, _, _, _, _, _, _, _, _, _, _, _, _, _, _, _, _, _, rfl, _⟩ := h; rfl) | (obtain ⟨_, _, _, _, _, _, _, _, _, _, _, _, _, _, _, _, _, _, _, _, rfl, _⟩ := h; rfl) | (obtain ⟨_, _, _, _, _, _, _, _, _, _, _, _, _, _, _, _, _, _, _, _, _, rfl, _⟩ := h; rfl) | (obtain ⟨_, _, _, _, _, _, _, _, _, _, _, _, _, _, _, _, _, _, _, _, _, _, rfl, _⟩ := h; rfl) | (obtain ⟨_, _, _, _, _, _, _, _, _, _, _, _, _, _, _, _, _, _, _, _, _, _, _, rfl, _⟩ := h; rfl)
  · obtain ⟨p, rfl, p1, q⟩ := h
    refine ⟨_, (pss_one (ps_ret (pe_callB cr_sortedPT (by rfl) T.b_sorted (by decide +kernel) (pa_cons (pe_op op_cat (pe_lc (own := [("_law_x", 1)]) (g := (gName 1)) rfl sc_l_places.nd (pi_range1 (by rfl) T.b_range (pa_cons (pv 0) pa_nil)) (blkOk_by (N := N_l_places) (sc := defScope s_l_places) (by decide +kernel)) (fun _ _ _ _ _ => (pg_name (i := 1) sc_l_places.nd rfl (.inl rfl))) (fun _ _ _ _ _ => pts_nil) (fun _ _ _ _ _ => (pe_tup (pa_cons (pv 1) (pa_cons pe_int pa_nil))))) (pe_lst (pa_cons (pe_tup (pa_cons pe_int (pa_cons pe_int pa_nil))) pa_nil))) pa_nil)))), ?_⟩
    refine ⟨_, rfl, _, rfl, by omega, by omega, ?_⟩
    refine lcR fm0 trivial (fun i acc H' => PrT K H' acc ((List.range i).map fun (x : Nat) => ((x : Int), (1 : Int)))) (fun _ _ => .nil) (fun D2 i acc H2 hD2 hi e2 hA2 hlen hp => ?_) (fun D2 H2 acc hD2 e2 hA2 hp => ?_)
    · refine ⟨rfl, ?_⟩
      rw [show (0 : Int) + (i : Int) = (i : Int) by omega]
      refine ⟨_, rfl, sl2, fun t2 n2 => ?_⟩
      have f2 := Ex0.new (o := .tup [.int (i : Int), .int 1]) n2
      refine cs_yes fm0 trivial hD2 e2 hA2 hlen (by omega) f2 ?_
      have hA3 := Ex0.ap f2 hA2
      rw [List.range_succ, List.map_append]
      exact ((hp.ex f2).upd hA3).snoc (sqT_upd hA3 (SqT.of upd_same))
    · have hn : (p : Int).toNat = p := by omega
      rw [hn] at hp
      refine ⟨sl2, fun t nt => ⟨sl1, fun l nl => ?_⟩⟩
      have f1 := Ex0.new (o := .tup [.int 1, .int 0]) nt
      have f2 := Ex0.new (o := .lst [.ref t]) nl
      have f12 := f1.trans f2
      refine ⟨D2, l, acc, _, rfl, rfl, Ex0.ap f12 hA2, upd_same, by rw [hp.len, List.length_map, List.length_range, sizeLine_eq]; show p + 1 ≤ _; omega, fun l2 n2 => ?_⟩
      have f3 := Ex0.new (o := .lst (acc ++ [.ref t])) n2
      refine ⟨l2, _, _, rfl, SqL.of upd_same, (hp.ex (f12.trans f3)).snoc (SqT.of (Ex0.ap (f2.trans f3) upd_same)), fun ys qs l3 pm srt hy n3 => ?_⟩
      have f4 := Ex0.new (o := .lst ys) n3
      exact q l3 _ ys qs (Fx.trans e2 (f12.trans (f3.trans f4))) upd_same (hy.ex f4) pm srt
end
end K39
namespace K39
open PySem PySem.Spec PyProof.Rows L2 Fr
def Gc (p q r s : Int) (M : Nat) : Prop := p.natAbs ≤ M ∧ q.natAbs ≤ M ∧ r.natAbs ≤ M ∧ s.natAbs ≤ M ∧ (p * s - q * r = 1 ∨ p * s - q * r = -1)
def inB (p x y s u v w : Int) : Bool := if y = 1 then decide (w % p = 0) && (decide ((v - x * w) % (p * p) = 0) && decide ((u - s * w) % (p * p) = 0)) else decide (v % p = 0) && (decide (w % (p * p) = 0) && decide ((u - s * v) % (p * p) = 0))
def inL (p x y s u v w : Int) : List Int := if y = 1 then [(u - s * w) / (p * p), (v - x * w) / (p * p), w / p] else [(u - s * v) / (p * p), v / p, w / (p * p)]
def pW (p y s : Int) : List Int := if y = 1 then [0, p, 0] else [s, 1, 0]
def pT (p x y s : Int) : List Int := if y = 1 then [s, x, 1] else [0, 0, p]
def tmB (a b c d p x y s u v w i j k : Int) : Bool := inB p x y s (tm0 a b c d u v w i j k) (tm1 a b c d u v w i j k) (tm2 a b c d u v w i j k)
def Clo (a b c d p x y s : Int) : Bool := if y = 1 then tmB a b c d p x y s 0 p 0 0 p 0 && (tmB a b c d p x y s 0 p 0 s x 1 && tmB a b c d p x y s s x 1 s x 1) else tmB a b c d p x y s s 1 0 s 1 0 && (tmB a b c d p x y s s 1 0 0 0 p && tmB a b c d p x y s 0 0 p 0 0 p)
def ledL (a b c d p q r s : Int) : List Int := [(p * s - q * r) * fv a b c d p q, (p * s - q * r) * ml2 a b c d p q r s, (p * s - q * r) * ml3 a b c d p q r s, (p * s - q * r) * fv a b c d r s]
def sp_l_change (_ : PySem.W.Frag) (_ : Addr) : Sp := fun vs H Q _ => ∃ (c : Addr), vs = [.ref c] ∧ Vat c H ∧ ∀ x p q r s H', Fv c H H' → T4 H' x p q r s → Gc p q r s 81 → Q (.ref x) H'
def sp_l_led (_ : PySem.W.Frag) (_ : Addr) : Sp := fun vs H Q _ => ∃ (t u : Addr) (a b c d p q r s : Int), vs = [.ref t, .ref u] ∧ Ti H t [a, b, c, d] ∧ T4 H u p q r s ∧ B4 100 a b c d ∧ B4 50 p q r s ∧ ∀ o H', Ex0 H H' → Ti H' o (ledL a b c d p q r s) → Q (.ref o) H'
def sp_l_above (K : PySem.W.Frag) (_ : Addr) : Sp := fun vs H Q _ => ∃ (t u : Addr) (a b c d x y p : Int), vs = [.ref t, .int p, .ref u] ∧ Ti H t [a, b, c, d] ∧ SqT K H u [.int x, .int y] ∧ B4 90 a b c d ∧ Plc p x y ∧ 0 < p ∧ p ≤ 1000 ∧ ∀ o H', Ex0 H H' → Ti H' o (around a b c d p x y) → Q (.ref o) H'
def sp_l_pair (K : PySem.W.Frag) (_ : Addr) : Sp := fun vs H Q _ => ∃ (u : Addr) (x y p s : Int), vs = [.int p, .ref u, .int s] ∧ SqT K H u [.int x, .int y] ∧ ∀ o H', Ex0 H H' → P33 H' o (pW p y s) (pT p x y s) → Q (.ref o) H'
def sp_l_in_terms (K : PySem.W.Frag) (_ : Addr) : Sp := fun vs H Q _ => ∃ (i j : Addr) (p x y s u v w : Int), vs = [.int p, .ref i, .int s, .ref j] ∧ SqT K H i [.int x, .int y] ∧ Ti H j [u, v, w] ∧ Plc p x y ∧ B 50 x ∧ B 50 s ∧ B 10000 v ∧ B 10000 w ∧ 0 < p ∧ p ≤ 1000 ∧ (inB p x y s u v w = true → ∀ o H', Ex0 H H' → Ti H' o (inL p x y s u v w) → Q (.ref o) H') ∧ (inB p x y s u v w = false → Q .non H)
def sp_l_closed_shift (K : PySem.W.Frag) (_ : Addr) : Sp := fun vs H Q _ => ∃ (t u : Addr) (a b c d x y : Int) (p : Nat), vs = [.ref t, .int (p : Int), .ref u] ∧ Ti H t [a, b, c, d] ∧ SqT K H u [.int x, .int y] ∧ B4 90 a b c d ∧ Plc p x y ∧ 0 < p ∧ p ≤ 1000 ∧ (∀ (s : Nat) H', s < p → Clo a b c d p x y s = true → Ex0 H H' → Q (.int (s : Int)) H') ∧ ((∀ s : Nat, s < p → Clo a b c d p x y s = false) → ∀ H', Ex0 H H' → Q .non H')
theorem ll_ok (L : List (List Int)) : PyData.canLayAll0 (L.map fun ns => PyData.tuple (ns.map PyData.int)) = true ∧ PyData.depthAll (L.map fun ns => PyData.tuple (ns.map PyData.int)) ≤ 2 := by
  have one : ∀ ns : List Int, PyData.canLayAll0 (ns.map PyData.int) = true ∧ PyData.depthAll (ns.map PyData.int) ≤ 1 := fun ns => by
    induction ns with
    | nil => exact ⟨rfl, by simp [PyData.depthAll]⟩
    | cons n r ih =>
      refine ⟨?_, ?_⟩
      · rw [List.map_cons, PyData.canLayAll0, PyData.canLay0, ih.1]; rfl
      · rw [List.map_cons, PyData.depthAll, PyData.depth]; exact Nat.max_le.mpr ⟨by decide, ih.2⟩
  induction L with
  | nil => exact ⟨rfl, by simp [PyData.depthAll]⟩
  | cons n r ih =>
    obtain ⟨o1, o2⟩ := one n
    refine ⟨?_, ?_⟩
    · rw [List.map_cons, PyData.canLayAll0, ih.1, PyData.canLay0, o1]; rfl
    · rw [List.map_cons, PyData.depthAll, PyData.depth]; exact Nat.max_le.mpr ⟨by omega, ih.2⟩
theorem shaped_ll (L : List (List Int)) : SeqAt.shaped (.list (L.map fun ns => PyData.tuple (ns.map PyData.int))) = true := by
  obtain ⟨h1, h2⟩ := ll_ok L
  unfold SeqAt.shaped
  rw [PyData.canLay0, PyData.depth, h1]
  simp
  omega
theorem eqv_nil (ds : List PyData) : PyData.eqv (.list ds) (.list []) = ds.isEmpty := by
  cases ds with
  | nil => simp [PyData.eqv, PyData.eqvAll]
  | cons d r => simp [PyData.eqv, PyData.eqvAll]
theorem dp_ll {K : PySem.W.Frag} {H : Hp} : ∀ {F : List (Addr × List Int × Bool)}, (∀ z ∈ F, Ti H z.1 z.2.1) → DpAll K H (F.map fun z => V.ref z.1) ((F.map fun z => z.2.1).map fun ns => PyData.tuple (ns.map PyData.int))
  | [], _ => .nil
  | z :: F, h => .cons (.tup (SqT.of (h z List.mem_cons_self)) (dp_ints _)) (dp_ll fun w hw => h w (List.mem_cons_of_mem _ hw))
theorem moved_B {n : Nat} {a b c d p q r s : Int} (h : B4 100 a b c d) (g : B4 50 p q r s) : B 3000 (fv a b c d p q) ∧ B 3000 (ml2 a b c d p q r s) ∧ B 3000 (ml3 a b c d p q r s) ∧ B 3000 (fv a b c d r s) := by
  obtain ⟨ba, bb, bc, bd⟩ := h
  obtain ⟨bp, bq, br, bs⟩ := g
  have b2 : B 2 2 := ⟨by decide, by decide⟩
  have b3 : B 2 3 := ⟨by decide, by decide⟩
  have f : ∀ {x y : Int}, B 50 x → B 50 y → B 3000 (fv a b c d x y) := fun bx by' => (B.add (B.add (B.add (B.mul (B.mul (B.mul ba bx) bx) bx) (B.mul (B.mul (B.mul bb bx) bx) by')) (B.mul (B.mul (B.mul bc bx) by') by')) (B.mul (B.mul (B.mul bd by') by') by')).mono (by decide)
  refine ⟨f bp bq, ?_, ?_, f br bs⟩
  · unfold ml2
    exact (B.add (B.add (B.add (B.mul (B.mul (B.mul (B.mul b3 ba) bp) bp) br) (B.mul (B.mul bb bp) (B.add (B.mul bp bs) (B.mul (B.mul b2 bq) br)))) (B.mul (B.mul bc bq) (B.add (B.mul bq br) (B.mul (B.mul b2 bp) bs)))) (B.mul (B.mul (B.mul (B.mul b3 bd) bq) bq) bs)).mono (by decide)
  · unfold ml3
    exact (B.add (B.add (B.add (B.mul (B.mul (B.mul (B.mul b3 ba) bp) br) br) (B.mul (B.mul bb br) (B.add (B.mul br bq) (B.mul (B.mul b2 bp) bs)))) (B.mul (B.mul bc bs) (B.add (B.mul bs bp) (B.mul (B.mul b2 bq) br)))) (B.mul (B.mul (B.mul (B.mul b3 bd) bq) bs) bs)).mono (by decide)
theorem pt_lists {a b c d p x y s : Int} (hp : Plc p x y) (p0 : 0 < p) (p1 : p ≤ 1000) (s0 : 0 ≤ s) (s1 : s ≤ 1000) : ∃ u1 v1 w1 u2 v2 w2 : Int, pW p y s = [u1, v1, w1] ∧ pT p x y s = [u2, v2, w2] ∧ B3 200 u1 v1 w1 ∧ B3 200 u2 v2 w2 ∧ Clo a b c d p x y s = (tmB a b c d p x y s u1 v1 w1 u1 v1 w1 && (tmB a b c d p x y s u1 v1 w1 u2 v2 w2 && tmB a b c d p x y s u2 v2 w2 u2 v2 w2)) := by
  have sm : ∀ {z : Int}, 0 ≤ z → z ≤ 1000 → B 200 z := fun h1 h2 => ⟨Nat.lt_of_le_of_lt (show _ ≤ 1000 by omega) (Nat.lt_of_lt_of_le (by decide : 1000 < 2 ^ 10) (Nat.pow_le_pow_right (by decide) (by decide))), by decide⟩
  have z0 : B 200 0 := sm (by decide) (by decide)
  have z1 : B 200 1 := sm (by decide) (by decide)
  have zp : B 200 p := sm (by omega) p1
  have zs : B 200 s := sm s0 s1
  rcases hp with ⟨rfl, h0, h1⟩ | ⟨rfl, rfl⟩
  · refine ⟨0, p, 0, s, x, 1, if_pos rfl, if_pos rfl, ⟨z0, zp, z0⟩, ⟨zs, sm h0 (by omega), z1⟩, ?_⟩
    unfold Clo
    rw [if_pos rfl]
  · refine ⟨s, 1, 0, 0, 0, p, if_neg (by decide), if_neg (by decide), ⟨zs, z1, z0⟩, ⟨z0, z0, zp⟩, ?_⟩
    unfold Clo
    rw [if_neg (by decide)]
theorem tm_B {a b c d u v w x y z : Int} (h : B4 200 a b c d) (g : B3 200 u v w) (k : B3 200 x y z) : B 10000 (tm0 a b c d u v w x y z) ∧ B 10000 (tm1 a b c d u v w x y z) ∧ B 10000 (tm2 a b c d u v w x y z) := by
  obtain ⟨ba, bb, bc, bd⟩ := h
  obtain ⟨bu, bv, bw⟩ := g
  obtain ⟨bx, by', bz⟩ := k
  exact ⟨(B.sub (B.sub (B.sub (B.mul bu bx) (B.mul (B.mul ba bc) (B.mul bv by'))) (B.mul (B.mul ba bd) (B.add (B.mul bv bz) (B.mul bw by')))) (B.mul (B.mul bb bd) (B.mul bw bz))).mono (by decide), (B.add (B.add (B.add (B.mul bu by') (B.mul bv bx)) (B.mul bb (B.mul bv by'))) (B.mul bd (B.mul bw bz))).mono (by decide), (B.sub (B.sub (B.add (B.mul bu bz) (B.mul bw bx)) (B.mul ba (B.mul bv by'))) (B.mul bc (B.mul bw bz))).mono (by decide)⟩
section
variable {P : Program} {w : World} {K : PySem.W.Frag} {mg : Str → Option Value} {base : Heap} {C_Form : Addr}
theorem ok_l_change (T : Txt K mg C_Form) : Def P w K mg base 2 "_law_change" ["_law_kettle_here"] (sp_l_change K C_Form) := by
  obtain ⟨f_, fd_, g_, F_⟩ := T.d_l_change
  obtain ⟨f_l_sip, fd_l_sip, g_l_sip, k_l_sip, b_l_sip, G_l_sip⟩ := (ok_l_sip (P := P) (w := w) (base := base) T)
  refine ⟨f_, fd_, g_, F_.kp, F_.binds (ps := ["_law_kettle_here"]) (fun _ _ _ _ _ _ us hl => match us, hl with | [_], _ => rfl), ?_⟩
  refine F_.ok sc_l_change (fun vs H Q E h => ?_) (fun cdv A outer s H vs Q E hr h => ?_)
  · first | (obtain ⟨rfl, _⟩ := h; rfl) | (obtain ⟨_, rfl, _⟩ := h; rfl) | (obtain ⟨_, _, rfl, _⟩ := h; rfl) | (obtain ⟨_, _, _, rfl, _⟩ := h; rfl) | (obtain ⟨_, _, _, _, rfl, _⟩ := h; rfl) | (obtain ⟨_, _, _, _, _, rfl, _⟩ := h; rfl) | (obtain ⟨_, _, _, _, _, _, rfl, _⟩ := h; rfl) | (obtain ⟨_, _, _, _, _, _, _, rfl, _⟩ := h; rfl) | (obtain ⟨_, _, _, _, _, _, _, _, rfl, _⟩ := h; rfl) | (obtain ⟨_, _, _, _, _, _, _, _, _, rfl, _⟩ := h; rfl) | (obtain ⟨_, _, _, _, _, _, _, _, _, _, rfl, _⟩ := h; rfl) | (obtain ⟨_, _, _, _, _, _, _, _, _, _, _, rfl, _⟩ := h; rfl) | (obtain ⟨_, _, _, _, _, _, _, _, _, _, _, _, rfl, _⟩ := h; rfl) | (obtain ⟨_, _, _, _, _, _, _, _, _, _, _, _, _, rfl, _⟩ := h; rfl) | (obtain ⟨_, _, _, _, _, _, _, _, _, _, _, _, _, _, rfl, _⟩ := h; rfl) | (obtain ⟨_, _, _, _, _, _, _, _, _, _, _, _, _, _, _, rfl, _⟩ := h; rfl) | (obtain ⟨_, _, _, _, _, _, _, _, _, _, _, _, _, _, _, _, rfl, _⟩ := h; rfl) | (obtain ⟨_, _, _, _, _, _, _, _, _, _, _, _, _, _, _, _, _, rfl, _⟩ := h; rfl) | (obtain ⟨_, _, _, _, _, _, _, _, _, _, _, _, _, _, _, _, _, _, rfl, _⟩ := h; rfl) | (obtain ⟨_, _, _, _, _, _, _, _, _, _, _, _, _, _, _, _, _, _, _, rfl, _⟩ := h; rfl) | (obtain ⟨_, _, _, _, _, _, _, _, _, _, _, _, _, _, _, _, _, _, _, _, rfl, _⟩ := h; rfl) | (obtain ⟨_, _, _, _, _, _, _, _, _, _, _, _, _, _, _, _, _, _, _, _, _, rfl, _⟩ := h; rfl) | (obtain ⟨_, _, _, _, _, _, _, _, _, _, _, _, _, _, _, _, _, _, _, _, _, _, rfl, _⟩ := h; rfl) | (obtain ⟨_, _, _, _, _, _, _, _, _, _, _, _, _, _, _, _, _, _, _, _, _, _, _, rfl, _⟩ := h; rfl)
  · obtain ⟨c, rfl, hc, q⟩ := h
    refine ⟨_, (Evl.pss_cut (ps_asg (pe_tup (pa_cons pe_int (pa_cons pe_int (pa_cons pe_int (pa_cons pe_int pa_nil))))) (pg_tup (by rfl) (pgs_cons (pg_name (i := 1) sc_l_change.nd rfl (.inl rfl)) (pgs_cons (pg_name (i := 2) sc_l_change.nd rfl (.inl rfl)) (pgs_cons (pg_name (i := 3) sc_l_change.nd rfl (.inl rfl)) (pgs_cons (pg_name (i := 4) sc_l_change.nd rfl (.inl rfl)) pgs_nil))))))
    (pss_cons (ps_for PassesOwn.never rfl (pi_range1 (by rfl) T.b_range (pa_cons (pe_call G_l_sip (hr.mono (by decide)) (by rfl) g_l_sip k_l_sip b_l_sip .nil pass0 (pa_cons (pv 0) (pa_cons pe_int pa_nil))) pa_nil)) (pg_name (i := 5) sc_l_change.nd rfl (.inl rfl))
      (Evl.pss_cut (ps_par (i := 6) (j := 7) (by rfl) sc_l_change.nd rfl rfl (by decide) rfl rfl (pa_cons (pe_call G_l_sip (hr.mono (by decide)) (by rfl) g_l_sip k_l_sip b_l_sip .nil pass0 (pa_cons (pv 0) (pa_cons pe_int pa_nil))) (pa_cons (pe_op op_sub (pe_call G_l_sip (hr.mono (by decide)) (by rfl) g_l_sip k_l_sip b_l_sip .nil pass0 (pa_cons (pv 0) (pa_cons pe_int pa_nil))) pe_int) pa_nil)) (by rfl))
    (Evl.pss_cut (ps_if (pt_cmpR op_eq (pv 6) pe_int (nomark _))
      (pss_one (ps_par (i := 1) (j := 2) (by rfl) sc_l_change.nd rfl rfl (by decide) rfl rfl (pa_cons (pe_op op_add (pv 1) (pe_op op_mulW (pv 7) (pv 3))) (pa_cons (pe_op op_add (pv 2) (pe_op op_mulW (pv 7) (pv 4))) pa_nil)) (by rfl)))
      pss_nil)
    (Evl.pss_cut (ps_if (pt_cmpR op_eq (pv 6) pe_int (nomark _))
      (pss_one (ps_par (i := 3) (j := 4) (by rfl) sc_l_change.nd rfl rfl (by decide) rfl rfl (pa_cons (pe_op op_add (pv 3) (pe_op op_mulW (pv 7) (pv 1))) (pa_cons (pe_op op_add (pv 4) (pe_op op_mulW (pv 7) (pv 2))) pa_nil)) (by rfl)))
      pss_nil)
    (pss_one (ps_if (pt_cmpR op_eq (pv 6) pe_int (nomark _))
      (pss_one (ps_asg (pe_tup (pa_cons (pv 3) (pa_cons (pv 4) (pa_cons (pv 1) (pa_cons (pv 2) pa_nil))))) (pg_tup (by rfl) (pgs_cons (pg_name (i := 1) sc_l_change.nd rfl (.inl rfl)) (pgs_cons (pg_name (i := 2) sc_l_change.nd rfl (.inl rfl)) (pgs_cons (pg_name (i := 3) sc_l_change.nd rfl (.inl rfl)) (pgs_cons (pg_name (i := 4) sc_l_change.nd rfl (.inl rfl)) pgs_nil)))))))
      pss_nil))))))
    (pss_one (ps_ret (pe_tup (pa_cons (pe_tup (pa_cons (pv 1) (pa_cons (pv 2) pa_nil))) (pa_cons (pe_tup (pa_cons (pv 3) (pa_cons (pv 4) pa_nil))) pa_nil))))))), ?_⟩
    refine ⟨fun σ H' => σ = [some (.ref c), some (.int 1), some (.int 0), some (.int 0), some (.int 1), none, none, none] ∧ Ex0 H H', ?_, ?_⟩
    · refine ⟨sl4, fun u nu => ?_⟩
      refine ⟨u, _, rfl, SqT.of upd_same, rfl, _, _, rfl, _, _, rfl, _, _, rfl, _, _, rfl, rfl, ?_⟩
      exact ⟨rfl, Ex0.new nu⟩
    rintro σ H1 ⟨rfl, e1⟩
    have c1 := vat_ex hc e1
    refine ⟨_, rfl, c, 5, rfl, c1, by decide, by decide, fun n H2 n0 n1 e2 => ?_⟩
    refine ⟨_, rfl, by omega, by omega, ?_⟩
    refine for_range (lo := 0) (n := n.toNat) (fun i σ H' => ∃ (p q' r s' : Int) (y5 y6 y7 : Option V), σ = [some (.ref c), some (.int p), some (.int q'), some (.int r), some (.int s'), y5, y6, y7] ∧ Fv c H2 H' ∧ Gc p q' r s' (3 ^ i)) ⟨1, 0, 0, 1, none, none, none, rfl, Fx.refl e2.1, ⟨by decide, by decide, by decide, by decide, .inl (by decide)⟩⟩ ?_ ?_
    · rintro i σ H3 hi ⟨p, q', r, s', y5, y6, y7, rfl, e3, hg⟩
      have hi4 : i ≤ 3 := by omega
      have m3 : (3 : Nat) ^ i ≤ 27 := Nat.le_trans (Nat.pow_le_pow_right (by decide) hi4) (by decide)
      obtain ⟨g1, g2, g3, g4, g5⟩ := hg
      have bs : ∀ {z : Int}, z.natAbs ≤ 1000 → B 10 z := fun h => ⟨by show _ < 1024; omega, by decide⟩
      generalize hM : (3 : Nat) ^ i = M at *
      have hM3 : (3 : Nat) ^ (i + 1) = 3 * M := by rw [Nat.pow_succ, hM, Nat.mul_comm]
      refine ⟨fun σ H' => ∃ (y5 : Option V) (wy k : Int), σ = [some (.ref c), some (.int p), some (.int q'), some (.int r), some (.int s'), y5, some (.int wy), some (.int k)] ∧ Fv c H3 H' ∧ -2 ≤ k ∧ k ≤ 2 ∧ 0 ≤ wy ∧ wy < 3, ?_, ?_⟩
      · refine ⟨_, rfl, c, 3, rfl, e3.1, by decide, by decide, fun w H4 w0 w1 e4 => ?_⟩
        refine ⟨_, rfl, c, 5, rfl, e4.1, by decide, by decide, fun k H5 k0 k1 e5 => ⟨_, _, rfl, rfl, ?_⟩⟩
        exact ⟨_, _, rfl, _, w, k - 2, rfl, e4.trans e5, by omega, by omega, w0, w1⟩
      rintro σ H4 ⟨y5', wy, k, rfl, e4, k0, k1, w0, w1⟩
      have bk : B 10 k := bs (by omega)
      have lin : ∀ {u v : Int}, u.natAbs ≤ M → v.natAbs ≤ M → (u + k * v).natAbs ≤ 3 * M := fun h1 h2 => by
        have := Nat.mul_le_mul (show k.natAbs ≤ 2 by omega) h2
        rw [← Int.natAbs_mul] at this
        omega
      have det1 : ∀ {p q' r s' : Int}, (p * s' - q' * r = 1 ∨ p * s' - q' * r = -1) → ((p + k * r) * s' - (q' + k * s') * r = 1 ∨ (p + k * r) * s' - (q' + k * s') * r = -1) := fun h => by
        rw [show ∀ p q' r s' : Int, (p + k * r) * s' - (q' + k * s') * r = p * s' - q' * r from fun _ _ _ _ => by grind]
        exact h
      have det2 : ∀ {p q' r s' : Int}, (p * s' - q' * r = 1 ∨ p * s' - q' * r = -1) → (p * (s' + k * q') - q' * (r + k * p) = 1 ∨ p * (s' + k * q') - q' * (r + k * p) = -1) := fun h => by
        rw [show ∀ p q' r s' : Int, p * (s' + k * q') - q' * (r + k * p) = p * s' - q' * r from fun _ _ _ _ => by grind]
        exact h
      have w3 : ∀ {z : Int}, z.natAbs ≤ M → z.natAbs ≤ 3 * M := fun h => by omega
      refine ⟨fun σ H' => ∃ (p q' r s' : Int) (y5 : Option V), σ = [some (.ref c), some (.int p), some (.int q'), some (.int r), some (.int s'), y5, some (.int wy), some (.int k)] ∧ H4 = H' ∧ ((wy ≠ 0 ∧ Gc p q' r s' M) ∨ (wy = 0 ∧ Gc p q' r s' (3 * M))), ?_, ?_⟩
      · refine ⟨_, rfl, rfl, _, rfl, iteE (fun h => ?_) (fun h => ?_)⟩
        · refine ⟨_, rfl, _, rfl, _, rfl, _, _, rfl, rfl, mulB bk (bs (by omega)) (by decide), _, _, rfl, rfl, _, rfl, _, rfl, _, rfl, _, _, rfl, rfl, mulB bk (bs (by omega)) (by decide), _, _, rfl, rfl, ?_⟩
          exact ⟨_, _, rfl, p + k * r, q' + k * s', r, s', _, rfl, rfl, .inr ⟨h, lin g1 g3, lin g2 g4, w3 g3, w3 g4, det1 g5⟩⟩
        · exact ⟨p, q', r, s', _, rfl, rfl, .inl ⟨h, g1, g2, g3, g4, g5⟩⟩
      rintro σ _ ⟨p, q', r, s', y5, rfl, rfl, hcase⟩
      refine ⟨fun σ H' => ∃ (p q' r s' : Int) (y5 : Option V), σ = [some (.ref c), some (.int p), some (.int q'), some (.int r), some (.int s'), y5, some (.int wy), some (.int k)] ∧ H4 = H' ∧ ((wy = 2 ∧ Gc p q' r s' M) ∨ (wy ≠ 2 ∧ Gc p q' r s' (3 * M))), ?_, ?_⟩
      · refine ⟨_, rfl, rfl, _, rfl, iteE (fun h => ?_) (fun h => ?_)⟩
        · rcases hcase with ⟨_, g1, g2, g3, g4, g5⟩ | ⟨h0, _⟩
          · refine ⟨_, rfl, _, rfl, _, rfl, _, _, rfl, rfl, mulB bk (bs (by omega)) (by decide), _, _, rfl, rfl, _, rfl, _, rfl, _, rfl, _, _, rfl, rfl, mulB bk (bs (by omega)) (by decide), _, _, rfl, rfl, ?_⟩
            exact ⟨_, _, rfl, p, q', r + k * p, s' + k * q', _, rfl, rfl, .inr ⟨by omega, w3 g1, w3 g2, lin g3 g1, lin g4 g2, det2 g5⟩⟩
          · omega
        · refine ⟨p, q', r, s', _, rfl, rfl, ?_⟩
          rcases hcase with ⟨h0, g⟩ | ⟨h0, g⟩
          · exact .inl ⟨by omega, g⟩
          · exact .inr ⟨by omega, g⟩
      rintro σ _ ⟨p, q', r, s', y5, rfl, rfl, hcase⟩
      refine ⟨_, rfl, rfl, _, rfl, iteE (fun h => ?_) (fun h => ?_)⟩
      · rcases hcase with ⟨_, g1, g2, g3, g4, g5⟩ | ⟨h0, _⟩
        · refine ⟨_, rfl, _, rfl, _, rfl, _, rfl, sl4, fun u nu => ?_⟩
          refine ⟨u, _, rfl, SqT.of upd_same, rfl, _, _, rfl, _, _, rfl, _, _, rfl, _, _, rfl, rfl, ?_⟩
          refine ⟨r, s', p, q', _, _, _, rfl, e3.trans (e4.trans (fv_new e4.1 nu)), ?_⟩
          rw [hM3]
          refine ⟨w3 g3, w3 g4, w3 g1, w3 g2, ?_⟩
          rw [show r * q' - s' * p = -(p * s' - q' * r) by grind]
          omega
        · exact absurd h h0
      · rcases hcase with ⟨h0, _⟩ | ⟨_, g⟩
        · exact absurd h0 h
        · refine ⟨p, q', r, s', _, _, _, rfl, e3.trans e4, ?_⟩
          rw [hM3]
          exact g
    · rintro σ H3 ⟨p, q', r, s', y5, y6, y7, rfl, e3, hg⟩
      have m81 : (3 : Nat) ^ n.toNat ≤ 81 := Nat.le_trans (Nat.pow_le_pow_right (by decide) (show n.toNat ≤ 4 by omega)) (by decide)
      refine ⟨_, rfl, _, rfl, sl2, fun t1 n1 => ⟨_, rfl, _, rfl, sl2, fun t2 n2 => ⟨sl2, fun t3 n3 => ?_⟩⟩⟩
      have w := t4_new n1 n2 n3
      obtain ⟨g1, g2, g3, g4, g5⟩ := hg
      exact q t3 p q' r s' _ ((fv_ex hc e1).trans (e2.trans (e3.trans (fv_ex e3.1 w.1)))) w.2 ⟨Nat.le_trans g1 m81, Nat.le_trans g2 m81, Nat.le_trans g3 m81, Nat.le_trans g4 m81, g5⟩
theorem ok_l_led (T : Txt K mg C_Form) : Def P w K mg base 3 "_law_led" ["_law_row_here", "_law_change_here"] (sp_l_led K C_Form) := by
  obtain ⟨f_, fd_, g_, F_⟩ := T.d_l_led
  obtain ⟨f_l_moved, fd_l_moved, g_l_moved, k_l_moved, b_l_moved, G_l_moved⟩ := (ok_l_moved (P := P) (w := w) (base := base) T)
  refine ⟨f_, fd_, g_, F_.kp, F_.binds (ps := ["_law_row_here", "_law_change_here"]) (fun _ _ _ _ _ _ us hl => match us, hl with | [_, _], _ => rfl), ?_⟩
  refine F_.ok sc_l_led (fun vs H Q E h => ?_) (fun cdv A outer s H vs Q E hr h => ?_)
  · first | (obtain ⟨rfl, _⟩ := h; rfl) | (obtain ⟨_, rfl, _⟩ := h; rfl) | (obtain ⟨_, _, rfl, _⟩ := h; rfl) | (obtain ⟨_, _, _, rfl, _⟩ := h; rfl) | (obtain ⟨_, _, _, _, rfl, _⟩ := h; rfl) | (obtain ⟨_, _, _, _, _, rfl, _⟩ := h; rfl) | (obtain ⟨_, _, _, _, _, _, rfl, _⟩ := h; rfl) | (obtain ⟨_, _, _, _, _, _, _, rfl, _⟩ := h; rfl) | (obtain ⟨_, _, _, _, _, _, _, _, rfl, _⟩ := h; rfl) | (obtain ⟨_, _, _, _, _, _, _, _, _, rfl, _⟩ := h; rfl) | (obtain ⟨_, _, _, _, _, _, _, _, _, _, rfl, _⟩ := h; rfl) | (obtain ⟨_, _, _, _, _, _, _, _, _, _, _, rfl, _⟩ := h; rfl) | (obtain ⟨_, _, _, _, _, _, _, _, _, _, _, _, rfl, _⟩ := h; rfl) | (obtain ⟨_, _, _, _, _, _, _, _, _, _, _, _, _, rfl, _⟩ := h; rfl) | (obtain ⟨_, _, _, _, _, _, _, _, _, _, _, _, _, _, rfl, _⟩ := h; rfl) | (obtain ⟨_, _, _, _, _, _, _, _, _, _, _, _, _, _, _, rfl, _⟩ := h; rfl) | (obtain ⟨_, _, _, _, _, _, _, _, _, _, _, _, _, _, _, _, rfl, _⟩ := h; rfl) | (obtain ⟨_, _, _, _, _, _, _, _, _, _, _, _, _, _, _, _, _, rfl, _⟩ := h; rfl) | (obtain ⟨_, _, _, _, _, _, _, _, _, _, _, _, _, _, _, _, _, _, rfl, _⟩ := h; rfl) | (obtain ⟨_, _, _, _, _, _, _, _, _, _, _, _, _, _, _, _, _, _, _, rfl, _⟩ := h; rfl) | (obtain ⟨_, _, _, _, _, _, _, _, _, _, _, _, _, _, _, _, _, _, _, _, rfl, _⟩ := h; rfl) | (obtain ⟨_, _, _, _, _, _, _, _, _, _, _, _, _, _, _, _, _, _, _, _, _, rfl, _⟩ := h; rfl) | (obtain ⟨_, _, _, _, _, _, _, _, _, _, _, _, _, _, _, _, _, _, _, _, _, _, rfl, _⟩ := h; rfl) | (obtain ⟨_, _, _, _, _, _, _, _, _, _, _, _, _, _, _, _, _, _, _, _, _, _, _, rfl, _⟩ := h; rfl)
  · obtain ⟨t, u, a, b, c, d, p, q', r, s', rfl, ht, hu, ⟨ba, bb, bc, bd⟩, ⟨bp, bq, br, bs⟩, q⟩ := h
    refine ⟨_, (Evl.pss_cut (ps_asg (pv 1) (pg_tup (by rfl) (pgs_cons (pg_tup (by rfl) (pgs_cons (pg_name (i := 2) sc_l_led.nd rfl (.inr rfl)) (pgs_cons (pg_name (i := 3) sc_l_led.nd rfl (.inr rfl)) pgs_nil))) (pgs_cons (pg_tup (by rfl) (pgs_cons (pg_name (i := 4) sc_l_led.nd rfl (.inr rfl)) (pgs_cons (pg_name (i := 5) sc_l_led.nd rfl (.inr rfl)) pgs_nil))) pgs_nil))))
    (pss_one (ps_ret (pe_callTy call_tuple_of (by rfl) T.b_tuple (by decide +kernel) (pa_cons (pe_lc (own := [("_law_entry", 6)]) (g := (gName 6)) rfl sc_l_led.nd (pi_tup (pe_call G_l_moved (hr.mono (by decide)) (by rfl) g_l_moved k_l_moved b_l_moved .nil pass0 (pa_cons (pv 0) (pa_cons (pv 1) pa_nil)))) (blkOk_by (N := N_l_led) (sc := defScope s_l_led) (by decide +kernel)) (fun _ _ _ _ _ => (pg_name (i := 6) sc_l_led.nd rfl (.inl rfl))) (fun _ _ _ _ _ => pts_nil) (fun _ _ _ _ _ => (pe_op op_mulW (pe_op op_sub (pe_op op_mulW (pv 2) (pv 5)) (pe_op op_mulW (pv 3) (pv 4))) (pv 6)))) pa_nil))))), ?_⟩
    refine ⟨fun σ H' => σ = [some (.ref t), some (.ref u), some (.int p), some (.int q'), some (.int r), some (.int s'), none] ∧ H = H', ?_, ?_⟩
    · exact ⟨_, rfl, un4 hu ⟨rfl, rfl⟩⟩
    rintro σ _ ⟨rfl, rfl⟩
    have be : B 200 (p * s' - q' * r) := B.sub (B.mul bp bs) (B.mul bq br)
    obtain ⟨m1, m2, m3, m4⟩ := moved_B (n := 0) ⟨ba, bb, bc, bd⟩ ⟨bp, bq, br, bs⟩
    refine ⟨_, rfl, _, rfl, t, u, a, b, c, d, p, q', r, s', rfl, ht, tq_of hu, ba, bb, bc, bd, bp, bq, br, bs, fun o H1 e1 ho => ?_⟩
    refine ⟨o, rfl, ⟨_, SqT.of ho⟩, ?_⟩
    refine lcT fm0 trivial (SqT.of ho) (fun z => z) (fun i acc _ => acc = ((ledL a b c d p q' r s').take i).map V.int) (fun _ _ => rfl) (fun D i v acc H' hD hv e hA hlen hp' => ?_) (fun D H3 acc hD e hA hp' => ?_)
    · obtain ⟨n, hn, rfl⟩ := get_int hv
      have hi : i < 4 := (List.getElem?_eq_some_iff.mp hn).1
      have bn : B 3000 n := by
        match i, hn with
        | 0, hn => rw [← Option.some.inj hn]; exact m1
        | 1, hn => rw [← Option.some.inj hn]; exact m2
        | 2, hn => rw [← Option.some.inj hn]; exact m3
        | 3, hn => rw [← Option.some.inj hn]; exact m4
      refine ⟨rfl, ?_⟩
      refine ⟨_, rfl, _, rfl, _, _, rfl, rfl, mulB bp bs (by decide), _, rfl, _, rfl, _, _, rfl, rfl, mulB bq br (by decide), _, _, rfl, rfl, _, rfl, _, _, rfl, rfl, mulB be bn (by decide), ?_⟩
      refine cs_yes fm0 trivial hD e hA hlen (by omega) (Fx.refl trivial) ?_
      show acc ++ [V.int ((p * s' - q' * r) * n)] = _
      rw [hp']
      match i, hn with
      | 0, hn => rw [← Option.some.inj hn]; rfl
      | 1, hn => rw [← Option.some.inj hn]; rfl
      | 2, hn => rw [← Option.some.inj hn]; rfl
      | 3, hn => rw [← Option.some.inj hn]; rfl
    · have hq : acc = (ledL a b c d p q' r s').map V.int := hp'
      subst hq
      refine ⟨D, _, rfl, .inl ⟨SqL.of hA, fun o2 n2 => ?_⟩⟩
      exact q o2 _ (e1.trans (Fx.trans e (Ex0.new n2))) upd_same
end
end K39
namespace K39
open PySem PySem.Spec PyProof.Rows L2 Fr
theorem em {z p : Int} : decide (z % p = 0) = true ↔ p ∣ z := by
  rw [decide_eq_true_iff, Int.dvd_iff_emod_eq_zero]
theorem pr_of {p : Nat} (h : Pr p) (h13 : p ≤ 13) : p = 2 ∨ p = 3 ∨ p = 5 ∨ p = 7 ∨ p = 11 ∨ p = 13 := by
  obtain ⟨h2, hc⟩ := h
  rcases (by omega : p = 2 ∨ p = 3 ∨ p = 4 ∨ p = 5 ∨ p = 6 ∨ p = 7 ∨ p = 8 ∨ p = 9 ∨ p = 10 ∨ p = 11 ∨ p = 12 ∨ p = 13) with z | z | z | z | z | z | z | z | z | z | z | z
  · omega
  · omega
  · subst z; exact absurd rfl (hc 2 (by decide) (by decide))
  · omega
  · subst z; exact absurd rfl (hc 2 (by decide) (by decide))
  · omega
  · subst z; exact absurd rfl (hc 2 (by decide) (by decide))
  · subst z; exact absurd rfl (hc 3 (by decide) (by decide))
  · subst z; exact absurd rfl (hc 2 (by decide) (by decide))
  · omega
  · subst z; exact absurd rfl (hc 2 (by decide) (by decide))
  · omega
theorem inv_tab : ∀ p ∈ [2, 3, 5, 7, 11, 13], ∀ r : Fin 13, r.val < p → r.val ≠ 0 → ∃ m : Fin 13, r.val * m.val % p = 1 := by decide
theorem inv13 {p : Nat} (hp : Pr p) (p13 : p ≤ 13) {l : Int} (h : ¬ (p : Int) ∣ l) : ∃ m k : Int, l * m = 1 + (p : Int) * k := by
  have pp := hp.1
  have hm : p ∈ [2, 3, 5, 7, 11, 13] := by
    rcases pr_of hp p13 with rfl | rfl | rfl | rfl | rfl | rfl <;> decide
  have n0 := Int.emod_nonneg l (show (p : Int) ≠ 0 by omega)
  have n1 := Int.emod_lt_of_pos l (show (0 : Int) < (p : Int) by omega)
  obtain ⟨r, hr⟩ : ∃ r : Nat, l % (p : Int) = (r : Int) := ⟨(l % (p : Int)).toNat, by omega⟩
  have r0 : r ≠ 0 := fun z => h (Int.dvd_of_emod_eq_zero (by rw [hr, z]; rfl))
  obtain ⟨m, hm0⟩ := inv_tab p hm ⟨r, by omega⟩ (by show r < p; omega) r0
  have hm : r * m.val % p = 1 := hm0
  clear hm0
  have e1 := Int.emod_add_mul_ediv l (p : Int)
  have e2 := Nat.mod_add_div (r * m.val) p
  rw [hm] at e2
  have e3 : (r : Int) * (m.val : Int) = 1 + (p : Int) * ((r * m.val / p : Nat) : Int) := by
    have := congrArg (fun n : Nat => (n : Int)) e2
    simp only [Int.natCast_add, Int.natCast_mul] at this
    exact this.symm
  refine ⟨(m.val : Int), l / (p : Int) * (m.val : Int) + ((r * m.val / p : Nat) : Int), ?_⟩
  rw [hr] at e1
  generalize ((r * m.val / p : Nat) : Int) = k at *
  generalize l / (p : Int) = j at *
  generalize (m.val : Int) = m' at *
  generalize (r : Int) = r' at *
  generalize (p : Int) = P at *
  rw [← e1, Int.add_mul, e3]
  grind
theorem pdvd {p : Nat} (hp : Pr p) (p13 : p ≤ 13) {a b : Int} (h : (p : Int) ∣ a * b) (ha : ¬ (p : Int) ∣ a) : (p : Int) ∣ b := by
  obtain ⟨m, k, e⟩ := inv13 hp p13 ha
  obtain ⟨j, hj⟩ := h
  generalize (p : Int) = P at *
  refine ⟨m * j - k * b, ?_⟩
  have : b * (a * m) = b + P * k * b := by rw [e]; grind
  grind
def Rt (P a b c d x y : Int) : Prop := P ∣ fv a b c d x y
def gx (a b c x y : Int) : Int := 3 * a * x * x + 2 * b * x * y + c * y * y
def gy (b c d x y : Int) : Int := b * x * x + 2 * c * x * y + 3 * d * y * y
def Hv (P a b c d x y : Int) : Prop := P * P ∣ fv a b c d x y ∧ P ∣ gx a b c x y ∧ P ∣ gy b c d x y
theorem rt_root {P a b c d x y : Int} : rootB a b c d P x y = true ↔ Rt P a b c d x y := em
theorem hv_heavy {P a b c d x y : Int} (hp : Plc P x y) : heavyB a b c d P x y = true ↔ Hv P a b c d x y := by
  rcases hp with ⟨rfl, _⟩ | ⟨rfl, rfl⟩
  · unfold heavyB
    rw [if_pos rfl, Bool.and_eq_true_iff, em, em]
    have e1 : gx a b c x 1 = (3 * a * x + 2 * b) * x + c := by unfold gx; grind
    constructor
    · rintro ⟨h1, h2⟩
      refine ⟨h1, by rw [e1]; exact h2, ?_⟩
      obtain ⟨k, hk⟩ := h1
      obtain ⟨j, hj⟩ := h2
      refine ⟨3 * (P * k) - x * j, ?_⟩
      have : gy b c d x 1 = 3 * fv a b c d x 1 - x * ((3 * a * x + 2 * b) * x + c) := by unfold gy fv; grind
      rw [this, hk, hj]
      grind
    · rintro ⟨h1, h2, _⟩
      exact ⟨h1, by rw [← e1]; exact h2⟩
  · unfold heavyB
    rw [if_neg (by decide), Bool.and_eq_true_iff, em, em]
    have e0 : fv a b c d 1 0 = a := by unfold fv; grind
    have e1 : gx a b c 1 0 = 3 * a := by unfold gx; grind
    have e2 : gy b c d 1 0 = b := by unfold gy; grind
    unfold Hv
    rw [e0, e1, e2]
    constructor
    · rintro ⟨⟨k, hk⟩, h2⟩
      exact ⟨⟨k, hk⟩, ⟨3 * (P * k), by rw [hk]; grind⟩, h2⟩
    · rintro ⟨h1, _, h2⟩
      exact ⟨h1, h2⟩
theorem fv_shift (P a b c d x y u v : Int) : fv a b c d (x + P * u) (y + P * v) = fv a b c d x y + P * (u * gx a b c x y + v * gy b c d x y) + P * P * (3 * a * x * u * u + b * (2 * x * u * v + y * u * u) + c * (2 * y * u * v + x * v * v) + 3 * d * y * v * v + P * (a * u * u * u + b * u * u * v + c * u * v * v + d * v * v * v)) := by
  unfold fv gx gy
  grind
theorem gx_shift (P a b c x y u v : Int) : gx a b c (x + P * u) (y + P * v) = gx a b c x y + P * (6 * a * x * u + 2 * b * (x * v + y * u) + 2 * c * y * v + P * (3 * a * u * u + 2 * b * u * v + c * v * v)) := by
  unfold gx
  grind
theorem gy_shift (P b c d x y u v : Int) : gy b c d (x + P * u) (y + P * v) = gy b c d x y + P * (2 * b * x * u + 2 * c * (x * v + y * u) + 6 * d * y * v + P * (b * u * u + 2 * c * u * v + 3 * d * v * v)) := by
  unfold gy
  grind
theorem rt_shift {P a b c d x y u v : Int} (h : Rt P a b c d x y) : Rt P a b c d (x + P * u) (y + P * v) := by
  unfold Rt at *
  rw [fv_shift, Int.mul_assoc P P]
  exact Int.dvd_add (Int.dvd_add h (Int.dvd_mul_right _ _)) (Int.dvd_mul_right _ _)
theorem hv_shift {P a b c d x y u v : Int} (h : Hv P a b c d x y) : Hv P a b c d (x + P * u) (y + P * v) := by
  obtain ⟨h1, ⟨i, hi⟩, ⟨j, hj⟩⟩ := h
  refine ⟨?_, ?_, ?_⟩
  · rw [fv_shift, hi, hj]
    refine Int.dvd_add (Int.dvd_add h1 ⟨u * i + v * j, by grind⟩) (Int.dvd_mul_right _ _)
  · rw [gx_shift]
    exact Int.dvd_add ⟨i, hi⟩ (Int.dvd_mul_right _ _)
  · rw [gy_shift]
    exact Int.dvd_add ⟨j, hj⟩ (Int.dvd_mul_right _ _)
theorem rt_scale {P a b c d x y l : Int} (h : Rt P a b c d x y) : Rt P a b c d (l * x) (l * y) := by
  unfold Rt at *
  rw [show fv a b c d (l * x) (l * y) = l * l * l * fv a b c d x y by unfold fv; grind]
  exact Int.dvd_mul_of_dvd_right h
theorem hv_scale {P a b c d x y l : Int} (h : Hv P a b c d x y) : Hv P a b c d (l * x) (l * y) := by
  obtain ⟨h1, h2, h3⟩ := h
  refine ⟨?_, ?_, ?_⟩
  · rw [show fv a b c d (l * x) (l * y) = l * l * l * fv a b c d x y by unfold fv; grind]
    exact Int.dvd_mul_of_dvd_right h1
  · rw [show gx a b c (l * x) (l * y) = l * l * gx a b c x y by unfold gx; grind]
    exact Int.dvd_mul_of_dvd_right h2
  · rw [show gy b c d (l * x) (l * y) = l * l * gy b c d x y by unfold gy; grind]
    exact Int.dvd_mul_of_dvd_right h3
structure Tst (p : Nat) (G : Int → Int → Prop) : Prop where
  sh : ∀ x y u v, G x y → G (x + (p : Int) * u) (y + (p : Int) * v)
  sc : ∀ l x y, G x y → G (l * x) (l * y)
theorem Tst.iff {p : Nat} {G : Int → Int → Prop} (hG : Tst p G) (hp : Pr p) (p13 : p ≤ 13) {l x y u v : Int} (hl : ¬ (p : Int) ∣ l) : G (l * x + (p : Int) * u) (l * y + (p : Int) * v) ↔ G x y := by
  obtain ⟨m, k, e⟩ := inv13 hp p13 hl
  constructor
  · intro h
    have h1 := hG.sh _ _ (-u) (-v) h
    rw [show l * x + (p : Int) * u + (p : Int) * -u = l * x by grind, show l * y + (p : Int) * v + (p : Int) * -v = l * y by grind] at h1
    have h2 := hG.sh _ _ (-(k * x)) (-(k * y)) (hG.sc m _ _ h1)
    rw [show m * (l * x) + (p : Int) * -(k * x) = x by
      have : m * (l * x) = (l * m) * x := by grind
      rw [this, e]
      grind, show m * (l * y) + (p : Int) * -(k * y) = y by
      have : m * (l * y) = (l * m) * y := by grind
      rw [this, e]
      grind] at h2
    exact h2
  · intro h
    exact hG.sh _ _ _ _ (hG.sc _ _ _ h)
theorem rt_tst (p : Nat) (a b c d : Int) : Tst p (Rt p a b c d) := ⟨fun _ _ _ _ h => rt_shift h, fun _ _ _ h => rt_scale h⟩
theorem hv_tst (p : Nat) (a b c d : Int) : Tst p (Hv p a b c d) := ⟨fun _ _ _ _ h => hv_shift h, fun _ _ _ h => hv_scale h⟩
def Cr (p : Nat) (z w : Int × Int) : Prop := (p : Int) ∣ z.1 * w.2 - z.2 * w.1
def Nz (p : Nat) (w : Int × Int) : Prop := ¬ ((p : Int) ∣ w.1 ∧ (p : Int) ∣ w.2)
theorem small0 {p : Nat} {z : Int} (h : (p : Int) ∣ z) (h1 : -(p : Int) < z) (h2 : z < (p : Int)) : z = 0 := by
  obtain ⟨k, hk⟩ := h
  rcases Int.lt_trichotomy k 0 with h | h | h
  · have := Int.mul_le_mul_of_nonneg_left (show k ≤ -1 by omega) (show (0 : Int) ≤ (p : Int) by omega)
    omega
  · rw [hk, h, Int.mul_zero]
  · have := Int.mul_le_mul_of_nonneg_left (show 1 ≤ k by omega) (show (0 : Int) ≤ (p : Int) by omega)
    omega
theorem same {p : Nat} (hp : Pr p) {z w : Int × Int} (hz : Plc p z.1 z.2) (hw : Plc p w.1 w.2) (h : Cr p z w) : z = w := by
  obtain ⟨x, y⟩ := z
  obtain ⟨u, v⟩ := w
  have p2 := hp.1
  unfold Cr at h
  simp only [] at *
  rcases hz with ⟨rfl, h0, h1⟩ | ⟨rfl, rfl⟩ <;> rcases hw with ⟨rfl, k0, k1⟩ | ⟨rfl, rfl⟩
  · have := small0 h (by omega) (by omega)
    have : x = u := by omega
    rw [this]
  · have := small0 h (by omega) (by omega)
    omega
  · have := small0 h (by omega) (by omega)
    omega
  · rfl
theorem scaled {p : Nat} {z w : Int × Int} (hz : Plc p z.1 z.2) (hw : Nz p w) (h : Cr p z w) : ∃ l u v : Int, ¬ (p : Int) ∣ l ∧ w.1 = l * z.1 + (p : Int) * u ∧ w.2 = l * z.2 + (p : Int) * v := by
  obtain ⟨x, y⟩ := z
  obtain ⟨X, Y⟩ := w
  obtain ⟨k, hk⟩ := h
  simp only [] at *
  rcases hz with ⟨rfl, h0, h1⟩ | ⟨rfl, rfl⟩
  · have e : X = Y * x + (p : Int) * -k := by grind
    refine ⟨Y, -k, 0, fun hd => hw ⟨?_, hd⟩, e, by grind⟩
    show (p : Int) ∣ X
    rw [e]
    exact Int.dvd_add (Int.dvd_mul_of_dvd_left hd) (Int.dvd_mul_right _ _)
  · have e : Y = X * 0 + (p : Int) * k := by grind
    refine ⟨X, 0, k, fun hd => hw ⟨hd, ?_⟩, by grind, e⟩
    show (p : Int) ∣ Y
    rw [e, Int.mul_zero, Int.zero_add]
    exact Int.dvd_mul_right _ _
theorem exists_place {p : Nat} (hp : Pr p) (p13 : p ≤ 13) (w : Int × Int) : ∃ z, z ∈ allP p ∧ Cr p z w := by
  obtain ⟨X, Y⟩ := w
  have p2 := hp.1
  rcases Classical.em ((p : Int) ∣ Y) with h | h
  · refine ⟨(1, 0), List.mem_append_right _ (List.mem_singleton.mpr rfl), ?_⟩
    show (p : Int) ∣ 1 * Y - 0 * X
    rw [Int.one_mul, Int.zero_mul, Int.sub_zero]
    exact h
  · obtain ⟨m, k, e⟩ := inv13 hp p13 h
    have n0 := Int.emod_nonneg (X * m) (show (p : Int) ≠ 0 by omega)
    have n1 := Int.emod_lt_of_pos (X * m) (show (0 : Int) < (p : Int) by omega)
    refine ⟨(X * m % (p : Int), 1), List.mem_append_left _ (List.mem_map.mpr ⟨(X * m % (p : Int)).toNat, List.mem_range.mpr (by omega), Prod.ext (by show (((X * m % (p : Int)).toNat : Nat) : Int) = X * m % (p : Int); omega) rfl⟩), ?_⟩
    have e1 := Int.emod_add_mul_ediv (X * m) (p : Int)
    refine ⟨X * k - X * m / (p : Int) * Y, ?_⟩
    show X * m % (p : Int) * Y - 1 * X = _
    generalize X * m % (p : Int) = r at *
    generalize X * m / (p : Int) = j at *
    generalize (p : Int) = P at *
    have : r = X * m - P * j := by omega
    rw [this]
    have e2 : X * (Y * m) = X + X * (P * k) := by rw [e]; grind
    grind
theorem same2 {p : Nat} (hp : Pr p) (p13 : p ≤ 13) {z z' w : Int × Int} (hz : Plc p z.1 z.2) (hz' : Plc p z'.1 z'.2) (hw : Nz p w) (h : Cr p z w) (h' : Cr p z' w) : z = z' := by
  obtain ⟨l, u, v, hl, e1, e2⟩ := scaled hz hw h
  have hc : (p : Int) ∣ l * (z.1 * z'.2 - z.2 * z'.1) := by
    obtain ⟨k, hk⟩ := h'
    rw [e1, e2] at hk
    refine ⟨-k + z'.1 * v - z'.2 * u, ?_⟩
    generalize (p : Int) = P at *
    grind
  exact same hp hz hz' (pdvd hp p13 hc hl)
def lx (p q r s x y : Int) : Int := p * x + r * y
def ly (p q r s x y : Int) : Int := q * x + s * y
theorem led_fv {a b c d p q r s X Y e : Int} (he : e = p * s - q * r) : fv (e * fv a b c d p q) (e * fl2 a b c d p q r s) (e * fl3 a b c d p q r s) (e * fv a b c d r s) X Y = e * fv a b c d (p * X + r * Y) (q * X + s * Y) := by
  unfold fv fl2 fl3
  grind
theorem led_gx {a b c d p q r s X Y e : Int} : gx (e * fv a b c d p q) (e * fl2 a b c d p q r s) (e * fl3 a b c d p q r s) X Y = e * (p * gx a b c (p * X + r * Y) (q * X + s * Y) + q * gy b c d (p * X + r * Y) (q * X + s * Y)) := by
  unfold gx gy fv fl2 fl3
  grind
theorem led_gy {a b c d p q r s X Y e : Int} : gy (e * fl2 a b c d p q r s) (e * fl3 a b c d p q r s) (e * fv a b c d r s) X Y = e * (r * gx a b c (p * X + r * Y) (q * X + s * Y) + s * gy b c d (p * X + r * Y) (q * X + s * Y)) := by
  unfold gx gy fv fl2 fl3
  grind
theorem unit_dvd {P e z : Int} (he : e = 1 ∨ e = -1) : P ∣ e * z ↔ P ∣ z := by
  rcases he with rfl | rfl
  · rw [Int.one_mul]
  · rw [show (-1 : Int) * z = -z by grind, Int.dvd_neg]
theorem led_rt {P a b c d p q r s e X Y : Int} (he : e = p * s - q * r) (h1 : e = 1 ∨ e = -1) : Rt P (e * fv a b c d p q) (e * fl2 a b c d p q r s) (e * fl3 a b c d p q r s) (e * fv a b c d r s) X Y ↔ Rt P a b c d (p * X + r * Y) (q * X + s * Y) := by
  unfold Rt
  rw [led_fv he, unit_dvd h1]
theorem led_hv {P a b c d p q r s e X Y : Int} (he : e = p * s - q * r) (h1 : e = 1 ∨ e = -1) : Hv P (e * fv a b c d p q) (e * fl2 a b c d p q r s) (e * fl3 a b c d p q r s) (e * fv a b c d r s) X Y ↔ Hv P a b c d (p * X + r * Y) (q * X + s * Y) := by
  unfold Hv
  rw [led_fv he, led_gx, led_gy, unit_dvd h1, unit_dvd h1, unit_dvd h1]
  generalize gx a b c (p * X + r * Y) (q * X + s * Y) = A
  generalize gy b c d (p * X + r * Y) (q * X + s * Y) = C
  have ee : e * e = 1 := by rcases h1 with rfl | rfl <;> rfl
  constructor
  · rintro ⟨k1, ⟨i, hi⟩, ⟨j, hj⟩⟩
    refine ⟨k1, ⟨e * (s * i - q * j), ?_⟩, ⟨e * (p * j - r * i), ?_⟩⟩
    · have : s * (p * A + q * C) - q * (r * A + s * C) = e * A := by rw [he]; grind
      rw [hi, hj] at this
      have : e * _ = e * (e * _) := congrArg (fun z => e * z) this
      rw [← Int.mul_assoc e e, ee, Int.one_mul] at this
      rw [← this]
      grind
    · have : p * (r * A + s * C) - r * (p * A + q * C) = e * C := by rw [he]; grind
      rw [hi, hj] at this
      have : e * _ = e * (e * _) := congrArg (fun z => e * z) this
      rw [← Int.mul_assoc e e, ee, Int.one_mul] at this
      rw [← this]
      grind
  · rintro ⟨k1, ⟨i, hi⟩, ⟨j, hj⟩⟩
    exact ⟨k1, ⟨p * i + q * j, by rw [hi, hj]; grind⟩, ⟨r * i + s * j, by rw [hi, hj]; grind⟩⟩
def Mv (p : Nat) (a b c d : Int) (z w : Int × Int) : Prop := w ∈ allP p ∧ Cr p w ((a * d - b * c) * (d * z.1 - c * z.2), (a * d - b * c) * (a * z.2 - b * z.1))
section
variable {p : Nat} (hp : Pr p) (p13 : p ≤ 13) {a b c d : Int} (h1 : a * d - b * c = 1 ∨ a * d - b * c = -1)
include hp p13 h1
theorem nz_of {z : Int × Int} (hz : Plc p z.1 z.2) {X Y : Int} {e : Int} (h2 : e = 1 ∨ e = -1) {α β γ δ : Int} (hd : α * δ - β * γ = 1 ∨ α * δ - β * γ = -1) (hX : X = e * (α * z.1 + β * z.2)) (hY : Y = e * (γ * z.1 + δ * z.2)) : Nz p (X, Y) := by
  rintro ⟨i, j⟩
  simp only [] at i j
  have p2 := hp.1
  rw [hX, unit_dvd h2] at i
  rw [hY, unit_dvd h2] at j
  obtain ⟨i, hi⟩ := i
  obtain ⟨j, hj⟩ := j
  have x0 : (p : Int) ∣ (α * δ - β * γ) * z.1 := ⟨δ * i - β * j, by
    have : (α * δ - β * γ) * z.1 = δ * (α * z.1 + β * z.2) - β * (γ * z.1 + δ * z.2) := by grind
    rw [this, hi, hj]
    grind⟩
  have y0 : (p : Int) ∣ (α * δ - β * γ) * z.2 := ⟨α * j - γ * i, by
    have : (α * δ - β * γ) * z.2 = α * (γ * z.1 + δ * z.2) - γ * (α * z.1 + β * z.2) := by grind
    rw [this, hi, hj]
    grind⟩
  rw [unit_dvd hd] at x0 y0
  rcases hz with ⟨e1, _, _⟩ | ⟨e1, e2⟩
  · rw [e1] at y0
    have := small0 y0 (by omega) (by omega)
    omega
  · rw [e1] at x0
    have := small0 x0 (by omega) (by omega)
    omega
theorem nz_back {z : Int × Int} (hz : Plc p z.1 z.2) : Nz p ((a * d - b * c) * (d * z.1 - c * z.2), (a * d - b * c) * (a * z.2 - b * z.1)) :=
  nz_of hp p13 h1 hz h1 (α := d) (β := -c) (γ := -b) (δ := a) (by rw [show d * a - -c * -b = a * d - b * c by grind]; exact h1) (by grind) (by grind)
theorem nz_led {w : Int × Int} (hw : Plc p w.1 w.2) : Nz p (a * w.1 + c * w.2, b * w.1 + d * w.2) :=
  nz_of hp p13 h1 hw (.inl rfl) (α := a) (β := c) (γ := b) (δ := d) (by rw [show a * d - c * b = a * d - b * c by grind]; exact h1) (by grind) (by grind)
theorem cr_led {z w : Int × Int} : Cr p w ((a * d - b * c) * (d * z.1 - c * z.2), (a * d - b * c) * (a * z.2 - b * z.1)) ↔ Cr p z (a * w.1 + c * w.2, b * w.1 + d * w.2) := by
  unfold Cr
  simp only []
  rw [show w.1 * ((a * d - b * c) * (a * z.2 - b * z.1)) - w.2 * ((a * d - b * c) * (d * z.1 - c * z.2)) = (a * d - b * c) * -(z.1 * (b * w.1 + d * w.2) - z.2 * (a * w.1 + c * w.2)) by grind, unit_dvd h1, Int.dvd_neg]
theorem mv_test {G G' : Int → Int → Prop} (hG : Tst p G) (hl : ∀ X Y, G' X Y ↔ G (a * X + c * Y) (b * X + d * Y)) {z w : Int × Int} (hz : z ∈ allP p) (h : Mv p a b c d z w) : G' w.1 w.2 ↔ G z.1 z.2 := by
  obtain ⟨hw, hc⟩ := h
  have hc := (cr_led hp p13 h1).mp hc
  obtain ⟨l, u, v, hl', e1, e2⟩ := scaled (mem_all hz) (nz_led hp p13 h1 (mem_all hw)) hc
  simp only [] at e1 e2
  rw [hl, e1, e2]
  exact hG.iff hp p13 hl'
theorem mv_inj {z z' w : Int × Int} (hz : z ∈ allP p) (hz' : z' ∈ allP p) (h : Mv p a b c d z w) (h' : Mv p a b c d z' w) : z = z' :=
  same2 hp p13 (mem_all hz) (mem_all hz') (nz_led hp p13 h1 (mem_all h.1)) ((cr_led hp p13 h1).mp h.2) ((cr_led hp p13 h1).mp h'.2)
theorem mv_fun {z w w' : Int × Int} (hz : z ∈ allP p) (h : Mv p a b c d z w) (h' : Mv p a b c d z w') : w = w' :=
  same2 hp p13 (mem_all h.1) (mem_all h'.1) (nz_back hp p13 h1 (mem_all hz)) h.2 h'.2
theorem mv_ex {w : Int × Int} (hw : w ∈ allP p) : ∃ z, z ∈ allP p ∧ Mv p a b c d z w := by
  obtain ⟨z, hz, hc⟩ := exists_place hp p13 (a * w.1 + c * w.2, b * w.1 + d * w.2)
  exact ⟨z, hz, hw, (cr_led hp p13 h1).mpr hc⟩
inductive Mvs (p : Nat) (a b c d : Int) : List (Int × Int) → List (Int × Int) → Prop where
  | nil : Mvs p a b c d [] []
  | cons {z w : Int × Int} {zs ws : List (Int × Int)} (h : Mv p a b c d z w) (r : Mvs p a b c d zs ws) : Mvs p a b c d (z :: zs) (w :: ws)
omit hp p13 h1 in
theorem Mvs.snoc {zs ws : List (Int × Int)} (h : Mvs p a b c d zs ws) {z w : Int × Int} (g : Mv p a b c d z w) : Mvs p a b c d (zs ++ [z]) (ws ++ [w]) := by
  induction h with
  | nil => exact .cons g .nil
  | cons h _ ih => exact .cons h ih
omit hp p13 h1 in
theorem Mvs.right {zs ws : List (Int × Int)} (h : Mvs p a b c d zs ws) : ∀ w ∈ ws, ∃ z ∈ zs, Mv p a b c d z w := by
  induction h with
  | nil => intro w hw; cases hw
  | cons h _ ih =>
    intro w hw
    rcases List.mem_cons.mp hw with rfl | hw
    · exact ⟨_, List.mem_cons_self, h⟩
    · obtain ⟨z, h1, h2⟩ := ih w hw
      exact ⟨z, List.mem_cons_of_mem _ h1, h2⟩
omit hp p13 h1 in
theorem Mvs.left {zs ws : List (Int × Int)} (h : Mvs p a b c d zs ws) : ∀ z ∈ zs, ∃ w ∈ ws, Mv p a b c d z w := by
  induction h with
  | nil => intro w hw; cases hw
  | cons h _ ih =>
    intro w hw
    rcases List.mem_cons.mp hw with rfl | hw
    · exact ⟨_, List.mem_cons_self, h⟩
    · obtain ⟨z, h1, h2⟩ := ih w hw
      exact ⟨z, List.mem_cons_of_mem _ h1, h2⟩
theorem Mvs.nodup {zs ws : List (Int × Int)} (h : Mvs p a b c d zs ws) (hz : ∀ z ∈ zs, z ∈ allP p) (nd : zs.Nodup) : ws.Nodup := by
  induction h with
  | nil => exact List.nodup_nil
  | @cons z w zs ws h r ih =>
    obtain ⟨n1, n2⟩ := List.nodup_cons.mp nd
    refine List.nodup_cons.mpr ⟨fun hw => ?_, ih (fun z hz' => hz z (List.mem_cons_of_mem _ hz')) n2⟩
    obtain ⟨z', h2, h3⟩ := r.right w hw
    have := mv_inj hp p13 h1 (hz z List.mem_cons_self) (hz z' (List.mem_cons_of_mem _ h2)) h h3
    exact n1 (this ▸ h2)
theorem moved_eq {G G' : Int → Int → Prop} (hG : Tst p G) (hl : ∀ X Y, G' X Y ↔ G (a * X + c * Y) (b * X + d * Y)) {zs ws us qs : List (Int × Int)} (hz : ∀ z, z ∈ zs ↔ z ∈ allP p ∧ G z.1 z.2) (nd : zs.Nodup) (hm : Mvs p a b c d zs ws) (hu : us.Perm ws) (su : us.Pairwise lexP) (hq : ∀ z, z ∈ qs ↔ z ∈ allP p ∧ G' z.1 z.2) (nq : qs.Nodup) (sq : qs.Pairwise lexP) : us = qs := by
  refine eq_sorted su (hu.nodup_iff.mpr (hm.nodup hp p13 h1 (fun z h => ((hz z).mp h).1) nd)) sq nq fun w => ?_
  rw [hu.mem_iff, hq w]
  constructor
  · intro h
    obtain ⟨z, h2, h3⟩ := hm.right w h
    obtain ⟨k1, k2⟩ := (hz z).mp h2
    exact ⟨h3.1, (mv_test hp p13 h1 hG hl k1 h3).mpr k2⟩
  · rintro ⟨h2, h3⟩
    obtain ⟨z, k1, k2⟩ := mv_ex hp p13 h1 h2
    have hz2 := (hz z).mpr ⟨k1, (mv_test hp p13 h1 hG hl k1 k2).mp h3⟩
    obtain ⟨w', h4, h5⟩ := hm.left z hz2
    rw [mv_fun hp p13 h1 k1 k2 h5]
    exact h4
end
end K39
namespace K39
open PySem PySem.Spec PyProof.Rows L2 Fr
def sp_l_is_heavy (K : PySem.W.Frag) (_ : Addr) : Sp := fun vs H Q _ => ∃ (t u : Addr) (a b c d p x y : Int), vs = [.ref t, .int p, .ref u] ∧ Ti H t [a, b, c, d] ∧ SqT K H u [.int x, .int y] ∧ B4 100 a b c d ∧ B 50 x ∧ (y = 1 ∨ (x = 1 ∧ y = 0)) ∧ 0 < p ∧ p ≤ 1000 ∧ ∀ H', Ex0 H H' → Q (.bl (heavyB a b c d p x y)) H'
def sp_l_any_row (_ : PySem.W.Frag) (_ : Addr) : Sp := fun vs H Q _ => ∃ (c : Addr) (p : Nat), vs = [.ref c, .int (p : Int)] ∧ Vat c H ∧ 0 < p ∧ p ≤ 13 ∧ ∀ t a b e d H', Fv c H H' → Ti H' t [a, b, e, d] → (∀ z ∈ [a, b, e, d], B 54 z) → Q (.ref t) H'
def sp_l_moved_place (K : PySem.W.Frag) (_ : Addr) : Sp := fun vs H Q _ => ∃ (u g : Addr) (a b c d x y : Int) (p : Nat), vs = [.int (p : Int), .ref u, .ref g] ∧ SqT K H u [.int x, .int y] ∧ T4 H g a b c d ∧ (x, y) ∈ allP p ∧ Pr p ∧ p ≤ 13 ∧ Gc a b c d 81 ∧ ∀ o H' w, Ex0 H H' → SqT K H' o [.int w.1, .int w.2] → Mv p a b c d (x, y) w → Q (.ref o) H'
theorem B.addm {a b i j} (n : Nat) (h1 : B a i) (h2 : B b j) (ha : a ≤ n) (hb : b ≤ n) : B (n + 1) (i + j) := by
  have h1 := (h1.mono ha).1
  have h2 := (h2.mono hb).1
  refine ⟨?_, Nat.succ_pos n⟩
  rw [Nat.pow_succ]
  omega
theorem led_B {n : Nat} {a b c d p q r s : Int} (h : B4 n a b c d) (g : Gc p q r s 81) : ∀ z ∈ ledL a b c d p q r s, B (n + 30) z := by
  obtain ⟨ba, bb, bc, bd⟩ := h
  obtain ⟨g1, g2, g3, g4, g5⟩ := g
  have b7 : ∀ {z : Int}, z.natAbs ≤ 81 → B 7 z := fun h => ⟨by show _ < 128; omega, by decide⟩
  have bp := b7 g1
  have bq := b7 g2
  have br := b7 g3
  have bs := b7 g4
  have b2 : B 2 2 := ⟨by decide, by decide⟩
  have b3 : B 2 3 := ⟨by decide, by decide⟩
  have f : ∀ {x y : Int}, B 7 x → B 7 y → B (n + 30) (fv a b c d x y) := fun bx by' => (B.addm (n + 26) (B.addm (n + 25) (B.addm (n + 24) (B.mul (B.mul (B.mul ba bx) bx) bx) (B.mul (B.mul (B.mul bb bx) bx) by') (by omega) (by omega)) (B.mul (B.mul (B.mul bc bx) by') by') (by omega) (by omega)) (B.mul (B.mul (B.mul bd by') by') by') (by omega) (by omega)).mono (by omega)
  have two : ∀ {x y z w : Int}, B 7 x → B 7 y → B 7 z → B 7 w → B 17 (x * y + 2 * z * w) := fun h1 h2 h3 h4 => B.addm 16 (B.mul h1 h2) (B.mul (B.mul b2 h3) h4) (by decide) (by decide)
  have m2 : B (n + 30) (ml2 a b c d p q r s) := by
    unfold ml2
    exact (B.addm (n + 28) (B.addm (n + 27) (B.addm (n + 26) (B.mul (B.mul (B.mul (B.mul b3 ba) bp) bp) br) (B.mul (B.mul bb bp) (two bp bs bq br)) (by omega) (by omega)) (B.mul (B.mul bc bq) (two bq br bp bs)) (by omega) (by omega)) (B.mul (B.mul (B.mul (B.mul b3 bd) bq) bq) bs) (by omega) (by omega)).mono (by omega)
  have m3 : B (n + 30) (ml3 a b c d p q r s) := by
    unfold ml3
    exact (B.addm (n + 28) (B.addm (n + 27) (B.addm (n + 26) (B.mul (B.mul (B.mul (B.mul b3 ba) bp) br) br) (B.mul (B.mul bb br) (two br bq bp bs)) (by omega) (by omega)) (B.mul (B.mul bc bs) (two bs bp bq br)) (by omega) (by omega)) (B.mul (B.mul (B.mul (B.mul b3 bd) bq) bs) bs) (by omega) (by omega)).mono (by omega)
  have un : ∀ {z : Int}, B (n + 30) z → B (n + 30) ((p * s - q * r) * z) := fun h => by
    rcases g5 with e | e
    · rw [e, Int.one_mul]
      exact h
    · rw [e, show (-1 : Int) * _ = -_ from Int.neg_one_mul _]
      exact h.neg
  intro z hz
  unfold ledL at hz
  simp only [List.mem_cons, List.mem_nil_iff, or_false] at hz
  rcases hz with rfl | rfl | rfl | rfl
  · exact un (f bp bq)
  · exact un m2
  · exact un m3
  · exact un (f br bs)
section
variable {P : Program} {w : World} {K : PySem.W.Frag} {mg : Str → Option Value} {base : Heap} {C_Form : Addr}
theorem ok_l_is_heavy (T : Txt K mg C_Form) : Def P w K mg base 3 "_law_is_heavy" ["_law_row_here", "_law_prime_here", "_law_place"] (sp_l_is_heavy K C_Form) := by
  obtain ⟨f_, fd_, g_, F_⟩ := T.d_l_is_heavy
  obtain ⟨f_l_moved, fd_l_moved, g_l_moved, k_l_moved, b_l_moved, G_l_moved⟩ := (ok_l_moved (P := P) (w := w) (base := base) T)
  refine ⟨f_, fd_, g_, F_.kp, F_.binds (ps := ["_law_row_here", "_law_prime_here", "_law_place"]) (fun _ _ _ _ _ _ us hl => match us, hl with | [_, _, _], _ => rfl), ?_⟩
  refine F_.ok sc_l_is_heavy (fun vs H Q E h => ?_) (fun cdv A outer s H vs Q E hr h => ?_)
  · first | (obtain ⟨rfl, _⟩ := h; rfl) | (obtain ⟨_, rfl, _⟩ := h; rfl) | (obtain ⟨_, _, rfl, _⟩ := h; rfl) | (obtain ⟨_, _, _, rfl, _⟩ := h; rfl) | (obtain ⟨_, _, _, _, rfl, _⟩ := h; rfl) | (obtain ⟨_, _, _, _, _, rfl, _⟩ := h; rfl) | (obtain ⟨_, _, _, _, _, _, rfl, _⟩ := h; rfl) | (obtain ⟨_, _, _, _, _, _, _, rfl, _⟩ := h; rfl) | (obtain ⟨_, _, _, _, _, _, _, _, rfl, _⟩ := h; rfl) | (obtain ⟨_, _, _, _, _, _, _, _, _, rfl, _⟩ := h; rfl) | (obtain ⟨_, _, _, _, _, _, _, _, _, _, rfl, _⟩ := h; rfl) | (obtain ⟨_, _, _, _, _, _, _, _, _, _, _, rfl, _⟩ := h; rfl) | (obtain ⟨_, _, _, _, _, _, _, _, _, _, _, _, rfl, _⟩ := h; rfl) | (obtain ⟨_, _, _, _, _, _, _, _, _, _, _, _, _, rfl, _⟩ := h; rfl) | (obtain ⟨_, _, _, _, _, _, _, _, _, _, _, _, _, _, rfl, _⟩ := h; rfl) | (obtain ⟨_, _, _, _, _, _, _, _, _, _, _, _, _, _, _, rfl, _⟩ := h; rfl) | (obtain ⟨_, _, _, _, _, _, _, _, _, _, _, _, _, _, _, _, rfl, _⟩ := h; rfl) | (obtain ⟨_, _, _, _, _, _, _, _, _, _, _, _, _, _, _, _, _, rfl, _⟩ := h; rfl) | (obtain ⟨_, _, _, _, _, _, _, _, _, _, _, _, _, _, _, _, _, _, rfl, _⟩ := h; rfl) | (obtain ⟨_, _, _, _, _, _, _, _, _, _, _, _, _, _, _, _, _, _, _, rfl, _⟩ := h; rfl) | (obtain ⟨_, _, _, _, _, _, _, _, _, _, _, _, _, _, _, _, _, _, _, _, rfl, _⟩ := h; rfl) | (obtain ⟨_, _, _, _, _, _, _, _, _, _, _, _, _, _, _, _, _, _, _, _, _, rfl, _⟩ := h; rfl) | (obtain ⟨_, _, _, _, _, _, _, _, _, _, _, _, _, _, _, _, _, _, _, _, _, _, rfl, _⟩ := h; rfl) | (obtain ⟨_, _, _, _, _, _, _, _, _, _, _, _, _, _, _, _, _, _, _, _, _, _, _, rfl, _⟩ := h; rfl)
  · obtain ⟨t, u, a, b, c, d, p, x, y, rfl, ht, hu, ⟨ba, bb, bc, bd⟩, bx, hxy, p0, p1, q⟩ := h
    refine ⟨_, (Evl.pss_cut (ps_set (i := 3) sc_l_is_heavy.nd rfl (.inl rfl) (pe_call G_l_moved (hr.mono (by decide)) (by rfl) g_l_moved k_l_moved b_l_moved .nil pass0 (pa_cons (pv 0) (pa_cons (pe_tup (pa_cons (pv 2) (pa_cons (pe_ifExp (pt_cmpR op_eq (pe_ix ix_tup (pv 2) pe_int (fun _ _ => rfl)) pe_int (nomark _)) (pe_tup (pa_cons pe_int (pa_cons pe_int pa_nil))) (pe_tup (pa_cons pe_int (pa_cons pe_int pa_nil)))) pa_nil))) pa_nil))))
    (pss_one (ps_ret (pe_and (pe_cmpR op_eq (pe_op op_mod (pe_ix ix_tup (pv 3) pe_int (fun _ _ => rfl)) (pe_op op_mulW (pv 1) (pv 1))) pe_int (nomark _)) (pe_one (pe_cmpR op_eq (pe_op op_mod (pe_ix ix_tup (pv 3) pe_int (fun _ _ => rfl)) (pv 1)) pe_int (nomark _))))))), ?_⟩
    have m100 : ∀ {z : Int}, B 100 z → B 100 z := fun h => h
    have bpp : B 20 (p * p) := B.mul (⟨by omega, by decide⟩ : B 10 p) (⟨by omega, by decide⟩ : B 10 p)
    have bp : B 10 p := ⟨by omega, by decide⟩
    have pp : 0 < p * p := Int.mul_pos p0 p0
    have z0 : B 50 0 := ⟨by decide, by decide⟩
    have z1 : B 50 1 := ⟨by decide, by decide⟩
    have by' : B 50 y := by
      rcases hxy with rfl | ⟨_, rfl⟩
      · exact z1
      · exact z0
    refine ⟨fun σ H' => ∃ o : Addr, ∃ e1 e2 e3 e4 : Int, σ = [some (.ref t), some (.int p), some (.ref u), some (.ref o)] ∧ Ex0 H H' ∧ Ti H' o [e1, e2, e3, e4] ∧ (decide (e1 % (p * p) = 0) && decide (e2 % p = 0)) = heavyB a b c d p x y, ?_, ?_⟩
    · refine ⟨_, rfl, _, rfl, _, rfl, u, _, 1, .int y, rfl, rfl, hu, rfl, rfl, _, rfl, iteE (fun h => ?_) (fun h => ?_)⟩
      · refine ⟨sl2, fun v nv => ⟨sl2, fun g ng => ?_⟩⟩
        have f1 := Ex0.new (o := .tup [.int 0, .int 1]) nv
        have f2 := Ex0.new (o := .tup [.ref u, .ref v]) ng
        have f12 := f1.trans f2
        refine ⟨t, g, a, b, c, d, x, y, 0, 1, rfl, Ex0.ti f12 ht, ⟨u, v, SqT.of upd_same, Fx.sqT f12 (fun z => z) hu, SqT.of (Ex0.ap f2 upd_same)⟩, ba, bb, bc, bd, bx, by', z0, z1, fun o H1 e1 ho => ?_⟩
        refine ⟨o, _, _, _, _, rfl, f12.trans e1, ho, ?_⟩
        rcases hxy with rfl | ⟨rfl, rfl⟩
        · cases h
        · unfold heavyB
          rw [if_neg (by decide), show fv a b c d 1 0 = a by unfold fv; grind, show ml2 a b c d 1 0 0 1 = b by unfold ml2; grind]
      · refine ⟨sl2, fun v nv => ⟨sl2, fun g ng => ?_⟩⟩
        have f1 := Ex0.new (o := .tup [.int 1, .int 0]) nv
        have f2 := Ex0.new (o := .tup [.ref u, .ref v]) ng
        have f12 := f1.trans f2
        refine ⟨t, g, a, b, c, d, x, y, 1, 0, rfl, Ex0.ti f12 ht, ⟨u, v, SqT.of upd_same, Fx.sqT f12 (fun z => z) hu, SqT.of (Ex0.ap f2 upd_same)⟩, ba, bb, bc, bd, bx, by', z1, z0, fun o H1 e1 ho => ?_⟩
        refine ⟨o, _, _, _, _, rfl, f12.trans e1, ho, ?_⟩
        rcases hxy with rfl | ⟨rfl, rfl⟩
        · unfold heavyB
          rw [if_pos rfl, show ml2 a b c d x 1 1 0 = (3 * a * x + 2 * b) * x + c by unfold ml2; grind]
        · exact absurd rfl h
    rintro σ H1 ⟨o, e1, e2, e3, e4, rfl, f, ho, hk⟩
    have qo : SqT K H1 o (([e1, e2, e3, e4] : List Int).map V.int) := SqT.of ho
    have fin := q H1 f
    rw [← hk] at fin
    refine ⟨_, rfl, o, _, 0, .int _, rfl, rfl, qo, rfl, _, rfl, _, rfl, _, _, rfl, rfl, mulB bp bp (by decide), _, _, rfl, rfl, pp, rfl, _, rfl, iteE (fun h => ?_) (fun h => ?_)⟩
    · rw [decide_eq_true h, Bool.true_and] at fin
      refine ⟨_, rfl, o, _, 1, .int _, rfl, rfl, qo, rfl, _, rfl, _, _, rfl, rfl, p0, rfl, ?_⟩
      rw [show decide (V.int (e2 % p) = V.int 0) = decide (e2 % p = 0) from decide_eq_decide.mpr ⟨fun z => by injection z, fun z => by rw [z]⟩]
      exact fin
    · rw [decide_eq_false h, Bool.false_and] at fin
      exact fin
theorem ok_l_any_row (T : Txt K mg C_Form) : Def P w K mg base 4 "_law_any_row" ["_law_kettle_here", "_law_prime_here"] (sp_l_any_row K C_Form) := by
  obtain ⟨f_, fd_, g_, F_⟩ := T.d_l_any_row
  obtain ⟨f_l_change, fd_l_change, g_l_change, k_l_change, b_l_change, G_l_change⟩ := (ok_l_change (P := P) (w := w) (base := base) T)
  obtain ⟨f_l_led, fd_l_led, g_l_led, k_l_led, b_l_led, G_l_led⟩ := (ok_l_led (P := P) (w := w) (base := base) T)
  obtain ⟨f_l_row, fd_l_row, g_l_row, k_l_row, b_l_row, G_l_row⟩ := (ok_l_row (P := P) (w := w) (base := base) T)
  obtain ⟨f_l_sip, fd_l_sip, g_l_sip, k_l_sip, b_l_sip, G_l_sip⟩ := (ok_l_sip (P := P) (w := w) (base := base) T)
  obtain ⟨f_l_taken, fd_l_taken, g_l_taken, k_l_taken, b_l_taken, G_l_taken⟩ := (ok_l_taken (P := P) (w := w) (base := base) T)
  refine ⟨f_, fd_, g_, F_.kp, F_.binds (ps := ["_law_kettle_here", "_law_prime_here"]) (fun _ _ _ _ _ _ us hl => match us, hl with | [_, _], _ => rfl), ?_⟩
  refine F_.ok sc_l_any_row (fun vs H Q E h => ?_) (fun cdv A outer s H vs Q E hr h => ?_)
  · first | (obtain ⟨rfl, _⟩ := h; rfl) | (obtain ⟨_, rfl, _⟩ := h; rfl) | (obtain ⟨_, _, rfl, _⟩ := h; rfl) | (obtain ⟨_, _, _, rfl, _⟩ := h; rfl) | (obtain ⟨_, _, _, _, rfl, _⟩ := h; rfl) | (obtain ⟨_, _, _, _, _, rfl, _⟩ := h; rfl) | (obtain ⟨_, _, _, _, _, _, rfl, _⟩ := h; rfl) | (obtain ⟨_, _, _, _, _, _, _, rfl, _⟩ := h; rfl) | (obtain ⟨_, _, _, _, _, _, _, _, rfl, _⟩ := h; rfl) | (obtain ⟨_, _, _, _, _, _, _, _, _, rfl, _⟩ := h; rfl) | (obtain ⟨_, _, _, _, _, _, _, _, _, _, rfl, _⟩ := h; rfl) | (obtain ⟨_, _, _, _, _, _, _, _, _, _, _, rfl, _⟩ := h; rfl) | (obtain ⟨_, _, _, _, _, _, _, _, _, _, _, _, rfl, _⟩ := h; rfl) | (obtain ⟨_, _, _, _, _, _, _, _, _, _, _, _, _, rfl, _⟩ := h; rfl) | (obtain ⟨_, _, _, _, _, _, _, _, _, _, _, _, _, _, rfl, _⟩ := h; rfl) | (obtain ⟨_, _, _, _, _, _, _, _, _, _, _, _, _, _, _, rfl, _⟩ := h; rfl) | (obtain ⟨_, _, _, _, _, _, _, _, _, _, _, _, _, _, _, _, rfl, _⟩ := h; rfl) | (obtain ⟨_, _, _, _, _, _, _, _, _, _, _, _, _, _, _, _, _, rfl, _⟩ := h; rfl) | (obtain ⟨_, _, _, _, _, _, _, _, _, _, _, _, _, _, _, _, _, _, rfl, _⟩ := h; rfl) | (obtain ⟨_, _, _, _, _, _, _, _, _, _, _, _, _, _, _, _, _, _, _, rfl, _⟩ := h; rfl) | (obtain ⟨_, _, _, _, _, _, _, _, _, _, _, _, _, _, _, _, _, _, _, _, rfl, _⟩ := h; rfl) | (obtain ⟨_, _, _, _, _, _, _, _, _, _, _, _, _, _, _, _, _, _, _, _, _, rfl, _⟩ := h; rfl) | (obtain ⟨_, _, _, _, _, _, _, _, _, _, _, _, _, _, _, _, _, _, _, _, _, _, rfl, _⟩ := h; rfl) | (obtain ⟨_, _, _, _, _, _, _, _, _, _, _, _, _, _, _, _, _, _, _, _, _, _, _, rfl, _⟩ := h; rfl)
  · obtain ⟨c, p, rfl, hc, p0, p13, q⟩ := h
    refine ⟨_, (Evl.pss_cut (ps_par (i := 2) (j := 3) (by rfl) sc_l_any_row.nd rfl rfl (by decide) rfl rfl (pa_cons (pe_call G_l_row (hr.mono (by decide)) (by rfl) g_l_row k_l_row b_l_row .nil pass0 (pa_cons (pv 0) (pa_cons (pe_call G_l_taken (hr.mono (by decide)) (by rfl) g_l_taken k_l_taken b_l_taken .nil pass0 (pa_cons (pv 0) (pa_cons (pe_lst (pa_cons pe_int (pa_cons pe_int (pa_cons pe_int pa_nil)))) pa_nil))) pa_nil))) (pa_cons (pe_call G_l_sip (hr.mono (by decide)) (by rfl) g_l_sip k_l_sip b_l_sip .nil pass0 (pa_cons (pv 0) (pa_cons pe_int pa_nil))) pa_nil)) (by rfl))
    (Evl.pss_cut (ps_if (pt_cmpR op_eq (pv 3) pe_int (nomark _))
      (pss_one (ps_ret (pe_callTy call_tuple_of (by rfl) T.b_tuple (by decide +kernel) (pa_cons (pe_lc (own := [("_law_entry", 4)]) (g := (gName 4)) rfl sc_l_any_row.nd (pi_tup (pv 2)) (blkOk_by (N := N_l_any_row) (sc := defScope s_l_any_row) (by decide +kernel)) (fun _ _ _ _ _ => (pg_name (i := 4) sc_l_any_row.nd rfl (.inl rfl))) (fun _ _ _ _ _ => pts_nil) (fun _ _ _ _ _ => (pe_op op_mulW (pv 1) (pv 4)))) pa_nil))))
      pss_nil)
    (Evl.pss_cut (ps_if (pt_cmpR op_eq (pv 3) pe_int (nomark _))
      (pss_one (ps_ret (pe_tup (pa_cons (pe_ix ix_tup (pv 2) pe_int (fun _ _ => rfl)) (pa_cons (pe_op op_mulW (pv 1) (pe_ix ix_tup (pv 2) pe_int (fun _ _ => rfl))) (pa_cons (pe_op op_mulW (pe_op op_mulW (pv 1) (pv 1)) (pe_ix ix_tup (pv 2) pe_int (fun _ _ => rfl))) (pa_cons (pe_op op_mulW (pe_op op_mulW (pe_op op_mulW (pv 1) (pv 1)) (pv 1)) (pe_ix ix_tup (pv 2) pe_int (fun _ _ => rfl))) pa_nil)))))))
      pss_nil)
    (pss_one (ps_ret (pe_ifExp (pt_cmpR op_eq (pv 3) pe_int (nomark _)) (pe_call G_l_led (hr.mono (by decide)) (by rfl) g_l_led k_l_led b_l_led .nil pass0 (pa_cons (pe_tup (pa_cons (pe_op op_mulW (pv 1) (pe_ix ix_tup (pv 2) pe_int (fun _ _ => rfl))) (pa_cons (pe_ix ix_tup (pv 2) pe_int (fun _ _ => rfl)) (pa_cons (pe_ix ix_tup (pv 2) pe_int (fun _ _ => rfl)) (pa_cons (pe_op op_mulW (pv 1) (pe_ix ix_tup (pv 2) pe_int (fun _ _ => rfl))) pa_nil))))) (pa_cons (pe_call G_l_change (hr.mono (by decide)) (by rfl) g_l_change k_l_change b_l_change .nil pass0 (pa_cons (pv 0) pa_nil)) pa_nil))) (pv 2))))))), ?_⟩
    refine ⟨fun σ H' => ∃ (t : Addr) (a b e d wy : Int), σ = [some (.ref c), some (.int (p : Int)), some (.ref t), some (.int wy), none] ∧ Fv c H H' ∧ Ti H' t [a, b, e, d] ∧ (∀ z ∈ [a, b, e, d], z.natAbs ≤ 1000000), ?_, ?_⟩
    · refine ⟨_, rfl, _, rfl, sl3, fun l nl => ?_⟩
      have f1 := fv_new (o := .lst [.int 3, .int 9, .int 50]) hc nl
      refine ⟨c, l, _, rfl, f1.1, upd_same, fv_ne hc nl, by simp, by show 3 ≤ 1000; decide, fun v H2 hv e2 => ?_⟩
      obtain ⟨n, rfl, n0, n1⟩ : ∃ n : Int, v = .int n ∧ 3 ≤ n ∧ n ≤ 1000000 := by
        simp only [List.mem_cons, List.mem_nil_iff, or_false] at hv
        rcases hv with rfl | rfl | rfl
        · exact ⟨3, rfl, by decide, by decide⟩
        · exact ⟨9, rfl, by decide, by decide⟩
        · exact ⟨50, rfl, by decide, by decide⟩
      refine ⟨c, n, rfl, e2.1, n0, n1, fun t a b e d H3 e3 ht hz hd => ?_⟩
      refine ⟨_, rfl, c, 4, rfl, e3.1, by decide, by decide, fun wy H4 w0 w1 e4 => ⟨_, _, rfl, ?_⟩⟩
      exact ⟨t, a, b, e, d, wy, rfl, f1.trans (e2.trans (e3.trans e4)), fv_tup e3.1 e4 ht, hz⟩
    rintro σ H1 ⟨t, a, b, e, d, wy, rfl, e1, ht, hz⟩
    have bb : ∀ z ∈ [a, b, e, d], B 20 z := fun z h => ⟨Nat.lt_of_le_of_lt (hz z h) (by decide), by decide⟩
    have b20 : B4 20 a b e d := ⟨bb a (by simp), bb b (by simp), bb e (by simp), bb d (by simp)⟩
    have bp : B 4 (p : Int) := ⟨by show _ < 16; omega, by decide⟩
    have qt : SqT K H1 t (([a, b, e, d] : List Int).map V.int) := SqT.of ht
    refine ⟨fun σ H' => σ = [some (.ref c), some (.int (p : Int)), some (.ref t), some (.int wy), none] ∧ H1 = H', ?_, ?_⟩
    · refine ⟨_, rfl, rfl, _, rfl, iteE (fun h => ?_) (fun h => ?_)⟩
      · refine ⟨_, rfl, t, rfl, ⟨_, SqT.of ht⟩, ?_⟩
        refine lcT fm0 trivial (SqT.of ht) (fun z => z) (fun i acc _ => acc = (([(p : Int) * a, (p : Int) * b, (p : Int) * e, (p : Int) * d] : List Int).take i).map V.int) (fun _ _ => rfl) (fun D i v acc H' hD hv e' hA hlen hp' => ?_) (fun D H3 acc hD e' hA hp' => ?_)
        · obtain ⟨n, hn, rfl⟩ := get_int hv
          have hi : i < 4 := (List.getElem?_eq_some_iff.mp hn).1
          have bn : B 20 n := bb n (List.mem_of_getElem? hn)
          refine ⟨rfl, ?_⟩
          refine ⟨_, rfl, _, rfl, _, _, rfl, rfl, mulB bp bn (by decide), ?_⟩
          refine cs_yes fm0 trivial hD e' hA hlen (by omega) (Fx.refl trivial) ?_
          show acc ++ [V.int ((p : Int) * n)] = _
          rw [hp']
          match i, hn with
          | 0, hn => rw [← Option.some.inj hn]; rfl
          | 1, hn => rw [← Option.some.inj hn]; rfl
          | 2, hn => rw [← Option.some.inj hn]; rfl
          | 3, hn => rw [← Option.some.inj hn]; rfl
        · have hq : acc = ([(p : Int) * a, (p : Int) * b, (p : Int) * e, (p : Int) * d] : List Int).map V.int := hp'
          subst hq
          refine ⟨D, _, rfl, .inl ⟨SqL.of hA, fun o2 n2 => ?_⟩⟩
          refine q o2 _ _ _ _ _ (e1.trans (fv_ex e1.1 (Fx.trans e' (Ex0.new n2)))) upd_same ?_
          intro z hz
          simp only [List.mem_cons, List.mem_nil_iff, or_false] at hz
          rcases hz with rfl | rfl | rfl | rfl
          · exact (B.mul bp b20.1).mono (by decide)
          · exact (B.mul bp b20.2.1).mono (by decide)
          · exact (B.mul bp b20.2.2.1).mono (by decide)
          · exact (B.mul bp b20.2.2.2).mono (by decide)
      · exact ⟨rfl, rfl⟩
    rintro σ _ ⟨rfl, rfl⟩
    refine ⟨fun σ H' => σ = [some (.ref c), some (.int (p : Int)), some (.ref t), some (.int wy), none] ∧ H1 = H', ?_, ?_⟩
    · refine ⟨_, rfl, rfl, _, rfl, iteE (fun h => ?_) (fun h => ?_)⟩
      · refine ⟨_, rfl, t, _, 0, .int _, rfl, rfl, qt, rfl, _, rfl, _, rfl, t, _, 1, .int _, rfl, rfl, qt, rfl, _, _, rfl, rfl, mulB bp b20.2.1 (by decide), _, rfl, _, rfl, _, _, rfl, rfl, mulB bp bp (by decide), _, rfl, t, _, 2, .int _, rfl, rfl, qt, rfl, _, _, rfl, rfl, mulB (B.mul bp bp) b20.2.2.1 (by decide), ?_⟩
        refine ⟨_, rfl, _, rfl, _, _, rfl, rfl, mulB bp bp (by decide), _, rfl, _, _, rfl, rfl, mulB (B.mul bp bp) bp (by decide), _, rfl, t, _, 3, .int _, rfl, rfl, qt, rfl, _, _, rfl, rfl, mulB (B.mul (B.mul bp bp) bp) b20.2.2.2 (by decide), sl4, fun o no => ?_⟩
        refine q o _ _ _ _ _ (e1.trans (fv_new e1.1 no)) upd_same ?_
        intro z hz
        simp only [List.mem_cons, List.mem_nil_iff, or_false] at hz
        rcases hz with rfl | rfl | rfl | rfl
        · exact b20.1.mono (by decide)
        · exact (B.mul bp b20.2.1).mono (by decide)
        · exact (B.mul (B.mul bp bp) b20.2.2.1).mono (by decide)
        · exact (B.mul (B.mul (B.mul bp bp) bp) b20.2.2.2).mono (by decide)
      · exact ⟨rfl, rfl⟩
    rintro σ _ ⟨rfl, rfl⟩
    refine ⟨_, rfl, rfl, _, rfl, iteE (fun h => ?_) (fun h => ?_)⟩
    · refine ⟨_, rfl, _, rfl, t, _, 0, .int _, rfl, rfl, qt, rfl, _, _, rfl, rfl, mulB bp b20.1 (by decide), _, rfl, t, _, 1, .int _, rfl, rfl, qt, rfl, _, rfl, t, _, 2, .int _, rfl, rfl, qt, rfl, _, rfl, _, rfl, t, _, 3, .int _, rfl, rfl, qt, rfl, _, _, rfl, rfl, mulB bp b20.2.2.2 (by decide), sl4, fun o no => ?_⟩
      have v1 := fv_new (o := .tup [.int ((p : Int) * a), .int b, .int e, .int ((p : Int) * d)]) e1.1 no
      refine ⟨_, rfl, c, rfl, v1.1, fun g p' q' r' s' H2 e2 hg hG => ?_⟩
      have b24 : B4 24 ((p : Int) * a) b e ((p : Int) * d) := ⟨(B.mul bp b20.1).mono (by decide), b20.2.1.mono (by decide), b20.2.2.1.mono (by decide), (B.mul bp b20.2.2.2).mono (by decide)⟩
      have b7 : ∀ {z : Int}, z.natAbs ≤ 81 → B 50 z := fun h => ⟨Nat.lt_of_le_of_lt h (by decide), by decide⟩
      refine ⟨o, g, (p : Int) * a, b, e, (p : Int) * d, p', q', r', s', rfl, fv_tup v1.1 e2 upd_same, hg, ⟨b24.1.mono (by decide), b24.2.1.mono (by decide), b24.2.2.1.mono (by decide), b24.2.2.2.mono (by decide)⟩, ⟨b7 hG.1, b7 hG.2.1, b7 hG.2.2.1, b7 hG.2.2.2.1⟩, fun o2 H3 e3 ho2 => ?_⟩
      exact q o2 _ _ _ _ H3 (e1.trans (v1.trans (e2.trans (fv_ex e2.1 e3)))) ho2 (led_B b24 hG)
    · exact ⟨_, rfl, q t a b e d H1 e1 ht fun z hz => (bb z hz).mono (by decide)⟩
theorem ok_l_moved_place (T : Txt K mg C_Form) : Def P w K mg base 1 "_law_moved_place" ["_law_prime_here", "_law_place", "_law_change_here"] (sp_l_moved_place K C_Form) := by
  obtain ⟨f_, fd_, g_, F_⟩ := T.d_l_moved_place
  refine ⟨f_, fd_, g_, F_.kp, F_.binds (ps := ["_law_prime_here", "_law_place", "_law_change_here"]) (fun _ _ _ _ _ _ us hl => match us, hl with | [_, _, _], _ => rfl), ?_⟩
  refine F_.ok sc_l_moved_place (fun vs H Q E h => ?_) (fun cdv A outer s H vs Q E hr h => ?_)
  · first | (obtain ⟨rfl, _⟩ := h; rfl) | (obtain ⟨_, rfl, _⟩ := h; rfl) | (obtain ⟨_, _, rfl, _⟩ := h; rfl) | (obtain ⟨_, _, _, rfl, _⟩ := h; rfl) | (obtain ⟨_, _, _, _, rfl, _⟩ := h; rfl) | (obtain ⟨_, _, _, _, _, rfl, _⟩ := h; rfl) | (obtain ⟨_, _, _, _, _, _, rfl, _⟩ := h; rfl) | (obtain ⟨_, _, _, _, _, _, _, rfl, _⟩ := h; rfl) | (obtain ⟨_, _, _, _, _, _, _, _, rfl, _⟩ := h; rfl) | (obtain ⟨_, _, _, _, _, _, _, _, _, rfl, _⟩ := h; rfl) | (obtain ⟨_, _, _, _, _, _, _, _, _, _, rfl, _⟩ := h; rfl) | (obtain ⟨_, _, _, _, _, _, _, _, _, _, _, rfl, _⟩ := h; rfl) | (obtain ⟨_, _, _, _, _, _, _, _, _, _, _, _, rfl, _⟩ := h; rfl) | (obtain ⟨_, _, _, _, _, _, _, _, _, _, _, _, _, rfl, _⟩ := h; rfl) | (obtain ⟨_, _, _, _, _, _, _, _, _, _, _, _, _, _, rfl, _⟩ := h; rfl) | (obtain ⟨_, _, _, _, _, _, _, _, _, _, _, _, _, _, _, rfl, _⟩ := h; rfl) | (obtain ⟨_, _, _, _, _, _, _, _, _, _, _, _, _, _, _, _, rfl, _⟩ := h; rfl) | (obtain ⟨_, _, _, _, _, _, _, _, _, _, _, _, _, _, _, _, _, rfl, _⟩ := h; rfl) | (obtain ⟨_, _, _, _, _, _, _, _, _, _, _, _, _, _, _, _, _, _, rfl, _⟩ := h; rfl) | (obtain ⟨_, _, _, _, _, _, _, _, _, _, _, _, _, _, _, _, _, _, _, rfl, _⟩ := h; rfl) | (obtain ⟨_, _, _, _, _, _, _, _, _, _, _, _, _, _, _, _, _, _, _, _, rfl, _⟩ := h; rfl) | (obtain ⟨_, _, _, _, _, _, _, _, _, _, _, _, _, _, _, _, _, _, _, _, _, rfl, _⟩ := h; rfl) | (obtain ⟨_, _, _, _, _, _, _, _, _, _, _, _, _, _, _, _, _, _, _, _, _, _, rfl, _⟩ := h; rfl) | (obtain ⟨_, _, _, _, _, _, _, _, _, _, _, _, _, _, _, _, _, _, _, _, _, _, _, rfl, _⟩ := h; rfl)
  · obtain ⟨u, g, a, b, c, d, x, y, p, rfl, hu, hg, hz, hp, p13, hG, q⟩ := h
    refine ⟨_, (Evl.pss_cut (ps_asg (pv 2) (pg_tup (by rfl) (pgs_cons (pg_tup (by rfl) (pgs_cons (pg_name (i := 3) sc_l_moved_place.nd rfl (.inl rfl)) (pgs_cons (pg_name (i := 4) sc_l_moved_place.nd rfl (.inl rfl)) pgs_nil))) (pgs_cons (pg_tup (by rfl) (pgs_cons (pg_name (i := 5) sc_l_moved_place.nd rfl (.inl rfl)) (pgs_cons (pg_name (i := 6) sc_l_moved_place.nd rfl (.inl rfl)) pgs_nil))) pgs_nil))))
    (Evl.pss_cut (ps_set (i := 7) sc_l_moved_place.nd rfl (.inl rfl) (pe_op op_sub (pe_op op_mulW (pv 3) (pv 6)) (pe_op op_mulW (pv 4) (pv 5))))
    (Evl.pss_cut (ps_asg (pe_tup (pa_cons (pe_op op_mod (pe_op op_mulW (pv 7) (pe_op op_sub (pe_op op_mulW (pv 6) (pe_ix ix_tup (pv 1) pe_int (fun _ _ => rfl))) (pe_op op_mulW (pv 5) (pe_ix ix_tup (pv 1) pe_int (fun _ _ => rfl))))) (pv 0)) (pa_cons (pe_op op_mod (pe_op op_mulW (pv 7) (pe_op op_sub (pe_op op_mulW (pv 3) (pe_ix ix_tup (pv 1) pe_int (fun _ _ => rfl))) (pe_op op_mulW (pv 4) (pe_ix ix_tup (pv 1) pe_int (fun _ _ => rfl))))) (pv 0)) pa_nil))) (pg_tup (by rfl) (pgs_cons (pg_name (i := 8) sc_l_moved_place.nd rfl (.inr rfl)) (pgs_cons (pg_name (i := 9) sc_l_moved_place.nd rfl (.inr rfl)) pgs_nil))))
    (Evl.pss_cut (ps_if (pt_cmpR op_eq (pv 9) pe_int (nomark _))
      (pss_one (ps_ret (pe_tup (pa_cons pe_int (pa_cons pe_int pa_nil)))))
      pss_nil)
    (pss_one (ps_ret (pe_tup (pa_cons (pe_ix ix_list (pe_lc (own := [("_law_one", 10)]) (g := (gName 10)) rfl sc_l_moved_place.nd (pi_range1 (by rfl) T.b_range (pa_cons (pv 0) pa_nil)) (blkOk_by (N := N_l_moved_place) (sc := defScope s_l_moved_place) (by decide +kernel)) (fun _ _ _ _ _ => (pg_name (i := 10) sc_l_moved_place.nd rfl (.inl rfl))) (fun _ _ _ _ _ => (pts_one (pt_cmpR op_eq (pe_op op_mod (pe_op op_mulW (pv 10) (pv 9)) (pv 0)) (pv 8) (nomark _)))) (fun _ _ _ _ _ => (pv 10))) pe_int (fun _ _ => rfl)) (pa_cons pe_int pa_nil))))))))), ?_⟩
    have p2 := hp.1
    have hpl : Plc (p : Int) x y := mem_all (z := (x, y)) hz
    have b7 : ∀ {z : Int}, z.natAbs ≤ 81 → B 7 z := fun h => ⟨by show _ < 128; omega, by decide⟩
    have ba := b7 hG.1
    have bb := b7 hG.2.1
    have bc := b7 hG.2.2.1
    have bd := b7 hG.2.2.2.1
    have hdet := hG.2.2.2.2
    have bxy : B 4 x ∧ B 4 y := by
      rcases hpl with ⟨rfl, h1, h2⟩ | ⟨rfl, rfl⟩
      · exact ⟨⟨by show _ < 16; omega, by decide⟩, ⟨by decide, by decide⟩⟩
      · exact ⟨⟨by decide, by decide⟩, ⟨by decide, by decide⟩⟩
    obtain ⟨bx, by'⟩ := bxy
    have pp : (0 : Int) < (p : Int) := by omega
    refine ⟨fun σ H' => σ = [some (.int (p : Int)), some (.ref u), some (.ref g), some (.int a), some (.int b), some (.int c), some (.int d), none, none, none, none] ∧ H = H', ?_, ?_⟩
    · exact ⟨_, rfl, un4 hg ⟨rfl, rfl⟩⟩
    rintro σ _ ⟨rfl, rfl⟩
    refine ⟨fun σ H' => σ = [some (.int (p : Int)), some (.ref u), some (.ref g), some (.int a), some (.int b), some (.int c), some (.int d), some (.int (a * d - b * c)), none, none, none] ∧ H = H', ?_, ?_⟩
    · exact ⟨_, rfl, _, rfl, _, _, rfl, rfl, mulB ba bd (by decide), _, rfl, _, rfl, _, _, rfl, rfl, mulB bb bc (by decide), _, _, rfl, rfl, rfl, rfl⟩
    rintro σ _ ⟨rfl, rfl⟩
    have be : B 28 (a * d - b * c) := B.sub (B.mul ba bd) (B.mul bb bc)
    refine ⟨fun σ H' => σ = [some (.int (p : Int)), some (.ref u), some (.ref g), some (.int a), some (.int b), some (.int c), some (.int d), some (.int (a * d - b * c)), some (.int ((a * d - b * c) * (d * x - c * y) % (p : Int))), some (.int ((a * d - b * c) * (a * y - b * x) % (p : Int))), none] ∧ Ex0 H H', ?_, ?_⟩
    · refine ⟨_, rfl, _, rfl, _, rfl, u, _, 0, .int x, rfl, rfl, hu, rfl, _, _, rfl, rfl, mulB bd bx (by decide), _, rfl, _, rfl, u, _, 1, .int y, rfl, rfl, hu, rfl, _, _, rfl, rfl, mulB bc by' (by decide), _, _, rfl, rfl, _, _, rfl, rfl, mulB be (B.sub (B.mul bd bx) (B.mul bc by')) (by decide), _, rfl, _, _, rfl, rfl, pp, ?_⟩
      refine ⟨_, rfl, _, rfl, _, rfl, u, _, 1, .int y, rfl, rfl, hu, rfl, _, _, rfl, rfl, mulB ba by' (by decide), _, rfl, _, rfl, u, _, 0, .int x, rfl, rfl, hu, rfl, _, _, rfl, rfl, mulB bb bx (by decide), _, _, rfl, rfl, _, _, rfl, rfl, mulB be (B.sub (B.mul ba by') (B.mul bb bx)) (by decide), _, rfl, _, _, rfl, rfl, pp, ?_⟩
      refine ⟨sl2, fun o no => ⟨o, _, rfl, SqT.of upd_same, rfl, _, _, rfl, _, _, rfl, rfl, ?_⟩⟩
      exact ⟨rfl, Ex0.new no⟩
    rintro σ H1 ⟨rfl, e1⟩
    generalize hX : (a * d - b * c) * (d * x - c * y) = X at *
    generalize hY : (a * d - b * c) * (a * y - b * x) = Y at *
    have mv : ∀ w, w ∈ allP p → Cr p w (X, Y) → Mv p a b c d (x, y) w := fun w h1 h2 => ⟨h1, by rw [show (a * d - b * c) * (d * (x, y).1 - c * (x, y).2) = X from hX, show (a * d - b * c) * (a * (x, y).2 - b * (x, y).1) = Y from hY]; exact h2⟩
    have x0 := Int.emod_nonneg X (show (p : Int) ≠ 0 by omega)
    have x1 := Int.emod_lt_of_pos X pp
    have y0 := Int.emod_nonneg Y (show (p : Int) ≠ 0 by omega)
    have y1 := Int.emod_lt_of_pos Y pp
    have bY : B 4 (Y % (p : Int)) := ⟨by show _ < 16; omega, by decide⟩
    have eX := Int.emod_add_mul_ediv X (p : Int)
    have eY := Int.emod_add_mul_ediv Y (p : Int)
    have tst : ∀ t : Int, t * (Y % (p : Int)) % (p : Int) = X % (p : Int) ↔ Cr p (t, 1) (X, Y) := fun t => by
      unfold Cr
      simp only []
      rw [← Int.emod_emod_of_dvd X (Int.dvd_refl (p : Int)), Int.emod_eq_emod_iff_emod_sub_eq_zero, ← Int.dvd_iff_emod_eq_zero]
      have e : t * Y - 1 * X = (t * (Y % (p : Int)) - X % (p : Int)) + (p : Int) * (t * (Y / (p : Int)) - X / (p : Int)) := by
        generalize X % (p : Int) = r at *
        generalize Y % (p : Int) = r' at *
        generalize X / (p : Int) = j at *
        generalize Y / (p : Int) = j' at *
        rw [← eX, ← eY]
        grind
      rw [e]
      constructor
      · intro h
        exact Int.dvd_add h (Int.dvd_mul_right _ _)
      · intro h
        have := Int.dvd_sub h (Int.dvd_mul_right (p : Int) (t * (Y / (p : Int)) - X / (p : Int)))
        rwa [Int.add_sub_cancel] at this
    refine ⟨fun σ H' => σ = [some (.int (p : Int)), some (.ref u), some (.ref g), some (.int a), some (.int b), some (.int c), some (.int d), some (.int (a * d - b * c)), some (.int (X % (p : Int))), some (.int (Y % (p : Int))), none] ∧ H1 = H' ∧ ¬ (p : Int) ∣ Y, ?_, ?_⟩
    · refine ⟨_, rfl, rfl, _, rfl, iteE (fun h => ?_) (fun h => ?_)⟩
      · refine ⟨sl2, fun o no => ?_⟩
        refine q o _ (1, 0) (e1.trans (Ex0.new no)) (SqT.of upd_same) (mv _ (List.mem_append_right _ (List.mem_singleton.mpr rfl)) ?_)
        unfold Cr
        simp only []
        rw [Int.one_mul, Int.zero_mul, Int.sub_zero]
        exact Int.dvd_of_emod_eq_zero h
      · exact ⟨rfl, rfl, fun hd => h (Int.emod_eq_zero_of_dvd hd)⟩
    rintro σ _ ⟨rfl, rfl, hnd⟩
    refine ⟨_, rfl, _, rfl, by omega, by omega, ?_⟩
    refine lcR fm0 trivial (fun i acc _ => ∃ ns : List Int, acc = ns.map V.int ∧ (∀ n ∈ ns, 0 ≤ n ∧ n < (p : Int) ∧ Cr p (n, 1) (X, Y)) ∧ ∀ t : Nat, t < i → Cr p ((t : Int), 1) (X, Y) → (t : Int) ∈ ns) (fun _ _ => ⟨[], rfl, (fun _ h => by cases h), fun t h => by omega⟩) (fun D i acc H3 hD hi e5 hA hlen hp' => ?_) (fun D H3 acc hD e5 hA hp' => ?_)
    · obtain ⟨ns, rfl, h1, h2⟩ := hp'
      have hi' : i < p := by simpa using hi
      have bi : B 4 (i : Int) := ⟨by show _ < 16; omega, by decide⟩
      refine ⟨rfl, ?_⟩
      rw [show (0 : Int) + (i : Int) = (i : Int) by omega]
      refine ⟨_, rfl, _, rfl, _, _, rfl, rfl, mulB bi bY (by decide), _, rfl, _, _, rfl, rfl, pp, _, rfl, rfl, _, rfl, iteE (fun hk => ?_) (fun hk => ?_)⟩
      · refine ⟨_, rfl, ?_⟩
        refine cs_yes fm0 trivial hD e5 hA hlen (by omega) (Fx.refl trivial) ⟨ns ++ [(i : Int)], by rw [List.map_append]; rfl, fun n hn => ?_, fun t ht hc => ?_⟩
        · rcases List.mem_append.mp hn with h | h
          · exact h1 n h
          · rw [List.mem_singleton.mp h]
            exact ⟨by omega, by omega, (tst _).mp hk⟩
        · rcases Nat.lt_or_ge t i with h | h
          · exact List.mem_append_left _ (h2 t h hc)
          · have : t = i := by omega
            rw [this]
            exact List.mem_append_right _ (List.mem_singleton.mpr rfl)
      · refine cs_no fm0 trivial hD e5 hA hlen (Fx.refl trivial) ⟨ns, rfl, h1, fun t ht hc => ?_⟩
        rcases Nat.lt_or_ge t i with h | h
        · exact h2 t h hc
        · have : t = i := by omega
          rw [this] at hc
          exact absurd ((tst _).mpr hc) hk
    · obtain ⟨ns, rfl, h1, h2⟩ := hp'
      have ne : ∃ n0 nr, ns = n0 :: nr := by
        obtain ⟨z, hz1, hz2⟩ := exists_place hp p13 (X, Y)
        rcases mem_all hz1 with ⟨e3, h3, h4⟩ | ⟨e3, e4⟩
        · have hm := h2 z.1.toNat (by omega) (by
            rw [show ((z.1.toNat : Nat) : Int) = z.1 by omega, show (z.1, (1 : Int)) = z from Prod.ext rfl e3.symm]
            exact hz2)
          cases ns with
          | nil => cases hm
          | cons n0 nr => exact ⟨n0, nr, rfl⟩
        · unfold Cr at hz2
          rw [e3, e4] at hz2
          simp only [] at hz2
          rw [Int.one_mul, Int.zero_mul, Int.sub_zero] at hz2
          exact absurd hz2 hnd
      obtain ⟨n0, nr, rfl⟩ := ne
      obtain ⟨k1, k2, k3⟩ := h1 n0 List.mem_cons_self
      refine ⟨D, _, 0, .int n0, rfl, rfl, SqL.of hA, atI_nat (j := 0) rfl, sl2, fun o no => ?_⟩
      refine q o _ (n0, 1) (e1.trans (Fx.trans e5 (Ex0.new no))) (SqT.of upd_same) (mv _ (List.mem_append_left _ (List.mem_map.mpr ⟨n0.toNat, List.mem_range.mpr (by omega), Prod.ext (by show ((n0.toNat : Nat) : Int) = n0; omega) rfl⟩)) k3)
end
end K39
namespace K39
open PySem PySem.Spec PyProof.Rows L2 Fr
def Whl (P a b c d : Int) : Prop := P ∣ a ∧ P ∣ b ∧ P ∣ c ∧ P ∣ d
section
variable {p : Nat} (hp : Pr p) (p13 : p ≤ 13)
include hp p13
theorem canc {x y k : Int} (x0 : 0 ≤ x) (x1 : x < p) (y0 : 0 ≤ y) (y1 : y < p) (ne : x ≠ y) (h : (p : Int) ∣ (x - y) * k) : (p : Int) ∣ k :=
  pdvd hp p13 h fun hd => ne (by have := small0 hd (by omega) (by omega); omega)
theorem four_xy {a b c d x1 x2 x3 x4 : Int} (h1 : 0 ≤ x1 ∧ x1 < p) (h2 : 0 ≤ x2 ∧ x2 < p) (h3 : 0 ≤ x3 ∧ x3 < p) (h4 : 0 ≤ x4 ∧ x4 < p) (n12 : x1 ≠ x2) (n13 : x1 ≠ x3) (n14 : x1 ≠ x4) (n23 : x2 ≠ x3) (n24 : x2 ≠ x4) (n34 : x3 ≠ x4)
    (r1 : Rt p a b c d x1 1) (r2 : Rt p a b c d x2 1) (r3 : Rt p a b c d x3 1) (r4 : Rt p a b c d x4 1) : Whl p a b c d := by
  unfold Rt at *
  have g12 : (p : Int) ∣ a * (x1 * x1 + x1 * x2 + x2 * x2) + b * (x1 + x2) + c := canc hp p13 h1.1 h1.2 h2.1 h2.2 n12 (by
    have := Int.dvd_sub r1 r2
    rwa [show fv a b c d x1 1 - fv a b c d x2 1 = (x1 - x2) * (a * (x1 * x1 + x1 * x2 + x2 * x2) + b * (x1 + x2) + c) by unfold fv; grind] at this)
  have g13 : (p : Int) ∣ a * (x1 * x1 + x1 * x3 + x3 * x3) + b * (x1 + x3) + c := canc hp p13 h1.1 h1.2 h3.1 h3.2 n13 (by
    have := Int.dvd_sub r1 r3
    rwa [show fv a b c d x1 1 - fv a b c d x3 1 = (x1 - x3) * (a * (x1 * x1 + x1 * x3 + x3 * x3) + b * (x1 + x3) + c) by unfold fv; grind] at this)
  have g14 : (p : Int) ∣ a * (x1 * x1 + x1 * x4 + x4 * x4) + b * (x1 + x4) + c := canc hp p13 h1.1 h1.2 h4.1 h4.2 n14 (by
    have := Int.dvd_sub r1 r4
    rwa [show fv a b c d x1 1 - fv a b c d x4 1 = (x1 - x4) * (a * (x1 * x1 + x1 * x4 + x4 * x4) + b * (x1 + x4) + c) by unfold fv; grind] at this)
  have k23 : (p : Int) ∣ a * (x1 + x2 + x3) + b := canc hp p13 h2.1 h2.2 h3.1 h3.2 n23 (by
    have := Int.dvd_sub g12 g13
    rwa [show a * (x1 * x1 + x1 * x2 + x2 * x2) + b * (x1 + x2) + c - (a * (x1 * x1 + x1 * x3 + x3 * x3) + b * (x1 + x3) + c) = (x2 - x3) * (a * (x1 + x2 + x3) + b) by grind] at this)
  have k24 : (p : Int) ∣ a * (x1 + x2 + x4) + b := canc hp p13 h2.1 h2.2 h4.1 h4.2 n24 (by
    have := Int.dvd_sub g12 g14
    rwa [show a * (x1 * x1 + x1 * x2 + x2 * x2) + b * (x1 + x2) + c - (a * (x1 * x1 + x1 * x4 + x4 * x4) + b * (x1 + x4) + c) = (x2 - x4) * (a * (x1 + x2 + x4) + b) by grind] at this)
  have ka : (p : Int) ∣ a := canc hp p13 h3.1 h3.2 h4.1 h4.2 n34 (by
    have := Int.dvd_sub k23 k24
    rwa [show a * (x1 + x2 + x3) + b - (a * (x1 + x2 + x4) + b) = (x3 - x4) * a by grind] at this)
  have kb : (p : Int) ∣ b := (Int.dvd_add_right (Int.dvd_mul_of_dvd_left ka)).mp k23
  have kc : (p : Int) ∣ c := (Int.dvd_add_right (Int.dvd_add (Int.dvd_mul_of_dvd_left ka) (Int.dvd_mul_of_dvd_left kb))).mp g12
  refine ⟨ka, kb, kc, ?_⟩
  rw [show fv a b c d x1 1 = (a * (x1 * x1 * x1) + b * (x1 * x1) + c * x1) + d by unfold fv; grind] at r1
  exact (Int.dvd_add_right (Int.dvd_add (Int.dvd_add (Int.dvd_mul_of_dvd_left ka) (Int.dvd_mul_of_dvd_left kb)) (Int.dvd_mul_of_dvd_left kc))).mp r1
theorem three_end {a b c d x1 x2 x3 : Int} (h1 : 0 ≤ x1 ∧ x1 < p) (h2 : 0 ≤ x2 ∧ x2 < p) (h3 : 0 ≤ x3 ∧ x3 < p) (n12 : x1 ≠ x2) (n13 : x1 ≠ x3) (n23 : x2 ≠ x3)
    (r0 : Rt p a b c d 1 0) (r1 : Rt p a b c d x1 1) (r2 : Rt p a b c d x2 1) (r3 : Rt p a b c d x3 1) : Whl p a b c d := by
  unfold Rt at *
  rw [show fv a b c d 1 0 = a by unfold fv; grind] at r0
  have g12 : (p : Int) ∣ a * (x1 * x1 + x1 * x2 + x2 * x2) + b * (x1 + x2) + c := canc hp p13 h1.1 h1.2 h2.1 h2.2 n12 (by
    have := Int.dvd_sub r1 r2
    rwa [show fv a b c d x1 1 - fv a b c d x2 1 = (x1 - x2) * (a * (x1 * x1 + x1 * x2 + x2 * x2) + b * (x1 + x2) + c) by unfold fv; grind] at this)
  have g13 : (p : Int) ∣ a * (x1 * x1 + x1 * x3 + x3 * x3) + b * (x1 + x3) + c := canc hp p13 h1.1 h1.2 h3.1 h3.2 n13 (by
    have := Int.dvd_sub r1 r3
    rwa [show fv a b c d x1 1 - fv a b c d x3 1 = (x1 - x3) * (a * (x1 * x1 + x1 * x3 + x3 * x3) + b * (x1 + x3) + c) by unfold fv; grind] at this)
  have k23 : (p : Int) ∣ a * (x1 + x2 + x3) + b := canc hp p13 h2.1 h2.2 h3.1 h3.2 n23 (by
    have := Int.dvd_sub g12 g13
    rwa [show a * (x1 * x1 + x1 * x2 + x2 * x2) + b * (x1 + x2) + c - (a * (x1 * x1 + x1 * x3 + x3 * x3) + b * (x1 + x3) + c) = (x2 - x3) * (a * (x1 + x2 + x3) + b) by grind] at this)
  have ka := r0
  have kb : (p : Int) ∣ b := (Int.dvd_add_right (Int.dvd_mul_of_dvd_left ka)).mp k23
  have kc : (p : Int) ∣ c := (Int.dvd_add_right (Int.dvd_add (Int.dvd_mul_of_dvd_left ka) (Int.dvd_mul_of_dvd_left kb))).mp g12
  refine ⟨ka, kb, kc, ?_⟩
  rw [show fv a b c d x1 1 = (a * (x1 * x1 * x1) + b * (x1 * x1) + c * x1) + d by unfold fv; grind] at r1
  exact (Int.dvd_add_right (Int.dvd_add (Int.dvd_add (Int.dvd_mul_of_dvd_left ka) (Int.dvd_mul_of_dvd_left kb)) (Int.dvd_mul_of_dvd_left kc))).mp r1
theorem ne_fst {x u : Int} (h : ((x, (1 : Int)) : Int × Int) ≠ (u, 1)) : x ≠ u := fun e => h (by rw [e])
theorem four {a b c d : Int} {z1 z2 z3 z4 : Int × Int} (h1 : Plc p z1.1 z1.2) (h2 : Plc p z2.1 z2.2) (h3 : Plc p z3.1 z3.2) (h4 : Plc p z4.1 z4.2) (n12 : z1 ≠ z2) (n13 : z1 ≠ z3) (n14 : z1 ≠ z4) (n23 : z2 ≠ z3) (n24 : z2 ≠ z4) (n34 : z3 ≠ z4)
    (r1 : Rt p a b c d z1.1 z1.2) (r2 : Rt p a b c d z2.1 z2.2) (r3 : Rt p a b c d z3.1 z3.2) (r4 : Rt p a b c d z4.1 z4.2) : Whl p a b c d := by
  obtain ⟨x1, y1⟩ := z1
  obtain ⟨x2, y2⟩ := z2
  obtain ⟨x3, y3⟩ := z3
  obtain ⟨x4, y4⟩ := z4
  simp only [] at *
  rcases h1 with ⟨rfl, h1⟩ | ⟨rfl, rfl⟩
  · rcases h2 with ⟨rfl, h2⟩ | ⟨rfl, rfl⟩
    · rcases h3 with ⟨rfl, h3⟩ | ⟨rfl, rfl⟩
      · rcases h4 with ⟨rfl, h4⟩ | ⟨rfl, rfl⟩
        · exact four_xy hp p13 h1 h2 h3 h4 (ne_fst hp p13 n12) (ne_fst hp p13 n13) (ne_fst hp p13 n14) (ne_fst hp p13 n23) (ne_fst hp p13 n24) (ne_fst hp p13 n34) r1 r2 r3 r4
        · exact three_end hp p13 h1 h2 h3 (ne_fst hp p13 n12) (ne_fst hp p13 n13) (ne_fst hp p13 n23) r4 r1 r2 r3
      · rcases h4 with ⟨rfl, h4⟩ | ⟨rfl, rfl⟩
        · exact three_end hp p13 h1 h2 h4 (ne_fst hp p13 n12) (ne_fst hp p13 n14) (ne_fst hp p13 n24) r3 r1 r2 r4
        · exact absurd rfl n34
    · rcases h3 with ⟨rfl, h3⟩ | ⟨rfl, rfl⟩
      · rcases h4 with ⟨rfl, h4⟩ | ⟨rfl, rfl⟩
        · exact three_end hp p13 h1 h3 h4 (ne_fst hp p13 n13) (ne_fst hp p13 n14) (ne_fst hp p13 n34) r2 r1 r3 r4
        · exact absurd rfl n24
      · exact absurd rfl n23
  · rcases h2 with ⟨rfl, h2⟩ | ⟨rfl, rfl⟩
    · rcases h3 with ⟨rfl, h3⟩ | ⟨rfl, rfl⟩
      · rcases h4 with ⟨rfl, h4⟩ | ⟨rfl, rfl⟩
        · exact three_end hp p13 h2 h3 h4 (ne_fst hp p13 n23) (ne_fst hp p13 n24) (ne_fst hp p13 n34) r1 r2 r3 r4
        · exact absurd rfl n14
      · exact absurd rfl n13
    · exact absurd rfl n12
theorem hv_rt {a b c d x y : Int} (h : Hv p a b c d x y) : Rt p a b c d x y := by
  obtain ⟨⟨k, hk⟩, _⟩ := h
  exact ⟨(p : Int) * k, by rw [hk, Int.mul_assoc]⟩
theorem two_xy {a b c d x1 x2 : Int} (h1 : 0 ≤ x1 ∧ x1 < p) (h2 : 0 ≤ x2 ∧ x2 < p) (n12 : x1 ≠ x2) (r1 : Hv p a b c d x1 1) (r2 : Hv p a b c d x2 1) : Whl p a b c d := by
  have f1 := hv_rt hp p13 r1
  have f2 := hv_rt hp p13 r2
  obtain ⟨_, g1, _⟩ := r1
  obtain ⟨_, g2, _⟩ := r2
  unfold Rt at f1 f2
  have s1 : (p : Int) ∣ a * (2 * x1 + x2) + b := canc hp p13 h2.1 h2.2 h1.1 h1.2 (fun e => n12 e.symm) (canc hp p13 h2.1 h2.2 h1.1 h1.2 (fun e => n12 e.symm) (by
    have := Int.dvd_sub (Int.dvd_sub f2 f1) (Int.dvd_mul_of_dvd_right g1 (b := x2 - x1))
    rwa [show fv a b c d x2 1 - fv a b c d x1 1 - (x2 - x1) * gx a b c x1 1 = (x2 - x1) * ((x2 - x1) * (a * (2 * x1 + x2) + b)) by unfold fv gx; grind] at this))
  have s2 : (p : Int) ∣ a * (2 * x2 + x1) + b := canc hp p13 h1.1 h1.2 h2.1 h2.2 n12 (canc hp p13 h1.1 h1.2 h2.1 h2.2 n12 (by
    have := Int.dvd_sub (Int.dvd_sub f1 f2) (Int.dvd_mul_of_dvd_right g2 (b := x1 - x2))
    rwa [show fv a b c d x1 1 - fv a b c d x2 1 - (x1 - x2) * gx a b c x2 1 = (x1 - x2) * ((x1 - x2) * (a * (2 * x2 + x1) + b)) by unfold fv gx; grind] at this))
  have ka : (p : Int) ∣ a := canc hp p13 h1.1 h1.2 h2.1 h2.2 n12 (by
    have := Int.dvd_sub s1 s2
    rwa [show a * (2 * x1 + x2) + b - (a * (2 * x2 + x1) + b) = (x1 - x2) * a by grind] at this)
  have kb : (p : Int) ∣ b := (Int.dvd_add_right (Int.dvd_mul_of_dvd_left ka)).mp s1
  rw [show gx a b c x1 1 = (a * (3 * x1 * x1) + b * (2 * x1)) + c by unfold gx; grind] at g1
  have kc : (p : Int) ∣ c := (Int.dvd_add_right (Int.dvd_add (Int.dvd_mul_of_dvd_left ka) (Int.dvd_mul_of_dvd_left kb))).mp g1
  refine ⟨ka, kb, kc, ?_⟩
  rw [show fv a b c d x1 1 = (a * (x1 * x1 * x1) + b * (x1 * x1) + c * x1) + d by unfold fv; grind] at f1
  exact (Int.dvd_add_right (Int.dvd_add (Int.dvd_add (Int.dvd_mul_of_dvd_left ka) (Int.dvd_mul_of_dvd_left kb)) (Int.dvd_mul_of_dvd_left kc))).mp f1
theorem two_end {a b c d x1 : Int} (r0 : Hv p a b c d 1 0) (r1 : Hv p a b c d x1 1) : Whl p a b c d := by
  have f0 := hv_rt hp p13 r0
  have f1 := hv_rt hp p13 r1
  obtain ⟨_, _, g0⟩ := r0
  obtain ⟨_, g1, _⟩ := r1
  unfold Rt at f0 f1
  rw [show fv a b c d 1 0 = a by unfold fv; grind] at f0
  rw [show gy b c d 1 0 = b by unfold gy; grind] at g0
  have ka := f0
  have kb := g0
  rw [show gx a b c x1 1 = (a * (3 * x1 * x1) + b * (2 * x1)) + c by unfold gx; grind] at g1
  have kc : (p : Int) ∣ c := (Int.dvd_add_right (Int.dvd_add (Int.dvd_mul_of_dvd_left ka) (Int.dvd_mul_of_dvd_left kb))).mp g1
  refine ⟨ka, kb, kc, ?_⟩
  rw [show fv a b c d x1 1 = (a * (x1 * x1 * x1) + b * (x1 * x1) + c * x1) + d by unfold fv; grind] at f1
  exact (Int.dvd_add_right (Int.dvd_add (Int.dvd_add (Int.dvd_mul_of_dvd_left ka) (Int.dvd_mul_of_dvd_left kb)) (Int.dvd_mul_of_dvd_left kc))).mp f1
theorem two {a b c d : Int} {z1 z2 : Int × Int} (h1 : Plc p z1.1 z1.2) (h2 : Plc p z2.1 z2.2) (n12 : z1 ≠ z2) (r1 : Hv p a b c d z1.1 z1.2) (r2 : Hv p a b c d z2.1 z2.2) : Whl p a b c d := by
  obtain ⟨x1, y1⟩ := z1
  obtain ⟨x2, y2⟩ := z2
  simp only [] at *
  rcases h1 with ⟨rfl, h1⟩ | ⟨rfl, rfl⟩ <;> rcases h2 with ⟨rfl, h2⟩ | ⟨rfl, rfl⟩
  · exact two_xy hp p13 h1 h2 (ne_fst hp p13 n12) r1 r2
  · exact two_end hp p13 r2 r1
  · exact two_end hp p13 r1 r2
  · exact absurd rfl n12
theorem roots_many {a b c d : Int} {qs : List (Int × Int)} (nd : qs.Nodup) (h : ∀ z ∈ qs, z ∈ allP p ∧ rootB a b c d p z.1 z.2 = true) (hl : 3 < qs.length) : Whl p a b c d := by
  match qs, nd, h, hl with
  | z1 :: z2 :: z3 :: z4 :: r, nd, h, _ =>
    have m1 := h z1 (by simp)
    have m2 := h z2 (by simp)
    have m3 := h z3 (by simp)
    have m4 := h z4 (by simp)
    simp only [List.nodup_cons, List.mem_cons, not_or] at nd
    exact four hp p13 (mem_all m1.1) (mem_all m2.1) (mem_all m3.1) (mem_all m4.1) nd.1.1 nd.1.2.1 nd.1.2.2.1 nd.2.1.1 nd.2.1.2.1 nd.2.2.1.1 (rt_root.mp m1.2) (rt_root.mp m2.2) (rt_root.mp m3.2) (rt_root.mp m4.2)
theorem heavy_many {a b c d : Int} {qs : List (Int × Int)} (nd : qs.Nodup) (h : ∀ z ∈ qs, z ∈ allP p ∧ heavyB a b c d p z.1 z.2 = true) (hl : 1 < qs.length) : Whl p a b c d := by
  match qs, nd, h, hl with
  | z1 :: z2 :: r, nd, h, _ =>
    have m1 := h z1 (by simp)
    have m2 := h z2 (by simp)
    simp only [List.nodup_cons, List.mem_cons, not_or] at nd
    exact two hp p13 (mem_all m1.1) (mem_all m2.1) nd.1.1 ((hv_heavy (mem_all m1.1)).mp m1.2) ((hv_heavy (mem_all m2.1)).mp m2.2)
omit hp p13 in
theorem whl_root {a b c d x y : Int} (h : Whl p a b c d) : rootB a b c d p x y = true := by
  obtain ⟨ha, hb, hc, hd⟩ := h
  refine rt_root.mpr ?_
  unfold Rt
  rw [show fv a b c d x y = a * (x * x * x) + b * (x * x * y) + c * (x * y * y) + d * (y * y * y) by unfold fv; grind]
  exact Int.dvd_add (Int.dvd_add (Int.dvd_add (Int.dvd_mul_of_dvd_left ha) (Int.dvd_mul_of_dvd_left hb)) (Int.dvd_mul_of_dvd_left hc)) (Int.dvd_mul_of_dvd_left hd)
omit hp p13 in
theorem gcd_foldl_dvd : ∀ (ns : List Int) (acc : Nat), ns.foldl (fun g n => Nat.gcd g n.natAbs) acc ∣ acc ∧ ∀ n ∈ ns, ns.foldl (fun g n => Nat.gcd g n.natAbs) acc ∣ n.natAbs
  | [], acc => ⟨Nat.dvd_refl _, fun _ h => by cases h⟩
  | n :: ns, acc => by
    obtain ⟨h1, h2⟩ := gcd_foldl_dvd ns (Nat.gcd acc n.natAbs)
    refine ⟨Nat.dvd_trans h1 (Nat.gcd_dvd_left _ _), fun m hm => ?_⟩
    rcases List.mem_cons.mp hm with rfl | hm
    · exact Nat.dvd_trans h1 (Nat.gcd_dvd_right _ _)
    · exact h2 m hm
omit hp p13 in
theorem whl_iff {a b c d : Int} : ((gcdL [a, b, c, d] : Nat) : Int) % (p : Int) = 0 ↔ Whl p a b c d := by
  constructor
  · intro h
    have h1 : p ∣ gcdL [a, b, c, d] := Int.natCast_dvd_natCast.mp (Int.dvd_of_emod_eq_zero h)
    have h2 := (gcd_foldl_dvd [a, b, c, d] 0).2
    have f : ∀ n ∈ [a, b, c, d], (p : Int) ∣ n := fun n hn => Int.natAbs_dvd_natAbs.mp (by rw [Int.natAbs_natCast]; exact Nat.dvd_trans h1 (h2 n hn))
    exact ⟨f a (by simp), f b (by simp), f c (by simp), f d (by simp)⟩
  · rintro ⟨h1, h2, h3, h4⟩
    exact gcdL_dvd4 h1 h2 h3 h4
omit p13 in
theorem heavy_far {a b c d x k : Int} : heavyB a b c d p (x + (p : Int) * k) 1 = heavyB a b c d p x 1 := by
  have t : ∀ {z j : Int}, heavyB a b c d p z 1 = true → heavyB a b c d p (z + (p : Int) * j) 1 = true := fun {z j} h => by
    have e : ∀ w : Int, heavyB a b c d p w 1 = true ↔ (p : Int) * (p : Int) ∣ fv a b c d w 1 ∧ (p : Int) ∣ (3 * a * w + 2 * b) * w + c := fun w => by
      unfold heavyB
      rw [if_pos rfl, Bool.and_eq_true_iff, em, em]
    obtain ⟨h1, h2⟩ := (e z).mp h
    have hh : Hv p a b c d z 1 := by
      refine ⟨h1, by rw [show gx a b c z 1 = (3 * a * z + 2 * b) * z + c by unfold gx; grind]; exact h2, ?_⟩
      obtain ⟨k, hk⟩ := h1
      obtain ⟨j, hj⟩ := h2
      refine ⟨3 * ((p : Int) * k) - z * j, ?_⟩
      have : gy b c d z 1 = 3 * fv a b c d z 1 - z * ((3 * a * z + 2 * b) * z + c) := by unfold gy fv; grind
      rw [this, hk, hj]
      grind
    have h3 := hv_shift (u := j) (v := 0) hh
    rw [Int.mul_zero, Int.add_zero] at h3
    refine (e _).mpr ⟨h3.1, ?_⟩
    have := h3.2.1
    rwa [show gx a b c (z + (p : Int) * j) 1 = (3 * a * (z + (p : Int) * j) + 2 * b) * (z + (p : Int) * j) + c by unfold gx; grind] at this
  refine Bool.eq_iff_iff.mpr ⟨fun h => ?_, t⟩
  have := t (j := -k) h
  rwa [show x + (p : Int) * k + (p : Int) * -k = x by grind] at this
end
end K39
namespace K39
open PySem PySem.Spec PyProof.Rows L2 Fr
theorem made_ex {H H' : Hp} {x dx : Addr} {o1 o2 : HO} (nx : H x = none) (ndx : H dx = none) (e1 : ∀ b o, b ≠ x → (upd (upd H dx o1) x o2) b = some o → H' b = some o) : Ex0 H H' := Ex0.of fun b o e => by
  have n1 : b ≠ x := ne_of_none e nx
  have n2 : b ≠ dx := ne_of_none e ndx
  refine e1 b o n1 ?_
  rw [upd_ne n1, upd_ne n2]
  exact e
theorem made_at {H : Hp} {x dx t : Addr} {o1 o2 : HO} {xs : List V} (nx : H x = none) (ndx : H dx = none) (h : H t = some (.tup xs)) : upd (upd H dx o1) x o2 t = some (.tup xs) := by
  rw [upd_ne (ne_of_none h nx), upd_ne (ne_of_none h ndx)]
  exact h
theorem ex_two {H : Hp} {x dx : Addr} {o1 o2 : HO} (nx : H x = none) (ndx : H dx = none) : Ex0 H (upd (upd H dx o1) x o2) := Ex0.of fun b o e => by
  rw [upd_ne (ne_of_none e nx), upd_ne (ne_of_none e ndx)]
  exact e
theorem fo_made {C : Addr} {H H' : Hp} {x dx t : Addr} {ns : List Int} {o1 o2 : HO} (nx : H x = none) (ndx : H dx = none) (ht : Ti H t ns) (e1 : ∀ b o, b ≠ x → (upd (upd H dx o1) x o2) b = some o → H' b = some o)
    (e2 : H' x = some (.ins C dx [(("_coefficients" : Str), .ref t)])) : Ex0 H H' ∧ FormAt C H' x ns :=
  ⟨made_ex nx ndx e1, dx, t, e2, Ex0.ti (made_ex nx ndx e1) ht⟩
theorem shaped_lpis (fs : List (Int × Int)) : SeqAt.shaped (.list (fs.map pi2)) = true := by
  have h := pis_ok fs
  unfold SeqAt.shaped
  rw [PyData.canLay0, PyData.depth, h.1]
  simp
  omega
theorem fv_sqT {K : PySem.W.Frag} {c a : Addr} {H H' : Hp} {xs : List V} (hc : Vat c H) (f : Fv c H H') (h : SqT K H a xs) : SqT K H' a xs := by
  have ne : ∀ {o : HO}, H a = some o → (∀ z, o ≠ .lst z) → ¬ Sv c a := fun h n e => by
    obtain ⟨x, y, z, q⟩ := hc
    unfold Sv at e
    rw [e, q] at h
    exact n _ (Option.some.inj h).symm
  rcases h with (h | ⟨o, h⟩) | h
  · exact .inl (.inl (f.2 _ _ (ne h (by intro z w; cases w)) h))
  · exact .inl (.inr ⟨o, f.2 _ _ (ne h (by intro z w; cases w)) h⟩)
  · exact .inr h
theorem fv_prT {K : PySem.W.Frag} {c : Addr} {H H' : Hp} (hc : Vat c H) (f : Fv c H H') {xs : List V} {ps : List (Int × Int)} (h : PrT K H xs ps) : PrT K H' xs ps := by
  induction h with
  | nil => exact .nil
  | cons h _ ih => exact .cons (fv_sqT hc f h) ih
theorem eqv_lp (ps qs : List (Int × Int)) : PyData.eqv (.list (ps.map pi2)) (.list (qs.map pi2)) = decide (ps = qs) := by
  rw [PyData.eqv, eqv_pis]
theorem fv_at {c a : Addr} {H H' : Hp} {o : HO} (hc : Vat c H) (f : Fv c H H') (h : H a = some o) (hn : ∀ z, o ≠ .lst z) : H' a = some o := f.2 a _ (fun e => by
  obtain ⟨x, y, z, q⟩ := hc
  unfold Sv at e
  rw [e, q] at h
  exact hn _ (Option.some.inj h).symm) h
theorem fv_fo {C c x : Addr} {H H' : Hp} {ns : List Int} (hc : Vat c H) (f : Fv c H H') (h : FormAt C H x ns) : FormAt C H' x ns := by
  obtain ⟨dx, t, h1, h2⟩ := h
  exact ⟨dx, t, fv_at hc f h1 (by intro z w; cases w), fv_at hc f h2 (by intro z w; cases w)⟩
theorem fv_ls {c a : Addr} {H H' : Hp} {xs : List V} (f : Fv c H H') (ne : a ≠ c) (h : H a = some (.lst xs)) : H' a = some (.lst xs) := f.2 a _ (fun e => ne e) h
theorem asc_eq {p : Nat} {g : Int × Int → Bool} {ps qs : List (Int × Int)} (pm : ps.Perm (allP p)) (s : ps.Pairwise lexP) (h : Asc p g qs) : qs = ps.filter g := by
  obtain ⟨h1, h2, h3⟩ := h
  refine eq_sorted h1 h2 (s.sublist List.filter_sublist) ((pm.nodup_iff.mpr (nd_all p)).sublist List.filter_sublist) fun z => ?_
  rw [h3 z, List.mem_filter, pm.mem_iff]
theorem any_mem {x y : Int} {ps : List (Int × Int)} : ((ps.map pi2).any fun z => PyData.eqv z (.tuple (([x, y] : List Int).map PyData.int))) = decide ((x, y) ∈ ps) := by
  induction ps with
  | nil => rfl
  | cons z r ih =>
    rw [List.map_cons, List.any_cons, ih]
    obtain ⟨u, v⟩ := z
    rw [show PyData.eqv (pi2 (u, v)) (.tuple (([x, y] : List Int).map PyData.int)) = decide ((x, y) = (u, v)) by
      unfold pi2
      rw [show (PyData.tuple [PyData.int (u, v).1, PyData.int (u, v).2]) = .tuple (([u, v] : List Int).map PyData.int) from rfl, PyData.eqv, eqv_ints]
      refine decide_eq_decide.mpr ⟨fun h => ?_, fun h => ?_⟩
      · injection h with h1 h
        injection h with h2 _
        rw [h1, h2]
      · injection h with h1 h2
        rw [h1, h2]]
    simp only [List.mem_cons, Bool.decide_or]
theorem fled_eq (a b c d p q r s : Int) : fled a b c d p q r s = ledL a b c d p q r s := by
  unfold fled ledL
  rw [show fl2 a b c d p q r s = ml2 a b c d p q r s by unfold fl2 ml2; grind, show fl3 a b c d p q r s = ml3 a b c d p q r s by unfold fl3 ml3; grind]
def sp_l_right (_ : PySem.W.Frag) (_ : Addr) : Sp := fun vs H Q _ => ∃ c : Addr, vs = [.ref c] ∧ Vat c H ∧ ∀ H', Fv c H H' → Q (.bl true) H'
section
variable {P : Program} {w : World} {K : PySem.W.Frag} {mg : Str → Option Value} {base : Heap} {C_Form : Addr}
theorem ok_l_right (T : Txt K mg C_Form) : Def P w K mg base 9 "_law_right" ["_law_kettle_here"] (sp_l_right K C_Form) := by
  obtain ⟨f_, fd_, g_, F_⟩ := T.d_l_right
  obtain ⟨p_Form___init__, f_Form___init__, fd_Form___init__, R_Form___init__, b_Form___init__, G_Form___init__⟩ := (ok_Form___init__ (P := P) (w := w) (base := base) T)
  obtain ⟨p_Form_led, f_Form_led, fd_Form_led, R_Form_led, b_Form_led, G_Form_led⟩ := (ok_Form_led (P := P) (w := w) (base := base) T)
  obtain ⟨f_l_any_row, fd_l_any_row, g_l_any_row, k_l_any_row, b_l_any_row, G_l_any_row⟩ := (ok_l_any_row (P := P) (w := w) (base := base) T)
  obtain ⟨f_l_change, fd_l_change, g_l_change, k_l_change, b_l_change, G_l_change⟩ := (ok_l_change (P := P) (w := w) (base := base) T)
  obtain ⟨f_l_content, fd_l_content, g_l_content, k_l_content, b_l_content, G_l_content⟩ := (ok_l_content (P := P) (w := w) (base := base) T)
  obtain ⟨f_l_is_heavy, fd_l_is_heavy, g_l_is_heavy, k_l_is_heavy, b_l_is_heavy, G_l_is_heavy⟩ := (ok_l_is_heavy (P := P) (w := w) (base := base) T)
  obtain ⟨f_l_moved_place, fd_l_moved_place, g_l_moved_place, k_l_moved_place, b_l_moved_place, G_l_moved_place⟩ := (ok_l_moved_place (P := P) (w := w) (base := base) T)
  obtain ⟨f_l_places, fd_l_places, g_l_places, k_l_places, b_l_places, G_l_places⟩ := (ok_l_places (P := P) (w := w) (base := base) T)
  obtain ⟨f_l_prime, fd_l_prime, g_l_prime, k_l_prime, b_l_prime, G_l_prime⟩ := (ok_l_prime (P := P) (w := w) (base := base) T)
  obtain ⟨f_l_sip, fd_l_sip, g_l_sip, k_l_sip, b_l_sip, G_l_sip⟩ := (ok_l_sip (P := P) (w := w) (base := base) T)
  obtain ⟨f_l_value, fd_l_value, g_l_value, k_l_value, b_l_value, G_l_value⟩ := (ok_l_value (P := P) (w := w) (base := base) T)
  obtain ⟨f_heavy_places, fd_heavy_places, g_heavy_places, k_heavy_places, b_heavy_places, G_heavy_places⟩ := (ok_heavy_places (P := P) (w := w) (base := base) T)
  obtain ⟨f_roots_at, fd_roots_at, g_roots_at, k_roots_at, b_roots_at, G_roots_at⟩ := (ok_roots_at (P := P) (w := w) (base := base) T)
  refine ⟨f_, fd_, g_, F_.kp, F_.binds (ps := ["_law_kettle_here"]) (fun _ _ _ _ _ _ us hl => match us, hl with | [_], _ => rfl), ?_⟩
  refine F_.ok sc_l_right (fun vs H Q E h => ?_) (fun cdv A outer s H vs Q E hr h => ?_)
  · first | (obtain ⟨rfl, _⟩ := h; rfl) | (obtain ⟨_, rfl, _⟩ := h; rfl) | (obtain ⟨_, _, rfl, _⟩ := h; rfl) | (obtain ⟨_, _, _, rfl, _⟩ := h; rfl) | (obtain ⟨_, _, _, _, rfl, _⟩ := h; rfl) | (obtain ⟨_, _, _, _, _, rfl, _⟩ := h; rfl) | (obtain ⟨_, _, _, _, _, _, rfl, _⟩ := h; rfl) | (obtain ⟨_, _, _, _, _, _, _, rfl, _⟩ := h; rfl) | (obtain ⟨_, _, _, _, _, _, _, _, rfl, _⟩ := h; rfl) | (obtain ⟨_, _, _, _, _, _, _, _, _, rfl, _⟩ := h; rfl) | (obtain ⟨_, _, _, _, _, _, _, _, _, _, rfl, _⟩ := h; rfl) | (obtain ⟨_, _, _, _, _, _, _, _, _, _, _, rfl, _⟩ := h; rfl) | (obtain ⟨_, _, _, _, _, _, _, _, _, _, _, _, rfl, _⟩ := h; rfl) | (obtain ⟨_, _, _, _, _, _, _, _, _, _, _, _, _, rfl, _⟩ := h; rfl) | (obtain ⟨_, _, _, _, _, _, _, _, _, _, _, _, _, _, rfl, _⟩ := h; rfl) | (obtain ⟨_, _, _, _, _, _, _, _, _, _, _, _, _, _, _, rfl, _⟩ := h; rfl) | (obtain ⟨_, _, _, _, _, _, _, _, _, _, _, _, _, _, _, _, rfl, _⟩ := h; rfl) | (obtain ⟨_, _, _, _, _, _, _, _, _, _, _, _, _, _, _, _, _, rfl, _⟩ := h; rfl) | (obtain ⟨_, _, _, _, _, _, _, _, _, _, _, _, _, _, _, _, _, _, rfl, _⟩ := h; rfl) | (obtain ⟨_, _, _, _, _, _, _, _, _, _, _, _, _, _, _, _, _, _, _, rfl, _⟩ := h; rfl) | (obtain ⟨_, _, _, _, _, _, _, _, _, _, _, _, _, _, _, _, _, _, _, _, rfl, _⟩ := h; rfl) | (obtain ⟨_, _, _, _, _, _, _, _, _, _, _, _, _, _, _, _, _, _, _, _, _, rfl, _⟩ := h; rfl) | (obtain ⟨_, _, _, _, _, _, _, _, _, _, _, _, _, _, _, _, _, _, _, _, _, _, rfl, _⟩ := h; rfl) | (obtain ⟨_, _, _, _, _, _, _, _, _, _, _, _, _, _, _, _, _, _, _, _, _, _, _, rfl, _⟩ := h; rfl)
  · obtain ⟨c, rfl, hc, q⟩ := h
    refine ⟨_, (Evl.pss_cut (ps_set (i := 1) sc_l_right.nd rfl (.inr rfl) (pe_call G_l_prime (hr.mono (by decide)) (by rfl) g_l_prime k_l_prime b_l_prime .nil pass0 (pa_cons (pv 0) pa_nil)))
    (Evl.pss_cut (ps_set (i := 2) sc_l_right.nd rfl (.inr rfl) (pe_call G_l_any_row (hr.mono (by decide)) (by rfl) g_l_any_row k_l_any_row b_l_any_row .nil pass0 (pa_cons (pv 0) (pa_cons (pv 1) pa_nil))))
    (Evl.pss_cut (ps_par (i := 3) (j := 4) (by rfl) sc_l_right.nd rfl rfl (by decide) rfl rfl (pa_cons (pe_make R_Form___init__ G_Form___init__ (hr.mono (by decide)) (by rfl) T.g_Form b_Form___init__ .nil pass0 (pa_cons (pv 2) pa_nil)) (pa_cons (pe_call G_l_places (hr.mono (by decide)) (by rfl) g_l_places k_l_places b_l_places .nil pass0 (pa_cons (pv 1) pa_nil)) pa_nil)) (by rfl))
    (Evl.pss_cut (ps_set (i := 5) sc_l_right.nd rfl (.inr rfl) (pe_lc (own := [("_law_place", 6)]) (g := (gName 6)) rfl sc_l_right.nd (pi_list (pv 4)) (blkOk_by (N := N_l_right) (sc := defScope s_l_right) (by decide +kernel)) (fun _ _ _ _ _ => (pg_name (i := 6) sc_l_right.nd rfl (.inl rfl))) (fun _ _ _ _ _ => (pts_one (pt_cmpR op_eq (pe_op op_mod (pe_call G_l_value (hr.mono (by decide)) (by rfl) g_l_value k_l_value b_l_value .nil pass0 (pa_cons (pv 2) (pa_cons (pe_ix (ix_tupK (K := K) rfl) (pv 6) pe_int (fun _ _ => rfl)) (pa_cons (pe_ix (ix_tupK (K := K) rfl) (pv 6) pe_int (fun _ _ => rfl)) pa_nil)))) (pv 1)) pe_int (nomark _)))) (fun _ _ _ _ _ => (pv 6))))
    (Evl.pss_cut (ps_setLc (i := 7) (own := [("_law_place", 6)]) (g := (gName 6)) rfl sc_l_right.nd rfl rfl (sw_true rfl rfl rfl (by decide +kernel)) (pi_list (pv 4)) (blkOk_by (N := N_l_right) (sc := defScope s_l_right) (by decide +kernel)) (fun _ _ _ _ _ => (pg_name (i := 6) sc_l_right.nd rfl (.inl rfl))) (fun _ _ _ _ _ => (pts_one (pt_val (pe_call G_l_is_heavy (hr.mono (by decide)) (by rfl) g_l_is_heavy k_l_is_heavy b_l_is_heavy .nil pass0 (pa_cons (pv 2) (pa_cons (pv 1) (pa_cons (pv 6) pa_nil))))))) (fun _ _ _ _ _ => (pv 6)))
    (Evl.pss_cut (ps_if (PW.pt (pw_or (pt_cmpR (op_neD hr.units) (pe_call G_roots_at (hr.mono (by decide)) (by rfl) g_roots_at k_roots_at b_roots_at .nil pass0 (pa_cons (pv 3) (pa_cons (pv 1) pa_nil))) (pe_callTy call_tuple_of (by rfl) T.b_tuple (by decide +kernel) (pa_cons (pv 5) pa_nil)) (nomark _)) (pw_or1 (pt_cmpR (op_neD hr.units) (pe_call G_heavy_places (hr.mono (by decide)) (by rfl) g_heavy_places k_heavy_places b_heavy_places .nil pass0 (pa_cons (pv 3) (pa_cons (pv 1) pa_nil))) (pe_callTy call_tuple_of (by rfl) T.b_tuple (by decide +kernel) (pa_cons (pv 7) pa_nil)) (nomark _)))))
      (pss_one (ps_ret pe_bl))
      pss_nil)
    (Evl.pss_cut (ps_if (pt_cmpR (op_neD hr.units) (pe_lc (own := [("_law_place", 6)]) (g := (gName 6)) rfl sc_l_right.nd (pi_list (pv 7)) (blkOk_by (N := N_l_right) (sc := defScope s_l_right) (by decide +kernel)) (fun _ _ _ _ _ => (pg_name (i := 6) sc_l_right.nd rfl (.inl rfl))) (fun _ _ _ _ _ => (pts_one (pt_cmpR ((op_notInDK (K := K) rfl) (units65 hr)) (pv 6) (pv 5) (by with_unfolding_all rfl)))) (fun _ _ _ _ _ => (pv 6))) (pe_lst pa_nil) (nomark _))
      (pss_one (ps_ret pe_bl))
      pss_nil)
    (Evl.pss_cut (ps_set (i := 8) sc_l_right.nd rfl (.inl rfl) (pe_cmpR op_eq (pe_op op_mod (pe_call G_l_content (hr.mono (by decide)) (by rfl) g_l_content k_l_content b_l_content .nil pass0 (pa_cons (pv 2) pa_nil)) (pv 1)) pe_int (nomark _)))
    (Evl.pss_cut (ps_if (PW.pt (pw_or (PW.pt (pw_and (pt_cmpR op_gt (pe_callB call_len_seq (by rfl) T.b_len PySem.boot_len (pa_cons (pv 5) pa_nil)) pe_int (nomark _)) (pw_and1 (pt_not (pt_truth (pv 8) (by intro _; rfl)))))) (pw_or (PW.pt (pw_and (pt_truth (pv 8) (by intro _; rfl)) (pw_and1 (pt_cmpR op_ne (pe_callB call_len_seq (by rfl) T.b_len PySem.boot_len (pa_cons (pv 5) pa_nil)) (pe_op op_add (pv 1) pe_int) (nomark _))))) (pw_or1 (PW.pt (pw_and (pt_cmpR op_gt (pe_callB call_len_seq (by rfl) T.b_len PySem.boot_len (pa_cons (pv 7) pa_nil)) pe_int (nomark _)) (pw_and1 (pt_not (pt_truth (pv 8) (by intro _; rfl))))))))))
      (pss_one (ps_ret pe_bl))
      pss_nil)
    (Evl.pss_cut (ps_for PassesOwn.never rfl (pi_list (pe_slice sl_list (pe_lc (own := [("_law_one", 12)]) (g := (gName 12)) rfl sc_l_right.nd (pi_list (pv 4)) (blkOk_by (N := N_l_right) (sc := defScope s_l_right) (by decide +kernel)) (fun _ _ _ _ _ => (pg_name (i := 12) sc_l_right.nd rfl (.inl rfl))) (fun _ _ _ _ _ => (pts_one (pt_cmpR op_eq (pe_ix (ix_tupK (K := K) rfl) (pv 12) pe_int (fun _ _ => rfl)) pe_int (nomark _)))) (fun _ _ _ _ _ => (pv 12))) po_none (po_some pe_int))) (pg_name (i := 6) sc_l_right.nd rfl (.inl rfl))
      (Evl.pss_cut (ps_set (i := 9) sc_l_right.nd rfl (.inl rfl) (pe_tup (pa_cons (pe_op op_add (pe_ix ix_tup (pv 6) pe_int (fun _ _ => rfl)) (pe_op op_mulW (pv 1) (pe_op op_sub (pe_call G_l_sip (hr.mono (by decide)) (by rfl) g_l_sip k_l_sip b_l_sip .nil pass0 (pa_cons (pv 0) (pa_cons pe_int pa_nil))) pe_int))) (pa_cons pe_int pa_nil))))
    (pss_one (ps_if (pt_cmpR op_ne (pe_call G_l_is_heavy (hr.mono (by decide)) (by rfl) g_l_is_heavy k_l_is_heavy b_l_is_heavy .nil pass0 (pa_cons (pv 2) (pa_cons (pv 1) (pa_cons (pv 9) pa_nil)))) (pe_cmpR (op_inD (units65 hr)) (pv 6) (pv 7) (by with_unfolding_all rfl)) (nomark _))
      (pss_one (ps_ret pe_bl))
      pss_nil))))
    (Evl.pss_cut (ps_set (i := 10) sc_l_right.nd rfl (.inr rfl) (pe_call G_l_change (hr.mono (by decide)) (by rfl) g_l_change k_l_change b_l_change .nil pass0 (pa_cons (pv 0) pa_nil)))
    (Evl.pss_cut (ps_set (i := 11) sc_l_right.nd rfl (.inl rfl) (pe_meth (pv 3) T.cl_Form R_Form_led G_Form_led (hr.mono (by decide)) b_Form_led .nil pass0 (pa_cons (pv 10) pa_nil)))
    (Evl.pss_cut (ps_if (pt_cmpR (op_neD hr.units) (pe_callB cr_sortedPT (by rfl) T.b_sorted (by decide +kernel) (pa_cons (pe_lc (own := [("_law_place", 6)]) (g := (gName 6)) rfl sc_l_right.nd (pi_list (pv 5)) (blkOk_by (N := N_l_right) (sc := defScope s_l_right) (by decide +kernel)) (fun _ _ _ _ _ => (pg_name (i := 6) sc_l_right.nd rfl (.inl rfl))) (fun _ _ _ _ _ => pts_nil) (fun _ _ _ _ _ => (pe_call G_l_moved_place (hr.mono (by decide)) (by rfl) g_l_moved_place k_l_moved_place b_l_moved_place .nil pass0 (pa_cons (pv 1) (pa_cons (pv 6) (pa_cons (pv 10) pa_nil)))))) pa_nil)) (pe_callTy call_list_of (by rfl) T.b_list (by decide +kernel) (pa_cons (pe_call G_roots_at (hr.mono (by decide)) (by rfl) g_roots_at k_roots_at b_roots_at .nil pass0 (pa_cons (pv 11) (pa_cons (pv 1) pa_nil))) pa_nil)) (nomark _))
      (pss_one (ps_ret pe_bl))
      pss_nil)
    (pss_one (ps_ret (pe_cmpR (op_eqD hr.units) (pe_callB cr_sortedPT (by rfl) T.b_sorted (by decide +kernel) (pa_cons (pe_lc (own := [("_law_place", 6)]) (g := (gName 6)) rfl sc_l_right.nd (pi_list (pv 7)) (blkOk_by (N := N_l_right) (sc := defScope s_l_right) (by decide +kernel)) (fun _ _ _ _ _ => (pg_name (i := 6) sc_l_right.nd rfl (.inl rfl))) (fun _ _ _ _ _ => pts_nil) (fun _ _ _ _ _ => (pe_call G_l_moved_place (hr.mono (by decide)) (by rfl) g_l_moved_place k_l_moved_place b_l_moved_place .nil pass0 (pa_cons (pv 1) (pa_cons (pv 6) (pa_cons (pv 10) pa_nil)))))) pa_nil)) (pe_callTy call_list_of (by rfl) T.b_list (by decide +kernel) (pa_cons (pe_call G_heavy_places (hr.mono (by decide)) (by rfl) g_heavy_places k_heavy_places b_heavy_places .nil pass0 (pa_cons (pv 11) (pa_cons (pv 1) pa_nil))) pa_nil)) (nomark _))))))))))))))))), ?_⟩
    refine ⟨fun σ H' => ∃ (p : Nat), σ = [some (.ref c), some (.int (p : Int)), none, none, none, none, none, none, none, none, none, none, none] ∧ Fv c H H' ∧ Pr p ∧ p ≤ 13, ?_, ?_⟩
    · exact ⟨_, rfl, c, rfl, hc, fun p H1 e1 hp p13 => ⟨p, rfl, e1, hp, p13⟩⟩
    rintro σ H1 ⟨p, rfl, e1, hp, p13⟩
    have p2 := hp.1
    have pp : (0 : Int) < (p : Int) := by omega
    have bp : B 4 (p : Int) := ⟨by show _ < 16; omega, by decide⟩
    refine ⟨fun σ H' => ∃ (t : Addr) (a b e d : Int), σ = [some (.ref c), some (.int (p : Int)), some (.ref t), none, none, none, none, none, none, none, none, none, none] ∧ Fv c H1 H' ∧ Ti H' t [a, b, e, d] ∧ (∀ z ∈ [a, b, e, d], B 54 z), ?_, ?_⟩
    · refine ⟨_, rfl, _, rfl, c, p, rfl, e1.1, by omega, p13, fun t a b e d H2 e2 ht hz => ?_⟩
      exact ⟨t, a, b, e, d, rfl, e2, ht, hz⟩
    rintro σ H2 ⟨t, a, b, e, d, rfl, e2, ht2, bb⟩
    have v2 := e1.trans e2
    have b54 : B4 54 a b e d := ⟨bb a (by simp), bb b (by simp), bb e (by simp), bb d (by simp)⟩
    have bk : ∀ k, 54 ≤ k → B4 k a b e d := fun k h => ⟨b54.1.mono h, b54.2.1.mono h, b54.2.2.1.mono h, b54.2.2.2.mono h⟩
    have b100 := bk 100 (by decide)
    have b1000 := bk 1000 (by decide)
    have hs : ∀ n ∈ [a, b, e, d], Short n := fun n h => ⟨by have := (bb n h).1; omega, by have := (bb n h).1; omega⟩
    have hb100 : ∀ n ∈ [a, b, e, d], n.natAbs < 2 ^ 100 := fun n h => Nat.lt_of_lt_of_le (bb n h).1 (by decide)
    refine ⟨fun σ H' => ∃ (f l : Addr) (ys : List V) (ps : List (Int × Int)), σ = [some (.ref c), some (.int (p : Int)), some (.ref t), some (.ref f), some (.ref l), none, none, none, none, none, none, none, none] ∧ Ex0 H2 H' ∧ FormAt C_Form H' f [a, b, e, d] ∧ H' l = some (.lst ys) ∧ PrT K H' ys ps ∧ ps.Perm (allP p) ∧ ps.Pairwise lexP ∧ l ≠ c, ?_, ?_⟩
    · refine ⟨_, rfl, fun x dx nx ndx _ => ?_⟩
      refine ⟨x, dx, t, [a, b, e, d], rfl, upd_same, made_at nx ndx ht2, rfl, hs, fun H3 e3 h3 => ⟨rfl, ?_⟩⟩
      obtain ⟨e4, hx⟩ := fo_made nx ndx ht2 e3 h3
      refine ⟨_, rfl, p, rfl, by omega, fun l H4 ys ps e5 hl hP pm srt => ?_⟩
      have lc : l ≠ c := fun z => by
        obtain ⟨i, j, k, hv⟩ := (fv_ex v2.1 (e4.trans e5)).1
        rw [← z, hl] at hv
        injection hv with hv
        injection hv with hv
        rw [hv] at hP
        cases hP
      exact ⟨_, _, rfl, x, l, ys, ps, rfl, e4.trans e5, Ex0.fo e5 hx, hl, hP, pm, srt, lc⟩
    rintro σ H3 ⟨f, l, ys, ps, rfl, e3, hf3, hl3, hP3, pm, srt, lc⟩
    have v3 := v2.trans (fv_ex v2.1 e3)
    have ht3 := Ex0.ti e3 ht2
    have lenP : ps.length ≤ 100 := by
      rw [pm.length_eq]
      unfold allP
      rw [List.length_append, List.length_map, List.length_range]
      show p + 1 ≤ 100
      omega
    have bxy : ∀ {x y : Int}, Plc p x y → B 50 x ∧ B 50 y := fun hpl => by
      rcases hpl with ⟨rfl, h1, h2⟩ | ⟨rfl, rfl⟩
      · exact ⟨⟨Nat.lt_of_lt_of_le (show _ < 16 by omega) (by decide), by decide⟩, ⟨by decide, by decide⟩⟩
      · exact ⟨⟨by decide, by decide⟩, ⟨by decide, by decide⟩⟩
    refine ⟨fun σ H' => ∃ (r : Addr) (accR : List V), σ = [some (.ref c), some (.int (p : Int)), some (.ref t), some (.ref f), some (.ref l), some (.ref r), none, none, none, none, none, none, none] ∧ Ex0 H3 H' ∧ r ≠ c ∧ H' r = some (.lst accR) ∧ PrT K H' accR (ps.filter fun z => rootB a b e d p z.1 z.2), ?_, ?_⟩
    · refine ⟨_, rfl, l, rfl, ⟨_, SqL.of hl3⟩, ?_⟩
      refine lcL fm0 trivial (SqL.of hl3) (fun z => z) (fun i acc H' => PrT K H' acc ((ps.take i).filter fun z => rootB a b e d p z.1 z.2)) (fun _ _ => .nil) (fun D i v acc H' hD hv e4 hA hlen hp' => ?_) (fun D H4 acc hD e4 hA hp' => ?_)
      · obtain ⟨u, x, y, rfl, hi, hu⟩ := hP3.get hv
        have hi2 : i < ps.length := (List.getElem?_eq_some_iff.mp hi).1
        have hpl : Plc (p : Int) x y := mem_all (z := (x, y)) (pm.mem_iff.mp (List.mem_of_getElem? hi))
        have stp : ps.take (i + 1) = ps.take i ++ [(x, y)] := by
          rw [List.take_add_one, hi]
          rfl
        refine ⟨rfl, ?_⟩
        have hu' := Fx.sqT e4 (fun z => z) hu
        refine ⟨_, rfl, _, rfl, u, _, 0, .int x, rfl, rfl, hu', rfl, _, rfl, u, _, 1, .int y, rfl, rfl, hu', rfl, t, a, b, e, d, x, y, rfl, Ex0.ti e4 ht3, b100.1, b100.2.1, b100.2.2.1, b100.2.2.2, (bxy hpl).1, (bxy hpl).2, _, rfl, _, _, rfl, rfl, pp, rfl, _, rfl, iteE (fun hk => ?_) (fun hk => ?_)⟩
        · refine ⟨_, rfl, ?_⟩
          refine cs_yes fm0 trivial hD e4 hA hlen (by omega) (Fx.refl trivial) ?_
          rw [stp, List.filter_append, List.filter_cons, if_pos (show rootB a b e d p (x, y).1 (x, y).2 = true from decide_eq_true hk)]
          exact (hp'.upd hA).snoc (sqT_upd hA hu')
        · refine cs_no fm0 trivial hD e4 hA hlen (Fx.refl trivial) ?_
          rw [stp, List.filter_append, List.filter_cons, if_neg (by rw [show rootB a b e d p (x, y).1 (x, y).2 = false from decide_eq_false hk]; decide)]
          simpa using hp'
      · rw [hP3.len, List.take_length] at hp'
        exact ⟨D, acc, rfl, e4, fv_ne v3.1 hD, hA, hp'⟩
    rintro σ H4 ⟨r, accR, rfl, e4, rc, hr4, hR4⟩
    have v4 := v3.trans (fv_ex v3.1 e4)
    have ht4 := Ex0.ti e4 ht3
    have hl4 := Ex0.ap e4 hl3
    have hP4 := hP3.ex e4
    refine ⟨fun σ H' => ∃ (h : Addr) (accH : List V), σ = [some (.ref c), some (.int (p : Int)), some (.ref t), some (.ref f), some (.ref l), some (.ref r), none, some (.ref h), none, none, none, none, none] ∧ Ex0 H4 H' ∧ h ≠ c ∧ H' h = some (.lst accH) ∧ PrT K H' accH (ps.filter fun z => heavyB a b e d p z.1 z.2), ?_, ?_⟩
    · refine ⟨_, rfl, l, rfl, ⟨_, SqL.of hl4⟩, ?_⟩
      refine lcL fm0 trivial (SqL.of hl4) (fun z => z) (fun i acc H' => PrT K H' acc ((ps.take i).filter fun z => heavyB a b e d p z.1 z.2)) (fun _ _ => .nil) (fun D i v acc H' hD hv e5 hA hlen hp' => ?_) (fun D H5 acc hD e5 hA hp' => ?_)
      · obtain ⟨u, x, y, rfl, hi, hu⟩ := hP4.get hv
        have hi2 : i < ps.length := (List.getElem?_eq_some_iff.mp hi).1
        have hpl : Plc (p : Int) x y := mem_all (z := (x, y)) (pm.mem_iff.mp (List.mem_of_getElem? hi))
        have stp : ps.take (i + 1) = ps.take i ++ [(x, y)] := by
          rw [List.take_add_one, hi]
          rfl
        refine ⟨rfl, ?_⟩
        have hu' := Fx.sqT e5 (fun z => z) hu
        have hxy : y = 1 ∨ (x = 1 ∧ y = 0) := by
          rcases hpl with ⟨h1, _⟩ | h1
          · exact .inl h1
          · exact .inr h1
        refine ⟨_, rfl, _, rfl, _, rfl, t, u, a, b, e, d, p, x, y, rfl, Ex0.ti e5 ht4, hu', b100, (bxy hpl).1, hxy, pp, by omega, fun H6 e6 => ⟨_, rfl, iteB (fun hk => ?_) (fun hk => ?_)⟩⟩
        · refine ⟨_, rfl, ?_⟩
          refine cs_yes fm0 trivial hD e5 hA hlen (by omega) e6 ?_
          have hA6 := Ex0.ap e6 hA
          rw [stp, List.filter_append, List.filter_cons, if_pos (show heavyB a b e d p (x, y).1 (x, y).2 = true from hk)]
          exact ((hp'.ex e6).upd hA6).snoc (sqT_upd hA6 (Fx.sqT e6 (fun z => z) hu'))
        · refine cs_no fm0 trivial hD e5 hA hlen e6 ?_
          rw [stp, List.filter_append, List.filter_cons, if_neg (by rw [show heavyB a b e d p (x, y).1 (x, y).2 = false from hk]; decide)]
          simpa using hp'.ex e6
      · rw [hP4.len, List.take_length] at hp'
        exact ⟨D, acc, rfl, e5, fv_ne v4.1 hD, hA, hp'⟩
    rintro σ H5 ⟨h, accH, rfl, e5, hhc, hh5, hH5⟩
    have v5 := v4.trans (fv_ex v4.1 e5)
    have ht5 := Ex0.ti e5 ht4
    have hf5 := Ex0.fo (e4.trans e5) hf3
    have hl5 := Ex0.ap e5 hl4
    have hP5 := hP4.ex e5
    have hr5 := Ex0.ap e5 hr4
    have hR5 := hR4.ex e5
    have nps : ps.Nodup := pm.nodup_iff.mpr (nd_all p)
    have ndR : (ps.filter fun z => rootB a b e d p z.1 z.2).Nodup := nps.sublist List.filter_sublist
    have ndH : (ps.filter fun z => heavyB a b e d p z.1 z.2).Nodup := nps.sublist List.filter_sublist
    have memR : ∀ z, z ∈ (ps.filter fun z => rootB a b e d p z.1 z.2) ↔ z ∈ allP p ∧ rootB a b e d p z.1 z.2 = true := fun z => by rw [List.mem_filter, pm.mem_iff]
    have memH : ∀ z, z ∈ (ps.filter fun z => heavyB a b e d p z.1 z.2) ↔ z ∈ allP p ∧ heavyB a b e d p z.1 z.2 = true := fun z => by rw [List.mem_filter, pm.mem_iff]
    have lenR : (ps.filter fun z => rootB a b e d p z.1 z.2).length ≤ 100 := Nat.le_trans (List.length_filter_le _ _) lenP
    have lenH : (ps.filter fun z => heavyB a b e d p z.1 z.2).length ≤ 100 := Nat.le_trans (List.length_filter_le _ _) lenP
    generalize hRs : (ps.filter fun z => rootB a b e d p z.1 z.2) = Rs at *
    generalize hHs : (ps.filter fun z => heavyB a b e d p z.1 z.2) = Hs at *
    refine ⟨fun σ H' => σ = [some (.ref c), some (.int (p : Int)), some (.ref t), some (.ref f), some (.ref l), some (.ref r), none, some (.ref h), none, none, none, none, none] ∧ Ex0 H5 H', ?_, ?_⟩
    · refine ⟨_, rfl, _, rfl, f, a, b, e, d, p, rfl, hf5, hp, by omega, fun o H6 zs qs e6 ho hq pm2 srt2 => ?_⟩
      have hqs : qs = Rs := (roots_eq pm2 srt2 pm srt).trans hRs
      subst hqs
      refine ⟨_, rfl, r, accR, rfl, .inl ⟨SqL.of (Ex0.ap e6 hr5), fun o2 n2 => ?_⟩⟩
      have f2 := Ex0.new (o := .tup accR) n2
      have e62 := e6.trans f2
      refine ⟨.tuple (qs.map pi2), .tuple (qs.map pi2), .tup (SqT.of (Ex0.ap f2 ho)) (hq.ex f2).dp, .tup (SqT.of upd_same) (hR5.ex e62).dp, shaped_pis _, shaped_pis _, _, rfl, ?_⟩
      rw [eqv_tp, decide_eq_true rfl]
      refine iteF ?_
      refine ⟨_, rfl, _, rfl, f, a, b, e, d, p, rfl, Ex0.fo e62 hf5, b100.1, b100.2.1, b100.2.2.1, b100.2.2.2, hp, p13, fun o3 H7 zs3 qs3 e7 ho3 hq3 asc => ?_⟩
      have hqs : qs3 = Hs := (asc_eq pm srt asc).trans hHs
      subst hqs
      have e67 := e62.trans e7
      refine ⟨_, rfl, h, accH, rfl, .inl ⟨SqL.of (Ex0.ap e67 hh5), fun o4 n4 => ?_⟩⟩
      have f4 := Ex0.new (o := .tup accH) n4
      refine ⟨.tuple (qs3.map pi2), .tuple (qs3.map pi2), .tup (SqT.of (Ex0.ap f4 ho3)) (hq3.ex f4).dp, .tup (SqT.of upd_same) (hH5.ex (e67.trans f4)).dp, shaped_pis _, shaped_pis _, _, rfl, ?_⟩
      rw [eqv_tp, decide_eq_true rfl]
      exact iteF ⟨rfl, e67.trans f4⟩
    rintro σ H6 ⟨rfl, e6⟩
    have v6 := v5.trans (fv_ex v5.1 e6)
    have ht6 := Ex0.ti e6 ht5
    have hf6 := Ex0.fo e6 hf5
    have hl6 := Ex0.ap e6 hl5
    have hP6 := hP5.ex e6
    have hr6 := Ex0.ap e6 hr5
    have hR6 := hR5.ex e6
    have hh6 := Ex0.ap e6 hh5
    have hH6 := hH5.ex e6
    refine ⟨fun σ H' => σ = [some (.ref c), some (.int (p : Int)), some (.ref t), some (.ref f), some (.ref l), some (.ref r), none, some (.ref h), none, none, none, none, none] ∧ Ex0 H6 H', ?_, ?_⟩
    · refine ⟨_, rfl, h, rfl, ⟨_, SqL.of hh6⟩, ?_⟩
      refine lcL fm0 trivial (SqL.of hh6) (fun z => z) (fun i acc _ => acc = []) (fun _ _ => rfl) (fun D i v acc H' hD hv e7 hA hlen hp' => ?_) (fun D H7 acc hD e7 hA hp' => ?_)
      · obtain ⟨u, x, y, rfl, hi, hu⟩ := hH6.get hv
        have hm := (memH (x, y)).mp (List.mem_of_getElem? hi)
        have hmR : (x, y) ∈ Rs := (memR (x, y)).mpr ⟨hm.1, heavy_root (mem_all hm.1) hm.2⟩
        refine ⟨rfl, ?_⟩
        refine ⟨_, rfl, _, rfl, .tuple (([x, y] : List Int).map .int), Rs.map pi2, .tup (Fx.sqT e7 (fun z => z) hu) (dp_ints [x, y]), .lst (SqL.of (Ex0.ap e7 hr6)) (hR6.ex e7).dp, shaped_tints [x, y], shaped_lpis _, _, rfl, ?_⟩
        rw [any_mem, decide_eq_true hmR]
        refine iteF ?_
        exact cs_no fm0 trivial hD e7 hA hlen (Fx.refl trivial) hp'
      · have hp2 : acc = [] := hp'
        subst hp2
        refine ⟨Nat.zero_le _, fun w0 nw => ?_⟩
        have ew := Ex0.new (o := .lst []) nw
        refine ⟨.list [], .list [], .lst (SqL.of (Ex0.ap ew hA)) .nil, .lst (SqL.of upd_same) .nil, by decide +kernel, by decide +kernel, _, rfl, ?_⟩
        rw [eqv_nil]
        exact iteF ⟨rfl, Fx.trans e7 ew⟩
    rintro σ H7 ⟨rfl, e7⟩
    have v7 := v6.trans (fv_ex v6.1 e7)
    have ht7 := Ex0.ti e7 ht6
    have hf7 := Ex0.fo e7 hf6
    have hl7 := Ex0.ap e7 hl6
    have hP7 := hP6.ex e7
    have hr7 := Ex0.ap e7 hr6
    have hR7 := hR6.ex e7
    have hh7 := Ex0.ap e7 hh6
    have hH7 := hH6.ex e7
    refine ⟨fun σ H' => ∃ k : Bool, σ = [some (.ref c), some (.int (p : Int)), some (.ref t), some (.ref f), some (.ref l), some (.ref r), none, some (.ref h), some (.bl k), none, none, none, none] ∧ H7 = H' ∧ (k = true ↔ Whl p a b e d), ?_, ?_⟩
    · refine ⟨_, rfl, t, _, rfl, ht7, hb100, _, rfl, _, _, rfl, rfl, pp, rfl, ?_⟩
      refine ⟨_, rfl, rfl, ?_⟩
      rw [decide_eq_true_iff]
      refine Iff.trans ⟨fun z => ?_, fun z => ?_⟩ whl_iff
      · injection z
      · exact congrArg V.int z
    rintro σ _ ⟨k, rfl, rfl, hk⟩
    refine ⟨fun σ H' => σ = [some (.ref c), some (.int (p : Int)), some (.ref t), some (.ref f), some (.ref l), some (.ref r), none, some (.ref h), some (.bl k), none, none, none, none] ∧ H7 = H', ?_, ?_⟩
    · have lR : accR.length = Rs.length := hR7.len
      have lH : accH.length = Hs.length := hH7.len
      cases k with
      | true =>
        have hw := hk.mp rfl
        have lall : Rs.length = p + 1 := by
          rw [← hRs, List.filter_eq_self.mpr (fun z _ => whl_root hw), pm.length_eq]
          unfold allP
          rw [List.length_append, List.length_map, List.length_range]
          rfl
        refine ⟨_, rfl, r, accR, rfl, .inl (SqL.of hr7), _, _, rfl, rfl, _, rfl, iteB (fun h3 => ?_) (fun h3 => ?_)⟩
        · refine ⟨_, rfl, true, rfl, iteF ?_⟩
          refine ⟨_, rfl, true, rfl, iteT ?_⟩
          refine ⟨_, rfl, r, accR, rfl, .inl (SqL.of hr7), _, rfl, _, _, rfl, rfl, rfl, _, rfl, iteEn (fun h => absurd (by rw [lR, lall]; rfl) h) (fun _ => ?_)⟩
          refine ⟨_, rfl, h, accH, rfl, .inl (SqL.of hh7), _, _, rfl, rfl, _, rfl, iteB (fun h1 => ?_) (fun h1 => iteF ⟨rfl, rfl⟩)⟩
          exact ⟨_, rfl, true, rfl, iteF ⟨rfl, rfl⟩⟩
        · refine iteF ?_
          refine ⟨_, rfl, true, rfl, iteT ?_⟩
          refine ⟨_, rfl, r, accR, rfl, .inl (SqL.of hr7), _, rfl, _, _, rfl, rfl, rfl, _, rfl, iteEn (fun h => absurd (by rw [lR, lall]; rfl) h) (fun _ => ?_)⟩
          refine ⟨_, rfl, h, accH, rfl, .inl (SqL.of hh7), _, _, rfl, rfl, _, rfl, iteB (fun h1 => ?_) (fun h1 => iteF ⟨rfl, rfl⟩)⟩
          exact ⟨_, rfl, true, rfl, iteF ⟨rfl, rfl⟩⟩
      | false =>
        have nw : ¬ Whl p a b e d := fun z => by
          have := hk.mpr z
          cases this
        refine ⟨_, rfl, r, accR, rfl, .inl (SqL.of hr7), _, _, rfl, rfl, _, rfl, iteB (fun h3 => ?_) (fun h3 => ?_)⟩
        · have h3 := of_decide_eq_true h3
          exact absurd (roots_many hp p13 ndR (fun z hz => (memR z).mp hz) (by omega)) nw
        · refine iteF ?_
          refine ⟨_, rfl, false, rfl, iteF (iteF ?_)⟩
          refine ⟨_, rfl, h, accH, rfl, .inl (SqL.of hh7), _, _, rfl, rfl, _, rfl, iteB (fun h1 => ?_) (fun h1 => iteF ⟨rfl, rfl⟩)⟩
          have h1 := of_decide_eq_true h1
          exact absurd (heavy_many hp p13 ndH (fun z hz => (memH z).mp hz) (by omega)) nw
    rintro σ _ ⟨rfl, rfl⟩
    refine ⟨fun σ H' => ∃ y6 y9 : Option V, σ = [some (.ref c), some (.int (p : Int)), some (.ref t), some (.ref f), some (.ref l), some (.ref r), y6, some (.ref h), some (.bl k), y9, none, none, none] ∧ Fv c H7 H', ?_, ?_⟩
    · refine ⟨_, rfl, l, rfl, ⟨_, SqL.of hl7⟩, ?_⟩
      refine lcL fm0 trivial (SqL.of hl7) (fun z => z) (fun i acc H' => PrT K H' acc ((ps.take i).filter fun z => decide (z.2 = 1))) (fun _ _ => .nil) (fun D i v acc H' hD hv e8 hA hlen hp' => ?_) (fun D H8 acc hD e8 hA hp' => ?_)
      · obtain ⟨u, x, y, rfl, hi, hu⟩ := hP7.get hv
        have hi2 : i < ps.length := (List.getElem?_eq_some_iff.mp hi).1
        have stp : ps.take (i + 1) = ps.take i ++ [(x, y)] := by
          rw [List.take_add_one, hi]
          rfl
        refine ⟨rfl, ?_⟩
        have hu' := Fx.sqT e8 (fun z => z) hu
        refine ⟨_, rfl, u, _, 1, .int y, rfl, rfl, hu', rfl, rfl, _, rfl, iteE (fun hk => ?_) (fun hk => ?_)⟩
        · refine ⟨_, rfl, ?_⟩
          refine cs_yes fm0 trivial hD e8 hA hlen (by omega) (Fx.refl trivial) ?_
          rw [stp, List.filter_append, List.filter_cons, if_pos (show decide ((x, y).2 = 1) = true from decide_eq_true hk)]
          exact (hp'.upd hA).snoc (sqT_upd hA hu')
        · refine cs_no fm0 trivial hD e8 hA hlen (Fx.refl trivial) ?_
          rw [stp, List.filter_append, List.filter_cons, if_neg (by rw [show decide ((x, y).2 = 1) = false from decide_eq_false hk]; decide)]
          simpa using hp'
      · rw [hP7.len, List.take_length] at hp'
        refine ⟨_, rfl, D, acc, rfl, SqL.of hA, fun sl nsl => ?_⟩
        have fs := Ex0.new (o := .lst (cutV acc none (some 5))) nsl
        have e9 := Fx.trans e8 fs
        have v9 := v7.trans (fv_ex v7.1 e9)
        have slc : sl ≠ c := fv_ne (v7.trans (fv_ex v7.1 e8)).1 nsl
        have hP9 := hp'.ex fs
        have ht9 := Ex0.ti e9 ht7
        have hh9 := Ex0.ap e9 hh7
        have hH9 := hH7.ex e9
        refine ⟨sl, rfl, ⟨_, SqL.of upd_same⟩, ?_⟩
        generalize hHp : upd H8 sl (.lst (cutV acc none (some 5))) = H9 at *
        have hsl : H9 sl = some (.lst (cutV acc none (some 5))) := by rw [← hHp]; exact upd_same
        refine for_list (xs := cutV acc none (some 5)) (fun i σ H' => ∃ y6 y9 : Option V, σ = [some (.ref c), some (.int (p : Int)), some (.ref t), some (.ref f), some (.ref l), some (.ref r), y6, some (.ref h), some (.bl k), y9, none, none, none] ∧ Fv c H9 H') ⟨none, none, rfl, Fx.refl v9.1⟩ (fun i σ H' _ ⟨_, _, _, e'⟩ => SqL.of (fv_ls e' slc hsl)) ?_ ?_
        · rintro i v σ H10 hv ⟨y6, y9, rfl, v10⟩
          have hm1 : v ∈ acc := List.mem_of_mem_drop (List.mem_of_mem_take (List.mem_of_getElem? hv))
          obtain ⟨u, x, y, rfl, hu, hm⟩ := hP9.mem v hm1
          obtain ⟨hm2, hm3⟩ := List.mem_filter.mp hm
          have y1 : y = 1 := of_decide_eq_true hm3
          subst y1
          have hall := pm.mem_iff.mp hm2
          have hpl : Plc (p : Int) x 1 := mem_all (z := (x, 1)) hall
          have hu10 := fv_sqT v9.1 v10 hu
          have ht10 := fv_tup v9.1 v10 ht9
          have hh10 := fv_ls v10 hhc hh9
          have hH10 := fv_prT v9.1 v10 hH9
          refine ⟨fun σ H' => ∃ (o : Addr) (j : Int), σ = [some (.ref c), some (.int (p : Int)), some (.ref t), some (.ref f), some (.ref l), some (.ref r), some (.ref u), some (.ref h), some (.bl k), some (.ref o), none, none, none] ∧ Fv c H10 H' ∧ Ti H' o [x + (p : Int) * j, 1] ∧ -2 ≤ j ∧ j ≤ 2, ?_, ?_⟩
          · refine ⟨_, rfl, u, _, 0, .int x, rfl, rfl, hu10, rfl, _, rfl, _, rfl, c, 5, rfl, v10.1, by decide, by decide, fun w H11 w0 w1 e11 => ?_⟩
            have bw : B 4 (w - 2) := ⟨by show _ < 16; omega, by decide⟩
            refine ⟨_, _, rfl, rfl, _, _, rfl, rfl, mulB bp bw (by decide), _, _, rfl, rfl, sl2, fun o no => ?_⟩
            exact ⟨o, w - 2, rfl, e11.trans (fv_new e11.1 no), upd_same, by omega, by omega⟩
          rintro σ H11 ⟨o, j, rfl, v11, ho, j0, j1⟩
          have hu11 := fv_sqT v10.1 v11 hu10
          have ht11 := fv_tup v10.1 v11 ht10
          have hh11 := fv_ls v11 hhc hh10
          have hH11 := fv_prT v10.1 v11 hH10
          have bx4 : B 4 x := by
            rcases hpl with ⟨_, h1, h2⟩ | ⟨_, h0⟩
            · exact ⟨by show _ < 16; omega, by decide⟩
            · cases h0
          have bj : B 4 j := ⟨by show _ < 16; omega, by decide⟩
          refine ⟨_, rfl, _, rfl, _, rfl, t, o, a, b, e, d, p, x + (p : Int) * j, 1, rfl, ht11, SqT.of ho, b100, (B.add bx4 (B.mul bp bj)).mono (by decide), .inl rfl, pp, by omega, fun H12 e12 => ?_⟩
          refine ⟨_, rfl, _, rfl, .tuple (([x, 1] : List Int).map .int), Hs.map pi2, .tup (Fx.sqT e12 (fun z => z) hu11) (dp_ints [x, 1]), .lst (SqL.of (Ex0.ap e12 hh11)) (hH11.ex e12).dp, shaped_tints [x, 1], shaped_lpis _, rfl, _, rfl, ?_⟩
          have hq : decide ((x, (1 : Int)) ∈ Hs) = heavyB a b e d p x 1 := Bool.eq_iff_iff.mpr (by
            rw [decide_eq_true_iff, memH]
            exact ⟨fun z => z.2, fun z => ⟨hall, z⟩⟩)
          rw [any_mem, heavy_far hp, hq, decide_eq_true rfl]
          exact iteF ⟨_, _, rfl, v10.trans (v11.trans (fv_ex v11.1 e12))⟩
        · rintro σ H10 ⟨y6, y9, rfl, v10⟩
          exact ⟨y6, y9, rfl, (fv_ex v7.1 e9).trans v10⟩
    rintro σ H8 ⟨y6, y9, rfl, v8'⟩
    have v8 := v7.trans v8'
    have ht8 := fv_tup v7.1 v8' ht7
    have hf8 := fv_fo v7.1 v8' hf7
    have hr8 := fv_ls v8' rc hr7
    have hR8 := fv_prT v7.1 v8' hR7
    have hh8 := fv_ls v8' hhc hh7
    have hH8 := fv_prT v7.1 v8' hH7
    refine ⟨fun σ H' => ∃ (g : Addr) (a' b' c' d' : Int), σ = [some (.ref c), some (.int (p : Int)), some (.ref t), some (.ref f), some (.ref l), some (.ref r), y6, some (.ref h), some (.bl k), y9, some (.ref g), none, none] ∧ Fv c H8 H' ∧ T4 H' g a' b' c' d' ∧ Gc a' b' c' d' 81, ?_, ?_⟩
    · refine ⟨_, rfl, c, rfl, v8.1, fun g a' b' c' d' H9 e9 hg hG => ?_⟩
      exact ⟨g, a', b', c', d', rfl, e9, hg, hG⟩
    rintro σ H9 ⟨g, a', b', c', d', rfl, v9', hg9, hG⟩
    have v9 := v8.trans v9'
    have hf9 := fv_fo v8.1 v9' hf8
    have hr9 := fv_ls v9' rc hr8
    have hR9 := fv_prT v8.1 v9' hR8
    have hh9 := fv_ls v9' hhc hh8
    have hH9 := fv_prT v8.1 v9' hH8
    have sg : ∀ {z : Int}, z.natAbs ≤ 81 → Short z := fun h => ⟨by omega, by omega⟩
    have cok : ChOk a' b' c' d' := ⟨sg hG.1, sg hG.2.1, sg hG.2.2.1, sg hG.2.2.2.1, hG.2.2.2.2⟩
    have hdet := hG.2.2.2.2
    obtain ⟨o1, o2, o3, o4, hle, hr1, hv1⟩ : ∃ o1 o2 o3 o4 : Int, fled a b e d a' b' c' d' = [o1, o2, o3, o4] ∧ (∀ X Y, Rt p o1 o2 o3 o4 X Y ↔ Rt p a b e d (a' * X + c' * Y) (b' * X + d' * Y)) ∧ (∀ X Y, Hv p o1 o2 o3 o4 X Y ↔ Hv p a b e d (a' * X + c' * Y) (b' * X + d' * Y)) :=
      ⟨_, _, _, _, rfl, fun X Y => led_rt rfl hdet, fun X Y => led_hv rfl hdet⟩
    have bo : ∀ z ∈ [o1, o2, o3, o4], B 100 z := fun z hz => by
      rw [← hle, fled_eq] at hz
      exact (led_B b54 hG z hz).mono (by decide)
    refine ⟨fun σ H' => ∃ lf : Addr, σ = [some (.ref c), some (.int (p : Int)), some (.ref t), some (.ref f), some (.ref l), some (.ref r), y6, some (.ref h), some (.bl k), y9, some (.ref g), some (.ref lf), none] ∧ Ex0 H9 H' ∧ FormAt C_Form H' lf [o1, o2, o3, o4], ?_, ?_⟩
    · obtain ⟨df, tf, hf1, hf2⟩ := id hf9
      refine ⟨_, rfl, f, df, _, rfl, hf1, (by rfl), _, rfl, f, g, a, b, e, d, a', b', c', d', rfl, hf9, hg9, b1000.1, b1000.2.1, b1000.2.2.1, b1000.2.2.2, cok, fun lf H10 e10 hlf => ?_⟩
      rw [hle] at hlf
      exact ⟨lf, rfl, e10, hlf⟩
    rintro σ H10 ⟨lf, rfl, e10, hlf⟩
    have v10 := v9.trans (fv_ex v9.1 e10)
    have hg10 := Ex0.t4 e10 hg9
    have hr10 := Ex0.ap e10 hr9
    have hR10 := hR9.ex e10
    have hh10 := Ex0.ap e10 hh9
    have hH10 := hH9.ex e10
    refine ⟨fun σ H' => σ = [some (.ref c), some (.int (p : Int)), some (.ref t), some (.ref f), some (.ref l), some (.ref r), y6, some (.ref h), some (.bl k), y9, some (.ref g), some (.ref lf), none] ∧ Ex0 H10 H', ?_, ?_⟩
    · refine ⟨_, rfl, r, rfl, ⟨_, SqL.of hr10⟩, ?_⟩
      refine lcL fm0 trivial (SqL.of hr10) (fun z => z) (fun i acc H' => ∃ ws, PrT K H' acc ws ∧ Mvs p a' b' c' d' (Rs.take i) ws) (fun _ _ => ⟨[], .nil, .nil⟩) (fun D i v acc H' hD hv e11 hA hlen hp' => ?_) (fun D H11 acc hD e11 hA hp' => ?_)
      · obtain ⟨u, x, y, rfl, hi, hu⟩ := hR10.get hv
        have hm := (memR (x, y)).mp (List.mem_of_getElem? hi)
        have hi2 : i < Rs.length := (List.getElem?_eq_some_iff.mp hi).1
        have stp : Rs.take (i + 1) = Rs.take i ++ [(x, y)] := by
          rw [List.take_add_one, hi]
          rfl
        obtain ⟨ws, hW, hM⟩ := hp'
        refine ⟨rfl, ?_⟩
        refine ⟨_, rfl, _, rfl, _, rfl, u, g, a', b', c', d', x, y, p, rfl, Fx.sqT e11 (fun z => z) hu, Ex0.t4 e11 hg10, hm.1, hp, p13, hG, fun o H12 wv e12 ho hmv => ?_⟩
        refine cs_yes fm0 trivial hD e11 hA hlen (by omega) e12 ⟨ws ++ [wv], ?_, ?_⟩
        · have hA12 := Ex0.ap e12 hA
          exact ((hW.ex e12).upd hA12).snoc (sqT_upd hA12 ho)
        · rw [stp]
          exact hM.snoc hmv
      · obtain ⟨ws, hW, hM⟩ := hp'
        rw [hR10.len, List.take_length] at hM
        refine ⟨D, acc, ws, rfl, SqL.of hA, hW, fun us vs q0 perm srt3 hU nq0 => ?_⟩
        have f1 := Ex0.new (o := .lst us) nq0
        have e12 := Fx.trans e11 f1
        refine ⟨_, rfl, _, rfl, lf, o1, o2, o3, o4, p, rfl, Ex0.fo e12 hlf, hp, by omega, fun o H12 zs qs e13 ho hq pm2 srt2 => ?_⟩
        refine ⟨o, zs, rfl, .inr (SqT.of ho), fun l2 nl2 => ?_⟩
        have f2 := Ex0.new (o := .lst zs) nl2
        have heq : vs = qs := moved_eq hp p13 hdet (rt_tst p a b e d) hr1 (fun z => by rw [memR z, rt_root]) ndR hM perm srt3 (fun z => by rw [pm2.mem_iff, mem_roots, rt_root]) (pm2.nodup_iff.mpr (nd_roots _ _ _ _ _)) srt2
        subst heq
        refine ⟨.list (vs.map pi2), .list (vs.map pi2), .lst (SqL.of (Ex0.ap (e13.trans f2) upd_same)) (hU.ex (f1.trans (e13.trans f2))).dp, .lst (SqL.of upd_same) (hq.ex f2).dp, shaped_lpis _, shaped_lpis _, _, rfl, ?_⟩
        rw [eqv_lp, decide_eq_true rfl]
        exact iteF ⟨rfl, e12.trans (e13.trans f2)⟩
    rintro σ H11 ⟨rfl, e11⟩
    have v11 := v10.trans (fv_ex v10.1 e11)
    have hg11 := Ex0.t4 e11 hg10
    have hlf11 := Ex0.fo e11 hlf
    have hh11 := Ex0.ap e11 hh10
    have hH11 := hH10.ex e11
    refine ⟨_, rfl, h, rfl, ⟨_, SqL.of hh11⟩, ?_⟩
    refine lcL fm0 trivial (SqL.of hh11) (fun z => z) (fun i acc H' => ∃ ws, PrT K H' acc ws ∧ Mvs p a' b' c' d' (Hs.take i) ws) (fun _ _ => ⟨[], .nil, .nil⟩) (fun D i v acc H' hD hv e11 hA hlen hp' => ?_) (fun D H11 acc hD e11 hA hp' => ?_)
    · obtain ⟨u, x, y, rfl, hi, hu⟩ := hH11.get hv
      have hm := (memH (x, y)).mp (List.mem_of_getElem? hi)
      have hi2 : i < Hs.length := (List.getElem?_eq_some_iff.mp hi).1
      have stp : Hs.take (i + 1) = Hs.take i ++ [(x, y)] := by
        rw [List.take_add_one, hi]
        rfl
      obtain ⟨ws, hW, hM⟩ := hp'
      refine ⟨rfl, ?_⟩
      refine ⟨_, rfl, _, rfl, _, rfl, u, g, a', b', c', d', x, y, p, rfl, Fx.sqT e11 (fun z => z) hu, Ex0.t4 e11 hg11, hm.1, hp, p13, hG, fun o H12 wv e12 ho hmv => ?_⟩
      refine cs_yes fm0 trivial hD e11 hA hlen (by omega) e12 ⟨ws ++ [wv], ?_, ?_⟩
      · have hA12 := Ex0.ap e12 hA
        exact ((hW.ex e12).upd hA12).snoc (sqT_upd hA12 ho)
      · rw [stp]
        exact hM.snoc hmv
    · obtain ⟨ws, hW, hM⟩ := hp'
      rw [hH11.len, List.take_length] at hM
      refine ⟨D, acc, ws, rfl, SqL.of hA, hW, fun us vs q0 perm srt3 hU nq0 => ?_⟩
      have f1 := Ex0.new (o := .lst us) nq0
      have e12 := Fx.trans e11 f1
      refine ⟨_, rfl, _, rfl, lf, o1, o2, o3, o4, p, rfl, Ex0.fo e12 hlf11, bo o1 (by simp), bo o2 (by simp), bo o3 (by simp), bo o4 (by simp), hp, p13, fun o H12 zs qs e13 ho hq asc => ?_⟩
      refine ⟨o, zs, rfl, .inr (SqT.of ho), fun l2 nl2 => ?_⟩
      have f2 := Ex0.new (o := .lst zs) nl2
      obtain ⟨as1, as2, as3⟩ := asc
      have heq : vs = qs := moved_eq hp p13 hdet (hv_tst p a b e d) hv1 (fun z => by
        rw [memH z]
        exact and_congr_right fun hz => hv_heavy (mem_all hz)) ndH hM perm srt3 (fun z => by
        rw [as3 z]
        exact and_congr_right fun hz => hv_heavy (mem_all hz)) as2 as1
      subst heq
      refine ⟨.list (vs.map pi2), .list (vs.map pi2), .lst (SqL.of (Ex0.ap (e13.trans f2) upd_same)) (hU.ex (f1.trans (e13.trans f2))).dp, .lst (SqL.of upd_same) (hq.ex f2).dp, shaped_lpis _, shaped_lpis _, ?_⟩
      rw [eqv_lp, decide_eq_true rfl]
      exact q _ (v11.trans (fv_ex v11.1 (e12.trans (e13.trans f2))))
end
end K39
set_option Elab.async false
set_option linter.all false
set_option maxRecDepth 100000
namespace K39
open PySem PySem.Spec PyProof.Rows L2 Fr
def sp_lawW (K : PySem.W.Frag) : Sp := fun vs H Q _ => ∃ (a : Addr) (ns : List Int), vs = [.ref a] ∧ SqL K H a (ns.map V.int) ∧ ns.length ≤ 63 ∧ ∀ H', Q (.bl true) H'
abbrev sp_law (K : PySem.W.Frag) (_ : Addr) : Sp := sp_lawW K
inductive Ptl (K : PySem.W.Frag) (H : Hp) : List V → List (List (Int × Int)) → Prop where
  | nil : Ptl K H [] []
  | cons {t : Addr} {ys xs : List V} {ps : List (Int × Int)} {L : List (List (Int × Int))} (h : H t = some (.tup ys)) (g : PrT K H ys ps) (r : Ptl K H xs L) : Ptl K H (.ref t :: xs) (ps :: L)
theorem Ptl.ex {K : PySem.W.Frag} {H H' : Hp} (e : Ex0 H H') {xs : List V} {L : List (List (Int × Int))} (h : Ptl K H xs L) : Ptl K H' xs L := by
  induction h with
  | nil => exact .nil
  | cons h g _ ih => exact .cons (Ex0.ap e h) (g.ex e) ih
theorem Ptl.dp {K : PySem.W.Frag} {H : Hp} {xs : List V} {L : List (List (Int × Int))} (h : Ptl K H xs L) : DpAll K H xs (L.map fun ps => PyData.tuple (ps.map pi2)) := by
  induction h with
  | nil => exact .nil
  | cons h g _ ih => exact .cons (.tup (SqT.of h) g.dp) ih
theorem told_eq {qs L T : List (Int × Int)} (pm : qs.Perm L) (s : qs.Pairwise lexP) (nd : L.Nodup) (sT : T.Pairwise lexP) (nT : T.Nodup) (m : ∀ z, z ∈ L ↔ z ∈ T) : qs = T :=
  eq_sorted s (pm.nodup_iff.mpr nd) sT nT fun z => by rw [pm.mem_iff, m]
theorem pr_23 : Pr 23 := ⟨by decide, fun c h1 h2 => by
  have h5 : c < 5 := by
    rcases Nat.lt_or_ge c 5 with h | h
    · exact h
    · have := Nat.mul_le_mul h h
      omega
  rcases (by omega : c = 2 ∨ c = 3 ∨ c = 4) with rfl | rfl | rfl <;> decide⟩
theorem lx2 {a b : Int × Int} (h : lexP a b) : [a, b].Pairwise lexP := List.pairwise_cons.mpr ⟨fun z hz => (by rw [List.mem_singleton.mp hz]; exact h), List.pairwise_cons.mpr ⟨fun z hz => (by cases hz), .nil⟩⟩
theorem told_1 {qs : List (Int × Int)} (pm : qs.Perm (rootsL 0 1 1 0 2)) (s : qs.Pairwise lexP) : qs = [(0, 1), (1, 0), (1, 1)] := by
  refine told_eq pm s (nd_roots _ _ _ _ _) ?_ (by decide) fun z => ?_
  · refine List.pairwise_cons.mpr ⟨?_, lx2 (by unfold lexP; decide)⟩
    intro w hw
    simp only [List.mem_cons, List.mem_nil_iff, or_false] at hw
    rcases hw with rfl | rfl <;> (unfold lexP; decide)
  · rw [show rootsL 0 1 1 0 2 = [(0, 1), (1, 1), (1, 0)] by decide]
    simp only [List.mem_cons, List.mem_nil_iff, or_false]
    constructor
    · rintro (h | h | h)
      · exact .inl h
      · exact .inr (.inr h)
      · exact .inr (.inl h)
    · rintro (h | h | h)
      · exact .inl h
      · exact .inr (.inr h)
      · exact .inr (.inl h)
theorem told_2 {qs : List (Int × Int)} (pm : qs.Perm (rootsL 1 1 2 1 23)) (s : qs.Pairwise lexP) : qs = [(5, 1), (20, 1)] := by
  refine told_eq pm s (nd_roots _ _ _ _ _) (lx2 (by unfold lexP; decide)) (by decide) fun z => ?_
  rw [show rootsL 1 1 2 1 23 = [(5, 1), (20, 1)] by decide]
theorem told_3 {qs : List (Int × Int)} (h : Asc 3 (fun z => heavyB 1 0 0 (-10) (3 : Nat) z.1 z.2) qs) : qs = [(1, 1)] := by
  obtain ⟨h1, h2, h3⟩ := h
  refine eq_sorted h1 h2 (List.pairwise_singleton _ _) (by decide) fun z => ?_
  rw [h3 z, ← List.mem_filter (p := fun z : Int × Int => heavyB 1 0 0 (-10) (3 : Nat) z.1 z.2), show (allP 3).filter (fun z : Int × Int => heavyB 1 0 0 (-10) (3 : Nat) z.1 z.2) = [(1, 1)] by decide]
theorem told_4 {qs : List (Int × Int)} (pm : qs.Perm (rootsL 1 1 0 1 2)) : qs = [] := by
  rw [show rootsL 1 1 0 1 2 = [] by decide] at pm
  exact pm.eq_nil
section
variable {P : Program} {w : World} {K : PySem.W.Frag} {mg : Str → Option Value} {base : Heap} {C_Form : Addr}
theorem ok_law0 (T : Txt K mg C_Form) {f_ : Addr} {fd_ : FuncData} (F_ : Fun K "law" "law" s_law f_ fd_) : FnOk P w K mg base CX0 10 f_ fd_ ["_law_script"] (sp_law K C_Form) := by
  obtain ⟨p_Form___init__, f_Form___init__, fd_Form___init__, R_Form___init__, b_Form___init__, G_Form___init__⟩ := (ok_Form___init__ (P := P) (w := w) (base := base) T)
  obtain ⟨f_l_kettle, fd_l_kettle, g_l_kettle, k_l_kettle, b_l_kettle, G_l_kettle⟩ := (ok_l_kettle (P := P) (w := w) (base := base) T)
  obtain ⟨f_l_right, fd_l_right, g_l_right, k_l_right, b_l_right, G_l_right⟩ := (ok_l_right (P := P) (w := w) (base := base) T)
  obtain ⟨f_heavy_places, fd_heavy_places, g_heavy_places, k_heavy_places, b_heavy_places, G_heavy_places⟩ := (ok_heavy_places (P := P) (w := w) (base := base) T)
  obtain ⟨f_roots_at, fd_roots_at, g_roots_at, k_roots_at, b_roots_at, G_roots_at⟩ := (ok_roots_at (P := P) (w := w) (base := base) T)
  refine F_.ok sc_law (fun vs H Q E h => ?_) (fun cdv A outer s H vs Q E hr h => ?_)
  · first | (obtain ⟨rfl, _⟩ := h; rfl) | (obtain ⟨_, rfl, _⟩ := h; rfl) | (obtain ⟨_, _, rfl, _⟩ := h; rfl) | (obtain ⟨_, _, _, rfl, _⟩ := h; rfl) | (obtain ⟨_, _, _, _, rfl, _⟩ := h; rfl) | (obtain ⟨_, _, _, _, _, rfl, _⟩ := h; rfl) | (obtain ⟨_, _, _, _, _, _, rfl, _⟩ := h; rfl) | (obtain ⟨_, _, _, _, _, _, _, rfl, _⟩ := h; rfl) | (obtain ⟨_, _, _, _, _, _, _, _, rfl, _⟩ := h; rfl) | (obtain ⟨_, _, _, _, _, _, _, _, _, rfl, _⟩ := h; rfl) | (obtain ⟨_, _, _, _, _, _, _, _, _, _, rfl, _⟩ := h; rfl) | (obtain ⟨_, _, _, _, _, _, _, _, _, _, _, rfl, _⟩ := h; rfl) | (obtain ⟨_, _, _, _, _, _, _, _, _, _, _, _, rfl, _⟩ := h; rfl) | (obtain ⟨_, _, _, _, _, _, _, _, _, _, _, _, _, rfl, _⟩ := h; rfl) | (obtain ⟨_, _, _, _, _, _, _, _, _, _, _, _, _, _, rfl, _⟩ := h; rfl) | (obtain ⟨_, _, _, _, _, _, _, _, _, _, _, _, _, _, _, rfl, _⟩ := h; rfl) | (obtain ⟨_, _, _, _, _, _, _, _, _, _, _, _, _, _, _, _, rfl, _⟩ := h; rfl) | (obtain ⟨_, _, _, _, _, _, _, _, _, _, _, _, _, _, _, _, _, rfl, _⟩ := h; rfl) | (obtain ⟨_, _, _, _, _, _, _, _, _, _, _, _, _, _, _, _, _, _, rfl, _⟩ := h; rfl) | (obtain ⟨_, _, _, _, _, _, _, _, _, _, _, _, _, _, _, _, _, _, _, rfl, _⟩ := h; rfl) | (obtain ⟨_, _, _, _, _, _, _, _, _, _, _, _, _, _, _, _, _, _, _, _, rfl, _⟩ := h; rfl) | (obtain ⟨_, _, _, _, _, _, _, _, _, _, _, _, _, _, _, _, _, _, _, _, _, rfl, _⟩ := h; rfl) | (obtain ⟨_, _, _, _, _, _, _, _, _, _, _, _, _, _, _, _, _, _, _, _, _, _, rfl, _⟩ := h; rfl) | (obtain ⟨_, _, _, _, _, _, _, _, _, _, _, _, _, _, _, _, _, _, _, _, _, _, _, rfl, _⟩ := h; rfl)
  · obtain ⟨a, ns, rfl, hS, hn, q⟩ := h
    refine ⟨_, (pss_cons (ps_for PassesOwn.never rfl (pi_range1 (by rfl) T.b_range (pa_cons (pe_callB (call_max2 rfl) (by rfl) T.b_max (by decide +kernel) (pa_cons pe_int (pa_cons (pe_callB (call_min2 rfl) (by rfl) T.b_min (by decide +kernel) (pa_cons pe_int (pa_cons (pe_callB call_len_seq (by rfl) T.b_len PySem.boot_len (pa_cons (pv 0) pa_nil)) pa_nil))) pa_nil))) pa_nil)) (pg_name (i := 1) sc_law.nd rfl (.inl rfl))
      (pss_cons (ps_set (i := 2) sc_law.nd rfl (.inl rfl) (pe_call G_l_kettle (hr.mono (by decide)) (by rfl) g_l_kettle k_l_kettle b_l_kettle .nil pass0 (pa_cons (pv 0) (pa_cons (pv 1) pa_nil))))
    (pss_one (ps_if (PW.pt (pw_or (pt_not (pt_val (pe_call G_l_right (hr.mono (by decide)) (by rfl) g_l_right k_l_right b_l_right .nil pass0 (pa_cons (pv 2) pa_nil)))) (pw_or1 (pt_not (pt_val (pe_call G_l_right (hr.mono (by decide)) (by rfl) g_l_right k_l_right b_l_right .nil pass0 (pa_cons (pv 2) pa_nil)))))))
      (pss_one (ps_ret pe_bl))
      pss_nil))))
    (Evl.pss_cut (ps_par (i := 3) (j := 4) (by rfl) sc_law.nd rfl rfl (by decide) rfl rfl (pa_cons (pe_make R_Form___init__ G_Form___init__ (hr.mono (by decide)) (by rfl) T.g_Form b_Form___init__ .nil pass0 (pa_cons (pe_tup (pa_cons pe_int (pa_cons pe_int (pa_cons pe_int (pa_cons pe_int pa_nil))))) pa_nil)) (pa_cons (pe_make R_Form___init__ G_Form___init__ (hr.mono (by decide)) (by rfl) T.g_Form b_Form___init__ .nil pass0 (pa_cons (pe_tup (pa_cons pe_int (pa_cons pe_int (pa_cons pe_int (pa_cons pe_int pa_nil))))) pa_nil)) pa_nil)) (by rfl))
    (Evl.pss_cut (ps_set (i := 5) sc_law.nd rfl (.inl rfl) (pe_lst (pa_cons (pe_call G_roots_at (hr.mono (by decide)) (by rfl) g_roots_at k_roots_at b_roots_at .nil pass0 (pa_cons (pv 3) (pa_cons pe_int pa_nil))) (pa_cons (pe_call G_roots_at (hr.mono (by decide)) (by rfl) g_roots_at k_roots_at b_roots_at .nil pass0 (pa_cons (pv 4) (pa_cons pe_int pa_nil))) (pa_cons (pe_call G_heavy_places (hr.mono (by decide)) (by rfl) g_heavy_places k_heavy_places b_heavy_places .nil pass0 (pa_cons (pe_make R_Form___init__ G_Form___init__ (hr.mono (by decide)) (by rfl) T.g_Form b_Form___init__ .nil pass0 (pa_cons (pe_tup (pa_cons pe_int (pa_cons pe_int (pa_cons pe_int (pa_cons (pe_un un_neg pe_int) pa_nil))))) pa_nil)) (pa_cons pe_int pa_nil))) (pa_cons (pe_call G_roots_at (hr.mono (by decide)) (by rfl) g_roots_at k_roots_at b_roots_at .nil pass0 (pa_cons (pe_make R_Form___init__ G_Form___init__ (hr.mono (by decide)) (by rfl) T.g_Form b_Form___init__ .nil pass0 (pa_cons (pe_tup (pa_cons pe_int (pa_cons pe_int (pa_cons pe_int (pa_cons pe_int pa_nil))))) pa_nil)) (pa_cons pe_int pa_nil))) pa_nil))))))
    (pss_one (ps_ret (pe_cmpR (op_eqD hr.units) (pv 5) (pe_lst (pa_cons (pe_tup (pa_cons (pe_tup (pa_cons pe_int (pa_cons pe_int pa_nil))) (pa_cons (pe_tup (pa_cons pe_int (pa_cons pe_int pa_nil))) (pa_cons (pe_tup (pa_cons pe_int (pa_cons pe_int pa_nil))) pa_nil)))) (pa_cons (pe_tup (pa_cons (pe_tup (pa_cons pe_int (pa_cons pe_int pa_nil))) (pa_cons (pe_tup (pa_cons pe_int (pa_cons pe_int pa_nil))) pa_nil))) (pa_cons (pe_tup (pa_cons (pe_tup (pa_cons pe_int (pa_cons pe_int pa_nil))) pa_nil)) (pa_cons (pe_tup pa_nil) pa_nil))))) (nomark _))))))), ?_⟩
    have hm : ∀ z : Int, z ≤ 63 → -(2 ^ 62) ≤ (if (if z < 3 then z else 3) > 1 then (if z < 3 then z else 3) else 1) ∧ (if (if z < 3 then z else 3) > 1 then (if z < 3 then z else 3) else 1) < 2 ^ 62 := fun z hz => by
      split <;> split <;> omega
    have hm2 := hm (((ns.map V.int).length : Nat) : Int) (by rw [List.length_map]; omega)
    refine ⟨_, rfl, a, _, rfl, .inl hS, _, _, rfl, _, _, rfl, _, rfl, hm2.1, hm2.2, ?_⟩
    refine for_range (lo := 0) (fun i σ H' => ∃ y1 y2, σ = [some (.ref a), y1, y2, none, none, none] ∧ Ex0 H H') ⟨none, none, rfl, Ex0.refl H⟩ ?_ ?_
    · rintro i σ H' hi ⟨y1, y2, rfl, e⟩
      refine ⟨_, rfl, _, rfl, a, ns, i, by show [V.ref a, V.int (0 + (i : Int))] = _; rw [Int.zero_add], e.sqL (fun z => z) hS, fun p H1 np e1 hv => ?_⟩
      have hp0 : H p = none := Fx.free e (fun z => z) np
      have e01 : Ex0 H H1 := e.trans e1
      refine ⟨_, rfl, p, rfl, hv, fun H2 e2 => ⟨_, rfl, iteF ?_⟩⟩
      refine ⟨_, rfl, p, rfl, e2.1, fun H3 e3 => ⟨_, rfl, iteF ?_⟩⟩
      exact ⟨_, _, rfl, ex_fv e01 hp0 (e2.trans e3)⟩
    · rintro σ H' ⟨y1, y2, rfl, e⟩
      have sh : ∀ {x y z v : Int}, x.natAbs ≤ 10 → y.natAbs ≤ 10 → z.natAbs ≤ 10 → v.natAbs ≤ 10 → ∀ n ∈ [x, y, z, v], Short n := fun h1 h2 h3 h4 n h => by
        simp only [List.mem_cons, List.mem_nil_iff, or_false] at h
        rcases h with rfl | rfl | rfl | rfl <;> exact ⟨by omega, by omega⟩
      have B9 : ∀ {n : Int}, n.natAbs ≤ 10 → B 100 n := fun h => ⟨Nat.lt_of_le_of_lt h (by decide), by decide⟩
      obtain ⟨k2, k3, _⟩ := pr_s
      refine ⟨fun σ H2 => ∃ (f1 f2 : Addr), σ = [some (.ref a), y1, y2, some (.ref f1), some (.ref f2), none] ∧ FormAt C_Form H2 f1 [0, 1, 1, 0] ∧ FormAt C_Form H2 f2 [1, 1, 2, 1], ?_, ?_⟩
      · refine ⟨sl4, fun t1 n1 x1 dx1 nx1 ndx1 _ => ?_⟩
        have ht1 : Ti (upd H' t1 (.tup [.int 0, .int 1, .int 1, .int 0])) t1 [0, 1, 1, 0] := upd_same
        refine ⟨x1, dx1, t1, _, rfl, upd_same, made_at nx1 ndx1 ht1, rfl, sh (by decide) (by decide) (by decide) (by decide), fun H1 e1 h1 => ⟨rfl, ?_⟩⟩
        obtain ⟨e2, hx1⟩ := fo_made nx1 ndx1 ht1 e1 h1
        refine ⟨sl4, fun t2 n2 x2 dx2 nx2 ndx2 _ => ?_⟩
        have g1 := Ex0.new (o := .tup [.int 1, .int 1, .int 2, .int 1]) n2
        have ht2 : Ti (upd H1 t2 (.tup [.int 1, .int 1, .int 2, .int 1])) t2 [1, 1, 2, 1] := upd_same
        refine ⟨x2, dx2, t2, _, rfl, upd_same, made_at nx2 ndx2 ht2, rfl, sh (by decide) (by decide) (by decide) (by decide), fun H4 e4 h4 => ⟨rfl, ?_⟩⟩
        obtain ⟨e5, hx2⟩ := fo_made nx2 ndx2 ht2 e4 h4
        exact ⟨_, _, rfl, x1, x2, rfl, Ex0.fo (g1.trans e5) hx1, hx2⟩
      rintro σ H2 ⟨f1, f2, rfl, hf1, hf2⟩
      refine ⟨fun σ H3 => ∃ (l : Addr) (xs : List V), σ = [some (.ref a), y1, y2, some (.ref f1), some (.ref f2), some (.ref l)] ∧ H3 l = some (.lst xs) ∧ Ptl K H3 xs [[(0, 1), (1, 0), (1, 1)], [(5, 1), (20, 1)], [(1, 1)], []], ?_, ?_⟩
      · refine ⟨_, rfl, f1, 0, 1, 1, 0, 2, rfl, hf1, k2, by decide, fun o1 H3 zs1 qs1 e3 ho1 hq1 pm1 srt1 => ?_⟩
        obtain rfl := told_1 pm1 srt1
        refine ⟨_, rfl, f2, 1, 1, 2, 1, 23, rfl, Ex0.fo e3 hf2, pr_23, by decide, fun o2 H4 zs2 qs2 e4 ho2 hq2 pm2 srt2 => ?_⟩
        obtain rfl := told_2 pm2 srt2
        refine ⟨_, rfl, sl4, fun t3 n3 x3 dx3 nx3 ndx3 _ => ?_⟩
        have g3 := Ex0.new (o := .tup [.int 1, .int 0, .int 0, .int (-10)]) n3
        have ht3 : Ti (upd H4 t3 (.tup [.int 1, .int 0, .int 0, .int (-10)])) t3 [1, 0, 0, -10] := upd_same
        refine ⟨x3, dx3, t3, _, rfl, upd_same, made_at nx3 ndx3 ht3, rfl, sh (by decide) (by decide) (by decide) (by decide), fun H5 e5 h5 => ⟨rfl, ?_⟩⟩
        obtain ⟨e6, hx3⟩ := fo_made nx3 ndx3 ht3 e5 h5
        refine ⟨x3, 1, 0, 0, -10, 3, rfl, hx3, B9 (by decide), B9 (by decide), B9 (by decide), B9 (by decide), k3, by decide, fun o3 H6 zs3 qs3 e7 ho3 hq3 asc => ?_⟩
        obtain rfl := told_3 asc
        refine ⟨sl4, fun t4 n4 x4 dx4 nx4 ndx4 _ => ?_⟩
        have g4 := Ex0.new (o := .tup [.int 1, .int 1, .int 0, .int 1]) n4
        have ht4 : Ti (upd H6 t4 (.tup [.int 1, .int 1, .int 0, .int 1])) t4 [1, 1, 0, 1] := upd_same
        refine ⟨x4, dx4, t4, _, rfl, upd_same, made_at nx4 ndx4 ht4, rfl, sh (by decide) (by decide) (by decide) (by decide), fun H7 e8 h8 => ⟨rfl, ?_⟩⟩
        obtain ⟨e9, hx4⟩ := fo_made nx4 ndx4 ht4 e8 h8
        refine ⟨x4, 1, 1, 0, 1, 2, rfl, hx4, k2, by decide, fun o4 H8 zs4 qs4 e10 ho4 hq4 pm4 srt4 => ⟨sl4, fun l nl => ?_⟩⟩
        obtain rfl := told_4 pm4
        have el := Ex0.new (o := .lst [.ref o1, .ref o2, .ref o3, .ref o4]) nl
        have c4 := el
        have c3 := (g4.trans (e9.trans e10)).trans c4
        have c2 := (g3.trans (e6.trans e7)).trans c3
        have c1 := e4.trans c2
        exact ⟨l, _, rfl, upd_same, .cons (Ex0.ap c1 ho1) (hq1.ex c1) (.cons (Ex0.ap c2 ho2) (hq2.ex c2) (.cons (Ex0.ap c3 ho3) (hq3.ex c3) (.cons (Ex0.ap c4 ho4) (hq4.ex c4) .nil)))⟩
      rintro σ H3 ⟨l, xs, rfl, hl, hT⟩
      refine ⟨_, rfl, sl2, fun a1 m_a1 => ⟨ sl2, fun a2 m_a2 => ⟨ sl2, fun a3 m_a3 => ⟨ sl3, fun a4 m_a4 => ⟨ sl2, fun b1 m_b1 => ⟨ sl2, fun b2 m_b2 => ⟨ sl2, fun b3 m_b3 => ⟨ sl2, fun c1 m_c1 => ⟨ sl1, fun c2 m_c2 => ⟨ Nat.zero_le _, fun d1 m_d1 => ⟨ sl4, fun l2 m_l2 => ?_⟩⟩⟩⟩⟩⟩⟩⟩⟩⟩⟩
      have e_a1 := Ex0.new (o := .tup [.int 0, .int 1]) m_a1
      have e_a2 := Ex0.new (o := .tup [.int 1, .int 0]) m_a2
      have e_a3 := Ex0.new (o := .tup [.int 1, .int 1]) m_a3
      have e_a4 := Ex0.new (o := .tup [.ref a1, .ref a2, .ref a3]) m_a4
      have e_b1 := Ex0.new (o := .tup [.int 5, .int 1]) m_b1
      have e_b2 := Ex0.new (o := .tup [.int 20, .int 1]) m_b2
      have e_b3 := Ex0.new (o := .tup [.ref b1, .ref b2]) m_b3
      have e_c1 := Ex0.new (o := .tup [.int 1, .int 1]) m_c1
      have e_c2 := Ex0.new (o := .tup [.ref c1]) m_c2
      have e_d1 := Ex0.new (o := .tup []) m_d1
      have e_l2 := Ex0.new (o := .lst [.ref a4, .ref b3, .ref c2, .ref d1]) m_l2
      have r_d1 := e_l2
      have r_c2 := e_d1.trans r_d1
      have r_c1 := e_c2.trans r_c2
      have r_b3 := e_c1.trans r_c1
      have r_b2 := e_b3.trans r_b3
      have r_b1 := e_b2.trans r_b2
      have r_a4 := e_b1.trans r_b1
      have r_a3 := e_a4.trans r_a4
      have r_a2 := e_a3.trans r_a3
      have r_a1 := e_a2.trans r_a2
      have r_all := e_a1.trans r_a1
      have hT2 : Ptl K _ [.ref a4, .ref b3, .ref c2, .ref d1] [[(0, 1), (1, 0), (1, 1)], [(5, 1), (20, 1)], [(1, 1)], []] := .cons (Ex0.ap r_a4 upd_same) (.cons (SqT.of (Ex0.ap r_a1 upd_same)) (.cons (SqT.of (Ex0.ap r_a2 upd_same)) (.cons (SqT.of (Ex0.ap r_a3 upd_same)) .nil))) (.cons (Ex0.ap r_b3 upd_same) (.cons (SqT.of (Ex0.ap r_b1 upd_same)) (.cons (SqT.of (Ex0.ap r_b2 upd_same)) .nil)) (.cons (Ex0.ap r_c2 upd_same) (.cons (SqT.of (Ex0.ap r_c1 upd_same)) .nil) (.cons (Ex0.ap r_d1 upd_same) .nil .nil)))
      refine ⟨_, _, .lst (SqL.of (Ex0.ap r_all hl)) (hT.ex r_all).dp, .lst (SqL.of upd_same) hT2.dp, by decide, by decide, ?_⟩
      rw [show PyData.eqv (.list (([[(0, 1), (1, 0), (1, 1)], [(5, 1), (20, 1)], [(1, 1)], []] : List (List (Int × Int))).map fun ps => PyData.tuple (ps.map pi2))) (.list (([[(0, 1), (1, 0), (1, 1)], [(5, 1), (20, 1)], [(1, 1)], []] : List (List (Int × Int))).map fun ps => PyData.tuple (ps.map pi2))) = true by decide]
      exact q _
end
theorem facts {P : Program} {w : World} {K : PySem.W.Frag} {h : Heap} {mg : Str → Option Value} {f : Addr} (X : K.In h) (G : h.Ns mainGlobals mg) (hfa : mg ("law" : Str) = some (.ref f)) (c : Hd.SaysM fa dd K) :
    ∃ fd : FuncData, (∀ (s : Shared) (v : Value), BindsTo s fd ⟨[v], []⟩ [("_law_script", v)]) ∧ ∀ base : Heap, K.In base → base.Ns mainGlobals mg → FnOk P w K mg base CX0 10 f fd ["_law_script"] (sp_lawW K) := by
  obtain ⟨fd0, F0⟩ := c.def_ 0 (d := e0) rfl
  obtain ⟨fd1, F1⟩ := c.def_ 1 (d := e1) rfl
  obtain ⟨fd2, F2⟩ := c.def_ 2 (d := e2) rfl
  obtain ⟨fd3, F3⟩ := c.def_ 3 (d := e3) rfl
  obtain ⟨fd4, F4⟩ := c.def_ 4 (d := e4) rfl
  obtain ⟨fd5, F5⟩ := c.def_ 5 (d := e5) rfl
  obtain ⟨fd6, F6⟩ := c.def_ 6 (d := e6) rfl
  obtain ⟨fd7, F7⟩ := c.def_ 7 (d := e7) rfl
  obtain ⟨fd8, F8⟩ := c.def_ 8 (d := e8) rfl
  obtain ⟨fd9, F9⟩ := c.def_ 9 (d := e9) rfl
  obtain ⟨fd10, F10⟩ := c.def_ 10 (d := e10) rfl
  obtain ⟨fd11, F11⟩ := c.def_ 11 (d := e11) rfl
  obtain ⟨fd12, F12⟩ := c.def_ 12 (d := e12) rfl
  obtain ⟨fd13, F13⟩ := c.def_ 13 (d := e13) rfl
  obtain ⟨fd14, F14⟩ := c.def_ 14 (d := e14) rfl
  obtain ⟨fd15, F15⟩ := c.def_ 15 (d := e15) rfl
  obtain ⟨fd16, F16⟩ := c.def_ 16 (d := e16) rfl
  obtain ⟨fd17, F17⟩ := c.def_ 17 (d := e17) rfl
  obtain ⟨fd18, F18⟩ := c.def_ 18 (d := e18) rfl
  obtain ⟨fd19, F19⟩ := c.def_ 19 (d := e19) rfl
  obtain ⟨fd20, F20⟩ := c.def_ 20 (d := e20) rfl
  obtain ⟨fd21, F21⟩ := c.def_ 21 (d := e21) rfl
  obtain ⟨fd22, F22⟩ := c.def_ 22 (d := e22) rfl
  obtain ⟨fd23, F23⟩ := c.def_ 23 (d := e23) rfl
  obtain ⟨fd24, F24⟩ := c.def_ 24 (d := e24) rfl
  obtain ⟨fd25, F25⟩ := c.def_ 25 (d := e25) rfl
  obtain ⟨fd26, F26⟩ := c.def_ 26 (d := e26) rfl
  obtain ⟨fd27, F27⟩ := c.def_ 27 (d := e27) rfl
  obtain ⟨fd28, F28⟩ := c.def_ 28 (d := e28) rfl
  obtain ⟨fd29, F29⟩ := c.def_ 29 (d := e29) rfl
  obtain ⟨fd30, F30⟩ := c.def_ 30 (d := e30) rfl
  obtain ⟨fd31, F31⟩ := c.def_ 31 (d := e31) rfl
  obtain ⟨fd32, F32⟩ := c.def_ 32 (d := e32) rfl
  obtain ⟨fd33, F33⟩ := c.def_ 33 (d := e33) rfl
  obtain ⟨fd34, F34⟩ := c.def_ 34 (d := e34) rfl
  obtain ⟨fd35, F35⟩ := c.def_ 35 (d := e35) rfl
  obtain ⟨fd36, F36⟩ := c.def_ 36 (d := e36) rfl
  obtain ⟨fd37, F37⟩ := c.def_ 37 (d := e37) rfl
  obtain ⟨fd38, F38⟩ := c.def_ 38 (d := e38) rfl
  obtain ⟨fd39, F39⟩ := c.def_ 39 (d := e39) rfl
  obtain ⟨fd40, F40⟩ := c.def_ 40 (d := e40) rfl
  obtain ⟨fd41, F41⟩ := c.def_ 41 (d := e41) rfl
  obtain ⟨fd42, F42⟩ := c.def_ 42 (d := e42) rfl
  obtain ⟨fd43, F43⟩ := c.def_ 43 (d := e43) rfl
  obtain ⟨fd44, F44⟩ := c.def_ 44 (d := e44) rfl
  obtain ⟨fd45, F45⟩ := c.def_ 45 (d := e45) rfl
  obtain ⟨fd46, F46⟩ := c.def_ 46 (d := e46) rfl
  obtain ⟨fd47, F47⟩ := c.def_ 47 (d := e47) rfl
  obtain ⟨fd48, F48⟩ := c.def_ 48 (d := e48) rfl
  obtain ⟨fd49, F49⟩ := c.def_ 49 (d := e49) rfl
  have T : Txt K mg (He.ga K "Form") := ⟨He.glo_ok X G (c.fact 0 (f := g0) rfl),
    He.cls_ok (c.fact 1 (f := g1) rfl),
    Hd.ty_ok (c.fact 2 (f := g2) rfl),
    He.noat_ok (c.fact 3 (f := g3) rfl),
    ⟨_, _, He.glo_ok X G (c.fact 4 (f := g4) rfl), Hd.fun_of F0⟩,
    ⟨_, _, He.glo_ok X G (c.fact 5 (f := g5) rfl), Hd.fun_of F1⟩,
    ⟨_, _, He.glo_ok X G (c.fact 6 (f := g6) rfl), Hd.fun_of F2⟩,
    ⟨_, _, He.glo_ok X G (c.fact 7 (f := g7) rfl), Hd.fun_of F3⟩,
    ⟨_, _, He.glo_ok X G (c.fact 8 (f := g8) rfl), Hd.fun_of F4⟩,
    ⟨_, _, He.glo_ok X G (c.fact 9 (f := g9) rfl), Hd.fun_of F5⟩,
    ⟨_, _, He.glo_ok X G (c.fact 10 (f := g10) rfl), Hd.fun_of F6⟩,
    ⟨_, _, He.glo_ok X G (c.fact 11 (f := g11) rfl), Hd.fun_of F7⟩,
    ⟨_, _, He.glo_ok X G (c.fact 12 (f := g12) rfl), Hd.fun_of F8⟩,
    ⟨_, _, He.glo_ok X G (c.fact 13 (f := g13) rfl), Hd.fun_of F9⟩,
    ⟨_, _, He.glo_ok X G (c.fact 14 (f := g14) rfl), Hd.fun_of F10⟩,
    ⟨_, _, He.glo_ok X G (c.fact 15 (f := g15) rfl), Hd.fun_of F11⟩,
    ⟨_, _, He.glo_ok X G (c.fact 16 (f := g16) rfl), Hd.fun_of F12⟩,
    ⟨_, _, He.glo_ok X G (c.fact 17 (f := g17) rfl), Hd.fun_of F13⟩,
    ⟨_, _, He.glo_ok X G (c.fact 18 (f := g18) rfl), Hd.fun_of F14⟩,
    ⟨_, _, He.glo_ok X G (c.fact 19 (f := g19) rfl), Hd.fun_of F15⟩,
    ⟨_, _, He.glo_ok X G (c.fact 20 (f := g20) rfl), Hd.fun_of F16⟩,
    ⟨_, _, He.glo_ok X G (c.fact 21 (f := g21) rfl), Hd.fun_of F17⟩,
    ⟨_, _, He.glo_ok X G (c.fact 22 (f := g22) rfl), Hd.fun_of F18⟩,
    ⟨_, _, He.glo_ok X G (c.fact 23 (f := g23) rfl), Hd.fun_of F19⟩,
    ⟨_, _, He.glo_ok X G (c.fact 24 (f := g24) rfl), Hd.fun_of F20⟩,
    ⟨He.ga K "Form", _, _, He.mkr_ok (c.fact 25 (f := g25) rfl), Hd.fun_of F21⟩,
    ⟨_, _, _, Hd.prop_ok (c.fact 26 (f := g26) rfl), Hd.fun_of F22⟩,
    ⟨_, _, _, Hd.prop_ok (c.fact 27 (f := g27) rfl), Hd.fun_of F23⟩,
    ⟨_, _, _, Hd.prop_ok (c.fact 28 (f := g28) rfl), Hd.fun_of F24⟩,
    ⟨He.ga K "Form", _, _, He.meth_ok (c.fact 29 (f := g29) rfl), Hd.fun_of F25⟩,
    ⟨_, _, He.glo_ok X G (c.fact 30 (f := g30) rfl), Hd.fun_of F26⟩,
    ⟨_, _, He.glo_ok X G (c.fact 31 (f := g31) rfl), Hd.fun_of F27⟩,
    ⟨_, _, He.glo_ok X G (c.fact 32 (f := g32) rfl), Hd.fun_of F28⟩,
    ⟨_, _, He.glo_ok X G (c.fact 33 (f := g33) rfl), Hd.fun_of F29⟩,
    ⟨_, _, He.glo_ok X G (c.fact 34 (f := g34) rfl), Hd.fun_of F30⟩,
    ⟨_, _, He.glo_ok X G (c.fact 35 (f := g35) rfl), Hd.fun_of F31⟩,
    ⟨_, _, He.glo_ok X G (c.fact 36 (f := g36) rfl), Hd.fun_of F32⟩,
    ⟨_, _, He.glo_ok X G (c.fact 37 (f := g37) rfl), Hd.fun_of F33⟩,
    ⟨_, _, He.glo_ok X G (c.fact 38 (f := g38) rfl), Hd.fun_of F34⟩,
    ⟨_, _, He.glo_ok X G (c.fact 39 (f := g39) rfl), Hd.fun_of F35⟩,
    ⟨_, _, He.glo_ok X G (c.fact 40 (f := g40) rfl), Hd.fun_of F36⟩,
    ⟨_, _, He.glo_ok X G (c.fact 41 (f := g41) rfl), Hd.fun_of F37⟩,
    ⟨_, _, He.glo_ok X G (c.fact 42 (f := g42) rfl), Hd.fun_of F38⟩,
    ⟨_, _, He.glo_ok X G (c.fact 43 (f := g43) rfl), Hd.fun_of F39⟩,
    ⟨_, _, He.glo_ok X G (c.fact 44 (f := g44) rfl), Hd.fun_of F40⟩,
    ⟨_, _, He.glo_ok X G (c.fact 45 (f := g45) rfl), Hd.fun_of F41⟩,
    ⟨_, _, He.glo_ok X G (c.fact 46 (f := g46) rfl), Hd.fun_of F42⟩,
    ⟨_, _, He.glo_ok X G (c.fact 47 (f := g47) rfl), Hd.fun_of F43⟩,
    ⟨_, _, He.glo_ok X G (c.fact 48 (f := g48) rfl), Hd.fun_of F44⟩,
    ⟨_, _, He.glo_ok X G (c.fact 49 (f := g49) rfl), Hd.fun_of F45⟩,
    ⟨_, _, He.glo_ok X G (c.fact 50 (f := g50) rfl), Hd.fun_of F46⟩,
    ⟨_, _, He.glo_ok X G (c.fact 51 (f := g51) rfl), Hd.fun_of F47⟩,
    ⟨_, _, He.glo_ok X G (c.fact 52 (f := g52) rfl), Hd.fun_of F48⟩,
    ⟨_, _, He.glo_ok X G (c.fact 53 (f := g53) rfl), Hd.fun_of F49⟩,
    He.free_ok X G (c.fact 54 (f := g54) rfl),
    He.free_ok X G (c.fact 55 (f := g55) rfl),
    He.free_ok X G (c.fact 56 (f := g56) rfl),
    He.free_ok X G (c.fact 57 (f := g57) rfl),
    He.free_ok X G (c.fact 58 (f := g58) rfl),
    He.free_ok X G (c.fact 59 (f := g59) rfl),
    He.free_ok X G (c.fact 60 (f := g60) rfl),
    He.free_ok X G (c.fact 61 (f := g61) rfl),
    He.free_ok X G (c.fact 62 (f := g62) rfl),
    He.free_ok X G (c.fact 63 (f := g63) rfl),
    He.free_ok X G (c.fact 64 (f := g64) rfl),
    He.free_ok X G (c.fact 65 (f := g65) rfl),
    He.free_ok X G (c.fact 66 (f := g66) rfl),
    He.int_ok X G (c.fact 67 (f := g67) rfl),
    He.int_ok X G (c.fact 68 (f := g68) rfl),
    He.int_ok X G (c.fact 69 (f := g69) rfl),
    He.int_ok X G (c.fact 70 (f := g70) rfl),
    Hd.blt_ok X G (c.fact 71 (f := g71) rfl),
    Hd.blt_ok X G (c.fact 72 (f := g72) rfl),
    ⟨_, He.glo_ok X G (c.fact 73 (f := g73) rfl), fun H => Hd.ints_ok (c.fact 74 (f := g74) rfl) H⟩⟩
  have e := hfa.symm.trans (He.glo_ok X G (c.fact 53 (f := g53) rfl))
  cases e
  have b := FunD.bindsA (ps := ["_law_script"]) F49 fun _ _ _ _ _ _ us hl => match us, hl with | [_], _ => rfl
  exact ⟨fd49, fun s v => b s [v] rfl, fun base _ _ => ok_law0 (P := P) (w := w) (base := base) T (Hd.fun_of F49)⟩
end K39
open PySem PySem.W PySem.Calls PyProof.Rows
set_option maxHeartbeats 0 in
theorem PySem.Challenge.cw_formrings_k39_whole_roots_and_heavy_plac_holds : PySem.Challenge.rw_formrings_k39_whole_roots_and_heavy_plac.Holds := by
  w_on; o_law
  refine HandSHeadRun.head_imp (r := OpenLaw.row PySem.Challenge.rw_formrings_k39_whole_roots_and_heavy_plac) (q := K39.vw) (H := K39.hk) (ob := K39.ob) (M := 12000) (loose := K39.names) (d := HandSHeadRun.topDef (OpenLaw.row PySem.Challenge.rw_formrings_k39_whole_roots_and_heavy_plac).prog 99) (kwd := []) K39.ob_eq K39.run (by kernel_rfl) (by kernel_rfl) (by kernel_rfl) (by rfl) (by first | assumption | decide +kernel) (by decide +kernel) ⟨rfl, rfl, rfl, rfl, rfl, by decide +kernel⟩ ?hw ?hc
  case hw => w_witness2
  case hc =>
    refine L2.walk_ofE (l := PySem.Challenge.rw_formrings_k39_whole_roots_and_heavy_plac) (n := 63) (k := 10) (x := "_law_script") (CX := L2.CX0) rfl (by decide) (by kernel_rfl) ⟨rfl, by decide, by decide⟩ ?F (fun _ _ _ _ z => z)
    intro w mg fa h Y G hmg0
    obtain ⟨K, KX, c⟩ := Y
    have hmg : mg ("law" : PySem.Str) = some (.ref fa) := by
      have e : (HandSHeadRun.topDef (OpenLaw.row PySem.Challenge.rw_formrings_k39_whole_roots_and_heavy_plac).prog 99).name = ("law" : PySem.Str) := by kernel_rfl
      rw [← e]
      exact hmg0
    obtain ⟨fd, hb, hF⟩ := K39.facts (P := (PySem.Challenge.rw_formrings_k39_whole_roots_and_heavy_plac).prog) (w := w) KX G hmg c
    exact ⟨K, fd, K39.sp_lawW K, KX, hb, fun H a ns hl _ hS => ⟨a, ns, rfl, hS, hl, fun _ => rfl⟩, hF⟩
