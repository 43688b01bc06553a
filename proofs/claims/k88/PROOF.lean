import PyProof.Rows.All
import Wide.All
import OpenK.AllK
import Wide.FinOn
import HandS.ForMost
import HandS.Wide
import HandS.WideBits
import HandS.Gcd
import HandS.IsInst
import HandS.Style
import HandS.Evl
import Flt.RightSqrt
import HandS.More
import HandS.OwnEq
import HandS.Property
import HandS.Star
import KE.KOpsOwn
import HandS.ForExc
import HandS.HeadHook1
import HandS.Walk
import HandS.Zip
import KE.GoesEnum
import KE.IntBitsLaws
import HandS.TupMul
import HandS.TupAny
import PyProof.EqAt
import PyProof.EqKinds
import PyProof.MeetsIn
import HandS.ListEq
import HandS.List
import KE.KStateDown
import HandS.Base
import HandS.Call
import HandS.Ends
import HandS.Words
import HandS.Defaults
import HandS.Head0
import HandS.Head1
import HandS.Head2
import HandS.Head3
import HandS.HeadEnd
import HandS.HeadHook2
import PySem.Challenge.RW_formrings_k88_whole_small_hessians
set_option Elab.async false
set_option linter.all false
set_option maxRecDepth 100000
set_option maxHeartbeats 4000000
namespace Fr
open PySem PySem.Spec PyProof.Rows L2
open Evl (Ex)
def Def (P : Program) (w : World) (K : PySem.W.Frag) (mg : Str → Option Value) (base : Heap) (k : Nat) (x : Str) (ps : List Str) (sp : Sp) : Prop :=
  ∃ f fd, mg x = some (.ref f) ∧ PySem.W.keepIn K (.ref f) = true ∧ Binds K fd ps [] ∧ FnOk P w K mg base CX0 k f fd ps sp
structure Fm (S : Addr → Prop) (I : Hp → Prop) : Prop where
  fresh : ∀ {H D}, I H → H D = none → ¬ S D
  stay : ∀ {H D o}, ¬ S D → I H → I (upd H D o)
def Fx (S : Addr → Prop) (I : Hp → Prop) (H H' : Hp) : Prop := I H' ∧ ∀ b o, ¬ S b → H b = some o → H' b = some o
section
variable {S : Addr → Prop} {I : Hp → Prop} {H H1 H2 : Hp}
theorem Fx.refl (i : I H) : Fx S I H H := ⟨i, fun _ _ _ h => h⟩
theorem Fx.trans (a : Fx S I H H1) (b : Fx S I H1 H2) : Fx S I H H2 := ⟨b.1, fun x o n h => b.2 x o n (a.2 x o n h)⟩
theorem Fx.new (m : Fm S I) (i : I H) {p : Addr} {o : HO} (h : H p = none) : Fx S I H (upd H p o) := ⟨m.stay (m.fresh i h) i, fun b u _ e => by
  rw [upd_ne (ne_of_none e h)]
  exact e⟩
theorem Fx.mut (m : Fm S I) (a : Fx S I H H1) (i : I H) {p : Addr} {o : HO} (h : H p = none) : Fx S I H (upd H1 p o) := ⟨m.stay (m.fresh i h) a.1, fun b u n e => by
  rw [upd_ne (ne_of_none e h)]
  exact a.2 b u n e⟩
theorem Fx.at (a : Fx S I H H1) {p : Addr} {o : HO} (n : ¬ S p) (h : H p = some o) : H1 p = some o := a.2 p o n h
theorem Fx.sqT {K : PySem.W.Frag} (a : Fx S I H H1) {p : Addr} {xs : List V} (n : ¬ S p) (h : SqT K H p xs) : SqT K H1 p xs := by
  rcases h with (h | ⟨o, h⟩) | h
  · exact .inl (.inl (a.2 _ _ n h))
  · exact .inl (.inr ⟨o, a.2 _ _ n h⟩)
  · exact .inr h
theorem Fx.sqL {K : PySem.W.Frag} (a : Fx S I H H1) {p : Addr} {xs : List V} (n : ¬ S p) (h : SqL K H p xs) : SqL K H1 p xs := by
  rcases h with (h | ⟨o, h⟩) | h
  · exact .inl (.inl (a.2 _ _ n h))
  · exact .inl (.inr ⟨o, a.2 _ _ n h⟩)
  · exact .inr h
theorem Fx.free (a : Fx S I H H1) {p : Addr} (n : ¬ S p) (h : H1 p = none) : H p = none := by
  cases e : H p with
  | none => rfl
  | some o => rw [a.2 p o n e] at h; cases h
theorem Fx.free' (m : Fm S I) (a : Fx S I H H1) {p : Addr} (h : H1 p = none) : H p = none := a.free (m.fresh a.1 h) h
end
abbrev S0 : Addr → Prop := fun _ => False
abbrev I0 : Hp → Prop := fun _ => True
theorem fm0 : Fm S0 I0 := ⟨fun _ _ h => h, fun _ _ => trivial⟩
abbrev Ex0 : Hp → Hp → Prop := Fx S0 I0
theorem Ex0.of {H H' : Hp} (h : ∀ b o, H b = some o → H' b = some o) : Ex0 H H' := ⟨trivial, fun b o _ e => h b o e⟩
theorem Ex0.ap {H H' : Hp} (h : Ex0 H H') {b : Addr} {o : HO} (e : H b = some o) : H' b = some o := h.2 b o (fun z => z) e
theorem Ex0.refl (H : Hp) : Ex0 H H := Fx.refl trivial
theorem Ex0.new {H : Hp} {p : Addr} {o : HO} (h : H p = none) : Ex0 H (upd H p o) := Fx.new fm0 trivial h
def Cs (S : Addr → Prop) (I : Hp → Prop) (H : Hp) (P : Nat → List V → Hp → Prop) (D : Addr) (i : Nat) (H' : Hp) : Prop := Fx S I H H' ∧ ∃ acc, H' D = some (.lst acc) ∧ acc.length ≤ i ∧ P i acc H'
section
variable {K : PySem.W.Frag} {S : Addr → Prop} {I : Hp → Prop} {σ : L2.St} {H : Hp} {Q : Addr → Hp → Prop} {te : TE} {vs : List Nat} {g : TG} {tt : TT} {P : Nat → List V → Hp → Prop}
theorem cs_yes (m : Fm S I) (i0 : I H) {D : Addr} {i : Nat} {acc : List V} {H' H4 : Hp} {y : V} (hD : H D = none) (p1 : Fx S I H H') (p2 : H' D = some (.lst acc)) (p3 : acc.length ≤ i) (hi : i < 1000000) (e : Fx S I H' H4) (h : P (i + 1) (acc ++ [y]) (upd H4 D (.lst (acc ++ [y])))) :
    ∃ acc', H4 D = some (.lst acc') ∧ acc'.length < sizeLine ∧ Cs S I H P D (i + 1) (upd H4 D (.lst (acc' ++ [y]))) :=
  ⟨acc, e.2 _ _ (m.fresh i0 hD) p2, Nat.lt_of_le_of_lt p3 (Nat.lt_of_lt_of_le hi (by decide)), Fx.mut m (p1.trans e) i0 hD, _, upd_same, by rw [List.length_append]; exact Nat.add_le_add_right p3 1, h⟩
theorem cs_no (m : Fm S I) (i0 : I H) {D : Addr} {i : Nat} {acc : List V} {H' H4 : Hp} (hD : H D = none) (p1 : Fx S I H H') (p2 : H' D = some (.lst acc)) (p3 : acc.length ≤ i) (e : Fx S I H' H4) (h : P (i + 1) acc H4) : Cs S I H P D (i + 1) H4 :=
  ⟨p1.trans e, acc, e.2 _ _ (m.fresh i0 hD) p2, Nat.le_succ_of_le p3, h⟩
theorem lcT (m : Fm S I) (i0 : I H) {a : Addr} {xs : List V} (hx : SqT K H a xs) (ha : ¬ S a) (P : Nat → List V → Hp → Prop) (p0 : ∀ D, H D = none → P 0 [] (upd H D (.lst [])))
    (hs : ∀ D i x acc H', H D = none → xs[i]? = some x → Fx S I H H' → H' D = some (.lst acc) → acc.length ≤ i → P i acc H' → g x (wipe σ vs) H' fun σ2 H2 => wipe σ2 vs = wipe σ vs ∧ tt σ2 H2 fun b H3 =>
      if b = true then te σ2 H3 fun y H4 => ∃ acc, H4 D = some (.lst acc) ∧ acc.length < sizeLine ∧ Cs S I H P D (i + 1) (upd H4 D (.lst (acc ++ [y]))) else Cs S I H P D (i + 1) H3)
    (q : ∀ D H' acc, H D = none → Fx S I H H' → H' D = some (.lst acc) → P xs.length acc H' → Q D H') :
    ∀ D, H D = none → ∃ W : Nat → Nat → Hp → Prop, (∃ m, W 0 m (upd H D (.lst []))) ∧ ∀ i m H, W i m H →
      ((Itt K a).stop i H ∧ Q D H) ∨ ((Itt K a).go i H ∧ ∃ Nx : Hp → Prop, (∀ H', Nx H' → ∃ m', m' < m ∧ W (i + 1) m' H') ∧ ∀ x H', (Itt K a).yld i H x H' → g x (wipe σ vs) H' fun σ2 H2 => wipe σ2 vs = wipe σ vs ∧ tt σ2 H2 fun b H3 =>
        if b = true then te σ2 H3 fun y H4 => ∃ acc, H4 D = some (.lst acc) ∧ acc.length < sizeLine ∧ Nx (upd H4 D (.lst (acc ++ [y]))) else Nx H3) := fun D hD =>
  lc_tup (xs := xs) (Cs S I H P D) ⟨Fx.new m i0 hD, [], upd_same, Nat.le_refl _, p0 D hD⟩ (fun i H' _ p => p.1.sqT ha hx)
    (fun i x H' hi p => by
      obtain ⟨p1, acc, p2, p3, p4⟩ := p
      exact hs D i x acc H' hD hi p1 p2 p3 p4)
    (fun H' p => by
      obtain ⟨p1, acc, p2, p3, p4⟩ := p
      exact q D H' acc hD p1 p2 p4)
theorem lcL (m : Fm S I) (i0 : I H) {a : Addr} {xs : List V} (hx : SqL K H a xs) (ha : ¬ S a) (P : Nat → List V → Hp → Prop) (p0 : ∀ D, H D = none → P 0 [] (upd H D (.lst [])))
    (hs : ∀ D i x acc H', H D = none → xs[i]? = some x → Fx S I H H' → H' D = some (.lst acc) → acc.length ≤ i → P i acc H' → g x (wipe σ vs) H' fun σ2 H2 => wipe σ2 vs = wipe σ vs ∧ tt σ2 H2 fun b H3 =>
      if b = true then te σ2 H3 fun y H4 => ∃ acc, H4 D = some (.lst acc) ∧ acc.length < sizeLine ∧ Cs S I H P D (i + 1) (upd H4 D (.lst (acc ++ [y]))) else Cs S I H P D (i + 1) H3)
    (q : ∀ D H' acc, H D = none → Fx S I H H' → H' D = some (.lst acc) → P xs.length acc H' → Q D H') :
    ∀ D, H D = none → ∃ W : Nat → Nat → Hp → Prop, (∃ m, W 0 m (upd H D (.lst []))) ∧ ∀ i m H, W i m H →
      ((Itl K a).stop i H ∧ Q D H) ∨ ((Itl K a).go i H ∧ ∃ Nx : Hp → Prop, (∀ H', Nx H' → ∃ m', m' < m ∧ W (i + 1) m' H') ∧ ∀ x H', (Itl K a).yld i H x H' → g x (wipe σ vs) H' fun σ2 H2 => wipe σ2 vs = wipe σ vs ∧ tt σ2 H2 fun b H3 =>
        if b = true then te σ2 H3 fun y H4 => ∃ acc, H4 D = some (.lst acc) ∧ acc.length < sizeLine ∧ Nx (upd H4 D (.lst (acc ++ [y]))) else Nx H3) := fun D hD =>
  lc_list (xs := xs) (Cs S I H P D) ⟨Fx.new m i0 hD, [], upd_same, Nat.le_refl _, p0 D hD⟩ (fun i H' _ p => p.1.sqL ha hx)
    (fun i x H' hi p => by
      obtain ⟨p1, acc, p2, p3, p4⟩ := p
      exact hs D i x acc H' hD hi p1 p2 p3 p4)
    (fun H' p => by
      obtain ⟨p1, acc, p2, p3, p4⟩ := p
      exact q D H' acc hD p1 p2 p4)
theorem lcR (m : Fm S I) (i0 : I H) {lo : Int} {n : Nat} (P : Nat → List V → Hp → Prop) (p0 : ∀ D, H D = none → P 0 [] (upd H D (.lst [])))
    (hs : ∀ D i acc H', H D = none → i < n → Fx S I H H' → H' D = some (.lst acc) → acc.length ≤ i → P i acc H' → g (.int (lo + i)) (wipe σ vs) H' fun σ2 H2 => wipe σ2 vs = wipe σ vs ∧ tt σ2 H2 fun b H3 =>
      if b = true then te σ2 H3 fun y H4 => ∃ acc, H4 D = some (.lst acc) ∧ acc.length < sizeLine ∧ Cs S I H P D (i + 1) (upd H4 D (.lst (acc ++ [y]))) else Cs S I H P D (i + 1) H3)
    (q : ∀ D H' acc, H D = none → Fx S I H H' → H' D = some (.lst acc) → P n acc H' → Q D H') :
    ∀ D, H D = none → ∃ W : Nat → Nat → Hp → Prop, (∃ m, W 0 m (upd H D (.lst []))) ∧ ∀ i m H, W i m H →
      ((Itr lo n).stop i H ∧ Q D H) ∨ ((Itr lo n).go i H ∧ ∃ Nx : Hp → Prop, (∀ H', Nx H' → ∃ m', m' < m ∧ W (i + 1) m' H') ∧ ∀ x H', (Itr lo n).yld i H x H' → g x (wipe σ vs) H' fun σ2 H2 => wipe σ2 vs = wipe σ vs ∧ tt σ2 H2 fun b H3 =>
        if b = true then te σ2 H3 fun y H4 => ∃ acc, H4 D = some (.lst acc) ∧ acc.length < sizeLine ∧ Nx (upd H4 D (.lst (acc ++ [y]))) else Nx H3) := fun D hD =>
  lc_range (lo := lo) (n := n) (Cs S I H P D) ⟨Fx.new m i0 hD, [], upd_same, Nat.le_refl _, p0 D hD⟩
    (fun i H' hi p => by
      obtain ⟨p1, acc, p2, p3, p4⟩ := p
      exact hs D i acc H' hD hi p1 p2 p3 p4)
    (fun H' p => by
      obtain ⟨p1, acc, p2, p3, p4⟩ := p
      exact q D H' acc hD p1 p2 p4)
end
theorem log_lt {i : Int} {a : Nat} (h : i.natAbs < 2 ^ a) (h0 : 0 < a) : i.natAbs.log2 < a := by
  by_cases z : i.natAbs = 0
  · rw [z]
    exact h0
  · exact (Nat.log2_lt z).mpr h
theorem mw {i j : Int} (h1 : -(2 ^ 250) < i) (h2 : i < 2 ^ 250) (h3 : -(2 ^ 250) < j) (h4 : j < 2 ^ 250) : CMulW i j :=
  wide_mul (a := 250) (b := 250) (by omega) (by omega) (by decide) (by decide) (by decide)
theorem dw {i j : Int} (h : 0 < j) (h4 : j < 2 ^ 250) : CDivW i j := wide_div (b := 250) h (by omega) (by decide) (by decide)
theorem iteB {b : Bool} {A B : Prop} (h1 : b = true → A) (h2 : b = false → B) : if b = true then A else B := by
  cases b with
  | true => rw [if_pos rfl]; exact h1 rfl
  | false => rw [if_neg Bool.false_ne_true]; exact h2 rfl
theorem iteD {c : Prop} [Decidable c] {A B : Prop} (h1 : c → A) (h2 : ¬ c → B) : if decide c = true then A else B :=
  iteB (fun h => h1 (of_decide_eq_true h)) (fun h => h2 (of_decide_eq_false h))
theorem iteN {c : Prop} [Decidable c] {A B : Prop} (h1 : ¬ c → A) (h2 : c → B) : if (!decide c) = true then A else B := by
  by_cases h : c
  · rw [decide_eq_true h]; exact iteF (h2 h)
  · rw [decide_eq_false h]; exact iteT (h1 h)
theorem dT {c : Prop} [Decidable c] {A B : Prop} (h : c) (a : A) : if decide c = true then A else B := by rw [decide_eq_true h, if_pos rfl]; exact a
theorem dF {c : Prop} [Decidable c] {A B : Prop} (h : ¬ c) (a : B) : if decide c = true then A else B := by rw [decide_eq_false h, if_neg Bool.false_ne_true]; exact a
theorem ndT {c : Prop} [Decidable c] {A B : Prop} (h : ¬ c) (a : A) : if (!decide c) = true then A else B := by rw [decide_eq_false h]; exact iteT a
theorem ndF {c : Prop} [Decidable c] {A B : Prop} (h : c) (a : B) : if (!decide c) = true then A else B := by rw [decide_eq_true h]; exact iteF a
theorem sl1 : 1 ≤ sizeLine := by decide
theorem sl2 : 2 ≤ sizeLine := by decide
theorem sl3 : 3 ≤ sizeLine := by decide
theorem sl4 : 4 ≤ sizeLine := by decide
theorem sl5 : 5 ≤ sizeLine := by decide
theorem sl6 : 6 ≤ sizeLine := by decide
theorem sl8 : 8 ≤ sizeLine := by decide
theorem slN {n : Nat} (h : n ≤ 1000000) : n ≤ sizeLine := Nat.le_trans h (by decide)
section
variable {X : Cx}
def rIsqrt : List V → Hp → VK → Prop := fun vs H Q => ∃ a : Int, vs = [.int a] ∧ 0 ≤ a ∧ a < 2 ^ 64 ∧ ∀ r : Int, 0 ≤ r → r * r ≤ a → a < (r + 1) * (r + 1) → Q (.int r) H
theorem cr_isqrt : CallR X (.builtin "math.isqrt") rIsqrt := by
  intro pins s σ H vs us Q I r h
  obtain ⟨a, rfl, h0, h1, q⟩ := h
  obtain ⟨u, rfl, ru⟩ := Vals.one r
  obtain ⟨t, rfl⟩ := ru
  have sp := PySem.Float64.isqrt_spec a.toNat
  refine PySem.W.mg_isqrt h0 h1 ⟨.int _, H, I.tok _, ⟨_, rfl⟩, q _ (Int.natCast_nonneg _) ?_ ?_⟩
  · have := sp.1
    have e : ((Float64.isqrt a.toNat * Float64.isqrt a.toNat : Nat) : Int) ≤ (a.toNat : Int) := Int.ofNat_le.mpr this
    rw [Int.toNat_of_nonneg h0] at e
    simpa using e
  · have := sp.2
    have e : (a.toNat : Int) < (((Float64.isqrt a.toNat + 1) * (Float64.isqrt a.toNat + 1) : Nat) : Int) := Int.ofNat_lt.mpr this
    rw [Int.toNat_of_nonneg h0] at e
    simpa using e
end
end Fr
namespace Fr
open PySem PySem.Spec PyProof.Rows L2
section
variable {X : Cx}
def CPowC (i j : Int) : Prop := 0 ≤ j ∧ (Builtin.Int.intBits i : Int) * j ≤ 2 ^ 27
theorem op_powC : OpR X (binaryOp .Pow) (rI CPowC fun i j => .int (i ^ j.toNat)) := opI fun _ _ _ _ _ _ _ hc q => PyProof.Rows.pow_int hc.1 hc.2 q
end
end Fr
namespace Fr
open PySem PySem.Spec PyProof.Rows L2
theorem deI {i j : Int} : decide (V.int i = V.int j) = decide (i = j) := by
  rw [dec_int]
  rfl
theorem iteE {i j : Int} {A B : Prop} (h1 : i = j → A) (h2 : i ≠ j → B) : if decide (V.int i = V.int j) = true then A else B := by
  rw [deI]
  exact iteD h1 h2
theorem iteEn {i j : Int} {A B : Prop} (h1 : i ≠ j → A) (h2 : i = j → B) : if (!decide (V.int i = V.int j)) = true then A else B := by
  rw [deI]
  exact iteN h1 h2
end Fr
namespace Fr
open PySem PySem.Spec PyProof.Rows L2
def inb (lo hi : Int) : V → Bool
  | .int i => decide (lo ≤ i) && decide (i ≤ hi)
  | _ => false
theorem in_b {lo hi : Int} {xs : List V} {v : V} (hv : v ∈ xs) (h : xs.all (inb lo hi) = true) : ∃ f : Int, v = .int f ∧ lo ≤ f ∧ f ≤ hi := by
  have := List.all_eq_true.mp h v hv
  cases v with
  | int i =>
    unfold inb at this
    rw [Bool.and_eq_true, decide_eq_true_iff, decide_eq_true_iff] at this
    exact ⟨i, rfl, this.1, this.2⟩
  | _ => cases this
theorem shaped_ints (ns : List Int) : SeqAt.shaped (.list (ns.map .int)) = true := by
  have h : PyData.canLayAll0 (ns.map PyData.int) = true ∧ PyData.depthAll (ns.map PyData.int) ≤ 1 := by
    induction ns with
    | nil => exact ⟨rfl, by simp [PyData.depthAll]⟩
    | cons n r ih =>
      refine ⟨?_, ?_⟩
      · rw [List.map_cons, PyData.canLayAll0, PyData.canLay0, ih.1]; rfl
      · rw [List.map_cons, PyData.depthAll, PyData.depth]; exact Nat.max_le.mpr ⟨by decide, ih.2⟩
  unfold SeqAt.shaped
  rw [PyData.canLay0, PyData.depth, h.1]
  simp
  omega
theorem dp_ints {K : PySem.W.Frag} {H : Hp} : ∀ ns : List Int, DpAll K H (ns.map V.int) (ns.map PyData.int)
  | [] => .nil
  | n :: r => .cons (.int n) (dp_ints r)
theorem eqv_ints : ∀ ns ms : List Int, PyData.eqvAll (ns.map PyData.int) (ms.map PyData.int) = decide (ns = ms)
  | [], [] => rfl
  | [], m :: ms => rfl
  | n :: ns, [] => rfl
  | n :: ns, m :: ms => by
    rw [List.map_cons, List.map_cons, PyData.eqvAll, PyData.eqv, eqv_ints ns ms]
    apply Bool.eq_iff_iff.mpr
    simp
def pr2 (q : Nat × Nat) : PyData := .tuple [.int (q.1 : Int), .int (q.2 : Int)]
theorem shaped_prs (fs : List (Nat × Nat)) : SeqAt.shaped (.tuple (fs.map pr2)) = true := by
  have h : PyData.canLayAll0 (fs.map pr2) = true ∧ PyData.depthAll (fs.map pr2) ≤ 2 := by
    induction fs with
    | nil => exact ⟨rfl, by simp [PyData.depthAll]⟩
    | cons n r ih =>
      refine ⟨?_, ?_⟩
      · rw [List.map_cons, PyData.canLayAll0, ih.1]; simp [pr2, PyData.canLay0, PyData.canLayAll0]
      · rw [List.map_cons, PyData.depthAll]; exact Nat.max_le.mpr ⟨by simp [pr2, PyData.depth, PyData.depthAll], ih.2⟩
  unfold SeqAt.shaped
  rw [PyData.canLay0, PyData.depth, h.1]
  simp
  omega
theorem eqv_prs : ∀ fs gs : List (Nat × Nat), PyData.eqvAll (fs.map pr2) (gs.map pr2) = decide (fs = gs)
  | [], [] => rfl
  | [], m :: ms => rfl
  | n :: ns, [] => rfl
  | (a, b) :: ns, (c, d) :: ms => by
    rw [List.map_cons, List.map_cons, PyData.eqvAll, eqv_prs ns ms]
    apply Bool.eq_iff_iff.mpr
    simp [pr2, PyData.eqv, PyData.eqvAll]
    omega
end Fr
namespace Fr
open PySem PySem.Spec PyProof.Rows L2
def B (a : Nat) (i : Int) : Prop := i.natAbs < 2 ^ a ∧ 0 < a
theorem two_pow_two {a : Nat} (h : 0 < a) : 2 ≤ 2 ^ a := by
  obtain ⟨k, rfl⟩ : ∃ k, a = k + 1 := ⟨a - 1, by omega⟩
  rw [Nat.pow_succ]
  have := Nat.two_pow_pos k
  omega
theorem pow_sum {a b : Nat} (ha : 0 < a) (hb : 0 < b) : 2 ^ a + 2 ^ b ≤ 2 ^ (a + b) := by
  rw [Nat.pow_add]
  have h1 := two_pow_two ha
  have h2 := two_pow_two hb
  generalize 2 ^ a = x at *
  generalize 2 ^ b = y at *
  have := Nat.mul_le_mul h1 (Nat.le_refl y)
  have := Nat.mul_le_mul (Nat.le_refl x) h2
  rcases Nat.le_total x y with h | h <;> omega
theorem B.mul {a b : Nat} {i j : Int} (h1 : B a i) (h2 : B b j) : B (a + b) (i * j) := ⟨wide_lt h1.1 h2.1, Nat.add_pos_left h1.2 _⟩
theorem B.add {a b : Nat} {i j : Int} (h1 : B a i) (h2 : B b j) : B (a + b) (i + j) :=
  ⟨Nat.lt_of_lt_of_le (by have := h1.1; have := h2.1; omega : (i + j).natAbs < 2 ^ a + 2 ^ b) (pow_sum h1.2 h2.2), Nat.add_pos_left h1.2 _⟩
theorem B.sub {a b : Nat} {i j : Int} (h1 : B a i) (h2 : B b j) : B (a + b) (i - j) :=
  ⟨Nat.lt_of_lt_of_le (by have := h1.1; have := h2.1; omega : (i - j).natAbs < 2 ^ a + 2 ^ b) (pow_sum h1.2 h2.2), Nat.add_pos_left h1.2 _⟩
theorem B.neg {a : Nat} {i : Int} (h1 : B a i) : B a (-i) := ⟨by rw [Int.natAbs_neg]; exact h1.1, h1.2⟩
theorem B.lit {i : Int} (h : i.natAbs < 2 ^ 64) : B 64 i := ⟨h, by decide⟩
theorem B.mono {a b : Nat} {i : Int} (h : B a i) (hab : a ≤ b) : B b i := ⟨Nat.lt_of_lt_of_le h.1 (Nat.pow_le_pow_right (by decide) hab), Nat.lt_of_lt_of_le h.2 hab⟩
theorem mulB {a b : Nat} {i j : Int} (h1 : B a i) (h2 : B b j) (h : a + b ≤ 1000000) : CMulW i j := wide_mul h1.1 h2.1 h1.2 h2.2 h
end Fr
namespace Fr
open PySem PySem.Spec PyProof.Rows L2
theorem shaped_tints (ns : List Int) : SeqAt.shaped (.tuple (ns.map .int)) = true := by
  have h : PyData.canLayAll0 (ns.map .int) = true ∧ PyData.depthAll (ns.map .int) ≤ 1 := by
    induction ns with
    | nil => exact ⟨rfl, by simp [PyData.depthAll]⟩
    | cons n r ih =>
      refine ⟨?_, ?_⟩
      · rw [List.map_cons, PyData.canLayAll0, ih.1]; simp [PyData.canLay0]
      · rw [List.map_cons, PyData.depthAll]; exact Nat.max_le.mpr ⟨by simp [PyData.depth], ih.2⟩
  unfold SeqAt.shaped
  rw [PyData.canLay0, PyData.depth, h.1]
  simp
  omega
end Fr
namespace Fr
open PySem PySem.Spec PyProof.Rows L2
section
variable {M : Model} {prog : Program} {w : World} {A : Around} {E : Value → Shared → Prop} {s : Shared} {K : PySem.W.Frag} {x C f : Addr} {ox : Obj} {od : Option Obj}
theorem ifBound_ne {args : List Value} {Q : Option Value → Shared → Prop} (X : K.In s.heap) (I : PySem.W.InstAt s.heap x ox C od) (hs : PySem.W.findIn K (.ref C) "__ne__" = some (some (.builtin "object.__ne__")))
    (h : wpAny M A (call (.builtin "object.__ne__") (.ref x :: args)) (fun v => Q (some v)) E s) : wpAny M A (callSpecialIfBound? (.ref x) "__ne__" args) Q E s := by
  simp only [callSpecialIfBound?, bindSpecialIfBound?]
  refine wpAny_holding (wpAny_bind (wpAny_bind (wpAny_bind (I.type.here ((PySem.W.looks_findIn X hs).here ?_)))))
  refine wpAny_bind (wpAny_askSetting (wpAny_ite ?_))
  have fin : wpAny M A (call (.builtin "object.__ne__") ([.ref x] ++ args) >>= fun v => pure (some v)) Q E s := wpAny_bind (wpAny_mono h (fun v s' h' => wpAny_pure h') fun _ _ h' => h')
  split
  · exact wpAny_bind (wpAny_of_eq (F.cmp_object.ne.bind _) (wpAny_pure (by exact fin)))
  · exact wpAny_tryCatch (wpAny_bind (wpAny_of_eq (F.cmp_object.ne.bind _) (wpAny_pure (by exact fin))))
def NeB (Q : Value → Shared → Prop) (v : Value) (s' : Shared) : Prop := ∃ b, v = .bool b ∧ Q (.bool (!b)) s'
theorem entry_ne {b : Value} {Q : Fin → Shared → Prop} (hu : A.units < cLine) (X : K.In s.heap) (I : PySem.W.InstAt s.heap x ox C od) (hs : PySem.W.findIn K (.ref C) "__eq__" = some (some (.ref f))) (hf : PySem.W.isFn K (.ref f) = true)
    (h : wpAny (model prog w) A (call (.ref f) [.ref x, b]) (NeB fun v s' => Q (.done (.ret v)) s') E s) : wpAny (model prog w) A (Builtin.«object.__ne__» ⟨[.ref x, b], []⟩) Q E s := by
  unfold Builtin.«object.__ne__»
  repeat (first | with_reducible refine wpAny_cRoomFor hu ?_ | (refine wpAny_bind (PySem.W.ifBound_K X I hs hf (wpAny_mono h (fun v s' hv => ?_) fun _ _ e => e))) | wp_step)
  all_goals (obtain ⟨b', rfl, q⟩ := hv)
  all_goals (repeat (first | wp_step))
  all_goals exact q
theorem ne_K {h₀ : Heap} {L : Addr} {m : Str → Option Value} {b tb : Value} {Q : Value → Shared → Prop} (hu : A.units + 1 < cLine) (F : Fr h₀ L s.heap m) (X₀ : K.In h₀) (I : PySem.W.InstAt s.heap x ox C od) (hb : PySem.W.Looks (model prog w) s.heap (typeOf b) tb) (hn : PySem.W.notFirst K C tb = true)
    (hne : PySem.W.findIn K (.ref C) "__ne__" = some (some (.builtin "object.__ne__"))) (hs : PySem.W.findIn K (.ref C) "__eq__" = some (some (.ref f))) (hf : PySem.W.isFn K (.ref f) = true) (hm : PySem.W.mroIn K C (.type "object") = some true)
    (h : wpAny (model prog w) A.in1 (call (.ref f) [.ref x, b]) (NeB Q) E s) : wpAny (model prog w) A (richCompare .NotEq (.ref x) b) Q E s := by
  have X := X₀.keeps F.keep
  have one : wpAny (model prog w) A (tryCompare (.ref x) "__ne__" b) (fun r s' => ∃ v, r = some v ∧ Q v s') E s := by
    unfold tryCompare
    refine wpAny_bind (ifBound_ne X I hne (wpAny_call (codeAny_call_builtin PySem.F.cmp_object.ne.plain PySem.F.cmpEntry_ne (PySem.W.check_slot PySem.F.cmpKind_ne PySem.F.cmpSplit_ne (I.type.andThen (PySem.W.looks_mroIn X hm)) (PySem.F.cmpArgs_ne _ _) ?_))))
    refine entry_ne (A := A.in1) hu X I hs hf (wpAny_mono h (fun v s' hv => ?_) fun _ _ e => e)
    obtain ⟨b', rfl, q⟩ := hv
    exact ⟨b', rfl, wpAny_pure ⟨_, rfl, q⟩⟩
  unfold richCompare
  simp only [oneThing_ref]
  refine wpAny_holding (wpAny_bind (wpAny_cRoomFor (Nat.lt_of_succ_lt hu) ?_))
  refine wpAny_bind (I.type.here (wpAny_bind (hb.here ?_)))
  split
  · rename_i q
    have e : PySem.W.subIn K tb (.ref C) = some false := by
      rcases Bool.or_eq_true_iff.mp hn with e | e
      · rw [beq_iff_eq.mp e] at q; simp at q
      · exact beq_iff_eq.mp e
    refine wpAny_bind ((PySem.W.looks_subIn X e).here ?_)
    simp only [Bool.false_eq_true, if_false]
    refine wpAny_bind (wpAny_mono one (fun r s' z => ?_) fun _ _ e => e)
    obtain ⟨v, rfl, hq⟩ := z
    exact wpAny_pure hq
  · refine wpAny_bind (wpAny_pure ?_)
    simp only [Bool.false_eq_true, if_false]
    refine wpAny_bind (wpAny_mono one (fun r s' z => ?_) fun _ _ e => e)
    obtain ⟨v, rfl, hq⟩ := z
    exact wpAny_pure hq
end
section
variable {X : Cx} {CX : CXT} {C f : Addr} {fd : FuncData} {ps : List Str} {k : Nat} {sp : Sp} {E : XK}
structure EqC (K : PySem.W.Frag) (C f : Addr) : Prop where
  eq : PySem.W.findIn K (.ref C) "__eq__" = some (some (.ref f))
  fn : PySem.W.isFn K (.ref f) = true
  ne : PySem.W.findIn K (.ref C) "__ne__" = some (some (.builtin "object.__ne__"))
  mo : PySem.W.mroIn K C (.type "object") = some true
def rEqI (K : PySem.W.Frag) (C : Addr) (sp : Sp) (E : XK) (neg : Bool) : R2 := fun x y H Q => ∃ a dx fs tb, x = .ref a ∧ H a = some (.ins C dx fs) ∧ TyX K H y tb ∧ PySem.W.notFirst K C tb = true ∧ sp [x, y] H (fun v H' => ∃ b, v = .bl b ∧ Q (.bl (if neg = true then !b else b)) H') E
theorem op_eqI (c : EqC X.K C f) (F : FnOk X.prog X.w X.K X.mg X.base CX k f fd ps sp) (hb : Binds X.K fd ps []) (hr : Room k X.A) (hx : Passes CX X E) : OpR X (compareOp .Eq) (rEqI X.K C sp E false) := by
  intro pins s σ H x y v u Q I rx ry h
  obtain ⟨a, dx, fs, tb, rfl, ha, ty, hn, q⟩ := h
  cases (show v = Value.ref a from rx)
  obtain ⟨mA, J, _⟩ := ins_get I.hok ha
  obtain ⟨od, J, _⟩ := J.look
  obtain ⟨m, hF⟩ := I.fr
  obtain ⟨P, kt, hP, _⟩ := kit_of I ry ty
  refine PySem.W.cmp_K (op := .Eq) hr.units0 hF I.ok.mod.kin J (kt.ty _ _ I.kIn hP) hn c.eq c.fn ?_
  refine wpAny_mono (run_fn (us := [.ref a, u]) (vs := [.ref a, y]) F hr hb .nil hx I (.cons rfl (.cons ry .nil)) q) (fun w s' z => ?_) fun _ _ x => x
  obtain ⟨z', H', I', rz, b, rfl, qz⟩ := z
  cases (show w = Value.bool b from rz)
  exact ⟨.bl b, H', I', rfl, qz⟩
theorem op_neI (c : EqC X.K C f) (F : FnOk X.prog X.w X.K X.mg X.base CX k f fd ps sp) (hb : Binds X.K fd ps []) (hr : Room (k + 1) X.A) (hx : Passes CX X E) : OpR X (compareOp .NotEq) (rEqI X.K C sp E true) := by
  intro pins s σ H x y v u Q I rx ry h
  obtain ⟨a, dx, fs, tb, rfl, ha, ty, hn, q⟩ := h
  cases (show v = Value.ref a from rx)
  obtain ⟨mA, J, _⟩ := ins_get I.hok ha
  obtain ⟨od, J, _⟩ := J.look
  obtain ⟨m, hF⟩ := I.fr
  obtain ⟨P, kt, hP, _⟩ := kit_of I ry ty
  refine ne_K (Nat.lt_of_le_of_lt (Nat.add_le_add_left (by decide : 1 ≤ 64) _) hr.units) hF I.ok.mod.kin J (kt.ty _ _ I.kIn hP) hn c.ne c.eq c.fn c.mo ?_
  refine wpAny_call (codeAny_mono ((F.raw hb .nil) X.A.in1 X.stack s H [.ref a, u] [.ref a, y] _ E hr.in1 I.env0.in1 (.cons rfl (.cons ry .nil)) q) fun r s' hq => ?_)
  cases r with
  | error e => exact hx pins σ H s e s' I hq
  | ok fl =>
    cases fl with
    | ret w =>
      obtain ⟨z', H', I', rz, b, rfl, qz⟩ := I.after hq
      cases (show w = Value.bool b from rz)
      exact ⟨b, rfl, .bl (!b), H', I', rfl, qz⟩
    | next => exact False.elim hq
    | brk => exact False.elim hq
    | cont => exact False.elim hq
structure TyI (K : PySem.W.Frag) (C : Addr) : Prop where
  ca : PySem.W.findIn K (.ref C) "__class__" = some (some (.builtin "object.__class__"))
  cn : PySem.W.specialIn K (.builtin "object.__class__") "__get__" = some (some (.builtin "getset_descriptor.__get__"))
  ct : PySem.W.takesIn K (.builtin "object.__class__") = some true
  cm : PySem.W.mroIn K C (.type "object") = some true
theorem ty_ins {K : PySem.W.Frag} {C a dx : Addr} {H : Hp} {fs : List (Str × V)} (t : TyI K C) (cl : Cls K C) (e : H a = some (.ins C dx fs)) : TyX K H (.ref a) (.ref C) := .base (.ins e cl t.ca t.cn t.ct t.cm)
theorem first_self {K : PySem.W.Frag} {C : Addr} : PySem.W.notFirst K C (.ref C) = true := by simp [PySem.W.notFirst]
theorem kit_self {K : PySem.W.Frag} {C : Addr} : PySem.W.kitOne K (.ref C) (.ref C) = some true := by simp [PySem.W.kitOne]
theorem un_negI (c : Meth X.K C "__neg__" f) (F : FnOk X.prog X.w X.K X.mg X.base CX k f fd ps sp) (hb : Binds X.K fd ps []) (hr : Room k X.A) (hx : Passes CX X E) :
    UnR X (unaryOp .USub) (fun x H Q => ∃ a dx fs, x = .ref a ∧ H a = some (.ins C dx fs) ∧ sp [x] H Q E) := by
  intro pins s σ H x v Q I rx h
  obtain ⟨a, dx, fs, rfl, ha, q⟩ := h
  cases (show v = Value.ref a from rx)
  obtain ⟨mA, J, _⟩ := ins_get I.hok ha
  obtain ⟨od, J, _⟩ := J.look
  obtain ⟨m, hF⟩ := I.fr
  exact PySem.W.ksp_neg hF I.ok.mod.kin J c.at_ c.fn (run_fn (us := [.ref a]) (vs := [.ref a]) F hr hb .nil hx I (.cons rfl .nil) q)
def MDef (R : Addr → Addr → Prop) (P : Program) (w : World) (K : PySem.W.Frag) (mg : Str → Option Value) (base : Heap) (k : Nat) (ps : List Str) (sp : Sp) : Prop :=
  ∃ p f fd, R p f ∧ Binds K fd ps [] ∧ FnOk P w K mg base CX0 k f fd ps sp
end
section
variable {X : Cx} {K : PySem.W.Frag}
theorem call_isiKK (hK : X.K = K) : CallR X (.builtin "isinstance") (rIsi K) := hK ▸ call_isi
end
section
variable {X : Cx}
theorem pi_or {tg l : Expr} {wa wb : TI} (a : PI X tg l wa) (b : PI X tg l wb) : PI X tg l (fun σ H R => wa σ H R ∨ wb σ H R) := ⟨fun pins s σ H R I h => h.elim (fun z => a.run pins s σ H R I z) (fun z => b.run pins s σ H R I z)⟩
end
abbrev XA (K : PySem.W.Frag) (x : Str) : Addr := He.ga K x
structure Xc (K : PySem.W.Frag) (mg : Str → Option Value) (x : Str) (bm : List Value) (newId : String) : Prop where
  g : mg x = some (.ref (XA K x))
  ex : PySem.W.excIn K (XA K x) bm newId = true
  kp : PySem.W.keepIn K (.ref (XA K x)) = true
  sb : PySem.W.subIn K (.ref (XA K x)) (.type "BaseException") = some true
  ty : PySem.W.typeIn K (.ref (XA K x)) = some (.type "type")
  te : PySem.W.exmOne K (.ref (XA K x)) (.ref (XA K x)) = some true
def DefX (P : Program) (w : World) (K : PySem.W.Frag) (mg : Str → Option Value) (base : Heap) (k : Nat) (x : Str) (ps : List Str) (sp : Sp) : Prop :=
  ∃ f fd, mg x = some (.ref f) ∧ PySem.W.keepIn K (.ref f) = true ∧ Binds K fd ps [] ∧ FnOk P w K mg base (L2.CX P w) k f fd ps sp
end Fr
set_option Elab.async false
set_option linter.all false
set_option maxRecDepth 100000
namespace Fr
open PySem PySem.Spec PyProof.Rows L2
set_option maxHeartbeats 1000000 in
theorem meets_en1 {v : Value} {o : Obj} {H : Heap → Prop} (B : Begins v o H) :
    Meets (Builtin.«enumerate.__new__» ⟨[.type "enumerate", v], []⟩) (fun _ R s => H s.heap ∧
      R (.ok (.ret (.ref (s.heap.push o).objs.size))) { s with heap := (s.heap.push o).push { cls := .type "enumerate", data := .fields #[.none, .bool false, .ref s.heap.objs.size, rawInt 0, .none, .none] } }) :=
  .of_wp fun prog w A R s h => by
    obtain ⟨hp, g, d, tk, os⟩ := s; obtain ⟨h1, h⟩ := h
    have hsub := sub_enumerate
    have q1 : ∀ {A' : Around} {E : Value → Shared → Prop} {Q : Value → Shared → Prop}, Q (.ref hp.objs.size) ⟨hp.push o, g, d, tk, os⟩ → wpAny (model prog w) A' (pyIter v) Q E ⟨hp, g, d, tk, os⟩ :=
      fun q => B.iter prog w _ _ ⟨hp, g, d, tk, os⟩ _ h1 q
    wp_walk using q1
    refine wpAny_stack_any fun st => wpAny_pure ?_
    split
    · rename_i c _ _ _ _ _
      cases (c == Value.type "enumerate")
      · wp_walk using q1
        exact ⟨_, rfl, h⟩
      · wp_walk using q1
        exact ⟨_, rfl, h⟩
    · wp_walk using q1
      exact ⟨_, rfl, h⟩
theorem call_en1 {prog : Program} {w : World} {A : Around} {E : Value → Shared → Prop} {s : Shared} {v : Value} {o : Obj} {H : Heap → Prop} {Q : Value → Shared → Prop} (B : Begins v o H) (h1 : H s.heap)
    (h : ∀ h', IsEnum h' (s.heap.objs.size + 1) s.heap.objs.size 0 .none → h'.get? s.heap.objs.size = some o → h'.objs.size = s.heap.objs.size + 2 →
      (∀ b o, s.heap.get? b = some o → h'.get? b = some o) → Q (.ref (s.heap.objs.size + 1)) { s with heap := h' }) :
    wpAny (model prog w) A (call (.type "enumerate") [v]) Q E s := by
  refine callType_new F.called_enumerate (by decide) (F.typeCall_enumerate_1 _) (F.newCall_enumerate_1 _) (fun obj => F.args_object_init_2 obj _) F.entry_enumerate_new (meets_en1 B) ⟨h1, ?_⟩
  have hz : (s.heap.push o).objs.size = s.heap.objs.size + 1 := Heap.size_push ..
  show _ ∧ _
  rw [hz]
  have he : IsEnum ((s.heap.push o).push { cls := .type "enumerate", data := .fields #[.none, .bool false, .ref s.heap.objs.size, rawInt 0, .none, .none] }) (s.heap.objs.size + 1) s.heap.objs.size 0 .none := by
    have := Heap.get?_push_size (s.heap.push o) (o := { cls := .type "enumerate", data := .fields #[.none, .bool false, .ref s.heap.objs.size, rawInt 0, .none, .none] }) rfl
    rw [hz] at this; exact this
  exact ⟨⟨_, he, rfl⟩, h _ he (Heap.get?_push_of_some _ (Heap.get?_push_size _ B.free)) (by rw [Heap.size_push, hz]) fun b o x => Heap.get?_push_of_some _ (Heap.get?_push_of_some _ x)⟩
def IteT (K : PySem.W.Frag) (a : Addr) : It :=
  ⟨fun i H => ∃ (xs : List V) (x : V), SqT K H a xs ∧ xs[i]? = some x, fun i H v H' => ∃ T x, v = .ref T ∧ H T = none ∧ H' = upd H T (.tup [.int (i : Nat), x]) ∧ ∀ xs, SqT K H a xs → xs[i]? = some x, fun i H => ∃ xs : List V, SqT K H a xs ∧ xs.length = i⟩
theorem turn_enumT {P : Program} {w : World} {K : PySem.W.Frag} {elts : List Expr} {kk : Nat} {tpos : Pos} (a e it : Addr) (hae : a ≠ it) :
    Turn P w K (.Tuple elts kk tpos) (IteT K a) [e, it] e (fun i h => (∃ old, IsEnum h e it ((i : Nat) : Int) old) ∧ h.IsTupleIter it a i ∧ e ≠ it) where
  mem := by simp
  obj := fun i h st b hb => by
    obtain ⟨⟨old, he⟩, ⟨o, ho, hc, hd⟩, _⟩ := st
    have e' : b = e ∨ b = it := by simpa using hb
    rcases e' with z | z
    · rw [z]; exact ⟨_, he, fun v q => nomatch q⟩
    · rw [z]; exact ⟨o, ho, fun v q => by rw [hd] at q; cases q⟩
  keep := fun i h h' st k => let ⟨⟨old, he⟩, hi, hne⟩ := st; ⟨⟨old, k e (by simp) _ he⟩, hi.at fun o q => k it (by simp) o q, hne⟩
  item := by
    intro X hP hw hK hc i pins s σ H E I hf st hg
    subst hP hw hK
    obtain ⟨⟨old, he⟩, hit, hne⟩ := st
    obtain ⟨xs, x, hq, hx⟩ := hg
    obtain ⟨its, rv, p, hz⟩ := I.tuple hq
    obtain ⟨u, hu, ru⟩ := rv.get hx
    have hel : e < s.heap.objs.size := Heap.lt_size he
    have hi : i < its.toArray.size := by
      have := (List.getElem?_eq_some_iff.mp hu).1
      simpa using this
    have hea : e ∉ [it, a] := fun z => by
      have z' : e = it ∨ e = a := by simpa using z
      rcases z' with z | z
      · exact hne z
      · obtain ⟨o, ho, hc', _⟩ := id p
        rw [← z, he] at ho
        cases ho
        injection hc' with z2
        exact absurd z2 (by decide)
    have D := Draws.tuple (prog := X.prog) (w := X.w) (A := X.A.in1) (I.ok.hd hc) it a hae its.toArray
    refine wpAny_pyNext_enum_itemC D he ⟨hit, p⟩ hi hne hea fun y h' tk hy ho hit' hT hsz hk => ?_
    obtain rfl : u = y := by
      have hu' : its.toArray[i]? = some u := by simpa using hu
      have hy' : its.toArray[i]? = some y := hy
      rw [hu'] at hy'
      exact Option.some.inj hy'
    refine ⟨_, rfl, wpAny_letOwnedTupleGo_enum (s := { s with heap := h', toks := tk + 1 }) ho fun h'' he' sb => ?_⟩
    have hT2 : h''.get? s.heap.objs.size = some { cls := .type "tuple", data := .seq #[.int i tk, u] } := (sb.2 _ (Nat.ne_of_gt hel)).trans hT
    have new : ObjOk X.prog X.w (upd H s.heap.objs.size (.tup [.int (i : Nat), x])) h'' s.heap.objs.size (.tup [.int (i : Nat), x]) :=
      ⟨by show 2 ≤ sizeLine; decide, [.int i tk, u], .cons ⟨_, rfl⟩ (.cons ru .nil), ⟨_, hT2, rfl, _, rfl⟩⟩
    have I1 : Inv X pins σ (upd H s.heap.objs.size (.tup [.int (i : Nat), x])) { s with heap := h'', toks := tk + 1 } :=
      I.turnedNew (ch := [e, it]) (fun b ob hb q => (sb.2 b (fun z => hb (by simp [z]))).trans (hk b ob (fun z => hb (by simp [z])) (fun z => hb (by simp [z])) q)) hf (Nat.le_refl _) new
    refine ⟨.ref s.heap.objs.size, _, I1, rfl, ⟨_, x, rfl, I.hok.fresh (Nat.le_refl _), rfl, fun ys hy => by rw [I.tuple_inj hy hq]; exact hx⟩, ⟨⟨u, ?_⟩, hit'.1.at fun o q => (sb.2 it (Ne.symm hne)).trans q, hne⟩, fun b hb => ?_⟩
    · have e1 : ((i + 1 : Nat) : Int) = (i : Int) + 1 := by omega
      rw [e1]; exact he'
    · have hb' : b < s.heap.objs.size := by
        have e' : b = e ∨ b = it := by simpa using hb
        rcases e' with z | z
        · rw [z]; exact hel
        · rw [z]; obtain ⟨_, q, _⟩ := hit; exact Heap.lt_size q
      rw [upd_ne (Nat.ne_of_lt hb')]
      exact (hf b hb).1
  done := by
    intro X hP hw hK hc i pins s σ H E I hf st hg
    subst hP hw hK
    obtain ⟨⟨old, he⟩, hit, hne⟩ := st
    obtain ⟨xs, hq, hx⟩ := hg
    obtain ⟨its, rv, p, hz⟩ := I.tuple hq
    obtain ⟨f0, f1, f2, f3, f4, f5⟩ := hf it (by simp)
    have hl := rv.length
    have D := Draws.tuple (prog := X.prog) (w := X.w) (A := X.A.in1) (I.ok.hd hc) it a hae its.toArray
    have hi : its.toArray.size = i := by simp; omega
    exact wpAny_pyNext_enum_endD D he (by rw [hi]; exact ⟨hit, p⟩) fun h' eb => ⟨rfl, I.turned (t' := s.toks) (fun b o hb q => eb b o hb q) f0 f1 f3 f4 f5⟩
  self := fun A i s Q E st h => let ⟨⟨_, he⟩, _⟩ := st; wpAny_pyIter_enum he h
def iEnumT (K : PySem.W.Frag) (ta : TA) : TI := fun σ H R => ta σ H fun vs H1 => ∃ a xs, vs = [.ref a] ∧ SqT K H1 a xs ∧ R (IteT K a) H1
theorem pi_enumT {X : Cx} {e : Expr} {ta : TA} {p pos tpos : Pos} {elts : List Expr} {kk : Nat} (hg : Gl X "enumerate") (hm : X.mg "enumerate" = none) (ha : PA X [e] ta) (hs : starEach [e] X.env = [(false, eval e X.env)] := by rfl) :
    PI X (.Tuple elts kk tpos) (.Call (.Name "enumerate" p) [e] [] pos) (iEnumT X.K ta) := by
  refine ⟨fun pins s σ H R I h => ?_⟩
  refine Call_ (ld_blt I hg hm boot_enumerate (PyProof.Rows.callWith_type1 (thn (ha.run pos pins s σ H _ I h) fun us s1 ⟨vs, H1, I1, r1, q1⟩ => ?_) hs rfl))
  obtain ⟨a, xs, ex, hq, q⟩ := q1
  subst ex
  cases r1 with
  | cons r rr =>
    cases rr
    cases r
    obtain ⟨its, rv, p', hz⟩ := I1.tuple hq
    have hal : a < s1.heap.objs.size := by obtain ⟨o, ho, _⟩ := id p'; exact Heap.lt_size ho
    refine call_en1 (begins_tuple a its.toArray) p' fun h' he hit hsz hk => wpAny_pyIter_enum he ?_
    have I2 : Inv X pins σ H1 { s1 with heap := h' } := I1.kept (t' := s1.toks) hk
    refine ⟨s1.heap.objs.size + 1, [s1.heap.objs.size + 1, s1.heap.objs.size], _, _, H1, rfl, I2, turn_enumT a (s1.heap.objs.size + 1) s1.heap.objs.size (Nat.ne_of_lt hal), ⟨⟨.none, he⟩, ⟨_, hit, rfl, rfl⟩, Nat.succ_ne_self _⟩, fun b hb => ?_, q⟩
    have e' : b = s1.heap.objs.size + 1 ∨ b = s1.heap.objs.size := by simpa using hb
    have hle : s1.heap.objs.size ≤ b := by
      rcases e' with z | z
      · rw [z]; exact Nat.le_add_right _ _
      · rw [z]; exact Nat.le_refl _
    exact I1.fpOk hle (I1.hok.fresh hle)
section
variable {K : PySem.W.Frag} {a b : Addr} {xs ys : List V}
theorem walk_enumT : Walk (IteT K a) xs.length (fun H => SqT K H a xs) (YPair (fun i => some (.int (i : Nat))) fun i => xs[i]?) :=
  ⟨fun i _ hi q => ⟨xs, xs[i], q, by simp [hi]⟩, fun _ q => ⟨xs, q, rfl⟩, fun i H v H' _ q y => by
    obtain ⟨T, x, rfl, hT, rfl, f⟩ := y
    exact ⟨T, _, x, rfl, hT, rfl, rfl, f xs q⟩⟩
theorem walk_zipT (hl : xs.length = ys.length) : Walk (RZ.ItzT K a b) xs.length (fun H => SqT K H a xs ∧ SqT K H b ys) (YPair (fun i => xs[i]?) fun i => ys[i]?) :=
  ⟨fun i _ hi q => ⟨xs, ys, xs[i], ys[i], q.1, q.2, by simp [hi], by simp [← hl, hi]⟩, fun _ q => ⟨xs, ys, q.1, q.2, .inl (Nat.le_refl _)⟩, fun i H v H' _ q y => by
    obtain ⟨T, x, y, rfl, hT, rfl, f1, f2⟩ := y
    exact ⟨T, x, y, rfl, hT, rfl, f1 xs q.1, f2 ys q.2⟩⟩
theorem walk_zipL (hl : xs.length = ys.length) : Walk (Itz K a b) xs.length (fun H => SqL K H a xs ∧ SqL K H b ys) (YPair (fun i => xs[i]?) fun i => ys[i]?) :=
  ⟨fun i _ hi q => ⟨xs, ys, xs[i], ys[i], q.1, q.2, by simp [hi], by simp [← hl, hi]⟩, fun _ q => ⟨xs, ys, q.1, q.2, .inl (Nat.le_refl _)⟩, fun i H v H' _ q y => by
    obtain ⟨T, x, y, rfl, hT, rfl, f1, f2⟩ := y
    exact ⟨T, x, y, rfl, hT, rfl, f1 xs q.1, f2 ys q.2⟩⟩
end
section
variable {S : Addr → Prop} {I : Hp → Prop} {H : Hp} {J : It} {n : Nat} {G : Hp → Prop} {fx fy : Nat → Option V} {g : TG} {tt : TT} {te : TE} {vs : List Nat} {σ : L2.St} {Q : Addr → Hp → Prop}
theorem lcP (w : Walk J n G (YPair fx fy)) (m : Fm S I) (i0 : I H) (hG : ∀ H', Fx S I H H' → G H') (P : Nat → List V → Hp → Prop) (p0 : ∀ D, H D = none → P 0 [] (upd H D (.lst [])))
    (hs : ∀ D i T x y acc H', H D = none → i < n → fx i = some x → fy i = some y → Fx S I H H' → H' D = some (.lst acc) → acc.length ≤ i → P i acc H' → H' T = none → g (.ref T) (wipe σ vs) (upd H' T (.tup [x, y])) fun σ2 H2 => wipe σ2 vs = wipe σ vs ∧ tt σ2 H2 fun b H3 =>
      if b = true then te σ2 H3 fun y H4 => ∃ acc, H4 D = some (.lst acc) ∧ acc.length < sizeLine ∧ Cs S I H P D (i + 1) (upd H4 D (.lst (acc ++ [y]))) else Cs S I H P D (i + 1) H3)
    (q : ∀ D H' acc, H D = none → Fx S I H H' → H' D = some (.lst acc) → P n acc H' → Q D H') :
    ∀ D, H D = none → ∃ W : Nat → Nat → Hp → Prop, (∃ m, W 0 m (upd H D (.lst []))) ∧ ∀ i m H, W i m H →
      (J.stop i H ∧ Q D H) ∨ (J.go i H ∧ ∃ Nx : Hp → Prop, (∀ H', Nx H' → ∃ m', m' < m ∧ W (i + 1) m' H') ∧ ∀ x H', J.yld i H x H' → g x (wipe σ vs) H' fun σ2 H2 => wipe σ2 vs = wipe σ vs ∧ tt σ2 H2 fun b H3 =>
        if b = true then te σ2 H3 fun y H4 => ∃ acc, H4 D = some (.lst acc) ∧ acc.length < sizeLine ∧ Nx (upd H4 D (.lst (acc ++ [y]))) else Nx H3) := fun D hD =>
  lc_it w (Cs S I H P D) ⟨Fx.new m i0 hD, [], upd_same, Nat.le_refl _, p0 D hD⟩ (fun i H' _ p => hG H' p.1)
    (fun i x H' H'' hi p y => by
      obtain ⟨p1, acc, p2, p3, p4⟩ := p
      obtain ⟨T, x, y, rfl, hT, rfl, f1, f2⟩ := y
      exact hs D i T x y acc H' hD hi f1 f2 p1 p2 p3 p4 hT)
    (fun H' p => by
      obtain ⟨p1, acc, p2, p3, p4⟩ := p
      exact q D H' acc hD p1 p2 p4)
theorem for_P (w : Walk J n G (YPair fx fy)) {g : TG} {tb : TS} {D : Ends} {σ : L2.St} {H : Hp} (Pv : Nat → L2.St → Hp → Prop) (h0 : Pv 0 σ H) (hG : ∀ i σ H, i ≤ n → Pv i σ H → G H)
    (hs : ∀ i T x y σ H, i < n → fx i = some x → fy i = some y → Pv i σ H → H T = none → g (.ref T) σ (upd H T (.tup [x, y])) fun σ2 H2 => tb { D with nx := Pv (i + 1), ct := Pv (i + 1), bk := D.nx } σ2 H2) (hd : ∀ σ H, Pv n σ H → D.nx σ H) :
    ∃ W : Nat → Nat → L2.St → Hp → Prop, (∃ m, W 0 m σ H) ∧ ∀ i m σ H, W i m σ H →
      (J.stop i H ∧ D.nx σ H) ∨ (J.go i H ∧ ∃ N : L2.St → Hp → Prop, (∀ σ' H', N σ' H' → ∃ m', m' < m ∧ W (i + 1) m' σ' H') ∧ ∀ x H', J.yld i H x H' → g x σ H' fun σ2 H2 => tb { D with nx := N, ct := N, bk := D.nx } σ2 H2) :=
  for_it w Pv h0 hG (fun i v σ H H' hi p y => by
    obtain ⟨T, x, y, rfl, hT, rfl, f1, f2⟩ := y
    exact hs i T x y σ H hi f1 f2 p hT) hd
end
end Fr
set_option Elab.async false
set_option linter.all false
set_option maxRecDepth 100000
namespace Fr
open PySem PySem.Spec PyProof.Rows L2
def Vat (c : Addr) (H : Hp) : Prop := ∃ x y z : Int, H c = some (.lst [.int x, .int y, .int z])
def Sv (c : Addr) : Addr → Prop := fun b => b = c
theorem fmV (c : Addr) : Fm (Sv c) (Vat c) := by
  constructor
  · intro H D i h e
    obtain ⟨x, y, z, q⟩ := i
    unfold Sv at e
    rw [e, q] at h
    cases h
  · intro H D o n i
    obtain ⟨x, y, z, q⟩ := i
    exact ⟨x, y, z, by rw [upd_ne (fun e => n e.symm)]; exact q⟩
abbrev Fv (c : Addr) : Hp → Hp → Prop := Fx (Sv c) (Vat c)
theorem vat_new {c l : Addr} {H : Hp} {o : HO} (hc : Vat c H) (hl : H l = none) : Vat c (upd H l o) := (fmV c).stay ((fmV c).fresh hc hl) hc
theorem fv_new {c l : Addr} {H : Hp} {o : HO} (hc : Vat c H) (hl : H l = none) : Fv c H (upd H l o) := Fx.new (fmV c) hc hl
theorem fv_ne {c l : Addr} {H : Hp} (hc : Vat c H) (hl : H l = none) : l ≠ c := (fmV c).fresh hc hl
theorem vat_ex {c : Addr} {H H' : Hp} (hc : Vat c H) (e : Ex0 H H') : Vat c H' := by
  obtain ⟨x, y, z, q⟩ := hc
  exact ⟨x, y, z, Ex0.ap e q⟩
theorem fv_ex {c : Addr} {H H' : Hp} (hc : Vat c H) (e : Ex0 H H') : Fv c H H' := ⟨vat_ex hc e, fun b o _ h => Ex0.ap e h⟩
theorem fv_tup {c a : Addr} {H H' : Hp} {xs : List V} (hc : Vat c H) (f : Fv c H H') (h : H a = some (.tup xs)) : H' a = some (.tup xs) := f.2 a _ (fun e => by
  obtain ⟨x, y, z, q⟩ := hc
  unfold Sv at e
  rw [e, q] at h
  cases h) h
theorem ex_fv {p : Addr} {H H1 H2 : Hp} (e : Ex0 H H1) (hp : H p = none) (f : Fv p H1 H2) : Ex0 H H2 := ⟨trivial, fun b o _ h => f.2 b o (fun z => by unfold Sv at z; rw [z, hp] at h; cases h) (Ex0.ap e h)⟩
theorem cut_map (ns : List Int) (lo hi : Option Int) : cutV (ns.map V.int) lo hi = ((ns.drop (HT.sIx (ns.map V.int).length 0 lo)).take (HT.sIx (ns.map V.int).length (ns.map V.int).length hi - HT.sIx (ns.map V.int).length 0 lo)).map V.int := by
  unfold cutV
  rw [← List.map_drop, ← List.map_take]
end Fr
set_option Elab.async false
set_option linter.all false
set_option maxRecDepth 100000
namespace K05M
def fv (a b c d x y : Int) : Int := a * x * x * x + b * x * x * y + c * x * y * y + d * y * y * y
def fdisc (a b c d : Int) : Int := b * b * c * c - 4 * a * c * c * c - 4 * b * b * b * d - 27 * a * a * d * d + 18 * a * b * c * d
def fl2 (a b c d p q r s : Int) : Int := 3 * a * p * p * r + b * p * (p * s + 2 * q * r) + c * q * (2 * p * s + q * r) + 3 * d * q * q * s
def fl3 (a b c d p q r s : Int) : Int := 3 * a * p * r * r + b * r * (2 * p * s + q * r) + c * s * (p * s + 2 * q * r) + 3 * d * q * s * s
theorem put1 (a b c d p q r s i j : Int) : fv (fv a b c d p q) (fl2 a b c d p q r s) (fl3 a b c d p q r s) (fv a b c d r s) i j = fv a b c d (i * p + j * r) (i * q + j * s) := by
  unfold fv fl2 fl3
  grind
theorem put2 (a b c d p q r s i j k m : Int) : fl2 (fv a b c d p q) (fl2 a b c d p q r s) (fl3 a b c d p q r s) (fv a b c d r s) i j k m = fl2 a b c d (i * p + j * r) (i * q + j * s) (k * p + m * r) (k * q + m * s) := by
  unfold fv fl2 fl3
  grind
theorem put3 (a b c d p q r s i j k m : Int) : fl3 (fv a b c d p q) (fl2 a b c d p q r s) (fl3 a b c d p q r s) (fv a b c d r s) i j k m = fl3 a b c d (i * p + j * r) (i * q + j * s) (k * p + m * r) (k * q + m * s) := by
  unfold fv fl2 fl3
  grind
theorem disc (a b c d p q r s : Int) : fdisc (fv a b c d p q) (fl2 a b c d p q r s) (fl3 a b c d p q r s) (fv a b c d r s) = (p * s - q * r) * (p * s - q * r) * (p * s - q * r) * (p * s - q * r) * (p * s - q * r) * (p * s - q * r) * fdisc a b c d := by
  unfold fdisc fv fl2 fl3
  grind
theorem fv_mul (e a b c d x y : Int) : fv (e * a) (e * b) (e * c) (e * d) x y = e * fv a b c d x y := by unfold fv; grind
theorem fl2_mul (e a b c d p q r s : Int) : fl2 (e * a) (e * b) (e * c) (e * d) p q r s = e * fl2 a b c d p q r s := by unfold fl2; grind
theorem fl3_mul (e a b c d p q r s : Int) : fl3 (e * a) (e * b) (e * c) (e * d) p q r s = e * fl3 a b c d p q r s := by unfold fl3; grind
theorem disc_neg (a b c d : Int) : fdisc (-1 * a) (-1 * b) (-1 * c) (-1 * d) = fdisc a b c d := by unfold fdisc; grind
theorem det_mul (p q r s i j k m : Int) : (i * p + j * r) * (k * q + m * s) - (i * q + j * s) * (k * p + m * r) = (i * m - j * k) * (p * s - q * r) := by grind
theorem fv_one (a b c d : Int) : fv a b c d 1 0 = a ∧ fv a b c d 0 1 = d ∧ fl2 a b c d 1 0 0 1 = b ∧ fl3 a b c d 1 0 0 1 = c := by
  unfold fv fl2 fl3
  refine ⟨?_, ?_, ?_, ?_⟩ <;> grind
theorem und (p q r s e : Int) (he : e = p * s - q * r) (h : e = 1 ∨ e = -1) : (e * s) * p + (-e * q) * r = 1 ∧ (e * s) * q + (-e * q) * s = 0 ∧ (-e * r) * p + (e * p) * r = 0 ∧ (-e * r) * q + (e * p) * s = 1 := by
  have h1 : e * e = 1 := by rcases h with rfl | rfl <;> decide
  refine ⟨?_, ?_, ?_, ?_⟩ <;> grind
end K05M
set_option Elab.async false
set_option linter.all false
namespace K06M
open K05M
def h0 (a b c d : Int) : Int := b * b - 3 * a * c
def h1 (a b c d : Int) : Int := b * c - 9 * a * d
def h2 (a b c d : Int) : Int := c * c - 3 * b * d
def g0 (a b c d : Int) : Int := 2 * b * b * b - 9 * a * b * c + 27 * a * a * d
def g1 (a b c d : Int) : Int := 3 * b * b * c - 18 * a * c * c + 27 * a * b * d
def g2 (a b c d : Int) : Int := -3 * b * c * c + 18 * b * b * d - 27 * a * c * d
def g3 (a b c d : Int) : Int := -2 * c * c * c + 9 * b * c * d - 27 * a * d * d
def dv (a b c x y : Int) : Int := a * x * x + b * x * y + c * y * y
def ddisc (a b c : Int) : Int := b * b - 4 * a * c
def dl (a b c p q r s : Int) : Int := 2 * a * p * r + b * (p * s + q * r) + 2 * c * q * s
theorem hdisc (a b c d : Int) : ddisc (h0 a b c d) (h1 a b c d) (h2 a b c d) = -3 * fdisc a b c d := by
  unfold ddisc h0 h1 h2 fdisc; grind
theorem gh0 (a b c d : Int) : h0 (g0 a b c d) (g1 a b c d) (g2 a b c d) (g3 a b c d) = 27 * fdisc a b c d * h0 a b c d := by
  unfold h0 g0 g1 g2 fdisc; grind
theorem gh1 (a b c d : Int) : h1 (g0 a b c d) (g1 a b c d) (g2 a b c d) (g3 a b c d) = 27 * fdisc a b c d * h1 a b c d := by
  unfold h1 g0 g1 g2 g3 fdisc; grind
theorem gh2 (a b c d : Int) : h2 (g0 a b c d) (g1 a b c d) (g2 a b c d) (g3 a b c d) = 27 * fdisc a b c d * h2 a b c d := by
  unfold h2 g1 g2 g3 fdisc; grind
theorem led0 (a b c d p q r s : Int) : h0 (fv a b c d p q) (fl2 a b c d p q r s) (fl3 a b c d p q r s) (fv a b c d r s) = (p * s - q * r) * (p * s - q * r) * dv (h0 a b c d) (h1 a b c d) (h2 a b c d) p q := by
  unfold h0 h1 h2 fv fl2 fl3 dv; grind
theorem led1 (a b c d p q r s : Int) : h1 (fv a b c d p q) (fl2 a b c d p q r s) (fl3 a b c d p q r s) (fv a b c d r s) = (p * s - q * r) * (p * s - q * r) * dl (h0 a b c d) (h1 a b c d) (h2 a b c d) p q r s := by
  unfold h0 h1 h2 fv fl2 fl3 dl; grind
theorem led2 (a b c d p q r s : Int) : h2 (fv a b c d p q) (fl2 a b c d p q r s) (fl3 a b c d p q r s) (fv a b c d r s) = (p * s - q * r) * (p * s - q * r) * dv (h0 a b c d) (h1 a b c d) (h2 a b c d) r s := by
  unfold h0 h1 h2 fv fl2 fl3 dv; grind
theorem syz (a b c d x y : Int) : 4 * dv (h0 a b c d) (h1 a b c d) (h2 a b c d) x y * dv (h0 a b c d) (h1 a b c d) (h2 a b c d) x y * dv (h0 a b c d) (h1 a b c d) (h2 a b c d) x y = fv (g0 a b c d) (g1 a b c d) (g2 a b c d) (g3 a b c d) x y * fv (g0 a b c d) (g1 a b c d) (g2 a b c d) (g3 a b c d) x y + 27 * fdisc a b c d * fv a b c d x y * fv a b c d x y := by
  unfold dv h0 h1 h2 g0 g1 g2 g3 fdisc fv; grind
theorem gdisc (a b c d : Int) : fdisc (g0 a b c d) (g1 a b c d) (g2 a b c d) (g3 a b c d) = 729 * fdisc a b c d * fdisc a b c d * fdisc a b c d := by
  unfold g0 g1 g2 g3 fdisc; grind
theorem gled0 (a b c d p q r s : Int) : g0 (fv a b c d p q) (fl2 a b c d p q r s) (fl3 a b c d p q r s) (fv a b c d r s) = (p * s - q * r) * (p * s - q * r) * (p * s - q * r) * fv (g0 a b c d) (g1 a b c d) (g2 a b c d) (g3 a b c d) p q := by
  unfold g0 g1 g2 g3 fv fl2 fl3; grind
theorem gled1 (a b c d p q r s : Int) : g1 (fv a b c d p q) (fl2 a b c d p q r s) (fl3 a b c d p q r s) (fv a b c d r s) = (p * s - q * r) * (p * s - q * r) * (p * s - q * r) * fl2 (g0 a b c d) (g1 a b c d) (g2 a b c d) (g3 a b c d) p q r s := by
  unfold g0 g1 g2 g3 fv fl2 fl3; grind
theorem gled2 (a b c d p q r s : Int) : g2 (fv a b c d p q) (fl2 a b c d p q r s) (fl3 a b c d p q r s) (fv a b c d r s) = (p * s - q * r) * (p * s - q * r) * (p * s - q * r) * fl3 (g0 a b c d) (g1 a b c d) (g2 a b c d) (g3 a b c d) p q r s := by
  unfold g0 g1 g2 g3 fv fl2 fl3; grind
theorem gled3 (a b c d p q r s : Int) : g3 (fv a b c d p q) (fl2 a b c d p q r s) (fl3 a b c d p q r s) (fv a b c d r s) = (p * s - q * r) * (p * s - q * r) * (p * s - q * r) * fv (g0 a b c d) (g1 a b c d) (g2 a b c d) (g3 a b c d) r s := by
  unfold g0 g1 g2 g3 fv fl2 fl3; grind
theorem h_mul (e a b c d : Int) : h0 (e * a) (e * b) (e * c) (e * d) = e * e * h0 a b c d ∧ h1 (e * a) (e * b) (e * c) (e * d) = e * e * h1 a b c d ∧ h2 (e * a) (e * b) (e * c) (e * d) = e * e * h2 a b c d := by
  unfold h0 h1 h2
  refine ⟨?_, ?_, ?_⟩ <;> grind
theorem g_mul (e a b c d : Int) : g0 (e * a) (e * b) (e * c) (e * d) = e * e * e * g0 a b c d ∧ g1 (e * a) (e * b) (e * c) (e * d) = e * e * e * g1 a b c d ∧ g2 (e * a) (e * b) (e * c) (e * d) = e * e * e * g2 a b c d ∧ g3 (e * a) (e * b) (e * c) (e * d) = e * e * e * g3 a b c d := by
  unfold g0 g1 g2 g3
  refine ⟨?_, ?_, ?_, ?_⟩ <;> grind
end K06M
namespace TF
open PySem PySem.Spec PyProof.Rows L2 Fr
open K05M (fv fl2 fl3 fdisc)
open K06M
def topS (i : Nat) : Stmt := PySem.Challenge.pw_formrings_k88_whole_small_hessians.main.body.getD i (.Pass ⟨0, 0, 0, 0⟩)
abbrev s_is_any_integer : Stmt := topS 13
abbrev N_is_any_integer : List Str := ["value"]
theorem sc_is_any_integer : FnScope N_is_any_integer ["value"] (defScope s_is_any_integer) := ⟨rfl, rfl, rfl, by decide +kernel, rfl, by decide +kernel, by decide +kernel⟩
abbrev s_is_short_integer : Stmt := topS 14
abbrev N_is_short_integer : List Str := ["value"]
theorem sc_is_short_integer : FnScope N_is_short_integer ["value"] (defScope s_is_short_integer) := ⟨rfl, rfl, rfl, by decide +kernel, rfl, by decide +kernel, by decide +kernel⟩
abbrev s_are_any_integers : Stmt := topS 16
abbrev N_are_any_integers : List Str := ["value", "many", "number"]
theorem sc_are_any_integers : FnScope N_are_any_integers ["value", "many"] (defScope s_are_any_integers) := ⟨rfl, rfl, rfl, by decide +kernel, rfl, by decide +kernel, by decide +kernel⟩
abbrev s_are_short_integers : Stmt := topS 17
abbrev N_are_short_integers : List Str := ["value", "many", "n"]
theorem sc_are_short_integers : FnScope N_are_short_integers ["value", "many"] (defScope s_are_short_integers) := ⟨rfl, rfl, rfl, by decide +kernel, rfl, by decide +kernel, by decide +kernel⟩
abbrev s_check_integer : Stmt := topS 19
abbrev N_check_integer : List Str := ["value"]
theorem sc_check_integer : FnScope N_check_integer ["value"] (defScope s_check_integer) := ⟨rfl, rfl, rfl, by decide +kernel, rfl, by decide +kernel, by decide +kernel⟩
abbrev s_determinant_of : Stmt := topS 22
abbrev N_determinant_of : List Str := ["change", "p", "q", "r", "s"]
theorem sc_determinant_of : FnScope N_determinant_of ["change"] (defScope s_determinant_of) := ⟨rfl, rfl, rfl, by decide +kernel, rfl, by decide +kernel, by decide +kernel⟩
abbrev s_is_change : Stmt := topS 23
abbrev N_is_change : List Str := ["value", "row"]
theorem sc_is_change : FnScope N_is_change ["value"] (defScope s_is_change) := ⟨rfl, rfl, rfl, by decide +kernel, rfl, by decide +kernel, by decide +kernel⟩
abbrev s_is_short_change : Stmt := topS 24
abbrev N_is_short_change : List Str := ["value", "row"]
theorem sc_is_short_change : FnScope N_is_short_change ["value"] (defScope s_is_short_change) := ⟨rfl, rfl, rfl, by decide +kernel, rfl, by decide +kernel, by decide +kernel⟩
abbrev s_check_change : Stmt := topS 25
abbrev N_check_change : List Str := ["value"]
theorem sc_check_change : FnScope N_check_change ["value"] (defScope s_check_change) := ⟨rfl, rfl, rfl, by decide +kernel, rfl, by decide +kernel, by decide +kernel⟩
abbrev s_double_value : Stmt := topS 27
abbrev N_double_value : List Str := ["coefficients", "x", "y", "first", "middle", "last"]
theorem sc_double_value : FnScope N_double_value ["coefficients", "x", "y"] (defScope s_double_value) := ⟨rfl, rfl, rfl, by decide +kernel, rfl, by decide +kernel, by decide +kernel⟩
abbrev s_double_discriminant : Stmt := topS 28
abbrev N_double_discriminant : List Str := ["coefficients", "first", "middle", "last"]
theorem sc_double_discriminant : FnScope N_double_discriminant ["coefficients"] (defScope s_double_discriminant) := ⟨rfl, rfl, rfl, by decide +kernel, rfl, by decide +kernel, by decide +kernel⟩
abbrev s_double_led : Stmt := topS 29
abbrev N_double_led : List Str := ["coefficients", "change", "first", "middle", "last", "p", "q", "r", "s", "between"]
theorem sc_double_led : FnScope N_double_led ["coefficients", "change"] (defScope s_double_led) := ⟨rfl, rfl, rfl, by decide +kernel, rfl, by decide +kernel, by decide +kernel⟩
abbrev s_double_of : Stmt := topS 30
abbrev N_double_of : List Str := ["coefficients", "double"]
theorem sc_double_of : FnScope N_double_of ["coefficients"] (defScope s_double_of) := ⟨rfl, rfl, rfl, by decide +kernel, rfl, by decide +kernel, by decide +kernel⟩
abbrev s_Double___init__ : Stmt := inClass (topS 31) 0
abbrev N_Double___init__ : List Str := ["self", "coefficients"]
theorem sc_Double___init__ : FnScope N_Double___init__ ["self", "coefficients"] (defScope s_Double___init__) := ⟨rfl, rfl, rfl, by decide +kernel, rfl, by decide +kernel, by decide +kernel⟩
abbrev s_Double_coefficients : Stmt := inClass (topS 31) 1
abbrev N_Double_coefficients : List Str := ["self"]
theorem sc_Double_coefficients : FnScope N_Double_coefficients ["self"] (defScope s_Double_coefficients) := ⟨rfl, rfl, rfl, by decide +kernel, rfl, by decide +kernel, by decide +kernel⟩
abbrev s_Double_discriminant : Stmt := inClass (topS 31) 2
abbrev N_Double_discriminant : List Str := ["self"]
theorem sc_Double_discriminant : FnScope N_Double_discriminant ["self"] (defScope s_Double_discriminant) := ⟨rfl, rfl, rfl, by decide +kernel, rfl, by decide +kernel, by decide +kernel⟩
abbrev s_Double___call__ : Stmt := inClass (topS 31) 4
abbrev N_Double___call__ : List Str := ["self", "x", "y"]
theorem sc_Double___call__ : FnScope N_Double___call__ ["self", "x", "y"] (defScope s_Double___call__) := ⟨rfl, rfl, rfl, by decide +kernel, rfl, by decide +kernel, by decide +kernel⟩
abbrev s_Double_led : Stmt := inClass (topS 31) 5
abbrev N_Double_led : List Str := ["self", "change"]
theorem sc_Double_led : FnScope N_Double_led ["self", "change"] (defScope s_Double_led) := ⟨rfl, rfl, rfl, by decide +kernel, rfl, by decide +kernel, by decide +kernel⟩
abbrev s_Double___eq__ : Stmt := inClass (topS 31) 7
abbrev N_Double___eq__ : List Str := ["self", "other"]
theorem sc_Double___eq__ : FnScope N_Double___eq__ ["self", "other"] (defScope s_Double___eq__) := ⟨rfl, rfl, rfl, by decide +kernel, rfl, by decide +kernel, by decide +kernel⟩
abbrev s_form_value : Stmt := topS 33
abbrev N_form_value : List Str := ["coefficients", "x", "y", "a", "b", "c", "d"]
theorem sc_form_value : FnScope N_form_value ["coefficients", "x", "y"] (defScope s_form_value) := ⟨rfl, rfl, rfl, by decide +kernel, rfl, by decide +kernel, by decide +kernel⟩
abbrev s_form_discriminant : Stmt := topS 34
abbrev N_form_discriminant : List Str := ["coefficients", "a", "b", "c", "d"]
theorem sc_form_discriminant : FnScope N_form_discriminant ["coefficients"] (defScope s_form_discriminant) := ⟨rfl, rfl, rfl, by decide +kernel, rfl, by decide +kernel, by decide +kernel⟩
abbrev s_form_hessian : Stmt := topS 35
abbrev N_form_hessian : List Str := ["coefficients", "a", "b", "c", "d"]
theorem sc_form_hessian : FnScope N_form_hessian ["coefficients"] (defScope s_form_hessian) := ⟨rfl, rfl, rfl, by decide +kernel, rfl, by decide +kernel, by decide +kernel⟩
abbrev s_form_led : Stmt := topS 36
abbrev N_form_led : List Str := ["coefficients", "change", "a", "b", "c", "d", "p", "q", "r", "s", "e", "second", "third"]
theorem sc_form_led : FnScope N_form_led ["coefficients", "change"] (defScope s_form_led) := ⟨rfl, rfl, rfl, by decide +kernel, rfl, by decide +kernel, by decide +kernel⟩
abbrev s_check_form : Stmt := topS 37
abbrev N_check_form : List Str := ["value"]
theorem sc_check_form : FnScope N_check_form ["value"] (defScope s_check_form) := ⟨rfl, rfl, rfl, by decide +kernel, rfl, by decide +kernel, by decide +kernel⟩
abbrev s_form_of : Stmt := topS 38
abbrev N_form_of : List Str := ["coefficients", "form"]
theorem sc_form_of : FnScope N_form_of ["coefficients"] (defScope s_form_of) := ⟨rfl, rfl, rfl, by decide +kernel, rfl, by decide +kernel, by decide +kernel⟩
abbrev s_Form___init__ : Stmt := inClass (topS 39) 0
abbrev N_Form___init__ : List Str := ["self", "coefficients"]
theorem sc_Form___init__ : FnScope N_Form___init__ ["self", "coefficients"] (defScope s_Form___init__) := ⟨rfl, rfl, rfl, by decide +kernel, rfl, by decide +kernel, by decide +kernel⟩
abbrev s_Form_coefficients : Stmt := inClass (topS 39) 2
abbrev N_Form_coefficients : List Str := ["self"]
theorem sc_Form_coefficients : FnScope N_Form_coefficients ["self"] (defScope s_Form_coefficients) := ⟨rfl, rfl, rfl, by decide +kernel, rfl, by decide +kernel, by decide +kernel⟩
abbrev s_Form_discriminant : Stmt := inClass (topS 39) 3
abbrev N_Form_discriminant : List Str := ["self"]
theorem sc_Form_discriminant : FnScope N_Form_discriminant ["self"] (defScope s_Form_discriminant) := ⟨rfl, rfl, rfl, by decide +kernel, rfl, by decide +kernel, by decide +kernel⟩
abbrev s_Form_hessian : Stmt := inClass (topS 39) 5
abbrev N_Form_hessian : List Str := ["self"]
theorem sc_Form_hessian : FnScope N_Form_hessian ["self"] (defScope s_Form_hessian) := ⟨rfl, rfl, rfl, by decide +kernel, rfl, by decide +kernel, by decide +kernel⟩
abbrev s_Form___call__ : Stmt := inClass (topS 39) 7
abbrev N_Form___call__ : List Str := ["self", "x", "y"]
theorem sc_Form___call__ : FnScope N_Form___call__ ["self", "x", "y"] (defScope s_Form___call__) := ⟨rfl, rfl, rfl, by decide +kernel, rfl, by decide +kernel, by decide +kernel⟩
abbrev s_Form_led : Stmt := inClass (topS 39) 8
abbrev N_Form_led : List Str := ["self", "change"]
theorem sc_Form_led : FnScope N_Form_led ["self", "change"] (defScope s_Form_led) := ⟨rfl, rfl, rfl, by decide +kernel, rfl, by decide +kernel, by decide +kernel⟩
abbrev s_Form___eq__ : Stmt := inClass (topS 39) 17
abbrev N_Form___eq__ : List Str := ["self", "other"]
theorem sc_Form___eq__ : FnScope N_Form___eq__ ["self", "other"] (defScope s_Form___eq__) := ⟨rfl, rfl, rfl, by decide +kernel, rfl, by decide +kernel, by decide +kernel⟩
abbrev s_check_threefold : Stmt := topS 41
abbrev N_check_threefold : List Str := ["value"]
theorem sc_check_threefold : FnScope N_check_threefold ["value"] (defScope s_check_threefold) := ⟨rfl, rfl, rfl, by decide +kernel, rfl, by decide +kernel, by decide +kernel⟩
abbrev s_hessian_of : Stmt := topS 42
abbrev N_hessian_of : List Str := ["threefold", "a", "b", "c", "d"]
theorem sc_hessian_of : FnScope N_hessian_of ["threefold"] (defScope s_hessian_of) := ⟨rfl, rfl, rfl, by decide +kernel, rfl, by decide +kernel, by decide +kernel⟩
abbrev s_spread : Stmt := topS 43
abbrev N_spread : List Str := ["threefold", "a", "b", "c", "d"]
theorem sc_spread : FnScope N_spread ["threefold"] (defScope s_spread) := ⟨rfl, rfl, rfl, by decide +kernel, rfl, by decide +kernel, by decide +kernel⟩
abbrev s_led_by : Stmt := topS 44
abbrev N_led_by : List Str := ["threefold", "change", "a", "b", "c", "d"]
theorem sc_led_by : FnScope N_led_by ["threefold", "change"] (defScope s_led_by) := ⟨rfl, rfl, rfl, by decide +kernel, rfl, by decide +kernel, by decide +kernel⟩
abbrev s_small_hessian : Stmt := topS 45
abbrev N_small_hessian : List Str := ["threefold"]
theorem sc_small_hessian : FnScope N_small_hessian ["threefold"] (defScope s_small_hessian) := ⟨rfl, rfl, rfl, by decide +kernel, rfl, by decide +kernel, by decide +kernel⟩
abbrev s_form_of_threefold : Stmt := topS 46
abbrev N_form_of_threefold : List Str := ["threefold"]
theorem sc_form_of_threefold : FnScope N_form_of_threefold ["threefold"] (defScope s_form_of_threefold) := ⟨rfl, rfl, rfl, by decide +kernel, rfl, by decide +kernel, by decide +kernel⟩
abbrev s_threefold_of_form : Stmt := topS 47
abbrev N_threefold_of_form : List Str := ["form", "a", "b", "c", "d"]
theorem sc_threefold_of_form : FnScope N_threefold_of_form ["form"] (defScope s_threefold_of_form) := ⟨rfl, rfl, rfl, by decide +kernel, rfl, by decide +kernel, by decide +kernel⟩
abbrev s_threefold_led : Stmt := topS 48
abbrev N_threefold_led : List Str := ["threefold", "change"]
theorem sc_threefold_led : FnScope N_threefold_led ["threefold", "change"] (defScope s_threefold_led) := ⟨rfl, rfl, rfl, by decide +kernel, rfl, by decide +kernel, by decide +kernel⟩
abbrev s_l_kettle : Stmt := topS 50
abbrev N_l_kettle : List Str := ["_law_script", "_law_spot", "_law_cell", "_law_great"]
theorem sc_l_kettle : FnScope N_l_kettle ["_law_script", "_law_spot"] (defScope s_l_kettle) := ⟨rfl, rfl, rfl, by decide +kernel, rfl, by decide +kernel, by decide +kernel⟩
abbrev s_l_sip : Stmt := topS 51
abbrev N_l_sip : List Str := ["_law_kettle_here", "_law_top", "_law_found", "_law_one", "_law_two"]
theorem sc_l_sip : FnScope N_l_sip ["_law_kettle_here", "_law_top"] (defScope s_l_sip) := ⟨rfl, rfl, rfl, by decide +kernel, rfl, by decide +kernel, by decide +kernel⟩
abbrev s_l_taken : Stmt := topS 52
abbrev N_l_taken : List Str := ["_law_kettle_here", "_law_items"]
theorem sc_l_taken : FnScope N_l_taken ["_law_kettle_here", "_law_items"] (defScope s_l_taken) := ⟨rfl, rfl, rfl, by decide +kernel, rfl, by decide +kernel, by decide +kernel⟩
abbrev s_l_value : Stmt := topS 53
abbrev N_l_value : List Str := ["_law_row", "_law_x", "_law_y", "_law_a", "_law_b", "_law_c", "_law_d"]
theorem sc_l_value : FnScope N_l_value ["_law_row", "_law_x", "_law_y"] (defScope s_l_value) := ⟨rfl, rfl, rfl, by decide +kernel, rfl, by decide +kernel, by decide +kernel⟩
abbrev s_l_moved : Stmt := topS 54
abbrev N_l_moved : List Str := ["_law_row", "_law_change_here", "_law_a", "_law_b", "_law_c", "_law_d", "_law_p", "_law_q", "_law_r", "_law_s", "_law_second", "_law_third"]
theorem sc_l_moved : FnScope N_l_moved ["_law_row", "_law_change_here"] (defScope s_l_moved) := ⟨rfl, rfl, rfl, by decide +kernel, rfl, by decide +kernel, by decide +kernel⟩
abbrev s_l_change : Stmt := topS 55
abbrev N_l_change : List Str := ["_law_kettle_here", "_law_p", "_law_q", "_law_r", "_law_s", "_law_turn", "_law_way", "_law_many"]
theorem sc_l_change : FnScope N_l_change ["_law_kettle_here"] (defScope s_l_change) := ⟨rfl, rfl, rfl, by decide +kernel, rfl, by decide +kernel, by decide +kernel⟩
abbrev s_l_led : Stmt := topS 56
abbrev N_l_led : List Str := ["_law_row", "_law_change_here", "_law_p", "_law_q", "_law_r", "_law_s", "_law_entry"]
theorem sc_l_led : FnScope N_l_led ["_law_row", "_law_change_here"] (defScope s_l_led) := ⟨rfl, rfl, rfl, by decide +kernel, rfl, by decide +kernel, by decide +kernel⟩
abbrev s_l_small : Stmt := topS 57
abbrev N_l_small : List Str := ["_law_threefold", "_law_a", "_law_b", "_law_c", "_law_d"]
theorem sc_l_small : FnScope N_l_small ["_law_threefold"] (defScope s_l_small) := ⟨rfl, rfl, rfl, by decide +kernel, rfl, by decide +kernel, by decide +kernel⟩
abbrev s_l_rules_right : Stmt := topS 58
abbrev N_l_rules_right : List Str := ["_law_threefold", "_law_double", "_law_a", "_law_b", "_law_c", "_law_d", "_law_first", "_law_middle", "_law_last"]
theorem sc_l_rules_right : FnScope N_l_rules_right ["_law_threefold", "_law_double"] (defScope s_l_rules_right) := ⟨rfl, rfl, rfl, by decide +kernel, rfl, by decide +kernel, by decide +kernel⟩
abbrev s_l_right : Stmt := topS 59
abbrev N_l_right : List Str := ["_law_kettle_here", "_law_most", "_law_threefold", "_law_double", "_law_form", "_law_a", "_law_b", "_law_c", "_law_d", "_law_first", "_law_second", "_law_led_here", "_law_twice", "_law_turn", "_law_entry"]
theorem sc_l_right : FnScope N_l_right ["_law_kettle_here"] (defScope s_l_right) := ⟨rfl, rfl, rfl, by decide +kernel, rfl, by decide +kernel, by decide +kernel⟩
abbrev s_law : Stmt := topS 60
abbrev N_law : List Str := ["_law_script", "_law_spot", "_law_kettle_here", "_law_told"]
theorem sc_law : FnScope N_law ["_law_script"] (defScope s_law) := ⟨rfl, rfl, rfl, by decide +kernel, rfl, by decide +kernel, by decide +kernel⟩
structure Txt (K : PySem.W.Frag) (mg : Str → Option Value) (C_Form : Addr) (C_Double : Addr) : Prop where
  g_Form : mg "Form" = some (.ref C_Form)
  cl_Form : Cls K C_Form
  ty_Form : TyI K C_Form
  na_Form_coefficients : NoAttr K C_Form "_coefficients"
  g_Double : mg "Double" = some (.ref C_Double)
  cl_Double : Cls K C_Double
  ty_Double : TyI K C_Double
  na_Double_coefficients : NoAttr K C_Double "_coefficients"
  d_is_any_integer : ∃ f fd, mg "is_any_integer" = some (.ref f) ∧ Fun K "is_any_integer" "is_any_integer" s_is_any_integer f fd
  d_is_short_integer : ∃ f fd, mg "is_short_integer" = some (.ref f) ∧ Fun K "is_short_integer" "is_short_integer" s_is_short_integer f fd
  d_are_any_integers : ∃ f fd, mg "are_any_integers" = some (.ref f) ∧ Fun K "are_any_integers" "are_any_integers" s_are_any_integers f fd
  d_are_short_integers : ∃ f fd, mg "are_short_integers" = some (.ref f) ∧ Fun K "are_short_integers" "are_short_integers" s_are_short_integers f fd
  d_check_integer : ∃ f fd, mg "check_integer" = some (.ref f) ∧ Fun K "check_integer" "check_integer" s_check_integer f fd
  d_determinant_of : ∃ f fd, mg "determinant_of" = some (.ref f) ∧ Fun K "determinant_of" "determinant_of" s_determinant_of f fd
  d_is_change : ∃ f fd, mg "is_change" = some (.ref f) ∧ Fun K "is_change" "is_change" s_is_change f fd
  d_is_short_change : ∃ f fd, mg "is_short_change" = some (.ref f) ∧ Fun K "is_short_change" "is_short_change" s_is_short_change f fd
  d_check_change : ∃ f fd, mg "check_change" = some (.ref f) ∧ Fun K "check_change" "check_change" s_check_change f fd
  d_double_value : ∃ f fd, mg "double_value" = some (.ref f) ∧ Fun K "double_value" "double_value" s_double_value f fd
  d_double_discriminant : ∃ f fd, mg "double_discriminant" = some (.ref f) ∧ Fun K "double_discriminant" "double_discriminant" s_double_discriminant f fd
  d_double_led : ∃ f fd, mg "double_led" = some (.ref f) ∧ Fun K "double_led" "double_led" s_double_led f fd
  d_double_of : ∃ f fd, mg "double_of" = some (.ref f) ∧ Fun K "double_of" "double_of" s_double_of f fd
  e_Double___init__ : ∃ (p f : Addr) (fd : FuncData), Mk K C_Double f ∧ Fun K "__init__" "Double.__init__" s_Double___init__ f fd
  e_Double_coefficients : ∃ (p f : Addr) (fd : FuncData), PropOf K C_Double "coefficients" p f ∧ Fun K "coefficients" "Double.coefficients" s_Double_coefficients f fd
  e_Double_discriminant : ∃ (p f : Addr) (fd : FuncData), PropOf K C_Double "discriminant" p f ∧ Fun K "discriminant" "Double.discriminant" s_Double_discriminant f fd
  e_Double___call__ : ∃ (p f : Addr) (fd : FuncData), StX.CallO K C_Double f ∧ Fun K "__call__" "Double.__call__" s_Double___call__ f fd
  e_Double_led : ∃ (p f : Addr) (fd : FuncData), Meth K C_Double "led" f ∧ Fun K "led" "Double.led" s_Double_led f fd
  e_Double___eq__ : ∃ (p f : Addr) (fd : FuncData), EqC K C_Double f ∧ Fun K "__eq__" "Double.__eq__" s_Double___eq__ f fd
  d_form_value : ∃ f fd, mg "form_value" = some (.ref f) ∧ Fun K "form_value" "form_value" s_form_value f fd
  d_form_discriminant : ∃ f fd, mg "form_discriminant" = some (.ref f) ∧ Fun K "form_discriminant" "form_discriminant" s_form_discriminant f fd
  d_form_hessian : ∃ f fd, mg "form_hessian" = some (.ref f) ∧ Fun K "form_hessian" "form_hessian" s_form_hessian f fd
  d_form_led : ∃ f fd, mg "form_led" = some (.ref f) ∧ Fun K "form_led" "form_led" s_form_led f fd
  d_check_form : ∃ f fd, mg "check_form" = some (.ref f) ∧ Fun K "check_form" "check_form" s_check_form f fd
  d_form_of : ∃ f fd, mg "form_of" = some (.ref f) ∧ Fun K "form_of" "form_of" s_form_of f fd
  e_Form___init__ : ∃ (p f : Addr) (fd : FuncData), Mk K C_Form f ∧ Fun K "__init__" "Form.__init__" s_Form___init__ f fd
  e_Form_coefficients : ∃ (p f : Addr) (fd : FuncData), PropOf K C_Form "coefficients" p f ∧ Fun K "coefficients" "Form.coefficients" s_Form_coefficients f fd
  e_Form_discriminant : ∃ (p f : Addr) (fd : FuncData), PropOf K C_Form "discriminant" p f ∧ Fun K "discriminant" "Form.discriminant" s_Form_discriminant f fd
  e_Form_hessian : ∃ (p f : Addr) (fd : FuncData), PropOf K C_Form "hessian" p f ∧ Fun K "hessian" "Form.hessian" s_Form_hessian f fd
  e_Form___call__ : ∃ (p f : Addr) (fd : FuncData), StX.CallO K C_Form f ∧ Fun K "__call__" "Form.__call__" s_Form___call__ f fd
  e_Form_led : ∃ (p f : Addr) (fd : FuncData), Meth K C_Form "led" f ∧ Fun K "led" "Form.led" s_Form_led f fd
  e_Form___eq__ : ∃ (p f : Addr) (fd : FuncData), EqC K C_Form f ∧ Fun K "__eq__" "Form.__eq__" s_Form___eq__ f fd
  d_check_threefold : ∃ f fd, mg "check_threefold" = some (.ref f) ∧ Fun K "check_threefold" "check_threefold" s_check_threefold f fd
  d_hessian_of : ∃ f fd, mg "hessian_of" = some (.ref f) ∧ Fun K "hessian_of" "hessian_of" s_hessian_of f fd
  d_spread : ∃ f fd, mg "spread" = some (.ref f) ∧ Fun K "spread" "spread" s_spread f fd
  d_led_by : ∃ f fd, mg "led_by" = some (.ref f) ∧ Fun K "led_by" "led_by" s_led_by f fd
  d_small_hessian : ∃ f fd, mg "small_hessian" = some (.ref f) ∧ Fun K "small_hessian" "small_hessian" s_small_hessian f fd
  d_form_of_threefold : ∃ f fd, mg "form_of_threefold" = some (.ref f) ∧ Fun K "form_of_threefold" "form_of_threefold" s_form_of_threefold f fd
  d_threefold_of_form : ∃ f fd, mg "threefold_of_form" = some (.ref f) ∧ Fun K "threefold_of_form" "threefold_of_form" s_threefold_of_form f fd
  d_threefold_led : ∃ f fd, mg "threefold_led" = some (.ref f) ∧ Fun K "threefold_led" "threefold_led" s_threefold_led f fd
  d_l_kettle : ∃ f fd, mg "_law_kettle" = some (.ref f) ∧ Fun K "_law_kettle" "_law_kettle" s_l_kettle f fd
  d_l_sip : ∃ f fd, mg "_law_sip" = some (.ref f) ∧ Fun K "_law_sip" "_law_sip" s_l_sip f fd
  d_l_taken : ∃ f fd, mg "_law_taken" = some (.ref f) ∧ Fun K "_law_taken" "_law_taken" s_l_taken f fd
  d_l_value : ∃ f fd, mg "_law_value" = some (.ref f) ∧ Fun K "_law_value" "_law_value" s_l_value f fd
  d_l_moved : ∃ f fd, mg "_law_moved" = some (.ref f) ∧ Fun K "_law_moved" "_law_moved" s_l_moved f fd
  d_l_change : ∃ f fd, mg "_law_change" = some (.ref f) ∧ Fun K "_law_change" "_law_change" s_l_change f fd
  d_l_led : ∃ f fd, mg "_law_led" = some (.ref f) ∧ Fun K "_law_led" "_law_led" s_l_led f fd
  d_l_small : ∃ f fd, mg "_law_small" = some (.ref f) ∧ Fun K "_law_small" "_law_small" s_l_small f fd
  d_l_rules_right : ∃ f fd, mg "_law_rules_right" = some (.ref f) ∧ Fun K "_law_rules_right" "_law_rules_right" s_l_rules_right f fd
  d_l_right : ∃ f fd, mg "_law_right" = some (.ref f) ∧ Fun K "_law_right" "_law_right" s_l_right f fd
  d_law : ∃ f fd, mg "law" = some (.ref f) ∧ Fun K "law" "law" s_law f fd
  b_abs : mg "abs" = none
  b_all : mg "all" = none
  b_bool : mg "bool" = none
  b_int : mg "int" = none
  b_isinstance : mg "isinstance" = none
  b_len : mg "len" = none
  b_max : mg "max" = none
  b_min : mg "min" = none
  b_range : mg "range" = none
  b_tuple : mg "tuple" = none
  x_LIMIT : ∃ t, mg "LIMIT" = some (.int (1000000000000000000000000000000000000000000000000000000000000) t)
def Short (i : Int) : Prop := -1000000000000000000000000000000000000000000000000000000000000 < i ∧ i < 1000000000000000000000000000000000000000000000000000000000000
theorem Short.b {i : Int} (h : Short i) : B 200 i := ⟨by have := h.1; have := h.2; omega, by decide⟩
def Ti (H : Hp) (a : Addr) (ns : List Int) : Prop := H a = some (.tup (ns.map V.int))
def T4 (H : Hp) (a : Addr) (p q r s : Int) : Prop := ∃ t1 t2, H a = some (.tup [.ref t1, .ref t2]) ∧ H t1 = some (.tup [.int p, .int q]) ∧ H t2 = some (.tup [.int r, .int s])
def FormAt (C : Addr) (H : Hp) (x : Addr) (ns : List Int) : Prop := ∃ dx t, H x = some (.ins C dx [(("_coefficients" : Str), .ref t)]) ∧ Ti H t ns
def ChOk (p q r s : Int) : Prop := Short p ∧ Short q ∧ Short r ∧ Short s ∧ (p * s - q * r = 1 ∨ p * s - q * r = -1)
theorem Ti.ex {H H' : Hp} {a : Addr} {ns : List Int} (h : Ti H a ns) (e : ∀ b xs, H b = some (.tup xs) → H' b = some (.tup xs)) : Ti H' a ns := e _ _ h
theorem T4.ex {H H' : Hp} {a : Addr} {p q r s : Int} (h : T4 H a p q r s) (e : ∀ b xs, H b = some (.tup xs) → H' b = some (.tup xs)) : T4 H' a p q r s := by
  obtain ⟨t1, t2, h0, h1, h2⟩ := h
  exact ⟨t1, t2, e _ _ h0, e _ _ h1, e _ _ h2⟩
theorem get_int {ns : List Int} {i : Nat} {x : V} (hx : (ns.map V.int)[i]? = some x) : ∃ n, ns[i]? = some n ∧ x = V.int n := by
  rw [List.getElem?_map] at hx
  cases e : ns[i]? with
  | none => rw [e] at hx; cases hx
  | some z => rw [e] at hx; exact ⟨z, rfl, (Option.some.inj hx).symm⟩
def gcdL (ns : List Int) : Nat := ns.foldl (fun g n => Nat.gcd g n.natAbs) 0
theorem gcdL_take {ns : List Int} {i : Nat} {n : Int} (h : ns[i]? = some n) : gcdL (ns.take (i + 1)) = Nat.gcd (gcdL (ns.take i)) n.natAbs := by
  unfold gcdL
  rw [List.take_add_one, h, List.foldl_append]
  rfl
def fled (a b c d p q r s : Int) : List Int := [(p * s - q * r) * fv a b c d p q, (p * s - q * r) * fl2 a b c d p q r s, (p * s - q * r) * fl3 a b c d p q r s, (p * s - q * r) * fv a b c d r s]
theorem un4 {K : PySem.W.Frag} {i j k l : Nat} {σ : L2.St} {H : Hp} {a : Addr} {p q r s : Int} {Q : L2.St → Hp → Prop} (h : T4 H a p q r s)
    (z : Q ((((σ.set i (some (.int p))).set j (some (.int q))).set k (some (.int r))).set l (some (.int s))) H) :
    gTup K 2 (gCons (gTup K 2 (gCons (gName i) (gCons (gName j) gNil))) (gCons (gTup K 2 (gCons (gName k) (gCons (gName l) gNil))) gNil)) (.ref a) σ H Q := by
  obtain ⟨t1, t2, h0, h1, h2⟩ := h
  refine ⟨a, _, rfl, SqT.of h0, rfl, _, _, rfl, ?_⟩
  refine ⟨t1, _, rfl, SqT.of h1, rfl, _, _, rfl, ?_⟩
  refine ⟨_, _, rfl, ⟨rfl, ?_⟩⟩
  refine ⟨_, _, rfl, ?_⟩
  refine ⟨t2, _, rfl, SqT.of h2, rfl, _, _, rfl, ?_⟩
  exact ⟨_, _, rfl, ⟨rfl, ⟨rfl, z⟩⟩⟩
theorem unI4 {K : PySem.W.Frag} {i j k l : Nat} {σ : L2.St} {H : Hp} {t : Addr} {a b c d : Int} {Q : L2.St → Hp → Prop} (h : Ti H t [a, b, c, d])
    (z : Q ((((σ.set i (some (.int a))).set j (some (.int b))).set k (some (.int c))).set l (some (.int d))) H) :
    gTup K 4 (gCons (gName i) (gCons (gName j) (gCons (gName k) (gCons (gName l) gNil)))) (.ref t) σ H Q :=
  ⟨t, _, rfl, SqT.of h, rfl, _, _, rfl, _, _, rfl, _, _, rfl, _, _, rfl, rfl, z⟩
theorem unI3 {K : PySem.W.Frag} {i j k : Nat} {σ : L2.St} {H : Hp} {t : Addr} {a b c : Int} {Q : L2.St → Hp → Prop} (h : Ti H t [a, b, c])
    (z : Q (((σ.set i (some (.int a))).set j (some (.int b))).set k (some (.int c))) H) :
    gTup K 3 (gCons (gName i) (gCons (gName j) (gCons (gName k) gNil))) (.ref t) σ H Q :=
  ⟨t, _, rfl, SqT.of h, rfl, _, _, rfl, _, _, rfl, _, _, rfl, rfl, z⟩
theorem t4_new {H : Hp} {t1 t2 x : Addr} {p q r s : Int} (n1 : H t1 = none) (n2 : upd H t1 (.tup [.int p, .int q]) t2 = none) (n3 : upd (upd H t1 (.tup [.int p, .int q])) t2 (.tup [.int r, .int s]) x = none) :
    Ex0 H (upd (upd (upd H t1 (.tup [.int p, .int q])) t2 (.tup [.int r, .int s])) x (.tup [.ref t1, .ref t2])) ∧ T4 (upd (upd (upd H t1 (.tup [.int p, .int q])) t2 (.tup [.int r, .int s])) x (.tup [.ref t1, .ref t2])) x p q r s :=
  ⟨((Ex0.new n1).trans (Ex0.new n2)).trans (Ex0.new n3), t1, t2, upd_same, Ex0.ap (Ex0.new n3) (Ex0.ap (Ex0.new n2) upd_same), Ex0.ap (Ex0.new n3) upd_same⟩
theorem Ex0.t4 {H H' : Hp} {a : Addr} {p q r s : Int} (e : Ex0 H H') (h : T4 H a p q r s) : T4 H' a p q r s := h.ex fun _ _ z => Ex0.ap e z
theorem Ex0.ti {H H' : Hp} {a : Addr} {ns : List Int} (e : Ex0 H H') (h : Ti H a ns) : Ti H' a ns := Ex0.ap e h
theorem Ex0.fo {C : Addr} {H H' : Hp} {x : Addr} {ns : List Int} (e : Ex0 H H') (h : FormAt C H x ns) : FormAt C H' x ns := by
  obtain ⟨dx, t, h1, h2⟩ := h
  exact ⟨dx, t, Ex0.ap e h1, Ex0.ap e h2⟩
section
def sp_is_any_integer (_ : PySem.W.Frag) (C C_D : Addr) : Sp := fun vs H Q _ => ∃ i : Int, vs = [.int i] ∧ Q (.bl true) H
def sp_is_short_integer (_ : PySem.W.Frag) (C C_D : Addr) : Sp := fun vs H Q _ => ∃ i : Int, vs = [.int i] ∧ Short i ∧ Q (.bl true) H
def sp_are_any_integers (_ : PySem.W.Frag) (C C_D : Addr) : Sp := fun vs H Q _ => ∃ (a : Addr) (ns : List Int), vs = [.ref a, .int (ns.length : Int)] ∧ Ti H a ns ∧ ns.length ≤ 1000 ∧ ∀ H', Ex0 H H' → Q (.bl true) H'
def sp_are_short_integers (_ : PySem.W.Frag) (C C_D : Addr) : Sp := fun vs H Q _ => ∃ (a : Addr) (ns : List Int), vs = [.ref a, .int (ns.length : Int)] ∧ Ti H a ns ∧ ns.length ≤ 1000 ∧ (∀ n ∈ ns, Short n) ∧ ∀ H', Ex0 H H' → Q (.bl true) H'
def sp_check_integer (_ : PySem.W.Frag) (C C_D : Addr) : Sp := fun vs H Q _ => ∃ i : Int, vs = [.int i] ∧ Short i ∧ Q .non H
def sp_determinant_of (_ : PySem.W.Frag) (C C_D : Addr) : Sp := fun vs H Q _ => ∃ (a : Addr) (p q r s : Int), vs = [.ref a] ∧ T4 H a p q r s ∧ B 200 p ∧ B 200 q ∧ B 200 r ∧ B 200 s ∧ Q (.int (p * s - q * r)) H
def sp_is_change (_ : PySem.W.Frag) (C C_D : Addr) : Sp := fun vs H Q _ => ∃ (a : Addr) (p q r s : Int), vs = [.ref a] ∧ T4 H a p q r s ∧ ChOk p q r s ∧ ∀ H', Ex0 H H' → Q (.bl true) H'
def sp_is_short_change (_ : PySem.W.Frag) (C C_D : Addr) : Sp := fun vs H Q _ => ∃ (a : Addr) (p q r s : Int), vs = [.ref a] ∧ T4 H a p q r s ∧ ChOk p q r s ∧ ∀ H', Ex0 H H' → Q (.bl true) H'
def sp_check_change (_ : PySem.W.Frag) (C C_D : Addr) : Sp := fun vs H Q _ => ∃ (a : Addr) (p q r s : Int), vs = [.ref a] ∧ T4 H a p q r s ∧ ChOk p q r s ∧ ∀ H', Ex0 H H' → Q .non H'
def sp_double_value (_ : PySem.W.Frag) (C C_D : Addr) : Sp := fun vs H Q _ => ∃ (t : Addr) (a b c x y : Int), vs = [.ref t, .int x, .int y] ∧ Ti H t [a, b, c] ∧ B 1000 a ∧ B 1000 b ∧ B 1000 c ∧ B 200 x ∧ B 200 y ∧ Q (.int (dv a b c x y)) H
def sp_double_discriminant (_ : PySem.W.Frag) (C C_D : Addr) : Sp := fun vs H Q _ => ∃ (t : Addr) (a b c : Int), vs = [.ref t] ∧ Ti H t [a, b, c] ∧ B 1000 a ∧ B 1000 b ∧ B 1000 c ∧ Q (.int (ddisc a b c)) H
def sp_double_led (_ : PySem.W.Frag) (C C_D : Addr) : Sp := fun vs H Q _ => ∃ (t u : Addr) (a b c p q r s : Int), vs = [.ref t, .ref u] ∧ Ti H t [a, b, c] ∧ T4 H u p q r s ∧ B 1000 a ∧ B 1000 b ∧ B 1000 c ∧ B 200 p ∧ B 200 q ∧ B 200 r ∧ B 200 s ∧ ∀ x H', Ex0 H H' → Ti H' x [dv a b c p q, dl a b c p q r s, dv a b c r s] → Q (.ref x) H'
def sp_double_of (_ : PySem.W.Frag) (C C_D : Addr) : Sp := fun vs H Q _ => ∃ (t : Addr) (ns : List Int), vs = [.ref t] ∧ Ti H t ns ∧ ∀ x H', Ex0 H H' → FormAt C_D H' x ns → Q (.ref x) H'
def sp_form_hessian (_ : PySem.W.Frag) (C C_D : Addr) : Sp := fun vs H Q _ => ∃ (t : Addr) (a b c d : Int), vs = [.ref t] ∧ Ti H t [a, b, c, d] ∧ B 1000 a ∧ B 1000 b ∧ B 1000 c ∧ B 1000 d ∧ ∀ x H', Ex0 H H' → Ti H' x [h0 a b c d, h1 a b c d, h2 a b c d] → Q (.ref x) H'
def sp_form_covariant (_ : PySem.W.Frag) (C C_D : Addr) : Sp := fun vs H Q _ => ∃ (t : Addr) (a b c d : Int), vs = [.ref t] ∧ Ti H t [a, b, c, d] ∧ B 1000 a ∧ B 1000 b ∧ B 1000 c ∧ B 1000 d ∧ ∀ x H', Ex0 H H' → Ti H' x [g0 a b c d, g1 a b c d, g2 a b c d, g3 a b c d] → Q (.ref x) H'
def sp_Double___init__ (_ : PySem.W.Frag) (C C_D : Addr) : Sp := fun vs H Q _ => ∃ (x dx t : Addr) (ns : List Int), vs = [.ref x, .ref t] ∧ H x = some (.ins C_D dx []) ∧ Ti H t ns ∧ ns.length = 3 ∧ (∀ n ∈ ns, Short n) ∧ ∀ H', (∀ b o, b ≠ x → H b = some o → H' b = some o) → H' x = some (.ins C_D dx [(("_coefficients" : Str), .ref t)]) → Q .non H'
def sp_Double_coefficients (_ : PySem.W.Frag) (C C_D : Addr) : Sp := fun vs H Q _ => ∃ (x : Addr) (ns : List Int), vs = [.ref x] ∧ FormAt C_D H x ns ∧ ∀ t, Ti H t ns → Q (.ref t) H
def sp_Double_discriminant (_ : PySem.W.Frag) (C C_D : Addr) : Sp := fun vs H Q _ => ∃ (x : Addr) (a b c : Int), vs = [.ref x] ∧ FormAt C_D H x [a, b, c] ∧ B 1000 a ∧ B 1000 b ∧ B 1000 c ∧ Q (.int (ddisc a b c)) H
def sp_Double___call__ (_ : PySem.W.Frag) (C C_D : Addr) : Sp := fun vs H Q _ => ∃ (z : Addr) (a b c x y : Int), vs = [.ref z, .int x, .int y] ∧ FormAt C_D H z [a, b, c] ∧ B 1000 a ∧ B 1000 b ∧ B 1000 c ∧ Short x ∧ Short y ∧ Q (.int (dv a b c x y)) H
def sp_Double_led (_ : PySem.W.Frag) (C C_D : Addr) : Sp := fun vs H Q _ => ∃ (z u : Addr) (a b c p q r s : Int), vs = [.ref z, .ref u] ∧ FormAt C_D H z [a, b, c] ∧ T4 H u p q r s ∧ B 1000 a ∧ B 1000 b ∧ B 1000 c ∧ ChOk p q r s ∧ ∀ x H', Ex0 H H' → FormAt C_D H' x [dv a b c p q, dl a b c p q r s, dv a b c r s] → Q (.ref x) H'
def sp_Form___eq__ (_ : PySem.W.Frag) (C C_D : Addr) : Sp := fun vs H Q _ => ∃ (x y : Addr) (ns ms : List Int), vs = [.ref x, .ref y] ∧ FormAt C H x ns ∧ FormAt C H y ms ∧ Q (.bl (decide (ns = ms))) H
def sp_check_form (_ : PySem.W.Frag) (C C_D : Addr) : Sp := fun vs H Q _ => ∃ (x : Addr) (ns : List Int), vs = [.ref x] ∧ FormAt C H x ns ∧ Q .non H
def sp_Double___eq__ (_ : PySem.W.Frag) (C C_D : Addr) : Sp := fun vs H Q _ => ∃ (x y : Addr) (ns ms : List Int), vs = [.ref x, .ref y] ∧ FormAt C_D H x ns ∧ FormAt C_D H y ms ∧ Q (.bl (decide (ns = ms))) H
def sp_Form_hessian (_ : PySem.W.Frag) (C C_D : Addr) : Sp := fun vs H Q _ => ∃ (z : Addr) (a b c d : Int), vs = [.ref z] ∧ FormAt C H z [a, b, c, d] ∧ B 1000 a ∧ B 1000 b ∧ B 1000 c ∧ B 1000 d ∧ ∀ x H', Ex0 H H' → FormAt C_D H' x [h0 a b c d, h1 a b c d, h2 a b c d] → Q (.ref x) H'
def sp_Form_covariant (_ : PySem.W.Frag) (C C_D : Addr) : Sp := fun vs H Q _ => ∃ (z : Addr) (a b c d : Int), vs = [.ref z] ∧ FormAt C H z [a, b, c, d] ∧ B 1000 a ∧ B 1000 b ∧ B 1000 c ∧ B 1000 d ∧ ∀ x H', Ex0 H H' → FormAt C H' x [g0 a b c d, g1 a b c d, g2 a b c d, g3 a b c d] → Q (.ref x) H'
def sp_form_value (_ : PySem.W.Frag) (C C_D : Addr) : Sp := fun vs H Q _ => ∃ (t : Addr) (a b c d x y : Int), vs = [.ref t, .int x, .int y] ∧ Ti H t [a, b, c, d] ∧ B 1000 a ∧ B 1000 b ∧ B 1000 c ∧ B 1000 d ∧ B 200 x ∧ B 200 y ∧ Q (.int (fv a b c d x y)) H
def sp_form_discriminant (_ : PySem.W.Frag) (C C_D : Addr) : Sp := fun vs H Q _ => ∃ (t : Addr) (a b c d : Int), vs = [.ref t] ∧ Ti H t [a, b, c, d] ∧ B 1000 a ∧ B 1000 b ∧ B 1000 c ∧ B 1000 d ∧ Q (.int (fdisc a b c d)) H
def sp_form_led (_ : PySem.W.Frag) (C C_D : Addr) : Sp := fun vs H Q _ => ∃ (t u : Addr) (a b c d p q r s : Int), vs = [.ref t, .ref u] ∧ Ti H t [a, b, c, d] ∧ T4 H u p q r s ∧ B 1000 a ∧ B 1000 b ∧ B 1000 c ∧ B 1000 d ∧ B 200 p ∧ B 200 q ∧ B 200 r ∧ B 200 s ∧ ∀ x H', Ex0 H H' → Ti H' x (fled a b c d p q r s) → Q (.ref x) H'
def sp_form_of (_ : PySem.W.Frag) (C C_D : Addr) : Sp := fun vs H Q _ => ∃ (t : Addr) (ns : List Int), vs = [.ref t] ∧ Ti H t ns ∧ ∀ x H', Ex0 H H' → FormAt C H' x ns → Q (.ref x) H'
def sp_Form___init__ (_ : PySem.W.Frag) (C C_D : Addr) : Sp := fun vs H Q _ => ∃ (x dx t : Addr) (ns : List Int), vs = [.ref x, .ref t] ∧ H x = some (.ins C dx []) ∧ Ti H t ns ∧ ns.length = 4 ∧ (∀ n ∈ ns, Short n) ∧ ∀ H', (∀ b o, b ≠ x → H b = some o → H' b = some o) → H' x = some (.ins C dx [(("_coefficients" : Str), .ref t)]) → Q .non H'
def sp_Form_coefficients (_ : PySem.W.Frag) (C C_D : Addr) : Sp := fun vs H Q _ => ∃ (x : Addr) (ns : List Int), vs = [.ref x] ∧ FormAt C H x ns ∧ ∀ t, Ti H t ns → Q (.ref t) H
def sp_Form_discriminant (_ : PySem.W.Frag) (C C_D : Addr) : Sp := fun vs H Q _ => ∃ (x : Addr) (a b c d : Int), vs = [.ref x] ∧ FormAt C H x [a, b, c, d] ∧ B 1000 a ∧ B 1000 b ∧ B 1000 c ∧ B 1000 d ∧ Q (.int (fdisc a b c d)) H
def sp_Form___call__ (_ : PySem.W.Frag) (C C_D : Addr) : Sp := fun vs H Q _ => ∃ (z : Addr) (a b c d x y : Int), vs = [.ref z, .int x, .int y] ∧ FormAt C H z [a, b, c, d] ∧ B 1000 a ∧ B 1000 b ∧ B 1000 c ∧ B 1000 d ∧ Short x ∧ Short y ∧ Q (.int (fv a b c d x y)) H
def sp_Form_led (_ : PySem.W.Frag) (C C_D : Addr) : Sp := fun vs H Q _ => ∃ (z u : Addr) (a b c d p q r s : Int), vs = [.ref z, .ref u] ∧ FormAt C H z [a, b, c, d] ∧ T4 H u p q r s ∧ B 1000 a ∧ B 1000 b ∧ B 1000 c ∧ B 1000 d ∧ ChOk p q r s ∧ ∀ x H', Ex0 H H' → FormAt C H' x (fled a b c d p q r s) → Q (.ref x) H'
end
section
variable {P : Program} {w : World} {K : PySem.W.Frag} {mg : Str → Option Value} {base : Heap} {C_Form C_Double : Addr}
theorem ok_is_any_integer (T : Txt K mg C_Form C_Double) : Def P w K mg base 1 "is_any_integer" ["value"] (sp_is_any_integer K C_Form C_Double) := by
  obtain ⟨f_, fd_, g_, F_⟩ := T.d_is_any_integer
  refine ⟨f_, fd_, g_, F_.kp, F_.binds (ps := ["value"]) (fun _ _ _ _ _ _ us hl => match us, hl with | [_], _ => rfl), ?_⟩
  refine F_.ok sc_is_any_integer (fun vs H Q E h => ?_) (fun cdv A outer s H vs Q E hr h => ?_)
  · first | (obtain ⟨rfl, _⟩ := h; rfl) | (obtain ⟨_, rfl, _⟩ := h; rfl) | (obtain ⟨_, _, rfl, _⟩ := h; rfl) | (obtain ⟨_, _, _, rfl, _⟩ := h; rfl) | (obtain ⟨_, _, _, _, rfl, _⟩ := h; rfl) | (obtain ⟨_, _, _, _, _, rfl, _⟩ := h; rfl) | (obtain ⟨_, _, _, _, _, _, rfl, _⟩ := h; rfl) | (obtain ⟨_, _, _, _, _, _, _, rfl, _⟩ := h; rfl) | (obtain ⟨_, _, _, _, _, _, _, _, rfl, _⟩ := h; rfl) | (obtain ⟨_, _, _, _, _, _, _, _, _, rfl, _⟩ := h; rfl) | (obtain ⟨_, _, _, _, _, _, _, _, _, _, rfl, _⟩ := h; rfl) | (obtain ⟨_, _, _, _, _, _, _, _, _, _, _, rfl, _⟩ := h; rfl) | (obtain ⟨_, _, _, _, _, _, _, _, _, _, _, _, rfl, _⟩ := h; rfl) | (obtain ⟨_, _, _, _, _, _, _, _, _, _, _, _, _, rfl, _⟩ := h; rfl) | (obtain ⟨_, _, _, _, _, _, _, _, _, _, _, _, _, _, rfl, _⟩ := h; rfl) | (obtain ⟨_, _, _, _, _, _, _, _, _, _, _, _, _, _, _, rfl, _⟩ := h; rfl) | (obtain ⟨_, _, _, _, _, _, _, _, _, _, _, _, _, _, _, _, rfl, _⟩ := h; rfl) | (obtain ⟨_, _, _, _, _, _, _, _, _, _, _, _, _, _, _, _, _, rfl, _⟩ := h; rfl) | (obtain ⟨_, _, _, _, _, _, _, _, _, _, _, _, _, _, _, _, _, _, rfl, _⟩ := h; rfl) | (obtain ⟨_, _, _, _, _, _, _, _, _, _, _, _, _, _, _, _, _, _, _, rfl, _⟩ := h; rfl) | (obtain ⟨_, _, _, _, _, _, _, _, _, _, _, _, _, _, _, _, _, _, _, _, rfl, _⟩ := h; rfl) | (obtain ⟨_, _, _, _, _, _, _, _, _, _, _, _, _, _, _, _, _, _, _, _, _, rfl, _⟩ := h; rfl) | (obtain ⟨_, _, _, _, _, _, _, _, _, _, _, _, _, _, _, _, _, _, _, _, _, _, rfl, _⟩ := h; rfl) | (obtain ⟨_, _, _, _, _, _, _, _, _, _, _, _, _, _, _, _, _, _, _, _, _, _, _, rfl, _⟩ := h; rfl)
  · obtain ⟨i, rfl, q⟩ := h
    refine ⟨_, (pss_one (ps_ret (pe_and (pe_callB call_isi (by rfl) T.b_isinstance (by decide +kernel) (pa_cons (pv 0) (pa_cons (pe_bltn (v := .ty "int") (by rfl) T.b_int (by decide +kernel) rfl) pa_nil))) (pe_one (pe_not (pe_callB call_isi (by rfl) T.b_isinstance (by decide +kernel) (pa_cons (pv 0) (pa_cons (pe_bltn (v := .ty "bool") (by rfl) T.b_bool (by decide +kernel) rfl) pa_nil)))))))), ?_⟩
    refine ⟨_, rfl, _, _, _, _, true, rfl, .ty _, .base (.int i), kit_ty (by decide +kernel), _, rfl, iteT ?_⟩
    exact ⟨_, rfl, _, _, _, _, false, rfl, .ty _, .base (.int i), kit_ty (by decide +kernel), _, rfl, q⟩
theorem ok_is_short_integer (T : Txt K mg C_Form C_Double) : Def P w K mg base 2 "is_short_integer" ["value"] (sp_is_short_integer K C_Form C_Double) := by
  obtain ⟨f_, fd_, g_, F_⟩ := T.d_is_short_integer
  obtain ⟨f_is_any_integer, fd_is_any_integer, g_is_any_integer, k_is_any_integer, b_is_any_integer, G_is_any_integer⟩ := (ok_is_any_integer (P := P) (w := w) (base := base) T)
  refine ⟨f_, fd_, g_, F_.kp, F_.binds (ps := ["value"]) (fun _ _ _ _ _ _ us hl => match us, hl with | [_], _ => rfl), ?_⟩
  refine F_.ok sc_is_short_integer (fun vs H Q E h => ?_) (fun cdv A outer s H vs Q E hr h => ?_)
  · first | (obtain ⟨rfl, _⟩ := h; rfl) | (obtain ⟨_, rfl, _⟩ := h; rfl) | (obtain ⟨_, _, rfl, _⟩ := h; rfl) | (obtain ⟨_, _, _, rfl, _⟩ := h; rfl) | (obtain ⟨_, _, _, _, rfl, _⟩ := h; rfl) | (obtain ⟨_, _, _, _, _, rfl, _⟩ := h; rfl) | (obtain ⟨_, _, _, _, _, _, rfl, _⟩ := h; rfl) | (obtain ⟨_, _, _, _, _, _, _, rfl, _⟩ := h; rfl) | (obtain ⟨_, _, _, _, _, _, _, _, rfl, _⟩ := h; rfl) | (obtain ⟨_, _, _, _, _, _, _, _, _, rfl, _⟩ := h; rfl) | (obtain ⟨_, _, _, _, _, _, _, _, _, _, rfl, _⟩ := h; rfl) | (obtain ⟨_, _, _, _, _, _, _, _, _, _, _, rfl, _⟩ := h; rfl) | (obtain ⟨_, _, _, _, _, _, _, _, _, _, _, _, rfl, _⟩ := h; rfl) | (obtain ⟨_, _, _, _, _, _, _, _, _, _, _, _, _, rfl, _⟩ := h; rfl) | (obtain ⟨_, _, _, _, _, _, _, _, _, _, _, _, _, _, rfl, _⟩ := h; rfl) | (obtain ⟨_, _, _, _, _, _, _, _, _, _, _, _, _, _, _, rfl, _⟩ := h; rfl) | (obtain ⟨_, _, _, _, _, _, _, _, _, _, _, _, _, _, _, _, rfl, _⟩ := h; rfl) | (obtain ⟨_, _, _, _, _, _, _, _, _, _, _, _, _, _, _, _, _, rfl, _⟩ := h; rfl) | (obtain ⟨_, _, _, _, _, _, _, _, _, _, _, _, _, _, _, _, _, _, rfl, _⟩ := h; rfl) | (obtain ⟨_, _, _, _, _, _, _, _, _, _, _, _, _, _, _, _, _, _, _, rfl, _⟩ := h; rfl) | (obtain ⟨_, _, _, _, _, _, _, _, _, _, _, _, _, _, _, _, _, _, _, _, rfl, _⟩ := h; rfl) | (obtain ⟨_, _, _, _, _, _, _, _, _, _, _, _, _, _, _, _, _, _, _, _, _, rfl, _⟩ := h; rfl) | (obtain ⟨_, _, _, _, _, _, _, _, _, _, _, _, _, _, _, _, _, _, _, _, _, _, rfl, _⟩ := h; rfl) | (obtain ⟨_, _, _, _, _, _, _, _, _, _, _, _, _, _, _, _, _, _, _, _, _, _, _, rfl, _⟩ := h; rfl)
  · obtain ⟨i, rfl, hs, q⟩ := h
    obtain ⟨t_LIMIT, h_LIMIT⟩ := T.x_LIMIT
    refine ⟨_, (pss_one (ps_ret (pe_and (pe_call G_is_any_integer (hr.mono (by decide)) (by rfl) g_is_any_integer k_is_any_integer b_is_any_integer .nil pass0 (pa_cons (pv 0) pa_nil)) (pe_one (pe_chain op_lt op_lt (pe_un un_neg (pe_glob (v := .int 1000000000000000000000000000000000000000000000000000000000000) (by rfl) h_LIMIT ⟨_, rfl⟩)) (pv 0) (pe_glob (v := .int 1000000000000000000000000000000000000000000000000000000000000) (by rfl) h_LIMIT ⟨_, rfl⟩)))))), ?_⟩
    refine ⟨_, rfl, i, rfl, _, rfl, iteT ?_⟩
    refine ⟨_, rfl, _, rfl, _, _, rfl, rfl, _, rfl, dT hs.1 ⟨_, _, rfl, rfl, ?_⟩⟩
    show Q (.bl (decide (i < 1000000000000000000000000000000000000000000000000000000000000))) H
    rw [decide_eq_true hs.2]
    exact q
theorem ok_check_integer (T : Txt K mg C_Form C_Double) : Def P w K mg base 3 "check_integer" ["value"] (sp_check_integer K C_Form C_Double) := by
  obtain ⟨f_, fd_, g_, F_⟩ := T.d_check_integer
  obtain ⟨f_is_short_integer, fd_is_short_integer, g_is_short_integer, k_is_short_integer, b_is_short_integer, G_is_short_integer⟩ := (ok_is_short_integer (P := P) (w := w) (base := base) T)
  refine ⟨f_, fd_, g_, F_.kp, F_.binds (ps := ["value"]) (fun _ _ _ _ _ _ us hl => match us, hl with | [_], _ => rfl), ?_⟩
  refine F_.ok sc_check_integer (fun vs H Q E h => ?_) (fun cdv A outer s H vs Q E hr h => ?_)
  · first | (obtain ⟨rfl, _⟩ := h; rfl) | (obtain ⟨_, rfl, _⟩ := h; rfl) | (obtain ⟨_, _, rfl, _⟩ := h; rfl) | (obtain ⟨_, _, _, rfl, _⟩ := h; rfl) | (obtain ⟨_, _, _, _, rfl, _⟩ := h; rfl) | (obtain ⟨_, _, _, _, _, rfl, _⟩ := h; rfl) | (obtain ⟨_, _, _, _, _, _, rfl, _⟩ := h; rfl) | (obtain ⟨_, _, _, _, _, _, _, rfl, _⟩ := h; rfl) | (obtain ⟨_, _, _, _, _, _, _, _, rfl, _⟩ := h; rfl) | (obtain ⟨_, _, _, _, _, _, _, _, _, rfl, _⟩ := h; rfl) | (obtain ⟨_, _, _, _, _, _, _, _, _, _, rfl, _⟩ := h; rfl) | (obtain ⟨_, _, _, _, _, _, _, _, _, _, _, rfl, _⟩ := h; rfl) | (obtain ⟨_, _, _, _, _, _, _, _, _, _, _, _, rfl, _⟩ := h; rfl) | (obtain ⟨_, _, _, _, _, _, _, _, _, _, _, _, _, rfl, _⟩ := h; rfl) | (obtain ⟨_, _, _, _, _, _, _, _, _, _, _, _, _, _, rfl, _⟩ := h; rfl) | (obtain ⟨_, _, _, _, _, _, _, _, _, _, _, _, _, _, _, rfl, _⟩ := h; rfl) | (obtain ⟨_, _, _, _, _, _, _, _, _, _, _, _, _, _, _, _, rfl, _⟩ := h; rfl) | (obtain ⟨_, _, _, _, _, _, _, _, _, _, _, _, _, _, _, _, _, rfl, _⟩ := h; rfl) | (obtain ⟨_, _, _, _, _, _, _, _, _, _, _, _, _, _, _, _, _, _, rfl, _⟩ := h; rfl) | (obtain ⟨_, _, _, _, _, _, _, _, _, _, _, _, _, _, _, _, _, _, _, rfl, _⟩ := h; rfl) | (obtain ⟨_, _, _, _, _, _, _, _, _, _, _, _, _, _, _, _, _, _, _, _, rfl, _⟩ := h; rfl) | (obtain ⟨_, _, _, _, _, _, _, _, _, _, _, _, _, _, _, _, _, _, _, _, _, rfl, _⟩ := h; rfl) | (obtain ⟨_, _, _, _, _, _, _, _, _, _, _, _, _, _, _, _, _, _, _, _, _, _, rfl, _⟩ := h; rfl) | (obtain ⟨_, _, _, _, _, _, _, _, _, _, _, _, _, _, _, _, _, _, _, _, _, _, _, rfl, _⟩ := h; rfl)
  · obtain ⟨i, rfl, hs, q⟩ := h
    refine ⟨_, (pss_one (ps_if (pt_not (pt_val (pe_call G_is_short_integer (hr.mono (by decide)) (by rfl) g_is_short_integer k_is_short_integer b_is_short_integer .nil pass0 (pa_cons (pv 0) pa_nil))))
      pss_never
      pss_nil)), ?_⟩
    refine ⟨_, rfl, i, rfl, hs, _, rfl, ?_⟩
    exact iteF q
theorem ok_are_any_integers (T : Txt K mg C_Form C_Double) : Def P w K mg base 2 "are_any_integers" ["value", "many"] (sp_are_any_integers K C_Form C_Double) := by
  obtain ⟨f_, fd_, g_, F_⟩ := T.d_are_any_integers
  obtain ⟨f_is_any_integer, fd_is_any_integer, g_is_any_integer, k_is_any_integer, b_is_any_integer, G_is_any_integer⟩ := (ok_is_any_integer (P := P) (w := w) (base := base) T)
  refine ⟨f_, fd_, g_, F_.kp, F_.binds (ps := ["value", "many"]) (fun _ _ _ _ _ _ us hl => match us, hl with | [_, _], _ => rfl), ?_⟩
  refine F_.ok sc_are_any_integers (fun vs H Q E h => ?_) (fun cdv A outer s H vs Q E hr h => ?_)
  · first | (obtain ⟨rfl, _⟩ := h; rfl) | (obtain ⟨_, rfl, _⟩ := h; rfl) | (obtain ⟨_, _, rfl, _⟩ := h; rfl) | (obtain ⟨_, _, _, rfl, _⟩ := h; rfl) | (obtain ⟨_, _, _, _, rfl, _⟩ := h; rfl) | (obtain ⟨_, _, _, _, _, rfl, _⟩ := h; rfl) | (obtain ⟨_, _, _, _, _, _, rfl, _⟩ := h; rfl) | (obtain ⟨_, _, _, _, _, _, _, rfl, _⟩ := h; rfl) | (obtain ⟨_, _, _, _, _, _, _, _, rfl, _⟩ := h; rfl) | (obtain ⟨_, _, _, _, _, _, _, _, _, rfl, _⟩ := h; rfl) | (obtain ⟨_, _, _, _, _, _, _, _, _, _, rfl, _⟩ := h; rfl) | (obtain ⟨_, _, _, _, _, _, _, _, _, _, _, rfl, _⟩ := h; rfl) | (obtain ⟨_, _, _, _, _, _, _, _, _, _, _, _, rfl, _⟩ := h; rfl) | (obtain ⟨_, _, _, _, _, _, _, _, _, _, _, _, _, rfl, _⟩ := h; rfl) | (obtain ⟨_, _, _, _, _, _, _, _, _, _, _, _, _, _, rfl, _⟩ := h; rfl) | (obtain ⟨_, _, _, _, _, _, _, _, _, _, _, _, _, _, _, rfl, _⟩ := h; rfl) | (obtain ⟨_, _, _, _, _, _, _, _, _, _, _, _, _, _, _, _, rfl, _⟩ := h; rfl) | (obtain ⟨_, _, _, _, _, _, _, _, _, _, _, _, _, _, _, _, _, rfl, _⟩ := h; rfl) | (obtain ⟨_, _, _, _, _, _, _, _, _, _, _, _, _, _, _, _, _, _, rfl, _⟩ := h; rfl) | (obtain ⟨_, _, _, _, _, _, _, _, _, _, _, _, _, _, _, _, _, _, _, rfl, _⟩ := h; rfl) | (obtain ⟨_, _, _, _, _, _, _, _, _, _, _, _, _, _, _, _, _, _, _, _, rfl, _⟩ := h; rfl) | (obtain ⟨_, _, _, _, _, _, _, _, _, _, _, _, _, _, _, _, _, _, _, _, _, rfl, _⟩ := h; rfl) | (obtain ⟨_, _, _, _, _, _, _, _, _, _, _, _, _, _, _, _, _, _, _, _, _, _, rfl, _⟩ := h; rfl) | (obtain ⟨_, _, _, _, _, _, _, _, _, _, _, _, _, _, _, _, _, _, _, _, _, _, _, rfl, _⟩ := h; rfl)
  · obtain ⟨a, ns, rfl, ha, hl, q⟩ := h
    refine ⟨_, (pss_cons (ps_if (PW.pt (pw_or (pt_not (pt_val (pe_callB call_isi (by rfl) T.b_isinstance (by decide +kernel) (pa_cons (pv 0) (pa_cons (pe_bltn (v := .ty "tuple") (by rfl) T.b_tuple (by decide +kernel) rfl) pa_nil))))) (pw_or1 (pt_cmpR op_ne (pe_callB call_len_seq (by rfl) T.b_len PySem.boot_len (pa_cons (pv 0) pa_nil)) (pv 1) (nomark _)))))
      (pss_one (ps_ret pe_bl))
      pss_nil)
    (pss_one (ps_ret (pe_callB (cr_all rfl) (by rfl) T.b_all (by decide +kernel) (pa_cons (pe_lc (own := [("number", 2)]) (g := (gName 2)) rfl sc_are_any_integers.nd (pi_tup (pv 0)) (blkOk_by (N := N_are_any_integers) (sc := defScope s_are_any_integers) (by decide +kernel)) (fun _ _ _ _ _ => (pg_name (i := 2) sc_are_any_integers.nd rfl (.inl rfl))) (fun _ _ _ _ _ => pts_nil) (fun _ _ _ _ _ => (pe_call G_is_any_integer (hr.mono (by decide)) (by rfl) g_is_any_integer k_is_any_integer b_is_any_integer .nil pass0 (pa_cons (pv 2) pa_nil)))) pa_nil))))), ?_⟩
    refine ⟨_, rfl, _, _, _, _, true, rfl, .ty _, .base (.tup ha), kit_ty (by decide +kernel), _, rfl, ?_⟩
    refine iteF ⟨_, rfl, a, _, rfl, .inr (SqT.of ha), _, rfl, rfl, _, rfl, ?_⟩
    refine ndF (by rw [List.length_map]) ?_
    refine ⟨_, rfl, a, rfl, ⟨_, SqT.of ha⟩, ?_⟩
    refine lcT fm0 trivial (SqT.of ha) (fun z => z) (fun i acc _ => acc = (List.replicate i true).map V.bl) (fun _ _ => rfl) (fun D i x acc H' hD hx e hA hlen hp => ?_) (fun D H' acc hD e hA hp => ?_)
    · obtain ⟨n, hn, rfl⟩ := get_int hx
      have hi := (List.getElem?_eq_some_iff.mp hn).1
      refine ⟨rfl, ?_⟩
      refine ⟨_, rfl, n, rfl, ?_⟩
      refine cs_yes fm0 trivial hD e hA hlen (by omega) (Fx.refl trivial) ?_
      show acc ++ [V.bl true] = _
      rw [hp, List.replicate_succ', List.map_append]
      rfl
    · rw [List.length_map] at hp
      subst hp
      refine ⟨D, _, rfl, SqL.of hA, ?_⟩
      rw [show ((List.replicate ns.length true).all id) = true by simp]
      exact q H' e
theorem ok_are_short_integers (T : Txt K mg C_Form C_Double) : Def P w K mg base 3 "are_short_integers" ["value", "many"] (sp_are_short_integers K C_Form C_Double) := by
  obtain ⟨f_, fd_, g_, F_⟩ := T.d_are_short_integers
  refine ⟨f_, fd_, g_, F_.kp, F_.binds (ps := ["value", "many"]) (fun _ _ _ _ _ _ us hl => match us, hl with | [_, _], _ => rfl), ?_⟩
  refine F_.ok sc_are_short_integers (fun vs H Q E h => ?_) (fun cdv A outer s H vs Q E hr h => ?_)
  · first | (obtain ⟨rfl, _⟩ := h; rfl) | (obtain ⟨_, rfl, _⟩ := h; rfl) | (obtain ⟨_, _, rfl, _⟩ := h; rfl) | (obtain ⟨_, _, _, rfl, _⟩ := h; rfl) | (obtain ⟨_, _, _, _, rfl, _⟩ := h; rfl) | (obtain ⟨_, _, _, _, _, rfl, _⟩ := h; rfl) | (obtain ⟨_, _, _, _, _, _, rfl, _⟩ := h; rfl) | (obtain ⟨_, _, _, _, _, _, _, rfl, _⟩ := h; rfl) | (obtain ⟨_, _, _, _, _, _, _, _, rfl, _⟩ := h; rfl) | (obtain ⟨_, _, _, _, _, _, _, _, _, rfl, _⟩ := h; rfl) | (obtain ⟨_, _, _, _, _, _, _, _, _, _, rfl, _⟩ := h; rfl) | (obtain ⟨_, _, _, _, _, _, _, _, _, _, _, rfl, _⟩ := h; rfl) | (obtain ⟨_, _, _, _, _, _, _, _, _, _, _, _, rfl, _⟩ := h; rfl) | (obtain ⟨_, _, _, _, _, _, _, _, _, _, _, _, _, rfl, _⟩ := h; rfl) | (obtain ⟨_, _, _, _, _, _, _, _, _, _, _, _, _, _, rfl, _⟩ := h; rfl) | (obtain ⟨_, _, _, _, _, _, _, _, _, _, _, _, _, _, _, rfl, _⟩ := h; rfl) | (obtain ⟨_, _, _, _, _, _, _, _, _, _, _, _, _, _, _, _, rfl, _⟩ := h; rfl) | (obtain ⟨_, _, _, _, _, _, _, _, _, _, _, _, _, _, _, _, _, rfl, _⟩ := h; rfl) | (obtain ⟨_, _, _, _, _, _, _, _, _, _, _, _, _, _, _, _, _, _, rfl, _⟩ := h; rfl) | (obtain ⟨_, _, _, _, _, _, _, _, _, _, _, _, _, _, _, _, _, _, _, rfl, _⟩ := h; rfl) | (obtain ⟨_, _, _, _, _, _, _, _, _, _, _, _, _, _, _, _, _, _, _, _, rfl, _⟩ := h; rfl) | (obtain ⟨_, _, _, _, _, _, _, _, _, _, _, _, _, _, _, _, _, _, _, _, _, rfl, _⟩ := h; rfl) | (obtain ⟨_, _, _, _, _, _, _, _, _, _, _, _, _, _, _, _, _, _, _, _, _, _, rfl, _⟩ := h; rfl) | (obtain ⟨_, _, _, _, _, _, _, _, _, _, _, _, _, _, _, _, _, _, _, _, _, _, _, rfl, _⟩ := h; rfl)
  · obtain ⟨a, ns, rfl, ha, hl, hs, q⟩ := h
    obtain ⟨t_LIMIT, h_LIMIT⟩ := T.x_LIMIT
    refine ⟨_, (pss_cons (ps_if (PW.pt (pw_or (pt_not (pt_val (pe_callB call_isi (by rfl) T.b_isinstance (by decide +kernel) (pa_cons (pv 0) (pa_cons (pe_bltn (v := .ty "tuple") (by rfl) T.b_tuple (by decide +kernel) rfl) pa_nil))))) (pw_or1 (pt_cmpR op_ne (pe_callB call_len_seq (by rfl) T.b_len PySem.boot_len (pa_cons (pv 0) pa_nil)) (pv 1) (nomark _)))))
      (pss_one (ps_ret pe_bl))
      pss_nil)
    (pss_one (ps_ret (pe_callB (cr_all rfl) (by rfl) T.b_all (by decide +kernel) (pa_cons (pe_lc (own := [("n", 2)]) (g := (gName 2)) rfl sc_are_short_integers.nd (pi_tup (pv 0)) (blkOk_by (N := N_are_short_integers) (sc := defScope s_are_short_integers) (by decide +kernel)) (fun _ _ _ _ _ => (pg_name (i := 2) sc_are_short_integers.nd rfl (.inl rfl))) (fun _ _ _ _ _ => pts_nil) (fun _ _ _ _ _ => (pe_and (pe_callB (call_isiKK (K := K) rfl) (by rfl) T.b_isinstance (by decide +kernel) (pa_cons (pv 2) (pa_cons (pe_bltn (v := .ty "int") (by rfl) T.b_int (by decide +kernel) rfl) pa_nil))) (pe_and (pe_not (pe_callB (call_isiKK (K := K) rfl) (by rfl) T.b_isinstance (by decide +kernel) (pa_cons (pv 2) (pa_cons (pe_bltn (v := .ty "bool") (by rfl) T.b_bool (by decide +kernel) rfl) pa_nil)))) (pe_one (pe_chain op_lt op_lt (pe_un un_neg (pe_glob (v := .int 1000000000000000000000000000000000000000000000000000000000000) (by rfl) h_LIMIT ⟨_, rfl⟩)) (pv 2) (pe_glob (v := .int 1000000000000000000000000000000000000000000000000000000000000) (by rfl) h_LIMIT ⟨_, rfl⟩))))))) pa_nil))))), ?_⟩
    refine ⟨_, rfl, _, _, _, _, true, rfl, .ty _, .base (.tup ha), kit_ty (by decide +kernel), _, rfl, ?_⟩
    refine iteF ⟨_, rfl, a, _, rfl, .inr (SqT.of ha), _, rfl, rfl, _, rfl, ?_⟩
    refine ndF (by rw [List.length_map]) ?_
    refine ⟨_, rfl, a, rfl, ⟨_, SqT.of ha⟩, ?_⟩
    refine lcT fm0 trivial (SqT.of ha) (fun z => z) (fun i acc _ => acc = (List.replicate i true).map V.bl) (fun _ _ => rfl) (fun D i x acc H' hD hx e hA hlen hp => ?_) (fun D H' acc hD e hA hp => ?_)
    · obtain ⟨n, hn, rfl⟩ := get_int hx
      have hi := (List.getElem?_eq_some_iff.mp hn).1
      refine ⟨rfl, ?_⟩
      have hn2 := hs n (List.mem_of_getElem? hn)
      refine ⟨_, rfl, _, _, _, _, true, rfl, .ty _, .base (.int n), kit_ty (by decide +kernel), _, rfl, iteT ?_⟩
      refine ⟨_, rfl, _, _, _, _, false, rfl, .ty _, .base (.int n), kit_ty (by decide +kernel), _, rfl, _, rfl, iteT ?_⟩
      refine ⟨_, rfl, _, rfl, _, _, rfl, rfl, _, rfl, dT hn2.1 ⟨_, _, rfl, rfl, ?_⟩⟩
      simp only [decide_eq_true hn2.2]
      refine cs_yes fm0 trivial hD e hA hlen (by omega) (Fx.refl trivial) ?_
      show acc ++ [V.bl true] = _
      rw [hp, List.replicate_succ', List.map_append]
      rfl
    · rw [List.length_map] at hp
      subst hp
      refine ⟨D, _, rfl, SqL.of hA, ?_⟩
      rw [show ((List.replicate ns.length true).all id) = true by simp]
      exact q H' e
theorem ok_determinant_of (T : Txt K mg C_Form C_Double) : Def P w K mg base 1 "determinant_of" ["change"] (sp_determinant_of K C_Form C_Double) := by
  obtain ⟨f_, fd_, g_, F_⟩ := T.d_determinant_of
  refine ⟨f_, fd_, g_, F_.kp, F_.binds (ps := ["change"]) (fun _ _ _ _ _ _ us hl => match us, hl with | [_], _ => rfl), ?_⟩
  refine F_.ok sc_determinant_of (fun vs H Q E h => ?_) (fun cdv A outer s H vs Q E hr h => ?_)
  · first | (obtain ⟨rfl, _⟩ := h; rfl) | (obtain ⟨_, rfl, _⟩ := h; rfl) | (obtain ⟨_, _, rfl, _⟩ := h; rfl) | (obtain ⟨_, _, _, rfl, _⟩ := h; rfl) | (obtain ⟨_, _, _, _, rfl, _⟩ := h; rfl) | (obtain ⟨_, _, _, _, _, rfl, _⟩ := h; rfl) | (obtain ⟨_, _, _, _, _, _, rfl, _⟩ := h; rfl) | (obtain ⟨_, _, _, _, _, _, _, rfl, _⟩ := h; rfl) | (obtain ⟨_, _, _, _, _, _, _, _, rfl, _⟩ := h; rfl) | (obtain ⟨_, _, _, _, _, _, _, _, _, rfl, _⟩ := h; rfl) | (obtain ⟨_, _, _, _, _, _, _, _, _, _, rfl, _⟩ := h; rfl) | (obtain ⟨_, _, _, _, _, _, _, _, _, _, _, rfl, _⟩ := h; rfl) | (obtain ⟨_, _, _, _, _, _, _, _, _, _, _, _, rfl, _⟩ := h; rfl) | (obtain ⟨_, _, _, _, _, _, _, _, _, _, _, _, _, rfl, _⟩ := h; rfl) | (obtain ⟨_, _, _, _, _, _, _, _, _, _, _, _, _, _, rfl, _⟩ := h; rfl) | (obtain ⟨_, _, _, _, _, _, _, _, _, _, _, _, _, _, _, rfl, _⟩ := h; rfl) | (obtain ⟨_, _, _, _, _, _, _, _, _, _, _, _, _, _, _, _, rfl, _⟩ := h; rfl) | (obtain ⟨_, _, _, _, _, _, _, _, _, _, _, _, _, _, _, _, _, rfl, _⟩ := h; rfl) | (obtain ⟨_, _, _, _, _, _, _, _, _, _, _, _, _, _, _, _, _, _, rfl, _⟩ := h; rfl) | (obtain ⟨_, _, _, _, _, _, _, _, _, _, _, _, _, _, _, _, _, _, _, rfl, _⟩ := h; rfl) | (obtain ⟨_, _, _, _, _, _, _, _, _, _, _, _, _, _, _, _, _, _, _, _, rfl, _⟩ := h; rfl) | (obtain ⟨_, _, _, _, _, _, _, _, _, _, _, _, _, _, _, _, _, _, _, _, _, rfl, _⟩ := h; rfl) | (obtain ⟨_, _, _, _, _, _, _, _, _, _, _, _, _, _, _, _, _, _, _, _, _, _, rfl, _⟩ := h; rfl) | (obtain ⟨_, _, _, _, _, _, _, _, _, _, _, _, _, _, _, _, _, _, _, _, _, _, _, rfl, _⟩ := h; rfl)
  · obtain ⟨a, p, q', r, s', rfl, ⟨t1, t2, h0, h1, h2⟩, bp, bq, br, bs, q⟩ := h
    refine ⟨_, (pss_cons (ps_asg (pv 0) (pg_tup (by rfl) (pgs_cons (pg_tup (by rfl) (pgs_cons (pg_name (i := 1) sc_determinant_of.nd rfl (.inl rfl)) (pgs_cons (pg_name (i := 2) sc_determinant_of.nd rfl (.inl rfl)) pgs_nil))) (pgs_cons (pg_tup (by rfl) (pgs_cons (pg_name (i := 3) sc_determinant_of.nd rfl (.inl rfl)) (pgs_cons (pg_name (i := 4) sc_determinant_of.nd rfl (.inl rfl)) pgs_nil))) pgs_nil))))
    (pss_one (ps_ret (pe_op op_sub (pe_op op_mulW (pv 1) (pv 4)) (pe_op op_mulW (pv 2) (pv 3)))))), ?_⟩
    refine ⟨_, rfl, a, _, rfl, SqT.of h0, rfl, _, _, rfl, ?_⟩
    refine ⟨t1, _, rfl, SqT.of h1, rfl, _, _, rfl, ?_⟩
    refine ⟨_, _, rfl, ⟨rfl, ?_⟩⟩
    refine ⟨_, _, rfl, ?_⟩
    refine ⟨t2, _, rfl, SqT.of h2, rfl, _, _, rfl, ?_⟩
    refine ⟨_, _, rfl, ⟨rfl, ?_⟩⟩
    refine ⟨rfl, ?_⟩
    exact ⟨_, rfl, _, rfl, _, _, rfl, rfl, mulB (by with_reducible assumption) (by with_reducible assumption) (by decide), _, rfl, _, rfl, _, _, rfl, rfl, mulB (by with_reducible assumption) (by with_reducible assumption) (by decide), _, _, rfl, rfl, q⟩
theorem ok_is_change (T : Txt K mg C_Form C_Double) : Def P w K mg base 3 "is_change" ["value"] (sp_is_change K C_Form C_Double) := by
  obtain ⟨f_, fd_, g_, F_⟩ := T.d_is_change
  obtain ⟨f_are_any_integers, fd_are_any_integers, g_are_any_integers, k_are_any_integers, b_are_any_integers, G_are_any_integers⟩ := (ok_are_any_integers (P := P) (w := w) (base := base) T)
  obtain ⟨f_determinant_of, fd_determinant_of, g_determinant_of, k_determinant_of, b_determinant_of, G_determinant_of⟩ := (ok_determinant_of (P := P) (w := w) (base := base) T)
  refine ⟨f_, fd_, g_, F_.kp, F_.binds (ps := ["value"]) (fun _ _ _ _ _ _ us hl => match us, hl with | [_], _ => rfl), ?_⟩
  refine F_.ok sc_is_change (fun vs H Q E h => ?_) (fun cdv A outer s H vs Q E hr h => ?_)
  · first | (obtain ⟨rfl, _⟩ := h; rfl) | (obtain ⟨_, rfl, _⟩ := h; rfl) | (obtain ⟨_, _, rfl, _⟩ := h; rfl) | (obtain ⟨_, _, _, rfl, _⟩ := h; rfl) | (obtain ⟨_, _, _, _, rfl, _⟩ := h; rfl) | (obtain ⟨_, _, _, _, _, rfl, _⟩ := h; rfl) | (obtain ⟨_, _, _, _, _, _, rfl, _⟩ := h; rfl) | (obtain ⟨_, _, _, _, _, _, _, rfl, _⟩ := h; rfl) | (obtain ⟨_, _, _, _, _, _, _, _, rfl, _⟩ := h; rfl) | (obtain ⟨_, _, _, _, _, _, _, _, _, rfl, _⟩ := h; rfl) | (obtain ⟨_, _, _, _, _, _, _, _, _, _, rfl, _⟩ := h; rfl) | (obtain ⟨_, _, _, _, _, _, _, _, _, _, _, rfl, _⟩ := h; rfl) | (obtain ⟨_, _, _, _, _, _, _, _, _, _, _, _, rfl, _⟩ := h; rfl) | (obtain ⟨_, _, _, _, _, _, _, _, _, _, _, _, _, rfl, _⟩ := h; rfl) | (obtain ⟨_, _, _, _, _, _, _, _, _, _, _, _, _, _, rfl, _⟩ := h; rfl) | (obtain ⟨_, _, _, _, _, _, _, _, _, _, _, _, _, _, _, rfl, _⟩ := h; rfl) | (obtain ⟨_, _, _, _, _, _, _, _, _, _, _, _, _, _, _, _, rfl, _⟩ := h; rfl) | (obtain ⟨_, _, _, _, _, _, _, _, _, _, _, _, _, _, _, _, _, rfl, _⟩ := h; rfl) | (obtain ⟨_, _, _, _, _, _, _, _, _, _, _, _, _, _, _, _, _, _, rfl, _⟩ := h; rfl) | (obtain ⟨_, _, _, _, _, _, _, _, _, _, _, _, _, _, _, _, _, _, _, rfl, _⟩ := h; rfl) | (obtain ⟨_, _, _, _, _, _, _, _, _, _, _, _, _, _, _, _, _, _, _, _, rfl, _⟩ := h; rfl) | (obtain ⟨_, _, _, _, _, _, _, _, _, _, _, _, _, _, _, _, _, _, _, _, _, rfl, _⟩ := h; rfl) | (obtain ⟨_, _, _, _, _, _, _, _, _, _, _, _, _, _, _, _, _, _, _, _, _, _, rfl, _⟩ := h; rfl) | (obtain ⟨_, _, _, _, _, _, _, _, _, _, _, _, _, _, _, _, _, _, _, _, _, _, _, rfl, _⟩ := h; rfl)
  · obtain ⟨a, p, q', r, s', rfl, h4, hc, q⟩ := h
    obtain ⟨t1, t2, h0, h1, h2⟩ := id h4
    refine ⟨_, (pss_cons (ps_if (PW.pt (pw_or (pt_not (pt_val (pe_callB call_isi (by rfl) T.b_isinstance (by decide +kernel) (pa_cons (pv 0) (pa_cons (pe_bltn (v := .ty "tuple") (by rfl) T.b_tuple (by decide +kernel) rfl) pa_nil))))) (pw_or1 (pt_cmpR op_ne (pe_callB call_len_seq (by rfl) T.b_len PySem.boot_len (pa_cons (pv 0) pa_nil)) pe_int (nomark _)))))
      (pss_one (ps_ret pe_bl))
      pss_nil)
    (pss_cons (ps_if (pt_not (pt_val (pe_callB (cr_all rfl) (by rfl) T.b_all (by decide +kernel) (pa_cons (pe_lc (own := [("row", 1)]) (g := (gName 1)) rfl sc_is_change.nd (pi_tup (pv 0)) (blkOk_by (N := N_is_change) (sc := defScope s_is_change) (by decide +kernel)) (fun _ _ _ _ _ => (pg_name (i := 1) sc_is_change.nd rfl (.inl rfl))) (fun _ _ _ _ _ => pts_nil) (fun _ _ _ _ _ => (pe_call G_are_any_integers (hr.mono (by decide)) (by rfl) g_are_any_integers k_are_any_integers b_are_any_integers .nil pass0 (pa_cons (pv 1) (pa_cons pe_int pa_nil))))) pa_nil))))
      (pss_one (ps_ret pe_bl))
      pss_nil)
    (pss_one (ps_ret (pe_cmpR op_in_seq (pe_call G_determinant_of (hr.mono (by decide)) (by rfl) g_determinant_of k_determinant_of b_determinant_of .nil pass0 (pa_cons (pv 0) pa_nil)) (pe_tup (pa_cons pe_int (pa_cons (pe_un un_neg pe_int) pa_nil))) (by with_unfolding_all rfl)))))), ?_⟩
    refine ⟨_, rfl, _, _, _, _, true, rfl, .ty _, .base (.tup h0), kit_ty (by decide +kernel), _, rfl, ?_⟩
    refine iteF ⟨_, rfl, a, _, rfl, .inr (SqT.of h0), rfl, _, rfl, ?_⟩
    refine ndF rfl ?_
    refine ⟨_, rfl, a, rfl, ⟨_, SqT.of h0⟩, ?_⟩
    refine lcT fm0 trivial (SqT.of h0) (fun z => z) (fun i acc _ => acc = (List.replicate i true).map V.bl) (fun _ _ => rfl) (fun D i x acc H' hD hx e hA hlen hp => ?_) (fun D H' acc hD e hA hp => ?_)
    · have fin : ∀ (t : Addr) (u v : Int), x = .ref t → H t = some (.tup [.int u, .int v]) → i < 2 → ∃ t, x = .ref t ∧ ∃ u v, H' t = some (.tup [.int u, .int v]) ∧ i < 2 := fun t u v e1 e2 e3 => ⟨t, e1, u, v, Ex0.ap e e2, e3⟩
      obtain ⟨t, rfl, u, v, ht, hi⟩ : ∃ t, x = .ref t ∧ ∃ u v, H' t = some (.tup [.int u, .int v]) ∧ i < 2 := by
        match i, hx with
        | 0, hx => exact fin t1 p q' (Option.some.inj hx).symm h1 (by decide)
        | 1, hx => exact fin t2 r s' (Option.some.inj hx).symm h2 (by decide)
      refine ⟨rfl, ?_⟩
      refine ⟨_, rfl, t, [u, v], rfl, ht, by show 2 ≤ 1000; decide, fun H'' e'' => ?_⟩
      refine cs_yes fm0 trivial hD e hA hlen (by omega) e'' ?_
      rw [hp, List.replicate_succ', List.map_append]
      rfl
    · refine ⟨D, List.replicate 2 true, rfl, SqL.of (by rw [hA, hp]; rfl), _, rfl, ?_⟩
      refine ⟨_, rfl, a, p, q', r, s', rfl, Ex0.t4 e h4, hc.1.b, hc.2.1.b, hc.2.2.1.b, hc.2.2.2.1.b, _, rfl, sl2, fun u nu => ?_⟩
      refine ⟨u, _, rfl, .inr (SqT.of upd_same), rfl, rfl, ?_⟩
      have e1 : inV (.int (p * s' - q' * r)) [.int 1, .int (-1)] = true := by
        show ((1 : Int) == p * s' - q' * r || ((-1 : Int) == p * s' - q' * r || false)) = true
        rcases hc.2.2.2.2 with z | z <;> rw [z] <;> decide
      show Q (.bl (inV (.int (p * s' - q' * r)) [.int 1, .int (-1)])) _
      rw [e1]
      exact q _ (e.trans (Ex0.new nu))
theorem ok_is_short_change (T : Txt K mg C_Form C_Double) : Def P w K mg base 4 "is_short_change" ["value"] (sp_is_short_change K C_Form C_Double) := by
  obtain ⟨f_, fd_, g_, F_⟩ := T.d_is_short_change
  obtain ⟨f_are_short_integers, fd_are_short_integers, g_are_short_integers, k_are_short_integers, b_are_short_integers, G_are_short_integers⟩ := (ok_are_short_integers (P := P) (w := w) (base := base) T)
  obtain ⟨f_is_change, fd_is_change, g_is_change, k_is_change, b_is_change, G_is_change⟩ := (ok_is_change (P := P) (w := w) (base := base) T)
  refine ⟨f_, fd_, g_, F_.kp, F_.binds (ps := ["value"]) (fun _ _ _ _ _ _ us hl => match us, hl with | [_], _ => rfl), ?_⟩
  refine F_.ok sc_is_short_change (fun vs H Q E h => ?_) (fun cdv A outer s H vs Q E hr h => ?_)
  · first | (obtain ⟨rfl, _⟩ := h; rfl) | (obtain ⟨_, rfl, _⟩ := h; rfl) | (obtain ⟨_, _, rfl, _⟩ := h; rfl) | (obtain ⟨_, _, _, rfl, _⟩ := h; rfl) | (obtain ⟨_, _, _, _, rfl, _⟩ := h; rfl) | (obtain ⟨_, _, _, _, _, rfl, _⟩ := h; rfl) | (obtain ⟨_, _, _, _, _, _, rfl, _⟩ := h; rfl) | (obtain ⟨_, _, _, _, _, _, _, rfl, _⟩ := h; rfl) | (obtain ⟨_, _, _, _, _, _, _, _, rfl, _⟩ := h; rfl) | (obtain ⟨_, _, _, _, _, _, _, _, _, rfl, _⟩ := h; rfl) | (obtain ⟨_, _, _, _, _, _, _, _, _, _, rfl, _⟩ := h; rfl) | (obtain ⟨_, _, _, _, _, _, _, _, _, _, _, rfl, _⟩ := h; rfl) | (obtain ⟨_, _, _, _, _, _, _, _, _, _, _, _, rfl, _⟩ := h; rfl) | (obtain ⟨_, _, _, _, _, _, _, _, _, _, _, _, _, rfl, _⟩ := h; rfl) | (obtain ⟨_, _, _, _, _, _, _, _, _, _, _, _, _, _, rfl, _⟩ := h; rfl) | (obtain ⟨_, _, _, _, _, _, _, _, _, _, _, _, _, _, _, rfl, _⟩ := h; rfl) | (obtain ⟨_, _, _, _, _, _, _, _, _, _, _, _, _, _, _, _, rfl, _⟩ := h; rfl) | (obtain ⟨_, _, _, _, _, _, _, _, _, _, _, _, _, _, _, _, _, rfl, _⟩ := h; rfl) | (obtain ⟨_, _, _, _, _, _, _, _, _, _, _, _, _, _, _, _, _, _, rfl, _⟩ := h; rfl) | (obtain ⟨_, _, _, _, _, _, _, _, _, _, _, _, _, _, _, _, _, _, _, rfl, _⟩ := h; rfl) | (obtain ⟨_, _, _, _, _, _, _, _, _, _, _, _, _, _, _, _, _, _, _, _, rfl, _⟩ := h; rfl) | (obtain ⟨_, _, _, _, _, _, _, _, _, _, _, _, _, _, _, _, _, _, _, _, _, rfl, _⟩ := h; rfl) | (obtain ⟨_, _, _, _, _, _, _, _, _, _, _, _, _, _, _, _, _, _, _, _, _, _, rfl, _⟩ := h; rfl) | (obtain ⟨_, _, _, _, _, _, _, _, _, _, _, _, _, _, _, _, _, _, _, _, _, _, _, rfl, _⟩ := h; rfl)
  · obtain ⟨a, p, q', r, s', rfl, h4, hc, q⟩ := h
    refine ⟨_, (pss_one (ps_ret (pe_and (pe_call G_is_change (hr.mono (by decide)) (by rfl) g_is_change k_is_change b_is_change .nil pass0 (pa_cons (pv 0) pa_nil)) (pe_one (pe_callB (cr_all rfl) (by rfl) T.b_all (by decide +kernel) (pa_cons (pe_lc (own := [("row", 1)]) (g := (gName 1)) rfl sc_is_short_change.nd (pi_tup (pv 0)) (blkOk_by (N := N_is_short_change) (sc := defScope s_is_short_change) (by decide +kernel)) (fun _ _ _ _ _ => (pg_name (i := 1) sc_is_short_change.nd rfl (.inl rfl))) (fun _ _ _ _ _ => pts_nil) (fun _ _ _ _ _ => (pe_call G_are_short_integers (hr.mono (by decide)) (by rfl) g_are_short_integers k_are_short_integers b_are_short_integers .nil pass0 (pa_cons (pv 1) (pa_cons pe_int pa_nil))))) pa_nil)))))), ?_⟩
    refine ⟨_, rfl, a, p, q', r, s', rfl, h4, hc, fun H1 e1 => ⟨_, rfl, iteT ?_⟩⟩
    obtain ⟨t1, t2, h0, h1, h2⟩ := Ex0.t4 e1 h4
    refine ⟨_, rfl, a, rfl, ⟨_, SqT.of h0⟩, ?_⟩
    refine lcT fm0 trivial (SqT.of h0) (fun z => z) (fun i acc _ => acc = (List.replicate i true).map V.bl) (fun _ _ => rfl) (fun D i x acc H' hD hx e hA hlen hp => ?_) (fun D H' acc hD e hA hp => ?_)
    · have fin : ∀ (t : Addr) (u v : Int), x = .ref t → H1 t = some (.tup [.int u, .int v]) → Short u → Short v → i < 2 → ∃ t, x = .ref t ∧ ∃ u v, H' t = some (.tup [.int u, .int v]) ∧ Short u ∧ Short v ∧ i < 2 := fun t u v e1 e2 e3 e4 e5 => ⟨t, e1, u, v, Ex0.ap e e2, e3, e4, e5⟩
      obtain ⟨t, rfl, u, v, ht, su, sv, hi⟩ : ∃ t, x = .ref t ∧ ∃ u v, H' t = some (.tup [.int u, .int v]) ∧ Short u ∧ Short v ∧ i < 2 := by
        match i, hx with
        | 0, hx => exact fin t1 p q' (Option.some.inj hx).symm h1 hc.1 hc.2.1 (by decide)
        | 1, hx => exact fin t2 r s' (Option.some.inj hx).symm h2 hc.2.2.1 hc.2.2.2.1 (by decide)
      refine ⟨rfl, ?_⟩
      refine ⟨_, rfl, t, [u, v], rfl, ht, by show 2 ≤ 1000; decide, fun n hn => ?_, fun H'' e'' => ?_⟩
      · simp only [List.mem_cons, List.mem_nil_iff, or_false] at hn
        rcases hn with rfl | rfl
        · exact su
        · exact sv
      · refine cs_yes fm0 trivial hD e hA hlen (by omega) e'' ?_
        rw [hp, List.replicate_succ', List.map_append]
        rfl
    · refine ⟨D, List.replicate 2 true, rfl, SqL.of (by rw [hA, hp]; rfl), ?_⟩
      exact q _ (e1.trans e)
theorem ok_check_change (T : Txt K mg C_Form C_Double) : Def P w K mg base 5 "check_change" ["value"] (sp_check_change K C_Form C_Double) := by
  obtain ⟨f_, fd_, g_, F_⟩ := T.d_check_change
  obtain ⟨f_is_short_change, fd_is_short_change, g_is_short_change, k_is_short_change, b_is_short_change, G_is_short_change⟩ := (ok_is_short_change (P := P) (w := w) (base := base) T)
  refine ⟨f_, fd_, g_, F_.kp, F_.binds (ps := ["value"]) (fun _ _ _ _ _ _ us hl => match us, hl with | [_], _ => rfl), ?_⟩
  refine F_.ok sc_check_change (fun vs H Q E h => ?_) (fun cdv A outer s H vs Q E hr h => ?_)
  · first | (obtain ⟨rfl, _⟩ := h; rfl) | (obtain ⟨_, rfl, _⟩ := h; rfl) | (obtain ⟨_, _, rfl, _⟩ := h; rfl) | (obtain ⟨_, _, _, rfl, _⟩ := h; rfl) | (obtain ⟨_, _, _, _, rfl, _⟩ := h; rfl) | (obtain ⟨_, _, _, _, _, rfl, _⟩ := h; rfl) | (obtain ⟨_, _, _, _, _, _, rfl, _⟩ := h; rfl) | (obtain ⟨_, _, _, _, _, _, _, rfl, _⟩ := h; rfl) | (obtain ⟨_, _, _, _, _, _, _, _, rfl, _⟩ := h; rfl) | (obtain ⟨_, _, _, _, _, _, _, _, _, rfl, _⟩ := h; rfl) | (obtain ⟨_, _, _, _, _, _, _, _, _, _, rfl, _⟩ := h; rfl) | (obtain ⟨_, _, _, _, _, _, _, _, _, _, _, rfl, _⟩ := h; rfl) | (obtain ⟨_, _, _, _, _, _, _, _, _, _, _, _, rfl, _⟩ := h; rfl) | (obtain ⟨_, _, _, _, _, _, _, _, _, _, _, _, _, rfl, _⟩ := h; rfl) | (obtain ⟨_, _, _, _, _, _, _, _, _, _, _, _, _, _, rfl, _⟩ := h; rfl) | (obtain ⟨_, _, _, _, _, _, _, _, _, _, _, _, _, _, _, rfl, _⟩ := h; rfl) | (obtain ⟨_, _, _, _, _, _, _, _, _, _, _, _, _, _, _, _, rfl, _⟩ := h; rfl) | (obtain ⟨_, _, _, _, _, _, _, _, _, _, _, _, _, _, _, _, _, rfl, _⟩ := h; rfl) | (obtain ⟨_, _, _, _, _, _, _, _, _, _, _, _, _, _, _, _, _, _, rfl, _⟩ := h; rfl) | (obtain ⟨_, _, _, _, _, _, _, _, _, _, _, _, _, _, _, _, _, _, _, rfl, _⟩ := h; rfl) | (obtain ⟨_, _, _, _, _, _, _, _, _, _, _, _, _, _, _, _, _, _, _, _, rfl, _⟩ := h; rfl) | (obtain ⟨_, _, _, _, _, _, _, _, _, _, _, _, _, _, _, _, _, _, _, _, _, rfl, _⟩ := h; rfl) | (obtain ⟨_, _, _, _, _, _, _, _, _, _, _, _, _, _, _, _, _, _, _, _, _, _, rfl, _⟩ := h; rfl) | (obtain ⟨_, _, _, _, _, _, _, _, _, _, _, _, _, _, _, _, _, _, _, _, _, _, _, rfl, _⟩ := h; rfl)
  · obtain ⟨a, p, q', r, s', rfl, h4, hc, q⟩ := h
    refine ⟨_, (pss_one (ps_if (pt_not (pt_val (pe_call G_is_short_change (hr.mono (by decide)) (by rfl) g_is_short_change k_is_short_change b_is_short_change .nil pass0 (pa_cons (pv 0) pa_nil))))
      pss_never
      pss_nil)), ?_⟩
    refine ⟨_, rfl, a, p, q', r, s', rfl, h4, hc, fun H1 e1 => ⟨_, rfl, ?_⟩⟩
    exact iteF (q _ e1)
theorem ok_form_value (T : Txt K mg C_Form C_Double) : Def P w K mg base 1 "form_value" ["coefficients", "x", "y"] (sp_form_value K C_Form C_Double) := by
  obtain ⟨f_, fd_, g_, F_⟩ := T.d_form_value
  refine ⟨f_, fd_, g_, F_.kp, F_.binds (ps := ["coefficients", "x", "y"]) (fun _ _ _ _ _ _ us hl => match us, hl with | [_, _, _], _ => rfl), ?_⟩
  refine F_.ok sc_form_value (fun vs H Q E h => ?_) (fun cdv A outer s H vs Q E hr h => ?_)
  · first | (obtain ⟨rfl, _⟩ := h; rfl) | (obtain ⟨_, rfl, _⟩ := h; rfl) | (obtain ⟨_, _, rfl, _⟩ := h; rfl) | (obtain ⟨_, _, _, rfl, _⟩ := h; rfl) | (obtain ⟨_, _, _, _, rfl, _⟩ := h; rfl) | (obtain ⟨_, _, _, _, _, rfl, _⟩ := h; rfl) | (obtain ⟨_, _, _, _, _, _, rfl, _⟩ := h; rfl) | (obtain ⟨_, _, _, _, _, _, _, rfl, _⟩ := h; rfl) | (obtain ⟨_, _, _, _, _, _, _, _, rfl, _⟩ := h; rfl) | (obtain ⟨_, _, _, _, _, _, _, _, _, rfl, _⟩ := h; rfl) | (obtain ⟨_, _, _, _, _, _, _, _, _, _, rfl, _⟩ := h; rfl) | (obtain ⟨_, _, _, _, _, _, _, _, _, _, _, rfl, _⟩ := h; rfl) | (obtain ⟨_, _, _, _, _, _, _, _, _, _, _, _, rfl, _⟩ := h; rfl) | (obtain ⟨_, _, _, _, _, _, _, _, _, _, _, _, _, rfl, _⟩ := h; rfl) | (obtain ⟨_, _, _, _, _, _, _, _, _, _, _, _, _, _, rfl, _⟩ := h; rfl) | (obtain ⟨_, _, _, _, _, _, _, _, _, _, _, _, _, _, _, rfl, _⟩ := h; rfl) | (obtain ⟨_, _, _, _, _, _, _, _, _, _, _, _, _, _, _, _, rfl, _⟩ := h; rfl) | (obtain ⟨_, _, _, _, _, _, _, _, _, _, _, _, _, _, _, _, _, rfl, _⟩ := h; rfl) | (obtain ⟨_, _, _, _, _, _, _, _, _, _, _, _, _, _, _, _, _, _, rfl, _⟩ := h; rfl) | (obtain ⟨_, _, _, _, _, _, _, _, _, _, _, _, _, _, _, _, _, _, _, rfl, _⟩ := h; rfl) | (obtain ⟨_, _, _, _, _, _, _, _, _, _, _, _, _, _, _, _, _, _, _, _, rfl, _⟩ := h; rfl) | (obtain ⟨_, _, _, _, _, _, _, _, _, _, _, _, _, _, _, _, _, _, _, _, _, rfl, _⟩ := h; rfl) | (obtain ⟨_, _, _, _, _, _, _, _, _, _, _, _, _, _, _, _, _, _, _, _, _, _, rfl, _⟩ := h; rfl) | (obtain ⟨_, _, _, _, _, _, _, _, _, _, _, _, _, _, _, _, _, _, _, _, _, _, _, rfl, _⟩ := h; rfl)
  · obtain ⟨t, a, b, c, d, x, y, rfl, ht, ba, bb, bc, bd, bx, by', q⟩ := h
    refine ⟨_, (pss_cons (ps_asg (pv 0) (pg_tup (by rfl) (pgs_cons (pg_name (i := 3) sc_form_value.nd rfl (.inl rfl)) (pgs_cons (pg_name (i := 4) sc_form_value.nd rfl (.inl rfl)) (pgs_cons (pg_name (i := 5) sc_form_value.nd rfl (.inl rfl)) (pgs_cons (pg_name (i := 6) sc_form_value.nd rfl (.inl rfl)) pgs_nil))))))
    (pss_one (ps_ret (pe_op op_add (pe_op op_add (pe_op op_add (pe_op op_mulW (pe_op op_mulW (pe_op op_mulW (pv 3) (pv 1)) (pv 1)) (pv 1)) (pe_op op_mulW (pe_op op_mulW (pe_op op_mulW (pv 4) (pv 1)) (pv 1)) (pv 2))) (pe_op op_mulW (pe_op op_mulW (pe_op op_mulW (pv 5) (pv 1)) (pv 2)) (pv 2))) (pe_op op_mulW (pe_op op_mulW (pe_op op_mulW (pv 6) (pv 2)) (pv 2)) (pv 2)))))), ?_⟩
    refine ⟨_, rfl, unI4 ht ?_⟩
    exact ⟨_, rfl, _, rfl, _, _, rfl, rfl, mulB (by with_reducible assumption) (by with_reducible assumption) (by decide), _, rfl, _, _, rfl, rfl, mulB (B.mul (by with_reducible assumption) (by with_reducible assumption)) (by with_reducible assumption) (by decide), _, rfl, _, _, rfl, rfl, mulB (B.mul (B.mul (by with_reducible assumption) (by with_reducible assumption)) (by with_reducible assumption)) (by with_reducible assumption) (by decide), _, rfl, _, rfl, _, _, rfl, rfl, mulB (by with_reducible assumption) (by with_reducible assumption) (by decide), _, rfl, _, _, rfl, rfl, mulB (B.mul (by with_reducible assumption) (by with_reducible assumption)) (by with_reducible assumption) (by decide), _, rfl, _, _, rfl, rfl, mulB (B.mul (B.mul (by with_reducible assumption) (by with_reducible assumption)) (by with_reducible assumption)) (by with_reducible assumption) (by decide), _, _, rfl, rfl, _, rfl, _, rfl, _, _, rfl, rfl, mulB (by with_reducible assumption) (by with_reducible assumption) (by decide), _, rfl, _, _, rfl, rfl, mulB (B.mul (by with_reducible assumption) (by with_reducible assumption)) (by with_reducible assumption) (by decide), _, rfl, _, _, rfl, rfl, mulB (B.mul (B.mul (by with_reducible assumption) (by with_reducible assumption)) (by with_reducible assumption)) (by with_reducible assumption) (by decide), _, _, rfl, rfl, _, rfl, _, rfl, _, _, rfl, rfl, mulB (by with_reducible assumption) (by with_reducible assumption) (by decide), _, rfl, _, _, rfl, rfl, mulB (B.mul (by with_reducible assumption) (by with_reducible assumption)) (by with_reducible assumption) (by decide), _, rfl, _, _, rfl, rfl, mulB (B.mul (B.mul (by with_reducible assumption) (by with_reducible assumption)) (by with_reducible assumption)) (by with_reducible assumption) (by decide), _, _, rfl, rfl, q⟩
theorem ok_form_discriminant (T : Txt K mg C_Form C_Double) : Def P w K mg base 1 "form_discriminant" ["coefficients"] (sp_form_discriminant K C_Form C_Double) := by
  obtain ⟨f_, fd_, g_, F_⟩ := T.d_form_discriminant
  refine ⟨f_, fd_, g_, F_.kp, F_.binds (ps := ["coefficients"]) (fun _ _ _ _ _ _ us hl => match us, hl with | [_], _ => rfl), ?_⟩
  refine F_.ok sc_form_discriminant (fun vs H Q E h => ?_) (fun cdv A outer s H vs Q E hr h => ?_)
  · first | (obtain ⟨rfl, _⟩ := h; rfl) | (obtain ⟨_, rfl, _⟩ := h; rfl) | (obtain ⟨_, _, rfl, _⟩ := h; rfl) | (obtain ⟨_, _, _, rfl, _⟩ := h; rfl) | (obtain ⟨_, _, _, _, rfl, _⟩ := h; rfl) | (obtain ⟨_, _, _, _, _, rfl, _⟩ := h; rfl) | (obtain ⟨_, _, _, _, _, _, rfl, _⟩ := h; rfl) | (obtain ⟨_, _, _, _, _, _, _, rfl, _⟩ := h; rfl) | (obtain ⟨_, _, _, _, _, _, _, _, rfl, _⟩ := h; rfl) | (obtain ⟨_, _, _, _, _, _, _, _, _, rfl, _⟩ := h; rfl) | (obtain ⟨_, _, _, _, _, _, _, _, _, _, rfl, _⟩ := h; rfl) | (obtain ⟨_, _, _, _, _, _, _, _, _, _, _, rfl, _⟩ := h; rfl) | (obtain ⟨_, _, _, _, _, _, _, _, _, _, _, _, rfl, _⟩ := h; rfl) | (obtain ⟨_, _, _, _, _, _, _, _, _, _, _, _, _, rfl, _⟩ := h; rfl) | (obtain ⟨_, _, _, _, _, _, _, _, _, _, _, _, _, _, rfl, _⟩ := h; rfl) | (obtain ⟨_, _, _, _, _, _, _, _, _, _, _, _, _, _, _, rfl, _⟩ := h; rfl) | (obtain ⟨_, _, _, _, _, _, _, _, _, _, _, _, _, _, _, _, rfl, _⟩ := h; rfl) | (obtain ⟨_, _, _, _, _, _, _, _, _, _, _, _, _, _, _, _, _, rfl, _⟩ := h; rfl) | (obtain ⟨_, _, _, _, _, _, _, _, _, _, _, _, _, _, _, _, _, _, rfl, _⟩ := h; rfl) | (obtain ⟨_, _, _, _, _, _, _, _, _, _, _, _, _, _, _, _, _, _, _, rfl, _⟩ := h; rfl) | (obtain ⟨_, _, _, _, _, _, _, _, _, _, _, _, _, _, _, _, _, _, _, _, rfl, _⟩ := h; rfl) | (obtain ⟨_, _, _, _, _, _, _, _, _, _, _, _, _, _, _, _, _, _, _, _, _, rfl, _⟩ := h; rfl) | (obtain ⟨_, _, _, _, _, _, _, _, _, _, _, _, _, _, _, _, _, _, _, _, _, _, rfl, _⟩ := h; rfl) | (obtain ⟨_, _, _, _, _, _, _, _, _, _, _, _, _, _, _, _, _, _, _, _, _, _, _, rfl, _⟩ := h; rfl)
  · obtain ⟨t, a, b, c, d, rfl, ht, ba, bb, bc, bd, q⟩ := h
    refine ⟨_, (pss_cons (ps_asg (pv 0) (pg_tup (by rfl) (pgs_cons (pg_name (i := 1) sc_form_discriminant.nd rfl (.inl rfl)) (pgs_cons (pg_name (i := 2) sc_form_discriminant.nd rfl (.inl rfl)) (pgs_cons (pg_name (i := 3) sc_form_discriminant.nd rfl (.inl rfl)) (pgs_cons (pg_name (i := 4) sc_form_discriminant.nd rfl (.inl rfl)) pgs_nil))))))
    (pss_one (ps_ret (pe_op op_add (pe_op op_sub (pe_op op_sub (pe_op op_sub (pe_op op_mulW (pe_op op_mulW (pe_op op_mulW (pv 2) (pv 2)) (pv 3)) (pv 3)) (pe_op op_mulW (pe_op op_mulW (pe_op op_mulW (pe_op op_mulW pe_int (pv 1)) (pv 3)) (pv 3)) (pv 3))) (pe_op op_mulW (pe_op op_mulW (pe_op op_mulW (pe_op op_mulW pe_int (pv 2)) (pv 2)) (pv 2)) (pv 4))) (pe_op op_mulW (pe_op op_mulW (pe_op op_mulW (pe_op op_mulW pe_int (pv 1)) (pv 1)) (pv 4)) (pv 4))) (pe_op op_mulW (pe_op op_mulW (pe_op op_mulW (pe_op op_mulW pe_int (pv 1)) (pv 2)) (pv 3)) (pv 4)))))), ?_⟩
    refine ⟨_, rfl, unI4 ht ?_⟩
    exact ⟨_, rfl, _, rfl, _, _, rfl, rfl, mulB (by with_reducible assumption) (by with_reducible assumption) (by decide), _, rfl, _, _, rfl, rfl, mulB (B.mul (by with_reducible assumption) (by with_reducible assumption)) (by with_reducible assumption) (by decide), _, rfl, _, _, rfl, rfl, mulB (B.mul (B.mul (by with_reducible assumption) (by with_reducible assumption)) (by with_reducible assumption)) (by with_reducible assumption) (by decide), _, rfl, _, _, rfl, rfl, mulB (B.lit (by decide)) (by with_reducible assumption) (by decide), _, rfl, _, _, rfl, rfl, mulB (B.mul (B.lit (by decide)) (by with_reducible assumption)) (by with_reducible assumption) (by decide), _, rfl, _, _, rfl, rfl, mulB (B.mul (B.mul (B.lit (by decide)) (by with_reducible assumption)) (by with_reducible assumption)) (by with_reducible assumption) (by decide), _, rfl, _, _, rfl, rfl, mulB (B.mul (B.mul (B.mul (B.lit (by decide)) (by with_reducible assumption)) (by with_reducible assumption)) (by with_reducible assumption)) (by with_reducible assumption) (by decide), _, _, rfl, rfl, _, rfl, _, _, rfl, rfl, mulB (B.lit (by decide)) (by with_reducible assumption) (by decide), _, rfl, _, _, rfl, rfl, mulB (B.mul (B.lit (by decide)) (by with_reducible assumption)) (by with_reducible assumption) (by decide), _, rfl, _, _, rfl, rfl, mulB (B.mul (B.mul (B.lit (by decide)) (by with_reducible assumption)) (by with_reducible assumption)) (by with_reducible assumption) (by decide), _, rfl, _, _, rfl, rfl, mulB (B.mul (B.mul (B.mul (B.lit (by decide)) (by with_reducible assumption)) (by with_reducible assumption)) (by with_reducible assumption)) (by with_reducible assumption) (by decide), _, _, rfl, rfl, _, rfl, _, _, rfl, rfl, mulB (B.lit (by decide)) (by with_reducible assumption) (by decide), _, rfl, _, _, rfl, rfl, mulB (B.mul (B.lit (by decide)) (by with_reducible assumption)) (by with_reducible assumption) (by decide), _, rfl, _, _, rfl, rfl, mulB (B.mul (B.mul (B.lit (by decide)) (by with_reducible assumption)) (by with_reducible assumption)) (by with_reducible assumption) (by decide), _, rfl, _, _, rfl, rfl, mulB (B.mul (B.mul (B.mul (B.lit (by decide)) (by with_reducible assumption)) (by with_reducible assumption)) (by with_reducible assumption)) (by with_reducible assumption) (by decide), _, _, rfl, rfl, _, rfl, _, _, rfl, rfl, mulB (B.lit (by decide)) (by with_reducible assumption) (by decide), _, rfl, _, _, rfl, rfl, mulB (B.mul (B.lit (by decide)) (by with_reducible assumption)) (by with_reducible assumption) (by decide), _, rfl, _, _, rfl, rfl, mulB (B.mul (B.mul (B.lit (by decide)) (by with_reducible assumption)) (by with_reducible assumption)) (by with_reducible assumption) (by decide), _, rfl, _, _, rfl, rfl, mulB (B.mul (B.mul (B.mul (B.lit (by decide)) (by with_reducible assumption)) (by with_reducible assumption)) (by with_reducible assumption)) (by with_reducible assumption) (by decide), _, _, rfl, rfl, q⟩
theorem ok_double_value (T : Txt K mg C_Form C_Double) : Def P w K mg base 1 "double_value" ["coefficients", "x", "y"] (sp_double_value K C_Form C_Double) := by
  obtain ⟨f_, fd_, g_, F_⟩ := T.d_double_value
  refine ⟨f_, fd_, g_, F_.kp, F_.binds (ps := ["coefficients", "x", "y"]) (fun _ _ _ _ _ _ us hl => match us, hl with | [_, _, _], _ => rfl), ?_⟩
  refine F_.ok sc_double_value (fun vs H Q E h => ?_) (fun cdv A outer s H vs Q E hr h => ?_)
  · first | (obtain ⟨rfl, _⟩ := h; rfl) | (obtain ⟨_, rfl, _⟩ := h; rfl) | (obtain ⟨_, _, rfl, _⟩ := h; rfl) | (obtain ⟨_, _, _, rfl, _⟩ := h; rfl) | (obtain ⟨_, _, _, _, rfl, _⟩ := h; rfl) | (obtain ⟨_, _, _, _, _, rfl, _⟩ := h; rfl) | (obtain ⟨_, _, _, _, _, _, rfl, _⟩ := h; rfl) | (obtain ⟨_, _, _, _, _, _, _, rfl, _⟩ := h; rfl) | (obtain ⟨_, _, _, _, _, _, _, _, rfl, _⟩ := h; rfl) | (obtain ⟨_, _, _, _, _, _, _, _, _, rfl, _⟩ := h; rfl) | (obtain ⟨_, _, _, _, _, _, _, _, _, _, rfl, _⟩ := h; rfl) | (obtain ⟨_, _, _, _, _, _, _, _, _, _, _, rfl, _⟩ := h; rfl) | (obtain ⟨_, _, _, _, _, _, _, _, _, _, _, _, rfl, _⟩ := h; rfl) | (obtain ⟨_, _, _, _, _, _, _, _, _, _, _, _, _, rfl, _⟩ := h; rfl) | (obtain ⟨_, _, _, _, _, _, _, _, _, _, _, _, _, _, rfl, _⟩ := h; rfl) | (obtain ⟨_, _, _, _, _, _, _, _, _, _, _, _, _, _, _, rfl, _⟩ := h; rfl) | (obtain ⟨_, _, _, _, _, _, _, _, _, _, _, _, _, _, _, _, rfl, _⟩ := h; rfl) | (obtain ⟨_, _, _, _, _, _, _, _, _, _, _, _, _, _, _, _, _, rfl, _⟩ := h; rfl) | (obtain ⟨_, _, _, _, _, _, _, _, _, _, _, _, _, _, _, _, _, _, rfl, _⟩ := h; rfl) | (obtain ⟨_, _, _, _, _, _, _, _, _, _, _, _, _, _, _, _, _, _, _, rfl, _⟩ := h; rfl) | (obtain ⟨_, _, _, _, _, _, _, _, _, _, _, _, _, _, _, _, _, _, _, _, rfl, _⟩ := h; rfl) | (obtain ⟨_, _, _, _, _, _, _, _, _, _, _, _, _, _, _, _, _, _, _, _, _, rfl, _⟩ := h; rfl) | (obtain ⟨_, _, _, _, _, _, _, _, _, _, _, _, _, _, _, _, _, _, _, _, _, _, rfl, _⟩ := h; rfl) | (obtain ⟨_, _, _, _, _, _, _, _, _, _, _, _, _, _, _, _, _, _, _, _, _, _, _, rfl, _⟩ := h; rfl)
  · obtain ⟨t, a, b, c, x, y, rfl, ht, ba, bb, bc, bx, by', q⟩ := h
    refine ⟨_, (pss_cons (ps_asg (pv 0) (pg_tup (by rfl) (pgs_cons (pg_name (i := 3) sc_double_value.nd rfl (.inl rfl)) (pgs_cons (pg_name (i := 4) sc_double_value.nd rfl (.inl rfl)) (pgs_cons (pg_name (i := 5) sc_double_value.nd rfl (.inl rfl)) pgs_nil)))))
    (pss_one (ps_ret (pe_op op_add (pe_op op_add (pe_op op_mulW (pe_op op_mulW (pv 3) (pv 1)) (pv 1)) (pe_op op_mulW (pe_op op_mulW (pv 4) (pv 1)) (pv 2))) (pe_op op_mulW (pe_op op_mulW (pv 5) (pv 2)) (pv 2)))))), ?_⟩
    refine ⟨_, rfl, unI3 ht ?_⟩
    exact ⟨_, rfl, _, rfl, _, _, rfl, rfl, mulB (by with_reducible assumption) (by with_reducible assumption) (by decide), _, rfl, _, _, rfl, rfl, mulB (B.mul (by with_reducible assumption) (by with_reducible assumption)) (by with_reducible assumption) (by decide), _, rfl, _, rfl, _, _, rfl, rfl, mulB (by with_reducible assumption) (by with_reducible assumption) (by decide), _, rfl, _, _, rfl, rfl, mulB (B.mul (by with_reducible assumption) (by with_reducible assumption)) (by with_reducible assumption) (by decide), _, _, rfl, rfl, _, rfl, _, rfl, _, _, rfl, rfl, mulB (by with_reducible assumption) (by with_reducible assumption) (by decide), _, rfl, _, _, rfl, rfl, mulB (B.mul (by with_reducible assumption) (by with_reducible assumption)) (by with_reducible assumption) (by decide), _, _, rfl, rfl, q⟩
theorem ok_double_discriminant (T : Txt K mg C_Form C_Double) : Def P w K mg base 1 "double_discriminant" ["coefficients"] (sp_double_discriminant K C_Form C_Double) := by
  obtain ⟨f_, fd_, g_, F_⟩ := T.d_double_discriminant
  refine ⟨f_, fd_, g_, F_.kp, F_.binds (ps := ["coefficients"]) (fun _ _ _ _ _ _ us hl => match us, hl with | [_], _ => rfl), ?_⟩
  refine F_.ok sc_double_discriminant (fun vs H Q E h => ?_) (fun cdv A outer s H vs Q E hr h => ?_)
  · first | (obtain ⟨rfl, _⟩ := h; rfl) | (obtain ⟨_, rfl, _⟩ := h; rfl) | (obtain ⟨_, _, rfl, _⟩ := h; rfl) | (obtain ⟨_, _, _, rfl, _⟩ := h; rfl) | (obtain ⟨_, _, _, _, rfl, _⟩ := h; rfl) | (obtain ⟨_, _, _, _, _, rfl, _⟩ := h; rfl) | (obtain ⟨_, _, _, _, _, _, rfl, _⟩ := h; rfl) | (obtain ⟨_, _, _, _, _, _, _, rfl, _⟩ := h; rfl) | (obtain ⟨_, _, _, _, _, _, _, _, rfl, _⟩ := h; rfl) | (obtain ⟨_, _, _, _, _, _, _, _, _, rfl, _⟩ := h; rfl) | (obtain ⟨_, _, _, _, _, _, _, _, _, _, rfl, _⟩ := h; rfl) | (obtain ⟨_, _, _, _, _, _, _, _, _, _, _, rfl, _⟩ := h; rfl) | (obtain ⟨_, _, _, _, _, _, _, _, _, _, _, _, rfl, _⟩ := h; rfl) | (obtain ⟨_, _, _, _, _, _, _, _, _, _, _, _, _, rfl, _⟩ := h; rfl) | (obtain ⟨_, _, _, _, _, _, _, _, _, _, _, _, _, _, rfl, _⟩ := h; rfl) | (obtain ⟨_, _, _, _, _, _, _, _, _, _, _, _, _, _, _, rfl, _⟩ := h; rfl) | (obtain ⟨_, _, _, _, _, _, _, _, _, _, _, _, _, _, _, _, rfl, _⟩ := h; rfl) | (obtain ⟨_, _, _, _, _, _, _, _, _, _, _, _, _, _, _, _, _, rfl, _⟩ := h; rfl) | (obtain ⟨_, _, _, _, _, _, _, _, _, _, _, _, _, _, _, _, _, _, rfl, _⟩ := h; rfl) | (obtain ⟨_, _, _, _, _, _, _, _, _, _, _, _, _, _, _, _, _, _, _, rfl, _⟩ := h; rfl) | (obtain ⟨_, _, _, _, _, _, _, _, _, _, _, _, _, _, _, _, _, _, _, _, rfl, _⟩ := h; rfl) | (obtain ⟨_, _, _, _, _, _, _, _, _, _, _, _, _, _, _, _, _, _, _, _, _, rfl, _⟩ := h; rfl) | (obtain ⟨_, _, _, _, _, _, _, _, _, _, _, _, _, _, _, _, _, _, _, _, _, _, rfl, _⟩ := h; rfl) | (obtain ⟨_, _, _, _, _, _, _, _, _, _, _, _, _, _, _, _, _, _, _, _, _, _, _, rfl, _⟩ := h; rfl)
  · obtain ⟨t, a, b, c, rfl, ht, ba, bb, bc, q⟩ := h
    refine ⟨_, (pss_cons (ps_asg (pv 0) (pg_tup (by rfl) (pgs_cons (pg_name (i := 1) sc_double_discriminant.nd rfl (.inl rfl)) (pgs_cons (pg_name (i := 2) sc_double_discriminant.nd rfl (.inl rfl)) (pgs_cons (pg_name (i := 3) sc_double_discriminant.nd rfl (.inl rfl)) pgs_nil)))))
    (pss_one (ps_ret (pe_op op_sub (pe_op op_mulW (pv 2) (pv 2)) (pe_op op_mulW (pe_op op_mulW pe_int (pv 1)) (pv 3)))))), ?_⟩
    refine ⟨_, rfl, unI3 ht ?_⟩
    exact ⟨_, rfl, _, rfl, _, _, rfl, rfl, mulB (by with_reducible assumption) (by with_reducible assumption) (by decide), _, rfl, _, _, rfl, rfl, mulB (B.lit (by decide)) (by with_reducible assumption) (by decide), _, rfl, _, _, rfl, rfl, mulB (B.mul (B.lit (by decide)) (by with_reducible assumption)) (by with_reducible assumption) (by decide), _, _, rfl, rfl, q⟩
theorem ok_form_hessian (T : Txt K mg C_Form C_Double) : Def P w K mg base 1 "form_hessian" ["coefficients"] (sp_form_hessian K C_Form C_Double) := by
  obtain ⟨f_, fd_, g_, F_⟩ := T.d_form_hessian
  refine ⟨f_, fd_, g_, F_.kp, F_.binds (ps := ["coefficients"]) (fun _ _ _ _ _ _ us hl => match us, hl with | [_], _ => rfl), ?_⟩
  refine F_.ok sc_form_hessian (fun vs H Q E h => ?_) (fun cdv A outer s H vs Q E hr h => ?_)
  · first | (obtain ⟨rfl, _⟩ := h; rfl) | (obtain ⟨_, rfl, _⟩ := h; rfl) | (obtain ⟨_, _, rfl, _⟩ := h; rfl) | (obtain ⟨_, _, _, rfl, _⟩ := h; rfl) | (obtain ⟨_, _, _, _, rfl, _⟩ := h; rfl) | (obtain ⟨_, _, _, _, _, rfl, _⟩ := h; rfl) | (obtain ⟨_, _, _, _, _, _, rfl, _⟩ := h; rfl) | (obtain ⟨_, _, _, _, _, _, _, rfl, _⟩ := h; rfl) | (obtain ⟨_, _, _, _, _, _, _, _, rfl, _⟩ := h; rfl) | (obtain ⟨_, _, _, _, _, _, _, _, _, rfl, _⟩ := h; rfl) | (obtain ⟨_, _, _, _, _, _, _, _, _, _, rfl, _⟩ := h; rfl) | (obtain ⟨_, _, _, _, _, _, _, _, _, _, _, rfl, _⟩ := h; rfl) | (obtain ⟨_, _, _, _, _, _, _, _, _, _, _, _, rfl, _⟩ := h; rfl) | (obtain ⟨_, _, _, _, _, _, _, _, _, _, _, _, _, rfl, _⟩ := h; rfl) | (obtain ⟨_, _, _, _, _, _, _, _, _, _, _, _, _, _, rfl, _⟩ := h; rfl) | (obtain ⟨_, _, _, _, _, _, _, _, _, _, _, _, _, _, _, rfl, _⟩ := h; rfl) | (obtain ⟨_, _, _, _, _, _, _, _, _, _, _, _, _, _, _, _, rfl, _⟩ := h; rfl) | (obtain ⟨_, _, _, _, _, _, _, _, _, _, _, _, _, _, _, _, _, rfl, _⟩ := h; rfl) | (obtain ⟨_, _, _, _, _, _, _, _, _, _, _, _, _, _, _, _, _, _, rfl, _⟩ := h; rfl) | (obtain ⟨_, _, _, _, _, _, _, _, _, _, _, _, _, _, _, _, _, _, _, rfl, _⟩ := h; rfl) | (obtain ⟨_, _, _, _, _, _, _, _, _, _, _, _, _, _, _, _, _, _, _, _, rfl, _⟩ := h; rfl) | (obtain ⟨_, _, _, _, _, _, _, _, _, _, _, _, _, _, _, _, _, _, _, _, _, rfl, _⟩ := h; rfl) | (obtain ⟨_, _, _, _, _, _, _, _, _, _, _, _, _, _, _, _, _, _, _, _, _, _, rfl, _⟩ := h; rfl) | (obtain ⟨_, _, _, _, _, _, _, _, _, _, _, _, _, _, _, _, _, _, _, _, _, _, _, rfl, _⟩ := h; rfl)
  · obtain ⟨t, a, b, c, d, rfl, ht, ba, bb, bc, bd, q⟩ := h
    refine ⟨_, (pss_cons (ps_asg (pv 0) (pg_tup (by rfl) (pgs_cons (pg_name (i := 1) sc_form_hessian.nd rfl (.inl rfl)) (pgs_cons (pg_name (i := 2) sc_form_hessian.nd rfl (.inl rfl)) (pgs_cons (pg_name (i := 3) sc_form_hessian.nd rfl (.inl rfl)) (pgs_cons (pg_name (i := 4) sc_form_hessian.nd rfl (.inl rfl)) pgs_nil))))))
    (pss_one (ps_ret (pe_tup (pa_cons (pe_op op_sub (pe_op op_mulW (pv 2) (pv 2)) (pe_op op_mulW (pe_op op_mulW pe_int (pv 1)) (pv 3))) (pa_cons (pe_op op_sub (pe_op op_mulW (pv 2) (pv 3)) (pe_op op_mulW (pe_op op_mulW pe_int (pv 1)) (pv 4))) (pa_cons (pe_op op_sub (pe_op op_mulW (pv 3) (pv 3)) (pe_op op_mulW (pe_op op_mulW pe_int (pv 2)) (pv 4))) pa_nil))))))), ?_⟩
    refine ⟨_, rfl, unI4 ht ?_⟩
    exact ⟨_, rfl, _, rfl, _, _, rfl, rfl, mulB (by with_reducible assumption) (by with_reducible assumption) (by decide), _, rfl, _, _, rfl, rfl, mulB (B.lit (by decide)) (by with_reducible assumption) (by decide), _, rfl, _, _, rfl, rfl, mulB (B.mul (B.lit (by decide)) (by with_reducible assumption)) (by with_reducible assumption) (by decide), _, _, rfl, rfl, _, rfl, _, rfl, _, _, rfl, rfl, mulB (by with_reducible assumption) (by with_reducible assumption) (by decide), _, rfl, _, _, rfl, rfl, mulB (B.lit (by decide)) (by with_reducible assumption) (by decide), _, rfl, _, _, rfl, rfl, mulB (B.mul (B.lit (by decide)) (by with_reducible assumption)) (by with_reducible assumption) (by decide), _, _, rfl, rfl, _, rfl, _, rfl, _, _, rfl, rfl, mulB (by with_reducible assumption) (by with_reducible assumption) (by decide), _, rfl, _, _, rfl, rfl, mulB (B.lit (by decide)) (by with_reducible assumption) (by decide), _, rfl, _, _, rfl, rfl, mulB (B.mul (B.lit (by decide)) (by with_reducible assumption)) (by with_reducible assumption) (by decide), _, _, rfl, rfl, sl3, fun x nx => q x _ (Ex0.new nx) upd_same⟩
end
end TF
namespace TF
open PySem PySem.Spec PyProof.Rows L2 Fr
open K05M (fv fl2 fl3 fdisc)
open K06M
theorem putF_same {u v : V} : putF ("_coefficients" : Str) v [(("_coefficients" : Str), u)] = [(("_coefficients" : Str), v)] := by simp [putF]
theorem lk_same {u : V} : List.lookup ("_coefficients" : Str) [(("_coefficients" : Str), u)] = some u := by simp [List.lookup]
section
variable {P : Program} {w : World} {K : PySem.W.Frag} {mg : Str → Option Value} {base : Heap} {C_Form C_Double : Addr}
theorem ok_form_led (T : Txt K mg C_Form C_Double) : Def P w K mg base 2 "form_led" ["coefficients", "change"] (sp_form_led K C_Form C_Double) := by
  obtain ⟨f_, fd_, g_, F_⟩ := T.d_form_led
  obtain ⟨f_determinant_of, fd_determinant_of, g_determinant_of, k_determinant_of, b_determinant_of, G_determinant_of⟩ := (ok_determinant_of (P := P) (w := w) (base := base) T)
  obtain ⟨f_form_value, fd_form_value, g_form_value, k_form_value, b_form_value, G_form_value⟩ := (ok_form_value (P := P) (w := w) (base := base) T)
  refine ⟨f_, fd_, g_, F_.kp, F_.binds (ps := ["coefficients", "change"]) (fun _ _ _ _ _ _ us hl => match us, hl with | [_, _], _ => rfl), ?_⟩
  refine F_.ok sc_form_led (fun vs H Q E h => ?_) (fun cdv A outer s H vs Q E hr h => ?_)
  · first | (obtain ⟨rfl, _⟩ := h; rfl) | (obtain ⟨_, rfl, _⟩ := h; rfl) | (obtain ⟨_, _, rfl, _⟩ := h; rfl) | (obtain ⟨_, _, _, rfl, _⟩ := h; rfl) | (obtain ⟨_, _, _, _, rfl, _⟩ := h; rfl) | (obtain ⟨_, _, _, _, _, rfl, _⟩ := h; rfl) | (obtain ⟨_, _, _, _, _, _, rfl, _⟩ := h; rfl) | (obtain ⟨_, _, _, _, _, _, _, rfl, _⟩ := h; rfl) | (obtain ⟨_, _, _, _, _, _, _, _, rfl, _⟩ := h; rfl) | (obtain ⟨_, _, _, _, _, _, _, _, _, rfl, _⟩ := h; rfl) | (obtain ⟨_, _, _, _, _, _, _, _, _, _, rfl, _⟩ := h; rfl) | (obtain ⟨_, _, _, _, _, _, _, _, _, _, _, rfl, _⟩ := h; rfl) | (obtain ⟨_, _, _, _, _, _, _, _, _, _, _, _, rfl, _⟩ := h; rfl) | (obtain ⟨_, _, _, _, _, _, _, _, _, _, _, _, _, rfl, _⟩ := h; rfl) | (obtain ⟨_, _, _, _, _, _, _, _, _, _, _, _, _, _, rfl, _⟩ := h; rfl) | (obtain ⟨_, _, _, _, _, _, _, _, _, _, _, _, _, _, _, rfl, _⟩ := h; rfl) | (obtain ⟨_, _, _, _, _, _, _, _, _, _, _, _, _, _, _, _, rfl, _⟩ := h; rfl) | (obtain ⟨_, _, _, _, _, _, _, _, _, _, _, _, _, _, _, _, _, rfl, _⟩ := h; rfl) | (obtain ⟨_, _, _, _, _, _, _, _, _, _, _, _, _, _, _, _, _, _, rfl, _⟩ := h; rfl) | (obtain ⟨_, _, _, _, _, _, _, _, _, _, _, _, _, _, _, _, _, _, _, rfl, _⟩ := h; rfl) | (obtain ⟨_, _, _, _, _, _, _, _, _, _, _, _, _, _, _, _, _, _, _, _, rfl, _⟩ := h; rfl) | (obtain ⟨_, _, _, _, _, _, _, _, _, _, _, _, _, _, _, _, _, _, _, _, _, rfl, _⟩ := h; rfl) | (obtain ⟨_, _, _, _, _, _, _, _, _, _, _, _, _, _, _, _, _, _, _, _, _, _, rfl, _⟩ := h; rfl) | (obtain ⟨_, _, _, _, _, _, _, _, _, _, _, _, _, _, _, _, _, _, _, _, _, _, _, rfl, _⟩ := h; rfl)
  · obtain ⟨t, u, a, b, c, d, p, q', r, s', rfl, ht, h4, ba, bb, bc, bd, bp, bq, br, bs, q⟩ := h
    refine ⟨_, (pss_cons (ps_asg (pv 0) (pg_tup (by rfl) (pgs_cons (pg_name (i := 2) sc_form_led.nd rfl (.inl rfl)) (pgs_cons (pg_name (i := 3) sc_form_led.nd rfl (.inl rfl)) (pgs_cons (pg_name (i := 4) sc_form_led.nd rfl (.inl rfl)) (pgs_cons (pg_name (i := 5) sc_form_led.nd rfl (.inl rfl)) pgs_nil))))))
    (pss_cons (ps_asg (pv 1) (pg_tup (by rfl) (pgs_cons (pg_tup (by rfl) (pgs_cons (pg_name (i := 6) sc_form_led.nd rfl (.inl rfl)) (pgs_cons (pg_name (i := 7) sc_form_led.nd rfl (.inl rfl)) pgs_nil))) (pgs_cons (pg_tup (by rfl) (pgs_cons (pg_name (i := 8) sc_form_led.nd rfl (.inl rfl)) (pgs_cons (pg_name (i := 9) sc_form_led.nd rfl (.inl rfl)) pgs_nil))) pgs_nil))))
    (pss_cons (ps_set (i := 10) sc_form_led.nd rfl (.inl rfl) (pe_call G_determinant_of (hr.mono (by decide)) (by rfl) g_determinant_of k_determinant_of b_determinant_of .nil pass0 (pa_cons (pv 1) pa_nil)))
    (pss_cons (ps_set (i := 11) sc_form_led.nd rfl (.inl rfl) (pe_op op_add (pe_op op_add (pe_op op_add (pe_op op_mulW (pe_op op_mulW (pe_op op_mulW (pe_op op_mulW pe_int (pv 2)) (pv 6)) (pv 6)) (pv 8)) (pe_op op_mulW (pe_op op_mulW (pv 3) (pv 6)) (pe_op op_add (pe_op op_mulW (pv 6) (pv 9)) (pe_op op_mulW (pe_op op_mulW pe_int (pv 7)) (pv 8))))) (pe_op op_mulW (pe_op op_mulW (pv 4) (pv 7)) (pe_op op_add (pe_op op_mulW (pe_op op_mulW pe_int (pv 6)) (pv 9)) (pe_op op_mulW (pv 7) (pv 8))))) (pe_op op_mulW (pe_op op_mulW (pe_op op_mulW (pe_op op_mulW pe_int (pv 5)) (pv 7)) (pv 7)) (pv 9))))
    (pss_cons (ps_set (i := 12) sc_form_led.nd rfl (.inl rfl) (pe_op op_add (pe_op op_add (pe_op op_add (pe_op op_mulW (pe_op op_mulW (pe_op op_mulW (pe_op op_mulW pe_int (pv 2)) (pv 6)) (pv 8)) (pv 8)) (pe_op op_mulW (pe_op op_mulW (pv 3) (pv 8)) (pe_op op_add (pe_op op_mulW (pe_op op_mulW pe_int (pv 6)) (pv 9)) (pe_op op_mulW (pv 7) (pv 8))))) (pe_op op_mulW (pe_op op_mulW (pv 4) (pv 9)) (pe_op op_add (pe_op op_mulW (pv 6) (pv 9)) (pe_op op_mulW (pe_op op_mulW pe_int (pv 7)) (pv 8))))) (pe_op op_mulW (pe_op op_mulW (pe_op op_mulW (pe_op op_mulW pe_int (pv 5)) (pv 7)) (pv 9)) (pv 9))))
    (pss_one (ps_ret (pe_tup (pa_cons (pe_op op_mulW (pv 10) (pe_call G_form_value (hr.mono (by decide)) (by rfl) g_form_value k_form_value b_form_value .nil pass0 (pa_cons (pv 0) (pa_cons (pv 6) (pa_cons (pv 7) pa_nil))))) (pa_cons (pe_op op_mulW (pv 10) (pv 11)) (pa_cons (pe_op op_mulW (pv 10) (pv 12)) (pa_cons (pe_op op_mulW (pv 10) (pe_call G_form_value (hr.mono (by decide)) (by rfl) g_form_value k_form_value b_form_value .nil pass0 (pa_cons (pv 0) (pa_cons (pv 8) (pa_cons (pv 9) pa_nil))))) pa_nil)))))))))))), ?_⟩
    refine ⟨_, rfl, unI4 ht ?_⟩
    refine ⟨_, rfl, un4 h4 ?_⟩
    refine ⟨_, rfl, u, p, q', r, s', rfl, h4, bp, bq, br, bs, ?_⟩
    refine ⟨_, rfl, _, _, rfl, rfl, mulB (B.lit (by decide)) (by with_reducible assumption) (by decide), _, rfl, _, _, rfl, rfl, mulB (B.mul (B.lit (by decide)) (by with_reducible assumption)) (by with_reducible assumption) (by decide), _, rfl, _, _, rfl, rfl, mulB (B.mul (B.mul (B.lit (by decide)) (by with_reducible assumption)) (by with_reducible assumption)) (by with_reducible assumption) (by decide), _, rfl, _, _, rfl, rfl, mulB (B.mul (B.mul (B.mul (B.lit (by decide)) (by with_reducible assumption)) (by with_reducible assumption)) (by with_reducible assumption)) (by with_reducible assumption) (by decide), _, rfl, _, rfl, _, _, rfl, rfl, mulB (by with_reducible assumption) (by with_reducible assumption) (by decide), _, rfl, _, rfl, _, _, rfl, rfl, mulB (by with_reducible assumption) (by with_reducible assumption) (by decide), _, rfl, _, _, rfl, rfl, mulB (B.lit (by decide)) (by with_reducible assumption) (by decide), _, rfl, _, _, rfl, rfl, mulB (B.mul (B.lit (by decide)) (by with_reducible assumption)) (by with_reducible assumption) (by decide), _, _, rfl, rfl, _, _, rfl, rfl, mulB (B.mul (by with_reducible assumption) (by with_reducible assumption)) (B.add (B.mul (by with_reducible assumption) (by with_reducible assumption)) (B.mul (B.mul (B.lit (by decide)) (by with_reducible assumption)) (by with_reducible assumption))) (by decide), _, _, rfl, rfl, _, rfl, _, rfl, _, _, rfl, rfl, mulB (by with_reducible assumption) (by with_reducible assumption) (by decide), _, rfl, _, _, rfl, rfl, mulB (B.lit (by decide)) (by with_reducible assumption) (by decide), _, rfl, _, _, rfl, rfl, mulB (B.mul (B.lit (by decide)) (by with_reducible assumption)) (by with_reducible assumption) (by decide), _, rfl, _, rfl, _, _, rfl, rfl, mulB (by with_reducible assumption) (by with_reducible assumption) (by decide), _, _, rfl, rfl, _, _, rfl, rfl, mulB (B.mul (by with_reducible assumption) (by with_reducible assumption)) (B.add (B.mul (B.mul (B.lit (by decide)) (by with_reducible assumption)) (by with_reducible assumption)) (B.mul (by with_reducible assumption) (by with_reducible assumption))) (by decide), _, _, rfl, rfl, _, rfl, _, _, rfl, rfl, mulB (B.lit (by decide)) (by with_reducible assumption) (by decide), _, rfl, _, _, rfl, rfl, mulB (B.mul (B.lit (by decide)) (by with_reducible assumption)) (by with_reducible assumption) (by decide), _, rfl, _, _, rfl, rfl, mulB (B.mul (B.mul (B.lit (by decide)) (by with_reducible assumption)) (by with_reducible assumption)) (by with_reducible assumption) (by decide), _, rfl, _, _, rfl, rfl, mulB (B.mul (B.mul (B.mul (B.lit (by decide)) (by with_reducible assumption)) (by with_reducible assumption)) (by with_reducible assumption)) (by with_reducible assumption) (by decide), _, _, rfl, rfl, ?_⟩
    refine ⟨_, rfl, _, _, rfl, rfl, mulB (B.lit (by decide)) (by with_reducible assumption) (by decide), _, rfl, _, _, rfl, rfl, mulB (B.mul (B.lit (by decide)) (by with_reducible assumption)) (by with_reducible assumption) (by decide), _, rfl, _, _, rfl, rfl, mulB (B.mul (B.mul (B.lit (by decide)) (by with_reducible assumption)) (by with_reducible assumption)) (by with_reducible assumption) (by decide), _, rfl, _, _, rfl, rfl, mulB (B.mul (B.mul (B.mul (B.lit (by decide)) (by with_reducible assumption)) (by with_reducible assumption)) (by with_reducible assumption)) (by with_reducible assumption) (by decide), _, rfl, _, rfl, _, _, rfl, rfl, mulB (by with_reducible assumption) (by with_reducible assumption) (by decide), _, rfl, _, _, rfl, rfl, mulB (B.lit (by decide)) (by with_reducible assumption) (by decide), _, rfl, _, _, rfl, rfl, mulB (B.mul (B.lit (by decide)) (by with_reducible assumption)) (by with_reducible assumption) (by decide), _, rfl, _, rfl, _, _, rfl, rfl, mulB (by with_reducible assumption) (by with_reducible assumption) (by decide), _, _, rfl, rfl, _, _, rfl, rfl, mulB (B.mul (by with_reducible assumption) (by with_reducible assumption)) (B.add (B.mul (B.mul (B.lit (by decide)) (by with_reducible assumption)) (by with_reducible assumption)) (B.mul (by with_reducible assumption) (by with_reducible assumption))) (by decide), _, _, rfl, rfl, _, rfl, _, rfl, _, _, rfl, rfl, mulB (by with_reducible assumption) (by with_reducible assumption) (by decide), _, rfl, _, rfl, _, _, rfl, rfl, mulB (by with_reducible assumption) (by with_reducible assumption) (by decide), _, rfl, _, _, rfl, rfl, mulB (B.lit (by decide)) (by with_reducible assumption) (by decide), _, rfl, _, _, rfl, rfl, mulB (B.mul (B.lit (by decide)) (by with_reducible assumption)) (by with_reducible assumption) (by decide), _, _, rfl, rfl, _, _, rfl, rfl, mulB (B.mul (by with_reducible assumption) (by with_reducible assumption)) (B.add (B.mul (by with_reducible assumption) (by with_reducible assumption)) (B.mul (B.mul (B.lit (by decide)) (by with_reducible assumption)) (by with_reducible assumption))) (by decide), _, _, rfl, rfl, _, rfl, _, _, rfl, rfl, mulB (B.lit (by decide)) (by with_reducible assumption) (by decide), _, rfl, _, _, rfl, rfl, mulB (B.mul (B.lit (by decide)) (by with_reducible assumption)) (by with_reducible assumption) (by decide), _, rfl, _, _, rfl, rfl, mulB (B.mul (B.mul (B.lit (by decide)) (by with_reducible assumption)) (by with_reducible assumption)) (by with_reducible assumption) (by decide), _, rfl, _, _, rfl, rfl, mulB (B.mul (B.mul (B.mul (B.lit (by decide)) (by with_reducible assumption)) (by with_reducible assumption)) (by with_reducible assumption)) (by with_reducible assumption) (by decide), _, _, rfl, rfl, ?_⟩
    have be : B 800 (p * s' - q' * r) := B.sub (B.mul bp bs) (B.mul bq br)
    have b2 : B _ (3 * a * p * p * r + b * p * (p * s' + 2 * q' * r) + c * q' * (2 * p * s' + q' * r) + 3 * d * q' * q' * s') := (B.add (B.add (B.add (B.mul (B.mul (B.mul (B.mul (B.lit (by decide)) (by with_reducible assumption)) (by with_reducible assumption)) (by with_reducible assumption)) (by with_reducible assumption)) (B.mul (B.mul (by with_reducible assumption) (by with_reducible assumption)) (B.add (B.mul (by with_reducible assumption) (by with_reducible assumption)) (B.mul (B.mul (B.lit (by decide)) (by with_reducible assumption)) (by with_reducible assumption))))) (B.mul (B.mul (by with_reducible assumption) (by with_reducible assumption)) (B.add (B.mul (B.mul (B.lit (by decide)) (by with_reducible assumption)) (by with_reducible assumption)) (B.mul (by with_reducible assumption) (by with_reducible assumption))))) (B.mul (B.mul (B.mul (B.mul (B.lit (by decide)) (by with_reducible assumption)) (by with_reducible assumption)) (by with_reducible assumption)) (by with_reducible assumption)))
    have b3 : B _ (3 * a * p * r * r + b * r * (2 * p * s' + q' * r) + c * s' * (p * s' + 2 * q' * r) + 3 * d * q' * s' * s') := (B.add (B.add (B.add (B.mul (B.mul (B.mul (B.mul (B.lit (by decide)) (by with_reducible assumption)) (by with_reducible assumption)) (by with_reducible assumption)) (by with_reducible assumption)) (B.mul (B.mul (by with_reducible assumption) (by with_reducible assumption)) (B.add (B.mul (B.mul (B.lit (by decide)) (by with_reducible assumption)) (by with_reducible assumption)) (B.mul (by with_reducible assumption) (by with_reducible assumption))))) (B.mul (B.mul (by with_reducible assumption) (by with_reducible assumption)) (B.add (B.mul (by with_reducible assumption) (by with_reducible assumption)) (B.mul (B.mul (B.lit (by decide)) (by with_reducible assumption)) (by with_reducible assumption))))) (B.mul (B.mul (B.mul (B.mul (B.lit (by decide)) (by with_reducible assumption)) (by with_reducible assumption)) (by with_reducible assumption)) (by with_reducible assumption)))
    have f1 : B 6400 (fv a b c d p q') := B.add (B.add (B.add (B.mul (B.mul (B.mul ba bp) bp) bp) (B.mul (B.mul (B.mul bb bp) bp) bq)) (B.mul (B.mul (B.mul bc bp) bq) bq)) (B.mul (B.mul (B.mul bd bq) bq) bq)
    have f2 : B 6400 (fv a b c d r s') := B.add (B.add (B.add (B.mul (B.mul (B.mul ba br) br) br) (B.mul (B.mul (B.mul bb br) br) bs)) (B.mul (B.mul (B.mul bc br) bs) bs)) (B.mul (B.mul (B.mul bd bs) bs) bs)
    refine ⟨_, rfl, _, rfl, _, rfl, _, rfl, t, a, b, c, d, p, q', rfl, ht, ba, bb, bc, bd, bp, bq, _, _, rfl, rfl, mulB be f1 (by decide), ?_⟩
    refine ⟨_, rfl, _, rfl, _, _, rfl, rfl, mulB be b2 (by decide), _, rfl, _, rfl, _, _, rfl, rfl, mulB be b3 (by decide), ?_⟩
    refine ⟨_, rfl, _, rfl, _, rfl, _, rfl, t, a, b, c, d, r, s', rfl, ht, ba, bb, bc, bd, br, bs, _, _, rfl, rfl, mulB be f2 (by decide), sl4, fun x nx => ?_⟩
    exact q x _ (Ex0.new nx) upd_same
theorem ok_Form___init__ (T : Txt K mg C_Form C_Double) : MDef (fun p f => Mk K C_Form f) P w K mg base 4 ["self", "coefficients"] (sp_Form___init__ K C_Form C_Double) := by
  obtain ⟨p_, f_, fd_, R_, F_⟩ := T.e_Form___init__
  obtain ⟨f_are_short_integers, fd_are_short_integers, g_are_short_integers, k_are_short_integers, b_are_short_integers, G_are_short_integers⟩ := (ok_are_short_integers (P := P) (w := w) (base := base) T)
  refine ⟨p_, f_, fd_, R_, F_.binds (ps := ["self", "coefficients"]) (fun _ _ _ _ _ _ us hl => match us, hl with | [_, _], _ => rfl), ?_⟩
  refine F_.ok sc_Form___init__ (fun vs H Q E h => ?_) (fun cdv A outer s H vs Q E hr h => ?_)
  · first | (obtain ⟨rfl, _⟩ := h; rfl) | (obtain ⟨_, rfl, _⟩ := h; rfl) | (obtain ⟨_, _, rfl, _⟩ := h; rfl) | (obtain ⟨_, _, _, rfl, _⟩ := h; rfl) | (obtain ⟨_, _, _, _, rfl, _⟩ := h; rfl) | (obtain ⟨_, _, _, _, _, rfl, _⟩ := h; rfl) | (obtain ⟨_, _, _, _, _, _, rfl, _⟩ := h; rfl) | (obtain ⟨_, _, _, _, _, _, _, rfl, _⟩ := h; rfl) | (obtain ⟨_, _, _, _, _, _, _, _, rfl, _⟩ := h; rfl) | (obtain ⟨_, _, _, _, _, _, _, _, _, rfl, _⟩ := h; rfl) | (obtain ⟨_, _, _, _, _, _, _, _, _, _, rfl, _⟩ := h; rfl) | (obtain ⟨_, _, _, _, _, _, _, _, _, _, _, rfl, _⟩ := h; rfl) | (obtain ⟨_, _, _, _, _, _, _, _, _, _, _, _, rfl, _⟩ := h; rfl) | (obtain ⟨_, _, _, _, _, _, _, _, _, _, _, _, _, rfl, _⟩ := h; rfl) | (obtain ⟨_, _, _, _, _, _, _, _, _, _, _, _, _, _, rfl, _⟩ := h; rfl) | (obtain ⟨_, _, _, _, _, _, _, _, _, _, _, _, _, _, _, rfl, _⟩ := h; rfl) | (obtain ⟨_, _, _, _, _, _, _, _, _, _, _, _, _, _, _, _, rfl, _⟩ := h; rfl) | (obtain ⟨_, _, _, _, _, _, _, _, _, _, _, _, _, _, _, _, _, rfl, _⟩ := h; rfl) | (obtain ⟨_, _, _, _, _, _, _, _, _, _, _, _, _, _, _, _, _, _, rfl, _⟩ := h; rfl) | (obtain ⟨_, _, _, _, _, _, _, _, _, _, _, _, _, _, _, _, _, _, _, rfl, _⟩ := h; rfl) | (obtain ⟨_, _, _, _, _, _, _, _, _, _, _, _, _, _, _, _, _, _, _, _, rfl, _⟩ := h; rfl) | (obtain ⟨_, _, _, _, _, _, _, _, _, _, _, _, _, _, _, _, _, _, _, _, _, rfl, _⟩ := h; rfl) | (obtain ⟨_, _, _, _, _, _, _, _, _, _, _, _, _, _, _, _, _, _, _, _, _, _, rfl, _⟩ := h; rfl) | (obtain ⟨_, _, _, _, _, _, _, _, _, _, _, _, _, _, _, _, _, _, _, _, _, _, _, rfl, _⟩ := h; rfl)
  · obtain ⟨x, dx, t, ns, rfl, hx, ht, hl, hs, q⟩ := h
    refine ⟨_, (pss_cons (ps_if (pt_not (pt_val (pe_call G_are_short_integers (hr.mono (by decide)) (by rfl) g_are_short_integers k_are_short_integers b_are_short_integers .nil pass0 (pa_cons (pv 1) (pa_cons pe_int pa_nil)))))
      pss_never
      pss_nil)
    (pss_one (ps_fld (pv 0) (pe_callTy call_tuple_of (by rfl) T.b_tuple (by decide +kernel) (pa_cons (pv 1) pa_nil)) (by rfl)))), ?_⟩
    refine ⟨_, rfl, t, ns, by rw [hl]; rfl, ht, by omega, hs, fun H1 e1 => ⟨_, rfl, ?_⟩⟩
    refine iteF ⟨_, rfl, t, _, rfl, .inr ⟨SqT.of (Ex0.ti e1 ht), ?_⟩⟩
    refine ⟨_, rfl, x, C_Form, dx, _, rfl, e1.ap hx, T.cl_Form, T.na_Form_coefficients, (by decide : (0:Nat) < 1000), ?_⟩
    exact q _ (fun b o n e => by rw [upd_ne n]; exact e1.ap e) upd_same
theorem ok_form_of (T : Txt K mg C_Form C_Double) : Def P w K mg base 6 "form_of" ["coefficients"] (sp_form_of K C_Form C_Double) := by
  obtain ⟨f_, fd_, g_, F_⟩ := T.d_form_of
  obtain ⟨p_Form___init__, f_Form___init__, fd_Form___init__, R_Form___init__, b_Form___init__, G_Form___init__⟩ := (ok_Form___init__ (P := P) (w := w) (base := base) T)
  refine ⟨f_, fd_, g_, F_.kp, F_.binds (ps := ["coefficients"]) (fun _ _ _ _ _ _ us hl => match us, hl with | [_], _ => rfl), ?_⟩
  refine F_.ok sc_form_of (fun vs H Q E h => ?_) (fun cdv A outer s H vs Q E hr h => ?_)
  · first | (obtain ⟨rfl, _⟩ := h; rfl) | (obtain ⟨_, rfl, _⟩ := h; rfl) | (obtain ⟨_, _, rfl, _⟩ := h; rfl) | (obtain ⟨_, _, _, rfl, _⟩ := h; rfl) | (obtain ⟨_, _, _, _, rfl, _⟩ := h; rfl) | (obtain ⟨_, _, _, _, _, rfl, _⟩ := h; rfl) | (obtain ⟨_, _, _, _, _, _, rfl, _⟩ := h; rfl) | (obtain ⟨_, _, _, _, _, _, _, rfl, _⟩ := h; rfl) | (obtain ⟨_, _, _, _, _, _, _, _, rfl, _⟩ := h; rfl) | (obtain ⟨_, _, _, _, _, _, _, _, _, rfl, _⟩ := h; rfl) | (obtain ⟨_, _, _, _, _, _, _, _, _, _, rfl, _⟩ := h; rfl) | (obtain ⟨_, _, _, _, _, _, _, _, _, _, _, rfl, _⟩ := h; rfl) | (obtain ⟨_, _, _, _, _, _, _, _, _, _, _, _, rfl, _⟩ := h; rfl) | (obtain ⟨_, _, _, _, _, _, _, _, _, _, _, _, _, rfl, _⟩ := h; rfl) | (obtain ⟨_, _, _, _, _, _, _, _, _, _, _, _, _, _, rfl, _⟩ := h; rfl) | (obtain ⟨_, _, _, _, _, _, _, _, _, _, _, _, _, _, _, rfl, _⟩ := h; rfl) | (obtain ⟨_, _, _, _, _, _, _, _, _, _, _, _, _, _, _, _, rfl, _⟩ := h; rfl) | (obtain ⟨_, _, _, _, _, _, _, _, _, _, _, _, _, _, _, _, _, rfl, _⟩ := h; rfl) | (obtain ⟨_, _, _, _, _, _, _, _, _, _, _, _, _, _, _, _, _, _, rfl, _⟩ := h; rfl) | (obtain ⟨_, _, _, _, _, _, _, _, _, _, _, _, _, _, _, _, _, _, _, rfl, _⟩ := h; rfl) | (obtain ⟨_, _, _, _, _, _, _, _, _, _, _, _, _, _, _, _, _, _, _, _, rfl, _⟩ := h; rfl) | (obtain ⟨_, _, _, _, _, _, _, _, _, _, _, _, _, _, _, _, _, _, _, _, _, rfl, _⟩ := h; rfl) | (obtain ⟨_, _, _, _, _, _, _, _, _, _, _, _, _, _, _, _, _, _, _, _, _, _, rfl, _⟩ := h; rfl) | (obtain ⟨_, _, _, _, _, _, _, _, _, _, _, _, _, _, _, _, _, _, _, _, _, _, _, rfl, _⟩ := h; rfl)
  · obtain ⟨t, ns, rfl, ht, q⟩ := h
    refine ⟨_, (pss_cons (ps_set (i := 1) sc_form_of.nd rfl (.inl rfl) (pe_make R_Form___init__ G_Form___init__ (hr.mono (by decide)) (by rfl) T.g_Form b_Form___init__ .nil pass0 (pa_cons (pe_tup (pa_cons pe_int (pa_cons pe_int (pa_cons pe_int (pa_cons pe_int pa_nil))))) pa_nil)))
    (pss_cons (ps_fld (pv 1) (pv 0) (by rfl))
    (pss_one (ps_ret (pv 1))))), ?_⟩
    refine ⟨sl4, fun t0 n0 => ?_⟩
    intro x dx nx ndx ne
    have e0 : Ex0 H (upd H t0 (.tup [.int 0, .int 0, .int 0, .int 0])) := Ex0.new n0
    have hx0 : H x = none := Fx.free e0 (fun z => z) nx
    have hd0 : H dx = none := Fx.free e0 (fun z => z) ndx
    have nt : t0 ≠ x := ne_of_none (show upd H t0 (.tup [.int 0, .int 0, .int 0, .int 0]) t0 = some _ from upd_same) nx
    have nd : t0 ≠ dx := ne_of_none (show upd H t0 (.tup [.int 0, .int 0, .int 0, .int 0]) t0 = some _ from upd_same) ndx
    refine ⟨x, dx, t0, [0, 0, 0, 0], rfl, upd_same, ?_, rfl, fun n hn => ?_, fun H' e1 e2 => ⟨rfl, ?_⟩⟩
    · show (upd (upd (upd H t0 _) dx _) x _) t0 = _
      rw [upd_ne nt, upd_ne nd]
      exact upd_same
    · have : n = 0 := by simpa using hn
      rw [this]
      exact ⟨by decide, by decide⟩
    refine ⟨_, rfl, _, rfl, x, C_Form, dx, _, rfl, e2, T.cl_Form, T.na_Form_coefficients, (by decide : (1:Nat) < 1000), ?_⟩
    refine ⟨_, rfl, ?_⟩
    have ex : ∀ b o, H b = some o → b ≠ x ∧ H' b = some o := fun b o e => by
      have n1 : b ≠ x := ne_of_none e hx0
      have n2 : b ≠ dx := ne_of_none e hd0
      refine ⟨n1, e1 b o n1 ?_⟩
      rw [upd_ne n1, upd_ne n2]
      exact e0.ap e
    refine q x _ (Ex0.of fun b o e => ?_) ⟨dx, t, ?_, ?_⟩
    · rw [upd_ne (ex b o e).1]
      exact (ex b o e).2
    · rw [upd_same, putF_same]
    · show (upd H' x _) t = _
      rw [upd_ne (ex _ _ ht).1]
      exact (ex _ _ ht).2
theorem ok_Form_coefficients (T : Txt K mg C_Form C_Double) : MDef (fun p f => PropOf K C_Form "coefficients" p f) P w K mg base 1 ["self"] (sp_Form_coefficients K C_Form C_Double) := by
  obtain ⟨p_, f_, fd_, R_, F_⟩ := T.e_Form_coefficients
  refine ⟨p_, f_, fd_, R_, F_.binds (ps := ["self"]) (fun _ _ _ _ _ _ us hl => match us, hl with | [_], _ => rfl), ?_⟩
  refine F_.ok sc_Form_coefficients (fun vs H Q E h => ?_) (fun cdv A outer s H vs Q E hr h => ?_)
  · first | (obtain ⟨rfl, _⟩ := h; rfl) | (obtain ⟨_, rfl, _⟩ := h; rfl) | (obtain ⟨_, _, rfl, _⟩ := h; rfl) | (obtain ⟨_, _, _, rfl, _⟩ := h; rfl) | (obtain ⟨_, _, _, _, rfl, _⟩ := h; rfl) | (obtain ⟨_, _, _, _, _, rfl, _⟩ := h; rfl) | (obtain ⟨_, _, _, _, _, _, rfl, _⟩ := h; rfl) | (obtain ⟨_, _, _, _, _, _, _, rfl, _⟩ := h; rfl) | (obtain ⟨_, _, _, _, _, _, _, _, rfl, _⟩ := h; rfl) | (obtain ⟨_, _, _, _, _, _, _, _, _, rfl, _⟩ := h; rfl) | (obtain ⟨_, _, _, _, _, _, _, _, _, _, rfl, _⟩ := h; rfl) | (obtain ⟨_, _, _, _, _, _, _, _, _, _, _, rfl, _⟩ := h; rfl) | (obtain ⟨_, _, _, _, _, _, _, _, _, _, _, _, rfl, _⟩ := h; rfl) | (obtain ⟨_, _, _, _, _, _, _, _, _, _, _, _, _, rfl, _⟩ := h; rfl) | (obtain ⟨_, _, _, _, _, _, _, _, _, _, _, _, _, _, rfl, _⟩ := h; rfl) | (obtain ⟨_, _, _, _, _, _, _, _, _, _, _, _, _, _, _, rfl, _⟩ := h; rfl) | (obtain ⟨_, _, _, _, _, _, _, _, _, _, _, _, _, _, _, _, rfl, _⟩ := h; rfl) | (obtain ⟨_, _, _, _, _, _, _, _, _, _, _, _, _, _, _, _, _, rfl, _⟩ := h; rfl) | (obtain ⟨_, _, _, _, _, _, _, _, _, _, _, _, _, _, _, _, _, _, rfl, _⟩ := h; rfl) | (obtain ⟨_, _, _, _, _, _, _, _, _, _, _, _, _, _, _, _, _, _, _, rfl, _⟩ := h; rfl) | (obtain ⟨_, _, _, _, _, _, _, _, _, _, _, _, _, _, _, _, _, _, _, _, rfl, _⟩ := h; rfl) | (obtain ⟨_, _, _, _, _, _, _, _, _, _, _, _, _, _, _, _, _, _, _, _, _, rfl, _⟩ := h; rfl) | (obtain ⟨_, _, _, _, _, _, _, _, _, _, _, _, _, _, _, _, _, _, _, _, _, _, rfl, _⟩ := h; rfl) | (obtain ⟨_, _, _, _, _, _, _, _, _, _, _, _, _, _, _, _, _, _, _, _, _, _, _, rfl, _⟩ := h; rfl)
  · obtain ⟨x, ns, rfl, ⟨dx, t, hx, ht⟩, q⟩ := h
    refine ⟨_, (pss_one (ps_ret (pe_fld (pv 0) (by rfl)))), ?_⟩
    exact ⟨_, rfl, x, C_Form, dx, _, .ref t, rfl, hx, T.cl_Form, T.na_Form_coefficients, lk_same, q t ht⟩
theorem ok_Form_discriminant (T : Txt K mg C_Form C_Double) : MDef (fun p f => PropOf K C_Form "discriminant" p f) P w K mg base 2 ["self"] (sp_Form_discriminant K C_Form C_Double) := by
  obtain ⟨p_, f_, fd_, R_, F_⟩ := T.e_Form_discriminant
  obtain ⟨f_form_discriminant, fd_form_discriminant, g_form_discriminant, k_form_discriminant, b_form_discriminant, G_form_discriminant⟩ := (ok_form_discriminant (P := P) (w := w) (base := base) T)
  refine ⟨p_, f_, fd_, R_, F_.binds (ps := ["self"]) (fun _ _ _ _ _ _ us hl => match us, hl with | [_], _ => rfl), ?_⟩
  refine F_.ok sc_Form_discriminant (fun vs H Q E h => ?_) (fun cdv A outer s H vs Q E hr h => ?_)
  · first | (obtain ⟨rfl, _⟩ := h; rfl) | (obtain ⟨_, rfl, _⟩ := h; rfl) | (obtain ⟨_, _, rfl, _⟩ := h; rfl) | (obtain ⟨_, _, _, rfl, _⟩ := h; rfl) | (obtain ⟨_, _, _, _, rfl, _⟩ := h; rfl) | (obtain ⟨_, _, _, _, _, rfl, _⟩ := h; rfl) | (obtain ⟨_, _, _, _, _, _, rfl, _⟩ := h; rfl) | (obtain ⟨_, _, _, _, _, _, _, rfl, _⟩ := h; rfl) | (obtain ⟨_, _, _, _, _, _, _, _, rfl, _⟩ := h; rfl) | (obtain ⟨_, _, _, _, _, _, _, _, _, rfl, _⟩ := h; rfl) | (obtain ⟨_, _, _, _, _, _, _, _, _, _, rfl, _⟩ := h; rfl) | (obtain ⟨_, _, _, _, _, _, _, _, _, _, _, rfl, _⟩ := h; rfl) | (obtain ⟨_, _, _, _, _, _, _, _, _, _, _, _, rfl, _⟩ := h; rfl) | (obtain ⟨_, _, _, _, _, _, _, _, _, _, _, _, _, rfl, _⟩ := h; rfl) | (obtain ⟨_, _, _, _, _, _, _, _, _, _, _, _, _, _, rfl, _⟩ := h; rfl) | (obtain ⟨_, _, _, _, _, _, _, _, _, _, _, _, _, _, _, rfl, _⟩ := h; rfl) | (obtain ⟨_, _, _, _, _, _, _, _, _, _, _, _, _, _, _, _, rfl, _⟩ := h; rfl) | (obtain ⟨_, _, _, _, _, _, _, _, _, _, _, _, _, _, _, _, _, rfl, _⟩ := h; rfl) | (obtain ⟨_, _, _, _, _, _, _, _, _, _, _, _, _, _, _, _, _, _, rfl, _⟩ := h; rfl) | (obtain ⟨_, _, _, _, _, _, _, _, _, _, _, _, _, _, _, _, _, _, _, rfl, _⟩ := h; rfl) | (obtain ⟨_, _, _, _, _, _, _, _, _, _, _, _, _, _, _, _, _, _, _, _, rfl, _⟩ := h; rfl) | (obtain ⟨_, _, _, _, _, _, _, _, _, _, _, _, _, _, _, _, _, _, _, _, _, rfl, _⟩ := h; rfl) | (obtain ⟨_, _, _, _, _, _, _, _, _, _, _, _, _, _, _, _, _, _, _, _, _, _, rfl, _⟩ := h; rfl) | (obtain ⟨_, _, _, _, _, _, _, _, _, _, _, _, _, _, _, _, _, _, _, _, _, _, _, rfl, _⟩ := h; rfl)
  · obtain ⟨x, a, b, c, d, rfl, ⟨dx, t, hx, ht⟩, ba, bb, bc, bd, q⟩ := h
    refine ⟨_, (pss_one (ps_ret (pe_call G_form_discriminant (hr.mono (by decide)) (by rfl) g_form_discriminant k_form_discriminant b_form_discriminant .nil pass0 (pa_cons (pe_fld (pv 0) (by rfl)) pa_nil)))), ?_⟩
    exact ⟨_, rfl, x, C_Form, dx, _, .ref t, rfl, hx, T.cl_Form, T.na_Form_coefficients, lk_same, t, a, b, c, d, rfl, ht, ba, bb, bc, bd, q⟩
theorem ok_Form___call__ (T : Txt K mg C_Form C_Double) : MDef (fun p f => StX.CallO K C_Form f) P w K mg base 4 ["self", "x", "y"] (sp_Form___call__ K C_Form C_Double) := by
  obtain ⟨p_, f_, fd_, R_, F_⟩ := T.e_Form___call__
  obtain ⟨f_check_integer, fd_check_integer, g_check_integer, k_check_integer, b_check_integer, G_check_integer⟩ := (ok_check_integer (P := P) (w := w) (base := base) T)
  obtain ⟨f_form_value, fd_form_value, g_form_value, k_form_value, b_form_value, G_form_value⟩ := (ok_form_value (P := P) (w := w) (base := base) T)
  refine ⟨p_, f_, fd_, R_, F_.binds (ps := ["self", "x", "y"]) (fun _ _ _ _ _ _ us hl => match us, hl with | [_, _, _], _ => rfl), ?_⟩
  refine F_.ok sc_Form___call__ (fun vs H Q E h => ?_) (fun cdv A outer s H vs Q E hr h => ?_)
  · first | (obtain ⟨rfl, _⟩ := h; rfl) | (obtain ⟨_, rfl, _⟩ := h; rfl) | (obtain ⟨_, _, rfl, _⟩ := h; rfl) | (obtain ⟨_, _, _, rfl, _⟩ := h; rfl) | (obtain ⟨_, _, _, _, rfl, _⟩ := h; rfl) | (obtain ⟨_, _, _, _, _, rfl, _⟩ := h; rfl) | (obtain ⟨_, _, _, _, _, _, rfl, _⟩ := h; rfl) | (obtain ⟨_, _, _, _, _, _, _, rfl, _⟩ := h; rfl) | (obtain ⟨_, _, _, _, _, _, _, _, rfl, _⟩ := h; rfl) | (obtain ⟨_, _, _, _, _, _, _, _, _, rfl, _⟩ := h; rfl) | (obtain ⟨_, _, _, _, _, _, _, _, _, _, rfl, _⟩ := h; rfl) | (obtain ⟨_, _, _, _, _, _, _, _, _, _, _, rfl, _⟩ := h; rfl) | (obtain ⟨_, _, _, _, _, _, _, _, _, _, _, _, rfl, _⟩ := h; rfl) | (obtain ⟨_, _, _, _, _, _, _, _, _, _, _, _, _, rfl, _⟩ := h; rfl) | (obtain ⟨_, _, _, _, _, _, _, _, _, _, _, _, _, _, rfl, _⟩ := h; rfl) | (obtain ⟨_, _, _, _, _, _, _, _, _, _, _, _, _, _, _, rfl, _⟩ := h; rfl) | (obtain ⟨_, _, _, _, _, _, _, _, _, _, _, _, _, _, _, _, rfl, _⟩ := h; rfl) | (obtain ⟨_, _, _, _, _, _, _, _, _, _, _, _, _, _, _, _, _, rfl, _⟩ := h; rfl) | (obtain ⟨_, _, _, _, _, _, _, _, _, _, _, _, _, _, _, _, _, _, rfl, _⟩ := h; rfl) | (obtain ⟨_, _, _, _, _, _, _, _, _, _, _, _, _, _, _, _, _, _, _, rfl, _⟩ := h; rfl) | (obtain ⟨_, _, _, _, _, _, _, _, _, _, _, _, _, _, _, _, _, _, _, _, rfl, _⟩ := h; rfl) | (obtain ⟨_, _, _, _, _, _, _, _, _, _, _, _, _, _, _, _, _, _, _, _, _, rfl, _⟩ := h; rfl) | (obtain ⟨_, _, _, _, _, _, _, _, _, _, _, _, _, _, _, _, _, _, _, _, _, _, rfl, _⟩ := h; rfl) | (obtain ⟨_, _, _, _, _, _, _, _, _, _, _, _, _, _, _, _, _, _, _, _, _, _, _, rfl, _⟩ := h; rfl)
  · obtain ⟨z, a, b, c, d, x, y, rfl, ⟨dx, t, hx, ht⟩, ba, bb, bc, bd, sx, sy, q⟩ := h
    refine ⟨_, (pss_cons (ps_expr (pe_call G_check_integer (hr.mono (by decide)) (by rfl) g_check_integer k_check_integer b_check_integer .nil pass0 (pa_cons (pv 1) pa_nil)))
    (pss_cons (ps_expr (pe_call G_check_integer (hr.mono (by decide)) (by rfl) g_check_integer k_check_integer b_check_integer .nil pass0 (pa_cons (pv 2) pa_nil)))
    (pss_one (ps_ret (pe_call G_form_value (hr.mono (by decide)) (by rfl) g_form_value k_form_value b_form_value .nil pass0 (pa_cons (pe_fld (pv 0) (by rfl)) (pa_cons (pv 1) (pa_cons (pv 2) pa_nil)))))))), ?_⟩
    refine ⟨_, rfl, x, rfl, sx, _, rfl, y, rfl, sy, ?_⟩
    exact ⟨_, rfl, z, C_Form, dx, _, .ref t, rfl, hx, T.cl_Form, T.na_Form_coefficients, lk_same, _, rfl, _, rfl, t, a, b, c, d, x, y, rfl, ht, ba, bb, bc, bd, sx.b, sy.b, q⟩
theorem ok_Form_led (T : Txt K mg C_Form C_Double) : MDef (fun p f => Meth K C_Form "led" f) P w K mg base 7 ["self", "change"] (sp_Form_led K C_Form C_Double) := by
  obtain ⟨p_, f_, fd_, R_, F_⟩ := T.e_Form_led
  obtain ⟨f_check_change, fd_check_change, g_check_change, k_check_change, b_check_change, G_check_change⟩ := (ok_check_change (P := P) (w := w) (base := base) T)
  obtain ⟨f_form_led, fd_form_led, g_form_led, k_form_led, b_form_led, G_form_led⟩ := (ok_form_led (P := P) (w := w) (base := base) T)
  obtain ⟨f_form_of, fd_form_of, g_form_of, k_form_of, b_form_of, G_form_of⟩ := (ok_form_of (P := P) (w := w) (base := base) T)
  refine ⟨p_, f_, fd_, R_, F_.binds (ps := ["self", "change"]) (fun _ _ _ _ _ _ us hl => match us, hl with | [_, _], _ => rfl), ?_⟩
  refine F_.ok sc_Form_led (fun vs H Q E h => ?_) (fun cdv A outer s H vs Q E hr h => ?_)
  · first | (obtain ⟨rfl, _⟩ := h; rfl) | (obtain ⟨_, rfl, _⟩ := h; rfl) | (obtain ⟨_, _, rfl, _⟩ := h; rfl) | (obtain ⟨_, _, _, rfl, _⟩ := h; rfl) | (obtain ⟨_, _, _, _, rfl, _⟩ := h; rfl) | (obtain ⟨_, _, _, _, _, rfl, _⟩ := h; rfl) | (obtain ⟨_, _, _, _, _, _, rfl, _⟩ := h; rfl) | (obtain ⟨_, _, _, _, _, _, _, rfl, _⟩ := h; rfl) | (obtain ⟨_, _, _, _, _, _, _, _, rfl, _⟩ := h; rfl) | (obtain ⟨_, _, _, _, _, _, _, _, _, rfl, _⟩ := h; rfl) | (obtain ⟨_, _, _, _, _, _, _, _, _, _, rfl, _⟩ := h; rfl) | (obtain ⟨_, _, _, _, _, _, _, _, _, _, _, rfl, _⟩ := h; rfl) | (obtain ⟨_, _, _, _, _, _, _, _, _, _, _, _, rfl, _⟩ := h; rfl) | (obtain ⟨_, _, _, _, _, _, _, _, _, _, _, _, _, rfl, _⟩ := h; rfl) | (obtain ⟨_, _, _, _, _, _, _, _, _, _, _, _, _, _, rfl, _⟩ := h; rfl) | (obtain ⟨_, _, _, _, _, _, _, _, _, _, _, _, _, _, _, rfl, _⟩ := h; rfl) | (obtain ⟨_, _, _, _, _, _, _, _, _, _, _, _, _, _, _, _, rfl, _⟩ := h; rfl) | (obtain ⟨_, _, _, _, _, _, _, _, _, _, _, _, _, _, _, _, _, rfl, _⟩ := h; rfl) | (obtain ⟨_, _, _, _, _, _, _, _, _, _, _, _, _, _, _, _, _, _, rfl, _⟩ := h; rfl) | (obtain ⟨_, _, _, _, _, _, _, _, _, _, _, _, _, _, _, _, _, _, _, rfl, _⟩ := h; rfl) | (obtain ⟨_, _, _, _, _, _, _, _, _, _, _, _, _, _, _, _, _, _, _, _, rfl, _⟩ := h; rfl) | (obtain ⟨_, _, _, _, _, _, _, _, _, _, _, _, _, _, _, _, _, _, _, _, _, rfl, _⟩ := h; rfl) | (obtain ⟨_, _, _, _, _, _, _, _, _, _, _, _, _, _, _, _, _, _, _, _, _, _, rfl, _⟩ := h; rfl) | (obtain ⟨_, _, _, _, _, _, _, _, _, _, _, _, _, _, _, _, _, _, _, _, _, _, _, rfl, _⟩ := h; rfl)
  · obtain ⟨z, u, a, b, c, d, p, q', r, s', rfl, hz, h4, ba, bb, bc, bd, hc, q⟩ := h
    refine ⟨_, (pss_cons (ps_expr (pe_call G_check_change (hr.mono (by decide)) (by rfl) g_check_change k_check_change b_check_change .nil pass0 (pa_cons (pv 1) pa_nil)))
    (pss_one (ps_ret (pe_call G_form_of (hr.mono (by decide)) (by rfl) g_form_of k_form_of b_form_of .nil pass0 (pa_cons (pe_call G_form_led (hr.mono (by decide)) (by rfl) g_form_led k_form_led b_form_led .nil pass0 (pa_cons (pe_fld (pv 0) (by rfl)) (pa_cons (pv 1) pa_nil))) pa_nil))))), ?_⟩
    refine ⟨_, rfl, u, p, q', r, s', rfl, h4, hc, fun H1 e1 => ?_⟩
    obtain ⟨dx, t, hx, ht⟩ := Ex0.fo e1 hz
    refine ⟨_, rfl, z, C_Form, dx, _, .ref t, rfl, hx, T.cl_Form, T.na_Form_coefficients, lk_same, _, rfl, t, u, a, b, c, d, p, q', r, s', rfl, ht, Ex0.t4 e1 h4, ba, bb, bc, bd, hc.1.b, hc.2.1.b, hc.2.2.1.b, hc.2.2.2.1.b, fun x H2 e2 hx2 => ?_⟩
    exact ⟨x, _, rfl, hx2, fun y H3 e3 hy => q y H3 ((e1.trans e2).trans e3) hy⟩
theorem ok_Double___init__ (T : Txt K mg C_Form C_Double) : MDef (fun p f => Mk K C_Double f) P w K mg base 4 ["self", "coefficients"] (sp_Double___init__ K C_Form C_Double) := by
  obtain ⟨p_, f_, fd_, R_, F_⟩ := T.e_Double___init__
  obtain ⟨f_are_short_integers, fd_are_short_integers, g_are_short_integers, k_are_short_integers, b_are_short_integers, G_are_short_integers⟩ := (ok_are_short_integers (P := P) (w := w) (base := base) T)
  refine ⟨p_, f_, fd_, R_, F_.binds (ps := ["self", "coefficients"]) (fun _ _ _ _ _ _ us hl => match us, hl with | [_, _], _ => rfl), ?_⟩
  refine F_.ok sc_Double___init__ (fun vs H Q E h => ?_) (fun cdv A outer s H vs Q E hr h => ?_)
  · first | (obtain ⟨rfl, _⟩ := h; rfl) | (obtain ⟨_, rfl, _⟩ := h; rfl) | (obtain ⟨_, _, rfl, _⟩ := h; rfl) | (obtain ⟨_, _, _, rfl, _⟩ := h; rfl) | (obtain ⟨_, _, _, _, rfl, _⟩ := h; rfl) | (obtain ⟨_, _, _, _, _, rfl, _⟩ := h; rfl) | (obtain ⟨_, _, _, _, _, _, rfl, _⟩ := h; rfl) | (obtain ⟨_, _, _, _, _, _, _, rfl, _⟩ := h; rfl) | (obtain ⟨_, _, _, _, _, _, _, _, rfl, _⟩ := h; rfl) | (obtain ⟨_, _, _, _, _, _, _, _, _, rfl, _⟩ := h; rfl) | (obtain ⟨_, _, _, _, _, _, _, _, _, _, rfl, _⟩ := h; rfl) | (obtain ⟨_, _, _, _, _, _, _, _, _, _, _, rfl, _⟩ := h; rfl) | (obtain ⟨_, _, _, _, _, _, _, _, _, _, _, _, rfl, _⟩ := h; rfl) | (obtain ⟨_, _, _, _, _, _, _, _, _, _, _, _, _, rfl, _⟩ := h; rfl) | (obtain ⟨_, _, _, _, _, _, _, _, _, _, _, _, _, _, rfl, _⟩ := h; rfl) | (obtain ⟨_, _, _, _, _, _, _, _, _, _, _, _, _, _, _, rfl, _⟩ := h; rfl) | (obtain ⟨_, _, _, _, _, _, _, _, _, _, _, _, _, _, _, _, rfl, _⟩ := h; rfl) | (obtain ⟨_, _, _, _, _, _, _, _, _, _, _, _, _, _, _, _, _, rfl, _⟩ := h; rfl) | (obtain ⟨_, _, _, _, _, _, _, _, _, _, _, _, _, _, _, _, _, _, rfl, _⟩ := h; rfl) | (obtain ⟨_, _, _, _, _, _, _, _, _, _, _, _, _, _, _, _, _, _, _, rfl, _⟩ := h; rfl) | (obtain ⟨_, _, _, _, _, _, _, _, _, _, _, _, _, _, _, _, _, _, _, _, rfl, _⟩ := h; rfl) | (obtain ⟨_, _, _, _, _, _, _, _, _, _, _, _, _, _, _, _, _, _, _, _, _, rfl, _⟩ := h; rfl) | (obtain ⟨_, _, _, _, _, _, _, _, _, _, _, _, _, _, _, _, _, _, _, _, _, _, rfl, _⟩ := h; rfl) | (obtain ⟨_, _, _, _, _, _, _, _, _, _, _, _, _, _, _, _, _, _, _, _, _, _, _, rfl, _⟩ := h; rfl)
  · obtain ⟨x, dx, t, ns, rfl, hx, ht, hl, hs, q⟩ := h
    refine ⟨_, (pss_cons (ps_if (pt_not (pt_val (pe_call G_are_short_integers (hr.mono (by decide)) (by rfl) g_are_short_integers k_are_short_integers b_are_short_integers .nil pass0 (pa_cons (pv 1) (pa_cons pe_int pa_nil)))))
      pss_never
      pss_nil)
    (pss_one (ps_fld (pv 0) (pe_callTy call_tuple_of (by rfl) T.b_tuple (by decide +kernel) (pa_cons (pv 1) pa_nil)) (by rfl)))), ?_⟩
    refine ⟨_, rfl, t, ns, by rw [hl]; rfl, ht, by omega, hs, fun H1 e1 => ⟨_, rfl, ?_⟩⟩
    refine iteF ⟨_, rfl, t, _, rfl, .inr ⟨SqT.of (Ex0.ti e1 ht), ?_⟩⟩
    refine ⟨_, rfl, x, C_Double, dx, _, rfl, e1.ap hx, T.cl_Double, T.na_Double_coefficients, (by decide : (0:Nat) < 1000), ?_⟩
    exact q _ (fun b o n e => by rw [upd_ne n]; exact e1.ap e) upd_same
theorem ok_double_of (T : Txt K mg C_Form C_Double) : Def P w K mg base 6 "double_of" ["coefficients"] (sp_double_of K C_Form C_Double) := by
  obtain ⟨f_, fd_, g_, F_⟩ := T.d_double_of
  obtain ⟨p_Double___init__, f_Double___init__, fd_Double___init__, R_Double___init__, b_Double___init__, G_Double___init__⟩ := (ok_Double___init__ (P := P) (w := w) (base := base) T)
  refine ⟨f_, fd_, g_, F_.kp, F_.binds (ps := ["coefficients"]) (fun _ _ _ _ _ _ us hl => match us, hl with | [_], _ => rfl), ?_⟩
  refine F_.ok sc_double_of (fun vs H Q E h => ?_) (fun cdv A outer s H vs Q E hr h => ?_)
  · first | (obtain ⟨rfl, _⟩ := h; rfl) | (obtain ⟨_, rfl, _⟩ := h; rfl) | (obtain ⟨_, _, rfl, _⟩ := h; rfl) | (obtain ⟨_, _, _, rfl, _⟩ := h; rfl) | (obtain ⟨_, _, _, _, rfl, _⟩ := h; rfl) | (obtain ⟨_, _, _, _, _, rfl, _⟩ := h; rfl) | (obtain ⟨_, _, _, _, _, _, rfl, _⟩ := h; rfl) | (obtain ⟨_, _, _, _, _, _, _, rfl, _⟩ := h; rfl) | (obtain ⟨_, _, _, _, _, _, _, _, rfl, _⟩ := h; rfl) | (obtain ⟨_, _, _, _, _, _, _, _, _, rfl, _⟩ := h; rfl) | (obtain ⟨_, _, _, _, _, _, _, _, _, _, rfl, _⟩ := h; rfl) | (obtain ⟨_, _, _, _, _, _, _, _, _, _, _, rfl, _⟩ := h; rfl) | (obtain ⟨_, _, _, _, _, _, _, _, _, _, _, _, rfl, _⟩ := h; rfl) | (obtain ⟨_, _, _, _, _, _, _, _, _, _, _, _, _, rfl, _⟩ := h; rfl) | (obtain ⟨_, _, _, _, _, _, _, _, _, _, _, _, _, _, rfl, _⟩ := h; rfl) | (obtain ⟨_, _, _, _, _, _, _, _, _, _, _, _, _, _, _, rfl, _⟩ := h; rfl) | (obtain ⟨_, _, _, _, _, _, _, _, _, _, _, _, _, _, _, _, rfl, _⟩ := h; rfl) | (obtain ⟨_, _, _, _, _, _, _, _, _, _, _, _, _, _, _, _, _, rfl, _⟩ := h; rfl) | (obtain ⟨_, _, _, _, _, _, _, _, _, _, _, _, _, _, _, _, _, _, rfl, _⟩ := h; rfl) | (obtain ⟨_, _, _, _, _, _, _, _, _, _, _, _, _, _, _, _, _, _, _, rfl, _⟩ := h; rfl) | (obtain ⟨_, _, _, _, _, _, _, _, _, _, _, _, _, _, _, _, _, _, _, _, rfl, _⟩ := h; rfl) | (obtain ⟨_, _, _, _, _, _, _, _, _, _, _, _, _, _, _, _, _, _, _, _, _, rfl, _⟩ := h; rfl) | (obtain ⟨_, _, _, _, _, _, _, _, _, _, _, _, _, _, _, _, _, _, _, _, _, _, rfl, _⟩ := h; rfl) | (obtain ⟨_, _, _, _, _, _, _, _, _, _, _, _, _, _, _, _, _, _, _, _, _, _, _, rfl, _⟩ := h; rfl)
  · obtain ⟨t, ns, rfl, ht, q⟩ := h
    refine ⟨_, (pss_cons (ps_set (i := 1) sc_double_of.nd rfl (.inl rfl) (pe_make R_Double___init__ G_Double___init__ (hr.mono (by decide)) (by rfl) T.g_Double b_Double___init__ .nil pass0 (pa_cons (pe_tup (pa_cons pe_int (pa_cons pe_int (pa_cons pe_int pa_nil)))) pa_nil)))
    (pss_cons (ps_fld (pv 1) (pv 0) (by rfl))
    (pss_one (ps_ret (pv 1))))), ?_⟩
    refine ⟨sl3, fun t0 n0 => ?_⟩
    intro x dx nx ndx ne
    have e0 : Ex0 H (upd H t0 (.tup [.int 0, .int 0, .int 0])) := Ex0.new n0
    have hx0 : H x = none := Fx.free e0 (fun z => z) nx
    have hd0 : H dx = none := Fx.free e0 (fun z => z) ndx
    have nt : t0 ≠ x := ne_of_none (show upd H t0 (.tup [.int 0, .int 0, .int 0]) t0 = some _ from upd_same) nx
    have nd : t0 ≠ dx := ne_of_none (show upd H t0 (.tup [.int 0, .int 0, .int 0]) t0 = some _ from upd_same) ndx
    refine ⟨x, dx, t0, [0, 0, 0], rfl, upd_same, ?_, rfl, fun n hn => ?_, fun H' e1 e2 => ⟨rfl, ?_⟩⟩
    · show (upd (upd (upd H t0 _) dx _) x _) t0 = _
      rw [upd_ne nt, upd_ne nd]
      exact upd_same
    · have : n = 0 := by simpa using hn
      rw [this]
      exact ⟨by decide, by decide⟩
    refine ⟨_, rfl, _, rfl, x, C_Double, dx, _, rfl, e2, T.cl_Double, T.na_Double_coefficients, (by decide : (1:Nat) < 1000), ?_⟩
    refine ⟨_, rfl, ?_⟩
    have ex : ∀ b o, H b = some o → b ≠ x ∧ H' b = some o := fun b o e => by
      have n1 : b ≠ x := ne_of_none e hx0
      have n2 : b ≠ dx := ne_of_none e hd0
      refine ⟨n1, e1 b o n1 ?_⟩
      rw [upd_ne n1, upd_ne n2]
      exact e0.ap e
    refine q x _ (Ex0.of fun b o e => ?_) ⟨dx, t, ?_, ?_⟩
    · rw [upd_ne (ex b o e).1]
      exact (ex b o e).2
    · rw [upd_same, putF_same]
    · show (upd H' x _) t = _
      rw [upd_ne (ex _ _ ht).1]
      exact (ex _ _ ht).2
theorem ok_Double_coefficients (T : Txt K mg C_Form C_Double) : MDef (fun p f => PropOf K C_Double "coefficients" p f) P w K mg base 1 ["self"] (sp_Double_coefficients K C_Form C_Double) := by
  obtain ⟨p_, f_, fd_, R_, F_⟩ := T.e_Double_coefficients
  refine ⟨p_, f_, fd_, R_, F_.binds (ps := ["self"]) (fun _ _ _ _ _ _ us hl => match us, hl with | [_], _ => rfl), ?_⟩
  refine F_.ok sc_Double_coefficients (fun vs H Q E h => ?_) (fun cdv A outer s H vs Q E hr h => ?_)
  · first | (obtain ⟨rfl, _⟩ := h; rfl) | (obtain ⟨_, rfl, _⟩ := h; rfl) | (obtain ⟨_, _, rfl, _⟩ := h; rfl) | (obtain ⟨_, _, _, rfl, _⟩ := h; rfl) | (obtain ⟨_, _, _, _, rfl, _⟩ := h; rfl) | (obtain ⟨_, _, _, _, _, rfl, _⟩ := h; rfl) | (obtain ⟨_, _, _, _, _, _, rfl, _⟩ := h; rfl) | (obtain ⟨_, _, _, _, _, _, _, rfl, _⟩ := h; rfl) | (obtain ⟨_, _, _, _, _, _, _, _, rfl, _⟩ := h; rfl) | (obtain ⟨_, _, _, _, _, _, _, _, _, rfl, _⟩ := h; rfl) | (obtain ⟨_, _, _, _, _, _, _, _, _, _, rfl, _⟩ := h; rfl) | (obtain ⟨_, _, _, _, _, _, _, _, _, _, _, rfl, _⟩ := h; rfl) | (obtain ⟨_, _, _, _, _, _, _, _, _, _, _, _, rfl, _⟩ := h; rfl) | (obtain ⟨_, _, _, _, _, _, _, _, _, _, _, _, _, rfl, _⟩ := h; rfl) | (obtain ⟨_, _, _, _, _, _, _, _, _, _, _, _, _, _, rfl, _⟩ := h; rfl) | (obtain ⟨_, _, _, _, _, _, _, _, _, _, _, _, _, _, _, rfl, _⟩ := h; rfl) | (obtain ⟨_, _, _, _, _, _, _, _, _, _, _, _, _, _, _, _, rfl, _⟩ := h; rfl) | (obtain ⟨_, _, _, _, _, _, _, _, _, _, _, _, _, _, _, _, _, rfl, _⟩ := h; rfl) | (obtain ⟨_, _, _, _, _, _, _, _, _, _, _, _, _, _, _, _, _, _, rfl, _⟩ := h; rfl) | (obtain ⟨_, _, _, _, _, _, _, _, _, _, _, _, _, _, _, _, _, _, _, rfl, _⟩ := h; rfl) | (obtain ⟨_, _, _, _, _, _, _, _, _, _, _, _, _, _, _, _, _, _, _, _, rfl, _⟩ := h; rfl) | (obtain ⟨_, _, _, _, _, _, _, _, _, _, _, _, _, _, _, _, _, _, _, _, _, rfl, _⟩ := h; rfl) | (obtain ⟨_, _, _, _, _, _, _, _, _, _, _, _, _, _, _, _, _, _, _, _, _, _, rfl, _⟩ := h; rfl) | (obtain ⟨_, _, _, _, _, _, _, _, _, _, _, _, _, _, _, _, _, _, _, _, _, _, _, rfl, _⟩ := h; rfl)
  · obtain ⟨x, ns, rfl, ⟨dx, t, hx, ht⟩, q⟩ := h
    refine ⟨_, (pss_one (ps_ret (pe_fld (pv 0) (by rfl)))), ?_⟩
    exact ⟨_, rfl, x, C_Double, dx, _, .ref t, rfl, hx, T.cl_Double, T.na_Double_coefficients, lk_same, q t ht⟩
theorem ok_Double_discriminant (T : Txt K mg C_Form C_Double) : MDef (fun p f => PropOf K C_Double "discriminant" p f) P w K mg base 2 ["self"] (sp_Double_discriminant K C_Form C_Double) := by
  obtain ⟨p_, f_, fd_, R_, F_⟩ := T.e_Double_discriminant
  obtain ⟨f_double_discriminant, fd_double_discriminant, g_double_discriminant, k_double_discriminant, b_double_discriminant, G_double_discriminant⟩ := (ok_double_discriminant (P := P) (w := w) (base := base) T)
  refine ⟨p_, f_, fd_, R_, F_.binds (ps := ["self"]) (fun _ _ _ _ _ _ us hl => match us, hl with | [_], _ => rfl), ?_⟩
  refine F_.ok sc_Double_discriminant (fun vs H Q E h => ?_) (fun cdv A outer s H vs Q E hr h => ?_)
  · first | (obtain ⟨rfl, _⟩ := h; rfl) | (obtain ⟨_, rfl, _⟩ := h; rfl) | (obtain ⟨_, _, rfl, _⟩ := h; rfl) | (obtain ⟨_, _, _, rfl, _⟩ := h; rfl) | (obtain ⟨_, _, _, _, rfl, _⟩ := h; rfl) | (obtain ⟨_, _, _, _, _, rfl, _⟩ := h; rfl) | (obtain ⟨_, _, _, _, _, _, rfl, _⟩ := h; rfl) | (obtain ⟨_, _, _, _, _, _, _, rfl, _⟩ := h; rfl) | (obtain ⟨_, _, _, _, _, _, _, _, rfl, _⟩ := h; rfl) | (obtain ⟨_, _, _, _, _, _, _, _, _, rfl, _⟩ := h; rfl) | (obtain ⟨_, _, _, _, _, _, _, _, _, _, rfl, _⟩ := h; rfl) | (obtain ⟨_, _, _, _, _, _, _, _, _, _, _, rfl, _⟩ := h; rfl) | (obtain ⟨_, _, _, _, _, _, _, _, _, _, _, _, rfl, _⟩ := h; rfl) | (obtain ⟨_, _, _, _, _, _, _, _, _, _, _, _, _, rfl, _⟩ := h; rfl) | (obtain ⟨_, _, _, _, _, _, _, _, _, _, _, _, _, _, rfl, _⟩ := h; rfl) | (obtain ⟨_, _, _, _, _, _, _, _, _, _, _, _, _, _, _, rfl, _⟩ := h; rfl) | (obtain ⟨_, _, _, _, _, _, _, _, _, _, _, _, _, _, _, _, rfl, _⟩ := h; rfl) | (obtain ⟨_, _, _, _, _, _, _, _, _, _, _, _, _, _, _, _, _, rfl, _⟩ := h; rfl) | (obtain ⟨_, _, _, _, _, _, _, _, _, _, _, _, _, _, _, _, _, _, rfl, _⟩ := h; rfl) | (obtain ⟨_, _, _, _, _, _, _, _, _, _, _, _, _, _, _, _, _, _, _, rfl, _⟩ := h; rfl) | (obtain ⟨_, _, _, _, _, _, _, _, _, _, _, _, _, _, _, _, _, _, _, _, rfl, _⟩ := h; rfl) | (obtain ⟨_, _, _, _, _, _, _, _, _, _, _, _, _, _, _, _, _, _, _, _, _, rfl, _⟩ := h; rfl) | (obtain ⟨_, _, _, _, _, _, _, _, _, _, _, _, _, _, _, _, _, _, _, _, _, _, rfl, _⟩ := h; rfl) | (obtain ⟨_, _, _, _, _, _, _, _, _, _, _, _, _, _, _, _, _, _, _, _, _, _, _, rfl, _⟩ := h; rfl)
  · obtain ⟨x, a, b, c, rfl, ⟨dx, t, hx, ht⟩, ba, bb, bc, q⟩ := h
    refine ⟨_, (pss_one (ps_ret (pe_call G_double_discriminant (hr.mono (by decide)) (by rfl) g_double_discriminant k_double_discriminant b_double_discriminant .nil pass0 (pa_cons (pe_fld (pv 0) (by rfl)) pa_nil)))), ?_⟩
    exact ⟨_, rfl, x, C_Double, dx, _, .ref t, rfl, hx, T.cl_Double, T.na_Double_coefficients, lk_same, t, a, b, c, rfl, ht, ba, bb, bc, q⟩
theorem ok_Double___call__ (T : Txt K mg C_Form C_Double) : MDef (fun p f => StX.CallO K C_Double f) P w K mg base 4 ["self", "x", "y"] (sp_Double___call__ K C_Form C_Double) := by
  obtain ⟨p_, f_, fd_, R_, F_⟩ := T.e_Double___call__
  obtain ⟨f_check_integer, fd_check_integer, g_check_integer, k_check_integer, b_check_integer, G_check_integer⟩ := (ok_check_integer (P := P) (w := w) (base := base) T)
  obtain ⟨f_double_value, fd_double_value, g_double_value, k_double_value, b_double_value, G_double_value⟩ := (ok_double_value (P := P) (w := w) (base := base) T)
  refine ⟨p_, f_, fd_, R_, F_.binds (ps := ["self", "x", "y"]) (fun _ _ _ _ _ _ us hl => match us, hl with | [_, _, _], _ => rfl), ?_⟩
  refine F_.ok sc_Double___call__ (fun vs H Q E h => ?_) (fun cdv A outer s H vs Q E hr h => ?_)
  · first | (obtain ⟨rfl, _⟩ := h; rfl) | (obtain ⟨_, rfl, _⟩ := h; rfl) | (obtain ⟨_, _, rfl, _⟩ := h; rfl) | (obtain ⟨_, _, _, rfl, _⟩ := h; rfl) | (obtain ⟨_, _, _, _, rfl, _⟩ := h; rfl) | (obtain ⟨_, _, _, _, _, rfl, _⟩ := h; rfl) | (obtain ⟨_, _, _, _, _, _, rfl, _⟩ := h; rfl) | (obtain ⟨_, _, _, _, _, _, _, rfl, _⟩ := h; rfl) | (obtain ⟨_, _, _, _, _, _, _, _, rfl, _⟩ := h; rfl) | (obtain ⟨_, _, _, _, _, _, _, _, _, rfl, _⟩ := h; rfl) | (obtain ⟨_, _, _, _, _, _, _, _, _, _, rfl, _⟩ := h; rfl) | (obtain ⟨_, _, _, _, _, _, _, _, _, _, _, rfl, _⟩ := h; rfl) | (obtain ⟨_, _, _, _, _, _, _, _, _, _, _, _, rfl, _⟩ := h; rfl) | (obtain ⟨_, _, _, _, _, _, _, _, _, _, _, _, _, rfl, _⟩ := h; rfl) | (obtain ⟨_, _, _, _, _, _, _, _, _, _, _, _, _, _, rfl, _⟩ := h; rfl) | (obtain ⟨_, _, _, _, _, _, _, _, _, _, _, _, _, _, _, rfl, _⟩ := h; rfl) | (obtain ⟨_, _, _, _, _, _, _, _, _, _, _, _, _, _, _, _, rfl, _⟩ := h; rfl) | (obtain ⟨_, _, _, _, _, _, _, _, _, _, _, _, _, _, _, _, _, rfl, _⟩ := h; rfl) | (obtain ⟨_, _, _, _, _, _, _, _, _, _, _, _, _, _, _, _, _, _, rfl, _⟩ := h; rfl) | (obtain ⟨_, _, _, _, _, _, _, _, _, _, _, _, _, _, _, _, _, _, _, rfl, _⟩ := h; rfl) | (obtain ⟨_, _, _, _, _, _, _, _, _, _, _, _, _, _, _, _, _, _, _, _, rfl, _⟩ := h; rfl) | (obtain ⟨_, _, _, _, _, _, _, _, _, _, _, _, _, _, _, _, _, _, _, _, _, rfl, _⟩ := h; rfl) | (obtain ⟨_, _, _, _, _, _, _, _, _, _, _, _, _, _, _, _, _, _, _, _, _, _, rfl, _⟩ := h; rfl) | (obtain ⟨_, _, _, _, _, _, _, _, _, _, _, _, _, _, _, _, _, _, _, _, _, _, _, rfl, _⟩ := h; rfl)
  · obtain ⟨z, a, b, c, x, y, rfl, ⟨dx, t, hx, ht⟩, ba, bb, bc, sx, sy, q⟩ := h
    refine ⟨_, (pss_cons (ps_expr (pe_call G_check_integer (hr.mono (by decide)) (by rfl) g_check_integer k_check_integer b_check_integer .nil pass0 (pa_cons (pv 1) pa_nil)))
    (pss_cons (ps_expr (pe_call G_check_integer (hr.mono (by decide)) (by rfl) g_check_integer k_check_integer b_check_integer .nil pass0 (pa_cons (pv 2) pa_nil)))
    (pss_one (ps_ret (pe_call G_double_value (hr.mono (by decide)) (by rfl) g_double_value k_double_value b_double_value .nil pass0 (pa_cons (pe_fld (pv 0) (by rfl)) (pa_cons (pv 1) (pa_cons (pv 2) pa_nil)))))))), ?_⟩
    refine ⟨_, rfl, x, rfl, sx, _, rfl, y, rfl, sy, ?_⟩
    exact ⟨_, rfl, z, C_Double, dx, _, .ref t, rfl, hx, T.cl_Double, T.na_Double_coefficients, lk_same, _, rfl, _, rfl, t, a, b, c, x, y, rfl, ht, ba, bb, bc, sx.b, sy.b, q⟩
theorem ok_double_led (T : Txt K mg C_Form C_Double) : Def P w K mg base 2 "double_led" ["coefficients", "change"] (sp_double_led K C_Form C_Double) := by
  obtain ⟨f_, fd_, g_, F_⟩ := T.d_double_led
  obtain ⟨f_double_value, fd_double_value, g_double_value, k_double_value, b_double_value, G_double_value⟩ := (ok_double_value (P := P) (w := w) (base := base) T)
  refine ⟨f_, fd_, g_, F_.kp, F_.binds (ps := ["coefficients", "change"]) (fun _ _ _ _ _ _ us hl => match us, hl with | [_, _], _ => rfl), ?_⟩
  refine F_.ok sc_double_led (fun vs H Q E h => ?_) (fun cdv A outer s H vs Q E hr h => ?_)
  · first | (obtain ⟨rfl, _⟩ := h; rfl) | (obtain ⟨_, rfl, _⟩ := h; rfl) | (obtain ⟨_, _, rfl, _⟩ := h; rfl) | (obtain ⟨_, _, _, rfl, _⟩ := h; rfl) | (obtain ⟨_, _, _, _, rfl, _⟩ := h; rfl) | (obtain ⟨_, _, _, _, _, rfl, _⟩ := h; rfl) | (obtain ⟨_, _, _, _, _, _, rfl, _⟩ := h; rfl) | (obtain ⟨_, _, _, _, _, _, _, rfl, _⟩ := h; rfl) | (obtain ⟨_, _, _, _, _, _, _, _, rfl, _⟩ := h; rfl) | (obtain ⟨_, _, _, _, _, _, _, _, _, rfl, _⟩ := h; rfl) | (obtain ⟨_, _, _, _, _, _, _, _, _, _, rfl, _⟩ := h; rfl) | (obtain ⟨_, _, _, _, _, _, _, _, _, _, _, rfl, _⟩ := h; rfl) | (obtain ⟨_, _, _, _, _, _, _, _, _, _, _, _, rfl, _⟩ := h; rfl) | (obtain ⟨_, _, _, _, _, _, _, _, _, _, _, _, _, rfl, _⟩ := h; rfl) | (obtain ⟨_, _, _, _, _, _, _, _, _, _, _, _, _, _, rfl, _⟩ := h; rfl) | (obtain ⟨_, _, _, _, _, _, _, _, _, _, _, _, _, _, _, rfl, _⟩ := h; rfl) | (obtain ⟨_, _, _, _, _, _, _, _, _, _, _, _, _, _, _, _, rfl, _⟩ := h; rfl) | (obtain ⟨_, _, _, _, _, _, _, _, _, _, _, _, _, _, _, _, _, rfl, _⟩ := h; rfl) | (obtain ⟨_, _, _, _, _, _, _, _, _, _, _, _, _, _, _, _, _, _, rfl, _⟩ := h; rfl) | (obtain ⟨_, _, _, _, _, _, _, _, _, _, _, _, _, _, _, _, _, _, _, rfl, _⟩ := h; rfl) | (obtain ⟨_, _, _, _, _, _, _, _, _, _, _, _, _, _, _, _, _, _, _, _, rfl, _⟩ := h; rfl) | (obtain ⟨_, _, _, _, _, _, _, _, _, _, _, _, _, _, _, _, _, _, _, _, _, rfl, _⟩ := h; rfl) | (obtain ⟨_, _, _, _, _, _, _, _, _, _, _, _, _, _, _, _, _, _, _, _, _, _, rfl, _⟩ := h; rfl) | (obtain ⟨_, _, _, _, _, _, _, _, _, _, _, _, _, _, _, _, _, _, _, _, _, _, _, rfl, _⟩ := h; rfl)
  · obtain ⟨t, u, a, b, c, p, q', r, s', rfl, ht, h4, ba, bb, bc, bp, bq, br, bs, q⟩ := h
    refine ⟨_, (pss_cons (ps_asg (pv 0) (pg_tup (by rfl) (pgs_cons (pg_name (i := 2) sc_double_led.nd rfl (.inl rfl)) (pgs_cons (pg_name (i := 3) sc_double_led.nd rfl (.inl rfl)) (pgs_cons (pg_name (i := 4) sc_double_led.nd rfl (.inl rfl)) pgs_nil)))))
    (pss_cons (ps_asg (pv 1) (pg_tup (by rfl) (pgs_cons (pg_tup (by rfl) (pgs_cons (pg_name (i := 5) sc_double_led.nd rfl (.inl rfl)) (pgs_cons (pg_name (i := 6) sc_double_led.nd rfl (.inl rfl)) pgs_nil))) (pgs_cons (pg_tup (by rfl) (pgs_cons (pg_name (i := 7) sc_double_led.nd rfl (.inl rfl)) (pgs_cons (pg_name (i := 8) sc_double_led.nd rfl (.inl rfl)) pgs_nil))) pgs_nil))))
    (pss_cons (ps_set (i := 9) sc_double_led.nd rfl (.inl rfl) (pe_op op_add (pe_op op_add (pe_op op_mulW (pe_op op_mulW (pe_op op_mulW pe_int (pv 2)) (pv 5)) (pv 7)) (pe_op op_mulW (pv 3) (pe_op op_add (pe_op op_mulW (pv 5) (pv 8)) (pe_op op_mulW (pv 6) (pv 7))))) (pe_op op_mulW (pe_op op_mulW (pe_op op_mulW pe_int (pv 4)) (pv 6)) (pv 8))))
    (pss_one (ps_ret (pe_tup (pa_cons (pe_call G_double_value (hr.mono (by decide)) (by rfl) g_double_value k_double_value b_double_value .nil pass0 (pa_cons (pv 0) (pa_cons (pv 5) (pa_cons (pv 6) pa_nil)))) (pa_cons (pv 9) (pa_cons (pe_call G_double_value (hr.mono (by decide)) (by rfl) g_double_value k_double_value b_double_value .nil pass0 (pa_cons (pv 0) (pa_cons (pv 7) (pa_cons (pv 8) pa_nil)))) pa_nil))))))))), ?_⟩
    refine ⟨_, rfl, unI3 ht ?_⟩
    refine ⟨_, rfl, un4 h4 ?_⟩
    refine ⟨_, rfl, _, _, rfl, rfl, mulB (B.lit (by decide)) (by with_reducible assumption) (by decide), _, rfl, _, _, rfl, rfl, mulB (B.mul (B.lit (by decide)) (by with_reducible assumption)) (by with_reducible assumption) (by decide), _, rfl, _, _, rfl, rfl, mulB (B.mul (B.mul (B.lit (by decide)) (by with_reducible assumption)) (by with_reducible assumption)) (by with_reducible assumption) (by decide), _, rfl, _, rfl, _, rfl, _, _, rfl, rfl, mulB (by with_reducible assumption) (by with_reducible assumption) (by decide), _, rfl, _, rfl, _, _, rfl, rfl, mulB (by with_reducible assumption) (by with_reducible assumption) (by decide), _, _, rfl, rfl, _, _, rfl, rfl, mulB (by with_reducible assumption) (B.add (B.mul (by with_reducible assumption) (by with_reducible assumption)) (B.mul (by with_reducible assumption) (by with_reducible assumption))) (by decide), _, _, rfl, rfl, _, rfl, _, _, rfl, rfl, mulB (B.lit (by decide)) (by with_reducible assumption) (by decide), _, rfl, _, _, rfl, rfl, mulB (B.mul (B.lit (by decide)) (by with_reducible assumption)) (by with_reducible assumption) (by decide), _, rfl, _, _, rfl, rfl, mulB (B.mul (B.mul (B.lit (by decide)) (by with_reducible assumption)) (by with_reducible assumption)) (by with_reducible assumption) (by decide), _, _, rfl, rfl, ?_⟩
    refine ⟨_, rfl, _, rfl, _, rfl, t, a, b, c, p, q', rfl, ht, ba, bb, bc, bp, bq, ?_⟩
    refine ⟨_, rfl, _, rfl, _, rfl, _, rfl, t, a, b, c, r, s', rfl, ht, ba, bb, bc, br, bs, sl3, fun x nx => ?_⟩
    exact q x _ (Ex0.new nx) upd_same
theorem ok_Double_led (T : Txt K mg C_Form C_Double) : MDef (fun p f => Meth K C_Double "led" f) P w K mg base 7 ["self", "change"] (sp_Double_led K C_Form C_Double) := by
  obtain ⟨p_, f_, fd_, R_, F_⟩ := T.e_Double_led
  obtain ⟨f_check_change, fd_check_change, g_check_change, k_check_change, b_check_change, G_check_change⟩ := (ok_check_change (P := P) (w := w) (base := base) T)
  obtain ⟨f_double_led, fd_double_led, g_double_led, k_double_led, b_double_led, G_double_led⟩ := (ok_double_led (P := P) (w := w) (base := base) T)
  obtain ⟨f_double_of, fd_double_of, g_double_of, k_double_of, b_double_of, G_double_of⟩ := (ok_double_of (P := P) (w := w) (base := base) T)
  refine ⟨p_, f_, fd_, R_, F_.binds (ps := ["self", "change"]) (fun _ _ _ _ _ _ us hl => match us, hl with | [_, _], _ => rfl), ?_⟩
  refine F_.ok sc_Double_led (fun vs H Q E h => ?_) (fun cdv A outer s H vs Q E hr h => ?_)
  · first | (obtain ⟨rfl, _⟩ := h; rfl) | (obtain ⟨_, rfl, _⟩ := h; rfl) | (obtain ⟨_, _, rfl, _⟩ := h; rfl) | (obtain ⟨_, _, _, rfl, _⟩ := h; rfl) | (obtain ⟨_, _, _, _, rfl, _⟩ := h; rfl) | (obtain ⟨_, _, _, _, _, rfl, _⟩ := h; rfl) | (obtain ⟨_, _, _, _, _, _, rfl, _⟩ := h; rfl) | (obtain ⟨_, _, _, _, _, _, _, rfl, _⟩ := h; rfl) | (obtain ⟨_, _, _, _, _, _, _, _, rfl, _⟩ := h; rfl) | (obtain ⟨_, _, _, _, _, _, _, _, _, rfl, _⟩ := h; rfl) | (obtain ⟨_, _, _, _, _, _, _, _, _, _, rfl, _⟩ := h; rfl) | (obtain ⟨_, _, _, _, _, _, _, _, _, _, _, rfl, _⟩ := h; rfl) | (obtain ⟨_, _, _, _, _, _, _, _, _, _, _, _, rfl, _⟩ := h; rfl) | (obtain ⟨_, _, _, _, _, _, _, _, _, _, _, _, _, rfl, _⟩ := h; rfl) | (obtain ⟨_, _, _, _, _, _, _, _, _, _, _, _, _, _, rfl, _⟩ := h; rfl) | (obtain ⟨_, _, _, _, _, _, _, _, _, _, _, _, _, _, _, rfl, _⟩ := h; rfl) | (obtain ⟨_, _, _, _, _, _, _, _, _, _, _, _, _, _, _, _, rfl, _⟩ := h; rfl) | (obtain ⟨_, _, _, _, _, _, _, _, _, _, _, _, _, _, _, _, _, rfl, _⟩ := h; rfl) | (obtain ⟨_, _, _, _, _, _, _, _, _, _, _, _, _, _, _, _, _, _, rfl, _⟩ := h; rfl) | (obtain ⟨_, _, _, _, _, _, _, _, _, _, _, _, _, _, _, _, _, _, _, rfl, _⟩ := h; rfl) | (obtain ⟨_, _, _, _, _, _, _, _, _, _, _, _, _, _, _, _, _, _, _, _, rfl, _⟩ := h; rfl) | (obtain ⟨_, _, _, _, _, _, _, _, _, _, _, _, _, _, _, _, _, _, _, _, _, rfl, _⟩ := h; rfl) | (obtain ⟨_, _, _, _, _, _, _, _, _, _, _, _, _, _, _, _, _, _, _, _, _, _, rfl, _⟩ := h; rfl) | (obtain ⟨_, _, _, _, _, _, _, _, _, _, _, _, _, _, _, _, _, _, _, _, _, _, _, rfl, _⟩ := h; rfl)
  · obtain ⟨z, u, a, b, c, p, q', r, s', rfl, hz, h4, ba, bb, bc, hc, q⟩ := h
    refine ⟨_, (pss_cons (ps_expr (pe_call G_check_change (hr.mono (by decide)) (by rfl) g_check_change k_check_change b_check_change .nil pass0 (pa_cons (pv 1) pa_nil)))
    (pss_one (ps_ret (pe_call G_double_of (hr.mono (by decide)) (by rfl) g_double_of k_double_of b_double_of .nil pass0 (pa_cons (pe_call G_double_led (hr.mono (by decide)) (by rfl) g_double_led k_double_led b_double_led .nil pass0 (pa_cons (pe_fld (pv 0) (by rfl)) (pa_cons (pv 1) pa_nil))) pa_nil))))), ?_⟩
    refine ⟨_, rfl, u, p, q', r, s', rfl, h4, hc, fun H1 e1 => ?_⟩
    obtain ⟨dx, t, hx, ht⟩ := Ex0.fo e1 hz
    refine ⟨_, rfl, z, C_Double, dx, _, .ref t, rfl, hx, T.cl_Double, T.na_Double_coefficients, lk_same, _, rfl, t, u, a, b, c, p, q', r, s', rfl, ht, Ex0.t4 e1 h4, ba, bb, bc, hc.1.b, hc.2.1.b, hc.2.2.1.b, hc.2.2.2.1.b, fun x H2 e2 hx2 => ?_⟩
    exact ⟨x, _, rfl, hx2, fun y H3 e3 hy => q y H3 ((e1.trans e2).trans e3) hy⟩
theorem ok_Double___eq__ (T : Txt K mg C_Form C_Double) : MDef (fun p f => EqC K C_Double f) P w K mg base 1 ["self", "other"] (sp_Double___eq__ K C_Form C_Double) := by
  obtain ⟨p_, f_, fd_, R_, F_⟩ := T.e_Double___eq__
  refine ⟨p_, f_, fd_, R_, F_.binds (ps := ["self", "other"]) (fun _ _ _ _ _ _ us hl => match us, hl with | [_, _], _ => rfl), ?_⟩
  refine F_.ok sc_Double___eq__ (fun vs H Q E h => ?_) (fun cdv A outer s H vs Q E hr h => ?_)
  · first | (obtain ⟨rfl, _⟩ := h; rfl) | (obtain ⟨_, rfl, _⟩ := h; rfl) | (obtain ⟨_, _, rfl, _⟩ := h; rfl) | (obtain ⟨_, _, _, rfl, _⟩ := h; rfl) | (obtain ⟨_, _, _, _, rfl, _⟩ := h; rfl) | (obtain ⟨_, _, _, _, _, rfl, _⟩ := h; rfl) | (obtain ⟨_, _, _, _, _, _, rfl, _⟩ := h; rfl) | (obtain ⟨_, _, _, _, _, _, _, rfl, _⟩ := h; rfl) | (obtain ⟨_, _, _, _, _, _, _, _, rfl, _⟩ := h; rfl) | (obtain ⟨_, _, _, _, _, _, _, _, _, rfl, _⟩ := h; rfl) | (obtain ⟨_, _, _, _, _, _, _, _, _, _, rfl, _⟩ := h; rfl) | (obtain ⟨_, _, _, _, _, _, _, _, _, _, _, rfl, _⟩ := h; rfl) | (obtain ⟨_, _, _, _, _, _, _, _, _, _, _, _, rfl, _⟩ := h; rfl) | (obtain ⟨_, _, _, _, _, _, _, _, _, _, _, _, _, rfl, _⟩ := h; rfl) | (obtain ⟨_, _, _, _, _, _, _, _, _, _, _, _, _, _, rfl, _⟩ := h; rfl) | (obtain ⟨_, _, _, _, _, _, _, _, _, _, _, _, _, _, _, rfl, _⟩ := h; rfl) | (obtain ⟨_, _, _, _, _, _, _, _, _, _, _, _, _, _, _, _, rfl, _⟩ := h; rfl) | (obtain ⟨_, _, _, _, _, _, _, _, _, _, _, _, _, _, _, _, _, rfl, _⟩ := h; rfl) | (obtain ⟨_, _, _, _, _, _, _, _, _, _, _, _, _, _, _, _, _, _, rfl, _⟩ := h; rfl) | (obtain ⟨_, _, _, _, _, _, _, _, _, _, _, _, _, _, _, _, _, _, _, rfl, _⟩ := h; rfl) | (obtain ⟨_, _, _, _, _, _, _, _, _, _, _, _, _, _, _, _, _, _, _, _, rfl, _⟩ := h; rfl) | (obtain ⟨_, _, _, _, _, _, _, _, _, _, _, _, _, _, _, _, _, _, _, _, _, rfl, _⟩ := h; rfl) | (obtain ⟨_, _, _, _, _, _, _, _, _, _, _, _, _, _, _, _, _, _, _, _, _, _, rfl, _⟩ := h; rfl) | (obtain ⟨_, _, _, _, _, _, _, _, _, _, _, _, _, _, _, _, _, _, _, _, _, _, _, rfl, _⟩ := h; rfl)
  · obtain ⟨x, y, ns, ms, rfl, ⟨dx, t, hx, ht⟩, ⟨dy, u, hy, hu⟩, q⟩ := h
    refine ⟨_, (pss_one (ps_ret (pe_and (pe_callB call_isi (by rfl) T.b_isinstance (by decide +kernel) (pa_cons (pv 1) (pa_cons (pe_glob (v := .ref C_Double) (by rfl) T.g_Double rfl) pa_nil))) (pe_one (pe_cmpR (op_eqD hr.units) (pe_fld (pv 0) (by rfl)) (pe_fld (pv 1) (by rfl)) (nomark _)))))), ?_⟩
    refine ⟨_, rfl, _, _, _, _, true, rfl, .own _, ty_ins T.ty_Double T.cl_Double hy, kit_self, _, rfl, ?_⟩
    refine ⟨_, rfl, x, C_Double, dx, _, .ref t, rfl, hx, T.cl_Double, T.na_Double_coefficients, lk_same, _, rfl, y, C_Double, dy, _, .ref u, rfl, hy, T.cl_Double, T.na_Double_coefficients, lk_same, ?_⟩
    refine ⟨.tuple (ns.map .int), .tuple (ms.map .int), .tup (SqT.of ht) (dp_ints _), .tup (SqT.of hu) (dp_ints _), shaped_tints _, shaped_tints _, ?_⟩
    rw [PyData.eqv, eqv_ints]
    exact q
theorem ok_Form___eq__ (T : Txt K mg C_Form C_Double) : MDef (fun p f => EqC K C_Form f) P w K mg base 1 ["self", "other"] (sp_Form___eq__ K C_Form C_Double) := by
  obtain ⟨p_, f_, fd_, R_, F_⟩ := T.e_Form___eq__
  refine ⟨p_, f_, fd_, R_, F_.binds (ps := ["self", "other"]) (fun _ _ _ _ _ _ us hl => match us, hl with | [_, _], _ => rfl), ?_⟩
  refine F_.ok sc_Form___eq__ (fun vs H Q E h => ?_) (fun cdv A outer s H vs Q E hr h => ?_)
  · first | (obtain ⟨rfl, _⟩ := h; rfl) | (obtain ⟨_, rfl, _⟩ := h; rfl) | (obtain ⟨_, _, rfl, _⟩ := h; rfl) | (obtain ⟨_, _, _, rfl, _⟩ := h; rfl) | (obtain ⟨_, _, _, _, rfl, _⟩ := h; rfl) | (obtain ⟨_, _, _, _, _, rfl, _⟩ := h; rfl) | (obtain ⟨_, _, _, _, _, _, rfl, _⟩ := h; rfl) | (obtain ⟨_, _, _, _, _, _, _, rfl, _⟩ := h; rfl) | (obtain ⟨_, _, _, _, _, _, _, _, rfl, _⟩ := h; rfl) | (obtain ⟨_, _, _, _, _, _, _, _, _, rfl, _⟩ := h; rfl) | (obtain ⟨_, _, _, _, _, _, _, _, _, _, rfl, _⟩ := h; rfl) | (obtain ⟨_, _, _, _, _, _, _, _, _, _, _, rfl, _⟩ := h; rfl) | (obtain ⟨_, _, _, _, _, _, _, _, _, _, _, _, rfl, _⟩ := h; rfl) | (obtain ⟨_, _, _, _, _, _, _, _, _, _, _, _, _, rfl, _⟩ := h; rfl) | (obtain ⟨_, _, _, _, _, _, _, _, _, _, _, _, _, _, rfl, _⟩ := h; rfl) | (obtain ⟨_, _, _, _, _, _, _, _, _, _, _, _, _, _, _, rfl, _⟩ := h; rfl) | (obtain ⟨_, _, _, _, _, _, _, _, _, _, _, _, _, _, _, _, rfl, _⟩ := h; rfl) | (obtain ⟨_, _, _, _, _, _, _, _, _, _, _, _, _, _, _, _, _, rfl, _⟩ := h; rfl) | (obtain ⟨_, _, _, _, _, _, _, _, _, _, _, _, _, _, _, _, _, _, rfl, _⟩ := h; rfl) | (obtain ⟨_, _, _, _, _, _, _, _, _, _, _, _, _, _, _, _, _, _, _, rfl, _⟩ := h; rfl) | (obtain ⟨_, _, _, _, _, _, _, _, _, _, _, _, _, _, _, _, _, _, _, _, rfl, _⟩ := h; rfl) | (obtain ⟨_, _, _, _, _, _, _, _, _, _, _, _, _, _, _, _, _, _, _, _, _, rfl, _⟩ := h; rfl) | (obtain ⟨_, _, _, _, _, _, _, _, _, _, _, _, _, _, _, _, _, _, _, _, _, _, rfl, _⟩ := h; rfl) | (obtain ⟨_, _, _, _, _, _, _, _, _, _, _, _, _, _, _, _, _, _, _, _, _, _, _, rfl, _⟩ := h; rfl)
  · obtain ⟨x, y, ns, ms, rfl, ⟨dx, t, hx, ht⟩, ⟨dy, u, hy, hu⟩, q⟩ := h
    refine ⟨_, (pss_one (ps_ret (pe_and (pe_callB call_isi (by rfl) T.b_isinstance (by decide +kernel) (pa_cons (pv 1) (pa_cons (pe_glob (v := .ref C_Form) (by rfl) T.g_Form rfl) pa_nil))) (pe_one (pe_cmpR (op_eqD hr.units) (pe_fld (pv 0) (by rfl)) (pe_fld (pv 1) (by rfl)) (nomark _)))))), ?_⟩
    refine ⟨_, rfl, _, _, _, _, true, rfl, .own _, ty_ins T.ty_Form T.cl_Form hy, kit_self, _, rfl, ?_⟩
    refine ⟨_, rfl, x, C_Form, dx, _, .ref t, rfl, hx, T.cl_Form, T.na_Form_coefficients, lk_same, _, rfl, y, C_Form, dy, _, .ref u, rfl, hy, T.cl_Form, T.na_Form_coefficients, lk_same, ?_⟩
    refine ⟨.tuple (ns.map .int), .tuple (ms.map .int), .tup (SqT.of ht) (dp_ints _), .tup (SqT.of hu) (dp_ints _), shaped_tints _, shaped_tints _, ?_⟩
    rw [PyData.eqv, eqv_ints]
    exact q
theorem ok_check_form (T : Txt K mg C_Form C_Double) : Def P w K mg base 1 "check_form" ["value"] (sp_check_form K C_Form C_Double) := by
  obtain ⟨f_, fd_, g_, F_⟩ := T.d_check_form
  refine ⟨f_, fd_, g_, F_.kp, F_.binds (ps := ["value"]) (fun _ _ _ _ _ _ us hl => match us, hl with | [_], _ => rfl), ?_⟩
  refine F_.ok sc_check_form (fun vs H Q E h => ?_) (fun cdv A outer s H vs Q E hr h => ?_)
  · first | (obtain ⟨rfl, _⟩ := h; rfl) | (obtain ⟨_, rfl, _⟩ := h; rfl) | (obtain ⟨_, _, rfl, _⟩ := h; rfl) | (obtain ⟨_, _, _, rfl, _⟩ := h; rfl) | (obtain ⟨_, _, _, _, rfl, _⟩ := h; rfl) | (obtain ⟨_, _, _, _, _, rfl, _⟩ := h; rfl) | (obtain ⟨_, _, _, _, _, _, rfl, _⟩ := h; rfl) | (obtain ⟨_, _, _, _, _, _, _, rfl, _⟩ := h; rfl) | (obtain ⟨_, _, _, _, _, _, _, _, rfl, _⟩ := h; rfl) | (obtain ⟨_, _, _, _, _, _, _, _, _, rfl, _⟩ := h; rfl) | (obtain ⟨_, _, _, _, _, _, _, _, _, _, rfl, _⟩ := h; rfl) | (obtain ⟨_, _, _, _, _, _, _, _, _, _, _, rfl, _⟩ := h; rfl) | (obtain ⟨_, _, _, _, _, _, _, _, _, _, _, _, rfl, _⟩ := h; rfl) | (obtain ⟨_, _, _, _, _, _, _, _, _, _, _, _, _, rfl, _⟩ := h; rfl) | (obtain ⟨_, _, _, _, _, _, _, _, _, _, _, _, _, _, rfl, _⟩ := h; rfl) | (obtain ⟨_, _, _, _, _, _, _, _, _, _, _, _, _, _, _, rfl, _⟩ := h; rfl) | (obtain ⟨_, _, _, _, _, _, _, _, _, _, _, _, _, _, _, _, rfl, _⟩ := h; rfl) | (obtain ⟨_, _, _, _, _, _, _, _, _, _, _, _, _, _, _, _, _, rfl, _⟩ := h; rfl) | (obtain ⟨_, _, _, _, _, _, _, _, _, _, _, _, _, _, _, _, _, _, rfl, _⟩ := h; rfl) | (obtain ⟨_, _, _, _, _, _, _, _, _, _, _, _, _, _, _, _, _, _, _, rfl, _⟩ := h; rfl) | (obtain ⟨_, _, _, _, _, _, _, _, _, _, _, _, _, _, _, _, _, _, _, _, rfl, _⟩ := h; rfl) | (obtain ⟨_, _, _, _, _, _, _, _, _, _, _, _, _, _, _, _, _, _, _, _, _, rfl, _⟩ := h; rfl) | (obtain ⟨_, _, _, _, _, _, _, _, _, _, _, _, _, _, _, _, _, _, _, _, _, _, rfl, _⟩ := h; rfl) | (obtain ⟨_, _, _, _, _, _, _, _, _, _, _, _, _, _, _, _, _, _, _, _, _, _, _, rfl, _⟩ := h; rfl)
  · obtain ⟨x, ns, rfl, ⟨dx, t, hx, ht⟩, q⟩ := h
    refine ⟨_, (pss_one (ps_if (pt_not (pt_val (pe_callB call_isi (by rfl) T.b_isinstance (by decide +kernel) (pa_cons (pv 0) (pa_cons (pe_glob (v := .ref C_Form) (by rfl) T.g_Form rfl) pa_nil)))))
      pss_never
      pss_nil)), ?_⟩
    refine ⟨_, rfl, _, _, _, _, true, rfl, .own _, ty_ins T.ty_Form T.cl_Form hx, kit_self, _, rfl, ?_⟩
    exact iteF q
theorem ok_Form_hessian (T : Txt K mg C_Form C_Double) : MDef (fun p f => PropOf K C_Form "hessian" p f) P w K mg base 7 ["self"] (sp_Form_hessian K C_Form C_Double) := by
  obtain ⟨p_, f_, fd_, R_, F_⟩ := T.e_Form_hessian
  obtain ⟨f_double_of, fd_double_of, g_double_of, k_double_of, b_double_of, G_double_of⟩ := (ok_double_of (P := P) (w := w) (base := base) T)
  obtain ⟨f_form_hessian, fd_form_hessian, g_form_hessian, k_form_hessian, b_form_hessian, G_form_hessian⟩ := (ok_form_hessian (P := P) (w := w) (base := base) T)
  refine ⟨p_, f_, fd_, R_, F_.binds (ps := ["self"]) (fun _ _ _ _ _ _ us hl => match us, hl with | [_], _ => rfl), ?_⟩
  refine F_.ok sc_Form_hessian (fun vs H Q E h => ?_) (fun cdv A outer s H vs Q E hr h => ?_)
  · first | (obtain ⟨rfl, _⟩ := h; rfl) | (obtain ⟨_, rfl, _⟩ := h; rfl) | (obtain ⟨_, _, rfl, _⟩ := h; rfl) | (obtain ⟨_, _, _, rfl, _⟩ := h; rfl) | (obtain ⟨_, _, _, _, rfl, _⟩ := h; rfl) | (obtain ⟨_, _, _, _, _, rfl, _⟩ := h; rfl) | (obtain ⟨_, _, _, _, _, _, rfl, _⟩ := h; rfl) | (obtain ⟨_, _, _, _, _, _, _, rfl, _⟩ := h; rfl) | (obtain ⟨_, _, _, _, _, _, _, _, rfl, _⟩ := h; rfl) | (obtain ⟨_, _, _, _, _, _, _, _, _, rfl, _⟩ := h; rfl) | (obtain ⟨_, _, _, _, _, _, _, _, _, _, rfl, _⟩ := h; rfl) | (obtain ⟨_, _, _, _, _, _, _, _, _, _, _, rfl, _⟩ := h; rfl) | (obtain ⟨_, _, _, _, _, _, _, _, _, _, _, _, rfl, _⟩ := h; rfl) | (obtain ⟨_, _, _, _, _, _, _, _, _, _, _, _, _, rfl, _⟩ := h; rfl) | (obtain ⟨_, _, _, _, _, _, _, _, _, _, _, _, _, _, rfl, _⟩ := h; rfl) | (obtain ⟨_, _, _, _, _, _, _, _, _, _, _, _, _, _, _, rfl, _⟩ := h; rfl) | (obtain ⟨_, _, _, _, _, _, _, _, _, _, _, _, _, _, _, _, rfl, _⟩ := h; rfl) | (obtain ⟨_, _, _, _, _, _, _, _, _, _, _, _, _, _, _, _, _, rfl, _⟩ := h; rfl) | (obtain ⟨_, _, _, _, _, _, _, _, _, _, _, _, _, _, _, _, _, _, rfl, _⟩ := h; rfl) | (obtain ⟨_, _, _, _, _, _, _, _, _, _, _, _, _, _, _, _, _, _, _, rfl, _⟩ := h; rfl) | (obtain ⟨_, _, _, _, _, _, _, _, _, _, _, _, _, _, _, _, _, _, _, _, rfl, _⟩ := h; rfl) | (obtain ⟨_, _, _, _, _, _, _, _, _, _, _, _, _, _, _, _, _, _, _, _, _, rfl, _⟩ := h; rfl) | (obtain ⟨_, _, _, _, _, _, _, _, _, _, _, _, _, _, _, _, _, _, _, _, _, _, rfl, _⟩ := h; rfl) | (obtain ⟨_, _, _, _, _, _, _, _, _, _, _, _, _, _, _, _, _, _, _, _, _, _, _, rfl, _⟩ := h; rfl)
  · obtain ⟨z, a, b, c, d, rfl, ⟨dx, t, hx, ht⟩, ba, bb, bc, bd, q⟩ := h
    refine ⟨_, (pss_one (ps_ret (pe_call G_double_of (hr.mono (by decide)) (by rfl) g_double_of k_double_of b_double_of .nil pass0 (pa_cons (pe_call G_form_hessian (hr.mono (by decide)) (by rfl) g_form_hessian k_form_hessian b_form_hessian .nil pass0 (pa_cons (pe_fld (pv 0) (by rfl)) pa_nil)) pa_nil)))), ?_⟩
    refine ⟨_, rfl, z, C_Form, dx, _, .ref t, rfl, hx, T.cl_Form, T.na_Form_coefficients, lk_same, t, a, b, c, d, rfl, ht, ba, bb, bc, bd, fun x H2 e2 hx2 => ?_⟩
    exact ⟨x, _, rfl, hx2, fun y H3 e3 hy => q y H3 (e2.trans e3) hy⟩
end
end TF
namespace TF
open PySem PySem.Spec PyProof.Rows L2 Fr
open K05M (fv fl2 fl3 fdisc)
open K06M
def k0 (a b c d : Int) : Int := b * b - a * c
def k1 (a b c d : Int) : Int := b * c - a * d
def k2 (a b c d : Int) : Int := c * c - b * d
def t0 (a b c d p q : Int) : Int := a * p * p * p + 3 * b * p * p * q + 3 * c * p * q * q + d * q * q * q
def t2 (a b c d p q r s : Int) : Int := a * p * p * r + b * p * (p * s + 2 * q * r) + c * q * (2 * p * s + q * r) + d * q * q * s
def t3 (a b c d p q r s : Int) : Int := a * p * r * r + b * r * (2 * p * s + q * r) + c * s * (p * s + 2 * q * r) + d * q * s * s
def tled (a b c d p q r s : Int) : List Int := [(p * s - q * r) * t0 a b c d p q, (p * s - q * r) * t2 a b c d p q r s, (p * s - q * r) * t3 a b c d p q r s, (p * s - q * r) * t0 a b c d r s]
theorem fv3 (a b c d p q : Int) : fv a (3 * b) (3 * c) d p q = t0 a b c d p q := by unfold fv t0; grind
theorem fl23 (a b c d p q r s : Int) : fl2 a (3 * b) (3 * c) d p q r s = 3 * t2 a b c d p q r s := by unfold fl2 t2; grind
theorem fl33 (a b c d p q r s : Int) : fl3 a (3 * b) (3 * c) d p q r s = 3 * t3 a b c d p q r s := by unfold fl3 t3; grind
theorem third (e x : Int) : e * (3 * x) / 3 = e * x := by
  rw [show e * (3 * x) = 3 * (e * x) by grind]
  exact Int.mul_ediv_cancel_left _ (by decide)
theorem fled3 (a b c d p q r s : Int) : fled a (3 * b) (3 * c) d p q r s = [(p * s - q * r) * t0 a b c d p q, 3 * ((p * s - q * r) * t2 a b c d p q r s), 3 * ((p * s - q * r) * t3 a b c d p q r s), (p * s - q * r) * t0 a b c d r s] := by
  unfold fled
  rw [fv3, fv3, fl23, fl33]
  congr 2
  · grind
  · congr 1
    grind
def sp_check_threefold (_ : PySem.W.Frag) (C C_D : Addr) : Sp := fun vs H Q _ => ∃ (t : Addr) (a b c d : Int), vs = [.ref t] ∧ Ti H t [a, b, c, d] ∧ (∀ n ∈ [a, b, c, d], Short n) ∧ ∀ H', Ex0 H H' → Q .non H'
def sp_hessian_of (_ : PySem.W.Frag) (C C_D : Addr) : Sp := fun vs H Q _ => ∃ (t : Addr) (a b c d : Int), vs = [.ref t] ∧ Ti H t [a, b, c, d] ∧ B 1000 a ∧ B 1000 b ∧ B 1000 c ∧ B 1000 d ∧ ∀ x H', Ex0 H H' → Ti H' x [k0 a b c d, k1 a b c d, k2 a b c d] → Q (.ref x) H'
def sp_spread (_ : PySem.W.Frag) (C C_D : Addr) : Sp := fun vs H Q _ => ∃ (t : Addr) (a b c d : Int), vs = [.ref t] ∧ Ti H t [a, b, c, d] ∧ B 900 a ∧ B 900 b ∧ B 900 c ∧ B 900 d ∧ ∀ x H', Ex0 H H' → Ti H' x [a, 3 * b, 3 * c, d] → Q (.ref x) H'
def sp_led_by (_ : PySem.W.Frag) (C C_D : Addr) : Sp := fun vs H Q _ => ∃ (t u : Addr) (a b c d p q r s : Int), vs = [.ref t, .ref u] ∧ Ti H t [a, b, c, d] ∧ T4 H u p q r s ∧ B 900 a ∧ B 900 b ∧ B 900 c ∧ B 900 d ∧ B 200 p ∧ B 200 q ∧ B 200 r ∧ B 200 s ∧ ∀ x H', Ex0 H H' → Ti H' x (tled a b c d p q r s) → Q (.ref x) H'
def sp_small_hessian (_ : PySem.W.Frag) (C C_D : Addr) : Sp := fun vs H Q _ => ∃ (t : Addr) (a b c d : Int), vs = [.ref t] ∧ Ti H t [a, b, c, d] ∧ (∀ n ∈ [a, b, c, d], Short n) ∧ ∀ x H', Ex0 H H' → FormAt C_D H' x [k0 a b c d, k1 a b c d, k2 a b c d] → Q (.ref x) H'
def sp_form_of_threefold (_ : PySem.W.Frag) (C C_D : Addr) : Sp := fun vs H Q _ => ∃ (t : Addr) (a b c d : Int), vs = [.ref t] ∧ Ti H t [a, b, c, d] ∧ (∀ n ∈ [a, b, c, d], Short n) ∧ ∀ x H', Ex0 H H' → FormAt C H' x [a, 3 * b, 3 * c, d] → Q (.ref x) H'
def sp_threefold_of_form (_ : PySem.W.Frag) (C C_D : Addr) : Sp := fun vs H Q _ => ∃ (x : Addr) (a b c d : Int), vs = [.ref x] ∧ FormAt C H x [a, 3 * b, 3 * c, d] ∧ ∀ o H', Ex0 H H' → Ti H' o [a, b, c, d] → Q (.ref o) H'
def sp_threefold_led (_ : PySem.W.Frag) (C C_D : Addr) : Sp := fun vs H Q _ => ∃ (t u : Addr) (a b c d p q r s : Int), vs = [.ref t, .ref u] ∧ Ti H t [a, b, c, d] ∧ T4 H u p q r s ∧ (∀ n ∈ [a, b, c, d], Short n) ∧ ChOk p q r s ∧ ∀ x H', Ex0 H H' → Ti H' x (tled a b c d p q r s) → Q (.ref x) H'
section
variable {P : Program} {w : World} {K : PySem.W.Frag} {mg : Str → Option Value} {base : Heap} {C_Form C_Double : Addr}
theorem ok_check_threefold (T : Txt K mg C_Form C_Double) : Def P w K mg base 4 "check_threefold" ["value"] (sp_check_threefold K C_Form C_Double) := by
  obtain ⟨f_, fd_, g_, F_⟩ := T.d_check_threefold
  obtain ⟨f_are_short_integers, fd_are_short_integers, g_are_short_integers, k_are_short_integers, b_are_short_integers, G_are_short_integers⟩ := (ok_are_short_integers (P := P) (w := w) (base := base) T)
  refine ⟨f_, fd_, g_, F_.kp, F_.binds (ps := ["value"]) (fun _ _ _ _ _ _ us hl => match us, hl with | [_], _ => rfl), ?_⟩
  refine F_.ok sc_check_threefold (fun vs H Q E h => ?_) (fun cdv A outer s H vs Q E hr h => ?_)
  · first | (obtain ⟨rfl, _⟩ := h; rfl) | (obtain ⟨_, rfl, _⟩ := h; rfl) | (obtain ⟨_, _, rfl, _⟩ := h; rfl) | (obtain ⟨_, _, _, rfl, _⟩ := h; rfl) | (obtain ⟨_, _, _, _, rfl, _⟩ := h; rfl) | (obtain ⟨_, _, _, _, _, rfl, _⟩ := h; rfl) | (obtain ⟨_, _, _, _, _, _, rfl, _⟩ := h; rfl) | (obtain ⟨_, _, _, _, _, _, _, rfl, _⟩ := h; rfl) | (obtain ⟨_, _, _, _, _, _, _, _, rfl, _⟩ := h; rfl) | (obtain ⟨_, _, _, _, _, _, _, _, _, rfl, _⟩ := h; rfl) | (obtain ⟨_, _, _, _, _, _, _, _, _, _, rfl, _⟩ := h; rfl) | (obtain ⟨_, _, _, _, _, _, _, _, _, _, _, rfl, _⟩ := h; rfl) | (obtain ⟨_, _, _, _, _, _, _, _, _, _, _, _, rfl, _⟩ := h; rfl) | (obtain ⟨_, _, _, _, _, _, _, _, _, _, _, _, _, rfl, _⟩ := h; rfl) | (obtain ⟨_, _, _, _, _, _, _, _, _, _, _, _, _, _, rfl, _⟩ := h; rfl) | (obtain ⟨_, _, _, _, _, _, _, _, _, _, _, _, _, _, _, rfl, _⟩ := h; rfl) | (obtain ⟨_, _, _, _, _, _, _, _, _, _, _, _, _, _, _, _, rfl, _⟩ := h; rfl) | (obtain ⟨_, _, _, _, _, _, _, _, _, _, _, _, _, _, _, _, _, rfl, _⟩ := h; rfl) | (obtain ⟨_, _, _, _, _, _, _, _, _, _, _, _, _, _, _, _, _, _, rfl, _⟩ := h; rfl) | (obtain ⟨_, _, _, _, _, _, _, _, _, _, _, _, _, _, _, _, _, _, _, rfl, _⟩ := h; rfl) | (obtain ⟨_, _, _, _, _, _, _, _, _, _, _, _, _, _, _, _, _, _, _, _, rfl, _⟩ := h; rfl) | (obtain ⟨_, _, _, _, _, _, _, _, _, _, _, _, _, _, _, _, _, _, _, _, _, rfl, _⟩ := h; rfl) | (obtain ⟨_, _, _, _, _, _, _, _, _, _, _, _, _, _, _, _, _, _, _, _, _, _, rfl, _⟩ := h; rfl) | (obtain ⟨_, _, _, _, _, _, _, _, _, _, _, _, _, _, _, _, _, _, _, _, _, _, _, rfl, _⟩ := h; rfl)
  · obtain ⟨t, a, b, c, d, rfl, ht, hs, q⟩ := h
    refine ⟨_, (pss_one (ps_if (pt_not (pt_val (pe_call G_are_short_integers (hr.mono (by decide)) (by rfl) g_are_short_integers k_are_short_integers b_are_short_integers .nil pass0 (pa_cons (pv 0) (pa_cons pe_int pa_nil)))))
      pss_never
      pss_nil)), ?_⟩
    refine ⟨_, rfl, t, [a, b, c, d], rfl, ht, by show 4 ≤ 1000; decide, hs, fun H1 e1 => ⟨_, rfl, ?_⟩⟩
    exact iteF (q H1 e1)
theorem ok_hessian_of (T : Txt K mg C_Form C_Double) : Def P w K mg base 1 "hessian_of" ["threefold"] (sp_hessian_of K C_Form C_Double) := by
  obtain ⟨f_, fd_, g_, F_⟩ := T.d_hessian_of
  refine ⟨f_, fd_, g_, F_.kp, F_.binds (ps := ["threefold"]) (fun _ _ _ _ _ _ us hl => match us, hl with | [_], _ => rfl), ?_⟩
  refine F_.ok sc_hessian_of (fun vs H Q E h => ?_) (fun cdv A outer s H vs Q E hr h => ?_)
  · first | (obtain ⟨rfl, _⟩ := h; rfl) | (obtain ⟨_, rfl, _⟩ := h; rfl) | (obtain ⟨_, _, rfl, _⟩ := h; rfl) | (obtain ⟨_, _, _, rfl, _⟩ := h; rfl) | (obtain ⟨_, _, _, _, rfl, _⟩ := h; rfl) | (obtain ⟨_, _, _, _, _, rfl, _⟩ := h; rfl) | (obtain ⟨_, _, _, _, _, _, rfl, _⟩ := h; rfl) | (obtain ⟨_, _, _, _, _, _, _, rfl, _⟩ := h; rfl) | (obtain ⟨_, _, _, _, _, _, _, _, rfl, _⟩ := h; rfl) | (obtain ⟨_, _, _, _, _, _, _, _, _, rfl, _⟩ := h; rfl) | (obtain ⟨_, _, _, _, _, _, _, _, _, _, rfl, _⟩ := h; rfl) | (obtain ⟨_, _, _, _, _, _, _, _, _, _, _, rfl, _⟩ := h; rfl) | (obtain ⟨_, _, _, _, _, _, _, _, _, _, _, _, rfl, _⟩ := h; rfl) | (obtain ⟨_, _, _, _, _, _, _, _, _, _, _, _, _, rfl, _⟩ := h; rfl) | (obtain ⟨_, _, _, _, _, _, _, _, _, _, _, _, _, _, rfl, _⟩ := h; rfl) | (obtain ⟨_, _, _, _, _, _, _, _, _, _, _, _, _, _, _, rfl, _⟩ := h; rfl) | (obtain ⟨_, _, _, _, _, _, _, _, _, _, _, _, _, _, _, _, rfl, _⟩ := h; rfl) | (obtain ⟨_, _, _, _, _, _, _, _, _, _, _, _, _, _, _, _, _, rfl, _⟩ := h; rfl) | (obtain ⟨_, _, _, _, _, _, _, _, _, _, _, _, _, _, _, _, _, _, rfl, _⟩ := h; rfl) | (obtain ⟨_, _, _, _, _, _, _, _, _, _, _, _, _, _, _, _, _, _, _, rfl, _⟩ := h; rfl) | (obtain ⟨_, _, _, _, _, _, _, _, _, _, _, _, _, _, _, _, _, _, _, _, rfl, _⟩ := h; rfl) | (obtain ⟨_, _, _, _, _, _, _, _, _, _, _, _, _, _, _, _, _, _, _, _, _, rfl, _⟩ := h; rfl) | (obtain ⟨_, _, _, _, _, _, _, _, _, _, _, _, _, _, _, _, _, _, _, _, _, _, rfl, _⟩ := h; rfl) | (obtain ⟨_, _, _, _, _, _, _, _, _, _, _, _, _, _, _, _, _, _, _, _, _, _, _, rfl, _⟩ := h; rfl)
  · obtain ⟨t, a, b, c, d, rfl, ht, ba, bb, bc, bd, q⟩ := h
    refine ⟨_, (pss_cons (ps_asg (pv 0) (pg_tup (by rfl) (pgs_cons (pg_name (i := 1) sc_hessian_of.nd rfl (.inl rfl)) (pgs_cons (pg_name (i := 2) sc_hessian_of.nd rfl (.inl rfl)) (pgs_cons (pg_name (i := 3) sc_hessian_of.nd rfl (.inl rfl)) (pgs_cons (pg_name (i := 4) sc_hessian_of.nd rfl (.inl rfl)) pgs_nil))))))
    (pss_one (ps_ret (pe_tup (pa_cons (pe_op op_sub (pe_op op_mulW (pv 2) (pv 2)) (pe_op op_mulW (pv 1) (pv 3))) (pa_cons (pe_op op_sub (pe_op op_mulW (pv 2) (pv 3)) (pe_op op_mulW (pv 1) (pv 4))) (pa_cons (pe_op op_sub (pe_op op_mulW (pv 3) (pv 3)) (pe_op op_mulW (pv 2) (pv 4))) pa_nil))))))), ?_⟩
    refine ⟨_, rfl, unI4 ht ?_⟩
    exact ⟨_, rfl, _, rfl, _, _, rfl, rfl, mulB (by with_reducible assumption) (by with_reducible assumption) (by decide), _, rfl, _, rfl, _, _, rfl, rfl, mulB (by with_reducible assumption) (by with_reducible assumption) (by decide), _, _, rfl, rfl, _, rfl, _, rfl, _, _, rfl, rfl, mulB (by with_reducible assumption) (by with_reducible assumption) (by decide), _, rfl, _, rfl, _, _, rfl, rfl, mulB (by with_reducible assumption) (by with_reducible assumption) (by decide), _, _, rfl, rfl, _, rfl, _, rfl, _, _, rfl, rfl, mulB (by with_reducible assumption) (by with_reducible assumption) (by decide), _, rfl, _, rfl, _, _, rfl, rfl, mulB (by with_reducible assumption) (by with_reducible assumption) (by decide), _, _, rfl, rfl, sl3, fun x nx => q x _ (Ex0.new nx) upd_same⟩
theorem ok_spread (T : Txt K mg C_Form C_Double) : Def P w K mg base 1 "spread" ["threefold"] (sp_spread K C_Form C_Double) := by
  obtain ⟨f_, fd_, g_, F_⟩ := T.d_spread
  refine ⟨f_, fd_, g_, F_.kp, F_.binds (ps := ["threefold"]) (fun _ _ _ _ _ _ us hl => match us, hl with | [_], _ => rfl), ?_⟩
  refine F_.ok sc_spread (fun vs H Q E h => ?_) (fun cdv A outer s H vs Q E hr h => ?_)
  · first | (obtain ⟨rfl, _⟩ := h; rfl) | (obtain ⟨_, rfl, _⟩ := h; rfl) | (obtain ⟨_, _, rfl, _⟩ := h; rfl) | (obtain ⟨_, _, _, rfl, _⟩ := h; rfl) | (obtain ⟨_, _, _, _, rfl, _⟩ := h; rfl) | (obtain ⟨_, _, _, _, _, rfl, _⟩ := h; rfl) | (obtain ⟨_, _, _, _, _, _, rfl, _⟩ := h; rfl) | (obtain ⟨_, _, _, _, _, _, _, rfl, _⟩ := h; rfl) | (obtain ⟨_, _, _, _, _, _, _, _, rfl, _⟩ := h; rfl) | (obtain ⟨_, _, _, _, _, _, _, _, _, rfl, _⟩ := h; rfl) | (obtain ⟨_, _, _, _, _, _, _, _, _, _, rfl, _⟩ := h; rfl) | (obtain ⟨_, _, _, _, _, _, _, _, _, _, _, rfl, _⟩ := h; rfl) | (obtain ⟨_, _, _, _, _, _, _, _, _, _, _, _, rfl, _⟩ := h; rfl) | (obtain ⟨_, _, _, _, _, _, _, _, _, _, _, _, _, rfl, _⟩ := h; rfl) | (obtain ⟨_, _, _, _, _, _, _, _, _, _, _, _, _, _, rfl, _⟩ := h; rfl) | (obtain ⟨_, _, _, _, _, _, _, _, _, _, _, _, _, _, _, rfl, _⟩ := h; rfl) | (obtain ⟨_, _, _, _, _, _, _, _, _, _, _, _, _, _, _, _, rfl, _⟩ := h; rfl) | (obtain ⟨_, _, _, _, _, _, _, _, _, _, _, _, _, _, _, _, _, rfl, _⟩ := h; rfl) | (obtain ⟨_, _, _, _, _, _, _, _, _, _, _, _, _, _, _, _, _, _, rfl, _⟩ := h; rfl) | (obtain ⟨_, _, _, _, _, _, _, _, _, _, _, _, _, _, _, _, _, _, _, rfl, _⟩ := h; rfl) | (obtain ⟨_, _, _, _, _, _, _, _, _, _, _, _, _, _, _, _, _, _, _, _, rfl, _⟩ := h; rfl) | (obtain ⟨_, _, _, _, _, _, _, _, _, _, _, _, _, _, _, _, _, _, _, _, _, rfl, _⟩ := h; rfl) | (obtain ⟨_, _, _, _, _, _, _, _, _, _, _, _, _, _, _, _, _, _, _, _, _, _, rfl, _⟩ := h; rfl) | (obtain ⟨_, _, _, _, _, _, _, _, _, _, _, _, _, _, _, _, _, _, _, _, _, _, _, rfl, _⟩ := h; rfl)
  · obtain ⟨t, a, b, c, d, rfl, ht, ba, bb, bc, bd, q⟩ := h
    refine ⟨_, (pss_cons (ps_asg (pv 0) (pg_tup (by rfl) (pgs_cons (pg_name (i := 1) sc_spread.nd rfl (.inl rfl)) (pgs_cons (pg_name (i := 2) sc_spread.nd rfl (.inl rfl)) (pgs_cons (pg_name (i := 3) sc_spread.nd rfl (.inl rfl)) (pgs_cons (pg_name (i := 4) sc_spread.nd rfl (.inl rfl)) pgs_nil))))))
    (pss_one (ps_ret (pe_tup (pa_cons (pv 1) (pa_cons (pe_op op_mulW pe_int (pv 2)) (pa_cons (pe_op op_mulW pe_int (pv 3)) (pa_cons (pv 4) pa_nil)))))))), ?_⟩
    refine ⟨_, rfl, unI4 ht ?_⟩
    exact ⟨_, rfl, _, rfl, _, _, rfl, rfl, mulB (B.lit (by decide)) (by with_reducible assumption) (by decide), _, rfl, _, _, rfl, rfl, mulB (B.lit (by decide)) (by with_reducible assumption) (by decide), _, rfl, sl4, fun x nx => q x _ (Ex0.new nx) upd_same⟩
theorem ok_led_by (T : Txt K mg C_Form C_Double) : Def P w K mg base 3 "led_by" ["threefold", "change"] (sp_led_by K C_Form C_Double) := by
  obtain ⟨f_, fd_, g_, F_⟩ := T.d_led_by
  obtain ⟨f_form_led, fd_form_led, g_form_led, k_form_led, b_form_led, G_form_led⟩ := (ok_form_led (P := P) (w := w) (base := base) T)
  obtain ⟨f_spread, fd_spread, g_spread, k_spread, b_spread, G_spread⟩ := (ok_spread (P := P) (w := w) (base := base) T)
  refine ⟨f_, fd_, g_, F_.kp, F_.binds (ps := ["threefold", "change"]) (fun _ _ _ _ _ _ us hl => match us, hl with | [_, _], _ => rfl), ?_⟩
  refine F_.ok sc_led_by (fun vs H Q E h => ?_) (fun cdv A outer s H vs Q E hr h => ?_)
  · first | (obtain ⟨rfl, _⟩ := h; rfl) | (obtain ⟨_, rfl, _⟩ := h; rfl) | (obtain ⟨_, _, rfl, _⟩ := h; rfl) | (obtain ⟨_, _, _, rfl, _⟩ := h; rfl) | (obtain ⟨_, _, _, _, rfl, _⟩ := h; rfl) | (obtain ⟨_, _, _, _, _, rfl, _⟩ := h; rfl) | (obtain ⟨_, _, _, _, _, _, rfl, _⟩ := h; rfl) | (obtain ⟨_, _, _, _, _, _, _, rfl, _⟩ := h; rfl) | (obtain ⟨_, _, _, _, _, _, _, _, rfl, _⟩ := h; rfl) | (obtain ⟨_, _, _, _, _, _, _, _, _, rfl, _⟩ := h; rfl) | (obtain ⟨_, _, _, _, _, _, _, _, _, _, rfl, _⟩ := h; rfl) | (obtain ⟨_, _, _, _, _, _, _, _, _, _, _, rfl, _⟩ := h; rfl) | (obtain ⟨_, _, _, _, _, _, _, _, _, _, _, _, rfl, _⟩ := h; rfl) | (obtain ⟨_, _, _, _, _, _, _, _, _, _, _, _, _, rfl, _⟩ := h; rfl) | (obtain ⟨_, _, _, _, _, _, _, _, _, _, _, _, _, _, rfl, _⟩ := h; rfl) | (obtain ⟨_, _, _, _, _, _, _, _, _, _, _, _, _, _, _, rfl, _⟩ := h; rfl) | (obtain ⟨_, _, _, _, _, _, _, _, _, _, _, _, _, _, _, _, rfl, _⟩ := h; rfl) | (obtain ⟨_, _, _, _, _, _, _, _, _, _, _, _, _, _, _, _, _, rfl, _⟩ := h; rfl) | (obtain ⟨_, _, _, _, _, _, _, _, _, _, _, _, _, _, _, _, _, _, rfl, _⟩ := h; rfl) | (obtain ⟨_, _, _, _, _, _, _, _, _, _, _, _, _, _, _, _, _, _, _, rfl, _⟩ := h; rfl) | (obtain ⟨_, _, _, _, _, _, _, _, _, _, _, _, _, _, _, _, _, _, _, _, rfl, _⟩ := h; rfl) | (obtain ⟨_, _, _, _, _, _, _, _, _, _, _, _, _, _, _, _, _, _, _, _, _, rfl, _⟩ := h; rfl) | (obtain ⟨_, _, _, _, _, _, _, _, _, _, _, _, _, _, _, _, _, _, _, _, _, _, rfl, _⟩ := h; rfl) | (obtain ⟨_, _, _, _, _, _, _, _, _, _, _, _, _, _, _, _, _, _, _, _, _, _, _, rfl, _⟩ := h; rfl)
  · obtain ⟨t, u, a, b, c, d, p, q', r, s', rfl, ht, h4, ba, bb, bc, bd, bp, bq, br, bs, q⟩ := h
    refine ⟨_, (pss_cons (ps_asg (pe_call G_form_led (hr.mono (by decide)) (by rfl) g_form_led k_form_led b_form_led .nil pass0 (pa_cons (pe_call G_spread (hr.mono (by decide)) (by rfl) g_spread k_spread b_spread .nil pass0 (pa_cons (pv 0) pa_nil)) (pa_cons (pv 1) pa_nil))) (pg_tup (by rfl) (pgs_cons (pg_name (i := 2) sc_led_by.nd rfl (.inl rfl)) (pgs_cons (pg_name (i := 3) sc_led_by.nd rfl (.inl rfl)) (pgs_cons (pg_name (i := 4) sc_led_by.nd rfl (.inl rfl)) (pgs_cons (pg_name (i := 5) sc_led_by.nd rfl (.inl rfl)) pgs_nil))))))
    (pss_one (ps_ret (pe_tup (pa_cons (pv 2) (pa_cons (pe_op op_fdivW (pv 3) pe_int) (pa_cons (pe_op op_fdivW (pv 4) pe_int) (pa_cons (pv 5) pa_nil)))))))), ?_⟩
    have b3 : B 64 3 := ⟨by decide, by decide⟩
    refine ⟨_, rfl, t, a, b, c, d, rfl, ht, ba, bb, bc, bd, fun x H1 e1 hx => ?_⟩
    refine ⟨_, rfl, x, u, a, 3 * b, 3 * c, d, p, q', r, s', rfl, hx, Ex0.t4 e1 h4, ba.mono (by decide), (B.mul b3 bb).mono (by decide), (B.mul b3 bc).mono (by decide), bd.mono (by decide), bp, bq, br, bs, fun y H2 e2 hy => ?_⟩
    rw [fled3] at hy
    refine unI4 hy ?_
    refine ⟨_, rfl, _, rfl, _, _, rfl, rfl, dw (by decide) (by decide), _, rfl, _, _, rfl, rfl, dw (by decide) (by decide), _, rfl, sl4, fun o no => ?_⟩
    refine q o _ ((e1.trans e2).trans (Ex0.new no)) ?_
    have e3 : ∀ x : Int, (3 * x) / 3 = x := fun x => Int.mul_ediv_cancel_left _ (by decide)
    show upd H2 o (.tup [.int ((p * s' - q' * r) * t0 a b c d p q'), .int (3 * ((p * s' - q' * r) * t2 a b c d p q' r s') / 3), .int (3 * ((p * s' - q' * r) * t3 a b c d p q' r s') / 3), .int ((p * s' - q' * r) * t0 a b c d r s')]) o = _
    rw [e3, e3]
    exact upd_same
theorem ok_small_hessian (T : Txt K mg C_Form C_Double) : Def P w K mg base 7 "small_hessian" ["threefold"] (sp_small_hessian K C_Form C_Double) := by
  obtain ⟨f_, fd_, g_, F_⟩ := T.d_small_hessian
  obtain ⟨f_check_threefold, fd_check_threefold, g_check_threefold, k_check_threefold, b_check_threefold, G_check_threefold⟩ := (ok_check_threefold (P := P) (w := w) (base := base) T)
  obtain ⟨f_double_of, fd_double_of, g_double_of, k_double_of, b_double_of, G_double_of⟩ := (ok_double_of (P := P) (w := w) (base := base) T)
  obtain ⟨f_hessian_of, fd_hessian_of, g_hessian_of, k_hessian_of, b_hessian_of, G_hessian_of⟩ := (ok_hessian_of (P := P) (w := w) (base := base) T)
  refine ⟨f_, fd_, g_, F_.kp, F_.binds (ps := ["threefold"]) (fun _ _ _ _ _ _ us hl => match us, hl with | [_], _ => rfl), ?_⟩
  refine F_.ok sc_small_hessian (fun vs H Q E h => ?_) (fun cdv A outer s H vs Q E hr h => ?_)
  · first | (obtain ⟨rfl, _⟩ := h; rfl) | (obtain ⟨_, rfl, _⟩ := h; rfl) | (obtain ⟨_, _, rfl, _⟩ := h; rfl) | (obtain ⟨_, _, _, rfl, _⟩ := h; rfl) | (obtain ⟨_, _, _, _, rfl, _⟩ := h; rfl) | (obtain ⟨_, _, _, _, _, rfl, _⟩ := h; rfl) | (obtain ⟨_, _, _, _, _, _, rfl, _⟩ := h; rfl) | (obtain ⟨_, _, _, _, _, _, _, rfl, _⟩ := h; rfl) | (obtain ⟨_, _, _, _, _, _, _, _, rfl, _⟩ := h; rfl) | (obtain ⟨_, _, _, _, _, _, _, _, _, rfl, _⟩ := h; rfl) | (obtain ⟨_, _, _, _, _, _, _, _, _, _, rfl, _⟩ := h; rfl) | (obtain ⟨_, _, _, _, _, _, _, _, _, _, _, rfl, _⟩ := h; rfl) | (obtain ⟨_, _, _, _, _, _, _, _, _, _, _, _, rfl, _⟩ := h; rfl) | (obtain ⟨_, _, _, _, _, _, _, _, _, _, _, _, _, rfl, _⟩ := h; rfl) | (obtain ⟨_, _, _, _, _, _, _, _, _, _, _, _, _, _, rfl, _⟩ := h; rfl) | (obtain ⟨_, _, _, _, _, _, _, _, _, _, _, _, _, _, _, rfl, _⟩ := h; rfl) | (obtain ⟨_, _, _, _, _, _, _, _, _, _, _, _, _, _, _, _, rfl, _⟩ := h; rfl) | (obtain ⟨_, _, _, _, _, _, _, _, _, _, _, _, _, _, _, _, _, rfl, _⟩ := h; rfl) | (obtain ⟨_, _, _, _, _, _, _, _, _, _, _, _, _, _, _, _, _, _, rfl, _⟩ := h; rfl) | (obtain ⟨_, _, _, _, _, _, _, _, _, _, _, _, _, _, _, _, _, _, _, rfl, _⟩ := h; rfl) | (obtain ⟨_, _, _, _, _, _, _, _, _, _, _, _, _, _, _, _, _, _, _, _, rfl, _⟩ := h; rfl) | (obtain ⟨_, _, _, _, _, _, _, _, _, _, _, _, _, _, _, _, _, _, _, _, _, rfl, _⟩ := h; rfl) | (obtain ⟨_, _, _, _, _, _, _, _, _, _, _, _, _, _, _, _, _, _, _, _, _, _, rfl, _⟩ := h; rfl) | (obtain ⟨_, _, _, _, _, _, _, _, _, _, _, _, _, _, _, _, _, _, _, _, _, _, _, rfl, _⟩ := h; rfl)
  · obtain ⟨t, a, b, c, d, rfl, ht, hs, q⟩ := h
    refine ⟨_, (pss_cons (ps_expr (pe_call G_check_threefold (hr.mono (by decide)) (by rfl) g_check_threefold k_check_threefold b_check_threefold .nil pass0 (pa_cons (pv 0) pa_nil)))
    (pss_one (ps_ret (pe_call G_double_of (hr.mono (by decide)) (by rfl) g_double_of k_double_of b_double_of .nil pass0 (pa_cons (pe_call G_hessian_of (hr.mono (by decide)) (by rfl) g_hessian_of k_hessian_of b_hessian_of .nil pass0 (pa_cons (pv 0) pa_nil)) pa_nil))))), ?_⟩
    have bs : ∀ n ∈ [a, b, c, d], B 1000 n := fun n h => (hs n h).b.mono (by decide)
    refine ⟨_, rfl, t, a, b, c, d, rfl, ht, hs, fun H1 e1 => ?_⟩
    refine ⟨_, rfl, t, a, b, c, d, rfl, Ex0.ti e1 ht, bs a (by simp), bs b (by simp), bs c (by simp), bs d (by simp), fun x H2 e2 hx => ?_⟩
    exact ⟨x, _, rfl, hx, fun y H3 e3 hy => q y H3 ((e1.trans e2).trans e3) hy⟩
theorem ok_form_of_threefold (T : Txt K mg C_Form C_Double) : Def P w K mg base 7 "form_of_threefold" ["threefold"] (sp_form_of_threefold K C_Form C_Double) := by
  obtain ⟨f_, fd_, g_, F_⟩ := T.d_form_of_threefold
  obtain ⟨f_check_threefold, fd_check_threefold, g_check_threefold, k_check_threefold, b_check_threefold, G_check_threefold⟩ := (ok_check_threefold (P := P) (w := w) (base := base) T)
  obtain ⟨f_form_of, fd_form_of, g_form_of, k_form_of, b_form_of, G_form_of⟩ := (ok_form_of (P := P) (w := w) (base := base) T)
  obtain ⟨f_spread, fd_spread, g_spread, k_spread, b_spread, G_spread⟩ := (ok_spread (P := P) (w := w) (base := base) T)
  refine ⟨f_, fd_, g_, F_.kp, F_.binds (ps := ["threefold"]) (fun _ _ _ _ _ _ us hl => match us, hl with | [_], _ => rfl), ?_⟩
  refine F_.ok sc_form_of_threefold (fun vs H Q E h => ?_) (fun cdv A outer s H vs Q E hr h => ?_)
  · first | (obtain ⟨rfl, _⟩ := h; rfl) | (obtain ⟨_, rfl, _⟩ := h; rfl) | (obtain ⟨_, _, rfl, _⟩ := h; rfl) | (obtain ⟨_, _, _, rfl, _⟩ := h; rfl) | (obtain ⟨_, _, _, _, rfl, _⟩ := h; rfl) | (obtain ⟨_, _, _, _, _, rfl, _⟩ := h; rfl) | (obtain ⟨_, _, _, _, _, _, rfl, _⟩ := h; rfl) | (obtain ⟨_, _, _, _, _, _, _, rfl, _⟩ := h; rfl) | (obtain ⟨_, _, _, _, _, _, _, _, rfl, _⟩ := h; rfl) | (obtain ⟨_, _, _, _, _, _, _, _, _, rfl, _⟩ := h; rfl) | (obtain ⟨_, _, _, _, _, _, _, _, _, _, rfl, _⟩ := h; rfl) | (obtain ⟨_, _, _, _, _, _, _, _, _, _, _, rfl, _⟩ := h; rfl) | (obtain ⟨_, _, _, _, _, _, _, _, _, _, _, _, rfl, _⟩ := h; rfl) | (obtain ⟨_, _, _, _, _, _, _, _, _, _, _, _, _, rfl, _⟩ := h; rfl) | (obtain ⟨_, _, _, _, _, _, _, _, _, _, _, _, _, _, rfl, _⟩ := h; rfl) | (obtain ⟨_, _, _, _, _, _, _, _, _, _, _, _, _, _, _, rfl, _⟩ := h; rfl) | (obtain ⟨_, _, _, _, _, _, _, _, _, _, _, _, _, _, _, _, rfl, _⟩ := h; rfl) | (obtain ⟨_, _, _, _, _, _, _, _, _, _, _, _, _, _, _, _, _, rfl, _⟩ := h; rfl) | (obtain ⟨_, _, _, _, _, _, _, _, _, _, _, _, _, _, _, _, _, _, rfl, _⟩ := h; rfl) | (obtain ⟨_, _, _, _, _, _, _, _, _, _, _, _, _, _, _, _, _, _, _, rfl, _⟩ := h; rfl) | (obtain ⟨_, _, _, _, _, _, _, _, _, _, _, _, _, _, _, _, _, _, _, _, rfl, _⟩ := h; rfl) | (obtain ⟨_, _, _, _, _, _, _, _, _, _, _, _, _, _, _, _, _, _, _, _, _, rfl, _⟩ := h; rfl) | (obtain ⟨_, _, _, _, _, _, _, _, _, _, _, _, _, _, _, _, _, _, _, _, _, _, rfl, _⟩ := h; rfl) | (obtain ⟨_, _, _, _, _, _, _, _, _, _, _, _, _, _, _, _, _, _, _, _, _, _, _, rfl, _⟩ := h; rfl)
  · obtain ⟨t, a, b, c, d, rfl, ht, hs, q⟩ := h
    refine ⟨_, (pss_cons (ps_expr (pe_call G_check_threefold (hr.mono (by decide)) (by rfl) g_check_threefold k_check_threefold b_check_threefold .nil pass0 (pa_cons (pv 0) pa_nil)))
    (pss_one (ps_ret (pe_call G_form_of (hr.mono (by decide)) (by rfl) g_form_of k_form_of b_form_of .nil pass0 (pa_cons (pe_call G_spread (hr.mono (by decide)) (by rfl) g_spread k_spread b_spread .nil pass0 (pa_cons (pv 0) pa_nil)) pa_nil))))), ?_⟩
    have bs : ∀ n ∈ [a, b, c, d], B 900 n := fun n h => (hs n h).b.mono (by decide)
    refine ⟨_, rfl, t, a, b, c, d, rfl, ht, hs, fun H1 e1 => ?_⟩
    refine ⟨_, rfl, t, a, b, c, d, rfl, Ex0.ti e1 ht, bs a (by simp), bs b (by simp), bs c (by simp), bs d (by simp), fun x H2 e2 hx => ?_⟩
    exact ⟨x, _, rfl, hx, fun y H3 e3 hy => q y H3 ((e1.trans e2).trans e3) hy⟩
theorem ok_threefold_of_form (T : Txt K mg C_Form C_Double) : Def P w K mg base 4 "threefold_of_form" ["form"] (sp_threefold_of_form K C_Form C_Double) := by
  obtain ⟨f_, fd_, g_, F_⟩ := T.d_threefold_of_form
  obtain ⟨p_Form_coefficients, f_Form_coefficients, fd_Form_coefficients, R_Form_coefficients, b_Form_coefficients, G_Form_coefficients⟩ := (ok_Form_coefficients (P := P) (w := w) (base := base) T)
  obtain ⟨f_check_form, fd_check_form, g_check_form, k_check_form, b_check_form, G_check_form⟩ := (ok_check_form (P := P) (w := w) (base := base) T)
  refine ⟨f_, fd_, g_, F_.kp, F_.binds (ps := ["form"]) (fun _ _ _ _ _ _ us hl => match us, hl with | [_], _ => rfl), ?_⟩
  refine F_.ok sc_threefold_of_form (fun vs H Q E h => ?_) (fun cdv A outer s H vs Q E hr h => ?_)
  · first | (obtain ⟨rfl, _⟩ := h; rfl) | (obtain ⟨_, rfl, _⟩ := h; rfl) | (obtain ⟨_, _, rfl, _⟩ := h; rfl) | (obtain ⟨_, _, _, rfl, _⟩ := h; rfl) | (obtain ⟨_, _, _, _, rfl, _⟩ := h; rfl) | (obtain ⟨_, _, _, _, _, rfl, _⟩ := h; rfl) | (obtain ⟨_, _, _, _, _, _, rfl, _⟩ := h; rfl) | (obtain ⟨_, _, _, _, _, _, _, rfl, _⟩ := h; rfl) | (obtain ⟨_, _, _, _, _, _, _, _, rfl, _⟩ := h; rfl) | (obtain ⟨_, _, _, _, _, _, _, _, _, rfl, _⟩ := h; rfl) | (obtain ⟨_, _, _, _, _, _, _, _, _, _, rfl, _⟩ := h; rfl) | (obtain ⟨_, _, _, _, _, _, _, _, _, _, _, rfl, _⟩ := h; rfl) | (obtain ⟨_, _, _, _, _, _, _, _, _, _, _, _, rfl, _⟩ := h; rfl) | (obtain ⟨_, _, _, _, _, _, _, _, _, _, _, _, _, rfl, _⟩ := h; rfl) | (obtain ⟨_, _, _, _, _, _, _, _, _, _, _, _, _, _, rfl, _⟩ := h; rfl) | (obtain ⟨_, _, _, _, _, _, _, _, _, _, _, _, _, _, _, rfl, _⟩ := h; rfl) | (obtain ⟨_, _, _, _, _, _, _, _, _, _, _, _, _, _, _, _, rfl, _⟩ := h; rfl) | (obtain ⟨_, _, _, _, _, _, _, _, _, _, _, _, _, _, _, _, _, rfl, _⟩ := h; rfl) | (obtain ⟨_, _, _, _, _, _, _, _, _, _, _, _, _, _, _, _, _, _, rfl, _⟩ := h; rfl) | (obtain ⟨_, _, _, _, _, _, _, _, _, _, _, _, _, _, _, _, _, _, _, rfl, _⟩ := h; rfl) | (obtain ⟨_, _, _, _, _, _, _, _, _, _, _, _, _, _, _, _, _, _, _, _, rfl, _⟩ := h; rfl) | (obtain ⟨_, _, _, _, _, _, _, _, _, _, _, _, _, _, _, _, _, _, _, _, _, rfl, _⟩ := h; rfl) | (obtain ⟨_, _, _, _, _, _, _, _, _, _, _, _, _, _, _, _, _, _, _, _, _, _, rfl, _⟩ := h; rfl) | (obtain ⟨_, _, _, _, _, _, _, _, _, _, _, _, _, _, _, _, _, _, _, _, _, _, _, rfl, _⟩ := h; rfl)
  · obtain ⟨x, a, b, c, d, rfl, hx, q⟩ := h
    refine ⟨_, (pss_cons (ps_expr (pe_call G_check_form (hr.mono (by decide)) (by rfl) g_check_form k_check_form b_check_form .nil pass0 (pa_cons (pv 0) pa_nil)))
    (pss_cons (ps_asg (pe_prop (pv 0) T.cl_Form R_Form_coefficients G_Form_coefficients (hr.mono (by decide)) b_Form_coefficients .nil pass0 (by rfl)) (pg_tup (by rfl) (pgs_cons (pg_name (i := 1) sc_threefold_of_form.nd rfl (.inl rfl)) (pgs_cons (pg_name (i := 2) sc_threefold_of_form.nd rfl (.inl rfl)) (pgs_cons (pg_name (i := 3) sc_threefold_of_form.nd rfl (.inl rfl)) (pgs_cons (pg_name (i := 4) sc_threefold_of_form.nd rfl (.inl rfl)) pgs_nil))))))
    (pss_cons (ps_if (PW.pt (pw_or (pt_cmpR op_ne (pe_op op_mod (pv 2) pe_int) pe_int (nomark _)) (pw_or1 (pt_cmpR op_ne (pe_op op_mod (pv 3) pe_int) pe_int (nomark _)))))
      pss_never
      pss_nil)
    (pss_one (ps_ret (pe_tup (pa_cons (pv 1) (pa_cons (pe_op op_fdivW (pv 2) pe_int) (pa_cons (pe_op op_fdivW (pv 3) pe_int) (pa_cons (pv 4) pa_nil)))))))))), ?_⟩
    obtain ⟨dx, t, hx0, ht⟩ := id hx
    refine ⟨_, rfl, x, _, rfl, hx, ?_⟩
    refine ⟨_, rfl, x, dx, _, rfl, hx0, x, _, rfl, hx, fun t' ht' => unI4 ht' ?_⟩
    have e3 : ∀ x : Int, (3 * x) / 3 = x := fun x => Int.mul_ediv_cancel_left _ (by decide)
    refine ⟨_, rfl, _, _, rfl, rfl, (by decide : (0 : Int) < 3), rfl, _, rfl, iteEn (fun h => absurd (Int.mul_emod_right 3 b) h) (fun _ => ?_)⟩
    refine ⟨_, rfl, _, _, rfl, rfl, (by decide : (0 : Int) < 3), rfl, _, rfl, iteEn (fun h => absurd (Int.mul_emod_right 3 c) h) (fun _ => ?_)⟩
    refine ⟨_, rfl, _, rfl, _, _, rfl, rfl, dw (by decide) (by decide), _, rfl, _, _, rfl, rfl, dw (by decide) (by decide), _, rfl, sl4, fun o no => ?_⟩
    refine q o _ (Ex0.new no) ?_
    show upd H o (.tup [.int a, .int (3 * b / 3), .int (3 * c / 3), .int d]) o = _
    rw [e3, e3]
    exact upd_same
theorem ok_threefold_led (T : Txt K mg C_Form C_Double) : Def P w K mg base 6 "threefold_led" ["threefold", "change"] (sp_threefold_led K C_Form C_Double) := by
  obtain ⟨f_, fd_, g_, F_⟩ := T.d_threefold_led
  obtain ⟨f_check_change, fd_check_change, g_check_change, k_check_change, b_check_change, G_check_change⟩ := (ok_check_change (P := P) (w := w) (base := base) T)
  obtain ⟨f_check_threefold, fd_check_threefold, g_check_threefold, k_check_threefold, b_check_threefold, G_check_threefold⟩ := (ok_check_threefold (P := P) (w := w) (base := base) T)
  obtain ⟨f_led_by, fd_led_by, g_led_by, k_led_by, b_led_by, G_led_by⟩ := (ok_led_by (P := P) (w := w) (base := base) T)
  refine ⟨f_, fd_, g_, F_.kp, F_.binds (ps := ["threefold", "change"]) (fun _ _ _ _ _ _ us hl => match us, hl with | [_, _], _ => rfl), ?_⟩
  refine F_.ok sc_threefold_led (fun vs H Q E h => ?_) (fun cdv A outer s H vs Q E hr h => ?_)
  · first | (obtain ⟨rfl, _⟩ := h; rfl) | (obtain ⟨_, rfl, _⟩ := h; rfl) | (obtain ⟨_, _, rfl, _⟩ := h; rfl) | (obtain ⟨_, _, _, rfl, _⟩ := h; rfl) | (obtain ⟨_, _, _, _, rfl, _⟩ := h; rfl) | (obtain ⟨_, _, _, _, _, rfl, _⟩ := h; rfl) | (obtain ⟨_, _, _, _, _, _, rfl, _⟩ := h; rfl) | (obtain ⟨_, _, _, _, _, _, _, rfl, _⟩ := h; rfl) | (obtain ⟨_, _, _, _, _, _, _, _, rfl, _⟩ := h; rfl) | (obtain ⟨_, _, _, _, _, _, _, _, _, rfl, _⟩ := h; rfl) | (obtain ⟨_, _, _, _, _, _, _, _, _, _, rfl, _⟩ := h; rfl) | (obtain ⟨_, _, _, _, _, _, _, _, _, _, _, rfl, _⟩ := h; rfl) | (obtain ⟨_, _, _, _, _, _, _, _, _, _, _, _, rfl, _⟩ := h; rfl) | (obtain ⟨_, _, _, _, _, _, _, _, _, _, _, _, _, rfl, _⟩ := h; rfl) | (obtain ⟨_, _, _, _, _, _, _, _, _, _, _, _, _, _, rfl, _⟩ := h; rfl) | (obtain ⟨_, _, _, _, _, _, _, _, _, _, _, _, _, _, _, rfl, _⟩ := h; rfl) | (obtain ⟨_, _, _, _, _, _, _, _, _, _, _, _, _, _, _, _, rfl, _⟩ := h; rfl) | (obtain ⟨_, _, _, _, _, _, _, _, _, _, _, _, _, _, _, _, _, rfl, _⟩ := h; rfl) | (obtain ⟨_, _, _, _, _, _, _, _, _, _, _, _, _, _, _, _, _, _, rfl, _⟩ := h; rfl) | (obtain ⟨_, _, _, _, _, _, _, _, _, _, _, _, _, _, _, _, _, _, _, rfl, _⟩ := h; rfl) | (obtain ⟨_, _, _, _, _, _, _, _, _, _, _, _, _, _, _, _, _, _, _, _, rfl, _⟩ := h; rfl) | (obtain ⟨_, _, _, _, _, _, _, _, _, _, _, _, _, _, _, _, _, _, _, _, _, rfl, _⟩ := h; rfl) | (obtain ⟨_, _, _, _, _, _, _, _, _, _, _, _, _, _, _, _, _, _, _, _, _, _, rfl, _⟩ := h; rfl) | (obtain ⟨_, _, _, _, _, _, _, _, _, _, _, _, _, _, _, _, _, _, _, _, _, _, _, rfl, _⟩ := h; rfl)
  · obtain ⟨t, u, a, b, c, d, p, q', r, s', rfl, ht, h4, hs, hc, q⟩ := h
    refine ⟨_, (pss_cons (ps_expr (pe_call G_check_threefold (hr.mono (by decide)) (by rfl) g_check_threefold k_check_threefold b_check_threefold .nil pass0 (pa_cons (pv 0) pa_nil)))
    (pss_cons (ps_expr (pe_call G_check_change (hr.mono (by decide)) (by rfl) g_check_change k_check_change b_check_change .nil pass0 (pa_cons (pv 1) pa_nil)))
    (pss_one (ps_ret (pe_call G_led_by (hr.mono (by decide)) (by rfl) g_led_by k_led_by b_led_by .nil pass0 (pa_cons (pv 0) (pa_cons (pv 1) pa_nil))))))), ?_⟩
    have bs : ∀ n ∈ [a, b, c, d], B 900 n := fun n h => (hs n h).b.mono (by decide)
    refine ⟨_, rfl, t, a, b, c, d, rfl, ht, hs, fun H1 e1 => ?_⟩
    refine ⟨_, rfl, u, p, q', r, s', rfl, Ex0.t4 e1 h4, hc, fun H2 e2 => ?_⟩
    have e12 := e1.trans e2
    refine ⟨_, rfl, _, rfl, t, u, a, b, c, d, p, q', r, s', rfl, Ex0.ti e12 ht, Ex0.t4 e12 h4, bs a (by simp), bs b (by simp), bs c (by simp), bs d (by simp), hc.1.b, hc.2.1.b, hc.2.2.1.b, hc.2.2.2.1.b, fun x H3 e3 hx => ?_⟩
    exact q x H3 (e12.trans e3) hx
end
end TF
namespace TF
open PySem PySem.Spec PyProof.Rows L2 Fr
open K05M (fv fl2 fl3 fdisc)
open K06M
def sp_l_kettle (K : PySem.W.Frag) (_ _ : Addr) : Sp := fun vs H Q _ => ∃ (a : Addr) (ns : List Int) (i : Nat), vs = [.ref a, .int (i : Int)] ∧ SqL K H a (ns.map V.int) ∧ ∀ p H', H p = none → Ex0 H H' → Vat p H' → Q (.ref p) H'
def sp_l_sip (_ : PySem.W.Frag) (_ _ : Addr) : Sp := fun vs H Q _ => ∃ (c : Addr) (t : Int), vs = [.ref c, .int t] ∧ Vat c H ∧ 0 < t ∧ t < 2 ^ 250 ∧ ∀ (r : Int) H', 0 ≤ r → r < t → Fv c H H' → Q (.int r) H'
def sp_l_taken (K : PySem.W.Frag) (_ _ : Addr) : Sp := fun vs H Q _ => ∃ (c l : Addr) (xs : List V), vs = [.ref c, .ref l] ∧ Vat c H ∧ H l = some (.lst xs) ∧ l ≠ c ∧ xs ≠ [] ∧ xs.length ≤ 1000 ∧ ∀ v H', v ∈ xs → Fv c H H' → Q v H'
def sp_l_value (_ : PySem.W.Frag) (_ _ : Addr) : Sp := fun vs H Q _ => ∃ (t : Addr) (a b c d x y : Int), vs = [.ref t, .int x, .int y] ∧ Ti H t [a, b, c, d] ∧ B 1000 a ∧ B 1000 b ∧ B 1000 c ∧ B 1000 d ∧ B 200 x ∧ B 200 y ∧ Q (.int (fv a b c d x y)) H
def sp_l_moved (_ : PySem.W.Frag) (_ _ : Addr) : Sp := fun vs H Q _ => ∃ (t u : Addr) (a b c d p q r s : Int), vs = [.ref t, .ref u] ∧ Ti H t [a, b, c, d] ∧ T4 H u p q r s ∧ B 1000 a ∧ B 1000 b ∧ B 1000 c ∧ B 1000 d ∧ B 200 p ∧ B 200 q ∧ B 200 r ∧ B 200 s ∧ ∀ x H', Ex0 H H' → Ti H' x [fv a b c d p q, fl2 a b c d p q r s, fl3 a b c d p q r s, fv a b c d r s] → Q (.ref x) H'
def Sc (p q r s : Int) : Prop := p.natAbs ≤ 81 ∧ q.natAbs ≤ 81 ∧ r.natAbs ≤ 81 ∧ s.natAbs ≤ 81 ∧ (p * s - q * r = 1 ∨ p * s - q * r = -1)
def sp_l_change (_ : PySem.W.Frag) (_ _ : Addr) : Sp := fun vs H Q _ => ∃ c : Addr, vs = [.ref c] ∧ Vat c H ∧ ∀ x p q r s H', Fv c H H' → T4 H' x p q r s → Sc p q r s → Q (.ref x) H'
def sp_l_led (_ : PySem.W.Frag) (_ _ : Addr) : Sp := fun vs H Q _ => ∃ (t u : Addr) (a b c d p q r s : Int), vs = [.ref t, .ref u] ∧ Ti H t [a, b, c, d] ∧ T4 H u p q r s ∧ B 1000 a ∧ B 1000 b ∧ B 1000 c ∧ B 1000 d ∧ B 200 p ∧ B 200 q ∧ B 200 r ∧ B 200 s ∧ ∀ x H', Ex0 H H' → Ti H' x (fled a b c d p q r s) → Q (.ref x) H'
def sp_l_small (_ : PySem.W.Frag) (_ _ : Addr) : Sp := fun vs H Q _ => ∃ (t : Addr) (a b c d : Int), vs = [.ref t] ∧ Ti H t [a, b, c, d] ∧ B 1000 a ∧ B 1000 b ∧ B 1000 c ∧ B 1000 d ∧ ∀ x H', Ex0 H H' → Ti H' x [k0 a b c d, k1 a b c d, k2 a b c d] → Q (.ref x) H'
def sp_l_rules_right (_ : PySem.W.Frag) (C C_D : Addr) : Sp := fun vs H Q _ => ∃ (t x : Addr) (a b c d : Int), vs = [.ref t, .ref x] ∧ Ti H t [a, b, c, d] ∧ FormAt C_D H x [k0 a b c d, k1 a b c d, k2 a b c d] ∧ B 1000 a ∧ B 1000 b ∧ B 1000 c ∧ B 1000 d ∧ Q (.bl true) H
def Gc (i : Nat) (p q r s : Int) : Prop := p.natAbs ≤ 3 ^ i ∧ q.natAbs ≤ 3 ^ i ∧ r.natAbs ≤ 3 ^ i ∧ s.natAbs ≤ 3 ^ i ∧ (p * s - q * r = 1 ∨ p * s - q * r = -1)
theorem Gc.b {i : Nat} {p q r s : Int} (h : Gc i p q r s) (hi : i ≤ 4) : B 200 p ∧ B 200 q ∧ B 200 r ∧ B 200 s := by
  have h1 : 3 ^ i < 2 ^ 200 := Nat.lt_of_le_of_lt (Nat.pow_le_pow_right (by decide) hi) (by decide)
  obtain ⟨a, b, c, d, _⟩ := h
  exact ⟨⟨Nat.lt_of_le_of_lt a h1, by decide⟩, ⟨Nat.lt_of_le_of_lt b h1, by decide⟩, ⟨Nat.lt_of_le_of_lt c h1, by decide⟩, ⟨Nat.lt_of_le_of_lt d h1, by decide⟩⟩
theorem Gc.sc {i : Nat} {p q r s : Int} (h : Gc i p q r s) (hi : i ≤ 4) : Sc p q r s := by
  have h1 : 3 ^ i ≤ 81 := Nat.le_trans (Nat.pow_le_pow_right (by decide) hi) (by decide : 3 ^ 4 ≤ 81)
  obtain ⟨a, b, c, d, e⟩ := h
  exact ⟨Nat.le_trans a h1, Nat.le_trans b h1, Nat.le_trans c h1, Nat.le_trans d h1, e⟩
theorem tri {M : Nat} {x y m : Int} (hx : x.natAbs ≤ M) (hy : y.natAbs ≤ M) (hm : m.natAbs ≤ 2) : (x + m * y).natAbs ≤ M * 3 := by
  have h1 : (m * y).natAbs ≤ 2 * M := by rw [Int.natAbs_mul]; exact Nat.mul_le_mul hm hy
  omega
theorem Gc.add1 {i : Nat} {p q r s m : Int} (h : Gc i p q r s) (hm : m.natAbs ≤ 2) : Gc (i + 1) (p + m * r) (q + m * s) r s := by
  obtain ⟨a, b, c, d, e⟩ := h
  unfold Gc
  rw [Nat.pow_succ]
  refine ⟨tri a c hm, tri b d hm, by omega, by omega, ?_⟩
  rw [show (p + m * r) * s - (q + m * s) * r = p * s - q * r by grind]
  exact e
theorem Gc.add2 {i : Nat} {p q r s m : Int} (h : Gc i p q r s) (hm : m.natAbs ≤ 2) : Gc (i + 1) p q (r + m * p) (s + m * q) := by
  obtain ⟨a, b, c, d, e⟩ := h
  unfold Gc
  rw [Nat.pow_succ]
  refine ⟨by omega, by omega, tri c a hm, tri d b hm, ?_⟩
  rw [show p * (s + m * q) - q * (r + m * p) = p * s - q * r by grind]
  exact e
theorem Gc.swap {i : Nat} {p q r s : Int} (h : Gc i p q r s) : Gc (i + 1) r s p q := by
  obtain ⟨a, b, c, d, e⟩ := h
  unfold Gc
  rw [Nat.pow_succ]
  refine ⟨by omega, by omega, by omega, by omega, ?_⟩
  rw [show r * q - s * p = -(p * s - q * r) by grind]
  rcases e with e | e <;> rw [e] <;> decide
theorem rule1 (a b c d : Int) : k0 a b c d * b * b - k1 a b c d * a * b + k2 a b c d * a * a = k0 a b c d * k0 a b c d := by unfold k0 k1 k2; grind
theorem rule2 (a b c d : Int) : k0 a b c d * c = k1 a b c d * b - k2 a b c d * a := by unfold k0 k1 k2; grind
theorem rule3 (a b c d : Int) : k0 a b c d * d = k1 a b c d * c - k2 a b c d * b := by unfold k0 k1 k2; grind
section
variable {P : Program} {w : World} {K : PySem.W.Frag} {mg : Str → Option Value} {base : Heap} {C_Form C_Double : Addr}
theorem ok_l_kettle (T : Txt K mg C_Form C_Double) : Def P w K mg base 1 "_law_kettle" ["_law_script", "_law_spot"] (sp_l_kettle K C_Form C_Double) := by
  obtain ⟨f_, fd_, g_, F_⟩ := T.d_l_kettle
  refine ⟨f_, fd_, g_, F_.kp, F_.binds (ps := ["_law_script", "_law_spot"]) (fun _ _ _ _ _ _ us hl => match us, hl with | [_, _], _ => rfl), ?_⟩
  refine F_.ok sc_l_kettle (fun vs H Q E h => ?_) (fun cdv A outer s H vs Q E hr h => ?_)
  · first | (obtain ⟨rfl, _⟩ := h; rfl) | (obtain ⟨_, rfl, _⟩ := h; rfl) | (obtain ⟨_, _, rfl, _⟩ := h; rfl) | (obtain ⟨_, _, _, rfl, _⟩ := h; rfl) | (obtain ⟨_, _, _, _, rfl, _⟩ := h; rfl) | (obtain ⟨_, _, _, _, _, rfl, _⟩ := h; rfl) | (obtain ⟨_, _, _, _, _, _, rfl, _⟩ := h; rfl) | (obtain ⟨_, _, _, _, _, _, _, rfl, _⟩ := h; rfl) | (obtain ⟨_, _, _, _, _, _, _, _, rfl, _⟩ := h; rfl) | (obtain ⟨_, _, _, _, _, _, _, _, _, rfl, _⟩ := h; rfl) | (obtain ⟨_, _, _, _, _, _, _, _, _, _, rfl, _⟩ := h; rfl) | (obtain ⟨_, _, _, _, _, _, _, _, _, _, _, rfl, _⟩ := h; rfl) | (obtain ⟨_, _, _, _, _, _, _, _, _, _, _, _, rfl, _⟩ := h; rfl) | (obtain ⟨_, _, _, _, _, _, _, _, _, _, _, _, _, rfl, _⟩ := h; rfl) | (obtain ⟨_, _, _, _, _, _, _, _, _, _, _, _, _, _, rfl, _⟩ := h; rfl) | (obtain ⟨_, _, _, _, _, _, _, _, _, _, _, _, _, _, _, rfl, _⟩ := h; rfl) | (obtain ⟨_, _, _, _, _, _, _, _, _, _, _, _, _, _, _, _, rfl, _⟩ := h; rfl) | (obtain ⟨_, _, _, _, _, _, _, _, _, _, _, _, _, _, _, _, _, rfl, _⟩ := h; rfl) | (obtain ⟨_, _, _, _, _, _, _, _, _, _, _, _, _, _, _, _, _, _, rfl, _⟩ := h; rfl) | (obtain ⟨_, _, _, _, _, _, _, _, _, _, _, _, _, _, _, _, _, _, _, rfl, _⟩ := h; rfl) | (obtain ⟨_, _, _, _, _, _, _, _, _, _, _, _, _, _, _, _, _, _, _, _, rfl, _⟩ := h; rfl) | (obtain ⟨_, _, _, _, _, _, _, _, _, _, _, _, _, _, _, _, _, _, _, _, _, rfl, _⟩ := h; rfl) | (obtain ⟨_, _, _, _, _, _, _, _, _, _, _, _, _, _, _, _, _, _, _, _, _, _, rfl, _⟩ := h; rfl) | (obtain ⟨_, _, _, _, _, _, _, _, _, _, _, _, _, _, _, _, _, _, _, _, _, _, _, rfl, _⟩ := h; rfl)
  · obtain ⟨a, ns, i, rfl, ha, q⟩ := h
    refine ⟨_, (Evl.pss_cut (ps_set (i := 2) sc_l_kettle.nd rfl (.inl rfl) (pe_ifExp (pt_cmpR op_lt (pv 1) (pe_callB call_len_seq (by rfl) T.b_len PySem.boot_len (pa_cons (pv 0) pa_nil)) (nomark _)) (pe_callTy call_int1 (by rfl) T.b_int (by decide +kernel) (pa_cons (pe_ix ix_list (pv 0) (pv 1) (fun _ _ => rfl)) pa_nil)) (pe_op op_add (pe_op op_mul pe_int (pv 1)) pe_int)))
    (pss_cons (ps_set (i := 3) sc_l_kettle.nd rfl (.inl rfl) (pe_op op_mod (pe_callTy call_int1 (by rfl) T.b_int (by decide +kernel) (pa_cons (pe_callB call_abs (by rfl) T.b_abs (by decide +kernel) (pa_cons (pv 2) pa_nil)) pa_nil)) (pe_op op_powC (pe_op op_pow pe_int pe_int) pe_int)))
    (pss_one (ps_ret (pe_lst (pa_cons (pe_callB (call_max2 rfl) (by rfl) T.b_max (by decide +kernel) (pa_cons pe_int (pa_cons (pe_op op_sub (pv 3) (pe_op op_pow pe_int pe_int)) pa_nil))) (pa_cons (pe_op op_add (pe_op op_add (pe_op op_add (pe_op op_mul (pe_op op_mod (pe_callTy call_int1 (by rfl) T.b_int (by decide +kernel) (pa_cons (pv 3) pa_nil)) pe_int) pe_int) (pe_op op_mul pe_int (pv 1))) (pe_op op_mul pe_int (pe_callTy call_int1 (by rfl) T.b_int (by decide +kernel) (pa_cons (pe_cmpR op_lt (pv 2) pe_int (nomark _)) pa_nil)))) pe_int) (pa_cons pe_int pa_nil)))))))), ?_⟩
    refine ⟨fun σ H' => ∃ cell : Int, σ = [some (.ref a), some (.int (i : Int)), some (.int cell), none] ∧ Ex0 H H', ?_, ?_⟩
    · refine ⟨_, rfl, _, rfl, a, _, rfl, .inl ha, _, _, rfl, rfl, _, rfl, iteD (fun g => ?_) (fun g => ?_)⟩
      · have hi : i < ns.length := by rw [List.length_map] at g; omega
        refine ⟨_, rfl, _, rfl, a, _, (i : Int), .int ns[i], rfl, rfl, ha, atI_nat (by rw [List.getElem?_map, List.getElem?_eq_getElem hi]; rfl), .inl ⟨_, rfl, ?_⟩⟩
        exact ⟨_, rfl, Ex0.refl H⟩
      · refine ⟨_, rfl, _, _, rfl, rfl, .inl ⟨by decide, by decide⟩, _, _, rfl, rfl, ?_⟩
        exact ⟨_, rfl, Ex0.refl H⟩
    · rintro σ H' ⟨cell, rfl, e⟩
      refine ⟨_, rfl, cell, rfl, .inl ⟨_, rfl, ?_⟩⟩
      refine ⟨_, _, rfl, rfl, ⟨by decide, by decide, by decide⟩, _, _, rfl, rfl, ⟨by decide, by decide +kernel⟩, _, _, rfl, rfl, by show (0 : Int) < (10 ^ 55) ^ 5; decide +kernel, ?_⟩
      refine ⟨_, rfl, _, _, rfl, rfl, ⟨by decide, by decide, by decide⟩, _, _, rfl, rfl, _, _, rfl, ?_⟩
      refine ⟨_, rfl, .inl ⟨_, rfl, _, _, rfl, rfl, (show (0 : Int) < 2147483587 by decide), _, _, rfl, rfl, .inr ⟨by decide, by decide⟩, _, rfl, _, _, rfl, rfl, .inl ⟨by decide, by decide⟩, _, _, rfl, rfl, ?_⟩⟩
      refine ⟨_, rfl, _, _, rfl, rfl, .inr ⟨_, rfl, _, _, rfl, rfl, .inl ⟨by decide, by decide⟩, _, _, rfl, rfl, _, _, rfl, rfl, ?_⟩⟩
      refine ⟨sl3, fun p hp => ?_⟩
      exact q p _ (Fx.free e (fun z => z) hp) (e.trans (Ex0.new hp)) ⟨_, _, _, upd_same⟩
theorem ok_l_sip (T : Txt K mg C_Form C_Double) : Def P w K mg base 1 "_law_sip" ["_law_kettle_here", "_law_top"] (sp_l_sip K C_Form C_Double) := by
  obtain ⟨f_, fd_, g_, F_⟩ := T.d_l_sip
  refine ⟨f_, fd_, g_, F_.kp, F_.binds (ps := ["_law_kettle_here", "_law_top"]) (fun _ _ _ _ _ _ us hl => match us, hl with | [_, _], _ => rfl), ?_⟩
  refine F_.ok sc_l_sip (fun vs H Q E h => ?_) (fun cdv A outer s H vs Q E hr h => ?_)
  · first | (obtain ⟨rfl, _⟩ := h; rfl) | (obtain ⟨_, rfl, _⟩ := h; rfl) | (obtain ⟨_, _, rfl, _⟩ := h; rfl) | (obtain ⟨_, _, _, rfl, _⟩ := h; rfl) | (obtain ⟨_, _, _, _, rfl, _⟩ := h; rfl) | (obtain ⟨_, _, _, _, _, rfl, _⟩ := h; rfl) | (obtain ⟨_, _, _, _, _, _, rfl, _⟩ := h; rfl) | (obtain ⟨_, _, _, _, _, _, _, rfl, _⟩ := h; rfl) | (obtain ⟨_, _, _, _, _, _, _, _, rfl, _⟩ := h; rfl) | (obtain ⟨_, _, _, _, _, _, _, _, _, rfl, _⟩ := h; rfl) | (obtain ⟨_, _, _, _, _, _, _, _, _, _, rfl, _⟩ := h; rfl) | (obtain ⟨_, _, _, _, _, _, _, _, _, _, _, rfl, _⟩ := h; rfl) | (obtain ⟨_, _, _, _, _, _, _, _, _, _, _, _, rfl, _⟩ := h; rfl) | (obtain ⟨_, _, _, _, _, _, _, _, _, _, _, _, _, rfl, _⟩ := h; rfl) | (obtain ⟨_, _, _, _, _, _, _, _, _, _, _, _, _, _, rfl, _⟩ := h; rfl) | (obtain ⟨_, _, _, _, _, _, _, _, _, _, _, _, _, _, _, rfl, _⟩ := h; rfl) | (obtain ⟨_, _, _, _, _, _, _, _, _, _, _, _, _, _, _, _, rfl, _⟩ := h; rfl) | (obtain ⟨_, _, _, _, _, _, _, _, _, _, _, _, _, _, _, _, _, rfl, _⟩ := h; rfl) | (obtain ⟨_, _, _, _, _, _, _, _, _, _, _, _, _, _, _, _, _, _, rfl, _⟩ := h; rfl) | (obtain ⟨_, _, _, _, _, _, _, _, _, _, _, _, _, _, _, _, _, _, _, rfl, _⟩ := h; rfl) | (obtain ⟨_, _, _, _, _, _, _, _, _, _, _, _, _, _, _, _, _, _, _, _, rfl, _⟩ := h; rfl) | (obtain ⟨_, _, _, _, _, _, _, _, _, _, _, _, _, _, _, _, _, _, _, _, _, rfl, _⟩ := h; rfl) | (obtain ⟨_, _, _, _, _, _, _, _, _, _, _, _, _, _, _, _, _, _, _, _, _, _, rfl, _⟩ := h; rfl) | (obtain ⟨_, _, _, _, _, _, _, _, _, _, _, _, _, _, _, _, _, _, _, _, _, _, _, rfl, _⟩ := h; rfl)
  · obtain ⟨c, t, rfl, ⟨x, y, z, hv⟩, h0, h1, q⟩ := h
    refine ⟨_, (pss_cons (ps_if (pt_cmpR op_gt (pe_ix ix_list (pv 0) pe_int (fun _ _ => rfl)) pe_int (nomark _))
      (pss_cons (ps_set (i := 2) sc_l_sip.nd rfl (.inl rfl) (pe_op op_mod (pe_callTy call_int1 (by rfl) T.b_int (by decide +kernel) (pa_cons (pe_ix ix_list (pv 0) pe_int (fun _ _ => rfl)) pa_nil)) (pv 1)))
    (pss_cons (ps_asg (pe_op op_fdivW (pe_ix ix_list (pv 0) pe_int (fun _ _ => rfl)) (pv 1)) (pg_sub (pv 0) pe_int set_list))
    (pss_one (ps_ret (pv 2)))))
      pss_nil)
    (pss_cons (ps_asg (pe_op op_add (pe_ix ix_list (pv 0) pe_int (fun _ _ => rfl)) pe_int) (pg_sub (pv 0) pe_int set_list))
    (pss_cons (ps_set (i := 3) sc_l_sip.nd rfl (.inl rfl) (pe_op op_mod (pe_callTy call_int1 (by rfl) T.b_int (by decide +kernel) (pa_cons (pe_op op_add (pe_ix ix_list (pv 0) pe_int (fun _ _ => rfl)) (pe_op op_mul pe_int (pe_ix ix_list (pv 0) pe_int (fun _ _ => rfl)))) pa_nil)) pe_int))
    (pss_cons (ps_set (i := 4) sc_l_sip.nd rfl (.inl rfl) (pe_op op_add (pe_op op_mul (pe_op op_mod (pe_callTy call_int1 (by rfl) T.b_int (by decide +kernel) (pa_cons (pe_op op_add (pe_op op_mul (pv 3) (pv 3)) (pe_op op_mul pe_int (pe_ix ix_list (pv 0) pe_int (fun _ _ => rfl)))) pa_nil)) pe_int) pe_int) (pv 3)))
    (pss_one (ps_ret (pe_op op_mod (pe_callTy call_int1 (by rfl) T.b_int (by decide +kernel) (pa_cons (pe_op op_fdivW (pv 4) pe_int) pa_nil)) (pv 1)))))))), ?_⟩
    have fv : ∀ (H' : Hp) (x' y' z' : Int), (∀ b o, b ≠ c → H b = some o → H' b = some o) → H' c = some (.lst [.int x', .int y', .int z']) → Fv c H H' := fun H' x' y' z' a b => ⟨⟨x', y', z', b⟩, a⟩
    refine ⟨_, rfl, c, _, 0, .int x, rfl, rfl, SqL.of hv, rfl, x, 0, rfl, rfl, _, rfl, iteD (fun g => ?_) (fun g => ?_)⟩
    · refine ⟨_, rfl, c, _, 0, .int x, rfl, rfl, SqL.of hv, rfl, .inl ⟨x, rfl, _, rfl, x, t, rfl, rfl, h0, ?_⟩⟩
      refine ⟨_, rfl, c, _, 0, .int x, rfl, rfl, SqL.of hv, rfl, _, rfl, x, t, rfl, rfl, dw h0 h1, ?_⟩
      refine ⟨_, rfl, c, _, 0, 0, rfl, rfl, hv, rfl, ?_⟩
      refine ⟨_, rfl, ?_⟩
      exact q _ _ (Int.emod_nonneg _ (by omega)) (Int.emod_lt_of_pos _ h0) (fv _ _ _ _ (fun b o n e => by rw [upd_ne n]; exact e) upd_same)
    · refine ⟨_, rfl, c, _, 2, .int z, rfl, rfl, SqL.of hv, rfl, _, 1, rfl, rfl, ?_⟩
      refine ⟨_, rfl, c, _, 2, 2, rfl, rfl, hv, rfl, ?_⟩
      have hv2 : upd H c (.lst [.int x, .int y, .int (z + 1)]) c = some (.lst [.int x, .int y, .int (z + 1)]) := upd_same
      refine ⟨_, rfl, c, _, 1, .int y, rfl, rfl, SqL.of hv2, rfl, _, rfl, c, _, 2, .int (z + 1), rfl, rfl, SqL.of hv2, rfl, _, _, rfl, rfl, .inl ⟨by decide, by decide⟩, _, _, rfl, rfl, .inl ⟨_, rfl, ?_⟩⟩
      refine ⟨_, _, rfl, rfl, (show (0 : Int) < 2305843009213693951 by decide), ?_⟩
      refine ⟨_, rfl, _, rfl, _, _, rfl, rfl, .inl ⟨by omega, by omega⟩, ?_⟩
      refine ⟨_, rfl, c, _, 2, .int (z + 1), rfl, rfl, SqL.of hv2, rfl, _, _, rfl, rfl, .inl ⟨by decide, by decide⟩, _, _, rfl, rfl, .inl ⟨_, rfl, ?_⟩⟩
      refine ⟨_, _, rfl, rfl, (show (0 : Int) < 2305843009213693951 by decide), _, _, rfl, rfl, .inr ⟨by decide, by decide⟩, ?_⟩
      refine ⟨_, rfl, _, _, rfl, rfl, ?_⟩
      refine ⟨_, rfl, _, _, rfl, rfl, dw (by decide) (by decide), .inl ⟨_, rfl, _, rfl, _, _, rfl, rfl, h0, ?_⟩⟩
      exact q _ _ (Int.emod_nonneg _ (by omega)) (Int.emod_lt_of_pos _ h0) (fv _ _ _ _ (fun b o n e => by rw [upd_ne n]; exact e) hv2)
theorem ok_l_taken (T : Txt K mg C_Form C_Double) : Def P w K mg base 2 "_law_taken" ["_law_kettle_here", "_law_items"] (sp_l_taken K C_Form C_Double) := by
  obtain ⟨f_, fd_, g_, F_⟩ := T.d_l_taken
  obtain ⟨f_l_sip, fd_l_sip, g_l_sip, k_l_sip, b_l_sip, G_l_sip⟩ := (ok_l_sip (P := P) (w := w) (base := base) T)
  refine ⟨f_, fd_, g_, F_.kp, F_.binds (ps := ["_law_kettle_here", "_law_items"]) (fun _ _ _ _ _ _ us hl => match us, hl with | [_, _], _ => rfl), ?_⟩
  refine F_.ok sc_l_taken (fun vs H Q E h => ?_) (fun cdv A outer s H vs Q E hr h => ?_)
  · first | (obtain ⟨rfl, _⟩ := h; rfl) | (obtain ⟨_, rfl, _⟩ := h; rfl) | (obtain ⟨_, _, rfl, _⟩ := h; rfl) | (obtain ⟨_, _, _, rfl, _⟩ := h; rfl) | (obtain ⟨_, _, _, _, rfl, _⟩ := h; rfl) | (obtain ⟨_, _, _, _, _, rfl, _⟩ := h; rfl) | (obtain ⟨_, _, _, _, _, _, rfl, _⟩ := h; rfl) | (obtain ⟨_, _, _, _, _, _, _, rfl, _⟩ := h; rfl) | (obtain ⟨_, _, _, _, _, _, _, _, rfl, _⟩ := h; rfl) | (obtain ⟨_, _, _, _, _, _, _, _, _, rfl, _⟩ := h; rfl) | (obtain ⟨_, _, _, _, _, _, _, _, _, _, rfl, _⟩ := h; rfl) | (obtain ⟨_, _, _, _, _, _, _, _, _, _, _, rfl, _⟩ := h; rfl) | (obtain ⟨_, _, _, _, _, _, _, _, _, _, _, _, rfl, _⟩ := h; rfl) | (obtain ⟨_, _, _, _, _, _, _, _, _, _, _, _, _, rfl, _⟩ := h; rfl) | (obtain ⟨_, _, _, _, _, _, _, _, _, _, _, _, _, _, rfl, _⟩ := h; rfl) | (obtain ⟨_, _, _, _, _, _, _, _, _, _, _, _, _, _, _, rfl, _⟩ := h; rfl) | (obtain ⟨_, _, _, _, _, _, _, _, _, _, _, _, _, _, _, _, rfl, _⟩ := h; rfl) | (obtain ⟨_, _, _, _, _, _, _, _, _, _, _, _, _, _, _, _, _, rfl, _⟩ := h; rfl) | (obtain ⟨_, _, _, _, _, _, _, _, _, _, _, _, _, _, _, _, _, _, rfl, _⟩ := h; rfl) | (obtain ⟨_, _, _, _, _, _, _, _, _, _, _, _, _, _, _, _, _, _, _, rfl, _⟩ := h; rfl) | (obtain ⟨_, _, _, _, _, _, _, _, _, _, _, _, _, _, _, _, _, _, _, _, rfl, _⟩ := h; rfl) | (obtain ⟨_, _, _, _, _, _, _, _, _, _, _, _, _, _, _, _, _, _, _, _, _, rfl, _⟩ := h; rfl) | (obtain ⟨_, _, _, _, _, _, _, _, _, _, _, _, _, _, _, _, _, _, _, _, _, _, rfl, _⟩ := h; rfl) | (obtain ⟨_, _, _, _, _, _, _, _, _, _, _, _, _, _, _, _, _, _, _, _, _, _, _, rfl, _⟩ := h; rfl)
  · obtain ⟨c, l, xs, rfl, hc, hl, ne, hx, hz, q⟩ := h
    refine ⟨_, (pss_one (ps_ret (pe_ix ix_list (pv 1) (pe_call G_l_sip (hr.mono (by decide)) (by rfl) g_l_sip k_l_sip b_l_sip .nil pass0 (pa_cons (pv 0) (pa_cons (pe_callB call_len_seq (by rfl) T.b_len PySem.boot_len (pa_cons (pv 1) pa_nil)) pa_nil))) (fun _ _ => rfl)))), ?_⟩
    have h0 : 0 < xs.length := List.length_pos_iff.mpr hx
    refine ⟨_, rfl, _, rfl, _, rfl, l, xs, rfl, .inl (SqL.of hl), c, _, rfl, hc, by omega, by omega, fun r H' r0 r1 e => ?_⟩
    obtain ⟨j, rfl⟩ : ∃ j : Nat, r = (j : Int) := ⟨r.toNat, by omega⟩
    have hj : j < xs.length := by omega
    exact ⟨l, xs, _, xs[j], rfl, rfl, SqL.of (e.2 _ _ ne hl), atI_nat (List.getElem?_eq_getElem hj), q _ _ (List.getElem_mem hj) e⟩
theorem ok_l_value (T : Txt K mg C_Form C_Double) : Def P w K mg base 1 "_law_value" ["_law_row", "_law_x", "_law_y"] (sp_l_value K C_Form C_Double) := by
  obtain ⟨f_, fd_, g_, F_⟩ := T.d_l_value
  refine ⟨f_, fd_, g_, F_.kp, F_.binds (ps := ["_law_row", "_law_x", "_law_y"]) (fun _ _ _ _ _ _ us hl => match us, hl with | [_, _, _], _ => rfl), ?_⟩
  refine F_.ok sc_l_value (fun vs H Q E h => ?_) (fun cdv A outer s H vs Q E hr h => ?_)
  · first | (obtain ⟨rfl, _⟩ := h; rfl) | (obtain ⟨_, rfl, _⟩ := h; rfl) | (obtain ⟨_, _, rfl, _⟩ := h; rfl) | (obtain ⟨_, _, _, rfl, _⟩ := h; rfl) | (obtain ⟨_, _, _, _, rfl, _⟩ := h; rfl) | (obtain ⟨_, _, _, _, _, rfl, _⟩ := h; rfl) | (obtain ⟨_, _, _, _, _, _, rfl, _⟩ := h; rfl) | (obtain ⟨_, _, _, _, _, _, _, rfl, _⟩ := h; rfl) | (obtain ⟨_, _, _, _, _, _, _, _, rfl, _⟩ := h; rfl) | (obtain ⟨_, _, _, _, _, _, _, _, _, rfl, _⟩ := h; rfl) | (obtain ⟨_, _, _, _, _, _, _, _, _, _, rfl, _⟩ := h; rfl) | (obtain ⟨_, _, _, _, _, _, _, _, _, _, _, rfl, _⟩ := h; rfl) | (obtain ⟨_, _, _, _, _, _, _, _, _, _, _, _, rfl, _⟩ := h; rfl) | (obtain ⟨_, _, _, _, _, _, _, _, _, _, _, _, _, rfl, _⟩ := h; rfl) | (obtain ⟨_, _, _, _, _, _, _, _, _, _, _, _, _, _, rfl, _⟩ := h; rfl) | (obtain ⟨_, _, _, _, _, _, _, _, _, _, _, _, _, _, _, rfl, _⟩ := h; rfl) | (obtain ⟨_, _, _, _, _, _, _, _, _, _, _, _, _, _, _, _, rfl, _⟩ := h; rfl) | (obtain ⟨_, _, _, _, _, _, _, _, _, _, _, _, _, _, _, _, _, rfl, _⟩ := h; rfl) | (obtain ⟨_, _, _, _, _, _, _, _, _, _, _, _, _, _, _, _, _, _, rfl, _⟩ := h; rfl) | (obtain ⟨_, _, _, _, _, _, _, _, _, _, _, _, _, _, _, _, _, _, _, rfl, _⟩ := h; rfl) | (obtain ⟨_, _, _, _, _, _, _, _, _, _, _, _, _, _, _, _, _, _, _, _, rfl, _⟩ := h; rfl) | (obtain ⟨_, _, _, _, _, _, _, _, _, _, _, _, _, _, _, _, _, _, _, _, _, rfl, _⟩ := h; rfl) | (obtain ⟨_, _, _, _, _, _, _, _, _, _, _, _, _, _, _, _, _, _, _, _, _, _, rfl, _⟩ := h; rfl) | (obtain ⟨_, _, _, _, _, _, _, _, _, _, _, _, _, _, _, _, _, _, _, _, _, _, _, rfl, _⟩ := h; rfl)
  · obtain ⟨t, a, b, c, d, x, y, rfl, ht, ba, bb, bc, bd, bx, by', q⟩ := h
    refine ⟨_, (pss_cons (ps_asg (pv 0) (pg_tup (by rfl) (pgs_cons (pg_name (i := 3) sc_l_value.nd rfl (.inl rfl)) (pgs_cons (pg_name (i := 4) sc_l_value.nd rfl (.inl rfl)) (pgs_cons (pg_name (i := 5) sc_l_value.nd rfl (.inl rfl)) (pgs_cons (pg_name (i := 6) sc_l_value.nd rfl (.inl rfl)) pgs_nil))))))
    (pss_one (ps_ret (pe_op op_add (pe_op op_add (pe_op op_add (pe_op op_mulW (pe_op op_mulW (pe_op op_mulW (pv 3) (pv 1)) (pv 1)) (pv 1)) (pe_op op_mulW (pe_op op_mulW (pe_op op_mulW (pv 4) (pv 1)) (pv 1)) (pv 2))) (pe_op op_mulW (pe_op op_mulW (pe_op op_mulW (pv 5) (pv 1)) (pv 2)) (pv 2))) (pe_op op_mulW (pe_op op_mulW (pe_op op_mulW (pv 6) (pv 2)) (pv 2)) (pv 2)))))), ?_⟩
    refine ⟨_, rfl, unI4 ht ?_⟩
    exact ⟨_, rfl, _, rfl, _, _, rfl, rfl, mulB (by with_reducible assumption) (by with_reducible assumption) (by decide), _, rfl, _, _, rfl, rfl, mulB (B.mul (by with_reducible assumption) (by with_reducible assumption)) (by with_reducible assumption) (by decide), _, rfl, _, _, rfl, rfl, mulB (B.mul (B.mul (by with_reducible assumption) (by with_reducible assumption)) (by with_reducible assumption)) (by with_reducible assumption) (by decide), _, rfl, _, rfl, _, _, rfl, rfl, mulB (by with_reducible assumption) (by with_reducible assumption) (by decide), _, rfl, _, _, rfl, rfl, mulB (B.mul (by with_reducible assumption) (by with_reducible assumption)) (by with_reducible assumption) (by decide), _, rfl, _, _, rfl, rfl, mulB (B.mul (B.mul (by with_reducible assumption) (by with_reducible assumption)) (by with_reducible assumption)) (by with_reducible assumption) (by decide), _, _, rfl, rfl, _, rfl, _, rfl, _, _, rfl, rfl, mulB (by with_reducible assumption) (by with_reducible assumption) (by decide), _, rfl, _, _, rfl, rfl, mulB (B.mul (by with_reducible assumption) (by with_reducible assumption)) (by with_reducible assumption) (by decide), _, rfl, _, _, rfl, rfl, mulB (B.mul (B.mul (by with_reducible assumption) (by with_reducible assumption)) (by with_reducible assumption)) (by with_reducible assumption) (by decide), _, _, rfl, rfl, _, rfl, _, rfl, _, _, rfl, rfl, mulB (by with_reducible assumption) (by with_reducible assumption) (by decide), _, rfl, _, _, rfl, rfl, mulB (B.mul (by with_reducible assumption) (by with_reducible assumption)) (by with_reducible assumption) (by decide), _, rfl, _, _, rfl, rfl, mulB (B.mul (B.mul (by with_reducible assumption) (by with_reducible assumption)) (by with_reducible assumption)) (by with_reducible assumption) (by decide), _, _, rfl, rfl, q⟩
theorem ok_l_moved (T : Txt K mg C_Form C_Double) : Def P w K mg base 2 "_law_moved" ["_law_row", "_law_change_here"] (sp_l_moved K C_Form C_Double) := by
  obtain ⟨f_, fd_, g_, F_⟩ := T.d_l_moved
  obtain ⟨f_l_value, fd_l_value, g_l_value, k_l_value, b_l_value, G_l_value⟩ := (ok_l_value (P := P) (w := w) (base := base) T)
  refine ⟨f_, fd_, g_, F_.kp, F_.binds (ps := ["_law_row", "_law_change_here"]) (fun _ _ _ _ _ _ us hl => match us, hl with | [_, _], _ => rfl), ?_⟩
  refine F_.ok sc_l_moved (fun vs H Q E h => ?_) (fun cdv A outer s H vs Q E hr h => ?_)
  · first | (obtain ⟨rfl, _⟩ := h; rfl) | (obtain ⟨_, rfl, _⟩ := h; rfl) | (obtain ⟨_, _, rfl, _⟩ := h; rfl) | (obtain ⟨_, _, _, rfl, _⟩ := h; rfl) | (obtain ⟨_, _, _, _, rfl, _⟩ := h; rfl) | (obtain ⟨_, _, _, _, _, rfl, _⟩ := h; rfl) | (obtain ⟨_, _, _, _, _, _, rfl, _⟩ := h; rfl) | (obtain ⟨_, _, _, _, _, _, _, rfl, _⟩ := h; rfl) | (obtain ⟨_, _, _, _, _, _, _, _, rfl, _⟩ := h; rfl) | (obtain ⟨_, _, _, _, _, _, _, _, _, rfl, _⟩ := h; rfl) | (obtain ⟨_, _, _, _, _, _, _, _, _, _, rfl, _⟩ := h; rfl) | (obtain ⟨_, _, _, _, _, _, _, _, _, _, _, rfl, _⟩ := h; rfl) | (obtain ⟨_, _, _, _, _, _, _, _, _, _, _, _, rfl, _⟩ := h; rfl) | (obtain ⟨_, _, _, _, _, _, _, _, _, _, _, _, _, rfl, _⟩ := h; rfl) | (obtain ⟨_, _, _, _, _, _, _, _, _, _, _, _, _, _, rfl, _⟩ := h; rfl) | (obtain ⟨_, _, _, _, _, _, _, _, _, _, _, _, _, _, _, rfl, _⟩ := h; rfl) | (obtain ⟨_, _, _, _, _, _, _, _, _, _, _, _, _, _, _, _, rfl, _⟩ := h; rfl) | (obtain ⟨_, _, _, _, _, _, _, _, _, _, _, _, _, _, _, _, _, rfl, _⟩ := h; rfl) | (obtain ⟨_, _, _, _, _, _, _, _, _, _, _, _, _, _, _, _, _, _, rfl, _⟩ := h; rfl) | (obtain ⟨_, _, _, _, _, _, _, _, _, _, _, _, _, _, _, _, _, _, _, rfl, _⟩ := h; rfl) | (obtain ⟨_, _, _, _, _, _, _, _, _, _, _, _, _, _, _, _, _, _, _, _, rfl, _⟩ := h; rfl) | (obtain ⟨_, _, _, _, _, _, _, _, _, _, _, _, _, _, _, _, _, _, _, _, _, rfl, _⟩ := h; rfl) | (obtain ⟨_, _, _, _, _, _, _, _, _, _, _, _, _, _, _, _, _, _, _, _, _, _, rfl, _⟩ := h; rfl) | (obtain ⟨_, _, _, _, _, _, _, _, _, _, _, _, _, _, _, _, _, _, _, _, _, _, _, rfl, _⟩ := h; rfl)
  · obtain ⟨t, u, a, b, c, d, p, q', r, s', rfl, ht, h4, ba, bb, bc, bd, bp, bq, br, bs, q⟩ := h
    refine ⟨_, (Evl.pss_cut (ps_asg (pv 0) (pg_tup (by rfl) (pgs_cons (pg_name (i := 2) sc_l_moved.nd rfl (.inl rfl)) (pgs_cons (pg_name (i := 3) sc_l_moved.nd rfl (.inl rfl)) (pgs_cons (pg_name (i := 4) sc_l_moved.nd rfl (.inl rfl)) (pgs_cons (pg_name (i := 5) sc_l_moved.nd rfl (.inl rfl)) pgs_nil))))))
    (Evl.pss_cut (ps_asg (pv 1) (pg_tup (by rfl) (pgs_cons (pg_tup (by rfl) (pgs_cons (pg_name (i := 6) sc_l_moved.nd rfl (.inl rfl)) (pgs_cons (pg_name (i := 7) sc_l_moved.nd rfl (.inl rfl)) pgs_nil))) (pgs_cons (pg_tup (by rfl) (pgs_cons (pg_name (i := 8) sc_l_moved.nd rfl (.inl rfl)) (pgs_cons (pg_name (i := 9) sc_l_moved.nd rfl (.inl rfl)) pgs_nil))) pgs_nil))))
    (pss_cons (ps_set (i := 10) sc_l_moved.nd rfl (.inl rfl) (pe_op op_add (pe_op op_mulW (pe_op op_mulW (pe_op op_mulW (pe_op op_mulW pe_int (pv 2)) (pv 6)) (pv 6)) (pv 8)) (pe_op op_mulW (pe_op op_mulW (pv 3) (pv 6)) (pe_op op_add (pe_op op_mulW (pv 6) (pv 9)) (pe_op op_mulW (pe_op op_mulW pe_int (pv 7)) (pv 8))))))
    (pss_cons (ps_set (i := 10) sc_l_moved.nd rfl (.inl rfl) (pe_op op_add (pe_op op_add (pv 10) (pe_op op_mulW (pe_op op_mulW (pv 4) (pv 7)) (pe_op op_add (pe_op op_mulW (pv 7) (pv 8)) (pe_op op_mulW (pe_op op_mulW pe_int (pv 6)) (pv 9))))) (pe_op op_mulW (pe_op op_mulW (pe_op op_mulW (pe_op op_mulW pe_int (pv 5)) (pv 7)) (pv 7)) (pv 9))))
    (pss_cons (ps_set (i := 11) sc_l_moved.nd rfl (.inl rfl) (pe_op op_add (pe_op op_mulW (pe_op op_mulW (pe_op op_mulW (pe_op op_mulW pe_int (pv 2)) (pv 6)) (pv 8)) (pv 8)) (pe_op op_mulW (pe_op op_mulW (pv 3) (pv 8)) (pe_op op_add (pe_op op_mulW (pv 8) (pv 7)) (pe_op op_mulW (pe_op op_mulW pe_int (pv 6)) (pv 9))))))
    (pss_cons (ps_set (i := 11) sc_l_moved.nd rfl (.inl rfl) (pe_op op_add (pe_op op_add (pv 11) (pe_op op_mulW (pe_op op_mulW (pv 4) (pv 9)) (pe_op op_add (pe_op op_mulW (pv 9) (pv 6)) (pe_op op_mulW (pe_op op_mulW pe_int (pv 7)) (pv 8))))) (pe_op op_mulW (pe_op op_mulW (pe_op op_mulW (pe_op op_mulW pe_int (pv 5)) (pv 7)) (pv 9)) (pv 9))))
    (pss_one (ps_ret (pe_tup (pa_cons (pe_call G_l_value (hr.mono (by decide)) (by rfl) g_l_value k_l_value b_l_value .nil pass0 (pa_cons (pv 0) (pa_cons (pv 6) (pa_cons (pv 7) pa_nil)))) (pa_cons (pv 10) (pa_cons (pv 11) (pa_cons (pe_call G_l_value (hr.mono (by decide)) (by rfl) g_l_value k_l_value b_l_value .nil pass0 (pa_cons (pv 0) (pa_cons (pv 8) (pa_cons (pv 9) pa_nil)))) pa_nil))))))))))))), ?_⟩
    refine ⟨fun σ H' => σ = [some (.ref t), some (.ref u), some (.int a), some (.int b), some (.int c), some (.int d), none, none, none, none, none, none] ∧ H' = H, ⟨_, rfl, unI4 ht ⟨rfl, rfl⟩⟩, ?_⟩
    rintro σ H' ⟨rfl, rfl⟩
    refine ⟨fun σ H'' => σ = [some (.ref t), some (.ref u), some (.int a), some (.int b), some (.int c), some (.int d), some (.int p), some (.int q'), some (.int r), some (.int s'), none, none] ∧ H'' = H', ⟨_, rfl, un4 h4 ⟨rfl, rfl⟩⟩, ?_⟩
    rintro σ H'' ⟨rfl, rfl⟩
    refine ⟨_, rfl, _, _, rfl, rfl, mulB (B.lit (by decide)) (by with_reducible assumption) (by decide), _, rfl, _, _, rfl, rfl, mulB (B.mul (B.lit (by decide)) (by with_reducible assumption)) (by with_reducible assumption) (by decide), _, rfl, _, _, rfl, rfl, mulB (B.mul (B.mul (B.lit (by decide)) (by with_reducible assumption)) (by with_reducible assumption)) (by with_reducible assumption) (by decide), _, rfl, _, _, rfl, rfl, mulB (B.mul (B.mul (B.mul (B.lit (by decide)) (by with_reducible assumption)) (by with_reducible assumption)) (by with_reducible assumption)) (by with_reducible assumption) (by decide), _, rfl, _, rfl, _, _, rfl, rfl, mulB (by with_reducible assumption) (by with_reducible assumption) (by decide), _, rfl, _, rfl, _, _, rfl, rfl, mulB (by with_reducible assumption) (by with_reducible assumption) (by decide), _, rfl, _, _, rfl, rfl, mulB (B.lit (by decide)) (by with_reducible assumption) (by decide), _, rfl, _, _, rfl, rfl, mulB (B.mul (B.lit (by decide)) (by with_reducible assumption)) (by with_reducible assumption) (by decide), _, _, rfl, rfl, _, _, rfl, rfl, mulB (B.mul (by with_reducible assumption) (by with_reducible assumption)) (B.add (B.mul (by with_reducible assumption) (by with_reducible assumption)) (B.mul (B.mul (B.lit (by decide)) (by with_reducible assumption)) (by with_reducible assumption))) (by decide), _, _, rfl, rfl, ?_⟩
    refine ⟨_, rfl, _, rfl, _, rfl, _, _, rfl, rfl, mulB (by with_reducible assumption) (by with_reducible assumption) (by decide), _, rfl, _, rfl, _, _, rfl, rfl, mulB (by with_reducible assumption) (by with_reducible assumption) (by decide), _, rfl, _, _, rfl, rfl, mulB (B.lit (by decide)) (by with_reducible assumption) (by decide), _, rfl, _, _, rfl, rfl, mulB (B.mul (B.lit (by decide)) (by with_reducible assumption)) (by with_reducible assumption) (by decide), _, _, rfl, rfl, _, _, rfl, rfl, mulB (B.mul (by with_reducible assumption) (by with_reducible assumption)) (B.add (B.mul (by with_reducible assumption) (by with_reducible assumption)) (B.mul (B.mul (B.lit (by decide)) (by with_reducible assumption)) (by with_reducible assumption))) (by decide), _, _, rfl, rfl, _, rfl, _, _, rfl, rfl, mulB (B.lit (by decide)) (by with_reducible assumption) (by decide), _, rfl, _, _, rfl, rfl, mulB (B.mul (B.lit (by decide)) (by with_reducible assumption)) (by with_reducible assumption) (by decide), _, rfl, _, _, rfl, rfl, mulB (B.mul (B.mul (B.lit (by decide)) (by with_reducible assumption)) (by with_reducible assumption)) (by with_reducible assumption) (by decide), _, rfl, _, _, rfl, rfl, mulB (B.mul (B.mul (B.mul (B.lit (by decide)) (by with_reducible assumption)) (by with_reducible assumption)) (by with_reducible assumption)) (by with_reducible assumption) (by decide), _, _, rfl, rfl, ?_⟩
    refine ⟨_, rfl, _, _, rfl, rfl, mulB (B.lit (by decide)) (by with_reducible assumption) (by decide), _, rfl, _, _, rfl, rfl, mulB (B.mul (B.lit (by decide)) (by with_reducible assumption)) (by with_reducible assumption) (by decide), _, rfl, _, _, rfl, rfl, mulB (B.mul (B.mul (B.lit (by decide)) (by with_reducible assumption)) (by with_reducible assumption)) (by with_reducible assumption) (by decide), _, rfl, _, _, rfl, rfl, mulB (B.mul (B.mul (B.mul (B.lit (by decide)) (by with_reducible assumption)) (by with_reducible assumption)) (by with_reducible assumption)) (by with_reducible assumption) (by decide), _, rfl, _, rfl, _, _, rfl, rfl, mulB (by with_reducible assumption) (by with_reducible assumption) (by decide), _, rfl, _, rfl, _, _, rfl, rfl, mulB (by with_reducible assumption) (by with_reducible assumption) (by decide), _, rfl, _, _, rfl, rfl, mulB (B.lit (by decide)) (by with_reducible assumption) (by decide), _, rfl, _, _, rfl, rfl, mulB (B.mul (B.lit (by decide)) (by with_reducible assumption)) (by with_reducible assumption) (by decide), _, _, rfl, rfl, _, _, rfl, rfl, mulB (B.mul (by with_reducible assumption) (by with_reducible assumption)) (B.add (B.mul (by with_reducible assumption) (by with_reducible assumption)) (B.mul (B.mul (B.lit (by decide)) (by with_reducible assumption)) (by with_reducible assumption))) (by decide), _, _, rfl, rfl, ?_⟩
    refine ⟨_, rfl, _, rfl, _, rfl, _, _, rfl, rfl, mulB (by with_reducible assumption) (by with_reducible assumption) (by decide), _, rfl, _, rfl, _, _, rfl, rfl, mulB (by with_reducible assumption) (by with_reducible assumption) (by decide), _, rfl, _, _, rfl, rfl, mulB (B.lit (by decide)) (by with_reducible assumption) (by decide), _, rfl, _, _, rfl, rfl, mulB (B.mul (B.lit (by decide)) (by with_reducible assumption)) (by with_reducible assumption) (by decide), _, _, rfl, rfl, _, _, rfl, rfl, mulB (B.mul (by with_reducible assumption) (by with_reducible assumption)) (B.add (B.mul (by with_reducible assumption) (by with_reducible assumption)) (B.mul (B.mul (B.lit (by decide)) (by with_reducible assumption)) (by with_reducible assumption))) (by decide), _, _, rfl, rfl, _, rfl, _, _, rfl, rfl, mulB (B.lit (by decide)) (by with_reducible assumption) (by decide), _, rfl, _, _, rfl, rfl, mulB (B.mul (B.lit (by decide)) (by with_reducible assumption)) (by with_reducible assumption) (by decide), _, rfl, _, _, rfl, rfl, mulB (B.mul (B.mul (B.lit (by decide)) (by with_reducible assumption)) (by with_reducible assumption)) (by with_reducible assumption) (by decide), _, rfl, _, _, rfl, rfl, mulB (B.mul (B.mul (B.mul (B.lit (by decide)) (by with_reducible assumption)) (by with_reducible assumption)) (by with_reducible assumption)) (by with_reducible assumption) (by decide), _, _, rfl, rfl, ?_⟩
    refine ⟨_, rfl, _, rfl, _, rfl, t, a, b, c, d, p, q', rfl, ht, ba, bb, bc, bd, bp, bq, _, rfl, _, rfl, ?_⟩
    refine ⟨_, rfl, _, rfl, _, rfl, t, a, b, c, d, r, s', rfl, ht, ba, bb, bc, bd, br, bs, sl4, fun o no => ?_⟩
    refine q o _ (Ex0.new no) ?_
    have e2 : fl2 a b c d p q' r s' = 3 * a * p * p * r + b * p * (p * s' + 2 * q' * r) + c * q' * (q' * r + 2 * p * s') + 3 * d * q' * q' * s' := by unfold fl2; grind
    have e3 : fl3 a b c d p q' r s' = 3 * a * p * r * r + b * r * (r * q' + 2 * p * s') + c * s' * (s' * p + 2 * q' * r) + 3 * d * q' * s' * s' := by unfold fl3; grind
    rw [e2, e3]
    exact upd_same
theorem ok_l_change (T : Txt K mg C_Form C_Double) : Def P w K mg base 2 "_law_change" ["_law_kettle_here"] (sp_l_change K C_Form C_Double) := by
  obtain ⟨f_, fd_, g_, F_⟩ := T.d_l_change
  obtain ⟨f_l_sip, fd_l_sip, g_l_sip, k_l_sip, b_l_sip, G_l_sip⟩ := (ok_l_sip (P := P) (w := w) (base := base) T)
  refine ⟨f_, fd_, g_, F_.kp, F_.binds (ps := ["_law_kettle_here"]) (fun _ _ _ _ _ _ us hl => match us, hl with | [_], _ => rfl), ?_⟩
  refine F_.ok sc_l_change (fun vs H Q E h => ?_) (fun cdv A outer s H vs Q E hr h => ?_)
  · first | (obtain ⟨rfl, _⟩ := h; rfl) | (obtain ⟨_, rfl, _⟩ := h; rfl) | (obtain ⟨_, _, rfl, _⟩ := h; rfl) | (obtain ⟨_, _, _, rfl, _⟩ := h; rfl) | (obtain ⟨_, _, _, _, rfl, _⟩ := h; rfl) | (obtain ⟨_, _, _, _, _, rfl, _⟩ := h; rfl) | (obtain ⟨_, _, _, _, _, _, rfl, _⟩ := h; rfl) | (obtain ⟨_, _, _, _, _, _, _, rfl, _⟩ := h; rfl) | (obtain ⟨_, _, _, _, _, _, _, _, rfl, _⟩ := h; rfl) | (obtain ⟨_, _, _, _, _, _, _, _, _, rfl, _⟩ := h; rfl) | (obtain ⟨_, _, _, _, _, _, _, _, _, _, rfl, _⟩ := h; rfl) | (obtain ⟨_, _, _, _, _, _, _, _, _, _, _, rfl, _⟩ := h; rfl) | (obtain ⟨_, _, _, _, _, _, _, _, _, _, _, _, rfl, _⟩ := h; rfl) | (obtain ⟨_, _, _, _, _, _, _, _, _, _, _, _, _, rfl, _⟩ := h; rfl) | (obtain ⟨_, _, _, _, _, _, _, _, _, _, _, _, _, _, rfl, _⟩ := h; rfl) | (obtain ⟨_, _, _, _, _, _, _, _, _, _, _, _, _, _, _, rfl, _⟩ := h; rfl) | (obtain ⟨_, _, _, _, _, _, _, _, _, _, _, _, _, _, _, _, rfl, _⟩ := h; rfl) | (obtain ⟨_, _, _, _, _, _, _, _, _, _, _, _, _, _, _, _, _, rfl, _⟩ := h; rfl) | (obtain ⟨_, _, _, _, _, _, _, _, _, _, _, _, _, _, _, _, _, _, rfl, _⟩ := h; rfl) | (obtain ⟨_, _, _, _, _, _, _, _, _, _, _, _, _, _, _, _, _, _, _, rfl, _⟩ := h; rfl) | (obtain ⟨_, _, _, _, _, _, _, _, _, _, _, _, _, _, _, _, _, _, _, _, rfl, _⟩ := h; rfl) | (obtain ⟨_, _, _, _, _, _, _, _, _, _, _, _, _, _, _, _, _, _, _, _, _, rfl, _⟩ := h; rfl) | (obtain ⟨_, _, _, _, _, _, _, _, _, _, _, _, _, _, _, _, _, _, _, _, _, _, rfl, _⟩ := h; rfl) | (obtain ⟨_, _, _, _, _, _, _, _, _, _, _, _, _, _, _, _, _, _, _, _, _, _, _, rfl, _⟩ := h; rfl)
  · obtain ⟨c, rfl, hc, q⟩ := h
    refine ⟨_, (pss_cons (ps_asg (pe_tup (pa_cons pe_int (pa_cons pe_int (pa_cons pe_int (pa_cons pe_int pa_nil))))) (pg_tup (by rfl) (pgs_cons (pg_name (i := 1) sc_l_change.nd rfl (.inl rfl)) (pgs_cons (pg_name (i := 2) sc_l_change.nd rfl (.inl rfl)) (pgs_cons (pg_name (i := 3) sc_l_change.nd rfl (.inl rfl)) (pgs_cons (pg_name (i := 4) sc_l_change.nd rfl (.inl rfl)) pgs_nil))))))
    (pss_cons (ps_for PassesOwn.never rfl (pi_range1 (by rfl) T.b_range (pa_cons (pe_call G_l_sip (hr.mono (by decide)) (by rfl) g_l_sip k_l_sip b_l_sip .nil pass0 (pa_cons (pv 0) (pa_cons pe_int pa_nil))) pa_nil)) (pg_name (i := 5) sc_l_change.nd rfl (.inl rfl))
      (pss_cons (ps_par (i := 6) (j := 7) (by rfl) sc_l_change.nd rfl rfl (by decide) rfl rfl (pa_cons (pe_call G_l_sip (hr.mono (by decide)) (by rfl) g_l_sip k_l_sip b_l_sip .nil pass0 (pa_cons (pv 0) (pa_cons pe_int pa_nil))) (pa_cons (pe_op op_sub (pe_call G_l_sip (hr.mono (by decide)) (by rfl) g_l_sip k_l_sip b_l_sip .nil pass0 (pa_cons (pv 0) (pa_cons pe_int pa_nil))) pe_int) pa_nil)) (by rfl))
    (pss_cons (ps_if (pt_cmpR op_eq (pv 6) pe_int (nomark _))
      (pss_one (ps_par (i := 1) (j := 2) (by rfl) sc_l_change.nd rfl rfl (by decide) rfl rfl (pa_cons (pe_op op_add (pv 1) (pe_op op_mulW (pv 7) (pv 3))) (pa_cons (pe_op op_add (pv 2) (pe_op op_mulW (pv 7) (pv 4))) pa_nil)) (by rfl)))
      pss_nil)
    (pss_cons (ps_if (pt_cmpR op_eq (pv 6) pe_int (nomark _))
      (pss_one (ps_par (i := 3) (j := 4) (by rfl) sc_l_change.nd rfl rfl (by decide) rfl rfl (pa_cons (pe_op op_add (pv 3) (pe_op op_mulW (pv 7) (pv 1))) (pa_cons (pe_op op_add (pv 4) (pe_op op_mulW (pv 7) (pv 2))) pa_nil)) (by rfl)))
      pss_nil)
    (pss_one (ps_if (pt_cmpR op_eq (pv 6) pe_int (nomark _))
      (pss_one (ps_asg (pe_tup (pa_cons (pv 3) (pa_cons (pv 4) (pa_cons (pv 1) (pa_cons (pv 2) pa_nil))))) (pg_tup (by rfl) (pgs_cons (pg_name (i := 1) sc_l_change.nd rfl (.inl rfl)) (pgs_cons (pg_name (i := 2) sc_l_change.nd rfl (.inl rfl)) (pgs_cons (pg_name (i := 3) sc_l_change.nd rfl (.inl rfl)) (pgs_cons (pg_name (i := 4) sc_l_change.nd rfl (.inl rfl)) pgs_nil)))))))
      pss_nil))))))
    (pss_one (ps_ret (pe_tup (pa_cons (pe_tup (pa_cons (pv 1) (pa_cons (pv 2) pa_nil))) (pa_cons (pe_tup (pa_cons (pv 3) (pa_cons (pv 4) pa_nil))) pa_nil))))))), ?_⟩
    refine ⟨sl4, fun t0 n0 => unI4 (show Ti _ t0 [1, 0, 0, 1] from upd_same) ?_⟩
    have f0 : Fv c H (upd H t0 (.tup [.int 1, .int 0, .int 0, .int 1])) := fv_new hc n0
    refine ⟨_, rfl, c, 5, rfl, f0.1, by omega, by omega, fun u H1 u0 u1 e1 => ⟨_, rfl, by omega, by omega, ?_⟩⟩
    refine for_range (lo := 0) (n := u.toNat) (fun i σ H' => ∃ (p q r s : Int) (y5 y6 y7 : Option V), σ = [some (.ref c), some (.int p), some (.int q), some (.int r), some (.int s), y5, y6, y7] ∧ Fv c H H' ∧ Gc i p q r s) ⟨1, 0, 0, 1, none, none, none, rfl, f0.trans e1, ⟨by decide, by decide, by decide, by decide, .inl (by decide)⟩⟩ ?_ ?_
    · rintro i σ H' hi ⟨p, q', r, s', y5, y6, y7, rfl, e2, hg⟩
      have hi4 : i < 4 := by omega
      refine ⟨_, rfl, c, 3, rfl, e2.1, by decide, by decide, fun v H2 v0 v1 e3 => ?_⟩
      refine ⟨_, rfl, c, 5, rfl, e3.1, by decide, by decide, fun m H3 m0 m1 e4 => ⟨_, _, rfl, rfl, _, _, rfl, ?_⟩⟩
      have e24 := (e2.trans e3).trans e4
      obtain ⟨bp, bq, br, bs⟩ := hg.b (by omega)
      have bm : B 200 (m - 2) := ⟨Nat.lt_of_lt_of_le (show (m - 2).natAbs < 3 by omega) (by decide), by decide⟩
      have hm2 : (m - 2).natAbs ≤ 2 := by omega
      obtain rfl | rfl | rfl : v = 0 ∨ v = 1 ∨ v = 2 := by omega
      · refine ⟨_, rfl, rfl, _, rfl, iteE (fun _ => ?_) (fun h => absurd rfl h)⟩
        refine ⟨_, rfl, _, rfl, _, rfl, _, _, rfl, rfl, mulB bm br (by decide), _, _, rfl, rfl, _, rfl, _, rfl, _, rfl, _, _, rfl, rfl, mulB bm bs (by decide), _, _, rfl, rfl, _, _, rfl, ?_⟩
        refine ⟨_, rfl, rfl, _, rfl, iteE (fun h => absurd h (by decide)) (fun _ => ?_)⟩
        refine ⟨_, rfl, rfl, _, rfl, iteE (fun h => absurd h (by decide)) (fun _ => ?_)⟩
        exact ⟨_, _, _, _, _, _, _, rfl, e24, hg.add1 hm2⟩
      · refine ⟨_, rfl, rfl, _, rfl, iteE (fun h => absurd h (by decide)) (fun _ => ?_)⟩
        refine ⟨_, rfl, rfl, _, rfl, iteE (fun _ => ?_) (fun h => absurd rfl h)⟩
        refine ⟨_, rfl, _, rfl, _, rfl, _, _, rfl, rfl, mulB bm bp (by decide), _, _, rfl, rfl, _, rfl, _, rfl, _, rfl, _, _, rfl, rfl, mulB bm bq (by decide), _, _, rfl, rfl, _, _, rfl, ?_⟩
        refine ⟨_, rfl, rfl, _, rfl, iteE (fun h => absurd h (by decide)) (fun _ => ?_)⟩
        exact ⟨_, _, _, _, _, _, _, rfl, e24, hg.add2 hm2⟩
      · refine ⟨_, rfl, rfl, _, rfl, iteE (fun h => absurd h (by decide)) (fun _ => ?_)⟩
        refine ⟨_, rfl, rfl, _, rfl, iteE (fun h => absurd h (by decide)) (fun _ => ?_)⟩
        refine ⟨_, rfl, rfl, _, rfl, iteE (fun _ => ?_) (fun h => absurd rfl h)⟩
        refine ⟨_, rfl, _, rfl, _, rfl, _, rfl, sl4, fun t1 n1 => unI4 (show Ti _ t1 [r, s', p, q'] from upd_same) ?_⟩
        exact ⟨_, _, _, _, _, _, _, rfl, e24.trans (fv_new e24.1 n1), hg.swap⟩
    · rintro σ H' ⟨p, q', r, s', y5, y6, y7, rfl, e2, hg⟩
      refine ⟨_, rfl, _, rfl, sl2, fun t1 n1 => ⟨_, rfl, _, rfl, sl2, fun t2 n2 => ⟨sl2, fun x nx => ?_⟩⟩⟩
      have z := t4_new n1 n2 nx
      exact q x p q' r s' _ (e2.trans (fv_ex e2.1 z.1)) z.2 (hg.sc (by omega))
theorem ok_l_led (T : Txt K mg C_Form C_Double) : Def P w K mg base 3 "_law_led" ["_law_row", "_law_change_here"] (sp_l_led K C_Form C_Double) := by
  obtain ⟨f_, fd_, g_, F_⟩ := T.d_l_led
  obtain ⟨f_l_moved, fd_l_moved, g_l_moved, k_l_moved, b_l_moved, G_l_moved⟩ := (ok_l_moved (P := P) (w := w) (base := base) T)
  refine ⟨f_, fd_, g_, F_.kp, F_.binds (ps := ["_law_row", "_law_change_here"]) (fun _ _ _ _ _ _ us hl => match us, hl with | [_, _], _ => rfl), ?_⟩
  refine F_.ok sc_l_led (fun vs H Q E h => ?_) (fun cdv A outer s H vs Q E hr h => ?_)
  · first | (obtain ⟨rfl, _⟩ := h; rfl) | (obtain ⟨_, rfl, _⟩ := h; rfl) | (obtain ⟨_, _, rfl, _⟩ := h; rfl) | (obtain ⟨_, _, _, rfl, _⟩ := h; rfl) | (obtain ⟨_, _, _, _, rfl, _⟩ := h; rfl) | (obtain ⟨_, _, _, _, _, rfl, _⟩ := h; rfl) | (obtain ⟨_, _, _, _, _, _, rfl, _⟩ := h; rfl) | (obtain ⟨_, _, _, _, _, _, _, rfl, _⟩ := h; rfl) | (obtain ⟨_, _, _, _, _, _, _, _, rfl, _⟩ := h; rfl) | (obtain ⟨_, _, _, _, _, _, _, _, _, rfl, _⟩ := h; rfl) | (obtain ⟨_, _, _, _, _, _, _, _, _, _, rfl, _⟩ := h; rfl) | (obtain ⟨_, _, _, _, _, _, _, _, _, _, _, rfl, _⟩ := h; rfl) | (obtain ⟨_, _, _, _, _, _, _, _, _, _, _, _, rfl, _⟩ := h; rfl) | (obtain ⟨_, _, _, _, _, _, _, _, _, _, _, _, _, rfl, _⟩ := h; rfl) | (obtain ⟨_, _, _, _, _, _, _, _, _, _, _, _, _, _, rfl, _⟩ := h; rfl) | (obtain ⟨_, _, _, _, _, _, _, _, _, _, _, _, _, _, _, rfl, _⟩ := h; rfl) | (obtain ⟨_, _, _, _, _, _, _, _, _, _, _, _, _, _, _, _, rfl, _⟩ := h; rfl) | (obtain ⟨_, _, _, _, _, _, _, _, _, _, _, _, _, _, _, _, _, rfl, _⟩ := h; rfl) | (obtain ⟨_, _, _, _, _, _, _, _, _, _, _, _, _, _, _, _, _, _, rfl, _⟩ := h; rfl) | (obtain ⟨_, _, _, _, _, _, _, _, _, _, _, _, _, _, _, _, _, _, _, rfl, _⟩ := h; rfl) | (obtain ⟨_, _, _, _, _, _, _, _, _, _, _, _, _, _, _, _, _, _, _, _, rfl, _⟩ := h; rfl) | (obtain ⟨_, _, _, _, _, _, _, _, _, _, _, _, _, _, _, _, _, _, _, _, _, rfl, _⟩ := h; rfl) | (obtain ⟨_, _, _, _, _, _, _, _, _, _, _, _, _, _, _, _, _, _, _, _, _, _, rfl, _⟩ := h; rfl) | (obtain ⟨_, _, _, _, _, _, _, _, _, _, _, _, _, _, _, _, _, _, _, _, _, _, _, rfl, _⟩ := h; rfl)
  · obtain ⟨t, u, a, b, c, d, p, q', r, s', rfl, ht, h4, ba, bb, bc, bd, bp, bq, br, bs, q⟩ := h
    refine ⟨_, (pss_cons (ps_asg (pv 1) (pg_tup (by rfl) (pgs_cons (pg_tup (by rfl) (pgs_cons (pg_name (i := 2) sc_l_led.nd rfl (.inr rfl)) (pgs_cons (pg_name (i := 3) sc_l_led.nd rfl (.inr rfl)) pgs_nil))) (pgs_cons (pg_tup (by rfl) (pgs_cons (pg_name (i := 4) sc_l_led.nd rfl (.inr rfl)) (pgs_cons (pg_name (i := 5) sc_l_led.nd rfl (.inr rfl)) pgs_nil))) pgs_nil))))
    (pss_one (ps_ret (pe_callTy call_tuple_of (by rfl) T.b_tuple (by decide +kernel) (pa_cons (pe_lc (own := [("_law_entry", 6)]) (g := (gName 6)) rfl sc_l_led.nd (pi_tup (pe_call G_l_moved (hr.mono (by decide)) (by rfl) g_l_moved k_l_moved b_l_moved .nil pass0 (pa_cons (pv 0) (pa_cons (pv 1) pa_nil)))) (blkOk_by (N := N_l_led) (sc := defScope s_l_led) (by decide +kernel)) (fun _ _ _ _ _ => (pg_name (i := 6) sc_l_led.nd rfl (.inl rfl))) (fun _ _ _ _ _ => pts_nil) (fun _ _ _ _ _ => (pe_op op_mulW (pe_op op_sub (pe_op op_mulW (pv 2) (pv 5)) (pe_op op_mulW (pv 3) (pv 4))) (pv 6)))) pa_nil))))), ?_⟩
    refine ⟨_, rfl, un4 h4 ?_⟩
    refine ⟨_, rfl, _, rfl, t, u, a, b, c, d, p, q', r, s', rfl, ht, h4, ba, bb, bc, bd, bp, bq, br, bs, fun x H1 e1 hx => ?_⟩
    refine ⟨x, rfl, ⟨_, SqT.of hx⟩, ?_⟩
    have b2 : B 64 2 := ⟨by decide, by decide⟩
    have b3 : B 64 3 := ⟨by decide, by decide⟩
    have be : B 800 (p * s' - q' * r) := B.sub (B.mul bp bs) (B.mul bq br)
    have f1 : B 9000 (fv a b c d p q') := (B.add (B.add (B.add (B.mul (B.mul (B.mul ba bp) bp) bp) (B.mul (B.mul (B.mul bb bp) bp) bq)) (B.mul (B.mul (B.mul bc bp) bq) bq)) (B.mul (B.mul (B.mul bd bq) bq) bq)).mono (by decide)
    have f4 : B 9000 (fv a b c d r s') := (B.add (B.add (B.add (B.mul (B.mul (B.mul ba br) br) br) (B.mul (B.mul (B.mul bb br) br) bs)) (B.mul (B.mul (B.mul bc br) bs) bs)) (B.mul (B.mul (B.mul bd bs) bs) bs)).mono (by decide)
    have f2 : B 9000 (fl2 a b c d p q' r s') := (B.add (B.add (B.add (B.mul (B.mul (B.mul (B.mul b3 ba) bp) bp) br) (B.mul (B.mul bb bp) (B.add (B.mul bp bs) (B.mul (B.mul b2 bq) br)))) (B.mul (B.mul bc bq) (B.add (B.mul (B.mul b2 bp) bs) (B.mul bq br)))) (B.mul (B.mul (B.mul (B.mul b3 bd) bq) bq) bs)).mono (by decide)
    have f3 : B 9000 (fl3 a b c d p q' r s') := (B.add (B.add (B.add (B.mul (B.mul (B.mul (B.mul b3 ba) bp) br) br) (B.mul (B.mul bb br) (B.add (B.mul (B.mul b2 bp) bs) (B.mul bq br)))) (B.mul (B.mul bc bs) (B.add (B.mul bp bs) (B.mul (B.mul b2 bq) br)))) (B.mul (B.mul (B.mul (B.mul b3 bd) bq) bs) bs)).mono (by decide)
    refine lcT fm0 trivial (SqT.of hx) (fun z => z) (fun i acc _ => acc = ((fled a b c d p q' r s').take i).map V.int) (fun _ _ => rfl) (fun D i k acc H' hD hk e2 hA hlen hp => ?_) (fun D H' acc hD e2 hA hp => ?_)
    · obtain ⟨m, hm, rfl⟩ := get_int hk
      have hi : i < 4 := (List.getElem?_eq_some_iff.mp hm).1
      have bm : B 9000 m := by
        match i, hm with
        | 0, hm => rw [← Option.some.inj hm]; exact f1
        | 1, hm => rw [← Option.some.inj hm]; exact f2
        | 2, hm => rw [← Option.some.inj hm]; exact f3
        | 3, hm => rw [← Option.some.inj hm]; exact f4
      refine ⟨rfl, ?_⟩
      refine ⟨_, rfl, _, rfl, _, _, rfl, rfl, mulB bp bs (by decide), _, rfl, _, rfl, _, _, rfl, rfl, mulB bq br (by decide), _, _, rfl, rfl, _, rfl, _, _, rfl, rfl, mulB be bm (by decide), ?_⟩
      refine cs_yes fm0 trivial hD e2 hA hlen (by omega) (Fx.refl trivial) ?_
      show acc ++ [V.int ((p * s' - q' * r) * m)] = _
      rw [hp]
      match i, hm with
      | 0, hm => rw [← Option.some.inj hm]; rfl
      | 1, hm => rw [← Option.some.inj hm]; rfl
      | 2, hm => rw [← Option.some.inj hm]; rfl
      | 3, hm => rw [← Option.some.inj hm]; rfl
    · refine ⟨D, _, rfl, .inl ⟨SqL.of hA, fun o no => ?_⟩⟩
      refine q o _ ((e1.trans e2).trans (Ex0.new no)) ?_
      show upd H' o (.tup acc) o = _
      rw [hp]
      exact upd_same
theorem ok_l_small (T : Txt K mg C_Form C_Double) : Def P w K mg base 1 "_law_small" ["_law_threefold"] (sp_l_small K C_Form C_Double) := by
  obtain ⟨f_, fd_, g_, F_⟩ := T.d_l_small
  refine ⟨f_, fd_, g_, F_.kp, F_.binds (ps := ["_law_threefold"]) (fun _ _ _ _ _ _ us hl => match us, hl with | [_], _ => rfl), ?_⟩
  refine F_.ok sc_l_small (fun vs H Q E h => ?_) (fun cdv A outer s H vs Q E hr h => ?_)
  · first | (obtain ⟨rfl, _⟩ := h; rfl) | (obtain ⟨_, rfl, _⟩ := h; rfl) | (obtain ⟨_, _, rfl, _⟩ := h; rfl) | (obtain ⟨_, _, _, rfl, _⟩ := h; rfl) | (obtain ⟨_, _, _, _, rfl, _⟩ := h; rfl) | (obtain ⟨_, _, _, _, _, rfl, _⟩ := h; rfl) | (obtain ⟨_, _, _, _, _, _, rfl, _⟩ := h; rfl) | (obtain ⟨_, _, _, _, _, _, _, rfl, _⟩ := h; rfl) | (obtain ⟨_, _, _, _, _, _, _, _, rfl, _⟩ := h; rfl) | (obtain ⟨_, _, _, _, _, _, _, _, _, rfl, _⟩ := h; rfl) | (obtain ⟨_, _, _, _, _, _, _, _, _, _, rfl, _⟩ := h; rfl) | (obtain ⟨_, _, _, _, _, _, _, _, _, _, _, rfl, _⟩ := h; rfl) | (obtain ⟨_, _, _, _, _, _, _, _, _, _, _, _, rfl, _⟩ := h; rfl) | (obtain ⟨_, _, _, _, _, _, _, _, _, _, _, _, _, rfl, _⟩ := h; rfl) | (obtain ⟨_, _, _, _, _, _, _, _, _, _, _, _, _, _, rfl, _⟩ := h; rfl) | (obtain ⟨_, _, _, _, _, _, _, _, _, _, _, _, _, _, _, rfl, _⟩ := h; rfl) | (obtain ⟨_, _, _, _, _, _, _, _, _, _, _, _, _, _, _, _, rfl, _⟩ := h; rfl) | (obtain ⟨_, _, _, _, _, _, _, _, _, _, _, _, _, _, _, _, _, rfl, _⟩ := h; rfl) | (obtain ⟨_, _, _, _, _, _, _, _, _, _, _, _, _, _, _, _, _, _, rfl, _⟩ := h; rfl) | (obtain ⟨_, _, _, _, _, _, _, _, _, _, _, _, _, _, _, _, _, _, _, rfl, _⟩ := h; rfl) | (obtain ⟨_, _, _, _, _, _, _, _, _, _, _, _, _, _, _, _, _, _, _, _, rfl, _⟩ := h; rfl) | (obtain ⟨_, _, _, _, _, _, _, _, _, _, _, _, _, _, _, _, _, _, _, _, _, rfl, _⟩ := h; rfl) | (obtain ⟨_, _, _, _, _, _, _, _, _, _, _, _, _, _, _, _, _, _, _, _, _, _, rfl, _⟩ := h; rfl) | (obtain ⟨_, _, _, _, _, _, _, _, _, _, _, _, _, _, _, _, _, _, _, _, _, _, _, rfl, _⟩ := h; rfl)
  · obtain ⟨t, a, b, c, d, rfl, ht, ba, bb, bc, bd, q⟩ := h
    refine ⟨_, (pss_cons (ps_asg (pv 0) (pg_tup (by rfl) (pgs_cons (pg_name (i := 1) sc_l_small.nd rfl (.inl rfl)) (pgs_cons (pg_name (i := 2) sc_l_small.nd rfl (.inl rfl)) (pgs_cons (pg_name (i := 3) sc_l_small.nd rfl (.inl rfl)) (pgs_cons (pg_name (i := 4) sc_l_small.nd rfl (.inl rfl)) pgs_nil))))))
    (pss_one (ps_ret (pe_tup (pa_cons (pe_op op_sub (pe_op op_mulW (pv 2) (pv 2)) (pe_op op_mulW (pv 1) (pv 3))) (pa_cons (pe_op op_sub (pe_op op_mulW (pv 2) (pv 3)) (pe_op op_mulW (pv 1) (pv 4))) (pa_cons (pe_op op_sub (pe_op op_mulW (pv 3) (pv 3)) (pe_op op_mulW (pv 2) (pv 4))) pa_nil))))))), ?_⟩
    refine ⟨_, rfl, unI4 ht ?_⟩
    exact ⟨_, rfl, _, rfl, _, _, rfl, rfl, mulB (by with_reducible assumption) (by with_reducible assumption) (by decide), _, rfl, _, rfl, _, _, rfl, rfl, mulB (by with_reducible assumption) (by with_reducible assumption) (by decide), _, _, rfl, rfl, _, rfl, _, rfl, _, _, rfl, rfl, mulB (by with_reducible assumption) (by with_reducible assumption) (by decide), _, rfl, _, rfl, _, _, rfl, rfl, mulB (by with_reducible assumption) (by with_reducible assumption) (by decide), _, _, rfl, rfl, _, rfl, _, rfl, _, _, rfl, rfl, mulB (by with_reducible assumption) (by with_reducible assumption) (by decide), _, rfl, _, rfl, _, _, rfl, rfl, mulB (by with_reducible assumption) (by with_reducible assumption) (by decide), _, _, rfl, rfl, sl3, fun x nx => q x _ (Ex0.new nx) upd_same⟩
theorem ok_l_rules_right (T : Txt K mg C_Form C_Double) : Def P w K mg base 4 "_law_rules_right" ["_law_threefold", "_law_double"] (sp_l_rules_right K C_Form C_Double) := by
  obtain ⟨f_, fd_, g_, F_⟩ := T.d_l_rules_right
  obtain ⟨p_Double_coefficients, f_Double_coefficients, fd_Double_coefficients, R_Double_coefficients, b_Double_coefficients, G_Double_coefficients⟩ := (ok_Double_coefficients (P := P) (w := w) (base := base) T)
  refine ⟨f_, fd_, g_, F_.kp, F_.binds (ps := ["_law_threefold", "_law_double"]) (fun _ _ _ _ _ _ us hl => match us, hl with | [_, _], _ => rfl), ?_⟩
  refine F_.ok sc_l_rules_right (fun vs H Q E h => ?_) (fun cdv A outer s H vs Q E hr h => ?_)
  · first | (obtain ⟨rfl, _⟩ := h; rfl) | (obtain ⟨_, rfl, _⟩ := h; rfl) | (obtain ⟨_, _, rfl, _⟩ := h; rfl) | (obtain ⟨_, _, _, rfl, _⟩ := h; rfl) | (obtain ⟨_, _, _, _, rfl, _⟩ := h; rfl) | (obtain ⟨_, _, _, _, _, rfl, _⟩ := h; rfl) | (obtain ⟨_, _, _, _, _, _, rfl, _⟩ := h; rfl) | (obtain ⟨_, _, _, _, _, _, _, rfl, _⟩ := h; rfl) | (obtain ⟨_, _, _, _, _, _, _, _, rfl, _⟩ := h; rfl) | (obtain ⟨_, _, _, _, _, _, _, _, _, rfl, _⟩ := h; rfl) | (obtain ⟨_, _, _, _, _, _, _, _, _, _, rfl, _⟩ := h; rfl) | (obtain ⟨_, _, _, _, _, _, _, _, _, _, _, rfl, _⟩ := h; rfl) | (obtain ⟨_, _, _, _, _, _, _, _, _, _, _, _, rfl, _⟩ := h; rfl) | (obtain ⟨_, _, _, _, _, _, _, _, _, _, _, _, _, rfl, _⟩ := h; rfl) | (obtain ⟨_, _, _, _, _, _, _, _, _, _, _, _, _, _, rfl, _⟩ := h; rfl) | (obtain ⟨_, _, _, _, _, _, _, _, _, _, _, _, _, _, _, rfl, _⟩ := h; rfl) | (obtain ⟨_, _, _, _, _, _, _, _, _, _, _, _, _, _, _, _, rfl, _⟩ := h; rfl) | (obtain ⟨_, _, _, _, _, _, _, _, _, _, _, _, _, _, _, _, _, rfl, _⟩ := h; rfl) | (obtain ⟨_, _, _, _, _, _, _, _, _, _, _, _, _, _, _, _, _, _, rfl, _⟩ := h; rfl) | (obtain ⟨_, _, _, _, _, _, _, _, _, _, _, _, _, _, _, _, _, _, _, rfl, _⟩ := h; rfl) | (obtain ⟨_, _, _, _, _, _, _, _, _, _, _, _, _, _, _, _, _, _, _, _, rfl, _⟩ := h; rfl) | (obtain ⟨_, _, _, _, _, _, _, _, _, _, _, _, _, _, _, _, _, _, _, _, _, rfl, _⟩ := h; rfl) | (obtain ⟨_, _, _, _, _, _, _, _, _, _, _, _, _, _, _, _, _, _, _, _, _, _, rfl, _⟩ := h; rfl) | (obtain ⟨_, _, _, _, _, _, _, _, _, _, _, _, _, _, _, _, _, _, _, _, _, _, _, rfl, _⟩ := h; rfl)
  · obtain ⟨t, x, a, b, c, d, rfl, ht, hx, ba, bb, bc, bd, q⟩ := h
    refine ⟨_, (Evl.pss_cut (ps_asg (pv 0) (pg_tup (by rfl) (pgs_cons (pg_name (i := 2) sc_l_rules_right.nd rfl (.inl rfl)) (pgs_cons (pg_name (i := 3) sc_l_rules_right.nd rfl (.inl rfl)) (pgs_cons (pg_name (i := 4) sc_l_rules_right.nd rfl (.inl rfl)) (pgs_cons (pg_name (i := 5) sc_l_rules_right.nd rfl (.inl rfl)) pgs_nil))))))
    (Evl.pss_cut (ps_asg (pe_prop (pv 1) T.cl_Double R_Double_coefficients G_Double_coefficients (hr.mono (by decide)) b_Double_coefficients .nil pass0 (by rfl)) (pg_tup (by rfl) (pgs_cons (pg_name (i := 6) sc_l_rules_right.nd rfl (.inl rfl)) (pgs_cons (pg_name (i := 7) sc_l_rules_right.nd rfl (.inl rfl)) (pgs_cons (pg_name (i := 8) sc_l_rules_right.nd rfl (.inl rfl)) pgs_nil)))))
    (pss_cons (ps_if (pt_cmpR op_ne (pe_op op_add (pe_op op_sub (pe_op op_mulW (pe_op op_mulW (pv 6) (pv 3)) (pv 3)) (pe_op op_mulW (pe_op op_mulW (pv 7) (pv 2)) (pv 3))) (pe_op op_mulW (pe_op op_mulW (pv 8) (pv 2)) (pv 2))) (pe_op op_mulW (pv 6) (pv 6)) (nomark _))
      (pss_one (ps_ret pe_bl))
      pss_nil)
    (pss_one (ps_ret (pe_and (pe_cmpR op_eq (pe_op op_mulW (pv 6) (pv 4)) (pe_op op_sub (pe_op op_mulW (pv 7) (pv 3)) (pe_op op_mulW (pv 8) (pv 2))) (nomark _)) (pe_one (pe_cmpR op_eq (pe_op op_mulW (pv 6) (pv 5)) (pe_op op_sub (pe_op op_mulW (pv 7) (pv 4)) (pe_op op_mulW (pv 8) (pv 3))) (nomark _))))))))), ?_⟩
    obtain ⟨dx, tx, hx0, htx⟩ := id hx
    refine ⟨fun σ H' => σ = [some (.ref t), some (.ref x), some (.int a), some (.int b), some (.int c), some (.int d), none, none, none] ∧ H' = H, ⟨_, rfl, unI4 ht ⟨rfl, rfl⟩⟩, ?_⟩
    rintro σ H' ⟨rfl, rfl⟩
    refine ⟨fun σ H'' => σ = [some (.ref t), some (.ref x), some (.int a), some (.int b), some (.int c), some (.int d), some (.int (k0 a b c d)), some (.int (k1 a b c d)), some (.int (k2 a b c d))] ∧ H'' = H', ⟨_, rfl, x, dx, _, rfl, hx0, x, _, rfl, hx, fun t' ht' => unI3 ht' ⟨rfl, rfl⟩⟩, ?_⟩
    rintro σ H'' ⟨rfl, rfl⟩
    have j0 : B 4000 (k0 a b c d) := (B.sub (B.mul bb bb) (B.mul ba bc)).mono (by decide)
    have j1 : B 4000 (k1 a b c d) := (B.sub (B.mul bb bc) (B.mul ba bd)).mono (by decide)
    have j2 : B 4000 (k2 a b c d) := (B.sub (B.mul bc bc) (B.mul bb bd)).mono (by decide)
    refine ⟨_, rfl, _, rfl, _, _, rfl, rfl, mulB (by with_reducible assumption) (by with_reducible assumption) (by decide), _, rfl, _, _, rfl, rfl, mulB (B.mul (by with_reducible assumption) (by with_reducible assumption)) (by with_reducible assumption) (by decide), _, rfl, _, rfl, _, _, rfl, rfl, mulB (by with_reducible assumption) (by with_reducible assumption) (by decide), _, rfl, _, _, rfl, rfl, mulB (B.mul (by with_reducible assumption) (by with_reducible assumption)) (by with_reducible assumption) (by decide), _, _, rfl, rfl, _, rfl, _, rfl, _, _, rfl, rfl, mulB (by with_reducible assumption) (by with_reducible assumption) (by decide), _, rfl, _, _, rfl, rfl, mulB (B.mul (by with_reducible assumption) (by with_reducible assumption)) (by with_reducible assumption) (by decide), _, _, rfl, rfl, _, rfl, _, rfl, _, _, rfl, rfl, mulB (by with_reducible assumption) (by with_reducible assumption) (by decide), rfl, _, rfl, iteEn (fun h => absurd (rule1 a b c d) h) (fun _ => ?_)⟩
    refine ⟨_, rfl, _, rfl, _, _, rfl, rfl, mulB (by with_reducible assumption) (by with_reducible assumption) (by decide), _, rfl, _, rfl, _, _, rfl, rfl, mulB (by with_reducible assumption) (by with_reducible assumption) (by decide), _, rfl, _, rfl, _, _, rfl, rfl, mulB (by with_reducible assumption) (by with_reducible assumption) (by decide), _, _, rfl, rfl, rfl, ?_⟩
    rw [deI, decide_eq_true (rule2 a b c d)]
    refine ⟨_, rfl, iteT ?_⟩
    refine ⟨_, rfl, _, rfl, _, _, rfl, rfl, mulB (by with_reducible assumption) (by with_reducible assumption) (by decide), _, rfl, _, rfl, _, _, rfl, rfl, mulB (by with_reducible assumption) (by with_reducible assumption) (by decide), _, rfl, _, rfl, _, _, rfl, rfl, mulB (by with_reducible assumption) (by with_reducible assumption) (by decide), _, _, rfl, rfl, rfl, ?_⟩
    rw [deI, decide_eq_true (rule3 a b c d)]
    exact q
end
end TF
namespace TF
open PySem PySem.Spec PyProof.Rows L2 Fr
open K05M (fv fl2 fl3 fdisc)
open K06M
def sp_l_right (_ : PySem.W.Frag) (_ _ : Addr) : Sp := fun vs H Q _ => ∃ c : Addr, vs = [.ref c] ∧ Vat c H ∧ ∀ H', Fv c H H' → Q (.bl true) H'
theorem B.pl {n : Nat} {i j : Int} (h1 : B n i) (h2 : B n j) : B (n + 1) (i + j) := ⟨by
  have := h1.1
  have := h2.1
  rw [Nat.pow_succ]
  omega, by omega⟩
theorem hess9 (a b c d : Int) : [h0 a (3 * b) (3 * c) d, h1 a (3 * b) (3 * c) d, h2 a (3 * b) (3 * c) d] = [9 * k0 a b c d, 9 * k1 a b c d, 9 * k2 a b c d] := by
  unfold h0 h1 h2 k0 k1 k2
  simp only [List.cons.injEq, and_true]
  refine ⟨?_, ?_, ?_⟩ <;> grind
theorem disc27 (a b c d : Int) : fdisc a (3 * b) (3 * c) d = -27 * ddisc (k0 a b c d) (k1 a b c d) (k2 a b c d) := by
  unfold fdisc ddisc k0 k1 k2
  grind
theorem cov0 (a b c d p q r s : Int) : k0 (t0 a b c d p q) (t2 a b c d p q r s) (t3 a b c d p q r s) (t0 a b c d r s) = (p * s - q * r) * (p * s - q * r) * dv (k0 a b c d) (k1 a b c d) (k2 a b c d) p q := by
  unfold t0 t2 t3 k0 k1 k2 dv
  grind
theorem cov1 (a b c d p q r s : Int) : k1 (t0 a b c d p q) (t2 a b c d p q r s) (t3 a b c d p q r s) (t0 a b c d r s) = (p * s - q * r) * (p * s - q * r) * K06M.dl (k0 a b c d) (k1 a b c d) (k2 a b c d) p q r s := by
  unfold t0 t2 t3 k0 k1 k2 K06M.dl
  grind
theorem cov2 (a b c d p q r s : Int) : k2 (t0 a b c d p q) (t2 a b c d p q r s) (t3 a b c d p q r s) (t0 a b c d r s) = (p * s - q * r) * (p * s - q * r) * dv (k0 a b c d) (k1 a b c d) (k2 a b c d) r s := by
  unfold t0 t2 t3 k0 k1 k2 dv
  grind
theorem k_mul (e a b c d : Int) : k0 (e * a) (e * b) (e * c) (e * d) = e * e * k0 a b c d ∧ k1 (e * a) (e * b) (e * c) (e * d) = e * e * k1 a b c d ∧ k2 (e * a) (e * b) (e * c) (e * d) = e * e * k2 a b c d := by
  unfold k0 k1 k2
  refine ⟨?_, ?_, ?_⟩ <;> grind
theorem cov (a b c d p q r s : Int) (h : p * s - q * r = 1 ∨ p * s - q * r = -1) :
    [k0 ((p * s - q * r) * t0 a b c d p q) ((p * s - q * r) * t2 a b c d p q r s) ((p * s - q * r) * t3 a b c d p q r s) ((p * s - q * r) * t0 a b c d r s),
     k1 ((p * s - q * r) * t0 a b c d p q) ((p * s - q * r) * t2 a b c d p q r s) ((p * s - q * r) * t3 a b c d p q r s) ((p * s - q * r) * t0 a b c d r s),
     k2 ((p * s - q * r) * t0 a b c d p q) ((p * s - q * r) * t2 a b c d p q r s) ((p * s - q * r) * t3 a b c d p q r s) ((p * s - q * r) * t0 a b c d r s)]
    = [dv (k0 a b c d) (k1 a b c d) (k2 a b c d) p q, K06M.dl (k0 a b c d) (k1 a b c d) (k2 a b c d) p q r s, dv (k0 a b c d) (k1 a b c d) (k2 a b c d) r s] := by
  obtain ⟨z0, z1, z2⟩ := k_mul (p * s - q * r) (t0 a b c d p q) (t2 a b c d p q r s) (t3 a b c d p q r s) (t0 a b c d r s)
  rw [z0, z1, z2, cov0, cov1, cov2]
  rcases h with h | h <;> rw [h] <;> simp
theorem t_B {n : Nat} {a b c d p q r s : Int} (ba : B n a) (bb : B n b) (bc : B n c) (bd : B n d) (h : Sc p q r s) :
    (∀ k ∈ tled a b c d p q r s, B (n + 35) k) := by
  have b7 : ∀ {x : Int}, x.natAbs ≤ 81 → B 7 x := fun h => ⟨Nat.lt_of_le_of_lt h (by decide), by decide⟩
  have b2 : B 2 3 := ⟨by decide, by decide⟩
  have b22 : B 2 2 := ⟨by decide, by decide⟩
  obtain ⟨h1, h2, h3, h4, h5⟩ := h
  have bp := b7 h1
  have bq := b7 h2
  have br := b7 h3
  have bs := b7 h4
  have be : B 1 (p * s - q * r) := by rcases h5 with e | e <;> rw [e] <;> exact ⟨by decide, by decide⟩
  have m : ∀ {k : Nat} {x : Int}, B k x → k ≤ n + 32 → B (n + 32) x := fun h z => h.mono z
  have sum4 : ∀ {x y z w : Int}, B (n + 32) x → B (n + 32) y → B (n + 32) z → B (n + 32) w → B (n + 34) (x + y + z + w) := fun {x y z w} a b c d => by
    have e := B.pl (B.pl a b) (B.pl c d)
    rw [show x + y + z + w = x + y + (z + w) by omega]
    exact e
  have sm : ∀ {x y z w : Int}, B 7 x → B 7 y → B 7 z → B 7 w → B 17 (x * y + 2 * z * w) := fun a b c d => (B.pl ((B.mul a b).mono (by decide : 7 + 7 ≤ 16)) (B.mul (B.mul b22 c) d) : B 17 _)
  have sm' : ∀ {x y z w : Int}, B 7 x → B 7 y → B 7 z → B 7 w → B 17 (2 * x * y + z * w) := fun a b c d => (B.pl (B.mul (B.mul b22 a) b) ((B.mul c d).mono (by decide : 7 + 7 ≤ 16)) : B 17 _)
  have f0 : ∀ {x y : Int}, B 7 x → B 7 y → B (n + 34) (t0 a b c d x y) := fun bx by' => sum4 (m (B.mul (B.mul (B.mul ba bx) bx) bx) (by omega)) (m (B.mul (B.mul (B.mul (B.mul b2 bb) bx) bx) by') (by omega)) (m (B.mul (B.mul (B.mul (B.mul b2 bc) bx) by') by') (by omega)) (m (B.mul (B.mul (B.mul bd by') by') by') (by omega))
  have f2 : B (n + 34) (t2 a b c d p q r s) := sum4 (m (B.mul (B.mul (B.mul ba bp) bp) br) (by omega)) (m (B.mul (B.mul bb bp) (sm bp bs bq br)) (by omega)) (m (B.mul (B.mul bc bq) (sm' bp bs bq br)) (by omega)) (m (B.mul (B.mul (B.mul bd bq) bq) bs) (by omega))
  have f3 : B (n + 34) (t3 a b c d p q r s) := sum4 (m (B.mul (B.mul (B.mul ba bp) br) br) (by omega)) (m (B.mul (B.mul bb br) (sm' bp bs bq br)) (by omega)) (m (B.mul (B.mul bc bs) (sm bp bs bq br)) (by omega)) (m (B.mul (B.mul (B.mul bd bq) bs) bs) (by omega))
  have z : ∀ {x : Int}, B (n + 34) x → B (n + 35) ((p * s - q * r) * x) := fun h => by
    have := B.mul be h
    rw [Nat.add_comm] at this
    exact this
  intro k hk
  unfold tled at hk
  simp only [List.mem_cons, List.mem_nil_iff, or_false] at hk
  rcases hk with rfl | rfl | rfl | rfl
  · exact z (f0 bp bq)
  · exact z f2
  · exact z f3
  · exact z (f0 br bs)
theorem short_of {i : Int} (h : B 199 i) : Short i := by
  have h1 := h.1
  have h2 : (2 : Nat) ^ 199 < 1000000000000000000000000000000000000000000000000000000000000 := by decide
  exact ⟨by omega, by omega⟩
theorem tl_all {n : Nat} {a b c d p q r s : Int} (ba : B n a) (bb : B n b) (bc : B n c) (bd : B n d) (h : Sc p q r s) : ∃ x0 x1 x2 x3 : Int, tled a b c d p q r s = [x0, x1, x2, x3] ∧ fled a (3 * b) (3 * c) d p q r s = [x0, 3 * x1, 3 * x2, x3] ∧
    [k0 x0 x1 x2 x3, k1 x0 x1 x2 x3, k2 x0 x1 x2 x3] = [dv (k0 a b c d) (k1 a b c d) (k2 a b c d) p q, K06M.dl (k0 a b c d) (k1 a b c d) (k2 a b c d) p q r s, dv (k0 a b c d) (k1 a b c d) (k2 a b c d) r s] ∧ B (n + 35) x0 ∧ B (n + 35) x1 ∧ B (n + 35) x2 ∧ B (n + 35) x3 := by
  have z := t_B ba bb bc bd h
  unfold tled at z
  exact ⟨_, _, _, _, rfl, fled3 _ _ _ _ _ _ _ _, cov _ _ _ _ _ _ _ _ h.2.2.2.2, z _ (by simp), z _ (by simp), z _ (by simp), z _ (by simp)⟩
theorem Sc.ch {p q r s : Int} (h : Sc p q r s) : ChOk p q r s := by
  obtain ⟨h1, h2, h3, h4, h5⟩ := h
  exact ⟨⟨by omega, by omega⟩, ⟨by omega, by omega⟩, ⟨by omega, by omega⟩, ⟨by omega, by omega⟩, h5⟩
theorem Sc.b {p q r s : Int} (h : Sc p q r s) : B 200 p ∧ B 200 q ∧ B 200 r ∧ B 200 s := by
  obtain ⟨h1, h2, h3, h4, h5⟩ := h
  exact ⟨⟨Nat.lt_of_le_of_lt h1 (by decide), by decide⟩, ⟨Nat.lt_of_le_of_lt h2 (by decide), by decide⟩, ⟨Nat.lt_of_le_of_lt h3 (by decide), by decide⟩, ⟨Nat.lt_of_le_of_lt h4 (by decide), by decide⟩⟩
section
variable {P : Program} {w : World} {K : PySem.W.Frag} {mg : Str → Option Value} {base : Heap} {C_Form C_Double : Addr}
theorem ok_l_right (T : Txt K mg C_Form C_Double) : Def P w K mg base 10 "_law_right" ["_law_kettle_here"] (sp_l_right K C_Form C_Double) := by
  obtain ⟨f_, fd_, g_, F_⟩ := T.d_l_right
  obtain ⟨p_Double___eq__, f_Double___eq__, fd_Double___eq__, R_Double___eq__, b_Double___eq__, G_Double___eq__⟩ := (ok_Double___eq__ (P := P) (w := w) (base := base) T)
  obtain ⟨p_Double_coefficients, f_Double_coefficients, fd_Double_coefficients, R_Double_coefficients, b_Double_coefficients, G_Double_coefficients⟩ := (ok_Double_coefficients (P := P) (w := w) (base := base) T)
  obtain ⟨p_Double_discriminant, f_Double_discriminant, fd_Double_discriminant, R_Double_discriminant, b_Double_discriminant, G_Double_discriminant⟩ := (ok_Double_discriminant (P := P) (w := w) (base := base) T)
  obtain ⟨p_Double_led, f_Double_led, fd_Double_led, R_Double_led, b_Double_led, G_Double_led⟩ := (ok_Double_led (P := P) (w := w) (base := base) T)
  obtain ⟨p_Form___eq__, f_Form___eq__, fd_Form___eq__, R_Form___eq__, b_Form___eq__, G_Form___eq__⟩ := (ok_Form___eq__ (P := P) (w := w) (base := base) T)
  obtain ⟨p_Form_coefficients, f_Form_coefficients, fd_Form_coefficients, R_Form_coefficients, b_Form_coefficients, G_Form_coefficients⟩ := (ok_Form_coefficients (P := P) (w := w) (base := base) T)
  obtain ⟨p_Form_discriminant, f_Form_discriminant, fd_Form_discriminant, R_Form_discriminant, b_Form_discriminant, G_Form_discriminant⟩ := (ok_Form_discriminant (P := P) (w := w) (base := base) T)
  obtain ⟨p_Form_hessian, f_Form_hessian, fd_Form_hessian, R_Form_hessian, b_Form_hessian, G_Form_hessian⟩ := (ok_Form_hessian (P := P) (w := w) (base := base) T)
  obtain ⟨p_Form_led, f_Form_led, fd_Form_led, R_Form_led, b_Form_led, G_Form_led⟩ := (ok_Form_led (P := P) (w := w) (base := base) T)
  obtain ⟨f_l_change, fd_l_change, g_l_change, k_l_change, b_l_change, G_l_change⟩ := (ok_l_change (P := P) (w := w) (base := base) T)
  obtain ⟨f_l_led, fd_l_led, g_l_led, k_l_led, b_l_led, G_l_led⟩ := (ok_l_led (P := P) (w := w) (base := base) T)
  obtain ⟨f_l_rules_right, fd_l_rules_right, g_l_rules_right, k_l_rules_right, b_l_rules_right, G_l_rules_right⟩ := (ok_l_rules_right (P := P) (w := w) (base := base) T)
  obtain ⟨f_l_sip, fd_l_sip, g_l_sip, k_l_sip, b_l_sip, G_l_sip⟩ := (ok_l_sip (P := P) (w := w) (base := base) T)
  obtain ⟨f_l_small, fd_l_small, g_l_small, k_l_small, b_l_small, G_l_small⟩ := (ok_l_small (P := P) (w := w) (base := base) T)
  obtain ⟨f_l_taken, fd_l_taken, g_l_taken, k_l_taken, b_l_taken, G_l_taken⟩ := (ok_l_taken (P := P) (w := w) (base := base) T)
  obtain ⟨f_form_of_threefold, fd_form_of_threefold, g_form_of_threefold, k_form_of_threefold, b_form_of_threefold, G_form_of_threefold⟩ := (ok_form_of_threefold (P := P) (w := w) (base := base) T)
  obtain ⟨f_small_hessian, fd_small_hessian, g_small_hessian, k_small_hessian, b_small_hessian, G_small_hessian⟩ := (ok_small_hessian (P := P) (w := w) (base := base) T)
  obtain ⟨f_threefold_led, fd_threefold_led, g_threefold_led, k_threefold_led, b_threefold_led, G_threefold_led⟩ := (ok_threefold_led (P := P) (w := w) (base := base) T)
  obtain ⟨f_threefold_of_form, fd_threefold_of_form, g_threefold_of_form, k_threefold_of_form, b_threefold_of_form, G_threefold_of_form⟩ := (ok_threefold_of_form (P := P) (w := w) (base := base) T)
  refine ⟨f_, fd_, g_, F_.kp, F_.binds (ps := ["_law_kettle_here"]) (fun _ _ _ _ _ _ us hl => match us, hl with | [_], _ => rfl), ?_⟩
  refine F_.ok sc_l_right (fun vs H Q E h => ?_) (fun cdv A outer s H vs Q E hr h => ?_)
  · first | (obtain ⟨rfl, _⟩ := h; rfl) | (obtain ⟨_, rfl, _⟩ := h; rfl) | (obtain ⟨_, _, rfl, _⟩ := h; rfl) | (obtain ⟨_, _, _, rfl, _⟩ := h; rfl) | (obtain ⟨_, _, _, _, rfl, _⟩ := h; rfl) | (obtain ⟨_, _, _, _, _, rfl, _⟩ := h; rfl) | (obtain ⟨_, _, _, _, _, _, rfl, _⟩ := h; rfl) | (obtain ⟨_, _, _, _, _, _, _, rfl, _⟩ := h; rfl) | (obtain ⟨_, _, _, _, _, _, _, _, rfl, _⟩ := h; rfl) | (obtain ⟨_, _, _, _, _, _, _, _, _, rfl, _⟩ := h; rfl) | (obtain ⟨_, _, _, _, _, _, _, _, _, _, rfl, _⟩ := h; rfl) | (obtain ⟨_, _, _, _, _, _, _, _, _, _, _, rfl, _⟩ := h; rfl) | (obtain ⟨_, _, _, _, _, _, _, _, _, _, _, _, rfl, _⟩ := h; rfl) | (obtain ⟨_, _, _, _, _, _, _, _, _, _, _, _, _, rfl, _⟩ := h; rfl) | (obtain ⟨_, _, _, _, _, _, _, _, _, _, _, _, _, _, rfl, _⟩ := h; rfl) | (obtain ⟨_, _, _, _, _, _, _, _, _, _, _, _, _, _, _, rfl, _⟩ := h; rfl) | (obtain ⟨_, _, _, _, _, _, _, _, _, _, _, _, _, _, _, _, rfl, _⟩ := h; rfl) | (obtain ⟨_, _, _, _, _, _, _, _, _, _, _, _, _, _, _, _, _, rfl, _⟩ := h; rfl) | (obtain ⟨_, _, _, _, _, _, _, _, _, _, _, _, _, _, _, _, _, _, rfl, _⟩ := h; rfl) | (obtain ⟨_, _, _, _, _, _, _, _, _, _, _, _, _, _, _, _, _, _, _, rfl, _⟩ := h; rfl) | (obtain ⟨_, _, _, _, _, _, _, _, _, _, _, _, _, _, _, _, _, _, _, _, rfl, _⟩ := h; rfl) | (obtain ⟨_, _, _, _, _, _, _, _, _, _, _, _, _, _, _, _, _, _, _, _, _, rfl, _⟩ := h; rfl) | (obtain ⟨_, _, _, _, _, _, _, _, _, _, _, _, _, _, _, _, _, _, _, _, _, _, rfl, _⟩ := h; rfl) | (obtain ⟨_, _, _, _, _, _, _, _, _, _, _, _, _, _, _, _, _, _, _, _, _, _, _, rfl, _⟩ := h; rfl)
  · obtain ⟨c, rfl, hc, q⟩ := h
    refine ⟨_, (pss_cons (ps_set (i := 1) sc_l_right.nd rfl (.inr rfl) (pe_call G_l_taken (hr.mono (by decide)) (by rfl) g_l_taken k_l_taken b_l_taken .nil pass0 (pa_cons (pv 0) (pa_cons (pe_lst (pa_cons pe_int (pa_cons pe_int (pa_cons (pe_op op_pow pe_int pe_int) (pa_cons (pe_op op_pow pe_int pe_int) pa_nil))))) pa_nil))))
    (Evl.pss_cut (ps_set (i := 2) sc_l_right.nd rfl (.inl rfl) (pe_callTy call_tuple_of (by rfl) T.b_tuple (by decide +kernel) (pa_cons (pe_lc (own := [("_law_turn", 13)]) (g := (gName 13)) rfl sc_l_right.nd (pi_range1 (by rfl) T.b_range (pa_cons pe_int pa_nil)) (blkOk_by (N := N_l_right) (sc := defScope s_l_right) (by decide +kernel)) (fun _ _ _ _ _ => (pg_name (i := 13) sc_l_right.nd rfl (.inl rfl))) (fun _ _ _ _ _ => pts_nil) (fun _ _ _ _ _ => (pe_op op_sub (pe_call G_l_sip (hr.mono (by decide)) (by rfl) g_l_sip k_l_sip b_l_sip .nil pass0 (pa_cons (pv 0) (pa_cons (pe_op op_add (pe_op op_mulW pe_int (pv 1)) pe_int) pa_nil))) (pv 1)))) pa_nil)))
    (Evl.pss_cut (ps_par (i := 3) (j := 4) (by rfl) sc_l_right.nd rfl rfl (by decide) rfl rfl (pa_cons (pe_call G_small_hessian (hr.mono (by decide)) (by rfl) g_small_hessian k_small_hessian b_small_hessian .nil pass0 (pa_cons (pv 2) pa_nil)) (pa_cons (pe_call G_form_of_threefold (hr.mono (by decide)) (by rfl) g_form_of_threefold k_form_of_threefold b_form_of_threefold .nil pass0 (pa_cons (pv 2) pa_nil)) pa_nil)) (by rfl))
    (Evl.pss_cut (ps_asg (pv 2) (pg_tup (by rfl) (pgs_cons (pg_name (i := 5) sc_l_right.nd rfl (.inl rfl)) (pgs_cons (pg_name (i := 6) sc_l_right.nd rfl (.inl rfl)) (pgs_cons (pg_name (i := 7) sc_l_right.nd rfl (.inl rfl)) (pgs_cons (pg_name (i := 8) sc_l_right.nd rfl (.inl rfl)) pgs_nil))))))
    (Evl.pss_cut (ps_if (PW.pt (pw_or (pt_cmpR (op_neD hr.units) (pe_prop (pv 3) T.cl_Double R_Double_coefficients G_Double_coefficients (hr.mono (by decide)) b_Double_coefficients .nil pass0 (by rfl)) (pe_call G_l_small (hr.mono (by decide)) (by rfl) g_l_small k_l_small b_l_small .nil pass0 (pa_cons (pv 2) pa_nil)) (nomark _)) (pw_or1 (pt_cmpR (op_neD hr.units) (pe_prop (pv 4) T.cl_Form R_Form_coefficients G_Form_coefficients (hr.mono (by decide)) b_Form_coefficients .nil pass0 (by rfl)) (pe_tup (pa_cons (pv 5) (pa_cons (pe_op op_mulW pe_int (pv 6)) (pa_cons (pe_op op_mulW pe_int (pv 7)) (pa_cons (pv 8) pa_nil))))) (nomark _)))))
      (pss_one (ps_ret pe_bl))
      pss_nil)
    (Evl.pss_cut (ps_if (PW.pt (pw_or (pt_cmpR (op_neD hr.units) (pe_call G_threefold_of_form (hr.mono (by decide)) (by rfl) g_threefold_of_form k_threefold_of_form b_threefold_of_form .nil pass0 (pa_cons (pv 4) pa_nil)) (pv 2) (nomark _)) (pw_or1 (pt_not (pt_val (pe_call G_l_rules_right (hr.mono (by decide)) (by rfl) g_l_rules_right k_l_rules_right b_l_rules_right .nil pass0 (pa_cons (pv 2) (pa_cons (pv 3) pa_nil))))))))
      (pss_one (ps_ret pe_bl))
      pss_nil)
    (Evl.pss_cut (ps_if (pt_cmpR (op_neD hr.units) (pe_prop (pe_prop (pv 4) T.cl_Form R_Form_hessian G_Form_hessian (hr.mono (by decide)) b_Form_hessian .nil pass0 (by rfl)) T.cl_Double R_Double_coefficients G_Double_coefficients (hr.mono (by decide)) b_Double_coefficients .nil pass0 (by rfl)) (pe_callTy call_tuple_of (by rfl) T.b_tuple (by decide +kernel) (pa_cons (pe_lc (own := [("_law_entry", 14)]) (g := (gName 14)) rfl sc_l_right.nd (pi_tup (pe_prop (pv 3) T.cl_Double R_Double_coefficients G_Double_coefficients (hr.mono (by decide)) b_Double_coefficients .nil pass0 (by rfl))) (blkOk_by (N := N_l_right) (sc := defScope s_l_right) (by decide +kernel)) (fun _ _ _ _ _ => (pg_name (i := 14) sc_l_right.nd rfl (.inl rfl))) (fun _ _ _ _ _ => pts_nil) (fun _ _ _ _ _ => (pe_op op_mulW pe_int (pv 14)))) pa_nil)) (nomark _))
      (pss_one (ps_ret pe_bl))
      pss_nil)
    (Evl.pss_cut (ps_if (pt_cmpR op_ne (pe_prop (pv 4) T.cl_Form R_Form_discriminant G_Form_discriminant (hr.mono (by decide)) b_Form_discriminant .nil pass0 (by rfl)) (pe_op op_mulW (pe_un un_neg pe_int) (pe_prop (pv 3) T.cl_Double R_Double_discriminant G_Double_discriminant (hr.mono (by decide)) b_Double_discriminant .nil pass0 (by rfl))) (nomark _))
      (pss_one (ps_ret pe_bl))
      pss_nil)
    (Evl.pss_cut (ps_par (i := 9) (j := 10) (by rfl) sc_l_right.nd rfl rfl (by decide) rfl rfl (pa_cons (pe_call G_l_change (hr.mono (by decide)) (by rfl) g_l_change k_l_change b_l_change .nil pass0 (pa_cons (pv 0) pa_nil)) (pa_cons (pe_call G_l_change (hr.mono (by decide)) (by rfl) g_l_change k_l_change b_l_change .nil pass0 (pa_cons (pv 0) pa_nil)) pa_nil)) (by rfl))
    (Evl.pss_cut (ps_set (i := 11) sc_l_right.nd rfl (.inl rfl) (pe_call G_threefold_led (hr.mono (by decide)) (by rfl) g_threefold_led k_threefold_led b_threefold_led .nil pass0 (pa_cons (pv 2) (pa_cons (pv 9) pa_nil))))
    (Evl.pss_cut (ps_if (PW.pt (pw_or (pt_cmpR (op_neD hr.units) (pe_call G_l_led (hr.mono (by decide)) (by rfl) g_l_led k_l_led b_l_led .nil pass0 (pa_cons (pe_prop (pv 4) T.cl_Form R_Form_coefficients G_Form_coefficients (hr.mono (by decide)) b_Form_coefficients .nil pass0 (by rfl)) (pa_cons (pv 9) pa_nil))) (pe_prop (pe_call G_form_of_threefold (hr.mono (by decide)) (by rfl) g_form_of_threefold k_form_of_threefold b_form_of_threefold .nil pass0 (pa_cons (pv 11) pa_nil)) T.cl_Form R_Form_coefficients G_Form_coefficients (hr.mono (by decide)) b_Form_coefficients .nil pass0 (by rfl)) (nomark _)) (pw_or1 (pt_cmpR (op_neI R_Form___eq__ G_Form___eq__ b_Form___eq__ (hr.mono (by decide)) pass0) (pe_meth (pv 4) T.cl_Form R_Form_led G_Form_led (hr.mono (by decide)) b_Form_led .nil pass0 (pa_cons (pv 9) pa_nil)) (pe_call G_form_of_threefold (hr.mono (by decide)) (by rfl) g_form_of_threefold k_form_of_threefold b_form_of_threefold .nil pass0 (pa_cons (pv 11) pa_nil)) (nomark _)))))
      (pss_one (ps_ret pe_bl))
      pss_nil)
    (Evl.pss_cut (ps_if (pt_cmpR (op_neI R_Double___eq__ G_Double___eq__ b_Double___eq__ (hr.mono (by decide)) pass0) (pe_call G_small_hessian (hr.mono (by decide)) (by rfl) g_small_hessian k_small_hessian b_small_hessian .nil pass0 (pa_cons (pv 11) pa_nil)) (pe_meth (pv 3) T.cl_Double R_Double_led G_Double_led (hr.mono (by decide)) b_Double_led .nil pass0 (pa_cons (pv 9) pa_nil)) (nomark _))
      (pss_one (ps_ret pe_bl))
      pss_nil)
    (Evl.pss_cut (ps_set (i := 12) sc_l_right.nd rfl (.inl rfl) (pe_call G_threefold_led (hr.mono (by decide)) (by rfl) g_threefold_led k_threefold_led b_threefold_led .nil pass0 (pa_cons (pv 11) (pa_cons (pv 10) pa_nil))))
    (pss_one (ps_ret (pe_and (pe_cmpR (op_eqI R_Form___eq__ G_Form___eq__ b_Form___eq__ (hr.mono (by decide)) pass0) (pe_call G_form_of_threefold (hr.mono (by decide)) (by rfl) g_form_of_threefold k_form_of_threefold b_form_of_threefold .nil pass0 (pa_cons (pv 12) pa_nil)) (pe_meth (pe_meth (pv 4) T.cl_Form R_Form_led G_Form_led (hr.mono (by decide)) b_Form_led .nil pass0 (pa_cons (pv 9) pa_nil)) T.cl_Form R_Form_led G_Form_led (hr.mono (by decide)) b_Form_led .nil pass0 (pa_cons (pv 10) pa_nil)) (nomark _)) (pe_one (pe_cmpR (op_eqD hr.units) (pe_call G_threefold_led (hr.mono (by decide)) (by rfl) g_threefold_led k_threefold_led b_threefold_led .nil pass0 (pa_cons (pv 2) (pa_cons (pe_tup (pa_cons (pe_tup (pa_cons (pe_un un_neg pe_int) (pa_cons pe_int pa_nil))) (pa_cons (pe_tup (pa_cons pe_int (pa_cons (pe_un un_neg pe_int) pa_nil))) pa_nil))) pa_nil))) (pe_tup (pa_cons (pe_op op_sub pe_int (pv 5)) (pa_cons (pe_op op_sub pe_int (pv 6)) (pa_cons (pe_op op_sub pe_int (pv 7)) (pa_cons (pe_op op_sub pe_int (pv 8)) pa_nil))))) (nomark _))))))))))))))))))), ?_⟩
    refine ⟨_, rfl, _, _, rfl, rfl, ⟨by decide, by decide, by decide⟩, _, _, rfl, rfl, ⟨by decide, by decide, by decide⟩, slN (by decide), fun l nl => ?_⟩
    refine ⟨c, l, [.int 2, .int 9, .int 1000000, .int 1000000000000000000], rfl, vat_new hc nl, upd_same, fv_ne hc nl, by simp, by decide, fun v H1 hv e1 => ?_⟩
    obtain ⟨most, rfl, m0, m1⟩ := in_b (lo := 2) (hi := 1000000000000000000) hv (by decide)
    have f1 : Fv c H H1 := (fv_new hc nl).trans e1
    refine ⟨fun σ H' => ∃ (t : Addr) (a b e d : Int), σ = [some (.ref c), some (.int most), some (.ref t), none, none, none, none, none, none, none, none, none, none, none, none] ∧ Fv c H H' ∧ Ti H' t [a, b, e, d] ∧ (∀ n ∈ [a, b, e, d], n.natAbs ≤ 1000000000000000000), ?_, ?_⟩
    · refine ⟨_, rfl, by decide, by decide, ?_⟩
      refine lcR (fmV c) f1.1 (fun i acc _ => ∃ ns : List Int, acc = ns.map V.int ∧ ns.length = i ∧ ∀ n ∈ ns, n.natAbs ≤ 1000000000000000000) (fun _ _ => ⟨[], rfl, rfl, fun _ h => by cases h⟩) (fun D i acc H3 hD hi e3 hA hlen hp => ?_) (fun D H3 acc hD e3 hA hp => ?_)
      · obtain ⟨ns, rfl, hln, hns⟩ := hp
        have hi' : i < 4 := by simpa using hi
        refine ⟨rfl, ?_⟩
        refine ⟨_, rfl, _, rfl, _, _, rfl, rfl, mulB (a := 64) (b := 64) ⟨by decide, by decide⟩ ⟨Nat.lt_of_le_of_lt (show most.natAbs ≤ 1000000000000000000 by omega) (by decide), by decide⟩ (by decide), _, _, rfl, rfl, c, _, rfl, e3.1, by omega, by omega, fun v H4 v0 v1 e4 => ?_⟩
        refine ⟨_, rfl, _, _, rfl, rfl, ?_⟩
        refine cs_yes (fmV c) f1.1 hD e3 hA hlen (by omega) e4 ⟨ns ++ [v - most], by rw [List.map_append]; rfl, by rw [List.length_append, hln]; rfl, fun n hn => ?_⟩
        rcases List.mem_append.mp hn with h | h
        · exact hns n h
        · have : n = v - most := by simpa using h
          omega
      · obtain ⟨ns, rfl, hln, hns⟩ := hp
        refine ⟨D, _, rfl, .inl ⟨SqL.of hA, fun p np => ?_⟩⟩
        obtain ⟨a, b, e, d, rfl⟩ : ∃ a b e d, ns = [a, b, e, d] := by
          have hln' : ns.length = 4 := by simpa using hln
          match ns, hln' with
          | [x, y, z, w], _ => exact ⟨x, y, z, w, rfl⟩
        exact ⟨p, a, b, e, d, rfl, (f1.trans e3).trans (fv_new e3.1 np), upd_same, hns⟩
    rintro σ H2 ⟨t, a, b, e, d, rfl, f2, ht, hn⟩
    have b60 : ∀ n ∈ [a, b, e, d], B 60 n := fun n h => ⟨Nat.lt_of_le_of_lt (hn n h) (by decide), by decide⟩
    have ba := b60 a (by simp)
    have bb := b60 b (by simp)
    have bc := b60 e (by simp)
    have bd := b60 d (by simp)
    have sh : ∀ n ∈ [a, b, e, d], Short n := fun n h => short_of ((b60 n h).mono (by decide))
    refine ⟨fun σ H' => ∃ D F : Addr, σ = [some (.ref c), some (.int most), some (.ref t), some (.ref D), some (.ref F), none, none, none, none, none, none, none, none, none, none] ∧ Ex0 H2 H' ∧ FormAt C_Double H' D [k0 a b e d, k1 a b e d, k2 a b e d] ∧ FormAt C_Form H' F [a, 3 * b, 3 * e, d], ?_, ?_⟩
    · refine ⟨_, rfl, t, a, b, e, d, rfl, ht, sh, fun D H3 e3 hD => ?_⟩
      refine ⟨_, rfl, t, a, b, e, d, rfl, Ex0.ti e3 ht, sh, fun F H4 e4 hF => ?_⟩
      exact ⟨_, _, rfl, D, F, rfl, e3.trans e4, Ex0.fo e4 hD, hF⟩
    rintro σ H3 ⟨D, F, rfl, e3, hD, hF⟩
    have ht3 := Ex0.ti e3 ht
    refine ⟨fun σ H' => σ = [some (.ref c), some (.int most), some (.ref t), some (.ref D), some (.ref F), some (.int a), some (.int b), some (.int e), some (.int d), none, none, none, none, none, none] ∧ H' = H3, ⟨_, rfl, unI4 ht3 ⟨rfl, rfl⟩⟩, ?_⟩
    rintro σ H3 ⟨rfl, rfl⟩
    have A1 : B 1000 a := ba.mono (by decide)
    have A2 : B 1000 b := bb.mono (by decide)
    have A3 : B 1000 e := bc.mono (by decide)
    have A4 : B 1000 d := bd.mono (by decide)
    have b3 : B 64 3 := ⟨by decide, by decide⟩
    have D1 : B 1000 (k0 a b e d) := (B.sub (B.mul bb bb) (B.mul ba bc)).mono (by decide)
    have D2 : B 1000 (k1 a b e d) := (B.sub (B.mul bb bc) (B.mul ba bd)).mono (by decide)
    have D3 : B 1000 (k2 a b e d) := (B.sub (B.mul bc bc) (B.mul bb bd)).mono (by decide)
    have F2 : B 1000 (3 * b) := (B.mul b3 bb).mono (by decide)
    have F3 : B 1000 (3 * e) := (B.mul b3 bc).mono (by decide)
    obtain ⟨dD, tD, hD0, _⟩ := id hD
    obtain ⟨dF, tF, hF0, _⟩ := id hF
    refine ⟨fun σ H' => σ = [some (.ref c), some (.int most), some (.ref t), some (.ref D), some (.ref F), some (.int a), some (.int b), some (.int e), some (.int d), none, none, none, none, none, none] ∧ Ex0 H3 H', ?_, ?_⟩
    · refine ⟨_, rfl, D, dD, _, rfl, hD0, D, _, rfl, hD, fun t1 ht1 => ?_⟩
      refine ⟨_, rfl, t, a, b, e, d, rfl, ht3, A1, A2, A3, A4, fun t2 H4 e4 ht2 => ?_⟩
      refine ⟨.tuple (([k0 a b e d, k1 a b e d, k2 a b e d] : List Int).map .int), .tuple (([k0 a b e d, k1 a b e d, k2 a b e d] : List Int).map .int), .tup (SqT.of (Ex0.ti e4 ht1)) (dp_ints _), .tup (SqT.of ht2) (dp_ints _), shaped_tints _, shaped_tints _, _, rfl, ?_⟩
      rw [PyData.eqv, eqv_ints, decide_eq_true rfl]
      refine iteF ?_
      refine ⟨_, rfl, F, dF, _, rfl, Ex0.ap e4 hF0, F, _, rfl, Ex0.fo e4 hF, fun t3 ht3' => ?_⟩
      refine ⟨_, rfl, _, rfl, _, _, rfl, rfl, mulB b3 bb (by decide), _, rfl, _, _, rfl, rfl, mulB b3 bc (by decide), _, rfl, sl4, fun o no => ?_⟩
      refine ⟨.tuple (([a, 3 * b, 3 * e, d] : List Int).map .int), .tuple (([a, 3 * b, 3 * e, d] : List Int).map .int), .tup (SqT.of (Ex0.ti (Ex0.new no) ht3')) (dp_ints _), .tup (SqT.of upd_same) (dp_ints [a, 3 * b, 3 * e, d]), shaped_tints _, shaped_tints _, _, rfl, ?_⟩
      rw [PyData.eqv, eqv_ints, decide_eq_true rfl]
      exact iteF ⟨rfl, e4.trans (Ex0.new no)⟩
    rintro σ H4 ⟨rfl, e4⟩
    refine ⟨fun σ H' => σ = [some (.ref c), some (.int most), some (.ref t), some (.ref D), some (.ref F), some (.int a), some (.int b), some (.int e), some (.int d), none, none, none, none, none, none] ∧ Ex0 H3 H', ?_, ?_⟩
    · refine ⟨_, rfl, F, a, b, e, d, rfl, Ex0.fo e4 hF, fun o H5 e5 ho => ?_⟩
      have e45 := e4.trans e5
      refine ⟨_, rfl, .tuple (([a, b, e, d] : List Int).map .int), .tuple (([a, b, e, d] : List Int).map .int), .tup (SqT.of ho) (dp_ints _), .tup (SqT.of (Ex0.ti e45 ht3)) (dp_ints _), shaped_tints _, shaped_tints _, _, rfl, ?_⟩
      rw [PyData.eqv, eqv_ints, decide_eq_true rfl]
      refine iteF ?_
      refine ⟨_, rfl, _, rfl, t, D, a, b, e, d, rfl, Ex0.ti e45 ht3, Ex0.fo e45 hD, A1, A2, A3, A4, _, rfl, ?_⟩
      exact iteF ⟨rfl, e45⟩
    rintro σ H5 ⟨rfl, e5⟩
    refine ⟨fun σ H' => σ = [some (.ref c), some (.int most), some (.ref t), some (.ref D), some (.ref F), some (.int a), some (.int b), some (.int e), some (.int d), none, none, none, none, none, none] ∧ Ex0 H3 H', ?_, ?_⟩
    · refine ⟨_, rfl, F, dF, _, rfl, Ex0.ap e5 hF0, F, a, 3 * b, 3 * e, d, rfl, Ex0.fo e5 hF, A1, F2, F3, A4, fun G H6 e6 hG => ?_⟩
      rw [hess9] at hG
      obtain ⟨dG, tG, hG0, _⟩ := id hG
      refine ⟨G, dG, _, rfl, hG0, G, _, rfl, hG, fun t1 ht1 => ?_⟩
      have e56 := e5.trans e6
      refine ⟨_, rfl, D, dD, _, rfl, Ex0.ap e56 hD0, D, _, rfl, Ex0.fo e56 hD, fun t2 ht2 => ⟨t2, rfl, ⟨_, SqT.of ht2⟩, ?_⟩⟩
      refine lcT fm0 trivial (SqT.of ht2) (fun z => z) (fun i acc _ => acc = (([9 * k0 a b e d, 9 * k1 a b e d, 9 * k2 a b e d] : List Int).take i).map V.int) (fun _ _ => rfl) (fun D' i k acc H' hD' hk e7 hA hlen hp => ?_) (fun D' H' acc hD' e7 hA hp => ?_)
      · obtain ⟨m, hm, rfl⟩ := get_int hk
        have hi : i < 3 := (List.getElem?_eq_some_iff.mp hm).1
        have bm : B 1000 m := by
          match i, hm with
          | 0, hm => rw [← Option.some.inj hm]; exact D1
          | 1, hm => rw [← Option.some.inj hm]; exact D2
          | 2, hm => rw [← Option.some.inj hm]; exact D3
        refine ⟨rfl, ?_⟩
        refine ⟨_, rfl, _, _, rfl, rfl, mulB (a := 64) ⟨by decide, by decide⟩ bm (by decide), ?_⟩
        refine cs_yes fm0 trivial hD' e7 hA hlen (by omega) (Fx.refl trivial) ?_
        show acc ++ [V.int (9 * m)] = _
        rw [hp]
        match i, hm with
        | 0, hm => rw [← Option.some.inj hm]; rfl
        | 1, hm => rw [← Option.some.inj hm]; rfl
        | 2, hm => rw [← Option.some.inj hm]; rfl
      · refine ⟨D', _, rfl, .inl ⟨SqL.of hA, fun o no => ?_⟩⟩
        have hp' : acc = ([9 * k0 a b e d, 9 * k1 a b e d, 9 * k2 a b e d] : List Int).map V.int := hp
        subst hp'
        have e8 := e7.trans (Ex0.new (o := .tup (([9 * k0 a b e d, 9 * k1 a b e d, 9 * k2 a b e d] : List Int).map V.int)) no)
        refine ⟨.tuple (([9 * k0 a b e d, 9 * k1 a b e d, 9 * k2 a b e d] : List Int).map .int), .tuple (([9 * k0 a b e d, 9 * k1 a b e d, 9 * k2 a b e d] : List Int).map .int), .tup (SqT.of (Ex0.ti e8 ht1)) (dp_ints _), .tup (SqT.of upd_same) (dp_ints [9 * k0 a b e d, 9 * k1 a b e d, 9 * k2 a b e d]), shaped_tints _, shaped_tints _, _, rfl, ?_⟩
        rw [PyData.eqv, eqv_ints, decide_eq_true rfl]
        exact iteF ⟨rfl, e56.trans e8⟩
    rintro σ H6 ⟨rfl, e6⟩
    refine ⟨fun σ H' => σ = [some (.ref c), some (.int most), some (.ref t), some (.ref D), some (.ref F), some (.int a), some (.int b), some (.int e), some (.int d), none, none, none, none, none, none] ∧ Ex0 H3 H', ?_, ?_⟩
    · refine ⟨_, rfl, F, dF, _, rfl, Ex0.ap e6 hF0, F, a, 3 * b, 3 * e, d, rfl, Ex0.fo e6 hF, A1, F2, F3, A4, ?_⟩
      have bdd : B 5000 (ddisc (k0 a b e d) (k1 a b e d) (k2 a b e d)) := (B.sub (B.mul D2 D2) (B.mul (B.mul (B.lit (i := 4) (by decide)) D1) D3)).mono (by decide)
      refine ⟨_, rfl, _, rfl, D, dD, _, rfl, Ex0.ap e6 hD0, D, _, _, _, rfl, Ex0.fo e6 hD, D1, D2, D3, _, _, rfl, rfl, mulB (a := 64) ⟨by decide, by decide⟩ bdd (by decide), rfl, _, rfl, ?_⟩
      exact iteEn (fun h => absurd (disc27 a b e d) h) (fun _ => ⟨rfl, e6⟩)
    rintro σ H7 ⟨rfl, e7⟩
    have g2 := f2.trans (fv_ex f2.1 (e3.trans e7))
    refine ⟨fun σ H' => ∃ (U W : Addr) (p q' r s' i j k m : Int), σ = [some (.ref c), some (.int most), some (.ref t), some (.ref D), some (.ref F), some (.int a), some (.int b), some (.int e), some (.int d), some (.ref U), some (.ref W), none, none, none, none] ∧ Fv c H7 H' ∧ T4 H' U p q' r s' ∧ T4 H' W i j k m ∧ Sc p q' r s' ∧ Sc i j k m, ?_, ?_⟩
    · refine ⟨_, rfl, c, rfl, g2.1, fun U p q' r s' H8 e8 hU sU => ?_⟩
      refine ⟨_, rfl, c, rfl, e8.1, fun W i j k m H9 e9 hW sW => ?_⟩
      exact ⟨_, _, rfl, U, W, p, q', r, s', i, j, k, m, rfl, e8.trans e9, hU.ex fun b xs z => fv_tup e8.1 e9 z, hW, sU, sW⟩
    rintro σ H8 ⟨U, W, p, q', r, s', i, j, k, m, rfl, f8, hU, hW, sU, sW⟩
    have e37 := e7
    have ht8 : Ti H8 t [a, b, e, d] := fv_tup g2.1 f8 (Ex0.ti e7 ht3)
    have fof : ∀ {C : Addr} {x : Addr} {ns : List Int}, FormAt C H7 x ns → FormAt C H8 x ns := fun ⟨dx, t, h1, h2⟩ => ⟨dx, t, f8.2 _ _ (fun e => by
      obtain ⟨u, v, z, q⟩ := g2.1
      unfold Sv at e
      rw [e, q] at h1
      cases h1) h1, fv_tup g2.1 f8 h2⟩
    have hD8 := fof (Ex0.fo e7 hD)
    have hF8 := fof (Ex0.fo e7 hF)
    obtain ⟨dD', tD', hD80, _⟩ := id hD8
    obtain ⟨dF', tF', hF80, _⟩ := id hF8
    obtain ⟨x0, x1, x2, x3, hx, hxf, hxk, c0, c1, c2, c3⟩ := tl_all ba bb bc bd sU
    have shx : ∀ n ∈ [x0, x1, x2, x3], Short n := fun n h => by
      simp only [List.mem_cons, List.mem_nil_iff, or_false] at h
      rcases h with rfl | rfl | rfl | rfl
      · exact short_of (c0.mono (by decide))
      · exact short_of (c1.mono (by decide))
      · exact short_of (c2.mono (by decide))
      · exact short_of (c3.mono (by decide))
    obtain ⟨bp, bq, br, bs⟩ := sU.b
    refine ⟨fun σ H' => ∃ X : Addr, σ = [some (.ref c), some (.int most), some (.ref t), some (.ref D), some (.ref F), some (.int a), some (.int b), some (.int e), some (.int d), some (.ref U), some (.ref W), some (.ref X), none, none, none] ∧ Ex0 H8 H' ∧ Ti H' X [x0, x1, x2, x3], ?_, ?_⟩
    · refine ⟨_, rfl, _, rfl, t, U, a, b, e, d, p, q', r, s', rfl, ht8, hU, sh, sU.ch, fun X H9 e9 hX => ?_⟩
      rw [hx] at hX
      exact ⟨X, rfl, e9, hX⟩
    rintro σ H9 ⟨X, rfl, e9, hX⟩
    have X0 : B 1000 x0 := c0.mono (by decide)
    have X1 : B 1000 (3 * x1) := (B.mul b3 c1).mono (by decide)
    have X2 : B 1000 (3 * x2) := (B.mul b3 c2).mono (by decide)
    have X3 : B 1000 x3 := c3.mono (by decide)
    refine ⟨fun σ H' => σ = [some (.ref c), some (.int most), some (.ref t), some (.ref D), some (.ref F), some (.int a), some (.int b), some (.int e), some (.int d), some (.ref U), some (.ref W), some (.ref X), none, none, none] ∧ Ex0 H9 H', ?_, ?_⟩
    · refine ⟨_, rfl, F, dF', _, rfl, Ex0.ap e9 hF80, F, _, rfl, Ex0.fo e9 hF8, fun t1 ht1 => ⟨_, rfl, ?_⟩⟩
      refine ⟨t1, U, a, 3 * b, 3 * e, d, p, q', r, s', rfl, ht1, Ex0.t4 e9 hU, A1, F2, F3, A4, bp, bq, br, bs, fun t2 Ha ea ht2 => ?_⟩
      rw [hxf] at ht2
      refine ⟨_, rfl, X, x0, x1, x2, x3, rfl, Ex0.ti ea hX, shx, fun G Hb eb hG => ?_⟩
      obtain ⟨dG, tG, hG0, _⟩ := id hG
      refine ⟨G, dG, _, rfl, hG0, G, _, rfl, hG, fun t3 ht3' => ?_⟩
      refine ⟨.tuple (([x0, 3 * x1, 3 * x2, x3] : List Int).map .int), .tuple (([x0, 3 * x1, 3 * x2, x3] : List Int).map .int), .tup (SqT.of (Ex0.ti eb ht2)) (dp_ints _), .tup (SqT.of ht3') (dp_ints _), shaped_tints _, shaped_tints _, _, rfl, ?_⟩
      rw [PyData.eqv, eqv_ints, decide_eq_true rfl]
      refine iteF ?_
      have e9b := e9.trans (ea.trans eb)
      refine ⟨_, rfl, F, dF', _, rfl, Ex0.ap e9b hF80, rfl, _, rfl, F, U, a, 3 * b, 3 * e, d, p, q', r, s', rfl, Ex0.fo e9b hF8, Ex0.t4 e9b hU, A1, F2, F3, A4, sU.ch, fun G1 Hc ec hG1 => ?_⟩
      rw [hxf] at hG1
      have e9c := (ea.trans eb).trans ec
      refine ⟨_, rfl, X, x0, x1, x2, x3, rfl, Ex0.ti e9c hX, shx, fun G2 Hd ed hG2 => ?_⟩
      have hG1' := Ex0.fo ed hG1
      obtain ⟨d1, r1, g1, _⟩ := id hG1'
      obtain ⟨d2, r2, g2', _⟩ := id hG2
      refine ⟨G1, d1, _, _, rfl, g1, ty_ins T.ty_Form T.cl_Form g2', first_self, G1, G2, _, _, rfl, hG1', hG2, _, rfl, _, rfl, ?_⟩
      rw [decide_eq_true rfl]
      exact iteF ⟨rfl, e9c.trans ed⟩
    rintro σ Ha ⟨rfl, ea⟩
    refine ⟨fun σ H' => σ = [some (.ref c), some (.int most), some (.ref t), some (.ref D), some (.ref F), some (.int a), some (.int b), some (.int e), some (.int d), some (.ref U), some (.ref W), some (.ref X), none, none, none] ∧ Ex0 H9 H', ?_, ?_⟩
    · refine ⟨_, rfl, X, x0, x1, x2, x3, rfl, Ex0.ti ea hX, shx, fun G1 Hb eb hG1 => ?_⟩
      rw [hxk] at hG1
      have e8b := (e9.trans ea).trans eb
      refine ⟨_, rfl, D, dD', _, rfl, Ex0.ap e8b hD80, rfl, _, rfl, D, U, _, _, _, p, q', r, s', rfl, Ex0.fo e8b hD8, Ex0.t4 e8b hU, D1, D2, D3, sU.ch, fun G2 Hc ec hG2 => ?_⟩
      have hG1' := Ex0.fo ec hG1
      obtain ⟨d1, r1, g1, _⟩ := id hG1'
      obtain ⟨d2, r2, g2', _⟩ := id hG2
      refine ⟨G1, d1, _, _, rfl, g1, ty_ins T.ty_Double T.cl_Double g2', first_self, G1, G2, _, _, rfl, hG1', hG2, _, rfl, _, rfl, ?_⟩
      rw [decide_eq_true rfl]
      exact iteF ⟨rfl, (ea.trans eb).trans ec⟩
    rintro σ Hb ⟨rfl, eb⟩
    obtain ⟨y0, y1, y2, y3, hy, hyf, _, c0', c1', c2', c3'⟩ := tl_all c0 c1 c2 c3 sW
    have shy : ∀ n ∈ [y0, y1, y2, y3], Short n := fun n h => by
      simp only [List.mem_cons, List.mem_nil_iff, or_false] at h
      rcases h with rfl | rfl | rfl | rfl
      · exact short_of (c0'.mono (by decide))
      · exact short_of (c1'.mono (by decide))
      · exact short_of (c2'.mono (by decide))
      · exact short_of (c3'.mono (by decide))
    have e8b := e9.trans eb
    refine ⟨fun σ H' => ∃ Y : Addr, σ = [some (.ref c), some (.int most), some (.ref t), some (.ref D), some (.ref F), some (.int a), some (.int b), some (.int e), some (.int d), some (.ref U), some (.ref W), some (.ref X), some (.ref Y), none, none] ∧ Ex0 Hb H' ∧ Ti H' Y [y0, y1, y2, y3], ?_, ?_⟩
    · refine ⟨_, rfl, _, rfl, X, W, x0, x1, x2, x3, i, j, k, m, rfl, Ex0.ti eb hX, Ex0.t4 e8b hW, shx, sW.ch, fun Y Hc ec hY => ?_⟩
      rw [hy] at hY
      exact ⟨Y, rfl, ec, hY⟩
    rintro σ Hc ⟨Y, rfl, ec, hY⟩
    have e8c := e8b.trans ec
    refine ⟨_, rfl, Y, y0, y1, y2, y3, rfl, hY, shy, fun G1 Hd ed hG1 => ?_⟩
    have e8d := e8c.trans ed
    refine ⟨_, rfl, F, dF', _, rfl, Ex0.ap e8d hF80, rfl, _, rfl, F, U, a, 3 * b, 3 * e, d, p, q', r, s', rfl, Ex0.fo e8d hF8, Ex0.t4 e8d hU, A1, F2, F3, A4, sU.ch, fun G2 He ee hG2 => ?_⟩
    rw [hxf] at hG2
    obtain ⟨d2, r2, g2', _⟩ := id hG2
    have e8e := e8d.trans ee
    refine ⟨G2, d2, _, rfl, g2', rfl, _, rfl, G2, W, x0, 3 * x1, 3 * x2, x3, i, j, k, m, rfl, hG2, Ex0.t4 e8e hW, X0, X1, X2, X3, sW.ch, fun G3 Hf ef hG3 => ?_⟩
    rw [hyf] at hG3
    have hG1' := Ex0.fo (ee.trans ef) hG1
    obtain ⟨d1, r1, g1, _⟩ := id hG1'
    obtain ⟨d3, r3, g3', _⟩ := id hG3
    refine ⟨G1, d1, _, _, rfl, g1, ty_ins T.ty_Form T.cl_Form g3', first_self, G1, G3, _, _, rfl, hG1', hG3, _, rfl, ?_⟩
    rw [decide_eq_true rfl]
    refine ⟨_, rfl, iteT ?_⟩
    have e8f := e8e.trans ef
    refine ⟨_, rfl, _, rfl, sl2, fun v1 n1 => ⟨_, rfl, sl2, fun v2 n2 => ⟨sl2, fun v3 n3 => ?_⟩⟩⟩
    have z := t4_new n1 n2 n3
    have e8z := e8f.trans z.1
    refine ⟨t, v3, a, b, e, d, -1, 0, 0, -1, rfl, Ex0.ti e8z ht8, z.2, sh, ⟨⟨by decide, by decide⟩, ⟨by decide, by decide⟩, ⟨by decide, by decide⟩, ⟨by decide, by decide⟩, .inl (by decide)⟩, fun o Hg eg ho => ?_⟩
    have ho' : Ti Hg o [0 - a, 0 - b, 0 - e, 0 - d] := by
      have : tled a b e d (-1) 0 0 (-1) = [0 - a, 0 - b, 0 - e, 0 - d] := by
        unfold tled t0 t2 t3
        simp only [List.cons.injEq, and_true]
        refine ⟨?_, ?_, ?_, ?_⟩ <;> grind
      rw [this] at ho
      exact ho
    refine ⟨_, rfl, _, _, rfl, rfl, _, rfl, _, _, rfl, rfl, _, rfl, _, _, rfl, rfl, _, rfl, _, _, rfl, rfl, sl4, fun o2 no => ?_⟩
    refine ⟨.tuple (([0 - a, 0 - b, 0 - e, 0 - d] : List Int).map .int), .tuple (([0 - a, 0 - b, 0 - e, 0 - d] : List Int).map .int), .tup (SqT.of (Ex0.ti (Ex0.new no) ho')) (dp_ints _), .tup (SqT.of upd_same) (dp_ints [0 - a, 0 - b, 0 - e, 0 - d]), shaped_tints _, shaped_tints _, ?_⟩
    rw [PyData.eqv, eqv_ints, decide_eq_true rfl]
    exact q _ (g2.trans (f8.trans (fv_ex f8.1 (e8z.trans (eg.trans (Ex0.new no))))))
end
end TF
namespace TF
open PySem PySem.Spec PyProof.Rows L2 Fr
theorem made_ex {H H' : Hp} {x dx : Addr} {o1 o2 : HO} (nx : H x = none) (ndx : H dx = none) (e1 : ∀ b o, b ≠ x → (upd (upd H dx o1) x o2) b = some o → H' b = some o) : Ex0 H H' := Ex0.of fun b o e => by
  have n1 : b ≠ x := ne_of_none e nx
  have n2 : b ≠ dx := ne_of_none e ndx
  refine e1 b o n1 ?_
  rw [upd_ne n1, upd_ne n2]
  exact e
theorem made_at {H : Hp} {x dx t : Addr} {o1 o2 : HO} {xs : List V} (nx : H x = none) (ndx : H dx = none) (h : H t = some (.tup xs)) : upd (upd H dx o1) x o2 t = some (.tup xs) := by
  rw [upd_ne (ne_of_none h nx), upd_ne (ne_of_none h ndx)]
  exact h
theorem ex_two {H : Hp} {x dx : Addr} {o1 o2 : HO} (nx : H x = none) (ndx : H dx = none) : Ex0 H (upd (upd H dx o1) x o2) := Ex0.of fun b o e => by
  rw [upd_ne (ne_of_none e nx), upd_ne (ne_of_none e ndx)]
  exact e
theorem fo_made {C : Addr} {H H' : Hp} {x dx t : Addr} {ns : List Int} {o1 o2 : HO} (nx : H x = none) (ndx : H dx = none) (ht : Ti H t ns) (e1 : ∀ b o, b ≠ x → (upd (upd H dx o1) x o2) b = some o → H' b = some o)
    (e2 : H' x = some (.ins C dx [(("_coefficients" : Str), .ref t)])) : Ex0 H H' ∧ FormAt C H' x ns :=
  ⟨made_ex nx ndx e1, dx, t, e2, Ex0.ti (made_ex nx ndx e1) ht⟩
end TF
set_option Elab.async false
set_option linter.all false
set_option maxRecDepth 100000
set_option maxHeartbeats 1000000
namespace Fr
open PySem PySem.Spec PyProof.Rows L2
open AutoSeq1 (wpAny_loadPart')
open MeetsSeq MeetsSeq2 MeetsSeq3 SeqRoads2
def EqS (prog : Program) (w : World) (A : Around) (J : Shared → Prop) (x y : Value) : Prop := ∀ s, J s → ∀ (E : Value → Shared → Prop) (Q : Bool → Shared → Prop), (∀ s', J s' → Q true s') → wpAny (model prog w) A (eqBool x y) Q E s
section
variable {prog : Program} {w : World} {J : Shared → Prop} {l b : Addr} {us vs : Array Value}
def HasL (J : Shared → Prop) (l : Addr) (us : Array Value) : Prop := ∀ s, J s → ∃ n dd sl, s.heap.get? l = some { cls := .type "list", dict := dd, data := .seq us n, slots := sl }
theorem loop2 (hl : HasL J l us) (hb : HasL J b vs) (hs : us.size = vs.size) (k : Nat) : ∀ i : Nat, us.size - i = k →
    MeetsIn prog w (Builtin.«list.__eq__.loop» ⟨[.ref l, .ref b, rawInt i, rawInt 2], []⟩) (fun A R s => J s ∧ (∀ j (h1 : j < us.size) (h2 : j < vs.size), EqS prog w A.in1 J us[j] vs[j]) ∧ ∀ s', J s' → R (.ok (.ret (.bool true))) s') := by
  induction k with
  | zero =>
    rintro i hk A R ⟨hp, g, d, tk, os⟩ ⟨hJ, he, h⟩
    obtain ⟨n, dd, sl, gl⟩ := hl _ hJ
    obtain ⟨m, ee, sm, gb⟩ := hb _ hJ
    wp_walk using wpAny_loadPart' gl, wpAny_loadPart' gb
    have h1 : us[((i : Nat) : Int).toNat]? = none := by simp; omega
    have h2 : vs[((i : Nat) : Int).toNat]? = none := by simp; omega
    rw [h1, h2]
    wp_walk using wpAny_loadPart' gl, wpAny_loadPart' gb
    show R (.ok (.ret (.bool (us.size == vs.size)))) _
    rw [hs, beq_self_eq_true]
    exact h _ hJ
  | succ k ih =>
    rintro i hk A R ⟨hp, g, d, tk, os⟩ ⟨hJ, he, h⟩
    obtain ⟨n, dd, sl, gl⟩ := hl _ hJ
    obtain ⟨m, ee, sm, gb⟩ := hb _ hJ
    wp_walk using wpAny_loadPart' gl, wpAny_loadPart' gb
    have l1 : i < us.size := by omega
    have l2 : i < vs.size := by omega
    have h1 : us[((i : Nat) : Int).toNat]? = some us[i] := by simp [l1]
    have h2 : vs[((i : Nat) : Int).toNat]? = some vs[i] := by simp [l2]
    have hc : ((i : Int) + 1) = ((i + 1 : Nat) : Int) := by push_cast; rfl
    rw [h1, h2]
    refine wpAny_bind (he i l1 l2 _ hJ _ _ fun s' hJ' => ?_)
    wp_walk
    rw [hc]
    refine ⟨plainId_quiet plain_eq_loop _, codeAny_builtin entry_eq_loop ?_⟩
    rw [Around.under_plainId plain_eq_loop _]
    exact ih (i + 1) (by omega) A R _ ⟨hJ', he, h⟩
theorem loop3 (hl : HasL J l us) (hb : HasL J b vs) (hs : us.size = vs.size) (k : Nat) : ∀ i : Nat, us.size - i = k →
    MeetsIn prog w (Builtin.«list.__eq__.loop» ⟨[.ref l, .ref b, rawInt i, rawInt 3], []⟩) (fun A R s => J s ∧ (∀ j (h1 : j < us.size) (h2 : j < vs.size), EqS prog w A.in1 J us[j] vs[j]) ∧ ∀ s', J s' → R (.ok (.ret (.bool false))) s') := by
  induction k with
  | zero =>
    rintro i hk A R ⟨hp, g, d, tk, os⟩ ⟨hJ, he, h⟩
    obtain ⟨n, dd, sl, gl⟩ := hl _ hJ
    obtain ⟨m, ee, sm, gb⟩ := hb _ hJ
    wp_walk using wpAny_loadPart' gl, wpAny_loadPart' gb
    have h1 : us[((i : Nat) : Int).toNat]? = none := by simp; omega
    have h2 : vs[((i : Nat) : Int).toNat]? = none := by simp; omega
    rw [h1, h2]
    wp_walk using wpAny_loadPart' gl, wpAny_loadPart' gb
    show R (.ok (.ret (.bool (us.size != vs.size)))) _
    rw [hs, bne_self_eq_false]
    exact h _ hJ
  | succ k ih =>
    rintro i hk A R ⟨hp, g, d, tk, os⟩ ⟨hJ, he, h⟩
    obtain ⟨n, dd, sl, gl⟩ := hl _ hJ
    obtain ⟨m, ee, sm, gb⟩ := hb _ hJ
    wp_walk using wpAny_loadPart' gl, wpAny_loadPart' gb
    have l1 : i < us.size := by omega
    have l2 : i < vs.size := by omega
    have h1 : us[((i : Nat) : Int).toNat]? = some us[i] := by simp [l1]
    have h2 : vs[((i : Nat) : Int).toNat]? = some vs[i] := by simp [l2]
    have hc : ((i : Int) + 1) = ((i + 1 : Nat) : Int) := by push_cast; rfl
    rw [h1, h2]
    refine wpAny_bind (he i l1 l2 _ hJ _ _ fun s' hJ' => ?_)
    wp_walk
    rw [hc]
    refine ⟨plainId_quiet plain_eq_loop _, codeAny_builtin entry_eq_loop ?_⟩
    rw [Around.under_plainId plain_eq_loop _]
    exact ih (i + 1) (by omega) A R _ ⟨hJ', he, h⟩
theorem list_eq2 (hl : HasL J l us) (hb : HasL J b vs) (hs : us.size = vs.size) : MeetsIn prog w (Builtin.«list.__eq__» ⟨[.ref l, .ref b], []⟩)
    (fun A R s => J s ∧ (∀ j (h1 : j < us.size) (h2 : j < vs.size), EqS prog w A.in1 J us[j] vs[j]) ∧ ∀ s', J s' → R (.ok (.ret (.bool true))) s') := by
  rintro A R ⟨hp, g, d, tk, os⟩ ⟨hJ, he, h⟩
  obtain ⟨n, dd, sl, gl⟩ := hl _ hJ
  obtain ⟨m, ee, sm, gb⟩ := hb _ hJ
  have f3 := AutoSeq1.sub_list_list
  have hz : ¬ (us.size != vs.size) = true := by simp [hs]
  wp_walk using wpAny_loadPart' gl, wpAny_loadPart' gb
  refine ⟨plainId_quiet plain_eq_loop _, codeAny_builtin entry_eq_loop ?_⟩
  rw [Around.under_plainId plain_eq_loop _]
  exact loop2 hl hb hs _ 0 rfl A R _ ⟨hJ, he, h⟩
theorem list_ne2 (hl : HasL J l us) (hb : HasL J b vs) (hs : us.size = vs.size) : MeetsIn prog w (Builtin.«list.__ne__» ⟨[.ref l, .ref b], []⟩)
    (fun A R s => J s ∧ (∀ j (h1 : j < us.size) (h2 : j < vs.size), EqS prog w A.in1 J us[j] vs[j]) ∧ ∀ s', J s' → R (.ok (.ret (.bool false))) s') := by
  rintro A R ⟨hp, g, d, tk, os⟩ ⟨hJ, he, h⟩
  obtain ⟨n, dd, sl, gl⟩ := hl _ hJ
  obtain ⟨m, ee, sm, gb⟩ := hb _ hJ
  have f3 := AutoSeq1.sub_list_list
  have hz : ¬ (us.size != vs.size) = true := by simp [hs]
  wp_walk using wpAny_loadPart' gl, wpAny_loadPart' gb
  refine ⟨plainId_quiet plain_eq_loop _, codeAny_builtin entry_eq_loop ?_⟩
  rw [Around.under_plainId plain_eq_loop _]
  exact loop3 hl hb hs _ 0 rfl A R _ ⟨hJ, he, h⟩
theorem rc_eq2 {A : Around} {s : Shared} {E Q : Value → Shared → Prop} (hl : HasL J l us) (hb : HasL J b vs) (hs : us.size = vs.size) (hu : A.units < cLine) (hJ : J s)
    (he : ∀ j (h1 : j < us.size) (h2 : j < vs.size), EqS prog w A.in1 J us[j] vs[j]) (h : ∀ s', J s' → Q (.bool true) s') : wpAny (model prog w) A (richCompare .Eq (.ref l) (.ref b)) Q E s := by
  obtain ⟨n, dd, sl, gl⟩ := hl _ hJ
  obtain ⟨m, ee, sm, gb⟩ := hb _ hJ
  have ta : s.TypeIs (.ref l) "list" := ⟨_, gl, rfl⟩
  exact wpAny_richCompare_same_room (op := .Eq) ta ⟨_, gb, rfl⟩ F.slot_list_eq (call_meetsIn F.slot_list_eq ta F.entry_list_eq (F.args_list_eq_2 _ _) (list_eq2 hl hb hs) ⟨hJ, he, fun s' z => ⟨(fun x => nomatch x), h s' z⟩⟩) hu
theorem rc_ne2 {A : Around} {s : Shared} {E Q : Value → Shared → Prop} (hl : HasL J l us) (hb : HasL J b vs) (hs : us.size = vs.size) (hu : A.units < cLine) (hJ : J s)
    (he : ∀ j (h1 : j < us.size) (h2 : j < vs.size), EqS prog w A.in1 J us[j] vs[j]) (h : ∀ s', J s' → Q (.bool false) s') : wpAny (model prog w) A (richCompare .NotEq (.ref l) (.ref b)) Q E s := by
  obtain ⟨n, dd, sl, gl⟩ := hl _ hJ
  obtain ⟨m, ee, sm, gb⟩ := hb _ hJ
  have ta : s.TypeIs (.ref l) "list" := ⟨_, gl, rfl⟩
  exact wpAny_richCompare_same_room (op := .NotEq) ta ⟨_, gb, rfl⟩ F.slot_list_ne (call_meetsIn F.slot_list_ne ta F.entry_list_ne (F.args_list_ne_2 _ _) (list_ne2 hl hb hs) ⟨hJ, he, fun s' z => ⟨(fun x => nomatch x), h s' z⟩⟩) hu
end
theorem refs_vals : ∀ {ps : List Addr} {its : List Value}, Vals (ps.map V.ref) its → its = ps.map Value.ref
  | [], _, .nil => rfl
  | p :: ps, u :: us, .cons r t => by
    cases (show u = Value.ref p from r)
    rw [refs_vals t]
    rfl
section
variable {X : Cx} {C f : Addr} {fd : FuncData} {ps : List Str} {k : Nat} {sp : Sp} {E : XK}
def rEqLI (K : PySem.W.Frag) (C : Addr) (sp : Sp) (E : XK) (r : Bool) : R2 := fun x y H Q => ∃ (a b : Addr) (as bs : List Addr), x = .ref a ∧ y = .ref b ∧ SqL K H a (as.map V.ref) ∧ SqL K H b (bs.map V.ref) ∧ as.length = bs.length ∧
  (∀ (i : Nat) (p q : Addr), as[i]? = some p → bs[i]? = some q → ∃ dx fs tb, H p = some (.ins C dx fs) ∧ TyX K H (.ref q) tb ∧ PySem.W.notFirst K C tb = true ∧ sp [.ref p, .ref q] H (fun v H' => v = .bl true ∧ H' = H) E) ∧ Q (.bl r) H
theorem hasL_of {pins : List (Addr × Obj)} {σ : L2.St} {H : Hp} {a : Addr} {as : List Addr} (h : SqL X.K H a (as.map V.ref)) : HasL (Inv X pins σ H) a (as.map Value.ref).toArray := fun s I => by
  obtain ⟨its, rv, p, _⟩ := I.list h
  rw [refs_vals rv] at p
  obtain ⟨o, e1, e2, n, e3⟩ := p.isList
  obtain ⟨oc, od, dt, sl⟩ := o
  simp only at e2 e3
  subst e2 e3
  exact ⟨_, _, _, e1⟩
theorem eqs_of {pins : List (Addr × Obj)} {σ : L2.St} {H : Hp} {as bs : List Addr} (c : EqC X.K C f) (F : FnOk X.prog X.w X.K X.mg X.base CX0 k f fd ps sp) (hb : Binds X.K fd ps []) (hr : Room (k + 1) X.A)
    (h : ∀ (i : Nat) (p q : Addr), as[i]? = some p → bs[i]? = some q → ∃ dx fs tb, H p = some (.ins C dx fs) ∧ TyX X.K H (.ref q) tb ∧ PySem.W.notFirst X.K C tb = true ∧ sp [.ref p, .ref q] H (fun v H' => v = .bl true ∧ H' = H) E) :
    ∀ j (h1 : j < (as.map Value.ref).toArray.size) (h2 : j < (bs.map Value.ref).toArray.size), EqS X.prog X.w X.A.in1 (Inv X pins σ H) (as.map Value.ref).toArray[j] (bs.map Value.ref).toArray[j] := by
  intro j h1 h2
  have l1 : j < as.length := by simpa using h1
  have l2 : j < bs.length := by simpa using h2
  obtain ⟨dx, fs, tb, ha, ty, hn, q⟩ := h j as[j] bs[j] (List.getElem?_eq_getElem l1) (List.getElem?_eq_getElem l2)
  have e1 : (as.map Value.ref).toArray[j] = Value.ref as[j] := by simp
  have e2 : (bs.map Value.ref).toArray[j] = Value.ref bs[j] := by simp
  rw [e1, e2]
  generalize as[j] = p at ha q
  generalize bs[j] = p' at ty q
  intro s I E' Q hQ
  unfold eqBool
  refine wpAny_holding ?_
  refine wpAny_ite_split (fun hab => ?_) (fun _ => ?_)
  · wp_walk
    exact hQ _ I
  · obtain ⟨mA, J, _⟩ := ins_get I.hok ha
    obtain ⟨od, J, _⟩ := J.look
    obtain ⟨m, hF⟩ := I.fr
    obtain ⟨P, kt, hP, _⟩ := kit_of I (show RelV (.ref p') (.ref p') from rfl) ty
    refine wpAny_bind ?_
    refine PySem.W.cmp_K (op := .Eq) hr.in1.units0 hF I.ok.mod.kin J (kt.ty _ _ I.kIn hP) hn c.eq c.fn ?_
    have hl : [Value.ref p, Value.ref p'].length = ps.length := F.len _ _ _ _ q
    refine wpAny_call (codeAny_mono (F.run X.A.in1 X.stack s H ⟨[.ref p, .ref p'], []⟩ [.ref p, .ref p'] [.ref p, .ref p'] _ E hr.in1 I.env0.in1 (hb s _ I.kIn hl) (.cons rfl (.cons rfl .nil)) q) fun r s' hq => ?_)
    cases r with
    | error e => exact False.elim hq
    | ok fl =>
      cases fl with
      | ret u =>
        obtain ⟨v, H', I3, rv, rfl, rfl⟩ := I.after hq
        cases (show u = Value.bool true from rv)
        exact wpAny_truthy_bool (hQ _ I3)
      | next => exact False.elim hq
      | brk => exact False.elim hq
      | cont => exact False.elim hq
theorem op_eqLI (c : EqC X.K C f) (F : FnOk X.prog X.w X.K X.mg X.base CX0 k f fd ps sp) (hb : Binds X.K fd ps []) (hr : Room (k + 1) X.A) : OpR X (compareOp .Eq) (rEqLI X.K C sp E true) := by
  intro pins s σ H x y v u Q I rx ry h
  obtain ⟨a, b, as, bs, rfl, rfl, ha, hb', hl, hp, q⟩ := h
  cases (show v = Value.ref a from rx)
  cases (show u = Value.ref b from ry)
  exact rc_eq2 (hasL_of ha) (hasL_of hb') (by simp [hl]) hr.units0 I (eqs_of c F hb hr hp) fun s' I' => ⟨.bl true, H, I', rfl, q⟩
theorem op_neLI (c : EqC X.K C f) (F : FnOk X.prog X.w X.K X.mg X.base CX0 k f fd ps sp) (hb : Binds X.K fd ps []) (hr : Room (k + 1) X.A) : OpR X (compareOp .NotEq) (rEqLI X.K C sp E false) := by
  intro pins s σ H x y v u Q I rx ry h
  obtain ⟨a, b, as, bs, rfl, rfl, ha, hb', hl, hp, q⟩ := h
  cases (show v = Value.ref a from rx)
  cases (show u = Value.ref b from ry)
  exact rc_ne2 (hasL_of ha) (hasL_of hb') (by simp [hl]) hr.units0 I (eqs_of c F hb hr hp) fun s' I' => ⟨.bl false, H, I', rfl, q⟩
end
end Fr
set_option Elab.async false
set_option linter.all false
set_option maxRecDepth 100000
set_option maxHeartbeats 400000
namespace Hd
open PySem PySem.Spec PyProof.Rows L2 Fr
open He (ga ma eqO eqO_ok ba)
def pa (K : PySem.W.Frag) (C : Addr) (m : Str) : Addr := match PySem.W.recIn K (ma K C m) "property" with
  | some (.ref g :: _) => g
  | _ => 0
def itA (K : PySem.W.Frag) (a : Addr) (i : Nat) : Addr := match K.lookup a with
  | some ⟨_, _, .seq its _, _⟩ => (match its[i]? with
    | some (.ref b) => b
    | _ => 0)
  | _ => 0
structure Dd where
  at_ : PySem.W.Frag → Addr
  name : Str
  qual : Str
  st : Stmt
  dfl : List V := []
def fnA (K : PySem.W.Frag) (a : Addr) : He.FnW := match K.lookup a with
  | some ⟨_, _, .func fd, _⟩ => some (fd.name, fd.qualname, fd.params, fd.body, fd.scope, fd.globals, fd.closure, fd.builtins)
  | _ => none
def Dd.val (d : Dd) : He.FnW := some (d.name, d.qual, defArgs d.st, .stmts (defBody d.st), defScope d.st, mainGlobals, [], builtinsNs)
def Dd.ok (K : PySem.W.Frag) (d : Dd) : Bool := PySem.W.keepIn K (.ref (d.at_ K)) && (match K.lookup (d.at_ K) with
  | some ⟨_, _, .func fd, _⟩ => PySem.W.codeIn K fd.code d.qual && He.dflB K fd.defaults d.dfl
  | _ => false)
theorem Dd.funD {K : PySem.W.Frag} {d : Dd} (e : fnA K (d.at_ K) = d.val) (c : d.ok K = true) : ∃ fd, FunD K d.name d.qual (defArgs d.st) (defBody d.st) (defScope d.st) d.dfl [] (d.at_ K) fd := by
  obtain ⟨kp, c2⟩ := ba c
  unfold fnA at e
  cases hk : K.lookup (d.at_ K) with
  | none => rw [hk] at c2; cases c2
  | some o =>
    obtain ⟨oc, od, dt, osl⟩ := o
    rw [hk] at c2 e
    cases dt with
    | func fd =>
      obtain ⟨n1, n2, n3, n4, n5, n6, n7, n8, n9, n10, n11, n12, n13, n14, n15⟩ := fd
      have e0 : (some (n1, n2, n3, n4, n5, n6, n7, n15) : He.FnW) = some (d.name, d.qual, defArgs d.st, .stmts (defBody d.st), defScope d.st, mainGlobals, [], builtinsNs) := e
      simp only [Option.some.injEq, Prod.mk.injEq] at e0
      obtain ⟨h1, h2, h3, h4, h5, h6, h7, h8⟩ := e0
      subst h1 h2 h3 h4 h5 h6 h7 h8
      obtain ⟨k1, k2⟩ := ba (show (PySem.W.codeIn K n13 d.qual && He.dflB K n8 d.dfl) = true from c2)
      exact ⟨_, ⟨oc, od, n8, n9, n10, n11, n12, n13, n14, osl, rfl, hk, k1, He.dflB_ok k2, .inl rfl⟩, kp⟩
    | _ => cases c2
theorem fun_of {K : PySem.W.Frag} {x q : Str} {st : Stmt} {f : Addr} {fd : FuncData} (F : FunD K x q (defArgs st) (defBody st) (defScope st) [] [] f fd) : Fun K x q st f fd := by
  obtain ⟨⟨oc, od, dV, kV, doc, pm, an, cdv, ct, osl, e1, e2, e3, e4, e5⟩, kp⟩ := F
  rcases e4 with ⟨_, rfl⟩ | ⟨h, _⟩
  · exact ⟨⟨oc, od, kV, doc, pm, an, cdv, ct, osl, e1, e2, e3⟩, kp⟩
  · exact absurd rfl h
def refsP (o : Obj) : List Addr := match o.data with
  | .seq its _ => its.toList.flatMap He.refV
  | .dict es _ => es.toList.flatMap fun e => He.refV e.val
  | .func fd => He.refV fd.code ++ He.refV fd.defaults
  | .cls cd => [cd.ns]
  | .fields vs => (match o.cls with
    | .type c => (match c == "property" with
      | true => vs.toList.flatMap He.refV
      | false => [])
    | _ => [])
  | _ => []
def nxt (g : Addr → Option Obj) (as : List Addr) : List Addr := as.flatMap fun a => match g a with
  | some o => refsP o
  | none => []
def asM (g : Addr → Option Obj) : Nat → List Addr → List Addr
  | 0, as => as
  | n + 1, as => as ++ asM g n (nxt g as)
abbrev Fb : Type := PySem.W.Frag → Bool
abbrev AlM : Type := Bool × List He.FnW
def obsM (fa : List Fb) (fn : List Dd) (K : PySem.W.Frag) : AlM := ((fa.all fun f => f K) && fn.all fun d => d.ok K, fn.map fun d => fnA K (d.at_ K))
def valM (fn : List Dd) : AlM := (true, fn.map Dd.val)
def SaysM (fa : List Fb) (fn : List Dd) (K : PySem.W.Frag) : Prop := obsM fa fn K = valM fn
def obsMG (n : Nat) (fa : List Fb) (fn : List Dd) (g : Addr → Option Obj) : AlM := obsM fa fn (He.frG g (asM g n [mainGlobals]))
def hookM (n : Nat) (fa : List Fb) (fn : List Dd) : PySem.W.Hook where
  α := AlM
  obs := fun s => obsMG n fa fn s.heap.get?
  val := fun _ => valM fn
  says := fun _ h => ∃ K : PySem.W.Frag, K.In h ∧ SaysM fa fn K
  of := fun _ _ e => ⟨_, He.frG_in, e⟩
  keeps := fun _ _ _ ⟨K, hK, c⟩ k => ⟨K, PySem.W.Frag.In.keeps hK k, c⟩
theorem obsMG_eq {n : Nat} {fa : List Fb} {fn : List Dd} {g : Addr → Option Obj} {s : Shared} (h : ∀ a, g a = s.heap.get? a) : obsMG n fa fn g = (hookM n fa fn).obs s := by
  have e : g = s.heap.get? := funext h
  rw [e] <;> rfl
section
variable {fa : List Fb} {fn : List Dd} {K : PySem.W.Frag}
theorem SaysM.fact (c : SaysM fa fn K) (i : Nat) {f : Fb} (h : fa[i]? = some f := by rfl) : f K = true := by
  have c1 : ((fa.all fun f => f K) && fn.all fun d => d.ok K) = true := congrArg (fun z : AlM => z.1) c
  exact List.all_eq_true.mp (ba c1).1 f (List.mem_of_getElem? h)
theorem SaysM.def_ (c : SaysM fa fn K) (i : Nat) {d : Dd} (h : fn[i]? = some d := by rfl) : ∃ fd, FunD K d.name d.qual (defArgs d.st) (defBody d.st) (defScope d.st) d.dfl [] (d.at_ K) fd := by
  have c1 : ((fa.all fun f => f K) && fn.all fun d => d.ok K) = true := congrArg (fun z : AlM => z.1) c
  have c2 : fn.map (fun d => fnA K (d.at_ K)) = fn.map Dd.val := congrArg (fun z : AlM => z.2) c
  have c3 : (fn.map fun d => fnA K (d.at_ K))[i]? = (fn.map Dd.val)[i]? := by rw [c2]
  rw [List.getElem?_map, List.getElem?_map, h] at c3
  exact Dd.funD (Option.some.inj c3) (List.all_eq_true.mp (ba c1).2 d (List.mem_of_getElem? h))
end
def decO (a b : Option Bool) : Bool := decide (a = b)
theorem decO_ok {a b : Option Bool} (h : decO a b = true) : a = b := of_decide_eq_true h
def bltB (x : Str) (id : String) : Fb := fun K => eqO (PySem.W.nsIn K mainGlobals x) (some (some (.builtin id)))
theorem blt_ok {K : PySem.W.Frag} {h : Heap} {mg : Str → Option Value} (X : K.In h) (G : h.Ns mainGlobals mg) {x : Str} {id : String} (c : bltB x id K = true) : mg x = some (.builtin id) := PySem.W.mg_of X G (eqO_ok c)
def tyB (C : Str) : Fb := fun K => eqO (PySem.W.findIn K (.ref (ga K C)) "__class__") (some (some (.builtin "object.__class__"))) && (eqO (PySem.W.specialIn K (.builtin "object.__class__") "__get__") (some (some (.builtin "getset_descriptor.__get__"))) && (decO (PySem.W.takesIn K (.builtin "object.__class__")) (some true) && decO (PySem.W.mroIn K (ga K C) (.type "object")) (some true)))
theorem ty_ok {K : PySem.W.Frag} {C : Str} (c : tyB C K = true) : TyI K (ga K C) := by
  obtain ⟨c1, c⟩ := ba c
  obtain ⟨c2, c⟩ := ba c
  obtain ⟨c3, c4⟩ := ba c
  exact ⟨eqO_ok c1, eqO_ok c2, decO_ok c3, decO_ok c4⟩
def propB (C m : Str) : Fb := fun K => eqO (PySem.W.findIn K (.ref (ga K C)) m) (some (some (.ref (ma K (ga K C) m)))) && (eqO (PySem.W.specialIn K (.ref (ma K (ga K C) m)) "__get__") (some (some (.builtin "property.__get__"))) && (decO (PySem.W.takesIn K (.ref (ma K (ga K C) m))) (some true) && (match PySem.W.recIn K (ma K (ga K C) m) "property" with
  | some (.ref _ :: _) => true
  | _ => false)))
theorem prop_ok {K : PySem.W.Frag} {C m : Str} (c : propB C m K = true) : PropOf K (ga K C) m (ma K (ga K C) m) (pa K (ga K C) m) := by
  obtain ⟨c1, c⟩ := ba c
  obtain ⟨c2, c⟩ := ba c
  obtain ⟨c3, c4⟩ := ba c
  refine ⟨eqO_ok c1, eqO_ok c2, decO_ok c3, ?_⟩
  unfold pa
  cases hr : PySem.W.recIn K (ma K (ga K C) m) "property" with
  | none => rw [hr] at c4; cases c4
  | some l =>
    rw [hr] at c4
    cases l with
    | nil => cases c4
    | cons v rest =>
      cases v with
      | ref g => exact ⟨rest, rfl⟩
      | _ => cases c4
def eqB (C : Str) : Fb := fun K => eqO (PySem.W.findIn K (.ref (ga K C)) "__eq__") (some (some (.ref (ma K (ga K C) "__eq__")))) && (PySem.W.isFn K (.ref (ma K (ga K C) "__eq__")) && (eqO (PySem.W.findIn K (.ref (ga K C)) "__ne__") (some (some (.builtin "object.__ne__"))) && decO (PySem.W.mroIn K (ga K C) (.type "object")) (some true)))
theorem eq_ok {K : PySem.W.Frag} {C : Str} (c : eqB C K = true) : EqC K (ga K C) (ma K (ga K C) "__eq__") := by
  obtain ⟨c1, c⟩ := ba c
  obtain ⟨c2, c⟩ := ba c
  obtain ⟨c3, c4⟩ := ba c
  exact ⟨eqO_ok c1, c2, eqO_ok c3, decO_ok c4⟩
def callB (C : Str) : Fb := fun K => eqO (PySem.W.findIn K (.ref (ga K C)) "__call__") (some (some (.ref (ma K (ga K C) "__call__")))) && (PySem.W.isFn K (.ref (ma K (ga K C) "__call__")) && PySem.W.fnIn K (ma K (ga K C) "__call__"))
theorem call_ok {K : PySem.W.Frag} {C : Str} (c : callB C K = true) : StX.CallO K (ga K C) (ma K (ga K C) "__call__") := by
  obtain ⟨c1, c⟩ := ba c
  obtain ⟨c2, c3⟩ := ba c
  exact ⟨eqO_ok c1, c2, c3⟩
def binB (C m : Str) : Fb := fun K => eqO (PySem.W.findIn K (.ref (ga K C)) m) (some (some (.ref (ma K (ga K C) m)))) && (PySem.W.isFn K (.ref (ma K (ga K C) m)) && PySem.W.selfFirst K (ga K C))
theorem bin_ok {K : PySem.W.Frag} {C m : Str} (c : binB C m K = true) : PySem.W.findIn K (.ref (ga K C)) m = some (some (.ref (ma K (ga K C) m))) ∧ PySem.W.isFn K (.ref (ma K (ga K C) m)) = true ∧ PySem.W.selfFirst K (ga K C) = true := by
  obtain ⟨c1, c⟩ := ba c
  obtain ⟨c2, c3⟩ := ba c
  exact ⟨eqO_ok c1, c2, c3⟩
def intsB (a : PySem.W.Frag → Addr) (ns : List Int) : Fb := fun K => match K.lookup (a K) with
  | some ⟨.type c, _, .seq its _, _⟩ => decide (c = "tuple") && (decide (its.size ≤ sizeLine) && He.relAll (ns.map V.int) its.toList)
  | _ => false
theorem ints_ok {K : PySem.W.Frag} {a : PySem.W.Frag → Addr} {ns : List Int} (c : intsB a ns K = true) (H : Hp) : SqT K H (a K) (ns.map V.int) := by
  unfold intsB at c
  cases hk : K.lookup (a K) with
  | none => rw [hk] at c; cases c
  | some o =>
    obtain ⟨oc, od, dt, sl⟩ := o
    rw [hk] at c
    cases oc with
    | type t =>
      cases dt with
      | seq its m =>
        obtain ⟨c1, c⟩ := ba c
        obtain ⟨c2, c3⟩ := ba c
        exact .inr ⟨_, its, m, hk, congrArg Value.type (of_decide_eq_true c1), rfl, of_decide_eq_true c2, He.relAll_ok c3⟩
      | _ => cases c
    | _ => cases dt <;> cases c
def refsB (a : PySem.W.Frag → Addr) (n : Nat) : Fb := fun K => match K.lookup (a K) with
  | some ⟨.type c, _, .seq its _, _⟩ => decide (c = "tuple") && (decide (its.size ≤ sizeLine) && He.relAll ((List.range n).map fun i => V.ref (itA K (a K) i)) its.toList)
  | _ => false
theorem refs_ok {K : PySem.W.Frag} {a : PySem.W.Frag → Addr} {n : Nat} (c : refsB a n K = true) (H : Hp) : SqT K H (a K) ((List.range n).map fun i => V.ref (itA K (a K) i)) := by
  unfold refsB at c
  generalize hl : (List.range n).map (fun i => V.ref (itA K (a K) i)) = l at c ⊢
  cases hk : K.lookup (a K) with
  | none => rw [hk] at c; cases c
  | some o =>
    obtain ⟨oc, od, dt, sl⟩ := o
    rw [hk] at c
    cases oc with
    | type t =>
      cases dt with
      | seq its m =>
        obtain ⟨c1, c⟩ := ba c
        obtain ⟨c2, c3⟩ := ba c
        exact .inr ⟨_, its, m, hk, congrArg Value.type (of_decide_eq_true c1), rfl, of_decide_eq_true c2, He.relAll_ok c3⟩
      | _ => cases c
    | _ => cases dt <;> cases c
def foreB (C : Str) (t : String) : Fb := fun K => decO (PySem.W.kitOne K (.type t) (.ref (ga K C))) (some false) && PySem.W.notFirst K (ga K C) (.type t)
theorem fore_ok {K : PySem.W.Frag} {C : Str} {t : String} (c : foreB C t K = true) : PySem.W.kitOne K (.type t) (.ref (ga K C)) = some false ∧ PySem.W.notFirst K (ga K C) (.type t) = true := by
  obtain ⟨c1, c2⟩ := ba c
  exact ⟨decO_ok c1, c2⟩
def xcB (x : Str) (bm : List Value) (newId : String) : Fb := fun K => He.Fa.ok K (.glo x) && (PySem.W.excIn K (ga K x) bm newId && (PySem.W.keepIn K (.ref (ga K x)) && (decO (PySem.W.subIn K (.ref (ga K x)) (.type "BaseException")) (some true) && (decide (PySem.W.typeIn K (.ref (ga K x)) = some (.type "type")) && decO (PySem.W.exmOne K (.ref (ga K x)) (.ref (ga K x))) (some true)))))
theorem xc_ok {K : PySem.W.Frag} {h : Heap} {mg : Str → Option Value} (X : K.In h) (G : h.Ns mainGlobals mg) {x : Str} {bm : List Value} {newId : String} (c : xcB x bm newId K = true) : Xc K mg x bm newId := by
  obtain ⟨c1, c⟩ := ba c
  obtain ⟨c2, c⟩ := ba c
  obtain ⟨c3, c⟩ := ba c
  obtain ⟨c4, c⟩ := ba c
  obtain ⟨c5, c6⟩ := ba c
  exact ⟨He.glo_ok X G c1, c2, c3, decO_ok c4, of_decide_eq_true c5, decO_ok c6⟩
end Hd
namespace TF
open PySem PySem.Spec PyProof.Rows L2 Fr
open K05M (fv fl2 fl3 fdisc)
open K06M
def sp_lawW (K : PySem.W.Frag) : Sp := fun vs H Q _ => ∃ (a : Addr) (ns : List Int), vs = [.ref a] ∧ SqL K H a (ns.map V.int) ∧ ns.length ≤ 63 ∧ ∀ H', Q (.bl true) H'
abbrev sp_law (K : PySem.W.Frag) (_ _ : Addr) : Sp := sp_lawW K
theorem sh4 {a b c d : Int} (h1 : a.natAbs ≤ 9) (h2 : b.natAbs ≤ 9) (h3 : c.natAbs ≤ 9) (h4 : d.natAbs ≤ 9) : ∀ n ∈ [a, b, c, d], Short n := fun n h => by
  simp only [List.mem_cons, List.mem_nil_iff, or_false] at h
  rcases h with rfl | rfl | rfl | rfl <;> exact ⟨by omega, by omega⟩
theorem sh3 {a b c : Int} (h1 : a.natAbs ≤ 9) (h2 : b.natAbs ≤ 9) (h3 : c.natAbs ≤ 9) : ∀ n ∈ [a, b, c], Short n := fun n h => by
  simp only [List.mem_cons, List.mem_nil_iff, or_false] at h
  rcases h with rfl | rfl | rfl <;> exact ⟨by omega, by omega⟩
section
variable {P : Program} {w : World} {K : PySem.W.Frag} {mg : Str → Option Value} {base : Heap} {C_Form C_Double : Addr}
theorem ok_law0 (T : Txt K mg C_Form C_Double) {f_ : Addr} {fd_ : FuncData} (F_ : Fun K "law" "law" s_law f_ fd_) : FnOk P w K mg base CX0 11 f_ fd_ ["_law_script"] (sp_law K C_Form C_Double) := by
  obtain ⟨p_Double___eq__, f_Double___eq__, fd_Double___eq__, R_Double___eq__, b_Double___eq__, G_Double___eq__⟩ := (ok_Double___eq__ (P := P) (w := w) (base := base) T)
  obtain ⟨p_Double___init__, f_Double___init__, fd_Double___init__, R_Double___init__, b_Double___init__, G_Double___init__⟩ := (ok_Double___init__ (P := P) (w := w) (base := base) T)
  obtain ⟨p_Form___eq__, f_Form___eq__, fd_Form___eq__, R_Form___eq__, b_Form___eq__, G_Form___eq__⟩ := (ok_Form___eq__ (P := P) (w := w) (base := base) T)
  obtain ⟨p_Form___init__, f_Form___init__, fd_Form___init__, R_Form___init__, b_Form___init__, G_Form___init__⟩ := (ok_Form___init__ (P := P) (w := w) (base := base) T)
  obtain ⟨f_l_kettle, fd_l_kettle, g_l_kettle, k_l_kettle, b_l_kettle, G_l_kettle⟩ := (ok_l_kettle (P := P) (w := w) (base := base) T)
  obtain ⟨f_l_right, fd_l_right, g_l_right, k_l_right, b_l_right, G_l_right⟩ := (ok_l_right (P := P) (w := w) (base := base) T)
  obtain ⟨f_form_of_threefold, fd_form_of_threefold, g_form_of_threefold, k_form_of_threefold, b_form_of_threefold, G_form_of_threefold⟩ := (ok_form_of_threefold (P := P) (w := w) (base := base) T)
  obtain ⟨f_small_hessian, fd_small_hessian, g_small_hessian, k_small_hessian, b_small_hessian, G_small_hessian⟩ := (ok_small_hessian (P := P) (w := w) (base := base) T)
  obtain ⟨f_threefold_led, fd_threefold_led, g_threefold_led, k_threefold_led, b_threefold_led, G_threefold_led⟩ := (ok_threefold_led (P := P) (w := w) (base := base) T)
  obtain ⟨f_threefold_of_form, fd_threefold_of_form, g_threefold_of_form, k_threefold_of_form, b_threefold_of_form, G_threefold_of_form⟩ := (ok_threefold_of_form (P := P) (w := w) (base := base) T)
  refine F_.ok sc_law (fun vs H Q E h => ?_) (fun cdv A outer s H vs Q E hr h => ?_)
  · first | (obtain ⟨rfl, _⟩ := h; rfl) | (obtain ⟨_, rfl, _⟩ := h; rfl) | (obtain ⟨_, _, rfl, _⟩ := h; rfl) | (obtain ⟨_, _, _, rfl, _⟩ := h; rfl) | (obtain ⟨_, _, _, _, rfl, _⟩ := h; rfl) | (obtain ⟨_, _, _, _, _, rfl, _⟩ := h; rfl) | (obtain ⟨_, _, _, _, _, _, rfl, _⟩ := h; rfl) | (obtain ⟨_, _, _, _, _, _, _, rfl, _⟩ := h; rfl) | (obtain ⟨_, _, _, _, _, _, _, _, rfl, _⟩ := h; rfl) | (obtain ⟨_, _, _, _, _, _, _, _, _, rfl, _⟩ := h; rfl) | (obtain ⟨_, _, _, _, _, _, _, _, _, _, rfl, _⟩ := h; rfl) | (obtain ⟨_, _, _, _, _, _, _, _, _, _, _, rfl, _⟩ := h; rfl) | (obtain ⟨_, _, _, _, _, _, _, _, _, _, _, _, rfl, _⟩ := h; rfl) | (obtain ⟨_, _, _, _, _, _, _, _, _, _, _, _, _, rfl, _⟩ := h; rfl) | (obtain ⟨_, _, _, _, _, _, _, _, _, _, _, _, _, _, rfl, _⟩ := h; rfl) | (obtain ⟨_, _, _, _, _, _, _, _, _, _, _, _, _, _, _, rfl, _⟩ := h; rfl) | (obtain ⟨_, _, _, _, _, _, _, _, _, _, _, _, _, _, _, _, rfl, _⟩ := h; rfl) | (obtain ⟨_, _, _, _, _, _, _, _, _, _, _, _, _, _, _, _, _, rfl, _⟩ := h; rfl) | (obtain ⟨_, _, _, _, _, _, _, _, _, _, _, _, _, _, _, _, _, _, rfl, _⟩ := h; rfl) | (obtain ⟨_, _, _, _, _, _, _, _, _, _, _, _, _, _, _, _, _, _, _, rfl, _⟩ := h; rfl) | (obtain ⟨_, _, _, _, _, _, _, _, _, _, _, _, _, _, _, _, _, _, _, _, rfl, _⟩ := h; rfl) | (obtain ⟨_, _, _, _, _, _, _, _, _, _, _, _, _, _, _, _, _, _, _, _, _, rfl, _⟩ := h; rfl) | (obtain ⟨_, _, _, _, _, _, _, _, _, _, _, _, _, _, _, _, _, _, _, _, _, _, rfl, _⟩ := h; rfl) | (obtain ⟨_, _, _, _, _, _, _, _, _, _, _, _, _, _, _, _, _, _, _, _, _, _, _, rfl, _⟩ := h; rfl)
  · obtain ⟨a, ns, rfl, hS, hn, q⟩ := h
    refine ⟨_, (pss_cons (ps_for PassesOwn.never rfl (pi_range1 (by rfl) T.b_range (pa_cons (pe_callB (call_max2 rfl) (by rfl) T.b_max (by decide +kernel) (pa_cons pe_int (pa_cons (pe_callB (call_min2 rfl) (by rfl) T.b_min (by decide +kernel) (pa_cons pe_int (pa_cons (pe_callB call_len_seq (by rfl) T.b_len PySem.boot_len (pa_cons (pv 0) pa_nil)) pa_nil))) pa_nil))) pa_nil)) (pg_name (i := 1) sc_law.nd rfl (.inl rfl))
      (pss_cons (ps_set (i := 2) sc_law.nd rfl (.inl rfl) (pe_call G_l_kettle (hr.mono (by decide)) (by rfl) g_l_kettle k_l_kettle b_l_kettle .nil pass0 (pa_cons (pv 0) (pa_cons (pv 1) pa_nil))))
    (pss_one (ps_if (PW.pt (pw_or (pt_not (pt_val (pe_call G_l_right (hr.mono (by decide)) (by rfl) g_l_right k_l_right b_l_right .nil pass0 (pa_cons (pv 2) pa_nil)))) (pw_or1 (pt_not (pt_val (pe_call G_l_right (hr.mono (by decide)) (by rfl) g_l_right k_l_right b_l_right .nil pass0 (pa_cons (pv 2) pa_nil)))))))
      (pss_one (ps_ret pe_bl))
      pss_nil))))
    (Evl.pss_cut (ps_set (i := 3) sc_law.nd rfl (.inl rfl) (pe_lst (pa_cons (pe_call G_small_hessian (hr.mono (by decide)) (by rfl) g_small_hessian k_small_hessian b_small_hessian .nil pass0 (pa_cons (pe_tup (pa_cons pe_int (pa_cons pe_int (pa_cons (pe_un un_neg pe_int) (pa_cons (pe_un un_neg pe_int) pa_nil))))) pa_nil)) (pa_cons (pe_call G_small_hessian (hr.mono (by decide)) (by rfl) g_small_hessian k_small_hessian b_small_hessian .nil pass0 (pa_cons (pe_tup (pa_cons pe_int (pa_cons pe_int (pa_cons (pe_un un_neg pe_int) (pa_cons (pe_un un_neg pe_int) pa_nil))))) pa_nil)) (pa_cons (pe_call G_small_hessian (hr.mono (by decide)) (by rfl) g_small_hessian k_small_hessian b_small_hessian .nil pass0 (pa_cons (pe_tup (pa_cons pe_int (pa_cons pe_int (pa_cons pe_int (pa_cons pe_int pa_nil))))) pa_nil)) pa_nil)))))
    (Evl.pss_cut (ps_if (PW.pt (pw_or (pt_cmpR (op_neLI (E := E0) R_Double___eq__ G_Double___eq__ b_Double___eq__ (hr.mono (by decide))) (pv 3) (pe_lst (pa_cons (pe_make R_Double___init__ G_Double___init__ (hr.mono (by decide)) (by rfl) T.g_Double b_Double___init__ .nil pass0 (pa_cons (pe_tup (pa_cons pe_int (pa_cons pe_int (pa_cons pe_int pa_nil)))) pa_nil)) (pa_cons (pe_make R_Double___init__ G_Double___init__ (hr.mono (by decide)) (by rfl) T.g_Double b_Double___init__ .nil pass0 (pa_cons (pe_tup (pa_cons pe_int (pa_cons pe_int (pa_cons pe_int pa_nil)))) pa_nil)) (pa_cons (pe_make R_Double___init__ G_Double___init__ (hr.mono (by decide)) (by rfl) T.g_Double b_Double___init__ .nil pass0 (pa_cons (pe_tup (pa_cons pe_int (pa_cons pe_int (pa_cons pe_int pa_nil)))) pa_nil)) pa_nil)))) (nomark _)) (pw_or1 (pt_cmpR (op_neI R_Form___eq__ G_Form___eq__ b_Form___eq__ (hr.mono (by decide)) pass0) (pe_call G_form_of_threefold (hr.mono (by decide)) (by rfl) g_form_of_threefold k_form_of_threefold b_form_of_threefold .nil pass0 (pa_cons (pe_tup (pa_cons pe_int (pa_cons pe_int (pa_cons (pe_un un_neg pe_int) (pa_cons (pe_un un_neg pe_int) pa_nil))))) pa_nil)) (pe_make R_Form___init__ G_Form___init__ (hr.mono (by decide)) (by rfl) T.g_Form b_Form___init__ .nil pass0 (pa_cons (pe_tup (pa_cons pe_int (pa_cons pe_int (pa_cons (pe_un un_neg pe_int) (pa_cons (pe_un un_neg pe_int) pa_nil))))) pa_nil)) (nomark _)))))
      (pss_one (ps_ret pe_bl))
      pss_nil)
    (pss_one (ps_ret (pe_and (pe_cmpR (op_eqD hr.units) (pe_call G_threefold_led (hr.mono (by decide)) (by rfl) g_threefold_led k_threefold_led b_threefold_led .nil pass0 (pa_cons (pe_tup (pa_cons pe_int (pa_cons pe_int (pa_cons (pe_un un_neg pe_int) (pa_cons (pe_un un_neg pe_int) pa_nil))))) (pa_cons (pe_tup (pa_cons (pe_tup (pa_cons pe_int (pa_cons pe_int pa_nil))) (pa_cons (pe_tup (pa_cons pe_int (pa_cons pe_int pa_nil))) pa_nil))) pa_nil))) (pe_tup (pa_cons pe_int (pa_cons pe_int (pa_cons pe_int (pa_cons (pe_un un_neg pe_int) pa_nil))))) (nomark _)) (pe_one (pe_cmpR (op_eqD hr.units) (pe_call G_threefold_of_form (hr.mono (by decide)) (by rfl) g_threefold_of_form k_threefold_of_form b_threefold_of_form .nil pass0 (pa_cons (pe_make R_Form___init__ G_Form___init__ (hr.mono (by decide)) (by rfl) T.g_Form b_Form___init__ .nil pass0 (pa_cons (pe_tup (pa_cons pe_int (pa_cons pe_int (pa_cons pe_int (pa_cons pe_int pa_nil))))) pa_nil)) pa_nil)) (pe_tup (pa_cons pe_int (pa_cons pe_int (pa_cons pe_int (pa_cons pe_int pa_nil))))) (nomark _))))))))), ?_⟩
    have hm : ∀ z : Int, z ≤ 63 → -(2 ^ 62) ≤ (if (if z < 4 then z else 4) > 1 then (if z < 4 then z else 4) else 1) ∧ (if (if z < 4 then z else 4) > 1 then (if z < 4 then z else 4) else 1) < 2 ^ 62 := fun z hz => by
      split <;> split <;> omega
    have hm2 := hm (((ns.map V.int).length : Nat) : Int) (by rw [List.length_map]; omega)
    refine ⟨_, rfl, a, _, rfl, .inl hS, _, _, rfl, _, _, rfl, _, rfl, hm2.1, hm2.2, ?_⟩
    refine for_range (lo := 0) (fun i σ H' => ∃ y1 y2, σ = [some (.ref a), y1, y2, none] ∧ Ex0 H H') ⟨none, none, rfl, Ex0.refl H⟩ ?_ ?_
    · rintro i σ H' hi ⟨y1, y2, rfl, e⟩
      refine ⟨_, rfl, _, rfl, a, ns, i, by show [V.ref a, V.int (0 + (i : Int))] = _; rw [Int.zero_add], e.sqL (fun z => z) hS, fun p H1 np e1 hv => ?_⟩
      have hp0 : H p = none := Fx.free e (fun z => z) np
      have e01 : Ex0 H H1 := e.trans e1
      refine ⟨_, rfl, p, rfl, hv, fun H3 e3 => ⟨_, rfl, ?_⟩⟩
      refine iteF ⟨_, rfl, p, rfl, e3.1, fun H4 e4 => ⟨_, rfl, ?_⟩⟩
      refine iteF ?_
      exact ⟨_, _, rfl, ex_fv e01 hp0 (e3.trans e4)⟩
    · rintro σ H' ⟨y1, y2, rfl, e⟩
      refine ⟨fun σ H2 => ∃ L X1 X2 X3 : Addr, σ = [some (.ref a), y1, y2, some (.ref L)] ∧ H2 L = some (.lst [.ref X1, .ref X2, .ref X3]) ∧ FormAt C_Double H2 X1 [2, 1, 3] ∧ FormAt C_Double H2 X2 [2, 0, 2] ∧ FormAt C_Double H2 X3 [1, 1, 1], ?_, ?_⟩
      · refine ⟨_, rfl, _, rfl, sl4, fun t1 n1 => ?_⟩
        refine ⟨t1, 1, 1, -1, -2, rfl, upd_same, sh4 (by decide) (by decide) (by decide) (by decide), fun X1 H1 e1 h1 => ?_⟩
        refine ⟨_, rfl, _, rfl, sl4, fun t2 n2 => ?_⟩
        refine ⟨t2, 1, 1, -1, -1, rfl, upd_same, sh4 (by decide) (by decide) (by decide) (by decide), fun X2 H2 e2 h2 => ?_⟩
        refine ⟨sl4, fun t3 n3 => ?_⟩
        refine ⟨t3, 0, 1, 1, 0, rfl, upd_same, sh4 (by decide) (by decide) (by decide) (by decide), fun X3 H3 e3 h3 => ?_⟩
        refine ⟨sl3, fun L nL => ?_⟩
        have eL := Ex0.new (o := .lst [.ref X1, .ref X2, .ref X3]) nL
        have e3L := ((Ex0.new n3).trans e3).trans eL
        exact ⟨L, X1, X2, X3, rfl, upd_same, Ex0.fo (((Ex0.new n2).trans e2).trans e3L) h1, Ex0.fo e3L h2, Ex0.fo eL h3⟩
      rintro σ H2 ⟨L, X1, X2, X3, rfl, hL, h1, h2, h3⟩
      refine ⟨fun σ H3 => σ = [some (.ref a), y1, y2, some (.ref L)], ?_, ?_⟩
      · refine ⟨_, rfl, sl3, fun t1 n1 x1 dx1 nx1 ndx1 _ => ?_⟩
        have k1 := fun (H : Hp) (n : H t1 = none) => (upd_same : upd H t1 (.tup [.int 2, .int 1, .int 3]) t1 = some (.tup [.int 2, .int 1, .int 3]))
        refine ⟨x1, dx1, t1, [2, 1, 3], rfl, upd_same, made_at nx1 ndx1 (k1 _ n1), rfl, sh3 (by decide) (by decide) (by decide), fun H3 e3 g3 => ⟨rfl, ?_⟩⟩
        obtain ⟨m3, Y1⟩ := fo_made (ns := [2, 1, 3]) nx1 ndx1 (k1 _ n1) e3 g3
        refine ⟨sl3, fun t2 n2 x2 dx2 nx2 ndx2 _ => ?_⟩
        have k2 := fun (H : Hp) (n : H t2 = none) => (upd_same : upd H t2 (.tup [.int 2, .int 0, .int 2]) t2 = some (.tup [.int 2, .int 0, .int 2]))
        refine ⟨x2, dx2, t2, [2, 0, 2], rfl, upd_same, made_at nx2 ndx2 (k2 _ n2), rfl, sh3 (by decide) (by decide) (by decide), fun H4 e4 g4 => ⟨rfl, ?_⟩⟩
        obtain ⟨m4, Y2⟩ := fo_made (ns := [2, 0, 2]) nx2 ndx2 (k2 _ n2) e4 g4
        refine ⟨sl3, fun t3 n3 x3 dx3 nx3 ndx3 _ => ?_⟩
        have k3 := fun (H : Hp) (n : H t3 = none) => (upd_same : upd H t3 (.tup [.int 1, .int 1, .int 1]) t3 = some (.tup [.int 1, .int 1, .int 1]))
        refine ⟨x3, dx3, t3, [1, 1, 1], rfl, upd_same, made_at nx3 ndx3 (k3 _ n3), rfl, sh3 (by decide) (by decide) (by decide), fun H5 e5 g5 => ⟨rfl, ?_⟩⟩
        obtain ⟨m5, Y3⟩ := fo_made (ns := [1, 1, 1]) nx3 ndx3 (k3 _ n3) e5 g5
        refine ⟨sl3, fun L2' nL => ?_⟩
        have eL := Ex0.new (o := .lst [.ref x1, .ref x2, .ref x3]) nL
        have q5 := m5.trans eL
        have q4 := m4.trans ((Ex0.new n3).trans q5)
        have q3 := m3.trans ((Ex0.new n2).trans q4)
        have q2 := (Ex0.new n1).trans q3
        have Z1 := Ex0.fo ((Ex0.new n2).trans q4) Y1
        have Z2 := Ex0.fo ((Ex0.new n3).trans q5) Y2
        have Z3 := Ex0.fo eL Y3
        have W1 := Ex0.fo q2 h1
        have W2 := Ex0.fo q2 h2
        have W3 := Ex0.fo q2 h3
        have pr : ∀ {p q : Addr} {ns : List Int}, FormAt C_Double (upd H5 L2' (.lst [.ref x1, .ref x2, .ref x3])) p ns → FormAt C_Double (upd H5 L2' (.lst [.ref x1, .ref x2, .ref x3])) q ns →
            ∃ dx fs tb, (upd H5 L2' (.lst [.ref x1, .ref x2, .ref x3])) p = some (.ins C_Double dx fs) ∧ TyX K (upd H5 L2' (.lst [.ref x1, .ref x2, .ref x3])) (.ref q) tb ∧ PySem.W.notFirst K C_Double tb = true ∧ sp_Double___eq__ K C_Form C_Double [.ref p, .ref q] (upd H5 L2' (.lst [.ref x1, .ref x2, .ref x3])) (fun v H' => v = .bl true ∧ H' = upd H5 L2' (.lst [.ref x1, .ref x2, .ref x3])) E0 := fun hp hq => by
          obtain ⟨d1, r1, g1, _⟩ := id hp
          obtain ⟨d2, r2, g2, _⟩ := id hq
          exact ⟨d1, _, _, g1, ty_ins T.ty_Double T.cl_Double g2, first_self, _, _, _, _, rfl, hp, hq, by rw [decide_eq_true rfl], rfl⟩
        refine ⟨L, L2', [X1, X2, X3], [x1, x2, x3], rfl, rfl, SqL.of (Ex0.ap q2 hL), SqL.of upd_same, rfl, fun i p q' hp hq => ?_, _, rfl, ?_⟩
        · match i, hp, hq with
          | 0, hp, hq => cases hp; cases hq; exact pr W1 Z1
          | 1, hp, hq => cases hp; cases hq; exact pr W2 Z2
          | 2, hp, hq => cases hp; cases hq; exact pr W3 Z3
        refine iteF ?_
        clear pr W1 W2 W3 Z1 Z2 Z3 q2 q3 q4 q5
        generalize upd H5 L2' (.lst [.ref x1, .ref x2, .ref x3]) = Ha
        refine ⟨_, rfl, _, rfl, sl4, fun t4 n4 => ?_⟩
        refine ⟨t4, 1, 1, -1, -2, rfl, upd_same, sh4 (by decide) (by decide) (by decide) (by decide), fun G1 Hb eb hG1 => ?_⟩
        refine ⟨_, rfl, _, rfl, sl4, fun t5 n5 x5 dx5 nx5 ndx5 _ => ?_⟩
        have k5 := fun (H : Hp) (n : H t5 = none) => (upd_same : upd H t5 (.tup [.int 1, .int 3, .int (-3), .int (-2)]) t5 = some (.tup [.int 1, .int 3, .int (-3), .int (-2)]))
        refine ⟨x5, dx5, t5, [1, 3, -3, -2], rfl, upd_same, made_at nx5 ndx5 (k5 _ n5), rfl, sh4 (by decide) (by decide) (by decide) (by decide), fun Hc ec gc => ⟨rfl, ?_⟩⟩
        obtain ⟨mc, Y5⟩ := fo_made (ns := [1, 3, -3, -2]) nx5 ndx5 (k5 _ n5) ec gc
        have hG1' : FormAt C_Form Hc G1 [1, 3, -3, -2] := Ex0.fo ((Ex0.new n5).trans mc) hG1
        obtain ⟨d1, r1, g1, _⟩ := id hG1'
        obtain ⟨d2, r2, g2, _⟩ := id Y5
        refine ⟨G1, d1, _, _, rfl, g1, ty_ins T.ty_Form T.cl_Form g2, first_self, G1, x5, _, _, rfl, hG1', Y5, _, rfl, _, rfl, ?_⟩
        rw [decide_eq_true rfl]
        exact iteF rfl
      rintro σ H3 rfl
      refine ⟨_, rfl, _, rfl, sl4, fun t1 n1 => ⟨sl2, fun v1 m1 => ⟨sl2, fun v2 m2 => ⟨sl2, fun v3 m3 => ?_⟩⟩⟩⟩
      have z := t4_new m1 m2 m3
      have k1 := fun (H : Hp) (n : H t1 = none) => (upd_same : upd H t1 (.tup [.int 1, .int 1, .int (-1), .int (-2)]) t1 = some (.tup [.int 1, .int 1, .int (-1), .int (-2)]))
      refine ⟨t1, v3, 1, 1, -1, -2, 1, 0, 1, 1, rfl, Ex0.ap z.1 (k1 _ n1), z.2, sh4 (by decide) (by decide) (by decide) (by decide), ⟨⟨by decide, by decide⟩, ⟨by decide, by decide⟩, ⟨by decide, by decide⟩, ⟨by decide, by decide⟩, .inl (by decide)⟩, fun o H4 e4 ho => ?_⟩
      have ho' : Ti H4 o [1, 2, 2, -1] := ho
      refine ⟨_, rfl, sl4, fun t2 n2 => ?_⟩
      refine ⟨.tuple (([1, 2, 2, -1] : List Int).map .int), .tuple (([1, 2, 2, -1] : List Int).map .int), .tup (SqT.of (Ex0.ti (Ex0.new n2) ho')) (dp_ints _), .tup (SqT.of upd_same) (dp_ints [1, 2, 2, -1]), shaped_tints _, shaped_tints _, true, rfl, iteT ?_⟩
      refine ⟨sl4, fun t5 n5 x5 dx5 nx5 ndx5 _ => ?_⟩
      have k5 := fun (H : Hp) (n : H t5 = none) => (upd_same : upd H t5 (.tup [.int 0, .int 0, .int 0, .int 0]) t5 = some (.tup [.int 0, .int 0, .int 0, .int 0]))
      refine ⟨x5, dx5, t5, [0, 0, 0, 0], rfl, upd_same, made_at nx5 ndx5 (k5 _ n5), rfl, sh4 (by decide) (by decide) (by decide) (by decide), fun Hc ec gc => ⟨rfl, ?_⟩⟩
      obtain ⟨mc, Y5⟩ := fo_made (ns := [0, 0, 0, 0]) nx5 ndx5 (k5 _ n5) ec gc
      refine ⟨x5, 0, 0, 0, 0, rfl, Y5, fun o2 Hd ed ho2 => ?_⟩
      refine ⟨sl4, fun t6 n6 => ?_⟩
      refine ⟨.tuple (([0, 0, 0, 0] : List Int).map .int), .tuple (([0, 0, 0, 0] : List Int).map .int), .tup (SqT.of (Ex0.ti (Ex0.new n6) ho2)) (dp_ints _), .tup (SqT.of upd_same) (dp_ints [0, 0, 0, 0]), shaped_tints _, shaped_tints _, ?_⟩
      exact q _
end
def e0 : Hd.Dd := ⟨fun K => He.ga K "is_any_integer", "is_any_integer", "is_any_integer", s_is_any_integer, []⟩
def e1 : Hd.Dd := ⟨fun K => He.ga K "is_short_integer", "is_short_integer", "is_short_integer", s_is_short_integer, []⟩
def e2 : Hd.Dd := ⟨fun K => He.ga K "are_any_integers", "are_any_integers", "are_any_integers", s_are_any_integers, []⟩
def e3 : Hd.Dd := ⟨fun K => He.ga K "are_short_integers", "are_short_integers", "are_short_integers", s_are_short_integers, []⟩
def e4 : Hd.Dd := ⟨fun K => He.ga K "check_integer", "check_integer", "check_integer", s_check_integer, []⟩
def e5 : Hd.Dd := ⟨fun K => He.ga K "determinant_of", "determinant_of", "determinant_of", s_determinant_of, []⟩
def e6 : Hd.Dd := ⟨fun K => He.ga K "is_change", "is_change", "is_change", s_is_change, []⟩
def e7 : Hd.Dd := ⟨fun K => He.ga K "is_short_change", "is_short_change", "is_short_change", s_is_short_change, []⟩
def e8 : Hd.Dd := ⟨fun K => He.ga K "check_change", "check_change", "check_change", s_check_change, []⟩
def e9 : Hd.Dd := ⟨fun K => He.ga K "double_value", "double_value", "double_value", s_double_value, []⟩
def e10 : Hd.Dd := ⟨fun K => He.ga K "double_discriminant", "double_discriminant", "double_discriminant", s_double_discriminant, []⟩
def e11 : Hd.Dd := ⟨fun K => He.ga K "double_led", "double_led", "double_led", s_double_led, []⟩
def e12 : Hd.Dd := ⟨fun K => He.ga K "double_of", "double_of", "double_of", s_double_of, []⟩
def e13 : Hd.Dd := ⟨fun K => He.ma K (He.ga K "Double") "__init__", "__init__", "Double.__init__", s_Double___init__, []⟩
def e14 : Hd.Dd := ⟨fun K => Hd.pa K (He.ga K "Double") "coefficients", "coefficients", "Double.coefficients", s_Double_coefficients, []⟩
def e15 : Hd.Dd := ⟨fun K => Hd.pa K (He.ga K "Double") "discriminant", "discriminant", "Double.discriminant", s_Double_discriminant, []⟩
def e16 : Hd.Dd := ⟨fun K => He.ma K (He.ga K "Double") "__call__", "__call__", "Double.__call__", s_Double___call__, []⟩
def e17 : Hd.Dd := ⟨fun K => He.ma K (He.ga K "Double") "led", "led", "Double.led", s_Double_led, []⟩
def e18 : Hd.Dd := ⟨fun K => He.ma K (He.ga K "Double") "__eq__", "__eq__", "Double.__eq__", s_Double___eq__, []⟩
def e19 : Hd.Dd := ⟨fun K => He.ga K "form_value", "form_value", "form_value", s_form_value, []⟩
def e20 : Hd.Dd := ⟨fun K => He.ga K "form_discriminant", "form_discriminant", "form_discriminant", s_form_discriminant, []⟩
def e21 : Hd.Dd := ⟨fun K => He.ga K "form_hessian", "form_hessian", "form_hessian", s_form_hessian, []⟩
def e22 : Hd.Dd := ⟨fun K => He.ga K "form_led", "form_led", "form_led", s_form_led, []⟩
def e23 : Hd.Dd := ⟨fun K => He.ga K "check_form", "check_form", "check_form", s_check_form, []⟩
def e24 : Hd.Dd := ⟨fun K => He.ga K "form_of", "form_of", "form_of", s_form_of, []⟩
def e25 : Hd.Dd := ⟨fun K => He.ma K (He.ga K "Form") "__init__", "__init__", "Form.__init__", s_Form___init__, []⟩
def e26 : Hd.Dd := ⟨fun K => Hd.pa K (He.ga K "Form") "coefficients", "coefficients", "Form.coefficients", s_Form_coefficients, []⟩
def e27 : Hd.Dd := ⟨fun K => Hd.pa K (He.ga K "Form") "discriminant", "discriminant", "Form.discriminant", s_Form_discriminant, []⟩
def e28 : Hd.Dd := ⟨fun K => Hd.pa K (He.ga K "Form") "hessian", "hessian", "Form.hessian", s_Form_hessian, []⟩
def e29 : Hd.Dd := ⟨fun K => He.ma K (He.ga K "Form") "__call__", "__call__", "Form.__call__", s_Form___call__, []⟩
def e30 : Hd.Dd := ⟨fun K => He.ma K (He.ga K "Form") "led", "led", "Form.led", s_Form_led, []⟩
def e31 : Hd.Dd := ⟨fun K => He.ma K (He.ga K "Form") "__eq__", "__eq__", "Form.__eq__", s_Form___eq__, []⟩
def e32 : Hd.Dd := ⟨fun K => He.ga K "check_threefold", "check_threefold", "check_threefold", s_check_threefold, []⟩
def e33 : Hd.Dd := ⟨fun K => He.ga K "hessian_of", "hessian_of", "hessian_of", s_hessian_of, []⟩
def e34 : Hd.Dd := ⟨fun K => He.ga K "spread", "spread", "spread", s_spread, []⟩
def e35 : Hd.Dd := ⟨fun K => He.ga K "led_by", "led_by", "led_by", s_led_by, []⟩
def e36 : Hd.Dd := ⟨fun K => He.ga K "small_hessian", "small_hessian", "small_hessian", s_small_hessian, []⟩
def e37 : Hd.Dd := ⟨fun K => He.ga K "form_of_threefold", "form_of_threefold", "form_of_threefold", s_form_of_threefold, []⟩
def e38 : Hd.Dd := ⟨fun K => He.ga K "threefold_of_form", "threefold_of_form", "threefold_of_form", s_threefold_of_form, []⟩
def e39 : Hd.Dd := ⟨fun K => He.ga K "threefold_led", "threefold_led", "threefold_led", s_threefold_led, []⟩
def e40 : Hd.Dd := ⟨fun K => He.ga K "_law_kettle", "_law_kettle", "_law_kettle", s_l_kettle, []⟩
def e41 : Hd.Dd := ⟨fun K => He.ga K "_law_sip", "_law_sip", "_law_sip", s_l_sip, []⟩
def e42 : Hd.Dd := ⟨fun K => He.ga K "_law_taken", "_law_taken", "_law_taken", s_l_taken, []⟩
def e43 : Hd.Dd := ⟨fun K => He.ga K "_law_value", "_law_value", "_law_value", s_l_value, []⟩
def e44 : Hd.Dd := ⟨fun K => He.ga K "_law_moved", "_law_moved", "_law_moved", s_l_moved, []⟩
def e45 : Hd.Dd := ⟨fun K => He.ga K "_law_change", "_law_change", "_law_change", s_l_change, []⟩
def e46 : Hd.Dd := ⟨fun K => He.ga K "_law_led", "_law_led", "_law_led", s_l_led, []⟩
def e47 : Hd.Dd := ⟨fun K => He.ga K "_law_small", "_law_small", "_law_small", s_l_small, []⟩
def e48 : Hd.Dd := ⟨fun K => He.ga K "_law_rules_right", "_law_rules_right", "_law_rules_right", s_l_rules_right, []⟩
def e49 : Hd.Dd := ⟨fun K => He.ga K "_law_right", "_law_right", "_law_right", s_l_right, []⟩
def e50 : Hd.Dd := ⟨fun K => He.ga K "law", "law", "law", s_law, []⟩
def dd0 : List Hd.Dd := [e0, e1, e2, e3, e4, e5, e6, e7, e8, e9, e10, e11, e12, e13, e14, e15, e16, e17, e18, e19]
def dd1 : List Hd.Dd := [e20, e21, e22, e23, e24, e25, e26, e27, e28, e29, e30, e31, e32, e33, e34, e35, e36, e37, e38, e39]
def dd2 : List Hd.Dd := [e40, e41, e42, e43, e44, e45, e46, e47, e48, e49, e50]
def dd : List Hd.Dd := dd0 ++ (dd1 ++ (dd2))
def g0 : Hd.Fb := fun K => (fun K => (He.Fa.glo "Form").ok K) K
def g1 : Hd.Fb := fun K => (fun K => (He.Fa.cls "Form").ok K) K
def g2 : Hd.Fb := fun K => Hd.tyB "Form" K
def g3 : Hd.Fb := fun K => (fun K => (He.Fa.noat "Form" "_coefficients").ok K) K
def g4 : Hd.Fb := fun K => (fun K => (He.Fa.glo "Double").ok K) K
def g5 : Hd.Fb := fun K => (fun K => (He.Fa.cls "Double").ok K) K
def g6 : Hd.Fb := fun K => Hd.tyB "Double" K
def g7 : Hd.Fb := fun K => (fun K => (He.Fa.noat "Double" "_coefficients").ok K) K
def g8 : Hd.Fb := fun K => (fun K => (He.Fa.glo "is_any_integer").ok K) K
def g9 : Hd.Fb := fun K => (fun K => (He.Fa.glo "is_short_integer").ok K) K
def g10 : Hd.Fb := fun K => (fun K => (He.Fa.glo "are_any_integers").ok K) K
def g11 : Hd.Fb := fun K => (fun K => (He.Fa.glo "are_short_integers").ok K) K
def g12 : Hd.Fb := fun K => (fun K => (He.Fa.glo "check_integer").ok K) K
def g13 : Hd.Fb := fun K => (fun K => (He.Fa.glo "determinant_of").ok K) K
def g14 : Hd.Fb := fun K => (fun K => (He.Fa.glo "is_change").ok K) K
def g15 : Hd.Fb := fun K => (fun K => (He.Fa.glo "is_short_change").ok K) K
def g16 : Hd.Fb := fun K => (fun K => (He.Fa.glo "check_change").ok K) K
def g17 : Hd.Fb := fun K => (fun K => (He.Fa.glo "double_value").ok K) K
def g18 : Hd.Fb := fun K => (fun K => (He.Fa.glo "double_discriminant").ok K) K
def g19 : Hd.Fb := fun K => (fun K => (He.Fa.glo "double_led").ok K) K
def g20 : Hd.Fb := fun K => (fun K => (He.Fa.glo "double_of").ok K) K
def g21 : Hd.Fb := fun K => (fun K => (He.Fa.mkr "Double").ok K) K
def g22 : Hd.Fb := fun K => Hd.propB "Double" "coefficients" K
def g23 : Hd.Fb := fun K => Hd.propB "Double" "discriminant" K
def g24 : Hd.Fb := fun K => Hd.callB "Double" K
def g25 : Hd.Fb := fun K => (fun K => (He.Fa.meth "Double" "led").ok K) K
def g26 : Hd.Fb := fun K => Hd.eqB "Double" K
def g27 : Hd.Fb := fun K => (fun K => (He.Fa.glo "form_value").ok K) K
def g28 : Hd.Fb := fun K => (fun K => (He.Fa.glo "form_discriminant").ok K) K
def g29 : Hd.Fb := fun K => (fun K => (He.Fa.glo "form_hessian").ok K) K
def g30 : Hd.Fb := fun K => (fun K => (He.Fa.glo "form_led").ok K) K
def g31 : Hd.Fb := fun K => (fun K => (He.Fa.glo "check_form").ok K) K
def g32 : Hd.Fb := fun K => (fun K => (He.Fa.glo "form_of").ok K) K
def g33 : Hd.Fb := fun K => (fun K => (He.Fa.mkr "Form").ok K) K
def g34 : Hd.Fb := fun K => Hd.propB "Form" "coefficients" K
def g35 : Hd.Fb := fun K => Hd.propB "Form" "discriminant" K
def g36 : Hd.Fb := fun K => Hd.propB "Form" "hessian" K
def g37 : Hd.Fb := fun K => Hd.callB "Form" K
def g38 : Hd.Fb := fun K => (fun K => (He.Fa.meth "Form" "led").ok K) K
def g39 : Hd.Fb := fun K => Hd.eqB "Form" K
def g40 : Hd.Fb := fun K => (fun K => (He.Fa.glo "check_threefold").ok K) K
def g41 : Hd.Fb := fun K => (fun K => (He.Fa.glo "hessian_of").ok K) K
def g42 : Hd.Fb := fun K => (fun K => (He.Fa.glo "spread").ok K) K
def g43 : Hd.Fb := fun K => (fun K => (He.Fa.glo "led_by").ok K) K
def g44 : Hd.Fb := fun K => (fun K => (He.Fa.glo "small_hessian").ok K) K
def g45 : Hd.Fb := fun K => (fun K => (He.Fa.glo "form_of_threefold").ok K) K
def g46 : Hd.Fb := fun K => (fun K => (He.Fa.glo "threefold_of_form").ok K) K
def g47 : Hd.Fb := fun K => (fun K => (He.Fa.glo "threefold_led").ok K) K
def g48 : Hd.Fb := fun K => (fun K => (He.Fa.glo "_law_kettle").ok K) K
def g49 : Hd.Fb := fun K => (fun K => (He.Fa.glo "_law_sip").ok K) K
def g50 : Hd.Fb := fun K => (fun K => (He.Fa.glo "_law_taken").ok K) K
def g51 : Hd.Fb := fun K => (fun K => (He.Fa.glo "_law_value").ok K) K
def g52 : Hd.Fb := fun K => (fun K => (He.Fa.glo "_law_moved").ok K) K
def g53 : Hd.Fb := fun K => (fun K => (He.Fa.glo "_law_change").ok K) K
def g54 : Hd.Fb := fun K => (fun K => (He.Fa.glo "_law_led").ok K) K
def g55 : Hd.Fb := fun K => (fun K => (He.Fa.glo "_law_small").ok K) K
def g56 : Hd.Fb := fun K => (fun K => (He.Fa.glo "_law_rules_right").ok K) K
def g57 : Hd.Fb := fun K => (fun K => (He.Fa.glo "_law_right").ok K) K
def g58 : Hd.Fb := fun K => (fun K => (He.Fa.glo "law").ok K) K
def g59 : Hd.Fb := fun K => (fun K => (He.Fa.free "abs").ok K) K
def g60 : Hd.Fb := fun K => (fun K => (He.Fa.free "all").ok K) K
def g61 : Hd.Fb := fun K => (fun K => (He.Fa.free "bool").ok K) K
def g62 : Hd.Fb := fun K => (fun K => (He.Fa.free "int").ok K) K
def g63 : Hd.Fb := fun K => (fun K => (He.Fa.free "isinstance").ok K) K
def g64 : Hd.Fb := fun K => (fun K => (He.Fa.free "len").ok K) K
def g65 : Hd.Fb := fun K => (fun K => (He.Fa.free "max").ok K) K
def g66 : Hd.Fb := fun K => (fun K => (He.Fa.free "min").ok K) K
def g67 : Hd.Fb := fun K => (fun K => (He.Fa.free "range").ok K) K
def g68 : Hd.Fb := fun K => (fun K => (He.Fa.free "tuple").ok K) K
def g69 : Hd.Fb := fun K => (fun K => (He.Fa.int "LIMIT" (1000000000000000000000000000000000000000000000000000000000000)).ok K) K
def fa0 : List Hd.Fb := [g0, g1, g2, g3, g4, g5, g6, g7, g8, g9, g10, g11, g12, g13, g14, g15, g16, g17, g18, g19]
def fa1 : List Hd.Fb := [g20, g21, g22, g23, g24, g25, g26, g27, g28, g29, g30, g31, g32, g33, g34, g35, g36, g37, g38, g39]
def fa2 : List Hd.Fb := [g40, g41, g42, g43, g44, g45, g46, g47, g48, g49, g50, g51, g52, g53, g54, g55, g56, g57, g58, g59]
def fa3 : List Hd.Fb := [g60, g61, g62, g63, g64, g65, g66, g67, g68, g69]
def fa : List Hd.Fb := fa0 ++ (fa1 ++ (fa2 ++ (fa3)))
def names0 : List Str := ["_wall", "__name__", "RingError", "InvalidForm", "InvalidChange", "InvalidDouble", "InvalidOperation", "ParseError", "InvalidNumber", "Refused", "DIGITS", "LIMIT", "is_any_integer", "is_short_integer", "is_between", "are_any_integers", "are_short_integers", "is_written_integer", "check_integer", "check_between", "determinant_of", "is_change", "is_short_change", "check_change", "double_value", "double_discriminant", "double_led", "double_of", "Double", "form_value"]
def names1 : List Str := ["form_discriminant", "form_hessian", "form_led", "check_form", "form_of", "Form", "check_threefold", "hessian_of", "spread", "led_by", "small_hessian", "form_of_threefold", "threefold_of_form", "threefold_led", "_law_kettle", "_law_sip", "_law_taken", "_law_value", "_law_moved", "_law_change", "_law_led", "_law_small", "_law_rules_right", "_law_right"]
def names : List Str := names0 ++ (names1)
abbrev RR : PySem.W.OpenRow := PySem.W.OpenLaw.row PySem.Challenge.rw_formrings_k88_whole_small_hessians
abbrev vw : Program := PySem.W.view RR.prog [60]
abbrev hk : PySem.W.Hook := Hd.hookM 5 fa dd
def ob (s : PySem.W.SharedT) : Hd.AlM := Hd.obsMG 5 fa dd (HandSHeadRun.getT s)
theorem ob_eq (s : PySem.W.SharedT) : ob s = hk.obs s.abs := Hd.obsMG_eq (HandSHeadRun.getT_eq s)
theorem run (w : World) : HandSHeadRun.RunEq RR vw hk ob 9000 names w := by
  intro os
  kernel_rfl
theorem facts {P : Program} {w : World} {K : PySem.W.Frag} {h : Heap} {mg : Str → Option Value} {f : Addr} (X : K.In h) (G : h.Ns mainGlobals mg) (hfa : mg ("law" : Str) = some (.ref f)) (c : Hd.SaysM fa dd K) :
    ∃ fd : FuncData, (∀ (s : Shared) (v : Value), BindsTo s fd ⟨[v], []⟩ [("_law_script", v)]) ∧ ∀ base : Heap, K.In base → base.Ns mainGlobals mg → FnOk P w K mg base CX0 11 f fd ["_law_script"] (sp_lawW K) := by
  obtain ⟨fd0, F0⟩ := c.def_ 0 (d := e0) rfl
  obtain ⟨fd1, F1⟩ := c.def_ 1 (d := e1) rfl
  obtain ⟨fd2, F2⟩ := c.def_ 2 (d := e2) rfl
  obtain ⟨fd3, F3⟩ := c.def_ 3 (d := e3) rfl
  obtain ⟨fd4, F4⟩ := c.def_ 4 (d := e4) rfl
  obtain ⟨fd5, F5⟩ := c.def_ 5 (d := e5) rfl
  obtain ⟨fd6, F6⟩ := c.def_ 6 (d := e6) rfl
  obtain ⟨fd7, F7⟩ := c.def_ 7 (d := e7) rfl
  obtain ⟨fd8, F8⟩ := c.def_ 8 (d := e8) rfl
  obtain ⟨fd9, F9⟩ := c.def_ 9 (d := e9) rfl
  obtain ⟨fd10, F10⟩ := c.def_ 10 (d := e10) rfl
  obtain ⟨fd11, F11⟩ := c.def_ 11 (d := e11) rfl
  obtain ⟨fd12, F12⟩ := c.def_ 12 (d := e12) rfl
  obtain ⟨fd13, F13⟩ := c.def_ 13 (d := e13) rfl
  obtain ⟨fd14, F14⟩ := c.def_ 14 (d := e14) rfl
  obtain ⟨fd15, F15⟩ := c.def_ 15 (d := e15) rfl
  obtain ⟨fd16, F16⟩ := c.def_ 16 (d := e16) rfl
  obtain ⟨fd17, F17⟩ := c.def_ 17 (d := e17) rfl
  obtain ⟨fd18, F18⟩ := c.def_ 18 (d := e18) rfl
  obtain ⟨fd19, F19⟩ := c.def_ 19 (d := e19) rfl
  obtain ⟨fd20, F20⟩ := c.def_ 20 (d := e20) rfl
  obtain ⟨fd21, F21⟩ := c.def_ 21 (d := e21) rfl
  obtain ⟨fd22, F22⟩ := c.def_ 22 (d := e22) rfl
  obtain ⟨fd23, F23⟩ := c.def_ 23 (d := e23) rfl
  obtain ⟨fd24, F24⟩ := c.def_ 24 (d := e24) rfl
  obtain ⟨fd25, F25⟩ := c.def_ 25 (d := e25) rfl
  obtain ⟨fd26, F26⟩ := c.def_ 26 (d := e26) rfl
  obtain ⟨fd27, F27⟩ := c.def_ 27 (d := e27) rfl
  obtain ⟨fd28, F28⟩ := c.def_ 28 (d := e28) rfl
  obtain ⟨fd29, F29⟩ := c.def_ 29 (d := e29) rfl
  obtain ⟨fd30, F30⟩ := c.def_ 30 (d := e30) rfl
  obtain ⟨fd31, F31⟩ := c.def_ 31 (d := e31) rfl
  obtain ⟨fd32, F32⟩ := c.def_ 32 (d := e32) rfl
  obtain ⟨fd33, F33⟩ := c.def_ 33 (d := e33) rfl
  obtain ⟨fd34, F34⟩ := c.def_ 34 (d := e34) rfl
  obtain ⟨fd35, F35⟩ := c.def_ 35 (d := e35) rfl
  obtain ⟨fd36, F36⟩ := c.def_ 36 (d := e36) rfl
  obtain ⟨fd37, F37⟩ := c.def_ 37 (d := e37) rfl
  obtain ⟨fd38, F38⟩ := c.def_ 38 (d := e38) rfl
  obtain ⟨fd39, F39⟩ := c.def_ 39 (d := e39) rfl
  obtain ⟨fd40, F40⟩ := c.def_ 40 (d := e40) rfl
  obtain ⟨fd41, F41⟩ := c.def_ 41 (d := e41) rfl
  obtain ⟨fd42, F42⟩ := c.def_ 42 (d := e42) rfl
  obtain ⟨fd43, F43⟩ := c.def_ 43 (d := e43) rfl
  obtain ⟨fd44, F44⟩ := c.def_ 44 (d := e44) rfl
  obtain ⟨fd45, F45⟩ := c.def_ 45 (d := e45) rfl
  obtain ⟨fd46, F46⟩ := c.def_ 46 (d := e46) rfl
  obtain ⟨fd47, F47⟩ := c.def_ 47 (d := e47) rfl
  obtain ⟨fd48, F48⟩ := c.def_ 48 (d := e48) rfl
  obtain ⟨fd49, F49⟩ := c.def_ 49 (d := e49) rfl
  obtain ⟨fd50, F50⟩ := c.def_ 50 (d := e50) rfl
  have T : Txt K mg (He.ga K "Form") (He.ga K "Double") := ⟨He.glo_ok X G (c.fact 0 (f := g0) rfl),
    He.cls_ok (c.fact 1 (f := g1) rfl),
    Hd.ty_ok (c.fact 2 (f := g2) rfl),
    He.noat_ok (c.fact 3 (f := g3) rfl),
    He.glo_ok X G (c.fact 4 (f := g4) rfl),
    He.cls_ok (c.fact 5 (f := g5) rfl),
    Hd.ty_ok (c.fact 6 (f := g6) rfl),
    He.noat_ok (c.fact 7 (f := g7) rfl),
    ⟨_, _, He.glo_ok X G (c.fact 8 (f := g8) rfl), Hd.fun_of F0⟩,
    ⟨_, _, He.glo_ok X G (c.fact 9 (f := g9) rfl), Hd.fun_of F1⟩,
    ⟨_, _, He.glo_ok X G (c.fact 10 (f := g10) rfl), Hd.fun_of F2⟩,
    ⟨_, _, He.glo_ok X G (c.fact 11 (f := g11) rfl), Hd.fun_of F3⟩,
    ⟨_, _, He.glo_ok X G (c.fact 12 (f := g12) rfl), Hd.fun_of F4⟩,
    ⟨_, _, He.glo_ok X G (c.fact 13 (f := g13) rfl), Hd.fun_of F5⟩,
    ⟨_, _, He.glo_ok X G (c.fact 14 (f := g14) rfl), Hd.fun_of F6⟩,
    ⟨_, _, He.glo_ok X G (c.fact 15 (f := g15) rfl), Hd.fun_of F7⟩,
    ⟨_, _, He.glo_ok X G (c.fact 16 (f := g16) rfl), Hd.fun_of F8⟩,
    ⟨_, _, He.glo_ok X G (c.fact 17 (f := g17) rfl), Hd.fun_of F9⟩,
    ⟨_, _, He.glo_ok X G (c.fact 18 (f := g18) rfl), Hd.fun_of F10⟩,
    ⟨_, _, He.glo_ok X G (c.fact 19 (f := g19) rfl), Hd.fun_of F11⟩,
    ⟨_, _, He.glo_ok X G (c.fact 20 (f := g20) rfl), Hd.fun_of F12⟩,
    ⟨He.ga K "Double", _, _, He.mkr_ok (c.fact 21 (f := g21) rfl), Hd.fun_of F13⟩,
    ⟨_, _, _, Hd.prop_ok (c.fact 22 (f := g22) rfl), Hd.fun_of F14⟩,
    ⟨_, _, _, Hd.prop_ok (c.fact 23 (f := g23) rfl), Hd.fun_of F15⟩,
    ⟨He.ga K "Double", _, _, Hd.call_ok (c.fact 24 (f := g24) rfl), Hd.fun_of F16⟩,
    ⟨He.ga K "Double", _, _, He.meth_ok (c.fact 25 (f := g25) rfl), Hd.fun_of F17⟩,
    ⟨He.ga K "Double", _, _, Hd.eq_ok (c.fact 26 (f := g26) rfl), Hd.fun_of F18⟩,
    ⟨_, _, He.glo_ok X G (c.fact 27 (f := g27) rfl), Hd.fun_of F19⟩,
    ⟨_, _, He.glo_ok X G (c.fact 28 (f := g28) rfl), Hd.fun_of F20⟩,
    ⟨_, _, He.glo_ok X G (c.fact 29 (f := g29) rfl), Hd.fun_of F21⟩,
    ⟨_, _, He.glo_ok X G (c.fact 30 (f := g30) rfl), Hd.fun_of F22⟩,
    ⟨_, _, He.glo_ok X G (c.fact 31 (f := g31) rfl), Hd.fun_of F23⟩,
    ⟨_, _, He.glo_ok X G (c.fact 32 (f := g32) rfl), Hd.fun_of F24⟩,
    ⟨He.ga K "Form", _, _, He.mkr_ok (c.fact 33 (f := g33) rfl), Hd.fun_of F25⟩,
    ⟨_, _, _, Hd.prop_ok (c.fact 34 (f := g34) rfl), Hd.fun_of F26⟩,
    ⟨_, _, _, Hd.prop_ok (c.fact 35 (f := g35) rfl), Hd.fun_of F27⟩,
    ⟨_, _, _, Hd.prop_ok (c.fact 36 (f := g36) rfl), Hd.fun_of F28⟩,
    ⟨He.ga K "Form", _, _, Hd.call_ok (c.fact 37 (f := g37) rfl), Hd.fun_of F29⟩,
    ⟨He.ga K "Form", _, _, He.meth_ok (c.fact 38 (f := g38) rfl), Hd.fun_of F30⟩,
    ⟨He.ga K "Form", _, _, Hd.eq_ok (c.fact 39 (f := g39) rfl), Hd.fun_of F31⟩,
    ⟨_, _, He.glo_ok X G (c.fact 40 (f := g40) rfl), Hd.fun_of F32⟩,
    ⟨_, _, He.glo_ok X G (c.fact 41 (f := g41) rfl), Hd.fun_of F33⟩,
    ⟨_, _, He.glo_ok X G (c.fact 42 (f := g42) rfl), Hd.fun_of F34⟩,
    ⟨_, _, He.glo_ok X G (c.fact 43 (f := g43) rfl), Hd.fun_of F35⟩,
    ⟨_, _, He.glo_ok X G (c.fact 44 (f := g44) rfl), Hd.fun_of F36⟩,
    ⟨_, _, He.glo_ok X G (c.fact 45 (f := g45) rfl), Hd.fun_of F37⟩,
    ⟨_, _, He.glo_ok X G (c.fact 46 (f := g46) rfl), Hd.fun_of F38⟩,
    ⟨_, _, He.glo_ok X G (c.fact 47 (f := g47) rfl), Hd.fun_of F39⟩,
    ⟨_, _, He.glo_ok X G (c.fact 48 (f := g48) rfl), Hd.fun_of F40⟩,
    ⟨_, _, He.glo_ok X G (c.fact 49 (f := g49) rfl), Hd.fun_of F41⟩,
    ⟨_, _, He.glo_ok X G (c.fact 50 (f := g50) rfl), Hd.fun_of F42⟩,
    ⟨_, _, He.glo_ok X G (c.fact 51 (f := g51) rfl), Hd.fun_of F43⟩,
    ⟨_, _, He.glo_ok X G (c.fact 52 (f := g52) rfl), Hd.fun_of F44⟩,
    ⟨_, _, He.glo_ok X G (c.fact 53 (f := g53) rfl), Hd.fun_of F45⟩,
    ⟨_, _, He.glo_ok X G (c.fact 54 (f := g54) rfl), Hd.fun_of F46⟩,
    ⟨_, _, He.glo_ok X G (c.fact 55 (f := g55) rfl), Hd.fun_of F47⟩,
    ⟨_, _, He.glo_ok X G (c.fact 56 (f := g56) rfl), Hd.fun_of F48⟩,
    ⟨_, _, He.glo_ok X G (c.fact 57 (f := g57) rfl), Hd.fun_of F49⟩,
    ⟨_, _, He.glo_ok X G (c.fact 58 (f := g58) rfl), Hd.fun_of F50⟩,
    He.free_ok X G (c.fact 59 (f := g59) rfl),
    He.free_ok X G (c.fact 60 (f := g60) rfl),
    He.free_ok X G (c.fact 61 (f := g61) rfl),
    He.free_ok X G (c.fact 62 (f := g62) rfl),
    He.free_ok X G (c.fact 63 (f := g63) rfl),
    He.free_ok X G (c.fact 64 (f := g64) rfl),
    He.free_ok X G (c.fact 65 (f := g65) rfl),
    He.free_ok X G (c.fact 66 (f := g66) rfl),
    He.free_ok X G (c.fact 67 (f := g67) rfl),
    He.free_ok X G (c.fact 68 (f := g68) rfl),
    He.int_ok X G (c.fact 69 (f := g69) rfl)⟩
  have e := hfa.symm.trans (He.glo_ok X G (c.fact 58 (f := g58) rfl))
  cases e
  have b := FunD.bindsA (ps := ["_law_script"]) F50 fun _ _ _ _ _ _ us hl => match us, hl with | [_], _ => rfl
  exact ⟨fd50, fun s v => b s [v] rfl, fun base _ _ => ok_law0 (P := P) (w := w) (base := base) T (Hd.fun_of F50)⟩
end TF
open PySem PySem.W PySem.Calls PyProof.Rows
set_option maxHeartbeats 0 in
theorem PySem.Challenge.cw_formrings_k88_whole_small_hessians_holds : PySem.Challenge.rw_formrings_k88_whole_small_hessians.Holds := by
  w_on; o_law
  refine HandSHeadRun.head_any (r := OpenLaw.row PySem.Challenge.rw_formrings_k88_whole_small_hessians) (q := TF.vw) (H := TF.hk) (ob := TF.ob) (M := 9000) (loose := TF.names) (d := HandSHeadRun.topDef (OpenLaw.row PySem.Challenge.rw_formrings_k88_whole_small_hessians).prog 60) (kwd := []) TF.ob_eq (by kernel_rfl) (fun s => by kernel_rfl) TF.run (by kernel_rfl) (by kernel_rfl) (by kernel_rfl) (by rfl) (by first | assumption | decide +kernel) (by decide +kernel) ⟨rfl, rfl, rfl, rfl, rfl, by decide +kernel⟩ ?hw ?hc
  case hw => w_witness2
  case hc =>
    refine L2.walk_ofE (l := PySem.Challenge.rw_formrings_k88_whole_small_hessians) (n := 63) (k := 11) (x := "_law_script") (CX := L2.CX0) rfl (by decide) (by kernel_rfl) ⟨rfl, by decide, by decide⟩ ?F (fun _ _ _ _ z => z)
    intro w mg fa h Y G hmg0
    obtain ⟨K, KX, c⟩ := Y
    have hmg : mg ("law" : PySem.Str) = some (.ref fa) := by
      have e : (HandSHeadRun.topDef (OpenLaw.row PySem.Challenge.rw_formrings_k88_whole_small_hessians).prog 60).name = ("law" : PySem.Str) := by kernel_rfl
      rw [← e]
      exact hmg0
    obtain ⟨fd, hb, hF⟩ := TF.facts (P := (PySem.Challenge.rw_formrings_k88_whole_small_hessians).prog) (w := w) KX G hmg c
    exact ⟨K, fd, TF.sp_lawW K, KX, hb, fun H a ns hl _ hS => ⟨a, ns, rfl, hS, hl, fun _ => rfl⟩, hF⟩
