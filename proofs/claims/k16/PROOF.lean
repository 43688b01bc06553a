import PyProof.Rows.All
import Wide.All
import OpenK.AllK
import Wide.FinOn
import HandS.ForMost
import HandS.Wide
import HandS.WideBits
import HandS.Gcd
import HandS.IsInst
import HandS.Style
import HandS.Evl
import Flt.RightSqrt
import HandS.More
import HandS.OwnEq
import HandS.Property
import HandS.Star
import KE.KOpsOwn
import OpenK.KMeth
import HandS.Walk
import HandS.Zip
import KE.GoesEnum
import KE.GoesZip
import KE.GoesMore
import HandS.Defaults
import KE.IntBitsLaws
import HandS.TupMul
import HandS.TupAny
import HandS.TryOnly
import KE.KStateDown
import HandS.Base
import HandS.Call
import HandS.Ends
import HandS.Words
import HandS.Head0
import HandS.Head1
import HandS.Head2
import HandS.Head3
import HandS.HeadEnd
import HandS.HeadHook1
import HandS.HeadHook2
import PySem.Challenge.RW_formrings_k16_whole_trace_tables
set_option Elab.async false
set_option linter.all false
set_option maxRecDepth 100000
set_option maxHeartbeats 4000000
namespace Fr
open PySem PySem.Spec PyProof.Rows L2
open Evl (Ex)
def Def (P : Program) (w : World) (K : PySem.W.Frag) (mg : Str → Option Value) (base : Heap) (k : Nat) (x : Str) (ps : List Str) (sp : Sp) : Prop :=
  ∃ f fd, mg x = some (.ref f) ∧ PySem.W.keepIn K (.ref f) = true ∧ Binds K fd ps [] ∧ FnOk P w K mg base CX0 k f fd ps sp
structure Fm (S : Addr → Prop) (I : Hp → Prop) : Prop where
  fresh : ∀ {H D}, I H → H D = none → ¬ S D
  stay : ∀ {H D o}, ¬ S D → I H → I (upd H D o)
def Fx (S : Addr → Prop) (I : Hp → Prop) (H H' : Hp) : Prop := I H' ∧ ∀ b o, ¬ S b → H b = some o → H' b = some o
section
variable {S : Addr → Prop} {I : Hp → Prop} {H H1 H2 : Hp}
theorem Fx.refl (i : I H) : Fx S I H H := ⟨i, fun _ _ _ h => h⟩
theorem Fx.trans (a : Fx S I H H1) (b : Fx S I H1 H2) : Fx S I H H2 := ⟨b.1, fun x o n h => b.2 x o n (a.2 x o n h)⟩
theorem Fx.new (m : Fm S I) (i : I H) {p : Addr} {o : HO} (h : H p = none) : Fx S I H (upd H p o) := ⟨m.stay (m.fresh i h) i, fun b u _ e => by
  rw [upd_ne (ne_of_none e h)]
  exact e⟩
theorem Fx.mut (m : Fm S I) (a : Fx S I H H1) (i : I H) {p : Addr} {o : HO} (h : H p = none) : Fx S I H (upd H1 p o) := ⟨m.stay (m.fresh i h) a.1, fun b u n e => by
  rw [upd_ne (ne_of_none e h)]
  exact a.2 b u n e⟩
theorem Fx.at (a : Fx S I H H1) {p : Addr} {o : HO} (n : ¬ S p) (h : H p = some o) : H1 p = some o := a.2 p o n h
theorem Fx.sqT {K : PySem.W.Frag} (a : Fx S I H H1) {p : Addr} {xs : List V} (n : ¬ S p) (h : SqT K H p xs) : SqT K H1 p xs := by
  rcases h with (h | ⟨o, h⟩) | h
  · exact .inl (.inl (a.2 _ _ n h))
  · exact .inl (.inr ⟨o, a.2 _ _ n h⟩)
  · exact .inr h
theorem Fx.sqL {K : PySem.W.Frag} (a : Fx S I H H1) {p : Addr} {xs : List V} (n : ¬ S p) (h : SqL K H p xs) : SqL K H1 p xs := by
  rcases h with (h | ⟨o, h⟩) | h
  · exact .inl (.inl (a.2 _ _ n h))
  · exact .inl (.inr ⟨o, a.2 _ _ n h⟩)
  · exact .inr h
theorem Fx.free (a : Fx S I H H1) {p : Addr} (n : ¬ S p) (h : H1 p = none) : H p = none := by
  cases e : H p with
  | none => rfl
  | some o => rw [a.2 p o n e] at h; cases h
theorem Fx.free' (m : Fm S I) (a : Fx S I H H1) {p : Addr} (h : H1 p = none) : H p = none := a.free (m.fresh a.1 h) h
end
abbrev S0 : Addr → Prop := fun _ => False
abbrev I0 : Hp → Prop := fun _ => True
theorem fm0 : Fm S0 I0 := ⟨fun _ _ h => h, fun _ _ => trivial⟩
abbrev Ex0 : Hp → Hp → Prop := Fx S0 I0
theorem Ex0.of {H H' : Hp} (h : ∀ b o, H b = some o → H' b = some o) : Ex0 H H' := ⟨trivial, fun b o _ e => h b o e⟩
theorem Ex0.ap {H H' : Hp} (h : Ex0 H H') {b : Addr} {o : HO} (e : H b = some o) : H' b = some o := h.2 b o (fun z => z) e
theorem Ex0.refl (H : Hp) : Ex0 H H := Fx.refl trivial
theorem Ex0.new {H : Hp} {p : Addr} {o : HO} (h : H p = none) : Ex0 H (upd H p o) := Fx.new fm0 trivial h
def Cs (S : Addr → Prop) (I : Hp → Prop) (H : Hp) (P : Nat → List V → Hp → Prop) (D : Addr) (i : Nat) (H' : Hp) : Prop := Fx S I H H' ∧ ∃ acc, H' D = some (.lst acc) ∧ acc.length ≤ i ∧ P i acc H'
section
variable {K : PySem.W.Frag} {S : Addr → Prop} {I : Hp → Prop} {σ : L2.St} {H : Hp} {Q : Addr → Hp → Prop} {te : TE} {vs : List Nat} {g : TG} {tt : TT} {P : Nat → List V → Hp → Prop}
theorem cs_yes (m : Fm S I) (i0 : I H) {D : Addr} {i : Nat} {acc : List V} {H' H4 : Hp} {y : V} (hD : H D = none) (p1 : Fx S I H H') (p2 : H' D = some (.lst acc)) (p3 : acc.length ≤ i) (hi : i < 1000000) (e : Fx S I H' H4) (h : P (i + 1) (acc ++ [y]) (upd H4 D (.lst (acc ++ [y])))) :
    ∃ acc', H4 D = some (.lst acc') ∧ acc'.length < sizeLine ∧ Cs S I H P D (i + 1) (upd H4 D (.lst (acc' ++ [y]))) :=
  ⟨acc, e.2 _ _ (m.fresh i0 hD) p2, Nat.lt_of_le_of_lt p3 (Nat.lt_of_lt_of_le hi (by decide)), Fx.mut m (p1.trans e) i0 hD, _, upd_same, by rw [List.length_append]; exact Nat.add_le_add_right p3 1, h⟩
theorem cs_no (m : Fm S I) (i0 : I H) {D : Addr} {i : Nat} {acc : List V} {H' H4 : Hp} (hD : H D = none) (p1 : Fx S I H H') (p2 : H' D = some (.lst acc)) (p3 : acc.length ≤ i) (e : Fx S I H' H4) (h : P (i + 1) acc H4) : Cs S I H P D (i + 1) H4 :=
  ⟨p1.trans e, acc, e.2 _ _ (m.fresh i0 hD) p2, Nat.le_succ_of_le p3, h⟩
theorem lcT (m : Fm S I) (i0 : I H) {a : Addr} {xs : List V} (hx : SqT K H a xs) (ha : ¬ S a) (P : Nat → List V → Hp → Prop) (p0 : ∀ D, H D = none → P 0 [] (upd H D (.lst [])))
    (hs : ∀ D i x acc H', H D = none → xs[i]? = some x → Fx S I H H' → H' D = some (.lst acc) → acc.length ≤ i → P i acc H' → g x (wipe σ vs) H' fun σ2 H2 => wipe σ2 vs = wipe σ vs ∧ tt σ2 H2 fun b H3 =>
      if b = true then te σ2 H3 fun y H4 => ∃ acc, H4 D = some (.lst acc) ∧ acc.length < sizeLine ∧ Cs S I H P D (i + 1) (upd H4 D (.lst (acc ++ [y]))) else Cs S I H P D (i + 1) H3)
    (q : ∀ D H' acc, H D = none → Fx S I H H' → H' D = some (.lst acc) → P xs.length acc H' → Q D H') :
    ∀ D, H D = none → ∃ W : Nat → Nat → Hp → Prop, (∃ m, W 0 m (upd H D (.lst []))) ∧ ∀ i m H, W i m H →
      ((Itt K a).stop i H ∧ Q D H) ∨ ((Itt K a).go i H ∧ ∃ Nx : Hp → Prop, (∀ H', Nx H' → ∃ m', m' < m ∧ W (i + 1) m' H') ∧ ∀ x H', (Itt K a).yld i H x H' → g x (wipe σ vs) H' fun σ2 H2 => wipe σ2 vs = wipe σ vs ∧ tt σ2 H2 fun b H3 =>
        if b = true then te σ2 H3 fun y H4 => ∃ acc, H4 D = some (.lst acc) ∧ acc.length < sizeLine ∧ Nx (upd H4 D (.lst (acc ++ [y]))) else Nx H3) := fun D hD =>
  lc_tup (xs := xs) (Cs S I H P D) ⟨Fx.new m i0 hD, [], upd_same, Nat.le_refl _, p0 D hD⟩ (fun i H' _ p => p.1.sqT ha hx)
    (fun i x H' hi p => by
      obtain ⟨p1, acc, p2, p3, p4⟩ := p
      exact hs D i x acc H' hD hi p1 p2 p3 p4)
    (fun H' p => by
      obtain ⟨p1, acc, p2, p3, p4⟩ := p
      exact q D H' acc hD p1 p2 p4)
theorem lcL (m : Fm S I) (i0 : I H) {a : Addr} {xs : List V} (hx : SqL K H a xs) (ha : ¬ S a) (P : Nat → List V → Hp → Prop) (p0 : ∀ D, H D = none → P 0 [] (upd H D (.lst [])))
    (hs : ∀ D i x acc H', H D = none → xs[i]? = some x → Fx S I H H' → H' D = some (.lst acc) → acc.length ≤ i → P i acc H' → g x (wipe σ vs) H' fun σ2 H2 => wipe σ2 vs = wipe σ vs ∧ tt σ2 H2 fun b H3 =>
      if b = true then te σ2 H3 fun y H4 => ∃ acc, H4 D = some (.lst acc) ∧ acc.length < sizeLine ∧ Cs S I H P D (i + 1) (upd H4 D (.lst (acc ++ [y]))) else Cs S I H P D (i + 1) H3)
    (q : ∀ D H' acc, H D = none → Fx S I H H' → H' D = some (.lst acc) → P xs.length acc H' → Q D H') :
    ∀ D, H D = none → ∃ W : Nat → Nat → Hp → Prop, (∃ m, W 0 m (upd H D (.lst []))) ∧ ∀ i m H, W i m H →
      ((Itl K a).stop i H ∧ Q D H) ∨ ((Itl K a).go i H ∧ ∃ Nx : Hp → Prop, (∀ H', Nx H' → ∃ m', m' < m ∧ W (i + 1) m' H') ∧ ∀ x H', (Itl K a).yld i H x H' → g x (wipe σ vs) H' fun σ2 H2 => wipe σ2 vs = wipe σ vs ∧ tt σ2 H2 fun b H3 =>
        if b = true then te σ2 H3 fun y H4 => ∃ acc, H4 D = some (.lst acc) ∧ acc.length < sizeLine ∧ Nx (upd H4 D (.lst (acc ++ [y]))) else Nx H3) := fun D hD =>
  lc_list (xs := xs) (Cs S I H P D) ⟨Fx.new m i0 hD, [], upd_same, Nat.le_refl _, p0 D hD⟩ (fun i H' _ p => p.1.sqL ha hx)
    (fun i x H' hi p => by
      obtain ⟨p1, acc, p2, p3, p4⟩ := p
      exact hs D i x acc H' hD hi p1 p2 p3 p4)
    (fun H' p => by
      obtain ⟨p1, acc, p2, p3, p4⟩ := p
      exact q D H' acc hD p1 p2 p4)
theorem lcR (m : Fm S I) (i0 : I H) {lo : Int} {n : Nat} (P : Nat → List V → Hp → Prop) (p0 : ∀ D, H D = none → P 0 [] (upd H D (.lst [])))
    (hs : ∀ D i acc H', H D = none → i < n → Fx S I H H' → H' D = some (.lst acc) → acc.length ≤ i → P i acc H' → g (.int (lo + i)) (wipe σ vs) H' fun σ2 H2 => wipe σ2 vs = wipe σ vs ∧ tt σ2 H2 fun b H3 =>
      if b = true then te σ2 H3 fun y H4 => ∃ acc, H4 D = some (.lst acc) ∧ acc.length < sizeLine ∧ Cs S I H P D (i + 1) (upd H4 D (.lst (acc ++ [y]))) else Cs S I H P D (i + 1) H3)
    (q : ∀ D H' acc, H D = none → Fx S I H H' → H' D = some (.lst acc) → P n acc H' → Q D H') :
    ∀ D, H D = none → ∃ W : Nat → Nat → Hp → Prop, (∃ m, W 0 m (upd H D (.lst []))) ∧ ∀ i m H, W i m H →
      ((Itr lo n).stop i H ∧ Q D H) ∨ ((Itr lo n).go i H ∧ ∃ Nx : Hp → Prop, (∀ H', Nx H' → ∃ m', m' < m ∧ W (i + 1) m' H') ∧ ∀ x H', (Itr lo n).yld i H x H' → g x (wipe σ vs) H' fun σ2 H2 => wipe σ2 vs = wipe σ vs ∧ tt σ2 H2 fun b H3 =>
        if b = true then te σ2 H3 fun y H4 => ∃ acc, H4 D = some (.lst acc) ∧ acc.length < sizeLine ∧ Nx (upd H4 D (.lst (acc ++ [y]))) else Nx H3) := fun D hD =>
  lc_range (lo := lo) (n := n) (Cs S I H P D) ⟨Fx.new m i0 hD, [], upd_same, Nat.le_refl _, p0 D hD⟩
    (fun i H' hi p => by
      obtain ⟨p1, acc, p2, p3, p4⟩ := p
      exact hs D i acc H' hD hi p1 p2 p3 p4)
    (fun H' p => by
      obtain ⟨p1, acc, p2, p3, p4⟩ := p
      exact q D H' acc hD p1 p2 p4)
end
theorem log_lt {i : Int} {a : Nat} (h : i.natAbs < 2 ^ a) (h0 : 0 < a) : i.natAbs.log2 < a := by
  by_cases z : i.natAbs = 0
  · rw [z]
    exact h0
  · exact (Nat.log2_lt z).mpr h
theorem mw {i j : Int} (h1 : -(2 ^ 250) < i) (h2 : i < 2 ^ 250) (h3 : -(2 ^ 250) < j) (h4 : j < 2 ^ 250) : CMulW i j :=
  wide_mul (a := 250) (b := 250) (by omega) (by omega) (by decide) (by decide) (by decide)
theorem dw {i j : Int} (h : 0 < j) (h4 : j < 2 ^ 250) : CDivW i j := wide_div (b := 250) h (by omega) (by decide) (by decide)
theorem iteB {b : Bool} {A B : Prop} (h1 : b = true → A) (h2 : b = false → B) : if b = true then A else B := by
  cases b with
  | true => rw [if_pos rfl]; exact h1 rfl
  | false => rw [if_neg Bool.false_ne_true]; exact h2 rfl
theorem iteD {c : Prop} [Decidable c] {A B : Prop} (h1 : c → A) (h2 : ¬ c → B) : if decide c = true then A else B :=
  iteB (fun h => h1 (of_decide_eq_true h)) (fun h => h2 (of_decide_eq_false h))
theorem iteN {c : Prop} [Decidable c] {A B : Prop} (h1 : ¬ c → A) (h2 : c → B) : if (!decide c) = true then A else B := by
  by_cases h : c
  · rw [decide_eq_true h]; exact iteF (h2 h)
  · rw [decide_eq_false h]; exact iteT (h1 h)
theorem dT {c : Prop} [Decidable c] {A B : Prop} (h : c) (a : A) : if decide c = true then A else B := by rw [decide_eq_true h, if_pos rfl]; exact a
theorem dF {c : Prop} [Decidable c] {A B : Prop} (h : ¬ c) (a : B) : if decide c = true then A else B := by rw [decide_eq_false h, if_neg Bool.false_ne_true]; exact a
theorem ndT {c : Prop} [Decidable c] {A B : Prop} (h : ¬ c) (a : A) : if (!decide c) = true then A else B := by rw [decide_eq_false h]; exact iteT a
theorem ndF {c : Prop} [Decidable c] {A B : Prop} (h : c) (a : B) : if (!decide c) = true then A else B := by rw [decide_eq_true h]; exact iteF a
theorem sl1 : 1 ≤ sizeLine := by decide
theorem sl2 : 2 ≤ sizeLine := by decide
theorem sl3 : 3 ≤ sizeLine := by decide
theorem sl4 : 4 ≤ sizeLine := by decide
theorem sl5 : 5 ≤ sizeLine := by decide
theorem sl6 : 6 ≤ sizeLine := by decide
theorem sl8 : 8 ≤ sizeLine := by decide
theorem slN {n : Nat} (h : n ≤ 1000000) : n ≤ sizeLine := Nat.le_trans h (by decide)
section
variable {X : Cx}
def rIsqrt : List V → Hp → VK → Prop := fun vs H Q => ∃ a : Int, vs = [.int a] ∧ 0 ≤ a ∧ a < 2 ^ 64 ∧ ∀ r : Int, 0 ≤ r → r * r ≤ a → a < (r + 1) * (r + 1) → Q (.int r) H
theorem cr_isqrt : CallR X (.builtin "math.isqrt") rIsqrt := by
  intro pins s σ H vs us Q I r h
  obtain ⟨a, rfl, h0, h1, q⟩ := h
  obtain ⟨u, rfl, ru⟩ := Vals.one r
  obtain ⟨t, rfl⟩ := ru
  have sp := PySem.Float64.isqrt_spec a.toNat
  refine PySem.W.mg_isqrt h0 h1 ⟨.int _, H, I.tok _, ⟨_, rfl⟩, q _ (Int.natCast_nonneg _) ?_ ?_⟩
  · have := sp.1
    have e : ((Float64.isqrt a.toNat * Float64.isqrt a.toNat : Nat) : Int) ≤ (a.toNat : Int) := Int.ofNat_le.mpr this
    rw [Int.toNat_of_nonneg h0] at e
    simpa using e
  · have := sp.2
    have e : (a.toNat : Int) < (((Float64.isqrt a.toNat + 1) * (Float64.isqrt a.toNat + 1) : Nat) : Int) := Int.ofNat_lt.mpr this
    rw [Int.toNat_of_nonneg h0] at e
    simpa using e
end
end Fr
namespace Fr
open PySem PySem.Spec PyProof.Rows L2
section
variable {X : Cx}
def CPowC (i j : Int) : Prop := 0 ≤ j ∧ (Builtin.Int.intBits i : Int) * j ≤ 2 ^ 27
theorem op_powC : OpR X (binaryOp .Pow) (rI CPowC fun i j => .int (i ^ j.toNat)) := opI fun _ _ _ _ _ _ _ hc q => PyProof.Rows.pow_int hc.1 hc.2 q
end
end Fr
namespace Fr
open PySem PySem.Spec PyProof.Rows L2
theorem deI {i j : Int} : decide (V.int i = V.int j) = decide (i = j) := by
  rw [dec_int]
  rfl
theorem iteE {i j : Int} {A B : Prop} (h1 : i = j → A) (h2 : i ≠ j → B) : if decide (V.int i = V.int j) = true then A else B := by
  rw [deI]
  exact iteD h1 h2
theorem iteEn {i j : Int} {A B : Prop} (h1 : i ≠ j → A) (h2 : i = j → B) : if (!decide (V.int i = V.int j)) = true then A else B := by
  rw [deI]
  exact iteN h1 h2
end Fr
namespace Fr
open PySem PySem.Spec PyProof.Rows L2
def inb (lo hi : Int) : V → Bool
  | .int i => decide (lo ≤ i) && decide (i ≤ hi)
  | _ => false
theorem in_b {lo hi : Int} {xs : List V} {v : V} (hv : v ∈ xs) (h : xs.all (inb lo hi) = true) : ∃ f : Int, v = .int f ∧ lo ≤ f ∧ f ≤ hi := by
  have := List.all_eq_true.mp h v hv
  cases v with
  | int i =>
    unfold inb at this
    rw [Bool.and_eq_true, decide_eq_true_iff, decide_eq_true_iff] at this
    exact ⟨i, rfl, this.1, this.2⟩
  | _ => cases this
theorem shaped_ints (ns : List Int) : SeqAt.shaped (.list (ns.map .int)) = true := by
  have h : PyData.canLayAll0 (ns.map PyData.int) = true ∧ PyData.depthAll (ns.map PyData.int) ≤ 1 := by
    induction ns with
    | nil => exact ⟨rfl, by simp [PyData.depthAll]⟩
    | cons n r ih =>
      refine ⟨?_, ?_⟩
      · rw [List.map_cons, PyData.canLayAll0, PyData.canLay0, ih.1]; rfl
      · rw [List.map_cons, PyData.depthAll, PyData.depth]; exact Nat.max_le.mpr ⟨by decide, ih.2⟩
  unfold SeqAt.shaped
  rw [PyData.canLay0, PyData.depth, h.1]
  simp
  omega
theorem dp_ints {K : PySem.W.Frag} {H : Hp} : ∀ ns : List Int, DpAll K H (ns.map V.int) (ns.map PyData.int)
  | [] => .nil
  | n :: r => .cons (.int n) (dp_ints r)
theorem eqv_ints : ∀ ns ms : List Int, PyData.eqvAll (ns.map PyData.int) (ms.map PyData.int) = decide (ns = ms)
  | [], [] => rfl
  | [], m :: ms => rfl
  | n :: ns, [] => rfl
  | n :: ns, m :: ms => by
    rw [List.map_cons, List.map_cons, PyData.eqvAll, PyData.eqv, eqv_ints ns ms]
    apply Bool.eq_iff_iff.mpr
    simp
def pr2 (q : Nat × Nat) : PyData := .tuple [.int (q.1 : Int), .int (q.2 : Int)]
theorem shaped_prs (fs : List (Nat × Nat)) : SeqAt.shaped (.tuple (fs.map pr2)) = true := by
  have h : PyData.canLayAll0 (fs.map pr2) = true ∧ PyData.depthAll (fs.map pr2) ≤ 2 := by
    induction fs with
    | nil => exact ⟨rfl, by simp [PyData.depthAll]⟩
    | cons n r ih =>
      refine ⟨?_, ?_⟩
      · rw [List.map_cons, PyData.canLayAll0, ih.1]; simp [pr2, PyData.canLay0, PyData.canLayAll0]
      · rw [List.map_cons, PyData.depthAll]; exact Nat.max_le.mpr ⟨by simp [pr2, PyData.depth, PyData.depthAll], ih.2⟩
  unfold SeqAt.shaped
  rw [PyData.canLay0, PyData.depth, h.1]
  simp
  omega
theorem eqv_prs : ∀ fs gs : List (Nat × Nat), PyData.eqvAll (fs.map pr2) (gs.map pr2) = decide (fs = gs)
  | [], [] => rfl
  | [], m :: ms => rfl
  | n :: ns, [] => rfl
  | (a, b) :: ns, (c, d) :: ms => by
    rw [List.map_cons, List.map_cons, PyData.eqvAll, eqv_prs ns ms]
    apply Bool.eq_iff_iff.mpr
    simp [pr2, PyData.eqv, PyData.eqvAll]
    omega
end Fr
namespace Fr
open PySem PySem.Spec PyProof.Rows L2
def B (a : Nat) (i : Int) : Prop := i.natAbs < 2 ^ a ∧ 0 < a
theorem two_pow_two {a : Nat} (h : 0 < a) : 2 ≤ 2 ^ a := by
  obtain ⟨k, rfl⟩ : ∃ k, a = k + 1 := ⟨a - 1, by omega⟩
  rw [Nat.pow_succ]
  have := Nat.two_pow_pos k
  omega
theorem pow_sum {a b : Nat} (ha : 0 < a) (hb : 0 < b) : 2 ^ a + 2 ^ b ≤ 2 ^ (a + b) := by
  rw [Nat.pow_add]
  have h1 := two_pow_two ha
  have h2 := two_pow_two hb
  generalize 2 ^ a = x at *
  generalize 2 ^ b = y at *
  have := Nat.mul_le_mul h1 (Nat.le_refl y)
  have := Nat.mul_le_mul (Nat.le_refl x) h2
  rcases Nat.le_total x y with h | h <;> omega
theorem B.mul {a b : Nat} {i j : Int} (h1 : B a i) (h2 : B b j) : B (a + b) (i * j) := ⟨wide_lt h1.1 h2.1, Nat.add_pos_left h1.2 _⟩
theorem B.add {a b : Nat} {i j : Int} (h1 : B a i) (h2 : B b j) : B (a + b) (i + j) :=
  ⟨Nat.lt_of_lt_of_le (by have := h1.1; have := h2.1; omega : (i + j).natAbs < 2 ^ a + 2 ^ b) (pow_sum h1.2 h2.2), Nat.add_pos_left h1.2 _⟩
theorem B.sub {a b : Nat} {i j : Int} (h1 : B a i) (h2 : B b j) : B (a + b) (i - j) :=
  ⟨Nat.lt_of_lt_of_le (by have := h1.1; have := h2.1; omega : (i - j).natAbs < 2 ^ a + 2 ^ b) (pow_sum h1.2 h2.2), Nat.add_pos_left h1.2 _⟩
theorem B.neg {a : Nat} {i : Int} (h1 : B a i) : B a (-i) := ⟨by rw [Int.natAbs_neg]; exact h1.1, h1.2⟩
theorem B.lit {i : Int} (h : i.natAbs < 2 ^ 64) : B 64 i := ⟨h, by decide⟩
theorem B.mono {a b : Nat} {i : Int} (h : B a i) (hab : a ≤ b) : B b i := ⟨Nat.lt_of_lt_of_le h.1 (Nat.pow_le_pow_right (by decide) hab), Nat.lt_of_lt_of_le h.2 hab⟩
theorem mulB {a b : Nat} {i j : Int} (h1 : B a i) (h2 : B b j) (h : a + b ≤ 1000000) : CMulW i j := wide_mul h1.1 h2.1 h1.2 h2.2 h
end Fr
namespace Fr
open PySem PySem.Spec PyProof.Rows L2
theorem shaped_tints (ns : List Int) : SeqAt.shaped (.tuple (ns.map .int)) = true := by
  have h : PyData.canLayAll0 (ns.map .int) = true ∧ PyData.depthAll (ns.map .int) ≤ 1 := by
    induction ns with
    | nil => exact ⟨rfl, by simp [PyData.depthAll]⟩
    | cons n r ih =>
      refine ⟨?_, ?_⟩
      · rw [List.map_cons, PyData.canLayAll0, ih.1]; simp [PyData.canLay0]
      · rw [List.map_cons, PyData.depthAll]; exact Nat.max_le.mpr ⟨by simp [PyData.depth], ih.2⟩
  unfold SeqAt.shaped
  rw [PyData.canLay0, PyData.depth, h.1]
  simp
  omega
end Fr
namespace Fr
open PySem PySem.Spec PyProof.Rows L2
section
variable {M : Model} {prog : Program} {w : World} {A : Around} {E : Value → Shared → Prop} {s : Shared} {K : PySem.W.Frag} {x C f : Addr} {ox : Obj} {od : Option Obj}
theorem ifBound_ne {args : List Value} {Q : Option Value → Shared → Prop} (X : K.In s.heap) (I : PySem.W.InstAt s.heap x ox C od) (hs : PySem.W.findIn K (.ref C) "__ne__" = some (some (.builtin "object.__ne__")))
    (h : wpAny M A (call (.builtin "object.__ne__") (.ref x :: args)) (fun v => Q (some v)) E s) : wpAny M A (callSpecialIfBound? (.ref x) "__ne__" args) Q E s := by
  simp only [callSpecialIfBound?, bindSpecialIfBound?]
  refine wpAny_holding (wpAny_bind (wpAny_bind (wpAny_bind (I.type.here ((PySem.W.looks_findIn X hs).here ?_)))))
  refine wpAny_bind (wpAny_askSetting (wpAny_ite ?_))
  have fin : wpAny M A (call (.builtin "object.__ne__") ([.ref x] ++ args) >>= fun v => pure (some v)) Q E s := wpAny_bind (wpAny_mono h (fun v s' h' => wpAny_pure h') fun _ _ h' => h')
  split
  · exact wpAny_bind (wpAny_of_eq (F.cmp_object.ne.bind _) (wpAny_pure (by exact fin)))
  · exact wpAny_tryCatch (wpAny_bind (wpAny_of_eq (F.cmp_object.ne.bind _) (wpAny_pure (by exact fin))))
def NeB (Q : Value → Shared → Prop) (v : Value) (s' : Shared) : Prop := ∃ b, v = .bool b ∧ Q (.bool (!b)) s'
theorem entry_ne {b : Value} {Q : Fin → Shared → Prop} (hu : A.units < cLine) (X : K.In s.heap) (I : PySem.W.InstAt s.heap x ox C od) (hs : PySem.W.findIn K (.ref C) "__eq__" = some (some (.ref f))) (hf : PySem.W.isFn K (.ref f) = true)
    (h : wpAny (model prog w) A (call (.ref f) [.ref x, b]) (NeB fun v s' => Q (.done (.ret v)) s') E s) : wpAny (model prog w) A (Builtin.«object.__ne__» ⟨[.ref x, b], []⟩) Q E s := by
  unfold Builtin.«object.__ne__»
  repeat (first | with_reducible refine wpAny_cRoomFor hu ?_ | (refine wpAny_bind (PySem.W.ifBound_K X I hs hf (wpAny_mono h (fun v s' hv => ?_) fun _ _ e => e))) | wp_step)
  all_goals (obtain ⟨b', rfl, q⟩ := hv)
  all_goals (repeat (first | wp_step))
  all_goals exact q
theorem ne_K {h₀ : Heap} {L : Addr} {m : Str → Option Value} {b tb : Value} {Q : Value → Shared → Prop} (hu : A.units + 1 < cLine) (F : Fr h₀ L s.heap m) (X₀ : K.In h₀) (I : PySem.W.InstAt s.heap x ox C od) (hb : PySem.W.Looks (model prog w) s.heap (typeOf b) tb) (hn : PySem.W.notFirst K C tb = true)
    (hne : PySem.W.findIn K (.ref C) "__ne__" = some (some (.builtin "object.__ne__"))) (hs : PySem.W.findIn K (.ref C) "__eq__" = some (some (.ref f))) (hf : PySem.W.isFn K (.ref f) = true) (hm : PySem.W.mroIn K C (.type "object") = some true)
    (h : wpAny (model prog w) A.in1 (call (.ref f) [.ref x, b]) (NeB Q) E s) : wpAny (model prog w) A (richCompare .NotEq (.ref x) b) Q E s := by
  have X := X₀.keeps F.keep
  have one : wpAny (model prog w) A (tryCompare (.ref x) "__ne__" b) (fun r s' => ∃ v, r = some v ∧ Q v s') E s := by
    unfold tryCompare
    refine wpAny_bind (ifBound_ne X I hne (wpAny_call (codeAny_call_builtin PySem.F.cmp_object.ne.plain PySem.F.cmpEntry_ne (PySem.W.check_slot PySem.F.cmpKind_ne PySem.F.cmpSplit_ne (I.type.andThen (PySem.W.looks_mroIn X hm)) (PySem.F.cmpArgs_ne _ _) ?_))))
    refine entry_ne (A := A.in1) hu X I hs hf (wpAny_mono h (fun v s' hv => ?_) fun _ _ e => e)
    obtain ⟨b', rfl, q⟩ := hv
    exact ⟨b', rfl, wpAny_pure ⟨_, rfl, q⟩⟩
  unfold richCompare
  simp only [oneThing_ref]
  refine wpAny_holding (wpAny_bind (wpAny_cRoomFor (Nat.lt_of_succ_lt hu) ?_))
  refine wpAny_bind (I.type.here (wpAny_bind (hb.here ?_)))
  split
  · rename_i q
    have e : PySem.W.subIn K tb (.ref C) = some false := by
      rcases Bool.or_eq_true_iff.mp hn with e | e
      · rw [beq_iff_eq.mp e] at q; simp at q
      · exact beq_iff_eq.mp e
    refine wpAny_bind ((PySem.W.looks_subIn X e).here ?_)
    simp only [Bool.false_eq_true, if_false]
    refine wpAny_bind (wpAny_mono one (fun r s' z => ?_) fun _ _ e => e)
    obtain ⟨v, rfl, hq⟩ := z
    exact wpAny_pure hq
  · refine wpAny_bind (wpAny_pure ?_)
    simp only [Bool.false_eq_true, if_false]
    refine wpAny_bind (wpAny_mono one (fun r s' z => ?_) fun _ _ e => e)
    obtain ⟨v, rfl, hq⟩ := z
    exact wpAny_pure hq
end
section
variable {X : Cx} {CX : CXT} {C f : Addr} {fd : FuncData} {ps : List Str} {k : Nat} {sp : Sp} {E : XK}
structure EqC (K : PySem.W.Frag) (C f : Addr) : Prop where
  eq : PySem.W.findIn K (.ref C) "__eq__" = some (some (.ref f))
  fn : PySem.W.isFn K (.ref f) = true
  ne : PySem.W.findIn K (.ref C) "__ne__" = some (some (.builtin "object.__ne__"))
  mo : PySem.W.mroIn K C (.type "object") = some true
def rEqI (K : PySem.W.Frag) (C : Addr) (sp : Sp) (E : XK) (neg : Bool) : R2 := fun x y H Q => ∃ a dx fs tb, x = .ref a ∧ H a = some (.ins C dx fs) ∧ TyX K H y tb ∧ PySem.W.notFirst K C tb = true ∧ sp [x, y] H (fun v H' => ∃ b, v = .bl b ∧ Q (.bl (if neg = true then !b else b)) H') E
theorem op_eqI (c : EqC X.K C f) (F : FnOk X.prog X.w X.K X.mg X.base CX k f fd ps sp) (hb : Binds X.K fd ps []) (hr : Room k X.A) (hx : Passes CX X E) : OpR X (compareOp .Eq) (rEqI X.K C sp E false) := by
  intro pins s σ H x y v u Q I rx ry h
  obtain ⟨a, dx, fs, tb, rfl, ha, ty, hn, q⟩ := h
  cases (show v = Value.ref a from rx)
  obtain ⟨mA, J, _⟩ := ins_get I.hok ha
  obtain ⟨od, J, _⟩ := J.look
  obtain ⟨m, hF⟩ := I.fr
  obtain ⟨P, kt, hP, _⟩ := kit_of I ry ty
  refine PySem.W.cmp_K (op := .Eq) hr.units0 hF I.ok.mod.kin J (kt.ty _ _ I.kIn hP) hn c.eq c.fn ?_
  refine wpAny_mono (run_fn (us := [.ref a, u]) (vs := [.ref a, y]) F hr hb .nil hx I (.cons rfl (.cons ry .nil)) q) (fun w s' z => ?_) fun _ _ x => x
  obtain ⟨z', H', I', rz, b, rfl, qz⟩ := z
  cases (show w = Value.bool b from rz)
  exact ⟨.bl b, H', I', rfl, qz⟩
theorem op_neI (c : EqC X.K C f) (F : FnOk X.prog X.w X.K X.mg X.base CX k f fd ps sp) (hb : Binds X.K fd ps []) (hr : Room (k + 1) X.A) (hx : Passes CX X E) : OpR X (compareOp .NotEq) (rEqI X.K C sp E true) := by
  intro pins s σ H x y v u Q I rx ry h
  obtain ⟨a, dx, fs, tb, rfl, ha, ty, hn, q⟩ := h
  cases (show v = Value.ref a from rx)
  obtain ⟨mA, J, _⟩ := ins_get I.hok ha
  obtain ⟨od, J, _⟩ := J.look
  obtain ⟨m, hF⟩ := I.fr
  obtain ⟨P, kt, hP, _⟩ := kit_of I ry ty
  refine ne_K (Nat.lt_of_le_of_lt (Nat.add_le_add_left (by decide : 1 ≤ 64) _) hr.units) hF I.ok.mod.kin J (kt.ty _ _ I.kIn hP) hn c.ne c.eq c.fn c.mo ?_
  refine wpAny_call (codeAny_mono ((F.raw hb .nil) X.A.in1 X.stack s H [.ref a, u] [.ref a, y] _ E hr.in1 I.env0.in1 (.cons rfl (.cons ry .nil)) q) fun r s' hq => ?_)
  cases r with
  | error e => exact hx pins σ H s e s' I hq
  | ok fl =>
    cases fl with
    | ret w =>
      obtain ⟨z', H', I', rz, b, rfl, qz⟩ := I.after hq
      cases (show w = Value.bool b from rz)
      exact ⟨b, rfl, .bl (!b), H', I', rfl, qz⟩
    | next => exact False.elim hq
    | brk => exact False.elim hq
    | cont => exact False.elim hq
structure TyI (K : PySem.W.Frag) (C : Addr) : Prop where
  ca : PySem.W.findIn K (.ref C) "__class__" = some (some (.builtin "object.__class__"))
  cn : PySem.W.specialIn K (.builtin "object.__class__") "__get__" = some (some (.builtin "getset_descriptor.__get__"))
  ct : PySem.W.takesIn K (.builtin "object.__class__") = some true
  cm : PySem.W.mroIn K C (.type "object") = some true
theorem ty_ins {K : PySem.W.Frag} {C a dx : Addr} {H : Hp} {fs : List (Str × V)} (t : TyI K C) (cl : Cls K C) (e : H a = some (.ins C dx fs)) : TyX K H (.ref a) (.ref C) := .base (.ins e cl t.ca t.cn t.ct t.cm)
theorem first_self {K : PySem.W.Frag} {C : Addr} : PySem.W.notFirst K C (.ref C) = true := by simp [PySem.W.notFirst]
theorem kit_self {K : PySem.W.Frag} {C : Addr} : PySem.W.kitOne K (.ref C) (.ref C) = some true := by simp [PySem.W.kitOne]
theorem un_negI (c : Meth X.K C "__neg__" f) (F : FnOk X.prog X.w X.K X.mg X.base CX k f fd ps sp) (hb : Binds X.K fd ps []) (hr : Room k X.A) (hx : Passes CX X E) :
    UnR X (unaryOp .USub) (fun x H Q => ∃ a dx fs, x = .ref a ∧ H a = some (.ins C dx fs) ∧ sp [x] H Q E) := by
  intro pins s σ H x v Q I rx h
  obtain ⟨a, dx, fs, rfl, ha, q⟩ := h
  cases (show v = Value.ref a from rx)
  obtain ⟨mA, J, _⟩ := ins_get I.hok ha
  obtain ⟨od, J, _⟩ := J.look
  obtain ⟨m, hF⟩ := I.fr
  exact PySem.W.ksp_neg hF I.ok.mod.kin J c.at_ c.fn (run_fn (us := [.ref a]) (vs := [.ref a]) F hr hb .nil hx I (.cons rfl .nil) q)
def MDef (R : Addr → Addr → Prop) (P : Program) (w : World) (K : PySem.W.Frag) (mg : Str → Option Value) (base : Heap) (k : Nat) (ps : List Str) (sp : Sp) : Prop :=
  ∃ p f fd, R p f ∧ Binds K fd ps [] ∧ FnOk P w K mg base CX0 k f fd ps sp
end
section
variable {X : Cx} {K : PySem.W.Frag}
theorem call_isiKK (hK : X.K = K) : CallR X (.builtin "isinstance") (rIsi K) := hK ▸ call_isi
end
end Fr
set_option Elab.async false
set_option linter.all false
set_option maxRecDepth 100000
set_option maxHeartbeats 1000000
namespace Fr
open PySem PySem.Spec PyProof.Rows L2
section
variable {X : Cx} {CX : CXT} {C f : Addr} {fd : FuncData} {ps : List Str} {k : Nat} {sp : Sp} {E : XK}
structure BinC (K : PySem.W.Frag) (C : Addr) (m : Str) (f : Addr) : Prop where
  at_ : PySem.W.findIn K (.ref C) m = some (some (.ref f))
  fn : PySem.W.isFn K (.ref f) = true
  sf : PySem.W.selfFirst K C = true
def rBinI (C : Addr) (sp : Sp) (E : XK) : R2 := fun x y H Q => ∃ a b dx dy fx fy, x = .ref a ∧ y = .ref b ∧ H a = some (.ins C dx fx) ∧ H b = some (.ins C dy fy) ∧ sp [x, y] H (fun v H' => (∃ r, v = .ref r) ∧ Q v H') E
theorem op_binI {op : Operator} (c : BinC X.K C (PySem.dunder op.info.2) f) (F : FnOk X.prog X.w X.K X.mg X.base CX k f fd ps sp) (hb : Binds X.K fd ps []) (hr : Room k X.A) (hx : Passes CX X E) : OpR X (binaryOp op) (rBinI C sp E) := by
  intro pins s σ H x y v u Q I rx ry h
  obtain ⟨a, b, dx, dy, fx, fy, rfl, rfl, ha, hbb, q⟩ := h
  cases (show v = Value.ref a from rx)
  cases (show u = Value.ref b from ry)
  obtain ⟨mA, J, _⟩ := ins_get I.hok ha
  obtain ⟨od, J, _⟩ := J.look
  obtain ⟨mB, J2, _⟩ := ins_get I.hok hbb
  obtain ⟨od2, J2, _⟩ := J2.look
  obtain ⟨m, hF⟩ := I.fr
  refine PySem.W.binop_K hF I.ok.mod.kin J J2.type c.sf c.at_ c.fn ?_
  refine wpAny_mono (run_fn (us := [.ref a, .ref b]) (vs := [.ref a, .ref b]) F hr hb .nil hx I (.cons rfl (.cons rfl .nil)) q) (fun w s' z => ?_) fun _ _ x => x
  obtain ⟨z', H', I', rz, ⟨r, rfl⟩, qz⟩ := z
  cases (show w = Value.ref r from rz)
  exact ⟨.ref r, H', I', rfl, qz⟩
def MDefD (R : Addr → Addr → Prop) (P : Program) (w : World) (K : PySem.W.Frag) (mg : Str → Option Value) (base : Heap) (k : Nat) (ps : List Str) (dvs : List V) (sp : Sp) : Prop :=
  ∃ p f fd ds, R p f ∧ Binds K fd ps [] ∧ Vals dvs ds ∧ Binds K fd ps ds ∧ FnOk P w K mg base CX0 k f fd ps sp
variable {K : PySem.W.Frag}
theorem pi_tupK (hK : X.K = K) {tg l : Expr} {tl : TE} (hl : PE X l tl) : PI X tg l (iTup K tl) := hK ▸ pi_tup hl
theorem pi_listK (hK : X.K = K) {tg l : Expr} {tl : TE} (hl : PE X l tl) : PI X tg l (iList K tl) := hK ▸ pi_list hl
theorem ix_tupK (hK : X.K = K) : IxR X (rIxT K) := hK ▸ ix_tup
theorem ix_listK (hK : X.K = K) : IxR X (rIxL K) := hK ▸ ix_list
def rTupOf (K : PySem.W.Frag) : List V → Hp → VK → Prop := fun xs H Q => ∃ p ys, xs = [.ref p] ∧ ((SqL K H p ys ∧ ∀ l, H l = none → Q (.ref l) (upd H l (.tup ys))) ∨ (SqT K H p ys ∧ Q (.ref p) H))
theorem call_tuple_ofK (hK : X.K = K) : CallR X (.type "tuple") (rTupOf K) := hK ▸ call_tuple_of
theorem cr_sumK (hK : X.K = K) (hc : X.calm = true) : CallR X (.builtin "sum") (rSum K) := hK ▸ cr_sum hc
theorem cr_allK (hK : X.K = K) (hc : X.calm = true) : CallR X (.builtin "all") (rAll K) := hK ▸ cr_all hc
end
end Fr
set_option Elab.async false
set_option linter.all false
set_option maxRecDepth 100000
namespace Fr
open PySem PySem.Spec PyProof.Rows L2
set_option maxHeartbeats 1000000 in
theorem meets_en1 {v : Value} {o : Obj} {H : Heap → Prop} (B : Begins v o H) :
    Meets (Builtin.«enumerate.__new__» ⟨[.type "enumerate", v], []⟩) (fun _ R s => H s.heap ∧
      R (.ok (.ret (.ref (s.heap.push o).objs.size))) { s with heap := (s.heap.push o).push { cls := .type "enumerate", data := .fields #[.none, .bool false, .ref s.heap.objs.size, rawInt 0, .none, .none] } }) :=
  .of_wp fun prog w A R s h => by
    obtain ⟨hp, g, d, tk, os⟩ := s; obtain ⟨h1, h⟩ := h
    have hsub := sub_enumerate
    have q1 : ∀ {A' : Around} {E : Value → Shared → Prop} {Q : Value → Shared → Prop}, Q (.ref hp.objs.size) ⟨hp.push o, g, d, tk, os⟩ → wpAny (model prog w) A' (pyIter v) Q E ⟨hp, g, d, tk, os⟩ :=
      fun q => B.iter prog w _ _ ⟨hp, g, d, tk, os⟩ _ h1 q
    wp_walk using q1
    refine wpAny_stack_any fun st => wpAny_pure ?_
    split
    · rename_i c _ _ _ _ _
      cases (c == Value.type "enumerate")
      · wp_walk using q1
        exact ⟨_, rfl, h⟩
      · wp_walk using q1
        exact ⟨_, rfl, h⟩
    · wp_walk using q1
      exact ⟨_, rfl, h⟩
theorem call_en1 {prog : Program} {w : World} {A : Around} {E : Value → Shared → Prop} {s : Shared} {v : Value} {o : Obj} {H : Heap → Prop} {Q : Value → Shared → Prop} (B : Begins v o H) (h1 : H s.heap)
    (h : ∀ h', IsEnum h' (s.heap.objs.size + 1) s.heap.objs.size 0 .none → h'.get? s.heap.objs.size = some o → h'.objs.size = s.heap.objs.size + 2 →
      (∀ b o, s.heap.get? b = some o → h'.get? b = some o) → Q (.ref (s.heap.objs.size + 1)) { s with heap := h' }) :
    wpAny (model prog w) A (call (.type "enumerate") [v]) Q E s := by
  refine callType_new F.called_enumerate (by decide) (F.typeCall_enumerate_1 _) (F.newCall_enumerate_1 _) (fun obj => F.args_object_init_2 obj _) F.entry_enumerate_new (meets_en1 B) ⟨h1, ?_⟩
  have hz : (s.heap.push o).objs.size = s.heap.objs.size + 1 := Heap.size_push ..
  show _ ∧ _
  rw [hz]
  have he : IsEnum ((s.heap.push o).push { cls := .type "enumerate", data := .fields #[.none, .bool false, .ref s.heap.objs.size, rawInt 0, .none, .none] }) (s.heap.objs.size + 1) s.heap.objs.size 0 .none := by
    have := Heap.get?_push_size (s.heap.push o) (o := { cls := .type "enumerate", data := .fields #[.none, .bool false, .ref s.heap.objs.size, rawInt 0, .none, .none] }) rfl
    rw [hz] at this; exact this
  exact ⟨⟨_, he, rfl⟩, h _ he (Heap.get?_push_of_some _ (Heap.get?_push_size _ B.free)) (by rw [Heap.size_push, hz]) fun b o x => Heap.get?_push_of_some _ (Heap.get?_push_of_some _ x)⟩
def IteT (K : PySem.W.Frag) (a : Addr) : It :=
  ⟨fun i H => ∃ (xs : List V) (x : V), SqT K H a xs ∧ xs[i]? = some x, fun i H v H' => ∃ T x, v = .ref T ∧ H T = none ∧ H' = upd H T (.tup [.int (i : Nat), x]) ∧ ∀ xs, SqT K H a xs → xs[i]? = some x, fun i H => ∃ xs : List V, SqT K H a xs ∧ xs.length = i⟩
theorem turn_enumT {P : Program} {w : World} {K : PySem.W.Frag} {elts : List Expr} {kk : Nat} {tpos : Pos} (a e it : Addr) (hae : a ≠ it) :
    Turn P w K (.Tuple elts kk tpos) (IteT K a) [e, it] e (fun i h => (∃ old, IsEnum h e it ((i : Nat) : Int) old) ∧ h.IsTupleIter it a i ∧ e ≠ it) where
  mem := by simp
  obj := fun i h st b hb => by
    obtain ⟨⟨old, he⟩, ⟨o, ho, hc, hd⟩, _⟩ := st
    have e' : b = e ∨ b = it := by simpa using hb
    rcases e' with z | z
    · rw [z]; exact ⟨_, he, fun v q => nomatch q⟩
    · rw [z]; exact ⟨o, ho, fun v q => by rw [hd] at q; cases q⟩
  keep := fun i h h' st k => let ⟨⟨old, he⟩, hi, hne⟩ := st; ⟨⟨old, k e (by simp) _ he⟩, hi.at fun o q => k it (by simp) o q, hne⟩
  item := by
    intro X hP hw hK hc i pins s σ H E I hf st hg
    subst hP hw hK
    obtain ⟨⟨old, he⟩, hit, hne⟩ := st
    obtain ⟨xs, x, hq, hx⟩ := hg
    obtain ⟨its, rv, p, hz⟩ := I.tuple hq
    obtain ⟨u, hu, ru⟩ := rv.get hx
    have hel : e < s.heap.objs.size := Heap.lt_size he
    have hi : i < its.toArray.size := by
      have := (List.getElem?_eq_some_iff.mp hu).1
      simpa using this
    have hea : e ∉ [it, a] := fun z => by
      have z' : e = it ∨ e = a := by simpa using z
      rcases z' with z | z
      · exact hne z
      · obtain ⟨o, ho, hc', _⟩ := id p
        rw [← z, he] at ho
        cases ho
        injection hc' with z2
        exact absurd z2 (by decide)
    have D := Draws.tuple (prog := X.prog) (w := X.w) (A := X.A.in1) (I.ok.hd hc) it a hae its.toArray
    refine wpAny_pyNext_enum_itemC D he ⟨hit, p⟩ hi hne hea fun y h' tk hy ho hit' hT hsz hk => ?_
    obtain rfl : u = y := by
      have hu' : its.toArray[i]? = some u := by simpa using hu
      have hy' : its.toArray[i]? = some y := hy
      rw [hu'] at hy'
      exact Option.some.inj hy'
    refine ⟨_, rfl, wpAny_letOwnedTupleGo_enum (s := { s with heap := h', toks := tk + 1 }) ho fun h'' he' sb => ?_⟩
    have hT2 : h''.get? s.heap.objs.size = some { cls := .type "tuple", data := .seq #[.int i tk, u] } := (sb.2 _ (Nat.ne_of_gt hel)).trans hT
    have new : ObjOk X.prog X.w (upd H s.heap.objs.size (.tup [.int (i : Nat), x])) h'' s.heap.objs.size (.tup [.int (i : Nat), x]) :=
      ⟨by show 2 ≤ sizeLine; decide, [.int i tk, u], .cons ⟨_, rfl⟩ (.cons ru .nil), ⟨_, hT2, rfl, _, rfl⟩⟩
    have I1 : Inv X pins σ (upd H s.heap.objs.size (.tup [.int (i : Nat), x])) { s with heap := h'', toks := tk + 1 } :=
      I.turnedNew (ch := [e, it]) (fun b ob hb q => (sb.2 b (fun z => hb (by simp [z]))).trans (hk b ob (fun z => hb (by simp [z])) (fun z => hb (by simp [z])) q)) hf (Nat.le_refl _) new
    refine ⟨.ref s.heap.objs.size, _, I1, rfl, ⟨_, x, rfl, I.hok.fresh (Nat.le_refl _), rfl, fun ys hy => by rw [I.tuple_inj hy hq]; exact hx⟩, ⟨⟨u, ?_⟩, hit'.1.at fun o q => (sb.2 it (Ne.symm hne)).trans q, hne⟩, fun b hb => ?_⟩
    · have e1 : ((i + 1 : Nat) : Int) = (i : Int) + 1 := by omega
      rw [e1]; exact he'
    · have hb' : b < s.heap.objs.size := by
        have e' : b = e ∨ b = it := by simpa using hb
        rcases e' with z | z
        · rw [z]; exact hel
        · rw [z]; obtain ⟨_, q, _⟩ := hit; exact Heap.lt_size q
      rw [upd_ne (Nat.ne_of_lt hb')]
      exact (hf b hb).1
  done := by
    intro X hP hw hK hc i pins s σ H E I hf st hg
    subst hP hw hK
    obtain ⟨⟨old, he⟩, hit, hne⟩ := st
    obtain ⟨xs, hq, hx⟩ := hg
    obtain ⟨its, rv, p, hz⟩ := I.tuple hq
    obtain ⟨f0, f1, f2, f3, f4, f5⟩ := hf it (by simp)
    have hl := rv.length
    have D := Draws.tuple (prog := X.prog) (w := X.w) (A := X.A.in1) (I.ok.hd hc) it a hae its.toArray
    have hi : its.toArray.size = i := by simp; omega
    exact wpAny_pyNext_enum_endD D he (by rw [hi]; exact ⟨hit, p⟩) fun h' eb => ⟨rfl, I.turned (t' := s.toks) (fun b o hb q => eb b o hb q) f0 f1 f3 f4 f5⟩
  self := fun A i s Q E st h => let ⟨⟨_, he⟩, _⟩ := st; wpAny_pyIter_enum he h
def iEnumT (K : PySem.W.Frag) (ta : TA) : TI := fun σ H R => ta σ H fun vs H1 => ∃ a xs, vs = [.ref a] ∧ SqT K H1 a xs ∧ R (IteT K a) H1
theorem pi_enumT {X : Cx} {e : Expr} {ta : TA} {p pos tpos : Pos} {elts : List Expr} {kk : Nat} (hg : Gl X "enumerate") (hm : X.mg "enumerate" = none) (ha : PA X [e] ta) (hs : starEach [e] X.env = [(false, eval e X.env)] := by rfl) :
    PI X (.Tuple elts kk tpos) (.Call (.Name "enumerate" p) [e] [] pos) (iEnumT X.K ta) := by
  refine ⟨fun pins s σ H R I h => ?_⟩
  refine Call_ (ld_blt I hg hm boot_enumerate (PyProof.Rows.callWith_type1 (thn (ha.run pos pins s σ H _ I h) fun us s1 ⟨vs, H1, I1, r1, q1⟩ => ?_) hs rfl))
  obtain ⟨a, xs, ex, hq, q⟩ := q1
  subst ex
  cases r1 with
  | cons r rr =>
    cases rr
    cases r
    obtain ⟨its, rv, p', hz⟩ := I1.tuple hq
    have hal : a < s1.heap.objs.size := by obtain ⟨o, ho, _⟩ := id p'; exact Heap.lt_size ho
    refine call_en1 (begins_tuple a its.toArray) p' fun h' he hit hsz hk => wpAny_pyIter_enum he ?_
    have I2 : Inv X pins σ H1 { s1 with heap := h' } := I1.kept (t' := s1.toks) hk
    refine ⟨s1.heap.objs.size + 1, [s1.heap.objs.size + 1, s1.heap.objs.size], _, _, H1, rfl, I2, turn_enumT a (s1.heap.objs.size + 1) s1.heap.objs.size (Nat.ne_of_lt hal), ⟨⟨.none, he⟩, ⟨_, hit, rfl, rfl⟩, Nat.succ_ne_self _⟩, fun b hb => ?_, q⟩
    have e' : b = s1.heap.objs.size + 1 ∨ b = s1.heap.objs.size := by simpa using hb
    have hle : s1.heap.objs.size ≤ b := by
      rcases e' with z | z
      · rw [z]; exact Nat.le_add_right _ _
      · rw [z]; exact Nat.le_refl _
    exact I1.fpOk hle (I1.hok.fresh hle)
section
variable {K : PySem.W.Frag} {a b : Addr} {xs ys : List V}
theorem walk_enumT : Walk (IteT K a) xs.length (fun H => SqT K H a xs) (YPair (fun i => some (.int (i : Nat))) fun i => xs[i]?) :=
  ⟨fun i _ hi q => ⟨xs, xs[i], q, by simp [hi]⟩, fun _ q => ⟨xs, q, rfl⟩, fun i H v H' _ q y => by
    obtain ⟨T, x, rfl, hT, rfl, f⟩ := y
    exact ⟨T, _, x, rfl, hT, rfl, rfl, f xs q⟩⟩
theorem walk_zipT (hl : xs.length = ys.length) : Walk (RZ.ItzT K a b) xs.length (fun H => SqT K H a xs ∧ SqT K H b ys) (YPair (fun i => xs[i]?) fun i => ys[i]?) :=
  ⟨fun i _ hi q => ⟨xs, ys, xs[i], ys[i], q.1, q.2, by simp [hi], by simp [← hl, hi]⟩, fun _ q => ⟨xs, ys, q.1, q.2, .inl (Nat.le_refl _)⟩, fun i H v H' _ q y => by
    obtain ⟨T, x, y, rfl, hT, rfl, f1, f2⟩ := y
    exact ⟨T, x, y, rfl, hT, rfl, f1 xs q.1, f2 ys q.2⟩⟩
theorem walk_zipL (hl : xs.length = ys.length) : Walk (Itz K a b) xs.length (fun H => SqL K H a xs ∧ SqL K H b ys) (YPair (fun i => xs[i]?) fun i => ys[i]?) :=
  ⟨fun i _ hi q => ⟨xs, ys, xs[i], ys[i], q.1, q.2, by simp [hi], by simp [← hl, hi]⟩, fun _ q => ⟨xs, ys, q.1, q.2, .inl (Nat.le_refl _)⟩, fun i H v H' _ q y => by
    obtain ⟨T, x, y, rfl, hT, rfl, f1, f2⟩ := y
    exact ⟨T, x, y, rfl, hT, rfl, f1 xs q.1, f2 ys q.2⟩⟩
end
section
variable {S : Addr → Prop} {I : Hp → Prop} {H : Hp} {J : It} {n : Nat} {G : Hp → Prop} {fx fy : Nat → Option V} {g : TG} {tt : TT} {te : TE} {vs : List Nat} {σ : L2.St} {Q : Addr → Hp → Prop}
theorem lcP (w : Walk J n G (YPair fx fy)) (m : Fm S I) (i0 : I H) (hG : ∀ H', Fx S I H H' → G H') (P : Nat → List V → Hp → Prop) (p0 : ∀ D, H D = none → P 0 [] (upd H D (.lst [])))
    (hs : ∀ D i T x y acc H', H D = none → i < n → fx i = some x → fy i = some y → Fx S I H H' → H' D = some (.lst acc) → acc.length ≤ i → P i acc H' → H' T = none → g (.ref T) (wipe σ vs) (upd H' T (.tup [x, y])) fun σ2 H2 => wipe σ2 vs = wipe σ vs ∧ tt σ2 H2 fun b H3 =>
      if b = true then te σ2 H3 fun y H4 => ∃ acc, H4 D = some (.lst acc) ∧ acc.length < sizeLine ∧ Cs S I H P D (i + 1) (upd H4 D (.lst (acc ++ [y]))) else Cs S I H P D (i + 1) H3)
    (q : ∀ D H' acc, H D = none → Fx S I H H' → H' D = some (.lst acc) → P n acc H' → Q D H') :
    ∀ D, H D = none → ∃ W : Nat → Nat → Hp → Prop, (∃ m, W 0 m (upd H D (.lst []))) ∧ ∀ i m H, W i m H →
      (J.stop i H ∧ Q D H) ∨ (J.go i H ∧ ∃ Nx : Hp → Prop, (∀ H', Nx H' → ∃ m', m' < m ∧ W (i + 1) m' H') ∧ ∀ x H', J.yld i H x H' → g x (wipe σ vs) H' fun σ2 H2 => wipe σ2 vs = wipe σ vs ∧ tt σ2 H2 fun b H3 =>
        if b = true then te σ2 H3 fun y H4 => ∃ acc, H4 D = some (.lst acc) ∧ acc.length < sizeLine ∧ Nx (upd H4 D (.lst (acc ++ [y]))) else Nx H3) := fun D hD =>
  lc_it w (Cs S I H P D) ⟨Fx.new m i0 hD, [], upd_same, Nat.le_refl _, p0 D hD⟩ (fun i H' _ p => hG H' p.1)
    (fun i x H' H'' hi p y => by
      obtain ⟨p1, acc, p2, p3, p4⟩ := p
      obtain ⟨T, x, y, rfl, hT, rfl, f1, f2⟩ := y
      exact hs D i T x y acc H' hD hi f1 f2 p1 p2 p3 p4 hT)
    (fun H' p => by
      obtain ⟨p1, acc, p2, p3, p4⟩ := p
      exact q D H' acc hD p1 p2 p4)
theorem for_P (w : Walk J n G (YPair fx fy)) {g : TG} {tb : TS} {D : Ends} {σ : L2.St} {H : Hp} (Pv : Nat → L2.St → Hp → Prop) (h0 : Pv 0 σ H) (hG : ∀ i σ H, i ≤ n → Pv i σ H → G H)
    (hs : ∀ i T x y σ H, i < n → fx i = some x → fy i = some y → Pv i σ H → H T = none → g (.ref T) σ (upd H T (.tup [x, y])) fun σ2 H2 => tb { D with nx := Pv (i + 1), ct := Pv (i + 1), bk := D.nx } σ2 H2) (hd : ∀ σ H, Pv n σ H → D.nx σ H) :
    ∃ W : Nat → Nat → L2.St → Hp → Prop, (∃ m, W 0 m σ H) ∧ ∀ i m σ H, W i m σ H →
      (J.stop i H ∧ D.nx σ H) ∨ (J.go i H ∧ ∃ N : L2.St → Hp → Prop, (∀ σ' H', N σ' H' → ∃ m', m' < m ∧ W (i + 1) m' σ' H') ∧ ∀ x H', J.yld i H x H' → g x σ H' fun σ2 H2 => tb { D with nx := N, ct := N, bk := D.nx } σ2 H2) :=
  for_it w Pv h0 hG (fun i v σ H H' hi p y => by
    obtain ⟨T, x, y, rfl, hT, rfl, f1, f2⟩ := y
    exact hs i T x y σ H hi f1 f2 p hT) hd
end
end Fr
set_option Elab.async false
set_option linter.all false
set_option maxRecDepth 100000
namespace Fr
open PySem PySem.Spec PyProof.Rows L2
def Vat (c : Addr) (H : Hp) : Prop := ∃ x y z : Int, H c = some (.lst [.int x, .int y, .int z])
def Sv (c : Addr) : Addr → Prop := fun b => b = c
theorem fmV (c : Addr) : Fm (Sv c) (Vat c) := by
  constructor
  · intro H D i h e
    obtain ⟨x, y, z, q⟩ := i
    unfold Sv at e
    rw [e, q] at h
    cases h
  · intro H D o n i
    obtain ⟨x, y, z, q⟩ := i
    exact ⟨x, y, z, by rw [upd_ne (fun e => n e.symm)]; exact q⟩
abbrev Fv (c : Addr) : Hp → Hp → Prop := Fx (Sv c) (Vat c)
theorem vat_new {c l : Addr} {H : Hp} {o : HO} (hc : Vat c H) (hl : H l = none) : Vat c (upd H l o) := (fmV c).stay ((fmV c).fresh hc hl) hc
theorem fv_new {c l : Addr} {H : Hp} {o : HO} (hc : Vat c H) (hl : H l = none) : Fv c H (upd H l o) := Fx.new (fmV c) hc hl
theorem fv_ne {c l : Addr} {H : Hp} (hc : Vat c H) (hl : H l = none) : l ≠ c := (fmV c).fresh hc hl
theorem vat_ex {c : Addr} {H H' : Hp} (hc : Vat c H) (e : Ex0 H H') : Vat c H' := by
  obtain ⟨x, y, z, q⟩ := hc
  exact ⟨x, y, z, Ex0.ap e q⟩
theorem fv_ex {c : Addr} {H H' : Hp} (hc : Vat c H) (e : Ex0 H H') : Fv c H H' := ⟨vat_ex hc e, fun b o _ h => Ex0.ap e h⟩
theorem fv_tup {c a : Addr} {H H' : Hp} {xs : List V} (hc : Vat c H) (f : Fv c H H') (h : H a = some (.tup xs)) : H' a = some (.tup xs) := f.2 a _ (fun e => by
  obtain ⟨x, y, z, q⟩ := hc
  unfold Sv at e
  rw [e, q] at h
  cases h) h
theorem ex_fv {p : Addr} {H H1 H2 : Hp} (e : Ex0 H H1) (hp : H p = none) (f : Fv p H1 H2) : Ex0 H H2 := ⟨trivial, fun b o _ h => f.2 b o (fun z => by unfold Sv at z; rw [z, hp] at h; cases h) (Ex0.ap e h)⟩
theorem cut_map (ns : List Int) (lo hi : Option Int) : cutV (ns.map V.int) lo hi = ((ns.drop (HT.sIx (ns.map V.int).length 0 lo)).take (HT.sIx (ns.map V.int).length (ns.map V.int).length hi - HT.sIx (ns.map V.int).length 0 lo)).map V.int := by
  unfold cutV
  rw [← List.map_drop, ← List.map_take]
end Fr
set_option Elab.async false
set_option linter.all false
set_option maxRecDepth 100000
namespace Fr
open PySem PySem.Spec PyProof.Rows L2
def addAt (l : List Int) (k : Nat) (v : Int) : List Int := l.set k (l.getD k 0 + v)
def rowN (l : List Int) (k : Nat) (x : Int) (ys : List Int) : Nat → List Int
  | 0 => l
  | j + 1 => addAt (rowN l k x ys j) (k + j) (x * ys.getD j 0)
def prodN (xs ys : List Int) : Nat → List Int
  | 0 => List.replicate (xs.length + ys.length - 1) 0
  | i + 1 => rowN (prodN xs ys i) i (xs.getD i 0) ys ys.length
def prodL (xs ys : List Int) : List Int := prodN xs ys xs.length
theorem addAt_len (l : List Int) (k : Nat) (v : Int) : (addAt l k v).length = l.length := by unfold addAt; rw [List.length_set]
theorem rowN_len (l : List Int) (k : Nat) (x : Int) (ys : List Int) : ∀ j, (rowN l k x ys j).length = l.length
  | 0 => rfl
  | j + 1 => by rw [rowN, addAt_len, rowN_len l k x ys j]
theorem prodN_len (xs ys : List Int) : ∀ i, (prodN xs ys i).length = xs.length + ys.length - 1
  | 0 => by rw [prodN, List.length_replicate]
  | i + 1 => by rw [prodN, rowN_len, prodN_len xs ys i]
theorem prodL_len (xs ys : List Int) : (prodL xs ys).length = xs.length + ys.length - 1 := prodN_len xs ys _
theorem gD_mem {l : List Int} {k : Nat} (h : k < l.length) : l.getD k 0 ∈ l := by
  rw [List.getD_eq_getElem?_getD, List.getElem?_eq_getElem h]
  exact List.getElem_mem h
theorem getD_le {l : List Int} {m : Nat} (h : ∀ z ∈ l, z.natAbs ≤ m) (k : Nat) : (l.getD k 0).natAbs ≤ m := by
  by_cases hk : k < l.length
  · exact h _ (gD_mem hk)
  · rw [List.getD_eq_getElem?_getD, List.getElem?_eq_none (by omega)]
    exact Nat.zero_le _
theorem rowN_le {l : List Int} {k : Nat} {x : Int} {ys : List Int} {m M : Nat} (h : ∀ z ∈ l, z.natAbs ≤ m) (hy : ∀ y ∈ ys, (x * y).natAbs ≤ M) : ∀ j, j ≤ ys.length → ∀ z ∈ rowN l k x ys j, z.natAbs ≤ m + j * M
  | 0, _ => fun z hz => by have := h z hz; omega
  | j + 1, hj => fun z hz => by
    have ih := rowN_le (k := k) h hy j (by omega)
    have e : (j + 1) * M = j * M + M := by rw [Nat.add_mul, Nat.one_mul]
    rw [rowN] at hz
    unfold addAt at hz
    rcases List.mem_or_eq_of_mem_set hz with q | rfl
    · have := ih z q
      omega
    · have h1 := getD_le ih (k + j)
      have h2 := hy _ (gD_mem (show j < ys.length by omega))
      omega
theorem prodN_le {xs ys : List Int} {M : Nat} (h : ∀ x ∈ xs, ∀ y ∈ ys, (x * y).natAbs ≤ M) : ∀ i, i ≤ xs.length → ∀ z ∈ prodN xs ys i, z.natAbs ≤ i * (ys.length * M)
  | 0, _ => fun z hz => by
    rw [prodN] at hz
    rw [List.eq_of_mem_replicate hz]
    exact Nat.zero_le _
  | i + 1, hi => fun z hz => by
    have ih := prodN_le h i (by omega)
    have e : (i + 1) * (ys.length * M) = i * (ys.length * M) + ys.length * M := by rw [Nat.add_mul, Nat.one_mul]
    rw [prodN] at hz
    rw [e]
    exact rowN_le ih (fun y hy => h _ (gD_mem (by omega)) y hy) _ (Nat.le_refl _) z hz
theorem prodL_B {xs ys : List Int} {a b : Nat} (ha : ∀ x ∈ xs, B a x) (hb : ∀ y ∈ ys, B b y) (hp : 0 < a) : ∀ z ∈ prodL xs ys, B (a + b + xs.length * ys.length) z := fun z hz => by
  have h1 := prodN_le (M := 2 ^ (a + b)) (fun x hx y hy => Nat.le_of_lt (B.mul (ha x hx) (hb y hy)).1) xs.length (Nat.le_refl _) z hz
  refine ⟨?_, by omega⟩
  rw [← Nat.mul_assoc] at h1
  rw [Nat.pow_add 2 (a + b), Nat.mul_comm]
  exact Nat.lt_of_le_of_lt h1 (Nat.mul_lt_mul_of_pos_right Nat.lt_two_pow_self (Nat.two_pow_pos _))
theorem get_map {l : List Int} {k : Nat} (h : k < l.length) : (l.map V.int)[k]? = some (V.int (l.getD k 0)) := by
  rw [List.getElem?_map, List.getElem?_eq_getElem h, List.getD_eq_getElem?_getD, List.getElem?_eq_getElem h]
  rfl
theorem get_D {l : List Int} {k : Nat} {y : V} (h : (l.map V.int)[k]? = some y) : y = V.int (l.getD k 0) ∧ k < l.length := by
  have hk : k < l.length := by
    have := (List.getElem?_eq_some_iff.mp h).1
    rwa [List.length_map] at this
  rw [get_map hk] at h
  exact ⟨(Option.some.inj h).symm, hk⟩
theorem zeros (m : Nat) : (List.replicate m [V.int 0]).flatten = (List.replicate m (0 : Int)).map V.int := by
  induction m with
  | zero => rfl
  | succ m ih => rw [List.replicate_succ, List.replicate_succ, List.flatten_cons, ih]; rfl
def valN (xs : List Int) (x y : Int) : Nat → Int × Int
  | 0 => (0, 1)
  | i + 1 => ((valN xs x y i).1 * x + xs.getD i 0 * (valN xs x y i).2, (valN xs x y i).2 * y)
theorem valN_B {xs : List Int} {x y : Int} (hx : B 200 x) (hy : B 200 y) (h : ∀ z ∈ xs, B 200 z) : ∀ i, i ≤ 8 → B (1 + 3000 * i) (valN xs x y i).1 ∧ B (1 + 200 * i) (valN xs x y i).2
  | 0, _ => ⟨⟨by show (0 : Int).natAbs < 2 ^ 1; decide, by decide⟩, ⟨by show (1 : Int).natAbs < 2 ^ 1; decide, by decide⟩⟩
  | i + 1, hi => by
    obtain ⟨h1, h2⟩ := valN_B hx hy h i (by omega)
    have h3 : B 200 (xs.getD i 0) := ⟨Nat.lt_of_le_of_lt (getD_le (m := 2 ^ 200 - 1) (fun z hz => Nat.le_sub_one_of_lt (h z hz).1) i) (by decide), by decide⟩
    rw [valN]
    exact ⟨(B.add (B.mul h1 hx) (B.mul h3 h2)).mono (by omega), (B.mul h2 hy).mono (by omega)⟩
def partN (n : Nat) (e p q r s : Int) (i : Nat) : Nat → List Int
  | 0 => [e]
  | t + 1 => prodL (partN n e p q r s i t) (if (0 : Int) + (t : Int) < ((n : Int) - 1) - (i : Int) then [p, r] else [q, s])
def putN (row : List Int) (p q r s : Int) : Nat → List Int
  | 0 => List.replicate row.length 0
  | i + 1 => List.zipWith (· + ·) (putN row p q r s i) (partN row.length (row.getD i 0) p q r s i (row.length - 1))
theorem partN_len (n : Nat) (e p q r s : Int) (i : Nat) : ∀ t, (partN n e p q r s i t).length = t + 1
  | 0 => rfl
  | t + 1 => by
    rw [partN, prodL_len, partN_len n e p q r s i t]
    split <;> rfl
theorem partN_B {n : Nat} {e p q r s : Int} {i : Nat} (he : B 400 e) (hp : B 400 p) (hq : B 400 q) (hr : B 400 r) (hs : B 400 s) : ∀ t, t ≤ 10 → ∀ z ∈ partN n e p q r s i t, B (400 + 500 * t) z
  | 0, _ => fun z hz => by
    rw [partN] at hz
    have : z = e := by simpa using hz
    rw [this]
    exact he
  | t + 1, ht => fun z hz => by
    have ih := partN_B (n := n) (i := i) he hp hq hr hs t (by omega)
    rw [partN] at hz
    refine B.mono (prodL_B (a := 400 + 500 * t) (b := 400) ih (fun y hy => ?_) (by omega) z hz) ?_
    · split at hy <;> simp only [List.mem_cons, List.mem_nil_iff, or_false] at hy <;> rcases hy with rfl | rfl <;> assumption
    · rw [partN_len]
      split <;> simp <;> omega
theorem putN_len (row : List Int) (p q r s : Int) (h : row ≠ []) : ∀ i, (putN row p q r s i).length = row.length
  | 0 => by rw [putN, List.length_replicate]
  | i + 1 => by
    have := List.length_pos_iff.mpr h
    rw [putN, List.length_zipWith, putN_len row p q r s h i, partN_len]
    omega
theorem mem_zip {xs ys : List Int} {z : Int} (h : z ∈ List.zipWith (· + ·) xs ys) : ∃ x ∈ xs, ∃ y ∈ ys, z = x + y := by
  obtain ⟨k, hk, e⟩ := List.getElem_of_mem h
  rw [List.getElem_zipWith] at e
  rw [List.length_zipWith] at hk
  exact ⟨_, List.getElem_mem (by omega), _, List.getElem_mem (by omega), e.symm⟩
theorem putN_B {row : List Int} {p q r s : Int} (h : ∀ e ∈ row, B 400 e) (hl : row.length ≤ 11) (hp : B 400 p) (hq : B 400 q) (hr : B 400 r) (hs : B 400 s) : ∀ i, i ≤ row.length → ∀ z ∈ putN row p q r s i, B (1 + 6000 * i) z
  | 0, _ => fun z hz => by
    rw [putN] at hz
    rw [List.eq_of_mem_replicate hz]
    exact ⟨by decide, by decide⟩
  | i + 1, hi => fun z hz => by
    rw [putN] at hz
    obtain ⟨u, hu, v, hv, rfl⟩ := mem_zip hz
    exact (B.add (putN_B h hl hp hq hr hs i (by omega) u hu) (partN_B (h _ (gD_mem (by omega))) hp hq hr hs _ (by omega) v hv)).mono (by omega)
end Fr
set_option Elab.async false
set_option linter.all false
set_option maxRecDepth 100000
namespace K05M
def fv (a b c d x y : Int) : Int := a * x * x * x + b * x * x * y + c * x * y * y + d * y * y * y
def fdisc (a b c d : Int) : Int := b * b * c * c - 4 * a * c * c * c - 4 * b * b * b * d - 27 * a * a * d * d + 18 * a * b * c * d
def fl2 (a b c d p q r s : Int) : Int := 3 * a * p * p * r + b * p * (p * s + 2 * q * r) + c * q * (2 * p * s + q * r) + 3 * d * q * q * s
def fl3 (a b c d p q r s : Int) : Int := 3 * a * p * r * r + b * r * (2 * p * s + q * r) + c * s * (p * s + 2 * q * r) + 3 * d * q * s * s
theorem put1 (a b c d p q r s i j : Int) : fv (fv a b c d p q) (fl2 a b c d p q r s) (fl3 a b c d p q r s) (fv a b c d r s) i j = fv a b c d (i * p + j * r) (i * q + j * s) := by
  unfold fv fl2 fl3
  grind
theorem put2 (a b c d p q r s i j k m : Int) : fl2 (fv a b c d p q) (fl2 a b c d p q r s) (fl3 a b c d p q r s) (fv a b c d r s) i j k m = fl2 a b c d (i * p + j * r) (i * q + j * s) (k * p + m * r) (k * q + m * s) := by
  unfold fv fl2 fl3
  grind
theorem put3 (a b c d p q r s i j k m : Int) : fl3 (fv a b c d p q) (fl2 a b c d p q r s) (fl3 a b c d p q r s) (fv a b c d r s) i j k m = fl3 a b c d (i * p + j * r) (i * q + j * s) (k * p + m * r) (k * q + m * s) := by
  unfold fv fl2 fl3
  grind
theorem disc (a b c d p q r s : Int) : fdisc (fv a b c d p q) (fl2 a b c d p q r s) (fl3 a b c d p q r s) (fv a b c d r s) = (p * s - q * r) * (p * s - q * r) * (p * s - q * r) * (p * s - q * r) * (p * s - q * r) * (p * s - q * r) * fdisc a b c d := by
  unfold fdisc fv fl2 fl3
  grind
theorem fv_mul (e a b c d x y : Int) : fv (e * a) (e * b) (e * c) (e * d) x y = e * fv a b c d x y := by unfold fv; grind
theorem fl2_mul (e a b c d p q r s : Int) : fl2 (e * a) (e * b) (e * c) (e * d) p q r s = e * fl2 a b c d p q r s := by unfold fl2; grind
theorem fl3_mul (e a b c d p q r s : Int) : fl3 (e * a) (e * b) (e * c) (e * d) p q r s = e * fl3 a b c d p q r s := by unfold fl3; grind
theorem disc_neg (a b c d : Int) : fdisc (-1 * a) (-1 * b) (-1 * c) (-1 * d) = fdisc a b c d := by unfold fdisc; grind
theorem det_mul (p q r s i j k m : Int) : (i * p + j * r) * (k * q + m * s) - (i * q + j * s) * (k * p + m * r) = (i * m - j * k) * (p * s - q * r) := by grind
theorem fv_one (a b c d : Int) : fv a b c d 1 0 = a ∧ fv a b c d 0 1 = d ∧ fl2 a b c d 1 0 0 1 = b ∧ fl3 a b c d 1 0 0 1 = c := by
  unfold fv fl2 fl3
  refine ⟨?_, ?_, ?_, ?_⟩ <;> grind
theorem und (p q r s e : Int) (he : e = p * s - q * r) (h : e = 1 ∨ e = -1) : (e * s) * p + (-e * q) * r = 1 ∧ (e * s) * q + (-e * q) * s = 0 ∧ (-e * r) * p + (e * p) * r = 0 ∧ (-e * r) * q + (e * p) * s = 1 := by
  have h1 : e * e = 1 := by rcases h with rfl | rfl <;> decide
  refine ⟨?_, ?_, ?_, ?_⟩ <;> grind
end K05M
set_option Elab.async false
set_option linter.all false
set_option maxRecDepth 100000
namespace Fr
open PySem PySem.Spec PyProof.Rows L2
set_option maxHeartbeats 1000000
@[reducible] def SqK (k : Bool) (K : PySem.W.Frag) (H : Hp) (a : Addr) (xs : List V) : Prop := match k with
  | true => SqT K H a xs
  | false => SqL K H a xs
@[reducible] def IterK (k : Bool) (h : Heap) (it l : Addr) (i : Nat) : Prop := match k with
  | true => h.IsTupleIter it l i
  | false => h.IsListIter it l i
@[reducible] def HasK (k : Bool) (h : Heap) (l : Addr) (items : Array Value) : Prop := match k with
  | true => h.IsTuple l items
  | false => h.IsList l items
theorem IterK.cell {k : Bool} {h : Heap} {it l : Addr} {i : Nat} (q : IterK k h it l i) : ∃ o, h.get? it = some o ∧ ∀ v, o.data ≠ .cell v := by
  cases k <;> obtain ⟨o, e, _, d⟩ := q <;> exact ⟨o, e, fun v z => by rw [d] at z; cases z⟩
theorem IterK.look {k : Bool} {h h' : Heap} {it l : Addr} {i : Nat} (q : IterK k h it l i) (e : ∀ o, h.get? it = some o → h'.get? it = some o) : IterK k h' it l i := by
  cases k
  · exact Heap.IsListIter.at q fun o z => e o z
  · exact Heap.IsTupleIter.at q fun o z => e o z
theorem drawsK {k : Bool} {prog : Program} {w : World} {A : Around} (hh : A.handled = none) (it l : Addr) (hne : l ≠ it) (items : Array Value) :
    Draws prog w A it [it, l] items.size (fun i v => items[i]? = some v) (fun i h => IterK k h it l i ∧ HasK k h l items) := by
  cases k
  · exact Draws.list hh it l hne items
  · exact Draws.tuple hh it l hne items
section
variable {X : Cx} {pins : List (Addr × Obj)} {σ : L2.St} {H : Hp} {s : Shared}
theorem hasK (I : Inv X pins σ H s) {k : Bool} {a : Addr} {xs : List V} (q : SqK k X.K H a xs) : ∃ its : List Value, Vals xs its ∧ HasK k s.heap a its.toArray ∧ a < s.heap.objs.size := by
  cases k
  · obtain ⟨its, rv, p, _⟩ := I.list q
    exact ⟨its, rv, p.isList, p.lt⟩
  · obtain ⟨its, rv, p, _⟩ := I.tuple q
    exact ⟨its, rv, p, by obtain ⟨o, e, _⟩ := id p; exact Heap.lt_size e⟩
theorem sqK_inj (I : Inv X pins σ H s) {k : Bool} {a : Addr} {xs ys : List V} (q : SqK k X.K H a xs) (r : SqK k X.K H a ys) : xs = ys := by
  cases k
  · exact I.list_inj q r
  · exact I.tuple_inj q r
end
def ItzK (K : PySem.W.Frag) (k1 k2 : Bool) (a b : Addr) : It where
  go := fun i H => ∃ (xs ys : List V) (x y : V), SqK k1 K H a xs ∧ SqK k2 K H b ys ∧ xs[i]? = some x ∧ ys[i]? = some y
  yld := fun i H v H' => ∃ T x y, v = .ref T ∧ H T = none ∧ H' = upd H T (.tup [x, y]) ∧ (∀ xs, SqK k1 K H a xs → xs[i]? = some x) ∧ ∀ ys, SqK k2 K H b ys → ys[i]? = some y
  stop := fun i H => ∃ xs ys : List V, SqK k1 K H a xs ∧ SqK k2 K H b ys ∧ xs.length = i ∧ ys.length = i
theorem in5 {c z TI TO i1 i2 : Addr} (h : c ∈ [z, TI, TO, i1, i2]) : c = z ∨ c = TI ∨ c = TO ∨ c = i1 ∨ c = i2 := by simpa using h
theorem turn_zipK {P : Program} {w : World} {K : PySem.W.Frag} {elts : List Expr} {kk : Nat} {tpos : Pos} {k1 k2 : Bool} {a b z TI TO i1 i2 : Addr} (S : ZipSep2 z TI TO i1 i2 [i1, a] [i2, b]) (na : a ≠ i1) (nb : b ≠ i2) :
    Turn P w K (.Tuple elts kk tpos) (ItzK K k1 k2 a b) [z, TI, TO, i1, i2] z (fun i h => IsZip h z TI TO .none ∧ IsTupOf2 h TI (.ref i1) (.ref i2) ∧ (∃ x y, IsTupOf2 h TO x y) ∧ IterK k1 h i1 a i ∧ IterK k2 h i2 b i) where
  mem := by simp
  obj := fun i h st c hc => by
    obtain ⟨hz, hTI, ⟨x, y, hTO⟩, q1, q2⟩ := st
    rcases in5 hc with q | q | q | q | q <;> rw [q]
    · exact ⟨_, hz, fun v q => nomatch q⟩
    · exact ⟨_, hTI, fun v q => nomatch q⟩
    · exact ⟨_, hTO, fun v q => nomatch q⟩
    · exact q1.cell
    · exact q2.cell
  keep := fun i h h' st kp => by
    obtain ⟨hz, hTI, ⟨x, y, hTO⟩, q1, q2⟩ := st
    exact ⟨kp z (by simp) _ hz, kp TI (by simp) _ hTI, ⟨x, y, kp TO (by simp) _ hTO⟩, q1.look fun o q => kp i1 (by simp) o q, q2.look fun o q => kp i2 (by simp) o q⟩
  item := by
    intro X hP hw hK hc i pins s σ H E I hf st hg
    subst hP hw hK
    obtain ⟨hz, hTI, ⟨x0, y0, hTO⟩, q1, q2⟩ := st
    obtain ⟨xs, ys, x, y, hqx, hqy, hx, hy⟩ := hg
    obtain ⟨its1, rv1, p1, _⟩ := hasK I hqx
    obtain ⟨its2, rv2, p2, _⟩ := hasK I hqy
    obtain ⟨u1, hu1, ru1⟩ := rv1.get hx
    obtain ⟨u2, hu2, ru2⟩ := rv2.get hy
    have hzl : z < s.heap.objs.size := Heap.lt_size hz
    have D1 := drawsK (k := k1) (prog := X.prog) (w := X.w) (A := X.A.in1) (I.ok.hd hc) i1 a na its1.toArray
    have D2 := drawsK (k := k2) (prog := X.prog) (w := X.w) (A := X.A.in1) (I.ok.hd hc) i2 b nb its2.toArray
    have l1 : i < its1.toArray.size := by
      have := (List.getElem?_eq_some_iff.mp hu1).1
      simpa using this
    have l2 : i < its2.toArray.size := by
      have := (List.getElem?_eq_some_iff.mp hu2).1
      simpa using this
    refine wpAny_pyNext_zipD2_item S D1 D2 hz hTI hTO ⟨q1, p1⟩ ⟨q2, p2⟩ l1 l2 fun y1 y2 h' tk e1 e2 z' TO' st1 st2 hT hsz hk => ?_
    obtain rfl : u1 = y1 := by
      have a1 : its1.toArray[i]? = some u1 := by simpa using hu1
      have a2 : its1.toArray[i]? = some y1 := e1
      rw [a1] at a2
      exact Option.some.inj a2
    obtain rfl : u2 = y2 := by
      have a1 : its2.toArray[i]? = some u2 := by simpa using hu2
      have a2 : its2.toArray[i]? = some y2 := e2
      rw [a1] at a2
      exact Option.some.inj a2
    refine ⟨_, rfl, wpAny_letOwnedTupleGo_zip (s := { s with heap := h', toks := tk }) z' fun h'' z'' sb => ?_⟩
    have hT2 : h''.get? s.heap.objs.size = some { cls := .type "tuple", data := .seq #[u1, u2] } := (sb.2 _ (Nat.ne_of_gt hzl)).trans hT
    have new : ObjOk X.prog X.w (upd H s.heap.objs.size (.tup [x, y])) h'' s.heap.objs.size (.tup [x, y]) :=
      ⟨by show 2 ≤ sizeLine; decide, [u1, u2], .cons ru1 (.cons ru2 .nil), ⟨_, hT2, rfl, _, rfl⟩⟩
    have I1 : Inv X pins σ (upd H s.heap.objs.size (.tup [x, y])) { s with heap := h'', toks := tk } :=
      I.turnedNew (ch := [z, TI, TO, i1, i2]) (fun c o hb q => (sb.2 c (fun e => hb (by simp [e]))).trans (hk c o (fun e => hb (by simp [e])) (fun e => hb (by simp [e])) (fun e => hb (by simp [e])) (fun e => hb (by simp [e])) q)) hf (Nat.le_refl _) new
    refine ⟨.ref s.heap.objs.size, _, I1, rfl, ⟨_, x, y, rfl, I.hok.fresh (Nat.le_refl _), rfl, fun l hl => by rw [sqK_inj I hl hqx]; exact hx, fun l hl => by rw [sqK_inj I hl hqy]; exact hy⟩, ⟨z'', ?_, ⟨u1, u2, ?_⟩, ?_, ?_⟩, fun c hcm => ?_⟩
    · exact (sb.2 _ S.TIz).trans (hk _ _ S.TIz S.TITO S.TIi1 S.TIi2 hTI)
    · exact (sb.2 _ S.TOz).trans TO'
    · exact st1.1.look fun o q => (sb.2 _ (Ne.symm S.zi1)).trans q
    · exact st2.1.look fun o q => (sb.2 _ (Ne.symm S.zi2)).trans q
    · have hlt : c < s.heap.objs.size := by
        rcases in5 hcm with q | q | q | q | q <;> rw [q]
        · exact hzl
        · exact Heap.lt_size hTI
        · exact Heap.lt_size hTO
        · obtain ⟨_, e, _⟩ := q1.cell; exact Heap.lt_size e
        · obtain ⟨_, e, _⟩ := q2.cell; exact Heap.lt_size e
      rw [upd_ne (Nat.ne_of_lt hlt)]
      exact (hf c hcm).1
  done := by
    intro X hP hw hK hc i pins s σ H E I hf st hg
    subst hP hw hK
    obtain ⟨hz, hTI, ⟨x0, y0, hTO⟩, q1, q2⟩ := st
    obtain ⟨xs, ys, hqx, hqy, ex, ey⟩ := hg
    obtain ⟨its1, rv1, p1, _⟩ := hasK I hqx
    obtain ⟨its2, rv2, p2, _⟩ := hasK I hqy
    have D1 := drawsK (k := k1) (prog := X.prog) (w := X.w) (A := X.A.in1) (I.ok.hd hc) i1 a na its1.toArray
    have D2 := drawsK (k := k2) (prog := X.prog) (w := X.w) (A := X.A.in1) (I.ok.hd hc) i2 b nb its2.toArray
    have l1 : its1.toArray.size = i := by have := rv1.length; simp; omega
    have l2 : its2.toArray.size = i := by have := rv2.length; simp; omega
    exact wpAny_pyNext_zipD2_end S D1 D2 hz hTI hTO ⟨q1, p1⟩ ⟨q2, p2⟩ (by omega) (by omega) (.inl (by omega)) fun h' tk hk => ⟨rfl, I.turnedL (ch := [z, TI, TO, i1, i2]) (fun c o hb q =>
      hk c o (fun e => hb (by simp [e])) (fun e => hb (by simp [e])) (fun e => hb (by simp [e])) (fun e => hb (by simp [e])) q) hf⟩
  self := fun A i s Q E st h => wpAny_pyIter_zip st.1 h
def iZipK (K : PySem.W.Frag) (k1 k2 : Bool) (ta : TA) : TI := fun σ H R => ta σ H fun vs H1 => ∃ a b xs ys, vs = [.ref a, .ref b] ∧ SqK k1 K H1 a xs ∧ SqK k2 K H1 b ys ∧ R (ItzK K k1 k2 a b) H1
theorem pi_zipK (k1 k2 : Bool) {X : Cx} {e e2 : Expr} {ta : TA} {p pos tpos : Pos} {elts : List Expr} {kk : Nat} (hg : Gl X "zip") (hm : X.mg "zip" = none) (ha : PA X [e, e2] ta)
    (hs : starEach [e, e2] X.env = (false, eval e X.env) :: starEach [e2] X.env := by rfl) (hpl : (backTo pos (starEach [e2] X.env)).any (·.1) = false := by rfl) :
    PI X (.Tuple elts kk tpos) (.Call (.Name "zip" p) [e, e2] [] pos) (iZipK X.K k1 k2 ta) := by
  refine ⟨fun pins s σ H R I h => Call_ (ld_blt I hg hm PyProof.Rows.boot_zip (PyProof.Rows.callWith_type1 (thn (ha.run pos pins s σ H _ I h) fun us s1 ⟨vs, H1, I1, r1, a, b, xs, ys, ex, hqx, hqy, q⟩ => ?_) hs hpl))⟩
  subst ex
  cases r1 with
  | cons r rr =>
    cases rr with
    | cons r' rr =>
      cases rr
      cases r
      cases r'
      obtain ⟨its1, rv1, p1, b1⟩ := hasK I1 hqx
      obtain ⟨its2, rv2, p2, b2⟩ := hasK I1 hqy
      generalize hn : s1.heap.objs.size = n at b1 b2
      have fin : ∀ h', IsZip h' (n + 4) (n + 2) (n + 3) .none → IsTupOf2 h' (n + 2) (.ref n) (.ref (n + 1)) → IsTupOf2 h' (n + 3) .none .none → IterK k1 h' n a 0 → IterK k2 h' (n + 1) b 0 →
          (∀ c o, s1.heap.get? c = some o → h'.get? c = some o) → wpAny (model X.prog X.w) X.A (pyIter (.ref (n + 4))) (PIE X pins σ (.Tuple elts kk tpos) R) X.xe { s1 with heap := h' } := fun h' hz hTI hTO h1 h2 hk => by
        refine wpAny_pyIter_zip hz ?_
        have I2 : Inv X pins σ H1 { s1 with heap := h' } := I1.kept (t' := s1.toks) hk
        have S : ZipSep2 (n + 4) (n + 2) (n + 3) n (n + 1) [n, a] [n + 1, b] := by
          have a1 : ∀ j : Nat, (n + j : Nat) ≠ a := fun j e => Nat.lt_irrefl n (Nat.lt_of_le_of_lt (Nat.le_add_right n j) (by rw [e]; exact b1))
          have a2 : ∀ j : Nat, (n + j : Nat) ≠ b := fun j e => Nat.lt_irrefl n (Nat.lt_of_le_of_lt (Nat.le_add_right n j) (by rw [e]; exact b2))
          have q : ∀ i j : Nat, i ≠ j → (n + i : Nat) ≠ n + j := fun i j h e => h (by omega)
          have o2 : ∀ {x y z : Addr}, x ≠ y → x ≠ z → x ∉ [y, z] := fun h1 h2 h => by simp [h1, h2] at h
          exact ⟨q 2 4 (by decide), q 3 4 (by decide), q 2 3 (by decide), q 2 0 (by decide), by simp, o2 (q 4 0 (by decide)) (a1 4), o2 (q 3 0 (by decide)) (a1 3), q 2 1 (by decide), by simp, o2 (q 4 1 (by decide)) (a2 4), o2 (q 3 1 (by decide)) (a2 3), o2 (q 0 1 (by decide)) (a2 0), o2 (q 1 0 (by decide)) (a1 1)⟩
        refine ⟨n + 4, [n + 4, n + 2, n + 3, n, n + 1], _, ItzK X.K k1 k2 a b, H1, rfl, I2, turn_zipK S (Nat.ne_of_lt b1) (Nat.ne_of_lt (Nat.lt_succ_of_lt b2)), ⟨hz, hTI, ⟨_, _, hTO⟩, h1, h2⟩, fun c hcm => ?_, q⟩
        have hle : s1.heap.objs.size ≤ c := by
          rcases in5 hcm with z | z | z | z | z <;> rw [z] <;> omega
        exact I1.fpOk hle (I1.hok.fresh hle)
      subst hn
      cases k1 <;> cases k2
      · exact zip_begins2 (begins_list a its1.toArray) (begins_list b its2.toArray) p1 p2 fun h' hz hTI hTO h1 h2 _ hk => fin h' hz hTI hTO ⟨_, h1, rfl, rfl⟩ ⟨_, h2, rfl, rfl⟩ hk
      · exact zip_begins2 (begins_list a its1.toArray) (begins_tuple b its2.toArray) p1 p2 fun h' hz hTI hTO h1 h2 _ hk => fin h' hz hTI hTO ⟨_, h1, rfl, rfl⟩ ⟨_, h2, rfl, rfl⟩ hk
      · exact zip_begins2 (begins_tuple a its1.toArray) (begins_list b its2.toArray) p1 p2 fun h' hz hTI hTO h1 h2 _ hk => fin h' hz hTI hTO ⟨_, h1, rfl, rfl⟩ ⟨_, h2, rfl, rfl⟩ hk
      · exact zip_begins2 (begins_tuple a its1.toArray) (begins_tuple b its2.toArray) p1 p2 fun h' hz hTI hTO h1 h2 _ hk => fin h' hz hTI hTO ⟨_, h1, rfl, rfl⟩ ⟨_, h2, rfl, rfl⟩ hk
theorem walk_zipK {K : PySem.W.Frag} {k1 k2 : Bool} {a b : Addr} {xs ys : List V} (hl : xs.length = ys.length) : Walk (ItzK K k1 k2 a b) xs.length (fun H => SqK k1 K H a xs ∧ SqK k2 K H b ys) (YPair (fun i => xs[i]?) fun i => ys[i]?) :=
  ⟨fun i _ hi q => ⟨xs, ys, xs[i], ys[i], q.1, q.2, by simp [hi], by simp [← hl, hi]⟩, fun _ q => ⟨xs, ys, q.1, q.2, rfl, hl.symm⟩, fun i H v H' _ q y => by
    obtain ⟨T, x, y, rfl, hT, rfl, f1, f2⟩ := y
    exact ⟨T, x, y, rfl, hT, rfl, f1 xs q.1, f2 ys q.2⟩⟩
end Fr
set_option Elab.async false
set_option linter.all false
set_option maxRecDepth 100000
namespace Fr
open PySem PySem.Spec PyProof.Rows L2
def CDivNW (_ j : Int) : Prop := j ≠ 0 ∧ j.natAbs.log2 < 9000
theorem op_fdivNW {X : Cx} : OpR X (binaryOp .FloorDiv) (rI CDivNW fun i j => .int (i.fdiv j)) := opI fun _ _ _ _ _ _ _ hc q => floordiv_int hc.1 q (.inl (PyProof.noPylong_of_log2 hc.2))
structure Bz (M : Nat) (p q one other u v u' v' : Int) : Prop where
  o : 0 ≤ other
  pos : 0 ≤ one ∨ (u = 1 ∧ u' = 0)
  e1 : u * p + v * q = one
  e2 : u' * p + v' * q = other
  d : one * u' - other * u = q ∨ one * u' - other * u = -q
  s : (0 ≤ u ∧ u' ≤ 0) ∨ (u ≤ 0 ∧ 0 ≤ u')
  bu : u.natAbs ≤ q.natAbs + 1
  bu' : u'.natAbs ≤ q.natAbs + 1
  g : Nat.gcd one.natAbs other.natAbs = 1
  b1 : one.natAbs ≤ M
  b2 : other.natAbs ≤ M
  z : q = 0 → other = 0 ∧ v = 0
theorem Bz.init {M : Nat} {p q : Int} (hq : 0 ≤ q) (g : Nat.gcd p.natAbs q.natAbs = 1) (h1 : p.natAbs ≤ M) (h2 : q.natAbs ≤ M) : Bz M p q p q 1 0 0 1 :=
  ⟨hq, .inr ⟨rfl, rfl⟩, by simp, by simp, .inr (by simp), .inl ⟨by decide, by decide⟩, by show 1 ≤ _; omega, by show 0 ≤ _; omega, g, h1, h2, fun h => ⟨h, rfl⟩⟩
theorem Bz.step {M : Nat} {p q one other u v u' v' : Int} (h : Bz M p q one other u v u' v') (ho : other ≠ 0) :
    Bz M p q other (one - one / other * other) u' v' (u - one / other * u') (v - one / other * v') ∧ (one - one / other * other).toNat < other.toNat := by
  have o0 : 0 < other := by have := h.o; omega
  have hr : one - one / other * other = one % other := by
    have := Int.emod_add_mul_ediv one other
    rw [Int.mul_comm other] at this
    omega
  have r0 := Int.emod_nonneg one ho
  have r1 := Int.emod_lt_of_pos one o0
  have s' : (0 ≤ u' ∧ u - one / other * u' ≤ 0) ∨ (u' ≤ 0 ∧ 0 ≤ u - one / other * u') := by
    rcases h.pos with hp | ⟨rfl, rfl⟩
    · have t0 : 0 ≤ one / other := Int.ediv_nonneg hp h.o
      rcases h.s with ⟨a, b⟩ | ⟨a, b⟩
      · right
        have := Int.mul_nonneg t0 (show 0 ≤ -u' by omega)
        rw [Int.mul_neg] at this
        exact ⟨b, by omega⟩
      · left
        have := Int.mul_nonneg t0 b
        exact ⟨b, by omega⟩
    · right
      simp
  have dd : other * (u - one / other * u') - (one - one / other * other) * u' = -(one * u' - other * u) := by grind
  have d' : other * (u - one / other * u') - (one - one / other * other) * u' = q ∨ other * (u - one / other * u') - (one - one / other * other) * u' = -q := by
    rw [dd]
    rcases h.d with e | e <;> rw [e]
    · exact .inr rfl
    · exact .inl (by omega)
  have bu'' : (u - one / other * u').natAbs ≤ q.natAbs + 1 := by
    rw [hr] at d'
    generalize u - one / other * u' = w at *
    have k1 : other * w - (one % other) * u' = q ∨ other * w - (one % other) * u' = -q := d'
    rcases s' with ⟨a, b⟩ | ⟨a, b⟩
    · have m1 := Int.mul_nonneg r0 a
      have m2 := Int.mul_le_mul_of_nonneg_right (show (1 : Int) ≤ other by omega) (show 0 ≤ -w by omega)
      rw [Int.one_mul, Int.mul_neg] at m2
      omega
    · have m1 := Int.mul_nonneg r0 (show 0 ≤ -u' by omega)
      have m2 := Int.mul_le_mul_of_nonneg_right (show (1 : Int) ≤ other by omega) b
      rw [Int.one_mul] at m2
      rw [Int.mul_neg] at m1
      omega
  have gg : Nat.gcd other.natAbs (one - one / other * other).natAbs = 1 := by
    have h1 : Nat.gcd other.natAbs (one - one / other * other).natAbs ∣ other.natAbs := Nat.gcd_dvd_left _ _
    have h2 : Nat.gcd other.natAbs (one - one / other * other).natAbs ∣ (one - one / other * other).natAbs := Nat.gcd_dvd_right _ _
    generalize Nat.gcd other.natAbs (one - one / other * other).natAbs = k at *
    have i1 := Int.ofNat_dvd_left.mpr h1
    have i2 := Int.ofNat_dvd_left.mpr h2
    have i3 : (k : Int) ∣ one := by
      have := Int.dvd_add i2 (Int.dvd_mul_of_dvd_right i1 (b := one / other))
      rwa [show one - one / other * other + one / other * other = one by omega] at this
    have i4 : k ∣ Nat.gcd one.natAbs other.natAbs := Nat.dvd_gcd (Int.ofNat_dvd_left.mp i3) h1
    rw [h.g] at i4
    exact Nat.dvd_one.mp i4
  refine ⟨⟨by rw [hr]; exact r0, .inl h.o, h.e2, ?_, d', s', h.bu', bu'', gg, h.b2, ?_, fun z => absurd (h.z z).1 ho⟩, ?_⟩
  · have a := h.e1
    have b := h.e2
    generalize one / other = t at *
    rw [← a, ← b]
    grind
  · rw [hr]
    have := h.b2
    omega
  · rw [hr]
    omega
theorem Bz.fin {M : Nat} {p q one u v u' v' : Int} (h : Bz M p q one 0 u v u' v') (hp : p.natAbs ≤ M) : (p * u - q * (0 - v) = 1 ∨ p * u - q * (0 - v) = -1) ∧ u.natAbs ≤ q.natAbs + 1 ∧ v.natAbs ≤ M + (q.natAbs + 1) * M := by
  have g := h.g
  rw [show (0 : Int).natAbs = 0 from rfl, Nat.gcd_zero_right] at g
  have e := h.e1
  refine ⟨?_, h.bu, ?_⟩
  · have : p * u - q * (0 - v) = one := by rw [← e]; grind
    rw [this]
    omega
  · by_cases hq : q = 0
    · rw [(h.z hq).2]
      exact Nat.zero_le _
    · have h1 : v.natAbs ≤ (v * q).natAbs := by
        rw [Int.natAbs_mul]
        exact Nat.le_mul_of_pos_right _ (by omega)
      have h2 : v * q = one - u * p := by omega
      have h3 : (u * p).natAbs ≤ (q.natAbs + 1) * M := by
        rw [Int.natAbs_mul]
        exact Nat.mul_le_mul h.bu hp
      have h4 := h.b1
      rw [h2] at h1
      omega
theorem Bz.bv {M : Nat} {p q one other u v u' v' : Int} (h : Bz M p q one other u v u' v') (ho : other ≠ 0) (hp : p.natAbs ≤ M) : v'.natAbs ≤ M + (q.natAbs + 1) * M := by
  have hq : q ≠ 0 := fun z => ho (h.z z).1
  have e := h.e2
  have h1 : v'.natAbs ≤ (v' * q).natAbs := by
    rw [Int.natAbs_mul]
    exact Nat.le_mul_of_pos_right _ (by omega)
  have h2 : v' * q = other - u' * p := by omega
  have h3 : (u' * p).natAbs ≤ (q.natAbs + 1) * M := by
    rw [Int.natAbs_mul]
    exact Nat.mul_le_mul h.bu' hp
  have h4 := h.b2
  rw [h2] at h1
  omega
end Fr
namespace K16
open PySem PySem.Spec PyProof.Rows L2 Fr
def Un (K : PySem.W.Frag) (H : Hp) (A : Addr) : Prop := ∃ a b c, SqT K H A [.ref a, .ref b, .ref c] ∧ SqT K H a [.int 1, .int 0, .int 0] ∧ SqT K H b [.int 0, .int 1, .int 0] ∧ SqT K H c [.int 0, .int 0, .int 1]
theorem un_k {K : PySem.W.Frag} {H : Hp} {A a b c : Addr} {o0 o1 o2 o3 : Option Addr} {s0 s1 s2 s3 : Array (Option Value)} {n0 n1 n2 n3 : Nat} {t0 t1 t2 t3 t4 t5 t6 t7 t8 : Tok}
    (h0 : K.lookup A = some ⟨.type "tuple", o0, .seq #[.ref a, .ref b, .ref c] n0, s0⟩) (h1 : K.lookup a = some ⟨.type "tuple", o1, .seq #[.int 1 t0, .int 0 t1, .int 0 t2] n1, s1⟩)
    (h2 : K.lookup b = some ⟨.type "tuple", o2, .seq #[.int 0 t3, .int 1 t4, .int 0 t5] n2, s2⟩) (h3 : K.lookup c = some ⟨.type "tuple", o3, .seq #[.int 0 t6, .int 0 t7, .int 1 t8] n3, s3⟩) : Un K H A :=
  ⟨a, b, c, .inr ⟨_, _, _, h0, rfl, rfl, by show 3 ≤ sizeLine; decide, .cons rfl (.cons rfl (.cons rfl .nil))⟩, .inr ⟨_, _, _, h1, rfl, rfl, by show 3 ≤ sizeLine; decide, .cons ⟨_, rfl⟩ (.cons ⟨_, rfl⟩ (.cons ⟨_, rfl⟩ .nil))⟩,
    .inr ⟨_, _, _, h2, rfl, rfl, by show 3 ≤ sizeLine; decide, .cons ⟨_, rfl⟩ (.cons ⟨_, rfl⟩ (.cons ⟨_, rfl⟩ .nil))⟩, .inr ⟨_, _, _, h3, rfl, rfl, by show 3 ≤ sizeLine; decide, .cons ⟨_, rfl⟩ (.cons ⟨_, rfl⟩ (.cons ⟨_, rfl⟩ .nil))⟩⟩
def topS (i : Nat) : Stmt := PySem.Challenge.pw_formrings_k16_whole_trace_tables.main.body.getD i (.Pass ⟨0, 0, 0, 0⟩)
abbrev s_is_any_integer : Stmt := topS 16
abbrev N_is_any_integer : List Str := ["value"]
theorem sc_is_any_integer : FnScope N_is_any_integer ["value"] (defScope s_is_any_integer) := ⟨rfl, rfl, rfl, by decide +kernel, rfl, by decide +kernel, by decide +kernel⟩
abbrev s_is_short_integer : Stmt := topS 17
abbrev N_is_short_integer : List Str := ["value"]
theorem sc_is_short_integer : FnScope N_is_short_integer ["value"] (defScope s_is_short_integer) := ⟨rfl, rfl, rfl, by decide +kernel, rfl, by decide +kernel, by decide +kernel⟩
abbrev s_are_any_integers : Stmt := topS 19
abbrev N_are_any_integers : List Str := ["value", "many", "number"]
theorem sc_are_any_integers : FnScope N_are_any_integers ["value", "many"] (defScope s_are_any_integers) := ⟨rfl, rfl, rfl, by decide +kernel, rfl, by decide +kernel, by decide +kernel⟩
abbrev s_are_short_integers : Stmt := topS 20
abbrev N_are_short_integers : List Str := ["value", "many", "n"]
theorem sc_are_short_integers : FnScope N_are_short_integers ["value", "many"] (defScope s_are_short_integers) := ⟨rfl, rfl, rfl, by decide +kernel, rfl, by decide +kernel, by decide +kernel⟩
abbrev s_check_integer : Stmt := topS 22
abbrev N_check_integer : List Str := ["value"]
theorem sc_check_integer : FnScope N_check_integer ["value"] (defScope s_check_integer) := ⟨rfl, rfl, rfl, by decide +kernel, rfl, by decide +kernel, by decide +kernel⟩
abbrev s_shared_divisor : Stmt := topS 25
abbrev N_shared_divisor : List Str := ["numbers", "shared", "number"]
theorem sc_shared_divisor : FnScope N_shared_divisor ["numbers"] (defScope s_shared_divisor) := ⟨rfl, rfl, rfl, by decide +kernel, rfl, by decide +kernel, by decide +kernel⟩
abbrev s_fraction : Stmt := topS 26
abbrev N_fraction : List Str := ["top", "bottom", "shared"]
theorem sc_fraction : FnScope N_fraction ["top", "bottom"] (defScope s_fraction) := ⟨rfl, rfl, rfl, by decide +kernel, rfl, by decide +kernel, by decide +kernel⟩
abbrev s_determinant_of : Stmt := topS 28
abbrev N_determinant_of : List Str := ["change", "p", "q", "r", "s"]
theorem sc_determinant_of : FnScope N_determinant_of ["change"] (defScope s_determinant_of) := ⟨rfl, rfl, rfl, by decide +kernel, rfl, by decide +kernel, by decide +kernel⟩
abbrev s_is_change : Stmt := topS 29
abbrev N_is_change : List Str := ["value", "row"]
theorem sc_is_change : FnScope N_is_change ["value"] (defScope s_is_change) := ⟨rfl, rfl, rfl, by decide +kernel, rfl, by decide +kernel, by decide +kernel⟩
abbrev s_is_short_change : Stmt := topS 30
abbrev N_is_short_change : List Str := ["value", "row"]
theorem sc_is_short_change : FnScope N_is_short_change ["value"] (defScope s_is_short_change) := ⟨rfl, rfl, rfl, by decide +kernel, rfl, by decide +kernel, by decide +kernel⟩
abbrev s_check_change : Stmt := topS 31
abbrev N_check_change : List Str := ["value"]
theorem sc_check_change : FnScope N_check_change ["value"] (defScope s_check_change) := ⟨rfl, rfl, rfl, by decide +kernel, rfl, by decide +kernel, by decide +kernel⟩
abbrev s_form_value : Stmt := topS 42
abbrev N_form_value : List Str := ["coefficients", "x", "y", "a", "b", "c", "d"]
theorem sc_form_value : FnScope N_form_value ["coefficients", "x", "y"] (defScope s_form_value) := ⟨rfl, rfl, rfl, by decide +kernel, rfl, by decide +kernel, by decide +kernel⟩
abbrev s_form_discriminant : Stmt := topS 43
abbrev N_form_discriminant : List Str := ["coefficients", "a", "b", "c", "d"]
theorem sc_form_discriminant : FnScope N_form_discriminant ["coefficients"] (defScope s_form_discriminant) := ⟨rfl, rfl, rfl, by decide +kernel, rfl, by decide +kernel, by decide +kernel⟩
abbrev s_form_led : Stmt := topS 44
abbrev N_form_led : List Str := ["coefficients", "change", "a", "b", "c", "d", "p", "q", "r", "s", "e", "second", "third"]
theorem sc_form_led : FnScope N_form_led ["coefficients", "change"] (defScope s_form_led) := ⟨rfl, rfl, rfl, by decide +kernel, rfl, by decide +kernel, by decide +kernel⟩
abbrev s_check_form : Stmt := topS 46
abbrev N_check_form : List Str := ["value"]
theorem sc_check_form : FnScope N_check_form ["value"] (defScope s_check_form) := ⟨rfl, rfl, rfl, by decide +kernel, rfl, by decide +kernel, by decide +kernel⟩
abbrev s_form_of : Stmt := topS 47
abbrev N_form_of : List Str := ["coefficients", "form"]
theorem sc_form_of : FnScope N_form_of ["coefficients"] (defScope s_form_of) := ⟨rfl, rfl, rfl, by decide +kernel, rfl, by decide +kernel, by decide +kernel⟩
abbrev s_Form___init__ : Stmt := inClass (topS 48) 0
abbrev N_Form___init__ : List Str := ["self", "coefficients"]
theorem sc_Form___init__ : FnScope N_Form___init__ ["self", "coefficients"] (defScope s_Form___init__) := ⟨rfl, rfl, rfl, by decide +kernel, rfl, by decide +kernel, by decide +kernel⟩
abbrev s_Form_coefficients : Stmt := inClass (topS 48) 2
abbrev N_Form_coefficients : List Str := ["self"]
theorem sc_Form_coefficients : FnScope N_Form_coefficients ["self"] (defScope s_Form_coefficients) := ⟨rfl, rfl, rfl, by decide +kernel, rfl, by decide +kernel, by decide +kernel⟩
abbrev s_Form_discriminant : Stmt := inClass (topS 48) 3
abbrev N_Form_discriminant : List Str := ["self"]
theorem sc_Form_discriminant : FnScope N_Form_discriminant ["self"] (defScope s_Form_discriminant) := ⟨rfl, rfl, rfl, by decide +kernel, rfl, by decide +kernel, by decide +kernel⟩
abbrev s_Form_led : Stmt := inClass (topS 48) 8
abbrev N_Form_led : List Str := ["self", "change"]
theorem sc_Form_led : FnScope N_Form_led ["self", "change"] (defScope s_Form_led) := ⟨rfl, rfl, rfl, by decide +kernel, rfl, by decide +kernel, by decide +kernel⟩
abbrev s_Form___eq__ : Stmt := inClass (topS 48) 17
abbrev N_Form___eq__ : List Str := ["self", "other"]
theorem sc_Form___eq__ : FnScope N_Form___eq__ ["self", "other"] (defScope s_Form___eq__) := ⟨rfl, rfl, rfl, by decide +kernel, rfl, by decide +kernel, by decide +kernel⟩
abbrev s_table_of : Stmt := topS 51
abbrev N_table_of : List Str := ["coefficients", "a", "b", "c", "d"]
theorem sc_table_of : FnScope N_table_of ["coefficients"] (defScope s_table_of) := ⟨rfl, rfl, rfl, by decide +kernel, rfl, by decide +kernel, by decide +kernel⟩
abbrev s_product_by : Stmt := topS 52
abbrev N_product_by : List Str := ["table", "first", "second", "a", "b", "c", "d", "e", "f", "g", "h", "i", "u", "x", "y", "v", "z", "s", "left", "middle", "right"]
theorem sc_product_by : FnScope N_product_by ["table", "first", "second"] (defScope s_product_by) := ⟨rfl, rfl, rfl, by decide +kernel, rfl, by decide +kernel, by decide +kernel⟩
abbrev s_map_by : Stmt := topS 53
abbrev N_map_by : List Str := ["table", "entries", "a", "b", "c", "d", "e", "f", "g", "h", "i", "u", "x", "y"]
theorem sc_map_by : FnScope N_map_by ["table", "entries"] (defScope s_map_by) := ⟨rfl, rfl, rfl, by decide +kernel, rfl, by decide +kernel, by decide +kernel⟩
abbrev s_trace_by : Stmt := topS 54
abbrev N_trace_by : List Str := ["table", "entries", "rows"]
theorem sc_trace_by : FnScope N_trace_by ["table", "entries"] (defScope s_trace_by) := ⟨rfl, rfl, rfl, by decide +kernel, rfl, by decide +kernel, by decide +kernel⟩
abbrev s_check_bottom : Stmt := topS 56
abbrev N_check_bottom : List Str := ["bottom"]
theorem sc_check_bottom : FnScope N_check_bottom ["bottom"] (defScope s_check_bottom) := ⟨rfl, rfl, rfl, by decide +kernel, rfl, by decide +kernel, by decide +kernel⟩
abbrev s_table_for : Stmt := topS 57
abbrev N_table_for : List Str := ["ring"]
theorem sc_table_for : FnScope N_table_for ["ring"] (defScope s_table_for) := ⟨rfl, rfl, rfl, by decide +kernel, rfl, by decide +kernel, by decide +kernel⟩
abbrev s_Ring___init__ : Stmt := inClass (topS 58) 0
abbrev N_Ring___init__ : List Str := ["self", "form"]
theorem sc_Ring___init__ : FnScope N_Ring___init__ ["self", "form"] (defScope s_Ring___init__) := ⟨rfl, rfl, rfl, by decide +kernel, rfl, by decide +kernel, by decide +kernel⟩
abbrev s_Ring_form : Stmt := inClass (topS 58) 1
abbrev N_Ring_form : List Str := ["self"]
theorem sc_Ring_form : FnScope N_Ring_form ["self"] (defScope s_Ring_form) := ⟨rfl, rfl, rfl, by decide +kernel, rfl, by decide +kernel, by decide +kernel⟩
abbrev s_Ring_discriminant : Stmt := inClass (topS 58) 2
abbrev N_Ring_discriminant : List Str := ["self"]
theorem sc_Ring_discriminant : FnScope N_Ring_discriminant ["self"] (defScope s_Ring_discriminant) := ⟨rfl, rfl, rfl, by decide +kernel, rfl, by decide +kernel, by decide +kernel⟩
abbrev s_Ring_element : Stmt := inClass (topS 58) 6
abbrev N_Ring_element : List Str := ["self", "entries", "bottom"]
theorem sc_Ring_element : FnScope N_Ring_element ["self", "entries", "bottom"] (defScope s_Ring_element) := ⟨rfl, rfl, rfl, by decide +kernel, rfl, by decide +kernel, by decide +kernel⟩
abbrev s_Ring___eq__ : Stmt := inClass (topS 58) 7
abbrev N_Ring___eq__ : List Str := ["self", "other"]
theorem sc_Ring___eq__ : FnScope N_Ring___eq__ ["self", "other"] (defScope s_Ring___eq__) := ⟨rfl, rfl, rfl, by decide +kernel, rfl, by decide +kernel, by decide +kernel⟩
abbrev s_check_ring : Stmt := topS 59
abbrev N_check_ring : List Str := ["value"]
theorem sc_check_ring : FnScope N_check_ring ["value"] (defScope s_check_ring) := ⟨rfl, rfl, rfl, by decide +kernel, rfl, by decide +kernel, by decide +kernel⟩
abbrev s_check_one_ring : Stmt := topS 60
abbrev N_check_one_ring : List Str := ["first", "second"]
theorem sc_check_one_ring : FnScope N_check_one_ring ["first", "second"] (defScope s_check_one_ring) := ⟨rfl, rfl, rfl, by decide +kernel, rfl, by decide +kernel, by decide +kernel⟩
abbrev s_Element___init__ : Stmt := inClass (topS 64) 0
abbrev N_Element___init__ : List Str := ["self", "ring", "entries", "bottom", "shared", "number"]
theorem sc_Element___init__ : FnScope N_Element___init__ ["self", "ring", "entries", "bottom"] (defScope s_Element___init__) := ⟨rfl, rfl, rfl, by decide +kernel, rfl, by decide +kernel, by decide +kernel⟩
abbrev s_Element_ring : Stmt := inClass (topS 64) 1
abbrev N_Element_ring : List Str := ["self"]
theorem sc_Element_ring : FnScope N_Element_ring ["self"] (defScope s_Element_ring) := ⟨rfl, rfl, rfl, by decide +kernel, rfl, by decide +kernel, by decide +kernel⟩
abbrev s_Element_trace : Stmt := inClass (topS 64) 4
abbrev N_Element_trace : List Str := ["self"]
theorem sc_Element_trace : FnScope N_Element_trace ["self"] (defScope s_Element_trace) := ⟨rfl, rfl, rfl, by decide +kernel, rfl, by decide +kernel, by decide +kernel⟩
abbrev s_Element___mul__ : Stmt := inClass (topS 64) 10
abbrev N_Element___mul__ : List Str := ["self", "other", "entries"]
theorem sc_Element___mul__ : FnScope N_Element___mul__ ["self", "other"] (defScope s_Element___mul__) := ⟨rfl, rfl, rfl, by decide +kernel, rfl, by decide +kernel, by decide +kernel⟩
abbrev s_trace_table : Stmt := topS 65
abbrev N_trace_table : List Str := ["ring", "table", "one", "other"]
theorem sc_trace_table : FnScope N_trace_table ["ring"] (defScope s_trace_table) := ⟨rfl, rfl, rfl, by decide +kernel, rfl, by decide +kernel, by decide +kernel⟩
abbrev s_l_vat : Stmt := topS 67
abbrev N_l_vat : List Str := ["_law_script", "_law_spot", "_law_cell", "_law_great"]
theorem sc_l_vat : FnScope N_l_vat ["_law_script", "_law_spot"] (defScope s_l_vat) := ⟨rfl, rfl, rfl, by decide +kernel, rfl, by decide +kernel, by decide +kernel⟩
abbrev s_l_drip : Stmt := topS 68
abbrev N_l_drip : List Str := ["_law_vat_here", "_law_total", "_law_found", "_law_one", "_law_two"]
theorem sc_l_drip : FnScope N_l_drip ["_law_vat_here", "_law_total"] (defScope s_l_drip) := ⟨rfl, rfl, rfl, by decide +kernel, rfl, by decide +kernel, by decide +kernel⟩
abbrev s_l_some_of : Stmt := topS 69
abbrev N_l_some_of : List Str := ["_law_vat_here", "_law_items"]
theorem sc_l_some_of : FnScope N_l_some_of ["_law_vat_here", "_law_items"] (defScope s_l_some_of) := ⟨rfl, rfl, rfl, by decide +kernel, rfl, by decide +kernel, by decide +kernel⟩
abbrev s_l_int : Stmt := topS 70
abbrev N_l_int : List Str := ["_law_vat_here", "_law_most"]
theorem sc_l_int : FnScope N_l_int ["_law_vat_here"] (defScope s_l_int) := ⟨rfl, rfl, rfl, by decide +kernel, rfl, by decide +kernel, by decide +kernel⟩
abbrev s_l_rows : Stmt := topS 71
abbrev N_l_rows : List Str := ["_law_form", "_law_a", "_law_b", "_law_c", "_law_d"]
theorem sc_l_rows : FnScope N_l_rows ["_law_form"] (defScope s_l_rows) := ⟨rfl, rfl, rfl, by decide +kernel, rfl, by decide +kernel, by decide +kernel⟩
abbrev s_l_mixed : Stmt := topS 72
abbrev N_l_mixed : List Str := ["_law_rows_here", "_law_one", "_law_other", "_law_found", "_law_factors", "_law_factor", "_law_row", "_law_entry", "_law_more"]
theorem sc_l_mixed : FnScope N_l_mixed ["_law_rows_here", "_law_one", "_law_other"] (defScope s_l_mixed) := ⟨rfl, rfl, rfl, by decide +kernel, rfl, by decide +kernel, by decide +kernel⟩
abbrev s_l_images : Stmt := topS 73
abbrev N_l_images : List Str := ["_law_rows_here", "_law_one"]
theorem sc_l_images : FnScope N_l_images ["_law_rows_here", "_law_one"] (defScope s_l_images) := ⟨rfl, rfl, rfl, by decide +kernel, rfl, by decide +kernel, by decide +kernel⟩
abbrev s_l_det : Stmt := topS 74
abbrev N_l_det : List Str := ["_law_rows_here", "_law_a", "_law_b", "_law_c", "_law_d", "_law_e", "_law_f", "_law_g", "_law_h", "_law_i"]
theorem sc_l_det : FnScope N_l_det ["_law_rows_here"] (defScope s_l_det) := ⟨rfl, rfl, rfl, by decide +kernel, rfl, by decide +kernel, by decide +kernel⟩
abbrev s_l_minors : Stmt := topS 75
abbrev N_l_minors : List Str := ["_law_rows_here", "_law_a", "_law_b", "_law_c", "_law_d", "_law_e", "_law_f", "_law_g", "_law_h", "_law_i"]
theorem sc_l_minors : FnScope N_l_minors ["_law_rows_here"] (defScope s_l_minors) := ⟨rfl, rfl, rfl, by decide +kernel, rfl, by decide +kernel, by decide +kernel⟩
abbrev s_l_coefficients : Stmt := topS 76
abbrev N_l_coefficients : List Str := ["_law_vat_here", "_law_way", "_law_found", "_law_factor", "_law_turn", "_law_entry"]
theorem sc_l_coefficients : FnScope N_l_coefficients ["_law_vat_here"] (defScope s_l_coefficients) := ⟨rfl, rfl, rfl, by decide +kernel, rfl, by decide +kernel, by decide +kernel⟩
abbrev s_l_discriminant : Stmt := topS 77
abbrev N_l_discriminant : List Str := ["_law_form", "_law_a", "_law_b", "_law_c", "_law_d", "_law_found"]
theorem sc_l_discriminant : FnScope N_l_discriminant ["_law_form"] (defScope s_l_discriminant) := ⟨rfl, rfl, rfl, by decide +kernel, rfl, by decide +kernel, by decide +kernel⟩
abbrev s_l_change : Stmt := topS 78
abbrev N_l_change : List Str := ["_law_vat_here", "_law_p", "_law_q", "_law_r", "_law_s", "_law_turn", "_law_number"]
theorem sc_l_change : FnScope N_l_change ["_law_vat_here"] (defScope s_l_change) := ⟨rfl, rfl, rfl, by decide +kernel, rfl, by decide +kernel, by decide +kernel⟩
abbrev s_l_due : Stmt := topS 79
abbrev N_l_due : List Str := ["_law_form", "_law_rows_here", "_law_units", "_law_found", "_law_one", "_law_line", "_law_other"]
theorem sc_l_due : FnScope N_l_due ["_law_form"] (defScope s_l_due) := ⟨rfl, rfl, rfl, by decide +kernel, rfl, by decide +kernel, by decide +kernel⟩
abbrev s_l_right : Stmt := topS 80
abbrev N_l_right : List Str := ["_law_vat_here", "_law_form", "_law_ring", "_law_told", "_law_due_here", "_law_led", "_law_one", "_law_other", "_law_whole", "_law_entry", "_law_row", "_law_line", "_law_turn", "_law_more", "_law_trace"]
theorem sc_l_right : FnScope N_l_right ["_law_vat_here"] (defScope s_l_right) := ⟨rfl, rfl, rfl, by decide +kernel, rfl, by decide +kernel, by decide +kernel⟩
abbrev s_law : Stmt := topS 81
abbrev N_law : List Str := ["_law_script", "_law_spot", "_law_vat_here", "_law_told"]
theorem sc_law : FnScope N_law ["_law_script"] (defScope s_law) := ⟨rfl, rfl, rfl, by decide +kernel, rfl, by decide +kernel, by decide +kernel⟩
structure Txt (K : PySem.W.Frag) (mg : Str → Option Value) (C_Form : Addr) (C_Ring : Addr) (C_Element : Addr) : Prop where
  g_Form : mg "Form" = some (.ref C_Form)
  cl_Form : Cls K C_Form
  ty_Form : TyI K C_Form
  na_Form_coefficients : NoAttr K C_Form "_coefficients"
  g_Ring : mg "Ring" = some (.ref C_Ring)
  cl_Ring : Cls K C_Ring
  ty_Ring : TyI K C_Ring
  na_Ring_form : NoAttr K C_Ring "_form"
  g_Element : mg "Element" = some (.ref C_Element)
  cl_Element : Cls K C_Element
  ty_Element : TyI K C_Element
  na_Element_ring : NoAttr K C_Element "_ring"
  na_Element_entries : NoAttr K C_Element "_entries"
  na_Element_bottom : NoAttr K C_Element "_bottom"
  d_is_any_integer : ∃ f fd, mg "is_any_integer" = some (.ref f) ∧ Fun K "is_any_integer" "is_any_integer" s_is_any_integer f fd
  d_is_short_integer : ∃ f fd, mg "is_short_integer" = some (.ref f) ∧ Fun K "is_short_integer" "is_short_integer" s_is_short_integer f fd
  d_are_any_integers : ∃ f fd, mg "are_any_integers" = some (.ref f) ∧ Fun K "are_any_integers" "are_any_integers" s_are_any_integers f fd
  d_are_short_integers : ∃ f fd, mg "are_short_integers" = some (.ref f) ∧ Fun K "are_short_integers" "are_short_integers" s_are_short_integers f fd
  d_check_integer : ∃ f fd, mg "check_integer" = some (.ref f) ∧ Fun K "check_integer" "check_integer" s_check_integer f fd
  d_shared_divisor : ∃ f fd, mg "shared_divisor" = some (.ref f) ∧ Fun K "shared_divisor" "shared_divisor" s_shared_divisor f fd
  d_fraction : ∃ f fd, mg "fraction" = some (.ref f) ∧ Fun K "fraction" "fraction" s_fraction f fd
  d_determinant_of : ∃ f fd, mg "determinant_of" = some (.ref f) ∧ Fun K "determinant_of" "determinant_of" s_determinant_of f fd
  d_is_change : ∃ f fd, mg "is_change" = some (.ref f) ∧ Fun K "is_change" "is_change" s_is_change f fd
  d_is_short_change : ∃ f fd, mg "is_short_change" = some (.ref f) ∧ Fun K "is_short_change" "is_short_change" s_is_short_change f fd
  d_check_change : ∃ f fd, mg "check_change" = some (.ref f) ∧ Fun K "check_change" "check_change" s_check_change f fd
  d_form_value : ∃ f fd, mg "form_value" = some (.ref f) ∧ Fun K "form_value" "form_value" s_form_value f fd
  d_form_discriminant : ∃ f fd, mg "form_discriminant" = some (.ref f) ∧ Fun K "form_discriminant" "form_discriminant" s_form_discriminant f fd
  d_form_led : ∃ f fd, mg "form_led" = some (.ref f) ∧ Fun K "form_led" "form_led" s_form_led f fd
  d_check_form : ∃ f fd, mg "check_form" = some (.ref f) ∧ Fun K "check_form" "check_form" s_check_form f fd
  d_form_of : ∃ f fd, mg "form_of" = some (.ref f) ∧ Fun K "form_of" "form_of" s_form_of f fd
  e_Form___init__ : ∃ (p f : Addr) (fd : FuncData), Mk K C_Form f ∧ Fun K "__init__" "Form.__init__" s_Form___init__ f fd
  e_Form_coefficients : ∃ (p f : Addr) (fd : FuncData), PropOf K C_Form "coefficients" p f ∧ Fun K "coefficients" "Form.coefficients" s_Form_coefficients f fd
  e_Form_discriminant : ∃ (p f : Addr) (fd : FuncData), PropOf K C_Form "discriminant" p f ∧ Fun K "discriminant" "Form.discriminant" s_Form_discriminant f fd
  e_Form_led : ∃ (p f : Addr) (fd : FuncData), Meth K C_Form "led" f ∧ Fun K "led" "Form.led" s_Form_led f fd
  e_Form___eq__ : ∃ (p f : Addr) (fd : FuncData), EqC K C_Form f ∧ Fun K "__eq__" "Form.__eq__" s_Form___eq__ f fd
  d_table_of : ∃ f fd, mg "table_of" = some (.ref f) ∧ Fun K "table_of" "table_of" s_table_of f fd
  d_product_by : ∃ f fd, mg "product_by" = some (.ref f) ∧ Fun K "product_by" "product_by" s_product_by f fd
  d_map_by : ∃ f fd, mg "map_by" = some (.ref f) ∧ Fun K "map_by" "map_by" s_map_by f fd
  d_trace_by : ∃ f fd, mg "trace_by" = some (.ref f) ∧ Fun K "trace_by" "trace_by" s_trace_by f fd
  d_check_bottom : ∃ f fd, mg "check_bottom" = some (.ref f) ∧ Fun K "check_bottom" "check_bottom" s_check_bottom f fd
  d_table_for : ∃ f fd, mg "table_for" = some (.ref f) ∧ Fun K "table_for" "table_for" s_table_for f fd
  e_Ring___init__ : ∃ (p f : Addr) (fd : FuncData), Mk K C_Ring f ∧ Fun K "__init__" "Ring.__init__" s_Ring___init__ f fd
  e_Ring_form : ∃ (p f : Addr) (fd : FuncData), PropOf K C_Ring "form" p f ∧ Fun K "form" "Ring.form" s_Ring_form f fd
  e_Ring_discriminant : ∃ (p f : Addr) (fd : FuncData), PropOf K C_Ring "discriminant" p f ∧ Fun K "discriminant" "Ring.discriminant" s_Ring_discriminant f fd
  e_Ring_element : ∃ (p f : Addr) (fd : FuncData), Meth K C_Ring "element" f ∧ FunD K "element" "Ring.element" (defArgs s_Ring_element) (defBody s_Ring_element) (defScope s_Ring_element) [.int 1] [] f fd
  e_Ring___eq__ : ∃ (p f : Addr) (fd : FuncData), EqC K C_Ring f ∧ Fun K "__eq__" "Ring.__eq__" s_Ring___eq__ f fd
  d_check_ring : ∃ f fd, mg "check_ring" = some (.ref f) ∧ Fun K "check_ring" "check_ring" s_check_ring f fd
  d_check_one_ring : ∃ f fd, mg "check_one_ring" = some (.ref f) ∧ Fun K "check_one_ring" "check_one_ring" s_check_one_ring f fd
  e_Element___init__ : ∃ (p f : Addr) (fd : FuncData), Mk K C_Element f ∧ Fun K "__init__" "Element.__init__" s_Element___init__ f fd
  e_Element_ring : ∃ (p f : Addr) (fd : FuncData), PropOf K C_Element "ring" p f ∧ Fun K "ring" "Element.ring" s_Element_ring f fd
  e_Element_trace : ∃ (p f : Addr) (fd : FuncData), PropOf K C_Element "trace" p f ∧ Fun K "trace" "Element.trace" s_Element_trace f fd
  e_Element___mul__ : ∃ (p f : Addr) (fd : FuncData), BinC K C_Element "__mul__" f ∧ Fun K "__mul__" "Element.__mul__" s_Element___mul__ f fd
  d_trace_table : ∃ f fd, mg "trace_table" = some (.ref f) ∧ Fun K "trace_table" "trace_table" s_trace_table f fd
  d_l_vat : ∃ f fd, mg "_law_vat" = some (.ref f) ∧ Fun K "_law_vat" "_law_vat" s_l_vat f fd
  d_l_drip : ∃ f fd, mg "_law_drip" = some (.ref f) ∧ Fun K "_law_drip" "_law_drip" s_l_drip f fd
  d_l_some_of : ∃ f fd, mg "_law_some_of" = some (.ref f) ∧ Fun K "_law_some_of" "_law_some_of" s_l_some_of f fd
  d_l_int : ∃ f fd, mg "_law_int" = some (.ref f) ∧ Fun K "_law_int" "_law_int" s_l_int f fd
  d_l_rows : ∃ f fd, mg "_law_rows" = some (.ref f) ∧ Fun K "_law_rows" "_law_rows" s_l_rows f fd
  d_l_mixed : ∃ f fd, mg "_law_mixed" = some (.ref f) ∧ Fun K "_law_mixed" "_law_mixed" s_l_mixed f fd
  d_l_images : ∃ f fd, mg "_law_images" = some (.ref f) ∧ Fun K "_law_images" "_law_images" s_l_images f fd
  d_l_det : ∃ f fd, mg "_law_det" = some (.ref f) ∧ Fun K "_law_det" "_law_det" s_l_det f fd
  d_l_minors : ∃ f fd, mg "_law_minors" = some (.ref f) ∧ Fun K "_law_minors" "_law_minors" s_l_minors f fd
  d_l_coefficients : ∃ f fd, mg "_law_coefficients" = some (.ref f) ∧ Fun K "_law_coefficients" "_law_coefficients" s_l_coefficients f fd
  d_l_discriminant : ∃ f fd, mg "_law_discriminant" = some (.ref f) ∧ Fun K "_law_discriminant" "_law_discriminant" s_l_discriminant f fd
  d_l_change : ∃ f fd, mg "_law_change" = some (.ref f) ∧ Fun K "_law_change" "_law_change" s_l_change f fd
  d_l_due : ∃ f fd, mg "_law_due" = some (.ref f) ∧ Fun K "_law_due" "_law_due" s_l_due f fd
  d_l_right : ∃ f fd, mg "_law_right" = some (.ref f) ∧ Fun K "_law_right" "_law_right" s_l_right f fd
  d_law : ∃ f fd, mg "law" = some (.ref f) ∧ Fun K "law" "law" s_law f fd
  b_abs : mg "abs" = none
  b_all : mg "all" = none
  b_bool : mg "bool" = none
  b_int : mg "int" = none
  b_isinstance : mg "isinstance" = none
  b_len : mg "len" = none
  b_max : mg "max" = none
  b_min : mg "min" = none
  b_range : mg "range" = none
  b_sum : mg "sum" = none
  b_tuple : mg "tuple" = none
  b_zip : mg "zip" = none
  x_LIMIT : ∃ t, mg "LIMIT" = some (.int (1000000000000000000000000000000000000000000000000000000000000) t)
  m_gcd : mg "gcd" = some (.builtin "math.gcd")
  k_UNITS : ∃ A, mg "UNITS" = some (.ref A) ∧ ∀ H, Un K H A
def Short (i : Int) : Prop := -1000000000000000000000000000000000000000000000000000000000000 < i ∧ i < 1000000000000000000000000000000000000000000000000000000000000
theorem Short.b {i : Int} (h : Short i) : B 200 i := ⟨by have := h.1; have := h.2; omega, by decide⟩
def Ti (H : Hp) (a : Addr) (ns : List Int) : Prop := H a = some (.tup (ns.map V.int))
def T4 (H : Hp) (a : Addr) (p q r s : Int) : Prop := ∃ t1 t2, H a = some (.tup [.ref t1, .ref t2]) ∧ H t1 = some (.tup [.int p, .int q]) ∧ H t2 = some (.tup [.int r, .int s])
def Tq (K : PySem.W.Frag) (H : Hp) (a : Addr) (ns : List Int) : Prop := SqT K H a (ns.map V.int)
theorem Ti.q {K : PySem.W.Frag} {H : Hp} {a : Addr} {ns : List Int} (h : Ti H a ns) : Tq K H a ns := SqT.of h
def T33 (H : Hp) (a : Addr) (r1 r2 r3 : List Int) : Prop := ∃ t1 t2 t3, H a = some (.tup [.ref t1, .ref t2, .ref t3]) ∧ Ti H t1 r1 ∧ Ti H t2 r2 ∧ Ti H t3 r3
def L33 (H : Hp) (a : Addr) (r1 r2 r3 : List Int) : Prop := ∃ t1 t2 t3, H a = some (.lst [.ref t1, .ref t2, .ref t3]) ∧ Ti H t1 r1 ∧ Ti H t2 r2 ∧ Ti H t3 r3
def M33 (K : PySem.W.Frag) (H : Hp) (a : Addr) (r1 r2 r3 : List Int) : Prop := ∃ t1 t2 t3, H a = some (.lst [.ref t1, .ref t2, .ref t3]) ∧ Tq K H t1 r1 ∧ Tq K H t2 r2 ∧ Tq K H t3 r3
def FormAt (C : Addr) (H : Hp) (x : Addr) (ns : List Int) : Prop := ∃ dx t, H x = some (.ins C dx [(("_coefficients" : Str), .ref t)]) ∧ Ti H t ns
def ChOk (p q r s : Int) : Prop := Short p ∧ Short q ∧ Short r ∧ Short s ∧ (p * s - q * r = 1 ∨ p * s - q * r = -1)
theorem Ti.ex {H H' : Hp} {a : Addr} {ns : List Int} (h : Ti H a ns) (e : ∀ b xs, H b = some (.tup xs) → H' b = some (.tup xs)) : Ti H' a ns := e _ _ h
theorem T4.ex {H H' : Hp} {a : Addr} {p q r s : Int} (h : T4 H a p q r s) (e : ∀ b xs, H b = some (.tup xs) → H' b = some (.tup xs)) : T4 H' a p q r s := by
  obtain ⟨t1, t2, h0, h1, h2⟩ := h
  exact ⟨t1, t2, e _ _ h0, e _ _ h1, e _ _ h2⟩
theorem get_int {ns : List Int} {i : Nat} {x : V} (hx : (ns.map V.int)[i]? = some x) : ∃ n, ns[i]? = some n ∧ x = V.int n := by
  rw [List.getElem?_map] at hx
  cases e : ns[i]? with
  | none => rw [e] at hx; cases hx
  | some z => rw [e] at hx; exact ⟨z, rfl, (Option.some.inj hx).symm⟩
def gcdL (ns : List Int) : Nat := ns.foldl (fun g n => Nat.gcd g n.natAbs) 0
theorem gcdL_take {ns : List Int} {i : Nat} {n : Int} (h : ns[i]? = some n) : gcdL (ns.take (i + 1)) = Nat.gcd (gcdL (ns.take i)) n.natAbs := by
  unfold gcdL
  rw [List.take_add_one, h, List.foldl_append]
  rfl
def fv (a b c d x y : Int) : Int := a * x * x * x + b * x * x * y + c * x * y * y + d * y * y * y
def fdisc (a b c d : Int) : Int := b * b * c * c - 4 * a * c * c * c - 4 * b * b * b * d - 27 * a * a * d * d + 18 * a * b * c * d
def fl2 (a b c d p q r s : Int) : Int := 3 * a * p * p * r + b * p * (p * s + 2 * q * r) + c * q * (2 * p * s + q * r) + 3 * d * q * q * s
def fl3 (a b c d p q r s : Int) : Int := 3 * a * p * r * r + b * r * (2 * p * s + q * r) + c * s * (p * s + 2 * q * r) + 3 * d * q * s * s
def fled (a b c d p q r s : Int) : List Int := [(p * s - q * r) * fv a b c d p q, (p * s - q * r) * fl2 a b c d p q r s, (p * s - q * r) * fl3 a b c d p q r s, (p * s - q * r) * fv a b c d r s]
theorem un4 {K : PySem.W.Frag} {i j k l : Nat} {σ : L2.St} {H : Hp} {a : Addr} {p q r s : Int} {Q : L2.St → Hp → Prop} (h : T4 H a p q r s)
    (z : Q ((((σ.set i (some (.int p))).set j (some (.int q))).set k (some (.int r))).set l (some (.int s))) H) :
    gTup K 2 (gCons (gTup K 2 (gCons (gName i) (gCons (gName j) gNil))) (gCons (gTup K 2 (gCons (gName k) (gCons (gName l) gNil))) gNil)) (.ref a) σ H Q := by
  obtain ⟨t1, t2, h0, h1, h2⟩ := h
  refine ⟨a, _, rfl, SqT.of h0, rfl, _, _, rfl, ?_⟩
  refine ⟨t1, _, rfl, SqT.of h1, rfl, _, _, rfl, ?_⟩
  refine ⟨_, _, rfl, ⟨rfl, ?_⟩⟩
  refine ⟨_, _, rfl, ?_⟩
  refine ⟨t2, _, rfl, SqT.of h2, rfl, _, _, rfl, ?_⟩
  exact ⟨_, _, rfl, ⟨rfl, ⟨rfl, z⟩⟩⟩
theorem unI4 {K : PySem.W.Frag} {i j k l : Nat} {σ : L2.St} {H : Hp} {t : Addr} {a b c d : Int} {Q : L2.St → Hp → Prop} (h : Ti H t [a, b, c, d])
    (z : Q ((((σ.set i (some (.int a))).set j (some (.int b))).set k (some (.int c))).set l (some (.int d))) H) :
    gTup K 4 (gCons (gName i) (gCons (gName j) (gCons (gName k) (gCons (gName l) gNil)))) (.ref t) σ H Q :=
  ⟨t, _, rfl, SqT.of h, rfl, _, _, rfl, _, _, rfl, _, _, rfl, _, _, rfl, rfl, z⟩
theorem t4_new {H : Hp} {t1 t2 x : Addr} {p q r s : Int} (n1 : H t1 = none) (n2 : upd H t1 (.tup [.int p, .int q]) t2 = none) (n3 : upd (upd H t1 (.tup [.int p, .int q])) t2 (.tup [.int r, .int s]) x = none) :
    Ex0 H (upd (upd (upd H t1 (.tup [.int p, .int q])) t2 (.tup [.int r, .int s])) x (.tup [.ref t1, .ref t2])) ∧ T4 (upd (upd (upd H t1 (.tup [.int p, .int q])) t2 (.tup [.int r, .int s])) x (.tup [.ref t1, .ref t2])) x p q r s :=
  ⟨((Ex0.new n1).trans (Ex0.new n2)).trans (Ex0.new n3), t1, t2, upd_same, Ex0.ap (Ex0.new n3) (Ex0.ap (Ex0.new n2) upd_same), Ex0.ap (Ex0.new n3) upd_same⟩
theorem Ex0.t4 {H H' : Hp} {a : Addr} {p q r s : Int} (e : Ex0 H H') (h : T4 H a p q r s) : T4 H' a p q r s := h.ex fun _ _ z => Ex0.ap e z
theorem Ex0.ti {H H' : Hp} {a : Addr} {ns : List Int} (e : Ex0 H H') (h : Ti H a ns) : Ti H' a ns := Ex0.ap e h
theorem Ex0.fo {C : Addr} {H H' : Hp} {x : Addr} {ns : List Int} (e : Ex0 H H') (h : FormAt C H x ns) : FormAt C H' x ns := by
  obtain ⟨dx, t, h1, h2⟩ := h
  exact ⟨dx, t, Ex0.ap e h1, Ex0.ap e h2⟩
def RingAt (C C_R : Addr) (H : Hp) (r : Addr) (ns : List Int) : Prop := ∃ dr x, H r = some (.ins C_R dr [(("_form" : Str), .ref x)]) ∧ FormAt C H x ns
def ElAt (C C_R C_E : Addr) (H : Hp) (e : Addr) (ns : List Int) (u y z b : Int) : Prop := ∃ de r t, H e = some (.ins C_E de [(("_ring" : Str), .ref r), (("_entries" : Str), .ref t), (("_bottom" : Str), .int b)]) ∧ RingAt C C_R H r ns ∧ Ti H t [u, y, z]
theorem Ex0.tq {K : PySem.W.Frag} {H H' : Hp} {a : Addr} {ns : List Int} (e : Ex0 H H') (h : Tq K H a ns) : Tq K H' a ns := e.sqT (fun z => z) h
theorem Ex0.t33 {H H' : Hp} {a : Addr} {r1 r2 r3 : List Int} (e : Ex0 H H') (h : T33 H a r1 r2 r3) : T33 H' a r1 r2 r3 := by
  obtain ⟨t1, t2, t3, h0, h1, h2, h3⟩ := h
  exact ⟨t1, t2, t3, Ex0.ap e h0, Ex0.ap e h1, Ex0.ap e h2, Ex0.ap e h3⟩
theorem Ex0.l33 {H H' : Hp} {a : Addr} {r1 r2 r3 : List Int} (e : Ex0 H H') (h : L33 H a r1 r2 r3) : L33 H' a r1 r2 r3 := by
  obtain ⟨t1, t2, t3, h0, h1, h2, h3⟩ := h
  exact ⟨t1, t2, t3, Ex0.ap e h0, Ex0.ap e h1, Ex0.ap e h2, Ex0.ap e h3⟩
theorem Ex0.ri {C C_R : Addr} {H H' : Hp} {r : Addr} {ns : List Int} (e : Ex0 H H') (h : RingAt C C_R H r ns) : RingAt C C_R H' r ns := by
  obtain ⟨dr, x, h1, h2⟩ := h
  exact ⟨dr, x, Ex0.ap e h1, Ex0.fo e h2⟩
theorem Ex0.el {C C_R C_E : Addr} {H H' : Hp} {x : Addr} {ns : List Int} {u y z b : Int} (e : Ex0 H H') (h : ElAt C C_R C_E H x ns u y z b) : ElAt C C_R C_E H' x ns u y z b := by
  obtain ⟨de, r, t, h1, h2, h3⟩ := h
  exact ⟨de, r, t, Ex0.ap e h1, Ex0.ri e h2, Ex0.ti e h3⟩
theorem unq3 {K : PySem.W.Frag} {i j k : Nat} {σ : L2.St} {H : Hp} {t : Addr} {a b c : Int} {Q : L2.St → Hp → Prop} (h : Tq K H t [a, b, c])
    (z : Q (((σ.set i (some (.int a))).set j (some (.int b))).set k (some (.int c))) H) :
    gTup K 3 (gCons (gName i) (gCons (gName j) (gCons (gName k) gNil))) (.ref t) σ H Q :=
  ⟨t, _, rfl, h, rfl, _, _, rfl, _, _, rfl, _, _, rfl, rfl, z⟩
def w1 (a b c d : Int) : List Int := [-a * c, b, -a]
def w2 (a b c d : Int) : List Int := [-a * d, 0, 0]
def w3 (a b c d : Int) : List Int := [-b * d, d, -c]
def m0 (a d g u y z v s r : Int) : Int := u * v + y * s * a + (y * r + z * s) * d + z * r * g
def m1 (b e h u y z v s r : Int) : Int := u * s + y * v + y * s * b + (y * r + z * s) * e + z * r * h
def m2 (c f i u y z v s r : Int) : Int := u * r + z * v + y * s * c + (y * r + z * s) * f + z * r * i
def pr (a b c d u y z v s r : Int) : List Int := [m0 (-a * c) (-a * d) (-b * d) u y z v s r, m1 b 0 d u y z v s r, m2 (-a) 0 (-c) u y z v s r]
def tr (a b c d u y z : Int) : Int := 3 * u + b * y - c * z
section
def sp_is_any_integer (_ : PySem.W.Frag) (C C_R C_E : Addr) : Sp := fun vs H Q _ => ∃ i : Int, vs = [.int i] ∧ Q (.bl true) H
def sp_is_short_integer (_ : PySem.W.Frag) (C C_R C_E : Addr) : Sp := fun vs H Q _ => ∃ i : Int, vs = [.int i] ∧ Short i ∧ Q (.bl true) H
def sp_are_any_integers (_ : PySem.W.Frag) (C C_R C_E : Addr) : Sp := fun vs H Q _ => ∃ (a : Addr) (ns : List Int), vs = [.ref a, .int (ns.length : Int)] ∧ Ti H a ns ∧ ns.length ≤ 1000 ∧ ∀ H', Ex0 H H' → Q (.bl true) H'
def sp_are_short_integers (_ : PySem.W.Frag) (C C_R C_E : Addr) : Sp := fun vs H Q _ => ∃ (a : Addr) (ns : List Int), vs = [.ref a, .int (ns.length : Int)] ∧ Ti H a ns ∧ ns.length ≤ 1000 ∧ (∀ n ∈ ns, Short n) ∧ ∀ H', Ex0 H H' → Q (.bl true) H'
def sp_check_integer (_ : PySem.W.Frag) (C C_R C_E : Addr) : Sp := fun vs H Q _ => ∃ i : Int, vs = [.int i] ∧ Short i ∧ Q .non H
def sp_determinant_of (_ : PySem.W.Frag) (C C_R C_E : Addr) : Sp := fun vs H Q _ => ∃ (a : Addr) (p q r s : Int), vs = [.ref a] ∧ T4 H a p q r s ∧ B 200 p ∧ B 200 q ∧ B 200 r ∧ B 200 s ∧ Q (.int (p * s - q * r)) H
def sp_is_change (_ : PySem.W.Frag) (C C_R C_E : Addr) : Sp := fun vs H Q _ => ∃ (a : Addr) (p q r s : Int), vs = [.ref a] ∧ T4 H a p q r s ∧ ChOk p q r s ∧ ∀ H', Ex0 H H' → Q (.bl true) H'
def sp_is_short_change (_ : PySem.W.Frag) (C C_R C_E : Addr) : Sp := fun vs H Q _ => ∃ (a : Addr) (p q r s : Int), vs = [.ref a] ∧ T4 H a p q r s ∧ ChOk p q r s ∧ ∀ H', Ex0 H H' → Q (.bl true) H'
def sp_check_change (_ : PySem.W.Frag) (C C_R C_E : Addr) : Sp := fun vs H Q _ => ∃ (a : Addr) (p q r s : Int), vs = [.ref a] ∧ T4 H a p q r s ∧ ChOk p q r s ∧ ∀ H', Ex0 H H' → Q .non H'
def sp_shared_divisor (_ : PySem.W.Frag) (C C_R C_E : Addr) : Sp := fun vs H Q _ => ∃ (a : Addr) (ns : List Int), vs = [.ref a] ∧ Ti H a ns ∧ Q (.int (gcdL ns : Nat)) H
def sp_form_value (_ : PySem.W.Frag) (C C_R C_E : Addr) : Sp := fun vs H Q _ => ∃ (t : Addr) (a b c d x y : Int), vs = [.ref t, .int x, .int y] ∧ Ti H t [a, b, c, d] ∧ B 1000 a ∧ B 1000 b ∧ B 1000 c ∧ B 1000 d ∧ B 200 x ∧ B 200 y ∧ Q (.int (fv a b c d x y)) H
def sp_form_discriminant (_ : PySem.W.Frag) (C C_R C_E : Addr) : Sp := fun vs H Q _ => ∃ (t : Addr) (a b c d : Int), vs = [.ref t] ∧ Ti H t [a, b, c, d] ∧ B 1000 a ∧ B 1000 b ∧ B 1000 c ∧ B 1000 d ∧ Q (.int (fdisc a b c d)) H
def sp_form_led (_ : PySem.W.Frag) (C C_R C_E : Addr) : Sp := fun vs H Q _ => ∃ (t u : Addr) (a b c d p q r s : Int), vs = [.ref t, .ref u] ∧ Ti H t [a, b, c, d] ∧ T4 H u p q r s ∧ B 1000 a ∧ B 1000 b ∧ B 1000 c ∧ B 1000 d ∧ B 200 p ∧ B 200 q ∧ B 200 r ∧ B 200 s ∧ ∀ x H', Ex0 H H' → Ti H' x (fled a b c d p q r s) → Q (.ref x) H'
def sp_form_of (_ : PySem.W.Frag) (C C_R C_E : Addr) : Sp := fun vs H Q _ => ∃ (t : Addr) (ns : List Int), vs = [.ref t] ∧ Ti H t ns ∧ ∀ x H', Ex0 H H' → FormAt C H' x ns → Q (.ref x) H'
def sp_Form___init__ (_ : PySem.W.Frag) (C C_R C_E : Addr) : Sp := fun vs H Q _ => ∃ (x dx t : Addr) (ns : List Int), vs = [.ref x, .ref t] ∧ H x = some (.ins C dx []) ∧ Ti H t ns ∧ ns.length = 4 ∧ (∀ n ∈ ns, Short n) ∧ ∀ H', (∀ b o, b ≠ x → H b = some o → H' b = some o) → H' x = some (.ins C dx [(("_coefficients" : Str), .ref t)]) → Q .non H'
def sp_Form_coefficients (_ : PySem.W.Frag) (C C_R C_E : Addr) : Sp := fun vs H Q _ => ∃ (x : Addr) (ns : List Int), vs = [.ref x] ∧ FormAt C H x ns ∧ ∀ t, Ti H t ns → Q (.ref t) H
def sp_Form_discriminant (_ : PySem.W.Frag) (C C_R C_E : Addr) : Sp := fun vs H Q _ => ∃ (x : Addr) (a b c d : Int), vs = [.ref x] ∧ FormAt C H x [a, b, c, d] ∧ B 1000 a ∧ B 1000 b ∧ B 1000 c ∧ B 1000 d ∧ Q (.int (fdisc a b c d)) H
def sp_Form_led (_ : PySem.W.Frag) (C C_R C_E : Addr) : Sp := fun vs H Q _ => ∃ (z u : Addr) (a b c d p q r s : Int), vs = [.ref z, .ref u] ∧ FormAt C H z [a, b, c, d] ∧ T4 H u p q r s ∧ B 1000 a ∧ B 1000 b ∧ B 1000 c ∧ B 1000 d ∧ ChOk p q r s ∧ ∀ x H', Ex0 H H' → FormAt C H' x (fled a b c d p q r s) → Q (.ref x) H'
def sp_Form___eq__ (_ : PySem.W.Frag) (C C_R C_E : Addr) : Sp := fun vs H Q _ => ∃ (x y : Addr) (ns ms : List Int), vs = [.ref x, .ref y] ∧ FormAt C H x ns ∧ FormAt C H y ms ∧ Q (.bl (decide (ns = ms))) H
end
section
variable {P : Program} {w : World} {K : PySem.W.Frag} {mg : Str → Option Value} {base : Heap} {C_Form C_Ring C_Element : Addr}
theorem ok_is_any_integer (T : Txt K mg C_Form C_Ring C_Element) : Def P w K mg base 1 "is_any_integer" ["value"] (sp_is_any_integer K C_Form C_Ring C_Element) := by
  obtain ⟨f_, fd_, g_, F_⟩ := T.d_is_any_integer
  refine ⟨f_, fd_, g_, F_.kp, F_.binds (ps := ["value"]) (fun _ _ _ _ _ _ us hl => match us, hl with | [_], _ => rfl), ?_⟩
  refine F_.ok sc_is_any_integer (fun vs H Q E h => ?_) (fun cdv A outer s H vs Q E hr h => ?_)
  · first | (obtain ⟨rfl, _⟩ := h; rfl) | (obtain ⟨_, rfl, _⟩ := h; rfl) | (obtain ⟨_, _, rfl, _⟩ := h; rfl) | (obtain ⟨_, _, _, rfl, _⟩ := h; rfl) | (obtain ⟨_, _, _, _, rfl, _⟩ := h; rfl) | (obtain ⟨_, _, _, _, _, rfl, _⟩ := h; rfl) | (obtain ⟨_, _, _, _, _, _, rfl, _⟩ := h; rfl) | (obtain ⟨_, _, _, _, _, _, _, rfl, _⟩ := h; rfl) | (obtain ⟨_, _, _, _, _, _, _, _, rfl, _⟩ := h; rfl) | (obtain ⟨_, _, _, _, _, _, _, _, _, rfl, _⟩ := h; rfl) | (obtain ⟨_, _, _, _, _, _, _, _, _, _, rfl, _⟩ := h; rfl) | (obtain ⟨_, _, _, _, _, _, _, _, _, _, _, rfl, _⟩ := h; rfl) | (obtain ⟨_, _, _, _, _, _, _, _, _, _, _, _, rfl, _⟩ := h; rfl) | (obtain ⟨_, _, _, _, _, _, _, _, _, _, _, _, _, rfl, _⟩ := h; rfl) | (obtain ⟨_, _, _, _, _, _, _, _, _, _, _, _, _, _, rfl, _⟩ := h; rfl) | (obtain ⟨_, _, _, _, _, _, _, _, _, _, _, _, _, _, _, rfl, _⟩ := h; rfl) | (obtain ⟨_, _, _, _, _, _, _, _, _, _, _, _, _, _, _, _, rfl, _⟩ := h; rfl) | (obtain ⟨_, _, _, _, _, _, _, _, _, _, _, _, _, _, _, _, _, rfl, _⟩ := h; rfl) | (obtain ⟨_, _, _, _, _, _, _, _, _, _, _, _, _, _, _, _, _, _, rfl, _⟩ := h; rfl) | (obtain ⟨_, _, _, _, _, _, _, _, _, _, _, _, _, _, _, _, _, _, _, rfl, _⟩ := h; rfl) | (obtain ⟨_, _, _, _, _, _, _, _, _, _, _, _, _, _, _, _, _, _, _, _, rfl, _⟩ := h; rfl) | (obtain ⟨_, _, _, _, _, _, _, _, _, _, _, _, _, _, _, _, _, _, _, _, _, rfl, _⟩ := h; rfl) | (obtain ⟨_, _, _, _, _, _, _, _, _, _, _, _, _, _, _, _, _, _, _, _, _, _, rfl, _⟩ := h; rfl) | (obtain ⟨_, _, _, _, _, _, _, _, _, _, _, _, _, _, _, _, _, _, _, _, _, _, _, rfl, _⟩ := h; rfl)
  · obtain ⟨i, rfl, q⟩ := h
    refine ⟨_, (pss_one (ps_ret (pe_and (pe_callB call_isi (by rfl) T.b_isinstance (by decide +kernel) (pa_cons (pv 0) (pa_cons (pe_bltn (v := .ty "int") (by rfl) T.b_int (by decide +kernel) rfl) pa_nil))) (pe_one (pe_not (pe_callB call_isi (by rfl) T.b_isinstance (by decide +kernel) (pa_cons (pv 0) (pa_cons (pe_bltn (v := .ty "bool") (by rfl) T.b_bool (by decide +kernel) rfl) pa_nil)))))))), ?_⟩
    refine ⟨_, rfl, _, _, _, _, true, rfl, .ty _, .base (.int i), kit_ty (by decide +kernel), _, rfl, iteT ?_⟩
    exact ⟨_, rfl, _, _, _, _, false, rfl, .ty _, .base (.int i), kit_ty (by decide +kernel), _, rfl, q⟩
theorem ok_is_short_integer (T : Txt K mg C_Form C_Ring C_Element) : Def P w K mg base 2 "is_short_integer" ["value"] (sp_is_short_integer K C_Form C_Ring C_Element) := by
  obtain ⟨f_, fd_, g_, F_⟩ := T.d_is_short_integer
  obtain ⟨f_is_any_integer, fd_is_any_integer, g_is_any_integer, k_is_any_integer, b_is_any_integer, G_is_any_integer⟩ := (ok_is_any_integer (P := P) (w := w) (base := base) T)
  refine ⟨f_, fd_, g_, F_.kp, F_.binds (ps := ["value"]) (fun _ _ _ _ _ _ us hl => match us, hl with | [_], _ => rfl), ?_⟩
  refine F_.ok sc_is_short_integer (fun vs H Q E h => ?_) (fun cdv A outer s H vs Q E hr h => ?_)
  · first | (obtain ⟨rfl, _⟩ := h; rfl) | (obtain ⟨_, rfl, _⟩ := h; rfl) | (obtain ⟨_, _, rfl, _⟩ := h; rfl) | (obtain ⟨_, _, _, rfl, _⟩ := h; rfl) | (obtain ⟨_, _, _, _, rfl, _⟩ := h; rfl) | (obtain ⟨_, _, _, _, _, rfl, _⟩ := h; rfl) | (obtain ⟨_, _, _, _, _, _, rfl, _⟩ := h; rfl) | (obtain ⟨_, _, _, _, _, _, _, rfl, _⟩ := h; rfl) | (obtain ⟨_, _, _, _, _, _, _, _, rfl, _⟩ := h; rfl) | (obtain ⟨_, _, _, _, _, _, _, _, _, rfl, _⟩ := h; rfl) | (obtain ⟨_, _, _, _, _, _, _, _, _, _, rfl, _⟩ := h; rfl) | (obtain ⟨_, _, _, _, _, _, _, _, _, _, _, rfl, _⟩ := h; rfl) | (obtain ⟨_, _, _, _, _, _, _, _, _, _, _, _, rfl, _⟩ := h; rfl) | (obtain ⟨_, _, _, _, _, _, _, _, _, _, _, _, _, rfl, _⟩ := h; rfl) | (obtain ⟨_, _, _, _, _, _, _, _, _, _, _, _, _, _, rfl, _⟩ := h; rfl) | (obtain ⟨_, _, _, _, _, _, _, _, _, _, _, _, _, _, _, rfl, _⟩ := h; rfl) | (obtain ⟨_, _, _, _, _, _, _, _, _, _, _, _, _, _, _, _, rfl, _⟩ := h; rfl) | (obtain ⟨_, _, _, _, _, _, _, _, _, _, _, _, _, _, _, _, _, rfl, _⟩ := h; rfl) | (obtain ⟨_, _, _, _, _, _, _, _, _, _, _, _, _, _, _, _, _, _, rfl, _⟩ := h; rfl) | (obtain ⟨_, _, _, _, _, _, _, _, _, _, _, _, _, _, _, _, _, _, _, rfl, _⟩ := h; rfl) | (obtain ⟨_, _, _, _, _, _, _, _, _, _, _, _, _, _, _, _, _, _, _, _, rfl, _⟩ := h; rfl) | (obtain ⟨_, _, _, _, _, _, _, _, _, _, _, _, _, _, _, _, _, _, _, _, _, rfl, _⟩ := h; rfl) | (obtain ⟨_, _, _, _, _, _, _, _, _, _, _, _, _, _, _, _, _, _, _, _, _, _, rfl, _⟩ := h; rfl) | (obtain ⟨_, _, _, _, _, _, _, _, _, _, _, _, _, _, _, _, _, _, _, _, _, _, _, rfl, _⟩ := h; rfl)
  · obtain ⟨i, rfl, hs, q⟩ := h
    obtain ⟨t_LIMIT, h_LIMIT⟩ := T.x_LIMIT
    refine ⟨_, (pss_one (ps_ret (pe_and (pe_call G_is_any_integer (hr.mono (by decide)) (by rfl) g_is_any_integer k_is_any_integer b_is_any_integer .nil pass0 (pa_cons (pv 0) pa_nil)) (pe_one (pe_chain op_lt op_lt (pe_un un_neg (pe_glob (v := .int 1000000000000000000000000000000000000000000000000000000000000) (by rfl) h_LIMIT ⟨_, rfl⟩)) (pv 0) (pe_glob (v := .int 1000000000000000000000000000000000000000000000000000000000000) (by rfl) h_LIMIT ⟨_, rfl⟩)))))), ?_⟩
    refine ⟨_, rfl, i, rfl, _, rfl, iteT ?_⟩
    refine ⟨_, rfl, _, rfl, _, _, rfl, rfl, _, rfl, dT hs.1 ⟨_, _, rfl, rfl, ?_⟩⟩
    show Q (.bl (decide (i < 1000000000000000000000000000000000000000000000000000000000000))) H
    rw [decide_eq_true hs.2]
    exact q
theorem ok_check_integer (T : Txt K mg C_Form C_Ring C_Element) : Def P w K mg base 3 "check_integer" ["value"] (sp_check_integer K C_Form C_Ring C_Element) := by
  obtain ⟨f_, fd_, g_, F_⟩ := T.d_check_integer
  obtain ⟨f_is_short_integer, fd_is_short_integer, g_is_short_integer, k_is_short_integer, b_is_short_integer, G_is_short_integer⟩ := (ok_is_short_integer (P := P) (w := w) (base := base) T)
  refine ⟨f_, fd_, g_, F_.kp, F_.binds (ps := ["value"]) (fun _ _ _ _ _ _ us hl => match us, hl with | [_], _ => rfl), ?_⟩
  refine F_.ok sc_check_integer (fun vs H Q E h => ?_) (fun cdv A outer s H vs Q E hr h => ?_)
  · first | (obtain ⟨rfl, _⟩ := h; rfl) | (obtain ⟨_, rfl, _⟩ := h; rfl) | (obtain ⟨_, _, rfl, _⟩ := h; rfl) | (obtain ⟨_, _, _, rfl, _⟩ := h; rfl) | (obtain ⟨_, _, _, _, rfl, _⟩ := h; rfl) | (obtain ⟨_, _, _, _, _, rfl, _⟩ := h; rfl) | (obtain ⟨_, _, _, _, _, _, rfl, _⟩ := h; rfl) | (obtain ⟨_, _, _, _, _, _, _, rfl, _⟩ := h; rfl) | (obtain ⟨_, _, _, _, _, _, _, _, rfl, _⟩ := h; rfl) | (obtain ⟨_, _, _, _, _, _, _, _, _, rfl, _⟩ := h; rfl) | (obtain ⟨_, _, _, _, _, _, _, _, _, _, rfl, _⟩ := h; rfl) | (obtain ⟨_, _, _, _, _, _, _, _, _, _, _, rfl, _⟩ := h; rfl) | (obtain ⟨_, _, _, _, _, _, _, _, _, _, _, _, rfl, _⟩ := h; rfl) | (obtain ⟨_, _, _, _, _, _, _, _, _, _, _, _, _, rfl, _⟩ := h; rfl) | (obtain ⟨_, _, _, _, _, _, _, _, _, _, _, _, _, _, rfl, _⟩ := h; rfl) | (obtain ⟨_, _, _, _, _, _, _, _, _, _, _, _, _, _, _, rfl, _⟩ := h; rfl) | (obtain ⟨_, _, _, _, _, _, _, _, _, _, _, _, _, _, _, _, rfl, _⟩ := h; rfl) | (obtain ⟨_, _, _, _, _, _, _, _, _, _, _, _, _, _, _, _, _, rfl, _⟩ := h; rfl) | (obtain ⟨_, _, _, _, _, _, _, _, _, _, _, _, _, _, _, _, _, _, rfl, _⟩ := h; rfl) | (obtain ⟨_, _, _, _, _, _, _, _, _, _, _, _, _, _, _, _, _, _, _, rfl, _⟩ := h; rfl) | (obtain ⟨_, _, _, _, _, _, _, _, _, _, _, _, _, _, _, _, _, _, _, _, rfl, _⟩ := h; rfl) | (obtain ⟨_, _, _, _, _, _, _, _, _, _, _, _, _, _, _, _, _, _, _, _, _, rfl, _⟩ := h; rfl) | (obtain ⟨_, _, _, _, _, _, _, _, _, _, _, _, _, _, _, _, _, _, _, _, _, _, rfl, _⟩ := h; rfl) | (obtain ⟨_, _, _, _, _, _, _, _, _, _, _, _, _, _, _, _, _, _, _, _, _, _, _, rfl, _⟩ := h; rfl)
  · obtain ⟨i, rfl, hs, q⟩ := h
    refine ⟨_, (pss_one (ps_if (pt_not (pt_val (pe_call G_is_short_integer (hr.mono (by decide)) (by rfl) g_is_short_integer k_is_short_integer b_is_short_integer .nil pass0 (pa_cons (pv 0) pa_nil))))
      pss_never
      pss_nil)), ?_⟩
    refine ⟨_, rfl, i, rfl, hs, _, rfl, ?_⟩
    exact iteF q
theorem ok_are_any_integers (T : Txt K mg C_Form C_Ring C_Element) : Def P w K mg base 2 "are_any_integers" ["value", "many"] (sp_are_any_integers K C_Form C_Ring C_Element) := by
  obtain ⟨f_, fd_, g_, F_⟩ := T.d_are_any_integers
  obtain ⟨f_is_any_integer, fd_is_any_integer, g_is_any_integer, k_is_any_integer, b_is_any_integer, G_is_any_integer⟩ := (ok_is_any_integer (P := P) (w := w) (base := base) T)
  refine ⟨f_, fd_, g_, F_.kp, F_.binds (ps := ["value", "many"]) (fun _ _ _ _ _ _ us hl => match us, hl with | [_, _], _ => rfl), ?_⟩
  refine F_.ok sc_are_any_integers (fun vs H Q E h => ?_) (fun cdv A outer s H vs Q E hr h => ?_)
  · first | (obtain ⟨rfl, _⟩ := h; rfl) | (obtain ⟨_, rfl, _⟩ := h; rfl) | (obtain ⟨_, _, rfl, _⟩ := h; rfl) | (obtain ⟨_, _, _, rfl, _⟩ := h; rfl) | (obtain ⟨_, _, _, _, rfl, _⟩ := h; rfl) | (obtain ⟨_, _, _, _, _, rfl, _⟩ := h; rfl) | (obtain ⟨_, _, _, _, _, _, rfl, _⟩ := h; rfl) | (obtain ⟨_, _, _, _, _, _, _, rfl, _⟩ := h; rfl) | (obtain ⟨_, _, _, _, _, _, _, _, rfl, _⟩ := h; rfl) | (obtain ⟨_, _, _, _, _, _, _, _, _, rfl, _⟩ := h; rfl) | (obtain ⟨_, _, _, _, _, _, _, _, _, _, rfl, _⟩ := h; rfl) | (obtain ⟨_, _, _, _, _, _, _, _, _, _, _, rfl, _⟩ := h; rfl) | (obtain ⟨_, _, _, _, _, _, _, _, _, _, _, _, rfl, _⟩ := h; rfl) | (obtain ⟨_, _, _, _, _, _, _, _, _, _, _, _, _, rfl, _⟩ := h; rfl) | (obtain ⟨_, _, _, _, _, _, _, _, _, _, _, _, _, _, rfl, _⟩ := h; rfl) | (obtain ⟨_, _, _, _, _, _, _, _, _, _, _, _, _, _, _, rfl, _⟩ := h; rfl) | (obtain ⟨_, _, _, _, _, _, _, _, _, _, _, _, _, _, _, _, rfl, _⟩ := h; rfl) | (obtain ⟨_, _, _, _, _, _, _, _, _, _, _, _, _, _, _, _, _, rfl, _⟩ := h; rfl) | (obtain ⟨_, _, _, _, _, _, _, _, _, _, _, _, _, _, _, _, _, _, rfl, _⟩ := h; rfl) | (obtain ⟨_, _, _, _, _, _, _, _, _, _, _, _, _, _, _, _, _, _, _, rfl, _⟩ := h; rfl) | (obtain ⟨_, _, _, _, _, _, _, _, _, _, _, _, _, _, _, _, _, _, _, _, rfl, _⟩ := h; rfl) | (obtain ⟨_, _, _, _, _, _, _, _, _, _, _, _, _, _, _, _, _, _, _, _, _, rfl, _⟩ := h; rfl) | (obtain ⟨_, _, _, _, _, _, _, _, _, _, _, _, _, _, _, _, _, _, _, _, _, _, rfl, _⟩ := h; rfl) | (obtain ⟨_, _, _, _, _, _, _, _, _, _, _, _, _, _, _, _, _, _, _, _, _, _, _, rfl, _⟩ := h; rfl)
  · obtain ⟨a, ns, rfl, ha, hl, q⟩ := h
    refine ⟨_, (pss_cons (ps_if (PW.pt (pw_or (pt_not (pt_val (pe_callB call_isi (by rfl) T.b_isinstance (by decide +kernel) (pa_cons (pv 0) (pa_cons (pe_bltn (v := .ty "tuple") (by rfl) T.b_tuple (by decide +kernel) rfl) pa_nil))))) (pw_or1 (pt_cmpR op_ne (pe_callB call_len_seq (by rfl) T.b_len PySem.boot_len (pa_cons (pv 0) pa_nil)) (pv 1) (nomark _)))))
      (pss_one (ps_ret pe_bl))
      pss_nil)
    (pss_one (ps_ret (pe_callB (cr_all rfl) (by rfl) T.b_all (by decide +kernel) (pa_cons (pe_lc (own := [("number", 2)]) (g := (gName 2)) rfl sc_are_any_integers.nd (pi_tup (pv 0)) (blkOk_by (N := N_are_any_integers) (sc := defScope s_are_any_integers) (by decide +kernel)) (fun _ _ _ _ _ => (pg_name (i := 2) sc_are_any_integers.nd rfl (.inl rfl))) (fun _ _ _ _ _ => pts_nil) (fun _ _ _ _ _ => (pe_call G_is_any_integer (hr.mono (by decide)) (by rfl) g_is_any_integer k_is_any_integer b_is_any_integer .nil pass0 (pa_cons (pv 2) pa_nil)))) pa_nil))))), ?_⟩
    refine ⟨_, rfl, _, _, _, _, true, rfl, .ty _, .base (.tup ha), kit_ty (by decide +kernel), _, rfl, ?_⟩
    refine iteF ⟨_, rfl, a, _, rfl, .inr (SqT.of ha), _, rfl, rfl, _, rfl, ?_⟩
    refine ndF (by rw [List.length_map]) ?_
    refine ⟨_, rfl, a, rfl, ⟨_, SqT.of ha⟩, ?_⟩
    refine lcT fm0 trivial (SqT.of ha) (fun z => z) (fun i acc _ => acc = (List.replicate i true).map V.bl) (fun _ _ => rfl) (fun D i x acc H' hD hx e hA hlen hp => ?_) (fun D H' acc hD e hA hp => ?_)
    · obtain ⟨n, hn, rfl⟩ := get_int hx
      have hi := (List.getElem?_eq_some_iff.mp hn).1
      refine ⟨rfl, ?_⟩
      refine ⟨_, rfl, n, rfl, ?_⟩
      refine cs_yes fm0 trivial hD e hA hlen (by omega) (Fx.refl trivial) ?_
      show acc ++ [V.bl true] = _
      rw [hp, List.replicate_succ', List.map_append]
      rfl
    · rw [List.length_map] at hp
      subst hp
      refine ⟨D, _, rfl, SqL.of hA, ?_⟩
      rw [show ((List.replicate ns.length true).all id) = true by simp]
      exact q H' e
theorem ok_are_short_integers (T : Txt K mg C_Form C_Ring C_Element) : Def P w K mg base 3 "are_short_integers" ["value", "many"] (sp_are_short_integers K C_Form C_Ring C_Element) := by
  obtain ⟨f_, fd_, g_, F_⟩ := T.d_are_short_integers
  refine ⟨f_, fd_, g_, F_.kp, F_.binds (ps := ["value", "many"]) (fun _ _ _ _ _ _ us hl => match us, hl with | [_, _], _ => rfl), ?_⟩
  refine F_.ok sc_are_short_integers (fun vs H Q E h => ?_) (fun cdv A outer s H vs Q E hr h => ?_)
  · first | (obtain ⟨rfl, _⟩ := h; rfl) | (obtain ⟨_, rfl, _⟩ := h; rfl) | (obtain ⟨_, _, rfl, _⟩ := h; rfl) | (obtain ⟨_, _, _, rfl, _⟩ := h; rfl) | (obtain ⟨_, _, _, _, rfl, _⟩ := h; rfl) | (obtain ⟨_, _, _, _, _, rfl, _⟩ := h; rfl) | (obtain ⟨_, _, _, _, _, _, rfl, _⟩ := h; rfl) | (obtain ⟨_, _, _, _, _, _, _, rfl, _⟩ := h; rfl) | (obtain ⟨_, _, _, _, _, _, _, _, rfl, _⟩ := h; rfl) | (obtain ⟨_, _, _, _, _, _, _, _, _, rfl, _⟩ := h; rfl) | (obtain ⟨_, _, _, _, _, _, _, _, _, _, rfl, _⟩ := h; rfl) | (obtain ⟨_, _, _, _, _, _, _, _, _, _, _, rfl, _⟩ := h; rfl) | (obtain ⟨_, _, _, _, _, _, _, _, _, _, _, _, rfl, _⟩ := h; rfl) | (obtain ⟨_, _, _, _, _, _, _, _, _, _, _, _, _, rfl, _⟩ := h; rfl) | (obtain ⟨_, _, _, _, _, _, _, _, _, _, _, _, _, _, rfl, _⟩ := h; rfl) | (obtain ⟨_, _, _, _, _, _, _, _, _, _, _, _, _, _, _, rfl, _⟩ := h; rfl) | (obtain ⟨_, _, _, _, _, _, _, _, _, _, _, _, _, _, _, _, rfl, _⟩ := h; rfl) | (obtain ⟨_, _, _, _, _, _, _, _, _, _, _, _, _, _, _, _, _, rfl, _⟩ := h; rfl) | (obtain ⟨_, _, _, _, _, _, _, _, _, _, _, _, _, _, _, _, _, _, rfl, _⟩ := h; rfl) | (obtain ⟨_, _, _, _, _, _, _, _, _, _, _, _, _, _, _, _, _, _, _, rfl, _⟩ := h; rfl) | (obtain ⟨_, _, _, _, _, _, _, _, _, _, _, _, _, _, _, _, _, _, _, _, rfl, _⟩ := h; rfl) | (obtain ⟨_, _, _, _, _, _, _, _, _, _, _, _, _, _, _, _, _, _, _, _, _, rfl, _⟩ := h; rfl) | (obtain ⟨_, _, _, _, _, _, _, _, _, _, _, _, _, _, _, _, _, _, _, _, _, _, rfl, _⟩ := h; rfl) | (obtain ⟨_, _, _, _, _, _, _, _, _, _, _, _, _, _, _, _, _, _, _, _, _, _, _, rfl, _⟩ := h; rfl)
  · obtain ⟨a, ns, rfl, ha, hl, hs, q⟩ := h
    obtain ⟨t_LIMIT, h_LIMIT⟩ := T.x_LIMIT
    refine ⟨_, (pss_cons (ps_if (PW.pt (pw_or (pt_not (pt_val (pe_callB call_isi (by rfl) T.b_isinstance (by decide +kernel) (pa_cons (pv 0) (pa_cons (pe_bltn (v := .ty "tuple") (by rfl) T.b_tuple (by decide +kernel) rfl) pa_nil))))) (pw_or1 (pt_cmpR op_ne (pe_callB call_len_seq (by rfl) T.b_len PySem.boot_len (pa_cons (pv 0) pa_nil)) (pv 1) (nomark _)))))
      (pss_one (ps_ret pe_bl))
      pss_nil)
    (pss_one (ps_ret (pe_callB (cr_all rfl) (by rfl) T.b_all (by decide +kernel) (pa_cons (pe_lc (own := [("n", 2)]) (g := (gName 2)) rfl sc_are_short_integers.nd (pi_tup (pv 0)) (blkOk_by (N := N_are_short_integers) (sc := defScope s_are_short_integers) (by decide +kernel)) (fun _ _ _ _ _ => (pg_name (i := 2) sc_are_short_integers.nd rfl (.inl rfl))) (fun _ _ _ _ _ => pts_nil) (fun _ _ _ _ _ => (pe_and (pe_callB (call_isiKK (K := K) rfl) (by rfl) T.b_isinstance (by decide +kernel) (pa_cons (pv 2) (pa_cons (pe_bltn (v := .ty "int") (by rfl) T.b_int (by decide +kernel) rfl) pa_nil))) (pe_and (pe_not (pe_callB (call_isiKK (K := K) rfl) (by rfl) T.b_isinstance (by decide +kernel) (pa_cons (pv 2) (pa_cons (pe_bltn (v := .ty "bool") (by rfl) T.b_bool (by decide +kernel) rfl) pa_nil)))) (pe_one (pe_chain op_lt op_lt (pe_un un_neg (pe_glob (v := .int 1000000000000000000000000000000000000000000000000000000000000) (by rfl) h_LIMIT ⟨_, rfl⟩)) (pv 2) (pe_glob (v := .int 1000000000000000000000000000000000000000000000000000000000000) (by rfl) h_LIMIT ⟨_, rfl⟩))))))) pa_nil))))), ?_⟩
    refine ⟨_, rfl, _, _, _, _, true, rfl, .ty _, .base (.tup ha), kit_ty (by decide +kernel), _, rfl, ?_⟩
    refine iteF ⟨_, rfl, a, _, rfl, .inr (SqT.of ha), _, rfl, rfl, _, rfl, ?_⟩
    refine ndF (by rw [List.length_map]) ?_
    refine ⟨_, rfl, a, rfl, ⟨_, SqT.of ha⟩, ?_⟩
    refine lcT fm0 trivial (SqT.of ha) (fun z => z) (fun i acc _ => acc = (List.replicate i true).map V.bl) (fun _ _ => rfl) (fun D i x acc H' hD hx e hA hlen hp => ?_) (fun D H' acc hD e hA hp => ?_)
    · obtain ⟨n, hn, rfl⟩ := get_int hx
      have hi := (List.getElem?_eq_some_iff.mp hn).1
      refine ⟨rfl, ?_⟩
      have hn2 := hs n (List.mem_of_getElem? hn)
      refine ⟨_, rfl, _, _, _, _, true, rfl, .ty _, .base (.int n), kit_ty (by decide +kernel), _, rfl, iteT ?_⟩
      refine ⟨_, rfl, _, _, _, _, false, rfl, .ty _, .base (.int n), kit_ty (by decide +kernel), _, rfl, _, rfl, iteT ?_⟩
      refine ⟨_, rfl, _, rfl, _, _, rfl, rfl, _, rfl, dT hn2.1 ⟨_, _, rfl, rfl, ?_⟩⟩
      simp only [decide_eq_true hn2.2]
      refine cs_yes fm0 trivial hD e hA hlen (by omega) (Fx.refl trivial) ?_
      show acc ++ [V.bl true] = _
      rw [hp, List.replicate_succ', List.map_append]
      rfl
    · rw [List.length_map] at hp
      subst hp
      refine ⟨D, _, rfl, SqL.of hA, ?_⟩
      rw [show ((List.replicate ns.length true).all id) = true by simp]
      exact q H' e
theorem ok_determinant_of (T : Txt K mg C_Form C_Ring C_Element) : Def P w K mg base 1 "determinant_of" ["change"] (sp_determinant_of K C_Form C_Ring C_Element) := by
  obtain ⟨f_, fd_, g_, F_⟩ := T.d_determinant_of
  refine ⟨f_, fd_, g_, F_.kp, F_.binds (ps := ["change"]) (fun _ _ _ _ _ _ us hl => match us, hl with | [_], _ => rfl), ?_⟩
  refine F_.ok sc_determinant_of (fun vs H Q E h => ?_) (fun cdv A outer s H vs Q E hr h => ?_)
  · first | (obtain ⟨rfl, _⟩ := h; rfl) | (obtain ⟨_, rfl, _⟩ := h; rfl) | (obtain ⟨_, _, rfl, _⟩ := h; rfl) | (obtain ⟨_, _, _, rfl, _⟩ := h; rfl) | (obtain ⟨_, _, _, _, rfl, _⟩ := h; rfl) | (obtain ⟨_, _, _, _, _, rfl, _⟩ := h; rfl) | (obtain ⟨_, _, _, _, _, _, rfl, _⟩ := h; rfl) | (obtain ⟨_, _, _, _, _, _, _, rfl, _⟩ := h; rfl) | (obtain ⟨_, _, _, _, _, _, _, _, rfl, _⟩ := h; rfl) | (obtain ⟨_, _, _, _, _, _, _, _, _, rfl, _⟩ := h; rfl) | (obtain ⟨_, _, _, _, _, _, _, _, _, _, rfl, _⟩ := h; rfl) | (obtain ⟨_, _, _, _, _, _, _, _, _, _, _, rfl, _⟩ := h; rfl) | (obtain ⟨_, _, _, _, _, _, _, _, _, _, _, _, rfl, _⟩ := h; rfl) | (obtain ⟨_, _, _, _, _, _, _, _, _, _, _, _, _, rfl, _⟩ := h; rfl) | (obtain ⟨_, _, _, _, _, _, _, _, _, _, _, _, _, _, rfl, _⟩ := h; rfl) | (obtain ⟨_, _, _, _, _, _, _, _, _, _, _, _, _, _, _, rfl, _⟩ := h; rfl) | (obtain ⟨_, _, _, _, _, _, _, _, _, _, _, _, _, _, _, _, rfl, _⟩ := h; rfl) | (obtain ⟨_, _, _, _, _, _, _, _, _, _, _, _, _, _, _, _, _, rfl, _⟩ := h; rfl) | (obtain ⟨_, _, _, _, _, _, _, _, _, _, _, _, _, _, _, _, _, _, rfl, _⟩ := h; rfl) | (obtain ⟨_, _, _, _, _, _, _, _, _, _, _, _, _, _, _, _, _, _, _, rfl, _⟩ := h; rfl) | (obtain ⟨_, _, _, _, _, _, _, _, _, _, _, _, _, _, _, _, _, _, _, _, rfl, _⟩ := h; rfl) | (obtain ⟨_, _, _, _, _, _, _, _, _, _, _, _, _, _, _, _, _, _, _, _, _, rfl, _⟩ := h; rfl) | (obtain ⟨_, _, _, _, _, _, _, _, _, _, _, _, _, _, _, _, _, _, _, _, _, _, rfl, _⟩ := h; rfl) | (obtain ⟨_, _, _, _, _, _, _, _, _, _, _, _, _, _, _, _, _, _, _, _, _, _, _, rfl, _⟩ := h; rfl)
  · obtain ⟨a, p, q', r, s', rfl, ⟨t1, t2, h0, h1, h2⟩, bp, bq, br, bs, q⟩ := h
    refine ⟨_, (pss_cons (ps_asg (pv 0) (pg_tup (by rfl) (pgs_cons (pg_tup (by rfl) (pgs_cons (pg_name (i := 1) sc_determinant_of.nd rfl (.inl rfl)) (pgs_cons (pg_name (i := 2) sc_determinant_of.nd rfl (.inl rfl)) pgs_nil))) (pgs_cons (pg_tup (by rfl) (pgs_cons (pg_name (i := 3) sc_determinant_of.nd rfl (.inl rfl)) (pgs_cons (pg_name (i := 4) sc_determinant_of.nd rfl (.inl rfl)) pgs_nil))) pgs_nil))))
    (pss_one (ps_ret (pe_op op_sub (pe_op op_mulW (pv 1) (pv 4)) (pe_op op_mulW (pv 2) (pv 3)))))), ?_⟩
    refine ⟨_, rfl, a, _, rfl, SqT.of h0, rfl, _, _, rfl, ?_⟩
    refine ⟨t1, _, rfl, SqT.of h1, rfl, _, _, rfl, ?_⟩
    refine ⟨_, _, rfl, ⟨rfl, ?_⟩⟩
    refine ⟨_, _, rfl, ?_⟩
    refine ⟨t2, _, rfl, SqT.of h2, rfl, _, _, rfl, ?_⟩
    refine ⟨_, _, rfl, ⟨rfl, ?_⟩⟩
    refine ⟨rfl, ?_⟩
    exact ⟨_, rfl, _, rfl, _, _, rfl, rfl, mulB (by with_reducible assumption) (by with_reducible assumption) (by decide), _, rfl, _, rfl, _, _, rfl, rfl, mulB (by with_reducible assumption) (by with_reducible assumption) (by decide), _, _, rfl, rfl, q⟩
theorem ok_is_change (T : Txt K mg C_Form C_Ring C_Element) : Def P w K mg base 3 "is_change" ["value"] (sp_is_change K C_Form C_Ring C_Element) := by
  obtain ⟨f_, fd_, g_, F_⟩ := T.d_is_change
  obtain ⟨f_are_any_integers, fd_are_any_integers, g_are_any_integers, k_are_any_integers, b_are_any_integers, G_are_any_integers⟩ := (ok_are_any_integers (P := P) (w := w) (base := base) T)
  obtain ⟨f_determinant_of, fd_determinant_of, g_determinant_of, k_determinant_of, b_determinant_of, G_determinant_of⟩ := (ok_determinant_of (P := P) (w := w) (base := base) T)
  refine ⟨f_, fd_, g_, F_.kp, F_.binds (ps := ["value"]) (fun _ _ _ _ _ _ us hl => match us, hl with | [_], _ => rfl), ?_⟩
  refine F_.ok sc_is_change (fun vs H Q E h => ?_) (fun cdv A outer s H vs Q E hr h => ?_)
  · first | (obtain ⟨rfl, _⟩ := h; rfl) | (obtain ⟨_, rfl, _⟩ := h; rfl) | (obtain ⟨_, _, rfl, _⟩ := h; rfl) | (obtain ⟨_, _, _, rfl, _⟩ := h; rfl) | (obtain ⟨_, _, _, _, rfl, _⟩ := h; rfl) | (obtain ⟨_, _, _, _, _, rfl, _⟩ := h; rfl) | (obtain ⟨_, _, _, _, _, _, rfl, _⟩ := h; rfl) | (obtain ⟨_, _, _, _, _, _, _, rfl, _⟩ := h; rfl) | (obtain ⟨_, _, _, _, _, _, _, _, rfl, _⟩ := h; rfl) | (obtain ⟨_, _, _, _, _, _, _, _, _, rfl, _⟩ := h; rfl) | (obtain ⟨_, _, _, _, _, _, _, _, _, _, rfl, _⟩ := h; rfl) | (obtain ⟨_, _, _, _, _, _, _, _, _, _, _, rfl, _⟩ := h; rfl) | (obtain ⟨_, _, _, _, _, _, _, _, _, _, _, _, rfl, _⟩ := h; rfl) | (obtain ⟨_, _, _, _, _, _, _, _, _, _, _, _, _, rfl, _⟩ := h; rfl) | (obtain ⟨_, _, _, _, _, _, _, _, _, _, _, _, _, _, rfl, _⟩ := h; rfl) | (obtain ⟨_, _, _, _, _, _, _, _, _, _, _, _, _, _, _, rfl, _⟩ := h; rfl) | (obtain ⟨_, _, _, _, _, _, _, _, _, _, _, _, _, _, _, _, rfl, _⟩ := h; rfl) | (obtain ⟨_, _, _, _, _, _, _, _, _, _, _, _, _, _, _, _, _, rfl, _⟩ := h; rfl) | (obtain ⟨_, _, _, _, _, _, _, _, _, _, _, _, _, _, _, _, _, _, rfl, _⟩ := h; rfl) | (obtain ⟨_, _, _, _, _, _, _, _, _, _, _, _, _, _, _, _, _, _, _, rfl, _⟩ := h; rfl) | (obtain ⟨_, _, _, _, _, _, _, _, _, _, _, _, _, _, _, _, _, _, _, _, rfl, _⟩ := h; rfl) | (obtain ⟨_, _, _, _, _, _, _, _, _, _, _, _, _, _, _, _, _, _, _, _, _, rfl, _⟩ := h; rfl) | (obtain ⟨_, _, _, _, _, _, _, _, _, _, _, _, _, _, _, _, _, _, _, _, _, _, rfl, _⟩ := h; rfl) | (obtain ⟨_, _, _, _, _, _, _, _, _, _, _, _, _, _, _, _, _, _, _, _, _, _, _, rfl, _⟩ := h; rfl)
  · obtain ⟨a, p, q', r, s', rfl, h4, hc, q⟩ := h
    obtain ⟨t1, t2, h0, h1, h2⟩ := id h4
    refine ⟨_, (pss_cons (ps_if (PW.pt (pw_or (pt_not (pt_val (pe_callB call_isi (by rfl) T.b_isinstance (by decide +kernel) (pa_cons (pv 0) (pa_cons (pe_bltn (v := .ty "tuple") (by rfl) T.b_tuple (by decide +kernel) rfl) pa_nil))))) (pw_or1 (pt_cmpR op_ne (pe_callB call_len_seq (by rfl) T.b_len PySem.boot_len (pa_cons (pv 0) pa_nil)) pe_int (nomark _)))))
      (pss_one (ps_ret pe_bl))
      pss_nil)
    (pss_cons (ps_if (pt_not (pt_val (pe_callB (cr_all rfl) (by rfl) T.b_all (by decide +kernel) (pa_cons (pe_lc (own := [("row", 1)]) (g := (gName 1)) rfl sc_is_change.nd (pi_tup (pv 0)) (blkOk_by (N := N_is_change) (sc := defScope s_is_change) (by decide +kernel)) (fun _ _ _ _ _ => (pg_name (i := 1) sc_is_change.nd rfl (.inl rfl))) (fun _ _ _ _ _ => pts_nil) (fun _ _ _ _ _ => (pe_call G_are_any_integers (hr.mono (by decide)) (by rfl) g_are_any_integers k_are_any_integers b_are_any_integers .nil pass0 (pa_cons (pv 1) (pa_cons pe_int pa_nil))))) pa_nil))))
      (pss_one (ps_ret pe_bl))
      pss_nil)
    (pss_one (ps_ret (pe_cmpR op_in_seq (pe_call G_determinant_of (hr.mono (by decide)) (by rfl) g_determinant_of k_determinant_of b_determinant_of .nil pass0 (pa_cons (pv 0) pa_nil)) (pe_tup (pa_cons pe_int (pa_cons (pe_un un_neg pe_int) pa_nil))) (by with_unfolding_all rfl)))))), ?_⟩
    refine ⟨_, rfl, _, _, _, _, true, rfl, .ty _, .base (.tup h0), kit_ty (by decide +kernel), _, rfl, ?_⟩
    refine iteF ⟨_, rfl, a, _, rfl, .inr (SqT.of h0), rfl, _, rfl, ?_⟩
    refine ndF rfl ?_
    refine ⟨_, rfl, a, rfl, ⟨_, SqT.of h0⟩, ?_⟩
    refine lcT fm0 trivial (SqT.of h0) (fun z => z) (fun i acc _ => acc = (List.replicate i true).map V.bl) (fun _ _ => rfl) (fun D i x acc H' hD hx e hA hlen hp => ?_) (fun D H' acc hD e hA hp => ?_)
    · have fin : ∀ (t : Addr) (u v : Int), x = .ref t → H t = some (.tup [.int u, .int v]) → i < 2 → ∃ t, x = .ref t ∧ ∃ u v, H' t = some (.tup [.int u, .int v]) ∧ i < 2 := fun t u v e1 e2 e3 => ⟨t, e1, u, v, Ex0.ap e e2, e3⟩
      obtain ⟨t, rfl, u, v, ht, hi⟩ : ∃ t, x = .ref t ∧ ∃ u v, H' t = some (.tup [.int u, .int v]) ∧ i < 2 := by
        match i, hx with
        | 0, hx => exact fin t1 p q' (Option.some.inj hx).symm h1 (by decide)
        | 1, hx => exact fin t2 r s' (Option.some.inj hx).symm h2 (by decide)
      refine ⟨rfl, ?_⟩
      refine ⟨_, rfl, t, [u, v], rfl, ht, by show 2 ≤ 1000; decide, fun H'' e'' => ?_⟩
      refine cs_yes fm0 trivial hD e hA hlen (by omega) e'' ?_
      rw [hp, List.replicate_succ', List.map_append]
      rfl
    · refine ⟨D, List.replicate 2 true, rfl, SqL.of (by rw [hA, hp]; rfl), _, rfl, ?_⟩
      refine ⟨_, rfl, a, p, q', r, s', rfl, Ex0.t4 e h4, hc.1.b, hc.2.1.b, hc.2.2.1.b, hc.2.2.2.1.b, _, rfl, sl2, fun u nu => ?_⟩
      refine ⟨u, _, rfl, .inr (SqT.of upd_same), rfl, rfl, ?_⟩
      have e1 : inV (.int (p * s' - q' * r)) [.int 1, .int (-1)] = true := by
        show ((1 : Int) == p * s' - q' * r || ((-1 : Int) == p * s' - q' * r || false)) = true
        rcases hc.2.2.2.2 with z | z <;> rw [z] <;> decide
      show Q (.bl (inV (.int (p * s' - q' * r)) [.int 1, .int (-1)])) _
      rw [e1]
      exact q _ (e.trans (Ex0.new nu))
theorem ok_is_short_change (T : Txt K mg C_Form C_Ring C_Element) : Def P w K mg base 4 "is_short_change" ["value"] (sp_is_short_change K C_Form C_Ring C_Element) := by
  obtain ⟨f_, fd_, g_, F_⟩ := T.d_is_short_change
  obtain ⟨f_are_short_integers, fd_are_short_integers, g_are_short_integers, k_are_short_integers, b_are_short_integers, G_are_short_integers⟩ := (ok_are_short_integers (P := P) (w := w) (base := base) T)
  obtain ⟨f_is_change, fd_is_change, g_is_change, k_is_change, b_is_change, G_is_change⟩ := (ok_is_change (P := P) (w := w) (base := base) T)
  refine ⟨f_, fd_, g_, F_.kp, F_.binds (ps := ["value"]) (fun _ _ _ _ _ _ us hl => match us, hl with | [_], _ => rfl), ?_⟩
  refine F_.ok sc_is_short_change (fun vs H Q E h => ?_) (fun cdv A outer s H vs Q E hr h => ?_)
  · first | (obtain ⟨rfl, _⟩ := h; rfl) | (obtain ⟨_, rfl, _⟩ := h; rfl) | (obtain ⟨_, _, rfl, _⟩ := h; rfl) | (obtain ⟨_, _, _, rfl, _⟩ := h; rfl) | (obtain ⟨_, _, _, _, rfl, _⟩ := h; rfl) | (obtain ⟨_, _, _, _, _, rfl, _⟩ := h; rfl) | (obtain ⟨_, _, _, _, _, _, rfl, _⟩ := h; rfl) | (obtain ⟨_, _, _, _, _, _, _, rfl, _⟩ := h; rfl) | (obtain ⟨_, _, _, _, _, _, _, _, rfl, _⟩ := h; rfl) | (obtain ⟨_, _, _, _, _, _, _, _, _, rfl, _⟩ := h; rfl) | (obtain ⟨_, _, _, _, _, _, _, _, _, _, rfl, _⟩ := h; rfl) | (obtain ⟨_, _, _, _, _, _, _, _, _, _, _, rfl, _⟩ := h; rfl) | (obtain ⟨_, _, _, _, _, _, _, _, _, _, _, _, rfl, _⟩ := h; rfl) | (obtain ⟨_, _, _, _, _, _, _, _, _, _, _, _, _, rfl, _⟩ := h; rfl) | (obtain ⟨_, _, _, _, _, _, _, _, _, _, _, _, _, _, rfl, _⟩ := h; rfl) | (obtain ⟨_, _, _, _, _, _, _, _, _, _, _, _, _, _, _, rfl, _⟩ := h; rfl) | (obtain ⟨_, _, _, _, _, _, _, _, _, _, _, _, _, _, _, _, rfl, _⟩ := h; rfl) | (obtain ⟨_, _, _, _, _, _, _, _, _, _, _, _, _, _, _, _, _, rfl, _⟩ := h; rfl) | (obtain ⟨_, _, _, _, _, _, _, _, _, _, _, _, _, _, _, _, _, _, rfl, _⟩ := h; rfl) | (obtain ⟨_, _, _, _, _, _, _, _, _, _, _, _, _, _, _, _, _, _, _, rfl, _⟩ := h; rfl) | (obtain ⟨_, _, _, _, _, _, _, _, _, _, _, _, _, _, _, _, _, _, _, _, rfl, _⟩ := h; rfl) | (obtain ⟨_, _, _, _, _, _, _, _, _, _, _, _, _, _, _, _, _, _, _, _, _, rfl, _⟩ := h; rfl) | (obtain ⟨_, _, _, _, _, _, _, _, _, _, _, _, _, _, _, _, _, _, _, _, _, _, rfl, _⟩ := h; rfl) | (obtain ⟨_, _, _, _, _, _, _, _, _, _, _, _, _, _, _, _, _, _, _, _, _, _, _, rfl, _⟩ := h; rfl)
  · obtain ⟨a, p, q', r, s', rfl, h4, hc, q⟩ := h
    refine ⟨_, (pss_one (ps_ret (pe_and (pe_call G_is_change (hr.mono (by decide)) (by rfl) g_is_change k_is_change b_is_change .nil pass0 (pa_cons (pv 0) pa_nil)) (pe_one (pe_callB (cr_all rfl) (by rfl) T.b_all (by decide +kernel) (pa_cons (pe_lc (own := [("row", 1)]) (g := (gName 1)) rfl sc_is_short_change.nd (pi_tup (pv 0)) (blkOk_by (N := N_is_short_change) (sc := defScope s_is_short_change) (by decide +kernel)) (fun _ _ _ _ _ => (pg_name (i := 1) sc_is_short_change.nd rfl (.inl rfl))) (fun _ _ _ _ _ => pts_nil) (fun _ _ _ _ _ => (pe_call G_are_short_integers (hr.mono (by decide)) (by rfl) g_are_short_integers k_are_short_integers b_are_short_integers .nil pass0 (pa_cons (pv 1) (pa_cons pe_int pa_nil))))) pa_nil)))))), ?_⟩
    refine ⟨_, rfl, a, p, q', r, s', rfl, h4, hc, fun H1 e1 => ⟨_, rfl, iteT ?_⟩⟩
    obtain ⟨t1, t2, h0, h1, h2⟩ := Ex0.t4 e1 h4
    refine ⟨_, rfl, a, rfl, ⟨_, SqT.of h0⟩, ?_⟩
    refine lcT fm0 trivial (SqT.of h0) (fun z => z) (fun i acc _ => acc = (List.replicate i true).map V.bl) (fun _ _ => rfl) (fun D i x acc H' hD hx e hA hlen hp => ?_) (fun D H' acc hD e hA hp => ?_)
    · have fin : ∀ (t : Addr) (u v : Int), x = .ref t → H1 t = some (.tup [.int u, .int v]) → Short u → Short v → i < 2 → ∃ t, x = .ref t ∧ ∃ u v, H' t = some (.tup [.int u, .int v]) ∧ Short u ∧ Short v ∧ i < 2 := fun t u v e1 e2 e3 e4 e5 => ⟨t, e1, u, v, Ex0.ap e e2, e3, e4, e5⟩
      obtain ⟨t, rfl, u, v, ht, su, sv, hi⟩ : ∃ t, x = .ref t ∧ ∃ u v, H' t = some (.tup [.int u, .int v]) ∧ Short u ∧ Short v ∧ i < 2 := by
        match i, hx with
        | 0, hx => exact fin t1 p q' (Option.some.inj hx).symm h1 hc.1 hc.2.1 (by decide)
        | 1, hx => exact fin t2 r s' (Option.some.inj hx).symm h2 hc.2.2.1 hc.2.2.2.1 (by decide)
      refine ⟨rfl, ?_⟩
      refine ⟨_, rfl, t, [u, v], rfl, ht, by show 2 ≤ 1000; decide, fun n hn => ?_, fun H'' e'' => ?_⟩
      · simp only [List.mem_cons, List.mem_nil_iff, or_false] at hn
        rcases hn with rfl | rfl
        · exact su
        · exact sv
      · refine cs_yes fm0 trivial hD e hA hlen (by omega) e'' ?_
        rw [hp, List.replicate_succ', List.map_append]
        rfl
    · refine ⟨D, List.replicate 2 true, rfl, SqL.of (by rw [hA, hp]; rfl), ?_⟩
      exact q _ (e1.trans e)
theorem ok_check_change (T : Txt K mg C_Form C_Ring C_Element) : Def P w K mg base 5 "check_change" ["value"] (sp_check_change K C_Form C_Ring C_Element) := by
  obtain ⟨f_, fd_, g_, F_⟩ := T.d_check_change
  obtain ⟨f_is_short_change, fd_is_short_change, g_is_short_change, k_is_short_change, b_is_short_change, G_is_short_change⟩ := (ok_is_short_change (P := P) (w := w) (base := base) T)
  refine ⟨f_, fd_, g_, F_.kp, F_.binds (ps := ["value"]) (fun _ _ _ _ _ _ us hl => match us, hl with | [_], _ => rfl), ?_⟩
  refine F_.ok sc_check_change (fun vs H Q E h => ?_) (fun cdv A outer s H vs Q E hr h => ?_)
  · first | (obtain ⟨rfl, _⟩ := h; rfl) | (obtain ⟨_, rfl, _⟩ := h; rfl) | (obtain ⟨_, _, rfl, _⟩ := h; rfl) | (obtain ⟨_, _, _, rfl, _⟩ := h; rfl) | (obtain ⟨_, _, _, _, rfl, _⟩ := h; rfl) | (obtain ⟨_, _, _, _, _, rfl, _⟩ := h; rfl) | (obtain ⟨_, _, _, _, _, _, rfl, _⟩ := h; rfl) | (obtain ⟨_, _, _, _, _, _, _, rfl, _⟩ := h; rfl) | (obtain ⟨_, _, _, _, _, _, _, _, rfl, _⟩ := h; rfl) | (obtain ⟨_, _, _, _, _, _, _, _, _, rfl, _⟩ := h; rfl) | (obtain ⟨_, _, _, _, _, _, _, _, _, _, rfl, _⟩ := h; rfl) | (obtain ⟨_, _, _, _, _, _, _, _, _, _, _, rfl, _⟩ := h; rfl) | (obtain ⟨_, _, _, _, _, _, _, _, _, _, _, _, rfl, _⟩ := h; rfl) | (obtain ⟨_, _, _, _, _, _, _, _, _, _, _, _, _, rfl, _⟩ := h; rfl) | (obtain ⟨_, _, _, _, _, _, _, _, _, _, _, _, _, _, rfl, _⟩ := h; rfl) | (obtain ⟨_, _, _, _, _, _, _, _, _, _, _, _, _, _, _, rfl, _⟩ := h; rfl) | (obtain ⟨_, _, _, _, _, _, _, _, _, _, _, _, _, _, _, _, rfl, _⟩ := h; rfl) | (obtain ⟨_, _, _, _, _, _, _, _, _, _, _, _, _, _, _, _, _, rfl, _⟩ := h; rfl) | (obtain ⟨_, _, _, _, _, _, _, _, _, _, _, _, _, _, _, _, _, _, rfl, _⟩ := h; rfl) | (obtain ⟨_, _, _, _, _, _, _, _, _, _, _, _, _, _, _, _, _, _, _, rfl, _⟩ := h; rfl) | (obtain ⟨_, _, _, _, _, _, _, _, _, _, _, _, _, _, _, _, _, _, _, _, rfl, _⟩ := h; rfl) | (obtain ⟨_, _, _, _, _, _, _, _, _, _, _, _, _, _, _, _, _, _, _, _, _, rfl, _⟩ := h; rfl) | (obtain ⟨_, _, _, _, _, _, _, _, _, _, _, _, _, _, _, _, _, _, _, _, _, _, rfl, _⟩ := h; rfl) | (obtain ⟨_, _, _, _, _, _, _, _, _, _, _, _, _, _, _, _, _, _, _, _, _, _, _, rfl, _⟩ := h; rfl)
  · obtain ⟨a, p, q', r, s', rfl, h4, hc, q⟩ := h
    refine ⟨_, (pss_one (ps_if (pt_not (pt_val (pe_call G_is_short_change (hr.mono (by decide)) (by rfl) g_is_short_change k_is_short_change b_is_short_change .nil pass0 (pa_cons (pv 0) pa_nil))))
      pss_never
      pss_nil)), ?_⟩
    refine ⟨_, rfl, a, p, q', r, s', rfl, h4, hc, fun H1 e1 => ⟨_, rfl, ?_⟩⟩
    exact iteF (q _ e1)
theorem ok_shared_divisor (T : Txt K mg C_Form C_Ring C_Element) : Def P w K mg base 1 "shared_divisor" ["numbers"] (sp_shared_divisor K C_Form C_Ring C_Element) := by
  obtain ⟨f_, fd_, g_, F_⟩ := T.d_shared_divisor
  refine ⟨f_, fd_, g_, F_.kp, F_.binds (ps := ["numbers"]) (fun _ _ _ _ _ _ us hl => match us, hl with | [_], _ => rfl), ?_⟩
  refine F_.ok sc_shared_divisor (fun vs H Q E h => ?_) (fun cdv A outer s H vs Q E hr h => ?_)
  · first | (obtain ⟨rfl, _⟩ := h; rfl) | (obtain ⟨_, rfl, _⟩ := h; rfl) | (obtain ⟨_, _, rfl, _⟩ := h; rfl) | (obtain ⟨_, _, _, rfl, _⟩ := h; rfl) | (obtain ⟨_, _, _, _, rfl, _⟩ := h; rfl) | (obtain ⟨_, _, _, _, _, rfl, _⟩ := h; rfl) | (obtain ⟨_, _, _, _, _, _, rfl, _⟩ := h; rfl) | (obtain ⟨_, _, _, _, _, _, _, rfl, _⟩ := h; rfl) | (obtain ⟨_, _, _, _, _, _, _, _, rfl, _⟩ := h; rfl) | (obtain ⟨_, _, _, _, _, _, _, _, _, rfl, _⟩ := h; rfl) | (obtain ⟨_, _, _, _, _, _, _, _, _, _, rfl, _⟩ := h; rfl) | (obtain ⟨_, _, _, _, _, _, _, _, _, _, _, rfl, _⟩ := h; rfl) | (obtain ⟨_, _, _, _, _, _, _, _, _, _, _, _, rfl, _⟩ := h; rfl) | (obtain ⟨_, _, _, _, _, _, _, _, _, _, _, _, _, rfl, _⟩ := h; rfl) | (obtain ⟨_, _, _, _, _, _, _, _, _, _, _, _, _, _, rfl, _⟩ := h; rfl) | (obtain ⟨_, _, _, _, _, _, _, _, _, _, _, _, _, _, _, rfl, _⟩ := h; rfl) | (obtain ⟨_, _, _, _, _, _, _, _, _, _, _, _, _, _, _, _, rfl, _⟩ := h; rfl) | (obtain ⟨_, _, _, _, _, _, _, _, _, _, _, _, _, _, _, _, _, rfl, _⟩ := h; rfl) | (obtain ⟨_, _, _, _, _, _, _, _, _, _, _, _, _, _, _, _, _, _, rfl, _⟩ := h; rfl) | (obtain ⟨_, _, _, _, _, _, _, _, _, _, _, _, _, _, _, _, _, _, _, rfl, _⟩ := h; rfl) | (obtain ⟨_, _, _, _, _, _, _, _, _, _, _, _, _, _, _, _, _, _, _, _, rfl, _⟩ := h; rfl) | (obtain ⟨_, _, _, _, _, _, _, _, _, _, _, _, _, _, _, _, _, _, _, _, _, rfl, _⟩ := h; rfl) | (obtain ⟨_, _, _, _, _, _, _, _, _, _, _, _, _, _, _, _, _, _, _, _, _, _, rfl, _⟩ := h; rfl) | (obtain ⟨_, _, _, _, _, _, _, _, _, _, _, _, _, _, _, _, _, _, _, _, _, _, _, rfl, _⟩ := h; rfl)
  · obtain ⟨a, ns, rfl, ha, q⟩ := h
    refine ⟨_, (pss_cons (ps_set (i := 1) sc_shared_divisor.nd rfl (.inl rfl) pe_int)
    (pss_cons (ps_for PassesOwn.never rfl (pi_tup (pv 0)) (pg_name (i := 2) sc_shared_divisor.nd rfl (.inl rfl))
      (pss_one (ps_set (i := 1) sc_shared_divisor.nd rfl (.inl rfl) (pe_callBfun cr_gcd (by rfl) T.m_gcd (pa_cons (pv 1) (pa_cons (pv 2) pa_nil))))))
    (pss_one (ps_ret (pv 1))))), ?_⟩
    refine ⟨_, rfl, a, rfl, ⟨_, SqT.of ha⟩, for_tup (xs := ns.map V.int) (fun i σ H' => ∃ y2, σ = [some (.ref a), some (.int (gcdL (ns.take i) : Nat)), y2] ∧ H = H') ⟨none, rfl, rfl⟩ (fun i σ H' _ ⟨_, _, e⟩ => e ▸ SqT.of ha) ?_ ?_⟩
    · rintro i x σ H' hx ⟨y2, rfl, rfl⟩
      obtain ⟨n, hn, rfl⟩ := get_int hx
      refine ⟨_, rfl, _, rfl, _, _, rfl, ?_⟩
      refine ⟨some (.int n), ?_, rfl⟩
      rw [gcdL_take hn]
      rfl
    · rintro σ H' ⟨y2, rfl, rfl⟩
      refine ⟨_, rfl, ?_⟩
      rw [List.length_map, List.take_length]
      exact q
theorem ok_form_value (T : Txt K mg C_Form C_Ring C_Element) : Def P w K mg base 1 "form_value" ["coefficients", "x", "y"] (sp_form_value K C_Form C_Ring C_Element) := by
  obtain ⟨f_, fd_, g_, F_⟩ := T.d_form_value
  refine ⟨f_, fd_, g_, F_.kp, F_.binds (ps := ["coefficients", "x", "y"]) (fun _ _ _ _ _ _ us hl => match us, hl with | [_, _, _], _ => rfl), ?_⟩
  refine F_.ok sc_form_value (fun vs H Q E h => ?_) (fun cdv A outer s H vs Q E hr h => ?_)
  · first | (obtain ⟨rfl, _⟩ := h; rfl) | (obtain ⟨_, rfl, _⟩ := h; rfl) | (obtain ⟨_, _, rfl, _⟩ := h; rfl) | (obtain ⟨_, _, _, rfl, _⟩ := h; rfl) | (obtain ⟨_, _, _, _, rfl, _⟩ := h; rfl) | (obtain ⟨_, _, _, _, _, rfl, _⟩ := h; rfl) | (obtain ⟨_, _, _, _, _, _, rfl, _⟩ := h; rfl) | (obtain ⟨_, _, _, _, _, _, _, rfl, _⟩ := h; rfl) | (obtain ⟨_, _, _, _, _, _, _, _, rfl, _⟩ := h; rfl) | (obtain ⟨_, _, _, _, _, _, _, _, _, rfl, _⟩ := h; rfl) | (obtain ⟨_, _, _, _, _, _, _, _, _, _, rfl, _⟩ := h; rfl) | (obtain ⟨_, _, _, _, _, _, _, _, _, _, _, rfl, _⟩ := h; rfl) | (obtain ⟨_, _, _, _, _, _, _, _, _, _, _, _, rfl, _⟩ := h; rfl) | (obtain ⟨_, _, _, _, _, _, _, _, _, _, _, _, _, rfl, _⟩ := h; rfl) | (obtain ⟨_, _, _, _, _, _, _, _, _, _, _, _, _, _, rfl, _⟩ := h; rfl) | (obtain ⟨_, _, _, _, _, _, _, _, _, _, _, _, _, _, _, rfl, _⟩ := h; rfl) | (obtain ⟨_, _, _, _, _, _, _, _, _, _, _, _, _, _, _, _, rfl, _⟩ := h; rfl) | (obtain ⟨_, _, _, _, _, _, _, _, _, _, _, _, _, _, _, _, _, rfl, _⟩ := h; rfl) | (obtain ⟨_, _, _, _, _, _, _, _, _, _, _, _, _, _, _, _, _, _, rfl, _⟩ := h; rfl) | (obtain ⟨_, _, _, _, _, _, _, _, _, _, _, _, _, _, _, _, _, _, _, rfl, _⟩ := h; rfl) | (obtain ⟨_, _, _, _, _, _, _, _, _, _, _, _, _, _, _, _, _, _, _, _, rfl, _⟩ := h; rfl) | (obtain ⟨_, _, _, _, _, _, _, _, _, _, _, _, _, _, _, _, _, _, _, _, _, rfl, _⟩ := h; rfl) | (obtain ⟨_, _, _, _, _, _, _, _, _, _, _, _, _, _, _, _, _, _, _, _, _, _, rfl, _⟩ := h; rfl) | (obtain ⟨_, _, _, _, _, _, _, _, _, _, _, _, _, _, _, _, _, _, _, _, _, _, _, rfl, _⟩ := h; rfl)
  · obtain ⟨t, a, b, c, d, x, y, rfl, ht, ba, bb, bc, bd, bx, by', q⟩ := h
    refine ⟨_, (pss_cons (ps_asg (pv 0) (pg_tup (by rfl) (pgs_cons (pg_name (i := 3) sc_form_value.nd rfl (.inl rfl)) (pgs_cons (pg_name (i := 4) sc_form_value.nd rfl (.inl rfl)) (pgs_cons (pg_name (i := 5) sc_form_value.nd rfl (.inl rfl)) (pgs_cons (pg_name (i := 6) sc_form_value.nd rfl (.inl rfl)) pgs_nil))))))
    (pss_one (ps_ret (pe_op op_add (pe_op op_add (pe_op op_add (pe_op op_mulW (pe_op op_mulW (pe_op op_mulW (pv 3) (pv 1)) (pv 1)) (pv 1)) (pe_op op_mulW (pe_op op_mulW (pe_op op_mulW (pv 4) (pv 1)) (pv 1)) (pv 2))) (pe_op op_mulW (pe_op op_mulW (pe_op op_mulW (pv 5) (pv 1)) (pv 2)) (pv 2))) (pe_op op_mulW (pe_op op_mulW (pe_op op_mulW (pv 6) (pv 2)) (pv 2)) (pv 2)))))), ?_⟩
    refine ⟨_, rfl, unI4 ht ?_⟩
    exact ⟨_, rfl, _, rfl, _, _, rfl, rfl, mulB (by with_reducible assumption) (by with_reducible assumption) (by decide), _, rfl, _, _, rfl, rfl, mulB (B.mul (by with_reducible assumption) (by with_reducible assumption)) (by with_reducible assumption) (by decide), _, rfl, _, _, rfl, rfl, mulB (B.mul (B.mul (by with_reducible assumption) (by with_reducible assumption)) (by with_reducible assumption)) (by with_reducible assumption) (by decide), _, rfl, _, rfl, _, _, rfl, rfl, mulB (by with_reducible assumption) (by with_reducible assumption) (by decide), _, rfl, _, _, rfl, rfl, mulB (B.mul (by with_reducible assumption) (by with_reducible assumption)) (by with_reducible assumption) (by decide), _, rfl, _, _, rfl, rfl, mulB (B.mul (B.mul (by with_reducible assumption) (by with_reducible assumption)) (by with_reducible assumption)) (by with_reducible assumption) (by decide), _, _, rfl, rfl, _, rfl, _, rfl, _, _, rfl, rfl, mulB (by with_reducible assumption) (by with_reducible assumption) (by decide), _, rfl, _, _, rfl, rfl, mulB (B.mul (by with_reducible assumption) (by with_reducible assumption)) (by with_reducible assumption) (by decide), _, rfl, _, _, rfl, rfl, mulB (B.mul (B.mul (by with_reducible assumption) (by with_reducible assumption)) (by with_reducible assumption)) (by with_reducible assumption) (by decide), _, _, rfl, rfl, _, rfl, _, rfl, _, _, rfl, rfl, mulB (by with_reducible assumption) (by with_reducible assumption) (by decide), _, rfl, _, _, rfl, rfl, mulB (B.mul (by with_reducible assumption) (by with_reducible assumption)) (by with_reducible assumption) (by decide), _, rfl, _, _, rfl, rfl, mulB (B.mul (B.mul (by with_reducible assumption) (by with_reducible assumption)) (by with_reducible assumption)) (by with_reducible assumption) (by decide), _, _, rfl, rfl, q⟩
theorem ok_form_discriminant (T : Txt K mg C_Form C_Ring C_Element) : Def P w K mg base 1 "form_discriminant" ["coefficients"] (sp_form_discriminant K C_Form C_Ring C_Element) := by
  obtain ⟨f_, fd_, g_, F_⟩ := T.d_form_discriminant
  refine ⟨f_, fd_, g_, F_.kp, F_.binds (ps := ["coefficients"]) (fun _ _ _ _ _ _ us hl => match us, hl with | [_], _ => rfl), ?_⟩
  refine F_.ok sc_form_discriminant (fun vs H Q E h => ?_) (fun cdv A outer s H vs Q E hr h => ?_)
  · first | (obtain ⟨rfl, _⟩ := h; rfl) | (obtain ⟨_, rfl, _⟩ := h; rfl) | (obtain ⟨_, _, rfl, _⟩ := h; rfl) | (obtain ⟨_, _, _, rfl, _⟩ := h; rfl) | (obtain ⟨_, _, _, _, rfl, _⟩ := h; rfl) | (obtain ⟨_, _, _, _, _, rfl, _⟩ := h; rfl) | (obtain ⟨_, _, _, _, _, _, rfl, _⟩ := h; rfl) | (obtain ⟨_, _, _, _, _, _, _, rfl, _⟩ := h; rfl) | (obtain ⟨_, _, _, _, _, _, _, _, rfl, _⟩ := h; rfl) | (obtain ⟨_, _, _, _, _, _, _, _, _, rfl, _⟩ := h; rfl) | (obtain ⟨_, _, _, _, _, _, _, _, _, _, rfl, _⟩ := h; rfl) | (obtain ⟨_, _, _, _, _, _, _, _, _, _, _, rfl, _⟩ := h; rfl) | (obtain ⟨_, _, _, _, _, _, _, _, _, _, _, _, rfl, _⟩ := h; rfl) | (obtain ⟨_, _, _, _, _, _, _, _, _, _, _, _, _, rfl, _⟩ := h; rfl) | (obtain ⟨_, _, _, _, _, _, _, _, _, _, _, _, _, _, rfl, _⟩ := h; rfl) | (obtain ⟨_, _, _, _, _, _, _, _, _, _, _, _, _, _, _, rfl, _⟩ := h; rfl) | (obtain ⟨_, _, _, _, _, _, _, _, _, _, _, _, _, _, _, _, rfl, _⟩ := h; rfl) | (obtain ⟨_, _, _, _, _, _, _, _, _, _, _, _, _, _, _, _, _, rfl, _⟩ := h; rfl) | (obtain ⟨_, _, _, _, _, _, _, _, _, _, _, _, _, _, _, _, _, _, rfl, _⟩ := h; rfl) | (obtain ⟨_, _, _, _, _, _, _, _, _, _, _, _, _, _, _, _, _, _, _, rfl, _⟩ := h; rfl) | (obtain ⟨_, _, _, _, _, _, _, _, _, _, _, _, _, _, _, _, _, _, _, _, rfl, _⟩ := h; rfl) | (obtain ⟨_, _, _, _, _, _, _, _, _, _, _, _, _, _, _, _, _, _, _, _, _, rfl, _⟩ := h; rfl) | (obtain ⟨_, _, _, _, _, _, _, _, _, _, _, _, _, _, _, _, _, _, _, _, _, _, rfl, _⟩ := h; rfl) | (obtain ⟨_, _, _, _, _, _, _, _, _, _, _, _, _, _, _, _, _, _, _, _, _, _, _, rfl, _⟩ := h; rfl)
  · obtain ⟨t, a, b, c, d, rfl, ht, ba, bb, bc, bd, q⟩ := h
    refine ⟨_, (pss_cons (ps_asg (pv 0) (pg_tup (by rfl) (pgs_cons (pg_name (i := 1) sc_form_discriminant.nd rfl (.inl rfl)) (pgs_cons (pg_name (i := 2) sc_form_discriminant.nd rfl (.inl rfl)) (pgs_cons (pg_name (i := 3) sc_form_discriminant.nd rfl (.inl rfl)) (pgs_cons (pg_name (i := 4) sc_form_discriminant.nd rfl (.inl rfl)) pgs_nil))))))
    (pss_one (ps_ret (pe_op op_add (pe_op op_sub (pe_op op_sub (pe_op op_sub (pe_op op_mulW (pe_op op_mulW (pe_op op_mulW (pv 2) (pv 2)) (pv 3)) (pv 3)) (pe_op op_mulW (pe_op op_mulW (pe_op op_mulW (pe_op op_mulW pe_int (pv 1)) (pv 3)) (pv 3)) (pv 3))) (pe_op op_mulW (pe_op op_mulW (pe_op op_mulW (pe_op op_mulW pe_int (pv 2)) (pv 2)) (pv 2)) (pv 4))) (pe_op op_mulW (pe_op op_mulW (pe_op op_mulW (pe_op op_mulW pe_int (pv 1)) (pv 1)) (pv 4)) (pv 4))) (pe_op op_mulW (pe_op op_mulW (pe_op op_mulW (pe_op op_mulW pe_int (pv 1)) (pv 2)) (pv 3)) (pv 4)))))), ?_⟩
    refine ⟨_, rfl, unI4 ht ?_⟩
    exact ⟨_, rfl, _, rfl, _, _, rfl, rfl, mulB (by with_reducible assumption) (by with_reducible assumption) (by decide), _, rfl, _, _, rfl, rfl, mulB (B.mul (by with_reducible assumption) (by with_reducible assumption)) (by with_reducible assumption) (by decide), _, rfl, _, _, rfl, rfl, mulB (B.mul (B.mul (by with_reducible assumption) (by with_reducible assumption)) (by with_reducible assumption)) (by with_reducible assumption) (by decide), _, rfl, _, _, rfl, rfl, mulB (B.lit (by decide)) (by with_reducible assumption) (by decide), _, rfl, _, _, rfl, rfl, mulB (B.mul (B.lit (by decide)) (by with_reducible assumption)) (by with_reducible assumption) (by decide), _, rfl, _, _, rfl, rfl, mulB (B.mul (B.mul (B.lit (by decide)) (by with_reducible assumption)) (by with_reducible assumption)) (by with_reducible assumption) (by decide), _, rfl, _, _, rfl, rfl, mulB (B.mul (B.mul (B.mul (B.lit (by decide)) (by with_reducible assumption)) (by with_reducible assumption)) (by with_reducible assumption)) (by with_reducible assumption) (by decide), _, _, rfl, rfl, _, rfl, _, _, rfl, rfl, mulB (B.lit (by decide)) (by with_reducible assumption) (by decide), _, rfl, _, _, rfl, rfl, mulB (B.mul (B.lit (by decide)) (by with_reducible assumption)) (by with_reducible assumption) (by decide), _, rfl, _, _, rfl, rfl, mulB (B.mul (B.mul (B.lit (by decide)) (by with_reducible assumption)) (by with_reducible assumption)) (by with_reducible assumption) (by decide), _, rfl, _, _, rfl, rfl, mulB (B.mul (B.mul (B.mul (B.lit (by decide)) (by with_reducible assumption)) (by with_reducible assumption)) (by with_reducible assumption)) (by with_reducible assumption) (by decide), _, _, rfl, rfl, _, rfl, _, _, rfl, rfl, mulB (B.lit (by decide)) (by with_reducible assumption) (by decide), _, rfl, _, _, rfl, rfl, mulB (B.mul (B.lit (by decide)) (by with_reducible assumption)) (by with_reducible assumption) (by decide), _, rfl, _, _, rfl, rfl, mulB (B.mul (B.mul (B.lit (by decide)) (by with_reducible assumption)) (by with_reducible assumption)) (by with_reducible assumption) (by decide), _, rfl, _, _, rfl, rfl, mulB (B.mul (B.mul (B.mul (B.lit (by decide)) (by with_reducible assumption)) (by with_reducible assumption)) (by with_reducible assumption)) (by with_reducible assumption) (by decide), _, _, rfl, rfl, _, rfl, _, _, rfl, rfl, mulB (B.lit (by decide)) (by with_reducible assumption) (by decide), _, rfl, _, _, rfl, rfl, mulB (B.mul (B.lit (by decide)) (by with_reducible assumption)) (by with_reducible assumption) (by decide), _, rfl, _, _, rfl, rfl, mulB (B.mul (B.mul (B.lit (by decide)) (by with_reducible assumption)) (by with_reducible assumption)) (by with_reducible assumption) (by decide), _, rfl, _, _, rfl, rfl, mulB (B.mul (B.mul (B.mul (B.lit (by decide)) (by with_reducible assumption)) (by with_reducible assumption)) (by with_reducible assumption)) (by with_reducible assumption) (by decide), _, _, rfl, rfl, q⟩
end
end K16
namespace K16
open PySem PySem.Spec PyProof.Rows L2 Fr
theorem putF_same {u v : V} : putF ("_coefficients" : Str) v [(("_coefficients" : Str), u)] = [(("_coefficients" : Str), v)] := by simp [putF]
theorem lk_same {x : Str} {u : V} : List.lookup x [(x, u)] = some u := by simp [List.lookup]
section
variable {P : Program} {w : World} {K : PySem.W.Frag} {mg : Str → Option Value} {base : Heap} {C_Form C_Ring C_Element : Addr}
theorem ok_form_led (T : Txt K mg C_Form C_Ring C_Element) : Def P w K mg base 2 "form_led" ["coefficients", "change"] (sp_form_led K C_Form C_Ring C_Element) := by
  obtain ⟨f_, fd_, g_, F_⟩ := T.d_form_led
  obtain ⟨f_determinant_of, fd_determinant_of, g_determinant_of, k_determinant_of, b_determinant_of, G_determinant_of⟩ := (ok_determinant_of (P := P) (w := w) (base := base) T)
  obtain ⟨f_form_value, fd_form_value, g_form_value, k_form_value, b_form_value, G_form_value⟩ := (ok_form_value (P := P) (w := w) (base := base) T)
  refine ⟨f_, fd_, g_, F_.kp, F_.binds (ps := ["coefficients", "change"]) (fun _ _ _ _ _ _ us hl => match us, hl with | [_, _], _ => rfl), ?_⟩
  refine F_.ok sc_form_led (fun vs H Q E h => ?_) (fun cdv A outer s H vs Q E hr h => ?_)
  · first | (obtain ⟨rfl, _⟩ := h; rfl) | (obtain ⟨_, rfl, _⟩ := h; rfl) | (obtain ⟨_, _, rfl, _⟩ := h; rfl) | (obtain ⟨_, _, _, rfl, _⟩ := h; rfl) | (obtain ⟨_, _, _, _, rfl, _⟩ := h; rfl) | (obtain ⟨_, _, _, _, _, rfl, _⟩ := h; rfl) | (obtain ⟨_, _, _, _, _, _, rfl, _⟩ := h; rfl) | (obtain ⟨_, _, _, _, _, _, _, rfl, _⟩ := h; rfl) | (obtain ⟨_, _, _, _, _, _, _, _, rfl, _⟩ := h; rfl) | (obtain ⟨_, _, _, _, _, _, _, _, _, rfl, _⟩ := h; rfl) | (obtain ⟨_, _, _, _, _, _, _, _, _, _, rfl, _⟩ := h; rfl) | (obtain ⟨_, _, _, _, _, _, _, _, _, _, _, rfl, _⟩ := h; rfl) | (obtain ⟨_, _, _, _, _, _, _, _, _, _, _, _, rfl, _⟩ := h; rfl) | (obtain ⟨_, _, _, _, _, _, _, _, _, _, _, _, _, rfl, _⟩ := h; rfl) | (obtain ⟨_, _, _, _, _, _, _, _, _, _, _, _, _, _, rfl, _⟩ := h; rfl) | (obtain ⟨_, _, _, _, _, _, _, _, _, _, _, _, _, _, _, rfl, _⟩ := h; rfl) | (obtain ⟨_, _, _, _, _, _, _, _, _, _, _, _, _, _, _, _, rfl, _⟩ := h; rfl) | (obtain ⟨_, _, _, _, _, _, _, _, _, _, _, _, _, _, _, _, _, rfl, _⟩ := h; rfl) | (obtain ⟨_, _, _, _, _, _, _, _, _, _, _, _, _, _, _, _, _, _, rfl, _⟩ := h; rfl) | (obtain ⟨_, _, _, _, _, _, _, _, _, _, _, _, _, _, _, _, _, _, _, rfl, _⟩ := h; rfl) | (obtain ⟨_, _, _, _, _, _, _, _, _, _, _, _, _, _, _, _, _, _, _, _, rfl, _⟩ := h; rfl) | (obtain ⟨_, _, _, _, _, _, _, _, _, _, _, _, _, _, _, _, _, _, _, _, _, rfl, _⟩ := h; rfl) | (obtain ⟨_, _, _, _, _, _, _, _, _, _, _, _, _, _, _, _, _, _, _, _, _, _, rfl, _⟩ := h; rfl) | (obtain ⟨_, _, _, _, _, _, _, _, _, _, _, _, _, _, _, _, _, _, _, _, _, _, _, rfl, _⟩ := h; rfl)
  · obtain ⟨t, u, a, b, c, d, p, q', r, s', rfl, ht, h4, ba, bb, bc, bd, bp, bq, br, bs, q⟩ := h
    refine ⟨_, (Evl.pss_cut (ps_asg (pv 0) (pg_tup (by rfl) (pgs_cons (pg_name (i := 2) sc_form_led.nd rfl (.inl rfl)) (pgs_cons (pg_name (i := 3) sc_form_led.nd rfl (.inl rfl)) (pgs_cons (pg_name (i := 4) sc_form_led.nd rfl (.inl rfl)) (pgs_cons (pg_name (i := 5) sc_form_led.nd rfl (.inl rfl)) pgs_nil))))))
    (Evl.pss_cut (ps_asg (pv 1) (pg_tup (by rfl) (pgs_cons (pg_tup (by rfl) (pgs_cons (pg_name (i := 6) sc_form_led.nd rfl (.inl rfl)) (pgs_cons (pg_name (i := 7) sc_form_led.nd rfl (.inl rfl)) pgs_nil))) (pgs_cons (pg_tup (by rfl) (pgs_cons (pg_name (i := 8) sc_form_led.nd rfl (.inl rfl)) (pgs_cons (pg_name (i := 9) sc_form_led.nd rfl (.inl rfl)) pgs_nil))) pgs_nil))))
    (pss_cons (ps_set (i := 10) sc_form_led.nd rfl (.inl rfl) (pe_call G_determinant_of (hr.mono (by decide)) (by rfl) g_determinant_of k_determinant_of b_determinant_of .nil pass0 (pa_cons (pv 1) pa_nil)))
    (pss_cons (ps_set (i := 11) sc_form_led.nd rfl (.inl rfl) (pe_op op_add (pe_op op_add (pe_op op_add (pe_op op_mulW (pe_op op_mulW (pe_op op_mulW (pe_op op_mulW pe_int (pv 2)) (pv 6)) (pv 6)) (pv 8)) (pe_op op_mulW (pe_op op_mulW (pv 3) (pv 6)) (pe_op op_add (pe_op op_mulW (pv 6) (pv 9)) (pe_op op_mulW (pe_op op_mulW pe_int (pv 7)) (pv 8))))) (pe_op op_mulW (pe_op op_mulW (pv 4) (pv 7)) (pe_op op_add (pe_op op_mulW (pe_op op_mulW pe_int (pv 6)) (pv 9)) (pe_op op_mulW (pv 7) (pv 8))))) (pe_op op_mulW (pe_op op_mulW (pe_op op_mulW (pe_op op_mulW pe_int (pv 5)) (pv 7)) (pv 7)) (pv 9))))
    (pss_cons (ps_set (i := 12) sc_form_led.nd rfl (.inl rfl) (pe_op op_add (pe_op op_add (pe_op op_add (pe_op op_mulW (pe_op op_mulW (pe_op op_mulW (pe_op op_mulW pe_int (pv 2)) (pv 6)) (pv 8)) (pv 8)) (pe_op op_mulW (pe_op op_mulW (pv 3) (pv 8)) (pe_op op_add (pe_op op_mulW (pe_op op_mulW pe_int (pv 6)) (pv 9)) (pe_op op_mulW (pv 7) (pv 8))))) (pe_op op_mulW (pe_op op_mulW (pv 4) (pv 9)) (pe_op op_add (pe_op op_mulW (pv 6) (pv 9)) (pe_op op_mulW (pe_op op_mulW pe_int (pv 7)) (pv 8))))) (pe_op op_mulW (pe_op op_mulW (pe_op op_mulW (pe_op op_mulW pe_int (pv 5)) (pv 7)) (pv 9)) (pv 9))))
    (pss_one (ps_ret (pe_tup (pa_cons (pe_op op_mulW (pv 10) (pe_call G_form_value (hr.mono (by decide)) (by rfl) g_form_value k_form_value b_form_value .nil pass0 (pa_cons (pv 0) (pa_cons (pv 6) (pa_cons (pv 7) pa_nil))))) (pa_cons (pe_op op_mulW (pv 10) (pv 11)) (pa_cons (pe_op op_mulW (pv 10) (pv 12)) (pa_cons (pe_op op_mulW (pv 10) (pe_call G_form_value (hr.mono (by decide)) (by rfl) g_form_value k_form_value b_form_value .nil pass0 (pa_cons (pv 0) (pa_cons (pv 8) (pa_cons (pv 9) pa_nil))))) pa_nil)))))))))))), ?_⟩
    refine ⟨fun σ H' => σ = [some (.ref t), some (.ref u), some (.int a), some (.int b), some (.int c), some (.int d), none, none, none, none, none, none, none] ∧ H' = H, ⟨_, rfl, unI4 ht ⟨rfl, rfl⟩⟩, ?_⟩
    rintro σ H' ⟨rfl, rfl⟩
    refine ⟨fun σ H'' => σ = [some (.ref t), some (.ref u), some (.int a), some (.int b), some (.int c), some (.int d), some (.int p), some (.int q'), some (.int r), some (.int s'), none, none, none] ∧ H'' = H', ⟨_, rfl, un4 h4 ⟨rfl, rfl⟩⟩, ?_⟩
    rintro σ H'' ⟨rfl, rfl⟩
    refine ⟨_, rfl, u, p, q', r, s', rfl, h4, bp, bq, br, bs, ?_⟩
    refine ⟨_, rfl, _, _, rfl, rfl, mulB (B.lit (by decide)) (by with_reducible assumption) (by decide), _, rfl, _, _, rfl, rfl, mulB (B.mul (B.lit (by decide)) (by with_reducible assumption)) (by with_reducible assumption) (by decide), _, rfl, _, _, rfl, rfl, mulB (B.mul (B.mul (B.lit (by decide)) (by with_reducible assumption)) (by with_reducible assumption)) (by with_reducible assumption) (by decide), _, rfl, _, _, rfl, rfl, mulB (B.mul (B.mul (B.mul (B.lit (by decide)) (by with_reducible assumption)) (by with_reducible assumption)) (by with_reducible assumption)) (by with_reducible assumption) (by decide), _, rfl, _, rfl, _, _, rfl, rfl, mulB (by with_reducible assumption) (by with_reducible assumption) (by decide), _, rfl, _, rfl, _, _, rfl, rfl, mulB (by with_reducible assumption) (by with_reducible assumption) (by decide), _, rfl, _, _, rfl, rfl, mulB (B.lit (by decide)) (by with_reducible assumption) (by decide), _, rfl, _, _, rfl, rfl, mulB (B.mul (B.lit (by decide)) (by with_reducible assumption)) (by with_reducible assumption) (by decide), _, _, rfl, rfl, _, _, rfl, rfl, mulB (B.mul (by with_reducible assumption) (by with_reducible assumption)) (B.add (B.mul (by with_reducible assumption) (by with_reducible assumption)) (B.mul (B.mul (B.lit (by decide)) (by with_reducible assumption)) (by with_reducible assumption))) (by decide), _, _, rfl, rfl, _, rfl, _, rfl, _, _, rfl, rfl, mulB (by with_reducible assumption) (by with_reducible assumption) (by decide), _, rfl, _, _, rfl, rfl, mulB (B.lit (by decide)) (by with_reducible assumption) (by decide), _, rfl, _, _, rfl, rfl, mulB (B.mul (B.lit (by decide)) (by with_reducible assumption)) (by with_reducible assumption) (by decide), _, rfl, _, rfl, _, _, rfl, rfl, mulB (by with_reducible assumption) (by with_reducible assumption) (by decide), _, _, rfl, rfl, _, _, rfl, rfl, mulB (B.mul (by with_reducible assumption) (by with_reducible assumption)) (B.add (B.mul (B.mul (B.lit (by decide)) (by with_reducible assumption)) (by with_reducible assumption)) (B.mul (by with_reducible assumption) (by with_reducible assumption))) (by decide), _, _, rfl, rfl, _, rfl, _, _, rfl, rfl, mulB (B.lit (by decide)) (by with_reducible assumption) (by decide), _, rfl, _, _, rfl, rfl, mulB (B.mul (B.lit (by decide)) (by with_reducible assumption)) (by with_reducible assumption) (by decide), _, rfl, _, _, rfl, rfl, mulB (B.mul (B.mul (B.lit (by decide)) (by with_reducible assumption)) (by with_reducible assumption)) (by with_reducible assumption) (by decide), _, rfl, _, _, rfl, rfl, mulB (B.mul (B.mul (B.mul (B.lit (by decide)) (by with_reducible assumption)) (by with_reducible assumption)) (by with_reducible assumption)) (by with_reducible assumption) (by decide), _, _, rfl, rfl, ?_⟩
    refine ⟨_, rfl, _, _, rfl, rfl, mulB (B.lit (by decide)) (by with_reducible assumption) (by decide), _, rfl, _, _, rfl, rfl, mulB (B.mul (B.lit (by decide)) (by with_reducible assumption)) (by with_reducible assumption) (by decide), _, rfl, _, _, rfl, rfl, mulB (B.mul (B.mul (B.lit (by decide)) (by with_reducible assumption)) (by with_reducible assumption)) (by with_reducible assumption) (by decide), _, rfl, _, _, rfl, rfl, mulB (B.mul (B.mul (B.mul (B.lit (by decide)) (by with_reducible assumption)) (by with_reducible assumption)) (by with_reducible assumption)) (by with_reducible assumption) (by decide), _, rfl, _, rfl, _, _, rfl, rfl, mulB (by with_reducible assumption) (by with_reducible assumption) (by decide), _, rfl, _, _, rfl, rfl, mulB (B.lit (by decide)) (by with_reducible assumption) (by decide), _, rfl, _, _, rfl, rfl, mulB (B.mul (B.lit (by decide)) (by with_reducible assumption)) (by with_reducible assumption) (by decide), _, rfl, _, rfl, _, _, rfl, rfl, mulB (by with_reducible assumption) (by with_reducible assumption) (by decide), _, _, rfl, rfl, _, _, rfl, rfl, mulB (B.mul (by with_reducible assumption) (by with_reducible assumption)) (B.add (B.mul (B.mul (B.lit (by decide)) (by with_reducible assumption)) (by with_reducible assumption)) (B.mul (by with_reducible assumption) (by with_reducible assumption))) (by decide), _, _, rfl, rfl, _, rfl, _, rfl, _, _, rfl, rfl, mulB (by with_reducible assumption) (by with_reducible assumption) (by decide), _, rfl, _, rfl, _, _, rfl, rfl, mulB (by with_reducible assumption) (by with_reducible assumption) (by decide), _, rfl, _, _, rfl, rfl, mulB (B.lit (by decide)) (by with_reducible assumption) (by decide), _, rfl, _, _, rfl, rfl, mulB (B.mul (B.lit (by decide)) (by with_reducible assumption)) (by with_reducible assumption) (by decide), _, _, rfl, rfl, _, _, rfl, rfl, mulB (B.mul (by with_reducible assumption) (by with_reducible assumption)) (B.add (B.mul (by with_reducible assumption) (by with_reducible assumption)) (B.mul (B.mul (B.lit (by decide)) (by with_reducible assumption)) (by with_reducible assumption))) (by decide), _, _, rfl, rfl, _, rfl, _, _, rfl, rfl, mulB (B.lit (by decide)) (by with_reducible assumption) (by decide), _, rfl, _, _, rfl, rfl, mulB (B.mul (B.lit (by decide)) (by with_reducible assumption)) (by with_reducible assumption) (by decide), _, rfl, _, _, rfl, rfl, mulB (B.mul (B.mul (B.lit (by decide)) (by with_reducible assumption)) (by with_reducible assumption)) (by with_reducible assumption) (by decide), _, rfl, _, _, rfl, rfl, mulB (B.mul (B.mul (B.mul (B.lit (by decide)) (by with_reducible assumption)) (by with_reducible assumption)) (by with_reducible assumption)) (by with_reducible assumption) (by decide), _, _, rfl, rfl, ?_⟩
    have be : B 800 (p * s' - q' * r) := B.sub (B.mul bp bs) (B.mul bq br)
    have b2 : B _ (3 * a * p * p * r + b * p * (p * s' + 2 * q' * r) + c * q' * (2 * p * s' + q' * r) + 3 * d * q' * q' * s') := (B.add (B.add (B.add (B.mul (B.mul (B.mul (B.mul (B.lit (by decide)) (by with_reducible assumption)) (by with_reducible assumption)) (by with_reducible assumption)) (by with_reducible assumption)) (B.mul (B.mul (by with_reducible assumption) (by with_reducible assumption)) (B.add (B.mul (by with_reducible assumption) (by with_reducible assumption)) (B.mul (B.mul (B.lit (by decide)) (by with_reducible assumption)) (by with_reducible assumption))))) (B.mul (B.mul (by with_reducible assumption) (by with_reducible assumption)) (B.add (B.mul (B.mul (B.lit (by decide)) (by with_reducible assumption)) (by with_reducible assumption)) (B.mul (by with_reducible assumption) (by with_reducible assumption))))) (B.mul (B.mul (B.mul (B.mul (B.lit (by decide)) (by with_reducible assumption)) (by with_reducible assumption)) (by with_reducible assumption)) (by with_reducible assumption)))
    have b3 : B _ (3 * a * p * r * r + b * r * (2 * p * s' + q' * r) + c * s' * (p * s' + 2 * q' * r) + 3 * d * q' * s' * s') := (B.add (B.add (B.add (B.mul (B.mul (B.mul (B.mul (B.lit (by decide)) (by with_reducible assumption)) (by with_reducible assumption)) (by with_reducible assumption)) (by with_reducible assumption)) (B.mul (B.mul (by with_reducible assumption) (by with_reducible assumption)) (B.add (B.mul (B.mul (B.lit (by decide)) (by with_reducible assumption)) (by with_reducible assumption)) (B.mul (by with_reducible assumption) (by with_reducible assumption))))) (B.mul (B.mul (by with_reducible assumption) (by with_reducible assumption)) (B.add (B.mul (by with_reducible assumption) (by with_reducible assumption)) (B.mul (B.mul (B.lit (by decide)) (by with_reducible assumption)) (by with_reducible assumption))))) (B.mul (B.mul (B.mul (B.mul (B.lit (by decide)) (by with_reducible assumption)) (by with_reducible assumption)) (by with_reducible assumption)) (by with_reducible assumption)))
    have f1 : B 6400 (fv a b c d p q') := B.add (B.add (B.add (B.mul (B.mul (B.mul ba bp) bp) bp) (B.mul (B.mul (B.mul bb bp) bp) bq)) (B.mul (B.mul (B.mul bc bp) bq) bq)) (B.mul (B.mul (B.mul bd bq) bq) bq)
    have f2 : B 6400 (fv a b c d r s') := B.add (B.add (B.add (B.mul (B.mul (B.mul ba br) br) br) (B.mul (B.mul (B.mul bb br) br) bs)) (B.mul (B.mul (B.mul bc br) bs) bs)) (B.mul (B.mul (B.mul bd bs) bs) bs)
    refine ⟨_, rfl, _, rfl, _, rfl, _, rfl, t, a, b, c, d, p, q', rfl, ht, ba, bb, bc, bd, bp, bq, _, _, rfl, rfl, mulB be f1 (by decide), ?_⟩
    refine ⟨_, rfl, _, rfl, _, _, rfl, rfl, mulB be b2 (by decide), _, rfl, _, rfl, _, _, rfl, rfl, mulB be b3 (by decide), ?_⟩
    refine ⟨_, rfl, _, rfl, _, rfl, _, rfl, t, a, b, c, d, r, s', rfl, ht, ba, bb, bc, bd, br, bs, _, _, rfl, rfl, mulB be f2 (by decide), sl4, fun x nx => ?_⟩
    exact q x _ (Ex0.new nx) upd_same
theorem ok_Form___init__ (T : Txt K mg C_Form C_Ring C_Element) : MDef (fun p f => Mk K C_Form f) P w K mg base 4 ["self", "coefficients"] (sp_Form___init__ K C_Form C_Ring C_Element) := by
  obtain ⟨p_, f_, fd_, R_, F_⟩ := T.e_Form___init__
  obtain ⟨f_are_short_integers, fd_are_short_integers, g_are_short_integers, k_are_short_integers, b_are_short_integers, G_are_short_integers⟩ := (ok_are_short_integers (P := P) (w := w) (base := base) T)
  refine ⟨p_, f_, fd_, R_, F_.binds (ps := ["self", "coefficients"]) (fun _ _ _ _ _ _ us hl => match us, hl with | [_, _], _ => rfl), ?_⟩
  refine F_.ok sc_Form___init__ (fun vs H Q E h => ?_) (fun cdv A outer s H vs Q E hr h => ?_)
  · first | (obtain ⟨rfl, _⟩ := h; rfl) | (obtain ⟨_, rfl, _⟩ := h; rfl) | (obtain ⟨_, _, rfl, _⟩ := h; rfl) | (obtain ⟨_, _, _, rfl, _⟩ := h; rfl) | (obtain ⟨_, _, _, _, rfl, _⟩ := h; rfl) | (obtain ⟨_, _, _, _, _, rfl, _⟩ := h; rfl) | (obtain ⟨_, _, _, _, _, _, rfl, _⟩ := h; rfl) | (obtain ⟨_, _, _, _, _, _, _, rfl, _⟩ := h; rfl) | (obtain ⟨_, _, _, _, _, _, _, _, rfl, _⟩ := h; rfl) | (obtain ⟨_, _, _, _, _, _, _, _, _, rfl, _⟩ := h; rfl) | (obtain ⟨_, _, _, _, _, _, _, _, _, _, rfl, _⟩ := h; rfl) | (obtain ⟨_, _, _, _, _, _, _, _, _, _, _, rfl, _⟩ := h; rfl) | (obtain ⟨_, _, _, _, _, _, _, _, _, _, _, _, rfl, _⟩ := h; rfl) | (obtain ⟨_, _, _, _, _, _, _, _, _, _, _, _, _, rfl, _⟩ := h; rfl) | (obtain ⟨_, _, _, _, _, _, _, _, _, _, _, _, _, _, rfl, _⟩ := h; rfl) | (obtain ⟨_, _, _, _, _, _, _, _, _, _, _, _, _, _, _, rfl, _⟩ := h; rfl) | (obtain ⟨_, _, _, _, _, _, _, _, _, _, _, _, _, _, _, _, rfl, _⟩ := h; rfl) | (obtain ⟨_, _, _, _, _, _, _, _, _, _, _, _, _, _, _, _, _, rfl, _⟩ := h; rfl) | (obtain ⟨_, _, _, _, _, _, _, _, _, _, _, _, _, _, _, _, _, _, rfl, _⟩ := h; rfl) | (obtain ⟨_, _, _, _, _, _, _, _, _, _, _, _, _, _, _, _, _, _, _, rfl, _⟩ := h; rfl) | (obtain ⟨_, _, _, _, _, _, _, _, _, _, _, _, _, _, _, _, _, _, _, _, rfl, _⟩ := h; rfl) | (obtain ⟨_, _, _, _, _, _, _, _, _, _, _, _, _, _, _, _, _, _, _, _, _, rfl, _⟩ := h; rfl) | (obtain ⟨_, _, _, _, _, _, _, _, _, _, _, _, _, _, _, _, _, _, _, _, _, _, rfl, _⟩ := h; rfl) | (obtain ⟨_, _, _, _, _, _, _, _, _, _, _, _, _, _, _, _, _, _, _, _, _, _, _, rfl, _⟩ := h; rfl)
  · obtain ⟨x, dx, t, ns, rfl, hx, ht, hl, hs, q⟩ := h
    refine ⟨_, (pss_cons (ps_if (pt_not (pt_val (pe_call G_are_short_integers (hr.mono (by decide)) (by rfl) g_are_short_integers k_are_short_integers b_are_short_integers .nil pass0 (pa_cons (pv 1) (pa_cons pe_int pa_nil)))))
      pss_never
      pss_nil)
    (pss_one (ps_fld (pv 0) (pe_callTy call_tuple_of (by rfl) T.b_tuple (by decide +kernel) (pa_cons (pv 1) pa_nil)) (by rfl)))), ?_⟩
    refine ⟨_, rfl, t, ns, by rw [hl]; rfl, ht, by omega, hs, fun H1 e1 => ⟨_, rfl, ?_⟩⟩
    refine iteF ⟨_, rfl, t, _, rfl, .inr ⟨SqT.of (Ex0.ti e1 ht), ?_⟩⟩
    refine ⟨_, rfl, x, C_Form, dx, _, rfl, e1.ap hx, T.cl_Form, T.na_Form_coefficients, (by decide : (0:Nat) < 1000), ?_⟩
    exact q _ (fun b o n e => by rw [upd_ne n]; exact e1.ap e) upd_same
theorem ok_form_of (T : Txt K mg C_Form C_Ring C_Element) : Def P w K mg base 6 "form_of" ["coefficients"] (sp_form_of K C_Form C_Ring C_Element) := by
  obtain ⟨f_, fd_, g_, F_⟩ := T.d_form_of
  obtain ⟨p_Form___init__, f_Form___init__, fd_Form___init__, R_Form___init__, b_Form___init__, G_Form___init__⟩ := (ok_Form___init__ (P := P) (w := w) (base := base) T)
  refine ⟨f_, fd_, g_, F_.kp, F_.binds (ps := ["coefficients"]) (fun _ _ _ _ _ _ us hl => match us, hl with | [_], _ => rfl), ?_⟩
  refine F_.ok sc_form_of (fun vs H Q E h => ?_) (fun cdv A outer s H vs Q E hr h => ?_)
  · first | (obtain ⟨rfl, _⟩ := h; rfl) | (obtain ⟨_, rfl, _⟩ := h; rfl) | (obtain ⟨_, _, rfl, _⟩ := h; rfl) | (obtain ⟨_, _, _, rfl, _⟩ := h; rfl) | (obtain ⟨_, _, _, _, rfl, _⟩ := h; rfl) | (obtain ⟨_, _, _, _, _, rfl, _⟩ := h; rfl) | (obtain ⟨_, _, _, _, _, _, rfl, _⟩ := h; rfl) | (obtain ⟨_, _, _, _, _, _, _, rfl, _⟩ := h; rfl) | (obtain ⟨_, _, _, _, _, _, _, _, rfl, _⟩ := h; rfl) | (obtain ⟨_, _, _, _, _, _, _, _, _, rfl, _⟩ := h; rfl) | (obtain ⟨_, _, _, _, _, _, _, _, _, _, rfl, _⟩ := h; rfl) | (obtain ⟨_, _, _, _, _, _, _, _, _, _, _, rfl, _⟩ := h; rfl) | (obtain ⟨_, _, _, _, _, _, _, _, _, _, _, _, rfl, _⟩ := h; rfl) | (obtain ⟨_, _, _, _, _, _, _, _, _, _, _, _, _, rfl, _⟩ := h; rfl) | (obtain ⟨_, _, _, _, _, _, _, _, _, _, _, _, _, _, rfl, _⟩ := h; rfl) | (obtain ⟨_, _, _, _, _, _, _, _, _, _, _, _, _, _, _, rfl, _⟩ := h; rfl) | (obtain ⟨_, _, _, _, _, _, _, _, _, _, _, _, _, _, _, _, rfl, _⟩ := h; rfl) | (obtain ⟨_, _, _, _, _, _, _, _, _, _, _, _, _, _, _, _, _, rfl, _⟩ := h; rfl) | (obtain ⟨_, _, _, _, _, _, _, _, _, _, _, _, _, _, _, _, _, _, rfl, _⟩ := h; rfl) | (obtain ⟨_, _, _, _, _, _, _, _, _, _, _, _, _, _, _, _, _, _, _, rfl, _⟩ := h; rfl) | (obtain ⟨_, _, _, _, _, _, _, _, _, _, _, _, _, _, _, _, _, _, _, _, rfl, _⟩ := h; rfl) | (obtain ⟨_, _, _, _, _, _, _, _, _, _, _, _, _, _, _, _, _, _, _, _, _, rfl, _⟩ := h; rfl) | (obtain ⟨_, _, _, _, _, _, _, _, _, _, _, _, _, _, _, _, _, _, _, _, _, _, rfl, _⟩ := h; rfl) | (obtain ⟨_, _, _, _, _, _, _, _, _, _, _, _, _, _, _, _, _, _, _, _, _, _, _, rfl, _⟩ := h; rfl)
  · obtain ⟨t, ns, rfl, ht, q⟩ := h
    refine ⟨_, (pss_cons (ps_set (i := 1) sc_form_of.nd rfl (.inl rfl) (pe_make R_Form___init__ G_Form___init__ (hr.mono (by decide)) (by rfl) T.g_Form b_Form___init__ .nil pass0 (pa_cons (pe_tup (pa_cons pe_int (pa_cons pe_int (pa_cons pe_int (pa_cons pe_int pa_nil))))) pa_nil)))
    (pss_cons (ps_fld (pv 1) (pv 0) (by rfl))
    (pss_one (ps_ret (pv 1))))), ?_⟩
    refine ⟨sl4, fun t0 n0 => ?_⟩
    intro x dx nx ndx ne
    have e0 : Ex0 H (upd H t0 (.tup [.int 0, .int 0, .int 0, .int 0])) := Ex0.new n0
    have hx0 : H x = none := Fx.free e0 (fun z => z) nx
    have hd0 : H dx = none := Fx.free e0 (fun z => z) ndx
    have nt : t0 ≠ x := ne_of_none (show upd H t0 (.tup [.int 0, .int 0, .int 0, .int 0]) t0 = some _ from upd_same) nx
    have nd : t0 ≠ dx := ne_of_none (show upd H t0 (.tup [.int 0, .int 0, .int 0, .int 0]) t0 = some _ from upd_same) ndx
    refine ⟨x, dx, t0, [0, 0, 0, 0], rfl, upd_same, ?_, rfl, fun n hn => ?_, fun H' e1 e2 => ⟨rfl, ?_⟩⟩
    · show (upd (upd (upd H t0 _) dx _) x _) t0 = _
      rw [upd_ne nt, upd_ne nd]
      exact upd_same
    · have : n = 0 := by simpa using hn
      rw [this]
      exact ⟨by decide, by decide⟩
    refine ⟨_, rfl, _, rfl, x, C_Form, dx, _, rfl, e2, T.cl_Form, T.na_Form_coefficients, (by decide : (1:Nat) < 1000), ?_⟩
    refine ⟨_, rfl, ?_⟩
    have ex : ∀ b o, H b = some o → b ≠ x ∧ H' b = some o := fun b o e => by
      have n1 : b ≠ x := ne_of_none e hx0
      have n2 : b ≠ dx := ne_of_none e hd0
      refine ⟨n1, e1 b o n1 ?_⟩
      rw [upd_ne n1, upd_ne n2]
      exact e0.ap e
    refine q x _ (Ex0.of fun b o e => ?_) ⟨dx, t, ?_, ?_⟩
    · rw [upd_ne (ex b o e).1]
      exact (ex b o e).2
    · rw [upd_same, putF_same]
    · show (upd H' x _) t = _
      rw [upd_ne (ex _ _ ht).1]
      exact (ex _ _ ht).2
theorem ok_Form_coefficients (T : Txt K mg C_Form C_Ring C_Element) : MDef (fun p f => PropOf K C_Form "coefficients" p f) P w K mg base 1 ["self"] (sp_Form_coefficients K C_Form C_Ring C_Element) := by
  obtain ⟨p_, f_, fd_, R_, F_⟩ := T.e_Form_coefficients
  refine ⟨p_, f_, fd_, R_, F_.binds (ps := ["self"]) (fun _ _ _ _ _ _ us hl => match us, hl with | [_], _ => rfl), ?_⟩
  refine F_.ok sc_Form_coefficients (fun vs H Q E h => ?_) (fun cdv A outer s H vs Q E hr h => ?_)
  · first | (obtain ⟨rfl, _⟩ := h; rfl) | (obtain ⟨_, rfl, _⟩ := h; rfl) | (obtain ⟨_, _, rfl, _⟩ := h; rfl) | (obtain ⟨_, _, _, rfl, _⟩ := h; rfl) | (obtain ⟨_, _, _, _, rfl, _⟩ := h; rfl) | (obtain ⟨_, _, _, _, _, rfl, _⟩ := h; rfl) | (obtain ⟨_, _, _, _, _, _, rfl, _⟩ := h; rfl) | (obtain ⟨_, _, _, _, _, _, _, rfl, _⟩ := h; rfl) | (obtain ⟨_, _, _, _, _, _, _, _, rfl, _⟩ := h; rfl) | (obtain ⟨_, _, _, _, _, _, _, _, _, rfl, _⟩ := h; rfl) | (obtain ⟨_, _, _, _, _, _, _, _, _, _, rfl, _⟩ := h; rfl) | (obtain ⟨_, _, _, _, _, _, _, _, _, _, _, rfl, _⟩ := h; rfl) | (obtain ⟨_, _, _, _, _, _, _, _, _, _, _, _, rfl, _⟩ := h; rfl) | (obtain ⟨_, _, _, _, _, _, _, _, _, _, _, _, _, rfl, _⟩ := h; rfl) | (obtain ⟨_, _, _, _, _, _, _, _, _, _, _, _, _, _, rfl, _⟩ := h; rfl) | (obtain ⟨_, _, _, _, _, _, _, _, _, _, _, _, _, _, _, rfl, _⟩ := h; rfl) | (obtain ⟨_, _, _, _, _, _, _, _, _, _, _, _, _, _, _, _, rfl, _⟩ := h; rfl) | (obtain ⟨_, _, _, _, _, _, _, _, _, _, _, _, _, _, _, _, _, rfl, _⟩ := h; rfl) | (obtain ⟨_, _, _, _, _, _, _, _, _, _, _, _, _, _, _, _, _, _, rfl, _⟩ := h; rfl) | (obtain ⟨_, _, _, _, _, _, _, _, _, _, _, _, _, _, _, _, _, _, _, rfl, _⟩ := h; rfl) | (obtain ⟨_, _, _, _, _, _, _, _, _, _, _, _, _, _, _, _, _, _, _, _, rfl, _⟩ := h; rfl) | (obtain ⟨_, _, _, _, _, _, _, _, _, _, _, _, _, _, _, _, _, _, _, _, _, rfl, _⟩ := h; rfl) | (obtain ⟨_, _, _, _, _, _, _, _, _, _, _, _, _, _, _, _, _, _, _, _, _, _, rfl, _⟩ := h; rfl) | (obtain ⟨_, _, _, _, _, _, _, _, _, _, _, _, _, _, _, _, _, _, _, _, _, _, _, rfl, _⟩ := h; rfl)
  · obtain ⟨x, ns, rfl, ⟨dx, t, hx, ht⟩, q⟩ := h
    refine ⟨_, (pss_one (ps_ret (pe_fld (pv 0) (by rfl)))), ?_⟩
    exact ⟨_, rfl, x, C_Form, dx, _, .ref t, rfl, hx, T.cl_Form, T.na_Form_coefficients, lk_same, q t ht⟩
theorem ok_Form_discriminant (T : Txt K mg C_Form C_Ring C_Element) : MDef (fun p f => PropOf K C_Form "discriminant" p f) P w K mg base 2 ["self"] (sp_Form_discriminant K C_Form C_Ring C_Element) := by
  obtain ⟨p_, f_, fd_, R_, F_⟩ := T.e_Form_discriminant
  obtain ⟨f_form_discriminant, fd_form_discriminant, g_form_discriminant, k_form_discriminant, b_form_discriminant, G_form_discriminant⟩ := (ok_form_discriminant (P := P) (w := w) (base := base) T)
  refine ⟨p_, f_, fd_, R_, F_.binds (ps := ["self"]) (fun _ _ _ _ _ _ us hl => match us, hl with | [_], _ => rfl), ?_⟩
  refine F_.ok sc_Form_discriminant (fun vs H Q E h => ?_) (fun cdv A outer s H vs Q E hr h => ?_)
  · first | (obtain ⟨rfl, _⟩ := h; rfl) | (obtain ⟨_, rfl, _⟩ := h; rfl) | (obtain ⟨_, _, rfl, _⟩ := h; rfl) | (obtain ⟨_, _, _, rfl, _⟩ := h; rfl) | (obtain ⟨_, _, _, _, rfl, _⟩ := h; rfl) | (obtain ⟨_, _, _, _, _, rfl, _⟩ := h; rfl) | (obtain ⟨_, _, _, _, _, _, rfl, _⟩ := h; rfl) | (obtain ⟨_, _, _, _, _, _, _, rfl, _⟩ := h; rfl) | (obtain ⟨_, _, _, _, _, _, _, _, rfl, _⟩ := h; rfl) | (obtain ⟨_, _, _, _, _, _, _, _, _, rfl, _⟩ := h; rfl) | (obtain ⟨_, _, _, _, _, _, _, _, _, _, rfl, _⟩ := h; rfl) | (obtain ⟨_, _, _, _, _, _, _, _, _, _, _, rfl, _⟩ := h; rfl) | (obtain ⟨_, _, _, _, _, _, _, _, _, _, _, _, rfl, _⟩ := h; rfl) | (obtain ⟨_, _, _, _, _, _, _, _, _, _, _, _, _, rfl, _⟩ := h; rfl) | (obtain ⟨_, _, _, _, _, _, _, _, _, _, _, _, _, _, rfl, _⟩ := h; rfl) | (obtain ⟨_, _, _, _, _, _, _, _, _, _, _, _, _, _, _, rfl, _⟩ := h; rfl) | (obtain ⟨_, _, _, _, _, _, _, _, _, _, _, _, _, _, _, _, rfl, _⟩ := h; rfl) | (obtain ⟨_, _, _, _, _, _, _, _, _, _, _, _, _, _, _, _, _, rfl, _⟩ := h; rfl) | (obtain ⟨_, _, _, _, _, _, _, _, _, _, _, _, _, _, _, _, _, _, rfl, _⟩ := h; rfl) | (obtain ⟨_, _, _, _, _, _, _, _, _, _, _, _, _, _, _, _, _, _, _, rfl, _⟩ := h; rfl) | (obtain ⟨_, _, _, _, _, _, _, _, _, _, _, _, _, _, _, _, _, _, _, _, rfl, _⟩ := h; rfl) | (obtain ⟨_, _, _, _, _, _, _, _, _, _, _, _, _, _, _, _, _, _, _, _, _, rfl, _⟩ := h; rfl) | (obtain ⟨_, _, _, _, _, _, _, _, _, _, _, _, _, _, _, _, _, _, _, _, _, _, rfl, _⟩ := h; rfl) | (obtain ⟨_, _, _, _, _, _, _, _, _, _, _, _, _, _, _, _, _, _, _, _, _, _, _, rfl, _⟩ := h; rfl)
  · obtain ⟨x, a, b, c, d, rfl, ⟨dx, t, hx, ht⟩, ba, bb, bc, bd, q⟩ := h
    refine ⟨_, (pss_one (ps_ret (pe_call G_form_discriminant (hr.mono (by decide)) (by rfl) g_form_discriminant k_form_discriminant b_form_discriminant .nil pass0 (pa_cons (pe_fld (pv 0) (by rfl)) pa_nil)))), ?_⟩
    exact ⟨_, rfl, x, C_Form, dx, _, .ref t, rfl, hx, T.cl_Form, T.na_Form_coefficients, lk_same, t, a, b, c, d, rfl, ht, ba, bb, bc, bd, q⟩
theorem ok_Form_led (T : Txt K mg C_Form C_Ring C_Element) : MDef (fun p f => Meth K C_Form "led" f) P w K mg base 7 ["self", "change"] (sp_Form_led K C_Form C_Ring C_Element) := by
  obtain ⟨p_, f_, fd_, R_, F_⟩ := T.e_Form_led
  obtain ⟨f_check_change, fd_check_change, g_check_change, k_check_change, b_check_change, G_check_change⟩ := (ok_check_change (P := P) (w := w) (base := base) T)
  obtain ⟨f_form_led, fd_form_led, g_form_led, k_form_led, b_form_led, G_form_led⟩ := (ok_form_led (P := P) (w := w) (base := base) T)
  obtain ⟨f_form_of, fd_form_of, g_form_of, k_form_of, b_form_of, G_form_of⟩ := (ok_form_of (P := P) (w := w) (base := base) T)
  refine ⟨p_, f_, fd_, R_, F_.binds (ps := ["self", "change"]) (fun _ _ _ _ _ _ us hl => match us, hl with | [_, _], _ => rfl), ?_⟩
  refine F_.ok sc_Form_led (fun vs H Q E h => ?_) (fun cdv A outer s H vs Q E hr h => ?_)
  · first | (obtain ⟨rfl, _⟩ := h; rfl) | (obtain ⟨_, rfl, _⟩ := h; rfl) | (obtain ⟨_, _, rfl, _⟩ := h; rfl) | (obtain ⟨_, _, _, rfl, _⟩ := h; rfl) | (obtain ⟨_, _, _, _, rfl, _⟩ := h; rfl) | (obtain ⟨_, _, _, _, _, rfl, _⟩ := h; rfl) | (obtain ⟨_, _, _, _, _, _, rfl, _⟩ := h; rfl) | (obtain ⟨_, _, _, _, _, _, _, rfl, _⟩ := h; rfl) | (obtain ⟨_, _, _, _, _, _, _, _, rfl, _⟩ := h; rfl) | (obtain ⟨_, _, _, _, _, _, _, _, _, rfl, _⟩ := h; rfl) | (obtain ⟨_, _, _, _, _, _, _, _, _, _, rfl, _⟩ := h; rfl) | (obtain ⟨_, _, _, _, _, _, _, _, _, _, _, rfl, _⟩ := h; rfl) | (obtain ⟨_, _, _, _, _, _, _, _, _, _, _, _, rfl, _⟩ := h; rfl) | (obtain ⟨_, _, _, _, _, _, _, _, _, _, _, _, _, rfl, _⟩ := h; rfl) | (obtain ⟨_, _, _, _, _, _, _, _, _, _, _, _, _, _, rfl, _⟩ := h; rfl) | (obtain ⟨_, _, _, _, _, _, _, _, _, _, _, _, _, _, _, rfl, _⟩ := h; rfl) | (obtain ⟨_, _, _, _, _, _, _, _, _, _, _, _, _, _, _, _, rfl, _⟩ := h; rfl) | (obtain ⟨_, _, _, _, _, _, _, _, _, _, _, _, _, _, _, _, _, rfl, _⟩ := h; rfl) | (obtain ⟨_, _, _, _, _, _, _, _, _, _, _, _, _, _, _, _, _, _, rfl, _⟩ := h; rfl) | (obtain ⟨_, _, _, _, _, _, _, _, _, _, _, _, _, _, _, _, _, _, _, rfl, _⟩ := h; rfl) | (obtain ⟨_, _, _, _, _, _, _, _, _, _, _, _, _, _, _, _, _, _, _, _, rfl, _⟩ := h; rfl) | (obtain ⟨_, _, _, _, _, _, _, _, _, _, _, _, _, _, _, _, _, _, _, _, _, rfl, _⟩ := h; rfl) | (obtain ⟨_, _, _, _, _, _, _, _, _, _, _, _, _, _, _, _, _, _, _, _, _, _, rfl, _⟩ := h; rfl) | (obtain ⟨_, _, _, _, _, _, _, _, _, _, _, _, _, _, _, _, _, _, _, _, _, _, _, rfl, _⟩ := h; rfl)
  · obtain ⟨z, u, a, b, c, d, p, q', r, s', rfl, hz, h4, ba, bb, bc, bd, hc, q⟩ := h
    refine ⟨_, (pss_cons (ps_expr (pe_call G_check_change (hr.mono (by decide)) (by rfl) g_check_change k_check_change b_check_change .nil pass0 (pa_cons (pv 1) pa_nil)))
    (pss_one (ps_ret (pe_call G_form_of (hr.mono (by decide)) (by rfl) g_form_of k_form_of b_form_of .nil pass0 (pa_cons (pe_call G_form_led (hr.mono (by decide)) (by rfl) g_form_led k_form_led b_form_led .nil pass0 (pa_cons (pe_fld (pv 0) (by rfl)) (pa_cons (pv 1) pa_nil))) pa_nil))))), ?_⟩
    refine ⟨_, rfl, u, p, q', r, s', rfl, h4, hc, fun H1 e1 => ?_⟩
    obtain ⟨dx, t, hx, ht⟩ := Ex0.fo e1 hz
    refine ⟨_, rfl, z, C_Form, dx, _, .ref t, rfl, hx, T.cl_Form, T.na_Form_coefficients, lk_same, _, rfl, t, u, a, b, c, d, p, q', r, s', rfl, ht, Ex0.t4 e1 h4, ba, bb, bc, bd, hc.1.b, hc.2.1.b, hc.2.2.1.b, hc.2.2.2.1.b, fun x H2 e2 hx2 => ?_⟩
    exact ⟨x, _, rfl, hx2, fun y H3 e3 hy => q y H3 ((e1.trans e2).trans e3) hy⟩
theorem ok_Form___eq__ (T : Txt K mg C_Form C_Ring C_Element) : MDef (fun p f => EqC K C_Form f) P w K mg base 1 ["self", "other"] (sp_Form___eq__ K C_Form C_Ring C_Element) := by
  obtain ⟨p_, f_, fd_, R_, F_⟩ := T.e_Form___eq__
  refine ⟨p_, f_, fd_, R_, F_.binds (ps := ["self", "other"]) (fun _ _ _ _ _ _ us hl => match us, hl with | [_, _], _ => rfl), ?_⟩
  refine F_.ok sc_Form___eq__ (fun vs H Q E h => ?_) (fun cdv A outer s H vs Q E hr h => ?_)
  · first | (obtain ⟨rfl, _⟩ := h; rfl) | (obtain ⟨_, rfl, _⟩ := h; rfl) | (obtain ⟨_, _, rfl, _⟩ := h; rfl) | (obtain ⟨_, _, _, rfl, _⟩ := h; rfl) | (obtain ⟨_, _, _, _, rfl, _⟩ := h; rfl) | (obtain ⟨_, _, _, _, _, rfl, _⟩ := h; rfl) | (obtain ⟨_, _, _, _, _, _, rfl, _⟩ := h; rfl) | (obtain ⟨_, _, _, _, _, _, _, rfl, _⟩ := h; rfl) | (obtain ⟨_, _, _, _, _, _, _, _, rfl, _⟩ := h; rfl) | (obtain ⟨_, _, _, _, _, _, _, _, _, rfl, _⟩ := h; rfl) | (obtain ⟨_, _, _, _, _, _, _, _, _, _, rfl, _⟩ := h; rfl) | (obtain ⟨_, _, _, _, _, _, _, _, _, _, _, rfl, _⟩ := h; rfl) | (obtain ⟨_, _, _, _, _, _, _, _, _, _, _, _, rfl, _⟩ := h; rfl) | (obtain ⟨_, _, _, _, _, _, _, _, _, _, _, _, _, rfl, _⟩ := h; rfl) | (obtain ⟨_, _, _, _, _, _, _, _, _, _, _, _, _, _, rfl, _⟩ := h; rfl) | (obtain ⟨_, _, _, _, _, _, _, _, _, _, _, _, _, _, _, rfl, _⟩ := h; rfl) | (obtain ⟨_, _, _, _, _, _, _, _, _, _, _, _, _, _, _, _, rfl, _⟩ := h; rfl) | (obtain ⟨_, _, _, _, _, _, _, _, _, _, _, _, _, _, _, _, _, rfl, _⟩ := h; rfl) | (obtain ⟨_, _, _, _, _, _, _, _, _, _, _, _, _, _, _, _, _, _, rfl, _⟩ := h; rfl) | (obtain ⟨_, _, _, _, _, _, _, _, _, _, _, _, _, _, _, _, _, _, _, rfl, _⟩ := h; rfl) | (obtain ⟨_, _, _, _, _, _, _, _, _, _, _, _, _, _, _, _, _, _, _, _, rfl, _⟩ := h; rfl) | (obtain ⟨_, _, _, _, _, _, _, _, _, _, _, _, _, _, _, _, _, _, _, _, _, rfl, _⟩ := h; rfl) | (obtain ⟨_, _, _, _, _, _, _, _, _, _, _, _, _, _, _, _, _, _, _, _, _, _, rfl, _⟩ := h; rfl) | (obtain ⟨_, _, _, _, _, _, _, _, _, _, _, _, _, _, _, _, _, _, _, _, _, _, _, rfl, _⟩ := h; rfl)
  · obtain ⟨x, y, ns, ms, rfl, ⟨dx, t, hx, ht⟩, ⟨dy, u, hy, hu⟩, q⟩ := h
    refine ⟨_, (pss_one (ps_ret (pe_and (pe_callB call_isi (by rfl) T.b_isinstance (by decide +kernel) (pa_cons (pv 1) (pa_cons (pe_glob (v := .ref C_Form) (by rfl) T.g_Form rfl) pa_nil))) (pe_one (pe_cmpR (op_eqD hr.units) (pe_fld (pv 0) (by rfl)) (pe_fld (pv 1) (by rfl)) (nomark _)))))), ?_⟩
    refine ⟨_, rfl, _, _, _, _, true, rfl, .own _, ty_ins T.ty_Form T.cl_Form hy, kit_self, _, rfl, ?_⟩
    refine ⟨_, rfl, x, C_Form, dx, _, .ref t, rfl, hx, T.cl_Form, T.na_Form_coefficients, lk_same, _, rfl, y, C_Form, dy, _, .ref u, rfl, hy, T.cl_Form, T.na_Form_coefficients, lk_same, ?_⟩
    refine ⟨.tuple (ns.map .int), .tuple (ms.map .int), .tup (SqT.of ht) (dp_ints _), .tup (SqT.of hu) (dp_ints _), shaped_tints _, shaped_tints _, ?_⟩
    rw [PyData.eqv, eqv_ints]
    exact q
end
end K16
namespace K16
open PySem PySem.Spec PyProof.Rows L2 Fr
def Low (u y z b u' y' z' b' : Int) : Prop := ∃ g : Int, u = g * u' ∧ y = g * y' ∧ z = g * z' ∧ b = g * b' ∧ 0 < b' ∧ Nat.gcd (gcdL [u', y', z']) b'.natAbs = 1
def B4 (n : Nat) (a b c d : Int) : Prop := B n a ∧ B n b ∧ B n c ∧ B n d
def B3 (n : Nat) (a b c : Int) : Prop := B n a ∧ B n b ∧ B n c
section
def sp_fraction (_ : PySem.W.Frag) (C C_R C_E : Addr) : Sp := fun vs H Q _ => ∃ a b : Int, vs = [.int a, .int b] ∧ 0 < b ∧ b < 2 ^ 240 ∧ ∀ x H' p q g, 0 < g → a = g * p → b = g * q → Nat.gcd p.natAbs q.natAbs = 1 → Ex0 H H' → Ti H' x [p, q] → Q (.ref x) H'
def sp_check_form (_ : PySem.W.Frag) (C C_R C_E : Addr) : Sp := fun vs H Q _ => ∃ (x : Addr) (ns : List Int), vs = [.ref x] ∧ FormAt C H x ns ∧ Q .non H
def sp_check_bottom (_ : PySem.W.Frag) (C C_R C_E : Addr) : Sp := fun vs H Q _ => ∃ i : Int, vs = [.int i] ∧ Short i ∧ i ≠ 0 ∧ Q .non H
def sp_table_of (_ : PySem.W.Frag) (C C_R C_E : Addr) : Sp := fun vs H Q _ => ∃ (t : Addr) (a b c d : Int), vs = [.ref t] ∧ Ti H t [a, b, c, d] ∧ B4 1000 a b c d ∧ ∀ x H', Ex0 H H' → T33 H' x (w1 a b c d) (w2 a b c d) (w3 a b c d) → Q (.ref x) H'
def sp_product_by (K : PySem.W.Frag) (C C_R C_E : Addr) : Sp := fun vs H Q _ => ∃ (t l r : Addr) (a b c d e f g h i u x y v z s : Int), vs = [.ref t, .ref l, .ref r] ∧ T33 H t [a, b, c] [d, e, f] [g, h, i] ∧ Tq K H l [u, x, y] ∧ Tq K H r [v, z, s] ∧ B3 2100 a b c ∧ B3 2100 d e f ∧ B3 2100 g h i ∧ B3 9000 u x y ∧ B3 1000 v z s ∧ ∀ o H', Ex0 H H' → Ti H' o [m0 a d g u x y v z s, m1 b e h u x y v z s, m2 c f i u x y v z s] → Q (.ref o) H'
def sp_map_by (K : PySem.W.Frag) (C C_R C_E : Addr) : Sp := fun vs H Q _ => ∃ (t l : Addr) (a b c d e f g h i u x y : Int), vs = [.ref t, .ref l] ∧ T33 H t [a, b, c] [d, e, f] [g, h, i] ∧ Tq K H l [u, x, y] ∧ B3 2100 a b c ∧ B3 2100 d e f ∧ B3 2100 g h i ∧ B3 9000 u x y ∧ ∀ o H', Ex0 H H' → M33 K H' o [m0 a d g u x y 1 0 0, m1 b e h u x y 1 0 0, m2 c f i u x y 1 0 0] [m0 a d g u x y 0 1 0, m1 b e h u x y 0 1 0, m2 c f i u x y 0 1 0] [m0 a d g u x y 0 0 1, m1 b e h u x y 0 0 1, m2 c f i u x y 0 0 1] → Q (.ref o) H'
def sp_trace_by (K : PySem.W.Frag) (C C_R C_E : Addr) : Sp := fun vs H Q _ => ∃ (t l : Addr) (a b c d e f g h i u x y : Int), vs = [.ref t, .ref l] ∧ T33 H t [a, b, c] [d, e, f] [g, h, i] ∧ Tq K H l [u, x, y] ∧ B3 2100 a b c ∧ B3 2100 d e f ∧ B3 2100 g h i ∧ B3 9000 u x y ∧ ∀ H', Ex0 H H' → Q (.int (m0 a d g u x y 1 0 0 + m1 b e h u x y 0 1 0 + m2 c f i u x y 0 0 1)) H'
def sp_table_for (_ : PySem.W.Frag) (C C_R C_E : Addr) : Sp := fun vs H Q _ => ∃ (r : Addr) (a b c d : Int), vs = [.ref r] ∧ RingAt C C_R H r [a, b, c, d] ∧ B4 1000 a b c d ∧ ∀ x H', Ex0 H H' → T33 H' x (w1 a b c d) (w2 a b c d) (w3 a b c d) → Q (.ref x) H'
def sp_Ring___init__ (_ : PySem.W.Frag) (C C_R C_E : Addr) : Sp := fun vs H Q _ => ∃ (x dx f : Addr) (ns : List Int), vs = [.ref x, .ref f] ∧ H x = some (.ins C_R dx []) ∧ FormAt C H f ns ∧ ∀ H', (∀ b o, b ≠ x → H b = some o → H' b = some o) → H' x = some (.ins C_R dx [(("_form" : Str), .ref f)]) → Q .non H'
def sp_Ring_form (_ : PySem.W.Frag) (C C_R C_E : Addr) : Sp := fun vs H Q _ => ∃ (r : Addr) (ns : List Int), vs = [.ref r] ∧ RingAt C C_R H r ns ∧ ∀ f, FormAt C H f ns → Q (.ref f) H
def sp_Ring_discriminant (_ : PySem.W.Frag) (C C_R C_E : Addr) : Sp := fun vs H Q _ => ∃ (r : Addr) (a b c d : Int), vs = [.ref r] ∧ RingAt C C_R H r [a, b, c, d] ∧ B4 1000 a b c d ∧ Q (.int (fdisc a b c d)) H
def sp_Ring___eq__ (_ : PySem.W.Frag) (C C_R C_E : Addr) : Sp := fun vs H Q _ => ∃ (x y : Addr) (ns ms : List Int), vs = [.ref x, .ref y] ∧ RingAt C C_R H x ns ∧ RingAt C C_R H y ms ∧ Q (.bl (decide (ns = ms))) H
def sp_Ring_element (K : PySem.W.Frag) (C C_R C_E : Addr) : Sp := fun vs H Q _ => ∃ (r t : Addr) (ns : List Int) (u y z b : Int), vs = [.ref r, .ref t, .int b] ∧ RingAt C C_R H r ns ∧ Ti H t [u, y, z] ∧ Short u ∧ Short y ∧ Short z ∧ Short b ∧ b ≠ 0 ∧ ∀ x H' u' y' z' b', Low u y z b u' y' z' b' → Ex0 H H' → ElAt C C_R C_E H' x ns u' y' z' b' → Q (.ref x) H'
def sp_check_ring (_ : PySem.W.Frag) (C C_R C_E : Addr) : Sp := fun vs H Q _ => ∃ (x : Addr) (ns : List Int), vs = [.ref x] ∧ RingAt C C_R H x ns ∧ Q .non H
def sp_check_one_ring (_ : PySem.W.Frag) (C C_R C_E : Addr) : Sp := fun vs H Q _ => ∃ (x x' : Addr) (ns : List Int) (u y z b v s r e : Int), vs = [.ref x, .ref x'] ∧ ElAt C C_R C_E H x ns u y z b ∧ ElAt C C_R C_E H x' ns v s r e ∧ Q .non H
def sp_Element___init__ (K : PySem.W.Frag) (C C_R C_E : Addr) : Sp := fun vs H Q _ => ∃ (x dx r t : Addr) (u y z b : Int), vs = [.ref x, .ref r, .ref t, .int b] ∧ H x = some (.ins C_E dx []) ∧ Ti H t [u, y, z] ∧ b ≠ 0 ∧ B 240 b ∧ ∀ H' t' u' y' z' b', Low u y z b u' y' z' b' → (∀ c o, c ≠ x → H c = some o → H' c = some o) → t' ≠ x → H' x = some (.ins C_E dx [(("_ring" : Str), .ref r), (("_entries" : Str), .ref t'), (("_bottom" : Str), .int b')]) → Ti H' t' [u', y', z'] → Q .non H'
def sp_Element_ring (_ : PySem.W.Frag) (C C_R C_E : Addr) : Sp := fun vs H Q _ => ∃ (x : Addr) (ns : List Int) (u y z b : Int), vs = [.ref x] ∧ ElAt C C_R C_E H x ns u y z b ∧ ∀ r, RingAt C C_R H r ns → Q (.ref r) H
def sp_Element_trace (_ : PySem.W.Frag) (C C_R C_E : Addr) : Sp := fun vs H Q _ => ∃ (x : Addr) (a b c d u y z e : Int), vs = [.ref x] ∧ ElAt C C_R C_E H x [a, b, c, d] u y z e ∧ B4 1000 a b c d ∧ B3 9000 u y z ∧ 0 < e ∧ e < 2 ^ 240 ∧ ∀ o H' p q g, 0 < g → tr a b c d u y z = g * p → e = g * q → Nat.gcd p.natAbs q.natAbs = 1 → Ex0 H H' → Ti H' o [p, q] → Q (.ref o) H'
def sp_Element___mul__ (_ : PySem.W.Frag) (C C_R C_E : Addr) : Sp := fun vs H Q _ => ∃ (x x' : Addr) (a b c d u y z e v s r f : Int), vs = [.ref x, .ref x'] ∧ ElAt C C_R C_E H x [a, b, c, d] u y z e ∧ ElAt C C_R C_E H x' [a, b, c, d] v s r f ∧ B4 1000 a b c d ∧ B3 9000 u y z ∧ B3 1000 v s r ∧ B 120 e ∧ B 120 f ∧ e * f ≠ 0 ∧ ∀ o H' u' y' z' b', Low (m0 (-a * c) (-a * d) (-b * d) u y z v s r) (m1 b 0 d u y z v s r) (m2 (-a) 0 (-c) u y z v s r) (e * f) u' y' z' b' → Ex0 H H' → ElAt C C_R C_E H' o [a, b, c, d] u' y' z' b' → Q (.ref o) H'
def sp_trace_table (_ : PySem.W.Frag) (C C_R C_E : Addr) : Sp := fun vs H Q _ => ∃ (r : Addr) (a b c d : Int), vs = [.ref r] ∧ RingAt C C_R H r [a, b, c, d] ∧ B4 1000 a b c d ∧ ∀ x H', Ex0 H H' → T33 H' x [3, b, -c] [b, b * b - 2 * (a * c), -(3 * (a * d))] [-c, -(3 * (a * d)), c * c - 2 * (b * d)] → Q (.ref x) H'
end
theorem un33 {K : PySem.W.Frag} {i1 i2 i3 i4 i5 i6 i7 i8 i9 : Nat} {σ : L2.St} {H : Hp} {t : Addr} {a b c d e f g h i : Int} {Q : L2.St → Hp → Prop} (q : T33 H t [a, b, c] [d, e, f] [g, h, i])
    (z : Q (((((((((σ.set i1 (some (.int a))).set i2 (some (.int b))).set i3 (some (.int c))).set i4 (some (.int d))).set i5 (some (.int e))).set i6 (some (.int f))).set i7 (some (.int g))).set i8 (some (.int h))).set i9 (some (.int i))) H) :
    gTup K 3 (gCons (gTup K 3 (gCons (gName i1) (gCons (gName i2) (gCons (gName i3) gNil)))) (gCons (gTup K 3 (gCons (gName i4) (gCons (gName i5) (gCons (gName i6) gNil)))) (gCons (gTup K 3 (gCons (gName i7) (gCons (gName i8) (gCons (gName i9) gNil)))) gNil))) (.ref t) σ H Q := by
  obtain ⟨t1, t2, t3, h0, h1, h2, h3⟩ := q
  refine ⟨t, _, rfl, SqT.of h0, rfl, _, _, rfl, ?_⟩
  refine ⟨t1, _, rfl, SqT.of h1, rfl, _, _, rfl, _, _, rfl, _, _, rfl, ⟨rfl, ?_⟩⟩
  refine ⟨_, _, rfl, ?_⟩
  refine ⟨t2, _, rfl, SqT.of h2, rfl, _, _, rfl, _, _, rfl, _, _, rfl, ⟨rfl, ?_⟩⟩
  refine ⟨_, _, rfl, ?_⟩
  exact ⟨t3, _, rfl, SqT.of h3, rfl, _, _, rfl, _, _, rfl, _, _, rfl, ⟨rfl, ⟨rfl, z⟩⟩⟩
theorem t33_new {H : Hp} {t1 t2 t3 x : Addr} {r1 r2 r3 : List Int} (n1 : H t1 = none) (n2 : upd H t1 (.tup (r1.map V.int)) t2 = none) (n3 : upd (upd H t1 (.tup (r1.map V.int))) t2 (.tup (r2.map V.int)) t3 = none)
    (n4 : upd (upd (upd H t1 (.tup (r1.map V.int))) t2 (.tup (r2.map V.int))) t3 (.tup (r3.map V.int)) x = none) :
    Ex0 H (upd (upd (upd (upd H t1 (.tup (r1.map V.int))) t2 (.tup (r2.map V.int))) t3 (.tup (r3.map V.int))) x (.tup [.ref t1, .ref t2, .ref t3])) ∧
      T33 (upd (upd (upd (upd H t1 (.tup (r1.map V.int))) t2 (.tup (r2.map V.int))) t3 (.tup (r3.map V.int))) x (.tup [.ref t1, .ref t2, .ref t3])) x r1 r2 r3 :=
  ⟨(((Ex0.new n1).trans (Ex0.new n2)).trans (Ex0.new n3)).trans (Ex0.new n4), t1, t2, t3, upd_same, Ex0.ap (Ex0.new n4) (Ex0.ap (Ex0.new n3) (Ex0.ap (Ex0.new n2) upd_same)), Ex0.ap (Ex0.new n4) (Ex0.ap (Ex0.new n3) upd_same), Ex0.ap (Ex0.new n4) upd_same⟩
inductive Tis (H : Hp) : List V → List (List Int) → Prop where
  | nil : Tis H [] []
  | cons {t : Addr} {r : List Int} {xs : List V} {rs : List (List Int)} (h : Ti H t r) (q : Tis H xs rs) : Tis H (.ref t :: xs) (r :: rs)
theorem Tis.mono {H H' : Hp} {xs : List V} {rs : List (List Int)} (r : Tis H xs rs) (e : ∀ t zs, H t = some (.tup zs) → H' t = some (.tup zs)) : Tis H' xs rs := by
  induction r with
  | nil => exact .nil
  | cons h _ ih => exact .cons (e _ _ h) ih
theorem Tis.snoc {H : Hp} {xs : List V} {rs : List (List Int)} (r : Tis H xs rs) {t : Addr} {r1 : List Int} (h : Ti H t r1) : Tis H (xs ++ [.ref t]) (rs ++ [r1]) := by
  induction r with
  | nil => exact .cons h .nil
  | cons h' _ ih => exact .cons h' ih
theorem Tis.len {H : Hp} {xs : List V} {rs : List (List Int)} (r : Tis H xs rs) : xs.length = rs.length := by
  induction r with
  | nil => rfl
  | cons _ _ ih => rw [List.length_cons, List.length_cons, ih]
theorem Tis.three {H : Hp} {xs : List V} {r1 r2 r3 : List Int} (r : Tis H xs [r1, r2, r3]) : ∃ t1 t2 t3, xs = [.ref t1, .ref t2, .ref t3] ∧ Ti H t1 r1 ∧ Ti H t2 r2 ∧ Ti H t3 r3 := by
  cases r with
  | cons h1 r =>
    cases r with
    | cons h2 r =>
      cases r with
      | cons h3 r =>
        cases r
        exact ⟨_, _, _, rfl, h1, h2, h3⟩
def Uv (i : Nat) (v z s : Int) : Prop := (i = 0 ∧ v = 1 ∧ z = 0 ∧ s = 0) ∨ (i = 1 ∧ v = 0 ∧ z = 1 ∧ s = 0) ∨ (i = 2 ∧ v = 0 ∧ z = 0 ∧ s = 1)
theorem Uv.b {i : Nat} {v z s : Int} (h : Uv i v z s) : i < 3 ∧ B3 1000 v z s := by
  have b0 : B 1000 0 := ⟨by decide, by decide⟩
  have b1 : B 1000 1 := ⟨by decide, by decide⟩
  rcases h with ⟨rfl, rfl, rfl, rfl⟩ | ⟨rfl, rfl, rfl, rfl⟩ | ⟨rfl, rfl, rfl, rfl⟩
  · exact ⟨by decide, b1, b0, b0⟩
  · exact ⟨by decide, b0, b1, b0⟩
  · exact ⟨by decide, b0, b0, b1⟩
theorem unit_at {K : PySem.W.Frag} {H H' : Hp} {a b c : Addr} {i : Nat} {x : V} (h1 : SqT K H a [.int 1, .int 0, .int 0]) (h2 : SqT K H b [.int 0, .int 1, .int 0]) (h3 : SqT K H c [.int 0, .int 0, .int 1]) (e : Ex0 H H')
    (hx : [V.ref a, .ref b, .ref c][i]? = some x) : ∃ t v z s, x = .ref t ∧ Tq K H' t [v, z, s] ∧ Uv i v z s := by
  match i, hx with
  | 0, hx => exact ⟨a, 1, 0, 0, (Option.some.inj hx).symm, Ex0.tq e h1, .inl ⟨rfl, rfl, rfl, rfl⟩⟩
  | 1, hx => exact ⟨b, 0, 1, 0, (Option.some.inj hx).symm, Ex0.tq e h2, .inr (.inl ⟨rfl, rfl, rfl, rfl⟩)⟩
  | 2, hx => exact ⟨c, 0, 0, 1, (Option.some.inj hx).symm, Ex0.tq e h3, .inr (.inr ⟨rfl, rfl, rfl, rfl⟩)⟩
theorem B.pl {n : Nat} {i j : Int} (h1 : B n i) (h2 : B n j) : B (n + 1) (i + j) := ⟨by
  have a := h1.1
  have b := h2.1
  rw [Nat.pow_succ]
  omega, by omega⟩
theorem m_B {n m k : Nat} {A D G u x y v z s : Int} (ha : B k A) (hd : B k D) (hg : B k G) (hu : B3 n u x y) (hv : B3 m v z s) : B (n + m + k + 4) (m0 A D G u x y v z s) ∧ B (n + m + k + 4) (m1 A D G u x y v z s) ∧ B (n + m + k + 4) (m2 A D G u x y v z s) := by
  obtain ⟨h1, h2, h3⟩ := hu
  obtain ⟨k1, k2, k3⟩ := hv
  have k0 := ha.2
  have pl : ∀ {i j l : Nat} {p q : Int}, B i p → B j q → i < l → j < l → B l (p + q) := fun {i j l p q} h g hi hj => (B.pl (n := l - 1) (h.mono (by omega)) (g.mono (by omega))).mono (by omega)
  unfold m0 m1 m2
  have mid := pl (l := n + m + 1) (B.mul h2 k3) (B.mul h3 k2) (by omega) (by omega)
  have lA := B.mul (B.mul h2 k2) ha
  have lD := B.mul mid hd
  have lG := B.mul (B.mul h3 k3) hg
  refine ⟨?_, ?_, ?_⟩
  · exact pl (pl (l := n + m + k + 3) (pl (l := n + m + k + 2) (B.mul h1 k1) lA (by omega) (by omega)) lD (by omega) (by omega)) lG (by omega) (by omega)
  · exact pl (pl (l := n + m + k + 3) (pl (l := n + m + k + 2) (pl (l := n + m + 1) (B.mul h1 k2) (B.mul h2 k1) (by omega) (by omega)) lA (by omega) (by omega)) lD (by omega) (by omega)) lG (by omega) (by omega)
  · exact pl (pl (l := n + m + k + 3) (pl (l := n + m + k + 2) (pl (l := n + m + 1) (B.mul h1 k3) (B.mul h3 k1) (by omega) (by omega)) lA (by omega) (by omega)) lD (by omega) (by omega)) lG (by omega) (by omega)
theorem out_g {g : Nat} {n : Int} (h : (g : Int) ∣ n) : n = (g : Int) * (n / (g : Int)) := (Int.mul_ediv_cancel' h).symm
theorem gcd_out {a b : Int} (h : b ≠ 0) : ∃ p q : Int, 0 < Nat.gcd a.natAbs b.natAbs ∧ a = (Nat.gcd a.natAbs b.natAbs : Int) * p ∧ b = (Nat.gcd a.natAbs b.natAbs : Int) * q ∧ Nat.gcd p.natAbs q.natAbs = 1 := by
  have g0 : 0 < Nat.gcd a.natAbs b.natAbs := Nat.gcd_pos_of_pos_right _ (by omega)
  have d1 : ((Nat.gcd a.natAbs b.natAbs : Nat) : Int) ∣ a := Int.ofNat_dvd_left.mpr (Nat.gcd_dvd_left _ _)
  have d2 : ((Nat.gcd a.natAbs b.natAbs : Nat) : Int) ∣ b := Int.ofNat_dvd_left.mpr (Nat.gcd_dvd_right _ _)
  refine ⟨a / (Nat.gcd a.natAbs b.natAbs : Int), b / (Nat.gcd a.natAbs b.natAbs : Int), g0, out_g d1, out_g d2, ?_⟩
  rw [Int.natAbs_ediv_of_dvd d1, Int.natAbs_ediv_of_dvd d2]
  show Nat.gcd (a.natAbs / Nat.gcd a.natAbs b.natAbs) (b.natAbs / Nat.gcd a.natAbs b.natAbs) = 1
  rw [Nat.gcd_div (Nat.gcd_dvd_left _ _) (Nat.gcd_dvd_right _ _), Nat.div_self g0]
end K16
namespace K16
open PySem PySem.Spec PyProof.Rows L2 Fr
theorem lkR {a b c : V} : List.lookup ("_ring" : Str) [(("_ring" : Str), a), (("_entries" : Str), b), (("_bottom" : Str), c)] = some a := rfl
theorem lkE {a b c : V} : List.lookup ("_entries" : Str) [(("_ring" : Str), a), (("_entries" : Str), b), (("_bottom" : Str), c)] = some b := rfl
theorem lkB {a b c : V} : List.lookup ("_bottom" : Str) [(("_ring" : Str), a), (("_entries" : Str), b), (("_bottom" : Str), c)] = some c := rfl
theorem made_ex {H H' : Hp} {x dx : Addr} {o1 o2 : HO} (nx : H x = none) (ndx : H dx = none) (e1 : ∀ b o, b ≠ x → (upd (upd H dx o1) x o2) b = some o → H' b = some o) : Ex0 H H' := Ex0.of fun b o e => by
  have n1 : b ≠ x := ne_of_none e nx
  have n2 : b ≠ dx := ne_of_none e ndx
  refine e1 b o n1 ?_
  rw [upd_ne n1, upd_ne n2]
  exact e
theorem made_at {H : Hp} {x dx t : Addr} {o1 o2 : HO} {xs : List V} (nx : H x = none) (ndx : H dx = none) (h : H t = some (.tup xs)) : upd (upd H dx o1) x o2 t = some (.tup xs) := by
  rw [upd_ne (ne_of_none h nx), upd_ne (ne_of_none h ndx)]
  exact h
theorem gcd_dvd {g : Nat} : ∀ (ns : List Int) (x : Nat), g ∣ ns.foldl (fun g n => Nat.gcd g n.natAbs) x ↔ g ∣ x ∧ ∀ n ∈ ns, (g : Int) ∣ n
  | [], x => by simp
  | n :: ns, x => by
    rw [List.foldl_cons, gcd_dvd ns, Nat.dvd_gcd_iff, List.forall_mem_cons, Int.ofNat_dvd_left]
    constructor
    · rintro ⟨⟨h1, h2⟩, h3⟩; exact ⟨h1, h2, h3⟩
    · rintro ⟨h1, h2, h3⟩; exact ⟨⟨h1, h2⟩, h3⟩
theorem gcdL_dvd {g : Nat} {ns : List Int} : g ∣ gcdL ns ↔ ∀ n ∈ ns, (g : Int) ∣ n := by
  unfold gcdL
  rw [gcd_dvd]
  simp
theorem gcd3 {g : Nat} {u y z : Int} : g ∣ gcdL [u, y, z] ↔ (g : Int) ∣ u ∧ (g : Int) ∣ y ∧ (g : Int) ∣ z := by
  rw [gcdL_dvd]
  simp
theorem low_of (u y z b : Int) (h : b ≠ 0) (hb : B 240 b) : ∃ (g u' y' z' b' : Int), g = (if b < 0 then -((gcdL [(gcdL [u, y, z] : Int), b] : Nat) : Int) else ((gcdL [(gcdL [u, y, z] : Int), b] : Nat) : Int)) ∧ g ≠ 0 ∧ B 240 g ∧ u = g * u' ∧ y = g * y' ∧ z = g * z' ∧ b = g * b' ∧ 0 < b' ∧ Nat.gcd (gcdL [u', y', z']) b'.natAbs = 1 := by
  have hG : ∀ d : Nat, d ∣ gcdL [(gcdL [u, y, z] : Int), b] ↔ ((d : Int) ∣ u ∧ (d : Int) ∣ y ∧ (d : Int) ∣ z) ∧ (d : Int) ∣ b := fun d => by
    rw [gcdL_dvd, List.forall_mem_cons, Int.natCast_dvd_natCast, gcd3]
    simp
  generalize gcdL [(gcdL [u, y, z] : Int), b] = G at hG ⊢
  obtain ⟨⟨d1, d2, d3⟩, d4⟩ := (hG G).mp (Nat.dvd_refl _)
  have G0 : 0 < G := by
    rcases Nat.eq_zero_or_pos G with e | e
    · rw [e] at d4
      exact absurd (Int.zero_dvd.mp d4) h
    · exact e
  have Gb : G ≤ b.natAbs := Nat.le_of_dvd (by omega) (Int.ofNat_dvd_left.mp d4)
  have bG : B 240 (G : Int) := ⟨Nat.lt_of_le_of_lt Gb hb.1, by decide⟩
  obtain ⟨u0, rfl⟩ := d1
  obtain ⟨y0, rfl⟩ := d2
  obtain ⟨z0, rfl⟩ := d3
  obtain ⟨b0, rfl⟩ := d4
  have one : ∀ d : Nat, (d : Int) ∣ u0 → (d : Int) ∣ y0 → (d : Int) ∣ z0 → (d : Int) ∣ b0 → d = 1 := fun d e1 e2 e3 e4 => by
    have m : ∀ x : Int, (d : Int) ∣ x → ((G * d : Nat) : Int) ∣ (G : Int) * x := fun x hx => by rw [Int.natCast_mul]; exact Int.mul_dvd_mul_left _ hx
    have k : G * d ∣ G * 1 := by rw [Nat.mul_one]; exact (hG (G * d)).mpr ⟨⟨m _ e1, m _ e2, m _ e3⟩, m _ e4⟩
    exact Nat.dvd_one.mp (Nat.dvd_of_mul_dvd_mul_left G0 k)
  have fin : ∀ u' y' z' b' : Int, (∀ d : Nat, (d : Int) ∣ u' → (d : Int) ∣ u0) → (∀ d : Nat, (d : Int) ∣ y' → (d : Int) ∣ y0) → (∀ d : Nat, (d : Int) ∣ z' → (d : Int) ∣ z0) → (∀ d : Nat, (d : Int) ∣ b' → (d : Int) ∣ b0) → Nat.gcd (gcdL [u', y', z']) b'.natAbs = 1 := fun u' y' z' b' e1 e2 e3 e4 => by
    obtain ⟨f1, f2, f3⟩ := gcd3.mp (Nat.gcd_dvd_left (gcdL [u', y', z']) b'.natAbs)
    exact one _ (e1 _ f1) (e2 _ f2) (e3 _ f3) (e4 _ (Int.ofNat_dvd_left.mpr (Nat.gcd_dvd_right (gcdL [u', y', z']) b'.natAbs)))
  by_cases n : (G : Int) * b0 < 0
  · rw [if_pos n]
    have b1 : b0 < 0 := by
      rcases Int.lt_or_le b0 0 with e | e
      · exact e
      · have := Int.mul_nonneg (show (0 : Int) ≤ G by omega) e
        omega
    exact ⟨_, -u0, -y0, -z0, -b0, rfl, by omega, bG.neg, by rw [Int.neg_mul_neg], by rw [Int.neg_mul_neg], by rw [Int.neg_mul_neg], by rw [Int.neg_mul_neg], by omega, fin _ _ _ _ (fun d => Int.dvd_neg.mp) (fun d => Int.dvd_neg.mp) (fun d => Int.dvd_neg.mp) (fun d => Int.dvd_neg.mp)⟩
  · rw [if_neg n]
    have b1 : 0 < b0 := by
      rcases Int.lt_or_le 0 b0 with e | e
      · exact e
      · have := Int.mul_nonneg (show (0 : Int) ≤ G by omega) (show 0 ≤ -b0 by omega)
        rw [Int.mul_neg] at this
        omega
    exact ⟨_, u0, y0, z0, b0, rfl, by omega, bG, rfl, rfl, rfl, rfl, b1, fin _ _ _ _ (fun d => id) (fun d => id) (fun d => id) (fun d => id)⟩
section
variable {P : Program} {w : World} {K : PySem.W.Frag} {mg : Str → Option Value} {base : Heap} {C_Form C_Ring C_Element : Addr}
theorem ok_fraction (T : Txt K mg C_Form C_Ring C_Element) : Def P w K mg base 1 "fraction" ["top", "bottom"] (sp_fraction K C_Form C_Ring C_Element) := by
  obtain ⟨f_, fd_, g_, F_⟩ := T.d_fraction
  refine ⟨f_, fd_, g_, F_.kp, F_.binds (ps := ["top", "bottom"]) (fun _ _ _ _ _ _ us hl => match us, hl with | [_, _], _ => rfl), ?_⟩
  refine F_.ok sc_fraction (fun vs H Q E h => ?_) (fun cdv A outer s H vs Q E hr h => ?_)
  · first | (obtain ⟨rfl, _⟩ := h; rfl) | (obtain ⟨_, rfl, _⟩ := h; rfl) | (obtain ⟨_, _, rfl, _⟩ := h; rfl) | (obtain ⟨_, _, _, rfl, _⟩ := h; rfl) | (obtain ⟨_, _, _, _, rfl, _⟩ := h; rfl) | (obtain ⟨_, _, _, _, _, rfl, _⟩ := h; rfl) | (obtain ⟨_, _, _, _, _, _, rfl, _⟩ := h; rfl) | (obtain ⟨_, _, _, _, _, _, _, rfl, _⟩ := h; rfl) | (obtain ⟨_, _, _, _, _, _, _, _, rfl, _⟩ := h; rfl) | (obtain ⟨_, _, _, _, _, _, _, _, _, rfl, _⟩ := h; rfl) | (obtain ⟨_, _, _, _, _, _, _, _, _, _, rfl, _⟩ := h; rfl) | (obtain ⟨_, _, _, _, _, _, _, _, _, _, _, rfl, _⟩ := h; rfl) | (obtain ⟨_, _, _, _, _, _, _, _, _, _, _, _, rfl, _⟩ := h; rfl) | (obtain ⟨_, _, _, _, _, _, _, _, _, _, _, _, _, rfl, _⟩ := h; rfl) | (obtain ⟨_, _, _, _, _, _, _, _, _, _, _, _, _, _, rfl, _⟩ := h; rfl) | (obtain ⟨_, _, _, _, _, _, _, _, _, _, _, _, _, _, _, rfl, _⟩ := h; rfl) | (obtain ⟨_, _, _, _, _, _, _, _, _, _, _, _, _, _, _, _, rfl, _⟩ := h; rfl) | (obtain ⟨_, _, _, _, _, _, _, _, _, _, _, _, _, _, _, _, _, rfl, _⟩ := h; rfl) | (obtain ⟨_, _, _, _, _, _, _, _, _, _, _, _, _, _, _, _, _, _, rfl, _⟩ := h; rfl) | (obtain ⟨_, _, _, _, _, _, _, _, _, _, _, _, _, _, _, _, _, _, _, rfl, _⟩ := h; rfl) | (obtain ⟨_, _, _, _, _, _, _, _, _, _, _, _, _, _, _, _, _, _, _, _, rfl, _⟩ := h; rfl) | (obtain ⟨_, _, _, _, _, _, _, _, _, _, _, _, _, _, _, _, _, _, _, _, _, rfl, _⟩ := h; rfl) | (obtain ⟨_, _, _, _, _, _, _, _, _, _, _, _, _, _, _, _, _, _, _, _, _, _, rfl, _⟩ := h; rfl) | (obtain ⟨_, _, _, _, _, _, _, _, _, _, _, _, _, _, _, _, _, _, _, _, _, _, _, rfl, _⟩ := h; rfl)
  · obtain ⟨a, b, rfl, b0, b1, q⟩ := h
    refine ⟨_, (pss_cons (ps_set (i := 2) sc_fraction.nd rfl (.inl rfl) (pe_callBfun cr_gcd (by rfl) T.m_gcd (pa_cons (pv 0) (pa_cons (pv 1) pa_nil))))
    (pss_one (ps_ret (pe_tup (pa_cons (pe_op op_fdivW (pv 0) (pv 2)) (pa_cons (pe_op op_fdivW (pv 1) (pv 2)) pa_nil)))))), ?_⟩
    obtain ⟨p, r, g0, e1, e2, e3⟩ := gcd_out (a := a) (b := b) (by omega)
    have gl : Nat.gcd a.natAbs b.natAbs ≤ b.natAbs := Nat.gcd_le_right _ (by omega)
    have gi : (0 : Int) < (Nat.gcd a.natAbs b.natAbs : Nat) := by omega
    have gb : ((Nat.gcd a.natAbs b.natAbs : Nat) : Int) < 2 ^ 250 := by omega
    refine ⟨_, rfl, _, rfl, _, _, rfl, ?_⟩
    refine ⟨_, rfl, _, rfl, _, _, rfl, rfl, dw gi gb, _, rfl, _, rfl, _, _, rfl, rfl, dw gi gb, sl2, fun x nx => ?_⟩
    refine q x _ p r _ gi e1 e2 e3 (Ex0.new nx) ?_
    have h1 : a / ((Nat.gcd a.natAbs b.natAbs : Nat) : Int) = p := Int.ediv_eq_of_eq_mul_right (by omega) e1
    have h2 : b / ((Nat.gcd a.natAbs b.natAbs : Nat) : Int) = r := Int.ediv_eq_of_eq_mul_right (by omega) e2
    show upd H x (.tup [.int (a / ((Nat.gcd a.natAbs b.natAbs : Nat) : Int)), .int (b / ((Nat.gcd a.natAbs b.natAbs : Nat) : Int))]) x = some (.tup ([p, r].map V.int))
    rw [h1, h2]
    exact upd_same
theorem ok_check_form (T : Txt K mg C_Form C_Ring C_Element) : Def P w K mg base 1 "check_form" ["value"] (sp_check_form K C_Form C_Ring C_Element) := by
  obtain ⟨f_, fd_, g_, F_⟩ := T.d_check_form
  refine ⟨f_, fd_, g_, F_.kp, F_.binds (ps := ["value"]) (fun _ _ _ _ _ _ us hl => match us, hl with | [_], _ => rfl), ?_⟩
  refine F_.ok sc_check_form (fun vs H Q E h => ?_) (fun cdv A outer s H vs Q E hr h => ?_)
  · first | (obtain ⟨rfl, _⟩ := h; rfl) | (obtain ⟨_, rfl, _⟩ := h; rfl) | (obtain ⟨_, _, rfl, _⟩ := h; rfl) | (obtain ⟨_, _, _, rfl, _⟩ := h; rfl) | (obtain ⟨_, _, _, _, rfl, _⟩ := h; rfl) | (obtain ⟨_, _, _, _, _, rfl, _⟩ := h; rfl) | (obtain ⟨_, _, _, _, _, _, rfl, _⟩ := h; rfl) | (obtain ⟨_, _, _, _, _, _, _, rfl, _⟩ := h; rfl) | (obtain ⟨_, _, _, _, _, _, _, _, rfl, _⟩ := h; rfl) | (obtain ⟨_, _, _, _, _, _, _, _, _, rfl, _⟩ := h; rfl) | (obtain ⟨_, _, _, _, _, _, _, _, _, _, rfl, _⟩ := h; rfl) | (obtain ⟨_, _, _, _, _, _, _, _, _, _, _, rfl, _⟩ := h; rfl) | (obtain ⟨_, _, _, _, _, _, _, _, _, _, _, _, rfl, _⟩ := h; rfl) | (obtain ⟨_, _, _, _, _, _, _, _, _, _, _, _, _, rfl, _⟩ := h; rfl) | (obtain ⟨_, _, _, _, _, _, _, _, _, _, _, _, _, _, rfl, _⟩ := h; rfl) | (obtain ⟨_, _, _, _, _, _, _, _, _, _, _, _, _, _, _, rfl, _⟩ := h; rfl) | (obtain ⟨_, _, _, _, _, _, _, _, _, _, _, _, _, _, _, _, rfl, _⟩ := h; rfl) | (obtain ⟨_, _, _, _, _, _, _, _, _, _, _, _, _, _, _, _, _, rfl, _⟩ := h; rfl) | (obtain ⟨_, _, _, _, _, _, _, _, _, _, _, _, _, _, _, _, _, _, rfl, _⟩ := h; rfl) | (obtain ⟨_, _, _, _, _, _, _, _, _, _, _, _, _, _, _, _, _, _, _, rfl, _⟩ := h; rfl) | (obtain ⟨_, _, _, _, _, _, _, _, _, _, _, _, _, _, _, _, _, _, _, _, rfl, _⟩ := h; rfl) | (obtain ⟨_, _, _, _, _, _, _, _, _, _, _, _, _, _, _, _, _, _, _, _, _, rfl, _⟩ := h; rfl) | (obtain ⟨_, _, _, _, _, _, _, _, _, _, _, _, _, _, _, _, _, _, _, _, _, _, rfl, _⟩ := h; rfl) | (obtain ⟨_, _, _, _, _, _, _, _, _, _, _, _, _, _, _, _, _, _, _, _, _, _, _, rfl, _⟩ := h; rfl)
  · obtain ⟨x, ns, rfl, ⟨dx, t, hx, ht⟩, q⟩ := h
    refine ⟨_, (pss_one (ps_if (pt_not (pt_val (pe_callB call_isi (by rfl) T.b_isinstance (by decide +kernel) (pa_cons (pv 0) (pa_cons (pe_glob (v := .ref C_Form) (by rfl) T.g_Form rfl) pa_nil)))))
      pss_never
      pss_nil)), ?_⟩
    refine ⟨_, rfl, _, _, _, _, true, rfl, .own _, ty_ins T.ty_Form T.cl_Form hx, kit_self, _, rfl, ?_⟩
    exact iteF q
theorem ok_check_bottom (T : Txt K mg C_Form C_Ring C_Element) : Def P w K mg base 4 "check_bottom" ["bottom"] (sp_check_bottom K C_Form C_Ring C_Element) := by
  obtain ⟨f_, fd_, g_, F_⟩ := T.d_check_bottom
  obtain ⟨f_check_integer, fd_check_integer, g_check_integer, k_check_integer, b_check_integer, G_check_integer⟩ := (ok_check_integer (P := P) (w := w) (base := base) T)
  refine ⟨f_, fd_, g_, F_.kp, F_.binds (ps := ["bottom"]) (fun _ _ _ _ _ _ us hl => match us, hl with | [_], _ => rfl), ?_⟩
  refine F_.ok sc_check_bottom (fun vs H Q E h => ?_) (fun cdv A outer s H vs Q E hr h => ?_)
  · first | (obtain ⟨rfl, _⟩ := h; rfl) | (obtain ⟨_, rfl, _⟩ := h; rfl) | (obtain ⟨_, _, rfl, _⟩ := h; rfl) | (obtain ⟨_, _, _, rfl, _⟩ := h; rfl) | (obtain ⟨_, _, _, _, rfl, _⟩ := h; rfl) | (obtain ⟨_, _, _, _, _, rfl, _⟩ := h; rfl) | (obtain ⟨_, _, _, _, _, _, rfl, _⟩ := h; rfl) | (obtain ⟨_, _, _, _, _, _, _, rfl, _⟩ := h; rfl) | (obtain ⟨_, _, _, _, _, _, _, _, rfl, _⟩ := h; rfl) | (obtain ⟨_, _, _, _, _, _, _, _, _, rfl, _⟩ := h; rfl) | (obtain ⟨_, _, _, _, _, _, _, _, _, _, rfl, _⟩ := h; rfl) | (obtain ⟨_, _, _, _, _, _, _, _, _, _, _, rfl, _⟩ := h; rfl) | (obtain ⟨_, _, _, _, _, _, _, _, _, _, _, _, rfl, _⟩ := h; rfl) | (obtain ⟨_, _, _, _, _, _, _, _, _, _, _, _, _, rfl, _⟩ := h; rfl) | (obtain ⟨_, _, _, _, _, _, _, _, _, _, _, _, _, _, rfl, _⟩ := h; rfl) | (obtain ⟨_, _, _, _, _, _, _, _, _, _, _, _, _, _, _, rfl, _⟩ := h; rfl) | (obtain ⟨_, _, _, _, _, _, _, _, _, _, _, _, _, _, _, _, rfl, _⟩ := h; rfl) | (obtain ⟨_, _, _, _, _, _, _, _, _, _, _, _, _, _, _, _, _, rfl, _⟩ := h; rfl) | (obtain ⟨_, _, _, _, _, _, _, _, _, _, _, _, _, _, _, _, _, _, rfl, _⟩ := h; rfl) | (obtain ⟨_, _, _, _, _, _, _, _, _, _, _, _, _, _, _, _, _, _, _, rfl, _⟩ := h; rfl) | (obtain ⟨_, _, _, _, _, _, _, _, _, _, _, _, _, _, _, _, _, _, _, _, rfl, _⟩ := h; rfl) | (obtain ⟨_, _, _, _, _, _, _, _, _, _, _, _, _, _, _, _, _, _, _, _, _, rfl, _⟩ := h; rfl) | (obtain ⟨_, _, _, _, _, _, _, _, _, _, _, _, _, _, _, _, _, _, _, _, _, _, rfl, _⟩ := h; rfl) | (obtain ⟨_, _, _, _, _, _, _, _, _, _, _, _, _, _, _, _, _, _, _, _, _, _, _, rfl, _⟩ := h; rfl)
  · obtain ⟨i, rfl, hs, h0, q⟩ := h
    refine ⟨_, (pss_cons (ps_expr (pe_call G_check_integer (hr.mono (by decide)) (by rfl) g_check_integer k_check_integer b_check_integer .nil pass0 (pa_cons (pv 0) pa_nil)))
    (pss_one (ps_if (pt_cmpR op_eq (pv 0) pe_int (nomark _))
      pss_never
      pss_nil))), ?_⟩
    refine ⟨_, rfl, i, rfl, hs, ?_⟩
    refine ⟨_, rfl, rfl, _, rfl, iteE (fun e => absurd e h0) (fun _ => q)⟩
theorem ok_table_of (T : Txt K mg C_Form C_Ring C_Element) : Def P w K mg base 1 "table_of" ["coefficients"] (sp_table_of K C_Form C_Ring C_Element) := by
  obtain ⟨f_, fd_, g_, F_⟩ := T.d_table_of
  refine ⟨f_, fd_, g_, F_.kp, F_.binds (ps := ["coefficients"]) (fun _ _ _ _ _ _ us hl => match us, hl with | [_], _ => rfl), ?_⟩
  refine F_.ok sc_table_of (fun vs H Q E h => ?_) (fun cdv A outer s H vs Q E hr h => ?_)
  · first | (obtain ⟨rfl, _⟩ := h; rfl) | (obtain ⟨_, rfl, _⟩ := h; rfl) | (obtain ⟨_, _, rfl, _⟩ := h; rfl) | (obtain ⟨_, _, _, rfl, _⟩ := h; rfl) | (obtain ⟨_, _, _, _, rfl, _⟩ := h; rfl) | (obtain ⟨_, _, _, _, _, rfl, _⟩ := h; rfl) | (obtain ⟨_, _, _, _, _, _, rfl, _⟩ := h; rfl) | (obtain ⟨_, _, _, _, _, _, _, rfl, _⟩ := h; rfl) | (obtain ⟨_, _, _, _, _, _, _, _, rfl, _⟩ := h; rfl) | (obtain ⟨_, _, _, _, _, _, _, _, _, rfl, _⟩ := h; rfl) | (obtain ⟨_, _, _, _, _, _, _, _, _, _, rfl, _⟩ := h; rfl) | (obtain ⟨_, _, _, _, _, _, _, _, _, _, _, rfl, _⟩ := h; rfl) | (obtain ⟨_, _, _, _, _, _, _, _, _, _, _, _, rfl, _⟩ := h; rfl) | (obtain ⟨_, _, _, _, _, _, _, _, _, _, _, _, _, rfl, _⟩ := h; rfl) | (obtain ⟨_, _, _, _, _, _, _, _, _, _, _, _, _, _, rfl, _⟩ := h; rfl) | (obtain ⟨_, _, _, _, _, _, _, _, _, _, _, _, _, _, _, rfl, _⟩ := h; rfl) | (obtain ⟨_, _, _, _, _, _, _, _, _, _, _, _, _, _, _, _, rfl, _⟩ := h; rfl) | (obtain ⟨_, _, _, _, _, _, _, _, _, _, _, _, _, _, _, _, _, rfl, _⟩ := h; rfl) | (obtain ⟨_, _, _, _, _, _, _, _, _, _, _, _, _, _, _, _, _, _, rfl, _⟩ := h; rfl) | (obtain ⟨_, _, _, _, _, _, _, _, _, _, _, _, _, _, _, _, _, _, _, rfl, _⟩ := h; rfl) | (obtain ⟨_, _, _, _, _, _, _, _, _, _, _, _, _, _, _, _, _, _, _, _, rfl, _⟩ := h; rfl) | (obtain ⟨_, _, _, _, _, _, _, _, _, _, _, _, _, _, _, _, _, _, _, _, _, rfl, _⟩ := h; rfl) | (obtain ⟨_, _, _, _, _, _, _, _, _, _, _, _, _, _, _, _, _, _, _, _, _, _, rfl, _⟩ := h; rfl) | (obtain ⟨_, _, _, _, _, _, _, _, _, _, _, _, _, _, _, _, _, _, _, _, _, _, _, rfl, _⟩ := h; rfl)
  · obtain ⟨t, a, b, c, d, rfl, ht, ⟨ba, bb, bc, bd⟩, q⟩ := h
    refine ⟨_, (pss_cons (ps_asg (pv 0) (pg_tup (by rfl) (pgs_cons (pg_name (i := 1) sc_table_of.nd rfl (.inl rfl)) (pgs_cons (pg_name (i := 2) sc_table_of.nd rfl (.inl rfl)) (pgs_cons (pg_name (i := 3) sc_table_of.nd rfl (.inl rfl)) (pgs_cons (pg_name (i := 4) sc_table_of.nd rfl (.inl rfl)) pgs_nil))))))
    (pss_one (ps_ret (pe_tup (pa_cons (pe_tup (pa_cons (pe_op op_mulW (pe_un un_neg (pv 1)) (pv 3)) (pa_cons (pv 2) (pa_cons (pe_un un_neg (pv 1)) pa_nil)))) (pa_cons (pe_tup (pa_cons (pe_op op_mulW (pe_un un_neg (pv 1)) (pv 4)) (pa_cons pe_int (pa_cons pe_int pa_nil)))) (pa_cons (pe_tup (pa_cons (pe_op op_mulW (pe_un un_neg (pv 2)) (pv 4)) (pa_cons (pv 4) (pa_cons (pe_un un_neg (pv 3)) pa_nil)))) pa_nil))))))), ?_⟩
    refine ⟨_, rfl, unI4 ht ?_⟩
    refine ⟨_, rfl, _, rfl, _, rfl, _, _, rfl, rfl, mulB (B.neg (by with_reducible assumption)) (by with_reducible assumption) (by decide), _, rfl, _, rfl, _, rfl, sl3, fun t1 n1 => ⟨_, rfl, _, rfl, _, rfl, _, _, rfl, rfl, mulB (B.neg (by with_reducible assumption)) (by with_reducible assumption) (by decide), sl3, fun t2 n2 => ⟨_, rfl, _, rfl, _, rfl, _, _, rfl, rfl, mulB (B.neg (by with_reducible assumption)) (by with_reducible assumption) (by decide), _, rfl, _, rfl, _, rfl, sl3, fun t3 n3 => ⟨sl3, fun x nx => ?_⟩⟩⟩⟩
    have z := t33_new (r1 := w1 a b c d) (r2 := w2 a b c d) (r3 := w3 a b c d) n1 n2 n3 nx
    exact q x _ z.1 z.2
theorem ok_product_by (T : Txt K mg C_Form C_Ring C_Element) : Def P w K mg base 1 "product_by" ["table", "first", "second"] (sp_product_by K C_Form C_Ring C_Element) := by
  obtain ⟨f_, fd_, g_, F_⟩ := T.d_product_by
  refine ⟨f_, fd_, g_, F_.kp, F_.binds (ps := ["table", "first", "second"]) (fun _ _ _ _ _ _ us hl => match us, hl with | [_, _, _], _ => rfl), ?_⟩
  refine F_.ok sc_product_by (fun vs H Q E h => ?_) (fun cdv A outer s H vs Q E hr h => ?_)
  · first | (obtain ⟨rfl, _⟩ := h; rfl) | (obtain ⟨_, rfl, _⟩ := h; rfl) | (obtain ⟨_, _, rfl, _⟩ := h; rfl) | (obtain ⟨_, _, _, rfl, _⟩ := h; rfl) | (obtain ⟨_, _, _, _, rfl, _⟩ := h; rfl) | (obtain ⟨_, _, _, _, _, rfl, _⟩ := h; rfl) | (obtain ⟨_, _, _, _, _, _, rfl, _⟩ := h; rfl) | (obtain ⟨_, _, _, _, _, _, _, rfl, _⟩ := h; rfl) | (obtain ⟨_, _, _, _, _, _, _, _, rfl, _⟩ := h; rfl) | (obtain ⟨_, _, _, _, _, _, _, _, _, rfl, _⟩ := h; rfl) | (obtain ⟨_, _, _, _, _, _, _, _, _, _, rfl, _⟩ := h; rfl) | (obtain ⟨_, _, _, _, _, _, _, _, _, _, _, rfl, _⟩ := h; rfl) | (obtain ⟨_, _, _, _, _, _, _, _, _, _, _, _, rfl, _⟩ := h; rfl) | (obtain ⟨_, _, _, _, _, _, _, _, _, _, _, _, _, rfl, _⟩ := h; rfl) | (obtain ⟨_, _, _, _, _, _, _, _, _, _, _, _, _, _, rfl, _⟩ := h; rfl) | (obtain ⟨_, _, _, _, _, _, _, _, _, _, _, _, _, _, _, rfl, _⟩ := h; rfl) | (obtain ⟨_, _, _, _, _, _, _, _, _, _, _, _, _, _, _, _, rfl, _⟩ := h; rfl) | (obtain ⟨_, _, _, _, _, _, _, _, _, _, _, _, _, _, _, _, _, rfl, _⟩ := h; rfl) | (obtain ⟨_, _, _, _, _, _, _, _, _, _, _, _, _, _, _, _, _, _, rfl, _⟩ := h; rfl) | (obtain ⟨_, _, _, _, _, _, _, _, _, _, _, _, _, _, _, _, _, _, _, rfl, _⟩ := h; rfl) | (obtain ⟨_, _, _, _, _, _, _, _, _, _, _, _, _, _, _, _, _, _, _, _, rfl, _⟩ := h; rfl) | (obtain ⟨_, _, _, _, _, _, _, _, _, _, _, _, _, _, _, _, _, _, _, _, _, rfl, _⟩ := h; rfl) | (obtain ⟨_, _, _, _, _, _, _, _, _, _, _, _, _, _, _, _, _, _, _, _, _, _, rfl, _⟩ := h; rfl) | (obtain ⟨_, _, _, _, _, _, _, _, _, _, _, _, _, _, _, _, _, _, _, _, _, _, _, rfl, _⟩ := h; rfl)
  · obtain ⟨t, l, r, a, b, c, d, e, f, g, h', i, u, x, y, v, z, s', rfl, ht, hl, hr, ⟨ba, bb, bc⟩, ⟨bd, be, bf⟩, ⟨bg, bh, bi⟩, ⟨bu, bx, by'⟩, ⟨bv, bz, bs⟩, q⟩ := h
    refine ⟨_, (Evl.pss_cut (ps_asg (pv 0) (pg_tup (by rfl) (pgs_cons (pg_tup (by rfl) (pgs_cons (pg_name (i := 3) sc_product_by.nd rfl (.inl rfl)) (pgs_cons (pg_name (i := 4) sc_product_by.nd rfl (.inl rfl)) (pgs_cons (pg_name (i := 5) sc_product_by.nd rfl (.inl rfl)) pgs_nil)))) (pgs_cons (pg_tup (by rfl) (pgs_cons (pg_name (i := 6) sc_product_by.nd rfl (.inl rfl)) (pgs_cons (pg_name (i := 7) sc_product_by.nd rfl (.inl rfl)) (pgs_cons (pg_name (i := 8) sc_product_by.nd rfl (.inl rfl)) pgs_nil)))) (pgs_cons (pg_tup (by rfl) (pgs_cons (pg_name (i := 9) sc_product_by.nd rfl (.inl rfl)) (pgs_cons (pg_name (i := 10) sc_product_by.nd rfl (.inl rfl)) (pgs_cons (pg_name (i := 11) sc_product_by.nd rfl (.inl rfl)) pgs_nil)))) pgs_nil)))))
    (Evl.pss_cut (ps_asg (pv 1) (pg_tup (by rfl) (pgs_cons (pg_name (i := 12) sc_product_by.nd rfl (.inl rfl)) (pgs_cons (pg_name (i := 13) sc_product_by.nd rfl (.inl rfl)) (pgs_cons (pg_name (i := 14) sc_product_by.nd rfl (.inl rfl)) pgs_nil)))))
    (Evl.pss_cut (ps_asg (pv 2) (pg_tup (by rfl) (pgs_cons (pg_name (i := 15) sc_product_by.nd rfl (.inl rfl)) (pgs_cons (pg_name (i := 16) sc_product_by.nd rfl (.inl rfl)) (pgs_cons (pg_name (i := 17) sc_product_by.nd rfl (.inl rfl)) pgs_nil)))))
    (pss_cons (ps_par3 (i := 18) (j := 19) (l := 20) (by rfl) sc_product_by.nd rfl rfl rfl (by decide) (by decide) (by decide) rfl rfl rfl (pa_cons (pe_op op_mulW (pv 13) (pv 16)) (pa_cons (pe_op op_add (pe_op op_mulW (pv 13) (pv 17)) (pe_op op_mulW (pv 14) (pv 16))) (pa_cons (pe_op op_mulW (pv 14) (pv 17)) pa_nil))) (by rfl))
    (pss_one (ps_ret (pe_tup (pa_cons (pe_op op_add (pe_op op_add (pe_op op_add (pe_op op_mulW (pv 12) (pv 15)) (pe_op op_mulW (pv 18) (pv 3))) (pe_op op_mulW (pv 19) (pv 6))) (pe_op op_mulW (pv 20) (pv 9))) (pa_cons (pe_op op_add (pe_op op_add (pe_op op_add (pe_op op_add (pe_op op_mulW (pv 12) (pv 16)) (pe_op op_mulW (pv 13) (pv 15))) (pe_op op_mulW (pv 18) (pv 4))) (pe_op op_mulW (pv 19) (pv 7))) (pe_op op_mulW (pv 20) (pv 10))) (pa_cons (pe_op op_add (pe_op op_add (pe_op op_add (pe_op op_add (pe_op op_mulW (pv 12) (pv 17)) (pe_op op_mulW (pv 14) (pv 15))) (pe_op op_mulW (pv 18) (pv 5))) (pe_op op_mulW (pv 19) (pv 8))) (pe_op op_mulW (pv 20) (pv 11))) pa_nil)))))))))), ?_⟩
    refine ⟨fun σ H' => σ = [some (.ref t), some (.ref l), some (.ref r), some (.int a), some (.int b), some (.int c), some (.int d), some (.int e), some (.int f), some (.int g), some (.int h'), some (.int i), none, none, none, none, none, none, none, none, none] ∧ H' = H, ⟨_, rfl, un33 ht ⟨rfl, rfl⟩⟩, ?_⟩
    rintro σ H' ⟨rfl, rfl⟩
    refine ⟨fun σ H'' => σ = [some (.ref t), some (.ref l), some (.ref r), some (.int a), some (.int b), some (.int c), some (.int d), some (.int e), some (.int f), some (.int g), some (.int h'), some (.int i), some (.int u), some (.int x), some (.int y), none, none, none, none, none, none] ∧ H'' = H', ⟨_, rfl, unq3 hl ⟨rfl, rfl⟩⟩, ?_⟩
    rintro σ H'' ⟨rfl, rfl⟩
    refine ⟨fun σ H' => σ = [some (.ref t), some (.ref l), some (.ref r), some (.int a), some (.int b), some (.int c), some (.int d), some (.int e), some (.int f), some (.int g), some (.int h'), some (.int i), some (.int u), some (.int x), some (.int y), some (.int v), some (.int z), some (.int s'), none, none, none] ∧ H' = H'', ⟨_, rfl, unq3 hr ⟨rfl, rfl⟩⟩, ?_⟩
    rintro σ H' ⟨rfl, rfl⟩
    refine ⟨_, rfl, _, rfl, _, _, rfl, rfl, mulB (by with_reducible assumption) (by with_reducible assumption) (by decide), _, rfl, _, rfl, _, _, rfl, rfl, mulB (by with_reducible assumption) (by with_reducible assumption) (by decide), _, rfl, _, rfl, _, _, rfl, rfl, mulB (by with_reducible assumption) (by with_reducible assumption) (by decide), _, _, rfl, rfl, _, rfl, _, rfl, _, _, rfl, rfl, mulB (by with_reducible assumption) (by with_reducible assumption) (by decide), ?_⟩
    have bL : B 10000 (x * z) := B.mul bx bz
    have bM : B 10001 (x * s' + y * z) := B.pl (B.mul bx bs) (B.mul by' bz)
    have bR : B 10000 (y * s') := B.mul by' bs
    refine ⟨_, _, _, rfl, ?_⟩
    refine ⟨_, rfl, _, rfl, _, _, rfl, rfl, mulB (by with_reducible assumption) (by with_reducible assumption) (by decide), _, rfl, _, rfl, _, _, rfl, rfl, mulB (by with_reducible assumption) (by with_reducible assumption) (by decide), _, _, rfl, rfl, _, rfl, _, rfl, _, _, rfl, rfl, mulB (by with_reducible assumption) (by with_reducible assumption) (by decide), _, _, rfl, rfl, _, rfl, _, rfl, _, _, rfl, rfl, mulB (by with_reducible assumption) (by with_reducible assumption) (by decide), _, _, rfl, rfl, _, rfl, _, rfl, _, _, rfl, rfl, mulB (by with_reducible assumption) (by with_reducible assumption) (by decide), _, rfl, _, rfl, _, _, rfl, rfl, mulB (by with_reducible assumption) (by with_reducible assumption) (by decide), _, _, rfl, rfl, _, rfl, _, rfl, _, _, rfl, rfl, mulB (by with_reducible assumption) (by with_reducible assumption) (by decide), _, _, rfl, rfl, _, rfl, _, rfl, _, _, rfl, rfl, mulB (by with_reducible assumption) (by with_reducible assumption) (by decide), _, _, rfl, rfl, _, rfl, _, rfl, _, _, rfl, rfl, mulB (by with_reducible assumption) (by with_reducible assumption) (by decide), _, _, rfl, rfl, _, rfl, _, rfl, _, _, rfl, rfl, mulB (by with_reducible assumption) (by with_reducible assumption) (by decide), _, rfl, _, rfl, _, _, rfl, rfl, mulB (by with_reducible assumption) (by with_reducible assumption) (by decide), _, _, rfl, rfl, _, rfl, _, rfl, _, _, rfl, rfl, mulB (by with_reducible assumption) (by with_reducible assumption) (by decide), _, _, rfl, rfl, _, rfl, _, rfl, _, _, rfl, rfl, mulB (by with_reducible assumption) (by with_reducible assumption) (by decide), _, _, rfl, rfl, _, rfl, _, rfl, _, _, rfl, rfl, mulB (by with_reducible assumption) (by with_reducible assumption) (by decide), _, _, rfl, rfl, sl3, fun o no => ?_⟩
    exact q o _ (Ex0.new no) upd_same
end
end K16
namespace K16
open PySem PySem.Spec PyProof.Rows L2 Fr
theorem B0 {n : Nat} (h : 0 < n) : B n 0 := ⟨by show (0 : Int).natAbs < 2 ^ n; exact Nat.two_pow_pos n, h⟩
theorem Tis.upd {H : Hp} {D : Addr} {acc : List V} {o : HO} {xs : List V} {rs : List (List Int)} (hD : H D = some (.lst acc)) (r : Tis H xs rs) : Tis (upd H D o) xs rs := r.mono fun t zs h => by
  rw [upd_ne (ne_of h hD (by intro z; cases z))]
  exact h
section
variable {P : Program} {w : World} {K : PySem.W.Frag} {mg : Str → Option Value} {base : Heap} {C_Form C_Ring C_Element : Addr}
theorem ok_map_by (T : Txt K mg C_Form C_Ring C_Element) : Def P w K mg base 1 "map_by" ["table", "entries"] (sp_map_by K C_Form C_Ring C_Element) := by
  obtain ⟨f_, fd_, g_, F_⟩ := T.d_map_by
  refine ⟨f_, fd_, g_, F_.kp, F_.binds (ps := ["table", "entries"]) (fun _ _ _ _ _ _ us hl => match us, hl with | [_, _], _ => rfl), ?_⟩
  refine F_.ok sc_map_by (fun vs H Q E h => ?_) (fun cdv A outer s H vs Q E hr h => ?_)
  · first | (obtain ⟨rfl, _⟩ := h; rfl) | (obtain ⟨_, rfl, _⟩ := h; rfl) | (obtain ⟨_, _, rfl, _⟩ := h; rfl) | (obtain ⟨_, _, _, rfl, _⟩ := h; rfl) | (obtain ⟨_, _, _, _, rfl, _⟩ := h; rfl) | (obtain ⟨_, _, _, _, _, rfl, _⟩ := h; rfl) | (obtain ⟨_, _, _, _, _, _, rfl, _⟩ := h; rfl) | (obtain ⟨_, _, _, _, _, _, _, rfl, _⟩ := h; rfl) | (obtain ⟨_, _, _, _, _, _, _, _, rfl, _⟩ := h; rfl) | (obtain ⟨_, _, _, _, _, _, _, _, _, rfl, _⟩ := h; rfl) | (obtain ⟨_, _, _, _, _, _, _, _, _, _, rfl, _⟩ := h; rfl) | (obtain ⟨_, _, _, _, _, _, _, _, _, _, _, rfl, _⟩ := h; rfl) | (obtain ⟨_, _, _, _, _, _, _, _, _, _, _, _, rfl, _⟩ := h; rfl) | (obtain ⟨_, _, _, _, _, _, _, _, _, _, _, _, _, rfl, _⟩ := h; rfl) | (obtain ⟨_, _, _, _, _, _, _, _, _, _, _, _, _, _, rfl, _⟩ := h; rfl) | (obtain ⟨_, _, _, _, _, _, _, _, _, _, _, _, _, _, _, rfl, _⟩ := h; rfl) | (obtain ⟨_, _, _, _, _, _, _, _, _, _, _, _, _, _, _, _, rfl, _⟩ := h; rfl) | (obtain ⟨_, _, _, _, _, _, _, _, _, _, _, _, _, _, _, _, _, rfl, _⟩ := h; rfl) | (obtain ⟨_, _, _, _, _, _, _, _, _, _, _, _, _, _, _, _, _, _, rfl, _⟩ := h; rfl) | (obtain ⟨_, _, _, _, _, _, _, _, _, _, _, _, _, _, _, _, _, _, _, rfl, _⟩ := h; rfl) | (obtain ⟨_, _, _, _, _, _, _, _, _, _, _, _, _, _, _, _, _, _, _, _, rfl, _⟩ := h; rfl) | (obtain ⟨_, _, _, _, _, _, _, _, _, _, _, _, _, _, _, _, _, _, _, _, _, rfl, _⟩ := h; rfl) | (obtain ⟨_, _, _, _, _, _, _, _, _, _, _, _, _, _, _, _, _, _, _, _, _, _, rfl, _⟩ := h; rfl) | (obtain ⟨_, _, _, _, _, _, _, _, _, _, _, _, _, _, _, _, _, _, _, _, _, _, _, rfl, _⟩ := h; rfl)
  · obtain ⟨t, l, a, b, c, d, e, f, g, h', i, u, x, y, rfl, ht, hl, ⟨ba, bb, bc⟩, ⟨bd, be, bf⟩, ⟨bg, bh, bi⟩, ⟨bu, bx, by'⟩, q⟩ := h
    refine ⟨_, (Evl.pss_cut (ps_asg (pv 0) (pg_tup (by rfl) (pgs_cons (pg_tup (by rfl) (pgs_cons (pg_name (i := 2) sc_map_by.nd rfl (.inl rfl)) (pgs_cons (pg_name (i := 3) sc_map_by.nd rfl (.inl rfl)) (pgs_cons (pg_name (i := 4) sc_map_by.nd rfl (.inl rfl)) pgs_nil)))) (pgs_cons (pg_tup (by rfl) (pgs_cons (pg_name (i := 5) sc_map_by.nd rfl (.inl rfl)) (pgs_cons (pg_name (i := 6) sc_map_by.nd rfl (.inl rfl)) (pgs_cons (pg_name (i := 7) sc_map_by.nd rfl (.inl rfl)) pgs_nil)))) (pgs_cons (pg_tup (by rfl) (pgs_cons (pg_name (i := 8) sc_map_by.nd rfl (.inl rfl)) (pgs_cons (pg_name (i := 9) sc_map_by.nd rfl (.inl rfl)) (pgs_cons (pg_name (i := 10) sc_map_by.nd rfl (.inl rfl)) pgs_nil)))) pgs_nil)))))
    (Evl.pss_cut (ps_asg (pv 1) (pg_tup (by rfl) (pgs_cons (pg_name (i := 11) sc_map_by.nd rfl (.inl rfl)) (pgs_cons (pg_name (i := 12) sc_map_by.nd rfl (.inl rfl)) (pgs_cons (pg_name (i := 13) sc_map_by.nd rfl (.inl rfl)) pgs_nil)))))
    (pss_one (ps_ret (pe_lst (pa_cons (pv 1) (pa_cons (pe_tup (pa_cons (pe_op op_add (pe_op op_mulW (pv 12) (pv 2)) (pe_op op_mulW (pv 13) (pv 5))) (pa_cons (pe_op op_add (pe_op op_add (pv 11) (pe_op op_mulW (pv 12) (pv 3))) (pe_op op_mulW (pv 13) (pv 6))) (pa_cons (pe_op op_add (pe_op op_mulW (pv 12) (pv 4)) (pe_op op_mulW (pv 13) (pv 7))) pa_nil)))) (pa_cons (pe_tup (pa_cons (pe_op op_add (pe_op op_mulW (pv 12) (pv 5)) (pe_op op_mulW (pv 13) (pv 8))) (pa_cons (pe_op op_add (pe_op op_mulW (pv 12) (pv 6)) (pe_op op_mulW (pv 13) (pv 9))) (pa_cons (pe_op op_add (pe_op op_add (pv 11) (pe_op op_mulW (pv 12) (pv 7))) (pe_op op_mulW (pv 13) (pv 10))) pa_nil)))) pa_nil)))))))), ?_⟩
    refine ⟨fun σ H' => σ = [some (.ref t), some (.ref l), some (.int a), some (.int b), some (.int c), some (.int d), some (.int e), some (.int f), some (.int g), some (.int h'), some (.int i), none, none, none] ∧ H' = H, ⟨_, rfl, un33 ht ⟨rfl, rfl⟩⟩, ?_⟩
    rintro σ H' ⟨rfl, rfl⟩
    refine ⟨fun σ H'' => σ = [some (.ref t), some (.ref l), some (.int a), some (.int b), some (.int c), some (.int d), some (.int e), some (.int f), some (.int g), some (.int h'), some (.int i), some (.int u), some (.int x), some (.int y)] ∧ H'' = H', ⟨_, rfl, unq3 hl ⟨rfl, rfl⟩⟩, ?_⟩
    rintro σ H'' ⟨rfl, rfl⟩
    refine ⟨_, rfl, _, rfl, _, rfl, _, _, rfl, rfl, mulB (by with_reducible assumption) (by with_reducible assumption) (by decide), _, rfl, _, rfl, _, _, rfl, rfl, mulB (by with_reducible assumption) (by with_reducible assumption) (by decide), _, _, rfl, rfl, _, rfl, _, rfl, _, rfl, _, _, rfl, rfl, mulB (by with_reducible assumption) (by with_reducible assumption) (by decide), _, _, rfl, rfl, _, rfl, _, rfl, _, _, rfl, rfl, mulB (by with_reducible assumption) (by with_reducible assumption) (by decide), _, _, rfl, rfl, _, rfl, _, rfl, _, _, rfl, rfl, mulB (by with_reducible assumption) (by with_reducible assumption) (by decide), _, rfl, _, rfl, _, _, rfl, rfl, mulB (by with_reducible assumption) (by with_reducible assumption) (by decide), _, _, rfl, rfl, sl3, fun t1 n1 => ⟨_, rfl, _, rfl, _, _, rfl, rfl, mulB (by with_reducible assumption) (by with_reducible assumption) (by decide), _, rfl, _, rfl, _, _, rfl, rfl, mulB (by with_reducible assumption) (by with_reducible assumption) (by decide), _, _, rfl, rfl, _, rfl, _, rfl, _, _, rfl, rfl, mulB (by with_reducible assumption) (by with_reducible assumption) (by decide), _, rfl, _, rfl, _, _, rfl, rfl, mulB (by with_reducible assumption) (by with_reducible assumption) (by decide), _, _, rfl, rfl, _, rfl, _, rfl, _, rfl, _, _, rfl, rfl, mulB (by with_reducible assumption) (by with_reducible assumption) (by decide), _, _, rfl, rfl, _, rfl, _, rfl, _, _, rfl, rfl, mulB (by with_reducible assumption) (by with_reducible assumption) (by decide), _, _, rfl, rfl, sl3, fun t2 n2 => ⟨sl3, fun o no => ?_⟩⟩⟩
    refine q o _ (((Ex0.new n1).trans (Ex0.new n2)).trans (Ex0.new no)) ⟨l, t1, t2, upd_same, ?_, ?_, ?_⟩
    · have ez := fun (H4 : Hp) (z : Ex0 H'' H4) => Ex0.tq z hl
      rw [show m0 a d g u x y 1 0 0 = u by simp [m0], show m1 b e h' u x y 1 0 0 = x by simp [m1], show m2 c f i u x y 1 0 0 = y by simp [m2]]
      exact ez _ (((Ex0.new n1).trans (Ex0.new n2)).trans (Ex0.new no))
    · rw [show m0 a d g u x y 0 1 0 = x * a + y * d by simp [m0], show m1 b e h' u x y 0 1 0 = u + x * b + y * e by simp [m1], show m2 c f i u x y 0 1 0 = x * c + y * f by simp [m2]]
      exact SqT.of (Ex0.ap (Ex0.new no) (Ex0.ap (Ex0.new n2) upd_same))
    · rw [show m0 a d g u x y 0 0 1 = x * d + y * g by simp [m0], show m1 b e h' u x y 0 0 1 = x * e + y * h' by simp [m1], show m2 c f i u x y 0 0 1 = u + x * f + y * i by simp [m2]]
      exact SqT.of (Ex0.ap (Ex0.new no) upd_same)
theorem ok_trace_by (T : Txt K mg C_Form C_Ring C_Element) : Def P w K mg base 3 "trace_by" ["table", "entries"] (sp_trace_by K C_Form C_Ring C_Element) := by
  obtain ⟨f_, fd_, g_, F_⟩ := T.d_trace_by
  obtain ⟨f_map_by, fd_map_by, g_map_by, k_map_by, b_map_by, G_map_by⟩ := (ok_map_by (P := P) (w := w) (base := base) T)
  refine ⟨f_, fd_, g_, F_.kp, F_.binds (ps := ["table", "entries"]) (fun _ _ _ _ _ _ us hl => match us, hl with | [_, _], _ => rfl), ?_⟩
  refine F_.ok sc_trace_by (fun vs H Q E h => ?_) (fun cdv A outer s H vs Q E hr h => ?_)
  · first | (obtain ⟨rfl, _⟩ := h; rfl) | (obtain ⟨_, rfl, _⟩ := h; rfl) | (obtain ⟨_, _, rfl, _⟩ := h; rfl) | (obtain ⟨_, _, _, rfl, _⟩ := h; rfl) | (obtain ⟨_, _, _, _, rfl, _⟩ := h; rfl) | (obtain ⟨_, _, _, _, _, rfl, _⟩ := h; rfl) | (obtain ⟨_, _, _, _, _, _, rfl, _⟩ := h; rfl) | (obtain ⟨_, _, _, _, _, _, _, rfl, _⟩ := h; rfl) | (obtain ⟨_, _, _, _, _, _, _, _, rfl, _⟩ := h; rfl) | (obtain ⟨_, _, _, _, _, _, _, _, _, rfl, _⟩ := h; rfl) | (obtain ⟨_, _, _, _, _, _, _, _, _, _, rfl, _⟩ := h; rfl) | (obtain ⟨_, _, _, _, _, _, _, _, _, _, _, rfl, _⟩ := h; rfl) | (obtain ⟨_, _, _, _, _, _, _, _, _, _, _, _, rfl, _⟩ := h; rfl) | (obtain ⟨_, _, _, _, _, _, _, _, _, _, _, _, _, rfl, _⟩ := h; rfl) | (obtain ⟨_, _, _, _, _, _, _, _, _, _, _, _, _, _, rfl, _⟩ := h; rfl) | (obtain ⟨_, _, _, _, _, _, _, _, _, _, _, _, _, _, _, rfl, _⟩ := h; rfl) | (obtain ⟨_, _, _, _, _, _, _, _, _, _, _, _, _, _, _, _, rfl, _⟩ := h; rfl) | (obtain ⟨_, _, _, _, _, _, _, _, _, _, _, _, _, _, _, _, _, rfl, _⟩ := h; rfl) | (obtain ⟨_, _, _, _, _, _, _, _, _, _, _, _, _, _, _, _, _, _, rfl, _⟩ := h; rfl) | (obtain ⟨_, _, _, _, _, _, _, _, _, _, _, _, _, _, _, _, _, _, _, rfl, _⟩ := h; rfl) | (obtain ⟨_, _, _, _, _, _, _, _, _, _, _, _, _, _, _, _, _, _, _, _, rfl, _⟩ := h; rfl) | (obtain ⟨_, _, _, _, _, _, _, _, _, _, _, _, _, _, _, _, _, _, _, _, _, rfl, _⟩ := h; rfl) | (obtain ⟨_, _, _, _, _, _, _, _, _, _, _, _, _, _, _, _, _, _, _, _, _, _, rfl, _⟩ := h; rfl) | (obtain ⟨_, _, _, _, _, _, _, _, _, _, _, _, _, _, _, _, _, _, _, _, _, _, _, rfl, _⟩ := h; rfl)
  · obtain ⟨t, l, a, b, c, d, e, f, g, h', i, u, x, y, rfl, ht, hl, b1, b2, b3, bu, q⟩ := h
    refine ⟨_, (pss_cons (ps_set (i := 2) sc_trace_by.nd rfl (.inl rfl) (pe_call G_map_by (hr.mono (by decide)) (by rfl) g_map_by k_map_by b_map_by .nil pass0 (pa_cons (pv 0) (pa_cons (pv 1) pa_nil))))
    (pss_one (ps_ret (pe_op op_add (pe_op op_add (pe_ix ix_tup (pe_ix ix_list (pv 2) pe_int (fun _ _ => rfl)) pe_int (fun _ _ => rfl)) (pe_ix ix_tup (pe_ix ix_list (pv 2) pe_int (fun _ _ => rfl)) pe_int (fun _ _ => rfl))) (pe_ix ix_tup (pe_ix ix_list (pv 2) pe_int (fun _ _ => rfl)) pe_int (fun _ _ => rfl)))))), ?_⟩
    refine ⟨_, rfl, _, rfl, t, l, a, b, c, d, e, f, g, h', i, u, x, y, rfl, ht, hl, b1, b2, b3, bu, fun o H1 e1 ho => ?_⟩
    obtain ⟨r1, r2, r3, h0, g1, g2, g3⟩ := ho
    have z0 := SqL.of (K := K) h0
    refine ⟨_, rfl, o, _, 0, .ref r1, rfl, rfl, z0, rfl, r1, _, 0, .int _, rfl, rfl, g1, rfl, ?_⟩
    refine ⟨_, rfl, o, _, 1, .ref r2, rfl, rfl, z0, rfl, r2, _, 1, .int _, rfl, rfl, g2, rfl, _, _, rfl, rfl, ?_⟩
    refine ⟨_, rfl, o, _, 2, .ref r3, rfl, rfl, z0, rfl, r3, _, 2, .int _, rfl, rfl, g3, rfl, _, _, rfl, rfl, ?_⟩
    exact q H1 e1
theorem ok_Ring___init__ (T : Txt K mg C_Form C_Ring C_Element) : MDef (fun p f => Mk K C_Ring f) P w K mg base 2 ["self", "form"] (sp_Ring___init__ K C_Form C_Ring C_Element) := by
  obtain ⟨p_, f_, fd_, R_, F_⟩ := T.e_Ring___init__
  obtain ⟨f_check_form, fd_check_form, g_check_form, k_check_form, b_check_form, G_check_form⟩ := (ok_check_form (P := P) (w := w) (base := base) T)
  refine ⟨p_, f_, fd_, R_, F_.binds (ps := ["self", "form"]) (fun _ _ _ _ _ _ us hl => match us, hl with | [_, _], _ => rfl), ?_⟩
  refine F_.ok sc_Ring___init__ (fun vs H Q E h => ?_) (fun cdv A outer s H vs Q E hr h => ?_)
  · first | (obtain ⟨rfl, _⟩ := h; rfl) | (obtain ⟨_, rfl, _⟩ := h; rfl) | (obtain ⟨_, _, rfl, _⟩ := h; rfl) | (obtain ⟨_, _, _, rfl, _⟩ := h; rfl) | (obtain ⟨_, _, _, _, rfl, _⟩ := h; rfl) | (obtain ⟨_, _, _, _, _, rfl, _⟩ := h; rfl) | (obtain ⟨_, _, _, _, _, _, rfl, _⟩ := h; rfl) | (obtain ⟨_, _, _, _, _, _, _, rfl, _⟩ := h; rfl) | (obtain ⟨_, _, _, _, _, _, _, _, rfl, _⟩ := h; rfl) | (obtain ⟨_, _, _, _, _, _, _, _, _, rfl, _⟩ := h; rfl) | (obtain ⟨_, _, _, _, _, _, _, _, _, _, rfl, _⟩ := h; rfl) | (obtain ⟨_, _, _, _, _, _, _, _, _, _, _, rfl, _⟩ := h; rfl) | (obtain ⟨_, _, _, _, _, _, _, _, _, _, _, _, rfl, _⟩ := h; rfl) | (obtain ⟨_, _, _, _, _, _, _, _, _, _, _, _, _, rfl, _⟩ := h; rfl) | (obtain ⟨_, _, _, _, _, _, _, _, _, _, _, _, _, _, rfl, _⟩ := h; rfl) | (obtain ⟨_, _, _, _, _, _, _, _, _, _, _, _, _, _, _, rfl, _⟩ := h; rfl) | (obtain ⟨_, _, _, _, _, _, _, _, _, _, _, _, _, _, _, _, rfl, _⟩ := h; rfl) | (obtain ⟨_, _, _, _, _, _, _, _, _, _, _, _, _, _, _, _, _, rfl, _⟩ := h; rfl) | (obtain ⟨_, _, _, _, _, _, _, _, _, _, _, _, _, _, _, _, _, _, rfl, _⟩ := h; rfl) | (obtain ⟨_, _, _, _, _, _, _, _, _, _, _, _, _, _, _, _, _, _, _, rfl, _⟩ := h; rfl) | (obtain ⟨_, _, _, _, _, _, _, _, _, _, _, _, _, _, _, _, _, _, _, _, rfl, _⟩ := h; rfl) | (obtain ⟨_, _, _, _, _, _, _, _, _, _, _, _, _, _, _, _, _, _, _, _, _, rfl, _⟩ := h; rfl) | (obtain ⟨_, _, _, _, _, _, _, _, _, _, _, _, _, _, _, _, _, _, _, _, _, _, rfl, _⟩ := h; rfl) | (obtain ⟨_, _, _, _, _, _, _, _, _, _, _, _, _, _, _, _, _, _, _, _, _, _, _, rfl, _⟩ := h; rfl)
  · obtain ⟨x, dx, f, ns, rfl, hx, hf, q⟩ := h
    refine ⟨_, (pss_cons (ps_expr (pe_call G_check_form (hr.mono (by decide)) (by rfl) g_check_form k_check_form b_check_form .nil pass0 (pa_cons (pv 1) pa_nil)))
    (pss_one (ps_fld (pv 0) (pv 1) (by rfl)))), ?_⟩
    refine ⟨_, rfl, f, ns, rfl, hf, ?_⟩
    refine ⟨_, rfl, _, rfl, x, C_Ring, dx, _, rfl, hx, T.cl_Ring, T.na_Ring_form, (by decide : (0:Nat) < 1000), ?_⟩
    exact q _ (fun b o n e => by rw [upd_ne n]; exact e) upd_same
theorem ok_Ring_form (T : Txt K mg C_Form C_Ring C_Element) : MDef (fun p f => PropOf K C_Ring "form" p f) P w K mg base 1 ["self"] (sp_Ring_form K C_Form C_Ring C_Element) := by
  obtain ⟨p_, f_, fd_, R_, F_⟩ := T.e_Ring_form
  refine ⟨p_, f_, fd_, R_, F_.binds (ps := ["self"]) (fun _ _ _ _ _ _ us hl => match us, hl with | [_], _ => rfl), ?_⟩
  refine F_.ok sc_Ring_form (fun vs H Q E h => ?_) (fun cdv A outer s H vs Q E hr h => ?_)
  · first | (obtain ⟨rfl, _⟩ := h; rfl) | (obtain ⟨_, rfl, _⟩ := h; rfl) | (obtain ⟨_, _, rfl, _⟩ := h; rfl) | (obtain ⟨_, _, _, rfl, _⟩ := h; rfl) | (obtain ⟨_, _, _, _, rfl, _⟩ := h; rfl) | (obtain ⟨_, _, _, _, _, rfl, _⟩ := h; rfl) | (obtain ⟨_, _, _, _, _, _, rfl, _⟩ := h; rfl) | (obtain ⟨_, _, _, _, _, _, _, rfl, _⟩ := h; rfl) | (obtain ⟨_, _, _, _, _, _, _, _, rfl, _⟩ := h; rfl) | (obtain ⟨_, _, _, _, _, _, _, _, _, rfl, _⟩ := h; rfl) | (obtain ⟨_, _, _, _, _, _, _, _, _, _, rfl, _⟩ := h; rfl) | (obtain ⟨_, _, _, _, _, _, _, _, _, _, _, rfl, _⟩ := h; rfl) | (obtain ⟨_, _, _, _, _, _, _, _, _, _, _, _, rfl, _⟩ := h; rfl) | (obtain ⟨_, _, _, _, _, _, _, _, _, _, _, _, _, rfl, _⟩ := h; rfl) | (obtain ⟨_, _, _, _, _, _, _, _, _, _, _, _, _, _, rfl, _⟩ := h; rfl) | (obtain ⟨_, _, _, _, _, _, _, _, _, _, _, _, _, _, _, rfl, _⟩ := h; rfl) | (obtain ⟨_, _, _, _, _, _, _, _, _, _, _, _, _, _, _, _, rfl, _⟩ := h; rfl) | (obtain ⟨_, _, _, _, _, _, _, _, _, _, _, _, _, _, _, _, _, rfl, _⟩ := h; rfl) | (obtain ⟨_, _, _, _, _, _, _, _, _, _, _, _, _, _, _, _, _, _, rfl, _⟩ := h; rfl) | (obtain ⟨_, _, _, _, _, _, _, _, _, _, _, _, _, _, _, _, _, _, _, rfl, _⟩ := h; rfl) | (obtain ⟨_, _, _, _, _, _, _, _, _, _, _, _, _, _, _, _, _, _, _, _, rfl, _⟩ := h; rfl) | (obtain ⟨_, _, _, _, _, _, _, _, _, _, _, _, _, _, _, _, _, _, _, _, _, rfl, _⟩ := h; rfl) | (obtain ⟨_, _, _, _, _, _, _, _, _, _, _, _, _, _, _, _, _, _, _, _, _, _, rfl, _⟩ := h; rfl) | (obtain ⟨_, _, _, _, _, _, _, _, _, _, _, _, _, _, _, _, _, _, _, _, _, _, _, rfl, _⟩ := h; rfl)
  · obtain ⟨r, ns, rfl, ⟨dr, x, hrr, hx⟩, q⟩ := h
    refine ⟨_, (pss_one (ps_ret (pe_fld (pv 0) (by rfl)))), ?_⟩
    exact ⟨_, rfl, r, C_Ring, dr, _, .ref x, rfl, hrr, T.cl_Ring, T.na_Ring_form, lk_same, q x hx⟩
theorem ok_Ring_discriminant (T : Txt K mg C_Form C_Ring C_Element) : MDef (fun p f => PropOf K C_Ring "discriminant" p f) P w K mg base 4 ["self"] (sp_Ring_discriminant K C_Form C_Ring C_Element) := by
  obtain ⟨p_, f_, fd_, R_, F_⟩ := T.e_Ring_discriminant
  obtain ⟨p_Form_discriminant, f_Form_discriminant, fd_Form_discriminant, R_Form_discriminant, b_Form_discriminant, G_Form_discriminant⟩ := (ok_Form_discriminant (P := P) (w := w) (base := base) T)
  refine ⟨p_, f_, fd_, R_, F_.binds (ps := ["self"]) (fun _ _ _ _ _ _ us hl => match us, hl with | [_], _ => rfl), ?_⟩
  refine F_.ok sc_Ring_discriminant (fun vs H Q E h => ?_) (fun cdv A outer s H vs Q E hr h => ?_)
  · first | (obtain ⟨rfl, _⟩ := h; rfl) | (obtain ⟨_, rfl, _⟩ := h; rfl) | (obtain ⟨_, _, rfl, _⟩ := h; rfl) | (obtain ⟨_, _, _, rfl, _⟩ := h; rfl) | (obtain ⟨_, _, _, _, rfl, _⟩ := h; rfl) | (obtain ⟨_, _, _, _, _, rfl, _⟩ := h; rfl) | (obtain ⟨_, _, _, _, _, _, rfl, _⟩ := h; rfl) | (obtain ⟨_, _, _, _, _, _, _, rfl, _⟩ := h; rfl) | (obtain ⟨_, _, _, _, _, _, _, _, rfl, _⟩ := h; rfl) | (obtain ⟨_, _, _, _, _, _, _, _, _, rfl, _⟩ := h; rfl) | (obtain ⟨_, _, _, _, _, _, _, _, _, _, rfl, _⟩ := h; rfl) | (obtain ⟨_, _, _, _, _, _, _, _, _, _, _, rfl, _⟩ := h; rfl) | (obtain ⟨_, _, _, _, _, _, _, _, _, _, _, _, rfl, _⟩ := h; rfl) | (obtain ⟨_, _, _, _, _, _, _, _, _, _, _, _, _, rfl, _⟩ := h; rfl) | (obtain ⟨_, _, _, _, _, _, _, _, _, _, _, _, _, _, rfl, _⟩ := h; rfl) | (obtain ⟨_, _, _, _, _, _, _, _, _, _, _, _, _, _, _, rfl, _⟩ := h; rfl) | (obtain ⟨_, _, _, _, _, _, _, _, _, _, _, _, _, _, _, _, rfl, _⟩ := h; rfl) | (obtain ⟨_, _, _, _, _, _, _, _, _, _, _, _, _, _, _, _, _, rfl, _⟩ := h; rfl) | (obtain ⟨_, _, _, _, _, _, _, _, _, _, _, _, _, _, _, _, _, _, rfl, _⟩ := h; rfl) | (obtain ⟨_, _, _, _, _, _, _, _, _, _, _, _, _, _, _, _, _, _, _, rfl, _⟩ := h; rfl) | (obtain ⟨_, _, _, _, _, _, _, _, _, _, _, _, _, _, _, _, _, _, _, _, rfl, _⟩ := h; rfl) | (obtain ⟨_, _, _, _, _, _, _, _, _, _, _, _, _, _, _, _, _, _, _, _, _, rfl, _⟩ := h; rfl) | (obtain ⟨_, _, _, _, _, _, _, _, _, _, _, _, _, _, _, _, _, _, _, _, _, _, rfl, _⟩ := h; rfl) | (obtain ⟨_, _, _, _, _, _, _, _, _, _, _, _, _, _, _, _, _, _, _, _, _, _, _, rfl, _⟩ := h; rfl)
  · obtain ⟨r, a, b, c, d, rfl, ⟨dr, x, hrr, hx⟩, ⟨ba, bb, bc, bd⟩, q⟩ := h
    obtain ⟨dx, tx, hx1, hx2⟩ := id hx
    refine ⟨_, (pss_one (ps_ret (pe_prop (pe_fld (pv 0) (by rfl)) T.cl_Form R_Form_discriminant G_Form_discriminant (hr.mono (by decide)) b_Form_discriminant .nil pass0 (by rfl)))), ?_⟩
    exact ⟨_, rfl, r, C_Ring, dr, _, .ref x, rfl, hrr, T.cl_Ring, T.na_Ring_form, lk_same, x, dx, _, rfl, hx1, x, a, b, c, d, rfl, hx, ba, bb, bc, bd, q⟩
theorem ok_Ring___eq__ (T : Txt K mg C_Form C_Ring C_Element) : MDef (fun p f => EqC K C_Ring f) P w K mg base 2 ["self", "other"] (sp_Ring___eq__ K C_Form C_Ring C_Element) := by
  obtain ⟨p_, f_, fd_, R_, F_⟩ := T.e_Ring___eq__
  obtain ⟨p_Form___eq__, f_Form___eq__, fd_Form___eq__, R_Form___eq__, b_Form___eq__, G_Form___eq__⟩ := (ok_Form___eq__ (P := P) (w := w) (base := base) T)
  refine ⟨p_, f_, fd_, R_, F_.binds (ps := ["self", "other"]) (fun _ _ _ _ _ _ us hl => match us, hl with | [_, _], _ => rfl), ?_⟩
  refine F_.ok sc_Ring___eq__ (fun vs H Q E h => ?_) (fun cdv A outer s H vs Q E hr h => ?_)
  · first | (obtain ⟨rfl, _⟩ := h; rfl) | (obtain ⟨_, rfl, _⟩ := h; rfl) | (obtain ⟨_, _, rfl, _⟩ := h; rfl) | (obtain ⟨_, _, _, rfl, _⟩ := h; rfl) | (obtain ⟨_, _, _, _, rfl, _⟩ := h; rfl) | (obtain ⟨_, _, _, _, _, rfl, _⟩ := h; rfl) | (obtain ⟨_, _, _, _, _, _, rfl, _⟩ := h; rfl) | (obtain ⟨_, _, _, _, _, _, _, rfl, _⟩ := h; rfl) | (obtain ⟨_, _, _, _, _, _, _, _, rfl, _⟩ := h; rfl) | (obtain ⟨_, _, _, _, _, _, _, _, _, rfl, _⟩ := h; rfl) | (obtain ⟨_, _, _, _, _, _, _, _, _, _, rfl, _⟩ := h; rfl) | (obtain ⟨_, _, _, _, _, _, _, _, _, _, _, rfl, _⟩ := h; rfl) | (obtain ⟨_, _, _, _, _, _, _, _, _, _, _, _, rfl, _⟩ := h; rfl) | (obtain ⟨_, _, _, _, _, _, _, _, _, _, _, _, _, rfl, _⟩ := h; rfl) | (obtain ⟨_, _, _, _, _, _, _, _, _, _, _, _, _, _, rfl, _⟩ := h; rfl) | (obtain ⟨_, _, _, _, _, _, _, _, _, _, _, _, _, _, _, rfl, _⟩ := h; rfl) | (obtain ⟨_, _, _, _, _, _, _, _, _, _, _, _, _, _, _, _, rfl, _⟩ := h; rfl) | (obtain ⟨_, _, _, _, _, _, _, _, _, _, _, _, _, _, _, _, _, rfl, _⟩ := h; rfl) | (obtain ⟨_, _, _, _, _, _, _, _, _, _, _, _, _, _, _, _, _, _, rfl, _⟩ := h; rfl) | (obtain ⟨_, _, _, _, _, _, _, _, _, _, _, _, _, _, _, _, _, _, _, rfl, _⟩ := h; rfl) | (obtain ⟨_, _, _, _, _, _, _, _, _, _, _, _, _, _, _, _, _, _, _, _, rfl, _⟩ := h; rfl) | (obtain ⟨_, _, _, _, _, _, _, _, _, _, _, _, _, _, _, _, _, _, _, _, _, rfl, _⟩ := h; rfl) | (obtain ⟨_, _, _, _, _, _, _, _, _, _, _, _, _, _, _, _, _, _, _, _, _, _, rfl, _⟩ := h; rfl) | (obtain ⟨_, _, _, _, _, _, _, _, _, _, _, _, _, _, _, _, _, _, _, _, _, _, _, rfl, _⟩ := h; rfl)
  · obtain ⟨x, y, ns, ms, rfl, ⟨dx, f, hx, hf⟩, ⟨dy, f', hy, hf'⟩, q⟩ := h
    obtain ⟨df, t, hf1, hf2⟩ := id hf
    obtain ⟨df', t', hf3, hf4⟩ := id hf'
    refine ⟨_, (pss_one (ps_ret (pe_and (pe_callB call_isi (by rfl) T.b_isinstance (by decide +kernel) (pa_cons (pv 1) (pa_cons (pe_glob (v := .ref C_Ring) (by rfl) T.g_Ring rfl) pa_nil))) (pe_one (pe_cmpR (op_eqI R_Form___eq__ G_Form___eq__ b_Form___eq__ (hr.mono (by decide)) pass0) (pe_fld (pv 0) (by rfl)) (pe_fld (pv 1) (by rfl)) (nomark _)))))), ?_⟩
    refine ⟨_, rfl, _, _, _, _, true, rfl, .own _, ty_ins T.ty_Ring T.cl_Ring hy, kit_self, _, rfl, ?_⟩
    refine ⟨_, rfl, x, C_Ring, dx, _, .ref f, rfl, hx, T.cl_Ring, T.na_Ring_form, lk_same, _, rfl, y, C_Ring, dy, _, .ref f', rfl, hy, T.cl_Ring, T.na_Ring_form, lk_same, ?_⟩
    exact ⟨f, df, _, _, rfl, hf1, ty_ins T.ty_Form T.cl_Form hf3, first_self, f, f', ns, ms, rfl, hf, hf', _, rfl, q⟩
theorem ok_table_for (T : Txt K mg C_Form C_Ring C_Element) : Def P w K mg base 3 "table_for" ["ring"] (sp_table_for K C_Form C_Ring C_Element) := by
  obtain ⟨f_, fd_, g_, F_⟩ := T.d_table_for
  obtain ⟨p_Form_coefficients, f_Form_coefficients, fd_Form_coefficients, R_Form_coefficients, b_Form_coefficients, G_Form_coefficients⟩ := (ok_Form_coefficients (P := P) (w := w) (base := base) T)
  obtain ⟨p_Ring_form, f_Ring_form, fd_Ring_form, R_Ring_form, b_Ring_form, G_Ring_form⟩ := (ok_Ring_form (P := P) (w := w) (base := base) T)
  obtain ⟨f_table_of, fd_table_of, g_table_of, k_table_of, b_table_of, G_table_of⟩ := (ok_table_of (P := P) (w := w) (base := base) T)
  refine ⟨f_, fd_, g_, F_.kp, F_.binds (ps := ["ring"]) (fun _ _ _ _ _ _ us hl => match us, hl with | [_], _ => rfl), ?_⟩
  refine F_.ok sc_table_for (fun vs H Q E h => ?_) (fun cdv A outer s H vs Q E hr h => ?_)
  · first | (obtain ⟨rfl, _⟩ := h; rfl) | (obtain ⟨_, rfl, _⟩ := h; rfl) | (obtain ⟨_, _, rfl, _⟩ := h; rfl) | (obtain ⟨_, _, _, rfl, _⟩ := h; rfl) | (obtain ⟨_, _, _, _, rfl, _⟩ := h; rfl) | (obtain ⟨_, _, _, _, _, rfl, _⟩ := h; rfl) | (obtain ⟨_, _, _, _, _, _, rfl, _⟩ := h; rfl) | (obtain ⟨_, _, _, _, _, _, _, rfl, _⟩ := h; rfl) | (obtain ⟨_, _, _, _, _, _, _, _, rfl, _⟩ := h; rfl) | (obtain ⟨_, _, _, _, _, _, _, _, _, rfl, _⟩ := h; rfl) | (obtain ⟨_, _, _, _, _, _, _, _, _, _, rfl, _⟩ := h; rfl) | (obtain ⟨_, _, _, _, _, _, _, _, _, _, _, rfl, _⟩ := h; rfl) | (obtain ⟨_, _, _, _, _, _, _, _, _, _, _, _, rfl, _⟩ := h; rfl) | (obtain ⟨_, _, _, _, _, _, _, _, _, _, _, _, _, rfl, _⟩ := h; rfl) | (obtain ⟨_, _, _, _, _, _, _, _, _, _, _, _, _, _, rfl, _⟩ := h; rfl) | (obtain ⟨_, _, _, _, _, _, _, _, _, _, _, _, _, _, _, rfl, _⟩ := h; rfl) | (obtain ⟨_, _, _, _, _, _, _, _, _, _, _, _, _, _, _, _, rfl, _⟩ := h; rfl) | (obtain ⟨_, _, _, _, _, _, _, _, _, _, _, _, _, _, _, _, _, rfl, _⟩ := h; rfl) | (obtain ⟨_, _, _, _, _, _, _, _, _, _, _, _, _, _, _, _, _, _, rfl, _⟩ := h; rfl) | (obtain ⟨_, _, _, _, _, _, _, _, _, _, _, _, _, _, _, _, _, _, _, rfl, _⟩ := h; rfl) | (obtain ⟨_, _, _, _, _, _, _, _, _, _, _, _, _, _, _, _, _, _, _, _, rfl, _⟩ := h; rfl) | (obtain ⟨_, _, _, _, _, _, _, _, _, _, _, _, _, _, _, _, _, _, _, _, _, rfl, _⟩ := h; rfl) | (obtain ⟨_, _, _, _, _, _, _, _, _, _, _, _, _, _, _, _, _, _, _, _, _, _, rfl, _⟩ := h; rfl) | (obtain ⟨_, _, _, _, _, _, _, _, _, _, _, _, _, _, _, _, _, _, _, _, _, _, _, rfl, _⟩ := h; rfl)
  · obtain ⟨r, a, b, c, d, rfl, hR, bz, q⟩ := h
    obtain ⟨dr, x, hrr, hx⟩ := id hR
    refine ⟨_, (pss_one (ps_ret (pe_call G_table_of (hr.mono (by decide)) (by rfl) g_table_of k_table_of b_table_of .nil pass0 (pa_cons (pe_prop (pe_prop (pv 0) T.cl_Ring R_Ring_form G_Ring_form (hr.mono (by decide)) b_Ring_form .nil pass0 (by rfl)) T.cl_Form R_Form_coefficients G_Form_coefficients (hr.mono (by decide)) b_Form_coefficients .nil pass0 (by rfl)) pa_nil)))), ?_⟩
    refine ⟨_, rfl, r, dr, _, rfl, hrr, r, _, rfl, hR, fun f hf => ?_⟩
    obtain ⟨df, tf, hf1, hf2⟩ := id hf
    refine ⟨f, df, _, rfl, hf1, f, _, rfl, hf, fun t ht => ?_⟩
    exact ⟨t, a, b, c, d, rfl, ht, bz, fun o H1 e1 ho => q o H1 e1 ho⟩
theorem ok_check_ring (T : Txt K mg C_Form C_Ring C_Element) : Def P w K mg base 1 "check_ring" ["value"] (sp_check_ring K C_Form C_Ring C_Element) := by
  obtain ⟨f_, fd_, g_, F_⟩ := T.d_check_ring
  refine ⟨f_, fd_, g_, F_.kp, F_.binds (ps := ["value"]) (fun _ _ _ _ _ _ us hl => match us, hl with | [_], _ => rfl), ?_⟩
  refine F_.ok sc_check_ring (fun vs H Q E h => ?_) (fun cdv A outer s H vs Q E hr h => ?_)
  · first | (obtain ⟨rfl, _⟩ := h; rfl) | (obtain ⟨_, rfl, _⟩ := h; rfl) | (obtain ⟨_, _, rfl, _⟩ := h; rfl) | (obtain ⟨_, _, _, rfl, _⟩ := h; rfl) | (obtain ⟨_, _, _, _, rfl, _⟩ := h; rfl) | (obtain ⟨_, _, _, _, _, rfl, _⟩ := h; rfl) | (obtain ⟨_, _, _, _, _, _, rfl, _⟩ := h; rfl) | (obtain ⟨_, _, _, _, _, _, _, rfl, _⟩ := h; rfl) | (obtain ⟨_, _, _, _, _, _, _, _, rfl, _⟩ := h; rfl) | (obtain ⟨_, _, _, _, _, _, _, _, _, rfl, _⟩ := h; rfl) | (obtain ⟨_, _, _, _, _, _, _, _, _, _, rfl, _⟩ := h; rfl) | (obtain ⟨_, _, _, _, _, _, _, _, _, _, _, rfl, _⟩ := h; rfl) | (obtain ⟨_, _, _, _, _, _, _, _, _, _, _, _, rfl, _⟩ := h; rfl) | (obtain ⟨_, _, _, _, _, _, _, _, _, _, _, _, _, rfl, _⟩ := h; rfl) | (obtain ⟨_, _, _, _, _, _, _, _, _, _, _, _, _, _, rfl, _⟩ := h; rfl) | (obtain ⟨_, _, _, _, _, _, _, _, _, _, _, _, _, _, _, rfl, _⟩ := h; rfl) | (obtain ⟨_, _, _, _, _, _, _, _, _, _, _, _, _, _, _, _, rfl, _⟩ := h; rfl) | (obtain ⟨_, _, _, _, _, _, _, _, _, _, _, _, _, _, _, _, _, rfl, _⟩ := h; rfl) | (obtain ⟨_, _, _, _, _, _, _, _, _, _, _, _, _, _, _, _, _, _, rfl, _⟩ := h; rfl) | (obtain ⟨_, _, _, _, _, _, _, _, _, _, _, _, _, _, _, _, _, _, _, rfl, _⟩ := h; rfl) | (obtain ⟨_, _, _, _, _, _, _, _, _, _, _, _, _, _, _, _, _, _, _, _, rfl, _⟩ := h; rfl) | (obtain ⟨_, _, _, _, _, _, _, _, _, _, _, _, _, _, _, _, _, _, _, _, _, rfl, _⟩ := h; rfl) | (obtain ⟨_, _, _, _, _, _, _, _, _, _, _, _, _, _, _, _, _, _, _, _, _, _, rfl, _⟩ := h; rfl) | (obtain ⟨_, _, _, _, _, _, _, _, _, _, _, _, _, _, _, _, _, _, _, _, _, _, _, rfl, _⟩ := h; rfl)
  · obtain ⟨x, ns, rfl, ⟨dx, t, hx, ht⟩, q⟩ := h
    refine ⟨_, (pss_one (ps_if (pt_not (pt_val (pe_callB call_isi (by rfl) T.b_isinstance (by decide +kernel) (pa_cons (pv 0) (pa_cons (pe_glob (v := .ref C_Ring) (by rfl) T.g_Ring rfl) pa_nil)))))
      pss_never
      pss_nil)), ?_⟩
    refine ⟨_, rfl, _, _, _, _, true, rfl, .own _, ty_ins T.ty_Ring T.cl_Ring hx, kit_self, _, rfl, ?_⟩
    exact iteF q
theorem ok_Element_ring (T : Txt K mg C_Form C_Ring C_Element) : MDef (fun p f => PropOf K C_Element "ring" p f) P w K mg base 1 ["self"] (sp_Element_ring K C_Form C_Ring C_Element) := by
  obtain ⟨p_, f_, fd_, R_, F_⟩ := T.e_Element_ring
  refine ⟨p_, f_, fd_, R_, F_.binds (ps := ["self"]) (fun _ _ _ _ _ _ us hl => match us, hl with | [_], _ => rfl), ?_⟩
  refine F_.ok sc_Element_ring (fun vs H Q E h => ?_) (fun cdv A outer s H vs Q E hr h => ?_)
  · first | (obtain ⟨rfl, _⟩ := h; rfl) | (obtain ⟨_, rfl, _⟩ := h; rfl) | (obtain ⟨_, _, rfl, _⟩ := h; rfl) | (obtain ⟨_, _, _, rfl, _⟩ := h; rfl) | (obtain ⟨_, _, _, _, rfl, _⟩ := h; rfl) | (obtain ⟨_, _, _, _, _, rfl, _⟩ := h; rfl) | (obtain ⟨_, _, _, _, _, _, rfl, _⟩ := h; rfl) | (obtain ⟨_, _, _, _, _, _, _, rfl, _⟩ := h; rfl) | (obtain ⟨_, _, _, _, _, _, _, _, rfl, _⟩ := h; rfl) | (obtain ⟨_, _, _, _, _, _, _, _, _, rfl, _⟩ := h; rfl) | (obtain ⟨_, _, _, _, _, _, _, _, _, _, rfl, _⟩ := h; rfl) | (obtain ⟨_, _, _, _, _, _, _, _, _, _, _, rfl, _⟩ := h; rfl) | (obtain ⟨_, _, _, _, _, _, _, _, _, _, _, _, rfl, _⟩ := h; rfl) | (obtain ⟨_, _, _, _, _, _, _, _, _, _, _, _, _, rfl, _⟩ := h; rfl) | (obtain ⟨_, _, _, _, _, _, _, _, _, _, _, _, _, _, rfl, _⟩ := h; rfl) | (obtain ⟨_, _, _, _, _, _, _, _, _, _, _, _, _, _, _, rfl, _⟩ := h; rfl) | (obtain ⟨_, _, _, _, _, _, _, _, _, _, _, _, _, _, _, _, rfl, _⟩ := h; rfl) | (obtain ⟨_, _, _, _, _, _, _, _, _, _, _, _, _, _, _, _, _, rfl, _⟩ := h; rfl) | (obtain ⟨_, _, _, _, _, _, _, _, _, _, _, _, _, _, _, _, _, _, rfl, _⟩ := h; rfl) | (obtain ⟨_, _, _, _, _, _, _, _, _, _, _, _, _, _, _, _, _, _, _, rfl, _⟩ := h; rfl) | (obtain ⟨_, _, _, _, _, _, _, _, _, _, _, _, _, _, _, _, _, _, _, _, rfl, _⟩ := h; rfl) | (obtain ⟨_, _, _, _, _, _, _, _, _, _, _, _, _, _, _, _, _, _, _, _, _, rfl, _⟩ := h; rfl) | (obtain ⟨_, _, _, _, _, _, _, _, _, _, _, _, _, _, _, _, _, _, _, _, _, _, rfl, _⟩ := h; rfl) | (obtain ⟨_, _, _, _, _, _, _, _, _, _, _, _, _, _, _, _, _, _, _, _, _, _, _, rfl, _⟩ := h; rfl)
  · obtain ⟨x, ns, u, y, z, b, rfl, ⟨de, r, t, he, hr, ht⟩, q⟩ := h
    refine ⟨_, (pss_one (ps_ret (pe_fld (pv 0) (by rfl)))), ?_⟩
    exact ⟨_, rfl, x, C_Element, de, _, .ref r, rfl, he, T.cl_Element, T.na_Element_ring, lkR, q r hr⟩
theorem ok_check_one_ring (T : Txt K mg C_Form C_Ring C_Element) : Def P w K mg base 4 "check_one_ring" ["first", "second"] (sp_check_one_ring K C_Form C_Ring C_Element) := by
  obtain ⟨f_, fd_, g_, F_⟩ := T.d_check_one_ring
  obtain ⟨p_Element_ring, f_Element_ring, fd_Element_ring, R_Element_ring, b_Element_ring, G_Element_ring⟩ := (ok_Element_ring (P := P) (w := w) (base := base) T)
  obtain ⟨p_Ring___eq__, f_Ring___eq__, fd_Ring___eq__, R_Ring___eq__, b_Ring___eq__, G_Ring___eq__⟩ := (ok_Ring___eq__ (P := P) (w := w) (base := base) T)
  refine ⟨f_, fd_, g_, F_.kp, F_.binds (ps := ["first", "second"]) (fun _ _ _ _ _ _ us hl => match us, hl with | [_, _], _ => rfl), ?_⟩
  refine F_.ok sc_check_one_ring (fun vs H Q E h => ?_) (fun cdv A outer s H vs Q E hr h => ?_)
  · first | (obtain ⟨rfl, _⟩ := h; rfl) | (obtain ⟨_, rfl, _⟩ := h; rfl) | (obtain ⟨_, _, rfl, _⟩ := h; rfl) | (obtain ⟨_, _, _, rfl, _⟩ := h; rfl) | (obtain ⟨_, _, _, _, rfl, _⟩ := h; rfl) | (obtain ⟨_, _, _, _, _, rfl, _⟩ := h; rfl) | (obtain ⟨_, _, _, _, _, _, rfl, _⟩ := h; rfl) | (obtain ⟨_, _, _, _, _, _, _, rfl, _⟩ := h; rfl) | (obtain ⟨_, _, _, _, _, _, _, _, rfl, _⟩ := h; rfl) | (obtain ⟨_, _, _, _, _, _, _, _, _, rfl, _⟩ := h; rfl) | (obtain ⟨_, _, _, _, _, _, _, _, _, _, rfl, _⟩ := h; rfl) | (obtain ⟨_, _, _, _, _, _, _, _, _, _, _, rfl, _⟩ := h; rfl) | (obtain ⟨_, _, _, _, _, _, _, _, _, _, _, _, rfl, _⟩ := h; rfl) | (obtain ⟨_, _, _, _, _, _, _, _, _, _, _, _, _, rfl, _⟩ := h; rfl) | (obtain ⟨_, _, _, _, _, _, _, _, _, _, _, _, _, _, rfl, _⟩ := h; rfl) | (obtain ⟨_, _, _, _, _, _, _, _, _, _, _, _, _, _, _, rfl, _⟩ := h; rfl) | (obtain ⟨_, _, _, _, _, _, _, _, _, _, _, _, _, _, _, _, rfl, _⟩ := h; rfl) | (obtain ⟨_, _, _, _, _, _, _, _, _, _, _, _, _, _, _, _, _, rfl, _⟩ := h; rfl) | (obtain ⟨_, _, _, _, _, _, _, _, _, _, _, _, _, _, _, _, _, _, rfl, _⟩ := h; rfl) | (obtain ⟨_, _, _, _, _, _, _, _, _, _, _, _, _, _, _, _, _, _, _, rfl, _⟩ := h; rfl) | (obtain ⟨_, _, _, _, _, _, _, _, _, _, _, _, _, _, _, _, _, _, _, _, rfl, _⟩ := h; rfl) | (obtain ⟨_, _, _, _, _, _, _, _, _, _, _, _, _, _, _, _, _, _, _, _, _, rfl, _⟩ := h; rfl) | (obtain ⟨_, _, _, _, _, _, _, _, _, _, _, _, _, _, _, _, _, _, _, _, _, _, rfl, _⟩ := h; rfl) | (obtain ⟨_, _, _, _, _, _, _, _, _, _, _, _, _, _, _, _, _, _, _, _, _, _, _, rfl, _⟩ := h; rfl)
  · obtain ⟨x, x', ns, u, y, z, b, v, s', r', e, rfl, h1, h2, q⟩ := h
    obtain ⟨d1, r1, t1, g1, g2, g3⟩ := id h1
    obtain ⟨d2, r2, t2, k1, k2, k3⟩ := id h2
    refine ⟨_, (pss_one (ps_if (pt_cmpR (op_neI R_Ring___eq__ G_Ring___eq__ b_Ring___eq__ (hr.mono (by decide)) pass0) (pe_prop (pv 0) T.cl_Element R_Element_ring G_Element_ring (hr.mono (by decide)) b_Element_ring .nil pass0 (by rfl)) (pe_prop (pv 1) T.cl_Element R_Element_ring G_Element_ring (hr.mono (by decide)) b_Element_ring .nil pass0 (by rfl)) (nomark _))
      pss_never
      pss_nil)), ?_⟩
    refine ⟨_, rfl, x, d1, _, rfl, g1, x, ns, u, y, z, b, rfl, h1, fun q1 hq1 => ?_⟩
    refine ⟨_, rfl, x', d2, _, rfl, k1, x', ns, v, s', r', e, rfl, h2, fun q2 hq2 => ?_⟩
    obtain ⟨d3, f3, m1, m2⟩ := id hq1
    obtain ⟨d4, f4, n1, n2⟩ := id hq2
    refine ⟨q1, d3, _, _, rfl, m1, ty_ins T.ty_Ring T.cl_Ring n1, first_self, q1, q2, ns, ns, rfl, hq1, hq2, _, rfl, _, rfl, ?_⟩
    rw [decide_eq_true rfl]
    exact iteF q
theorem ok_Element___init__ (T : Txt K mg C_Form C_Ring C_Element) : MDef (fun p f => Mk K C_Element f) P w K mg base 2 ["self", "ring", "entries", "bottom"] (sp_Element___init__ K C_Form C_Ring C_Element) := by
  obtain ⟨p_, f_, fd_, R_, F_⟩ := T.e_Element___init__
  obtain ⟨f_shared_divisor, fd_shared_divisor, g_shared_divisor, k_shared_divisor, b_shared_divisor, G_shared_divisor⟩ := (ok_shared_divisor (P := P) (w := w) (base := base) T)
  refine ⟨p_, f_, fd_, R_, F_.binds (ps := ["self", "ring", "entries", "bottom"]) (fun _ _ _ _ _ _ us hl => match us, hl with | [_, _, _, _], _ => rfl), ?_⟩
  refine F_.ok sc_Element___init__ (fun vs H Q E h => ?_) (fun cdv A outer s H vs Q E hr h => ?_)
  · first | (obtain ⟨rfl, _⟩ := h; rfl) | (obtain ⟨_, rfl, _⟩ := h; rfl) | (obtain ⟨_, _, rfl, _⟩ := h; rfl) | (obtain ⟨_, _, _, rfl, _⟩ := h; rfl) | (obtain ⟨_, _, _, _, rfl, _⟩ := h; rfl) | (obtain ⟨_, _, _, _, _, rfl, _⟩ := h; rfl) | (obtain ⟨_, _, _, _, _, _, rfl, _⟩ := h; rfl) | (obtain ⟨_, _, _, _, _, _, _, rfl, _⟩ := h; rfl) | (obtain ⟨_, _, _, _, _, _, _, _, rfl, _⟩ := h; rfl) | (obtain ⟨_, _, _, _, _, _, _, _, _, rfl, _⟩ := h; rfl) | (obtain ⟨_, _, _, _, _, _, _, _, _, _, rfl, _⟩ := h; rfl) | (obtain ⟨_, _, _, _, _, _, _, _, _, _, _, rfl, _⟩ := h; rfl) | (obtain ⟨_, _, _, _, _, _, _, _, _, _, _, _, rfl, _⟩ := h; rfl) | (obtain ⟨_, _, _, _, _, _, _, _, _, _, _, _, _, rfl, _⟩ := h; rfl) | (obtain ⟨_, _, _, _, _, _, _, _, _, _, _, _, _, _, rfl, _⟩ := h; rfl) | (obtain ⟨_, _, _, _, _, _, _, _, _, _, _, _, _, _, _, rfl, _⟩ := h; rfl) | (obtain ⟨_, _, _, _, _, _, _, _, _, _, _, _, _, _, _, _, rfl, _⟩ := h; rfl) | (obtain ⟨_, _, _, _, _, _, _, _, _, _, _, _, _, _, _, _, _, rfl, _⟩ := h; rfl) | (obtain ⟨_, _, _, _, _, _, _, _, _, _, _, _, _, _, _, _, _, _, rfl, _⟩ := h; rfl) | (obtain ⟨_, _, _, _, _, _, _, _, _, _, _, _, _, _, _, _, _, _, _, rfl, _⟩ := h; rfl) | (obtain ⟨_, _, _, _, _, _, _, _, _, _, _, _, _, _, _, _, _, _, _, _, rfl, _⟩ := h; rfl) | (obtain ⟨_, _, _, _, _, _, _, _, _, _, _, _, _, _, _, _, _, _, _, _, _, rfl, _⟩ := h; rfl) | (obtain ⟨_, _, _, _, _, _, _, _, _, _, _, _, _, _, _, _, _, _, _, _, _, _, rfl, _⟩ := h; rfl) | (obtain ⟨_, _, _, _, _, _, _, _, _, _, _, _, _, _, _, _, _, _, _, _, _, _, _, rfl, _⟩ := h; rfl)
  · obtain ⟨x, dx, r, t, u, y, z, b, rfl, hx, ht, hb, bb, q⟩ := h
    refine ⟨_, (pss_cons (ps_set (i := 4) sc_Element___init__.nd rfl (.inr rfl) (pe_call G_shared_divisor (hr.mono (by decide)) (by rfl) g_shared_divisor k_shared_divisor b_shared_divisor .nil pass0 (pa_cons (pe_tup (pa_cons (pe_call G_shared_divisor (hr.mono (by decide)) (by rfl) g_shared_divisor k_shared_divisor b_shared_divisor .nil pass0 (pa_cons (pv 2) pa_nil)) (pa_cons (pv 3) pa_nil))) pa_nil)))
    (Evl.pss_cut (ps_if (pt_cmpR op_lt (pv 3) pe_int (nomark _))
      (pss_one (ps_set (i := 4) sc_Element___init__.nd rfl (.inr rfl) (pe_un un_neg (pv 4))))
      pss_nil)
    (pss_cons (ps_fld (pv 0) (pv 1) (by rfl))
    (pss_cons (ps_fld (pv 0) (pe_callTy call_tuple_of (by rfl) T.b_tuple (by decide +kernel) (pa_cons (pe_lc (own := [("number", 5)]) (g := (gName 5)) rfl sc_Element___init__.nd (pi_tup (pv 2)) (blkOk_by (N := N_Element___init__) (sc := defScope s_Element___init__) (by decide +kernel)) (fun _ _ _ _ _ => (pg_name (i := 5) sc_Element___init__.nd rfl (.inl rfl))) (fun _ _ _ _ _ => pts_nil) (fun _ _ _ _ _ => (pe_op op_fdivNW (pv 5) (pv 4)))) pa_nil)) (by rfl))
    (pss_one (ps_fld (pv 0) (pe_op op_fdivNW (pv 3) (pv 4)) (by rfl))))))), ?_⟩
    obtain ⟨g, u', y', z', b', eg, g0, bg, eu, ey, ez, eb, b0, hg⟩ := low_of u y z b hb bb
    refine ⟨_, rfl, t, [u, y, z], rfl, ht, _, rfl, sl2, fun T0 nT => ?_⟩
    refine ⟨T0, [(gcdL [u, y, z] : Int), b], rfl, upd_same, ?_⟩
    refine ⟨fun σ H' => σ = [some (.ref x), some (.ref r), some (.ref t), some (.int b), some (.int g), none] ∧ Ex0 H H' ∧ H' x = some (.ins C_Element dx []), ?_, ?_⟩
    · have ex : Ex0 H (upd H T0 (.tup [.int (gcdL [u, y, z] : Int), .int b])) := Ex0.new nT
      refine ⟨_, rfl, _, _, rfl, rfl, _, rfl, iteD (fun n => ?_) (fun n => ?_)⟩
      · rw [if_pos n] at eg
        subst eg
        exact ⟨_, rfl, _, rfl, rfl, ex, ex.ap hx⟩
      · rw [if_neg n] at eg
        subst eg
        exact ⟨rfl, ex, ex.ap hx⟩
    rintro σ H1 ⟨rfl, e1, hx1⟩
    have ht1 := Ex0.ti e1 ht
    have dv : ∀ n m : Int, n = g * m → n.fdiv g = m := fun n m h => by rw [h]; exact Int.mul_fdiv_cancel_left m g0
    have cd : ∀ n : Int, CDivNW n g := fun n => ⟨g0, by have := log_lt bg.1 bg.2; omega⟩
    refine ⟨_, rfl, _, rfl, x, C_Element, dx, _, rfl, hx1, T.cl_Element, T.na_Element_ring, (by decide : (0:Nat) < 1000), ?_⟩
    have hxr : upd H1 x (.ins C_Element dx (putF ("_ring" : Str) (.ref r) [])) x = some (.ins C_Element dx (putF ("_ring" : Str) (.ref r) [])) := upd_same
    have nt : t ≠ x := ne_of ht1 hx1 (by intro z; cases z)
    have ht2 : Ti (upd H1 x (.ins C_Element dx (putF ("_ring" : Str) (.ref r) []))) t [u, y, z] := by
      show upd H1 x _ t = _
      rw [upd_ne nt]
      exact ht1
    generalize hH2 : upd H1 x (.ins C_Element dx (putF ("_ring" : Str) (.ref r) [])) = H2 at hxr ht2 ⊢
    refine ⟨_, rfl, t, rfl, ⟨_, SqT.of ht2⟩, ?_⟩
    refine lcT fm0 trivial (SqT.of ht2) (fun z => z) (fun i acc _ => acc = (([u', y', z'] : List Int).take i).map V.int) (fun _ _ => rfl) (fun D i n acc H' hD hn e hA hlen hp => ?_) (fun D H' acc hD e hA hp => ?_)
    · obtain ⟨m, hm, rfl⟩ := get_int hn
      refine ⟨rfl, ?_⟩
      refine ⟨_, rfl, _, rfl, m, g, rfl, rfl, cd m, ?_⟩
      have hi : i < 3 := (List.getElem?_eq_some_iff.mp hm).1
      refine cs_yes fm0 trivial hD e hA hlen (by omega) (Fx.refl trivial) ?_
      have hh : m.fdiv g = ([u', y', z'] : List Int).getD i 0 := by
        match i, hm with
        | 0, hm => exact dv m u' ((Option.some.inj hm).symm.trans eu)
        | 1, hm => exact dv m y' ((Option.some.inj hm).symm.trans ey)
        | 2, hm => exact dv m z' ((Option.some.inj hm).symm.trans ez)
      show acc ++ [V.int (m.fdiv g)] = _
      rw [hp, hh]
      match i, hi with
      | 0, _ => rfl
      | 1, _ => rfl
      | 2, _ => rfl
    · refine ⟨D, _, rfl, .inl ⟨SqL.of hA, fun p np => ?_⟩⟩
      have hp' : acc = [.int u', .int y', .int z'] := hp
      subst hp'
      have hx3 := Ex0.ap (Fx.trans e (Ex0.new (o := .tup [.int u', .int y', .int z']) np)) hxr
      refine ⟨_, rfl, x, C_Element, dx, _, rfl, hx3, T.cl_Element, T.na_Element_entries, (by decide : (1:Nat) < 1000), ?_⟩
      refine ⟨_, rfl, _, rfl, b, g, rfl, rfl, cd b, _, rfl, x, C_Element, dx, _, rfl, upd_same, T.cl_Element, T.na_Element_bottom, (by decide : (2:Nat) < 1000), ?_⟩
      have npx : p ≠ x := (ne_of_none (Ex0.ap e hxr) np).symm
      refine q _ p u' y' z' b' ⟨g, eu, ey, ez, eb, b0, hg⟩ (fun c o n ec => ?_) npx ?_ ?_
      · rw [upd_ne n, upd_ne n]
        refine Ex0.ap (Ex0.new np) (Ex0.ap e ?_)
        rw [← hH2, upd_ne n]
        exact Ex0.ap e1 ec
      · rw [upd_same]
        show some (HO.ins C_Element dx (putF ("_bottom" : Str) (.int (b.fdiv g)) _)) = _
        rw [dv b b' eb]
        rfl
      · show upd (upd _ x _) x _ p = _
        rw [upd_ne npx, upd_ne npx]
        exact upd_same
end
end K16
namespace K16
open PySem PySem.Spec PyProof.Rows L2 Fr
theorem w_B {a b c d : Int} (h : B4 1000 a b c d) : B3 2100 (-a * c) b (-a) ∧ B3 2100 (-a * d) 0 0 ∧ B3 2100 (-b * d) d (-c) := by
  obtain ⟨ba, bb, bc, bd⟩ := h
  have z : B 2100 0 := B0 (by decide)
  exact ⟨⟨(B.mul ba.neg bc).mono (by decide), bb.mono (by decide), ba.neg.mono (by decide)⟩, ⟨(B.mul ba.neg bd).mono (by decide), z, z⟩, ⟨(B.mul bb.neg bd).mono (by decide), bd.mono (by decide), bc.neg.mono (by decide)⟩⟩
theorem B3.mono {n m : Nat} {a b c : Int} (h : B3 n a b c) (k : n ≤ m) : B3 m a b c := ⟨h.1.mono k, h.2.1.mono k, h.2.2.mono k⟩
theorem B4.mono {n m : Nat} {a b c d : Int} (h : B4 n a b c d) (k : n ≤ m) : B4 m a b c d := ⟨h.1.mono k, h.2.1.mono k, h.2.2.1.mono k, h.2.2.2.mono k⟩
theorem tr_eq (a b c d u y z : Int) : m0 (-a * c) (-a * d) (-b * d) u y z 1 0 0 + m1 b 0 d u y z 0 1 0 + m2 (-a) 0 (-c) u y z 0 0 1 = tr a b c d u y z := by
  unfold m0 m1 m2 tr
  grind
theorem el_made {C C_R C_E : Addr} {H H' : Hp} {x dx r t t' : Addr} {ns : List Int} {u y z b : Int} {o1 o2 : HO} (nx : H x = none) (ndx : H dx = none) (hr : RingAt C C_R H r ns) (e1 : ∀ c o, c ≠ x → (upd (upd H dx o1) x o2) c = some o → H' c = some o)
    (e2 : H' x = some (.ins C_E dx [(("_ring" : Str), .ref r), (("_entries" : Str), .ref t'), (("_bottom" : Str), .int b)])) (e3 : Ti H' t' [u, y, z]) : Ex0 H H' ∧ ElAt C C_R C_E H' x ns u y z b := by
  have ex := made_ex nx ndx e1
  exact ⟨ex, dx, r, t', e2, Ex0.ri ex hr, e3⟩
section
variable {P : Program} {w : World} {K : PySem.W.Frag} {mg : Str → Option Value} {base : Heap} {C_Form C_Ring C_Element : Addr}
theorem ok_Ring_element (T : Txt K mg C_Form C_Ring C_Element) : MDefD (fun p f => Meth K C_Ring "element" f) P w K mg base 6 ["self", "entries", "bottom"] [.int 1] (sp_Ring_element K C_Form C_Ring C_Element) := by
  obtain ⟨p_, f_, fd_, R_, F_⟩ := T.e_Ring_element
  obtain ⟨p_Element___init__, f_Element___init__, fd_Element___init__, R_Element___init__, b_Element___init__, G_Element___init__⟩ := (ok_Element___init__ (P := P) (w := w) (base := base) T)
  obtain ⟨f_are_short_integers, fd_are_short_integers, g_are_short_integers, k_are_short_integers, b_are_short_integers, G_are_short_integers⟩ := (ok_are_short_integers (P := P) (w := w) (base := base) T)
  obtain ⟨f_check_bottom, fd_check_bottom, g_check_bottom, k_check_bottom, b_check_bottom, G_check_bottom⟩ := (ok_check_bottom (P := P) (w := w) (base := base) T)
  obtain ⟨ds_, v_, d_⟩ := F_.binds1 (ps := ["self", "entries", "bottom"]) 2 0 (by simp) (by rfl) (fun _ _ _ _ _ _ _ us its l1 l2 => match us, its, l1, l2 with | [_, _], [_], _, _ => ⟨_, rfl, rfl⟩)
  obtain ⟨dz_, w_, b_⟩ := F_.binds1 (ps := ["self", "entries", "bottom"]) 3 1 (by simp) (by rfl) (fun _ _ _ _ _ _ _ us its l1 l2 => match us, its, l1, l2 with | [_, _, _], [_], _, _ => ⟨_, rfl, rfl⟩)
  cases w_
  refine ⟨p_, f_, fd_, ds_, R_, b_, v_, d_, ?_⟩
  refine FunD.ok F_ sc_Ring_element (fun vs H Q E h => ?_) (fun cdv A outer s H vs Q E hr h => ?_)
  · first | (obtain ⟨rfl, _⟩ := h; rfl) | (obtain ⟨_, rfl, _⟩ := h; rfl) | (obtain ⟨_, _, rfl, _⟩ := h; rfl) | (obtain ⟨_, _, _, rfl, _⟩ := h; rfl) | (obtain ⟨_, _, _, _, rfl, _⟩ := h; rfl) | (obtain ⟨_, _, _, _, _, rfl, _⟩ := h; rfl) | (obtain ⟨_, _, _, _, _, _, rfl, _⟩ := h; rfl) | (obtain ⟨_, _, _, _, _, _, _, rfl, _⟩ := h; rfl) | (obtain ⟨_, _, _, _, _, _, _, _, rfl, _⟩ := h; rfl) | (obtain ⟨_, _, _, _, _, _, _, _, _, rfl, _⟩ := h; rfl) | (obtain ⟨_, _, _, _, _, _, _, _, _, _, rfl, _⟩ := h; rfl) | (obtain ⟨_, _, _, _, _, _, _, _, _, _, _, rfl, _⟩ := h; rfl) | (obtain ⟨_, _, _, _, _, _, _, _, _, _, _, _, rfl, _⟩ := h; rfl) | (obtain ⟨_, _, _, _, _, _, _, _, _, _, _, _, _, rfl, _⟩ := h; rfl) | (obtain ⟨_, _, _, _, _, _, _, _, _, _, _, _, _, _, rfl, _⟩ := h; rfl) | (obtain ⟨_, _, _, _, _, _, _, _, _, _, _, _, _, _, _, rfl, _⟩ := h; rfl) | (obtain ⟨_, _, _, _, _, _, _, _, _, _, _, _, _, _, _, _, rfl, _⟩ := h; rfl) | (obtain ⟨_, _, _, _, _, _, _, _, _, _, _, _, _, _, _, _, _, rfl, _⟩ := h; rfl) | (obtain ⟨_, _, _, _, _, _, _, _, _, _, _, _, _, _, _, _, _, _, rfl, _⟩ := h; rfl) | (obtain ⟨_, _, _, _, _, _, _, _, _, _, _, _, _, _, _, _, _, _, _, rfl, _⟩ := h; rfl) | (obtain ⟨_, _, _, _, _, _, _, _, _, _, _, _, _, _, _, _, _, _, _, _, rfl, _⟩ := h; rfl) | (obtain ⟨_, _, _, _, _, _, _, _, _, _, _, _, _, _, _, _, _, _, _, _, _, rfl, _⟩ := h; rfl) | (obtain ⟨_, _, _, _, _, _, _, _, _, _, _, _, _, _, _, _, _, _, _, _, _, _, rfl, _⟩ := h; rfl) | (obtain ⟨_, _, _, _, _, _, _, _, _, _, _, _, _, _, _, _, _, _, _, _, _, _, _, rfl, _⟩ := h; rfl)
  · obtain ⟨r, t, ns, u, y, z, b, rfl, hR, ht, su, sy, sz, sb, hb, q⟩ := h
    refine ⟨_, (pss_cons (ps_if (pt_not (pt_val (pe_call G_are_short_integers (hr.mono (by decide)) (by rfl) g_are_short_integers k_are_short_integers b_are_short_integers .nil pass0 (pa_cons (pv 1) (pa_cons pe_int pa_nil)))))
      pss_never
      pss_nil)
    (pss_cons (ps_expr (pe_call G_check_bottom (hr.mono (by decide)) (by rfl) g_check_bottom k_check_bottom b_check_bottom .nil pass0 (pa_cons (pv 2) pa_nil)))
    (pss_one (ps_ret (pe_make R_Element___init__ G_Element___init__ (hr.mono (by decide)) (by rfl) T.g_Element b_Element___init__ .nil pass0 (pa_cons (pv 0) (pa_cons (pv 1) (pa_cons (pv 2) pa_nil)))))))), ?_⟩
    refine ⟨_, rfl, t, [u, y, z], rfl, ht, by show 3 ≤ 1000; decide, fun n hn => ?_, fun H1 e1 => ⟨_, rfl, ?_⟩⟩
    · simp only [List.mem_cons, List.mem_nil_iff, or_false] at hn
      rcases hn with rfl | rfl | rfl <;> assumption
    refine iteF ⟨_, rfl, b, rfl, sb, hb, ?_⟩
    refine ⟨_, rfl, _, rfl, _, rfl, fun x dx nx ndx _ => ?_⟩
    have ht1 := Ex0.ti e1 ht
    refine ⟨x, dx, r, t, u, y, z, b, rfl, upd_same, made_at nx ndx ht1, hb, sb.b.mono (by decide), fun H2 t' u' y' z' b' low e2 nt e3 ht' => ⟨rfl, ?_⟩⟩
    obtain ⟨f1, f2⟩ := el_made (t := t) nx ndx (Ex0.ri e1 hR) e2 e3 ht'
    exact q x H2 u' y' z' b' low (e1.trans f1) f2
theorem ok_Element_trace (T : Txt K mg C_Form C_Ring C_Element) : MDef (fun p f => PropOf K C_Element "trace" p f) P w K mg base 4 ["self"] (sp_Element_trace K C_Form C_Ring C_Element) := by
  obtain ⟨p_, f_, fd_, R_, F_⟩ := T.e_Element_trace
  obtain ⟨f_fraction, fd_fraction, g_fraction, k_fraction, b_fraction, G_fraction⟩ := (ok_fraction (P := P) (w := w) (base := base) T)
  obtain ⟨f_table_for, fd_table_for, g_table_for, k_table_for, b_table_for, G_table_for⟩ := (ok_table_for (P := P) (w := w) (base := base) T)
  obtain ⟨f_trace_by, fd_trace_by, g_trace_by, k_trace_by, b_trace_by, G_trace_by⟩ := (ok_trace_by (P := P) (w := w) (base := base) T)
  refine ⟨p_, f_, fd_, R_, F_.binds (ps := ["self"]) (fun _ _ _ _ _ _ us hl => match us, hl with | [_], _ => rfl), ?_⟩
  refine F_.ok sc_Element_trace (fun vs H Q E h => ?_) (fun cdv A outer s H vs Q E hr h => ?_)
  · first | (obtain ⟨rfl, _⟩ := h; rfl) | (obtain ⟨_, rfl, _⟩ := h; rfl) | (obtain ⟨_, _, rfl, _⟩ := h; rfl) | (obtain ⟨_, _, _, rfl, _⟩ := h; rfl) | (obtain ⟨_, _, _, _, rfl, _⟩ := h; rfl) | (obtain ⟨_, _, _, _, _, rfl, _⟩ := h; rfl) | (obtain ⟨_, _, _, _, _, _, rfl, _⟩ := h; rfl) | (obtain ⟨_, _, _, _, _, _, _, rfl, _⟩ := h; rfl) | (obtain ⟨_, _, _, _, _, _, _, _, rfl, _⟩ := h; rfl) | (obtain ⟨_, _, _, _, _, _, _, _, _, rfl, _⟩ := h; rfl) | (obtain ⟨_, _, _, _, _, _, _, _, _, _, rfl, _⟩ := h; rfl) | (obtain ⟨_, _, _, _, _, _, _, _, _, _, _, rfl, _⟩ := h; rfl) | (obtain ⟨_, _, _, _, _, _, _, _, _, _, _, _, rfl, _⟩ := h; rfl) | (obtain ⟨_, _, _, _, _, _, _, _, _, _, _, _, _, rfl, _⟩ := h; rfl) | (obtain ⟨_, _, _, _, _, _, _, _, _, _, _, _, _, _, rfl, _⟩ := h; rfl) | (obtain ⟨_, _, _, _, _, _, _, _, _, _, _, _, _, _, _, rfl, _⟩ := h; rfl) | (obtain ⟨_, _, _, _, _, _, _, _, _, _, _, _, _, _, _, _, rfl, _⟩ := h; rfl) | (obtain ⟨_, _, _, _, _, _, _, _, _, _, _, _, _, _, _, _, _, rfl, _⟩ := h; rfl) | (obtain ⟨_, _, _, _, _, _, _, _, _, _, _, _, _, _, _, _, _, _, rfl, _⟩ := h; rfl) | (obtain ⟨_, _, _, _, _, _, _, _, _, _, _, _, _, _, _, _, _, _, _, rfl, _⟩ := h; rfl) | (obtain ⟨_, _, _, _, _, _, _, _, _, _, _, _, _, _, _, _, _, _, _, _, rfl, _⟩ := h; rfl) | (obtain ⟨_, _, _, _, _, _, _, _, _, _, _, _, _, _, _, _, _, _, _, _, _, rfl, _⟩ := h; rfl) | (obtain ⟨_, _, _, _, _, _, _, _, _, _, _, _, _, _, _, _, _, _, _, _, _, _, rfl, _⟩ := h; rfl) | (obtain ⟨_, _, _, _, _, _, _, _, _, _, _, _, _, _, _, _, _, _, _, _, _, _, _, rfl, _⟩ := h; rfl)
  · obtain ⟨x, a, b, c, d, u, y, z, e, rfl, ⟨dx, r, t, hx, hR, ht⟩, bz, bu, e0, e1, q⟩ := h
    obtain ⟨v1, v2, v3⟩ := w_B bz
    refine ⟨_, (pss_one (ps_ret (pe_call G_fraction (hr.mono (by decide)) (by rfl) g_fraction k_fraction b_fraction .nil pass0 (pa_cons (pe_call G_trace_by (hr.mono (by decide)) (by rfl) g_trace_by k_trace_by b_trace_by .nil pass0 (pa_cons (pe_call G_table_for (hr.mono (by decide)) (by rfl) g_table_for k_table_for b_table_for .nil pass0 (pa_cons (pe_fld (pv 0) (by rfl)) pa_nil)) (pa_cons (pe_fld (pv 0) (by rfl)) pa_nil))) (pa_cons (pe_fld (pv 0) (by rfl)) pa_nil))))), ?_⟩
    refine ⟨_, rfl, x, C_Element, dx, _, .ref r, rfl, hx, T.cl_Element, T.na_Element_ring, lkR, r, a, b, c, d, rfl, hR, bz, fun T1 H1 e1' hT => ?_⟩
    refine ⟨_, rfl, x, C_Element, dx, _, .ref t, rfl, e1'.ap hx, T.cl_Element, T.na_Element_entries, lkE, T1, t, _, _, _, _, _, _, _, _, _, u, y, z, rfl, hT, (Ex0.ti e1' ht).q, v1, v2, v3, bu, fun H2 e2 => ?_⟩
    refine ⟨_, rfl, x, C_Element, dx, _, .int e, rfl, Ex0.ap (Fx.trans e1' e2) hx, T.cl_Element, T.na_Element_bottom, lkB, _, e, rfl, e0, e1, fun o H3 p q' g g0 h1 h2 h3 e3 ho => ?_⟩
    exact q o H3 p q' g g0 (by rw [← tr_eq]; exact h1) h2 h3 ((e1'.trans e2).trans e3) ho
theorem ok_Element___mul__ (T : Txt K mg C_Form C_Ring C_Element) : MDef (fun p f => BinC K C_Element "__mul__" f) P w K mg base 5 ["self", "other"] (sp_Element___mul__ K C_Form C_Ring C_Element) := by
  obtain ⟨p_, f_, fd_, R_, F_⟩ := T.e_Element___mul__
  obtain ⟨p_Element___init__, f_Element___init__, fd_Element___init__, R_Element___init__, b_Element___init__, G_Element___init__⟩ := (ok_Element___init__ (P := P) (w := w) (base := base) T)
  obtain ⟨f_check_one_ring, fd_check_one_ring, g_check_one_ring, k_check_one_ring, b_check_one_ring, G_check_one_ring⟩ := (ok_check_one_ring (P := P) (w := w) (base := base) T)
  obtain ⟨f_product_by, fd_product_by, g_product_by, k_product_by, b_product_by, G_product_by⟩ := (ok_product_by (P := P) (w := w) (base := base) T)
  obtain ⟨f_table_for, fd_table_for, g_table_for, k_table_for, b_table_for, G_table_for⟩ := (ok_table_for (P := P) (w := w) (base := base) T)
  refine ⟨p_, f_, fd_, R_, F_.binds (ps := ["self", "other"]) (fun _ _ _ _ _ _ us hl => match us, hl with | [_, _], _ => rfl), ?_⟩
  refine F_.ok sc_Element___mul__ (fun vs H Q E h => ?_) (fun cdv A outer s H vs Q E hr h => ?_)
  · first | (obtain ⟨rfl, _⟩ := h; rfl) | (obtain ⟨_, rfl, _⟩ := h; rfl) | (obtain ⟨_, _, rfl, _⟩ := h; rfl) | (obtain ⟨_, _, _, rfl, _⟩ := h; rfl) | (obtain ⟨_, _, _, _, rfl, _⟩ := h; rfl) | (obtain ⟨_, _, _, _, _, rfl, _⟩ := h; rfl) | (obtain ⟨_, _, _, _, _, _, rfl, _⟩ := h; rfl) | (obtain ⟨_, _, _, _, _, _, _, rfl, _⟩ := h; rfl) | (obtain ⟨_, _, _, _, _, _, _, _, rfl, _⟩ := h; rfl) | (obtain ⟨_, _, _, _, _, _, _, _, _, rfl, _⟩ := h; rfl) | (obtain ⟨_, _, _, _, _, _, _, _, _, _, rfl, _⟩ := h; rfl) | (obtain ⟨_, _, _, _, _, _, _, _, _, _, _, rfl, _⟩ := h; rfl) | (obtain ⟨_, _, _, _, _, _, _, _, _, _, _, _, rfl, _⟩ := h; rfl) | (obtain ⟨_, _, _, _, _, _, _, _, _, _, _, _, _, rfl, _⟩ := h; rfl) | (obtain ⟨_, _, _, _, _, _, _, _, _, _, _, _, _, _, rfl, _⟩ := h; rfl) | (obtain ⟨_, _, _, _, _, _, _, _, _, _, _, _, _, _, _, rfl, _⟩ := h; rfl) | (obtain ⟨_, _, _, _, _, _, _, _, _, _, _, _, _, _, _, _, rfl, _⟩ := h; rfl) | (obtain ⟨_, _, _, _, _, _, _, _, _, _, _, _, _, _, _, _, _, rfl, _⟩ := h; rfl) | (obtain ⟨_, _, _, _, _, _, _, _, _, _, _, _, _, _, _, _, _, _, rfl, _⟩ := h; rfl) | (obtain ⟨_, _, _, _, _, _, _, _, _, _, _, _, _, _, _, _, _, _, _, rfl, _⟩ := h; rfl) | (obtain ⟨_, _, _, _, _, _, _, _, _, _, _, _, _, _, _, _, _, _, _, _, rfl, _⟩ := h; rfl) | (obtain ⟨_, _, _, _, _, _, _, _, _, _, _, _, _, _, _, _, _, _, _, _, _, rfl, _⟩ := h; rfl) | (obtain ⟨_, _, _, _, _, _, _, _, _, _, _, _, _, _, _, _, _, _, _, _, _, _, rfl, _⟩ := h; rfl) | (obtain ⟨_, _, _, _, _, _, _, _, _, _, _, _, _, _, _, _, _, _, _, _, _, _, _, rfl, _⟩ := h; rfl)
  · obtain ⟨x, x', a, b, c, d, u, y, z, e, v, s', r', f, rfl, h1, h2, bz, bu, bv, be, bf, hne, q⟩ := h
    obtain ⟨dx, r, t, hx, hR, ht⟩ := id h1
    obtain ⟨dx2, r2, t2, hx2, hR2, ht2⟩ := id h2
    obtain ⟨v1, v2, v3⟩ := w_B bz
    refine ⟨_, (pss_cons (ps_if (pt_not (pt_val (pe_callB call_isi (by rfl) T.b_isinstance (by decide +kernel) (pa_cons (pv 1) (pa_cons (pe_glob (v := .ref C_Element) (by rfl) T.g_Element rfl) pa_nil)))))
      (pss_one ps_never)
      pss_nil)
    (pss_cons (ps_expr (pe_call G_check_one_ring (hr.mono (by decide)) (by rfl) g_check_one_ring k_check_one_ring b_check_one_ring .nil pass0 (pa_cons (pv 0) (pa_cons (pv 1) pa_nil))))
    (pss_cons (ps_set (i := 2) sc_Element___mul__.nd rfl (.inl rfl) (pe_call G_product_by (hr.mono (by decide)) (by rfl) g_product_by k_product_by b_product_by .nil pass0 (pa_cons (pe_call G_table_for (hr.mono (by decide)) (by rfl) g_table_for k_table_for b_table_for .nil pass0 (pa_cons (pe_fld (pv 0) (by rfl)) pa_nil)) (pa_cons (pe_fld (pv 0) (by rfl)) (pa_cons (pe_fld (pv 1) (by rfl)) pa_nil)))))
    (pss_one (ps_ret (pe_make R_Element___init__ G_Element___init__ (hr.mono (by decide)) (by rfl) T.g_Element b_Element___init__ .nil pass0 (pa_cons (pe_fld (pv 0) (by rfl)) (pa_cons (pv 2) (pa_cons (pe_op op_mulW (pe_fld (pv 0) (by rfl)) (pe_fld (pv 1) (by rfl))) pa_nil))))))))), ?_⟩
    refine ⟨_, rfl, _, _, _, _, true, rfl, .own _, ty_ins T.ty_Element T.cl_Element hx2, kit_self, _, rfl, ?_⟩
    refine iteF ⟨_, rfl, _, rfl, x, x', _, u, y, z, e, v, s', r', f, rfl, h1, h2, ?_⟩
    refine ⟨_, rfl, x, C_Element, dx, _, .ref r, rfl, hx, T.cl_Element, T.na_Element_ring, lkR, r, a, b, c, d, rfl, hR, bz, fun T1 H1 e1 hT => ?_⟩
    refine ⟨_, rfl, x, C_Element, dx, _, .ref t, rfl, e1.ap hx, T.cl_Element, T.na_Element_entries, lkE, ?_⟩
    refine ⟨_, rfl, x', C_Element, dx2, _, .ref t2, rfl, e1.ap hx2, T.cl_Element, T.na_Element_entries, lkE, ?_⟩
    refine ⟨T1, t, t2, _, _, _, _, _, _, _, _, _, u, y, z, v, s', r', rfl, hT, (Ex0.ti e1 ht).q, (Ex0.ti e1 ht2).q, v1, v2, v3, bu, bv, fun o H2 e2 ho => ?_⟩
    have e12 := e1.trans e2
    refine ⟨_, rfl, x, C_Element, dx, _, .ref r, rfl, Ex0.ap e12 hx, T.cl_Element, T.na_Element_ring, lkR, _, rfl, ?_⟩
    refine ⟨_, rfl, x, C_Element, dx, _, .int e, rfl, Ex0.ap e12 hx, T.cl_Element, T.na_Element_bottom, lkB, ?_⟩
    refine ⟨_, rfl, x', C_Element, dx2, _, .int f, rfl, Ex0.ap e12 hx2, T.cl_Element, T.na_Element_bottom, lkB, e, f, rfl, rfl, mulB be bf (by decide), fun y0 dy nx ndx _ => ?_⟩
    refine ⟨y0, dy, r, o, _, _, _, e * f, rfl, upd_same, made_at nx ndx ho, hne, (B.mul be bf).mono (by decide), fun H3 t' u' y' z' b' low e3 nt e4 ht' => ⟨rfl, ?_⟩⟩
    obtain ⟨f1, f2⟩ := el_made (t := o) nx ndx (Ex0.ri e12 hR) e3 e4 ht'
    exact q y0 H3 u' y' z' b' low (e12.trans f1) f2
theorem ok_trace_table (T : Txt K mg C_Form C_Ring C_Element) : Def P w K mg base 4 "trace_table" ["ring"] (sp_trace_table K C_Form C_Ring C_Element) := by
  obtain ⟨f_, fd_, g_, F_⟩ := T.d_trace_table
  obtain ⟨f_check_ring, fd_check_ring, g_check_ring, k_check_ring, b_check_ring, G_check_ring⟩ := (ok_check_ring (P := P) (w := w) (base := base) T)
  obtain ⟨f_product_by, fd_product_by, g_product_by, k_product_by, b_product_by, G_product_by⟩ := (ok_product_by (P := P) (w := w) (base := base) T)
  obtain ⟨f_table_for, fd_table_for, g_table_for, k_table_for, b_table_for, G_table_for⟩ := (ok_table_for (P := P) (w := w) (base := base) T)
  obtain ⟨f_trace_by, fd_trace_by, g_trace_by, k_trace_by, b_trace_by, G_trace_by⟩ := (ok_trace_by (P := P) (w := w) (base := base) T)
  refine ⟨f_, fd_, g_, F_.kp, F_.binds (ps := ["ring"]) (fun _ _ _ _ _ _ us hl => match us, hl with | [_], _ => rfl), ?_⟩
  refine F_.ok sc_trace_table (fun vs H Q E h => ?_) (fun cdv A outer s H vs Q E hr h => ?_)
  · first | (obtain ⟨rfl, _⟩ := h; rfl) | (obtain ⟨_, rfl, _⟩ := h; rfl) | (obtain ⟨_, _, rfl, _⟩ := h; rfl) | (obtain ⟨_, _, _, rfl, _⟩ := h; rfl) | (obtain ⟨_, _, _, _, rfl, _⟩ := h; rfl) | (obtain ⟨_, _, _, _, _, rfl, _⟩ := h; rfl) | (obtain ⟨_, _, _, _, _, _, rfl, _⟩ := h; rfl) | (obtain ⟨_, _, _, _, _, _, _, rfl, _⟩ := h; rfl) | (obtain ⟨_, _, _, _, _, _, _, _, rfl, _⟩ := h; rfl) | (obtain ⟨_, _, _, _, _, _, _, _, _, rfl, _⟩ := h; rfl) | (obtain ⟨_, _, _, _, _, _, _, _, _, _, rfl, _⟩ := h; rfl) | (obtain ⟨_, _, _, _, _, _, _, _, _, _, _, rfl, _⟩ := h; rfl) | (obtain ⟨_, _, _, _, _, _, _, _, _, _, _, _, rfl, _⟩ := h; rfl) | (obtain ⟨_, _, _, _, _, _, _, _, _, _, _, _, _, rfl, _⟩ := h; rfl) | (obtain ⟨_, _, _, _, _, _, _, _, _, _, _, _, _, _, rfl, _⟩ := h; rfl) | (obtain ⟨_, _, _, _, _, _, _, _, _, _, _, _, _, _, _, rfl, _⟩ := h; rfl) | (obtain ⟨_, _, _, _, _, _, _, _, _, _, _, _, _, _, _, _, rfl, _⟩ := h; rfl) | (obtain ⟨_, _, _, _, _, _, _, _, _, _, _, _, _, _, _, _, _, rfl, _⟩ := h; rfl) | (obtain ⟨_, _, _, _, _, _, _, _, _, _, _, _, _, _, _, _, _, _, rfl, _⟩ := h; rfl) | (obtain ⟨_, _, _, _, _, _, _, _, _, _, _, _, _, _, _, _, _, _, _, rfl, _⟩ := h; rfl) | (obtain ⟨_, _, _, _, _, _, _, _, _, _, _, _, _, _, _, _, _, _, _, _, rfl, _⟩ := h; rfl) | (obtain ⟨_, _, _, _, _, _, _, _, _, _, _, _, _, _, _, _, _, _, _, _, _, rfl, _⟩ := h; rfl) | (obtain ⟨_, _, _, _, _, _, _, _, _, _, _, _, _, _, _, _, _, _, _, _, _, _, rfl, _⟩ := h; rfl) | (obtain ⟨_, _, _, _, _, _, _, _, _, _, _, _, _, _, _, _, _, _, _, _, _, _, _, rfl, _⟩ := h; rfl)
  · obtain ⟨r, a, b, c, d, rfl, hR, bz, q⟩ := h
    obtain ⟨v1, v2', v3⟩ := w_B bz
    obtain ⟨A_UNITS, h_UNITS, i_UNITS⟩ := T.k_UNITS
    refine ⟨_, (pss_cons (ps_expr (pe_call G_check_ring (hr.mono (by decide)) (by rfl) g_check_ring k_check_ring b_check_ring .nil pass0 (pa_cons (pv 0) pa_nil)))
    (pss_cons (ps_set (i := 1) sc_trace_table.nd rfl (.inr rfl) (pe_call G_table_for (hr.mono (by decide)) (by rfl) g_table_for k_table_for b_table_for .nil pass0 (pa_cons (pv 0) pa_nil)))
    (pss_one (ps_ret (pe_callTy call_tuple_of (by rfl) T.b_tuple (by decide +kernel) (pa_cons (pe_lc (own := [("one", 2)]) (g := (gName 2)) rfl sc_trace_table.nd (pi_tup (pe_glob (v := .ref A_UNITS) (by rfl) h_UNITS rfl)) (blkOk_by (N := N_trace_table) (sc := defScope s_trace_table) (by decide +kernel)) (fun _ _ _ _ _ => (pg_name (i := 2) sc_trace_table.nd rfl (.inr rfl))) (fun _ _ _ _ _ => pts_nil) (fun _ _ _ _ _ => (pe_callTy (call_tuple_ofK (K := K) rfl) (by rfl) T.b_tuple (by decide +kernel) (pa_cons (pe_lc (own := [("other", 3)]) (g := (gName 3)) rfl sc_trace_table.nd (pi_tupK (K := K) rfl (pe_glob (v := .ref A_UNITS) (by rfl) h_UNITS rfl)) (blkOk_by (by rfl)) (fun _ _ _ _ _ => (pg_name (i := 3) sc_trace_table.nd rfl (.inl rfl))) (fun _ _ _ _ _ => pts_nil) (fun _ _ _ _ _ => (pe_call G_trace_by (hr.mono (by decide)) (by rfl) g_trace_by k_trace_by b_trace_by .nil pass0 (pa_cons (pv 1) (pa_cons (pe_call G_product_by (hr.mono (by decide)) (by rfl) g_product_by k_product_by b_product_by .nil pass0 (pa_cons (pv 1) (pa_cons (pv 2) (pa_cons (pv 3) pa_nil)))) pa_nil))))) pa_nil)))) pa_nil)))))), ?_⟩
    refine ⟨_, rfl, r, _, rfl, hR, ?_⟩
    refine ⟨_, rfl, r, a, b, c, d, rfl, hR, bz, fun T1 H1 e1 hT => ?_⟩
    obtain ⟨U1, U2, U3, hU, k1, k2, k3⟩ := i_UNITS H1
    refine ⟨A_UNITS, rfl, ⟨_, hU⟩, ?_⟩
    refine lcT fm0 trivial hU (fun z => z) (fun j acc H' => Tis H' acc (([[3, b, -c], [b, b * b - 2 * (a * c), -(3 * (a * d))], [-c, -(3 * (a * d)), c * c - 2 * (b * d)]] : List (List Int)).take j)) (fun _ _ => .nil) (fun D j z acc H' hD hx e2 hA hlen hp => ?_) (fun D H' acc hD e2 hA hp => ?_)
    · obtain ⟨t', v, z, s', rfl, hq, uv⟩ := unit_at k1 k2 k3 e2 hx
      refine ⟨rfl, ?_⟩
      have row : ∃ row : List Int, row.length = 3 ∧ ([[3, b, -c], [b, b * b - 2 * (a * c), -(3 * (a * d))], [-c, -(3 * (a * d)), c * c - 2 * (b * d)]] : List (List Int)).take (j + 1) = ([[3, b, -c], [b, b * b - 2 * (a * c), -(3 * (a * d))], [-c, -(3 * (a * d)), c * c - 2 * (b * d)]] : List (List Int)).take j ++ [row] ∧
          ∀ i v2 z2 s2, Uv i v2 z2 s2 → row.getD i 0 = tr a b c d (m0 (-a * c) (-a * d) (-b * d) v z s' v2 z2 s2) (m1 b 0 d v z s' v2 z2 s2) (m2 (-a) 0 (-c) v z s' v2 z2 s2) := by
        rcases uv with ⟨rfl, rfl, rfl, rfl⟩ | ⟨rfl, rfl, rfl, rfl⟩ | ⟨rfl, rfl, rfl, rfl⟩
        · refine ⟨_, rfl, rfl, fun i v2 z2 s2 h => ?_⟩
          rcases h with ⟨rfl, rfl, rfl, rfl⟩ | ⟨rfl, rfl, rfl, rfl⟩ | ⟨rfl, rfl, rfl, rfl⟩ <;> simp [tr, m0, m1, m2]
        · refine ⟨[b, b * b - 2 * (a * c), -(3 * (a * d))], rfl, rfl, fun i v2 z2 s2 h => ?_⟩
          rcases h with ⟨rfl, rfl, rfl, rfl⟩ | ⟨rfl, rfl, rfl, rfl⟩ | ⟨rfl, rfl, rfl, rfl⟩ <;> simp [tr, m0, m1, m2] <;> grind
        · refine ⟨[-c, -(3 * (a * d)), c * c - 2 * (b * d)], rfl, rfl, fun i v2 z2 s2 h => ?_⟩
          rcases h with ⟨rfl, rfl, rfl, rfl⟩ | ⟨rfl, rfl, rfl, rfl⟩ | ⟨rfl, rfl, rfl, rfl⟩ <;> simp [tr, m0, m1, m2] <;> grind
      obtain ⟨row, r3, rt, rv⟩ := row
      obtain ⟨V1, V2, V3, hV, l1, l2, l3⟩ := i_UNITS H'
      have hT' := Ex0.t33 e2 hT
      refine ⟨A_UNITS, rfl, ⟨_, hV⟩, ?_⟩
      refine lcT fm0 trivial hV (fun z => z) (fun i acc _ => acc = (row.take i).map V.int) (fun _ _ => rfl) (fun D2 i z2 acc2 H2 hD2 hx2 e3 hA2 hlen2 hp2 => ?_) (fun D2 H2 acc2 hD2 e3 hA2 hp2 => ?_)
      · obtain ⟨t3, v2, z3, s3, rfl, hq2, uv2⟩ := unit_at l1 l2 l3 e3 hx2
        have c0 := (m_B v1.1 v2'.1 v3.1 uv.b.2 uv2.b.2).1
        have c1 := (m_B v1.2.1 v2'.2.1 v3.2.1 uv.b.2 uv2.b.2).2.1
        have c2 := (m_B v1.2.2 v2'.2.2 v3.2.2 uv.b.2 uv2.b.2).2.2
        have hT2 := Ex0.t33 e3 hT'
        refine ⟨rfl, ?_⟩
        refine ⟨_, rfl, _, rfl, _, rfl, _, rfl, T1, t', t3, _, _, _, _, _, _, _, _, _, v, z, s', v2, z3, s3, rfl, hT2, Ex0.tq e3 hq, hq2, v1, v2', v3, uv.b.2.mono (by decide), uv2.b.2, fun o H3 e4 ho => ?_⟩
        refine ⟨T1, o, _, _, _, _, _, _, _, _, _, _, _, _, rfl, Ex0.t33 e4 hT2, ho.q, v1, v2', v3, ⟨c0.mono (by decide), c1.mono (by decide), c2.mono (by decide)⟩, fun H4 e5 => ?_⟩
        refine cs_yes fm0 trivial hD2 e3 hA2 hlen2 (by have := uv2.b.1; omega) (e4.trans e5) ?_
        show acc2 ++ [V.int _] = _
        rw [tr_eq, hp2, ← rv i v2 z3 s3 uv2, List.take_add_one, List.map_append, List.getElem?_eq_getElem (by rw [r3]; exact uv2.b.1), List.getD_eq_getElem?_getD, List.getElem?_eq_getElem (by rw [r3]; exact uv2.b.1)]
        rfl
      · refine ⟨D2, _, rfl, .inl ⟨SqL.of hA2, fun p np => ?_⟩⟩
        refine cs_yes fm0 trivial hD e2 hA hlen (by have := uv.b.1; omega) (Fx.trans e3 (Ex0.new np)) ?_
        rw [rt]
        have hrow : acc2 = row.map V.int := by rw [hp2, List.take_of_length_le (by rw [r3]; exact Nat.le_refl 3)]
        refine ((hp.mono fun t zs h => Ex0.ap (Ex0.new np) (Ex0.ap e3 h)).snoc (t := p) ?_).upd (Ex0.ap (Ex0.new np) (Ex0.ap e3 hA))
        show upd H2 p (.tup acc2) p = some (.tup (row.map V.int))
        rw [← hrow]
        exact upd_same
    · obtain ⟨t1, t2, t3, rfl, g1, g2, g3⟩ := Tis.three hp
      refine ⟨D, _, rfl, .inl ⟨SqL.of hA, fun p np => ?_⟩⟩
      exact q p _ ((e1.trans e2).trans (Ex0.new np)) ⟨t1, t2, t3, upd_same, Ex0.ap (Ex0.new np) g1, Ex0.ap (Ex0.new np) g2, Ex0.ap (Ex0.new np) g3⟩
end
end K16
namespace K16
open PySem PySem.Spec PyProof.Rows L2 Fr
def sp_l_vat (K : PySem.W.Frag) (_ _ _ : Addr) : Sp := fun vs H Q _ => ∃ (a : Addr) (ns : List Int) (i : Nat), vs = [.ref a, .int (i : Int)] ∧ SqL K H a (ns.map V.int) ∧ ∀ p H', H p = none → Ex0 H H' → Vat p H' → Q (.ref p) H'
def sp_l_drip (_ : PySem.W.Frag) (_ _ _ : Addr) : Sp := fun vs H Q _ => ∃ (c : Addr) (t : Int), vs = [.ref c, .int t] ∧ Vat c H ∧ 0 < t ∧ t < 2 ^ 250 ∧ ∀ (r : Int) H', 0 ≤ r → r < t → Fv c H H' → Q (.int r) H'
def sp_l_some_of (K : PySem.W.Frag) (_ _ _ : Addr) : Sp := fun vs H Q _ => ∃ (c l : Addr) (xs : List V), vs = [.ref c, .ref l] ∧ Vat c H ∧ H l = some (.lst xs) ∧ l ≠ c ∧ xs ≠ [] ∧ xs.length ≤ 1000 ∧ ∀ v H', v ∈ xs → Fv c H H' → Q v H'
def sp_l_int (_ : PySem.W.Frag) (_ _ _ : Addr) : Sp := fun vs H Q _ => ∃ c : Addr, vs = [.ref c] ∧ Vat c H ∧ ∀ (n : Int) H', n.natAbs ≤ 1000000 → Fv c H H' → Q (.int n) H'
def sp_l_rows (_ : PySem.W.Frag) (_ _ _ : Addr) : Sp := fun vs H Q _ => ∃ (t : Addr) (a b c d : Int), vs = [.ref t] ∧ Ti H t [a, b, c, d] ∧ B4 1000 a b c d ∧ ∀ x H', Ex0 H H' → L33 H' x (w1 a b c d) (w2 a b c d) (w3 a b c d) → Q (.ref x) H'
def det3 (a b c d e f g h i : Int) : Int := a * (e * i - f * h) - b * (d * i - f * g) + c * (d * h - e * g)
def sp_l_det (_ : PySem.W.Frag) (_ _ _ : Addr) : Sp := fun vs H Q _ => ∃ (t : Addr) (a b c d e f g h i : Int), vs = [.ref t] ∧ T33 H t [a, b, c] [d, e, f] [g, h, i] ∧ B3 2100 a b c ∧ B3 2100 d e f ∧ B3 2100 g h i ∧ Q (.int (det3 a b c d e f g h i)) H
def sp_l_minors (_ : PySem.W.Frag) (_ _ _ : Addr) : Sp := fun vs H Q _ => ∃ (t : Addr) (a b c d e f g h i : Int), vs = [.ref t] ∧ L33 H t [a, b, c] [d, e, f] [g, h, i] ∧ B3 40000 a b c ∧ B3 40000 d e f ∧ B3 40000 g h i ∧ ∀ x m H', Ex0 H H' → Ti H' x [a + e + i, m] → Q (.ref x) H'
def sp_l_discriminant (_ : PySem.W.Frag) (_ _ _ : Addr) : Sp := fun vs H Q _ => ∃ (t : Addr) (a b c d : Int), vs = [.ref t] ∧ Ti H t [a, b, c, d] ∧ B4 1000 a b c d ∧ Q (.int (fdisc a b c d)) H
def sp_l_coefficients (_ : PySem.W.Frag) (_ _ _ : Addr) : Sp := fun vs H Q _ => ∃ c : Addr, vs = [.ref c] ∧ Vat c H ∧ ∀ t (a b e d : Int) H', Fv c H H' → Ti H' t [a, b, e, d] → (∀ n ∈ [a, b, e, d], n.natAbs ≤ 6000000) → Q (.ref t) H'
def Gs (p q r s : Int) : Prop := p.natAbs ≤ 729 ∧ q.natAbs ≤ 729 ∧ r.natAbs ≤ 729 ∧ s.natAbs ≤ 729 ∧ (p * s - q * r = 1 ∨ p * s - q * r = -1)
def sp_l_change (_ : PySem.W.Frag) (_ _ _ : Addr) : Sp := fun vs H Q _ => ∃ c : Addr, vs = [.ref c] ∧ Vat c H ∧ ∀ x p q r s H', Fv c H H' → T4 H' x p q r s → Gs p q r s → Q (.ref x) H'
theorem l33_new {H : Hp} {t1 t2 t3 x : Addr} {r1 r2 r3 : List Int} (n1 : H t1 = none) (n2 : upd H t1 (.tup (r1.map V.int)) t2 = none) (n3 : upd (upd H t1 (.tup (r1.map V.int))) t2 (.tup (r2.map V.int)) t3 = none)
    (n4 : upd (upd (upd H t1 (.tup (r1.map V.int))) t2 (.tup (r2.map V.int))) t3 (.tup (r3.map V.int)) x = none) :
    Ex0 H (upd (upd (upd (upd H t1 (.tup (r1.map V.int))) t2 (.tup (r2.map V.int))) t3 (.tup (r3.map V.int))) x (.lst [.ref t1, .ref t2, .ref t3])) ∧
      L33 (upd (upd (upd (upd H t1 (.tup (r1.map V.int))) t2 (.tup (r2.map V.int))) t3 (.tup (r3.map V.int))) x (.lst [.ref t1, .ref t2, .ref t3])) x r1 r2 r3 :=
  ⟨(((Ex0.new n1).trans (Ex0.new n2)).trans (Ex0.new n3)).trans (Ex0.new n4), t1, t2, t3, upd_same, Ex0.ap (Ex0.new n4) (Ex0.ap (Ex0.new n3) (Ex0.ap (Ex0.new n2) upd_same)), Ex0.ap (Ex0.new n4) (Ex0.ap (Ex0.new n3) upd_same), Ex0.ap (Ex0.new n4) upd_same⟩
theorem unL33 {K : PySem.W.Frag} {i1 i2 i3 i4 i5 i6 i7 i8 i9 : Nat} {σ : L2.St} {H : Hp} {t : Addr} {a b c d e f g h i : Int} {Q : L2.St → Hp → Prop} (q : L33 H t [a, b, c] [d, e, f] [g, h, i])
    (z : Q (((((((((σ.set i1 (some (.int a))).set i2 (some (.int b))).set i3 (some (.int c))).set i4 (some (.int d))).set i5 (some (.int e))).set i6 (some (.int f))).set i7 (some (.int g))).set i8 (some (.int h))).set i9 (some (.int i))) H) :
    gLst K 3 (gCons (gTup K 3 (gCons (gName i1) (gCons (gName i2) (gCons (gName i3) gNil)))) (gCons (gTup K 3 (gCons (gName i4) (gCons (gName i5) (gCons (gName i6) gNil)))) (gCons (gTup K 3 (gCons (gName i7) (gCons (gName i8) (gCons (gName i9) gNil)))) gNil))) (.ref t) σ H Q := by
  obtain ⟨t1, t2, t3, h0, h1, h2, h3⟩ := q
  refine ⟨t, _, rfl, SqL.of h0, rfl, _, _, rfl, ?_⟩
  refine ⟨t1, _, rfl, SqT.of h1, rfl, _, _, rfl, _, _, rfl, _, _, rfl, ⟨rfl, ?_⟩⟩
  refine ⟨_, _, rfl, ?_⟩
  refine ⟨t2, _, rfl, SqT.of h2, rfl, _, _, rfl, _, _, rfl, _, _, rfl, ⟨rfl, ?_⟩⟩
  refine ⟨_, _, rfl, ?_⟩
  exact ⟨t3, _, rfl, SqT.of h3, rfl, _, _, rfl, _, _, rfl, _, _, rfl, ⟨rfl, ⟨rfl, z⟩⟩⟩
section
variable {P : Program} {w : World} {K : PySem.W.Frag} {mg : Str → Option Value} {base : Heap} {C_Form C_Ring C_Element : Addr}
theorem ok_l_vat (T : Txt K mg C_Form C_Ring C_Element) : Def P w K mg base 1 "_law_vat" ["_law_script", "_law_spot"] (sp_l_vat K C_Form C_Ring C_Element) := by
  obtain ⟨f_, fd_, g_, F_⟩ := T.d_l_vat
  refine ⟨f_, fd_, g_, F_.kp, F_.binds (ps := ["_law_script", "_law_spot"]) (fun _ _ _ _ _ _ us hl => match us, hl with | [_, _], _ => rfl), ?_⟩
  refine F_.ok sc_l_vat (fun vs H Q E h => ?_) (fun cdv A outer s H vs Q E hr h => ?_)
  · first | (obtain ⟨rfl, _⟩ := h; rfl) | (obtain ⟨_, rfl, _⟩ := h; rfl) | (obtain ⟨_, _, rfl, _⟩ := h; rfl) | (obtain ⟨_, _, _, rfl, _⟩ := h; rfl) | (obtain ⟨_, _, _, _, rfl, _⟩ := h; rfl) | (obtain ⟨_, _, _, _, _, rfl, _⟩ := h; rfl) | (obtain ⟨_, _, _, _, _, _, rfl, _⟩ := h; rfl) | (obtain ⟨_, _, _, _, _, _, _, rfl, _⟩ := h; rfl) | (obtain ⟨_, _, _, _, _, _, _, _, rfl, _⟩ := h; rfl) | (obtain ⟨_, _, _, _, _, _, _, _, _, rfl, _⟩ := h; rfl) | (obtain ⟨_, _, _, _, _, _, _, _, _, _, rfl, _⟩ := h; rfl) | (obtain ⟨_, _, _, _, _, _, _, _, _, _, _, rfl, _⟩ := h; rfl) | (obtain ⟨_, _, _, _, _, _, _, _, _, _, _, _, rfl, _⟩ := h; rfl) | (obtain ⟨_, _, _, _, _, _, _, _, _, _, _, _, _, rfl, _⟩ := h; rfl) | (obtain ⟨_, _, _, _, _, _, _, _, _, _, _, _, _, _, rfl, _⟩ := h; rfl) | (obtain ⟨_, _, _, _, _, _, _, _, _, _, _, _, _, _, _, rfl, _⟩ := h; rfl) | (obtain ⟨_, _, _, _, _, _, _, _, _, _, _, _, _, _, _, _, rfl, _⟩ := h; rfl) | (obtain ⟨_, _, _, _, _, _, _, _, _, _, _, _, _, _, _, _, _, rfl, _⟩ := h; rfl) | (obtain ⟨_, _, _, _, _, _, _, _, _, _, _, _, _, _, _, _, _, _, rfl, _⟩ := h; rfl) | (obtain ⟨_, _, _, _, _, _, _, _, _, _, _, _, _, _, _, _, _, _, _, rfl, _⟩ := h; rfl) | (obtain ⟨_, _, _, _, _, _, _, _, _, _, _, _, _, _, _, _, _, _, _, _, rfl, _⟩ := h; rfl) | (obtain ⟨_, _, _, _, _, _, _, _, _, _, _, _, _, _, _, _, _, _, _, _, _, rfl, _⟩ := h; rfl) | (obtain ⟨_, _, _, _, _, _, _, _, _, _, _, _, _, _, _, _, _, _, _, _, _, _, rfl, _⟩ := h; rfl) | (obtain ⟨_, _, _, _, _, _, _, _, _, _, _, _, _, _, _, _, _, _, _, _, _, _, _, rfl, _⟩ := h; rfl)
  · obtain ⟨a, ns, i, rfl, ha, q⟩ := h
    refine ⟨_, (Evl.pss_cut (ps_set (i := 2) sc_l_vat.nd rfl (.inl rfl) (pe_ifExp (pt_cmpR op_lt (pv 1) (pe_callB call_len_seq (by rfl) T.b_len PySem.boot_len (pa_cons (pv 0) pa_nil)) (nomark _)) (pe_callTy call_int1 (by rfl) T.b_int (by decide +kernel) (pa_cons (pe_ix ix_list (pv 0) (pv 1) (fun _ _ => rfl)) pa_nil)) (pe_op op_add (pe_op op_mul pe_int (pv 1)) pe_int)))
    (pss_cons (ps_set (i := 3) sc_l_vat.nd rfl (.inl rfl) (pe_op op_mod (pe_callTy call_int1 (by rfl) T.b_int (by decide +kernel) (pa_cons (pe_callB call_abs (by rfl) T.b_abs (by decide +kernel) (pa_cons (pv 2) pa_nil)) pa_nil)) (pe_op op_powC (pe_op op_pow pe_int pe_int) pe_int)))
    (pss_one (ps_ret (pe_lst (pa_cons (pe_callB (call_max2 rfl) (by rfl) T.b_max (by decide +kernel) (pa_cons pe_int (pa_cons (pe_op op_sub (pv 3) (pe_op op_pow pe_int pe_int)) pa_nil))) (pa_cons (pe_op op_add (pe_op op_add (pe_op op_add (pe_op op_mul (pe_op op_mod (pe_callTy call_int1 (by rfl) T.b_int (by decide +kernel) (pa_cons (pv 3) pa_nil)) pe_int) pe_int) (pe_op op_mul pe_int (pv 1))) (pe_op op_mul pe_int (pe_callTy call_int1 (by rfl) T.b_int (by decide +kernel) (pa_cons (pe_cmpR op_lt (pv 2) pe_int (nomark _)) pa_nil)))) pe_int) (pa_cons pe_int pa_nil)))))))), ?_⟩
    refine ⟨fun σ H' => ∃ cell : Int, σ = [some (.ref a), some (.int (i : Int)), some (.int cell), none] ∧ Ex0 H H', ?_, ?_⟩
    · refine ⟨_, rfl, _, rfl, a, _, rfl, .inl ha, _, _, rfl, rfl, _, rfl, iteD (fun g => ?_) (fun g => ?_)⟩
      · have hi : i < ns.length := by rw [List.length_map] at g; omega
        refine ⟨_, rfl, _, rfl, a, _, (i : Int), .int ns[i], rfl, rfl, ha, atI_nat (by rw [List.getElem?_map, List.getElem?_eq_getElem hi]; rfl), .inl ⟨_, rfl, ?_⟩⟩
        exact ⟨_, rfl, Ex0.refl H⟩
      · refine ⟨_, rfl, _, _, rfl, rfl, .inl ⟨by decide, by decide⟩, _, _, rfl, rfl, ?_⟩
        exact ⟨_, rfl, Ex0.refl H⟩
    · rintro σ H' ⟨cell, rfl, e⟩
      refine ⟨_, rfl, cell, rfl, .inl ⟨_, rfl, ?_⟩⟩
      refine ⟨_, _, rfl, rfl, ⟨by decide, by decide, by decide⟩, _, _, rfl, rfl, ⟨by decide, by decide +kernel⟩, _, _, rfl, rfl, by show (0 : Int) < (10 ^ 54) ^ 6; decide +kernel, ?_⟩
      refine ⟨_, rfl, _, _, rfl, rfl, ⟨by decide, by decide, by decide⟩, _, _, rfl, rfl, _, _, rfl, ?_⟩
      refine ⟨_, rfl, .inl ⟨_, rfl, _, _, rfl, rfl, (show (0 : Int) < 2147483587 by decide), _, _, rfl, rfl, .inr ⟨by decide, by decide⟩, _, rfl, _, _, rfl, rfl, .inl ⟨by decide, by decide⟩, _, _, rfl, rfl, ?_⟩⟩
      refine ⟨_, rfl, _, _, rfl, rfl, .inr ⟨_, rfl, _, _, rfl, rfl, .inl ⟨by decide, by decide⟩, _, _, rfl, rfl, _, _, rfl, rfl, ?_⟩⟩
      refine ⟨sl3, fun p hp => ?_⟩
      exact q p _ (Fx.free e (fun z => z) hp) (e.trans (Ex0.new hp)) ⟨_, _, _, upd_same⟩
theorem ok_l_drip (T : Txt K mg C_Form C_Ring C_Element) : Def P w K mg base 1 "_law_drip" ["_law_vat_here", "_law_total"] (sp_l_drip K C_Form C_Ring C_Element) := by
  obtain ⟨f_, fd_, g_, F_⟩ := T.d_l_drip
  refine ⟨f_, fd_, g_, F_.kp, F_.binds (ps := ["_law_vat_here", "_law_total"]) (fun _ _ _ _ _ _ us hl => match us, hl with | [_, _], _ => rfl), ?_⟩
  refine F_.ok sc_l_drip (fun vs H Q E h => ?_) (fun cdv A outer s H vs Q E hr h => ?_)
  · first | (obtain ⟨rfl, _⟩ := h; rfl) | (obtain ⟨_, rfl, _⟩ := h; rfl) | (obtain ⟨_, _, rfl, _⟩ := h; rfl) | (obtain ⟨_, _, _, rfl, _⟩ := h; rfl) | (obtain ⟨_, _, _, _, rfl, _⟩ := h; rfl) | (obtain ⟨_, _, _, _, _, rfl, _⟩ := h; rfl) | (obtain ⟨_, _, _, _, _, _, rfl, _⟩ := h; rfl) | (obtain ⟨_, _, _, _, _, _, _, rfl, _⟩ := h; rfl) | (obtain ⟨_, _, _, _, _, _, _, _, rfl, _⟩ := h; rfl) | (obtain ⟨_, _, _, _, _, _, _, _, _, rfl, _⟩ := h; rfl) | (obtain ⟨_, _, _, _, _, _, _, _, _, _, rfl, _⟩ := h; rfl) | (obtain ⟨_, _, _, _, _, _, _, _, _, _, _, rfl, _⟩ := h; rfl) | (obtain ⟨_, _, _, _, _, _, _, _, _, _, _, _, rfl, _⟩ := h; rfl) | (obtain ⟨_, _, _, _, _, _, _, _, _, _, _, _, _, rfl, _⟩ := h; rfl) | (obtain ⟨_, _, _, _, _, _, _, _, _, _, _, _, _, _, rfl, _⟩ := h; rfl) | (obtain ⟨_, _, _, _, _, _, _, _, _, _, _, _, _, _, _, rfl, _⟩ := h; rfl) | (obtain ⟨_, _, _, _, _, _, _, _, _, _, _, _, _, _, _, _, rfl, _⟩ := h; rfl) | (obtain ⟨_, _, _, _, _, _, _, _, _, _, _, _, _, _, _, _, _, rfl, _⟩ := h; rfl) | (obtain ⟨_, _, _, _, _, _, _, _, _, _, _, _, _, _, _, _, _, _, rfl, _⟩ := h; rfl) | (obtain ⟨_, _, _, _, _, _, _, _, _, _, _, _, _, _, _, _, _, _, _, rfl, _⟩ := h; rfl) | (obtain ⟨_, _, _, _, _, _, _, _, _, _, _, _, _, _, _, _, _, _, _, _, rfl, _⟩ := h; rfl) | (obtain ⟨_, _, _, _, _, _, _, _, _, _, _, _, _, _, _, _, _, _, _, _, _, rfl, _⟩ := h; rfl) | (obtain ⟨_, _, _, _, _, _, _, _, _, _, _, _, _, _, _, _, _, _, _, _, _, _, rfl, _⟩ := h; rfl) | (obtain ⟨_, _, _, _, _, _, _, _, _, _, _, _, _, _, _, _, _, _, _, _, _, _, _, rfl, _⟩ := h; rfl)
  · obtain ⟨c, t, rfl, ⟨x, y, z, hv⟩, h0, h1, q⟩ := h
    refine ⟨_, (pss_cons (ps_if (pt_cmpR op_gt (pe_ix ix_list (pv 0) pe_int (fun _ _ => rfl)) pe_int (nomark _))
      (pss_cons (ps_set (i := 2) sc_l_drip.nd rfl (.inl rfl) (pe_op op_mod (pe_callTy call_int1 (by rfl) T.b_int (by decide +kernel) (pa_cons (pe_ix ix_list (pv 0) pe_int (fun _ _ => rfl)) pa_nil)) (pv 1)))
    (pss_cons (ps_asg (pe_op op_fdivW (pe_ix ix_list (pv 0) pe_int (fun _ _ => rfl)) (pv 1)) (pg_sub (pv 0) pe_int set_list))
    (pss_one (ps_ret (pv 2)))))
      pss_nil)
    (pss_cons (ps_asg (pe_op op_add (pe_ix ix_list (pv 0) pe_int (fun _ _ => rfl)) pe_int) (pg_sub (pv 0) pe_int set_list))
    (pss_cons (ps_set (i := 3) sc_l_drip.nd rfl (.inl rfl) (pe_op op_mod (pe_callTy call_int1 (by rfl) T.b_int (by decide +kernel) (pa_cons (pe_op op_add (pe_ix ix_list (pv 0) pe_int (fun _ _ => rfl)) (pe_op op_mul pe_int (pe_ix ix_list (pv 0) pe_int (fun _ _ => rfl)))) pa_nil)) pe_int))
    (pss_cons (ps_set (i := 4) sc_l_drip.nd rfl (.inl rfl) (pe_op op_add (pe_op op_mul (pe_op op_mod (pe_callTy call_int1 (by rfl) T.b_int (by decide +kernel) (pa_cons (pe_op op_add (pe_op op_mul (pv 3) (pv 3)) (pe_op op_mul pe_int (pe_ix ix_list (pv 0) pe_int (fun _ _ => rfl)))) pa_nil)) pe_int) pe_int) (pv 3)))
    (pss_one (ps_ret (pe_op op_mod (pe_callTy call_int1 (by rfl) T.b_int (by decide +kernel) (pa_cons (pe_op op_fdivW (pv 4) pe_int) pa_nil)) (pv 1)))))))), ?_⟩
    have fv : ∀ (H' : Hp) (x' y' z' : Int), (∀ b o, b ≠ c → H b = some o → H' b = some o) → H' c = some (.lst [.int x', .int y', .int z']) → Fv c H H' := fun H' x' y' z' a b => ⟨⟨x', y', z', b⟩, a⟩
    refine ⟨_, rfl, c, _, 0, .int x, rfl, rfl, SqL.of hv, rfl, x, 0, rfl, rfl, _, rfl, iteD (fun g => ?_) (fun g => ?_)⟩
    · refine ⟨_, rfl, c, _, 0, .int x, rfl, rfl, SqL.of hv, rfl, .inl ⟨x, rfl, _, rfl, x, t, rfl, rfl, h0, ?_⟩⟩
      refine ⟨_, rfl, c, _, 0, .int x, rfl, rfl, SqL.of hv, rfl, _, rfl, x, t, rfl, rfl, dw h0 h1, ?_⟩
      refine ⟨_, rfl, c, _, 0, 0, rfl, rfl, hv, rfl, ?_⟩
      refine ⟨_, rfl, ?_⟩
      exact q _ _ (Int.emod_nonneg _ (by omega)) (Int.emod_lt_of_pos _ h0) (fv _ _ _ _ (fun b o n e => by rw [upd_ne n]; exact e) upd_same)
    · refine ⟨_, rfl, c, _, 2, .int z, rfl, rfl, SqL.of hv, rfl, _, 1, rfl, rfl, ?_⟩
      refine ⟨_, rfl, c, _, 2, 2, rfl, rfl, hv, rfl, ?_⟩
      have hv2 : upd H c (.lst [.int x, .int y, .int (z + 1)]) c = some (.lst [.int x, .int y, .int (z + 1)]) := upd_same
      refine ⟨_, rfl, c, _, 1, .int y, rfl, rfl, SqL.of hv2, rfl, _, rfl, c, _, 2, .int (z + 1), rfl, rfl, SqL.of hv2, rfl, _, _, rfl, rfl, .inl ⟨by decide, by decide⟩, _, _, rfl, rfl, .inl ⟨_, rfl, ?_⟩⟩
      refine ⟨_, _, rfl, rfl, (show (0 : Int) < 2305843009213693951 by decide), ?_⟩
      refine ⟨_, rfl, _, rfl, _, _, rfl, rfl, .inl ⟨by omega, by omega⟩, ?_⟩
      refine ⟨_, rfl, c, _, 2, .int (z + 1), rfl, rfl, SqL.of hv2, rfl, _, _, rfl, rfl, .inl ⟨by decide, by decide⟩, _, _, rfl, rfl, .inl ⟨_, rfl, ?_⟩⟩
      refine ⟨_, _, rfl, rfl, (show (0 : Int) < 2305843009213693951 by decide), _, _, rfl, rfl, .inr ⟨by decide, by decide⟩, ?_⟩
      refine ⟨_, rfl, _, _, rfl, rfl, ?_⟩
      refine ⟨_, rfl, _, _, rfl, rfl, dw (by decide) (by decide), .inl ⟨_, rfl, _, rfl, _, _, rfl, rfl, h0, ?_⟩⟩
      exact q _ _ (Int.emod_nonneg _ (by omega)) (Int.emod_lt_of_pos _ h0) (fv _ _ _ _ (fun b o n e => by rw [upd_ne n]; exact e) hv2)
theorem ok_l_some_of (T : Txt K mg C_Form C_Ring C_Element) : Def P w K mg base 2 "_law_some_of" ["_law_vat_here", "_law_items"] (sp_l_some_of K C_Form C_Ring C_Element) := by
  obtain ⟨f_, fd_, g_, F_⟩ := T.d_l_some_of
  obtain ⟨f_l_drip, fd_l_drip, g_l_drip, k_l_drip, b_l_drip, G_l_drip⟩ := (ok_l_drip (P := P) (w := w) (base := base) T)
  refine ⟨f_, fd_, g_, F_.kp, F_.binds (ps := ["_law_vat_here", "_law_items"]) (fun _ _ _ _ _ _ us hl => match us, hl with | [_, _], _ => rfl), ?_⟩
  refine F_.ok sc_l_some_of (fun vs H Q E h => ?_) (fun cdv A outer s H vs Q E hr h => ?_)
  · first | (obtain ⟨rfl, _⟩ := h; rfl) | (obtain ⟨_, rfl, _⟩ := h; rfl) | (obtain ⟨_, _, rfl, _⟩ := h; rfl) | (obtain ⟨_, _, _, rfl, _⟩ := h; rfl) | (obtain ⟨_, _, _, _, rfl, _⟩ := h; rfl) | (obtain ⟨_, _, _, _, _, rfl, _⟩ := h; rfl) | (obtain ⟨_, _, _, _, _, _, rfl, _⟩ := h; rfl) | (obtain ⟨_, _, _, _, _, _, _, rfl, _⟩ := h; rfl) | (obtain ⟨_, _, _, _, _, _, _, _, rfl, _⟩ := h; rfl) | (obtain ⟨_, _, _, _, _, _, _, _, _, rfl, _⟩ := h; rfl) | (obtain ⟨_, _, _, _, _, _, _, _, _, _, rfl, _⟩ := h; rfl) | (obtain ⟨_, _, _, _, _, _, _, _, _, _, _, rfl, _⟩ := h; rfl) | (obtain ⟨_, _, _, _, _, _, _, _, _, _, _, _, rfl, _⟩ := h; rfl) | (obtain ⟨_, _, _, _, _, _, _, _, _, _, _, _, _, rfl, _⟩ := h; rfl) | (obtain ⟨_, _, _, _, _, _, _, _, _, _, _, _, _, _, rfl, _⟩ := h; rfl) | (obtain ⟨_, _, _, _, _, _, _, _, _, _, _, _, _, _, _, rfl, _⟩ := h; rfl) | (obtain ⟨_, _, _, _, _, _, _, _, _, _, _, _, _, _, _, _, rfl, _⟩ := h; rfl) | (obtain ⟨_, _, _, _, _, _, _, _, _, _, _, _, _, _, _, _, _, rfl, _⟩ := h; rfl) | (obtain ⟨_, _, _, _, _, _, _, _, _, _, _, _, _, _, _, _, _, _, rfl, _⟩ := h; rfl) | (obtain ⟨_, _, _, _, _, _, _, _, _, _, _, _, _, _, _, _, _, _, _, rfl, _⟩ := h; rfl) | (obtain ⟨_, _, _, _, _, _, _, _, _, _, _, _, _, _, _, _, _, _, _, _, rfl, _⟩ := h; rfl) | (obtain ⟨_, _, _, _, _, _, _, _, _, _, _, _, _, _, _, _, _, _, _, _, _, rfl, _⟩ := h; rfl) | (obtain ⟨_, _, _, _, _, _, _, _, _, _, _, _, _, _, _, _, _, _, _, _, _, _, rfl, _⟩ := h; rfl) | (obtain ⟨_, _, _, _, _, _, _, _, _, _, _, _, _, _, _, _, _, _, _, _, _, _, _, rfl, _⟩ := h; rfl)
  · obtain ⟨c, l, xs, rfl, hc, hl, ne, hx, hz, q⟩ := h
    refine ⟨_, (pss_one (ps_ret (pe_ix ix_list (pv 1) (pe_call G_l_drip (hr.mono (by decide)) (by rfl) g_l_drip k_l_drip b_l_drip .nil pass0 (pa_cons (pv 0) (pa_cons (pe_callB call_len_seq (by rfl) T.b_len PySem.boot_len (pa_cons (pv 1) pa_nil)) pa_nil))) (fun _ _ => rfl)))), ?_⟩
    have h0 : 0 < xs.length := List.length_pos_iff.mpr hx
    refine ⟨_, rfl, _, rfl, _, rfl, l, xs, rfl, .inl (SqL.of hl), c, _, rfl, hc, by omega, by omega, fun r H' r0 r1 e => ?_⟩
    obtain ⟨j, rfl⟩ : ∃ j : Nat, r = (j : Int) := ⟨r.toNat, by omega⟩
    have hj : j < xs.length := by omega
    exact ⟨l, xs, _, xs[j], rfl, rfl, SqL.of (e.2 _ _ ne hl), atI_nat (List.getElem?_eq_getElem hj), q _ _ (List.getElem_mem hj) e⟩
theorem ok_l_int (T : Txt K mg C_Form C_Ring C_Element) : Def P w K mg base 3 "_law_int" ["_law_vat_here"] (sp_l_int K C_Form C_Ring C_Element) := by
  obtain ⟨f_, fd_, g_, F_⟩ := T.d_l_int
  obtain ⟨f_l_drip, fd_l_drip, g_l_drip, k_l_drip, b_l_drip, G_l_drip⟩ := (ok_l_drip (P := P) (w := w) (base := base) T)
  obtain ⟨f_l_some_of, fd_l_some_of, g_l_some_of, k_l_some_of, b_l_some_of, G_l_some_of⟩ := (ok_l_some_of (P := P) (w := w) (base := base) T)
  refine ⟨f_, fd_, g_, F_.kp, F_.binds (ps := ["_law_vat_here"]) (fun _ _ _ _ _ _ us hl => match us, hl with | [_], _ => rfl), ?_⟩
  refine F_.ok sc_l_int (fun vs H Q E h => ?_) (fun cdv A outer s H vs Q E hr h => ?_)
  · first | (obtain ⟨rfl, _⟩ := h; rfl) | (obtain ⟨_, rfl, _⟩ := h; rfl) | (obtain ⟨_, _, rfl, _⟩ := h; rfl) | (obtain ⟨_, _, _, rfl, _⟩ := h; rfl) | (obtain ⟨_, _, _, _, rfl, _⟩ := h; rfl) | (obtain ⟨_, _, _, _, _, rfl, _⟩ := h; rfl) | (obtain ⟨_, _, _, _, _, _, rfl, _⟩ := h; rfl) | (obtain ⟨_, _, _, _, _, _, _, rfl, _⟩ := h; rfl) | (obtain ⟨_, _, _, _, _, _, _, _, rfl, _⟩ := h; rfl) | (obtain ⟨_, _, _, _, _, _, _, _, _, rfl, _⟩ := h; rfl) | (obtain ⟨_, _, _, _, _, _, _, _, _, _, rfl, _⟩ := h; rfl) | (obtain ⟨_, _, _, _, _, _, _, _, _, _, _, rfl, _⟩ := h; rfl) | (obtain ⟨_, _, _, _, _, _, _, _, _, _, _, _, rfl, _⟩ := h; rfl) | (obtain ⟨_, _, _, _, _, _, _, _, _, _, _, _, _, rfl, _⟩ := h; rfl) | (obtain ⟨_, _, _, _, _, _, _, _, _, _, _, _, _, _, rfl, _⟩ := h; rfl) | (obtain ⟨_, _, _, _, _, _, _, _, _, _, _, _, _, _, _, rfl, _⟩ := h; rfl) | (obtain ⟨_, _, _, _, _, _, _, _, _, _, _, _, _, _, _, _, rfl, _⟩ := h; rfl) | (obtain ⟨_, _, _, _, _, _, _, _, _, _, _, _, _, _, _, _, _, rfl, _⟩ := h; rfl) | (obtain ⟨_, _, _, _, _, _, _, _, _, _, _, _, _, _, _, _, _, _, rfl, _⟩ := h; rfl) | (obtain ⟨_, _, _, _, _, _, _, _, _, _, _, _, _, _, _, _, _, _, _, rfl, _⟩ := h; rfl) | (obtain ⟨_, _, _, _, _, _, _, _, _, _, _, _, _, _, _, _, _, _, _, _, rfl, _⟩ := h; rfl) | (obtain ⟨_, _, _, _, _, _, _, _, _, _, _, _, _, _, _, _, _, _, _, _, _, rfl, _⟩ := h; rfl) | (obtain ⟨_, _, _, _, _, _, _, _, _, _, _, _, _, _, _, _, _, _, _, _, _, _, rfl, _⟩ := h; rfl) | (obtain ⟨_, _, _, _, _, _, _, _, _, _, _, _, _, _, _, _, _, _, _, _, _, _, _, rfl, _⟩ := h; rfl)
  · obtain ⟨c, rfl, hc, q⟩ := h
    refine ⟨_, (pss_cons (ps_set (i := 1) sc_l_int.nd rfl (.inl rfl) (pe_call G_l_some_of (hr.mono (by decide)) (by rfl) g_l_some_of k_l_some_of b_l_some_of .nil pass0 (pa_cons (pv 0) (pa_cons (pe_lst (pa_cons pe_int (pa_cons pe_int (pa_cons pe_int (pa_cons pe_int (pa_cons pe_int (pa_cons pe_int (pa_cons (pe_op op_pow pe_int pe_int) pa_nil)))))))) pa_nil))))
    (pss_one (ps_ret (pe_op op_sub (pe_call G_l_drip (hr.mono (by decide)) (by rfl) g_l_drip k_l_drip b_l_drip .nil pass0 (pa_cons (pv 0) (pa_cons (pe_op op_add (pe_op op_mul pe_int (pv 1)) pe_int) pa_nil))) (pv 1))))), ?_⟩
    refine ⟨_, rfl, _, _, rfl, rfl, ⟨by decide, by decide, by decide⟩, slN (by decide), fun l nl => ?_⟩
    refine ⟨c, l, [.int 1, .int 3, .int 3, .int 9, .int 9, .int 50, .int 1000000], rfl, vat_new hc nl, upd_same, fv_ne hc nl, by simp, by decide, fun v H1 hv e1 => ?_⟩
    obtain ⟨f, rfl, f1, f2⟩ := in_b (lo := 1) (hi := 1000000) hv (by decide)
    have e2 : Fv c H H1 := (fv_new hc nl).trans e1
    refine ⟨_, rfl, _, rfl, _, _, rfl, rfl, .inl ⟨by decide, by decide⟩, _, _, rfl, rfl, c, _, rfl, e2.1, by omega, by omega, fun r H2 r0 r1 e3 => ?_⟩
    exact ⟨_, rfl, _, _, rfl, rfl, q _ _ (by omega) (e2.trans e3)⟩
theorem ok_l_rows (T : Txt K mg C_Form C_Ring C_Element) : Def P w K mg base 1 "_law_rows" ["_law_form"] (sp_l_rows K C_Form C_Ring C_Element) := by
  obtain ⟨f_, fd_, g_, F_⟩ := T.d_l_rows
  refine ⟨f_, fd_, g_, F_.kp, F_.binds (ps := ["_law_form"]) (fun _ _ _ _ _ _ us hl => match us, hl with | [_], _ => rfl), ?_⟩
  refine F_.ok sc_l_rows (fun vs H Q E h => ?_) (fun cdv A outer s H vs Q E hr h => ?_)
  · first | (obtain ⟨rfl, _⟩ := h; rfl) | (obtain ⟨_, rfl, _⟩ := h; rfl) | (obtain ⟨_, _, rfl, _⟩ := h; rfl) | (obtain ⟨_, _, _, rfl, _⟩ := h; rfl) | (obtain ⟨_, _, _, _, rfl, _⟩ := h; rfl) | (obtain ⟨_, _, _, _, _, rfl, _⟩ := h; rfl) | (obtain ⟨_, _, _, _, _, _, rfl, _⟩ := h; rfl) | (obtain ⟨_, _, _, _, _, _, _, rfl, _⟩ := h; rfl) | (obtain ⟨_, _, _, _, _, _, _, _, rfl, _⟩ := h; rfl) | (obtain ⟨_, _, _, _, _, _, _, _, _, rfl, _⟩ := h; rfl) | (obtain ⟨_, _, _, _, _, _, _, _, _, _, rfl, _⟩ := h; rfl) | (obtain ⟨_, _, _, _, _, _, _, _, _, _, _, rfl, _⟩ := h; rfl) | (obtain ⟨_, _, _, _, _, _, _, _, _, _, _, _, rfl, _⟩ := h; rfl) | (obtain ⟨_, _, _, _, _, _, _, _, _, _, _, _, _, rfl, _⟩ := h; rfl) | (obtain ⟨_, _, _, _, _, _, _, _, _, _, _, _, _, _, rfl, _⟩ := h; rfl) | (obtain ⟨_, _, _, _, _, _, _, _, _, _, _, _, _, _, _, rfl, _⟩ := h; rfl) | (obtain ⟨_, _, _, _, _, _, _, _, _, _, _, _, _, _, _, _, rfl, _⟩ := h; rfl) | (obtain ⟨_, _, _, _, _, _, _, _, _, _, _, _, _, _, _, _, _, rfl, _⟩ := h; rfl) | (obtain ⟨_, _, _, _, _, _, _, _, _, _, _, _, _, _, _, _, _, _, rfl, _⟩ := h; rfl) | (obtain ⟨_, _, _, _, _, _, _, _, _, _, _, _, _, _, _, _, _, _, _, rfl, _⟩ := h; rfl) | (obtain ⟨_, _, _, _, _, _, _, _, _, _, _, _, _, _, _, _, _, _, _, _, rfl, _⟩ := h; rfl) | (obtain ⟨_, _, _, _, _, _, _, _, _, _, _, _, _, _, _, _, _, _, _, _, _, rfl, _⟩ := h; rfl) | (obtain ⟨_, _, _, _, _, _, _, _, _, _, _, _, _, _, _, _, _, _, _, _, _, _, rfl, _⟩ := h; rfl) | (obtain ⟨_, _, _, _, _, _, _, _, _, _, _, _, _, _, _, _, _, _, _, _, _, _, _, rfl, _⟩ := h; rfl)
  · obtain ⟨t, a, b, c, d, rfl, ht, ⟨ba, bb, bc, bd⟩, q⟩ := h
    refine ⟨_, (pss_cons (ps_asg (pv 0) (pg_tup (by rfl) (pgs_cons (pg_name (i := 1) sc_l_rows.nd rfl (.inl rfl)) (pgs_cons (pg_name (i := 2) sc_l_rows.nd rfl (.inl rfl)) (pgs_cons (pg_name (i := 3) sc_l_rows.nd rfl (.inl rfl)) (pgs_cons (pg_name (i := 4) sc_l_rows.nd rfl (.inl rfl)) pgs_nil))))))
    (pss_one (ps_ret (pe_lst (pa_cons (pe_tup (pa_cons (pe_op op_sub pe_int (pe_op op_mulW (pv 1) (pv 3))) (pa_cons (pv 2) (pa_cons (pe_op op_sub pe_int (pv 1)) pa_nil)))) (pa_cons (pe_tup (pa_cons (pe_op op_sub pe_int (pe_op op_mulW (pv 1) (pv 4))) (pa_cons pe_int (pa_cons pe_int pa_nil)))) (pa_cons (pe_tup (pa_cons (pe_op op_sub pe_int (pe_op op_mulW (pv 2) (pv 4))) (pa_cons (pv 4) (pa_cons (pe_op op_sub pe_int (pv 3)) pa_nil)))) pa_nil))))))), ?_⟩
    refine ⟨_, rfl, unI4 ht ?_⟩
    refine ⟨_, rfl, _, rfl, _, _, rfl, rfl, mulB (by with_reducible assumption) (by with_reducible assumption) (by decide), _, _, rfl, rfl, _, rfl, _, rfl, _, _, rfl, rfl, sl3, fun t1 n1 => ⟨_, rfl, _, rfl, _, _, rfl, rfl, mulB (by with_reducible assumption) (by with_reducible assumption) (by decide), _, _, rfl, rfl, sl3, fun t2 n2 => ⟨_, rfl, _, rfl, _, _, rfl, rfl, mulB (by with_reducible assumption) (by with_reducible assumption) (by decide), _, _, rfl, rfl, _, rfl, _, rfl, _, _, rfl, rfl, sl3, fun t3 n3 => ⟨sl3, fun x nx => ?_⟩⟩⟩⟩
    have z := l33_new (r1 := [0 - a * c, b, 0 - a]) (r2 := [0 - a * d, 0, 0]) (r3 := [0 - b * d, d, 0 - c]) n1 n2 n3 nx
    refine q x _ z.1 ?_
    have e1 : w1 a b c d = [0 - a * c, b, 0 - a] := by unfold w1; simp only [Int.zero_sub, Int.neg_mul]
    have e2 : w2 a b c d = [0 - a * d, 0, 0] := by unfold w2; simp only [Int.zero_sub, Int.neg_mul]
    have e3 : w3 a b c d = [0 - b * d, d, 0 - c] := by unfold w3; simp only [Int.zero_sub, Int.neg_mul]
    rw [e1, e2, e3]
    exact z.2
theorem ok_l_det (T : Txt K mg C_Form C_Ring C_Element) : Def P w K mg base 1 "_law_det" ["_law_rows_here"] (sp_l_det K C_Form C_Ring C_Element) := by
  obtain ⟨f_, fd_, g_, F_⟩ := T.d_l_det
  refine ⟨f_, fd_, g_, F_.kp, F_.binds (ps := ["_law_rows_here"]) (fun _ _ _ _ _ _ us hl => match us, hl with | [_], _ => rfl), ?_⟩
  refine F_.ok sc_l_det (fun vs H Q E h => ?_) (fun cdv A outer s H vs Q E hr h => ?_)
  · first | (obtain ⟨rfl, _⟩ := h; rfl) | (obtain ⟨_, rfl, _⟩ := h; rfl) | (obtain ⟨_, _, rfl, _⟩ := h; rfl) | (obtain ⟨_, _, _, rfl, _⟩ := h; rfl) | (obtain ⟨_, _, _, _, rfl, _⟩ := h; rfl) | (obtain ⟨_, _, _, _, _, rfl, _⟩ := h; rfl) | (obtain ⟨_, _, _, _, _, _, rfl, _⟩ := h; rfl) | (obtain ⟨_, _, _, _, _, _, _, rfl, _⟩ := h; rfl) | (obtain ⟨_, _, _, _, _, _, _, _, rfl, _⟩ := h; rfl) | (obtain ⟨_, _, _, _, _, _, _, _, _, rfl, _⟩ := h; rfl) | (obtain ⟨_, _, _, _, _, _, _, _, _, _, rfl, _⟩ := h; rfl) | (obtain ⟨_, _, _, _, _, _, _, _, _, _, _, rfl, _⟩ := h; rfl) | (obtain ⟨_, _, _, _, _, _, _, _, _, _, _, _, rfl, _⟩ := h; rfl) | (obtain ⟨_, _, _, _, _, _, _, _, _, _, _, _, _, rfl, _⟩ := h; rfl) | (obtain ⟨_, _, _, _, _, _, _, _, _, _, _, _, _, _, rfl, _⟩ := h; rfl) | (obtain ⟨_, _, _, _, _, _, _, _, _, _, _, _, _, _, _, rfl, _⟩ := h; rfl) | (obtain ⟨_, _, _, _, _, _, _, _, _, _, _, _, _, _, _, _, rfl, _⟩ := h; rfl) | (obtain ⟨_, _, _, _, _, _, _, _, _, _, _, _, _, _, _, _, _, rfl, _⟩ := h; rfl) | (obtain ⟨_, _, _, _, _, _, _, _, _, _, _, _, _, _, _, _, _, _, rfl, _⟩ := h; rfl) | (obtain ⟨_, _, _, _, _, _, _, _, _, _, _, _, _, _, _, _, _, _, _, rfl, _⟩ := h; rfl) | (obtain ⟨_, _, _, _, _, _, _, _, _, _, _, _, _, _, _, _, _, _, _, _, rfl, _⟩ := h; rfl) | (obtain ⟨_, _, _, _, _, _, _, _, _, _, _, _, _, _, _, _, _, _, _, _, _, rfl, _⟩ := h; rfl) | (obtain ⟨_, _, _, _, _, _, _, _, _, _, _, _, _, _, _, _, _, _, _, _, _, _, rfl, _⟩ := h; rfl) | (obtain ⟨_, _, _, _, _, _, _, _, _, _, _, _, _, _, _, _, _, _, _, _, _, _, _, rfl, _⟩ := h; rfl)
  · obtain ⟨t, a, b, c, d, e, f, g, h', i, rfl, ht, ⟨ba, bb, bc⟩, ⟨bd, be, bf⟩, ⟨bg, bh, bi⟩, q⟩ := h
    refine ⟨_, (Evl.pss_cut (ps_asg (pv 0) (pg_tup (by rfl) (pgs_cons (pg_tup (by rfl) (pgs_cons (pg_name (i := 1) sc_l_det.nd rfl (.inl rfl)) (pgs_cons (pg_name (i := 2) sc_l_det.nd rfl (.inl rfl)) (pgs_cons (pg_name (i := 3) sc_l_det.nd rfl (.inl rfl)) pgs_nil)))) (pgs_cons (pg_tup (by rfl) (pgs_cons (pg_name (i := 4) sc_l_det.nd rfl (.inl rfl)) (pgs_cons (pg_name (i := 5) sc_l_det.nd rfl (.inl rfl)) (pgs_cons (pg_name (i := 6) sc_l_det.nd rfl (.inl rfl)) pgs_nil)))) (pgs_cons (pg_tup (by rfl) (pgs_cons (pg_name (i := 7) sc_l_det.nd rfl (.inl rfl)) (pgs_cons (pg_name (i := 8) sc_l_det.nd rfl (.inl rfl)) (pgs_cons (pg_name (i := 9) sc_l_det.nd rfl (.inl rfl)) pgs_nil)))) pgs_nil)))))
    (pss_one (ps_ret (pe_op op_add (pe_op op_sub (pe_op op_mulW (pv 1) (pe_op op_sub (pe_op op_mulW (pv 5) (pv 9)) (pe_op op_mulW (pv 6) (pv 8)))) (pe_op op_mulW (pv 2) (pe_op op_sub (pe_op op_mulW (pv 4) (pv 9)) (pe_op op_mulW (pv 6) (pv 7))))) (pe_op op_mulW (pv 3) (pe_op op_sub (pe_op op_mulW (pv 4) (pv 8)) (pe_op op_mulW (pv 5) (pv 7)))))))), ?_⟩
    refine ⟨fun σ H' => σ = [some (.ref t), some (.int a), some (.int b), some (.int c), some (.int d), some (.int e), some (.int f), some (.int g), some (.int h'), some (.int i)] ∧ H' = H, ⟨_, rfl, un33 ht ⟨rfl, rfl⟩⟩, ?_⟩
    rintro σ H' ⟨rfl, rfl⟩
    exact ⟨_, rfl, _, rfl, _, rfl, _, _, rfl, rfl, mulB (by with_reducible assumption) (by with_reducible assumption) (by decide), _, rfl, _, rfl, _, _, rfl, rfl, mulB (by with_reducible assumption) (by with_reducible assumption) (by decide), _, _, rfl, rfl, _, _, rfl, rfl, mulB (by with_reducible assumption) (B.sub (B.mul (by with_reducible assumption) (by with_reducible assumption)) (B.mul (by with_reducible assumption) (by with_reducible assumption))) (by decide), _, rfl, _, rfl, _, rfl, _, _, rfl, rfl, mulB (by with_reducible assumption) (by with_reducible assumption) (by decide), _, rfl, _, rfl, _, _, rfl, rfl, mulB (by with_reducible assumption) (by with_reducible assumption) (by decide), _, _, rfl, rfl, _, _, rfl, rfl, mulB (by with_reducible assumption) (B.sub (B.mul (by with_reducible assumption) (by with_reducible assumption)) (B.mul (by with_reducible assumption) (by with_reducible assumption))) (by decide), _, _, rfl, rfl, _, rfl, _, rfl, _, rfl, _, _, rfl, rfl, mulB (by with_reducible assumption) (by with_reducible assumption) (by decide), _, rfl, _, rfl, _, _, rfl, rfl, mulB (by with_reducible assumption) (by with_reducible assumption) (by decide), _, _, rfl, rfl, _, _, rfl, rfl, mulB (by with_reducible assumption) (B.sub (B.mul (by with_reducible assumption) (by with_reducible assumption)) (B.mul (by with_reducible assumption) (by with_reducible assumption))) (by decide), _, _, rfl, rfl, q⟩
theorem ok_l_discriminant (T : Txt K mg C_Form C_Ring C_Element) : Def P w K mg base 1 "_law_discriminant" ["_law_form"] (sp_l_discriminant K C_Form C_Ring C_Element) := by
  obtain ⟨f_, fd_, g_, F_⟩ := T.d_l_discriminant
  refine ⟨f_, fd_, g_, F_.kp, F_.binds (ps := ["_law_form"]) (fun _ _ _ _ _ _ us hl => match us, hl with | [_], _ => rfl), ?_⟩
  refine F_.ok sc_l_discriminant (fun vs H Q E h => ?_) (fun cdv A outer s H vs Q E hr h => ?_)
  · first | (obtain ⟨rfl, _⟩ := h; rfl) | (obtain ⟨_, rfl, _⟩ := h; rfl) | (obtain ⟨_, _, rfl, _⟩ := h; rfl) | (obtain ⟨_, _, _, rfl, _⟩ := h; rfl) | (obtain ⟨_, _, _, _, rfl, _⟩ := h; rfl) | (obtain ⟨_, _, _, _, _, rfl, _⟩ := h; rfl) | (obtain ⟨_, _, _, _, _, _, rfl, _⟩ := h; rfl) | (obtain ⟨_, _, _, _, _, _, _, rfl, _⟩ := h; rfl) | (obtain ⟨_, _, _, _, _, _, _, _, rfl, _⟩ := h; rfl) | (obtain ⟨_, _, _, _, _, _, _, _, _, rfl, _⟩ := h; rfl) | (obtain ⟨_, _, _, _, _, _, _, _, _, _, rfl, _⟩ := h; rfl) | (obtain ⟨_, _, _, _, _, _, _, _, _, _, _, rfl, _⟩ := h; rfl) | (obtain ⟨_, _, _, _, _, _, _, _, _, _, _, _, rfl, _⟩ := h; rfl) | (obtain ⟨_, _, _, _, _, _, _, _, _, _, _, _, _, rfl, _⟩ := h; rfl) | (obtain ⟨_, _, _, _, _, _, _, _, _, _, _, _, _, _, rfl, _⟩ := h; rfl) | (obtain ⟨_, _, _, _, _, _, _, _, _, _, _, _, _, _, _, rfl, _⟩ := h; rfl) | (obtain ⟨_, _, _, _, _, _, _, _, _, _, _, _, _, _, _, _, rfl, _⟩ := h; rfl) | (obtain ⟨_, _, _, _, _, _, _, _, _, _, _, _, _, _, _, _, _, rfl, _⟩ := h; rfl) | (obtain ⟨_, _, _, _, _, _, _, _, _, _, _, _, _, _, _, _, _, _, rfl, _⟩ := h; rfl) | (obtain ⟨_, _, _, _, _, _, _, _, _, _, _, _, _, _, _, _, _, _, _, rfl, _⟩ := h; rfl) | (obtain ⟨_, _, _, _, _, _, _, _, _, _, _, _, _, _, _, _, _, _, _, _, rfl, _⟩ := h; rfl) | (obtain ⟨_, _, _, _, _, _, _, _, _, _, _, _, _, _, _, _, _, _, _, _, _, rfl, _⟩ := h; rfl) | (obtain ⟨_, _, _, _, _, _, _, _, _, _, _, _, _, _, _, _, _, _, _, _, _, _, rfl, _⟩ := h; rfl) | (obtain ⟨_, _, _, _, _, _, _, _, _, _, _, _, _, _, _, _, _, _, _, _, _, _, _, rfl, _⟩ := h; rfl)
  · obtain ⟨t, a, b, c, d, rfl, ht, ⟨ba, bb, bc, bd⟩, q⟩ := h
    refine ⟨_, (pss_cons (ps_asg (pv 0) (pg_tup (by rfl) (pgs_cons (pg_name (i := 1) sc_l_discriminant.nd rfl (.inl rfl)) (pgs_cons (pg_name (i := 2) sc_l_discriminant.nd rfl (.inl rfl)) (pgs_cons (pg_name (i := 3) sc_l_discriminant.nd rfl (.inl rfl)) (pgs_cons (pg_name (i := 4) sc_l_discriminant.nd rfl (.inl rfl)) pgs_nil))))))
    (pss_cons (ps_set (i := 5) sc_l_discriminant.nd rfl (.inl rfl) (pe_op op_sub (pe_op op_sub (pe_op op_mulW (pe_op op_mulW (pe_op op_mulW (pv 2) (pv 2)) (pv 3)) (pv 3)) (pe_op op_mulW (pe_op op_mulW (pe_op op_mulW (pe_op op_mulW pe_int (pv 1)) (pv 3)) (pv 3)) (pv 3))) (pe_op op_mulW (pe_op op_mulW (pe_op op_mulW (pe_op op_mulW pe_int (pv 2)) (pv 2)) (pv 2)) (pv 4))))
    (pss_one (ps_ret (pe_op op_add (pe_op op_sub (pv 5) (pe_op op_mulW (pe_op op_mulW (pe_op op_mulW (pe_op op_mulW pe_int (pv 1)) (pv 1)) (pv 4)) (pv 4))) (pe_op op_mulW (pe_op op_mulW (pe_op op_mulW (pe_op op_mulW pe_int (pv 1)) (pv 2)) (pv 3)) (pv 4))))))), ?_⟩
    refine ⟨_, rfl, unI4 ht ?_⟩
    refine ⟨_, rfl, _, rfl, _, _, rfl, rfl, mulB (by with_reducible assumption) (by with_reducible assumption) (by decide), _, rfl, _, _, rfl, rfl, mulB (B.mul (by with_reducible assumption) (by with_reducible assumption)) (by with_reducible assumption) (by decide), _, rfl, _, _, rfl, rfl, mulB (B.mul (B.mul (by with_reducible assumption) (by with_reducible assumption)) (by with_reducible assumption)) (by with_reducible assumption) (by decide), _, rfl, _, _, rfl, rfl, mulB (B.lit (by decide)) (by with_reducible assumption) (by decide), _, rfl, _, _, rfl, rfl, mulB (B.mul (B.lit (by decide)) (by with_reducible assumption)) (by with_reducible assumption) (by decide), _, rfl, _, _, rfl, rfl, mulB (B.mul (B.mul (B.lit (by decide)) (by with_reducible assumption)) (by with_reducible assumption)) (by with_reducible assumption) (by decide), _, rfl, _, _, rfl, rfl, mulB (B.mul (B.mul (B.mul (B.lit (by decide)) (by with_reducible assumption)) (by with_reducible assumption)) (by with_reducible assumption)) (by with_reducible assumption) (by decide), _, _, rfl, rfl, _, rfl, _, _, rfl, rfl, mulB (B.lit (by decide)) (by with_reducible assumption) (by decide), _, rfl, _, _, rfl, rfl, mulB (B.mul (B.lit (by decide)) (by with_reducible assumption)) (by with_reducible assumption) (by decide), _, rfl, _, _, rfl, rfl, mulB (B.mul (B.mul (B.lit (by decide)) (by with_reducible assumption)) (by with_reducible assumption)) (by with_reducible assumption) (by decide), _, rfl, _, _, rfl, rfl, mulB (B.mul (B.mul (B.mul (B.lit (by decide)) (by with_reducible assumption)) (by with_reducible assumption)) (by with_reducible assumption)) (by with_reducible assumption) (by decide), _, _, rfl, rfl, ?_⟩
    exact ⟨_, rfl, _, rfl, _, _, rfl, rfl, mulB (B.lit (by decide)) (by with_reducible assumption) (by decide), _, rfl, _, _, rfl, rfl, mulB (B.mul (B.lit (by decide)) (by with_reducible assumption)) (by with_reducible assumption) (by decide), _, rfl, _, _, rfl, rfl, mulB (B.mul (B.mul (B.lit (by decide)) (by with_reducible assumption)) (by with_reducible assumption)) (by with_reducible assumption) (by decide), _, rfl, _, _, rfl, rfl, mulB (B.mul (B.mul (B.mul (B.lit (by decide)) (by with_reducible assumption)) (by with_reducible assumption)) (by with_reducible assumption)) (by with_reducible assumption) (by decide), _, _, rfl, rfl, _, rfl, _, _, rfl, rfl, mulB (B.lit (by decide)) (by with_reducible assumption) (by decide), _, rfl, _, _, rfl, rfl, mulB (B.mul (B.lit (by decide)) (by with_reducible assumption)) (by with_reducible assumption) (by decide), _, rfl, _, _, rfl, rfl, mulB (B.mul (B.mul (B.lit (by decide)) (by with_reducible assumption)) (by with_reducible assumption)) (by with_reducible assumption) (by decide), _, rfl, _, _, rfl, rfl, mulB (B.mul (B.mul (B.mul (B.lit (by decide)) (by with_reducible assumption)) (by with_reducible assumption)) (by with_reducible assumption)) (by with_reducible assumption) (by decide), _, _, rfl, rfl, q⟩
end
end K16
namespace K16
open PySem PySem.Spec PyProof.Rows L2 Fr
def sp_l_mixed (_ : PySem.W.Frag) (_ _ _ : Addr) : Sp := fun vs H Q _ => ∃ (t l r : Addr) (a b c d e f g h i u x y v z s : Int), vs = [.ref t, .ref l, .ref r] ∧ L33 H t [a, b, c] [d, e, f] [g, h, i] ∧ Ti H l [u, x, y] ∧ Ti H r [v, z, s] ∧ B3 2100 a b c ∧ B3 2100 d e f ∧ B3 2100 g h i ∧ B3 9000 u x y ∧ B3 1000 v z s ∧ ∀ o H', Ex0 H H' → Ti H' o [m0 a d g u x y v z s, m1 b e h u x y v z s, m2 c f i u x y v z s] → Q (.ref o) H'
def sp_l_images (_ : PySem.W.Frag) (_ _ _ : Addr) : Sp := fun vs H Q _ => ∃ (t l : Addr) (a b c d e f g h i u x y : Int), vs = [.ref t, .ref l] ∧ L33 H t [a, b, c] [d, e, f] [g, h, i] ∧ Ti H l [u, x, y] ∧ B3 2100 a b c ∧ B3 2100 d e f ∧ B3 2100 g h i ∧ B3 9000 u x y ∧ ∀ o H', Ex0 H H' → L33 H' o [u, x, y] [m0 a d g u x y 0 1 0, m1 b e h u x y 0 1 0, m2 c f i u x y 0 1 0] [m0 a d g u x y 0 0 1, m1 b e h u x y 0 0 1, m2 c f i u x y 0 0 1] → Q (.ref o) H'
theorem gs_step {i : Nat} {M : Nat} {p q r s n : Int} (hp : p.natAbs ≤ M) (hq : q.natAbs ≤ M) (hr : r.natAbs ≤ M) (hs : s.natAbs ≤ M) (hn : n.natAbs ≤ 2) (hd : p * s - q * r = 1 ∨ p * s - q * r = -1) :
    (r + n * p).natAbs ≤ 3 * M ∧ (s + n * q).natAbs ≤ 3 * M ∧ p.natAbs ≤ 3 * M ∧ q.natAbs ≤ 3 * M ∧ ((r + n * p) * q - (s + n * q) * p = 1 ∨ (r + n * p) * q - (s + n * q) * p = -1) := by
  have h1 : (n * p).natAbs ≤ 2 * M := by rw [Int.natAbs_mul]; exact Nat.mul_le_mul hn hp
  have h2 : (n * q).natAbs ≤ 2 * M := by rw [Int.natAbs_mul]; exact Nat.mul_le_mul hn hq
  have e : (r + n * p) * q - (s + n * q) * p = -(p * s - q * r) := by grind
  refine ⟨by omega, by omega, by omega, by omega, ?_⟩
  rw [e]
  omega
section
variable {P : Program} {w : World} {K : PySem.W.Frag} {mg : Str → Option Value} {base : Heap} {C_Form C_Ring C_Element : Addr}
theorem ok_l_minors (T : Txt K mg C_Form C_Ring C_Element) : Def P w K mg base 1 "_law_minors" ["_law_rows_here"] (sp_l_minors K C_Form C_Ring C_Element) := by
  obtain ⟨f_, fd_, g_, F_⟩ := T.d_l_minors
  refine ⟨f_, fd_, g_, F_.kp, F_.binds (ps := ["_law_rows_here"]) (fun _ _ _ _ _ _ us hl => match us, hl with | [_], _ => rfl), ?_⟩
  refine F_.ok sc_l_minors (fun vs H Q E h => ?_) (fun cdv A outer s H vs Q E hr h => ?_)
  · first | (obtain ⟨rfl, _⟩ := h; rfl) | (obtain ⟨_, rfl, _⟩ := h; rfl) | (obtain ⟨_, _, rfl, _⟩ := h; rfl) | (obtain ⟨_, _, _, rfl, _⟩ := h; rfl) | (obtain ⟨_, _, _, _, rfl, _⟩ := h; rfl) | (obtain ⟨_, _, _, _, _, rfl, _⟩ := h; rfl) | (obtain ⟨_, _, _, _, _, _, rfl, _⟩ := h; rfl) | (obtain ⟨_, _, _, _, _, _, _, rfl, _⟩ := h; rfl) | (obtain ⟨_, _, _, _, _, _, _, _, rfl, _⟩ := h; rfl) | (obtain ⟨_, _, _, _, _, _, _, _, _, rfl, _⟩ := h; rfl) | (obtain ⟨_, _, _, _, _, _, _, _, _, _, rfl, _⟩ := h; rfl) | (obtain ⟨_, _, _, _, _, _, _, _, _, _, _, rfl, _⟩ := h; rfl) | (obtain ⟨_, _, _, _, _, _, _, _, _, _, _, _, rfl, _⟩ := h; rfl) | (obtain ⟨_, _, _, _, _, _, _, _, _, _, _, _, _, rfl, _⟩ := h; rfl) | (obtain ⟨_, _, _, _, _, _, _, _, _, _, _, _, _, _, rfl, _⟩ := h; rfl) | (obtain ⟨_, _, _, _, _, _, _, _, _, _, _, _, _, _, _, rfl, _⟩ := h; rfl) | (obtain ⟨_, _, _, _, _, _, _, _, _, _, _, _, _, _, _, _, rfl, _⟩ := h; rfl) | (obtain ⟨_, _, _, _, _, _, _, _, _, _, _, _, _, _, _, _, _, rfl, _⟩ := h; rfl) | (obtain ⟨_, _, _, _, _, _, _, _, _, _, _, _, _, _, _, _, _, _, rfl, _⟩ := h; rfl) | (obtain ⟨_, _, _, _, _, _, _, _, _, _, _, _, _, _, _, _, _, _, _, rfl, _⟩ := h; rfl) | (obtain ⟨_, _, _, _, _, _, _, _, _, _, _, _, _, _, _, _, _, _, _, _, rfl, _⟩ := h; rfl) | (obtain ⟨_, _, _, _, _, _, _, _, _, _, _, _, _, _, _, _, _, _, _, _, _, rfl, _⟩ := h; rfl) | (obtain ⟨_, _, _, _, _, _, _, _, _, _, _, _, _, _, _, _, _, _, _, _, _, _, rfl, _⟩ := h; rfl) | (obtain ⟨_, _, _, _, _, _, _, _, _, _, _, _, _, _, _, _, _, _, _, _, _, _, _, rfl, _⟩ := h; rfl)
  · obtain ⟨t, a, b, c, d, e, f, g, h', i, rfl, ht, ⟨ba, bb, bc⟩, ⟨bd, be, bf⟩, ⟨bg, bh, bi⟩, q⟩ := h
    refine ⟨_, (Evl.pss_cut (ps_asg (pv 0) (pg_lst (by rfl) (pgs_cons (pg_tup (by rfl) (pgs_cons (pg_name (i := 1) sc_l_minors.nd rfl (.inl rfl)) (pgs_cons (pg_name (i := 2) sc_l_minors.nd rfl (.inl rfl)) (pgs_cons (pg_name (i := 3) sc_l_minors.nd rfl (.inl rfl)) pgs_nil)))) (pgs_cons (pg_tup (by rfl) (pgs_cons (pg_name (i := 4) sc_l_minors.nd rfl (.inl rfl)) (pgs_cons (pg_name (i := 5) sc_l_minors.nd rfl (.inl rfl)) (pgs_cons (pg_name (i := 6) sc_l_minors.nd rfl (.inl rfl)) pgs_nil)))) (pgs_cons (pg_tup (by rfl) (pgs_cons (pg_name (i := 7) sc_l_minors.nd rfl (.inl rfl)) (pgs_cons (pg_name (i := 8) sc_l_minors.nd rfl (.inl rfl)) (pgs_cons (pg_name (i := 9) sc_l_minors.nd rfl (.inl rfl)) pgs_nil)))) pgs_nil)))))
    (pss_one (ps_ret (pe_tup (pa_cons (pe_op op_add (pe_op op_add (pv 1) (pv 5)) (pv 9)) (pa_cons (pe_op op_sub (pe_op op_add (pe_op op_sub (pe_op op_add (pe_op op_sub (pe_op op_mulW (pv 1) (pv 5)) (pe_op op_mulW (pv 2) (pv 4))) (pe_op op_mulW (pv 1) (pv 9))) (pe_op op_mulW (pv 3) (pv 7))) (pe_op op_mulW (pv 5) (pv 9))) (pe_op op_mulW (pv 6) (pv 8))) pa_nil)))))), ?_⟩
    refine ⟨fun σ H' => σ = [some (.ref t), some (.int a), some (.int b), some (.int c), some (.int d), some (.int e), some (.int f), some (.int g), some (.int h'), some (.int i)] ∧ H' = H, ⟨_, rfl, unL33 ht ⟨rfl, rfl⟩⟩, ?_⟩
    rintro σ H' ⟨rfl, rfl⟩
    refine ⟨_, rfl, _, rfl, _, _, rfl, rfl, _, rfl, _, _, rfl, rfl, _, rfl, _, rfl, _, _, rfl, rfl, mulB (by with_reducible assumption) (by with_reducible assumption) (by decide), _, rfl, _, rfl, _, _, rfl, rfl, mulB (by with_reducible assumption) (by with_reducible assumption) (by decide), _, _, rfl, rfl, _, rfl, _, rfl, _, _, rfl, rfl, mulB (by with_reducible assumption) (by with_reducible assumption) (by decide), _, _, rfl, rfl, _, rfl, _, rfl, _, _, rfl, rfl, mulB (by with_reducible assumption) (by with_reducible assumption) (by decide), _, _, rfl, rfl, _, rfl, _, rfl, _, _, rfl, rfl, mulB (by with_reducible assumption) (by with_reducible assumption) (by decide), _, _, rfl, rfl, _, rfl, _, rfl, _, _, rfl, rfl, mulB (by with_reducible assumption) (by with_reducible assumption) (by decide), _, _, rfl, rfl, sl2, fun x nx => ?_⟩
    exact q x _ _ (Ex0.new nx) upd_same
theorem ok_l_coefficients (T : Txt K mg C_Form C_Ring C_Element) : Def P w K mg base 4 "_law_coefficients" ["_law_vat_here"] (sp_l_coefficients K C_Form C_Ring C_Element) := by
  obtain ⟨f_, fd_, g_, F_⟩ := T.d_l_coefficients
  obtain ⟨f_l_drip, fd_l_drip, g_l_drip, k_l_drip, b_l_drip, G_l_drip⟩ := (ok_l_drip (P := P) (w := w) (base := base) T)
  obtain ⟨f_l_int, fd_l_int, g_l_int, k_l_int, b_l_int, G_l_int⟩ := (ok_l_int (P := P) (w := w) (base := base) T)
  obtain ⟨f_l_some_of, fd_l_some_of, g_l_some_of, k_l_some_of, b_l_some_of, G_l_some_of⟩ := (ok_l_some_of (P := P) (w := w) (base := base) T)
  refine ⟨f_, fd_, g_, F_.kp, F_.binds (ps := ["_law_vat_here"]) (fun _ _ _ _ _ _ us hl => match us, hl with | [_], _ => rfl), ?_⟩
  refine F_.ok sc_l_coefficients (fun vs H Q E h => ?_) (fun cdv A outer s H vs Q E hr h => ?_)
  · first | (obtain ⟨rfl, _⟩ := h; rfl) | (obtain ⟨_, rfl, _⟩ := h; rfl) | (obtain ⟨_, _, rfl, _⟩ := h; rfl) | (obtain ⟨_, _, _, rfl, _⟩ := h; rfl) | (obtain ⟨_, _, _, _, rfl, _⟩ := h; rfl) | (obtain ⟨_, _, _, _, _, rfl, _⟩ := h; rfl) | (obtain ⟨_, _, _, _, _, _, rfl, _⟩ := h; rfl) | (obtain ⟨_, _, _, _, _, _, _, rfl, _⟩ := h; rfl) | (obtain ⟨_, _, _, _, _, _, _, _, rfl, _⟩ := h; rfl) | (obtain ⟨_, _, _, _, _, _, _, _, _, rfl, _⟩ := h; rfl) | (obtain ⟨_, _, _, _, _, _, _, _, _, _, rfl, _⟩ := h; rfl) | (obtain ⟨_, _, _, _, _, _, _, _, _, _, _, rfl, _⟩ := h; rfl) | (obtain ⟨_, _, _, _, _, _, _, _, _, _, _, _, rfl, _⟩ := h; rfl) | (obtain ⟨_, _, _, _, _, _, _, _, _, _, _, _, _, rfl, _⟩ := h; rfl) | (obtain ⟨_, _, _, _, _, _, _, _, _, _, _, _, _, _, rfl, _⟩ := h; rfl) | (obtain ⟨_, _, _, _, _, _, _, _, _, _, _, _, _, _, _, rfl, _⟩ := h; rfl) | (obtain ⟨_, _, _, _, _, _, _, _, _, _, _, _, _, _, _, _, rfl, _⟩ := h; rfl) | (obtain ⟨_, _, _, _, _, _, _, _, _, _, _, _, _, _, _, _, _, rfl, _⟩ := h; rfl) | (obtain ⟨_, _, _, _, _, _, _, _, _, _, _, _, _, _, _, _, _, _, rfl, _⟩ := h; rfl) | (obtain ⟨_, _, _, _, _, _, _, _, _, _, _, _, _, _, _, _, _, _, _, rfl, _⟩ := h; rfl) | (obtain ⟨_, _, _, _, _, _, _, _, _, _, _, _, _, _, _, _, _, _, _, _, rfl, _⟩ := h; rfl) | (obtain ⟨_, _, _, _, _, _, _, _, _, _, _, _, _, _, _, _, _, _, _, _, _, rfl, _⟩ := h; rfl) | (obtain ⟨_, _, _, _, _, _, _, _, _, _, _, _, _, _, _, _, _, _, _, _, _, _, rfl, _⟩ := h; rfl) | (obtain ⟨_, _, _, _, _, _, _, _, _, _, _, _, _, _, _, _, _, _, _, _, _, _, _, rfl, _⟩ := h; rfl)
  · obtain ⟨c, rfl, hc, q⟩ := h
    refine ⟨_, (pss_cons (ps_set (i := 1) sc_l_coefficients.nd rfl (.inl rfl) (pe_call G_l_drip (hr.mono (by decide)) (by rfl) g_l_drip k_l_drip b_l_drip .nil pass0 (pa_cons (pv 0) (pa_cons pe_int pa_nil))))
    (Evl.pss_cut (ps_set (i := 2) sc_l_coefficients.nd rfl (.inl rfl) (pe_callTy call_tuple_of (by rfl) T.b_tuple (by decide +kernel) (pa_cons (pe_lc (own := [("_law_turn", 4)]) (g := (gName 4)) rfl sc_l_coefficients.nd (pi_range1 (by rfl) T.b_range (pa_cons pe_int pa_nil)) (blkOk_by (N := N_l_coefficients) (sc := defScope s_l_coefficients) (by decide +kernel)) (fun _ _ _ _ _ => (pg_name (i := 4) sc_l_coefficients.nd rfl (.inl rfl))) (fun _ _ _ _ _ => pts_nil) (fun _ _ _ _ _ => (pe_call G_l_int (hr.mono (by decide)) (by rfl) g_l_int k_l_int b_l_int .nil pass0 (pa_cons (pv 0) pa_nil)))) pa_nil)))
    (pss_cons (ps_if (pt_cmpR op_eq (pv 1) pe_int (nomark _))
      (pss_one (ps_ret (pe_op op_catT (pe_tup (pa_cons pe_int (pa_cons pe_int pa_nil))) (pe_slice sl_tupA (pv 2) (po_some pe_int) po_none))))
      pss_nil)
    (pss_cons (ps_if (pt_cmpR op_eq (pv 1) pe_int (nomark _))
      (pss_cons (ps_set (i := 3) sc_l_coefficients.nd rfl (.inr rfl) (pe_call G_l_some_of (hr.mono (by decide)) (by rfl) g_l_some_of k_l_some_of b_l_some_of .nil pass0 (pa_cons (pv 0) (pa_cons (pe_lst (pa_cons pe_int (pa_cons pe_int (pa_cons pe_int pa_nil)))) pa_nil))))
    (pss_one (ps_ret (pe_callTy call_tuple_of (by rfl) T.b_tuple (by decide +kernel) (pa_cons (pe_lc (own := [("_law_entry", 5)]) (g := (gName 5)) rfl sc_l_coefficients.nd (pi_tup (pv 2)) (blkOk_by (N := N_l_coefficients) (sc := defScope s_l_coefficients) (by decide +kernel)) (fun _ _ _ _ _ => (pg_name (i := 5) sc_l_coefficients.nd rfl (.inl rfl))) (fun _ _ _ _ _ => pts_nil) (fun _ _ _ _ _ => (pe_op op_mulW (pv 3) (pv 5)))) pa_nil)))))
      pss_nil)
    (pss_one (ps_ret (pe_ifExp (pt_cmpR op_eq (pv 1) pe_int (nomark _)) (pe_call G_l_some_of (hr.mono (by decide)) (by rfl) g_l_some_of k_l_some_of b_l_some_of .nil pass0 (pa_cons (pv 0) (pa_cons (pe_lst (pa_cons (pe_tup (pa_cons pe_int (pa_cons pe_int (pa_cons pe_int (pa_cons pe_int pa_nil))))) (pa_cons (pe_tup (pa_cons pe_int (pa_cons pe_int (pa_cons (pe_un un_neg pe_int) (pa_cons (pe_un un_neg pe_int) pa_nil))))) (pa_cons (pe_tup (pa_cons pe_int (pa_cons pe_int (pa_cons pe_int (pa_cons pe_int pa_nil))))) (pa_cons (pe_tup (pa_cons pe_int (pa_cons pe_int (pa_cons pe_int (pa_cons (pe_un un_neg pe_int) pa_nil))))) pa_nil))))) pa_nil))) (pv 2)))))))), ?_⟩
    refine ⟨_, rfl, c, 8, rfl, hc, by decide, by decide, fun way H1 w0 w1 e1 => ?_⟩
    refine ⟨fun σ H' => ∃ (t : Addr) (a b e d : Int), σ = [some (.ref c), some (.int way), some (.ref t), none, none, none] ∧ Fv c H H' ∧ Ti H' t [a, b, e, d] ∧ (∀ n ∈ [a, b, e, d], n.natAbs ≤ 1000000), ?_, ?_⟩
    · refine ⟨_, rfl, by decide, by decide, ?_⟩
      refine lcR (fmV c) e1.1 (fun i acc _ => ∃ ns : List Int, acc = ns.map V.int ∧ ns.length = i ∧ ∀ n ∈ ns, n.natAbs ≤ 1000000) (fun _ _ => ⟨[], rfl, rfl, fun _ h => by cases h⟩) (fun D i acc H3 hD hi e3 hA hlen hp => ?_) (fun D H3 acc hD e3 hA hp => ?_)
      · obtain ⟨ns, rfl, hln, hns⟩ := hp
        have hi' : i < 4 := by simpa using hi
        refine ⟨rfl, ?_⟩
        refine ⟨_, rfl, c, rfl, e3.1, fun z H4 hz e4 => ?_⟩
        refine cs_yes (fmV c) e1.1 hD e3 hA hlen (by omega) e4 ⟨ns ++ [z], by rw [List.map_append]; rfl, by rw [List.length_append, hln]; rfl, fun n hn => ?_⟩
        rcases List.mem_append.mp hn with h | h
        · exact hns n h
        · have : n = z := by simpa using h
          rw [this]
          exact hz
      · obtain ⟨ns, rfl, hln, hns⟩ := hp
        refine ⟨D, _, rfl, .inl ⟨SqL.of hA, fun p np => ?_⟩⟩
        obtain ⟨A1, A2, A3, A4, rfl⟩ : ∃ A1 A2 A3 A4, ns = [A1, A2, A3, A4] := by
          have hln' : ns.length = 4 := by simpa using hln
          match ns, hln' with
          | [x, y, z, u], _ => exact ⟨x, y, z, u, rfl⟩
        exact ⟨p, A1, A2, A3, A4, rfl, e1.trans (e3.trans (fv_new e3.1 np)), upd_same, hns⟩
    rintro σ H2 ⟨t, a, b, e, d, rfl, e2, ht, hn⟩
    have wk : ∀ n ∈ [a, b, e, d], n.natAbs ≤ 6000000 := fun n h => Nat.le_trans (hn n h) (by decide)
    have hb : ∀ n ∈ [a, b, e, d], B 1000 n := fun n h => ⟨Nat.lt_of_le_of_lt (hn n h) (by decide), by decide⟩
    refine ⟨_, rfl, rfl, _, rfl, iteE (fun g => ?_) (fun g => ?_)⟩
    · refine ⟨sl2, fun t0 n0 => ?_⟩
      have e3 : Fv c H2 (upd H2 t0 (.tup [.int 0, .int 0])) := fv_new e2.1 n0
      have ht3 := fv_tup e2.1 e3 ht
      refine ⟨_, rfl, 2, rfl, t, _, rfl, SqT.of ht3, fun z => absurd (show (2 : Nat) = 0 from z.1) (by decide), fun _ p np => ?_⟩
      have e4 : Fv c (upd H2 t0 (.tup [.int 0, .int 0])) (upd (upd H2 t0 (.tup [.int 0, .int 0])) p (.tup [.int e, .int d])) := fv_new e3.1 np
      refine ⟨t0, p, _, [.int e, .int d], rfl, rfl, SqT.of (fv_tup e3.1 e4 upd_same), SqT.of upd_same, by simp, by show 4 ≤ sizeLine; decide, fun z => absurd z (by simp), fun _ p2 np2 => ?_⟩
      refine q p2 0 0 e d _ (e2.trans (e3.trans (e4.trans (fv_new e4.1 np2)))) upd_same (fun n h => ?_)
      simp only [List.mem_cons, List.mem_nil_iff, or_false] at h
      rcases h with rfl | rfl | rfl | rfl
      · decide
      · decide
      · exact wk _ (by simp)
      · exact wk _ (by simp)
    refine ⟨_, rfl, rfl, _, rfl, iteE (fun g1 => ?_) (fun g1 => ?_)⟩
    · refine ⟨_, rfl, sl3, fun l nl => ?_⟩
      refine ⟨c, l, [.int 2, .int 3, .int 6], rfl, vat_new e2.1 nl, upd_same, fv_ne e2.1 nl, by simp, by decide, fun v H3 hv e3 => ?_⟩
      obtain ⟨f, rfl, f1, f2⟩ := in_b (lo := 2) (hi := 6) hv (by decide)
      have e4 : Fv c H2 H3 := (fv_new e2.1 nl).trans e3
      have ht3 := fv_tup e2.1 e4 ht
      have bf : B 1000 f := ⟨Nat.lt_of_le_of_lt (by omega : f.natAbs ≤ 6) (by decide), by decide⟩
      refine ⟨_, rfl, t, rfl, ⟨_, SqT.of ht3⟩, ?_⟩
      refine lcT fm0 trivial (SqT.of ht3) (fun z => z) (fun i acc _ => acc = (([a, b, e, d].take i).map fun x => f * x).map V.int) (fun _ _ => rfl) (fun D i x acc H' hD hx' e5 hA hlen hp => ?_) (fun D H' acc hD e5 hA hp => ?_)
      · obtain ⟨z, hz, rfl⟩ := get_int hx'
        have hi := (List.getElem?_eq_some_iff.mp hz).1
        refine ⟨rfl, ?_⟩
        refine ⟨_, rfl, _, rfl, _, _, rfl, rfl, mulB bf (hb _ (List.mem_of_getElem? hz)) (by decide), ?_⟩
        refine cs_yes fm0 trivial hD e5 hA hlen (by show i < 1000000; have : i < 4 := hi; omega) (Fx.refl trivial) ?_
        rw [hp, List.take_add_one, hz, List.map_append, List.map_append]
        rfl
      · rw [List.length_map, List.take_length] at hp
        subst hp
        refine ⟨D, _, rfl, .inl ⟨SqL.of hA, fun p np => ?_⟩⟩
        refine q p (f * a) (f * b) (f * e) (f * d) _ (e2.trans (e4.trans (fv_ex e4.1 (Fx.trans e5 (Ex0.new np))))) upd_same (fun n h => ?_)
        have six : ∀ x ∈ [a, b, e, d], (f * x).natAbs ≤ 6000000 := fun x hx => by
          rw [Int.natAbs_mul]
          exact Nat.mul_le_mul (by omega : f.natAbs ≤ 6) (hn x hx)
        simp only [List.mem_cons, List.mem_nil_iff, or_false] at h
        rcases h with rfl | rfl | rfl | rfl <;> exact six _ (by simp)
    · refine ⟨_, rfl, rfl, _, rfl, iteE (fun g2 => ?_) (fun g2 => ?_)⟩
      · refine ⟨_, rfl, sl4, fun t1 n1 => ⟨_, rfl, _, rfl, sl4, fun t2 n2 => ⟨sl4, fun t3 n3 => ⟨_, rfl, sl4, fun t4 n4 => ⟨sl4, fun l nl => ?_⟩⟩⟩⟩⟩
        have f1 := fv_new (o := .tup [.int 1, .int 1, .int 2, .int 1]) e2.1 n1
        have f2 := fv_new (o := .tup [.int 1, .int 2, .int (-1), .int (-1)]) f1.1 n2
        have f3 := fv_new (o := .tup [.int 0, .int 1, .int 1, .int 0]) f2.1 n3
        have f4 := fv_new (o := .tup [.int 1, .int 0, .int 0, .int (-2)]) f3.1 n4
        have f5 := fv_new (o := .lst [.ref t1, .ref t2, .ref t3, .ref t4]) f4.1 nl
        refine ⟨c, l, [.ref t1, .ref t2, .ref t3, .ref t4], rfl, f5.1, upd_same, fv_ne f4.1 nl, by simp, by show 4 ≤ 1000; decide, fun v H3 hv e3 => ?_⟩
        have k4 := f5.trans e3
        have k3 := f4.trans k4
        have k2 := f3.trans k3
        have k1 := f2.trans k2
        have all := e2.trans (f1.trans k1)
        have sm : ∀ ns : List Int, (ns.all fun n => decide (n.natAbs ≤ 6000000)) = true → ∀ n ∈ ns, n.natAbs ≤ 6000000 := fun ns h n hn => of_decide_eq_true (List.all_eq_true.mp h n hn)
        simp only [List.mem_cons, List.mem_nil_iff, or_false] at hv
        rcases hv with rfl | rfl | rfl | rfl
        · exact q t1 1 1 2 1 _ all (fv_tup f1.1 k1 upd_same) (sm _ (by decide))
        · exact q t2 1 2 (-1) (-1) _ all (fv_tup f2.1 k2 upd_same) (sm _ (by decide))
        · exact q t3 0 1 1 0 _ all (fv_tup f3.1 k3 upd_same) (sm _ (by decide))
        · exact q t4 1 0 0 (-2) _ all (fv_tup f4.1 k4 upd_same) (sm _ (by decide))
      · exact ⟨_, rfl, q t a b e d _ e2 ht wk⟩
theorem ok_l_change (T : Txt K mg C_Form C_Ring C_Element) : Def P w K mg base 3 "_law_change" ["_law_vat_here"] (sp_l_change K C_Form C_Ring C_Element) := by
  obtain ⟨f_, fd_, g_, F_⟩ := T.d_l_change
  obtain ⟨f_l_drip, fd_l_drip, g_l_drip, k_l_drip, b_l_drip, G_l_drip⟩ := (ok_l_drip (P := P) (w := w) (base := base) T)
  obtain ⟨f_l_some_of, fd_l_some_of, g_l_some_of, k_l_some_of, b_l_some_of, G_l_some_of⟩ := (ok_l_some_of (P := P) (w := w) (base := base) T)
  refine ⟨f_, fd_, g_, F_.kp, F_.binds (ps := ["_law_vat_here"]) (fun _ _ _ _ _ _ us hl => match us, hl with | [_], _ => rfl), ?_⟩
  refine F_.ok sc_l_change (fun vs H Q E h => ?_) (fun cdv A outer s H vs Q E hr h => ?_)
  · first | (obtain ⟨rfl, _⟩ := h; rfl) | (obtain ⟨_, rfl, _⟩ := h; rfl) | (obtain ⟨_, _, rfl, _⟩ := h; rfl) | (obtain ⟨_, _, _, rfl, _⟩ := h; rfl) | (obtain ⟨_, _, _, _, rfl, _⟩ := h; rfl) | (obtain ⟨_, _, _, _, _, rfl, _⟩ := h; rfl) | (obtain ⟨_, _, _, _, _, _, rfl, _⟩ := h; rfl) | (obtain ⟨_, _, _, _, _, _, _, rfl, _⟩ := h; rfl) | (obtain ⟨_, _, _, _, _, _, _, _, rfl, _⟩ := h; rfl) | (obtain ⟨_, _, _, _, _, _, _, _, _, rfl, _⟩ := h; rfl) | (obtain ⟨_, _, _, _, _, _, _, _, _, _, rfl, _⟩ := h; rfl) | (obtain ⟨_, _, _, _, _, _, _, _, _, _, _, rfl, _⟩ := h; rfl) | (obtain ⟨_, _, _, _, _, _, _, _, _, _, _, _, rfl, _⟩ := h; rfl) | (obtain ⟨_, _, _, _, _, _, _, _, _, _, _, _, _, rfl, _⟩ := h; rfl) | (obtain ⟨_, _, _, _, _, _, _, _, _, _, _, _, _, _, rfl, _⟩ := h; rfl) | (obtain ⟨_, _, _, _, _, _, _, _, _, _, _, _, _, _, _, rfl, _⟩ := h; rfl) | (obtain ⟨_, _, _, _, _, _, _, _, _, _, _, _, _, _, _, _, rfl, _⟩ := h; rfl) | (obtain ⟨_, _, _, _, _, _, _, _, _, _, _, _, _, _, _, _, _, rfl, _⟩ := h; rfl) | (obtain ⟨_, _, _, _, _, _, _, _, _, _, _, _, _, _, _, _, _, _, rfl, _⟩ := h; rfl) | (obtain ⟨_, _, _, _, _, _, _, _, _, _, _, _, _, _, _, _, _, _, _, rfl, _⟩ := h; rfl) | (obtain ⟨_, _, _, _, _, _, _, _, _, _, _, _, _, _, _, _, _, _, _, _, rfl, _⟩ := h; rfl) | (obtain ⟨_, _, _, _, _, _, _, _, _, _, _, _, _, _, _, _, _, _, _, _, _, rfl, _⟩ := h; rfl) | (obtain ⟨_, _, _, _, _, _, _, _, _, _, _, _, _, _, _, _, _, _, _, _, _, _, rfl, _⟩ := h; rfl) | (obtain ⟨_, _, _, _, _, _, _, _, _, _, _, _, _, _, _, _, _, _, _, _, _, _, _, rfl, _⟩ := h; rfl)
  · obtain ⟨c, rfl, hc, q⟩ := h
    refine ⟨_, (Evl.pss_cut (ps_asg (pe_call G_l_some_of (hr.mono (by decide)) (by rfl) g_l_some_of k_l_some_of b_l_some_of .nil pass0 (pa_cons (pv 0) (pa_cons (pe_lst (pa_cons (pe_tup (pa_cons (pe_tup (pa_cons pe_int (pa_cons pe_int pa_nil))) (pa_cons (pe_tup (pa_cons pe_int (pa_cons pe_int pa_nil))) pa_nil))) (pa_cons (pe_tup (pa_cons (pe_tup (pa_cons pe_int (pa_cons pe_int pa_nil))) (pa_cons (pe_tup (pa_cons pe_int (pa_cons pe_int pa_nil))) pa_nil))) (pa_cons (pe_tup (pa_cons (pe_tup (pa_cons pe_int (pa_cons pe_int pa_nil))) (pa_cons (pe_tup (pa_cons pe_int (pa_cons (pe_un un_neg pe_int) pa_nil))) pa_nil))) (pa_cons (pe_tup (pa_cons (pe_tup (pa_cons pe_int (pa_cons (pe_un un_neg pe_int) pa_nil))) (pa_cons (pe_tup (pa_cons pe_int (pa_cons pe_int pa_nil))) pa_nil))) pa_nil))))) pa_nil))) (pg_tup (by rfl) (pgs_cons (pg_tup (by rfl) (pgs_cons (pg_name (i := 1) sc_l_change.nd rfl (.inl rfl)) (pgs_cons (pg_name (i := 2) sc_l_change.nd rfl (.inl rfl)) pgs_nil))) (pgs_cons (pg_tup (by rfl) (pgs_cons (pg_name (i := 3) sc_l_change.nd rfl (.inl rfl)) (pgs_cons (pg_name (i := 4) sc_l_change.nd rfl (.inl rfl)) pgs_nil))) pgs_nil))))
    (pss_cons (ps_for PassesOwn.never rfl (pi_range1 (by rfl) T.b_range (pa_cons (pe_call G_l_drip (hr.mono (by decide)) (by rfl) g_l_drip k_l_drip b_l_drip .nil pass0 (pa_cons (pv 0) (pa_cons pe_int pa_nil))) pa_nil)) (pg_name (i := 5) sc_l_change.nd rfl (.inl rfl))
      (pss_cons (ps_set (i := 6) sc_l_change.nd rfl (.inl rfl) (pe_op op_sub (pe_call G_l_drip (hr.mono (by decide)) (by rfl) g_l_drip k_l_drip b_l_drip .nil pass0 (pa_cons (pv 0) (pa_cons pe_int pa_nil))) pe_int))
    (pss_cons (ps_par (i := 3) (j := 4) (by rfl) sc_l_change.nd rfl rfl (by decide) rfl rfl (pa_cons (pe_op op_add (pv 3) (pe_op op_mul (pv 6) (pv 1))) (pa_cons (pe_op op_add (pv 4) (pe_op op_mul (pv 6) (pv 2))) pa_nil)) (by rfl))
    (pss_one (ps_asg (pe_tup (pa_cons (pv 3) (pa_cons (pv 4) (pa_cons (pv 1) (pa_cons (pv 2) pa_nil))))) (pg_tup (by rfl) (pgs_cons (pg_name (i := 1) sc_l_change.nd rfl (.inl rfl)) (pgs_cons (pg_name (i := 2) sc_l_change.nd rfl (.inl rfl)) (pgs_cons (pg_name (i := 3) sc_l_change.nd rfl (.inl rfl)) (pgs_cons (pg_name (i := 4) sc_l_change.nd rfl (.inl rfl)) pgs_nil))))))))))
    (pss_one (ps_ret (pe_tup (pa_cons (pe_tup (pa_cons (pv 1) (pa_cons (pv 2) pa_nil))) (pa_cons (pe_tup (pa_cons (pv 3) (pa_cons (pv 4) pa_nil))) pa_nil))))))), ?_⟩
    refine ⟨fun σ H' => ∃ p q' r s' : Int, σ = [some (.ref c), some (.int p), some (.int q'), some (.int r), some (.int s'), none, none] ∧ Fv c H H' ∧ (p.natAbs ≤ 1 ∧ q'.natAbs ≤ 1 ∧ r.natAbs ≤ 1 ∧ s'.natAbs ≤ 1 ∧ (p * s' - q' * r = 1 ∨ p * s' - q' * r = -1)), ?_, ?_⟩
    · have f1 := fun (t : Addr) (xs : List V) (H0 : Hp) (e : Fv c H H0) (n : H0 t = none) => e.trans (fv_new (o := .tup xs) e.1 n)
      refine ⟨_, rfl, sl2, fun a1 n1 => ⟨sl2, fun a2 n2 => ⟨sl2, fun a3 n3 => ?_⟩⟩⟩
      have w1 := t4_new n1 n2 n3
      have g1 := fv_ex hc w1.1
      refine ⟨sl2, fun b1 m1 => ⟨sl2, fun b2 m2 => ⟨sl2, fun b3 m3 => ?_⟩⟩⟩
      have w2 := t4_new m1 m2 m3
      have g2 := fv_ex g1.1 w2.1
      refine ⟨sl2, fun c1 k1 => ⟨_, rfl, sl2, fun c2 k2 => ⟨sl2, fun c3 k3 => ?_⟩⟩⟩
      have w3 := t4_new k1 k2 k3
      have g3 := fv_ex g2.1 w3.1
      refine ⟨_, rfl, sl2, fun d1 j1 => ⟨sl2, fun d2 j2 => ⟨sl2, fun d3 j3 => ?_⟩⟩⟩
      have w4 := t4_new j1 j2 j3
      have g4 := fv_ex g3.1 w4.1
      refine ⟨sl4, fun l nl => ?_⟩
      have g5 := fv_new (o := .lst [.ref a3, .ref b3, .ref c3, .ref d3]) g4.1 nl
      refine ⟨c, l, [.ref a3, .ref b3, .ref c3, .ref d3], rfl, g5.1, upd_same, fv_ne g4.1 nl, by simp, by show 4 ≤ 1000; decide, fun v H3 hv e3 => ?_⟩
      have h4 := g5.trans e3
      have h3 := g4.trans h4
      have h2 := g3.trans h3
      have h1 := g2.trans h2
      have all := g1.trans h1
      have t4 : ∀ {H0 H' : Hp} {x : Addr} {p q r s : Int}, Vat c H0 → Fv c H0 H' → T4 H0 x p q r s → T4 H' x p q r s := fun hc f h => h.ex fun _ _ z => fv_tup hc f z
      simp only [List.mem_cons, List.mem_nil_iff, or_false] at hv
      rcases hv with rfl | rfl | rfl | rfl
      · exact un4 (t4 g1.1 h1 w1.2) ⟨1, 0, 0, 1, rfl, all, by decide⟩
      · exact un4 (t4 g2.1 h2 w2.2) ⟨0, 1, 1, 0, rfl, all, by decide⟩
      · exact un4 (t4 g3.1 h3 w3.2) ⟨1, 0, 0, -1, rfl, all, by decide⟩
      · exact un4 (t4 g4.1 h4 w4.2) ⟨0, -1, 1, 0, rfl, all, by decide⟩
    rintro σ H1 ⟨p, q', r, s', rfl, e1, b1, b2, b3, b4, hd⟩
    refine ⟨_, rfl, c, 4, rfl, e1.1, by decide, by decide, fun n H2 n0 n1 e2 => ?_⟩
    refine ⟨n, rfl, by omega, by omega, ?_⟩
    refine for_range (lo := 0) (fun i σ H' => ∃ (p q' r s' : Int) (y5 y6 : Option V), σ = [some (.ref c), some (.int p), some (.int q'), some (.int r), some (.int s'), y5, y6] ∧ Fv c H H' ∧ i ≤ 3 ∧ (p.natAbs ≤ 3 ^ i ∧ q'.natAbs ≤ 3 ^ i ∧ r.natAbs ≤ 3 ^ i ∧ s'.natAbs ≤ 3 ^ i ∧ (p * s' - q' * r = 1 ∨ p * s' - q' * r = -1))) ?_ ?_ ?_
    · exact ⟨p, q', r, s', none, none, rfl, e1.trans e2, by decide, b1, b2, b3, b4, hd⟩
    · rintro i σ H3 hi ⟨p, q', r, s', y5, y6, rfl, e3, i3, b1, b2, b3, b4, hd⟩
      refine ⟨_, rfl, c, 5, rfl, e3.1, by decide, by decide, fun m H4 m0 m1 e4 => ?_⟩
      refine ⟨_, _, rfl, rfl, ?_⟩
      have m62 : -(2 ^ 64 : Int) < m - 2 ∧ m - 2 < 2 ^ 64 := ⟨by omega, by omega⟩
      refine ⟨_, rfl, _, rfl, _, rfl, _, _, rfl, rfl, .inl m62, _, _, rfl, rfl, ?_⟩
      refine ⟨_, rfl, _, rfl, _, rfl, _, _, rfl, rfl, .inl m62, _, _, rfl, rfl, ?_⟩
      refine ⟨_, _, rfl, ?_⟩
      refine ⟨_, rfl, _, rfl, _, rfl, _, rfl, sl4, fun t nt => unI4 (a := r + (m - 2) * p) (b := s' + (m - 2) * q') (c := p) (d := q') upd_same ?_⟩
      obtain ⟨k1, k2, k3, k4, k5⟩ := gs_step (i := i) b1 b2 b3 b4 (n := m - 2) (by omega) hd
      rw [← Nat.pow_succ'] at k1 k2 k3 k4
      exact ⟨_, _, _, _, _, _, rfl, (e3.trans e4).trans (fv_new e4.1 nt), by omega, k1, k2, k3, k4, k5⟩
    · rintro σ H3 ⟨p, q', r, s', y5, y6, rfl, e3, i3, b1, b2, b3, b4, hd⟩
      refine ⟨_, rfl, _, rfl, sl2, fun t1 n1 => ⟨_, rfl, _, rfl, sl2, fun t2 n2 => ⟨sl2, fun x nx => ?_⟩⟩⟩
      have z := t4_new n1 n2 nx
      have b27 : 3 ^ n.toNat ≤ 729 := Nat.le_trans (Nat.pow_le_pow_right (by decide) i3) (by decide)
      exact q x p q' r s' _ (e3.trans (fv_ex e3.1 z.1)) z.2 ⟨Nat.le_trans b1 b27, Nat.le_trans b2 b27, Nat.le_trans b3 b27, Nat.le_trans b4 b27, hd⟩
end
end K16
namespace K16
open PySem PySem.Spec PyProof.Rows L2 Fr
def adm (f : Int) (xs ys : List Int) : List Int := List.zipWith (fun e m => e + f * m) xs ys
theorem adm_step {f : Int} {xs ys : List Int} {i : Nat} (h1 : i < xs.length) (h2 : i < ys.length) : ((adm f xs ys).take i).map V.int ++ [V.int (xs.getD i 0 + f * ys.getD i 0)] = ((adm f xs ys).take (i + 1)).map V.int := by
  unfold adm
  rw [List.take_add_one, List.map_append, List.getElem?_zipWith, List.getElem?_eq_getElem h1, List.getElem?_eq_getElem h2, List.getD_eq_getElem?_getD, List.getD_eq_getElem?_getD, List.getElem?_eq_getElem h1, List.getElem?_eq_getElem h2]
  rfl
def mxN (u x y v z s : Int) (rows : List (List Int)) : Nat → List Int
  | 0 => adm v [u * v, u * z, u * s] [0, x, y]
  | i + 1 => adm ([x * z, x * s + y * z, y * s].getD i 0) (mxN u x y v z s rows i) (rows.getD i [])
theorem mxN_len {u x y v z s : Int} {r1 r2 r3 : List Int} (h1 : r1.length = 3) (h2 : r2.length = 3) (h3 : r3.length = 3) : ∀ i, i ≤ 3 → (mxN u x y v z s [r1, r2, r3] i).length = 3
  | 0, _ => rfl
  | i + 1, hi => by
    have ih := mxN_len (u := u) (x := x) (y := y) (v := v) (z := z) (s := s) h1 h2 h3 i (by omega)
    have hr : (([r1, r2, r3] : List (List Int)).getD i []).length = 3 := by
      match i, hi with
      | 0, _ => exact h1
      | 1, _ => exact h2
      | 2, _ => exact h3
    rw [mxN, adm, List.length_zipWith, ih, hr]
    rfl
theorem mxN_3 (a b c d e f g h i u x y v z s : Int) : mxN u x y v z s [[a, b, c], [d, e, f], [g, h, i]] 3 = [m0 a d g u x y v z s, m1 b e h u x y v z s, m2 c f i u x y v z s] := by
  show [u * v + v * 0 + x * z * a + (x * s + y * z) * d + y * s * g, u * z + v * x + x * z * b + (x * s + y * z) * e + y * s * h, u * s + v * y + x * z * c + (x * s + y * z) * f + y * s * i] = _
  unfold m0 m1 m2
  simp only [List.cons.injEq, and_true]
  refine ⟨?_, ?_, ?_⟩ <;> grind
def sp_l_due (_ : PySem.W.Frag) (_ _ _ : Addr) : Sp := fun vs H Q _ => ∃ (t : Addr) (a b c d : Int), vs = [.ref t] ∧ Ti H t [a, b, c, d] ∧ B4 1000 a b c d ∧ ∀ x H', Ex0 H H' → T33 H' x [3, b, -c] [b, b * b - 2 * (a * c), -(3 * (a * d))] [-c, -(3 * (a * d)), c * c - 2 * (b * d)] → Q (.ref x) H'
section
variable {P : Program} {w : World} {K : PySem.W.Frag} {mg : Str → Option Value} {base : Heap} {C_Form C_Ring C_Element : Addr}
theorem ok_l_mixed (T : Txt K mg C_Form C_Ring C_Element) : Def P w K mg base 1 "_law_mixed" ["_law_rows_here", "_law_one", "_law_other"] (sp_l_mixed K C_Form C_Ring C_Element) := by
  obtain ⟨f_, fd_, g_, F_⟩ := T.d_l_mixed
  refine ⟨f_, fd_, g_, F_.kp, F_.binds (ps := ["_law_rows_here", "_law_one", "_law_other"]) (fun _ _ _ _ _ _ us hl => match us, hl with | [_, _, _], _ => rfl), ?_⟩
  refine F_.ok sc_l_mixed (fun vs H Q E h => ?_) (fun cdv A outer s H vs Q E hr h => ?_)
  · first | (obtain ⟨rfl, _⟩ := h; rfl) | (obtain ⟨_, rfl, _⟩ := h; rfl) | (obtain ⟨_, _, rfl, _⟩ := h; rfl) | (obtain ⟨_, _, _, rfl, _⟩ := h; rfl) | (obtain ⟨_, _, _, _, rfl, _⟩ := h; rfl) | (obtain ⟨_, _, _, _, _, rfl, _⟩ := h; rfl) | (obtain ⟨_, _, _, _, _, _, rfl, _⟩ := h; rfl) | (obtain ⟨_, _, _, _, _, _, _, rfl, _⟩ := h; rfl) | (obtain ⟨_, _, _, _, _, _, _, _, rfl, _⟩ := h; rfl) | (obtain ⟨_, _, _, _, _, _, _, _, _, rfl, _⟩ := h; rfl) | (obtain ⟨_, _, _, _, _, _, _, _, _, _, rfl, _⟩ := h; rfl) | (obtain ⟨_, _, _, _, _, _, _, _, _, _, _, rfl, _⟩ := h; rfl) | (obtain ⟨_, _, _, _, _, _, _, _, _, _, _, _, rfl, _⟩ := h; rfl) | (obtain ⟨_, _, _, _, _, _, _, _, _, _, _, _, _, rfl, _⟩ := h; rfl) | (obtain ⟨_, _, _, _, _, _, _, _, _, _, _, _, _, _, rfl, _⟩ := h; rfl) | (obtain ⟨_, _, _, _, _, _, _, _, _, _, _, _, _, _, _, rfl, _⟩ := h; rfl) | (obtain ⟨_, _, _, _, _, _, _, _, _, _, _, _, _, _, _, _, rfl, _⟩ := h; rfl) | (obtain ⟨_, _, _, _, _, _, _, _, _, _, _, _, _, _, _, _, _, rfl, _⟩ := h; rfl) | (obtain ⟨_, _, _, _, _, _, _, _, _, _, _, _, _, _, _, _, _, _, rfl, _⟩ := h; rfl) | (obtain ⟨_, _, _, _, _, _, _, _, _, _, _, _, _, _, _, _, _, _, _, rfl, _⟩ := h; rfl) | (obtain ⟨_, _, _, _, _, _, _, _, _, _, _, _, _, _, _, _, _, _, _, _, rfl, _⟩ := h; rfl) | (obtain ⟨_, _, _, _, _, _, _, _, _, _, _, _, _, _, _, _, _, _, _, _, _, rfl, _⟩ := h; rfl) | (obtain ⟨_, _, _, _, _, _, _, _, _, _, _, _, _, _, _, _, _, _, _, _, _, _, rfl, _⟩ := h; rfl) | (obtain ⟨_, _, _, _, _, _, _, _, _, _, _, _, _, _, _, _, _, _, _, _, _, _, _, rfl, _⟩ := h; rfl)
  · obtain ⟨t, l, r, a, b, c, d, e, f, g, h', i0, u, x, y, v, z, s', rfl, ht, hl, hr', c1, c2, c3, ⟨bu, bx, by'⟩, ⟨bv, bz, bs⟩, q⟩ := h
    refine ⟨_, (Evl.pss_cut (ps_setLc (i := 3) (own := [("_law_entry", 7)]) (g := (gName 7)) rfl sc_l_mixed.nd rfl rfl (sw_true rfl rfl rfl (by decide +kernel)) (pi_tup (pv 2)) (blkOk_by (N := N_l_mixed) (sc := defScope s_l_mixed) (by decide +kernel)) (fun _ _ _ _ _ => (pg_name (i := 7) sc_l_mixed.nd rfl (.inl rfl))) (fun _ _ _ _ _ => pts_nil) (fun _ _ _ _ _ => (pe_op op_mulW (pe_ix (ix_tupK (K := K) rfl) (pv 1) pe_int (fun _ _ => rfl)) (pv 7))))
    (Evl.pss_cut (ps_setLc (i := 3) (own := [("_law_entry", 7), ("_law_more", 8)]) (g := (gTup K 2 (gCons (gName 7) (gCons (gName 8) gNil)))) rfl sc_l_mixed.nd rfl rfl (sw_true rfl rfl rfl (by decide +kernel)) (pi_zipK false true (by rfl) T.b_zip (pa_cons (pv 3) (pa_cons (pe_tup (pa_cons pe_int (pa_cons (pe_ix ix_tup (pv 1) pe_int (fun _ _ => rfl)) (pa_cons (pe_ix ix_tup (pv 1) pe_int (fun _ _ => rfl)) pa_nil)))) pa_nil))) (blkOk_by (N := N_l_mixed) (sc := defScope s_l_mixed) (by decide +kernel)) (fun _ _ _ _ _ => (pg_tup (by rfl) (pgs_cons (pg_name (i := 7) sc_l_mixed.nd rfl (.inl rfl)) (pgs_cons (pg_name (i := 8) sc_l_mixed.nd rfl (.inl rfl)) pgs_nil)))) (fun _ _ _ _ _ => pts_nil) (fun _ _ _ _ _ => (pe_op op_add (pv 7) (pe_op op_mulW (pe_ix (ix_tupK (K := K) rfl) (pv 2) pe_int (fun _ _ => rfl)) (pv 8)))))
    (Evl.pss_cut (ps_set (i := 4) sc_l_mixed.nd rfl (.inl rfl) (pe_tup (pa_cons (pe_op op_mulW (pe_ix ix_tup (pv 1) pe_int (fun _ _ => rfl)) (pe_ix ix_tup (pv 2) pe_int (fun _ _ => rfl))) (pa_cons (pe_op op_add (pe_op op_mulW (pe_ix ix_tup (pv 1) pe_int (fun _ _ => rfl)) (pe_ix ix_tup (pv 2) pe_int (fun _ _ => rfl))) (pe_op op_mulW (pe_ix ix_tup (pv 1) pe_int (fun _ _ => rfl)) (pe_ix ix_tup (pv 2) pe_int (fun _ _ => rfl)))) (pa_cons (pe_op op_mulW (pe_ix ix_tup (pv 1) pe_int (fun _ _ => rfl)) (pe_ix ix_tup (pv 2) pe_int (fun _ _ => rfl))) pa_nil)))))
    (pss_cons (ps_for PassesOwn.never rfl (pi_zipK true false (by rfl) T.b_zip (pa_cons (pv 4) (pa_cons (pv 0) pa_nil))) (pg_tup (by rfl) (pgs_cons (pg_name (i := 5) sc_l_mixed.nd rfl (.inr rfl)) (pgs_cons (pg_name (i := 6) sc_l_mixed.nd rfl (.inl rfl)) pgs_nil)))
      (pss_one (ps_setLc (i := 3) (own := [("_law_entry", 7), ("_law_more", 8)]) (g := (gTup K 2 (gCons (gName 7) (gCons (gName 8) gNil)))) rfl sc_l_mixed.nd rfl rfl (sw_true rfl rfl rfl (by decide +kernel)) (pi_zipK false true (by rfl) T.b_zip (pa_cons (pv 3) (pa_cons (pv 6) pa_nil))) (blkOk_by (N := N_l_mixed) (sc := defScope s_l_mixed) (by decide +kernel)) (fun _ _ _ _ _ => (pg_tup (by rfl) (pgs_cons (pg_name (i := 7) sc_l_mixed.nd rfl (.inl rfl)) (pgs_cons (pg_name (i := 8) sc_l_mixed.nd rfl (.inl rfl)) pgs_nil)))) (fun _ _ _ _ _ => pts_nil) (fun _ _ _ _ _ => (pe_op op_add (pv 7) (pe_op op_mulW (pv 5) (pv 8)))))))
    (pss_one (ps_ret (pe_callTy call_tuple_of (by rfl) T.b_tuple (by decide +kernel) (pa_cons (pv 3) pa_nil)))))))), ?_⟩
    have bO : ∀ n ∈ [v, z, s'], B 1000 n := fun n hn => by
      simp only [List.mem_cons, List.mem_nil_iff, or_false] at hn
      rcases hn with rfl | rfl | rfl <;> assumption
    have bR : ∀ row ∈ [[a, b, c], [d, e, f], [g, h', i0]], ∀ n ∈ row, B 2100 n := fun row hrow n hn => by
      simp only [List.mem_cons, List.mem_nil_iff, or_false] at hrow
      rcases hrow with rfl | rfl | rfl <;> simp only [List.mem_cons, List.mem_nil_iff, or_false] at hn <;> rcases hn with rfl | rfl | rfl
      · exact c1.1
      · exact c1.2.1
      · exact c1.2.2
      · exact c2.1
      · exact c2.2.1
      · exact c2.2.2
      · exact c3.1
      · exact c3.2.1
      · exact c3.2.2
    refine ⟨fun σ H' => ∃ F : Addr, σ = [some (.ref t), some (.ref l), some (.ref r), some (.ref F), none, none, none, none, none] ∧ Ex0 H H' ∧ H' F = some (.lst ([u * v, u * z, u * s'].map V.int)), ?_, ?_⟩
    · refine ⟨_, rfl, r, rfl, ⟨_, SqT.of hr'⟩, ?_⟩
      refine lcT fm0 trivial (SqT.of hr') (fun z => z) (fun i acc _ => acc = (([u * v, u * z, u * s'] : List Int).take i).map V.int) (fun _ _ => rfl) (fun D i n acc H' hD hn e1 hA hlen hp => ?_) (fun D H' acc hD e1 hA hp => ?_)
      · obtain ⟨m, hm, rfl⟩ := get_int hn
        have hi : i < 3 := (List.getElem?_eq_some_iff.mp hm).1
        refine ⟨rfl, ?_⟩
        refine ⟨_, rfl, l, _, 0, .int u, rfl, rfl, SqT.of (Ex0.ti e1 hl), rfl, _, rfl, _, _, rfl, rfl, mulB bu (bO m (List.mem_of_getElem? hm)) (by decide), ?_⟩
        refine cs_yes fm0 trivial hD e1 hA hlen (by omega) (Fx.refl trivial) ?_
        show acc ++ [V.int (u * m)] = _
        rw [hp]
        match i, hm with
        | 0, hm => rw [← Option.some.inj hm]; rfl
        | 1, hm => rw [← Option.some.inj hm]; rfl
        | 2, hm => rw [← Option.some.inj hm]; rfl
      · exact ⟨D, rfl, e1, by rw [hA, hp]; rfl⟩
    rintro σ H1 ⟨F, rfl, e1, hF⟩
    refine ⟨fun σ H' => ∃ F : Addr, σ = [some (.ref t), some (.ref l), some (.ref r), some (.ref F), none, none, none, none, none] ∧ Ex0 H H' ∧ H' F = some (.lst ((adm v [u * v, u * z, u * s'] [0, x, y]).map V.int)), ?_, ?_⟩
    · have hl1 := Ex0.ti e1 hl
      refine ⟨_, rfl, _, rfl, l, _, 1, .int x, rfl, rfl, SqT.of hl1, rfl, _, rfl, l, _, 2, .int y, rfl, rfl, SqT.of hl1, rfl, sl3, fun t0 n0 => ?_⟩
      have e2 : Ex0 H1 (upd H1 t0 (.tup [.int 0, .int x, .int y])) := Ex0.new n0
      have hF2 := Ex0.ap e2 hF
      have hZ : Ti (upd H1 t0 (.tup [.int 0, .int x, .int y])) t0 [0, x, y] := upd_same
      have hr2 := Ex0.ti e2 (Ex0.ti e1 hr')
      generalize upd H1 t0 (.tup [.int 0, .int x, .int y]) = H2 at e2 hF2 hZ hr2 ⊢
      refine ⟨F, t0, _, _, rfl, SqL.of hF2, SqT.of hZ, ?_⟩
      refine lcP (walk_zipK (K := K) (k1 := false) (k2 := true) (xs := ([u * v, u * z, u * s'] : List Int).map V.int) (ys := ([0, x, y] : List Int).map V.int) rfl) fm0 trivial (fun H' e => ⟨SqL.of (Ex0.ap e hF2), SqT.of (Ex0.ti e hZ)⟩) (fun i acc _ => acc = ((adm v [u * v, u * z, u * s'] [0, x, y]).take i).map V.int) (fun _ _ => rfl) (fun D i T x1 y1 acc H' hD hi fx fy e3 hA hlen hp hT => ?_) (fun D H' acc hD e3 hA hp => ?_)
      · obtain ⟨rfl, hi1⟩ := get_D fx
        obtain ⟨rfl, hi2⟩ := get_D fy
        have bz2 : B 9000 (([0, x, y] : List Int).getD i 0) := by
          match i, hi2 with
          | 0, _ => exact B0 (by decide)
          | 1, _ => exact bx
          | 2, _ => exact by'
        refine ⟨T, _, rfl, SqT.of upd_same, rfl, _, _, rfl, _, _, rfl, rfl, ⟨rfl, ?_⟩⟩
        refine ⟨_, rfl, _, rfl, r, _, 0, .int v, rfl, rfl, SqT.of (Ex0.ti (Ex0.new hT) (Ex0.ti e3 hr2)), rfl, _, rfl, _, _, rfl, rfl, mulB bv bz2 (by decide), _, _, rfl, rfl, ?_⟩
        refine cs_yes fm0 trivial hD e3 hA hlen (by have : i < 3 := hi1; omega) (Ex0.new hT) ?_
        rw [hp]
        exact adm_step hi1 hi2
      · exact ⟨D, rfl, (e1.trans e2).trans e3, by rw [hA, hp]; rfl⟩
    rintro σ H2 ⟨F, rfl, e2, hF⟩
    refine ⟨fun σ H' => ∃ G : Addr, σ = [some (.ref t), some (.ref l), some (.ref r), some (.ref F), some (.ref G), none, none, none, none] ∧ Ex0 H2 H' ∧ Ti H' G [x * z, x * s' + y * z, y * s'], ?_, ?_⟩
    · have q1 := SqT.of (K := K) (Ex0.ti e2 hl)
      have q2 := SqT.of (K := K) (Ex0.ti e2 hr')
      refine ⟨_, rfl, l, _, 1, .int x, rfl, rfl, q1, rfl, _, rfl, r, _, 1, .int z, rfl, rfl, q2, rfl, _, _, rfl, rfl, mulB bx bz (by decide), ?_⟩
      refine ⟨_, rfl, l, _, 1, .int x, rfl, rfl, q1, rfl, _, rfl, r, _, 2, .int s', rfl, rfl, q2, rfl, _, _, rfl, rfl, mulB bx bs (by decide), ?_⟩
      refine ⟨_, rfl, l, _, 2, .int y, rfl, rfl, q1, rfl, _, rfl, r, _, 1, .int z, rfl, rfl, q2, rfl, _, _, rfl, rfl, mulB by' bz (by decide), _, _, rfl, rfl, ?_⟩
      refine ⟨_, rfl, l, _, 2, .int y, rfl, rfl, q1, rfl, _, rfl, r, _, 2, .int s', rfl, rfl, q2, rfl, _, _, rfl, rfl, mulB by' bs (by decide), sl3, fun G nG => ?_⟩
      exact ⟨G, rfl, Ex0.new nG, upd_same⟩
    rintro σ H3 ⟨G, rfl, e3, hG⟩
    have e23 := e2.trans e3
    obtain ⟨T1, T2, T3, k0, k1, k2, k3⟩ := Ex0.l33 e23 ht
    have hF3 := Ex0.ap e3 hF
    have bG : ∀ i, i < 3 → B 20000 (([x * z, x * s' + y * z, y * s'] : List Int).getD i 0) := fun i hi => by
      match i, hi with
      | 0, _ => exact (B.mul bx bz).mono (by decide)
      | 1, _ => exact (B.pl (B.mul bx bs) (B.mul by' bz)).mono (by decide)
      | 2, _ => exact (B.mul by' bs).mono (by decide)
    refine ⟨_, rfl, _, rfl, G, t, _, _, rfl, SqT.of hG, SqL.of k0, ?_⟩
    refine for_P (walk_zipK (K := K) (k1 := true) (k2 := false) (xs := ([x * z, x * s' + y * z, y * s'] : List Int).map V.int) (ys := [.ref T1, .ref T2, .ref T3]) rfl) (fun i σ H' => ∃ (F : Addr) (y5 y6 : Option V), σ = [some (.ref t), some (.ref l), some (.ref r), some (.ref F), some (.ref G), y5, y6, none, none] ∧ Ex0 H3 H' ∧ i ≤ 3 ∧ H' F = some (.lst ((mxN u x y v z s' [[a, b, c], [d, e, f], [g, h', i0]] i).map V.int))) ⟨F, none, none, rfl, Ex0.refl _, by decide, hF3⟩ (fun i σ H' _ ⟨_, _, _, _, e, _⟩ => ⟨SqT.of (Ex0.ti e hG), SqL.of (Ex0.ap e k0)⟩) ?_ ?_
    · rintro i T x1 y1 σ H4 hi fx fy ⟨F, y5, y6, rfl, e4, i3, hF4⟩ hT
      obtain ⟨rfl, hi1⟩ := get_D fx
      have hi3 : i < 3 := hi1
      have row : ∃ (t' : Addr), y1 = .ref t' ∧ Ti H4 t' (([[a, b, c], [d, e, f], [g, h', i0]] : List (List Int)).getD i []) := by
        match i, hi3, fy with
        | 0, _, fy => exact ⟨T1, (Option.some.inj fy).symm, Ex0.ti e4 k1⟩
        | 1, _, fy => exact ⟨T2, (Option.some.inj fy).symm, Ex0.ti e4 k2⟩
        | 2, _, fy => exact ⟨T3, (Option.some.inj fy).symm, Ex0.ti e4 k3⟩
      obtain ⟨t', rfl, hrow⟩ := row
      have rl : (([[a, b, c], [d, e, f], [g, h', i0]] : List (List Int)).getD i []).length = 3 := by
        match i, hi3 with
        | 0, _ => rfl
        | 1, _ => rfl
        | 2, _ => rfl
      have rm : (([[a, b, c], [d, e, f], [g, h', i0]] : List (List Int)).getD i []) ∈ [[a, b, c], [d, e, f], [g, h', i0]] := by
        match i, hi3 with
        | 0, _ => simp
        | 1, _ => simp
        | 2, _ => simp
      have ml := mxN_len (u := u) (x := x) (y := y) (v := v) (z := z) (s := s') (r1 := [a, b, c]) (r2 := [d, e, f]) (r3 := [g, h', i0]) rfl rfl rfl i i3
      have bg := bG i hi3
      refine ⟨T, _, rfl, SqT.of upd_same, rfl, _, _, rfl, _, _, rfl, rfl, ?_⟩
      have e5 : Ex0 H4 (upd H4 T (.tup [.int (([x * z, x * s' + y * z, y * s'] : List Int).getD i 0), .ref t'])) := Ex0.new hT
      have hF5 := Ex0.ap e5 hF4
      have hrow5 := Ex0.ti e5 hrow
      have ms : mxN u x y v z s' [[a, b, c], [d, e, f], [g, h', i0]] (i + 1) = adm (([x * z, x * s' + y * z, y * s'] : List Int).getD i 0) (mxN u x y v z s' [[a, b, c], [d, e, f], [g, h', i0]] i) (([[a, b, c], [d, e, f], [g, h', i0]] : List (List Int)).getD i []) := rfl
      generalize upd H4 T (.tup [.int (([x * z, x * s' + y * z, y * s'] : List Int).getD i 0), .ref t']) = H5 at e5 hF5 hrow5 ⊢
      have br := bR _ rm
      generalize (([[a, b, c], [d, e, f], [g, h', i0]] : List (List Int)).getD i []) = ys at hrow5 rl ms br
      generalize hfa : (([x * z, x * s' + y * z, y * s'] : List Int).getD i 0) = fa at bg ms ⊢
      generalize hxs : mxN u x y v z s' [[a, b, c], [d, e, f], [g, h', i0]] i = xs at hF5 ml ms
      refine ⟨_, rfl, _, rfl, F, t', _, _, rfl, SqL.of hF5, SqT.of hrow5, ?_⟩
      refine lcP (walk_zipK (K := K) (k1 := false) (k2 := true) (by rw [List.length_map, List.length_map, ml, rl])) fm0 trivial (fun H' e => ⟨SqL.of (Ex0.ap e hF5), SqT.of (Ex0.ti e hrow5)⟩) (fun i acc _ => acc = ((adm fa xs ys).take i).map V.int) (fun _ _ => rfl) (fun D i T x1 y1 acc H' hD hi fx fy e6 hA hlen hp hT => ?_) (fun D H' acc hD e6 hA hp => ?_)
      · obtain ⟨rfl, hi1⟩ := get_D fx
        obtain ⟨rfl, hi2⟩ := get_D fy
        refine ⟨T, _, rfl, SqT.of upd_same, rfl, _, _, rfl, _, _, rfl, rfl, ⟨rfl, ?_⟩⟩
        refine ⟨_, rfl, _, rfl, _, rfl, _, _, rfl, rfl, mulB bg (br _ (gD_mem hi2)) (by decide), _, _, rfl, rfl, ?_⟩
        refine cs_yes fm0 trivial hD e6 hA hlen (by omega) (Ex0.new hT) ?_
        rw [hp]
        exact adm_step hi1 hi2
      · refine ⟨D, _, _, rfl, (e4.trans e5).trans e6, by omega, ?_⟩
        rw [hA, hp, ms, List.length_map, List.take_of_length_le (by unfold adm; rw [List.length_zipWith]; omega)]
    · rintro σ H4 ⟨F, y5, y6, rfl, e4, i3, hF4⟩
      refine ⟨_, rfl, F, _, rfl, .inl ⟨SqL.of hF4, fun p np => ?_⟩⟩
      refine q p _ ((e23.trans e4).trans (Ex0.new np)) ?_
      rw [← mxN_3]
      exact upd_same
theorem ok_l_images (T : Txt K mg C_Form C_Ring C_Element) : Def P w K mg base 2 "_law_images" ["_law_rows_here", "_law_one"] (sp_l_images K C_Form C_Ring C_Element) := by
  obtain ⟨f_, fd_, g_, F_⟩ := T.d_l_images
  obtain ⟨f_l_mixed, fd_l_mixed, g_l_mixed, k_l_mixed, b_l_mixed, G_l_mixed⟩ := (ok_l_mixed (P := P) (w := w) (base := base) T)
  refine ⟨f_, fd_, g_, F_.kp, F_.binds (ps := ["_law_rows_here", "_law_one"]) (fun _ _ _ _ _ _ us hl => match us, hl with | [_, _], _ => rfl), ?_⟩
  refine F_.ok sc_l_images (fun vs H Q E h => ?_) (fun cdv A outer s H vs Q E hr h => ?_)
  · first | (obtain ⟨rfl, _⟩ := h; rfl) | (obtain ⟨_, rfl, _⟩ := h; rfl) | (obtain ⟨_, _, rfl, _⟩ := h; rfl) | (obtain ⟨_, _, _, rfl, _⟩ := h; rfl) | (obtain ⟨_, _, _, _, rfl, _⟩ := h; rfl) | (obtain ⟨_, _, _, _, _, rfl, _⟩ := h; rfl) | (obtain ⟨_, _, _, _, _, _, rfl, _⟩ := h; rfl) | (obtain ⟨_, _, _, _, _, _, _, rfl, _⟩ := h; rfl) | (obtain ⟨_, _, _, _, _, _, _, _, rfl, _⟩ := h; rfl) | (obtain ⟨_, _, _, _, _, _, _, _, _, rfl, _⟩ := h; rfl) | (obtain ⟨_, _, _, _, _, _, _, _, _, _, rfl, _⟩ := h; rfl) | (obtain ⟨_, _, _, _, _, _, _, _, _, _, _, rfl, _⟩ := h; rfl) | (obtain ⟨_, _, _, _, _, _, _, _, _, _, _, _, rfl, _⟩ := h; rfl) | (obtain ⟨_, _, _, _, _, _, _, _, _, _, _, _, _, rfl, _⟩ := h; rfl) | (obtain ⟨_, _, _, _, _, _, _, _, _, _, _, _, _, _, rfl, _⟩ := h; rfl) | (obtain ⟨_, _, _, _, _, _, _, _, _, _, _, _, _, _, _, rfl, _⟩ := h; rfl) | (obtain ⟨_, _, _, _, _, _, _, _, _, _, _, _, _, _, _, _, rfl, _⟩ := h; rfl) | (obtain ⟨_, _, _, _, _, _, _, _, _, _, _, _, _, _, _, _, _, rfl, _⟩ := h; rfl) | (obtain ⟨_, _, _, _, _, _, _, _, _, _, _, _, _, _, _, _, _, _, rfl, _⟩ := h; rfl) | (obtain ⟨_, _, _, _, _, _, _, _, _, _, _, _, _, _, _, _, _, _, _, rfl, _⟩ := h; rfl) | (obtain ⟨_, _, _, _, _, _, _, _, _, _, _, _, _, _, _, _, _, _, _, _, rfl, _⟩ := h; rfl) | (obtain ⟨_, _, _, _, _, _, _, _, _, _, _, _, _, _, _, _, _, _, _, _, _, rfl, _⟩ := h; rfl) | (obtain ⟨_, _, _, _, _, _, _, _, _, _, _, _, _, _, _, _, _, _, _, _, _, _, rfl, _⟩ := h; rfl) | (obtain ⟨_, _, _, _, _, _, _, _, _, _, _, _, _, _, _, _, _, _, _, _, _, _, _, rfl, _⟩ := h; rfl)
  · obtain ⟨t, l, a, b, c, d, e, f, g, h', i, u, x, y, rfl, ht, hl, b1, b2, b3, bu, q⟩ := h
    refine ⟨_, (pss_one (ps_ret (pe_lst (pa_cons (pv 1) (pa_cons (pe_call G_l_mixed (hr.mono (by decide)) (by rfl) g_l_mixed k_l_mixed b_l_mixed .nil pass0 (pa_cons (pv 0) (pa_cons (pv 1) (pa_cons (pe_tup (pa_cons pe_int (pa_cons pe_int (pa_cons pe_int pa_nil)))) pa_nil)))) (pa_cons (pe_call G_l_mixed (hr.mono (by decide)) (by rfl) g_l_mixed k_l_mixed b_l_mixed .nil pass0 (pa_cons (pv 0) (pa_cons (pv 1) (pa_cons (pe_tup (pa_cons pe_int (pa_cons pe_int (pa_cons pe_int pa_nil)))) pa_nil)))) pa_nil)))))), ?_⟩
    have z0 : B 1000 0 := B0 (by decide)
    have z1 : B 1000 1 := ⟨by decide, by decide⟩
    refine ⟨_, rfl, _, rfl, _, rfl, sl3, fun t1 n1 => ?_⟩
    have e1 : Ex0 H (upd H t1 (.tup [.int 0, .int 1, .int 0])) := Ex0.new n1
    refine ⟨t, l, t1, a, b, c, d, e, f, g, h', i, u, x, y, 0, 1, 0, rfl, Ex0.l33 e1 ht, Ex0.ti e1 hl, upd_same, b1, b2, b3, bu, ⟨z0, z1, z0⟩, fun o1 H1 e2 h1 => ?_⟩
    refine ⟨_, rfl, _, rfl, sl3, fun t2 n2 => ?_⟩
    have e3 : Ex0 H1 (upd H1 t2 (.tup [.int 0, .int 0, .int 1])) := Ex0.new n2
    have e123 := (e1.trans e2).trans e3
    refine ⟨t, l, t2, a, b, c, d, e, f, g, h', i, u, x, y, 0, 0, 1, rfl, Ex0.l33 e123 ht, Ex0.ti e123 hl, upd_same, b1, b2, b3, bu, ⟨z0, z0, z1⟩, fun o2 H2 e4 h2 => ?_⟩
    refine ⟨sl3, fun L nL => ?_⟩
    have e5 : Ex0 H2 (upd H2 L (.lst [.ref l, .ref o1, .ref o2])) := Ex0.new nL
    exact q L _ ((e123.trans e4).trans e5) ⟨l, o1, o2, upd_same, Ex0.ti ((e123.trans e4).trans e5) hl, Ex0.ti ((e3.trans e4).trans e5) h1, Ex0.ti e5 h2⟩
end
end K16
namespace K16
open PySem PySem.Spec PyProof.Rows L2 Fr
def d33 (r1 r2 r3 : List Int) : PyData := .tuple [.tuple (r1.map .int), .tuple (r2.map .int), .tuple (r3.map .int)]
theorem lay_ints (ns : List Int) : PyData.canLayAll0 (ns.map .int) = true ∧ PyData.depthAll (ns.map .int) ≤ 1 := by
  induction ns with
  | nil => exact ⟨rfl, by simp [PyData.depthAll]⟩
  | cons n r ih =>
    refine ⟨?_, ?_⟩
    · rw [List.map_cons, PyData.canLayAll0, ih.1]; simp [PyData.canLay0]
    · rw [List.map_cons, PyData.depthAll]; exact Nat.max_le.mpr ⟨by simp [PyData.depth], ih.2⟩
theorem shaped_33 (r1 r2 r3 : List Int) : SeqAt.shaped (d33 r1 r2 r3) = true := by
  have a1 := lay_ints r1
  have a2 := lay_ints r2
  have a3 := lay_ints r3
  unfold SeqAt.shaped d33
  simp only [PyData.canLay0, PyData.canLayAll0, PyData.depth, PyData.depthAll, a1.1, a2.1, a3.1]
  simp
  omega
theorem eqv_33 (r1 r2 r3 : List Int) : PyData.eqv (d33 r1 r2 r3) (d33 r1 r2 r3) = true := by
  unfold d33
  simp only [PyData.eqv, PyData.eqvAll, eqv_ints]
  simp
theorem T33.dp {K : PySem.W.Frag} {H : Hp} {a : Addr} {r1 r2 r3 : List Int} (h : T33 H a r1 r2 r3) : Dp K H (.ref a) (d33 r1 r2 r3) := by
  obtain ⟨t1, t2, t3, h0, h1, h2, h3⟩ := h
  exact .tup (SqT.of h0) (.cons (.tup (SqT.of h1) (dp_ints _)) (.cons (.tup (SqT.of h2) (dp_ints _)) (.cons (.tup (SqT.of h3) (dp_ints _)) .nil)))
theorem unit_ti {H H' : Hp} {a b c : Addr} {i : Nat} {x : V} (h1 : Ti H a [1, 0, 0]) (h2 : Ti H b [0, 1, 0]) (h3 : Ti H c [0, 0, 1]) (e : Ex0 H H')
    (hx : [V.ref a, .ref b, .ref c][i]? = some x) : ∃ t v z s, x = .ref t ∧ Ti H' t [v, z, s] ∧ Uv i v z s := by
  match i, hx with
  | 0, hx => exact ⟨a, 1, 0, 0, (Option.some.inj hx).symm, Ex0.ti e h1, .inl ⟨rfl, rfl, rfl, rfl⟩⟩
  | 1, hx => exact ⟨b, 0, 1, 0, (Option.some.inj hx).symm, Ex0.ti e h2, .inr (.inl ⟨rfl, rfl, rfl, rfl⟩)⟩
  | 2, hx => exact ⟨c, 0, 0, 1, (Option.some.inj hx).symm, Ex0.ti e h3, .inr (.inr ⟨rfl, rfl, rfl, rfl⟩)⟩
def ttR (a b c d : Int) : List (List Int) := [[3, b, -c], [b, b * b - 2 * (a * c), -(3 * (a * d))], [-c, -(3 * (a * d)), c * c - 2 * (b * d)]]
theorem tt_row {a b c d : Int} {j : Nat} {v z s : Int} (uv : Uv j v z s) : ∃ row : List Int, row.length = 3 ∧ (ttR a b c d).take (j + 1) = (ttR a b c d).take j ++ [row] ∧
    ∀ i v2 z2 s2, Uv i v2 z2 s2 → row.getD i 0 = tr a b c d (m0 (-a * c) (-a * d) (-b * d) v z s v2 z2 s2) (m1 b 0 d v z s v2 z2 s2) (m2 (-a) 0 (-c) v z s v2 z2 s2) := by
  rcases uv with ⟨rfl, rfl, rfl, rfl⟩ | ⟨rfl, rfl, rfl, rfl⟩ | ⟨rfl, rfl, rfl, rfl⟩
  · refine ⟨_, rfl, rfl, fun i v2 z2 s2 h => ?_⟩
    rcases h with ⟨rfl, rfl, rfl, rfl⟩ | ⟨rfl, rfl, rfl, rfl⟩ | ⟨rfl, rfl, rfl, rfl⟩ <;> simp [tr, m0, m1, m2]
  · refine ⟨[b, b * b - 2 * (a * c), -(3 * (a * d))], rfl, rfl, fun i v2 z2 s2 h => ?_⟩
    rcases h with ⟨rfl, rfl, rfl, rfl⟩ | ⟨rfl, rfl, rfl, rfl⟩ | ⟨rfl, rfl, rfl, rfl⟩ <;> simp [tr, m0, m1, m2] <;> grind
  · refine ⟨[-c, -(3 * (a * d)), c * c - 2 * (b * d)], rfl, rfl, fun i v2 z2 s2 h => ?_⟩
    rcases h with ⟨rfl, rfl, rfl, rfl⟩ | ⟨rfl, rfl, rfl, rfl⟩ | ⟨rfl, rfl, rfl, rfl⟩ <;> simp [tr, m0, m1, m2] <;> grind
theorem tr_eq2 (a b c d u y z : Int) : u + m1 b 0 d u y z 0 1 0 + m2 (-a) 0 (-c) u y z 0 0 1 = tr a b c d u y z := by
  unfold m1 m2 tr
  grind
section
variable {P : Program} {w : World} {K : PySem.W.Frag} {mg : Str → Option Value} {base : Heap} {C_Form C_Ring C_Element : Addr}
theorem ok_l_due (T : Txt K mg C_Form C_Ring C_Element) : Def P w K mg base 3 "_law_due" ["_law_form"] (sp_l_due K C_Form C_Ring C_Element) := by
  obtain ⟨f_, fd_, g_, F_⟩ := T.d_l_due
  obtain ⟨f_l_images, fd_l_images, g_l_images, k_l_images, b_l_images, G_l_images⟩ := (ok_l_images (P := P) (w := w) (base := base) T)
  obtain ⟨f_l_minors, fd_l_minors, g_l_minors, k_l_minors, b_l_minors, G_l_minors⟩ := (ok_l_minors (P := P) (w := w) (base := base) T)
  obtain ⟨f_l_mixed, fd_l_mixed, g_l_mixed, k_l_mixed, b_l_mixed, G_l_mixed⟩ := (ok_l_mixed (P := P) (w := w) (base := base) T)
  obtain ⟨f_l_rows, fd_l_rows, g_l_rows, k_l_rows, b_l_rows, G_l_rows⟩ := (ok_l_rows (P := P) (w := w) (base := base) T)
  refine ⟨f_, fd_, g_, F_.kp, F_.binds (ps := ["_law_form"]) (fun _ _ _ _ _ _ us hl => match us, hl with | [_], _ => rfl), ?_⟩
  refine F_.ok sc_l_due (fun vs H Q E h => ?_) (fun cdv A outer s H vs Q E hr h => ?_)
  · first | (obtain ⟨rfl, _⟩ := h; rfl) | (obtain ⟨_, rfl, _⟩ := h; rfl) | (obtain ⟨_, _, rfl, _⟩ := h; rfl) | (obtain ⟨_, _, _, rfl, _⟩ := h; rfl) | (obtain ⟨_, _, _, _, rfl, _⟩ := h; rfl) | (obtain ⟨_, _, _, _, _, rfl, _⟩ := h; rfl) | (obtain ⟨_, _, _, _, _, _, rfl, _⟩ := h; rfl) | (obtain ⟨_, _, _, _, _, _, _, rfl, _⟩ := h; rfl) | (obtain ⟨_, _, _, _, _, _, _, _, rfl, _⟩ := h; rfl) | (obtain ⟨_, _, _, _, _, _, _, _, _, rfl, _⟩ := h; rfl) | (obtain ⟨_, _, _, _, _, _, _, _, _, _, rfl, _⟩ := h; rfl) | (obtain ⟨_, _, _, _, _, _, _, _, _, _, _, rfl, _⟩ := h; rfl) | (obtain ⟨_, _, _, _, _, _, _, _, _, _, _, _, rfl, _⟩ := h; rfl) | (obtain ⟨_, _, _, _, _, _, _, _, _, _, _, _, _, rfl, _⟩ := h; rfl) | (obtain ⟨_, _, _, _, _, _, _, _, _, _, _, _, _, _, rfl, _⟩ := h; rfl) | (obtain ⟨_, _, _, _, _, _, _, _, _, _, _, _, _, _, _, rfl, _⟩ := h; rfl) | (obtain ⟨_, _, _, _, _, _, _, _, _, _, _, _, _, _, _, _, rfl, _⟩ := h; rfl) | (obtain ⟨_, _, _, _, _, _, _, _, _, _, _, _, _, _, _, _, _, rfl, _⟩ := h; rfl) | (obtain ⟨_, _, _, _, _, _, _, _, _, _, _, _, _, _, _, _, _, _, rfl, _⟩ := h; rfl) | (obtain ⟨_, _, _, _, _, _, _, _, _, _, _, _, _, _, _, _, _, _, _, rfl, _⟩ := h; rfl) | (obtain ⟨_, _, _, _, _, _, _, _, _, _, _, _, _, _, _, _, _, _, _, _, rfl, _⟩ := h; rfl) | (obtain ⟨_, _, _, _, _, _, _, _, _, _, _, _, _, _, _, _, _, _, _, _, _, rfl, _⟩ := h; rfl) | (obtain ⟨_, _, _, _, _, _, _, _, _, _, _, _, _, _, _, _, _, _, _, _, _, _, rfl, _⟩ := h; rfl) | (obtain ⟨_, _, _, _, _, _, _, _, _, _, _, _, _, _, _, _, _, _, _, _, _, _, _, rfl, _⟩ := h; rfl)
  · obtain ⟨t, a, b, c, d, rfl, ht, bz, q⟩ := h
    obtain ⟨v1, v2', v3⟩ := w_B bz
    refine ⟨_, (Evl.pss_cut (ps_par (i := 1) (j := 2) (by rfl) sc_l_due.nd rfl rfl (by decide) rfl rfl (pa_cons (pe_call G_l_rows (hr.mono (by decide)) (by rfl) g_l_rows k_l_rows b_l_rows .nil pass0 (pa_cons (pv 0) pa_nil)) (pa_cons (pe_lst (pa_cons (pe_tup (pa_cons pe_int (pa_cons pe_int (pa_cons pe_int pa_nil)))) (pa_cons (pe_tup (pa_cons pe_int (pa_cons pe_int (pa_cons pe_int pa_nil)))) (pa_cons (pe_tup (pa_cons pe_int (pa_cons pe_int (pa_cons pe_int pa_nil)))) pa_nil)))) pa_nil)) (by rfl))
    (Evl.pss_cut (ps_set (i := 3) sc_l_due.nd rfl (.inl rfl) (pe_lst pa_nil))
    (pss_cons (ps_for PassesOwn.never rfl (pi_list (pv 2)) (pg_name (i := 4) sc_l_due.nd rfl (.inl rfl))
      (pss_cons (ps_set (i := 5) sc_l_due.nd rfl (.inl rfl) (pe_lst pa_nil))
    (pss_cons (ps_for PassesOwn.never rfl (pi_list (pv 2)) (pg_name (i := 6) sc_l_due.nd rfl (.inl rfl))
      (pss_one (ps_expr (pe_bm PySem.F.plainAttrs_list PySem.F.slot_list_append PySem.F.type_list_append mt_append (pv 5) (pa_cons (pe_ix ix_tup (pe_call G_l_minors (hr.mono (by decide)) (by rfl) g_l_minors k_l_minors b_l_minors .nil pass0 (pa_cons (pe_call G_l_images (hr.mono (by decide)) (by rfl) g_l_images k_l_images b_l_images .nil pass0 (pa_cons (pv 1) (pa_cons (pe_call G_l_mixed (hr.mono (by decide)) (by rfl) g_l_mixed k_l_mixed b_l_mixed .nil pass0 (pa_cons (pv 1) (pa_cons (pv 4) (pa_cons (pv 6) pa_nil)))) pa_nil))) pa_nil)) pe_int (fun _ _ => rfl)) pa_nil)))))
    (pss_one (ps_expr (pe_bm PySem.F.plainAttrs_list PySem.F.slot_list_append PySem.F.type_list_append mt_append (pv 3) (pa_cons (pe_callTy call_tuple_of (by rfl) T.b_tuple (by decide +kernel) (pa_cons (pv 5) pa_nil)) pa_nil)))))))
    (pss_one (ps_ret (pe_callTy call_tuple_of (by rfl) T.b_tuple (by decide +kernel) (pa_cons (pv 3) pa_nil))))))), ?_⟩
    refine ⟨fun σ H' => ∃ (R U a1 a2 a3 : Addr), σ = [some (.ref t), some (.ref R), some (.ref U), none, none, none, none] ∧ Ex0 H H' ∧ L33 H' R (w1 a b c d) (w2 a b c d) (w3 a b c d) ∧ H' U = some (.lst [.ref a1, .ref a2, .ref a3]) ∧ Ti H' a1 [1, 0, 0] ∧ Ti H' a2 [0, 1, 0] ∧ Ti H' a3 [0, 0, 1], ?_, ?_⟩
    · refine ⟨_, rfl, t, a, b, c, d, rfl, ht, bz, fun R H1 e1 hR => ⟨sl3, fun a1 n1 => ⟨sl3, fun a2 n2 => ⟨sl3, fun a3 n3 => ⟨sl3, fun U nU => ⟨_, _, rfl, ?_⟩⟩⟩⟩⟩⟩
      obtain ⟨e2, b1, b2, b3, k0, k1, k2, k3⟩ := l33_new (r1 := [1, 0, 0]) (r2 := [0, 1, 0]) (r3 := [0, 0, 1]) n1 n2 n3 nU
      exact ⟨R, U, b1, b2, b3, rfl, e1.trans e2, Ex0.l33 e2 hR, k0, k1, k2, k3⟩
    rintro σ H1 ⟨R, U, a1, a2, a3, rfl, e1, hR, hU, k1, k2, k3⟩
    refine ⟨fun σ H' => ∃ F : Addr, σ = [some (.ref t), some (.ref R), some (.ref U), some (.ref F), none, none, none] ∧ H1 F = none ∧ Ex0 H1 H' ∧ H' F = some (.lst []), ?_, ?_⟩
    · exact ⟨Nat.zero_le _, fun F nF => ⟨F, rfl, nF, Ex0.new nF, upd_same⟩⟩
    rintro σ H2 ⟨F, rfl, nF, e2, hF⟩
    refine ⟨_, rfl, U, rfl, ⟨_, SqL.of (Ex0.ap e2 hU)⟩, ?_⟩
    refine for_list (xs := [.ref a1, .ref a2, .ref a3]) (fun j σ H' => ∃ (y4 y5 y6 : Option V) (xs : List V), σ = [some (.ref t), some (.ref R), some (.ref U), some (.ref F), y4, y5, y6] ∧ Ex0 H1 H' ∧ j ≤ 3 ∧ H' F = some (.lst xs) ∧ Tis H' xs ((ttR a b c d).take j)) ⟨none, none, none, [], rfl, e2, by decide, hF, .nil⟩ (fun j σ H' _ ⟨_, _, _, _, _, e, _⟩ => SqL.of (Ex0.ap e hU)) ?_ ?_
    · rintro j z σ H3 hz ⟨y4, y5, y6, xs, rfl, e3, j3, hF3, hT3⟩
      obtain ⟨t', v, z, s', rfl, hq, uv⟩ := unit_ti k1 k2 k3 e3 hz
      obtain ⟨row, r3, rt, rv⟩ := tt_row (a := a) (b := b) (c := c) (d := d) uv
      refine ⟨Nat.zero_le _, fun L nL => ?_⟩
      have e4 : Ex0 H3 (upd H3 L (.lst [])) := Ex0.new nL
      refine ⟨_, rfl, U, rfl, ⟨_, SqL.of (Ex0.ap (Fx.trans e3 e4) hU)⟩, ?_⟩
      refine for_list (xs := [.ref a1, .ref a2, .ref a3]) (fun i σ H' => ∃ y6 : Option V, σ = [some (.ref t), some (.ref R), some (.ref U), some (.ref F), some (.ref t'), some (.ref L), y6] ∧ Ex0 H3 H' ∧ i ≤ 3 ∧ H' L = some (.lst ((row.take i).map V.int))) ⟨y6, rfl, e4, by decide, upd_same⟩ (fun j σ H' _ ⟨_, _, e, _⟩ => SqL.of (Ex0.ap (Fx.trans e3 e) hU)) ?_ ?_
      · rintro i z0 σ H4 hz0 ⟨y6, rfl, e5, i3, hL⟩
        obtain ⟨t3, v2, z3, s3, rfl, hq2, uv2⟩ := unit_ti k1 k2 k3 (Fx.trans e3 e5) hz0
        have hR4 := Ex0.l33 (Fx.trans e3 e5) hR
        have c0 := (m_B v1.1 v2'.1 v3.1 uv.b.2 uv2.b.2).1
        have c1 := (m_B v1.2.1 v2'.2.1 v3.2.1 uv.b.2 uv2.b.2).2.1
        have c2 := (m_B v1.2.2 v2'.2.2 v3.2.2 uv.b.2 uv2.b.2).2.2
        refine ⟨_, rfl, .inl ⟨rfl, _, SqL.of hL⟩, _, rfl, _, rfl, _, rfl, _, rfl, ?_⟩
        refine ⟨R, t', t3, _, _, _, _, _, _, _, _, _, v, z, s', v2, z3, s3, rfl, hR4, Ex0.ti e5 hq, hq2, v1, v2', v3, uv.b.2.mono (by decide), uv2.b.2, fun o H5 e6 ho => ?_⟩
        refine ⟨R, o, _, _, _, _, _, _, _, _, _, _, _, _, rfl, Ex0.l33 e6 hR4, ho, v1, v2', v3, ⟨c0.mono (by decide), c1.mono (by decide), c2.mono (by decide)⟩, fun M H6 e7 hM => ?_⟩
        have u0 : B3 1000 0 1 0 := (Uv.b (i := 1) (.inr (.inl ⟨rfl, rfl, rfl, rfl⟩))).2
        have u1 : B3 1000 0 0 1 := (Uv.b (i := 2) (.inr (.inr ⟨rfl, rfl, rfl, rfl⟩))).2
        have cc : B3 4104 (m0 (-a * c) (-a * d) (-b * d) v z s' v2 z3 s3) (m1 b 0 d v z s' v2 z3 s3) (m2 (-a) 0 (-c) v z s' v2 z3 s3) := ⟨c0.mono (by decide), c1.mono (by decide), c2.mono (by decide)⟩
        refine ⟨M, _, _, _, _, _, _, _, _, _, rfl, hM, cc.mono (by decide), ⟨((m_B v1.1 v2'.1 v3.1 cc u0).1).mono (by decide), ((m_B v1.2.1 v2'.2.1 v3.2.1 cc u0).2.1).mono (by decide), ((m_B v1.2.2 v2'.2.2 v3.2.2 cc u0).2.2).mono (by decide)⟩, ⟨((m_B v1.1 v2'.1 v3.1 cc u1).1).mono (by decide), ((m_B v1.2.1 v2'.2.1 v3.2.1 cc u1).2.1).mono (by decide), ((m_B v1.2.2 v2'.2.2 v3.2.2 cc u1).2.2).mono (by decide)⟩, fun x m H7 e8 hx => ?_⟩
        have e67 := (Fx.trans e6 e7).trans e8
        have hL7 := Ex0.ap e67 hL
        refine ⟨x, _, 0, .int _, rfl, rfl, SqT.of hx, rfl, ?_⟩
        refine ⟨L, _, _, rfl, rfl, hL7, Nat.lt_of_le_of_lt (by rw [List.length_map, List.length_take]; omega : _ ≤ 1000) (by decide), ?_⟩
        refine ⟨_, rfl, Fx.mut fm0 (Fx.trans e5 e67) trivial nL, by have := uv2.b.1; omega, ?_⟩
        rw [upd_same]
        rw [tr_eq2, ← rv i v2 z3 s3 uv2, List.take_add_one, List.map_append, List.getElem?_eq_getElem (by rw [r3]; exact uv2.b.1), List.getD_eq_getElem?_getD, List.getElem?_eq_getElem (by rw [r3]; exact uv2.b.1)]
        rfl
      · rintro σ H4 ⟨y6, rfl, e5, i3, hL⟩
        have hL' : H4 L = some (.lst (row.map V.int)) := by
          rw [hL, List.take_of_length_le (by rw [r3]; exact Nat.le_refl 3)]
        refine ⟨_, rfl, .inl ⟨rfl, _, SqL.of (Ex0.ap e5 hF3)⟩, _, rfl, L, _, rfl, .inl ⟨SqL.of hL', fun p np => ?_⟩⟩
        have e6 : Ex0 H4 (upd H4 p (.tup (row.map V.int))) := Ex0.new np
        have hF6 := Ex0.ap e6 (Ex0.ap e5 hF3)
        refine ⟨F, xs, _, rfl, rfl, hF6, Nat.lt_of_le_of_lt (by rw [hT3.len, List.length_take]; omega : xs.length ≤ 1000) (by decide), ?_⟩
        refine ⟨_, _, _, xs ++ [.ref p], rfl, Fx.mut fm0 (Fx.trans e3 (Fx.trans e5 e6)) trivial nF, by have := uv.b.1; omega, upd_same, ?_⟩
        rw [rt]
        exact ((hT3.mono fun t zs h => Ex0.ap e6 (Ex0.ap e5 h)).snoc (t := p) upd_same).upd hF6
    · rintro σ H3 ⟨y4, y5, y6, xs, rfl, e3, j3, hF3, hT3⟩
      obtain ⟨t1, t2, t3, rfl, g1, g2, g3⟩ := Tis.three hT3
      refine ⟨_, rfl, F, _, rfl, .inl ⟨SqL.of hF3, fun p np => ?_⟩⟩
      exact q p _ ((e1.trans e3).trans (Ex0.new np)) ⟨t1, t2, t3, upd_same, Ex0.ap (Ex0.new np) g1, Ex0.ap (Ex0.new np) g2, Ex0.ap (Ex0.new np) g3⟩
end
end K16
namespace K16
open PySem PySem.Spec PyProof.Rows L2 Fr
theorem B.plus {n : Nat} {i j : Int} (h1 : B n i) (h2 : B n j) : B (n + 1) (i + j) := ⟨by
  have a := h1.1
  have b := h2.1
  rw [Nat.pow_succ]
  omega, by omega⟩
theorem B.less {n : Nat} {i j : Int} (h1 : B n i) (h2 : B n j) : B (n + 1) (i - j) := ⟨by
  have a := h1.1
  have b := h2.1
  rw [Nat.pow_succ]
  omega, by omega⟩
theorem short_B {i : Int} (h : B 190 i) : Short i := by
  have h1 : i.natAbs < 1569275433846670190958947355801916604025588861116008628224 := h.1
  exact ⟨by omega, by omega⟩
theorem disc_led (a b c d p q r s : Int) (h : p * s - q * r = 1 ∨ p * s - q * r = -1) : fdisc ((p * s - q * r) * fv a b c d p q) ((p * s - q * r) * fl2 a b c d p q r s) ((p * s - q * r) * fl3 a b c d p q r s) ((p * s - q * r) * fv a b c d r s) = fdisc a b c d := by
  have h1 : fdisc (fv a b c d p q) (fl2 a b c d p q r s) (fl3 a b c d p q r s) (fv a b c d r s) = _ := K05M.disc a b c d p q r s
  rcases h with h | h
  · rw [h, Int.one_mul, Int.one_mul, Int.one_mul, Int.one_mul, h1, h]
    show 1 * 1 * 1 * 1 * 1 * 1 * fdisc a b c d = _
    simp
  · rw [h, show ∀ x y z u, fdisc (-1 * x) (-1 * y) (-1 * z) (-1 * u) = fdisc x y z u from K05M.disc_neg, h1, h]
    show -1 * -1 * -1 * -1 * -1 * -1 * fdisc a b c d = _
    simp
theorem e_B {e : Int} (h : e = 1 ∨ e = -1) : B 1 e := by
  rcases h with rfl | rfl <;> exact ⟨by decide, by decide⟩
theorem fv_B {a b c d x y : Int} {n m : Nat} (ha : B n a) (hb : B n b) (hc : B n c) (hd : B n d) (hx : B m x) (hy : B m y) : B (n + m + m + m + 3) (fv a b c d x y) :=
  B.plus (B.plus (B.plus (B.mul (B.mul (B.mul ha hx) hx) hx) (B.mul (B.mul (B.mul hb hx) hx) hy)) ((B.mul (B.mul (B.mul hc hx) hy) hy).mono (by omega))) ((B.mul (B.mul (B.mul hd hy) hy) hy).mono (by omega))
theorem led_B {a b c d p q r s : Int} (ha : B 84 a) (hb : B 84 b) (hc : B 84 c) (hd : B 84 d) (hp : B 81 p) (hq : B 81 q) (hr : B 81 r) (hs : B 81 s) (h : p * s - q * r = 1 ∨ p * s - q * r = -1) : ∀ n ∈ fled a b c d p q r s, B 1000 n := by
  have e := e_B h
  have b2 : B 2 2 := ⟨by decide, by decide⟩
  have b3 : B 2 3 := ⟨by decide, by decide⟩
  have ps := B.mul hp hs
  have qr := B.mul hq hr
  have l1 : B 400 (p * s + 2 * q * r) := (B.plus (ps.mono (by decide : 162 ≤ 170)) ((B.mul (B.mul b2 hq) hr).mono (by decide : 164 ≤ 170))).mono (by decide)
  have l2 : B 400 (2 * p * s + q * r) := (B.plus ((B.mul (B.mul b2 hp) hs).mono (by decide : 164 ≤ 170)) (qr.mono (by decide : 162 ≤ 170))).mono (by decide)
  have f1 : B 998 (fv a b c d p q) := (fv_B ha hb hc hd hp hq).mono (by decide)
  have f4 : B 998 (fv a b c d r s) := (fv_B ha hb hc hd hr hs).mono (by decide)
  have f2 : B 998 (fl2 a b c d p q r s) := (B.plus (B.plus (B.plus (n := 900) ((B.mul (B.mul (B.mul (B.mul b3 ha) hp) hp) hr).mono (by decide)) ((B.mul (B.mul hb hp) l1).mono (by decide))) ((B.mul (B.mul hc hq) l2).mono (by decide))) ((B.mul (B.mul (B.mul (B.mul b3 hd) hq) hq) hs).mono (by decide))).mono (by decide)
  have f3 : B 998 (fl3 a b c d p q r s) := (B.plus (B.plus (B.plus (n := 900) ((B.mul (B.mul (B.mul (B.mul b3 ha) hp) hr) hr).mono (by decide)) ((B.mul (B.mul hb hr) l2).mono (by decide))) ((B.mul (B.mul hc hs) l1).mono (by decide))) ((B.mul (B.mul (B.mul (B.mul b3 hd) hq) hs) hs).mono (by decide))).mono (by decide)
  intro n hn
  unfold fled at hn
  simp only [List.mem_cons, List.mem_nil_iff, or_false] at hn
  rcases hn with rfl | rfl | rfl | rfl
  · exact (B.mul e f1).mono (by decide)
  · exact (B.mul e f2).mono (by decide)
  · exact (B.mul e f3).mono (by decide)
  · exact (B.mul e f4).mono (by decide)
def sp_l_right (_ : PySem.W.Frag) (_ _ _ : Addr) : Sp := fun vs H Q _ => ∃ c : Addr, vs = [.ref c] ∧ Vat c H ∧ ∀ H', Fv c H H' → Q (.bl true) H'
theorem ex_two {H : Hp} {x dx : Addr} {o1 o2 : HO} (nx : H x = none) (ndx : H dx = none) : Ex0 H (upd (upd H dx o1) x o2) := Ex0.of fun b o e => by
  rw [upd_ne (ne_of_none e nx), upd_ne (ne_of_none e ndx)]
  exact e
theorem fo_made {C : Addr} {H H' : Hp} {x dx t : Addr} {ns : List Int} {o1 o2 : HO} (nx : H x = none) (ndx : H dx = none) (ht : Ti H t ns) (e1 : ∀ b o, b ≠ x → (upd (upd H dx o1) x o2) b = some o → H' b = some o)
    (e2 : H' x = some (.ins C dx [(("_coefficients" : Str), .ref t)])) : Ex0 H H' ∧ FormAt C H' x ns :=
  ⟨made_ex nx ndx e1, dx, t, e2, Ex0.ti (made_ex nx ndx e1) ht⟩
theorem ri_made {C C_R : Addr} {H H' : Hp} {x dx f : Addr} {ns : List Int} {o1 o2 : HO} (nx : H x = none) (ndx : H dx = none) (hf : FormAt C H f ns) (e1 : ∀ b o, b ≠ x → (upd (upd H dx o1) x o2) b = some o → H' b = some o)
    (e2 : H' x = some (.ins C_R dx [(("_form" : Str), .ref f)])) : Ex0 H H' ∧ RingAt C C_R H' x ns :=
  ⟨made_ex nx ndx e1, dx, f, e2, Ex0.fo (made_ex nx ndx e1) hf⟩
theorem fo_fv {C c : Addr} {H H' : Hp} {x : Addr} {ns : List Int} (hc : Vat c H) (f : Fv c H H') (h : FormAt C H x ns) : FormAt C H' x ns := by
  obtain ⟨dx, t, h1, h2⟩ := h
  refine ⟨dx, t, f.2 x _ (fun e => ?_) h1, fv_tup hc f h2⟩
  obtain ⟨u, v, z, q⟩ := hc
  unfold Sv at e
  rw [e, q] at h1
  cases h1
theorem ri_fv {C C_R c : Addr} {H H' : Hp} {x : Addr} {ns : List Int} (hc : Vat c H) (f : Fv c H H') (h : RingAt C C_R H x ns) : RingAt C C_R H' x ns := by
  obtain ⟨dx, t, h1, h2⟩ := h
  refine ⟨dx, t, f.2 x _ (fun e => ?_) h1, fo_fv hc f h2⟩
  obtain ⟨u, v, z, q⟩ := hc
  unfold Sv at e
  rw [e, q] at h1
  cases h1
theorem t33_fv {c a : Addr} {H H' : Hp} {r1 r2 r3 : List Int} (hc : Vat c H) (f : Fv c H H') (h : T33 H a r1 r2 r3) : T33 H' a r1 r2 r3 := by
  obtain ⟨t1, t2, t3, h0, h1, h2, h3⟩ := h
  exact ⟨t1, t2, t3, fv_tup hc f h0, fv_tup hc f h1, fv_tup hc f h2, fv_tup hc f h3⟩
theorem tt_B {a b c d : Int} (h : B4 1000 a b c d) : B3 2100 3 b (-c) ∧ B3 2100 b (b * b - 2 * (a * c)) (-(3 * (a * d))) ∧ B3 2100 (-c) (-(3 * (a * d))) (c * c - 2 * (b * d)) := by
  obtain ⟨ba, bb, bc, bd⟩ := h
  have b2 : B 2 2 := ⟨by decide, by decide⟩
  have b3 : B 2 3 := ⟨by decide, by decide⟩
  have k1 : B 2100 (-(3 * (a * d))) := (B.mul b3 (B.mul ba bd)).neg.mono (by decide)
  have k2 : B 2100 (b * b - 2 * (a * c)) := (B.less (n := 2002) ((B.mul bb bb).mono (by decide)) ((B.mul b2 (B.mul ba bc)).mono (by decide))).mono (by decide)
  have k3 : B 2100 (c * c - 2 * (b * d)) := (B.less (n := 2002) ((B.mul bc bc).mono (by decide)) ((B.mul b2 (B.mul bb bd)).mono (by decide))).mono (by decide)
  exact ⟨⟨b3.mono (by decide), bb.mono (by decide), bc.neg.mono (by decide)⟩, ⟨bb.mono (by decide), k2, k1⟩, ⟨bc.neg.mono (by decide), k1, k3⟩⟩
theorem tt_det (a b c d : Int) : det3 3 b (-c) b (b * b - 2 * (a * c)) (-(3 * (a * d))) (-c) (-(3 * (a * d))) (c * c - 2 * (b * d)) = fdisc a b c d := by
  unfold det3 fdisc
  grind
def dotN (xs ys : List Int) : Int := (List.zipWith (fun m t => m * t) xs ys).sum
theorem tt_sum (a b c d u y z v s r : Int) : 0 + u * dotN [v, s, r] [3, b, -c] + y * dotN [v, s, r] [b, b * b - 2 * (a * c), -(3 * (a * d))] + z * dotN [v, s, r] [-c, -(3 * (a * d)), c * c - 2 * (b * d)] = tr a b c d (m0 (-a * c) (-a * d) (-b * d) u y z v s r) (m1 b 0 d u y z v s r) (m2 (-a) 0 (-c) u y z v s r) := by
  show 0 + u * (v * 3 + (s * b + (r * -c + 0))) + y * (v * b + (s * (b * b - 2 * (a * c)) + (r * -(3 * (a * d)) + 0))) + z * (v * -c + (s * -(3 * (a * d)) + (r * (c * c - 2 * (b * d)) + 0))) = _
  unfold tr m0 m1 m2
  grind
theorem dot_B {n m : Nat} {a b c x y z : Int} (h : B3 n a b c) (k : B3 m x y z) : B (n + m + 3) (dotN [a, b, c] [x, y, z]) := by
  show B (n + m + 3) (a * x + (b * y + (c * z + 0)))
  have p1 := B.mul h.1 k.1
  have p2 := B.mul h.2.1 k.2.1
  have p3 := B.mul h.2.2 k.2.2
  exact (B.plus (n := n + m + 2) (p1.mono (by omega)) (B.plus (n := n + m + 1) (p2.mono (by omega)) (B.plus (n := n + m) p3 (B0 p3.2)))).mono (by omega)
theorem one_of {g q : Int} (h : 1 = g * q) (g0 : 0 < g) : g = 1 ∧ q = 1 := by
  have h1 : g.natAbs * q.natAbs = 1 := by rw [← Int.natAbs_mul, ← h]; rfl
  have h2 : g.natAbs = 1 := Nat.dvd_one.mp ⟨q.natAbs, h1.symm⟩
  have h3 : g = 1 := by omega
  subst h3
  exact ⟨rfl, by omega⟩
theorem low_1 {u y z u' y' z' b' : Int} (h : Low u y z 1 u' y' z' b') : u' = u ∧ y' = y ∧ z' = z ∧ b' = 1 := by
  obtain ⟨g, e1, e2, e3, e4, e5, _⟩ := h
  have hg : g = 1 := by
    have h1 : g.natAbs * b'.natAbs = 1 := by rw [← Int.natAbs_mul, ← e4]; rfl
    have h2 : g.natAbs = 1 := Nat.dvd_one.mp ⟨b'.natAbs, h1.symm⟩
    rcases Int.natAbs_eq g with h | h
    · rw [h2] at h; exact h
    · rw [h2] at h; rw [h] at e4; omega
  subst hg
  exact ⟨by omega, by omega, by omega, by omega⟩
def wsN (one other : List Int) (rows : List (List Int)) : Nat → Int
  | 0 => 0
  | i + 1 => wsN one other rows i + one.getD i 0 * dotN other (rows.getD i [])
section
variable {P : Program} {w : World} {K : PySem.W.Frag} {mg : Str → Option Value} {base : Heap} {C_Form C_Ring C_Element : Addr}
theorem ok_l_right (T : Txt K mg C_Form C_Ring C_Element) : Def P w K mg base 9 "_law_right" ["_law_vat_here"] (sp_l_right K C_Form C_Ring C_Element) := by
  obtain ⟨f_, fd_, g_, F_⟩ := T.d_l_right
  obtain ⟨p_Element___mul__, f_Element___mul__, fd_Element___mul__, R_Element___mul__, b_Element___mul__, G_Element___mul__⟩ := (ok_Element___mul__ (P := P) (w := w) (base := base) T)
  obtain ⟨p_Element_trace, f_Element_trace, fd_Element_trace, R_Element_trace, b_Element_trace, G_Element_trace⟩ := (ok_Element_trace (P := P) (w := w) (base := base) T)
  obtain ⟨p_Form___init__, f_Form___init__, fd_Form___init__, R_Form___init__, b_Form___init__, G_Form___init__⟩ := (ok_Form___init__ (P := P) (w := w) (base := base) T)
  obtain ⟨p_Form_led, f_Form_led, fd_Form_led, R_Form_led, b_Form_led, G_Form_led⟩ := (ok_Form_led (P := P) (w := w) (base := base) T)
  obtain ⟨p_Ring___init__, f_Ring___init__, fd_Ring___init__, R_Ring___init__, b_Ring___init__, G_Ring___init__⟩ := (ok_Ring___init__ (P := P) (w := w) (base := base) T)
  obtain ⟨p_Ring_discriminant, f_Ring_discriminant, fd_Ring_discriminant, R_Ring_discriminant, b_Ring_discriminant, G_Ring_discriminant⟩ := (ok_Ring_discriminant (P := P) (w := w) (base := base) T)
  obtain ⟨p_Ring_element, f_Ring_element, fd_Ring_element, ds_Ring_element, R_Ring_element, b_Ring_element, v_Ring_element, d_Ring_element, G_Ring_element⟩ := (ok_Ring_element (P := P) (w := w) (base := base) T)
  obtain ⟨f_l_change, fd_l_change, g_l_change, k_l_change, b_l_change, G_l_change⟩ := (ok_l_change (P := P) (w := w) (base := base) T)
  obtain ⟨f_l_coefficients, fd_l_coefficients, g_l_coefficients, k_l_coefficients, b_l_coefficients, G_l_coefficients⟩ := (ok_l_coefficients (P := P) (w := w) (base := base) T)
  obtain ⟨f_l_det, fd_l_det, g_l_det, k_l_det, b_l_det, G_l_det⟩ := (ok_l_det (P := P) (w := w) (base := base) T)
  obtain ⟨f_l_discriminant, fd_l_discriminant, g_l_discriminant, k_l_discriminant, b_l_discriminant, G_l_discriminant⟩ := (ok_l_discriminant (P := P) (w := w) (base := base) T)
  obtain ⟨f_l_due, fd_l_due, g_l_due, k_l_due, b_l_due, G_l_due⟩ := (ok_l_due (P := P) (w := w) (base := base) T)
  obtain ⟨f_l_int, fd_l_int, g_l_int, k_l_int, b_l_int, G_l_int⟩ := (ok_l_int (P := P) (w := w) (base := base) T)
  obtain ⟨f_trace_table, fd_trace_table, g_trace_table, k_trace_table, b_trace_table, G_trace_table⟩ := (ok_trace_table (P := P) (w := w) (base := base) T)
  refine ⟨f_, fd_, g_, F_.kp, F_.binds (ps := ["_law_vat_here"]) (fun _ _ _ _ _ _ us hl => match us, hl with | [_], _ => rfl), ?_⟩
  refine F_.ok sc_l_right (fun vs H Q E h => ?_) (fun cdv A outer s H vs Q E hr h => ?_)
  · first | (obtain ⟨rfl, _⟩ := h; rfl) | (obtain ⟨_, rfl, _⟩ := h; rfl) | (obtain ⟨_, _, rfl, _⟩ := h; rfl) | (obtain ⟨_, _, _, rfl, _⟩ := h; rfl) | (obtain ⟨_, _, _, _, rfl, _⟩ := h; rfl) | (obtain ⟨_, _, _, _, _, rfl, _⟩ := h; rfl) | (obtain ⟨_, _, _, _, _, _, rfl, _⟩ := h; rfl) | (obtain ⟨_, _, _, _, _, _, _, rfl, _⟩ := h; rfl) | (obtain ⟨_, _, _, _, _, _, _, _, rfl, _⟩ := h; rfl) | (obtain ⟨_, _, _, _, _, _, _, _, _, rfl, _⟩ := h; rfl) | (obtain ⟨_, _, _, _, _, _, _, _, _, _, rfl, _⟩ := h; rfl) | (obtain ⟨_, _, _, _, _, _, _, _, _, _, _, rfl, _⟩ := h; rfl) | (obtain ⟨_, _, _, _, _, _, _, _, _, _, _, _, rfl, _⟩ := h; rfl) | (obtain ⟨_, _, _, _, _, _, _, _, _, _, _, _, _, rfl, _⟩ := h; rfl) | (obtain ⟨_, _, _, _, _, _, _, _, _, _, _, _, _, _, rfl, _⟩ := h; rfl) | (obtain ⟨_, _, _, _, _, _, _, _, _, _, _, _, _, _, _, rfl, _⟩ := h; rfl) | (obtain ⟨_, _, _, _, _, _, _, _, _, _, _, _, _, _, _, _, rfl, _⟩ := h; rfl) | (obtain ⟨_, _, _, _, _, _, _, _, _, _, _, _, _, _, _, _, _, rfl, _⟩ := h; rfl) | (obtain ⟨_, _, _, _, _, _, _, _, _, _, _, _, _, _, _, _, _, _, rfl, _⟩ := h; rfl) | (obtain ⟨_, _, _, _, _, _, _, _, _, _, _, _, _, _, _, _, _, _, _, rfl, _⟩ := h; rfl) | (obtain ⟨_, _, _, _, _, _, _, _, _, _, _, _, _, _, _, _, _, _, _, _, rfl, _⟩ := h; rfl) | (obtain ⟨_, _, _, _, _, _, _, _, _, _, _, _, _, _, _, _, _, _, _, _, _, rfl, _⟩ := h; rfl) | (obtain ⟨_, _, _, _, _, _, _, _, _, _, _, _, _, _, _, _, _, _, _, _, _, _, rfl, _⟩ := h; rfl) | (obtain ⟨_, _, _, _, _, _, _, _, _, _, _, _, _, _, _, _, _, _, _, _, _, _, _, rfl, _⟩ := h; rfl)
  · obtain ⟨c, rfl, hc, q⟩ := h
    refine ⟨_, (pss_cons (ps_set (i := 1) sc_l_right.nd rfl (.inl rfl) (pe_call G_l_coefficients (hr.mono (by decide)) (by rfl) g_l_coefficients k_l_coefficients b_l_coefficients .nil pass0 (pa_cons (pv 0) pa_nil)))
    (Evl.pss_cut (ps_set (i := 2) sc_l_right.nd rfl (.inl rfl) (pe_make R_Ring___init__ G_Ring___init__ (hr.mono (by decide)) (by rfl) T.g_Ring b_Ring___init__ .nil pass0 (pa_cons (pe_make R_Form___init__ G_Form___init__ (hr.mono (by decide)) (by rfl) T.g_Form b_Form___init__ .nil pass0 (pa_cons (pv 1) pa_nil)) pa_nil)))
    (Evl.pss_cut (ps_par (i := 3) (j := 4) (by rfl) sc_l_right.nd rfl rfl (by decide) rfl rfl (pa_cons (pe_call G_trace_table (hr.mono (by decide)) (by rfl) g_trace_table k_trace_table b_trace_table .nil pass0 (pa_cons (pv 2) pa_nil)) (pa_cons (pe_call G_l_due (hr.mono (by decide)) (by rfl) g_l_due k_l_due b_l_due .nil pass0 (pa_cons (pv 1) pa_nil)) pa_nil)) (by rfl))
    (Evl.pss_cut (ps_if (PW.pt (pw_or (pt_cmpR (op_neD hr.units) (pv 3) (pv 4) (nomark _)) (pw_or (pt_cmpR op_ne (pe_prop (pv 2) T.cl_Ring R_Ring_discriminant G_Ring_discriminant (hr.mono (by decide)) b_Ring_discriminant .nil pass0 (by rfl)) (pe_call G_l_discriminant (hr.mono (by decide)) (by rfl) g_l_discriminant k_l_discriminant b_l_discriminant .nil pass0 (pa_cons (pv 1) pa_nil)) (nomark _)) (pw_or1 (pt_cmpR op_ne (pe_call G_l_det (hr.mono (by decide)) (by rfl) g_l_det k_l_det b_l_det .nil pass0 (pa_cons (pv 4) pa_nil)) (pe_prop (pv 2) T.cl_Ring R_Ring_discriminant G_Ring_discriminant (hr.mono (by decide)) b_Ring_discriminant .nil pass0 (by rfl)) (nomark _))))))
      (pss_one (ps_ret pe_bl))
      pss_nil)
    (Evl.pss_cut (ps_set (i := 5) sc_l_right.nd rfl (.inl rfl) (pe_make R_Ring___init__ G_Ring___init__ (hr.mono (by decide)) (by rfl) T.g_Ring b_Ring___init__ .nil pass0 (pa_cons (pe_meth (pe_make R_Form___init__ G_Form___init__ (hr.mono (by decide)) (by rfl) T.g_Form b_Form___init__ .nil pass0 (pa_cons (pv 1) pa_nil)) T.cl_Form R_Form_led G_Form_led (hr.mono (by decide)) b_Form_led .nil pass0 (pa_cons (pe_call G_l_change (hr.mono (by decide)) (by rfl) g_l_change k_l_change b_l_change .nil pass0 (pa_cons (pv 0) pa_nil)) pa_nil)) pa_nil)))
    (Evl.pss_cut (ps_if (PW.pt (pw_or (pt_cmpR op_ne (pe_prop (pv 5) T.cl_Ring R_Ring_discriminant G_Ring_discriminant (hr.mono (by decide)) b_Ring_discriminant .nil pass0 (by rfl)) (pe_prop (pv 2) T.cl_Ring R_Ring_discriminant G_Ring_discriminant (hr.mono (by decide)) b_Ring_discriminant .nil pass0 (by rfl)) (nomark _)) (pw_or1 (pt_cmpR op_ne (pe_call G_l_det (hr.mono (by decide)) (by rfl) g_l_det k_l_det b_l_det .nil pass0 (pa_cons (pe_call G_trace_table (hr.mono (by decide)) (by rfl) g_trace_table k_trace_table b_trace_table .nil pass0 (pa_cons (pv 5) pa_nil)) pa_nil)) (pe_prop (pv 2) T.cl_Ring R_Ring_discriminant G_Ring_discriminant (hr.mono (by decide)) b_Ring_discriminant .nil pass0 (by rfl)) (nomark _)))))
      (pss_one (ps_ret pe_bl))
      pss_nil)
    (Evl.pss_cut (ps_asg (pe_lc (own := [("_law_line", 11)]) (g := (gName 11)) rfl sc_l_right.nd (pi_range1 (by rfl) T.b_range (pa_cons pe_int pa_nil)) (blkOk_by (N := N_l_right) (sc := defScope s_l_right) (by decide +kernel)) (fun _ _ _ _ _ => (pg_name (i := 11) sc_l_right.nd rfl (.inl rfl))) (fun _ _ _ _ _ => pts_nil) (fun _ _ _ _ _ => (pe_callTy (call_tuple_ofK (K := K) rfl) (by rfl) T.b_tuple (by decide +kernel) (pa_cons (pe_lc (own := [("_law_turn", 12)]) (g := (gName 12)) rfl sc_l_right.nd (pi_range1 (by rfl) T.b_range (pa_cons pe_int pa_nil)) (blkOk_by (by rfl)) (fun _ _ _ _ _ => (pg_name (i := 12) sc_l_right.nd rfl (.inl rfl))) (fun _ _ _ _ _ => pts_nil) (fun _ _ _ _ _ => (pe_call G_l_int (hr.mono (by decide)) (by rfl) g_l_int k_l_int b_l_int .nil pass0 (pa_cons (pv 0) pa_nil)))) pa_nil)))) (pg_lst (by rfl) (pgs_cons (pg_name (i := 6) sc_l_right.nd rfl (.inl rfl)) (pgs_cons (pg_name (i := 7) sc_l_right.nd rfl (.inl rfl)) pgs_nil))))
    (Evl.pss_cut (ps_set (i := 8) sc_l_right.nd rfl (.inl rfl) pe_int)
    (Evl.pss_cut (ps_for PassesOwn.never rfl (RZ.pi_zipA (by rfl) T.b_zip (pa_cons (pv 6) (pa_cons (pv 3) pa_nil))) (pg_tup (by rfl) (pgs_cons (pg_name (i := 9) sc_l_right.nd rfl (.inl rfl)) (pgs_cons (pg_name (i := 10) sc_l_right.nd rfl (.inl rfl)) pgs_nil)))
      (pss_one (ps_set (i := 8) sc_l_right.nd rfl (.inl rfl) (pe_op op_add (pv 8) (pe_op op_mulW (pv 9) (pe_callB (cr_sum rfl) (by rfl) T.b_sum (by decide +kernel) (pa_cons (pe_lc (own := [("_law_more", 13), ("_law_trace", 14)]) (g := (gTup K 2 (gCons (gName 13) (gCons (gName 14) gNil)))) rfl sc_l_right.nd (RZ.pi_zipA (by rfl) T.b_zip (pa_cons (pv 7) (pa_cons (pv 10) pa_nil))) (blkOk_by (N := N_l_right) (sc := defScope s_l_right) (by decide +kernel)) (fun _ _ _ _ _ => (pg_tup (by rfl) (pgs_cons (pg_name (i := 13) sc_l_right.nd rfl (.inl rfl)) (pgs_cons (pg_name (i := 14) sc_l_right.nd rfl (.inl rfl)) pgs_nil)))) (fun _ _ _ _ _ => pts_nil) (fun _ _ _ _ _ => (pe_op op_mulW (pv 13) (pv 14)))) pa_nil)))))))
    (pss_one (ps_ret (pe_cmpR (op_eqD hr.units) (pe_prop (pe_op (op_binI R_Element___mul__ G_Element___mul__ b_Element___mul__ (hr.mono (by decide)) pass0) (pe_meth (pv 2) T.cl_Ring R_Ring_element G_Ring_element (hr.mono (by decide)) d_Ring_element v_Ring_element pass0 (pa_cons (pv 6) pa_nil)) (pe_meth (pv 2) T.cl_Ring R_Ring_element G_Ring_element (hr.mono (by decide)) d_Ring_element v_Ring_element pass0 (pa_cons (pv 7) pa_nil))) T.cl_Element R_Element_trace G_Element_trace (hr.mono (by decide)) b_Element_trace .nil pass0 (by rfl)) (pe_tup (pa_cons (pv 8) (pa_cons pe_int pa_nil))) (nomark _))))))))))))), ?_⟩
    refine ⟨_, rfl, c, rfl, hc, fun t A1 A2 A3 A4 H1 e1 ht hn => ?_⟩
    have sn : ∀ n ∈ [A1, A2, A3, A4], Short n := fun n h => by have := hn n h; exact ⟨by omega, by omega⟩
    have bn : ∀ n ∈ [A1, A2, A3, A4], B 84 n := fun n h => ⟨Nat.lt_of_le_of_lt (hn n h) (by decide), by decide⟩
    have bz : B4 1000 A1 A2 A3 A4 := ⟨(bn A1 (by simp)).mono (by decide), (bn A2 (by simp)).mono (by decide), (bn A3 (by simp)).mono (by decide), (bn A4 (by simp)).mono (by decide)⟩
    obtain ⟨tb1, tb2, tb3⟩ := tt_B bz
    refine ⟨fun σ H' => ∃ R : Addr, σ = [some (.ref c), some (.ref t), some (.ref R), none, none, none, none, none, none, none, none, none, none, none, none] ∧ Ex0 H1 H' ∧ RingAt C_Form C_Ring H' R [A1, A2, A3, A4], ?_, ?_⟩
    · refine ⟨_, rfl, fun x dx nx ndx _ => ?_⟩
      refine ⟨x, dx, t, [A1, A2, A3, A4], rfl, upd_same, made_at nx ndx ht, rfl, sn, fun H2 e2 h2 => ⟨rfl, ?_⟩⟩
      obtain ⟨e3, hx⟩ := fo_made nx ndx ht e2 h2
      intro y dy ny ndy _
      refine ⟨y, dy, x, [A1, A2, A3, A4], rfl, upd_same, Ex0.fo (ex_two ny ndy) hx, fun H3 e4 h4 => ⟨rfl, ?_⟩⟩
      obtain ⟨e5, hy⟩ := ri_made ny ndy hx e4 h4
      exact ⟨y, rfl, e3.trans e5, hy⟩
    rintro σ H2 ⟨R, rfl, e2, hR⟩
    have ht2 := Ex0.ti e2 ht
    refine ⟨fun σ H' => ∃ U D : Addr, σ = [some (.ref c), some (.ref t), some (.ref R), some (.ref U), some (.ref D), none, none, none, none, none, none, none, none, none, none] ∧ Ex0 H2 H' ∧ T33 H' U [3, A2, -A3] [A2, A2 * A2 - 2 * (A1 * A3), -(3 * (A1 * A4))] [-A3, -(3 * (A1 * A4)), A3 * A3 - 2 * (A2 * A4)] ∧ T33 H' D [3, A2, -A3] [A2, A2 * A2 - 2 * (A1 * A3), -(3 * (A1 * A4))] [-A3, -(3 * (A1 * A4)), A3 * A3 - 2 * (A2 * A4)], ?_, ?_⟩
    · refine ⟨_, rfl, R, A1, A2, A3, A4, rfl, hR, bz, fun U H3 e3 hU => ?_⟩
      refine ⟨_, rfl, t, A1, A2, A3, A4, rfl, Ex0.ti e3 ht2, bz, fun D H4 e4 hD => ?_⟩
      exact ⟨_, _, rfl, U, D, rfl, e3.trans e4, Ex0.t33 e4 hU, hD⟩
    rintro σ H3 ⟨U, D, rfl, e3, hU, hD⟩
    have hR3 := Ex0.ri e3 hR
    have ht3 := Ex0.ti e3 ht2
    obtain ⟨dr, fr, hr1, hr2⟩ := id hR3
    refine ⟨fun σ H' => σ = [some (.ref c), some (.ref t), some (.ref R), some (.ref U), some (.ref D), none, none, none, none, none, none, none, none, none, none] ∧ Ex0 H3 H', ?_, ?_⟩
    · refine ⟨_, rfl, _, rfl, d33 _ _ _, d33 _ _ _, hU.dp, hD.dp, shaped_33 _ _ _, shaped_33 _ _ _, _, rfl, ?_⟩
      rw [eqv_33]
      refine iteF ?_
      refine ⟨_, rfl, R, dr, _, rfl, hr1, R, A1, A2, A3, A4, rfl, hR3, bz, ?_⟩
      refine ⟨_, rfl, t, A1, A2, A3, A4, rfl, ht3, bz, rfl, _, rfl, ndF rfl ?_⟩
      refine ⟨_, rfl, D, _, _, _, _, _, _, _, _, _, rfl, hD, tb1, tb2, tb3, ?_⟩
      refine ⟨_, rfl, R, dr, _, rfl, hr1, R, A1, A2, A3, A4, rfl, hR3, bz, rfl, _, rfl, ndF (by rw [tt_det]) ?_⟩
      exact ⟨rfl, Ex0.refl _⟩
    rintro σ H4 ⟨rfl, e4⟩
    have hR4 := Ex0.ri e4 hR3
    have ht4 := Ex0.ti e4 ht3
    have f4 : Fv c H H4 := e1.trans (fv_ex e1.1 ((e2.trans e3).trans e4))
    refine ⟨fun σ H' => ∃ (L : Addr) (E1 E2 E3 E4 : Int), σ = [some (.ref c), some (.ref t), some (.ref R), some (.ref U), some (.ref D), some (.ref L), none, none, none, none, none, none, none, none, none] ∧ Fv c H4 H' ∧ RingAt C_Form C_Ring H' L [E1, E2, E3, E4] ∧ B4 1000 E1 E2 E3 E4 ∧ fdisc E1 E2 E3 E4 = fdisc A1 A2 A3 A4, ?_, ?_⟩
    · refine ⟨_, rfl, fun x dx nx ndx _ => ?_⟩
      refine ⟨x, dx, t, [A1, A2, A3, A4], rfl, upd_same, made_at nx ndx ht4, rfl, sn, fun H5 e5 h5 => ⟨rfl, ?_⟩⟩
      obtain ⟨e6, hx⟩ := fo_made nx ndx ht4 e5 h5
      obtain ⟨dx', tx, hx1, hx2⟩ := id hx
      have f5 : Fv c H4 H5 := fv_ex f4.1 e6
      refine ⟨x, dx', _, rfl, hx1, rfl, _, rfl, c, rfl, f5.1, fun u p q' r s' H6 e7 h4 g4 => ?_⟩
      obtain ⟨g1, g2, g3, g5, gd⟩ := g4
      have b729 : ∀ n : Int, n.natAbs ≤ 729 → B 81 n := fun n h => ⟨Nat.lt_of_le_of_lt h (by decide), by decide⟩
      have s729 : ∀ n : Int, n.natAbs ≤ 729 → Short n := fun n h => ⟨by omega, by omega⟩
      refine ⟨x, u, A1, A2, A3, A4, p, q', r, s', rfl, fo_fv f5.1 e7 hx, h4, bz.1, bz.2.1, bz.2.2.1, bz.2.2.2, ⟨s729 p g1, s729 q' g2, s729 r g3, s729 s' g5, gd⟩, fun y H7 e8 hy => ?_⟩
      intro z dz nz ndz _
      refine ⟨z, dz, y, _, rfl, upd_same, Ex0.fo (ex_two nz ndz) hy, fun H8 e9 h9 => ⟨rfl, ?_⟩⟩
      obtain ⟨e10, hz⟩ := ri_made nz ndz hy e9 h9
      have lb := led_B (bn A1 (by simp)) (bn A2 (by simp)) (bn A3 (by simp)) (bn A4 (by simp)) (b729 p g1) (b729 q' g2) (b729 r g3) (b729 s' g5) gd
      unfold fled at hz lb
      exact ⟨z, _, _, _, _, rfl, f5.trans (e7.trans (fv_ex e7.1 (e8.trans e10))), hz, ⟨lb _ (by simp), lb _ (by simp), lb _ (by simp), lb _ (by simp)⟩, disc_led _ _ _ _ _ _ _ _ gd⟩
    rintro σ H5 ⟨L, E1, E2, E3, E4, rfl, e5, hL, bE, hdE⟩
    have hR5 := ri_fv f4.1 e5 hR4
    refine ⟨fun σ H' => σ = [some (.ref c), some (.ref t), some (.ref R), some (.ref U), some (.ref D), some (.ref L), none, none, none, none, none, none, none, none, none] ∧ Ex0 H5 H', ?_, ?_⟩
    · obtain ⟨dl, fl, hl1, hl2⟩ := id hL
      obtain ⟨dr', fr', hr1', hr2'⟩ := id hR5
      obtain ⟨xb1, xb2, xb3⟩ := tt_B bE
      refine ⟨_, rfl, L, dl, _, rfl, hl1, L, E1, E2, E3, E4, rfl, hL, bE, ?_⟩
      refine ⟨_, rfl, R, dr', _, rfl, hr1', R, A1, A2, A3, A4, rfl, hR5, bz, rfl, _, rfl, ndF (by rw [hdE]) ?_⟩
      refine ⟨_, rfl, L, E1, E2, E3, E4, rfl, hL, bE, fun X H6 e6 hX => ?_⟩
      refine ⟨X, _, _, _, _, _, _, _, _, _, rfl, hX, xb1, xb2, xb3, ?_⟩
      have hR6 := Ex0.ri e6 hR5
      obtain ⟨dr2, fr2, hr3, hr4⟩ := id hR6
      refine ⟨_, rfl, R, dr2, _, rfl, hr3, R, A1, A2, A3, A4, rfl, hR6, bz, rfl, _, rfl, ndF (by rw [tt_det, hdE]) ?_⟩
      exact ⟨rfl, e6⟩
    rintro σ H6 ⟨rfl, e6⟩
    have f56 : Fv c H4 H6 := e5.trans (fv_ex e5.1 e6)
    have f6 : Fv c H H6 := f4.trans f56
    have hR6 := Ex0.ri e6 hR5
    have hU6 : T33 H6 U [3, A2, -A3] [A2, A2 * A2 - 2 * (A1 * A3), -(3 * (A1 * A4))] [-A3, -(3 * (A1 * A4)), A3 * A3 - 2 * (A2 * A4)] := t33_fv f4.1 f56 (Ex0.t33 e4 hU)
    refine ⟨fun σ H' => ∃ (t1 t2 : Addr) (u y z v s' r : Int), σ = [some (.ref c), some (.ref t), some (.ref R), some (.ref U), some (.ref D), some (.ref L), some (.ref t1), some (.ref t2), none, none, none, none, none, none, none] ∧ Fv c H6 H' ∧ Ti H' t1 [u, y, z] ∧ Ti H' t2 [v, s', r] ∧ (∀ n ∈ [u, y, z], n.natAbs ≤ 1000000) ∧ (∀ n ∈ [v, s', r], n.natAbs ≤ 1000000), ?_, ?_⟩
    · refine ⟨_, rfl, by decide, by decide, ?_⟩
      refine lcR (fmV c) f6.1 (fun i acc H' => ∃ rs, Tis H' acc rs ∧ rs.length = i ∧ ∀ r ∈ rs, r.length = 3 ∧ ∀ n ∈ r, n.natAbs ≤ 1000000) (fun _ _ => ⟨[], .nil, rfl, fun _ h => by cases h⟩) (fun D1 i acc H7 hD1 hi e7 hA hlen hp => ?_) (fun D1 H7 acc hD1 e7 hA hp => ?_)
      · obtain ⟨rs, hrs, hln, hrb⟩ := hp
        have hi' : i < 2 := by simpa using hi
        refine ⟨rfl, ?_⟩
        refine ⟨_, rfl, by decide, by decide, ?_⟩
        refine lcR (fmV c) e7.1 (fun i acc _ => ∃ ns : List Int, acc = ns.map V.int ∧ ns.length = i ∧ ∀ n ∈ ns, n.natAbs ≤ 1000000) (fun _ _ => ⟨[], rfl, rfl, fun _ h => by cases h⟩) (fun D2 i2 acc2 H8 hD2 hi2 e8 hA2 hlen2 hp2 => ?_) (fun D2 H8 acc2 hD2 e8 hA2 hp2 => ?_)
        · obtain ⟨ns, rfl, hln2, hns⟩ := hp2
          have hi2' : i2 < 3 := by simpa using hi2
          refine ⟨rfl, ?_⟩
          refine ⟨_, rfl, c, rfl, e8.1, fun z H9 hz e9 => ?_⟩
          refine cs_yes (fmV c) e7.1 hD2 e8 hA2 hlen2 (by omega) e9 ⟨ns ++ [z], by rw [List.map_append]; rfl, by rw [List.length_append, hln2]; rfl, fun n hn => ?_⟩
          rcases List.mem_append.mp hn with h | h
          · exact hns n h
          · have : n = z := by simpa using h
            rw [this]
            exact hz
        · obtain ⟨ns, rfl, hln2, hns⟩ := hp2
          refine ⟨D2, _, rfl, .inl ⟨SqL.of hA2, fun p np => ?_⟩⟩
          have e9 : Fv c H8 (upd H8 p (.tup (ns.map V.int))) := fv_new e8.1 np
          have e89 := e8.trans e9
          refine cs_yes (fmV c) f6.1 hD1 e7 hA hlen (by omega) e89 ⟨rs ++ [ns], ?_, by rw [List.length_append, hln]; rfl, fun r hr => ?_⟩
          · have hD9 := e89.2 D1 _ (fun z => by unfold Sv at z; exact (fmV c).fresh f6.1 hD1 z) hA
            exact ((hrs.mono fun t zs h => fv_tup e7.1 e89 h).snoc (t := p) upd_same).upd hD9
          · rcases List.mem_append.mp hr with h | h
            · exact hrb r h
            · have : r = ns := by simpa using h
              rw [this]
              exact ⟨by simpa using hln2, hns⟩
      · obtain ⟨rs, hrs, hln, hrb⟩ := hp
        have hln' : rs.length = 2 := by simpa using hln
        obtain ⟨r1, r2, rfl⟩ : ∃ r1 r2, rs = [r1, r2] := by
          match rs, hln' with
          | [x, y], _ => exact ⟨x, y, rfl⟩
        obtain ⟨k1, k2⟩ := hrb r1 (by simp)
        obtain ⟨k3, k4⟩ := hrb r2 (by simp)
        obtain ⟨u, y, z, rfl⟩ : ∃ u y z, r1 = [u, y, z] := by
          match r1, k1 with
          | [x, y, z], _ => exact ⟨x, y, z, rfl⟩
        obtain ⟨v, s', r, rfl⟩ : ∃ u y z, r2 = [u, y, z] := by
          match r2, k3 with
          | [x, y, z], _ => exact ⟨x, y, z, rfl⟩
        cases hrs with
        | @cons t1 _ _ _ h1 hrs =>
          cases hrs with
          | @cons t2 _ _ _ h2 hrs =>
            cases hrs
            refine ⟨D1, _, rfl, SqL.of hA, rfl, _, _, rfl, _, _, rfl, rfl, ?_⟩
            exact ⟨t1, t2, u, y, z, v, s', r, rfl, e7, h1, h2, k2, k4⟩
    rintro σ H7 ⟨t1, t2, u, y, z, v, s', r, rfl, e7, h1, h2, k1, k2⟩
    have hR7 := ri_fv f6.1 e7 hR6
    have hU7 := t33_fv f6.1 e7 hU6
    have f7 := f6.trans e7
    refine ⟨fun σ H' => σ = [some (.ref c), some (.ref t), some (.ref R), some (.ref U), some (.ref D), some (.ref L), some (.ref t1), some (.ref t2), some (.int 0), none, none, none, none, none, none] ∧ Ex0 H7 H', ⟨rfl, Ex0.refl _⟩, ?_⟩
    rintro σ H8 ⟨rfl, e8⟩
    have hR8 := Ex0.ri e8 hR7
    have g1 := Ex0.ti e8 h1
    have g2 := Ex0.ti e8 h2
    obtain ⟨T1, T2, T3, x0, x1, x2, x3⟩ := Ex0.t33 e8 hU7
    have b1 : ∀ n ∈ [u, y, z], B 1000 n := fun n h => ⟨Nat.lt_of_le_of_lt (k1 n h) (by decide), by decide⟩
    have b2 : ∀ n ∈ [v, s', r], B 1000 n := fun n h => ⟨Nat.lt_of_le_of_lt (k2 n h) (by decide), by decide⟩
    have row : ∀ (i : Nat) (y1 : V), [V.ref T1, .ref T2, .ref T3][i]? = some y1 → ∃ (t' : Addr) (r0 r1 r2 : Int), y1 = .ref t' ∧ Ti H8 t' [r0, r1, r2] ∧ B3 2100 r0 r1 r2 ∧ (ttR A1 A2 A3 A4).getD i [] = [r0, r1, r2] ∧ i < 3 := fun i y1 fy => by
      match i, fy with
      | 0, fy => exact ⟨T1, _, _, _, (Option.some.inj fy).symm, x1, tb1, rfl, by decide⟩
      | 1, fy => exact ⟨T2, _, _, _, (Option.some.inj fy).symm, x2, tb2, rfl, by decide⟩
      | 2, fy => exact ⟨T3, _, _, _, (Option.some.inj fy).symm, x3, tb3, rfl, by decide⟩
    refine ⟨fun σ H' => ∃ y9 y10 : Option V, σ = [some (.ref c), some (.ref t), some (.ref R), some (.ref U), some (.ref D), some (.ref L), some (.ref t1), some (.ref t2), some (.int (wsN [u, y, z] [v, s', r] (ttR A1 A2 A3 A4) 3)), y9, y10, none, none, none, none] ∧ Ex0 H8 H', ?_, ?_⟩
    · refine ⟨_, rfl, _, rfl, t1, U, _, _, rfl, .inr ⟨SqT.of g1, SqT.of x0, ?_⟩⟩
      refine for_P (walk_zipT (K := K) (xs := ([u, y, z] : List Int).map V.int) (ys := [.ref T1, .ref T2, .ref T3]) rfl) (fun i σ H' => ∃ y9 y10 : Option V, σ = [some (.ref c), some (.ref t), some (.ref R), some (.ref U), some (.ref D), some (.ref L), some (.ref t1), some (.ref t2), some (.int (wsN [u, y, z] [v, s', r] (ttR A1 A2 A3 A4) i)), y9, y10, none, none, none, none] ∧ Ex0 H8 H') ⟨none, none, rfl, Ex0.refl _⟩ (fun i σ H' _ ⟨_, _, _, e⟩ => ⟨SqT.of (Ex0.ti e g1), SqT.of (Ex0.ap e x0)⟩) ?_ ?_
      · rintro i T x y1 σ H9 hi fx fy ⟨y9, y10, rfl, e9⟩ hT
        obtain ⟨rfl, hi1⟩ := get_D fx
        obtain ⟨t', r0, r1, r2, rfl, hrow, brow, rowE, i3⟩ := row i y1 fy
        refine ⟨T, _, rfl, SqT.of upd_same, rfl, _, _, rfl, _, _, rfl, rfl, ?_⟩
        have e10 : Ex0 H9 (upd H9 T (.tup [.int (([u, y, z] : List Int).getD i 0), .ref t'])) := Ex0.new hT
        have g10 := Ex0.ti (Fx.trans e9 e10) g2
        have row10 := Ex0.ti (Fx.trans e9 e10) hrow
        have ws1 : wsN [u, y, z] [v, s', r] (ttR A1 A2 A3 A4) (i + 1) = wsN [u, y, z] [v, s', r] (ttR A1 A2 A3 A4) i + ([u, y, z] : List Int).getD i 0 * dotN [v, s', r] [r0, r1, r2] := by rw [wsN, rowE]
        have be : B 1000 (([u, y, z] : List Int).getD i 0) := b1 _ (gD_mem hi1)
        generalize wsN [u, y, z] [v, s', r] (ttR A1 A2 A3 A4) i = ws at ws1 ⊢
        generalize upd H9 T (.tup [.int (([u, y, z] : List Int).getD i 0), .ref t']) = H10 at e10 g10 row10 ⊢
        generalize ([u, y, z] : List Int).getD i 0 = en at ws1 be ⊢
        refine ⟨_, rfl, _, rfl, _, rfl, _, rfl, t2, t', _, _, rfl, .inr ⟨SqT.of g10, SqT.of row10, ?_⟩⟩
        refine lcP (walk_zipT (K := K) (xs := ([v, s', r] : List Int).map V.int) (ys := ([r0, r1, r2] : List Int).map V.int) rfl) fm0 trivial (fun H' e => ⟨SqT.of (Ex0.ti e g10), SqT.of (Ex0.ti e row10)⟩) (fun i acc _ => acc = ((List.zipWith (fun m t => m * t) [v, s', r] [r0, r1, r2]).take i).map V.int) (fun _ _ => rfl) (fun D1 j T x y1 acc H' hD hi fx fy e11 hA hlen hp hT => ?_) (fun D1 H' acc hD e11 hA hp => ?_)
        · obtain ⟨rfl, hj1⟩ := get_D fx
          obtain ⟨rfl, hj2⟩ := get_D fy
          have bt : B 2100 (([r0, r1, r2] : List Int).getD j 0) := by
            match j, hj2 with
            | 0, _ => exact brow.1
            | 1, _ => exact brow.2.1
            | 2, _ => exact brow.2.2
          refine ⟨T, _, rfl, SqT.of upd_same, rfl, _, _, rfl, _, _, rfl, rfl, ⟨rfl, ?_⟩⟩
          refine ⟨_, rfl, _, rfl, _, _, rfl, rfl, mulB (b2 _ (gD_mem hj1)) bt (by decide), ?_⟩
          refine cs_yes fm0 trivial hD e11 hA hlen (by have : j < 3 := hj1; omega) (Ex0.new hT) ?_
          rw [hp, List.take_add_one, List.map_append]
          congr 1
          rw [List.getElem?_zipWith, List.getElem?_eq_getElem hj1, List.getElem?_eq_getElem hj2, List.getD_eq_getElem?_getD, List.getD_eq_getElem?_getD, List.getElem?_eq_getElem hj1, List.getElem?_eq_getElem hj2]
          rfl
        · refine ⟨D1, List.zipWith (fun m t => m * t) [v, s', r] [r0, r1, r2], rfl, SqL.of (by rw [hA, hp]; rfl), ?_⟩
          have bd : B 3103 (dotN [v, s', r] [r0, r1, r2]) := dot_B ⟨b2 v (by simp), b2 s' (by simp), b2 r (by simp)⟩ brow
          refine ⟨_, _, rfl, rfl, mulB be bd (by decide), _, _, rfl, rfl, ?_⟩
          exact ⟨_, _, by rw [ws1]; rfl, (Fx.trans e9 e10).trans e11⟩
      · rintro σ H9 ⟨y9, y10, rfl, e9⟩
        exact ⟨y9, y10, rfl, e9⟩
    rintro σ H9 ⟨y9, y10, rfl, e9⟩
    have hR9 := Ex0.ri e9 hR8
    obtain ⟨dr, fr, hr1, hr2⟩ := id hR9
    have sh : ∀ n : Int, n.natAbs ≤ 1000000 → Short n := fun n h => ⟨by omega, by omega⟩
    have s1 : Short 1 := ⟨by decide, by decide⟩
    have o120 : B 120 1 := ⟨by decide, by decide⟩
    refine ⟨_, rfl, R, dr, _, rfl, hr1, rfl, _, rfl, R, t1, _, u, y, z, 1, rfl, hR9, Ex0.ti e9 g1, sh u (k1 u (by simp)), sh y (k1 y (by simp)), sh z (k1 z (by simp)), s1, by decide, fun X1 H10 u' y' z' b' low e10 hX1 => ?_⟩
    obtain ⟨rfl, rfl, rfl, rfl⟩ := low_1 low
    have hR10 := Ex0.ri e10 hR9
    obtain ⟨dr', fr', hr3, hr4⟩ := id hR10
    refine ⟨_, rfl, R, dr', _, rfl, hr3, rfl, _, rfl, R, t2, _, v, s', r, 1, rfl, hR10, Ex0.ti (e9.trans e10) g2, sh v (k2 v (by simp)), sh s' (k2 s' (by simp)), sh r (k2 r (by simp)), s1, by decide, fun X2 H11 u2 y2 z2 b2' low2 e11 hX2 => ?_⟩
    obtain ⟨rfl, rfl, rfl, rfl⟩ := low_1 low2
    have hX1' := Ex0.el e11 hX1
    obtain ⟨dX1, q1, q2, q3, _, _⟩ := id hX1'
    obtain ⟨dX2, q4, q5, q6, _, _⟩ := id hX2
    refine ⟨X1, X2, _, _, _, _, rfl, rfl, q3, q6, X1, X2, A1, A2, A3, A4, _, _, _, 1, _, _, _, 1, rfl, hX1', hX2, bz, ⟨(b1 _ (by simp)).mono (by decide), (b1 _ (by simp)).mono (by decide), (b1 _ (by simp)).mono (by decide)⟩, ⟨b2 _ (by simp), b2 _ (by simp), b2 _ (by simp)⟩, o120, o120, by decide, fun o H12 u3 y3 z3 b3 low3 e12 ho => ⟨⟨o, rfl⟩, ?_⟩⟩
    obtain ⟨h1', h2', h3', h4'⟩ := low_1 (show Low _ _ _ 1 _ _ _ _ from low3)
    subst h4'
    obtain ⟨dO, q7, q8, q9, _, _⟩ := id ho
    obtain ⟨v1, v2, v3⟩ := w_B bz
    have bm := fun {A D G : Int} (ha : B 2100 A) (hd : B 2100 D) (hg : B 2100 G) => m_B ha hd hg (⟨b1 u' (by simp), b1 y' (by simp), b1 z' (by simp)⟩ : B3 1000 u' y' z') (⟨b2 u2 (by simp), b2 y2 (by simp), b2 z2 (by simp)⟩ : B3 1000 u2 y2 z2)
    refine ⟨o, dO, _, rfl, q9, o, A1, A2, A3, A4, u3, y3, z3, 1, rfl, ho, bz, ⟨by rw [h1']; exact (bm v1.1 v2.1 v3.1).1.mono (by decide), by rw [h2']; exact (bm v1.2.1 v2.2.1 v3.2.1).2.1.mono (by decide), by rw [h3']; exact (bm v1.2.2 v2.2.2 v3.2.2).2.2.mono (by decide)⟩, by decide, by decide, fun O H13 p q' g g0 i1 i2 i3 e13 hO => ?_⟩
    obtain ⟨rfl, rfl⟩ := one_of i2 g0
    refine ⟨_, rfl, sl2, fun W nW => ?_⟩
    have e14 : Ex0 H13 (upd H13 W (.tup [.int (wsN [u', y', z'] [u2, y2, z2] (ttR A1 A2 A3 A4) 3), .int 1])) := Ex0.new nW
    refine ⟨.tuple ([p, 1].map .int), .tuple ([wsN [u', y', z'] [u2, y2, z2] (ttR A1 A2 A3 A4) 3, 1].map .int), .tup (SqT.of (Ex0.ti e14 hO)) (dp_ints _), .tup (SqT.of upd_same) (dp_ints [wsN [u', y', z'] [u2, y2, z2] (ttR A1 A2 A3 A4) 3, 1]), shaped_tints _, shaped_tints _, ?_⟩
    rw [PyData.eqv, eqv_ints]
    have fin : ([p, 1] : List Int) = [wsN [u', y', z'] [u2, y2, z2] (ttR A1 A2 A3 A4) 3, 1] := by
      have e := tt_sum A1 A2 A3 A4 u' y' z' u2 y2 z2
      have ws3 : wsN [u', y', z'] [u2, y2, z2] (ttR A1 A2 A3 A4) 3 = tr A1 A2 A3 A4 u3 y3 z3 := by rw [h1', h2', h3', ← e]; rfl
      rw [ws3, i1, Int.one_mul]
    rw [decide_eq_true fin]
    exact q _ (f7.trans (fv_ex f7.1 ((((((e8.trans e9).trans e10).trans e11).trans e12).trans e13).trans e14)))
end
end K16
set_option Elab.async false
set_option linter.all false
set_option maxRecDepth 100000
set_option maxHeartbeats 400000
namespace Hd
open PySem PySem.Spec PyProof.Rows L2 Fr
open He (ga ma eqO eqO_ok ba)
def pa (K : PySem.W.Frag) (C : Addr) (m : Str) : Addr := match PySem.W.recIn K (ma K C m) "property" with
  | some (.ref g :: _) => g
  | _ => 0
def itA (K : PySem.W.Frag) (a : Addr) (i : Nat) : Addr := match K.lookup a with
  | some ⟨_, _, .seq its _, _⟩ => (match its[i]? with
    | some (.ref b) => b
    | _ => 0)
  | _ => 0
structure Dd where
  at_ : PySem.W.Frag → Addr
  name : Str
  qual : Str
  st : Stmt
  dfl : List V := []
def fnA (K : PySem.W.Frag) (a : Addr) : He.FnW := match K.lookup a with
  | some ⟨_, _, .func fd, _⟩ => some (fd.name, fd.qualname, fd.params, fd.body, fd.scope, fd.globals, fd.closure, fd.builtins)
  | _ => none
def Dd.val (d : Dd) : He.FnW := some (d.name, d.qual, defArgs d.st, .stmts (defBody d.st), defScope d.st, mainGlobals, [], builtinsNs)
def Dd.ok (K : PySem.W.Frag) (d : Dd) : Bool := PySem.W.keepIn K (.ref (d.at_ K)) && (match K.lookup (d.at_ K) with
  | some ⟨_, _, .func fd, _⟩ => PySem.W.codeIn K fd.code d.qual && He.dflB K fd.defaults d.dfl
  | _ => false)
theorem Dd.funD {K : PySem.W.Frag} {d : Dd} (e : fnA K (d.at_ K) = d.val) (c : d.ok K = true) : ∃ fd, FunD K d.name d.qual (defArgs d.st) (defBody d.st) (defScope d.st) d.dfl [] (d.at_ K) fd := by
  obtain ⟨kp, c2⟩ := ba c
  unfold fnA at e
  cases hk : K.lookup (d.at_ K) with
  | none => rw [hk] at c2; cases c2
  | some o =>
    obtain ⟨oc, od, dt, osl⟩ := o
    rw [hk] at c2 e
    cases dt with
    | func fd =>
      obtain ⟨n1, n2, n3, n4, n5, n6, n7, n8, n9, n10, n11, n12, n13, n14, n15⟩ := fd
      have e0 : (some (n1, n2, n3, n4, n5, n6, n7, n15) : He.FnW) = some (d.name, d.qual, defArgs d.st, .stmts (defBody d.st), defScope d.st, mainGlobals, [], builtinsNs) := e
      simp only [Option.some.injEq, Prod.mk.injEq] at e0
      obtain ⟨h1, h2, h3, h4, h5, h6, h7, h8⟩ := e0
      subst h1 h2 h3 h4 h5 h6 h7 h8
      obtain ⟨k1, k2⟩ := ba (show (PySem.W.codeIn K n13 d.qual && He.dflB K n8 d.dfl) = true from c2)
      exact ⟨_, ⟨oc, od, n8, n9, n10, n11, n12, n13, n14, osl, rfl, hk, k1, He.dflB_ok k2, .inl rfl⟩, kp⟩
    | _ => cases c2
theorem fun_of {K : PySem.W.Frag} {x q : Str} {st : Stmt} {f : Addr} {fd : FuncData} (F : FunD K x q (defArgs st) (defBody st) (defScope st) [] [] f fd) : Fun K x q st f fd := by
  obtain ⟨⟨oc, od, dV, kV, doc, pm, an, cdv, ct, osl, e1, e2, e3, e4, e5⟩, kp⟩ := F
  rcases e4 with ⟨_, rfl⟩ | ⟨h, _⟩
  · exact ⟨⟨oc, od, kV, doc, pm, an, cdv, ct, osl, e1, e2, e3⟩, kp⟩
  · exact absurd rfl h
def refsP (o : Obj) : List Addr := match o.data with
  | .seq its _ => its.toList.flatMap He.refV
  | .dict es _ => es.toList.flatMap fun e => He.refV e.val
  | .func fd => He.refV fd.code ++ He.refV fd.defaults
  | .cls cd => [cd.ns]
  | .fields vs => (match o.cls with
    | .type c => (match c == "property" with
      | true => vs.toList.flatMap He.refV
      | false => [])
    | _ => [])
  | _ => []
def nxt (g : Addr → Option Obj) (as : List Addr) : List Addr := as.flatMap fun a => match g a with
  | some o => refsP o
  | none => []
def asM (g : Addr → Option Obj) : Nat → List Addr → List Addr
  | 0, as => as
  | n + 1, as => as ++ asM g n (nxt g as)
abbrev Fb : Type := PySem.W.Frag → Bool
abbrev AlM : Type := Bool × List He.FnW
def obsM (fa : List Fb) (fn : List Dd) (K : PySem.W.Frag) : AlM := ((fa.all fun f => f K) && fn.all fun d => d.ok K, fn.map fun d => fnA K (d.at_ K))
def valM (fn : List Dd) : AlM := (true, fn.map Dd.val)
def SaysM (fa : List Fb) (fn : List Dd) (K : PySem.W.Frag) : Prop := obsM fa fn K = valM fn
def obsMG (n : Nat) (fa : List Fb) (fn : List Dd) (g : Addr → Option Obj) : AlM := obsM fa fn (He.frG g (asM g n [mainGlobals]))
def hookM (n : Nat) (fa : List Fb) (fn : List Dd) : PySem.W.Hook where
  α := AlM
  obs := fun s => obsMG n fa fn s.heap.get?
  val := fun _ => valM fn
  says := fun _ h => ∃ K : PySem.W.Frag, K.In h ∧ SaysM fa fn K
  of := fun _ _ e => ⟨_, He.frG_in, e⟩
  keeps := fun _ _ _ ⟨K, hK, c⟩ k => ⟨K, PySem.W.Frag.In.keeps hK k, c⟩
theorem obsMG_eq {n : Nat} {fa : List Fb} {fn : List Dd} {g : Addr → Option Obj} {s : Shared} (h : ∀ a, g a = s.heap.get? a) : obsMG n fa fn g = (hookM n fa fn).obs s := by
  have e : g = s.heap.get? := funext h
  rw [e] <;> rfl
section
variable {fa : List Fb} {fn : List Dd} {K : PySem.W.Frag}
theorem SaysM.fact (c : SaysM fa fn K) (i : Nat) {f : Fb} (h : fa[i]? = some f := by rfl) : f K = true := by
  have c1 : ((fa.all fun f => f K) && fn.all fun d => d.ok K) = true := congrArg (fun z : AlM => z.1) c
  exact List.all_eq_true.mp (ba c1).1 f (List.mem_of_getElem? h)
theorem SaysM.def_ (c : SaysM fa fn K) (i : Nat) {d : Dd} (h : fn[i]? = some d := by rfl) : ∃ fd, FunD K d.name d.qual (defArgs d.st) (defBody d.st) (defScope d.st) d.dfl [] (d.at_ K) fd := by
  have c1 : ((fa.all fun f => f K) && fn.all fun d => d.ok K) = true := congrArg (fun z : AlM => z.1) c
  have c2 : fn.map (fun d => fnA K (d.at_ K)) = fn.map Dd.val := congrArg (fun z : AlM => z.2) c
  have c3 : (fn.map fun d => fnA K (d.at_ K))[i]? = (fn.map Dd.val)[i]? := by rw [c2]
  rw [List.getElem?_map, List.getElem?_map, h] at c3
  exact Dd.funD (Option.some.inj c3) (List.all_eq_true.mp (ba c1).2 d (List.mem_of_getElem? h))
end
def decO (a b : Option Bool) : Bool := decide (a = b)
theorem decO_ok {a b : Option Bool} (h : decO a b = true) : a = b := of_decide_eq_true h
def bltB (x : Str) (id : String) : Fb := fun K => eqO (PySem.W.nsIn K mainGlobals x) (some (some (.builtin id)))
theorem blt_ok {K : PySem.W.Frag} {h : Heap} {mg : Str → Option Value} (X : K.In h) (G : h.Ns mainGlobals mg) {x : Str} {id : String} (c : bltB x id K = true) : mg x = some (.builtin id) := PySem.W.mg_of X G (eqO_ok c)
def tyB (C : Str) : Fb := fun K => eqO (PySem.W.findIn K (.ref (ga K C)) "__class__") (some (some (.builtin "object.__class__"))) && (eqO (PySem.W.specialIn K (.builtin "object.__class__") "__get__") (some (some (.builtin "getset_descriptor.__get__"))) && (decO (PySem.W.takesIn K (.builtin "object.__class__")) (some true) && decO (PySem.W.mroIn K (ga K C) (.type "object")) (some true)))
theorem ty_ok {K : PySem.W.Frag} {C : Str} (c : tyB C K = true) : TyI K (ga K C) := by
  obtain ⟨c1, c⟩ := ba c
  obtain ⟨c2, c⟩ := ba c
  obtain ⟨c3, c4⟩ := ba c
  exact ⟨eqO_ok c1, eqO_ok c2, decO_ok c3, decO_ok c4⟩
def propB (C m : Str) : Fb := fun K => eqO (PySem.W.findIn K (.ref (ga K C)) m) (some (some (.ref (ma K (ga K C) m)))) && (eqO (PySem.W.specialIn K (.ref (ma K (ga K C) m)) "__get__") (some (some (.builtin "property.__get__"))) && (decO (PySem.W.takesIn K (.ref (ma K (ga K C) m))) (some true) && (match PySem.W.recIn K (ma K (ga K C) m) "property" with
  | some (.ref _ :: _) => true
  | _ => false)))
theorem prop_ok {K : PySem.W.Frag} {C m : Str} (c : propB C m K = true) : PropOf K (ga K C) m (ma K (ga K C) m) (pa K (ga K C) m) := by
  obtain ⟨c1, c⟩ := ba c
  obtain ⟨c2, c⟩ := ba c
  obtain ⟨c3, c4⟩ := ba c
  refine ⟨eqO_ok c1, eqO_ok c2, decO_ok c3, ?_⟩
  unfold pa
  cases hr : PySem.W.recIn K (ma K (ga K C) m) "property" with
  | none => rw [hr] at c4; cases c4
  | some l =>
    rw [hr] at c4
    cases l with
    | nil => cases c4
    | cons v rest =>
      cases v with
      | ref g => exact ⟨rest, rfl⟩
      | _ => cases c4
def eqB (C : Str) : Fb := fun K => eqO (PySem.W.findIn K (.ref (ga K C)) "__eq__") (some (some (.ref (ma K (ga K C) "__eq__")))) && (PySem.W.isFn K (.ref (ma K (ga K C) "__eq__")) && (eqO (PySem.W.findIn K (.ref (ga K C)) "__ne__") (some (some (.builtin "object.__ne__"))) && decO (PySem.W.mroIn K (ga K C) (.type "object")) (some true)))
theorem eq_ok {K : PySem.W.Frag} {C : Str} (c : eqB C K = true) : EqC K (ga K C) (ma K (ga K C) "__eq__") := by
  obtain ⟨c1, c⟩ := ba c
  obtain ⟨c2, c⟩ := ba c
  obtain ⟨c3, c4⟩ := ba c
  exact ⟨eqO_ok c1, c2, eqO_ok c3, decO_ok c4⟩
def callB (C : Str) : Fb := fun K => eqO (PySem.W.findIn K (.ref (ga K C)) "__call__") (some (some (.ref (ma K (ga K C) "__call__")))) && (PySem.W.isFn K (.ref (ma K (ga K C) "__call__")) && PySem.W.fnIn K (ma K (ga K C) "__call__"))
theorem call_ok {K : PySem.W.Frag} {C : Str} (c : callB C K = true) : StX.CallO K (ga K C) (ma K (ga K C) "__call__") := by
  obtain ⟨c1, c⟩ := ba c
  obtain ⟨c2, c3⟩ := ba c
  exact ⟨eqO_ok c1, c2, c3⟩
def binB (C m : Str) : Fb := fun K => eqO (PySem.W.findIn K (.ref (ga K C)) m) (some (some (.ref (ma K (ga K C) m)))) && (PySem.W.isFn K (.ref (ma K (ga K C) m)) && PySem.W.selfFirst K (ga K C))
theorem bin_ok {K : PySem.W.Frag} {C m : Str} (c : binB C m K = true) : PySem.W.findIn K (.ref (ga K C)) m = some (some (.ref (ma K (ga K C) m))) ∧ PySem.W.isFn K (.ref (ma K (ga K C) m)) = true ∧ PySem.W.selfFirst K (ga K C) = true := by
  obtain ⟨c1, c⟩ := ba c
  obtain ⟨c2, c3⟩ := ba c
  exact ⟨eqO_ok c1, c2, c3⟩
def intsB (a : PySem.W.Frag → Addr) (ns : List Int) : Fb := fun K => match K.lookup (a K) with
  | some ⟨.type c, _, .seq its _, _⟩ => decide (c = "tuple") && (decide (its.size ≤ sizeLine) && He.relAll (ns.map V.int) its.toList)
  | _ => false
theorem ints_ok {K : PySem.W.Frag} {a : PySem.W.Frag → Addr} {ns : List Int} (c : intsB a ns K = true) (H : Hp) : SqT K H (a K) (ns.map V.int) := by
  unfold intsB at c
  cases hk : K.lookup (a K) with
  | none => rw [hk] at c; cases c
  | some o =>
    obtain ⟨oc, od, dt, sl⟩ := o
    rw [hk] at c
    cases oc with
    | type t =>
      cases dt with
      | seq its m =>
        obtain ⟨c1, c⟩ := ba c
        obtain ⟨c2, c3⟩ := ba c
        exact .inr ⟨_, its, m, hk, congrArg Value.type (of_decide_eq_true c1), rfl, of_decide_eq_true c2, He.relAll_ok c3⟩
      | _ => cases c
    | _ => cases dt <;> cases c
def refsB (a : PySem.W.Frag → Addr) (n : Nat) : Fb := fun K => match K.lookup (a K) with
  | some ⟨.type c, _, .seq its _, _⟩ => decide (c = "tuple") && (decide (its.size ≤ sizeLine) && He.relAll ((List.range n).map fun i => V.ref (itA K (a K) i)) its.toList)
  | _ => false
theorem refs_ok {K : PySem.W.Frag} {a : PySem.W.Frag → Addr} {n : Nat} (c : refsB a n K = true) (H : Hp) : SqT K H (a K) ((List.range n).map fun i => V.ref (itA K (a K) i)) := by
  unfold refsB at c
  generalize hl : (List.range n).map (fun i => V.ref (itA K (a K) i)) = l at c ⊢
  cases hk : K.lookup (a K) with
  | none => rw [hk] at c; cases c
  | some o =>
    obtain ⟨oc, od, dt, sl⟩ := o
    rw [hk] at c
    cases oc with
    | type t =>
      cases dt with
      | seq its m =>
        obtain ⟨c1, c⟩ := ba c
        obtain ⟨c2, c3⟩ := ba c
        exact .inr ⟨_, its, m, hk, congrArg Value.type (of_decide_eq_true c1), rfl, of_decide_eq_true c2, He.relAll_ok c3⟩
      | _ => cases c
    | _ => cases dt <;> cases c
end Hd
namespace K16
open PySem PySem.Spec PyProof.Rows L2 Fr
def sp_lawW (K : PySem.W.Frag) : Sp := fun vs H Q _ => ∃ (a : Addr) (ns : List Int), vs = [.ref a] ∧ SqL K H a (ns.map V.int) ∧ ns.length ≤ 63 ∧ ∀ H', Q (.bl true) H'
abbrev sp_law (K : PySem.W.Frag) (_ _ _ : Addr) : Sp := sp_lawW K
section
variable {P : Program} {w : World} {K : PySem.W.Frag} {mg : Str → Option Value} {base : Heap} {C_Form C_Ring C_Element : Addr}
theorem ok_law0 (T : Txt K mg C_Form C_Ring C_Element) {f_ : Addr} {fd_ : FuncData} (F_ : Fun K "law" "law" s_law f_ fd_) : FnOk P w K mg base CX0 10 f_ fd_ ["_law_script"] (sp_law K C_Form C_Ring C_Element) := by
  obtain ⟨p_Form___init__, f_Form___init__, fd_Form___init__, R_Form___init__, b_Form___init__, G_Form___init__⟩ := (ok_Form___init__ (P := P) (w := w) (base := base) T)
  obtain ⟨p_Ring___init__, f_Ring___init__, fd_Ring___init__, R_Ring___init__, b_Ring___init__, G_Ring___init__⟩ := (ok_Ring___init__ (P := P) (w := w) (base := base) T)
  obtain ⟨f_l_right, fd_l_right, g_l_right, k_l_right, b_l_right, G_l_right⟩ := (ok_l_right (P := P) (w := w) (base := base) T)
  obtain ⟨f_l_vat, fd_l_vat, g_l_vat, k_l_vat, b_l_vat, G_l_vat⟩ := (ok_l_vat (P := P) (w := w) (base := base) T)
  obtain ⟨f_trace_table, fd_trace_table, g_trace_table, k_trace_table, b_trace_table, G_trace_table⟩ := (ok_trace_table (P := P) (w := w) (base := base) T)
  refine F_.ok sc_law (fun vs H Q E h => ?_) (fun cdv A outer s H vs Q E hr h => ?_)
  · first | (obtain ⟨rfl, _⟩ := h; rfl) | (obtain ⟨_, rfl, _⟩ := h; rfl) | (obtain ⟨_, _, rfl, _⟩ := h; rfl) | (obtain ⟨_, _, _, rfl, _⟩ := h; rfl) | (obtain ⟨_, _, _, _, rfl, _⟩ := h; rfl) | (obtain ⟨_, _, _, _, _, rfl, _⟩ := h; rfl) | (obtain ⟨_, _, _, _, _, _, rfl, _⟩ := h; rfl) | (obtain ⟨_, _, _, _, _, _, _, rfl, _⟩ := h; rfl) | (obtain ⟨_, _, _, _, _, _, _, _, rfl, _⟩ := h; rfl) | (obtain ⟨_, _, _, _, _, _, _, _, _, rfl, _⟩ := h; rfl) | (obtain ⟨_, _, _, _, _, _, _, _, _, _, rfl, _⟩ := h; rfl) | (obtain ⟨_, _, _, _, _, _, _, _, _, _, _, rfl, _⟩ := h; rfl) | (obtain ⟨_, _, _, _, _, _, _, _, _, _, _, _, rfl, _⟩ := h; rfl) | (obtain ⟨_, _, _, _, _, _, _, _, _, _, _, _, _, rfl, _⟩ := h; rfl) | (obtain ⟨_, _, _, _, _, _, _, _, _, _, _, _, _, _, rfl, _⟩ := h; rfl) | (obtain ⟨_, _, _, _, _, _, _, _, _, _, _, _, _, _, _, rfl, _⟩ := h; rfl) | (obtain ⟨_, _, _, _, _, _, _, _, _, _, _, _, _, _, _, _, rfl, _⟩ := h; rfl) | (obtain ⟨_, _, _, _, _, _, _, _, _, _, _, _, _, _, _, _, _, rfl, _⟩ := h; rfl) | (obtain ⟨_, _, _, _, _, _, _, _, _, _, _, _, _, _, _, _, _, _, rfl, _⟩ := h; rfl) | (obtain ⟨_, _, _, _, _, _, _, _, _, _, _, _, _, _, _, _, _, _, _, rfl, _⟩ := h; rfl) | (obtain ⟨_, _, _, _, _, _, _, _, _, _, _, _, _, _, _, _, _, _, _, _, rfl, _⟩ := h; rfl) | (obtain ⟨_, _, _, _, _, _, _, _, _, _, _, _, _, _, _, _, _, _, _, _, _, rfl, _⟩ := h; rfl) | (obtain ⟨_, _, _, _, _, _, _, _, _, _, _, _, _, _, _, _, _, _, _, _, _, _, rfl, _⟩ := h; rfl) | (obtain ⟨_, _, _, _, _, _, _, _, _, _, _, _, _, _, _, _, _, _, _, _, _, _, _, rfl, _⟩ := h; rfl)
  · obtain ⟨a, ns, rfl, hS, hn, q⟩ := h
    refine ⟨_, (pss_cons (ps_for PassesOwn.never rfl (pi_range1 (by rfl) T.b_range (pa_cons (pe_callB (call_max2 rfl) (by rfl) T.b_max (by decide +kernel) (pa_cons pe_int (pa_cons (pe_callB (call_min2 rfl) (by rfl) T.b_min (by decide +kernel) (pa_cons pe_int (pa_cons (pe_callB call_len_seq (by rfl) T.b_len PySem.boot_len (pa_cons (pv 0) pa_nil)) pa_nil))) pa_nil))) pa_nil)) (pg_name (i := 1) sc_law.nd rfl (.inl rfl))
      (pss_cons (ps_set (i := 2) sc_law.nd rfl (.inl rfl) (pe_call G_l_vat (hr.mono (by decide)) (by rfl) g_l_vat k_l_vat b_l_vat .nil pass0 (pa_cons (pv 0) (pa_cons (pv 1) pa_nil))))
    (pss_one (ps_if (PW.pt (pw_or (pt_not (pt_val (pe_call G_l_right (hr.mono (by decide)) (by rfl) g_l_right k_l_right b_l_right .nil pass0 (pa_cons (pv 2) pa_nil)))) (pw_or1 (pt_not (pt_val (pe_call G_l_right (hr.mono (by decide)) (by rfl) g_l_right k_l_right b_l_right .nil pass0 (pa_cons (pv 2) pa_nil)))))))
      (pss_one (ps_ret pe_bl))
      pss_nil))))
    (Evl.pss_cut (ps_set (i := 3) sc_law.nd rfl (.inl rfl) (pe_lst (pa_cons (pe_call G_trace_table (hr.mono (by decide)) (by rfl) g_trace_table k_trace_table b_trace_table .nil pass0 (pa_cons (pe_make R_Ring___init__ G_Ring___init__ (hr.mono (by decide)) (by rfl) T.g_Ring b_Ring___init__ .nil pass0 (pa_cons (pe_make R_Form___init__ G_Form___init__ (hr.mono (by decide)) (by rfl) T.g_Form b_Form___init__ .nil pass0 (pa_cons (pe_tup (pa_cons pe_int (pa_cons pe_int (pa_cons pe_int (pa_cons pe_int pa_nil))))) pa_nil)) pa_nil)) pa_nil)) (pa_cons (pe_call G_trace_table (hr.mono (by decide)) (by rfl) g_trace_table k_trace_table b_trace_table .nil pass0 (pa_cons (pe_make R_Ring___init__ G_Ring___init__ (hr.mono (by decide)) (by rfl) T.g_Ring b_Ring___init__ .nil pass0 (pa_cons (pe_make R_Form___init__ G_Form___init__ (hr.mono (by decide)) (by rfl) T.g_Form b_Form___init__ .nil pass0 (pa_cons (pe_tup (pa_cons pe_int (pa_cons pe_int (pa_cons pe_int (pa_cons pe_int pa_nil))))) pa_nil)) pa_nil)) pa_nil)) pa_nil))))
    (pss_one (ps_ret (pe_cmpR (op_eqD hr.units) (pv 3) (pe_lst (pa_cons (pe_tup (pa_cons (pe_tup (pa_cons pe_int (pa_cons pe_int (pa_cons (pe_un un_neg pe_int) pa_nil)))) (pa_cons (pe_tup (pa_cons pe_int (pa_cons (pe_un un_neg pe_int) (pa_cons (pe_un un_neg pe_int) pa_nil)))) (pa_cons (pe_tup (pa_cons (pe_un un_neg pe_int) (pa_cons (pe_un un_neg pe_int) (pa_cons pe_int pa_nil)))) pa_nil)))) (pa_cons (pe_tup (pa_cons (pe_tup (pa_cons pe_int (pa_cons pe_int (pa_cons pe_int pa_nil)))) (pa_cons (pe_tup (pa_cons pe_int (pa_cons pe_int (pa_cons pe_int pa_nil)))) (pa_cons (pe_tup (pa_cons pe_int (pa_cons pe_int (pa_cons pe_int pa_nil)))) pa_nil)))) pa_nil))) (nomark _)))))), ?_⟩
    have hm : ∀ z : Int, z ≤ 63 → -(2 ^ 62) ≤ (if (if z < 4 then z else 4) > 1 then (if z < 4 then z else 4) else 1) ∧ (if (if z < 4 then z else 4) > 1 then (if z < 4 then z else 4) else 1) < 2 ^ 62 := fun z hz => by
      split <;> split <;> omega
    have hm2 := hm (((ns.map V.int).length : Nat) : Int) (by rw [List.length_map]; omega)
    refine ⟨_, rfl, a, _, rfl, .inl hS, _, _, rfl, _, _, rfl, _, rfl, hm2.1, hm2.2, ?_⟩
    refine for_range (lo := 0) (fun i σ H' => ∃ y1 y2, σ = [some (.ref a), y1, y2, none] ∧ Ex0 H H') ⟨none, none, rfl, Ex0.refl H⟩ ?_ ?_
    · rintro i σ H' hi ⟨y1, y2, rfl, e⟩
      refine ⟨_, rfl, _, rfl, a, ns, i, by show [V.ref a, V.int (0 + (i : Int))] = _; rw [Int.zero_add], e.sqL (fun z => z) hS, fun p H1 np e1 hv => ?_⟩
      have hp0 : H p = none := Fx.free e (fun z => z) np
      have e01 : Ex0 H H1 := e.trans e1
      refine ⟨_, rfl, p, rfl, hv, fun H3 e3 => ⟨_, rfl, ?_⟩⟩
      refine iteF ⟨_, rfl, p, rfl, e3.1, fun H4 e4 => ⟨_, rfl, ?_⟩⟩
      refine iteF ?_
      exact ⟨_, _, rfl, ex_fv e01 hp0 (e3.trans e4)⟩
    · rintro σ H' ⟨y1, y2, rfl, e⟩
      have B1 : B 1000 1 := ⟨by decide, by decide⟩
      have B2 : B 1000 2 := ⟨by decide, by decide⟩
      have Bz : B 1000 0 := B0 (by decide)
      have sh : ∀ n ∈ [(1 : Int), 1, 2, 1], Short n := fun n h => by
        simp only [List.mem_cons, List.mem_nil_iff, or_false] at h
        rcases h with rfl | rfl | rfl | rfl <;> exact ⟨by decide, by decide⟩
      have sh0 : ∀ n ∈ [(0 : Int), 0, 0, 0], Short n := fun n h => by
        simp only [List.mem_cons, List.mem_nil_iff, or_false] at h
        rcases h with rfl | rfl | rfl | rfl <;> exact ⟨by decide, by decide⟩
      refine ⟨fun σ H2 => ∃ l X1 X2 : Addr, σ = [some (.ref a), y1, y2, some (.ref l)] ∧ H2 l = some (.lst [.ref X1, .ref X2]) ∧ T33 H2 X1 [3, 1, -2] [1, -3, -3] [-2, -3, 2] ∧ T33 H2 X2 [3, 0, 0] [0, 0, 0] [0, 0, 0], ?_, ?_⟩
      · refine ⟨sl4, fun t nt x dx nx ndx _ => ?_⟩
        have ht : Ti (upd H' t (.tup [.int 1, .int 1, .int 2, .int 1])) t [1, 1, 2, 1] := upd_same
        refine ⟨x, dx, t, [1, 1, 2, 1], rfl, upd_same, made_at nx ndx ht, rfl, sh, fun H2 e2 h2 => ⟨rfl, ?_⟩⟩
        obtain ⟨e3, hx⟩ := fo_made nx ndx ht e2 h2
        intro y dy ny ndy _
        refine ⟨y, dy, x, [1, 1, 2, 1], rfl, upd_same, Ex0.fo (ex_two ny ndy) hx, fun H3 e4 h4 => ⟨rfl, ?_⟩⟩
        obtain ⟨e5, hy⟩ := ri_made ny ndy hx e4 h4
        refine ⟨y, 1, 1, 2, 1, rfl, hy, ⟨B1, B1, B2, B1⟩, fun X1 H4 e6 hX1 => ?_⟩
        have hX1' : T33 H4 X1 [3, 1, -2] [1, -3, -3] [-2, -3, 2] := hX1
        refine ⟨sl4, fun t' nt' x' dx' nx' ndx' _ => ?_⟩
        have ht' : Ti (upd H4 t' (.tup [.int 0, .int 0, .int 0, .int 0])) t' [0, 0, 0, 0] := upd_same
        refine ⟨x', dx', t', [0, 0, 0, 0], rfl, upd_same, made_at nx' ndx' ht', rfl, sh0, fun H5 e7 h5 => ⟨rfl, ?_⟩⟩
        obtain ⟨e8, hx'⟩ := fo_made nx' ndx' ht' e7 h5
        intro y' dy' ny' ndy' _
        refine ⟨y', dy', x', [0, 0, 0, 0], rfl, upd_same, Ex0.fo (ex_two ny' ndy') hx', fun H6 e9 h6 => ⟨rfl, ?_⟩⟩
        obtain ⟨e10, hy'⟩ := ri_made ny' ndy' hx' e9 h6
        refine ⟨y', 0, 0, 0, 0, rfl, hy', ⟨Bz, Bz, Bz, Bz⟩, fun X2 H7 e11 hX2 => ?_⟩
        have hX2' : T33 H7 X2 [3, 0, 0] [0, 0, 0] [0, 0, 0] := hX2
        refine ⟨sl2, fun l nl => ?_⟩
        have e12 : Ex0 H7 (upd H7 l (.lst [.ref X1, .ref X2])) := Ex0.new nl
        have e4t : Ex0 H4 H7 := (((Ex0.new nt').trans e8).trans e10).trans e11
        exact ⟨l, X1, X2, rfl, upd_same, Ex0.t33 (e4t.trans e12) hX1', Ex0.t33 e12 hX2'⟩
      rintro σ H2 ⟨l, X1, X2, rfl, hl, h1, h2⟩
      refine ⟨_, rfl, _, rfl, sl3, fun a1 n1 => ⟨_, rfl, _, rfl, sl3, fun a2 n2 => ⟨_, rfl, _, rfl, sl3, fun a3 n3 => ⟨sl3, fun a4 n4 => ?_⟩⟩⟩⟩
      obtain ⟨e1, k1⟩ := t33_new (r1 := [3, 1, -2]) (r2 := [1, -3, -3]) (r3 := [-2, -3, 2]) n1 n2 n3 n4
      refine ⟨sl3, fun c1 m1 => ⟨sl3, fun c2 m2 => ⟨sl3, fun c3 m3 => ⟨sl3, fun c4 m4 => ?_⟩⟩⟩⟩
      obtain ⟨e2, k2⟩ := t33_new (r1 := [3, 0, 0]) (r2 := [0, 0, 0]) (r3 := [0, 0, 0]) m1 m2 m3 m4
      refine ⟨sl2, fun l2 nl2 => ?_⟩
      have e3 := (Ex0.new (o := .lst [.ref a4, .ref c4]) nl2)
      have e13 := (e1.trans e2).trans e3
      refine ⟨.list [d33 [3, 1, -2] [1, -3, -3] [-2, -3, 2], d33 [3, 0, 0] [0, 0, 0] [0, 0, 0]], .list [d33 [3, 1, -2] [1, -3, -3] [-2, -3, 2], d33 [3, 0, 0] [0, 0, 0] [0, 0, 0]], .lst (SqL.of (Ex0.ap e13 hl)) (.cons (Ex0.t33 e13 h1).dp (.cons (Ex0.t33 e13 h2).dp .nil)), .lst (SqL.of upd_same) (.cons (Ex0.t33 (e2.trans e3) k1).dp (.cons (Ex0.t33 e3 k2).dp .nil)), by decide, by decide, ?_⟩
      exact q _
end
def e0 : Hd.Dd := ⟨fun K => He.ga K "is_any_integer", "is_any_integer", "is_any_integer", s_is_any_integer, []⟩
def e1 : Hd.Dd := ⟨fun K => He.ga K "is_short_integer", "is_short_integer", "is_short_integer", s_is_short_integer, []⟩
def e2 : Hd.Dd := ⟨fun K => He.ga K "are_any_integers", "are_any_integers", "are_any_integers", s_are_any_integers, []⟩
def e3 : Hd.Dd := ⟨fun K => He.ga K "are_short_integers", "are_short_integers", "are_short_integers", s_are_short_integers, []⟩
def e4 : Hd.Dd := ⟨fun K => He.ga K "check_integer", "check_integer", "check_integer", s_check_integer, []⟩
def e5 : Hd.Dd := ⟨fun K => He.ga K "shared_divisor", "shared_divisor", "shared_divisor", s_shared_divisor, []⟩
def e6 : Hd.Dd := ⟨fun K => He.ga K "fraction", "fraction", "fraction", s_fraction, []⟩
def e7 : Hd.Dd := ⟨fun K => He.ga K "determinant_of", "determinant_of", "determinant_of", s_determinant_of, []⟩
def e8 : Hd.Dd := ⟨fun K => He.ga K "is_change", "is_change", "is_change", s_is_change, []⟩
def e9 : Hd.Dd := ⟨fun K => He.ga K "is_short_change", "is_short_change", "is_short_change", s_is_short_change, []⟩
def e10 : Hd.Dd := ⟨fun K => He.ga K "check_change", "check_change", "check_change", s_check_change, []⟩
def e11 : Hd.Dd := ⟨fun K => He.ga K "form_value", "form_value", "form_value", s_form_value, []⟩
def e12 : Hd.Dd := ⟨fun K => He.ga K "form_discriminant", "form_discriminant", "form_discriminant", s_form_discriminant, []⟩
def e13 : Hd.Dd := ⟨fun K => He.ga K "form_led", "form_led", "form_led", s_form_led, []⟩
def e14 : Hd.Dd := ⟨fun K => He.ga K "check_form", "check_form", "check_form", s_check_form, []⟩
def e15 : Hd.Dd := ⟨fun K => He.ga K "form_of", "form_of", "form_of", s_form_of, []⟩
def e16 : Hd.Dd := ⟨fun K => He.ma K (He.ga K "Form") "__init__", "__init__", "Form.__init__", s_Form___init__, []⟩
def e17 : Hd.Dd := ⟨fun K => Hd.pa K (He.ga K "Form") "coefficients", "coefficients", "Form.coefficients", s_Form_coefficients, []⟩
def e18 : Hd.Dd := ⟨fun K => Hd.pa K (He.ga K "Form") "discriminant", "discriminant", "Form.discriminant", s_Form_discriminant, []⟩
def e19 : Hd.Dd := ⟨fun K => He.ma K (He.ga K "Form") "led", "led", "Form.led", s_Form_led, []⟩
def e20 : Hd.Dd := ⟨fun K => He.ma K (He.ga K "Form") "__eq__", "__eq__", "Form.__eq__", s_Form___eq__, []⟩
def e21 : Hd.Dd := ⟨fun K => He.ga K "table_of", "table_of", "table_of", s_table_of, []⟩
def e22 : Hd.Dd := ⟨fun K => He.ga K "product_by", "product_by", "product_by", s_product_by, []⟩
def e23 : Hd.Dd := ⟨fun K => He.ga K "map_by", "map_by", "map_by", s_map_by, []⟩
def e24 : Hd.Dd := ⟨fun K => He.ga K "trace_by", "trace_by", "trace_by", s_trace_by, []⟩
def e25 : Hd.Dd := ⟨fun K => He.ga K "check_bottom", "check_bottom", "check_bottom", s_check_bottom, []⟩
def e26 : Hd.Dd := ⟨fun K => He.ga K "table_for", "table_for", "table_for", s_table_for, []⟩
def e27 : Hd.Dd := ⟨fun K => He.ma K (He.ga K "Ring") "__init__", "__init__", "Ring.__init__", s_Ring___init__, []⟩
def e28 : Hd.Dd := ⟨fun K => Hd.pa K (He.ga K "Ring") "form", "form", "Ring.form", s_Ring_form, []⟩
def e29 : Hd.Dd := ⟨fun K => Hd.pa K (He.ga K "Ring") "discriminant", "discriminant", "Ring.discriminant", s_Ring_discriminant, []⟩
def e30 : Hd.Dd := ⟨fun K => He.ma K (He.ga K "Ring") "element", "element", "Ring.element", s_Ring_element, [.int 1]⟩
def e31 : Hd.Dd := ⟨fun K => He.ma K (He.ga K "Ring") "__eq__", "__eq__", "Ring.__eq__", s_Ring___eq__, []⟩
def e32 : Hd.Dd := ⟨fun K => He.ga K "check_ring", "check_ring", "check_ring", s_check_ring, []⟩
def e33 : Hd.Dd := ⟨fun K => He.ga K "check_one_ring", "check_one_ring", "check_one_ring", s_check_one_ring, []⟩
def e34 : Hd.Dd := ⟨fun K => He.ma K (He.ga K "Element") "__init__", "__init__", "Element.__init__", s_Element___init__, []⟩
def e35 : Hd.Dd := ⟨fun K => Hd.pa K (He.ga K "Element") "ring", "ring", "Element.ring", s_Element_ring, []⟩
def e36 : Hd.Dd := ⟨fun K => Hd.pa K (He.ga K "Element") "trace", "trace", "Element.trace", s_Element_trace, []⟩
def e37 : Hd.Dd := ⟨fun K => He.ma K (He.ga K "Element") "__mul__", "__mul__", "Element.__mul__", s_Element___mul__, []⟩
def e38 : Hd.Dd := ⟨fun K => He.ga K "trace_table", "trace_table", "trace_table", s_trace_table, []⟩
def e39 : Hd.Dd := ⟨fun K => He.ga K "_law_vat", "_law_vat", "_law_vat", s_l_vat, []⟩
def e40 : Hd.Dd := ⟨fun K => He.ga K "_law_drip", "_law_drip", "_law_drip", s_l_drip, []⟩
def e41 : Hd.Dd := ⟨fun K => He.ga K "_law_some_of", "_law_some_of", "_law_some_of", s_l_some_of, []⟩
def e42 : Hd.Dd := ⟨fun K => He.ga K "_law_int", "_law_int", "_law_int", s_l_int, []⟩
def e43 : Hd.Dd := ⟨fun K => He.ga K "_law_rows", "_law_rows", "_law_rows", s_l_rows, []⟩
def e44 : Hd.Dd := ⟨fun K => He.ga K "_law_mixed", "_law_mixed", "_law_mixed", s_l_mixed, []⟩
def e45 : Hd.Dd := ⟨fun K => He.ga K "_law_images", "_law_images", "_law_images", s_l_images, []⟩
def e46 : Hd.Dd := ⟨fun K => He.ga K "_law_det", "_law_det", "_law_det", s_l_det, []⟩
def e47 : Hd.Dd := ⟨fun K => He.ga K "_law_minors", "_law_minors", "_law_minors", s_l_minors, []⟩
def e48 : Hd.Dd := ⟨fun K => He.ga K "_law_coefficients", "_law_coefficients", "_law_coefficients", s_l_coefficients, []⟩
def e49 : Hd.Dd := ⟨fun K => He.ga K "_law_discriminant", "_law_discriminant", "_law_discriminant", s_l_discriminant, []⟩
def e50 : Hd.Dd := ⟨fun K => He.ga K "_law_change", "_law_change", "_law_change", s_l_change, []⟩
def e51 : Hd.Dd := ⟨fun K => He.ga K "_law_due", "_law_due", "_law_due", s_l_due, []⟩
def e52 : Hd.Dd := ⟨fun K => He.ga K "_law_right", "_law_right", "_law_right", s_l_right, []⟩
def e53 : Hd.Dd := ⟨fun K => He.ga K "law", "law", "law", s_law, []⟩
def dd0 : List Hd.Dd := [e0, e1, e2, e3, e4, e5, e6, e7, e8, e9, e10, e11, e12, e13, e14, e15, e16, e17, e18, e19]
def dd1 : List Hd.Dd := [e20, e21, e22, e23, e24, e25, e26, e27, e28, e29, e30, e31, e32, e33, e34, e35, e36, e37, e38, e39]
def dd2 : List Hd.Dd := [e40, e41, e42, e43, e44, e45, e46, e47, e48, e49, e50, e51, e52, e53]
def dd : List Hd.Dd := dd0 ++ (dd1 ++ (dd2))
def g0 : Hd.Fb := fun K => (fun K => (He.Fa.glo "Form").ok K) K
def g1 : Hd.Fb := fun K => (fun K => (He.Fa.cls "Form").ok K) K
def g2 : Hd.Fb := fun K => Hd.tyB "Form" K
def g3 : Hd.Fb := fun K => (fun K => (He.Fa.noat "Form" "_coefficients").ok K) K
def g4 : Hd.Fb := fun K => (fun K => (He.Fa.glo "Ring").ok K) K
def g5 : Hd.Fb := fun K => (fun K => (He.Fa.cls "Ring").ok K) K
def g6 : Hd.Fb := fun K => Hd.tyB "Ring" K
def g7 : Hd.Fb := fun K => (fun K => (He.Fa.noat "Ring" "_form").ok K) K
def g8 : Hd.Fb := fun K => (fun K => (He.Fa.glo "Element").ok K) K
def g9 : Hd.Fb := fun K => (fun K => (He.Fa.cls "Element").ok K) K
def g10 : Hd.Fb := fun K => Hd.tyB "Element" K
def g11 : Hd.Fb := fun K => (fun K => (He.Fa.noat "Element" "_ring").ok K) K
def g12 : Hd.Fb := fun K => (fun K => (He.Fa.noat "Element" "_entries").ok K) K
def g13 : Hd.Fb := fun K => (fun K => (He.Fa.noat "Element" "_bottom").ok K) K
def g14 : Hd.Fb := fun K => (fun K => (He.Fa.glo "is_any_integer").ok K) K
def g15 : Hd.Fb := fun K => (fun K => (He.Fa.glo "is_short_integer").ok K) K
def g16 : Hd.Fb := fun K => (fun K => (He.Fa.glo "are_any_integers").ok K) K
def g17 : Hd.Fb := fun K => (fun K => (He.Fa.glo "are_short_integers").ok K) K
def g18 : Hd.Fb := fun K => (fun K => (He.Fa.glo "check_integer").ok K) K
def g19 : Hd.Fb := fun K => (fun K => (He.Fa.glo "shared_divisor").ok K) K
def g20 : Hd.Fb := fun K => (fun K => (He.Fa.glo "fraction").ok K) K
def g21 : Hd.Fb := fun K => (fun K => (He.Fa.glo "determinant_of").ok K) K
def g22 : Hd.Fb := fun K => (fun K => (He.Fa.glo "is_change").ok K) K
def g23 : Hd.Fb := fun K => (fun K => (He.Fa.glo "is_short_change").ok K) K
def g24 : Hd.Fb := fun K => (fun K => (He.Fa.glo "check_change").ok K) K
def g25 : Hd.Fb := fun K => (fun K => (He.Fa.glo "form_value").ok K) K
def g26 : Hd.Fb := fun K => (fun K => (He.Fa.glo "form_discriminant").ok K) K
def g27 : Hd.Fb := fun K => (fun K => (He.Fa.glo "form_led").ok K) K
def g28 : Hd.Fb := fun K => (fun K => (He.Fa.glo "check_form").ok K) K
def g29 : Hd.Fb := fun K => (fun K => (He.Fa.glo "form_of").ok K) K
def g30 : Hd.Fb := fun K => (fun K => (He.Fa.mkr "Form").ok K) K
def g31 : Hd.Fb := fun K => Hd.propB "Form" "coefficients" K
def g32 : Hd.Fb := fun K => Hd.propB "Form" "discriminant" K
def g33 : Hd.Fb := fun K => (fun K => (He.Fa.meth "Form" "led").ok K) K
def g34 : Hd.Fb := fun K => Hd.eqB "Form" K
def g35 : Hd.Fb := fun K => (fun K => (He.Fa.glo "table_of").ok K) K
def g36 : Hd.Fb := fun K => (fun K => (He.Fa.glo "product_by").ok K) K
def g37 : Hd.Fb := fun K => (fun K => (He.Fa.glo "map_by").ok K) K
def g38 : Hd.Fb := fun K => (fun K => (He.Fa.glo "trace_by").ok K) K
def g39 : Hd.Fb := fun K => (fun K => (He.Fa.glo "check_bottom").ok K) K
def g40 : Hd.Fb := fun K => (fun K => (He.Fa.glo "table_for").ok K) K
def g41 : Hd.Fb := fun K => (fun K => (He.Fa.mkr "Ring").ok K) K
def g42 : Hd.Fb := fun K => Hd.propB "Ring" "form" K
def g43 : Hd.Fb := fun K => Hd.propB "Ring" "discriminant" K
def g44 : Hd.Fb := fun K => (fun K => (He.Fa.meth "Ring" "element").ok K) K
def g45 : Hd.Fb := fun K => Hd.eqB "Ring" K
def g46 : Hd.Fb := fun K => (fun K => (He.Fa.glo "check_ring").ok K) K
def g47 : Hd.Fb := fun K => (fun K => (He.Fa.glo "check_one_ring").ok K) K
def g48 : Hd.Fb := fun K => (fun K => (He.Fa.mkr "Element").ok K) K
def g49 : Hd.Fb := fun K => Hd.propB "Element" "ring" K
def g50 : Hd.Fb := fun K => Hd.propB "Element" "trace" K
def g51 : Hd.Fb := fun K => Hd.binB "Element" "__mul__" K
def g52 : Hd.Fb := fun K => (fun K => (He.Fa.glo "trace_table").ok K) K
def g53 : Hd.Fb := fun K => (fun K => (He.Fa.glo "_law_vat").ok K) K
def g54 : Hd.Fb := fun K => (fun K => (He.Fa.glo "_law_drip").ok K) K
def g55 : Hd.Fb := fun K => (fun K => (He.Fa.glo "_law_some_of").ok K) K
def g56 : Hd.Fb := fun K => (fun K => (He.Fa.glo "_law_int").ok K) K
def g57 : Hd.Fb := fun K => (fun K => (He.Fa.glo "_law_rows").ok K) K
def g58 : Hd.Fb := fun K => (fun K => (He.Fa.glo "_law_mixed").ok K) K
def g59 : Hd.Fb := fun K => (fun K => (He.Fa.glo "_law_images").ok K) K
def g60 : Hd.Fb := fun K => (fun K => (He.Fa.glo "_law_det").ok K) K
def g61 : Hd.Fb := fun K => (fun K => (He.Fa.glo "_law_minors").ok K) K
def g62 : Hd.Fb := fun K => (fun K => (He.Fa.glo "_law_coefficients").ok K) K
def g63 : Hd.Fb := fun K => (fun K => (He.Fa.glo "_law_discriminant").ok K) K
def g64 : Hd.Fb := fun K => (fun K => (He.Fa.glo "_law_change").ok K) K
def g65 : Hd.Fb := fun K => (fun K => (He.Fa.glo "_law_due").ok K) K
def g66 : Hd.Fb := fun K => (fun K => (He.Fa.glo "_law_right").ok K) K
def g67 : Hd.Fb := fun K => (fun K => (He.Fa.glo "law").ok K) K
def g68 : Hd.Fb := fun K => (fun K => (He.Fa.free "abs").ok K) K
def g69 : Hd.Fb := fun K => (fun K => (He.Fa.free "all").ok K) K
def g70 : Hd.Fb := fun K => (fun K => (He.Fa.free "bool").ok K) K
def g71 : Hd.Fb := fun K => (fun K => (He.Fa.free "int").ok K) K
def g72 : Hd.Fb := fun K => (fun K => (He.Fa.free "isinstance").ok K) K
def g73 : Hd.Fb := fun K => (fun K => (He.Fa.free "len").ok K) K
def g74 : Hd.Fb := fun K => (fun K => (He.Fa.free "max").ok K) K
def g75 : Hd.Fb := fun K => (fun K => (He.Fa.free "min").ok K) K
def g76 : Hd.Fb := fun K => (fun K => (He.Fa.free "range").ok K) K
def g77 : Hd.Fb := fun K => (fun K => (He.Fa.free "sum").ok K) K
def g78 : Hd.Fb := fun K => (fun K => (He.Fa.free "tuple").ok K) K
def g79 : Hd.Fb := fun K => (fun K => (He.Fa.free "zip").ok K) K
def g80 : Hd.Fb := fun K => (fun K => (He.Fa.int "LIMIT" (1000000000000000000000000000000000000000000000000000000000000)).ok K) K
def g81 : Hd.Fb := fun K => Hd.bltB "gcd" "math.gcd" K
def g82 : Hd.Fb := fun K => Hd.refsB (fun K => He.ga K "UNITS") 3 K
def g83 : Hd.Fb := fun K => Hd.intsB (fun K => Hd.itA K (He.ga K "UNITS") 0) [1, 0, 0] K
def g84 : Hd.Fb := fun K => Hd.intsB (fun K => Hd.itA K (He.ga K "UNITS") 1) [0, 1, 0] K
def g85 : Hd.Fb := fun K => Hd.intsB (fun K => Hd.itA K (He.ga K "UNITS") 2) [0, 0, 1] K
def g86 : Hd.Fb := fun K => (fun K => (He.Fa.glo "UNITS").ok K) K
def fa0 : List Hd.Fb := [g0, g1, g2, g3, g4, g5, g6, g7, g8, g9, g10, g11, g12, g13, g14, g15, g16, g17, g18, g19]
def fa1 : List Hd.Fb := [g20, g21, g22, g23, g24, g25, g26, g27, g28, g29, g30, g31, g32, g33, g34, g35, g36, g37, g38, g39]
def fa2 : List Hd.Fb := [g40, g41, g42, g43, g44, g45, g46, g47, g48, g49, g50, g51, g52, g53, g54, g55, g56, g57, g58, g59]
def fa3 : List Hd.Fb := [g60, g61, g62, g63, g64, g65, g66, g67, g68, g69, g70, g71, g72, g73, g74, g75, g76, g77, g78, g79]
def fa4 : List Hd.Fb := [g80, g81, g82, g83, g84, g85, g86]
def fa : List Hd.Fb := fa0 ++ (fa1 ++ (fa2 ++ (fa3 ++ (fa4))))
def names0 : List Str := ["_wall", "__name__", "RingError", "InvalidForm", "InvalidChange", "InvalidDouble", "InvalidRing", "InvalidElement", "InvalidOperation", "ParseError", "InvalidNumber", "Refused", "DIGITS", "LIMIT", "is_any_integer", "is_short_integer", "is_between", "are_any_integers", "are_short_integers", "is_written_integer", "check_integer", "check_between", "shared_divisor", "fraction", "determinant_of", "is_change", "is_short_change", "check_change", "double_value", "double_discriminant"]
def names1 : List Str := ["double_led", "double_of", "Double", "plain_root", "rest_of", "form_value", "form_discriminant", "form_led", "is_root_of", "check_form", "form_of", "Form", "UNITS", "table_of", "product_by", "map_by", "trace_by", "check_bottom", "table_for", "Ring", "check_ring", "check_one_ring", "mixed", "term", "sum_text", "Element", "trace_table", "_law_vat", "_law_drip", "_law_some_of"]
def names2 : List Str := ["_law_int", "_law_rows", "_law_mixed", "_law_images", "_law_det", "_law_minors", "_law_coefficients", "_law_discriminant", "_law_change", "_law_due", "_law_right"]
def names : List Str := names0 ++ (names1 ++ (names2))
abbrev RR : PySem.W.OpenRow := PySem.W.OpenLaw.row PySem.Challenge.rw_formrings_k16_whole_trace_tables
abbrev vw : Program := PySem.W.view RR.prog [0, 81]
abbrev hk : PySem.W.Hook := Hd.hookM 5 fa dd
def ob (s : PySem.W.SharedT) : Hd.AlM := Hd.obsMG 5 fa dd (HandSHeadRun.getT s)
theorem ob_eq (s : PySem.W.SharedT) : ob s = hk.obs s.abs := Hd.obsMG_eq (HandSHeadRun.getT_eq s)
theorem run (w : World) : HandSHeadRun.RunEqI RR vw hk ob 9000 names w := by
  unfold HandSHeadRun.RunEqI
  kernel_rfl
theorem facts {P : Program} {w : World} {K : PySem.W.Frag} {h : Heap} {mg : Str → Option Value} {f : Addr} (X : K.In h) (G : h.Ns mainGlobals mg) (hfa : mg ("law" : Str) = some (.ref f)) (c : Hd.SaysM fa dd K) :
    ∃ fd : FuncData, (∀ (s : Shared) (v : Value), BindsTo s fd ⟨[v], []⟩ [("_law_script", v)]) ∧ ∀ base : Heap, K.In base → base.Ns mainGlobals mg → FnOk P w K mg base CX0 10 f fd ["_law_script"] (sp_lawW K) := by
  obtain ⟨fd0, F0⟩ := c.def_ 0 (d := e0) rfl
  obtain ⟨fd1, F1⟩ := c.def_ 1 (d := e1) rfl
  obtain ⟨fd2, F2⟩ := c.def_ 2 (d := e2) rfl
  obtain ⟨fd3, F3⟩ := c.def_ 3 (d := e3) rfl
  obtain ⟨fd4, F4⟩ := c.def_ 4 (d := e4) rfl
  obtain ⟨fd5, F5⟩ := c.def_ 5 (d := e5) rfl
  obtain ⟨fd6, F6⟩ := c.def_ 6 (d := e6) rfl
  obtain ⟨fd7, F7⟩ := c.def_ 7 (d := e7) rfl
  obtain ⟨fd8, F8⟩ := c.def_ 8 (d := e8) rfl
  obtain ⟨fd9, F9⟩ := c.def_ 9 (d := e9) rfl
  obtain ⟨fd10, F10⟩ := c.def_ 10 (d := e10) rfl
  obtain ⟨fd11, F11⟩ := c.def_ 11 (d := e11) rfl
  obtain ⟨fd12, F12⟩ := c.def_ 12 (d := e12) rfl
  obtain ⟨fd13, F13⟩ := c.def_ 13 (d := e13) rfl
  obtain ⟨fd14, F14⟩ := c.def_ 14 (d := e14) rfl
  obtain ⟨fd15, F15⟩ := c.def_ 15 (d := e15) rfl
  obtain ⟨fd16, F16⟩ := c.def_ 16 (d := e16) rfl
  obtain ⟨fd17, F17⟩ := c.def_ 17 (d := e17) rfl
  obtain ⟨fd18, F18⟩ := c.def_ 18 (d := e18) rfl
  obtain ⟨fd19, F19⟩ := c.def_ 19 (d := e19) rfl
  obtain ⟨fd20, F20⟩ := c.def_ 20 (d := e20) rfl
  obtain ⟨fd21, F21⟩ := c.def_ 21 (d := e21) rfl
  obtain ⟨fd22, F22⟩ := c.def_ 22 (d := e22) rfl
  obtain ⟨fd23, F23⟩ := c.def_ 23 (d := e23) rfl
  obtain ⟨fd24, F24⟩ := c.def_ 24 (d := e24) rfl
  obtain ⟨fd25, F25⟩ := c.def_ 25 (d := e25) rfl
  obtain ⟨fd26, F26⟩ := c.def_ 26 (d := e26) rfl
  obtain ⟨fd27, F27⟩ := c.def_ 27 (d := e27) rfl
  obtain ⟨fd28, F28⟩ := c.def_ 28 (d := e28) rfl
  obtain ⟨fd29, F29⟩ := c.def_ 29 (d := e29) rfl
  obtain ⟨fd30, F30⟩ := c.def_ 30 (d := e30) rfl
  obtain ⟨fd31, F31⟩ := c.def_ 31 (d := e31) rfl
  obtain ⟨fd32, F32⟩ := c.def_ 32 (d := e32) rfl
  obtain ⟨fd33, F33⟩ := c.def_ 33 (d := e33) rfl
  obtain ⟨fd34, F34⟩ := c.def_ 34 (d := e34) rfl
  obtain ⟨fd35, F35⟩ := c.def_ 35 (d := e35) rfl
  obtain ⟨fd36, F36⟩ := c.def_ 36 (d := e36) rfl
  obtain ⟨fd37, F37⟩ := c.def_ 37 (d := e37) rfl
  obtain ⟨fd38, F38⟩ := c.def_ 38 (d := e38) rfl
  obtain ⟨fd39, F39⟩ := c.def_ 39 (d := e39) rfl
  obtain ⟨fd40, F40⟩ := c.def_ 40 (d := e40) rfl
  obtain ⟨fd41, F41⟩ := c.def_ 41 (d := e41) rfl
  obtain ⟨fd42, F42⟩ := c.def_ 42 (d := e42) rfl
  obtain ⟨fd43, F43⟩ := c.def_ 43 (d := e43) rfl
  obtain ⟨fd44, F44⟩ := c.def_ 44 (d := e44) rfl
  obtain ⟨fd45, F45⟩ := c.def_ 45 (d := e45) rfl
  obtain ⟨fd46, F46⟩ := c.def_ 46 (d := e46) rfl
  obtain ⟨fd47, F47⟩ := c.def_ 47 (d := e47) rfl
  obtain ⟨fd48, F48⟩ := c.def_ 48 (d := e48) rfl
  obtain ⟨fd49, F49⟩ := c.def_ 49 (d := e49) rfl
  obtain ⟨fd50, F50⟩ := c.def_ 50 (d := e50) rfl
  obtain ⟨fd51, F51⟩ := c.def_ 51 (d := e51) rfl
  obtain ⟨fd52, F52⟩ := c.def_ 52 (d := e52) rfl
  obtain ⟨fd53, F53⟩ := c.def_ 53 (d := e53) rfl
  have T : Txt K mg (He.ga K "Form") (He.ga K "Ring") (He.ga K "Element") := ⟨He.glo_ok X G (c.fact 0 (f := g0) rfl),
    He.cls_ok (c.fact 1 (f := g1) rfl),
    Hd.ty_ok (c.fact 2 (f := g2) rfl),
    He.noat_ok (c.fact 3 (f := g3) rfl),
    He.glo_ok X G (c.fact 4 (f := g4) rfl),
    He.cls_ok (c.fact 5 (f := g5) rfl),
    Hd.ty_ok (c.fact 6 (f := g6) rfl),
    He.noat_ok (c.fact 7 (f := g7) rfl),
    He.glo_ok X G (c.fact 8 (f := g8) rfl),
    He.cls_ok (c.fact 9 (f := g9) rfl),
    Hd.ty_ok (c.fact 10 (f := g10) rfl),
    He.noat_ok (c.fact 11 (f := g11) rfl),
    He.noat_ok (c.fact 12 (f := g12) rfl),
    He.noat_ok (c.fact 13 (f := g13) rfl),
    ⟨_, _, He.glo_ok X G (c.fact 14 (f := g14) rfl), Hd.fun_of F0⟩,
    ⟨_, _, He.glo_ok X G (c.fact 15 (f := g15) rfl), Hd.fun_of F1⟩,
    ⟨_, _, He.glo_ok X G (c.fact 16 (f := g16) rfl), Hd.fun_of F2⟩,
    ⟨_, _, He.glo_ok X G (c.fact 17 (f := g17) rfl), Hd.fun_of F3⟩,
    ⟨_, _, He.glo_ok X G (c.fact 18 (f := g18) rfl), Hd.fun_of F4⟩,
    ⟨_, _, He.glo_ok X G (c.fact 19 (f := g19) rfl), Hd.fun_of F5⟩,
    ⟨_, _, He.glo_ok X G (c.fact 20 (f := g20) rfl), Hd.fun_of F6⟩,
    ⟨_, _, He.glo_ok X G (c.fact 21 (f := g21) rfl), Hd.fun_of F7⟩,
    ⟨_, _, He.glo_ok X G (c.fact 22 (f := g22) rfl), Hd.fun_of F8⟩,
    ⟨_, _, He.glo_ok X G (c.fact 23 (f := g23) rfl), Hd.fun_of F9⟩,
    ⟨_, _, He.glo_ok X G (c.fact 24 (f := g24) rfl), Hd.fun_of F10⟩,
    ⟨_, _, He.glo_ok X G (c.fact 25 (f := g25) rfl), Hd.fun_of F11⟩,
    ⟨_, _, He.glo_ok X G (c.fact 26 (f := g26) rfl), Hd.fun_of F12⟩,
    ⟨_, _, He.glo_ok X G (c.fact 27 (f := g27) rfl), Hd.fun_of F13⟩,
    ⟨_, _, He.glo_ok X G (c.fact 28 (f := g28) rfl), Hd.fun_of F14⟩,
    ⟨_, _, He.glo_ok X G (c.fact 29 (f := g29) rfl), Hd.fun_of F15⟩,
    ⟨He.ga K "Form", _, _, He.mkr_ok (c.fact 30 (f := g30) rfl), Hd.fun_of F16⟩,
    ⟨_, _, _, Hd.prop_ok (c.fact 31 (f := g31) rfl), Hd.fun_of F17⟩,
    ⟨_, _, _, Hd.prop_ok (c.fact 32 (f := g32) rfl), Hd.fun_of F18⟩,
    ⟨He.ga K "Form", _, _, He.meth_ok (c.fact 33 (f := g33) rfl), Hd.fun_of F19⟩,
    ⟨He.ga K "Form", _, _, Hd.eq_ok (c.fact 34 (f := g34) rfl), Hd.fun_of F20⟩,
    ⟨_, _, He.glo_ok X G (c.fact 35 (f := g35) rfl), Hd.fun_of F21⟩,
    ⟨_, _, He.glo_ok X G (c.fact 36 (f := g36) rfl), Hd.fun_of F22⟩,
    ⟨_, _, He.glo_ok X G (c.fact 37 (f := g37) rfl), Hd.fun_of F23⟩,
    ⟨_, _, He.glo_ok X G (c.fact 38 (f := g38) rfl), Hd.fun_of F24⟩,
    ⟨_, _, He.glo_ok X G (c.fact 39 (f := g39) rfl), Hd.fun_of F25⟩,
    ⟨_, _, He.glo_ok X G (c.fact 40 (f := g40) rfl), Hd.fun_of F26⟩,
    ⟨He.ga K "Ring", _, _, He.mkr_ok (c.fact 41 (f := g41) rfl), Hd.fun_of F27⟩,
    ⟨_, _, _, Hd.prop_ok (c.fact 42 (f := g42) rfl), Hd.fun_of F28⟩,
    ⟨_, _, _, Hd.prop_ok (c.fact 43 (f := g43) rfl), Hd.fun_of F29⟩,
    ⟨He.ga K "Ring", _, _, He.meth_ok (c.fact 44 (f := g44) rfl), F30⟩,
    ⟨He.ga K "Ring", _, _, Hd.eq_ok (c.fact 45 (f := g45) rfl), Hd.fun_of F31⟩,
    ⟨_, _, He.glo_ok X G (c.fact 46 (f := g46) rfl), Hd.fun_of F32⟩,
    ⟨_, _, He.glo_ok X G (c.fact 47 (f := g47) rfl), Hd.fun_of F33⟩,
    ⟨He.ga K "Element", _, _, He.mkr_ok (c.fact 48 (f := g48) rfl), Hd.fun_of F34⟩,
    ⟨_, _, _, Hd.prop_ok (c.fact 49 (f := g49) rfl), Hd.fun_of F35⟩,
    ⟨_, _, _, Hd.prop_ok (c.fact 50 (f := g50) rfl), Hd.fun_of F36⟩,
    ⟨He.ga K "Element", _, _, (fun z => ⟨z.1, z.2.1, z.2.2⟩ : _ → BinC K _ _ _) (Hd.bin_ok (c.fact 51 (f := g51) rfl)), Hd.fun_of F37⟩,
    ⟨_, _, He.glo_ok X G (c.fact 52 (f := g52) rfl), Hd.fun_of F38⟩,
    ⟨_, _, He.glo_ok X G (c.fact 53 (f := g53) rfl), Hd.fun_of F39⟩,
    ⟨_, _, He.glo_ok X G (c.fact 54 (f := g54) rfl), Hd.fun_of F40⟩,
    ⟨_, _, He.glo_ok X G (c.fact 55 (f := g55) rfl), Hd.fun_of F41⟩,
    ⟨_, _, He.glo_ok X G (c.fact 56 (f := g56) rfl), Hd.fun_of F42⟩,
    ⟨_, _, He.glo_ok X G (c.fact 57 (f := g57) rfl), Hd.fun_of F43⟩,
    ⟨_, _, He.glo_ok X G (c.fact 58 (f := g58) rfl), Hd.fun_of F44⟩,
    ⟨_, _, He.glo_ok X G (c.fact 59 (f := g59) rfl), Hd.fun_of F45⟩,
    ⟨_, _, He.glo_ok X G (c.fact 60 (f := g60) rfl), Hd.fun_of F46⟩,
    ⟨_, _, He.glo_ok X G (c.fact 61 (f := g61) rfl), Hd.fun_of F47⟩,
    ⟨_, _, He.glo_ok X G (c.fact 62 (f := g62) rfl), Hd.fun_of F48⟩,
    ⟨_, _, He.glo_ok X G (c.fact 63 (f := g63) rfl), Hd.fun_of F49⟩,
    ⟨_, _, He.glo_ok X G (c.fact 64 (f := g64) rfl), Hd.fun_of F50⟩,
    ⟨_, _, He.glo_ok X G (c.fact 65 (f := g65) rfl), Hd.fun_of F51⟩,
    ⟨_, _, He.glo_ok X G (c.fact 66 (f := g66) rfl), Hd.fun_of F52⟩,
    ⟨_, _, He.glo_ok X G (c.fact 67 (f := g67) rfl), Hd.fun_of F53⟩,
    He.free_ok X G (c.fact 68 (f := g68) rfl),
    He.free_ok X G (c.fact 69 (f := g69) rfl),
    He.free_ok X G (c.fact 70 (f := g70) rfl),
    He.free_ok X G (c.fact 71 (f := g71) rfl),
    He.free_ok X G (c.fact 72 (f := g72) rfl),
    He.free_ok X G (c.fact 73 (f := g73) rfl),
    He.free_ok X G (c.fact 74 (f := g74) rfl),
    He.free_ok X G (c.fact 75 (f := g75) rfl),
    He.free_ok X G (c.fact 76 (f := g76) rfl),
    He.free_ok X G (c.fact 77 (f := g77) rfl),
    He.free_ok X G (c.fact 78 (f := g78) rfl),
    He.free_ok X G (c.fact 79 (f := g79) rfl),
    He.int_ok X G (c.fact 80 (f := g80) rfl),
    Hd.blt_ok X G (c.fact 81 (f := g81) rfl),
    ⟨_, He.glo_ok X G (c.fact 86 (f := g86) rfl), fun H => ⟨_, _, _, Hd.refs_ok (c.fact 82 (f := g82) rfl) H, Hd.ints_ok (c.fact 83 (f := g83) rfl) H, Hd.ints_ok (c.fact 84 (f := g84) rfl) H, Hd.ints_ok (c.fact 85 (f := g85) rfl) H⟩⟩⟩
  have e := hfa.symm.trans (He.glo_ok X G (c.fact 67 (f := g67) rfl))
  cases e
  have b := FunD.bindsA (ps := ["_law_script"]) F53 fun _ _ _ _ _ _ us hl => match us, hl with | [_], _ => rfl
  exact ⟨fd53, fun s v => b s [v] rfl, fun base _ _ => ok_law0 (P := P) (w := w) (base := base) T (Hd.fun_of F53)⟩
end K16
open PySem PySem.W PySem.Calls PyProof.Rows
set_option maxHeartbeats 0 in
theorem PySem.Challenge.cw_formrings_k16_whole_trace_tables_holds : PySem.Challenge.rw_formrings_k16_whole_trace_tables.Holds := by
  w_on; o_law
  refine HandSHeadRun.head_imp (r := OpenLaw.row PySem.Challenge.rw_formrings_k16_whole_trace_tables) (q := K16.vw) (H := K16.hk) (ob := K16.ob) (M := 9000) (loose := K16.names) (d := HandSHeadRun.topDef (OpenLaw.row PySem.Challenge.rw_formrings_k16_whole_trace_tables).prog 81) (kwd := []) K16.ob_eq K16.run (by kernel_rfl) (by kernel_rfl) (by kernel_rfl) (by rfl) (by first | assumption | decide +kernel) (by decide +kernel) ⟨rfl, rfl, rfl, rfl, rfl, by decide +kernel⟩ ?hw ?hc
  case hw => w_witness2
  case hc =>
    refine L2.walk_ofE (l := PySem.Challenge.rw_formrings_k16_whole_trace_tables) (n := 63) (k := 10) (x := "_law_script") (CX := L2.CX0) rfl (by decide) (by kernel_rfl) ⟨rfl, by decide, by decide⟩ ?F (fun _ _ _ _ z => z)
    intro w mg fa h Y G hmg0
    obtain ⟨K, KX, c⟩ := Y
    have hmg : mg ("law" : PySem.Str) = some (.ref fa) := by
      have e : (HandSHeadRun.topDef (OpenLaw.row PySem.Challenge.rw_formrings_k16_whole_trace_tables).prog 81).name = ("law" : PySem.Str) := by kernel_rfl
      rw [← e]
      exact hmg0
    obtain ⟨fd, hb, hF⟩ := K16.facts (P := (PySem.Challenge.rw_formrings_k16_whole_trace_tables).prog) (w := w) KX G hmg c
    exact ⟨K, fd, K16.sp_lawW K, KX, hb, fun H a ns hl _ hS => ⟨a, ns, rfl, hS, hl, fun _ => rfl⟩, hF⟩
