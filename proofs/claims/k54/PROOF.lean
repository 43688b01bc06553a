import PyProof.Rows.All
import Wide.All
import OpenK.AllK
import Wide.FinOn
import HandS.ForMost
import HandS.Wide
import HandS.WideBits
import HandS.Gcd
import HandS.IsInst
import HandS.Style
import HandS.Evl
import Flt.RightSqrt
import HandS.More
import HandS.OwnEq
import HandS.Property
import HandS.Star
import KE.KOpsOwn
import HandS.ForExc
import HandS.HeadHook1
import OpenK.KMeth
import HandS.Walk
import HandS.Zip
import KE.GoesEnum
import OpenK.KOps
import PyProof.Rows.Range3
import PyProof.Conv_bool
import HandS.List
import PyProof.ConsumeWalk
import PyProof.TupleIter
import KE.GoesZip
import KE.GoesMore
import HandS.Defaults
import KE.IntBitsLaws
import HandS.TupMul
import HandS.TupAny
import HandS.TryOnly
import HandS.SortRule
import HandS.Text
import HandS.FStr
import HandS.RaiseMore
import HandS.Sort
import KE.KStateDown
import HandS.Base
import HandS.Call
import HandS.Ends
import HandS.Words
import HandS.Head0
import HandS.Head1
import HandS.Head2
import HandS.Head3
import HandS.HeadEnd
import HandS.HeadHook2
import PySem.Challenge.RW_formrings_k54_whole_maps_to_residues
set_option Elab.async false
set_option linter.all false
set_option maxRecDepth 100000
set_option maxHeartbeats 4000000
namespace Fr
open PySem PySem.Spec PyProof.Rows L2
open Evl (Ex)
def Def (P : Program) (w : World) (K : PySem.W.Frag) (mg : Str → Option Value) (base : Heap) (k : Nat) (x : Str) (ps : List Str) (sp : Sp) : Prop :=
  ∃ f fd, mg x = some (.ref f) ∧ PySem.W.keepIn K (.ref f) = true ∧ Binds K fd ps [] ∧ FnOk P w K mg base CX0 k f fd ps sp
structure Fm (S : Addr → Prop) (I : Hp → Prop) : Prop where
  fresh : ∀ {H D}, I H → H D = none → ¬ S D
  stay : ∀ {H D o}, ¬ S D → I H → I (upd H D o)
def Fx (S : Addr → Prop) (I : Hp → Prop) (H H' : Hp) : Prop := I H' ∧ ∀ b o, ¬ S b → H b = some o → H' b = some o
section
variable {S : Addr → Prop} {I : Hp → Prop} {H H1 H2 : Hp}
theorem Fx.refl (i : I H) : Fx S I H H := ⟨i, fun _ _ _ h => h⟩
theorem Fx.trans (a : Fx S I H H1) (b : Fx S I H1 H2) : Fx S I H H2 := ⟨b.1, fun x o n h => b.2 x o n (a.2 x o n h)⟩
theorem Fx.new (m : Fm S I) (i : I H) {p : Addr} {o : HO} (h : H p = none) : Fx S I H (upd H p o) := ⟨m.stay (m.fresh i h) i, fun b u _ e => by
  rw [upd_ne (ne_of_none e h)]
  exact e⟩
theorem Fx.mut (m : Fm S I) (a : Fx S I H H1) (i : I H) {p : Addr} {o : HO} (h : H p = none) : Fx S I H (upd H1 p o) := ⟨m.stay (m.fresh i h) a.1, fun b u n e => by
  rw [upd_ne (ne_of_none e h)]
  exact a.2 b u n e⟩
theorem Fx.at (a : Fx S I H H1) {p : Addr} {o : HO} (n : ¬ S p) (h : H p = some o) : H1 p = some o := a.2 p o n h
theorem Fx.sqT {K : PySem.W.Frag} (a : Fx S I H H1) {p : Addr} {xs : List V} (n : ¬ S p) (h : SqT K H p xs) : SqT K H1 p xs := by
  rcases h with (h | ⟨o, h⟩) | h
  · exact .inl (.inl (a.2 _ _ n h))
  · exact .inl (.inr ⟨o, a.2 _ _ n h⟩)
  · exact .inr h
theorem Fx.sqL {K : PySem.W.Frag} (a : Fx S I H H1) {p : Addr} {xs : List V} (n : ¬ S p) (h : SqL K H p xs) : SqL K H1 p xs := by
  rcases h with (h | ⟨o, h⟩) | h
  · exact .inl (.inl (a.2 _ _ n h))
  · exact .inl (.inr ⟨o, a.2 _ _ n h⟩)
  · exact .inr h
theorem Fx.free (a : Fx S I H H1) {p : Addr} (n : ¬ S p) (h : H1 p = none) : H p = none := by
  cases e : H p with
  | none => rfl
  | some o => rw [a.2 p o n e] at h; cases h
theorem Fx.free' (m : Fm S I) (a : Fx S I H H1) {p : Addr} (h : H1 p = none) : H p = none := a.free (m.fresh a.1 h) h
end
abbrev S0 : Addr → Prop := fun _ => False
abbrev I0 : Hp → Prop := fun _ => True
theorem fm0 : Fm S0 I0 := ⟨fun _ _ h => h, fun _ _ => trivial⟩
abbrev Ex0 : Hp → Hp → Prop := Fx S0 I0
theorem Ex0.of {H H' : Hp} (h : ∀ b o, H b = some o → H' b = some o) : Ex0 H H' := ⟨trivial, fun b o _ e => h b o e⟩
theorem Ex0.ap {H H' : Hp} (h : Ex0 H H') {b : Addr} {o : HO} (e : H b = some o) : H' b = some o := h.2 b o (fun z => z) e
theorem Ex0.refl (H : Hp) : Ex0 H H := Fx.refl trivial
theorem Ex0.new {H : Hp} {p : Addr} {o : HO} (h : H p = none) : Ex0 H (upd H p o) := Fx.new fm0 trivial h
def Cs (S : Addr → Prop) (I : Hp → Prop) (H : Hp) (P : Nat → List V → Hp → Prop) (D : Addr) (i : Nat) (H' : Hp) : Prop := Fx S I H H' ∧ ∃ acc, H' D = some (.lst acc) ∧ acc.length ≤ i ∧ P i acc H'
section
variable {K : PySem.W.Frag} {S : Addr → Prop} {I : Hp → Prop} {σ : L2.St} {H : Hp} {Q : Addr → Hp → Prop} {te : TE} {vs : List Nat} {g : TG} {tt : TT} {P : Nat → List V → Hp → Prop}
theorem cs_yes (m : Fm S I) (i0 : I H) {D : Addr} {i : Nat} {acc : List V} {H' H4 : Hp} {y : V} (hD : H D = none) (p1 : Fx S I H H') (p2 : H' D = some (.lst acc)) (p3 : acc.length ≤ i) (hi : i < 1000000) (e : Fx S I H' H4) (h : P (i + 1) (acc ++ [y]) (upd H4 D (.lst (acc ++ [y])))) :
    ∃ acc', H4 D = some (.lst acc') ∧ acc'.length < sizeLine ∧ Cs S I H P D (i + 1) (upd H4 D (.lst (acc' ++ [y]))) :=
  ⟨acc, e.2 _ _ (m.fresh i0 hD) p2, Nat.lt_of_le_of_lt p3 (Nat.lt_of_lt_of_le hi (by decide)), Fx.mut m (p1.trans e) i0 hD, _, upd_same, by rw [List.length_append]; exact Nat.add_le_add_right p3 1, h⟩
theorem cs_no (m : Fm S I) (i0 : I H) {D : Addr} {i : Nat} {acc : List V} {H' H4 : Hp} (hD : H D = none) (p1 : Fx S I H H') (p2 : H' D = some (.lst acc)) (p3 : acc.length ≤ i) (e : Fx S I H' H4) (h : P (i + 1) acc H4) : Cs S I H P D (i + 1) H4 :=
  ⟨p1.trans e, acc, e.2 _ _ (m.fresh i0 hD) p2, Nat.le_succ_of_le p3, h⟩
theorem lcT (m : Fm S I) (i0 : I H) {a : Addr} {xs : List V} (hx : SqT K H a xs) (ha : ¬ S a) (P : Nat → List V → Hp → Prop) (p0 : ∀ D, H D = none → P 0 [] (upd H D (.lst [])))
    (hs : ∀ D i x acc H', H D = none → xs[i]? = some x → Fx S I H H' → H' D = some (.lst acc) → acc.length ≤ i → P i acc H' → g x (wipe σ vs) H' fun σ2 H2 => wipe σ2 vs = wipe σ vs ∧ tt σ2 H2 fun b H3 =>
      if b = true then te σ2 H3 fun y H4 => ∃ acc, H4 D = some (.lst acc) ∧ acc.length < sizeLine ∧ Cs S I H P D (i + 1) (upd H4 D (.lst (acc ++ [y]))) else Cs S I H P D (i + 1) H3)
    (q : ∀ D H' acc, H D = none → Fx S I H H' → H' D = some (.lst acc) → P xs.length acc H' → Q D H') :
    ∀ D, H D = none → ∃ W : Nat → Nat → Hp → Prop, (∃ m, W 0 m (upd H D (.lst []))) ∧ ∀ i m H, W i m H →
      ((Itt K a).stop i H ∧ Q D H) ∨ ((Itt K a).go i H ∧ ∃ Nx : Hp → Prop, (∀ H', Nx H' → ∃ m', m' < m ∧ W (i + 1) m' H') ∧ ∀ x H', (Itt K a).yld i H x H' → g x (wipe σ vs) H' fun σ2 H2 => wipe σ2 vs = wipe σ vs ∧ tt σ2 H2 fun b H3 =>
        if b = true then te σ2 H3 fun y H4 => ∃ acc, H4 D = some (.lst acc) ∧ acc.length < sizeLine ∧ Nx (upd H4 D (.lst (acc ++ [y]))) else Nx H3) := fun D hD =>
  lc_tup (xs := xs) (Cs S I H P D) ⟨Fx.new m i0 hD, [], upd_same, Nat.le_refl _, p0 D hD⟩ (fun i H' _ p => p.1.sqT ha hx)
    (fun i x H' hi p => by
      obtain ⟨p1, acc, p2, p3, p4⟩ := p
      exact hs D i x acc H' hD hi p1 p2 p3 p4)
    (fun H' p => by
      obtain ⟨p1, acc, p2, p3, p4⟩ := p
      exact q D H' acc hD p1 p2 p4)
theorem lcL (m : Fm S I) (i0 : I H) {a : Addr} {xs : List V} (hx : SqL K H a xs) (ha : ¬ S a) (P : Nat → List V → Hp → Prop) (p0 : ∀ D, H D = none → P 0 [] (upd H D (.lst [])))
    (hs : ∀ D i x acc H', H D = none → xs[i]? = some x → Fx S I H H' → H' D = some (.lst acc) → acc.length ≤ i → P i acc H' → g x (wipe σ vs) H' fun σ2 H2 => wipe σ2 vs = wipe σ vs ∧ tt σ2 H2 fun b H3 =>
      if b = true then te σ2 H3 fun y H4 => ∃ acc, H4 D = some (.lst acc) ∧ acc.length < sizeLine ∧ Cs S I H P D (i + 1) (upd H4 D (.lst (acc ++ [y]))) else Cs S I H P D (i + 1) H3)
    (q : ∀ D H' acc, H D = none → Fx S I H H' → H' D = some (.lst acc) → P xs.length acc H' → Q D H') :
    ∀ D, H D = none → ∃ W : Nat → Nat → Hp → Prop, (∃ m, W 0 m (upd H D (.lst []))) ∧ ∀ i m H, W i m H →
      ((Itl K a).stop i H ∧ Q D H) ∨ ((Itl K a).go i H ∧ ∃ Nx : Hp → Prop, (∀ H', Nx H' → ∃ m', m' < m ∧ W (i + 1) m' H') ∧ ∀ x H', (Itl K a).yld i H x H' → g x (wipe σ vs) H' fun σ2 H2 => wipe σ2 vs = wipe σ vs ∧ tt σ2 H2 fun b H3 =>
        if b = true then te σ2 H3 fun y H4 => ∃ acc, H4 D = some (.lst acc) ∧ acc.length < sizeLine ∧ Nx (upd H4 D (.lst (acc ++ [y]))) else Nx H3) := fun D hD =>
  lc_list (xs := xs) (Cs S I H P D) ⟨Fx.new m i0 hD, [], upd_same, Nat.le_refl _, p0 D hD⟩ (fun i H' _ p => p.1.sqL ha hx)
    (fun i x H' hi p => by
      obtain ⟨p1, acc, p2, p3, p4⟩ := p
      exact hs D i x acc H' hD hi p1 p2 p3 p4)
    (fun H' p => by
      obtain ⟨p1, acc, p2, p3, p4⟩ := p
      exact q D H' acc hD p1 p2 p4)
theorem lcR (m : Fm S I) (i0 : I H) {lo : Int} {n : Nat} (P : Nat → List V → Hp → Prop) (p0 : ∀ D, H D = none → P 0 [] (upd H D (.lst [])))
    (hs : ∀ D i acc H', H D = none → i < n → Fx S I H H' → H' D = some (.lst acc) → acc.length ≤ i → P i acc H' → g (.int (lo + i)) (wipe σ vs) H' fun σ2 H2 => wipe σ2 vs = wipe σ vs ∧ tt σ2 H2 fun b H3 =>
      if b = true then te σ2 H3 fun y H4 => ∃ acc, H4 D = some (.lst acc) ∧ acc.length < sizeLine ∧ Cs S I H P D (i + 1) (upd H4 D (.lst (acc ++ [y]))) else Cs S I H P D (i + 1) H3)
    (q : ∀ D H' acc, H D = none → Fx S I H H' → H' D = some (.lst acc) → P n acc H' → Q D H') :
    ∀ D, H D = none → ∃ W : Nat → Nat → Hp → Prop, (∃ m, W 0 m (upd H D (.lst []))) ∧ ∀ i m H, W i m H →
      ((Itr lo n).stop i H ∧ Q D H) ∨ ((Itr lo n).go i H ∧ ∃ Nx : Hp → Prop, (∀ H', Nx H' → ∃ m', m' < m ∧ W (i + 1) m' H') ∧ ∀ x H', (Itr lo n).yld i H x H' → g x (wipe σ vs) H' fun σ2 H2 => wipe σ2 vs = wipe σ vs ∧ tt σ2 H2 fun b H3 =>
        if b = true then te σ2 H3 fun y H4 => ∃ acc, H4 D = some (.lst acc) ∧ acc.length < sizeLine ∧ Nx (upd H4 D (.lst (acc ++ [y]))) else Nx H3) := fun D hD =>
  lc_range (lo := lo) (n := n) (Cs S I H P D) ⟨Fx.new m i0 hD, [], upd_same, Nat.le_refl _, p0 D hD⟩
    (fun i H' hi p => by
      obtain ⟨p1, acc, p2, p3, p4⟩ := p
      exact hs D i acc H' hD hi p1 p2 p3 p4)
    (fun H' p => by
      obtain ⟨p1, acc, p2, p3, p4⟩ := p
      exact q D H' acc hD p1 p2 p4)
end
theorem log_lt {i : Int} {a : Nat} (h : i.natAbs < 2 ^ a) (h0 : 0 < a) : i.natAbs.log2 < a := by
  by_cases z : i.natAbs = 0
  · rw [z]
    exact h0
  · exact (Nat.log2_lt z).mpr h
theorem mw {i j : Int} (h1 : -(2 ^ 250) < i) (h2 : i < 2 ^ 250) (h3 : -(2 ^ 250) < j) (h4 : j < 2 ^ 250) : CMulW i j :=
  wide_mul (a := 250) (b := 250) (by omega) (by omega) (by decide) (by decide) (by decide)
theorem dw {i j : Int} (h : 0 < j) (h4 : j < 2 ^ 250) : CDivW i j := wide_div (b := 250) h (by omega) (by decide) (by decide)
theorem iteB {b : Bool} {A B : Prop} (h1 : b = true → A) (h2 : b = false → B) : if b = true then A else B := by
  cases b with
  | true => rw [if_pos rfl]; exact h1 rfl
  | false => rw [if_neg Bool.false_ne_true]; exact h2 rfl
theorem iteD {c : Prop} [Decidable c] {A B : Prop} (h1 : c → A) (h2 : ¬ c → B) : if decide c = true then A else B :=
  iteB (fun h => h1 (of_decide_eq_true h)) (fun h => h2 (of_decide_eq_false h))
theorem iteN {c : Prop} [Decidable c] {A B : Prop} (h1 : ¬ c → A) (h2 : c → B) : if (!decide c) = true then A else B := by
  by_cases h : c
  · rw [decide_eq_true h]; exact iteF (h2 h)
  · rw [decide_eq_false h]; exact iteT (h1 h)
theorem dT {c : Prop} [Decidable c] {A B : Prop} (h : c) (a : A) : if decide c = true then A else B := by rw [decide_eq_true h, if_pos rfl]; exact a
theorem dF {c : Prop} [Decidable c] {A B : Prop} (h : ¬ c) (a : B) : if decide c = true then A else B := by rw [decide_eq_false h, if_neg Bool.false_ne_true]; exact a
theorem ndT {c : Prop} [Decidable c] {A B : Prop} (h : ¬ c) (a : A) : if (!decide c) = true then A else B := by rw [decide_eq_false h]; exact iteT a
theorem ndF {c : Prop} [Decidable c] {A B : Prop} (h : c) (a : B) : if (!decide c) = true then A else B := by rw [decide_eq_true h]; exact iteF a
theorem sl1 : 1 ≤ sizeLine := by decide
theorem sl2 : 2 ≤ sizeLine := by decide
theorem sl3 : 3 ≤ sizeLine := by decide
theorem sl4 : 4 ≤ sizeLine := by decide
theorem sl5 : 5 ≤ sizeLine := by decide
theorem sl6 : 6 ≤ sizeLine := by decide
theorem sl8 : 8 ≤ sizeLine := by decide
theorem slN {n : Nat} (h : n ≤ 1000000) : n ≤ sizeLine := Nat.le_trans h (by decide)
section
variable {X : Cx}
def rIsqrt : List V → Hp → VK → Prop := fun vs H Q => ∃ a : Int, vs = [.int a] ∧ 0 ≤ a ∧ a < 2 ^ 64 ∧ ∀ r : Int, 0 ≤ r → r * r ≤ a → a < (r + 1) * (r + 1) → Q (.int r) H
theorem cr_isqrt : CallR X (.builtin "math.isqrt") rIsqrt := by
  intro pins s σ H vs us Q I r h
  obtain ⟨a, rfl, h0, h1, q⟩ := h
  obtain ⟨u, rfl, ru⟩ := Vals.one r
  obtain ⟨t, rfl⟩ := ru
  have sp := PySem.Float64.isqrt_spec a.toNat
  refine PySem.W.mg_isqrt h0 h1 ⟨.int _, H, I.tok _, ⟨_, rfl⟩, q _ (Int.natCast_nonneg _) ?_ ?_⟩
  · have := sp.1
    have e : ((Float64.isqrt a.toNat * Float64.isqrt a.toNat : Nat) : Int) ≤ (a.toNat : Int) := Int.ofNat_le.mpr this
    rw [Int.toNat_of_nonneg h0] at e
    simpa using e
  · have := sp.2
    have e : (a.toNat : Int) < (((Float64.isqrt a.toNat + 1) * (Float64.isqrt a.toNat + 1) : Nat) : Int) := Int.ofNat_lt.mpr this
    rw [Int.toNat_of_nonneg h0] at e
    simpa using e
end
end Fr
namespace Fr
open PySem PySem.Spec PyProof.Rows L2
section
variable {X : Cx}
def CPowC (i j : Int) : Prop := 0 ≤ j ∧ (Builtin.Int.intBits i : Int) * j ≤ 2 ^ 27
theorem op_powC : OpR X (binaryOp .Pow) (rI CPowC fun i j => .int (i ^ j.toNat)) := opI fun _ _ _ _ _ _ _ hc q => PyProof.Rows.pow_int hc.1 hc.2 q
end
end Fr
namespace Fr
open PySem PySem.Spec PyProof.Rows L2
theorem deI {i j : Int} : decide (V.int i = V.int j) = decide (i = j) := by
  rw [dec_int]
  rfl
theorem iteE {i j : Int} {A B : Prop} (h1 : i = j → A) (h2 : i ≠ j → B) : if decide (V.int i = V.int j) = true then A else B := by
  rw [deI]
  exact iteD h1 h2
theorem iteEn {i j : Int} {A B : Prop} (h1 : i ≠ j → A) (h2 : i = j → B) : if (!decide (V.int i = V.int j)) = true then A else B := by
  rw [deI]
  exact iteN h1 h2
end Fr
namespace Fr
open PySem PySem.Spec PyProof.Rows L2
def inb (lo hi : Int) : V → Bool
  | .int i => decide (lo ≤ i) && decide (i ≤ hi)
  | _ => false
theorem in_b {lo hi : Int} {xs : List V} {v : V} (hv : v ∈ xs) (h : xs.all (inb lo hi) = true) : ∃ f : Int, v = .int f ∧ lo ≤ f ∧ f ≤ hi := by
  have := List.all_eq_true.mp h v hv
  cases v with
  | int i =>
    unfold inb at this
    rw [Bool.and_eq_true, decide_eq_true_iff, decide_eq_true_iff] at this
    exact ⟨i, rfl, this.1, this.2⟩
  | _ => cases this
theorem shaped_ints (ns : List Int) : SeqAt.shaped (.list (ns.map .int)) = true := by
  have h : PyData.canLayAll0 (ns.map PyData.int) = true ∧ PyData.depthAll (ns.map PyData.int) ≤ 1 := by
    induction ns with
    | nil => exact ⟨rfl, by simp [PyData.depthAll]⟩
    | cons n r ih =>
      refine ⟨?_, ?_⟩
      · rw [List.map_cons, PyData.canLayAll0, PyData.canLay0, ih.1]; rfl
      · rw [List.map_cons, PyData.depthAll, PyData.depth]; exact Nat.max_le.mpr ⟨by decide, ih.2⟩
  unfold SeqAt.shaped
  rw [PyData.canLay0, PyData.depth, h.1]
  simp
  omega
theorem dp_ints {K : PySem.W.Frag} {H : Hp} : ∀ ns : List Int, DpAll K H (ns.map V.int) (ns.map PyData.int)
  | [] => .nil
  | n :: r => .cons (.int n) (dp_ints r)
theorem eqv_ints : ∀ ns ms : List Int, PyData.eqvAll (ns.map PyData.int) (ms.map PyData.int) = decide (ns = ms)
  | [], [] => rfl
  | [], m :: ms => rfl
  | n :: ns, [] => rfl
  | n :: ns, m :: ms => by
    rw [List.map_cons, List.map_cons, PyData.eqvAll, PyData.eqv, eqv_ints ns ms]
    apply Bool.eq_iff_iff.mpr
    simp
def pr2 (q : Nat × Nat) : PyData := .tuple [.int (q.1 : Int), .int (q.2 : Int)]
theorem shaped_prs (fs : List (Nat × Nat)) : SeqAt.shaped (.tuple (fs.map pr2)) = true := by
  have h : PyData.canLayAll0 (fs.map pr2) = true ∧ PyData.depthAll (fs.map pr2) ≤ 2 := by
    induction fs with
    | nil => exact ⟨rfl, by simp [PyData.depthAll]⟩
    | cons n r ih =>
      refine ⟨?_, ?_⟩
      · rw [List.map_cons, PyData.canLayAll0, ih.1]; simp [pr2, PyData.canLay0, PyData.canLayAll0]
      · rw [List.map_cons, PyData.depthAll]; exact Nat.max_le.mpr ⟨by simp [pr2, PyData.depth, PyData.depthAll], ih.2⟩
  unfold SeqAt.shaped
  rw [PyData.canLay0, PyData.depth, h.1]
  simp
  omega
theorem eqv_prs : ∀ fs gs : List (Nat × Nat), PyData.eqvAll (fs.map pr2) (gs.map pr2) = decide (fs = gs)
  | [], [] => rfl
  | [], m :: ms => rfl
  | n :: ns, [] => rfl
  | (a, b) :: ns, (c, d) :: ms => by
    rw [List.map_cons, List.map_cons, PyData.eqvAll, eqv_prs ns ms]
    apply Bool.eq_iff_iff.mpr
    simp [pr2, PyData.eqv, PyData.eqvAll]
    omega
end Fr
namespace Fr
open PySem PySem.Spec PyProof.Rows L2
def B (a : Nat) (i : Int) : Prop := i.natAbs < 2 ^ a ∧ 0 < a
theorem two_pow_two {a : Nat} (h : 0 < a) : 2 ≤ 2 ^ a := by
  obtain ⟨k, rfl⟩ : ∃ k, a = k + 1 := ⟨a - 1, by omega⟩
  rw [Nat.pow_succ]
  have := Nat.two_pow_pos k
  omega
theorem pow_sum {a b : Nat} (ha : 0 < a) (hb : 0 < b) : 2 ^ a + 2 ^ b ≤ 2 ^ (a + b) := by
  rw [Nat.pow_add]
  have h1 := two_pow_two ha
  have h2 := two_pow_two hb
  generalize 2 ^ a = x at *
  generalize 2 ^ b = y at *
  have := Nat.mul_le_mul h1 (Nat.le_refl y)
  have := Nat.mul_le_mul (Nat.le_refl x) h2
  rcases Nat.le_total x y with h | h <;> omega
theorem B.mul {a b : Nat} {i j : Int} (h1 : B a i) (h2 : B b j) : B (a + b) (i * j) := ⟨wide_lt h1.1 h2.1, Nat.add_pos_left h1.2 _⟩
theorem B.add {a b : Nat} {i j : Int} (h1 : B a i) (h2 : B b j) : B (a + b) (i + j) :=
  ⟨Nat.lt_of_lt_of_le (by have := h1.1; have := h2.1; omega : (i + j).natAbs < 2 ^ a + 2 ^ b) (pow_sum h1.2 h2.2), Nat.add_pos_left h1.2 _⟩
theorem B.sub {a b : Nat} {i j : Int} (h1 : B a i) (h2 : B b j) : B (a + b) (i - j) :=
  ⟨Nat.lt_of_lt_of_le (by have := h1.1; have := h2.1; omega : (i - j).natAbs < 2 ^ a + 2 ^ b) (pow_sum h1.2 h2.2), Nat.add_pos_left h1.2 _⟩
theorem B.neg {a : Nat} {i : Int} (h1 : B a i) : B a (-i) := ⟨by rw [Int.natAbs_neg]; exact h1.1, h1.2⟩
theorem B.lit {i : Int} (h : i.natAbs < 2 ^ 64) : B 64 i := ⟨h, by decide⟩
theorem B.mono {a b : Nat} {i : Int} (h : B a i) (hab : a ≤ b) : B b i := ⟨Nat.lt_of_lt_of_le h.1 (Nat.pow_le_pow_right (by decide) hab), Nat.lt_of_lt_of_le h.2 hab⟩
theorem mulB {a b : Nat} {i j : Int} (h1 : B a i) (h2 : B b j) (h : a + b ≤ 1000000) : CMulW i j := wide_mul h1.1 h2.1 h1.2 h2.2 h
end Fr
namespace Fr
open PySem PySem.Spec PyProof.Rows L2
theorem shaped_tints (ns : List Int) : SeqAt.shaped (.tuple (ns.map .int)) = true := by
  have h : PyData.canLayAll0 (ns.map .int) = true ∧ PyData.depthAll (ns.map .int) ≤ 1 := by
    induction ns with
    | nil => exact ⟨rfl, by simp [PyData.depthAll]⟩
    | cons n r ih =>
      refine ⟨?_, ?_⟩
      · rw [List.map_cons, PyData.canLayAll0, ih.1]; simp [PyData.canLay0]
      · rw [List.map_cons, PyData.depthAll]; exact Nat.max_le.mpr ⟨by simp [PyData.depth], ih.2⟩
  unfold SeqAt.shaped
  rw [PyData.canLay0, PyData.depth, h.1]
  simp
  omega
end Fr
namespace Fr
open PySem PySem.Spec PyProof.Rows L2
section
variable {M : Model} {prog : Program} {w : World} {A : Around} {E : Value → Shared → Prop} {s : Shared} {K : PySem.W.Frag} {x C f : Addr} {ox : Obj} {od : Option Obj}
theorem ifBound_ne {args : List Value} {Q : Option Value → Shared → Prop} (X : K.In s.heap) (I : PySem.W.InstAt s.heap x ox C od) (hs : PySem.W.findIn K (.ref C) "__ne__" = some (some (.builtin "object.__ne__")))
    (h : wpAny M A (call (.builtin "object.__ne__") (.ref x :: args)) (fun v => Q (some v)) E s) : wpAny M A (callSpecialIfBound? (.ref x) "__ne__" args) Q E s := by
  simp only [callSpecialIfBound?, bindSpecialIfBound?]
  refine wpAny_holding (wpAny_bind (wpAny_bind (wpAny_bind (I.type.here ((PySem.W.looks_findIn X hs).here ?_)))))
  refine wpAny_bind (wpAny_askSetting (wpAny_ite ?_))
  have fin : wpAny M A (call (.builtin "object.__ne__") ([.ref x] ++ args) >>= fun v => pure (some v)) Q E s := wpAny_bind (wpAny_mono h (fun v s' h' => wpAny_pure h') fun _ _ h' => h')
  split
  · exact wpAny_bind (wpAny_of_eq (F.cmp_object.ne.bind _) (wpAny_pure (by exact fin)))
  · exact wpAny_tryCatch (wpAny_bind (wpAny_of_eq (F.cmp_object.ne.bind _) (wpAny_pure (by exact fin))))
def NeB (Q : Value → Shared → Prop) (v : Value) (s' : Shared) : Prop := ∃ b, v = .bool b ∧ Q (.bool (!b)) s'
theorem entry_ne {b : Value} {Q : Fin → Shared → Prop} (hu : A.units < cLine) (X : K.In s.heap) (I : PySem.W.InstAt s.heap x ox C od) (hs : PySem.W.findIn K (.ref C) "__eq__" = some (some (.ref f))) (hf : PySem.W.isFn K (.ref f) = true)
    (h : wpAny (model prog w) A (call (.ref f) [.ref x, b]) (NeB fun v s' => Q (.done (.ret v)) s') E s) : wpAny (model prog w) A (Builtin.«object.__ne__» ⟨[.ref x, b], []⟩) Q E s := by
  unfold Builtin.«object.__ne__»
  repeat (first | with_reducible refine wpAny_cRoomFor hu ?_ | (refine wpAny_bind (PySem.W.ifBound_K X I hs hf (wpAny_mono h (fun v s' hv => ?_) fun _ _ e => e))) | wp_step)
  all_goals (obtain ⟨b', rfl, q⟩ := hv)
  all_goals (repeat (first | wp_step))
  all_goals exact q
theorem ne_K {h₀ : Heap} {L : Addr} {m : Str → Option Value} {b tb : Value} {Q : Value → Shared → Prop} (hu : A.units + 1 < cLine) (F : Fr h₀ L s.heap m) (X₀ : K.In h₀) (I : PySem.W.InstAt s.heap x ox C od) (hb : PySem.W.Looks (model prog w) s.heap (typeOf b) tb) (hn : PySem.W.notFirst K C tb = true)
    (hne : PySem.W.findIn K (.ref C) "__ne__" = some (some (.builtin "object.__ne__"))) (hs : PySem.W.findIn K (.ref C) "__eq__" = some (some (.ref f))) (hf : PySem.W.isFn K (.ref f) = true) (hm : PySem.W.mroIn K C (.type "object") = some true)
    (h : wpAny (model prog w) A.in1 (call (.ref f) [.ref x, b]) (NeB Q) E s) : wpAny (model prog w) A (richCompare .NotEq (.ref x) b) Q E s := by
  have X := X₀.keeps F.keep
  have one : wpAny (model prog w) A (tryCompare (.ref x) "__ne__" b) (fun r s' => ∃ v, r = some v ∧ Q v s') E s := by
    unfold tryCompare
    refine wpAny_bind (ifBound_ne X I hne (wpAny_call (codeAny_call_builtin PySem.F.cmp_object.ne.plain PySem.F.cmpEntry_ne (PySem.W.check_slot PySem.F.cmpKind_ne PySem.F.cmpSplit_ne (I.type.andThen (PySem.W.looks_mroIn X hm)) (PySem.F.cmpArgs_ne _ _) ?_))))
    refine entry_ne (A := A.in1) hu X I hs hf (wpAny_mono h (fun v s' hv => ?_) fun _ _ e => e)
    obtain ⟨b', rfl, q⟩ := hv
    exact ⟨b', rfl, wpAny_pure ⟨_, rfl, q⟩⟩
  unfold richCompare
  simp only [oneThing_ref]
  refine wpAny_holding (wpAny_bind (wpAny_cRoomFor (Nat.lt_of_succ_lt hu) ?_))
  refine wpAny_bind (I.type.here (wpAny_bind (hb.here ?_)))
  split
  · rename_i q
    have e : PySem.W.subIn K tb (.ref C) = some false := by
      rcases Bool.or_eq_true_iff.mp hn with e | e
      · rw [beq_iff_eq.mp e] at q; simp at q
      · exact beq_iff_eq.mp e
    refine wpAny_bind ((PySem.W.looks_subIn X e).here ?_)
    simp only [Bool.false_eq_true, if_false]
    refine wpAny_bind (wpAny_mono one (fun r s' z => ?_) fun _ _ e => e)
    obtain ⟨v, rfl, hq⟩ := z
    exact wpAny_pure hq
  · refine wpAny_bind (wpAny_pure ?_)
    simp only [Bool.false_eq_true, if_false]
    refine wpAny_bind (wpAny_mono one (fun r s' z => ?_) fun _ _ e => e)
    obtain ⟨v, rfl, hq⟩ := z
    exact wpAny_pure hq
end
section
variable {X : Cx} {CX : CXT} {C f : Addr} {fd : FuncData} {ps : List Str} {k : Nat} {sp : Sp} {E : XK}
structure EqC (K : PySem.W.Frag) (C f : Addr) : Prop where
  eq : PySem.W.findIn K (.ref C) "__eq__" = some (some (.ref f))
  fn : PySem.W.isFn K (.ref f) = true
  ne : PySem.W.findIn K (.ref C) "__ne__" = some (some (.builtin "object.__ne__"))
  mo : PySem.W.mroIn K C (.type "object") = some true
def rEqI (K : PySem.W.Frag) (C : Addr) (sp : Sp) (E : XK) (neg : Bool) : R2 := fun x y H Q => ∃ a dx fs tb, x = .ref a ∧ H a = some (.ins C dx fs) ∧ TyX K H y tb ∧ PySem.W.notFirst K C tb = true ∧ sp [x, y] H (fun v H' => ∃ b, v = .bl b ∧ Q (.bl (if neg = true then !b else b)) H') E
theorem op_eqI (c : EqC X.K C f) (F : FnOk X.prog X.w X.K X.mg X.base CX k f fd ps sp) (hb : Binds X.K fd ps []) (hr : Room k X.A) (hx : Passes CX X E) : OpR X (compareOp .Eq) (rEqI X.K C sp E false) := by
  intro pins s σ H x y v u Q I rx ry h
  obtain ⟨a, dx, fs, tb, rfl, ha, ty, hn, q⟩ := h
  cases (show v = Value.ref a from rx)
  obtain ⟨mA, J, _⟩ := ins_get I.hok ha
  obtain ⟨od, J, _⟩ := J.look
  obtain ⟨m, hF⟩ := I.fr
  obtain ⟨P, kt, hP, _⟩ := kit_of I ry ty
  refine PySem.W.cmp_K (op := .Eq) hr.units0 hF I.ok.mod.kin J (kt.ty _ _ I.kIn hP) hn c.eq c.fn ?_
  refine wpAny_mono (run_fn (us := [.ref a, u]) (vs := [.ref a, y]) F hr hb .nil hx I (.cons rfl (.cons ry .nil)) q) (fun w s' z => ?_) fun _ _ x => x
  obtain ⟨z', H', I', rz, b, rfl, qz⟩ := z
  cases (show w = Value.bool b from rz)
  exact ⟨.bl b, H', I', rfl, qz⟩
theorem op_neI (c : EqC X.K C f) (F : FnOk X.prog X.w X.K X.mg X.base CX k f fd ps sp) (hb : Binds X.K fd ps []) (hr : Room (k + 1) X.A) (hx : Passes CX X E) : OpR X (compareOp .NotEq) (rEqI X.K C sp E true) := by
  intro pins s σ H x y v u Q I rx ry h
  obtain ⟨a, dx, fs, tb, rfl, ha, ty, hn, q⟩ := h
  cases (show v = Value.ref a from rx)
  obtain ⟨mA, J, _⟩ := ins_get I.hok ha
  obtain ⟨od, J, _⟩ := J.look
  obtain ⟨m, hF⟩ := I.fr
  obtain ⟨P, kt, hP, _⟩ := kit_of I ry ty
  refine ne_K (Nat.lt_of_le_of_lt (Nat.add_le_add_left (by decide : 1 ≤ 64) _) hr.units) hF I.ok.mod.kin J (kt.ty _ _ I.kIn hP) hn c.ne c.eq c.fn c.mo ?_
  refine wpAny_call (codeAny_mono ((F.raw hb .nil) X.A.in1 X.stack s H [.ref a, u] [.ref a, y] _ E hr.in1 I.env0.in1 (.cons rfl (.cons ry .nil)) q) fun r s' hq => ?_)
  cases r with
  | error e => exact hx pins σ H s e s' I hq
  | ok fl =>
    cases fl with
    | ret w =>
      obtain ⟨z', H', I', rz, b, rfl, qz⟩ := I.after hq
      cases (show w = Value.bool b from rz)
      exact ⟨b, rfl, .bl (!b), H', I', rfl, qz⟩
    | next => exact False.elim hq
    | brk => exact False.elim hq
    | cont => exact False.elim hq
structure TyI (K : PySem.W.Frag) (C : Addr) : Prop where
  ca : PySem.W.findIn K (.ref C) "__class__" = some (some (.builtin "object.__class__"))
  cn : PySem.W.specialIn K (.builtin "object.__class__") "__get__" = some (some (.builtin "getset_descriptor.__get__"))
  ct : PySem.W.takesIn K (.builtin "object.__class__") = some true
  cm : PySem.W.mroIn K C (.type "object") = some true
theorem ty_ins {K : PySem.W.Frag} {C a dx : Addr} {H : Hp} {fs : List (Str × V)} (t : TyI K C) (cl : Cls K C) (e : H a = some (.ins C dx fs)) : TyX K H (.ref a) (.ref C) := .base (.ins e cl t.ca t.cn t.ct t.cm)
theorem first_self {K : PySem.W.Frag} {C : Addr} : PySem.W.notFirst K C (.ref C) = true := by simp [PySem.W.notFirst]
theorem kit_self {K : PySem.W.Frag} {C : Addr} : PySem.W.kitOne K (.ref C) (.ref C) = some true := by simp [PySem.W.kitOne]
theorem un_negI (c : Meth X.K C "__neg__" f) (F : FnOk X.prog X.w X.K X.mg X.base CX k f fd ps sp) (hb : Binds X.K fd ps []) (hr : Room k X.A) (hx : Passes CX X E) :
    UnR X (unaryOp .USub) (fun x H Q => ∃ a dx fs, x = .ref a ∧ H a = some (.ins C dx fs) ∧ sp [x] H Q E) := by
  intro pins s σ H x v Q I rx h
  obtain ⟨a, dx, fs, rfl, ha, q⟩ := h
  cases (show v = Value.ref a from rx)
  obtain ⟨mA, J, _⟩ := ins_get I.hok ha
  obtain ⟨od, J, _⟩ := J.look
  obtain ⟨m, hF⟩ := I.fr
  exact PySem.W.ksp_neg hF I.ok.mod.kin J c.at_ c.fn (run_fn (us := [.ref a]) (vs := [.ref a]) F hr hb .nil hx I (.cons rfl .nil) q)
def MDef (R : Addr → Addr → Prop) (P : Program) (w : World) (K : PySem.W.Frag) (mg : Str → Option Value) (base : Heap) (k : Nat) (ps : List Str) (sp : Sp) : Prop :=
  ∃ p f fd, R p f ∧ Binds K fd ps [] ∧ FnOk P w K mg base CX0 k f fd ps sp
end
section
variable {X : Cx} {K : PySem.W.Frag}
theorem call_isiKK (hK : X.K = K) : CallR X (.builtin "isinstance") (rIsi K) := hK ▸ call_isi
end
section
variable {X : Cx}
theorem pi_or {tg l : Expr} {wa wb : TI} (a : PI X tg l wa) (b : PI X tg l wb) : PI X tg l (fun σ H R => wa σ H R ∨ wb σ H R) := ⟨fun pins s σ H R I h => h.elim (fun z => a.run pins s σ H R I z) (fun z => b.run pins s σ H R I z)⟩
end
abbrev XA (K : PySem.W.Frag) (x : Str) : Addr := He.ga K x
structure Xc (K : PySem.W.Frag) (mg : Str → Option Value) (x : Str) (bm : List Value) (newId : String) : Prop where
  g : mg x = some (.ref (XA K x))
  ex : PySem.W.excIn K (XA K x) bm newId = true
  kp : PySem.W.keepIn K (.ref (XA K x)) = true
  sb : PySem.W.subIn K (.ref (XA K x)) (.type "BaseException") = some true
  ty : PySem.W.typeIn K (.ref (XA K x)) = some (.type "type")
  te : PySem.W.exmOne K (.ref (XA K x)) (.ref (XA K x)) = some true
def DefX (P : Program) (w : World) (K : PySem.W.Frag) (mg : Str → Option Value) (base : Heap) (k : Nat) (x : Str) (ps : List Str) (sp : Sp) : Prop :=
  ∃ f fd, mg x = some (.ref f) ∧ PySem.W.keepIn K (.ref f) = true ∧ Binds K fd ps [] ∧ FnOk P w K mg base (L2.CX P w) k f fd ps sp
end Fr
namespace Hd
open PySem PySem.Spec PyProof.Rows L2 Fr
open He (ga ma eqO eqO_ok ba)
def pa (K : PySem.W.Frag) (C : Addr) (m : Str) : Addr := match PySem.W.recIn K (ma K C m) "property" with
  | some (.ref g :: _) => g
  | _ => 0
def itA (K : PySem.W.Frag) (a : Addr) (i : Nat) : Addr := match K.lookup a with
  | some ⟨_, _, .seq its _, _⟩ => (match its[i]? with
    | some (.ref b) => b
    | _ => 0)
  | _ => 0
structure Dd where
  at_ : PySem.W.Frag → Addr
  name : Str
  qual : Str
  st : Stmt
  dfl : List V := []
def fnA (K : PySem.W.Frag) (a : Addr) : He.FnW := match K.lookup a with
  | some ⟨_, _, .func fd, _⟩ => some (fd.name, fd.qualname, fd.params, fd.body, fd.scope, fd.globals, fd.closure, fd.builtins)
  | _ => none
def Dd.val (d : Dd) : He.FnW := some (d.name, d.qual, defArgs d.st, .stmts (defBody d.st), defScope d.st, mainGlobals, [], builtinsNs)
def Dd.ok (K : PySem.W.Frag) (d : Dd) : Bool := PySem.W.keepIn K (.ref (d.at_ K)) && (match K.lookup (d.at_ K) with
  | some ⟨_, _, .func fd, _⟩ => PySem.W.codeIn K fd.code d.qual && He.dflB K fd.defaults d.dfl
  | _ => false)
theorem Dd.funD {K : PySem.W.Frag} {d : Dd} (e : fnA K (d.at_ K) = d.val) (c : d.ok K = true) : ∃ fd, FunD K d.name d.qual (defArgs d.st) (defBody d.st) (defScope d.st) d.dfl [] (d.at_ K) fd := by
  obtain ⟨kp, c2⟩ := ba c
  unfold fnA at e
  cases hk : K.lookup (d.at_ K) with
  | none => rw [hk] at c2; cases c2
  | some o =>
    obtain ⟨oc, od, dt, osl⟩ := o
    rw [hk] at c2 e
    cases dt with
    | func fd =>
      obtain ⟨n1, n2, n3, n4, n5, n6, n7, n8, n9, n10, n11, n12, n13, n14, n15⟩ := fd
      have e0 : (some (n1, n2, n3, n4, n5, n6, n7, n15) : He.FnW) = some (d.name, d.qual, defArgs d.st, .stmts (defBody d.st), defScope d.st, mainGlobals, [], builtinsNs) := e
      simp only [Option.some.injEq, Prod.mk.injEq] at e0
      obtain ⟨h1, h2, h3, h4, h5, h6, h7, h8⟩ := e0
      subst h1 h2 h3 h4 h5 h6 h7 h8
      obtain ⟨k1, k2⟩ := ba (show (PySem.W.codeIn K n13 d.qual && He.dflB K n8 d.dfl) = true from c2)
      exact ⟨_, ⟨oc, od, n8, n9, n10, n11, n12, n13, n14, osl, rfl, hk, k1, He.dflB_ok k2, .inl rfl⟩, kp⟩
    | _ => cases c2
theorem fun_of {K : PySem.W.Frag} {x q : Str} {st : Stmt} {f : Addr} {fd : FuncData} (F : FunD K x q (defArgs st) (defBody st) (defScope st) [] [] f fd) : Fun K x q st f fd := by
  obtain ⟨⟨oc, od, dV, kV, doc, pm, an, cdv, ct, osl, e1, e2, e3, e4, e5⟩, kp⟩ := F
  rcases e4 with ⟨_, rfl⟩ | ⟨h, _⟩
  · exact ⟨⟨oc, od, kV, doc, pm, an, cdv, ct, osl, e1, e2, e3⟩, kp⟩
  · exact absurd rfl h
def refsP (o : Obj) : List Addr := match o.data with
  | .seq its _ => its.toList.flatMap He.refV
  | .dict es _ => es.toList.flatMap fun e => He.refV e.val
  | .func fd => He.refV fd.code ++ He.refV fd.defaults
  | .cls cd => [cd.ns]
  | .fields vs => (match o.cls with
    | .type c => (match c == "property" with
      | true => vs.toList.flatMap He.refV
      | false => [])
    | _ => [])
  | _ => []
def nxt (g : Addr → Option Obj) (as : List Addr) : List Addr := as.flatMap fun a => match g a with
  | some o => refsP o
  | none => []
def asM (g : Addr → Option Obj) : Nat → List Addr → List Addr
  | 0, as => as
  | n + 1, as => as ++ asM g n (nxt g as)
abbrev Fb : Type := PySem.W.Frag → Bool
abbrev AlM : Type := Bool × List He.FnW
def obsM (fa : List Fb) (fn : List Dd) (K : PySem.W.Frag) : AlM := ((fa.all fun f => f K) && fn.all fun d => d.ok K, fn.map fun d => fnA K (d.at_ K))
def valM (fn : List Dd) : AlM := (true, fn.map Dd.val)
def SaysM (fa : List Fb) (fn : List Dd) (K : PySem.W.Frag) : Prop := obsM fa fn K = valM fn
def obsMG (n : Nat) (fa : List Fb) (fn : List Dd) (g : Addr → Option Obj) : AlM := obsM fa fn (He.frG g (asM g n [mainGlobals]))
def hookM (n : Nat) (fa : List Fb) (fn : List Dd) : PySem.W.Hook where
  α := AlM
  obs := fun s => obsMG n fa fn s.heap.get?
  val := fun _ => valM fn
  says := fun _ h => ∃ K : PySem.W.Frag, K.In h ∧ SaysM fa fn K
  of := fun _ _ e => ⟨_, He.frG_in, e⟩
  keeps := fun _ _ _ ⟨K, hK, c⟩ k => ⟨K, PySem.W.Frag.In.keeps hK k, c⟩
theorem obsMG_eq {n : Nat} {fa : List Fb} {fn : List Dd} {g : Addr → Option Obj} {s : Shared} (h : ∀ a, g a = s.heap.get? a) : obsMG n fa fn g = (hookM n fa fn).obs s := by
  have e : g = s.heap.get? := funext h
  rw [e] <;> rfl
section
variable {fa : List Fb} {fn : List Dd} {K : PySem.W.Frag}
theorem SaysM.fact (c : SaysM fa fn K) (i : Nat) {f : Fb} (h : fa[i]? = some f := by rfl) : f K = true := by
  have c1 : ((fa.all fun f => f K) && fn.all fun d => d.ok K) = true := congrArg (fun z : AlM => z.1) c
  exact List.all_eq_true.mp (ba c1).1 f (List.mem_of_getElem? h)
theorem SaysM.def_ (c : SaysM fa fn K) (i : Nat) {d : Dd} (h : fn[i]? = some d := by rfl) : ∃ fd, FunD K d.name d.qual (defArgs d.st) (defBody d.st) (defScope d.st) d.dfl [] (d.at_ K) fd := by
  have c1 : ((fa.all fun f => f K) && fn.all fun d => d.ok K) = true := congrArg (fun z : AlM => z.1) c
  have c2 : fn.map (fun d => fnA K (d.at_ K)) = fn.map Dd.val := congrArg (fun z : AlM => z.2) c
  have c3 : (fn.map fun d => fnA K (d.at_ K))[i]? = (fn.map Dd.val)[i]? := by rw [c2]
  rw [List.getElem?_map, List.getElem?_map, h] at c3
  exact Dd.funD (Option.some.inj c3) (List.all_eq_true.mp (ba c1).2 d (List.mem_of_getElem? h))
end
def decO (a b : Option Bool) : Bool := decide (a = b)
theorem decO_ok {a b : Option Bool} (h : decO a b = true) : a = b := of_decide_eq_true h
def bltB (x : Str) (id : String) : Fb := fun K => eqO (PySem.W.nsIn K mainGlobals x) (some (some (.builtin id)))
theorem blt_ok {K : PySem.W.Frag} {h : Heap} {mg : Str → Option Value} (X : K.In h) (G : h.Ns mainGlobals mg) {x : Str} {id : String} (c : bltB x id K = true) : mg x = some (.builtin id) := PySem.W.mg_of X G (eqO_ok c)
def tyB (C : Str) : Fb := fun K => eqO (PySem.W.findIn K (.ref (ga K C)) "__class__") (some (some (.builtin "object.__class__"))) && (eqO (PySem.W.specialIn K (.builtin "object.__class__") "__get__") (some (some (.builtin "getset_descriptor.__get__"))) && (decO (PySem.W.takesIn K (.builtin "object.__class__")) (some true) && decO (PySem.W.mroIn K (ga K C) (.type "object")) (some true)))
theorem ty_ok {K : PySem.W.Frag} {C : Str} (c : tyB C K = true) : TyI K (ga K C) := by
  obtain ⟨c1, c⟩ := ba c
  obtain ⟨c2, c⟩ := ba c
  obtain ⟨c3, c4⟩ := ba c
  exact ⟨eqO_ok c1, eqO_ok c2, decO_ok c3, decO_ok c4⟩
def propB (C m : Str) : Fb := fun K => eqO (PySem.W.findIn K (.ref (ga K C)) m) (some (some (.ref (ma K (ga K C) m)))) && (eqO (PySem.W.specialIn K (.ref (ma K (ga K C) m)) "__get__") (some (some (.builtin "property.__get__"))) && (decO (PySem.W.takesIn K (.ref (ma K (ga K C) m))) (some true) && (match PySem.W.recIn K (ma K (ga K C) m) "property" with
  | some (.ref _ :: _) => true
  | _ => false)))
theorem prop_ok {K : PySem.W.Frag} {C m : Str} (c : propB C m K = true) : PropOf K (ga K C) m (ma K (ga K C) m) (pa K (ga K C) m) := by
  obtain ⟨c1, c⟩ := ba c
  obtain ⟨c2, c⟩ := ba c
  obtain ⟨c3, c4⟩ := ba c
  refine ⟨eqO_ok c1, eqO_ok c2, decO_ok c3, ?_⟩
  unfold pa
  cases hr : PySem.W.recIn K (ma K (ga K C) m) "property" with
  | none => rw [hr] at c4; cases c4
  | some l =>
    rw [hr] at c4
    cases l with
    | nil => cases c4
    | cons v rest =>
      cases v with
      | ref g => exact ⟨rest, rfl⟩
      | _ => cases c4
def eqB (C : Str) : Fb := fun K => eqO (PySem.W.findIn K (.ref (ga K C)) "__eq__") (some (some (.ref (ma K (ga K C) "__eq__")))) && (PySem.W.isFn K (.ref (ma K (ga K C) "__eq__")) && (eqO (PySem.W.findIn K (.ref (ga K C)) "__ne__") (some (some (.builtin "object.__ne__"))) && decO (PySem.W.mroIn K (ga K C) (.type "object")) (some true)))
theorem eq_ok {K : PySem.W.Frag} {C : Str} (c : eqB C K = true) : EqC K (ga K C) (ma K (ga K C) "__eq__") := by
  obtain ⟨c1, c⟩ := ba c
  obtain ⟨c2, c⟩ := ba c
  obtain ⟨c3, c4⟩ := ba c
  exact ⟨eqO_ok c1, c2, eqO_ok c3, decO_ok c4⟩
def callB (C : Str) : Fb := fun K => eqO (PySem.W.findIn K (.ref (ga K C)) "__call__") (some (some (.ref (ma K (ga K C) "__call__")))) && (PySem.W.isFn K (.ref (ma K (ga K C) "__call__")) && PySem.W.fnIn K (ma K (ga K C) "__call__"))
theorem call_ok {K : PySem.W.Frag} {C : Str} (c : callB C K = true) : StX.CallO K (ga K C) (ma K (ga K C) "__call__") := by
  obtain ⟨c1, c⟩ := ba c
  obtain ⟨c2, c3⟩ := ba c
  exact ⟨eqO_ok c1, c2, c3⟩
def binB (C m : Str) : Fb := fun K => eqO (PySem.W.findIn K (.ref (ga K C)) m) (some (some (.ref (ma K (ga K C) m)))) && (PySem.W.isFn K (.ref (ma K (ga K C) m)) && PySem.W.selfFirst K (ga K C))
theorem bin_ok {K : PySem.W.Frag} {C m : Str} (c : binB C m K = true) : PySem.W.findIn K (.ref (ga K C)) m = some (some (.ref (ma K (ga K C) m))) ∧ PySem.W.isFn K (.ref (ma K (ga K C) m)) = true ∧ PySem.W.selfFirst K (ga K C) = true := by
  obtain ⟨c1, c⟩ := ba c
  obtain ⟨c2, c3⟩ := ba c
  exact ⟨eqO_ok c1, c2, c3⟩
def intsB (a : PySem.W.Frag → Addr) (ns : List Int) : Fb := fun K => match K.lookup (a K) with
  | some ⟨.type c, _, .seq its _, _⟩ => decide (c = "tuple") && (decide (its.size ≤ sizeLine) && He.relAll (ns.map V.int) its.toList)
  | _ => false
theorem ints_ok {K : PySem.W.Frag} {a : PySem.W.Frag → Addr} {ns : List Int} (c : intsB a ns K = true) (H : Hp) : SqT K H (a K) (ns.map V.int) := by
  unfold intsB at c
  cases hk : K.lookup (a K) with
  | none => rw [hk] at c; cases c
  | some o =>
    obtain ⟨oc, od, dt, sl⟩ := o
    rw [hk] at c
    cases oc with
    | type t =>
      cases dt with
      | seq its m =>
        obtain ⟨c1, c⟩ := ba c
        obtain ⟨c2, c3⟩ := ba c
        exact .inr ⟨_, its, m, hk, congrArg Value.type (of_decide_eq_true c1), rfl, of_decide_eq_true c2, He.relAll_ok c3⟩
      | _ => cases c
    | _ => cases dt <;> cases c
def refsB (a : PySem.W.Frag → Addr) (n : Nat) : Fb := fun K => match K.lookup (a K) with
  | some ⟨.type c, _, .seq its _, _⟩ => decide (c = "tuple") && (decide (its.size ≤ sizeLine) && He.relAll ((List.range n).map fun i => V.ref (itA K (a K) i)) its.toList)
  | _ => false
theorem refs_ok {K : PySem.W.Frag} {a : PySem.W.Frag → Addr} {n : Nat} (c : refsB a n K = true) (H : Hp) : SqT K H (a K) ((List.range n).map fun i => V.ref (itA K (a K) i)) := by
  unfold refsB at c
  generalize hl : (List.range n).map (fun i => V.ref (itA K (a K) i)) = l at c ⊢
  cases hk : K.lookup (a K) with
  | none => rw [hk] at c; cases c
  | some o =>
    obtain ⟨oc, od, dt, sl⟩ := o
    rw [hk] at c
    cases oc with
    | type t =>
      cases dt with
      | seq its m =>
        obtain ⟨c1, c⟩ := ba c
        obtain ⟨c2, c3⟩ := ba c
        exact .inr ⟨_, its, m, hk, congrArg Value.type (of_decide_eq_true c1), rfl, of_decide_eq_true c2, He.relAll_ok c3⟩
      | _ => cases c
    | _ => cases dt <;> cases c
def foreB (C : Str) (t : String) : Fb := fun K => decO (PySem.W.kitOne K (.type t) (.ref (ga K C))) (some false) && PySem.W.notFirst K (ga K C) (.type t)
theorem fore_ok {K : PySem.W.Frag} {C : Str} {t : String} (c : foreB C t K = true) : PySem.W.kitOne K (.type t) (.ref (ga K C)) = some false ∧ PySem.W.notFirst K (ga K C) (.type t) = true := by
  obtain ⟨c1, c2⟩ := ba c
  exact ⟨decO_ok c1, c2⟩
def foreCB (C D : Str) : Fb := fun K => decO (PySem.W.kitOne K (.ref (ga K D)) (.ref (ga K C))) (some false) && PySem.W.notFirst K (ga K C) (.ref (ga K D))
theorem foreC_ok {K : PySem.W.Frag} {C D : Str} (c : foreCB C D K = true) : PySem.W.kitOne K (.ref (ga K D)) (.ref (ga K C)) = some false ∧ PySem.W.notFirst K (ga K C) (.ref (ga K D)) = true := by
  obtain ⟨c1, c2⟩ := ba c
  exact ⟨decO_ok c1, c2⟩
def fmtB (C : Str) : Fb := fun K => eqO (PySem.W.findIn K (.ref (ga K C)) "__format__") (some (some (.builtin "object.__format__"))) && decO (PySem.W.mroIn K (ga K C) (.type "object")) (some true)
theorem fmt_ok {K : PySem.W.Frag} {C : Str} (c : fmtB C K = true) : PySem.W.findIn K (.ref (ga K C)) "__format__" = some (some (.builtin "object.__format__")) ∧ PySem.W.mroIn K (ga K C) (.type "object") = some true := by
  obtain ⟨c1, c2⟩ := ba c
  exact ⟨eqO_ok c1, decO_ok c2⟩
def xcB (x : Str) (bm : List Value) (newId : String) : Fb := fun K => He.Fa.ok K (.glo x) && (PySem.W.excIn K (ga K x) bm newId && (PySem.W.keepIn K (.ref (ga K x)) && (decO (PySem.W.subIn K (.ref (ga K x)) (.type "BaseException")) (some true) && (decide (PySem.W.typeIn K (.ref (ga K x)) = some (.type "type")) && decO (PySem.W.exmOne K (.ref (ga K x)) (.ref (ga K x))) (some true)))))
theorem xc_ok {K : PySem.W.Frag} {h : Heap} {mg : Str → Option Value} (X : K.In h) (G : h.Ns mainGlobals mg) {x : Str} {bm : List Value} {newId : String} (c : xcB x bm newId K = true) : Xc K mg x bm newId := by
  obtain ⟨c1, c⟩ := ba c
  obtain ⟨c2, c⟩ := ba c
  obtain ⟨c3, c⟩ := ba c
  obtain ⟨c4, c⟩ := ba c
  obtain ⟨c5, c6⟩ := ba c
  exact ⟨He.glo_ok X G c1, c2, c3, decO_ok c4, of_decide_eq_true c5, decO_ok c6⟩
end Hd
namespace RG
open PySem PySem.Spec PyProof.Rows L2
def topS (i : Nat) : Stmt := PySem.Challenge.pw_formrings_k54_whole_maps_to_residues.main.body.getD i (.Pass ⟨0, 0, 0, 0⟩)
abbrev s_is_any_integer : Stmt := topS 14
abbrev s_is_short_integer : Stmt := topS 15
abbrev s_is_between : Stmt := topS 16
abbrev s_are_short_integers : Stmt := topS 17
abbrev s_check_integer : Stmt := topS 19
abbrev s_check_between : Stmt := topS 20
abbrev s_power_at : Stmt := topS 22
abbrev s_shared_divisor : Stmt := topS 36
abbrev s_is_prime : Stmt := topS 38
abbrev s_check_prime : Stmt := topS 39
abbrev s_form_discriminant : Stmt := topS 58
abbrev s_form_hessian : Stmt := topS 59
abbrev s_check_form : Stmt := topS 61
abbrev s_Form___init__ : Stmt := inClass (topS 63) 0
abbrev s_Form_coefficients : Stmt := inClass (topS 63) 2
abbrev s_Form___eq__ : Stmt := inClass (topS 63) 17
abbrev s_places_of_roots : Stmt := topS 67
abbrev s_is_full : Stmt := topS 68
abbrev s_value_at : Stmt := topS 70
abbrev s_less_root : Stmt := topS 71
abbrev s_times_at_end : Stmt := topS 72
abbrev s_root_times : Stmt := topS 73
abbrev s_kind_by_roots : Stmt := topS 74
abbrev s_kind_of : Stmt := topS 75
abbrev s_check_both : Stmt := topS 77
abbrev s_map_of : Stmt := topS 78
abbrev s_kind_at : Stmt := topS 79
abbrev s_maps_at : Stmt := topS 80
abbrev s_table_of : Stmt := topS 83
abbrev s_product_by : Stmt := topS 84
abbrev s_check_bottom : Stmt := topS 91
abbrev s_table_for : Stmt := topS 92
abbrev s_Ring___init__ : Stmt := inClass (topS 93) 0
abbrev s_Ring_form : Stmt := inClass (topS 93) 1
abbrev s_Ring_element : Stmt := inClass (topS 93) 6
abbrev s_Ring___eq__ : Stmt := inClass (topS 93) 7
abbrev s_check_one_ring : Stmt := topS 94
abbrev s_mixed : Stmt := topS 95
abbrev s_Element___init__ : Stmt := inClass (topS 98) 0
abbrev s_Element_ring : Stmt := inClass (topS 98) 1
abbrev s_Element_entries : Stmt := inClass (topS 98) 2
abbrev s_Element_bottom : Stmt := inClass (topS 98) 3
abbrev s_Element___add__ : Stmt := inClass (topS 98) 8
abbrev s_Element___mul__ : Stmt := inClass (topS 98) 10
abbrev s_l_crock : Stmt := topS 100
abbrev s_l_scoop : Stmt := topS 101
abbrev s_l_choose : Stmt := topS 102
abbrev s_l_lines : Stmt := topS 103
abbrev s_l_led : Stmt := topS 104
abbrev s_l_discriminant : Stmt := topS 105
abbrev s_l_at : Stmt := topS 106
abbrev s_l_change : Stmt := topS 107
abbrev s_l_maps : Stmt := topS 108
abbrev s_l_by_roots : Stmt := topS 109
abbrev s_l_goes_along : Stmt := topS 110
abbrev s_l_right : Stmt := topS 111
abbrev s_law : Stmt := topS 112
end RG
namespace RG
open PySem PySem.Spec PyProof.Rows L2 Fr
def e0 : Hd.Dd := ⟨fun K => He.ga K "is_any_integer", "is_any_integer", "is_any_integer", s_is_any_integer, []⟩
def e1 : Hd.Dd := ⟨fun K => He.ga K "is_short_integer", "is_short_integer", "is_short_integer", s_is_short_integer, []⟩
def e2 : Hd.Dd := ⟨fun K => He.ga K "is_between", "is_between", "is_between", s_is_between, []⟩
def e3 : Hd.Dd := ⟨fun K => He.ga K "are_short_integers", "are_short_integers", "are_short_integers", s_are_short_integers, []⟩
def e4 : Hd.Dd := ⟨fun K => He.ga K "check_integer", "check_integer", "check_integer", s_check_integer, []⟩
def e5 : Hd.Dd := ⟨fun K => He.ga K "check_between", "check_between", "check_between", s_check_between, []⟩
def e6 : Hd.Dd := ⟨fun K => He.ga K "power_at", "power_at", "power_at", s_power_at, []⟩
def e7 : Hd.Dd := ⟨fun K => He.ga K "shared_divisor", "shared_divisor", "shared_divisor", s_shared_divisor, []⟩
def e8 : Hd.Dd := ⟨fun K => He.ga K "is_prime", "is_prime", "is_prime", s_is_prime, []⟩
def e9 : Hd.Dd := ⟨fun K => He.ga K "check_prime", "check_prime", "check_prime", s_check_prime, []⟩
def e10 : Hd.Dd := ⟨fun K => He.ga K "form_discriminant", "form_discriminant", "form_discriminant", s_form_discriminant, []⟩
def e11 : Hd.Dd := ⟨fun K => He.ga K "form_hessian", "form_hessian", "form_hessian", s_form_hessian, []⟩
def e12 : Hd.Dd := ⟨fun K => He.ga K "check_form", "check_form", "check_form", s_check_form, []⟩
def e13 : Hd.Dd := ⟨fun K => He.ma K (He.ga K "Form") "__init__", "__init__", "Form.__init__", s_Form___init__, []⟩
def e14 : Hd.Dd := ⟨fun K => Hd.pa K (He.ga K "Form") "coefficients", "coefficients", "Form.coefficients", s_Form_coefficients, []⟩
def e15 : Hd.Dd := ⟨fun K => He.ma K (He.ga K "Form") "__eq__", "__eq__", "Form.__eq__", s_Form___eq__, []⟩
def e16 : Hd.Dd := ⟨fun K => He.ga K "places_of_roots", "places_of_roots", "places_of_roots", s_places_of_roots, []⟩
def e17 : Hd.Dd := ⟨fun K => He.ga K "is_full", "is_full", "is_full", s_is_full, []⟩
def e18 : Hd.Dd := ⟨fun K => He.ga K "value_at", "value_at", "value_at", s_value_at, []⟩
def e19 : Hd.Dd := ⟨fun K => He.ga K "less_root", "less_root", "less_root", s_less_root, []⟩
def e20 : Hd.Dd := ⟨fun K => He.ga K "times_at_end", "times_at_end", "times_at_end", s_times_at_end, []⟩
def e21 : Hd.Dd := ⟨fun K => He.ga K "root_times", "root_times", "root_times", s_root_times, []⟩
def e22 : Hd.Dd := ⟨fun K => He.ga K "kind_by_roots", "kind_by_roots", "kind_by_roots", s_kind_by_roots, []⟩
def e23 : Hd.Dd := ⟨fun K => He.ga K "kind_of", "kind_of", "kind_of", s_kind_of, []⟩
def e24 : Hd.Dd := ⟨fun K => He.ga K "check_both", "check_both", "check_both", s_check_both, []⟩
def e25 : Hd.Dd := ⟨fun K => He.ga K "map_of", "map_of", "map_of", s_map_of, []⟩
def e26 : Hd.Dd := ⟨fun K => He.ga K "kind_at", "kind_at", "kind_at", s_kind_at, []⟩
def e27 : Hd.Dd := ⟨fun K => He.ga K "maps_at", "maps_at", "maps_at", s_maps_at, []⟩
def e28 : Hd.Dd := ⟨fun K => He.ga K "table_of", "table_of", "table_of", s_table_of, []⟩
def e29 : Hd.Dd := ⟨fun K => He.ga K "product_by", "product_by", "product_by", s_product_by, []⟩
def e30 : Hd.Dd := ⟨fun K => He.ga K "check_bottom", "check_bottom", "check_bottom", s_check_bottom, []⟩
def e31 : Hd.Dd := ⟨fun K => He.ga K "table_for", "table_for", "table_for", s_table_for, []⟩
def e32 : Hd.Dd := ⟨fun K => He.ma K (He.ga K "Ring") "__init__", "__init__", "Ring.__init__", s_Ring___init__, []⟩
def e33 : Hd.Dd := ⟨fun K => Hd.pa K (He.ga K "Ring") "form", "form", "Ring.form", s_Ring_form, []⟩
def e34 : Hd.Dd := ⟨fun K => He.ma K (He.ga K "Ring") "element", "element", "Ring.element", s_Ring_element, [.int 1]⟩
def e35 : Hd.Dd := ⟨fun K => He.ma K (He.ga K "Ring") "__eq__", "__eq__", "Ring.__eq__", s_Ring___eq__, []⟩
def e36 : Hd.Dd := ⟨fun K => He.ga K "check_one_ring", "check_one_ring", "check_one_ring", s_check_one_ring, []⟩
def e37 : Hd.Dd := ⟨fun K => He.ga K "mixed", "mixed", "mixed", s_mixed, []⟩
def e38 : Hd.Dd := ⟨fun K => He.ma K (He.ga K "Element") "__init__", "__init__", "Element.__init__", s_Element___init__, []⟩
def e39 : Hd.Dd := ⟨fun K => Hd.pa K (He.ga K "Element") "ring", "ring", "Element.ring", s_Element_ring, []⟩
def e40 : Hd.Dd := ⟨fun K => Hd.pa K (He.ga K "Element") "entries", "entries", "Element.entries", s_Element_entries, []⟩
def e41 : Hd.Dd := ⟨fun K => Hd.pa K (He.ga K "Element") "bottom", "bottom", "Element.bottom", s_Element_bottom, []⟩
def e42 : Hd.Dd := ⟨fun K => He.ma K (He.ga K "Element") "__add__", "__add__", "Element.__add__", s_Element___add__, []⟩
def e43 : Hd.Dd := ⟨fun K => He.ma K (He.ga K "Element") "__mul__", "__mul__", "Element.__mul__", s_Element___mul__, []⟩
def e44 : Hd.Dd := ⟨fun K => He.ga K "_law_crock", "_law_crock", "_law_crock", s_l_crock, []⟩
def e45 : Hd.Dd := ⟨fun K => He.ga K "_law_scoop", "_law_scoop", "_law_scoop", s_l_scoop, []⟩
def e46 : Hd.Dd := ⟨fun K => He.ga K "_law_choose", "_law_choose", "_law_choose", s_l_choose, []⟩
def e47 : Hd.Dd := ⟨fun K => He.ga K "_law_lines", "_law_lines", "_law_lines", s_l_lines, []⟩
def e48 : Hd.Dd := ⟨fun K => He.ga K "_law_led", "_law_led", "_law_led", s_l_led, []⟩
def e49 : Hd.Dd := ⟨fun K => He.ga K "_law_discriminant", "_law_discriminant", "_law_discriminant", s_l_discriminant, []⟩
def e50 : Hd.Dd := ⟨fun K => He.ga K "_law_at", "_law_at", "_law_at", s_l_at, []⟩
def e51 : Hd.Dd := ⟨fun K => He.ga K "_law_change", "_law_change", "_law_change", s_l_change, []⟩
def e52 : Hd.Dd := ⟨fun K => He.ga K "_law_maps", "_law_maps", "_law_maps", s_l_maps, []⟩
def e53 : Hd.Dd := ⟨fun K => He.ga K "_law_by_roots", "_law_by_roots", "_law_by_roots", s_l_by_roots, []⟩
def e54 : Hd.Dd := ⟨fun K => He.ga K "_law_goes_along", "_law_goes_along", "_law_goes_along", s_l_goes_along, []⟩
def e55 : Hd.Dd := ⟨fun K => He.ga K "_law_right", "_law_right", "_law_right", s_l_right, []⟩
def e56 : Hd.Dd := ⟨fun K => He.ga K "law", "law", "law", s_law, []⟩
def dd0 : List Hd.Dd := [e0, e1, e2, e3, e4, e5, e6, e7, e8, e9, e10, e11, e12, e13, e14, e15, e16, e17, e18, e19]
def dd1 : List Hd.Dd := [e20, e21, e22, e23, e24, e25, e26, e27, e28, e29, e30, e31, e32, e33, e34, e35, e36, e37, e38, e39]
def dd2 : List Hd.Dd := [e40, e41, e42, e43, e44, e45, e46, e47, e48, e49, e50, e51, e52, e53, e54, e55, e56]
def dd : List Hd.Dd := dd0 ++ (dd1 ++ (dd2))
def g0 : Hd.Fb := fun K => (fun K => (He.Fa.glo "Form").ok K) K
def g1 : Hd.Fb := fun K => (fun K => (He.Fa.cls "Form").ok K) K
def g2 : Hd.Fb := fun K => Hd.tyB "Form" K
def g3 : Hd.Fb := fun K => (fun K => (He.Fa.noat "Form" "_coefficients").ok K) K
def g4 : Hd.Fb := fun K => (fun K => (He.Fa.glo "Ring").ok K) K
def g5 : Hd.Fb := fun K => (fun K => (He.Fa.cls "Ring").ok K) K
def g6 : Hd.Fb := fun K => Hd.tyB "Ring" K
def g7 : Hd.Fb := fun K => (fun K => (He.Fa.noat "Ring" "_form").ok K) K
def g8 : Hd.Fb := fun K => (fun K => (He.Fa.glo "Element").ok K) K
def g9 : Hd.Fb := fun K => (fun K => (He.Fa.cls "Element").ok K) K
def g10 : Hd.Fb := fun K => Hd.tyB "Element" K
def g11 : Hd.Fb := fun K => (fun K => (He.Fa.noat "Element" "_ring").ok K) K
def g12 : Hd.Fb := fun K => (fun K => (He.Fa.noat "Element" "_entries").ok K) K
def g13 : Hd.Fb := fun K => (fun K => (He.Fa.noat "Element" "_bottom").ok K) K
def g14 : Hd.Fb := fun K => Hd.foreB "Element" "tuple" K
def g15 : Hd.Fb := fun K => Hd.foreB "Element" "NoneType" K
def g16 : Hd.Fb := fun K => (fun K => (He.Fa.glo "is_any_integer").ok K) K
def g17 : Hd.Fb := fun K => (fun K => (He.Fa.glo "is_short_integer").ok K) K
def g18 : Hd.Fb := fun K => (fun K => (He.Fa.glo "is_between").ok K) K
def g19 : Hd.Fb := fun K => (fun K => (He.Fa.glo "are_short_integers").ok K) K
def g20 : Hd.Fb := fun K => (fun K => (He.Fa.glo "check_integer").ok K) K
def g21 : Hd.Fb := fun K => (fun K => (He.Fa.glo "check_between").ok K) K
def g22 : Hd.Fb := fun K => (fun K => (He.Fa.glo "power_at").ok K) K
def g23 : Hd.Fb := fun K => (fun K => (He.Fa.glo "shared_divisor").ok K) K
def g24 : Hd.Fb := fun K => (fun K => (He.Fa.glo "is_prime").ok K) K
def g25 : Hd.Fb := fun K => (fun K => (He.Fa.glo "check_prime").ok K) K
def g26 : Hd.Fb := fun K => (fun K => (He.Fa.glo "form_discriminant").ok K) K
def g27 : Hd.Fb := fun K => (fun K => (He.Fa.glo "form_hessian").ok K) K
def g28 : Hd.Fb := fun K => (fun K => (He.Fa.glo "check_form").ok K) K
def g29 : Hd.Fb := fun K => (fun K => (He.Fa.mkr "Form").ok K) K
def g30 : Hd.Fb := fun K => Hd.propB "Form" "coefficients" K
def g31 : Hd.Fb := fun K => Hd.eqB "Form" K
def g32 : Hd.Fb := fun K => (fun K => (He.Fa.glo "places_of_roots").ok K) K
def g33 : Hd.Fb := fun K => (fun K => (He.Fa.glo "is_full").ok K) K
def g34 : Hd.Fb := fun K => (fun K => (He.Fa.glo "value_at").ok K) K
def g35 : Hd.Fb := fun K => (fun K => (He.Fa.glo "less_root").ok K) K
def g36 : Hd.Fb := fun K => (fun K => (He.Fa.glo "times_at_end").ok K) K
def g37 : Hd.Fb := fun K => (fun K => (He.Fa.glo "root_times").ok K) K
def g38 : Hd.Fb := fun K => (fun K => (He.Fa.glo "kind_by_roots").ok K) K
def g39 : Hd.Fb := fun K => (fun K => (He.Fa.glo "kind_of").ok K) K
def g40 : Hd.Fb := fun K => (fun K => (He.Fa.glo "check_both").ok K) K
def g41 : Hd.Fb := fun K => (fun K => (He.Fa.glo "map_of").ok K) K
def g42 : Hd.Fb := fun K => (fun K => (He.Fa.glo "kind_at").ok K) K
def g43 : Hd.Fb := fun K => (fun K => (He.Fa.glo "maps_at").ok K) K
def g44 : Hd.Fb := fun K => (fun K => (He.Fa.glo "table_of").ok K) K
def g45 : Hd.Fb := fun K => (fun K => (He.Fa.glo "product_by").ok K) K
def g46 : Hd.Fb := fun K => (fun K => (He.Fa.glo "check_bottom").ok K) K
def g47 : Hd.Fb := fun K => (fun K => (He.Fa.glo "table_for").ok K) K
def g48 : Hd.Fb := fun K => (fun K => (He.Fa.mkr "Ring").ok K) K
def g49 : Hd.Fb := fun K => Hd.propB "Ring" "form" K
def g50 : Hd.Fb := fun K => (fun K => (He.Fa.meth "Ring" "element").ok K) K
def g51 : Hd.Fb := fun K => Hd.eqB "Ring" K
def g52 : Hd.Fb := fun K => (fun K => (He.Fa.glo "check_one_ring").ok K) K
def g53 : Hd.Fb := fun K => (fun K => (He.Fa.glo "mixed").ok K) K
def g54 : Hd.Fb := fun K => (fun K => (He.Fa.mkr "Element").ok K) K
def g55 : Hd.Fb := fun K => Hd.propB "Element" "ring" K
def g56 : Hd.Fb := fun K => Hd.propB "Element" "entries" K
def g57 : Hd.Fb := fun K => Hd.propB "Element" "bottom" K
def g58 : Hd.Fb := fun K => Hd.binB "Element" "__add__" K
def g59 : Hd.Fb := fun K => Hd.binB "Element" "__mul__" K
def g60 : Hd.Fb := fun K => (fun K => (He.Fa.glo "_law_crock").ok K) K
def g61 : Hd.Fb := fun K => (fun K => (He.Fa.glo "_law_scoop").ok K) K
def g62 : Hd.Fb := fun K => (fun K => (He.Fa.glo "_law_choose").ok K) K
def g63 : Hd.Fb := fun K => (fun K => (He.Fa.glo "_law_lines").ok K) K
def g64 : Hd.Fb := fun K => (fun K => (He.Fa.glo "_law_led").ok K) K
def g65 : Hd.Fb := fun K => (fun K => (He.Fa.glo "_law_discriminant").ok K) K
def g66 : Hd.Fb := fun K => (fun K => (He.Fa.glo "_law_at").ok K) K
def g67 : Hd.Fb := fun K => (fun K => (He.Fa.glo "_law_change").ok K) K
def g68 : Hd.Fb := fun K => (fun K => (He.Fa.glo "_law_maps").ok K) K
def g69 : Hd.Fb := fun K => (fun K => (He.Fa.glo "_law_by_roots").ok K) K
def g70 : Hd.Fb := fun K => (fun K => (He.Fa.glo "_law_goes_along").ok K) K
def g71 : Hd.Fb := fun K => (fun K => (He.Fa.glo "_law_right").ok K) K
def g72 : Hd.Fb := fun K => (fun K => (He.Fa.glo "law").ok K) K
def g73 : Hd.Fb := fun K => (fun K => (He.Fa.free "abs").ok K) K
def g74 : Hd.Fb := fun K => (fun K => (He.Fa.free "all").ok K) K
def g75 : Hd.Fb := fun K => (fun K => (He.Fa.free "any").ok K) K
def g76 : Hd.Fb := fun K => (fun K => (He.Fa.free "bool").ok K) K
def g77 : Hd.Fb := fun K => (fun K => (He.Fa.free "enumerate").ok K) K
def g78 : Hd.Fb := fun K => (fun K => (He.Fa.free "int").ok K) K
def g79 : Hd.Fb := fun K => (fun K => (He.Fa.free "isinstance").ok K) K
def g80 : Hd.Fb := fun K => (fun K => (He.Fa.free "len").ok K) K
def g81 : Hd.Fb := fun K => (fun K => (He.Fa.free "list").ok K) K
def g82 : Hd.Fb := fun K => (fun K => (He.Fa.free "max").ok K) K
def g83 : Hd.Fb := fun K => (fun K => (He.Fa.free "min").ok K) K
def g84 : Hd.Fb := fun K => (fun K => (He.Fa.free "range").ok K) K
def g85 : Hd.Fb := fun K => (fun K => (He.Fa.free "sorted").ok K) K
def g86 : Hd.Fb := fun K => (fun K => (He.Fa.free "sum").ok K) K
def g87 : Hd.Fb := fun K => (fun K => (He.Fa.free "tuple").ok K) K
def g88 : Hd.Fb := fun K => (fun K => (He.Fa.free "zip").ok K) K
def g89 : Hd.Fb := fun K => (fun K => (He.Fa.int "GREAT" (1000)).ok K) K
def g90 : Hd.Fb := fun K => (fun K => (He.Fa.int "GREATEST_PRIME" (10000)).ok K) K
def g91 : Hd.Fb := fun K => (fun K => (He.Fa.int "LIMIT" (1000000000000000000000000000000000000000000000000000000000000)).ok K) K
def g92 : Hd.Fb := fun K => (fun K => (He.Fa.int "MAX_PRIME" (1000000)).ok K) K
def g93 : Hd.Fb := fun K => Hd.bltB "gcd" "math.gcd" K
def g94 : Hd.Fb := fun K => Hd.bltB "isqrt" "math.isqrt" K
def g95 : Hd.Fb := fun K => Hd.refsB (fun K => He.ga K "UNITS") 3 K
def g96 : Hd.Fb := fun K => Hd.intsB (fun K => Hd.itA K (He.ga K "UNITS") 0) [1, 0, 0] K
def g97 : Hd.Fb := fun K => Hd.intsB (fun K => Hd.itA K (He.ga K "UNITS") 1) [0, 1, 0] K
def g98 : Hd.Fb := fun K => Hd.intsB (fun K => Hd.itA K (He.ga K "UNITS") 2) [0, 0, 1] K
def g99 : Hd.Fb := fun K => (fun K => (He.Fa.glo "UNITS").ok K) K
def g100 : Hd.Fb := fun K => (fun K => (He.Fa.glo "END").ok K) K
def g101 : Hd.Fb := fun K => Hd.intsB (fun K => He.ga K "END") [1, 0] K
def fa0 : List Hd.Fb := [g0, g1, g2, g3, g4, g5, g6, g7, g8, g9, g10, g11, g12, g13, g14, g15, g16, g17, g18, g19]
def fa1 : List Hd.Fb := [g20, g21, g22, g23, g24, g25, g26, g27, g28, g29, g30, g31, g32, g33, g34, g35, g36, g37, g38, g39]
def fa2 : List Hd.Fb := [g40, g41, g42, g43, g44, g45, g46, g47, g48, g49, g50, g51, g52, g53, g54, g55, g56, g57, g58, g59]
def fa3 : List Hd.Fb := [g60, g61, g62, g63, g64, g65, g66, g67, g68, g69, g70, g71, g72, g73, g74, g75, g76, g77, g78, g79]
def fa4 : List Hd.Fb := [g80, g81, g82, g83, g84, g85, g86, g87, g88, g89, g90, g91, g92, g93, g94, g95, g96, g97, g98, g99]
def fa5 : List Hd.Fb := [g100, g101]
def fa : List Hd.Fb := fa0 ++ (fa1 ++ (fa2 ++ (fa3 ++ (fa4 ++ (fa5)))))
def names0 : List Str := ["_wall", "__name__", "RingError", "InvalidForm", "InvalidDouble", "InvalidElement", "InvalidOperation", "ParseError", "InvalidNumber", "Refused", "DIGITS", "LIMIT", "is_any_integer", "is_short_integer", "is_between", "are_short_integers", "is_written_integer", "check_integer", "check_between", "power_at", "inverse_at", "first_one", "rest_by", "quotient_by", "product_by_rest", "power_by_rest", "shared_by", "less_number", "split_roots", "roots_of"]
def names1 : List Str := ["MAX_PRIME", "GREATEST_PRIME", "shared_divisor", "fraction", "is_prime", "check_prime", "double_value", "double_discriminant", "double_of", "Double", "plain_root", "double_roots", "cubic_value", "cubic_span", "cubic_parts", "reached", "cubic_root", "some_root", "rest_of", "form_roots", "form_value", "form_discriminant", "form_hessian", "is_root_of", "check_form", "form_of", "Form", "END", "GREAT", "places_of_roots"]
def names2 : List Str := ["is_full", "value_at", "less_root", "times_at_end", "root_times", "kind_by_roots", "kind_of", "check_both", "map_of", "kind_at", "maps_at", "UNITS", "table_of", "product_by", "power_by", "determinant_by", "map_by", "polynomial_by", "MAX_POWER", "check_bottom", "table_for", "Ring", "check_one_ring", "mixed", "term", "sum_text", "Element", "_law_crock", "_law_scoop", "_law_choose"]
def names3 : List Str := ["_law_lines", "_law_led", "_law_discriminant", "_law_at", "_law_change", "_law_maps", "_law_by_roots", "_law_goes_along", "_law_right"]
def names : List Str := names0 ++ (names1 ++ (names2 ++ (names3)))
abbrev RR : PySem.W.OpenRow := PySem.W.OpenLaw.row PySem.Challenge.rw_formrings_k54_whole_maps_to_residues
abbrev vw : Program := PySem.W.view RR.prog [0, 112]
abbrev hk : PySem.W.Hook := Hd.hookM 5 fa dd
def ob (s : PySem.W.SharedT) : Hd.AlM := Hd.obsMG 5 fa dd (HandSHeadRun.getT s)
theorem ob_eq (s : PySem.W.SharedT) : ob s = hk.obs s.abs := Hd.obsMG_eq (HandSHeadRun.getT_eq s)
theorem run (w : World) : HandSHeadRun.RunEqI RR vw hk ob 12000 names w := by
  unfold HandSHeadRun.RunEqI
  kernel_rfl
end RG
set_option Elab.async false
set_option linter.all false
set_option maxRecDepth 100000
namespace Fr
open PySem PySem.Spec PyProof.Rows L2
section
variable {X : Cx} {CX : CXT} {C f : Addr} {fd : FuncData} {ps : List Str} {k : Nat} {sp : Sp} {E : XK}
structure BinC (K : PySem.W.Frag) (C : Addr) (m : Str) (f : Addr) : Prop where
  at_ : PySem.W.findIn K (.ref C) m = some (some (.ref f))
  fn : PySem.W.isFn K (.ref f) = true
  sf : PySem.W.selfFirst K C = true
def rBinI (C : Addr) (sp : Sp) (E : XK) : R2 := fun x y H Q => ∃ a b dx dy fx fy, x = .ref a ∧ y = .ref b ∧ H a = some (.ins C dx fx) ∧ H b = some (.ins C dy fy) ∧ sp [x, y] H (fun v H' => (∃ r, v = .ref r) ∧ Q v H') E
theorem op_binI {op : Operator} (c : BinC X.K C (PySem.dunder op.info.2) f) (F : FnOk X.prog X.w X.K X.mg X.base CX k f fd ps sp) (hb : Binds X.K fd ps []) (hr : Room k X.A) (hx : Passes CX X E) : OpR X (binaryOp op) (rBinI C sp E) := by
  intro pins s σ H x y v u Q I rx ry h
  obtain ⟨a, b, dx, dy, fx, fy, rfl, rfl, ha, hbb, q⟩ := h
  cases (show v = Value.ref a from rx)
  cases (show u = Value.ref b from ry)
  obtain ⟨mA, J, _⟩ := ins_get I.hok ha
  obtain ⟨od, J, _⟩ := J.look
  obtain ⟨mB, J2, _⟩ := ins_get I.hok hbb
  obtain ⟨od2, J2, _⟩ := J2.look
  obtain ⟨m, hF⟩ := I.fr
  refine PySem.W.binop_K hF I.ok.mod.kin J J2.type c.sf c.at_ c.fn ?_
  refine wpAny_mono (run_fn (us := [.ref a, .ref b]) (vs := [.ref a, .ref b]) F hr hb .nil hx I (.cons rfl (.cons rfl .nil)) q) (fun w s' z => ?_) fun _ _ x => x
  obtain ⟨z', H', I', rz, ⟨r, rfl⟩, qz⟩ := z
  cases (show w = Value.ref r from rz)
  exact ⟨.ref r, H', I', rfl, qz⟩
def MDefD (R : Addr → Addr → Prop) (P : Program) (w : World) (K : PySem.W.Frag) (mg : Str → Option Value) (base : Heap) (k : Nat) (ps : List Str) (dvs : List V) (sp : Sp) : Prop :=
  ∃ p f fd ds, R p f ∧ Binds K fd ps [] ∧ Vals dvs ds ∧ Binds K fd ps ds ∧ FnOk P w K mg base CX0 k f fd ps sp
variable {K : PySem.W.Frag}
theorem pi_tupK (hK : X.K = K) {tg l : Expr} {tl : TE} (hl : PE X l tl) : PI X tg l (iTup K tl) := hK ▸ pi_tup hl
theorem pi_listK (hK : X.K = K) {tg l : Expr} {tl : TE} (hl : PE X l tl) : PI X tg l (iList K tl) := hK ▸ pi_list hl
theorem ix_tupK (hK : X.K = K) : IxR X (rIxT K) := hK ▸ ix_tup
theorem ix_listK (hK : X.K = K) : IxR X (rIxL K) := hK ▸ ix_list
def rTupOf (K : PySem.W.Frag) : List V → Hp → VK → Prop := fun xs H Q => ∃ p ys, xs = [.ref p] ∧ ((SqL K H p ys ∧ ∀ l, H l = none → Q (.ref l) (upd H l (.tup ys))) ∨ (SqT K H p ys ∧ Q (.ref p) H))
theorem call_tuple_ofK (hK : X.K = K) : CallR X (.type "tuple") (rTupOf K) := hK ▸ call_tuple_of
theorem cr_sumK (hK : X.K = K) (hc : X.calm = true) : CallR X (.builtin "sum") (rSum K) := hK ▸ cr_sum hc
theorem cr_allK (hK : X.K = K) (hc : X.calm = true) : CallR X (.builtin "all") (rAll K) := hK ▸ cr_all hc
end
end Fr
set_option Elab.async false
set_option linter.all false
set_option maxRecDepth 100000
namespace Fr
open PySem PySem.Spec PyProof.Rows L2
set_option maxHeartbeats 1000000 in
theorem meets_en1 {v : Value} {o : Obj} {H : Heap → Prop} (B : Begins v o H) :
    Meets (Builtin.«enumerate.__new__» ⟨[.type "enumerate", v], []⟩) (fun _ R s => H s.heap ∧
      R (.ok (.ret (.ref (s.heap.push o).objs.size))) { s with heap := (s.heap.push o).push { cls := .type "enumerate", data := .fields #[.none, .bool false, .ref s.heap.objs.size, rawInt 0, .none, .none] } }) :=
  .of_wp fun prog w A R s h => by
    obtain ⟨hp, g, d, tk, os⟩ := s; obtain ⟨h1, h⟩ := h
    have hsub := sub_enumerate
    have q1 : ∀ {A' : Around} {E : Value → Shared → Prop} {Q : Value → Shared → Prop}, Q (.ref hp.objs.size) ⟨hp.push o, g, d, tk, os⟩ → wpAny (model prog w) A' (pyIter v) Q E ⟨hp, g, d, tk, os⟩ :=
      fun q => B.iter prog w _ _ ⟨hp, g, d, tk, os⟩ _ h1 q
    wp_walk using q1
    refine wpAny_stack_any fun st => wpAny_pure ?_
    split
    · rename_i c _ _ _ _ _
      cases (c == Value.type "enumerate")
      · wp_walk using q1
        exact ⟨_, rfl, h⟩
      · wp_walk using q1
        exact ⟨_, rfl, h⟩
    · wp_walk using q1
      exact ⟨_, rfl, h⟩
theorem call_en1 {prog : Program} {w : World} {A : Around} {E : Value → Shared → Prop} {s : Shared} {v : Value} {o : Obj} {H : Heap → Prop} {Q : Value → Shared → Prop} (B : Begins v o H) (h1 : H s.heap)
    (h : ∀ h', IsEnum h' (s.heap.objs.size + 1) s.heap.objs.size 0 .none → h'.get? s.heap.objs.size = some o → h'.objs.size = s.heap.objs.size + 2 →
      (∀ b o, s.heap.get? b = some o → h'.get? b = some o) → Q (.ref (s.heap.objs.size + 1)) { s with heap := h' }) :
    wpAny (model prog w) A (call (.type "enumerate") [v]) Q E s := by
  refine callType_new F.called_enumerate (by decide) (F.typeCall_enumerate_1 _) (F.newCall_enumerate_1 _) (fun obj => F.args_object_init_2 obj _) F.entry_enumerate_new (meets_en1 B) ⟨h1, ?_⟩
  have hz : (s.heap.push o).objs.size = s.heap.objs.size + 1 := Heap.size_push ..
  show _ ∧ _
  rw [hz]
  have he : IsEnum ((s.heap.push o).push { cls := .type "enumerate", data := .fields #[.none, .bool false, .ref s.heap.objs.size, rawInt 0, .none, .none] }) (s.heap.objs.size + 1) s.heap.objs.size 0 .none := by
    have := Heap.get?_push_size (s.heap.push o) (o := { cls := .type "enumerate", data := .fields #[.none, .bool false, .ref s.heap.objs.size, rawInt 0, .none, .none] }) rfl
    rw [hz] at this; exact this
  exact ⟨⟨_, he, rfl⟩, h _ he (Heap.get?_push_of_some _ (Heap.get?_push_size _ B.free)) (by rw [Heap.size_push, hz]) fun b o x => Heap.get?_push_of_some _ (Heap.get?_push_of_some _ x)⟩
def IteT (K : PySem.W.Frag) (a : Addr) : It :=
  ⟨fun i H => ∃ (xs : List V) (x : V), SqT K H a xs ∧ xs[i]? = some x, fun i H v H' => ∃ T x, v = .ref T ∧ H T = none ∧ H' = upd H T (.tup [.int (i : Nat), x]) ∧ ∀ xs, SqT K H a xs → xs[i]? = some x, fun i H => ∃ xs : List V, SqT K H a xs ∧ xs.length = i⟩
theorem turn_enumT {P : Program} {w : World} {K : PySem.W.Frag} {elts : List Expr} {kk : Nat} {tpos : Pos} (a e it : Addr) (hae : a ≠ it) :
    Turn P w K (.Tuple elts kk tpos) (IteT K a) [e, it] e (fun i h => (∃ old, IsEnum h e it ((i : Nat) : Int) old) ∧ h.IsTupleIter it a i ∧ e ≠ it) where
  mem := by simp
  obj := fun i h st b hb => by
    obtain ⟨⟨old, he⟩, ⟨o, ho, hc, hd⟩, _⟩ := st
    have e' : b = e ∨ b = it := by simpa using hb
    rcases e' with z | z
    · rw [z]; exact ⟨_, he, fun v q => nomatch q⟩
    · rw [z]; exact ⟨o, ho, fun v q => by rw [hd] at q; cases q⟩
  keep := fun i h h' st k => let ⟨⟨old, he⟩, hi, hne⟩ := st; ⟨⟨old, k e (by simp) _ he⟩, hi.at fun o q => k it (by simp) o q, hne⟩
  item := by
    intro X hP hw hK hc i pins s σ H E I hf st hg
    subst hP hw hK
    obtain ⟨⟨old, he⟩, hit, hne⟩ := st
    obtain ⟨xs, x, hq, hx⟩ := hg
    obtain ⟨its, rv, p, hz⟩ := I.tuple hq
    obtain ⟨u, hu, ru⟩ := rv.get hx
    have hel : e < s.heap.objs.size := Heap.lt_size he
    have hi : i < its.toArray.size := by
      have := (List.getElem?_eq_some_iff.mp hu).1
      simpa using this
    have hea : e ∉ [it, a] := fun z => by
      have z' : e = it ∨ e = a := by simpa using z
      rcases z' with z | z
      · exact hne z
      · obtain ⟨o, ho, hc', _⟩ := id p
        rw [← z, he] at ho
        cases ho
        injection hc' with z2
        exact absurd z2 (by decide)
    have D := Draws.tuple (prog := X.prog) (w := X.w) (A := X.A.in1) (I.ok.hd hc) it a hae its.toArray
    refine wpAny_pyNext_enum_itemC D he ⟨hit, p⟩ hi hne hea fun y h' tk hy ho hit' hT hsz hk => ?_
    obtain rfl : u = y := by
      have hu' : its.toArray[i]? = some u := by simpa using hu
      have hy' : its.toArray[i]? = some y := hy
      rw [hu'] at hy'
      exact Option.some.inj hy'
    refine ⟨_, rfl, wpAny_letOwnedTupleGo_enum (s := { s with heap := h', toks := tk + 1 }) ho fun h'' he' sb => ?_⟩
    have hT2 : h''.get? s.heap.objs.size = some { cls := .type "tuple", data := .seq #[.int i tk, u] } := (sb.2 _ (Nat.ne_of_gt hel)).trans hT
    have new : ObjOk X.prog X.w (upd H s.heap.objs.size (.tup [.int (i : Nat), x])) h'' s.heap.objs.size (.tup [.int (i : Nat), x]) :=
      ⟨by show 2 ≤ sizeLine; decide, [.int i tk, u], .cons ⟨_, rfl⟩ (.cons ru .nil), ⟨_, hT2, rfl, _, rfl⟩⟩
    have I1 : Inv X pins σ (upd H s.heap.objs.size (.tup [.int (i : Nat), x])) { s with heap := h'', toks := tk + 1 } :=
      I.turnedNew (ch := [e, it]) (fun b ob hb q => (sb.2 b (fun z => hb (by simp [z]))).trans (hk b ob (fun z => hb (by simp [z])) (fun z => hb (by simp [z])) q)) hf (Nat.le_refl _) new
    refine ⟨.ref s.heap.objs.size, _, I1, rfl, ⟨_, x, rfl, I.hok.fresh (Nat.le_refl _), rfl, fun ys hy => by rw [I.tuple_inj hy hq]; exact hx⟩, ⟨⟨u, ?_⟩, hit'.1.at fun o q => (sb.2 it (Ne.symm hne)).trans q, hne⟩, fun b hb => ?_⟩
    · have e1 : ((i + 1 : Nat) : Int) = (i : Int) + 1 := by omega
      rw [e1]; exact he'
    · have hb' : b < s.heap.objs.size := by
        have e' : b = e ∨ b = it := by simpa using hb
        rcases e' with z | z
        · rw [z]; exact hel
        · rw [z]; obtain ⟨_, q, _⟩ := hit; exact Heap.lt_size q
      rw [upd_ne (Nat.ne_of_lt hb')]
      exact (hf b hb).1
  done := by
    intro X hP hw hK hc i pins s σ H E I hf st hg
    subst hP hw hK
    obtain ⟨⟨old, he⟩, hit, hne⟩ := st
    obtain ⟨xs, hq, hx⟩ := hg
    obtain ⟨its, rv, p, hz⟩ := I.tuple hq
    obtain ⟨f0, f1, f2, f3, f4, f5⟩ := hf it (by simp)
    have hl := rv.length
    have D := Draws.tuple (prog := X.prog) (w := X.w) (A := X.A.in1) (I.ok.hd hc) it a hae its.toArray
    have hi : its.toArray.size = i := by simp; omega
    exact wpAny_pyNext_enum_endD D he (by rw [hi]; exact ⟨hit, p⟩) fun h' eb => ⟨rfl, I.turned (t' := s.toks) (fun b o hb q => eb b o hb q) f0 f1 f3 f4 f5⟩
  self := fun A i s Q E st h => let ⟨⟨_, he⟩, _⟩ := st; wpAny_pyIter_enum he h
def iEnumT (K : PySem.W.Frag) (ta : TA) : TI := fun σ H R => ta σ H fun vs H1 => ∃ a xs, vs = [.ref a] ∧ SqT K H1 a xs ∧ R (IteT K a) H1
theorem pi_enumT {X : Cx} {e : Expr} {ta : TA} {p pos tpos : Pos} {elts : List Expr} {kk : Nat} (hg : Gl X "enumerate") (hm : X.mg "enumerate" = none) (ha : PA X [e] ta) (hs : starEach [e] X.env = [(false, eval e X.env)] := by rfl) :
    PI X (.Tuple elts kk tpos) (.Call (.Name "enumerate" p) [e] [] pos) (iEnumT X.K ta) := by
  refine ⟨fun pins s σ H R I h => ?_⟩
  refine Call_ (ld_blt I hg hm boot_enumerate (PyProof.Rows.callWith_type1 (thn (ha.run pos pins s σ H _ I h) fun us s1 ⟨vs, H1, I1, r1, q1⟩ => ?_) hs rfl))
  obtain ⟨a, xs, ex, hq, q⟩ := q1
  subst ex
  cases r1 with
  | cons r rr =>
    cases rr
    cases r
    obtain ⟨its, rv, p', hz⟩ := I1.tuple hq
    have hal : a < s1.heap.objs.size := by obtain ⟨o, ho, _⟩ := id p'; exact Heap.lt_size ho
    refine call_en1 (begins_tuple a its.toArray) p' fun h' he hit hsz hk => wpAny_pyIter_enum he ?_
    have I2 : Inv X pins σ H1 { s1 with heap := h' } := I1.kept (t' := s1.toks) hk
    refine ⟨s1.heap.objs.size + 1, [s1.heap.objs.size + 1, s1.heap.objs.size], _, _, H1, rfl, I2, turn_enumT a (s1.heap.objs.size + 1) s1.heap.objs.size (Nat.ne_of_lt hal), ⟨⟨.none, he⟩, ⟨_, hit, rfl, rfl⟩, Nat.succ_ne_self _⟩, fun b hb => ?_, q⟩
    have e' : b = s1.heap.objs.size + 1 ∨ b = s1.heap.objs.size := by simpa using hb
    have hle : s1.heap.objs.size ≤ b := by
      rcases e' with z | z
      · rw [z]; exact Nat.le_add_right _ _
      · rw [z]; exact Nat.le_refl _
    exact I1.fpOk hle (I1.hok.fresh hle)
section
variable {K : PySem.W.Frag} {a b : Addr} {xs ys : List V}
theorem walk_enumT : Walk (IteT K a) xs.length (fun H => SqT K H a xs) (YPair (fun i => some (.int (i : Nat))) fun i => xs[i]?) :=
  ⟨fun i _ hi q => ⟨xs, xs[i], q, by simp [hi]⟩, fun _ q => ⟨xs, q, rfl⟩, fun i H v H' _ q y => by
    obtain ⟨T, x, rfl, hT, rfl, f⟩ := y
    exact ⟨T, _, x, rfl, hT, rfl, rfl, f xs q⟩⟩
theorem walk_zipT (hl : xs.length = ys.length) : Walk (RZ.ItzT K a b) xs.length (fun H => SqT K H a xs ∧ SqT K H b ys) (YPair (fun i => xs[i]?) fun i => ys[i]?) :=
  ⟨fun i _ hi q => ⟨xs, ys, xs[i], ys[i], q.1, q.2, by simp [hi], by simp [← hl, hi]⟩, fun _ q => ⟨xs, ys, q.1, q.2, .inl (Nat.le_refl _)⟩, fun i H v H' _ q y => by
    obtain ⟨T, x, y, rfl, hT, rfl, f1, f2⟩ := y
    exact ⟨T, x, y, rfl, hT, rfl, f1 xs q.1, f2 ys q.2⟩⟩
theorem walk_zipL (hl : xs.length = ys.length) : Walk (Itz K a b) xs.length (fun H => SqL K H a xs ∧ SqL K H b ys) (YPair (fun i => xs[i]?) fun i => ys[i]?) :=
  ⟨fun i _ hi q => ⟨xs, ys, xs[i], ys[i], q.1, q.2, by simp [hi], by simp [← hl, hi]⟩, fun _ q => ⟨xs, ys, q.1, q.2, .inl (Nat.le_refl _)⟩, fun i H v H' _ q y => by
    obtain ⟨T, x, y, rfl, hT, rfl, f1, f2⟩ := y
    exact ⟨T, x, y, rfl, hT, rfl, f1 xs q.1, f2 ys q.2⟩⟩
end
section
variable {S : Addr → Prop} {I : Hp → Prop} {H : Hp} {J : It} {n : Nat} {G : Hp → Prop} {fx fy : Nat → Option V} {g : TG} {tt : TT} {te : TE} {vs : List Nat} {σ : L2.St} {Q : Addr → Hp → Prop}
theorem lcP (w : Walk J n G (YPair fx fy)) (m : Fm S I) (i0 : I H) (hG : ∀ H', Fx S I H H' → G H') (P : Nat → List V → Hp → Prop) (p0 : ∀ D, H D = none → P 0 [] (upd H D (.lst [])))
    (hs : ∀ D i T x y acc H', H D = none → i < n → fx i = some x → fy i = some y → Fx S I H H' → H' D = some (.lst acc) → acc.length ≤ i → P i acc H' → H' T = none → g (.ref T) (wipe σ vs) (upd H' T (.tup [x, y])) fun σ2 H2 => wipe σ2 vs = wipe σ vs ∧ tt σ2 H2 fun b H3 =>
      if b = true then te σ2 H3 fun y H4 => ∃ acc, H4 D = some (.lst acc) ∧ acc.length < sizeLine ∧ Cs S I H P D (i + 1) (upd H4 D (.lst (acc ++ [y]))) else Cs S I H P D (i + 1) H3)
    (q : ∀ D H' acc, H D = none → Fx S I H H' → H' D = some (.lst acc) → P n acc H' → Q D H') :
    ∀ D, H D = none → ∃ W : Nat → Nat → Hp → Prop, (∃ m, W 0 m (upd H D (.lst []))) ∧ ∀ i m H, W i m H →
      (J.stop i H ∧ Q D H) ∨ (J.go i H ∧ ∃ Nx : Hp → Prop, (∀ H', Nx H' → ∃ m', m' < m ∧ W (i + 1) m' H') ∧ ∀ x H', J.yld i H x H' → g x (wipe σ vs) H' fun σ2 H2 => wipe σ2 vs = wipe σ vs ∧ tt σ2 H2 fun b H3 =>
        if b = true then te σ2 H3 fun y H4 => ∃ acc, H4 D = some (.lst acc) ∧ acc.length < sizeLine ∧ Nx (upd H4 D (.lst (acc ++ [y]))) else Nx H3) := fun D hD =>
  lc_it w (Cs S I H P D) ⟨Fx.new m i0 hD, [], upd_same, Nat.le_refl _, p0 D hD⟩ (fun i H' _ p => hG H' p.1)
    (fun i x H' H'' hi p y => by
      obtain ⟨p1, acc, p2, p3, p4⟩ := p
      obtain ⟨T, x, y, rfl, hT, rfl, f1, f2⟩ := y
      exact hs D i T x y acc H' hD hi f1 f2 p1 p2 p3 p4 hT)
    (fun H' p => by
      obtain ⟨p1, acc, p2, p3, p4⟩ := p
      exact q D H' acc hD p1 p2 p4)
theorem for_P (w : Walk J n G (YPair fx fy)) {g : TG} {tb : TS} {D : Ends} {σ : L2.St} {H : Hp} (Pv : Nat → L2.St → Hp → Prop) (h0 : Pv 0 σ H) (hG : ∀ i σ H, i ≤ n → Pv i σ H → G H)
    (hs : ∀ i T x y σ H, i < n → fx i = some x → fy i = some y → Pv i σ H → H T = none → g (.ref T) σ (upd H T (.tup [x, y])) fun σ2 H2 => tb { D with nx := Pv (i + 1), ct := Pv (i + 1), bk := D.nx } σ2 H2) (hd : ∀ σ H, Pv n σ H → D.nx σ H) :
    ∃ W : Nat → Nat → L2.St → Hp → Prop, (∃ m, W 0 m σ H) ∧ ∀ i m σ H, W i m σ H →
      (J.stop i H ∧ D.nx σ H) ∨ (J.go i H ∧ ∃ N : L2.St → Hp → Prop, (∀ σ' H', N σ' H' → ∃ m', m' < m ∧ W (i + 1) m' σ' H') ∧ ∀ x H', J.yld i H x H' → g x σ H' fun σ2 H2 => tb { D with nx := N, ct := N, bk := D.nx } σ2 H2) :=
  for_it w Pv h0 hG (fun i v σ H H' hi p y => by
    obtain ⟨T, x, y, rfl, hT, rfl, f1, f2⟩ := y
    exact hs i T x y σ H hi f1 f2 p hT) hd
end
end Fr
set_option Elab.async false
set_option linter.all false
set_option maxRecDepth 100000
namespace Fr
open PySem PySem.Spec PyProof.Rows L2
section
variable {prog : Program} {w : World}
theorem meets_bool_own {a : Addr} : MeetsIn prog w (Builtin.«bool.__new__» ⟨[.type "bool", .ref a], []⟩) (fun A R s => wpAny (model prog w) A.in1 (truthy (.ref a)) (fun b s' => R (.ok (.ret (.bool b))) s') (fun e s' => R (.error e) s') s) :=
  fun A R s h => by
    have f1 := F.conv_sub_bool
    repeat (any_goals (first | assumption | (refine wpAny_bind (m := truthy (.ref a)) (wpAny_mono h (fun b s' hb => ?_) fun _ _ y => y)) | wp_step))
theorem call_bool_ref {A : Around} {E : Value → Shared → Prop} {s : Shared} {a : Addr} {Q : Value → Shared → Prop} (h : wpAny (model prog w) A.in1.in1 (truthy (.ref a)) (fun b s' => Q (.bool b) s') E s) :
    wpAny (model prog w) A (call (.type "bool") [.ref a]) Q E s :=
  callType_newIn F.called_bool F.newNe_bool (F.typeCall_bool_1 _) (F.newCall_bool_1 _) (fun obj => F.args_object_init_2 obj _) F.entry_bool_new meets_bool_own
    (wpAny_mono h (fun b s' q => ⟨rfl, q⟩) fun _ _ y => y)
end
section
variable {X : Cx} {CX : CXT} {C f : Addr} {fd : FuncData} {ps : List Str} {k : Nat} {sp : Sp} {E : XK}
theorem call_boolI (c : Meth X.K C "__bool__" f) (F : FnOk X.prog X.w X.K X.mg X.base CX k f fd ps sp) (hb : Binds X.K fd ps []) (hr : Room (k + 2) X.A) (hx : Passes CX X E) :
    CallR X (.type "bool") (fun xs H Q => ∃ a dx fs, xs = [.ref a] ∧ H a = some (.ins C dx fs) ∧ sp [.ref a] H (fun v H' => ∃ b, v = .bl b ∧ Q (.bl b) H') E) := by
  intro pins s σ H xs us Q I r h
  obtain ⟨a, dx, fs, rfl, ha, q⟩ := h
  obtain rfl := Vals.ref1 r
  obtain ⟨mA, J, _⟩ := ins_get I.hok ha
  obtain ⟨od, J, _⟩ := J.look
  obtain ⟨m, hF⟩ := I.fr
  have hl : [Value.ref a].length = ps.length := (F.len _ _ _ _ q)
  refine call_bool_ref (PySem.W.truthy_K hF I.ok.mod.kin J c.at_ c.fn ?_)
  refine wpAny_call (codeAny_mono (F.run X.A.in1.in1 X.stack s H ⟨[.ref a], []⟩ [.ref a] [.ref a] _ E hr.in1.in1 I.env0.in1.in1 (hb s [.ref a] I.kIn hl) (.cons rfl .nil) q) fun r s' hq => ?_)
  cases r with
  | error e => exact hx pins σ H s e s' I hq
  | ok fl =>
    cases fl with
    | ret u =>
      obtain ⟨v, H', I3, rv, b, rfl, q3⟩ := I.after hq
      cases (show u = Value.bool b from rv)
      exact ⟨.bl b, H', I3, rfl, q3⟩
    | next => exact False.elim hq
    | brk => exact False.elim hq
    | cont => exact False.elim hq
end
end Fr
set_option Elab.async false
set_option linter.all false
set_option maxRecDepth 100000
namespace Fr
open PySem PySem.Spec PyProof.Rows L2
theorem iter_anyT {prog : Program} {w : World} {A : Around} {E : Value → Shared → Prop} {s : Shared} {l : Addr} {items : Array Value} {Q : Value → Shared → Prop} (hl : s.heap.IsTuple l items)
    (h : ∀ s₂ : Shared, s₂ = { s with heap := s.heap.push { cls := .type "tuple_iterator", data := .fields #[.ref l, .int 0 0] } } →
      (s₂.heap.IsTupleIter s.heap.objs.size l 0 ∧ s₂.heap.IsTuple l items) → l ≠ s.heap.objs.size → Q (.ref s.heap.objs.size) s₂) : wpAny (model prog w) A (pyIter (.ref l)) Q E s := by
  have hlt : l < s.heap.objs.size := by obtain ⟨_, e, _⟩ := hl; exact Heap.lt_size e
  exact wpAny_pyIter_tuple hl (h _ rfl ⟨⟨_, Heap.get?_push_size _ rfl, rfl, rfl⟩, hl.push _⟩ (Nat.ne_of_lt hlt))
theorem ints_at : ∀ {us : List Value} {ns : List Int}, IntsAre us ns → ∀ (i : Nat) (v : Value), us[i]? = some v → ∃ n t, v = .int n t ∧ ns[i]? = some n
  | _, _, .nil, i, v, h => by simp at h
  | _, _, .cons n t r, 0, v, h => ⟨n, t, (Option.some.inj h).symm, rfl⟩
  | _, _, .cons n t r, i + 1, v, h => ints_at r i v h
theorem truth_ints {prog : Program} {w : World} {A : Around} {ns : List Int} {its : List Value} (e : IntsAre its ns) :
    TruthOf prog w A (fun i v => its.toArray[i]? = some v) (fun i => (ns.map (fun n => n != 0)).getD i false) := fun i v s Q E hv hq => by
  have hv' : its[i]? = some v := by simpa using hv
  obtain ⟨n, t, rfl, hn⟩ := ints_at e i v hv'
  have hg : (ns.map (fun n => n != 0)).getD i false = (n != 0) := by rw [List.getD_eq_getElem?_getD, List.getElem?_map, hn] <;> rfl
  have hq' : Q ((ns.map (fun n => n != 0)).getD i false) s := hq
  rw [hg] at hq'
  exact P.truthy_int hq'
section
variable {X : Cx}
def rAnyT (K : PySem.W.Frag) : List V → Hp → VK → Prop := fun vs H Q => ∃ (a : Addr) (ns : List Int), vs = [V.ref a] ∧ SqT K H a (ns.map V.int) ∧ Q (.bl (ns.any (fun n => n != 0))) H
theorem cr_anyT (hc : X.calm = true) : CallR X (.builtin "any") (rAnyT X.K) := by
  intro pins s σ H vs us Q I r h
  obtain ⟨a, ns, rfl, hs, q⟩ := h
  obtain ⟨its, rv, hl, _⟩ := I.tuple hs
  rw [Vals.ref1 r]
  have hb := Vals.ints rv
  have hl' : s.heap.IsTuple a its.toArray := by
    obtain ⟨o, e1, e2, n, e3⟩ := hl
    exact ⟨o, e1, e2, n, e3⟩
  have hlen : its.length = ns.length := by rw [← rv.length, List.length_map]
  refine call_any_walk (iter_anyT hl' fun s₂ e2 st hne => ?_)
  subst e2
  refine ⟨_, _, _, _, _, _, _, rfl, Walks.tuple (A := X.A.in1) (I.ok.hd hc) _ a hne its.toArray, st, truth_ints hb, fun h' tk hk => ?_⟩
  refine ⟨.bl _, H, I.kept fun b o eo => hk b o (fun hmem => ?_) (Heap.get?_push_of_some _ eo), ?_, q⟩
  · rcases List.mem_cons.mp hmem with e1 | hmem
    · exact absurd (e1 ▸ Heap.lt_size eo) (Nat.lt_irrefl _)
    · cases hmem
  · show Value.bool _ = Value.bool _
    have := any_range (ns.map (fun n => n != 0))
    rw [List.length_map] at this
    rw [List.size_toArray, hlen, this, List.any_map]
    rfl
end
end Fr
set_option Elab.async false
set_option linter.all false
set_option maxRecDepth 100000
namespace Fr
open PySem PySem.Spec PyProof.Rows L2
def Vat (c : Addr) (H : Hp) : Prop := ∃ x y z : Int, H c = some (.lst [.int x, .int y, .int z])
def Sv (c : Addr) : Addr → Prop := fun b => b = c
theorem fmV (c : Addr) : Fm (Sv c) (Vat c) := by
  constructor
  · intro H D i h e
    obtain ⟨x, y, z, q⟩ := i
    unfold Sv at e
    rw [e, q] at h
    cases h
  · intro H D o n i
    obtain ⟨x, y, z, q⟩ := i
    exact ⟨x, y, z, by rw [upd_ne (fun e => n e.symm)]; exact q⟩
abbrev Fv (c : Addr) : Hp → Hp → Prop := Fx (Sv c) (Vat c)
theorem vat_new {c l : Addr} {H : Hp} {o : HO} (hc : Vat c H) (hl : H l = none) : Vat c (upd H l o) := (fmV c).stay ((fmV c).fresh hc hl) hc
theorem fv_new {c l : Addr} {H : Hp} {o : HO} (hc : Vat c H) (hl : H l = none) : Fv c H (upd H l o) := Fx.new (fmV c) hc hl
theorem fv_ne {c l : Addr} {H : Hp} (hc : Vat c H) (hl : H l = none) : l ≠ c := (fmV c).fresh hc hl
theorem vat_ex {c : Addr} {H H' : Hp} (hc : Vat c H) (e : Ex0 H H') : Vat c H' := by
  obtain ⟨x, y, z, q⟩ := hc
  exact ⟨x, y, z, Ex0.ap e q⟩
theorem fv_ex {c : Addr} {H H' : Hp} (hc : Vat c H) (e : Ex0 H H') : Fv c H H' := ⟨vat_ex hc e, fun b o _ h => Ex0.ap e h⟩
theorem fv_tup {c a : Addr} {H H' : Hp} {xs : List V} (hc : Vat c H) (f : Fv c H H') (h : H a = some (.tup xs)) : H' a = some (.tup xs) := f.2 a _ (fun e => by
  obtain ⟨x, y, z, q⟩ := hc
  unfold Sv at e
  rw [e, q] at h
  cases h) h
theorem ex_fv {p : Addr} {H H1 H2 : Hp} (e : Ex0 H H1) (hp : H p = none) (f : Fv p H1 H2) : Ex0 H H2 := ⟨trivial, fun b o _ h => f.2 b o (fun z => by unfold Sv at z; rw [z, hp] at h; cases h) (Ex0.ap e h)⟩
theorem cut_map (ns : List Int) (lo hi : Option Int) : cutV (ns.map V.int) lo hi = ((ns.drop (HT.sIx (ns.map V.int).length 0 lo)).take (HT.sIx (ns.map V.int).length (ns.map V.int).length hi - HT.sIx (ns.map V.int).length 0 lo)).map V.int := by
  unfold cutV
  rw [← List.map_drop, ← List.map_take]
end Fr
set_option Elab.async false
set_option linter.all false
set_option maxRecDepth 100000
namespace Fr
open PySem PySem.Spec PyProof.Rows L2
@[reducible] def SqK (k : Bool) (K : PySem.W.Frag) (H : Hp) (a : Addr) (xs : List V) : Prop := match k with
  | true => SqT K H a xs
  | false => SqL K H a xs
@[reducible] def IterK (k : Bool) (h : Heap) (it l : Addr) (i : Nat) : Prop := match k with
  | true => h.IsTupleIter it l i
  | false => h.IsListIter it l i
@[reducible] def HasK (k : Bool) (h : Heap) (l : Addr) (items : Array Value) : Prop := match k with
  | true => h.IsTuple l items
  | false => h.IsList l items
theorem IterK.cell {k : Bool} {h : Heap} {it l : Addr} {i : Nat} (q : IterK k h it l i) : ∃ o, h.get? it = some o ∧ ∀ v, o.data ≠ .cell v := by
  cases k <;> obtain ⟨o, e, _, d⟩ := q <;> exact ⟨o, e, fun v z => by rw [d] at z; cases z⟩
theorem IterK.look {k : Bool} {h h' : Heap} {it l : Addr} {i : Nat} (q : IterK k h it l i) (e : ∀ o, h.get? it = some o → h'.get? it = some o) : IterK k h' it l i := by
  cases k
  · exact Heap.IsListIter.at q fun o z => e o z
  · exact Heap.IsTupleIter.at q fun o z => e o z
theorem drawsK {k : Bool} {prog : Program} {w : World} {A : Around} (hh : A.handled = none) (it l : Addr) (hne : l ≠ it) (items : Array Value) :
    Draws prog w A it [it, l] items.size (fun i v => items[i]? = some v) (fun i h => IterK k h it l i ∧ HasK k h l items) := by
  cases k
  · exact Draws.list hh it l hne items
  · exact Draws.tuple hh it l hne items
section
variable {X : Cx} {pins : List (Addr × Obj)} {σ : L2.St} {H : Hp} {s : Shared}
theorem hasK (I : Inv X pins σ H s) {k : Bool} {a : Addr} {xs : List V} (q : SqK k X.K H a xs) : ∃ its : List Value, Vals xs its ∧ HasK k s.heap a its.toArray ∧ a < s.heap.objs.size := by
  cases k
  · obtain ⟨its, rv, p, _⟩ := I.list q
    exact ⟨its, rv, p.isList, p.lt⟩
  · obtain ⟨its, rv, p, _⟩ := I.tuple q
    exact ⟨its, rv, p, by obtain ⟨o, e, _⟩ := id p; exact Heap.lt_size e⟩
theorem sqK_inj (I : Inv X pins σ H s) {k : Bool} {a : Addr} {xs ys : List V} (q : SqK k X.K H a xs) (r : SqK k X.K H a ys) : xs = ys := by
  cases k
  · exact I.list_inj q r
  · exact I.tuple_inj q r
end
def ItzK (K : PySem.W.Frag) (k1 k2 : Bool) (a b : Addr) : It where
  go := fun i H => ∃ (xs ys : List V) (x y : V), SqK k1 K H a xs ∧ SqK k2 K H b ys ∧ xs[i]? = some x ∧ ys[i]? = some y
  yld := fun i H v H' => ∃ T x y, v = .ref T ∧ H T = none ∧ H' = upd H T (.tup [x, y]) ∧ (∀ xs, SqK k1 K H a xs → xs[i]? = some x) ∧ ∀ ys, SqK k2 K H b ys → ys[i]? = some y
  stop := fun i H => ∃ xs ys : List V, SqK k1 K H a xs ∧ SqK k2 K H b ys ∧ xs.length = i ∧ ys.length = i
theorem in5 {c z TI TO i1 i2 : Addr} (h : c ∈ [z, TI, TO, i1, i2]) : c = z ∨ c = TI ∨ c = TO ∨ c = i1 ∨ c = i2 := by simpa using h
theorem turn_zipK {P : Program} {w : World} {K : PySem.W.Frag} {elts : List Expr} {kk : Nat} {tpos : Pos} {k1 k2 : Bool} {a b z TI TO i1 i2 : Addr} (S : ZipSep2 z TI TO i1 i2 [i1, a] [i2, b]) (na : a ≠ i1) (nb : b ≠ i2) :
    Turn P w K (.Tuple elts kk tpos) (ItzK K k1 k2 a b) [z, TI, TO, i1, i2] z (fun i h => IsZip h z TI TO .none ∧ IsTupOf2 h TI (.ref i1) (.ref i2) ∧ (∃ x y, IsTupOf2 h TO x y) ∧ IterK k1 h i1 a i ∧ IterK k2 h i2 b i) where
  mem := by simp
  obj := fun i h st c hc => by
    obtain ⟨hz, hTI, ⟨x, y, hTO⟩, q1, q2⟩ := st
    rcases in5 hc with q | q | q | q | q <;> rw [q]
    · exact ⟨_, hz, fun v q => nomatch q⟩
    · exact ⟨_, hTI, fun v q => nomatch q⟩
    · exact ⟨_, hTO, fun v q => nomatch q⟩
    · exact q1.cell
    · exact q2.cell
  keep := fun i h h' st kp => by
    obtain ⟨hz, hTI, ⟨x, y, hTO⟩, q1, q2⟩ := st
    exact ⟨kp z (by simp) _ hz, kp TI (by simp) _ hTI, ⟨x, y, kp TO (by simp) _ hTO⟩, q1.look fun o q => kp i1 (by simp) o q, q2.look fun o q => kp i2 (by simp) o q⟩
  item := by
    intro X hP hw hK hc i pins s σ H E I hf st hg
    subst hP hw hK
    obtain ⟨hz, hTI, ⟨x0, y0, hTO⟩, q1, q2⟩ := st
    obtain ⟨xs, ys, x, y, hqx, hqy, hx, hy⟩ := hg
    obtain ⟨its1, rv1, p1, _⟩ := hasK I hqx
    obtain ⟨its2, rv2, p2, _⟩ := hasK I hqy
    obtain ⟨u1, hu1, ru1⟩ := rv1.get hx
    obtain ⟨u2, hu2, ru2⟩ := rv2.get hy
    have hzl : z < s.heap.objs.size := Heap.lt_size hz
    have D1 := drawsK (k := k1) (prog := X.prog) (w := X.w) (A := X.A.in1) (I.ok.hd hc) i1 a na its1.toArray
    have D2 := drawsK (k := k2) (prog := X.prog) (w := X.w) (A := X.A.in1) (I.ok.hd hc) i2 b nb its2.toArray
    have l1 : i < its1.toArray.size := by
      have := (List.getElem?_eq_some_iff.mp hu1).1
      simpa using this
    have l2 : i < its2.toArray.size := by
      have := (List.getElem?_eq_some_iff.mp hu2).1
      simpa using this
    refine wpAny_pyNext_zipD2_item S D1 D2 hz hTI hTO ⟨q1, p1⟩ ⟨q2, p2⟩ l1 l2 fun y1 y2 h' tk e1 e2 z' TO' st1 st2 hT hsz hk => ?_
    obtain rfl : u1 = y1 := by
      have a1 : its1.toArray[i]? = some u1 := by simpa using hu1
      have a2 : its1.toArray[i]? = some y1 := e1
      rw [a1] at a2
      exact Option.some.inj a2
    obtain rfl : u2 = y2 := by
      have a1 : its2.toArray[i]? = some u2 := by simpa using hu2
      have a2 : its2.toArray[i]? = some y2 := e2
      rw [a1] at a2
      exact Option.some.inj a2
    refine ⟨_, rfl, wpAny_letOwnedTupleGo_zip (s := { s with heap := h', toks := tk }) z' fun h'' z'' sb => ?_⟩
    have hT2 : h''.get? s.heap.objs.size = some { cls := .type "tuple", data := .seq #[u1, u2] } := (sb.2 _ (Nat.ne_of_gt hzl)).trans hT
    have new : ObjOk X.prog X.w (upd H s.heap.objs.size (.tup [x, y])) h'' s.heap.objs.size (.tup [x, y]) :=
      ⟨by show 2 ≤ sizeLine; decide, [u1, u2], .cons ru1 (.cons ru2 .nil), ⟨_, hT2, rfl, _, rfl⟩⟩
    have I1 : Inv X pins σ (upd H s.heap.objs.size (.tup [x, y])) { s with heap := h'', toks := tk } :=
      I.turnedNew (ch := [z, TI, TO, i1, i2]) (fun c o hb q => (sb.2 c (fun e => hb (by simp [e]))).trans (hk c o (fun e => hb (by simp [e])) (fun e => hb (by simp [e])) (fun e => hb (by simp [e])) (fun e => hb (by simp [e])) q)) hf (Nat.le_refl _) new
    refine ⟨.ref s.heap.objs.size, _, I1, rfl, ⟨_, x, y, rfl, I.hok.fresh (Nat.le_refl _), rfl, fun l hl => by rw [sqK_inj I hl hqx]; exact hx, fun l hl => by rw [sqK_inj I hl hqy]; exact hy⟩, ⟨z'', ?_, ⟨u1, u2, ?_⟩, ?_, ?_⟩, fun c hcm => ?_⟩
    · exact (sb.2 _ S.TIz).trans (hk _ _ S.TIz S.TITO S.TIi1 S.TIi2 hTI)
    · exact (sb.2 _ S.TOz).trans TO'
    · exact st1.1.look fun o q => (sb.2 _ (Ne.symm S.zi1)).trans q
    · exact st2.1.look fun o q => (sb.2 _ (Ne.symm S.zi2)).trans q
    · have hlt : c < s.heap.objs.size := by
        rcases in5 hcm with q | q | q | q | q <;> rw [q]
        · exact hzl
        · exact Heap.lt_size hTI
        · exact Heap.lt_size hTO
        · obtain ⟨_, e, _⟩ := q1.cell; exact Heap.lt_size e
        · obtain ⟨_, e, _⟩ := q2.cell; exact Heap.lt_size e
      rw [upd_ne (Nat.ne_of_lt hlt)]
      exact (hf c hcm).1
  done := by
    intro X hP hw hK hc i pins s σ H E I hf st hg
    subst hP hw hK
    obtain ⟨hz, hTI, ⟨x0, y0, hTO⟩, q1, q2⟩ := st
    obtain ⟨xs, ys, hqx, hqy, ex, ey⟩ := hg
    obtain ⟨its1, rv1, p1, _⟩ := hasK I hqx
    obtain ⟨its2, rv2, p2, _⟩ := hasK I hqy
    have D1 := drawsK (k := k1) (prog := X.prog) (w := X.w) (A := X.A.in1) (I.ok.hd hc) i1 a na its1.toArray
    have D2 := drawsK (k := k2) (prog := X.prog) (w := X.w) (A := X.A.in1) (I.ok.hd hc) i2 b nb its2.toArray
    have l1 : its1.toArray.size = i := by have := rv1.length; simp; omega
    have l2 : its2.toArray.size = i := by have := rv2.length; simp; omega
    exact wpAny_pyNext_zipD2_end S D1 D2 hz hTI hTO ⟨q1, p1⟩ ⟨q2, p2⟩ (by omega) (by omega) (.inl (by omega)) fun h' tk hk => ⟨rfl, I.turnedL (ch := [z, TI, TO, i1, i2]) (fun c o hb q =>
      hk c o (fun e => hb (by simp [e])) (fun e => hb (by simp [e])) (fun e => hb (by simp [e])) (fun e => hb (by simp [e])) q) hf⟩
  self := fun A i s Q E st h => wpAny_pyIter_zip st.1 h
def iZipK (K : PySem.W.Frag) (k1 k2 : Bool) (ta : TA) : TI := fun σ H R => ta σ H fun vs H1 => ∃ a b xs ys, vs = [.ref a, .ref b] ∧ SqK k1 K H1 a xs ∧ SqK k2 K H1 b ys ∧ R (ItzK K k1 k2 a b) H1
theorem pi_zipK (k1 k2 : Bool) {X : Cx} {e e2 : Expr} {ta : TA} {p pos tpos : Pos} {elts : List Expr} {kk : Nat} (hg : Gl X "zip") (hm : X.mg "zip" = none) (ha : PA X [e, e2] ta)
    (hs : starEach [e, e2] X.env = (false, eval e X.env) :: starEach [e2] X.env := by rfl) (hpl : (backTo pos (starEach [e2] X.env)).any (·.1) = false := by rfl) :
    PI X (.Tuple elts kk tpos) (.Call (.Name "zip" p) [e, e2] [] pos) (iZipK X.K k1 k2 ta) := by
  refine ⟨fun pins s σ H R I h => Call_ (ld_blt I hg hm PyProof.Rows.boot_zip (PyProof.Rows.callWith_type1 (thn (ha.run pos pins s σ H _ I h) fun us s1 ⟨vs, H1, I1, r1, a, b, xs, ys, ex, hqx, hqy, q⟩ => ?_) hs hpl))⟩
  subst ex
  cases r1 with
  | cons r rr =>
    cases rr with
    | cons r' rr =>
      cases rr
      cases r
      cases r'
      obtain ⟨its1, rv1, p1, b1⟩ := hasK I1 hqx
      obtain ⟨its2, rv2, p2, b2⟩ := hasK I1 hqy
      generalize hn : s1.heap.objs.size = n at b1 b2
      have fin : ∀ h', IsZip h' (n + 4) (n + 2) (n + 3) .none → IsTupOf2 h' (n + 2) (.ref n) (.ref (n + 1)) → IsTupOf2 h' (n + 3) .none .none → IterK k1 h' n a 0 → IterK k2 h' (n + 1) b 0 →
          (∀ c o, s1.heap.get? c = some o → h'.get? c = some o) → wpAny (model X.prog X.w) X.A (pyIter (.ref (n + 4))) (PIE X pins σ (.Tuple elts kk tpos) R) X.xe { s1 with heap := h' } := fun h' hz hTI hTO h1 h2 hk => by
        refine wpAny_pyIter_zip hz ?_
        have I2 : Inv X pins σ H1 { s1 with heap := h' } := I1.kept (t' := s1.toks) hk
        have S : ZipSep2 (n + 4) (n + 2) (n + 3) n (n + 1) [n, a] [n + 1, b] := by
          have a1 : ∀ j : Nat, (n + j : Nat) ≠ a := fun j e => Nat.lt_irrefl n (Nat.lt_of_le_of_lt (Nat.le_add_right n j) (by rw [e]; exact b1))
          have a2 : ∀ j : Nat, (n + j : Nat) ≠ b := fun j e => Nat.lt_irrefl n (Nat.lt_of_le_of_lt (Nat.le_add_right n j) (by rw [e]; exact b2))
          have q : ∀ i j : Nat, i ≠ j → (n + i : Nat) ≠ n + j := fun i j h e => h (by omega)
          have o2 : ∀ {x y z : Addr}, x ≠ y → x ≠ z → x ∉ [y, z] := fun h1 h2 h => by simp [h1, h2] at h
          exact ⟨q 2 4 (by decide), q 3 4 (by decide), q 2 3 (by decide), q 2 0 (by decide), by simp, o2 (q 4 0 (by decide)) (a1 4), o2 (q 3 0 (by decide)) (a1 3), q 2 1 (by decide), by simp, o2 (q 4 1 (by decide)) (a2 4), o2 (q 3 1 (by decide)) (a2 3), o2 (q 0 1 (by decide)) (a2 0), o2 (q 1 0 (by decide)) (a1 1)⟩
        refine ⟨n + 4, [n + 4, n + 2, n + 3, n, n + 1], _, ItzK X.K k1 k2 a b, H1, rfl, I2, turn_zipK S (Nat.ne_of_lt b1) (Nat.ne_of_lt (Nat.lt_succ_of_lt b2)), ⟨hz, hTI, ⟨_, _, hTO⟩, h1, h2⟩, fun c hcm => ?_, q⟩
        have hle : s1.heap.objs.size ≤ c := by
          rcases in5 hcm with z | z | z | z | z <;> rw [z] <;> omega
        exact I1.fpOk hle (I1.hok.fresh hle)
      subst hn
      cases k1 <;> cases k2
      · exact zip_begins2 (begins_list a its1.toArray) (begins_list b its2.toArray) p1 p2 fun h' hz hTI hTO h1 h2 _ hk => fin h' hz hTI hTO ⟨_, h1, rfl, rfl⟩ ⟨_, h2, rfl, rfl⟩ hk
      · exact zip_begins2 (begins_list a its1.toArray) (begins_tuple b its2.toArray) p1 p2 fun h' hz hTI hTO h1 h2 _ hk => fin h' hz hTI hTO ⟨_, h1, rfl, rfl⟩ ⟨_, h2, rfl, rfl⟩ hk
      · exact zip_begins2 (begins_tuple a its1.toArray) (begins_list b its2.toArray) p1 p2 fun h' hz hTI hTO h1 h2 _ hk => fin h' hz hTI hTO ⟨_, h1, rfl, rfl⟩ ⟨_, h2, rfl, rfl⟩ hk
      · exact zip_begins2 (begins_tuple a its1.toArray) (begins_tuple b its2.toArray) p1 p2 fun h' hz hTI hTO h1 h2 _ hk => fin h' hz hTI hTO ⟨_, h1, rfl, rfl⟩ ⟨_, h2, rfl, rfl⟩ hk
theorem walk_zipK {K : PySem.W.Frag} {k1 k2 : Bool} {a b : Addr} {xs ys : List V} (hl : xs.length = ys.length) : Walk (ItzK K k1 k2 a b) xs.length (fun H => SqK k1 K H a xs ∧ SqK k2 K H b ys) (YPair (fun i => xs[i]?) fun i => ys[i]?) :=
  ⟨fun i _ hi q => ⟨xs, ys, xs[i], ys[i], q.1, q.2, by simp [hi], by simp [← hl, hi]⟩, fun _ q => ⟨xs, ys, q.1, q.2, rfl, hl.symm⟩, fun i H v H' _ q y => by
    obtain ⟨T, x, y, rfl, hT, rfl, f1, f2⟩ := y
    exact ⟨T, x, y, rfl, hT, rfl, f1 xs q.1, f2 ys q.2⟩⟩
end Fr
set_option Elab.async false
set_option linter.all false
set_option maxRecDepth 100000
namespace Fr
open PySem PySem.Spec PyProof.Rows L2
def addAt (l : List Int) (k : Nat) (v : Int) : List Int := l.set k (l.getD k 0 + v)
def rowN (l : List Int) (k : Nat) (x : Int) (ys : List Int) : Nat → List Int
  | 0 => l
  | j + 1 => addAt (rowN l k x ys j) (k + j) (x * ys.getD j 0)
def prodN (xs ys : List Int) : Nat → List Int
  | 0 => List.replicate (xs.length + ys.length - 1) 0
  | i + 1 => rowN (prodN xs ys i) i (xs.getD i 0) ys ys.length
def prodL (xs ys : List Int) : List Int := prodN xs ys xs.length
theorem addAt_len (l : List Int) (k : Nat) (v : Int) : (addAt l k v).length = l.length := by unfold addAt; rw [List.length_set]
theorem rowN_len (l : List Int) (k : Nat) (x : Int) (ys : List Int) : ∀ j, (rowN l k x ys j).length = l.length
  | 0 => rfl
  | j + 1 => by rw [rowN, addAt_len, rowN_len l k x ys j]
theorem prodN_len (xs ys : List Int) : ∀ i, (prodN xs ys i).length = xs.length + ys.length - 1
  | 0 => by rw [prodN, List.length_replicate]
  | i + 1 => by rw [prodN, rowN_len, prodN_len xs ys i]
theorem prodL_len (xs ys : List Int) : (prodL xs ys).length = xs.length + ys.length - 1 := prodN_len xs ys _
theorem gD_mem {l : List Int} {k : Nat} (h : k < l.length) : l.getD k 0 ∈ l := by
  rw [List.getD_eq_getElem?_getD, List.getElem?_eq_getElem h]
  exact List.getElem_mem h
theorem getD_le {l : List Int} {m : Nat} (h : ∀ z ∈ l, z.natAbs ≤ m) (k : Nat) : (l.getD k 0).natAbs ≤ m := by
  by_cases hk : k < l.length
  · exact h _ (gD_mem hk)
  · rw [List.getD_eq_getElem?_getD, List.getElem?_eq_none (by omega)]
    exact Nat.zero_le _
theorem rowN_le {l : List Int} {k : Nat} {x : Int} {ys : List Int} {m M : Nat} (h : ∀ z ∈ l, z.natAbs ≤ m) (hy : ∀ y ∈ ys, (x * y).natAbs ≤ M) : ∀ j, j ≤ ys.length → ∀ z ∈ rowN l k x ys j, z.natAbs ≤ m + j * M
  | 0, _ => fun z hz => by have := h z hz; omega
  | j + 1, hj => fun z hz => by
    have ih := rowN_le (k := k) h hy j (by omega)
    have e : (j + 1) * M = j * M + M := by rw [Nat.add_mul, Nat.one_mul]
    rw [rowN] at hz
    unfold addAt at hz
    rcases List.mem_or_eq_of_mem_set hz with q | rfl
    · have := ih z q
      omega
    · have h1 := getD_le ih (k + j)
      have h2 := hy _ (gD_mem (show j < ys.length by omega))
      omega
theorem prodN_le {xs ys : List Int} {M : Nat} (h : ∀ x ∈ xs, ∀ y ∈ ys, (x * y).natAbs ≤ M) : ∀ i, i ≤ xs.length → ∀ z ∈ prodN xs ys i, z.natAbs ≤ i * (ys.length * M)
  | 0, _ => fun z hz => by
    rw [prodN] at hz
    rw [List.eq_of_mem_replicate hz]
    exact Nat.zero_le _
  | i + 1, hi => fun z hz => by
    have ih := prodN_le h i (by omega)
    have e : (i + 1) * (ys.length * M) = i * (ys.length * M) + ys.length * M := by rw [Nat.add_mul, Nat.one_mul]
    rw [prodN] at hz
    rw [e]
    exact rowN_le ih (fun y hy => h _ (gD_mem (by omega)) y hy) _ (Nat.le_refl _) z hz
theorem prodL_B {xs ys : List Int} {a b : Nat} (ha : ∀ x ∈ xs, B a x) (hb : ∀ y ∈ ys, B b y) (hp : 0 < a) : ∀ z ∈ prodL xs ys, B (a + b + xs.length * ys.length) z := fun z hz => by
  have h1 := prodN_le (M := 2 ^ (a + b)) (fun x hx y hy => Nat.le_of_lt (B.mul (ha x hx) (hb y hy)).1) xs.length (Nat.le_refl _) z hz
  refine ⟨?_, by omega⟩
  rw [← Nat.mul_assoc] at h1
  rw [Nat.pow_add 2 (a + b), Nat.mul_comm]
  exact Nat.lt_of_le_of_lt h1 (Nat.mul_lt_mul_of_pos_right Nat.lt_two_pow_self (Nat.two_pow_pos _))
theorem get_map {l : List Int} {k : Nat} (h : k < l.length) : (l.map V.int)[k]? = some (V.int (l.getD k 0)) := by
  rw [List.getElem?_map, List.getElem?_eq_getElem h, List.getD_eq_getElem?_getD, List.getElem?_eq_getElem h]
  rfl
theorem get_D {l : List Int} {k : Nat} {y : V} (h : (l.map V.int)[k]? = some y) : y = V.int (l.getD k 0) ∧ k < l.length := by
  have hk : k < l.length := by
    have := (List.getElem?_eq_some_iff.mp h).1
    rwa [List.length_map] at this
  rw [get_map hk] at h
  exact ⟨(Option.some.inj h).symm, hk⟩
theorem zeros (m : Nat) : (List.replicate m [V.int 0]).flatten = (List.replicate m (0 : Int)).map V.int := by
  induction m with
  | zero => rfl
  | succ m ih => rw [List.replicate_succ, List.replicate_succ, List.flatten_cons, ih]; rfl
def valN (xs : List Int) (x y : Int) : Nat → Int × Int
  | 0 => (0, 1)
  | i + 1 => ((valN xs x y i).1 * x + xs.getD i 0 * (valN xs x y i).2, (valN xs x y i).2 * y)
theorem valN_B {xs : List Int} {x y : Int} (hx : B 200 x) (hy : B 200 y) (h : ∀ z ∈ xs, B 200 z) : ∀ i, i ≤ 8 → B (1 + 3000 * i) (valN xs x y i).1 ∧ B (1 + 200 * i) (valN xs x y i).2
  | 0, _ => ⟨⟨by show (0 : Int).natAbs < 2 ^ 1; decide, by decide⟩, ⟨by show (1 : Int).natAbs < 2 ^ 1; decide, by decide⟩⟩
  | i + 1, hi => by
    obtain ⟨h1, h2⟩ := valN_B hx hy h i (by omega)
    have h3 : B 200 (xs.getD i 0) := ⟨Nat.lt_of_le_of_lt (getD_le (m := 2 ^ 200 - 1) (fun z hz => Nat.le_sub_one_of_lt (h z hz).1) i) (by decide), by decide⟩
    rw [valN]
    exact ⟨(B.add (B.mul h1 hx) (B.mul h3 h2)).mono (by omega), (B.mul h2 hy).mono (by omega)⟩
def partN (n : Nat) (e p q r s : Int) (i : Nat) : Nat → List Int
  | 0 => [e]
  | t + 1 => prodL (partN n e p q r s i t) (if (0 : Int) + (t : Int) < ((n : Int) - 1) - (i : Int) then [p, r] else [q, s])
def putN (row : List Int) (p q r s : Int) : Nat → List Int
  | 0 => List.replicate row.length 0
  | i + 1 => List.zipWith (· + ·) (putN row p q r s i) (partN row.length (row.getD i 0) p q r s i (row.length - 1))
theorem partN_len (n : Nat) (e p q r s : Int) (i : Nat) : ∀ t, (partN n e p q r s i t).length = t + 1
  | 0 => rfl
  | t + 1 => by
    rw [partN, prodL_len, partN_len n e p q r s i t]
    split <;> rfl
theorem partN_B {n : Nat} {e p q r s : Int} {i : Nat} (he : B 400 e) (hp : B 400 p) (hq : B 400 q) (hr : B 400 r) (hs : B 400 s) : ∀ t, t ≤ 10 → ∀ z ∈ partN n e p q r s i t, B (400 + 500 * t) z
  | 0, _ => fun z hz => by
    rw [partN] at hz
    have : z = e := by simpa using hz
    rw [this]
    exact he
  | t + 1, ht => fun z hz => by
    have ih := partN_B (n := n) (i := i) he hp hq hr hs t (by omega)
    rw [partN] at hz
    refine B.mono (prodL_B (a := 400 + 500 * t) (b := 400) ih (fun y hy => ?_) (by omega) z hz) ?_
    · split at hy <;> simp only [List.mem_cons, List.mem_nil_iff, or_false] at hy <;> rcases hy with rfl | rfl <;> assumption
    · rw [partN_len]
      split <;> simp <;> omega
theorem putN_len (row : List Int) (p q r s : Int) (h : row ≠ []) : ∀ i, (putN row p q r s i).length = row.length
  | 0 => by rw [putN, List.length_replicate]
  | i + 1 => by
    have := List.length_pos_iff.mpr h
    rw [putN, List.length_zipWith, putN_len row p q r s h i, partN_len]
    omega
theorem mem_zip {xs ys : List Int} {z : Int} (h : z ∈ List.zipWith (· + ·) xs ys) : ∃ x ∈ xs, ∃ y ∈ ys, z = x + y := by
  obtain ⟨k, hk, e⟩ := List.getElem_of_mem h
  rw [List.getElem_zipWith] at e
  rw [List.length_zipWith] at hk
  exact ⟨_, List.getElem_mem (by omega), _, List.getElem_mem (by omega), e.symm⟩
theorem putN_B {row : List Int} {p q r s : Int} (h : ∀ e ∈ row, B 400 e) (hl : row.length ≤ 11) (hp : B 400 p) (hq : B 400 q) (hr : B 400 r) (hs : B 400 s) : ∀ i, i ≤ row.length → ∀ z ∈ putN row p q r s i, B (1 + 6000 * i) z
  | 0, _ => fun z hz => by
    rw [putN] at hz
    rw [List.eq_of_mem_replicate hz]
    exact ⟨by decide, by decide⟩
  | i + 1, hi => fun z hz => by
    rw [putN] at hz
    obtain ⟨u, hu, v, hv, rfl⟩ := mem_zip hz
    exact (B.add (putN_B h hl hp hq hr hs i (by omega) u hu) (partN_B (h _ (gD_mem (by omega))) hp hq hr hs _ (by omega) v hv)).mono (by omega)
end Fr
set_option Elab.async false
set_option linter.all false
set_option maxRecDepth 100000
namespace Fr
open PySem PySem.Spec PyProof.Rows L2
def CDivNW (_ j : Int) : Prop := j ≠ 0 ∧ j.natAbs.log2 < 9000
theorem op_fdivNW {X : Cx} : OpR X (binaryOp .FloorDiv) (rI CDivNW fun i j => .int (i.fdiv j)) := opI fun _ _ _ _ _ _ _ hc q => floordiv_int hc.1 q (.inl (PyProof.noPylong_of_log2 hc.2))
structure Bz (M : Nat) (p q one other u v u' v' : Int) : Prop where
  o : 0 ≤ other
  pos : 0 ≤ one ∨ (u = 1 ∧ u' = 0)
  e1 : u * p + v * q = one
  e2 : u' * p + v' * q = other
  d : one * u' - other * u = q ∨ one * u' - other * u = -q
  s : (0 ≤ u ∧ u' ≤ 0) ∨ (u ≤ 0 ∧ 0 ≤ u')
  bu : u.natAbs ≤ q.natAbs + 1
  bu' : u'.natAbs ≤ q.natAbs + 1
  g : Nat.gcd one.natAbs other.natAbs = 1
  b1 : one.natAbs ≤ M
  b2 : other.natAbs ≤ M
  z : q = 0 → other = 0 ∧ v = 0
theorem Bz.init {M : Nat} {p q : Int} (hq : 0 ≤ q) (g : Nat.gcd p.natAbs q.natAbs = 1) (h1 : p.natAbs ≤ M) (h2 : q.natAbs ≤ M) : Bz M p q p q 1 0 0 1 :=
  ⟨hq, .inr ⟨rfl, rfl⟩, by simp, by simp, .inr (by simp), .inl ⟨by decide, by decide⟩, by show 1 ≤ _; omega, by show 0 ≤ _; omega, g, h1, h2, fun h => ⟨h, rfl⟩⟩
theorem Bz.step {M : Nat} {p q one other u v u' v' : Int} (h : Bz M p q one other u v u' v') (ho : other ≠ 0) :
    Bz M p q other (one - one / other * other) u' v' (u - one / other * u') (v - one / other * v') ∧ (one - one / other * other).toNat < other.toNat := by
  have o0 : 0 < other := by have := h.o; omega
  have hr : one - one / other * other = one % other := by
    have := Int.emod_add_mul_ediv one other
    rw [Int.mul_comm other] at this
    omega
  have r0 := Int.emod_nonneg one ho
  have r1 := Int.emod_lt_of_pos one o0
  have s' : (0 ≤ u' ∧ u - one / other * u' ≤ 0) ∨ (u' ≤ 0 ∧ 0 ≤ u - one / other * u') := by
    rcases h.pos with hp | ⟨rfl, rfl⟩
    · have t0 : 0 ≤ one / other := Int.ediv_nonneg hp h.o
      rcases h.s with ⟨a, b⟩ | ⟨a, b⟩
      · right
        have := Int.mul_nonneg t0 (show 0 ≤ -u' by omega)
        rw [Int.mul_neg] at this
        exact ⟨b, by omega⟩
      · left
        have := Int.mul_nonneg t0 b
        exact ⟨b, by omega⟩
    · right
      simp
  have dd : other * (u - one / other * u') - (one - one / other * other) * u' = -(one * u' - other * u) := by grind
  have d' : other * (u - one / other * u') - (one - one / other * other) * u' = q ∨ other * (u - one / other * u') - (one - one / other * other) * u' = -q := by
    rw [dd]
    rcases h.d with e | e <;> rw [e]
    · exact .inr rfl
    · exact .inl (by omega)
  have bu'' : (u - one / other * u').natAbs ≤ q.natAbs + 1 := by
    rw [hr] at d'
    generalize u - one / other * u' = w at *
    have k1 : other * w - (one % other) * u' = q ∨ other * w - (one % other) * u' = -q := d'
    rcases s' with ⟨a, b⟩ | ⟨a, b⟩
    · have m1 := Int.mul_nonneg r0 a
      have m2 := Int.mul_le_mul_of_nonneg_right (show (1 : Int) ≤ other by omega) (show 0 ≤ -w by omega)
      rw [Int.one_mul, Int.mul_neg] at m2
      omega
    · have m1 := Int.mul_nonneg r0 (show 0 ≤ -u' by omega)
      have m2 := Int.mul_le_mul_of_nonneg_right (show (1 : Int) ≤ other by omega) b
      rw [Int.one_mul] at m2
      rw [Int.mul_neg] at m1
      omega
  have gg : Nat.gcd other.natAbs (one - one / other * other).natAbs = 1 := by
    have h1 : Nat.gcd other.natAbs (one - one / other * other).natAbs ∣ other.natAbs := Nat.gcd_dvd_left _ _
    have h2 : Nat.gcd other.natAbs (one - one / other * other).natAbs ∣ (one - one / other * other).natAbs := Nat.gcd_dvd_right _ _
    generalize Nat.gcd other.natAbs (one - one / other * other).natAbs = k at *
    have i1 := Int.ofNat_dvd_left.mpr h1
    have i2 := Int.ofNat_dvd_left.mpr h2
    have i3 : (k : Int) ∣ one := by
      have := Int.dvd_add i2 (Int.dvd_mul_of_dvd_right i1 (b := one / other))
      rwa [show one - one / other * other + one / other * other = one by omega] at this
    have i4 : k ∣ Nat.gcd one.natAbs other.natAbs := Nat.dvd_gcd (Int.ofNat_dvd_left.mp i3) h1
    rw [h.g] at i4
    exact Nat.dvd_one.mp i4
  refine ⟨⟨by rw [hr]; exact r0, .inl h.o, h.e2, ?_, d', s', h.bu', bu'', gg, h.b2, ?_, fun z => absurd (h.z z).1 ho⟩, ?_⟩
  · have a := h.e1
    have b := h.e2
    generalize one / other = t at *
    rw [← a, ← b]
    grind
  · rw [hr]
    have := h.b2
    omega
  · rw [hr]
    omega
theorem Bz.fin {M : Nat} {p q one u v u' v' : Int} (h : Bz M p q one 0 u v u' v') (hp : p.natAbs ≤ M) : (p * u - q * (0 - v) = 1 ∨ p * u - q * (0 - v) = -1) ∧ u.natAbs ≤ q.natAbs + 1 ∧ v.natAbs ≤ M + (q.natAbs + 1) * M := by
  have g := h.g
  rw [show (0 : Int).natAbs = 0 from rfl, Nat.gcd_zero_right] at g
  have e := h.e1
  refine ⟨?_, h.bu, ?_⟩
  · have : p * u - q * (0 - v) = one := by rw [← e]; grind
    rw [this]
    omega
  · by_cases hq : q = 0
    · rw [(h.z hq).2]
      exact Nat.zero_le _
    · have h1 : v.natAbs ≤ (v * q).natAbs := by
        rw [Int.natAbs_mul]
        exact Nat.le_mul_of_pos_right _ (by omega)
      have h2 : v * q = one - u * p := by omega
      have h3 : (u * p).natAbs ≤ (q.natAbs + 1) * M := by
        rw [Int.natAbs_mul]
        exact Nat.mul_le_mul h.bu hp
      have h4 := h.b1
      rw [h2] at h1
      omega
theorem Bz.bv {M : Nat} {p q one other u v u' v' : Int} (h : Bz M p q one other u v u' v') (ho : other ≠ 0) (hp : p.natAbs ≤ M) : v'.natAbs ≤ M + (q.natAbs + 1) * M := by
  have hq : q ≠ 0 := fun z => ho (h.z z).1
  have e := h.e2
  have h1 : v'.natAbs ≤ (v' * q).natAbs := by
    rw [Int.natAbs_mul]
    exact Nat.le_mul_of_pos_right _ (by omega)
  have h2 : v' * q = other - u' * p := by omega
  have h3 : (u' * p).natAbs ≤ (q.natAbs + 1) * M := by
    rw [Int.natAbs_mul]
    exact Nat.mul_le_mul h.bu' hp
  have h4 := h.b2
  rw [h2] at h1
  omega
end Fr
set_option Elab.async false
set_option linter.all false
set_option maxRecDepth 100000
namespace Fr
open PySem PySem.Spec PyProof.Rows L2
@[reducible] def Itk (K : PySem.W.Frag) (k : Bool) (a : Addr) : It := match k with
  | true => Itt K a
  | false => Itl K a
theorem or_slot {K : PySem.W.Frag} {k : Bool} {a : Addr} {xs : List V} {i : Nat} {σ : L2.St} {H : Hp} {R : It → Hp → Prop} (e : σ[i]? = some (some (.ref a))) (h : SqK k K H a xs) (z : R (Itk K k a) H) :
    iList K (tVar i) σ H R ∨ iTup K (tVar i) σ H R := by
  cases k
  · exact .inl ⟨_, e, a, rfl, ⟨xs, h⟩, z⟩
  · exact .inr ⟨_, e, a, rfl, ⟨xs, h⟩, z⟩
section
variable {K : PySem.W.Frag} {k : Bool} {a : Addr} {xs : List V} {g : TG} {tb : TS} {D : Ends} {σ : L2.St} {H : Hp}
theorem for_K (J : Nat → L2.St → Hp → Prop) (start : J 0 σ H) (stays : ∀ i σ H, i ≤ xs.length → J i σ H → SqK k K H a xs)
    (turn : ∀ i x σ H, xs[i]? = some x → J i σ H → g x σ H fun σ2 H2 => tb { D with nx := J (i + 1), ct := J (i + 1), bk := D.nx } σ2 H2)
    (after : ∀ σ H, J xs.length σ H → D.nx σ H) :
    ∃ V : Nat → Nat → L2.St → Hp → Prop, (∃ n, V 0 n σ H) ∧ ∀ i n σ H, V i n σ H → ((Itk K k a).stop i H ∧ D.nx σ H) ∨
      ((Itk K k a).go i H ∧ ∃ N : L2.St → Hp → Prop, (∀ σ1 H1, N σ1 H1 → ∃ n1, n1 < n ∧ V (i + 1) n1 σ1 H1) ∧
        ∀ x H1, (Itk K k a).yld i H x H1 → g x σ H1 fun σ2 H2 => tb { D with nx := N, ct := N, bk := D.nx } σ2 H2) := by
  cases k
  · exact for_list J start stays turn after
  · exact for_tup J start stays turn after
end
section
variable {K : PySem.W.Frag} {S : Addr → Prop} {I : Hp → Prop} {σ : L2.St} {H : Hp} {Q : Addr → Hp → Prop} {te : TE} {vs : List Nat} {g : TG} {tt : TT}
theorem lcK {k : Bool} (m : Fm S I) (i0 : I H) {a : Addr} {xs : List V} (hx : SqK k K H a xs) (ha : ¬ S a) (P : Nat → List V → Hp → Prop) (p0 : ∀ D, H D = none → P 0 [] (upd H D (.lst [])))
    (hs : ∀ D i x acc H', H D = none → xs[i]? = some x → Fx S I H H' → H' D = some (.lst acc) → acc.length ≤ i → P i acc H' → g x (wipe σ vs) H' fun σ2 H2 => wipe σ2 vs = wipe σ vs ∧ tt σ2 H2 fun b H3 =>
      if b = true then te σ2 H3 fun y H4 => ∃ acc, H4 D = some (.lst acc) ∧ acc.length < sizeLine ∧ Cs S I H P D (i + 1) (upd H4 D (.lst (acc ++ [y]))) else Cs S I H P D (i + 1) H3)
    (q : ∀ D H' acc, H D = none → Fx S I H H' → H' D = some (.lst acc) → P xs.length acc H' → Q D H') :
    ∀ D, H D = none → ∃ V : Nat → Nat → Hp → Prop, (∃ n, V 0 n (upd H D (.lst []))) ∧ ∀ i n H, V i n H →
      ((Itk K k a).stop i H ∧ Q D H) ∨ ((Itk K k a).go i H ∧ ∃ N : Hp → Prop, (∀ H1, N H1 → ∃ n1, n1 < n ∧ V (i + 1) n1 H1) ∧ ∀ x H1, (Itk K k a).yld i H x H1 → g x (wipe σ vs) H1 fun σ2 H2 => wipe σ2 vs = wipe σ vs ∧ tt σ2 H2 fun b H3 =>
        if b = true then te σ2 H3 fun y H4 => ∃ acc, H4 D = some (.lst acc) ∧ acc.length < sizeLine ∧ N (upd H4 D (.lst (acc ++ [y]))) else N H3) := by
  cases k
  · exact lcL m i0 hx ha P p0 hs q
  · exact lcT m i0 hx ha P p0 hs q
end
end Fr
set_option Elab.async false
set_option linter.all false
set_option maxRecDepth 100000
namespace K05M
def fv (a b c d x y : Int) : Int := a * x * x * x + b * x * x * y + c * x * y * y + d * y * y * y
def fdisc (a b c d : Int) : Int := b * b * c * c - 4 * a * c * c * c - 4 * b * b * b * d - 27 * a * a * d * d + 18 * a * b * c * d
def fl2 (a b c d p q r s : Int) : Int := 3 * a * p * p * r + b * p * (p * s + 2 * q * r) + c * q * (2 * p * s + q * r) + 3 * d * q * q * s
def fl3 (a b c d p q r s : Int) : Int := 3 * a * p * r * r + b * r * (2 * p * s + q * r) + c * s * (p * s + 2 * q * r) + 3 * d * q * s * s
theorem put1 (a b c d p q r s i j : Int) : fv (fv a b c d p q) (fl2 a b c d p q r s) (fl3 a b c d p q r s) (fv a b c d r s) i j = fv a b c d (i * p + j * r) (i * q + j * s) := by
  unfold fv fl2 fl3
  grind
theorem put2 (a b c d p q r s i j k m : Int) : fl2 (fv a b c d p q) (fl2 a b c d p q r s) (fl3 a b c d p q r s) (fv a b c d r s) i j k m = fl2 a b c d (i * p + j * r) (i * q + j * s) (k * p + m * r) (k * q + m * s) := by
  unfold fv fl2 fl3
  grind
theorem put3 (a b c d p q r s i j k m : Int) : fl3 (fv a b c d p q) (fl2 a b c d p q r s) (fl3 a b c d p q r s) (fv a b c d r s) i j k m = fl3 a b c d (i * p + j * r) (i * q + j * s) (k * p + m * r) (k * q + m * s) := by
  unfold fv fl2 fl3
  grind
theorem disc (a b c d p q r s : Int) : fdisc (fv a b c d p q) (fl2 a b c d p q r s) (fl3 a b c d p q r s) (fv a b c d r s) = (p * s - q * r) * (p * s - q * r) * (p * s - q * r) * (p * s - q * r) * (p * s - q * r) * (p * s - q * r) * fdisc a b c d := by
  unfold fdisc fv fl2 fl3
  grind
theorem fv_mul (e a b c d x y : Int) : fv (e * a) (e * b) (e * c) (e * d) x y = e * fv a b c d x y := by unfold fv; grind
theorem fl2_mul (e a b c d p q r s : Int) : fl2 (e * a) (e * b) (e * c) (e * d) p q r s = e * fl2 a b c d p q r s := by unfold fl2; grind
theorem fl3_mul (e a b c d p q r s : Int) : fl3 (e * a) (e * b) (e * c) (e * d) p q r s = e * fl3 a b c d p q r s := by unfold fl3; grind
theorem disc_neg (a b c d : Int) : fdisc (-1 * a) (-1 * b) (-1 * c) (-1 * d) = fdisc a b c d := by unfold fdisc; grind
theorem det_mul (p q r s i j k m : Int) : (i * p + j * r) * (k * q + m * s) - (i * q + j * s) * (k * p + m * r) = (i * m - j * k) * (p * s - q * r) := by grind
theorem fv_one (a b c d : Int) : fv a b c d 1 0 = a ∧ fv a b c d 0 1 = d ∧ fl2 a b c d 1 0 0 1 = b ∧ fl3 a b c d 1 0 0 1 = c := by
  unfold fv fl2 fl3
  refine ⟨?_, ?_, ?_, ?_⟩ <;> grind
theorem und (p q r s e : Int) (he : e = p * s - q * r) (h : e = 1 ∨ e = -1) : (e * s) * p + (-e * q) * r = 1 ∧ (e * s) * q + (-e * q) * s = 0 ∧ (-e * r) * p + (e * p) * r = 0 ∧ (-e * r) * q + (e * p) * s = 1 := by
  have h1 : e * e = 1 := by rcases h with rfl | rfl <;> decide
  refine ⟨?_, ?_, ?_, ?_⟩ <;> grind
end K05M
namespace RG
open PySem PySem.Spec PyProof.Rows L2 Fr
def Un (K : PySem.W.Frag) (H : Hp) (A : Addr) : Prop := ∃ a b c, SqT K H A [.ref a, .ref b, .ref c] ∧ SqT K H a [.int 1, .int 0, .int 0] ∧ SqT K H b [.int 0, .int 1, .int 0] ∧ SqT K H c [.int 0, .int 0, .int 1]
theorem un_k {K : PySem.W.Frag} {H : Hp} {A a b c : Addr} {o0 o1 o2 o3 : Option Addr} {s0 s1 s2 s3 : Array (Option Value)} {n0 n1 n2 n3 : Nat} {t0 t1 t2 t3 t4 t5 t6 t7 t8 : Tok}
    (h0 : K.lookup A = some ⟨.type "tuple", o0, .seq #[.ref a, .ref b, .ref c] n0, s0⟩) (h1 : K.lookup a = some ⟨.type "tuple", o1, .seq #[.int 1 t0, .int 0 t1, .int 0 t2] n1, s1⟩)
    (h2 : K.lookup b = some ⟨.type "tuple", o2, .seq #[.int 0 t3, .int 1 t4, .int 0 t5] n2, s2⟩) (h3 : K.lookup c = some ⟨.type "tuple", o3, .seq #[.int 0 t6, .int 0 t7, .int 1 t8] n3, s3⟩) : Un K H A :=
  ⟨a, b, c, .inr ⟨_, _, _, h0, rfl, rfl, by show 3 ≤ sizeLine; decide, .cons rfl (.cons rfl (.cons rfl .nil))⟩, .inr ⟨_, _, _, h1, rfl, rfl, by show 3 ≤ sizeLine; decide, .cons ⟨_, rfl⟩ (.cons ⟨_, rfl⟩ (.cons ⟨_, rfl⟩ .nil))⟩,
    .inr ⟨_, _, _, h2, rfl, rfl, by show 3 ≤ sizeLine; decide, .cons ⟨_, rfl⟩ (.cons ⟨_, rfl⟩ (.cons ⟨_, rfl⟩ .nil))⟩, .inr ⟨_, _, _, h3, rfl, rfl, by show 3 ≤ sizeLine; decide, .cons ⟨_, rfl⟩ (.cons ⟨_, rfl⟩ (.cons ⟨_, rfl⟩ .nil))⟩⟩
abbrev N_is_any_integer : List Str := ["value"]
theorem sc_is_any_integer : FnScope N_is_any_integer ["value"] (defScope s_is_any_integer) := ⟨rfl, rfl, rfl, by decide +kernel, rfl, by decide +kernel, by decide +kernel⟩
abbrev N_is_short_integer : List Str := ["value"]
theorem sc_is_short_integer : FnScope N_is_short_integer ["value"] (defScope s_is_short_integer) := ⟨rfl, rfl, rfl, by decide +kernel, rfl, by decide +kernel, by decide +kernel⟩
abbrev N_is_between : List Str := ["value", "low", "high"]
theorem sc_is_between : FnScope N_is_between ["value", "low", "high"] (defScope s_is_between) := ⟨rfl, rfl, rfl, by decide +kernel, rfl, by decide +kernel, by decide +kernel⟩
abbrev N_are_short_integers : List Str := ["value", "many", "n"]
theorem sc_are_short_integers : FnScope N_are_short_integers ["value", "many"] (defScope s_are_short_integers) := ⟨rfl, rfl, rfl, by decide +kernel, rfl, by decide +kernel, by decide +kernel⟩
abbrev N_check_integer : List Str := ["value"]
theorem sc_check_integer : FnScope N_check_integer ["value"] (defScope s_check_integer) := ⟨rfl, rfl, rfl, by decide +kernel, rfl, by decide +kernel, by decide +kernel⟩
abbrev N_check_between : List Str := ["value", "low", "high"]
theorem sc_check_between : FnScope N_check_between ["value", "low", "high"] (defScope s_check_between) := ⟨rfl, rfl, rfl, by decide +kernel, rfl, by decide +kernel, by decide +kernel⟩
abbrev N_power_at : List Str := ["base", "exponent", "prime", "result", "square", "left"]
theorem sc_power_at : FnScope N_power_at ["base", "exponent", "prime"] (defScope s_power_at) := ⟨rfl, rfl, rfl, by decide +kernel, rfl, by decide +kernel, by decide +kernel⟩
abbrev N_shared_divisor : List Str := ["numbers", "shared", "number"]
theorem sc_shared_divisor : FnScope N_shared_divisor ["numbers"] (defScope s_shared_divisor) := ⟨rfl, rfl, rfl, by decide +kernel, rfl, by decide +kernel, by decide +kernel⟩
abbrev N_is_prime : List Str := ["number", "divisor"]
theorem sc_is_prime : FnScope N_is_prime ["number"] (defScope s_is_prime) := ⟨rfl, rfl, rfl, by decide +kernel, rfl, by decide +kernel, by decide +kernel⟩
abbrev N_check_prime : List Str := ["number"]
theorem sc_check_prime : FnScope N_check_prime ["number"] (defScope s_check_prime) := ⟨rfl, rfl, rfl, by decide +kernel, rfl, by decide +kernel, by decide +kernel⟩
abbrev N_form_discriminant : List Str := ["coefficients", "a", "b", "c", "d"]
theorem sc_form_discriminant : FnScope N_form_discriminant ["coefficients"] (defScope s_form_discriminant) := ⟨rfl, rfl, rfl, by decide +kernel, rfl, by decide +kernel, by decide +kernel⟩
abbrev N_form_hessian : List Str := ["coefficients", "a", "b", "c", "d"]
theorem sc_form_hessian : FnScope N_form_hessian ["coefficients"] (defScope s_form_hessian) := ⟨rfl, rfl, rfl, by decide +kernel, rfl, by decide +kernel, by decide +kernel⟩
abbrev N_check_form : List Str := ["value"]
theorem sc_check_form : FnScope N_check_form ["value"] (defScope s_check_form) := ⟨rfl, rfl, rfl, by decide +kernel, rfl, by decide +kernel, by decide +kernel⟩
abbrev N_Form___init__ : List Str := ["self", "coefficients"]
theorem sc_Form___init__ : FnScope N_Form___init__ ["self", "coefficients"] (defScope s_Form___init__) := ⟨rfl, rfl, rfl, by decide +kernel, rfl, by decide +kernel, by decide +kernel⟩
abbrev N_Form_coefficients : List Str := ["self"]
theorem sc_Form_coefficients : FnScope N_Form_coefficients ["self"] (defScope s_Form_coefficients) := ⟨rfl, rfl, rfl, by decide +kernel, rfl, by decide +kernel, by decide +kernel⟩
abbrev N_Form___eq__ : List Str := ["self", "other"]
theorem sc_Form___eq__ : FnScope N_Form___eq__ ["self", "other"] (defScope s_Form___eq__) := ⟨rfl, rfl, rfl, by decide +kernel, rfl, by decide +kernel, by decide +kernel⟩
abbrev N_places_of_roots : List Str := ["coefficients", "prime", "a", "b", "c", "d", "found", "number", "x"]
theorem sc_places_of_roots : FnScope N_places_of_roots ["coefficients", "prime"] (defScope s_places_of_roots) := ⟨rfl, rfl, rfl, by decide +kernel, rfl, by decide +kernel, by decide +kernel⟩
abbrev N_is_full : List Str := ["coefficients", "prime"]
theorem sc_is_full : FnScope N_is_full ["coefficients", "prime"] (defScope s_is_full) := ⟨rfl, rfl, rfl, by decide +kernel, rfl, by decide +kernel, by decide +kernel⟩
abbrev N_value_at : List Str := ["row", "x", "prime", "result", "number"]
theorem sc_value_at : FnScope N_value_at ["row", "x", "prime"] (defScope s_value_at) := ⟨rfl, rfl, rfl, by decide +kernel, rfl, by decide +kernel, by decide +kernel⟩
abbrev N_less_root : List Str := ["row", "x", "prime", "found", "last", "number"]
theorem sc_less_root : FnScope N_less_root ["row", "x", "prime"] (defScope s_less_root) := ⟨rfl, rfl, rfl, by decide +kernel, rfl, by decide +kernel, by decide +kernel⟩
abbrev N_times_at_end : List Str := ["row", "times"]
theorem sc_times_at_end : FnScope N_times_at_end ["row"] (defScope s_times_at_end) := ⟨rfl, rfl, rfl, by decide +kernel, rfl, by decide +kernel, by decide +kernel⟩
abbrev N_root_times : List Str := ["coefficients", "prime", "row", "found", "place", "times", "number"]
theorem sc_root_times : FnScope N_root_times ["coefficients", "prime"] (defScope s_root_times) := ⟨rfl, rfl, rfl, by decide +kernel, rfl, by decide +kernel, by decide +kernel⟩
abbrev N_kind_by_roots : List Str := ["coefficients", "prime", "roots", "rest"]
theorem sc_kind_by_roots : FnScope N_kind_by_roots ["coefficients", "prime"] (defScope s_kind_by_roots) := ⟨rfl, rfl, rfl, by decide +kernel, rfl, by decide +kernel, by decide +kernel⟩
abbrev N_kind_of : List Str := ["coefficients", "prime", "short", "number", "entry"]
theorem sc_kind_of : FnScope N_kind_of ["coefficients", "prime"] (defScope s_kind_of) := ⟨rfl, rfl, rfl, by decide +kernel, rfl, by decide +kernel, by decide +kernel⟩
abbrev N_check_both : List Str := ["form", "prime"]
theorem sc_check_both : FnScope N_check_both ["form", "prime"] (defScope s_check_both) := ⟨rfl, rfl, rfl, by decide +kernel, rfl, by decide +kernel, by decide +kernel⟩
abbrev N_map_of : List Str := ["coefficients", "prime", "place", "a", "b", "c", "_", "x"]
theorem sc_map_of : FnScope N_map_of ["coefficients", "prime", "place"] (defScope s_map_of) := ⟨rfl, rfl, rfl, by decide +kernel, rfl, by decide +kernel, by decide +kernel⟩
abbrev N_kind_at : List Str := ["form", "prime"]
theorem sc_kind_at : FnScope N_kind_at ["form", "prime"] (defScope s_kind_at) := ⟨rfl, rfl, rfl, by decide +kernel, rfl, by decide +kernel, by decide +kernel⟩
abbrev N_maps_at : List Str := ["form", "prime", "places", "place"]
theorem sc_maps_at : FnScope N_maps_at ["form", "prime"] (defScope s_maps_at) := ⟨rfl, rfl, rfl, by decide +kernel, rfl, by decide +kernel, by decide +kernel⟩
abbrev N_table_of : List Str := ["coefficients", "a", "b", "c", "d"]
theorem sc_table_of : FnScope N_table_of ["coefficients"] (defScope s_table_of) := ⟨rfl, rfl, rfl, by decide +kernel, rfl, by decide +kernel, by decide +kernel⟩
abbrev N_product_by : List Str := ["table", "first", "second", "a", "b", "c", "d", "e", "f", "g", "h", "i", "u", "x", "y", "v", "z", "s", "left", "middle", "right"]
theorem sc_product_by : FnScope N_product_by ["table", "first", "second"] (defScope s_product_by) := ⟨rfl, rfl, rfl, by decide +kernel, rfl, by decide +kernel, by decide +kernel⟩
abbrev N_check_bottom : List Str := ["bottom"]
theorem sc_check_bottom : FnScope N_check_bottom ["bottom"] (defScope s_check_bottom) := ⟨rfl, rfl, rfl, by decide +kernel, rfl, by decide +kernel, by decide +kernel⟩
abbrev N_table_for : List Str := ["ring"]
theorem sc_table_for : FnScope N_table_for ["ring"] (defScope s_table_for) := ⟨rfl, rfl, rfl, by decide +kernel, rfl, by decide +kernel, by decide +kernel⟩
abbrev N_Ring___init__ : List Str := ["self", "form"]
theorem sc_Ring___init__ : FnScope N_Ring___init__ ["self", "form"] (defScope s_Ring___init__) := ⟨rfl, rfl, rfl, by decide +kernel, rfl, by decide +kernel, by decide +kernel⟩
abbrev N_Ring_form : List Str := ["self"]
theorem sc_Ring_form : FnScope N_Ring_form ["self"] (defScope s_Ring_form) := ⟨rfl, rfl, rfl, by decide +kernel, rfl, by decide +kernel, by decide +kernel⟩
abbrev N_Ring_element : List Str := ["self", "entries", "bottom"]
theorem sc_Ring_element : FnScope N_Ring_element ["self", "entries", "bottom"] (defScope s_Ring_element) := ⟨rfl, rfl, rfl, by decide +kernel, rfl, by decide +kernel, by decide +kernel⟩
abbrev N_Ring___eq__ : List Str := ["self", "other"]
theorem sc_Ring___eq__ : FnScope N_Ring___eq__ ["self", "other"] (defScope s_Ring___eq__) := ⟨rfl, rfl, rfl, by decide +kernel, rfl, by decide +kernel, by decide +kernel⟩
abbrev N_check_one_ring : List Str := ["first", "second"]
theorem sc_check_one_ring : FnScope N_check_one_ring ["first", "second"] (defScope s_check_one_ring) := ⟨rfl, rfl, rfl, by decide +kernel, rfl, by decide +kernel, by decide +kernel⟩
abbrev N_mixed : List Str := ["first", "second", "sign", "top", "bottom", "entries", "one", "other"]
theorem sc_mixed : FnScope N_mixed ["first", "second", "sign"] (defScope s_mixed) := ⟨rfl, rfl, rfl, by decide +kernel, rfl, by decide +kernel, by decide +kernel⟩
abbrev N_Element___init__ : List Str := ["self", "ring", "entries", "bottom", "shared", "number"]
theorem sc_Element___init__ : FnScope N_Element___init__ ["self", "ring", "entries", "bottom"] (defScope s_Element___init__) := ⟨rfl, rfl, rfl, by decide +kernel, rfl, by decide +kernel, by decide +kernel⟩
abbrev N_Element_ring : List Str := ["self"]
theorem sc_Element_ring : FnScope N_Element_ring ["self"] (defScope s_Element_ring) := ⟨rfl, rfl, rfl, by decide +kernel, rfl, by decide +kernel, by decide +kernel⟩
abbrev N_Element_entries : List Str := ["self"]
theorem sc_Element_entries : FnScope N_Element_entries ["self"] (defScope s_Element_entries) := ⟨rfl, rfl, rfl, by decide +kernel, rfl, by decide +kernel, by decide +kernel⟩
abbrev N_Element_bottom : List Str := ["self"]
theorem sc_Element_bottom : FnScope N_Element_bottom ["self"] (defScope s_Element_bottom) := ⟨rfl, rfl, rfl, by decide +kernel, rfl, by decide +kernel, by decide +kernel⟩
abbrev N_Element___add__ : List Str := ["self", "other"]
theorem sc_Element___add__ : FnScope N_Element___add__ ["self", "other"] (defScope s_Element___add__) := ⟨rfl, rfl, rfl, by decide +kernel, rfl, by decide +kernel, by decide +kernel⟩
abbrev N_Element___mul__ : List Str := ["self", "other", "entries"]
theorem sc_Element___mul__ : FnScope N_Element___mul__ ["self", "other"] (defScope s_Element___mul__) := ⟨rfl, rfl, rfl, by decide +kernel, rfl, by decide +kernel, by decide +kernel⟩
abbrev N_l_crock : List Str := ["_law_script", "_law_turn", "_law_cell", "_law_great"]
theorem sc_l_crock : FnScope N_l_crock ["_law_script", "_law_turn"] (defScope s_l_crock) := ⟨rfl, rfl, rfl, by decide +kernel, rfl, by decide +kernel, by decide +kernel⟩
abbrev N_l_scoop : List Str := ["_law_crock_here", "_law_many", "_law_found", "_law_one", "_law_two"]
theorem sc_l_scoop : FnScope N_l_scoop ["_law_crock_here", "_law_many"] (defScope s_l_scoop) := ⟨rfl, rfl, rfl, by decide +kernel, rfl, by decide +kernel, by decide +kernel⟩
abbrev N_l_choose : List Str := ["_law_crock_here", "_law_items"]
theorem sc_l_choose : FnScope N_l_choose ["_law_crock_here", "_law_items"] (defScope s_l_choose) := ⟨rfl, rfl, rfl, by decide +kernel, rfl, by decide +kernel, by decide +kernel⟩
abbrev N_l_lines : List Str := ["_law_lines_here", "_law_found", "_law_one", "_law_other", "_law_left", "_law_right_here"]
theorem sc_l_lines : FnScope N_l_lines ["_law_lines_here"] (defScope s_l_lines) := ⟨rfl, rfl, rfl, by decide +kernel, rfl, by decide +kernel, by decide +kernel⟩
abbrev N_l_led : List Str := ["_law_form", "_law_change_here", "_law_p", "_law_q", "_law_r", "_law_s", "_law_first", "_law_second", "_law_found", "_law_at_here", "_law_entry", "_law_lines_here", "_law_sense", "_law_one", "_law_more"]
theorem sc_l_led : FnScope N_l_led ["_law_form", "_law_change_here"] (defScope s_l_led) := ⟨rfl, rfl, rfl, by decide +kernel, rfl, by decide +kernel, by decide +kernel⟩
abbrev N_l_discriminant : List Str := ["_law_form", "_law_a", "_law_b", "_law_c", "_law_d", "_law_first"]
theorem sc_l_discriminant : FnScope N_l_discriminant ["_law_form"] (defScope s_l_discriminant) := ⟨rfl, rfl, rfl, by decide +kernel, rfl, by decide +kernel, by decide +kernel⟩
abbrev N_l_at : List Str := ["_law_form", "_law_x", "_law_y", "_law_a", "_law_b", "_law_c", "_law_d"]
theorem sc_l_at : FnScope N_l_at ["_law_form", "_law_x", "_law_y"] (defScope s_l_at) := ⟨rfl, rfl, rfl, by decide +kernel, rfl, by decide +kernel, by decide +kernel⟩
abbrev N_l_change : List Str := ["_law_crock_here", "_law_most", "_law_times", "_law_found", "_law_turn", "_law_way", "_law_number", "_law_one", "_law_p", "_law_q", "_law_r", "_law_s", "_law_i", "_law_j", "_law_k", "_law_m", "_law_upper"]
theorem sc_l_change : FnScope N_l_change ["_law_crock_here", "_law_most", "_law_times"] (defScope s_l_change) := ⟨rfl, rfl, rfl, by decide +kernel, rfl, by decide +kernel, by decide +kernel⟩
abbrev N_l_maps : List Str := ["_law_form", "_law_prime", "_law_a", "_law_b", "_law_c", "_law_d", "_law_found", "_law_u", "_law_v", "_law_rests", "_law_one"]
theorem sc_l_maps : FnScope N_l_maps ["_law_form", "_law_prime"] (defScope s_l_maps) := ⟨rfl, rfl, rfl, by decide +kernel, rfl, by decide +kernel, by decide +kernel⟩
abbrev N_l_by_roots : List Str := ["_law_form", "_law_prime", "_law_a", "_law_b", "_law_c", "_law_d", "_law_found", "_law_x", "_law_one"]
theorem sc_l_by_roots : FnScope N_l_by_roots ["_law_form", "_law_prime"] (defScope s_l_by_roots) := ⟨rfl, rfl, rfl, by decide +kernel, rfl, by decide +kernel, by decide +kernel⟩
abbrev N_l_goes_along : List Str := ["_law_form", "_law_prime", "_law_pair", "_law_one", "_law_other", "_law_ring", "_law_values", "_law_first", "_law_second", "_law_element", "_law_u", "_law_x", "_law_y"]
theorem sc_l_goes_along : FnScope N_l_goes_along ["_law_form", "_law_prime", "_law_pair", "_law_one", "_law_other"] (defScope s_l_goes_along) := ⟨rfl, rfl, rfl, by decide +kernel, rfl, by decide +kernel, by decide +kernel⟩
abbrev N_l_right : List Str := ["_law_crock_here", "_law_most", "_law_way", "_law_numbers", "_law_form", "_law_one", "_law_prime", "_law_told", "_law_other", "_law_at_here", "_law_side", "_law_pair"]
theorem sc_l_right : FnScope N_l_right ["_law_crock_here"] (defScope s_l_right) := ⟨rfl, rfl, rfl, by decide +kernel, rfl, by decide +kernel, by decide +kernel⟩
abbrev N_law : List Str := ["_law_script", "_law_turn", "_law_crock_here", "_law_told", "_law_row", "_law_prime"]
theorem sc_law : FnScope N_law ["_law_script"] (defScope s_law) := ⟨rfl, rfl, rfl, by decide +kernel, rfl, by decide +kernel, by decide +kernel⟩
structure Txt (K : PySem.W.Frag) (mg : Str → Option Value) (C_Form : Addr) (C_Ring : Addr) (C_Element : Addr) : Prop where
  g_Form : mg "Form" = some (.ref C_Form)
  cl_Form : Cls K C_Form
  ty_Form : TyI K C_Form
  na_Form_coefficients : NoAttr K C_Form "_coefficients"
  g_Ring : mg "Ring" = some (.ref C_Ring)
  cl_Ring : Cls K C_Ring
  ty_Ring : TyI K C_Ring
  na_Ring_form : NoAttr K C_Ring "_form"
  g_Element : mg "Element" = some (.ref C_Element)
  cl_Element : Cls K C_Element
  ty_Element : TyI K C_Element
  na_Element_ring : NoAttr K C_Element "_ring"
  na_Element_entries : NoAttr K C_Element "_entries"
  na_Element_bottom : NoAttr K C_Element "_bottom"
  fo_Element_tuple : PySem.W.kitOne K (.type "tuple") (.ref C_Element) = some false ∧ PySem.W.notFirst K C_Element (.type "tuple") = true
  fo_Element_NoneType : PySem.W.kitOne K (.type "NoneType") (.ref C_Element) = some false ∧ PySem.W.notFirst K C_Element (.type "NoneType") = true
  d_is_any_integer : ∃ f fd, mg "is_any_integer" = some (.ref f) ∧ Fun K "is_any_integer" "is_any_integer" s_is_any_integer f fd
  d_is_short_integer : ∃ f fd, mg "is_short_integer" = some (.ref f) ∧ Fun K "is_short_integer" "is_short_integer" s_is_short_integer f fd
  d_is_between : ∃ f fd, mg "is_between" = some (.ref f) ∧ Fun K "is_between" "is_between" s_is_between f fd
  d_are_short_integers : ∃ f fd, mg "are_short_integers" = some (.ref f) ∧ Fun K "are_short_integers" "are_short_integers" s_are_short_integers f fd
  d_check_integer : ∃ f fd, mg "check_integer" = some (.ref f) ∧ Fun K "check_integer" "check_integer" s_check_integer f fd
  d_check_between : ∃ f fd, mg "check_between" = some (.ref f) ∧ Fun K "check_between" "check_between" s_check_between f fd
  d_power_at : ∃ f fd, mg "power_at" = some (.ref f) ∧ Fun K "power_at" "power_at" s_power_at f fd
  d_shared_divisor : ∃ f fd, mg "shared_divisor" = some (.ref f) ∧ Fun K "shared_divisor" "shared_divisor" s_shared_divisor f fd
  d_is_prime : ∃ f fd, mg "is_prime" = some (.ref f) ∧ Fun K "is_prime" "is_prime" s_is_prime f fd
  d_check_prime : ∃ f fd, mg "check_prime" = some (.ref f) ∧ Fun K "check_prime" "check_prime" s_check_prime f fd
  d_form_discriminant : ∃ f fd, mg "form_discriminant" = some (.ref f) ∧ Fun K "form_discriminant" "form_discriminant" s_form_discriminant f fd
  d_form_hessian : ∃ f fd, mg "form_hessian" = some (.ref f) ∧ Fun K "form_hessian" "form_hessian" s_form_hessian f fd
  d_check_form : ∃ f fd, mg "check_form" = some (.ref f) ∧ Fun K "check_form" "check_form" s_check_form f fd
  e_Form___init__ : ∃ (p f : Addr) (fd : FuncData), Mk K C_Form f ∧ Fun K "__init__" "Form.__init__" s_Form___init__ f fd
  e_Form_coefficients : ∃ (p f : Addr) (fd : FuncData), PropOf K C_Form "coefficients" p f ∧ Fun K "coefficients" "Form.coefficients" s_Form_coefficients f fd
  e_Form___eq__ : ∃ (p f : Addr) (fd : FuncData), EqC K C_Form f ∧ Fun K "__eq__" "Form.__eq__" s_Form___eq__ f fd
  d_places_of_roots : ∃ f fd, mg "places_of_roots" = some (.ref f) ∧ Fun K "places_of_roots" "places_of_roots" s_places_of_roots f fd
  d_is_full : ∃ f fd, mg "is_full" = some (.ref f) ∧ Fun K "is_full" "is_full" s_is_full f fd
  d_value_at : ∃ f fd, mg "value_at" = some (.ref f) ∧ Fun K "value_at" "value_at" s_value_at f fd
  d_less_root : ∃ f fd, mg "less_root" = some (.ref f) ∧ Fun K "less_root" "less_root" s_less_root f fd
  d_times_at_end : ∃ f fd, mg "times_at_end" = some (.ref f) ∧ Fun K "times_at_end" "times_at_end" s_times_at_end f fd
  d_root_times : ∃ f fd, mg "root_times" = some (.ref f) ∧ Fun K "root_times" "root_times" s_root_times f fd
  d_kind_by_roots : ∃ f fd, mg "kind_by_roots" = some (.ref f) ∧ Fun K "kind_by_roots" "kind_by_roots" s_kind_by_roots f fd
  d_kind_of : ∃ f fd, mg "kind_of" = some (.ref f) ∧ Fun K "kind_of" "kind_of" s_kind_of f fd
  d_check_both : ∃ f fd, mg "check_both" = some (.ref f) ∧ Fun K "check_both" "check_both" s_check_both f fd
  d_map_of : ∃ f fd, mg "map_of" = some (.ref f) ∧ Fun K "map_of" "map_of" s_map_of f fd
  d_kind_at : ∃ f fd, mg "kind_at" = some (.ref f) ∧ Fun K "kind_at" "kind_at" s_kind_at f fd
  d_maps_at : ∃ f fd, mg "maps_at" = some (.ref f) ∧ Fun K "maps_at" "maps_at" s_maps_at f fd
  d_table_of : ∃ f fd, mg "table_of" = some (.ref f) ∧ Fun K "table_of" "table_of" s_table_of f fd
  d_product_by : ∃ f fd, mg "product_by" = some (.ref f) ∧ Fun K "product_by" "product_by" s_product_by f fd
  d_check_bottom : ∃ f fd, mg "check_bottom" = some (.ref f) ∧ Fun K "check_bottom" "check_bottom" s_check_bottom f fd
  d_table_for : ∃ f fd, mg "table_for" = some (.ref f) ∧ Fun K "table_for" "table_for" s_table_for f fd
  e_Ring___init__ : ∃ (p f : Addr) (fd : FuncData), Mk K C_Ring f ∧ Fun K "__init__" "Ring.__init__" s_Ring___init__ f fd
  e_Ring_form : ∃ (p f : Addr) (fd : FuncData), PropOf K C_Ring "form" p f ∧ Fun K "form" "Ring.form" s_Ring_form f fd
  e_Ring_element : ∃ (p f : Addr) (fd : FuncData), Meth K C_Ring "element" f ∧ FunD K "element" "Ring.element" (defArgs s_Ring_element) (defBody s_Ring_element) (defScope s_Ring_element) [.int 1] [] f fd
  e_Ring___eq__ : ∃ (p f : Addr) (fd : FuncData), EqC K C_Ring f ∧ Fun K "__eq__" "Ring.__eq__" s_Ring___eq__ f fd
  d_check_one_ring : ∃ f fd, mg "check_one_ring" = some (.ref f) ∧ Fun K "check_one_ring" "check_one_ring" s_check_one_ring f fd
  d_mixed : ∃ f fd, mg "mixed" = some (.ref f) ∧ Fun K "mixed" "mixed" s_mixed f fd
  e_Element___init__ : ∃ (p f : Addr) (fd : FuncData), Mk K C_Element f ∧ Fun K "__init__" "Element.__init__" s_Element___init__ f fd
  e_Element_ring : ∃ (p f : Addr) (fd : FuncData), PropOf K C_Element "ring" p f ∧ Fun K "ring" "Element.ring" s_Element_ring f fd
  e_Element_entries : ∃ (p f : Addr) (fd : FuncData), PropOf K C_Element "entries" p f ∧ Fun K "entries" "Element.entries" s_Element_entries f fd
  e_Element_bottom : ∃ (p f : Addr) (fd : FuncData), PropOf K C_Element "bottom" p f ∧ Fun K "bottom" "Element.bottom" s_Element_bottom f fd
  e_Element___add__ : ∃ (p f : Addr) (fd : FuncData), BinC K C_Element "__add__" f ∧ Fun K "__add__" "Element.__add__" s_Element___add__ f fd
  e_Element___mul__ : ∃ (p f : Addr) (fd : FuncData), BinC K C_Element "__mul__" f ∧ Fun K "__mul__" "Element.__mul__" s_Element___mul__ f fd
  d_l_crock : ∃ f fd, mg "_law_crock" = some (.ref f) ∧ Fun K "_law_crock" "_law_crock" s_l_crock f fd
  d_l_scoop : ∃ f fd, mg "_law_scoop" = some (.ref f) ∧ Fun K "_law_scoop" "_law_scoop" s_l_scoop f fd
  d_l_choose : ∃ f fd, mg "_law_choose" = some (.ref f) ∧ Fun K "_law_choose" "_law_choose" s_l_choose f fd
  d_l_lines : ∃ f fd, mg "_law_lines" = some (.ref f) ∧ Fun K "_law_lines" "_law_lines" s_l_lines f fd
  d_l_led : ∃ f fd, mg "_law_led" = some (.ref f) ∧ Fun K "_law_led" "_law_led" s_l_led f fd
  d_l_discriminant : ∃ f fd, mg "_law_discriminant" = some (.ref f) ∧ Fun K "_law_discriminant" "_law_discriminant" s_l_discriminant f fd
  d_l_at : ∃ f fd, mg "_law_at" = some (.ref f) ∧ Fun K "_law_at" "_law_at" s_l_at f fd
  d_l_change : ∃ f fd, mg "_law_change" = some (.ref f) ∧ Fun K "_law_change" "_law_change" s_l_change f fd
  d_l_maps : ∃ f fd, mg "_law_maps" = some (.ref f) ∧ Fun K "_law_maps" "_law_maps" s_l_maps f fd
  d_l_by_roots : ∃ f fd, mg "_law_by_roots" = some (.ref f) ∧ Fun K "_law_by_roots" "_law_by_roots" s_l_by_roots f fd
  d_l_goes_along : ∃ f fd, mg "_law_goes_along" = some (.ref f) ∧ Fun K "_law_goes_along" "_law_goes_along" s_l_goes_along f fd
  d_l_right : ∃ f fd, mg "_law_right" = some (.ref f) ∧ Fun K "_law_right" "_law_right" s_l_right f fd
  d_law : ∃ f fd, mg "law" = some (.ref f) ∧ Fun K "law" "law" s_law f fd
  b_abs : mg "abs" = none
  b_all : mg "all" = none
  b_any : mg "any" = none
  b_bool : mg "bool" = none
  b_enumerate : mg "enumerate" = none
  b_int : mg "int" = none
  b_isinstance : mg "isinstance" = none
  b_len : mg "len" = none
  b_list : mg "list" = none
  b_max : mg "max" = none
  b_min : mg "min" = none
  b_range : mg "range" = none
  b_sorted : mg "sorted" = none
  b_sum : mg "sum" = none
  b_tuple : mg "tuple" = none
  b_zip : mg "zip" = none
  x_GREAT : ∃ t, mg "GREAT" = some (.int (1000) t)
  x_GREATEST_PRIME : ∃ t, mg "GREATEST_PRIME" = some (.int (10000) t)
  x_LIMIT : ∃ t, mg "LIMIT" = some (.int (1000000000000000000000000000000000000000000000000000000000000) t)
  x_MAX_PRIME : ∃ t, mg "MAX_PRIME" = some (.int (1000000) t)
  m_gcd : mg "gcd" = some (.builtin "math.gcd")
  m_isqrt : mg "isqrt" = some (.builtin "math.isqrt")
  k_UNITS : ∃ A, mg "UNITS" = some (.ref A) ∧ ∀ H, Un K H A
  k_END : ∃ A, mg "END" = some (.ref A) ∧ ∀ H, SqT K H A [.int 1, .int 0]
def Short (i : Int) : Prop := -1000000000000000000000000000000000000000000000000000000000000 < i ∧ i < 1000000000000000000000000000000000000000000000000000000000000
theorem Short.b {i : Int} (h : Short i) : B 200 i := ⟨by have := h.1; have := h.2; omega, by decide⟩
def Ti (H : Hp) (a : Addr) (ns : List Int) : Prop := H a = some (.tup (ns.map V.int))
def T4 (H : Hp) (a : Addr) (p q r s : Int) : Prop := ∃ t1 t2, H a = some (.tup [.ref t1, .ref t2]) ∧ H t1 = some (.tup [.int p, .int q]) ∧ H t2 = some (.tup [.int r, .int s])
def Tq (K : PySem.W.Frag) (H : Hp) (a : Addr) (ns : List Int) : Prop := SqT K H a (ns.map V.int)
theorem Ti.q {K : PySem.W.Frag} {H : Hp} {a : Addr} {ns : List Int} (h : Ti H a ns) : Tq K H a ns := SqT.of h
def T33 (H : Hp) (a : Addr) (r1 r2 r3 : List Int) : Prop := ∃ t1 t2 t3, H a = some (.tup [.ref t1, .ref t2, .ref t3]) ∧ Ti H t1 r1 ∧ Ti H t2 r2 ∧ Ti H t3 r3
def L33 (H : Hp) (a : Addr) (r1 r2 r3 : List Int) : Prop := ∃ t1 t2 t3, H a = some (.lst [.ref t1, .ref t2, .ref t3]) ∧ Ti H t1 r1 ∧ Ti H t2 r2 ∧ Ti H t3 r3
def M33 (K : PySem.W.Frag) (H : Hp) (a : Addr) (r1 r2 r3 : List Int) : Prop := ∃ t1 t2 t3, H a = some (.lst [.ref t1, .ref t2, .ref t3]) ∧ Tq K H t1 r1 ∧ Tq K H t2 r2 ∧ Tq K H t3 r3
def FormAt (C : Addr) (H : Hp) (x : Addr) (ns : List Int) : Prop := ∃ dx t, H x = some (.ins C dx [(("_coefficients" : Str), .ref t)]) ∧ Ti H t ns
def ChOk (p q r s : Int) : Prop := Short p ∧ Short q ∧ Short r ∧ Short s ∧ (p * s - q * r = 1 ∨ p * s - q * r = -1)
theorem Ti.ex {H H' : Hp} {a : Addr} {ns : List Int} (h : Ti H a ns) (e : ∀ b xs, H b = some (.tup xs) → H' b = some (.tup xs)) : Ti H' a ns := e _ _ h
theorem T4.ex {H H' : Hp} {a : Addr} {p q r s : Int} (h : T4 H a p q r s) (e : ∀ b xs, H b = some (.tup xs) → H' b = some (.tup xs)) : T4 H' a p q r s := by
  obtain ⟨t1, t2, h0, h1, h2⟩ := h
  exact ⟨t1, t2, e _ _ h0, e _ _ h1, e _ _ h2⟩
theorem get_int {ns : List Int} {i : Nat} {x : V} (hx : (ns.map V.int)[i]? = some x) : ∃ n, ns[i]? = some n ∧ x = V.int n := by
  rw [List.getElem?_map] at hx
  cases e : ns[i]? with
  | none => rw [e] at hx; cases hx
  | some z => rw [e] at hx; exact ⟨z, rfl, (Option.some.inj hx).symm⟩
def gcdL (ns : List Int) : Nat := ns.foldl (fun g n => Nat.gcd g n.natAbs) 0
theorem gcdL_take {ns : List Int} {i : Nat} {n : Int} (h : ns[i]? = some n) : gcdL (ns.take (i + 1)) = Nat.gcd (gcdL (ns.take i)) n.natAbs := by
  unfold gcdL
  rw [List.take_add_one, h, List.foldl_append]
  rfl
def fv (a b c d x y : Int) : Int := a * x * x * x + b * x * x * y + c * x * y * y + d * y * y * y
def fdisc (a b c d : Int) : Int := b * b * c * c - 4 * a * c * c * c - 4 * b * b * b * d - 27 * a * a * d * d + 18 * a * b * c * d
def fl2 (a b c d p q r s : Int) : Int := 3 * a * p * p * r + b * p * (p * s + 2 * q * r) + c * q * (2 * p * s + q * r) + 3 * d * q * q * s
def fl3 (a b c d p q r s : Int) : Int := 3 * a * p * r * r + b * r * (2 * p * s + q * r) + c * s * (p * s + 2 * q * r) + 3 * d * q * s * s
def fled (a b c d p q r s : Int) : List Int := [(p * s - q * r) * fv a b c d p q, (p * s - q * r) * fl2 a b c d p q r s, (p * s - q * r) * fl3 a b c d p q r s, (p * s - q * r) * fv a b c d r s]
theorem un4 {K : PySem.W.Frag} {i j k l : Nat} {σ : L2.St} {H : Hp} {a : Addr} {p q r s : Int} {Q : L2.St → Hp → Prop} (h : T4 H a p q r s)
    (z : Q ((((σ.set i (some (.int p))).set j (some (.int q))).set k (some (.int r))).set l (some (.int s))) H) :
    gTup K 2 (gCons (gTup K 2 (gCons (gName i) (gCons (gName j) gNil))) (gCons (gTup K 2 (gCons (gName k) (gCons (gName l) gNil))) gNil)) (.ref a) σ H Q := by
  obtain ⟨t1, t2, h0, h1, h2⟩ := h
  refine ⟨a, _, rfl, SqT.of h0, rfl, _, _, rfl, ?_⟩
  refine ⟨t1, _, rfl, SqT.of h1, rfl, _, _, rfl, ?_⟩
  refine ⟨_, _, rfl, ⟨rfl, ?_⟩⟩
  refine ⟨_, _, rfl, ?_⟩
  refine ⟨t2, _, rfl, SqT.of h2, rfl, _, _, rfl, ?_⟩
  exact ⟨_, _, rfl, ⟨rfl, ⟨rfl, z⟩⟩⟩
theorem unI4 {K : PySem.W.Frag} {i j k l : Nat} {σ : L2.St} {H : Hp} {t : Addr} {a b c d : Int} {Q : L2.St → Hp → Prop} (h : Ti H t [a, b, c, d])
    (z : Q ((((σ.set i (some (.int a))).set j (some (.int b))).set k (some (.int c))).set l (some (.int d))) H) :
    gTup K 4 (gCons (gName i) (gCons (gName j) (gCons (gName k) (gCons (gName l) gNil)))) (.ref t) σ H Q :=
  ⟨t, _, rfl, SqT.of h, rfl, _, _, rfl, _, _, rfl, _, _, rfl, _, _, rfl, rfl, z⟩
theorem t4_new {H : Hp} {t1 t2 x : Addr} {p q r s : Int} (n1 : H t1 = none) (n2 : upd H t1 (.tup [.int p, .int q]) t2 = none) (n3 : upd (upd H t1 (.tup [.int p, .int q])) t2 (.tup [.int r, .int s]) x = none) :
    Ex0 H (upd (upd (upd H t1 (.tup [.int p, .int q])) t2 (.tup [.int r, .int s])) x (.tup [.ref t1, .ref t2])) ∧ T4 (upd (upd (upd H t1 (.tup [.int p, .int q])) t2 (.tup [.int r, .int s])) x (.tup [.ref t1, .ref t2])) x p q r s :=
  ⟨((Ex0.new n1).trans (Ex0.new n2)).trans (Ex0.new n3), t1, t2, upd_same, Ex0.ap (Ex0.new n3) (Ex0.ap (Ex0.new n2) upd_same), Ex0.ap (Ex0.new n3) upd_same⟩
theorem Ex0.t4 {H H' : Hp} {a : Addr} {p q r s : Int} (e : Ex0 H H') (h : T4 H a p q r s) : T4 H' a p q r s := h.ex fun _ _ z => Ex0.ap e z
theorem Ex0.ti {H H' : Hp} {a : Addr} {ns : List Int} (e : Ex0 H H') (h : Ti H a ns) : Ti H' a ns := Ex0.ap e h
theorem Ex0.fo {C : Addr} {H H' : Hp} {x : Addr} {ns : List Int} (e : Ex0 H H') (h : FormAt C H x ns) : FormAt C H' x ns := by
  obtain ⟨dx, t, h1, h2⟩ := h
  exact ⟨dx, t, Ex0.ap e h1, Ex0.ap e h2⟩
def RingAt (C C_R : Addr) (H : Hp) (r : Addr) (ns : List Int) : Prop := ∃ dr x, H r = some (.ins C_R dr [(("_form" : Str), .ref x)]) ∧ FormAt C H x ns
def ElAt (C C_R C_E : Addr) (H : Hp) (e : Addr) (ns : List Int) (u y z b : Int) : Prop := ∃ de r t, H e = some (.ins C_E de [(("_ring" : Str), .ref r), (("_entries" : Str), .ref t), (("_bottom" : Str), .int b)]) ∧ RingAt C C_R H r ns ∧ Ti H t [u, y, z]
theorem Ex0.tq {K : PySem.W.Frag} {H H' : Hp} {a : Addr} {ns : List Int} (e : Ex0 H H') (h : Tq K H a ns) : Tq K H' a ns := e.sqT (fun z => z) h
theorem Ex0.t33 {H H' : Hp} {a : Addr} {r1 r2 r3 : List Int} (e : Ex0 H H') (h : T33 H a r1 r2 r3) : T33 H' a r1 r2 r3 := by
  obtain ⟨t1, t2, t3, h0, h1, h2, h3⟩ := h
  exact ⟨t1, t2, t3, Ex0.ap e h0, Ex0.ap e h1, Ex0.ap e h2, Ex0.ap e h3⟩
theorem Ex0.l33 {H H' : Hp} {a : Addr} {r1 r2 r3 : List Int} (e : Ex0 H H') (h : L33 H a r1 r2 r3) : L33 H' a r1 r2 r3 := by
  obtain ⟨t1, t2, t3, h0, h1, h2, h3⟩ := h
  exact ⟨t1, t2, t3, Ex0.ap e h0, Ex0.ap e h1, Ex0.ap e h2, Ex0.ap e h3⟩
theorem Ex0.ri {C C_R : Addr} {H H' : Hp} {r : Addr} {ns : List Int} (e : Ex0 H H') (h : RingAt C C_R H r ns) : RingAt C C_R H' r ns := by
  obtain ⟨dr, x, h1, h2⟩ := h
  exact ⟨dr, x, Ex0.ap e h1, Ex0.fo e h2⟩
theorem Ex0.el {C C_R C_E : Addr} {H H' : Hp} {x : Addr} {ns : List Int} {u y z b : Int} (e : Ex0 H H') (h : ElAt C C_R C_E H x ns u y z b) : ElAt C C_R C_E H' x ns u y z b := by
  obtain ⟨de, r, t, h1, h2, h3⟩ := h
  exact ⟨de, r, t, Ex0.ap e h1, Ex0.ri e h2, Ex0.ti e h3⟩
theorem unq3 {K : PySem.W.Frag} {i j k : Nat} {σ : L2.St} {H : Hp} {t : Addr} {a b c : Int} {Q : L2.St → Hp → Prop} (h : Tq K H t [a, b, c])
    (z : Q (((σ.set i (some (.int a))).set j (some (.int b))).set k (some (.int c))) H) :
    gTup K 3 (gCons (gName i) (gCons (gName j) (gCons (gName k) gNil))) (.ref t) σ H Q :=
  ⟨t, _, rfl, h, rfl, _, _, rfl, _, _, rfl, _, _, rfl, rfl, z⟩
def w1 (a b c d : Int) : List Int := [-a * c, b, -a]
def w2 (a b c d : Int) : List Int := [-a * d, 0, 0]
def w3 (a b c d : Int) : List Int := [-b * d, d, -c]
def m0 (a d g u y z v s r : Int) : Int := u * v + y * s * a + (y * r + z * s) * d + z * r * g
def m1 (b e h u y z v s r : Int) : Int := u * s + y * v + y * s * b + (y * r + z * s) * e + z * r * h
def m2 (c f i u y z v s r : Int) : Int := u * r + z * v + y * s * c + (y * r + z * s) * f + z * r * i
def pr (a b c d u y z v s r : Int) : List Int := [m0 (-a * c) (-a * d) (-b * d) u y z v s r, m1 b 0 d u y z v s r, m2 (-a) 0 (-c) u y z v s r]
def tr (a b c d u y z : Int) : Int := 3 * u + b * y - c * z
section
def sp_is_any_integer (_ : PySem.W.Frag) (C C_R C_E : Addr) : Sp := fun vs H Q _ => ∃ i : Int, vs = [.int i] ∧ Q (.bl true) H
def sp_is_short_integer (_ : PySem.W.Frag) (C C_R C_E : Addr) : Sp := fun vs H Q _ => ∃ i : Int, vs = [.int i] ∧ Short i ∧ Q (.bl true) H
def sp_are_short_integers (_ : PySem.W.Frag) (C C_R C_E : Addr) : Sp := fun vs H Q _ => ∃ (a : Addr) (ns : List Int), vs = [.ref a, .int (ns.length : Int)] ∧ Ti H a ns ∧ ns.length ≤ 1000 ∧ (∀ n ∈ ns, Short n) ∧ ∀ H', Ex0 H H' → Q (.bl true) H'
def sp_check_integer (_ : PySem.W.Frag) (C C_R C_E : Addr) : Sp := fun vs H Q _ => ∃ i : Int, vs = [.int i] ∧ Short i ∧ Q .non H
def sp_shared_divisor (K : PySem.W.Frag) (C C_R C_E : Addr) : Sp := fun vs H Q _ => ∃ (a : Addr) (ns : List Int), vs = [.ref a] ∧ Tq K H a ns ∧ Q (.int (gcdL ns : Nat)) H
def sp_Form___init__ (_ : PySem.W.Frag) (C C_R C_E : Addr) : Sp := fun vs H Q _ => ∃ (x dx t : Addr) (ns : List Int), vs = [.ref x, .ref t] ∧ H x = some (.ins C dx []) ∧ Ti H t ns ∧ ns.length = 4 ∧ (∀ n ∈ ns, Short n) ∧ ∀ H', (∀ b o, b ≠ x → H b = some o → H' b = some o) → H' x = some (.ins C dx [(("_coefficients" : Str), .ref t)]) → Q .non H'
def sp_Form_coefficients (_ : PySem.W.Frag) (C C_R C_E : Addr) : Sp := fun vs H Q _ => ∃ (x : Addr) (ns : List Int), vs = [.ref x] ∧ FormAt C H x ns ∧ ∀ t, Ti H t ns → Q (.ref t) H
def sp_Form___eq__ (_ : PySem.W.Frag) (C C_R C_E : Addr) : Sp := fun vs H Q _ => ∃ (x y : Addr) (ns ms : List Int), vs = [.ref x, .ref y] ∧ FormAt C H x ns ∧ FormAt C H y ms ∧ Q (.bl (decide (ns = ms))) H
end
section
variable {P : Program} {w : World} {K : PySem.W.Frag} {mg : Str → Option Value} {base : Heap} {C_Form C_Ring C_Element : Addr}
theorem ok_is_any_integer (T : Txt K mg C_Form C_Ring C_Element) : Def P w K mg base 1 "is_any_integer" ["value"] (sp_is_any_integer K C_Form C_Ring C_Element) := by
  obtain ⟨f_, fd_, g_, F_⟩ := T.d_is_any_integer
  refine ⟨f_, fd_, g_, F_.kp, F_.binds (ps := ["value"]) (fun _ _ _ _ _ _ us hl => match us, hl with | [_], _ => rfl), ?_⟩
  refine F_.ok sc_is_any_integer (fun vs H Q E h => ?_) (fun cdv A outer s H vs Q E hr h => ?_)
  · first | (obtain ⟨rfl, _⟩ := h; rfl) | (obtain ⟨_, rfl, _⟩ := h; rfl) | (obtain ⟨_, _, rfl, _⟩ := h; rfl) | (obtain ⟨_, _, _, rfl, _⟩ := h; rfl) | (obtain ⟨_, _, _, _, rfl, _⟩ := h; rfl) | (obtain ⟨_, _, _, _, _, rfl, _⟩ := h; rfl) | (obtain ⟨_, _, _, _, _, _, rfl, _⟩ := h; rfl) | (obtain ⟨_, _, _, _, _, _, _, rfl, _⟩ := h; rfl) | (obtain ⟨_, _, _, _, _, _, _, _, rfl, _⟩ := h; rfl) | (obtain ⟨_, _, _, _, _, _, _, _, _, rfl, _⟩ := h; rfl) | (obtain ⟨_, _, _, _, _, _, _, _, _, _, rfl, _⟩ := h; rfl) | (obtain ⟨_, _, _, _, _, _, _, _, _, _, _, rfl, _⟩ := h; rfl) | (obtain ⟨_, _, _, _, _, _, _, _, _, _, _, _, rfl, _⟩ := h; rfl) | (obtain ⟨_, _, _, _, _, _, _, _, _, _, _, _, _, rfl, _⟩ := h; rfl) | (obtain ⟨_, _, _, _, _, _, _, _, _, _, _, _, _, _, rfl, _⟩ := h; rfl) | (obtain ⟨_, _, _, _, _, _, _, _, _, _, _, _, _, _, _, rfl, _⟩ := h; rfl) | (obtain ⟨_, _, _, _, _, _, _, _, _, _, _, _, _, _, _, _, rfl, _⟩ := h; rfl) | (obtain ⟨_, _, _, _, _, _, _, _, _, _, _, _, _, _, _, _, _, rfl, _⟩ := h; rfl) | (obtain ⟨_, _, _, _, _, _, _, _, _, _, _, _, _, _, _, _, _, _, rfl, _⟩ := h; rfl) | (obtain ⟨_, _, _, _, _, _, _, _, _, _, _, _, _, _, _, _, _, _, _, rfl, _⟩ := h; rfl) | (obtain ⟨_, _, _, _, _, _, _, _, _, _, _, _, _, _, _, _, _, _, _, _, rfl, _⟩ := h; rfl) | (obtain ⟨_, _, _, _, _, _, _, _, _, _, _, _, _, _, _, _, _, _, _, _, _, rfl, _⟩ := h; rfl) | (obtain ⟨_, _, _, _, _, _, _, _, _, _, _, _, _, _, _, _, _, _, _, _, _, _, rfl, _⟩ := h; rfl) | (obtain ⟨_, _, _, _, _, _, _, _, _, _, _, _, _, _, _, _, _, _, _, _, _, _, _, rfl, _⟩ := h; rfl)
  · obtain ⟨i, rfl, q⟩ := h
    refine ⟨_, (pss_one (ps_ret (pe_and (pe_callB call_isi (by rfl) T.b_isinstance (by decide +kernel) (pa_cons (pv 0) (pa_cons (pe_bltn (v := .ty "int") (by rfl) T.b_int (by decide +kernel) rfl) pa_nil))) (pe_one (pe_not (pe_callB call_isi (by rfl) T.b_isinstance (by decide +kernel) (pa_cons (pv 0) (pa_cons (pe_bltn (v := .ty "bool") (by rfl) T.b_bool (by decide +kernel) rfl) pa_nil)))))))), ?_⟩
    refine ⟨_, rfl, _, _, _, _, true, rfl, .ty _, .base (.int i), kit_ty (by decide +kernel), _, rfl, iteT ?_⟩
    exact ⟨_, rfl, _, _, _, _, false, rfl, .ty _, .base (.int i), kit_ty (by decide +kernel), _, rfl, q⟩
theorem ok_is_short_integer (T : Txt K mg C_Form C_Ring C_Element) : Def P w K mg base 2 "is_short_integer" ["value"] (sp_is_short_integer K C_Form C_Ring C_Element) := by
  obtain ⟨f_, fd_, g_, F_⟩ := T.d_is_short_integer
  obtain ⟨f_is_any_integer, fd_is_any_integer, g_is_any_integer, k_is_any_integer, b_is_any_integer, G_is_any_integer⟩ := (ok_is_any_integer (P := P) (w := w) (base := base) T)
  refine ⟨f_, fd_, g_, F_.kp, F_.binds (ps := ["value"]) (fun _ _ _ _ _ _ us hl => match us, hl with | [_], _ => rfl), ?_⟩
  refine F_.ok sc_is_short_integer (fun vs H Q E h => ?_) (fun cdv A outer s H vs Q E hr h => ?_)
  · first | (obtain ⟨rfl, _⟩ := h; rfl) | (obtain ⟨_, rfl, _⟩ := h; rfl) | (obtain ⟨_, _, rfl, _⟩ := h; rfl) | (obtain ⟨_, _, _, rfl, _⟩ := h; rfl) | (obtain ⟨_, _, _, _, rfl, _⟩ := h; rfl) | (obtain ⟨_, _, _, _, _, rfl, _⟩ := h; rfl) | (obtain ⟨_, _, _, _, _, _, rfl, _⟩ := h; rfl) | (obtain ⟨_, _, _, _, _, _, _, rfl, _⟩ := h; rfl) | (obtain ⟨_, _, _, _, _, _, _, _, rfl, _⟩ := h; rfl) | (obtain ⟨_, _, _, _, _, _, _, _, _, rfl, _⟩ := h; rfl) | (obtain ⟨_, _, _, _, _, _, _, _, _, _, rfl, _⟩ := h; rfl) | (obtain ⟨_, _, _, _, _, _, _, _, _, _, _, rfl, _⟩ := h; rfl) | (obtain ⟨_, _, _, _, _, _, _, _, _, _, _, _, rfl, _⟩ := h; rfl) | (obtain ⟨_, _, _, _, _, _, _, _, _, _, _, _, _, rfl, _⟩ := h; rfl) | (obtain ⟨_, _, _, _, _, _, _, _, _, _, _, _, _, _, rfl, _⟩ := h; rfl) | (obtain ⟨_, _, _, _, _, _, _, _, _, _, _, _, _, _, _, rfl, _⟩ := h; rfl) | (obtain ⟨_, _, _, _, _, _, _, _, _, _, _, _, _, _, _, _, rfl, _⟩ := h; rfl) | (obtain ⟨_, _, _, _, _, _, _, _, _, _, _, _, _, _, _, _, _, rfl, _⟩ := h; rfl) | (obtain ⟨_, _, _, _, _, _, _, _, _, _, _, _, _, _, _, _, _, _, rfl, _⟩ := h; rfl) | (obtain ⟨_, _, _, _, _, _, _, _, _, _, _, _, _, _, _, _, _, _, _, rfl, _⟩ := h; rfl) | (obtain ⟨_, _, _, _, _, _, _, _, _, _, _, _, _, _, _, _, _, _, _, _, rfl, _⟩ := h; rfl) | (obtain ⟨_, _, _, _, _, _, _, _, _, _, _, _, _, _, _, _, _, _, _, _, _, rfl, _⟩ := h; rfl) | (obtain ⟨_, _, _, _, _, _, _, _, _, _, _, _, _, _, _, _, _, _, _, _, _, _, rfl, _⟩ := h; rfl) | (obtain ⟨_, _, _, _, _, _, _, _, _, _, _, _, _, _, _, _, _, _, _, _, _, _, _, rfl, _⟩ := h; rfl)
  · obtain ⟨i, rfl, hs, q⟩ := h
    obtain ⟨t_LIMIT, h_LIMIT⟩ := T.x_LIMIT
    refine ⟨_, (pss_one (ps_ret (pe_and (pe_call G_is_any_integer (hr.mono (by decide)) (by rfl) g_is_any_integer k_is_any_integer b_is_any_integer .nil pass0 (pa_cons (pv 0) pa_nil)) (pe_one (pe_chain op_lt op_lt (pe_un un_neg (pe_glob (v := .int 1000000000000000000000000000000000000000000000000000000000000) (by rfl) h_LIMIT ⟨_, rfl⟩)) (pv 0) (pe_glob (v := .int 1000000000000000000000000000000000000000000000000000000000000) (by rfl) h_LIMIT ⟨_, rfl⟩)))))), ?_⟩
    refine ⟨_, rfl, i, rfl, _, rfl, iteT ?_⟩
    refine ⟨_, rfl, _, rfl, _, _, rfl, rfl, _, rfl, dT hs.1 ⟨_, _, rfl, rfl, ?_⟩⟩
    show Q (.bl (decide (i < 1000000000000000000000000000000000000000000000000000000000000))) H
    rw [decide_eq_true hs.2]
    exact q
theorem ok_check_integer (T : Txt K mg C_Form C_Ring C_Element) : Def P w K mg base 3 "check_integer" ["value"] (sp_check_integer K C_Form C_Ring C_Element) := by
  obtain ⟨f_, fd_, g_, F_⟩ := T.d_check_integer
  obtain ⟨f_is_short_integer, fd_is_short_integer, g_is_short_integer, k_is_short_integer, b_is_short_integer, G_is_short_integer⟩ := (ok_is_short_integer (P := P) (w := w) (base := base) T)
  refine ⟨f_, fd_, g_, F_.kp, F_.binds (ps := ["value"]) (fun _ _ _ _ _ _ us hl => match us, hl with | [_], _ => rfl), ?_⟩
  refine F_.ok sc_check_integer (fun vs H Q E h => ?_) (fun cdv A outer s H vs Q E hr h => ?_)
  · first | (obtain ⟨rfl, _⟩ := h; rfl) | (obtain ⟨_, rfl, _⟩ := h; rfl) | (obtain ⟨_, _, rfl, _⟩ := h; rfl) | (obtain ⟨_, _, _, rfl, _⟩ := h; rfl) | (obtain ⟨_, _, _, _, rfl, _⟩ := h; rfl) | (obtain ⟨_, _, _, _, _, rfl, _⟩ := h; rfl) | (obtain ⟨_, _, _, _, _, _, rfl, _⟩ := h; rfl) | (obtain ⟨_, _, _, _, _, _, _, rfl, _⟩ := h; rfl) | (obtain ⟨_, _, _, _, _, _, _, _, rfl, _⟩ := h; rfl) | (obtain ⟨_, _, _, _, _, _, _, _, _, rfl, _⟩ := h; rfl) | (obtain ⟨_, _, _, _, _, _, _, _, _, _, rfl, _⟩ := h; rfl) | (obtain ⟨_, _, _, _, _, _, _, _, _, _, _, rfl, _⟩ := h; rfl) | (obtain ⟨_, _, _, _, _, _, _, _, _, _, _, _, rfl, _⟩ := h; rfl) | (obtain ⟨_, _, _, _, _, _, _, _, _, _, _, _, _, rfl, _⟩ := h; rfl) | (obtain ⟨_, _, _, _, _, _, _, _, _, _, _, _, _, _, rfl, _⟩ := h; rfl) | (obtain ⟨_, _, _, _, _, _, _, _, _, _, _, _, _, _, _, rfl, _⟩ := h; rfl) | (obtain ⟨_, _, _, _, _, _, _, _, _, _, _, _, _, _, _, _, rfl, _⟩ := h; rfl) | (obtain ⟨_, _, _, _, _, _, _, _, _, _, _, _, _, _, _, _, _, rfl, _⟩ := h; rfl) | (obtain ⟨_, _, _, _, _, _, _, _, _, _, _, _, _, _, _, _, _, _, rfl, _⟩ := h; rfl) | (obtain ⟨_, _, _, _, _, _, _, _, _, _, _, _, _, _, _, _, _, _, _, rfl, _⟩ := h; rfl) | (obtain ⟨_, _, _, _, _, _, _, _, _, _, _, _, _, _, _, _, _, _, _, _, rfl, _⟩ := h; rfl) | (obtain ⟨_, _, _, _, _, _, _, _, _, _, _, _, _, _, _, _, _, _, _, _, _, rfl, _⟩ := h; rfl) | (obtain ⟨_, _, _, _, _, _, _, _, _, _, _, _, _, _, _, _, _, _, _, _, _, _, rfl, _⟩ := h; rfl) | (obtain ⟨_, _, _, _, _, _, _, _, _, _, _, _, _, _, _, _, _, _, _, _, _, _, _, rfl, _⟩ := h; rfl)
  · obtain ⟨i, rfl, hs, q⟩ := h
    refine ⟨_, (pss_one (ps_if (pt_not (pt_val (pe_call G_is_short_integer (hr.mono (by decide)) (by rfl) g_is_short_integer k_is_short_integer b_is_short_integer .nil pass0 (pa_cons (pv 0) pa_nil))))
      pss_never
      pss_nil)), ?_⟩
    refine ⟨_, rfl, i, rfl, hs, _, rfl, ?_⟩
    exact iteF q
theorem ok_are_short_integers (T : Txt K mg C_Form C_Ring C_Element) : Def P w K mg base 3 "are_short_integers" ["value", "many"] (sp_are_short_integers K C_Form C_Ring C_Element) := by
  obtain ⟨f_, fd_, g_, F_⟩ := T.d_are_short_integers
  refine ⟨f_, fd_, g_, F_.kp, F_.binds (ps := ["value", "many"]) (fun _ _ _ _ _ _ us hl => match us, hl with | [_, _], _ => rfl), ?_⟩
  refine F_.ok sc_are_short_integers (fun vs H Q E h => ?_) (fun cdv A outer s H vs Q E hr h => ?_)
  · first | (obtain ⟨rfl, _⟩ := h; rfl) | (obtain ⟨_, rfl, _⟩ := h; rfl) | (obtain ⟨_, _, rfl, _⟩ := h; rfl) | (obtain ⟨_, _, _, rfl, _⟩ := h; rfl) | (obtain ⟨_, _, _, _, rfl, _⟩ := h; rfl) | (obtain ⟨_, _, _, _, _, rfl, _⟩ := h; rfl) | (obtain ⟨_, _, _, _, _, _, rfl, _⟩ := h; rfl) | (obtain ⟨_, _, _, _, _, _, _, rfl, _⟩ := h; rfl) | (obtain ⟨_, _, _, _, _, _, _, _, rfl, _⟩ := h; rfl) | (obtain ⟨_, _, _, _, _, _, _, _, _, rfl, _⟩ := h; rfl) | (obtain ⟨_, _, _, _, _, _, _, _, _, _, rfl, _⟩ := h; rfl) | (obtain ⟨_, _, _, _, _, _, _, _, _, _, _, rfl, _⟩ := h; rfl) | (obtain ⟨_, _, _, _, _, _, _, _, _, _, _, _, rfl, _⟩ := h; rfl) | (obtain ⟨_, _, _, _, _, _, _, _, _, _, _, _, _, rfl, _⟩ := h; rfl) | (obtain ⟨_, _, _, _, _, _, _, _, _, _, _, _, _, _, rfl, _⟩ := h; rfl) | (obtain ⟨_, _, _, _, _, _, _, _, _, _, _, _, _, _, _, rfl, _⟩ := h; rfl) | (obtain ⟨_, _, _, _, _, _, _, _, _, _, _, _, _, _, _, _, rfl, _⟩ := h; rfl) | (obtain ⟨_, _, _, _, _, _, _, _, _, _, _, _, _, _, _, _, _, rfl, _⟩ := h; rfl) | (obtain ⟨_, _, _, _, _, _, _, _, _, _, _, _, _, _, _, _, _, _, rfl, _⟩ := h; rfl) | (obtain ⟨_, _, _, _, _, _, _, _, _, _, _, _, _, _, _, _, _, _, _, rfl, _⟩ := h; rfl) | (obtain ⟨_, _, _, _, _, _, _, _, _, _, _, _, _, _, _, _, _, _, _, _, rfl, _⟩ := h; rfl) | (obtain ⟨_, _, _, _, _, _, _, _, _, _, _, _, _, _, _, _, _, _, _, _, _, rfl, _⟩ := h; rfl) | (obtain ⟨_, _, _, _, _, _, _, _, _, _, _, _, _, _, _, _, _, _, _, _, _, _, rfl, _⟩ := h; rfl) | (obtain ⟨_, _, _, _, _, _, _, _, _, _, _, _, _, _, _, _, _, _, _, _, _, _, _, rfl, _⟩ := h; rfl)
  · obtain ⟨a, ns, rfl, ha, hl, hs, q⟩ := h
    obtain ⟨t_LIMIT, h_LIMIT⟩ := T.x_LIMIT
    refine ⟨_, (pss_cons (ps_if (PW.pt (pw_or (pt_not (pt_val (pe_callB call_isi (by rfl) T.b_isinstance (by decide +kernel) (pa_cons (pv 0) (pa_cons (pe_bltn (v := .ty "tuple") (by rfl) T.b_tuple (by decide +kernel) rfl) pa_nil))))) (pw_or1 (pt_cmpR op_ne (pe_callB call_len_seq (by rfl) T.b_len PySem.boot_len (pa_cons (pv 0) pa_nil)) (pv 1) (nomark _)))))
      (pss_one (ps_ret pe_bl))
      pss_nil)
    (pss_one (ps_ret (pe_callB (cr_all rfl) (by rfl) T.b_all (by decide +kernel) (pa_cons (pe_lc (own := [("n", 2)]) (g := (gName 2)) rfl sc_are_short_integers.nd (pi_tup (pv 0)) (blkOk_by (N := N_are_short_integers) (sc := defScope s_are_short_integers) (by decide +kernel)) (fun _ _ _ _ _ => (pg_name (i := 2) sc_are_short_integers.nd rfl (.inl rfl))) (fun _ _ _ _ _ => pts_nil) (fun _ _ _ _ _ => (pe_and (pe_callB (call_isiKK (K := K) rfl) (by rfl) T.b_isinstance (by decide +kernel) (pa_cons (pv 2) (pa_cons (pe_bltn (v := .ty "int") (by rfl) T.b_int (by decide +kernel) rfl) pa_nil))) (pe_and (pe_not (pe_callB (call_isiKK (K := K) rfl) (by rfl) T.b_isinstance (by decide +kernel) (pa_cons (pv 2) (pa_cons (pe_bltn (v := .ty "bool") (by rfl) T.b_bool (by decide +kernel) rfl) pa_nil)))) (pe_one (pe_chain op_lt op_lt (pe_un un_neg (pe_glob (v := .int 1000000000000000000000000000000000000000000000000000000000000) (by rfl) h_LIMIT ⟨_, rfl⟩)) (pv 2) (pe_glob (v := .int 1000000000000000000000000000000000000000000000000000000000000) (by rfl) h_LIMIT ⟨_, rfl⟩))))))) pa_nil))))), ?_⟩
    refine ⟨_, rfl, _, _, _, _, true, rfl, .ty _, .base (.tup ha), kit_ty (by decide +kernel), _, rfl, ?_⟩
    refine iteF ⟨_, rfl, a, _, rfl, .inr (SqT.of ha), _, rfl, rfl, _, rfl, ?_⟩
    refine ndF (by rw [List.length_map]) ?_
    refine ⟨_, rfl, a, rfl, ⟨_, SqT.of ha⟩, ?_⟩
    refine lcT fm0 trivial (SqT.of ha) (fun z => z) (fun i acc _ => acc = (List.replicate i true).map V.bl) (fun _ _ => rfl) (fun D i x acc H' hD hx e hA hlen hp => ?_) (fun D H' acc hD e hA hp => ?_)
    · obtain ⟨n, hn, rfl⟩ := get_int hx
      have hi := (List.getElem?_eq_some_iff.mp hn).1
      refine ⟨rfl, ?_⟩
      have hn2 := hs n (List.mem_of_getElem? hn)
      refine ⟨_, rfl, _, _, _, _, true, rfl, .ty _, .base (.int n), kit_ty (by decide +kernel), _, rfl, iteT ?_⟩
      refine ⟨_, rfl, _, _, _, _, false, rfl, .ty _, .base (.int n), kit_ty (by decide +kernel), _, rfl, _, rfl, iteT ?_⟩
      refine ⟨_, rfl, _, rfl, _, _, rfl, rfl, _, rfl, dT hn2.1 ⟨_, _, rfl, rfl, ?_⟩⟩
      simp only [decide_eq_true hn2.2]
      refine cs_yes fm0 trivial hD e hA hlen (by omega) (Fx.refl trivial) ?_
      show acc ++ [V.bl true] = _
      rw [hp, List.replicate_succ', List.map_append]
      rfl
    · rw [List.length_map] at hp
      subst hp
      refine ⟨D, _, rfl, SqL.of hA, ?_⟩
      rw [show ((List.replicate ns.length true).all id) = true by simp]
      exact q H' e
theorem ok_shared_divisor (T : Txt K mg C_Form C_Ring C_Element) : Def P w K mg base 1 "shared_divisor" ["numbers"] (sp_shared_divisor K C_Form C_Ring C_Element) := by
  obtain ⟨f_, fd_, g_, F_⟩ := T.d_shared_divisor
  refine ⟨f_, fd_, g_, F_.kp, F_.binds (ps := ["numbers"]) (fun _ _ _ _ _ _ us hl => match us, hl with | [_], _ => rfl), ?_⟩
  refine F_.ok sc_shared_divisor (fun vs H Q E h => ?_) (fun cdv A outer s H vs Q E hr h => ?_)
  · first | (obtain ⟨rfl, _⟩ := h; rfl) | (obtain ⟨_, rfl, _⟩ := h; rfl) | (obtain ⟨_, _, rfl, _⟩ := h; rfl) | (obtain ⟨_, _, _, rfl, _⟩ := h; rfl) | (obtain ⟨_, _, _, _, rfl, _⟩ := h; rfl) | (obtain ⟨_, _, _, _, _, rfl, _⟩ := h; rfl) | (obtain ⟨_, _, _, _, _, _, rfl, _⟩ := h; rfl) | (obtain ⟨_, _, _, _, _, _, _, rfl, _⟩ := h; rfl) | (obtain ⟨_, _, _, _, _, _, _, _, rfl, _⟩ := h; rfl) | (obtain ⟨_, _, _, _, _, _, _, _, _, rfl, _⟩ := h; rfl) | (obtain ⟨_, _, _, _, _, _, _, _, _, _, rfl, _⟩ := h; rfl) | (obtain ⟨_, _, _, _, _, _, _, _, _, _, _, rfl, _⟩ := h; rfl) | (obtain ⟨_, _, _, _, _, _, _, _, _, _, _, _, rfl, _⟩ := h; rfl) | (obtain ⟨_, _, _, _, _, _, _, _, _, _, _, _, _, rfl, _⟩ := h; rfl) | (obtain ⟨_, _, _, _, _, _, _, _, _, _, _, _, _, _, rfl, _⟩ := h; rfl) | (obtain ⟨_, _, _, _, _, _, _, _, _, _, _, _, _, _, _, rfl, _⟩ := h; rfl) | (obtain ⟨_, _, _, _, _, _, _, _, _, _, _, _, _, _, _, _, rfl, _⟩ := h; rfl) | (obtain ⟨_, _, _, _, _, _, _, _, _, _, _, _, _, _, _, _, _, rfl, _⟩ := h; rfl) | (obtain ⟨_, _, _, _, _, _, _, _, _, _, _, _, _, _, _, _, _, _, rfl, _⟩ := h; rfl) | (obtain ⟨_, _, _, _, _, _, _, _, _, _, _, _, _, _, _, _, _, _, _, rfl, _⟩ := h; rfl) | (obtain ⟨_, _, _, _, _, _, _, _, _, _, _, _, _, _, _, _, _, _, _, _, rfl, _⟩ := h; rfl) | (obtain ⟨_, _, _, _, _, _, _, _, _, _, _, _, _, _, _, _, _, _, _, _, _, rfl, _⟩ := h; rfl) | (obtain ⟨_, _, _, _, _, _, _, _, _, _, _, _, _, _, _, _, _, _, _, _, _, _, rfl, _⟩ := h; rfl) | (obtain ⟨_, _, _, _, _, _, _, _, _, _, _, _, _, _, _, _, _, _, _, _, _, _, _, rfl, _⟩ := h; rfl)
  · obtain ⟨a, ns, rfl, ha, q⟩ := h
    refine ⟨_, (pss_cons (ps_set (i := 1) sc_shared_divisor.nd rfl (.inl rfl) pe_int)
    (pss_cons (ps_for PassesOwn.never rfl (pi_tup (pv 0)) (pg_name (i := 2) sc_shared_divisor.nd rfl (.inl rfl))
      (pss_one (ps_set (i := 1) sc_shared_divisor.nd rfl (.inl rfl) (pe_callBfun cr_gcd (by rfl) T.m_gcd (pa_cons (pv 1) (pa_cons (pv 2) pa_nil))))))
    (pss_one (ps_ret (pv 1))))), ?_⟩
    refine ⟨_, rfl, a, rfl, ⟨_, ha⟩, for_tup (xs := ns.map V.int) (fun i σ H' => ∃ y2, σ = [some (.ref a), some (.int (gcdL (ns.take i) : Nat)), y2] ∧ H = H') ⟨none, rfl, rfl⟩ (fun i σ H' _ ⟨_, _, e⟩ => e ▸ ha) ?_ ?_⟩
    · rintro i x σ H' hx ⟨y2, rfl, rfl⟩
      obtain ⟨n, hn, rfl⟩ := get_int hx
      refine ⟨_, rfl, _, rfl, _, _, rfl, ?_⟩
      refine ⟨some (.int n), ?_, rfl⟩
      rw [gcdL_take hn]
      rfl
    · rintro σ H' ⟨y2, rfl, rfl⟩
      refine ⟨_, rfl, ?_⟩
      rw [List.length_map, List.take_length]
      exact q
end
end RG
namespace RG
open PySem PySem.Spec PyProof.Rows L2 Fr
theorem putF_same {u v : V} : putF ("_coefficients" : Str) v [(("_coefficients" : Str), u)] = [(("_coefficients" : Str), v)] := by simp [putF]
theorem lk_same {x : Str} {u : V} : List.lookup x [(x, u)] = some u := by simp [List.lookup]
section
variable {P : Program} {w : World} {K : PySem.W.Frag} {mg : Str → Option Value} {base : Heap} {C_Form C_Ring C_Element : Addr}
theorem ok_Form___init__ (T : Txt K mg C_Form C_Ring C_Element) : MDef (fun p f => Mk K C_Form f) P w K mg base 4 ["self", "coefficients"] (sp_Form___init__ K C_Form C_Ring C_Element) := by
  obtain ⟨p_, f_, fd_, R_, F_⟩ := T.e_Form___init__
  obtain ⟨f_are_short_integers, fd_are_short_integers, g_are_short_integers, k_are_short_integers, b_are_short_integers, G_are_short_integers⟩ := (ok_are_short_integers (P := P) (w := w) (base := base) T)
  refine ⟨p_, f_, fd_, R_, F_.binds (ps := ["self", "coefficients"]) (fun _ _ _ _ _ _ us hl => match us, hl with | [_, _], _ => rfl), ?_⟩
  refine F_.ok sc_Form___init__ (fun vs H Q E h => ?_) (fun cdv A outer s H vs Q E hr h => ?_)
  · first | (obtain ⟨rfl, _⟩ := h; rfl) | (obtain ⟨_, rfl, _⟩ := h; rfl) | (obtain ⟨_, _, rfl, _⟩ := h; rfl) | (obtain ⟨_, _, _, rfl, _⟩ := h; rfl) | (obtain ⟨_, _, _, _, rfl, _⟩ := h; rfl) | (obtain ⟨_, _, _, _, _, rfl, _⟩ := h; rfl) | (obtain ⟨_, _, _, _, _, _, rfl, _⟩ := h; rfl) | (obtain ⟨_, _, _, _, _, _, _, rfl, _⟩ := h; rfl) | (obtain ⟨_, _, _, _, _, _, _, _, rfl, _⟩ := h; rfl) | (obtain ⟨_, _, _, _, _, _, _, _, _, rfl, _⟩ := h; rfl) | (obtain ⟨_, _, _, _, _, _, _, _, _, _, rfl, _⟩ := h; rfl) | (obtain ⟨_, _, _, _, _, _, _, _, _, _, _, rfl, _⟩ := h; rfl) | (obtain ⟨_, _, _, _, _, _, _, _, _, _, _, _, rfl, _⟩ := h; rfl) | (obtain ⟨_, _, _, _, _, _, _, _, _, _, _, _, _, rfl, _⟩ := h; rfl) | (obtain ⟨_, _, _, _, _, _, _, _, _, _, _, _, _, _, rfl, _⟩ := h; rfl) | (obtain ⟨_, _, _, _, _, _, _, _, _, _, _, _, _, _, _, rfl, _⟩ := h; rfl) | (obtain ⟨_, _, _, _, _, _, _, _, _, _, _, _, _, _, _, _, rfl, _⟩ := h; rfl) | (obtain ⟨_, _, _, _, _, _, _, _, _, _, _, _, _, _, _, _, _, rfl, _⟩ := h; rfl) | (obtain ⟨_, _, _, _, _, _, _, _, _, _, _, _, _, _, _, _, _, _, rfl, _⟩ := h; rfl) | (obtain ⟨_, _, _, _, _, _, _, _, _, _, _, _, _, _, _, _, _, _, _, rfl, _⟩ := h; rfl) | (obtain ⟨_, _, _, _, _, _, _, _, _, _, _, _, _, _, _, _, _, _, _, _, rfl, _⟩ := h; rfl) | (obtain ⟨_, _, _, _, _, _, _, _, _, _, _, _, _, _, _, _, _, _, _, _, _, rfl, _⟩ := h; rfl) | (obtain ⟨_, _, _, _, _, _, _, _, _, _, _, _, _, _, _, _, _, _, _, _, _, _, rfl, _⟩ := h; rfl) | (obtain ⟨_, _, _, _, _, _, _, _, _, _, _, _, _, _, _, _, _, _, _, _, _, _, _, rfl, _⟩ := h; rfl)
  · obtain ⟨x, dx, t, ns, rfl, hx, ht, hl, hs, q⟩ := h
    refine ⟨_, (pss_cons (ps_if (pt_not (pt_val (pe_call G_are_short_integers (hr.mono (by decide)) (by rfl) g_are_short_integers k_are_short_integers b_are_short_integers .nil pass0 (pa_cons (pv 1) (pa_cons pe_int pa_nil)))))
      pss_never
      pss_nil)
    (pss_one (ps_fld (pv 0) (pe_callTy call_tuple_of (by rfl) T.b_tuple (by decide +kernel) (pa_cons (pv 1) pa_nil)) (by rfl)))), ?_⟩
    refine ⟨_, rfl, t, ns, by rw [hl]; rfl, ht, by omega, hs, fun H1 e1 => ⟨_, rfl, ?_⟩⟩
    refine iteF ⟨_, rfl, t, _, rfl, .inr ⟨SqT.of (Ex0.ti e1 ht), ?_⟩⟩
    refine ⟨_, rfl, x, C_Form, dx, _, rfl, e1.ap hx, T.cl_Form, T.na_Form_coefficients, (by decide : (0:Nat) < 1000), ?_⟩
    exact q _ (fun b o n e => by rw [upd_ne n]; exact e1.ap e) upd_same
theorem ok_Form_coefficients (T : Txt K mg C_Form C_Ring C_Element) : MDef (fun p f => PropOf K C_Form "coefficients" p f) P w K mg base 1 ["self"] (sp_Form_coefficients K C_Form C_Ring C_Element) := by
  obtain ⟨p_, f_, fd_, R_, F_⟩ := T.e_Form_coefficients
  refine ⟨p_, f_, fd_, R_, F_.binds (ps := ["self"]) (fun _ _ _ _ _ _ us hl => match us, hl with | [_], _ => rfl), ?_⟩
  refine F_.ok sc_Form_coefficients (fun vs H Q E h => ?_) (fun cdv A outer s H vs Q E hr h => ?_)
  · first | (obtain ⟨rfl, _⟩ := h; rfl) | (obtain ⟨_, rfl, _⟩ := h; rfl) | (obtain ⟨_, _, rfl, _⟩ := h; rfl) | (obtain ⟨_, _, _, rfl, _⟩ := h; rfl) | (obtain ⟨_, _, _, _, rfl, _⟩ := h; rfl) | (obtain ⟨_, _, _, _, _, rfl, _⟩ := h; rfl) | (obtain ⟨_, _, _, _, _, _, rfl, _⟩ := h; rfl) | (obtain ⟨_, _, _, _, _, _, _, rfl, _⟩ := h; rfl) | (obtain ⟨_, _, _, _, _, _, _, _, rfl, _⟩ := h; rfl) | (obtain ⟨_, _, _, _, _, _, _, _, _, rfl, _⟩ := h; rfl) | (obtain ⟨_, _, _, _, _, _, _, _, _, _, rfl, _⟩ := h; rfl) | (obtain ⟨_, _, _, _, _, _, _, _, _, _, _, rfl, _⟩ := h; rfl) | (obtain ⟨_, _, _, _, _, _, _, _, _, _, _, _, rfl, _⟩ := h; rfl) | (obtain ⟨_, _, _, _, _, _, _, _, _, _, _, _, _, rfl, _⟩ := h; rfl) | (obtain ⟨_, _, _, _, _, _, _, _, _, _, _, _, _, _, rfl, _⟩ := h; rfl) | (obtain ⟨_, _, _, _, _, _, _, _, _, _, _, _, _, _, _, rfl, _⟩ := h; rfl) | (obtain ⟨_, _, _, _, _, _, _, _, _, _, _, _, _, _, _, _, rfl, _⟩ := h; rfl) | (obtain ⟨_, _, _, _, _, _, _, _, _, _, _, _, _, _, _, _, _, rfl, _⟩ := h; rfl) | (obtain ⟨_, _, _, _, _, _, _, _, _, _, _, _, _, _, _, _, _, _, rfl, _⟩ := h; rfl) | (obtain ⟨_, _, _, _, _, _, _, _, _, _, _, _, _, _, _, _, _, _, _, rfl, _⟩ := h; rfl) | (obtain ⟨_, _, _, _, _, _, _, _, _, _, _, _, _, _, _, _, _, _, _, _, rfl, _⟩ := h; rfl) | (obtain ⟨_, _, _, _, _, _, _, _, _, _, _, _, _, _, _, _, _, _, _, _, _, rfl, _⟩ := h; rfl) | (obtain ⟨_, _, _, _, _, _, _, _, _, _, _, _, _, _, _, _, _, _, _, _, _, _, rfl, _⟩ := h; rfl) | (obtain ⟨_, _, _, _, _, _, _, _, _, _, _, _, _, _, _, _, _, _, _, _, _, _, _, rfl, _⟩ := h; rfl)
  · obtain ⟨x, ns, rfl, ⟨dx, t, hx, ht⟩, q⟩ := h
    refine ⟨_, (pss_one (ps_ret (pe_fld (pv 0) (by rfl)))), ?_⟩
    exact ⟨_, rfl, x, C_Form, dx, _, .ref t, rfl, hx, T.cl_Form, T.na_Form_coefficients, lk_same, q t ht⟩
theorem ok_Form___eq__ (T : Txt K mg C_Form C_Ring C_Element) : MDef (fun p f => EqC K C_Form f) P w K mg base 1 ["self", "other"] (sp_Form___eq__ K C_Form C_Ring C_Element) := by
  obtain ⟨p_, f_, fd_, R_, F_⟩ := T.e_Form___eq__
  refine ⟨p_, f_, fd_, R_, F_.binds (ps := ["self", "other"]) (fun _ _ _ _ _ _ us hl => match us, hl with | [_, _], _ => rfl), ?_⟩
  refine F_.ok sc_Form___eq__ (fun vs H Q E h => ?_) (fun cdv A outer s H vs Q E hr h => ?_)
  · first | (obtain ⟨rfl, _⟩ := h; rfl) | (obtain ⟨_, rfl, _⟩ := h; rfl) | (obtain ⟨_, _, rfl, _⟩ := h; rfl) | (obtain ⟨_, _, _, rfl, _⟩ := h; rfl) | (obtain ⟨_, _, _, _, rfl, _⟩ := h; rfl) | (obtain ⟨_, _, _, _, _, rfl, _⟩ := h; rfl) | (obtain ⟨_, _, _, _, _, _, rfl, _⟩ := h; rfl) | (obtain ⟨_, _, _, _, _, _, _, rfl, _⟩ := h; rfl) | (obtain ⟨_, _, _, _, _, _, _, _, rfl, _⟩ := h; rfl) | (obtain ⟨_, _, _, _, _, _, _, _, _, rfl, _⟩ := h; rfl) | (obtain ⟨_, _, _, _, _, _, _, _, _, _, rfl, _⟩ := h; rfl) | (obtain ⟨_, _, _, _, _, _, _, _, _, _, _, rfl, _⟩ := h; rfl) | (obtain ⟨_, _, _, _, _, _, _, _, _, _, _, _, rfl, _⟩ := h; rfl) | (obtain ⟨_, _, _, _, _, _, _, _, _, _, _, _, _, rfl, _⟩ := h; rfl) | (obtain ⟨_, _, _, _, _, _, _, _, _, _, _, _, _, _, rfl, _⟩ := h; rfl) | (obtain ⟨_, _, _, _, _, _, _, _, _, _, _, _, _, _, _, rfl, _⟩ := h; rfl) | (obtain ⟨_, _, _, _, _, _, _, _, _, _, _, _, _, _, _, _, rfl, _⟩ := h; rfl) | (obtain ⟨_, _, _, _, _, _, _, _, _, _, _, _, _, _, _, _, _, rfl, _⟩ := h; rfl) | (obtain ⟨_, _, _, _, _, _, _, _, _, _, _, _, _, _, _, _, _, _, rfl, _⟩ := h; rfl) | (obtain ⟨_, _, _, _, _, _, _, _, _, _, _, _, _, _, _, _, _, _, _, rfl, _⟩ := h; rfl) | (obtain ⟨_, _, _, _, _, _, _, _, _, _, _, _, _, _, _, _, _, _, _, _, rfl, _⟩ := h; rfl) | (obtain ⟨_, _, _, _, _, _, _, _, _, _, _, _, _, _, _, _, _, _, _, _, _, rfl, _⟩ := h; rfl) | (obtain ⟨_, _, _, _, _, _, _, _, _, _, _, _, _, _, _, _, _, _, _, _, _, _, rfl, _⟩ := h; rfl) | (obtain ⟨_, _, _, _, _, _, _, _, _, _, _, _, _, _, _, _, _, _, _, _, _, _, _, rfl, _⟩ := h; rfl)
  · obtain ⟨x, y, ns, ms, rfl, ⟨dx, t, hx, ht⟩, ⟨dy, u, hy, hu⟩, q⟩ := h
    refine ⟨_, (pss_one (ps_ret (pe_and (pe_callB call_isi (by rfl) T.b_isinstance (by decide +kernel) (pa_cons (pv 1) (pa_cons (pe_glob (v := .ref C_Form) (by rfl) T.g_Form rfl) pa_nil))) (pe_one (pe_cmpR (op_eqD hr.units) (pe_fld (pv 0) (by rfl)) (pe_fld (pv 1) (by rfl)) (nomark _)))))), ?_⟩
    refine ⟨_, rfl, _, _, _, _, true, rfl, .own _, ty_ins T.ty_Form T.cl_Form hy, kit_self, _, rfl, ?_⟩
    refine ⟨_, rfl, x, C_Form, dx, _, .ref t, rfl, hx, T.cl_Form, T.na_Form_coefficients, lk_same, _, rfl, y, C_Form, dy, _, .ref u, rfl, hy, T.cl_Form, T.na_Form_coefficients, lk_same, ?_⟩
    refine ⟨.tuple (ns.map .int), .tuple (ms.map .int), .tup (SqT.of ht) (dp_ints _), .tup (SqT.of hu) (dp_ints _), shaped_tints _, shaped_tints _, ?_⟩
    rw [PyData.eqv, eqv_ints]
    exact q
end
end RG
namespace RG
open PySem PySem.Spec PyProof.Rows L2 Fr
def Low (u y z b u' y' z' b' : Int) : Prop := ∃ g : Int, u = g * u' ∧ y = g * y' ∧ z = g * z' ∧ b = g * b' ∧ 0 < b' ∧ Nat.gcd (gcdL [u', y', z']) b'.natAbs = 1
def B4 (n : Nat) (a b c d : Int) : Prop := B n a ∧ B n b ∧ B n c ∧ B n d
def B3 (n : Nat) (a b c : Int) : Prop := B n a ∧ B n b ∧ B n c
section
def sp_fraction (_ : PySem.W.Frag) (C C_R C_E : Addr) : Sp := fun vs H Q _ => ∃ a b : Int, vs = [.int a, .int b] ∧ 0 < b ∧ b < 2 ^ 3000 ∧ ∀ x H' p q g, 0 < g → a = g * p → b = g * q → Nat.gcd p.natAbs q.natAbs = 1 → Ex0 H H' → Ti H' x [p, q] → Q (.ref x) H'
def sp_check_form (_ : PySem.W.Frag) (C C_R C_E : Addr) : Sp := fun vs H Q _ => ∃ (x : Addr) (ns : List Int), vs = [.ref x] ∧ FormAt C H x ns ∧ Q .non H
def sp_check_bottom (_ : PySem.W.Frag) (C C_R C_E : Addr) : Sp := fun vs H Q _ => ∃ i : Int, vs = [.int i] ∧ Short i ∧ i ≠ 0 ∧ Q .non H
def sp_table_of (_ : PySem.W.Frag) (C C_R C_E : Addr) : Sp := fun vs H Q _ => ∃ (t : Addr) (a b c d : Int), vs = [.ref t] ∧ Ti H t [a, b, c, d] ∧ B4 1000 a b c d ∧ ∀ x H', Ex0 H H' → T33 H' x (w1 a b c d) (w2 a b c d) (w3 a b c d) → Q (.ref x) H'
def sp_product_by (K : PySem.W.Frag) (C C_R C_E : Addr) : Sp := fun vs H Q _ => ∃ (t l r : Addr) (a b c d e f g h i u x y v z s : Int), vs = [.ref t, .ref l, .ref r] ∧ T33 H t [a, b, c] [d, e, f] [g, h, i] ∧ Tq K H l [u, x, y] ∧ Tq K H r [v, z, s] ∧ B3 2100 a b c ∧ B3 2100 d e f ∧ B3 2100 g h i ∧ B3 9000 u x y ∧ B3 1000 v z s ∧ ∀ o H', Ex0 H H' → Ti H' o [m0 a d g u x y v z s, m1 b e h u x y v z s, m2 c f i u x y v z s] → Q (.ref o) H'
def sp_map_by (K : PySem.W.Frag) (C C_R C_E : Addr) : Sp := fun vs H Q _ => ∃ (t l : Addr) (a b c d e f g h i u x y : Int), vs = [.ref t, .ref l] ∧ T33 H t [a, b, c] [d, e, f] [g, h, i] ∧ Tq K H l [u, x, y] ∧ B3 2100 a b c ∧ B3 2100 d e f ∧ B3 2100 g h i ∧ B3 9000 u x y ∧ ∀ o H', Ex0 H H' → M33 K H' o [m0 a d g u x y 1 0 0, m1 b e h u x y 1 0 0, m2 c f i u x y 1 0 0] [m0 a d g u x y 0 1 0, m1 b e h u x y 0 1 0, m2 c f i u x y 0 1 0] [m0 a d g u x y 0 0 1, m1 b e h u x y 0 0 1, m2 c f i u x y 0 0 1] → Q (.ref o) H'
def sp_trace_by (K : PySem.W.Frag) (C C_R C_E : Addr) : Sp := fun vs H Q _ => ∃ (t l : Addr) (a b c d e f g h i u x y : Int), vs = [.ref t, .ref l] ∧ T33 H t [a, b, c] [d, e, f] [g, h, i] ∧ Tq K H l [u, x, y] ∧ B3 2100 a b c ∧ B3 2100 d e f ∧ B3 2100 g h i ∧ B3 9000 u x y ∧ ∀ H', Ex0 H H' → Q (.int (m0 a d g u x y 1 0 0 + m1 b e h u x y 0 1 0 + m2 c f i u x y 0 0 1)) H'
def sp_table_for (_ : PySem.W.Frag) (C C_R C_E : Addr) : Sp := fun vs H Q _ => ∃ (r : Addr) (a b c d : Int), vs = [.ref r] ∧ RingAt C C_R H r [a, b, c, d] ∧ B4 1000 a b c d ∧ ∀ x H', Ex0 H H' → T33 H' x (w1 a b c d) (w2 a b c d) (w3 a b c d) → Q (.ref x) H'
def sp_Ring___init__ (_ : PySem.W.Frag) (C C_R C_E : Addr) : Sp := fun vs H Q _ => ∃ (x dx f : Addr) (ns : List Int), vs = [.ref x, .ref f] ∧ H x = some (.ins C_R dx []) ∧ FormAt C H f ns ∧ ∀ H', (∀ b o, b ≠ x → H b = some o → H' b = some o) → H' x = some (.ins C_R dx [(("_form" : Str), .ref f)]) → Q .non H'
def sp_Ring_form (_ : PySem.W.Frag) (C C_R C_E : Addr) : Sp := fun vs H Q _ => ∃ (r : Addr) (ns : List Int), vs = [.ref r] ∧ RingAt C C_R H r ns ∧ ∀ f, FormAt C H f ns → Q (.ref f) H
def sp_Ring___eq__ (K : PySem.W.Frag) (C C_R C_E : Addr) : Sp := fun vs H Q _ => ∃ (x : Addr) (w : V) (ns : List Int), vs = [.ref x, w] ∧ RingAt C C_R H x ns ∧ ((∃ (y : Addr) (ms : List Int), w = .ref y ∧ RingAt C C_R H y ms ∧ Q (.bl (decide (ns = ms))) H) ∨ (∃ t, PySem.W.kitOne K t (.ref C_R) = some false ∧ TyX K H w t ∧ Q (.bl false) H))
def sp_Ring_element (K : PySem.W.Frag) (C C_R C_E : Addr) : Sp := fun vs H Q _ => ∃ (r t : Addr) (ns : List Int) (u y z b : Int), vs = [.ref r, .ref t, .int b] ∧ RingAt C C_R H r ns ∧ Ti H t [u, y, z] ∧ Short u ∧ Short y ∧ Short z ∧ Short b ∧ b ≠ 0 ∧ ∀ x H' u' y' z' b', Low u y z b u' y' z' b' → Ex0 H H' → ElAt C C_R C_E H' x ns u' y' z' b' → Q (.ref x) H'
def sp_check_one_ring (_ : PySem.W.Frag) (C C_R C_E : Addr) : Sp := fun vs H Q _ => ∃ (x x' : Addr) (ns : List Int) (u y z b v s r e : Int), vs = [.ref x, .ref x'] ∧ ElAt C C_R C_E H x ns u y z b ∧ ElAt C C_R C_E H x' ns v s r e ∧ Q .non H
def sp_Element___init__ (K : PySem.W.Frag) (C C_R C_E : Addr) : Sp := fun vs H Q _ => ∃ (x dx r t : Addr) (u y z b : Int), vs = [.ref x, .ref r, .ref t, .int b] ∧ H x = some (.ins C_E dx []) ∧ Tq K H t [u, y, z] ∧ b ≠ 0 ∧ B 3000 b ∧ ∀ H' t' u' y' z' b', Low u y z b u' y' z' b' → (∀ c o, c ≠ x → H c = some o → H' c = some o) → t' ≠ x → H' x = some (.ins C_E dx [(("_ring" : Str), .ref r), (("_entries" : Str), .ref t'), (("_bottom" : Str), .int b')]) → Ti H' t' [u', y', z'] → Q .non H'
def sp_Element_ring (_ : PySem.W.Frag) (C C_R C_E : Addr) : Sp := fun vs H Q _ => ∃ (x : Addr) (ns : List Int) (u y z b : Int), vs = [.ref x] ∧ ElAt C C_R C_E H x ns u y z b ∧ ∀ r, RingAt C C_R H r ns → Q (.ref r) H
def sp_Element_trace (_ : PySem.W.Frag) (C C_R C_E : Addr) : Sp := fun vs H Q _ => ∃ (x : Addr) (a b c d u y z e : Int), vs = [.ref x] ∧ ElAt C C_R C_E H x [a, b, c, d] u y z e ∧ B4 1000 a b c d ∧ B3 9000 u y z ∧ 0 < e ∧ e < 2 ^ 3000 ∧ ∀ o H' p q g, 0 < g → tr a b c d u y z = g * p → e = g * q → Nat.gcd p.natAbs q.natAbs = 1 → Ex0 H H' → Ti H' o [p, q] → Q (.ref o) H'
def sp_Element___mul__ (_ : PySem.W.Frag) (C C_R C_E : Addr) : Sp := fun vs H Q _ => ∃ (x x' : Addr) (a b c d u y z e v s r f : Int), vs = [.ref x, .ref x'] ∧ ElAt C C_R C_E H x [a, b, c, d] u y z e ∧ ElAt C C_R C_E H x' [a, b, c, d] v s r f ∧ B4 1000 a b c d ∧ B3 9000 u y z ∧ B3 1000 v s r ∧ B 1000 e ∧ B 1000 f ∧ e * f ≠ 0 ∧ ∀ o H' u' y' z' b', Low (m0 (-a * c) (-a * d) (-b * d) u y z v s r) (m1 b 0 d u y z v s r) (m2 (-a) 0 (-c) u y z v s r) (e * f) u' y' z' b' → Ex0 H H' → ElAt C C_R C_E H' o [a, b, c, d] u' y' z' b' → Q (.ref o) H'
end
theorem un33 {K : PySem.W.Frag} {i1 i2 i3 i4 i5 i6 i7 i8 i9 : Nat} {σ : L2.St} {H : Hp} {t : Addr} {a b c d e f g h i : Int} {Q : L2.St → Hp → Prop} (q : T33 H t [a, b, c] [d, e, f] [g, h, i])
    (z : Q (((((((((σ.set i1 (some (.int a))).set i2 (some (.int b))).set i3 (some (.int c))).set i4 (some (.int d))).set i5 (some (.int e))).set i6 (some (.int f))).set i7 (some (.int g))).set i8 (some (.int h))).set i9 (some (.int i))) H) :
    gTup K 3 (gCons (gTup K 3 (gCons (gName i1) (gCons (gName i2) (gCons (gName i3) gNil)))) (gCons (gTup K 3 (gCons (gName i4) (gCons (gName i5) (gCons (gName i6) gNil)))) (gCons (gTup K 3 (gCons (gName i7) (gCons (gName i8) (gCons (gName i9) gNil)))) gNil))) (.ref t) σ H Q := by
  obtain ⟨t1, t2, t3, h0, h1, h2, h3⟩ := q
  refine ⟨t, _, rfl, SqT.of h0, rfl, _, _, rfl, ?_⟩
  refine ⟨t1, _, rfl, SqT.of h1, rfl, _, _, rfl, _, _, rfl, _, _, rfl, ⟨rfl, ?_⟩⟩
  refine ⟨_, _, rfl, ?_⟩
  refine ⟨t2, _, rfl, SqT.of h2, rfl, _, _, rfl, _, _, rfl, _, _, rfl, ⟨rfl, ?_⟩⟩
  refine ⟨_, _, rfl, ?_⟩
  exact ⟨t3, _, rfl, SqT.of h3, rfl, _, _, rfl, _, _, rfl, _, _, rfl, ⟨rfl, ⟨rfl, z⟩⟩⟩
theorem t33_new {H : Hp} {t1 t2 t3 x : Addr} {r1 r2 r3 : List Int} (n1 : H t1 = none) (n2 : upd H t1 (.tup (r1.map V.int)) t2 = none) (n3 : upd (upd H t1 (.tup (r1.map V.int))) t2 (.tup (r2.map V.int)) t3 = none)
    (n4 : upd (upd (upd H t1 (.tup (r1.map V.int))) t2 (.tup (r2.map V.int))) t3 (.tup (r3.map V.int)) x = none) :
    Ex0 H (upd (upd (upd (upd H t1 (.tup (r1.map V.int))) t2 (.tup (r2.map V.int))) t3 (.tup (r3.map V.int))) x (.tup [.ref t1, .ref t2, .ref t3])) ∧
      T33 (upd (upd (upd (upd H t1 (.tup (r1.map V.int))) t2 (.tup (r2.map V.int))) t3 (.tup (r3.map V.int))) x (.tup [.ref t1, .ref t2, .ref t3])) x r1 r2 r3 :=
  ⟨(((Ex0.new n1).trans (Ex0.new n2)).trans (Ex0.new n3)).trans (Ex0.new n4), t1, t2, t3, upd_same, Ex0.ap (Ex0.new n4) (Ex0.ap (Ex0.new n3) (Ex0.ap (Ex0.new n2) upd_same)), Ex0.ap (Ex0.new n4) (Ex0.ap (Ex0.new n3) upd_same), Ex0.ap (Ex0.new n4) upd_same⟩
inductive Tis (H : Hp) : List V → List (List Int) → Prop where
  | nil : Tis H [] []
  | cons {t : Addr} {r : List Int} {xs : List V} {rs : List (List Int)} (h : Ti H t r) (q : Tis H xs rs) : Tis H (.ref t :: xs) (r :: rs)
theorem Tis.mono {H H' : Hp} {xs : List V} {rs : List (List Int)} (r : Tis H xs rs) (e : ∀ t zs, H t = some (.tup zs) → H' t = some (.tup zs)) : Tis H' xs rs := by
  induction r with
  | nil => exact .nil
  | cons h _ ih => exact .cons (e _ _ h) ih
theorem Tis.snoc {H : Hp} {xs : List V} {rs : List (List Int)} (r : Tis H xs rs) {t : Addr} {r1 : List Int} (h : Ti H t r1) : Tis H (xs ++ [.ref t]) (rs ++ [r1]) := by
  induction r with
  | nil => exact .cons h .nil
  | cons h' _ ih => exact .cons h' ih
theorem Tis.len {H : Hp} {xs : List V} {rs : List (List Int)} (r : Tis H xs rs) : xs.length = rs.length := by
  induction r with
  | nil => rfl
  | cons _ _ ih => rw [List.length_cons, List.length_cons, ih]
theorem Tis.three {H : Hp} {xs : List V} {r1 r2 r3 : List Int} (r : Tis H xs [r1, r2, r3]) : ∃ t1 t2 t3, xs = [.ref t1, .ref t2, .ref t3] ∧ Ti H t1 r1 ∧ Ti H t2 r2 ∧ Ti H t3 r3 := by
  cases r with
  | cons h1 r =>
    cases r with
    | cons h2 r =>
      cases r with
      | cons h3 r =>
        cases r
        exact ⟨_, _, _, rfl, h1, h2, h3⟩
def Uv (i : Nat) (v z s : Int) : Prop := (i = 0 ∧ v = 1 ∧ z = 0 ∧ s = 0) ∨ (i = 1 ∧ v = 0 ∧ z = 1 ∧ s = 0) ∨ (i = 2 ∧ v = 0 ∧ z = 0 ∧ s = 1)
theorem Uv.b {i : Nat} {v z s : Int} (h : Uv i v z s) : i < 3 ∧ B3 1000 v z s := by
  have b0 : B 1000 0 := ⟨by decide, by decide⟩
  have b1 : B 1000 1 := ⟨by decide, by decide⟩
  rcases h with ⟨rfl, rfl, rfl, rfl⟩ | ⟨rfl, rfl, rfl, rfl⟩ | ⟨rfl, rfl, rfl, rfl⟩
  · exact ⟨by decide, b1, b0, b0⟩
  · exact ⟨by decide, b0, b1, b0⟩
  · exact ⟨by decide, b0, b0, b1⟩
theorem unit_at {K : PySem.W.Frag} {H H' : Hp} {a b c : Addr} {i : Nat} {x : V} (h1 : SqT K H a [.int 1, .int 0, .int 0]) (h2 : SqT K H b [.int 0, .int 1, .int 0]) (h3 : SqT K H c [.int 0, .int 0, .int 1]) (e : Ex0 H H')
    (hx : [V.ref a, .ref b, .ref c][i]? = some x) : ∃ t v z s, x = .ref t ∧ Tq K H' t [v, z, s] ∧ Uv i v z s := by
  match i, hx with
  | 0, hx => exact ⟨a, 1, 0, 0, (Option.some.inj hx).symm, Ex0.tq e h1, .inl ⟨rfl, rfl, rfl, rfl⟩⟩
  | 1, hx => exact ⟨b, 0, 1, 0, (Option.some.inj hx).symm, Ex0.tq e h2, .inr (.inl ⟨rfl, rfl, rfl, rfl⟩)⟩
  | 2, hx => exact ⟨c, 0, 0, 1, (Option.some.inj hx).symm, Ex0.tq e h3, .inr (.inr ⟨rfl, rfl, rfl, rfl⟩)⟩
theorem B.pl {n : Nat} {i j : Int} (h1 : B n i) (h2 : B n j) : B (n + 1) (i + j) := ⟨by
  have a := h1.1
  have b := h2.1
  rw [Nat.pow_succ]
  omega, by omega⟩
theorem m_B {n m k : Nat} {A D G u x y v z s : Int} (ha : B k A) (hd : B k D) (hg : B k G) (hu : B3 n u x y) (hv : B3 m v z s) : B (n + m + k + 4) (m0 A D G u x y v z s) ∧ B (n + m + k + 4) (m1 A D G u x y v z s) ∧ B (n + m + k + 4) (m2 A D G u x y v z s) := by
  obtain ⟨h1, h2, h3⟩ := hu
  obtain ⟨k1, k2, k3⟩ := hv
  have k0 := ha.2
  have pl : ∀ {i j l : Nat} {p q : Int}, B i p → B j q → i < l → j < l → B l (p + q) := fun {i j l p q} h g hi hj => (B.pl (n := l - 1) (h.mono (by omega)) (g.mono (by omega))).mono (by omega)
  unfold m0 m1 m2
  have mid := pl (l := n + m + 1) (B.mul h2 k3) (B.mul h3 k2) (by omega) (by omega)
  have lA := B.mul (B.mul h2 k2) ha
  have lD := B.mul mid hd
  have lG := B.mul (B.mul h3 k3) hg
  refine ⟨?_, ?_, ?_⟩
  · exact pl (pl (l := n + m + k + 3) (pl (l := n + m + k + 2) (B.mul h1 k1) lA (by omega) (by omega)) lD (by omega) (by omega)) lG (by omega) (by omega)
  · exact pl (pl (l := n + m + k + 3) (pl (l := n + m + k + 2) (pl (l := n + m + 1) (B.mul h1 k2) (B.mul h2 k1) (by omega) (by omega)) lA (by omega) (by omega)) lD (by omega) (by omega)) lG (by omega) (by omega)
  · exact pl (pl (l := n + m + k + 3) (pl (l := n + m + k + 2) (pl (l := n + m + 1) (B.mul h1 k3) (B.mul h3 k1) (by omega) (by omega)) lA (by omega) (by omega)) lD (by omega) (by omega)) lG (by omega) (by omega)
theorem out_g {g : Nat} {n : Int} (h : (g : Int) ∣ n) : n = (g : Int) * (n / (g : Int)) := (Int.mul_ediv_cancel' h).symm
theorem gcd_out {a b : Int} (h : b ≠ 0) : ∃ p q : Int, 0 < Nat.gcd a.natAbs b.natAbs ∧ a = (Nat.gcd a.natAbs b.natAbs : Int) * p ∧ b = (Nat.gcd a.natAbs b.natAbs : Int) * q ∧ Nat.gcd p.natAbs q.natAbs = 1 := by
  have g0 : 0 < Nat.gcd a.natAbs b.natAbs := Nat.gcd_pos_of_pos_right _ (by omega)
  have d1 : ((Nat.gcd a.natAbs b.natAbs : Nat) : Int) ∣ a := Int.ofNat_dvd_left.mpr (Nat.gcd_dvd_left _ _)
  have d2 : ((Nat.gcd a.natAbs b.natAbs : Nat) : Int) ∣ b := Int.ofNat_dvd_left.mpr (Nat.gcd_dvd_right _ _)
  refine ⟨a / (Nat.gcd a.natAbs b.natAbs : Int), b / (Nat.gcd a.natAbs b.natAbs : Int), g0, out_g d1, out_g d2, ?_⟩
  rw [Int.natAbs_ediv_of_dvd d1, Int.natAbs_ediv_of_dvd d2]
  show Nat.gcd (a.natAbs / Nat.gcd a.natAbs b.natAbs) (b.natAbs / Nat.gcd a.natAbs b.natAbs) = 1
  rw [Nat.gcd_div (Nat.gcd_dvd_left _ _) (Nat.gcd_dvd_right _ _), Nat.div_self g0]
end RG
namespace RG
open PySem PySem.Spec PyProof.Rows L2 Fr
theorem dw3 {i j : Int} (h : 0 < j) (h4 : j < 2 ^ 3000) : CDivW i j := wide_div (b := 3000) h (by omega) (by decide) (by decide)
theorem lkR {a b c : V} : List.lookup ("_ring" : Str) [(("_ring" : Str), a), (("_entries" : Str), b), (("_bottom" : Str), c)] = some a := rfl
theorem lkE {a b c : V} : List.lookup ("_entries" : Str) [(("_ring" : Str), a), (("_entries" : Str), b), (("_bottom" : Str), c)] = some b := rfl
theorem lkB {a b c : V} : List.lookup ("_bottom" : Str) [(("_ring" : Str), a), (("_entries" : Str), b), (("_bottom" : Str), c)] = some c := rfl
theorem made_ex {H H' : Hp} {x dx : Addr} {o1 o2 : HO} (nx : H x = none) (ndx : H dx = none) (e1 : ∀ b o, b ≠ x → (upd (upd H dx o1) x o2) b = some o → H' b = some o) : Ex0 H H' := Ex0.of fun b o e => by
  have n1 : b ≠ x := ne_of_none e nx
  have n2 : b ≠ dx := ne_of_none e ndx
  refine e1 b o n1 ?_
  rw [upd_ne n1, upd_ne n2]
  exact e
theorem made_at {H : Hp} {x dx t : Addr} {o1 o2 : HO} {xs : List V} (nx : H x = none) (ndx : H dx = none) (h : H t = some (.tup xs)) : upd (upd H dx o1) x o2 t = some (.tup xs) := by
  rw [upd_ne (ne_of_none h nx), upd_ne (ne_of_none h ndx)]
  exact h
theorem gcd_dvd {g : Nat} : ∀ (ns : List Int) (x : Nat), g ∣ ns.foldl (fun g n => Nat.gcd g n.natAbs) x ↔ g ∣ x ∧ ∀ n ∈ ns, (g : Int) ∣ n
  | [], x => by simp
  | n :: ns, x => by
    rw [List.foldl_cons, gcd_dvd ns, Nat.dvd_gcd_iff, List.forall_mem_cons, Int.ofNat_dvd_left]
    constructor
    · rintro ⟨⟨h1, h2⟩, h3⟩; exact ⟨h1, h2, h3⟩
    · rintro ⟨h1, h2, h3⟩; exact ⟨⟨h1, h2⟩, h3⟩
theorem gcdL_dvd {g : Nat} {ns : List Int} : g ∣ gcdL ns ↔ ∀ n ∈ ns, (g : Int) ∣ n := by
  unfold gcdL
  rw [gcd_dvd]
  simp
theorem gcd3 {g : Nat} {u y z : Int} : g ∣ gcdL [u, y, z] ↔ (g : Int) ∣ u ∧ (g : Int) ∣ y ∧ (g : Int) ∣ z := by
  rw [gcdL_dvd]
  simp
theorem low_of (u y z b : Int) (h : b ≠ 0) (hb : B 3000 b) : ∃ (g u' y' z' b' : Int), g = (if b < 0 then -((gcdL [(gcdL [u, y, z] : Int), b] : Nat) : Int) else ((gcdL [(gcdL [u, y, z] : Int), b] : Nat) : Int)) ∧ g ≠ 0 ∧ B 3000 g ∧ u = g * u' ∧ y = g * y' ∧ z = g * z' ∧ b = g * b' ∧ 0 < b' ∧ Nat.gcd (gcdL [u', y', z']) b'.natAbs = 1 := by
  have hG : ∀ d : Nat, d ∣ gcdL [(gcdL [u, y, z] : Int), b] ↔ ((d : Int) ∣ u ∧ (d : Int) ∣ y ∧ (d : Int) ∣ z) ∧ (d : Int) ∣ b := fun d => by
    rw [gcdL_dvd, List.forall_mem_cons, Int.natCast_dvd_natCast, gcd3]
    simp
  generalize gcdL [(gcdL [u, y, z] : Int), b] = G at hG ⊢
  obtain ⟨⟨d1, d2, d3⟩, d4⟩ := (hG G).mp (Nat.dvd_refl _)
  have G0 : 0 < G := by
    rcases Nat.eq_zero_or_pos G with e | e
    · rw [e] at d4
      exact absurd (Int.zero_dvd.mp d4) h
    · exact e
  have Gb : G ≤ b.natAbs := Nat.le_of_dvd (by omega) (Int.ofNat_dvd_left.mp d4)
  have bG : B 3000 (G : Int) := ⟨Nat.lt_of_le_of_lt Gb hb.1, by decide⟩
  obtain ⟨u0, rfl⟩ := d1
  obtain ⟨y0, rfl⟩ := d2
  obtain ⟨z0, rfl⟩ := d3
  obtain ⟨b0, rfl⟩ := d4
  have one : ∀ d : Nat, (d : Int) ∣ u0 → (d : Int) ∣ y0 → (d : Int) ∣ z0 → (d : Int) ∣ b0 → d = 1 := fun d e1 e2 e3 e4 => by
    have m : ∀ x : Int, (d : Int) ∣ x → ((G * d : Nat) : Int) ∣ (G : Int) * x := fun x hx => by rw [Int.natCast_mul]; exact Int.mul_dvd_mul_left _ hx
    have k : G * d ∣ G * 1 := by rw [Nat.mul_one]; exact (hG (G * d)).mpr ⟨⟨m _ e1, m _ e2, m _ e3⟩, m _ e4⟩
    exact Nat.dvd_one.mp (Nat.dvd_of_mul_dvd_mul_left G0 k)
  have fin : ∀ u' y' z' b' : Int, (∀ d : Nat, (d : Int) ∣ u' → (d : Int) ∣ u0) → (∀ d : Nat, (d : Int) ∣ y' → (d : Int) ∣ y0) → (∀ d : Nat, (d : Int) ∣ z' → (d : Int) ∣ z0) → (∀ d : Nat, (d : Int) ∣ b' → (d : Int) ∣ b0) → Nat.gcd (gcdL [u', y', z']) b'.natAbs = 1 := fun u' y' z' b' e1 e2 e3 e4 => by
    obtain ⟨f1, f2, f3⟩ := gcd3.mp (Nat.gcd_dvd_left (gcdL [u', y', z']) b'.natAbs)
    exact one _ (e1 _ f1) (e2 _ f2) (e3 _ f3) (e4 _ (Int.ofNat_dvd_left.mpr (Nat.gcd_dvd_right (gcdL [u', y', z']) b'.natAbs)))
  by_cases n : (G : Int) * b0 < 0
  · rw [if_pos n]
    have b1 : b0 < 0 := by
      rcases Int.lt_or_le b0 0 with e | e
      · exact e
      · have := Int.mul_nonneg (show (0 : Int) ≤ G by omega) e
        omega
    exact ⟨_, -u0, -y0, -z0, -b0, rfl, by omega, bG.neg, by rw [Int.neg_mul_neg], by rw [Int.neg_mul_neg], by rw [Int.neg_mul_neg], by rw [Int.neg_mul_neg], by omega, fin _ _ _ _ (fun d => Int.dvd_neg.mp) (fun d => Int.dvd_neg.mp) (fun d => Int.dvd_neg.mp) (fun d => Int.dvd_neg.mp)⟩
  · rw [if_neg n]
    have b1 : 0 < b0 := by
      rcases Int.lt_or_le 0 b0 with e | e
      · exact e
      · have := Int.mul_nonneg (show (0 : Int) ≤ G by omega) (show 0 ≤ -b0 by omega)
        rw [Int.mul_neg] at this
        omega
    exact ⟨_, u0, y0, z0, b0, rfl, by omega, bG, rfl, rfl, rfl, rfl, b1, fin _ _ _ _ (fun d => id) (fun d => id) (fun d => id) (fun d => id)⟩
section
variable {P : Program} {w : World} {K : PySem.W.Frag} {mg : Str → Option Value} {base : Heap} {C_Form C_Ring C_Element : Addr}
theorem ok_check_form (T : Txt K mg C_Form C_Ring C_Element) : Def P w K mg base 1 "check_form" ["value"] (sp_check_form K C_Form C_Ring C_Element) := by
  obtain ⟨f_, fd_, g_, F_⟩ := T.d_check_form
  refine ⟨f_, fd_, g_, F_.kp, F_.binds (ps := ["value"]) (fun _ _ _ _ _ _ us hl => match us, hl with | [_], _ => rfl), ?_⟩
  refine F_.ok sc_check_form (fun vs H Q E h => ?_) (fun cdv A outer s H vs Q E hr h => ?_)
  · first | (obtain ⟨rfl, _⟩ := h; rfl) | (obtain ⟨_, rfl, _⟩ := h; rfl) | (obtain ⟨_, _, rfl, _⟩ := h; rfl) | (obtain ⟨_, _, _, rfl, _⟩ := h; rfl) | (obtain ⟨_, _, _, _, rfl, _⟩ := h; rfl) | (obtain ⟨_, _, _, _, _, rfl, _⟩ := h; rfl) | (obtain ⟨_, _, _, _, _, _, rfl, _⟩ := h; rfl) | (obtain ⟨_, _, _, _, _, _, _, rfl, _⟩ := h; rfl) | (obtain ⟨_, _, _, _, _, _, _, _, rfl, _⟩ := h; rfl) | (obtain ⟨_, _, _, _, _, _, _, _, _, rfl, _⟩ := h; rfl) | (obtain ⟨_, _, _, _, _, _, _, _, _, _, rfl, _⟩ := h; rfl) | (obtain ⟨_, _, _, _, _, _, _, _, _, _, _, rfl, _⟩ := h; rfl) | (obtain ⟨_, _, _, _, _, _, _, _, _, _, _, _, rfl, _⟩ := h; rfl) | (obtain ⟨_, _, _, _, _, _, _, _, _, _, _, _, _, rfl, _⟩ := h; rfl) | (obtain ⟨_, _, _, _, _, _, _, _, _, _, _, _, _, _, rfl, _⟩ := h; rfl) | (obtain ⟨_, _, _, _, _, _, _, _, _, _, _, _, _, _, _, rfl, _⟩ := h; rfl) | (obtain ⟨_, _, _, _, _, _, _, _, _, _, _, _, _, _, _, _, rfl, _⟩ := h; rfl) | (obtain ⟨_, _, _, _, _, _, _, _, _, _, _, _, _, _, _, _, _, rfl, _⟩ := h; rfl) | (obtain ⟨_, _, _, _, _, _, _, _, _, _, _, _, _, _, _, _, _, _, rfl, _⟩ := h; rfl) | (obtain ⟨_, _, _, _, _, _, _, _, _, _, _, _, _, _, _, _, _, _, _, rfl, _⟩ := h; rfl) | (obtain ⟨_, _, _, _, _, _, _, _, _, _, _, _, _, _, _, _, _, _, _, _, rfl, _⟩ := h; rfl) | (obtain ⟨_, _, _, _, _, _, _, _, _, _, _, _, _, _, _, _, _, _, _, _, _, rfl, _⟩ := h; rfl) | (obtain ⟨_, _, _, _, _, _, _, _, _, _, _, _, _, _, _, _, _, _, _, _, _, _, rfl, _⟩ := h; rfl) | (obtain ⟨_, _, _, _, _, _, _, _, _, _, _, _, _, _, _, _, _, _, _, _, _, _, _, rfl, _⟩ := h; rfl)
  · obtain ⟨x, ns, rfl, ⟨dx, t, hx, ht⟩, q⟩ := h
    refine ⟨_, (pss_one (ps_if (pt_not (pt_val (pe_callB call_isi (by rfl) T.b_isinstance (by decide +kernel) (pa_cons (pv 0) (pa_cons (pe_glob (v := .ref C_Form) (by rfl) T.g_Form rfl) pa_nil)))))
      pss_never
      pss_nil)), ?_⟩
    refine ⟨_, rfl, _, _, _, _, true, rfl, .own _, ty_ins T.ty_Form T.cl_Form hx, kit_self, _, rfl, ?_⟩
    exact iteF q
theorem ok_check_bottom (T : Txt K mg C_Form C_Ring C_Element) : Def P w K mg base 4 "check_bottom" ["bottom"] (sp_check_bottom K C_Form C_Ring C_Element) := by
  obtain ⟨f_, fd_, g_, F_⟩ := T.d_check_bottom
  obtain ⟨f_check_integer, fd_check_integer, g_check_integer, k_check_integer, b_check_integer, G_check_integer⟩ := (ok_check_integer (P := P) (w := w) (base := base) T)
  refine ⟨f_, fd_, g_, F_.kp, F_.binds (ps := ["bottom"]) (fun _ _ _ _ _ _ us hl => match us, hl with | [_], _ => rfl), ?_⟩
  refine F_.ok sc_check_bottom (fun vs H Q E h => ?_) (fun cdv A outer s H vs Q E hr h => ?_)
  · first | (obtain ⟨rfl, _⟩ := h; rfl) | (obtain ⟨_, rfl, _⟩ := h; rfl) | (obtain ⟨_, _, rfl, _⟩ := h; rfl) | (obtain ⟨_, _, _, rfl, _⟩ := h; rfl) | (obtain ⟨_, _, _, _, rfl, _⟩ := h; rfl) | (obtain ⟨_, _, _, _, _, rfl, _⟩ := h; rfl) | (obtain ⟨_, _, _, _, _, _, rfl, _⟩ := h; rfl) | (obtain ⟨_, _, _, _, _, _, _, rfl, _⟩ := h; rfl) | (obtain ⟨_, _, _, _, _, _, _, _, rfl, _⟩ := h; rfl) | (obtain ⟨_, _, _, _, _, _, _, _, _, rfl, _⟩ := h; rfl) | (obtain ⟨_, _, _, _, _, _, _, _, _, _, rfl, _⟩ := h; rfl) | (obtain ⟨_, _, _, _, _, _, _, _, _, _, _, rfl, _⟩ := h; rfl) | (obtain ⟨_, _, _, _, _, _, _, _, _, _, _, _, rfl, _⟩ := h; rfl) | (obtain ⟨_, _, _, _, _, _, _, _, _, _, _, _, _, rfl, _⟩ := h; rfl) | (obtain ⟨_, _, _, _, _, _, _, _, _, _, _, _, _, _, rfl, _⟩ := h; rfl) | (obtain ⟨_, _, _, _, _, _, _, _, _, _, _, _, _, _, _, rfl, _⟩ := h; rfl) | (obtain ⟨_, _, _, _, _, _, _, _, _, _, _, _, _, _, _, _, rfl, _⟩ := h; rfl) | (obtain ⟨_, _, _, _, _, _, _, _, _, _, _, _, _, _, _, _, _, rfl, _⟩ := h; rfl) | (obtain ⟨_, _, _, _, _, _, _, _, _, _, _, _, _, _, _, _, _, _, rfl, _⟩ := h; rfl) | (obtain ⟨_, _, _, _, _, _, _, _, _, _, _, _, _, _, _, _, _, _, _, rfl, _⟩ := h; rfl) | (obtain ⟨_, _, _, _, _, _, _, _, _, _, _, _, _, _, _, _, _, _, _, _, rfl, _⟩ := h; rfl) | (obtain ⟨_, _, _, _, _, _, _, _, _, _, _, _, _, _, _, _, _, _, _, _, _, rfl, _⟩ := h; rfl) | (obtain ⟨_, _, _, _, _, _, _, _, _, _, _, _, _, _, _, _, _, _, _, _, _, _, rfl, _⟩ := h; rfl) | (obtain ⟨_, _, _, _, _, _, _, _, _, _, _, _, _, _, _, _, _, _, _, _, _, _, _, rfl, _⟩ := h; rfl)
  · obtain ⟨i, rfl, hs, h0, q⟩ := h
    refine ⟨_, (pss_cons (ps_expr (pe_call G_check_integer (hr.mono (by decide)) (by rfl) g_check_integer k_check_integer b_check_integer .nil pass0 (pa_cons (pv 0) pa_nil)))
    (pss_one (ps_if (pt_cmpR op_eq (pv 0) pe_int (nomark _))
      pss_never
      pss_nil))), ?_⟩
    refine ⟨_, rfl, i, rfl, hs, ?_⟩
    refine ⟨_, rfl, rfl, _, rfl, iteE (fun e => absurd e h0) (fun _ => q)⟩
theorem ok_table_of (T : Txt K mg C_Form C_Ring C_Element) : Def P w K mg base 1 "table_of" ["coefficients"] (sp_table_of K C_Form C_Ring C_Element) := by
  obtain ⟨f_, fd_, g_, F_⟩ := T.d_table_of
  refine ⟨f_, fd_, g_, F_.kp, F_.binds (ps := ["coefficients"]) (fun _ _ _ _ _ _ us hl => match us, hl with | [_], _ => rfl), ?_⟩
  refine F_.ok sc_table_of (fun vs H Q E h => ?_) (fun cdv A outer s H vs Q E hr h => ?_)
  · first | (obtain ⟨rfl, _⟩ := h; rfl) | (obtain ⟨_, rfl, _⟩ := h; rfl) | (obtain ⟨_, _, rfl, _⟩ := h; rfl) | (obtain ⟨_, _, _, rfl, _⟩ := h; rfl) | (obtain ⟨_, _, _, _, rfl, _⟩ := h; rfl) | (obtain ⟨_, _, _, _, _, rfl, _⟩ := h; rfl) | (obtain ⟨_, _, _, _, _, _, rfl, _⟩ := h; rfl) | (obtain ⟨_, _, _, _, _, _, _, rfl, _⟩ := h; rfl) | (obtain ⟨_, _, _, _, _, _, _, _, rfl, _⟩ := h; rfl) | (obtain ⟨_, _, _, _, _, _, _, _, _, rfl, _⟩ := h; rfl) | (obtain ⟨_, _, _, _, _, _, _, _, _, _, rfl, _⟩ := h; rfl) | (obtain ⟨_, _, _, _, _, _, _, _, _, _, _, rfl, _⟩ := h; rfl) | (obtain ⟨_, _, _, _, _, _, _, _, _, _, _, _, rfl, _⟩ := h; rfl) | (obtain ⟨_, _, _, _, _, _, _, _, _, _, _, _, _, rfl, _⟩ := h; rfl) | (obtain ⟨_, _, _, _, _, _, _, _, _, _, _, _, _, _, rfl, _⟩ := h; rfl) | (obtain ⟨_, _, _, _, _, _, _, _, _, _, _, _, _, _, _, rfl, _⟩ := h; rfl) | (obtain ⟨_, _, _, _, _, _, _, _, _, _, _, _, _, _, _, _, rfl, _⟩ := h; rfl) | (obtain ⟨_, _, _, _, _, _, _, _, _, _, _, _, _, _, _, _, _, rfl, _⟩ := h; rfl) | (obtain ⟨_, _, _, _, _, _, _, _, _, _, _, _, _, _, _, _, _, _, rfl, _⟩ := h; rfl) | (obtain ⟨_, _, _, _, _, _, _, _, _, _, _, _, _, _, _, _, _, _, _, rfl, _⟩ := h; rfl) | (obtain ⟨_, _, _, _, _, _, _, _, _, _, _, _, _, _, _, _, _, _, _, _, rfl, _⟩ := h; rfl) | (obtain ⟨_, _, _, _, _, _, _, _, _, _, _, _, _, _, _, _, _, _, _, _, _, rfl, _⟩ := h; rfl) | (obtain ⟨_, _, _, _, _, _, _, _, _, _, _, _, _, _, _, _, _, _, _, _, _, _, rfl, _⟩ := h; rfl) | (obtain ⟨_, _, _, _, _, _, _, _, _, _, _, _, _, _, _, _, _, _, _, _, _, _, _, rfl, _⟩ := h; rfl)
  · obtain ⟨t, a, b, c, d, rfl, ht, ⟨ba, bb, bc, bd⟩, q⟩ := h
    refine ⟨_, (pss_cons (ps_asg (pv 0) (pg_tup (by rfl) (pgs_cons (pg_name (i := 1) sc_table_of.nd rfl (.inl rfl)) (pgs_cons (pg_name (i := 2) sc_table_of.nd rfl (.inl rfl)) (pgs_cons (pg_name (i := 3) sc_table_of.nd rfl (.inl rfl)) (pgs_cons (pg_name (i := 4) sc_table_of.nd rfl (.inl rfl)) pgs_nil))))))
    (pss_one (ps_ret (pe_tup (pa_cons (pe_tup (pa_cons (pe_op op_mulW (pe_un un_neg (pv 1)) (pv 3)) (pa_cons (pv 2) (pa_cons (pe_un un_neg (pv 1)) pa_nil)))) (pa_cons (pe_tup (pa_cons (pe_op op_mulW (pe_un un_neg (pv 1)) (pv 4)) (pa_cons pe_int (pa_cons pe_int pa_nil)))) (pa_cons (pe_tup (pa_cons (pe_op op_mulW (pe_un un_neg (pv 2)) (pv 4)) (pa_cons (pv 4) (pa_cons (pe_un un_neg (pv 3)) pa_nil)))) pa_nil))))))), ?_⟩
    refine ⟨_, rfl, unI4 ht ?_⟩
    refine ⟨_, rfl, _, rfl, _, rfl, _, _, rfl, rfl, mulB (B.neg (by with_reducible assumption)) (by with_reducible assumption) (by decide), _, rfl, _, rfl, _, rfl, sl3, fun t1 n1 => ⟨_, rfl, _, rfl, _, rfl, _, _, rfl, rfl, mulB (B.neg (by with_reducible assumption)) (by with_reducible assumption) (by decide), sl3, fun t2 n2 => ⟨_, rfl, _, rfl, _, rfl, _, _, rfl, rfl, mulB (B.neg (by with_reducible assumption)) (by with_reducible assumption) (by decide), _, rfl, _, rfl, _, rfl, sl3, fun t3 n3 => ⟨sl3, fun x nx => ?_⟩⟩⟩⟩
    have z := t33_new (r1 := w1 a b c d) (r2 := w2 a b c d) (r3 := w3 a b c d) n1 n2 n3 nx
    exact q x _ z.1 z.2
theorem ok_product_by (T : Txt K mg C_Form C_Ring C_Element) : Def P w K mg base 1 "product_by" ["table", "first", "second"] (sp_product_by K C_Form C_Ring C_Element) := by
  obtain ⟨f_, fd_, g_, F_⟩ := T.d_product_by
  refine ⟨f_, fd_, g_, F_.kp, F_.binds (ps := ["table", "first", "second"]) (fun _ _ _ _ _ _ us hl => match us, hl with | [_, _, _], _ => rfl), ?_⟩
  refine F_.ok sc_product_by (fun vs H Q E h => ?_) (fun cdv A outer s H vs Q E hr h => ?_)
  · first | (obtain ⟨rfl, _⟩ := h; rfl) | (obtain ⟨_, rfl, _⟩ := h; rfl) | (obtain ⟨_, _, rfl, _⟩ := h; rfl) | (obtain ⟨_, _, _, rfl, _⟩ := h; rfl) | (obtain ⟨_, _, _, _, rfl, _⟩ := h; rfl) | (obtain ⟨_, _, _, _, _, rfl, _⟩ := h; rfl) | (obtain ⟨_, _, _, _, _, _, rfl, _⟩ := h; rfl) | (obtain ⟨_, _, _, _, _, _, _, rfl, _⟩ := h; rfl) | (obtain ⟨_, _, _, _, _, _, _, _, rfl, _⟩ := h; rfl) | (obtain ⟨_, _, _, _, _, _, _, _, _, rfl, _⟩ := h; rfl) | (obtain ⟨_, _, _, _, _, _, _, _, _, _, rfl, _⟩ := h; rfl) | (obtain ⟨_, _, _, _, _, _, _, _, _, _, _, rfl, _⟩ := h; rfl) | (obtain ⟨_, _, _, _, _, _, _, _, _, _, _, _, rfl, _⟩ := h; rfl) | (obtain ⟨_, _, _, _, _, _, _, _, _, _, _, _, _, rfl, _⟩ := h; rfl) | (obtain ⟨_, _, _, _, _, _, _, _, _, _, _, _, _, _, rfl, _⟩ := h; rfl) | (obtain ⟨_, _, _, _, _, _, _, _, _, _, _, _, _, _, _, rfl, _⟩ := h; rfl) | (obtain ⟨_, _, _, _, _, _, _, _, _, _, _, _, _, _, _, _, rfl, _⟩ := h; rfl) | (obtain ⟨_, _, _, _, _, _, _, _, _, _, _, _, _, _, _, _, _, rfl, _⟩ := h; rfl) | (obtain ⟨_, _, _, _, _, _, _, _, _, _, _, _, _, _, _, _, _, _, rfl, _⟩ := h; rfl) | (obtain ⟨_, _, _, _, _, _, _, _, _, _, _, _, _, _, _, _, _, _, _, rfl, _⟩ := h; rfl) | (obtain ⟨_, _, _, _, _, _, _, _, _, _, _, _, _, _, _, _, _, _, _, _, rfl, _⟩ := h; rfl) | (obtain ⟨_, _, _, _, _, _, _, _, _, _, _, _, _, _, _, _, _, _, _, _, _, rfl, _⟩ := h; rfl) | (obtain ⟨_, _, _, _, _, _, _, _, _, _, _, _, _, _, _, _, _, _, _, _, _, _, rfl, _⟩ := h; rfl) | (obtain ⟨_, _, _, _, _, _, _, _, _, _, _, _, _, _, _, _, _, _, _, _, _, _, _, rfl, _⟩ := h; rfl)
  · obtain ⟨t, l, r, a, b, c, d, e, f, g, h', i, u, x, y, v, z, s', rfl, ht, hl, hr, ⟨ba, bb, bc⟩, ⟨bd, be, bf⟩, ⟨bg, bh, bi⟩, ⟨bu, bx, by'⟩, ⟨bv, bz, bs⟩, q⟩ := h
    refine ⟨_, (Evl.pss_cut (ps_asg (pv 0) (pg_tup (by rfl) (pgs_cons (pg_tup (by rfl) (pgs_cons (pg_name (i := 3) sc_product_by.nd rfl (.inl rfl)) (pgs_cons (pg_name (i := 4) sc_product_by.nd rfl (.inl rfl)) (pgs_cons (pg_name (i := 5) sc_product_by.nd rfl (.inl rfl)) pgs_nil)))) (pgs_cons (pg_tup (by rfl) (pgs_cons (pg_name (i := 6) sc_product_by.nd rfl (.inl rfl)) (pgs_cons (pg_name (i := 7) sc_product_by.nd rfl (.inl rfl)) (pgs_cons (pg_name (i := 8) sc_product_by.nd rfl (.inl rfl)) pgs_nil)))) (pgs_cons (pg_tup (by rfl) (pgs_cons (pg_name (i := 9) sc_product_by.nd rfl (.inl rfl)) (pgs_cons (pg_name (i := 10) sc_product_by.nd rfl (.inl rfl)) (pgs_cons (pg_name (i := 11) sc_product_by.nd rfl (.inl rfl)) pgs_nil)))) pgs_nil)))))
    (Evl.pss_cut (ps_asg (pv 1) (pg_tup (by rfl) (pgs_cons (pg_name (i := 12) sc_product_by.nd rfl (.inl rfl)) (pgs_cons (pg_name (i := 13) sc_product_by.nd rfl (.inl rfl)) (pgs_cons (pg_name (i := 14) sc_product_by.nd rfl (.inl rfl)) pgs_nil)))))
    (Evl.pss_cut (ps_asg (pv 2) (pg_tup (by rfl) (pgs_cons (pg_name (i := 15) sc_product_by.nd rfl (.inl rfl)) (pgs_cons (pg_name (i := 16) sc_product_by.nd rfl (.inl rfl)) (pgs_cons (pg_name (i := 17) sc_product_by.nd rfl (.inl rfl)) pgs_nil)))))
    (pss_cons (ps_par3 (i := 18) (j := 19) (l := 20) (by rfl) sc_product_by.nd rfl rfl rfl (by decide) (by decide) (by decide) rfl rfl rfl (pa_cons (pe_op op_mulW (pv 13) (pv 16)) (pa_cons (pe_op op_add (pe_op op_mulW (pv 13) (pv 17)) (pe_op op_mulW (pv 14) (pv 16))) (pa_cons (pe_op op_mulW (pv 14) (pv 17)) pa_nil))) (by rfl))
    (pss_one (ps_ret (pe_tup (pa_cons (pe_op op_add (pe_op op_add (pe_op op_add (pe_op op_mulW (pv 12) (pv 15)) (pe_op op_mulW (pv 18) (pv 3))) (pe_op op_mulW (pv 19) (pv 6))) (pe_op op_mulW (pv 20) (pv 9))) (pa_cons (pe_op op_add (pe_op op_add (pe_op op_add (pe_op op_add (pe_op op_mulW (pv 12) (pv 16)) (pe_op op_mulW (pv 13) (pv 15))) (pe_op op_mulW (pv 18) (pv 4))) (pe_op op_mulW (pv 19) (pv 7))) (pe_op op_mulW (pv 20) (pv 10))) (pa_cons (pe_op op_add (pe_op op_add (pe_op op_add (pe_op op_add (pe_op op_mulW (pv 12) (pv 17)) (pe_op op_mulW (pv 14) (pv 15))) (pe_op op_mulW (pv 18) (pv 5))) (pe_op op_mulW (pv 19) (pv 8))) (pe_op op_mulW (pv 20) (pv 11))) pa_nil)))))))))), ?_⟩
    refine ⟨fun σ H' => σ = [some (.ref t), some (.ref l), some (.ref r), some (.int a), some (.int b), some (.int c), some (.int d), some (.int e), some (.int f), some (.int g), some (.int h'), some (.int i), none, none, none, none, none, none, none, none, none] ∧ H' = H, ⟨_, rfl, un33 ht ⟨rfl, rfl⟩⟩, ?_⟩
    rintro σ H' ⟨rfl, rfl⟩
    refine ⟨fun σ H'' => σ = [some (.ref t), some (.ref l), some (.ref r), some (.int a), some (.int b), some (.int c), some (.int d), some (.int e), some (.int f), some (.int g), some (.int h'), some (.int i), some (.int u), some (.int x), some (.int y), none, none, none, none, none, none] ∧ H'' = H', ⟨_, rfl, unq3 hl ⟨rfl, rfl⟩⟩, ?_⟩
    rintro σ H'' ⟨rfl, rfl⟩
    refine ⟨fun σ H' => σ = [some (.ref t), some (.ref l), some (.ref r), some (.int a), some (.int b), some (.int c), some (.int d), some (.int e), some (.int f), some (.int g), some (.int h'), some (.int i), some (.int u), some (.int x), some (.int y), some (.int v), some (.int z), some (.int s'), none, none, none] ∧ H' = H'', ⟨_, rfl, unq3 hr ⟨rfl, rfl⟩⟩, ?_⟩
    rintro σ H' ⟨rfl, rfl⟩
    refine ⟨_, rfl, _, rfl, _, _, rfl, rfl, mulB (by with_reducible assumption) (by with_reducible assumption) (by decide), _, rfl, _, rfl, _, _, rfl, rfl, mulB (by with_reducible assumption) (by with_reducible assumption) (by decide), _, rfl, _, rfl, _, _, rfl, rfl, mulB (by with_reducible assumption) (by with_reducible assumption) (by decide), _, _, rfl, rfl, _, rfl, _, rfl, _, _, rfl, rfl, mulB (by with_reducible assumption) (by with_reducible assumption) (by decide), ?_⟩
    have bL : B 10000 (x * z) := B.mul bx bz
    have bM : B 10001 (x * s' + y * z) := B.pl (B.mul bx bs) (B.mul by' bz)
    have bR : B 10000 (y * s') := B.mul by' bs
    refine ⟨_, _, _, rfl, ?_⟩
    refine ⟨_, rfl, _, rfl, _, _, rfl, rfl, mulB (by with_reducible assumption) (by with_reducible assumption) (by decide), _, rfl, _, rfl, _, _, rfl, rfl, mulB (by with_reducible assumption) (by with_reducible assumption) (by decide), _, _, rfl, rfl, _, rfl, _, rfl, _, _, rfl, rfl, mulB (by with_reducible assumption) (by with_reducible assumption) (by decide), _, _, rfl, rfl, _, rfl, _, rfl, _, _, rfl, rfl, mulB (by with_reducible assumption) (by with_reducible assumption) (by decide), _, _, rfl, rfl, _, rfl, _, rfl, _, _, rfl, rfl, mulB (by with_reducible assumption) (by with_reducible assumption) (by decide), _, rfl, _, rfl, _, _, rfl, rfl, mulB (by with_reducible assumption) (by with_reducible assumption) (by decide), _, _, rfl, rfl, _, rfl, _, rfl, _, _, rfl, rfl, mulB (by with_reducible assumption) (by with_reducible assumption) (by decide), _, _, rfl, rfl, _, rfl, _, rfl, _, _, rfl, rfl, mulB (by with_reducible assumption) (by with_reducible assumption) (by decide), _, _, rfl, rfl, _, rfl, _, rfl, _, _, rfl, rfl, mulB (by with_reducible assumption) (by with_reducible assumption) (by decide), _, _, rfl, rfl, _, rfl, _, rfl, _, _, rfl, rfl, mulB (by with_reducible assumption) (by with_reducible assumption) (by decide), _, rfl, _, rfl, _, _, rfl, rfl, mulB (by with_reducible assumption) (by with_reducible assumption) (by decide), _, _, rfl, rfl, _, rfl, _, rfl, _, _, rfl, rfl, mulB (by with_reducible assumption) (by with_reducible assumption) (by decide), _, _, rfl, rfl, _, rfl, _, rfl, _, _, rfl, rfl, mulB (by with_reducible assumption) (by with_reducible assumption) (by decide), _, _, rfl, rfl, _, rfl, _, rfl, _, _, rfl, rfl, mulB (by with_reducible assumption) (by with_reducible assumption) (by decide), _, _, rfl, rfl, sl3, fun o no => ?_⟩
    exact q o _ (Ex0.new no) upd_same
end
end RG
namespace RG
open PySem PySem.Spec PyProof.Rows L2 Fr
theorem tq_upd {K : PySem.W.Frag} {H : Hp} {t x C dx : Addr} {ns : List Int} {fs fs' : List (Str × V)} (h : Tq K H t ns) (hx : H x = some (.ins C dx fs)) : Tq K (upd H x (.ins C dx fs')) t ns := by
  rcases h with h | h
  · left
    rcases h with h | ⟨o, h⟩
    · left
      rw [upd_ne (ne_of h hx (by intro z; cases z))]
      exact h
    · right
      refine ⟨o, ?_⟩
      rw [upd_ne (ne_of h hx (by intro z; cases z))]
      exact h
  · exact .inr h
theorem B0 {n : Nat} (h : 0 < n) : B n 0 := ⟨by show (0 : Int).natAbs < 2 ^ n; exact Nat.two_pow_pos n, h⟩
theorem Tis.upd {H : Hp} {D : Addr} {acc : List V} {o : HO} {xs : List V} {rs : List (List Int)} (hD : H D = some (.lst acc)) (r : Tis H xs rs) : Tis (upd H D o) xs rs := r.mono fun t zs h => by
  rw [upd_ne (ne_of h hD (by intro z; cases z))]
  exact h
section
variable {P : Program} {w : World} {K : PySem.W.Frag} {mg : Str → Option Value} {base : Heap} {C_Form C_Ring C_Element : Addr}
theorem ok_Ring___init__ (T : Txt K mg C_Form C_Ring C_Element) : MDef (fun p f => Mk K C_Ring f) P w K mg base 2 ["self", "form"] (sp_Ring___init__ K C_Form C_Ring C_Element) := by
  obtain ⟨p_, f_, fd_, R_, F_⟩ := T.e_Ring___init__
  obtain ⟨f_check_form, fd_check_form, g_check_form, k_check_form, b_check_form, G_check_form⟩ := (ok_check_form (P := P) (w := w) (base := base) T)
  refine ⟨p_, f_, fd_, R_, F_.binds (ps := ["self", "form"]) (fun _ _ _ _ _ _ us hl => match us, hl with | [_, _], _ => rfl), ?_⟩
  refine F_.ok sc_Ring___init__ (fun vs H Q E h => ?_) (fun cdv A outer s H vs Q E hr h => ?_)
  · first | (obtain ⟨rfl, _⟩ := h; rfl) | (obtain ⟨_, rfl, _⟩ := h; rfl) | (obtain ⟨_, _, rfl, _⟩ := h; rfl) | (obtain ⟨_, _, _, rfl, _⟩ := h; rfl) | (obtain ⟨_, _, _, _, rfl, _⟩ := h; rfl) | (obtain ⟨_, _, _, _, _, rfl, _⟩ := h; rfl) | (obtain ⟨_, _, _, _, _, _, rfl, _⟩ := h; rfl) | (obtain ⟨_, _, _, _, _, _, _, rfl, _⟩ := h; rfl) | (obtain ⟨_, _, _, _, _, _, _, _, rfl, _⟩ := h; rfl) | (obtain ⟨_, _, _, _, _, _, _, _, _, rfl, _⟩ := h; rfl) | (obtain ⟨_, _, _, _, _, _, _, _, _, _, rfl, _⟩ := h; rfl) | (obtain ⟨_, _, _, _, _, _, _, _, _, _, _, rfl, _⟩ := h; rfl) | (obtain ⟨_, _, _, _, _, _, _, _, _, _, _, _, rfl, _⟩ := h; rfl) | (obtain ⟨_, _, _, _, _, _, _, _, _, _, _, _, _, rfl, _⟩ := h; rfl) | (obtain ⟨_, _, _, _, _, _, _, _, _, _, _, _, _, _, rfl, _⟩ := h; rfl) | (obtain ⟨_, _, _, _, _, _, _, _, _, _, _, _, _, _, _, rfl, _⟩ := h; rfl) | (obtain ⟨_, _, _, _, _, _, _, _, _, _, _, _, _, _, _, _, rfl, _⟩ := h; rfl) | (obtain ⟨_, _, _, _, _, _, _, _, _, _, _, _, _, _, _, _, _, rfl, _⟩ := h; rfl) | (obtain ⟨_, _, _, _, _, _, _, _, _, _, _, _, _, _, _, _, _, _, rfl, _⟩ := h; rfl) | (obtain ⟨_, _, _, _, _, _, _, _, _, _, _, _, _, _, _, _, _, _, _, rfl, _⟩ := h; rfl) | (obtain ⟨_, _, _, _, _, _, _, _, _, _, _, _, _, _, _, _, _, _, _, _, rfl, _⟩ := h; rfl) | (obtain ⟨_, _, _, _, _, _, _, _, _, _, _, _, _, _, _, _, _, _, _, _, _, rfl, _⟩ := h; rfl) | (obtain ⟨_, _, _, _, _, _, _, _, _, _, _, _, _, _, _, _, _, _, _, _, _, _, rfl, _⟩ := h; rfl) | (obtain ⟨_, _, _, _, _, _, _, _, _, _, _, _, _, _, _, _, _, _, _, _, _, _, _, rfl, _⟩ := h; rfl)
  · obtain ⟨x, dx, f, ns, rfl, hx, hf, q⟩ := h
    refine ⟨_, (pss_cons (ps_expr (pe_call G_check_form (hr.mono (by decide)) (by rfl) g_check_form k_check_form b_check_form .nil pass0 (pa_cons (pv 1) pa_nil)))
    (pss_one (ps_fld (pv 0) (pv 1) (by rfl)))), ?_⟩
    refine ⟨_, rfl, f, ns, rfl, hf, ?_⟩
    refine ⟨_, rfl, _, rfl, x, C_Ring, dx, _, rfl, hx, T.cl_Ring, T.na_Ring_form, (by decide : (0:Nat) < 1000), ?_⟩
    exact q _ (fun b o n e => by rw [upd_ne n]; exact e) upd_same
theorem ok_Ring_form (T : Txt K mg C_Form C_Ring C_Element) : MDef (fun p f => PropOf K C_Ring "form" p f) P w K mg base 1 ["self"] (sp_Ring_form K C_Form C_Ring C_Element) := by
  obtain ⟨p_, f_, fd_, R_, F_⟩ := T.e_Ring_form
  refine ⟨p_, f_, fd_, R_, F_.binds (ps := ["self"]) (fun _ _ _ _ _ _ us hl => match us, hl with | [_], _ => rfl), ?_⟩
  refine F_.ok sc_Ring_form (fun vs H Q E h => ?_) (fun cdv A outer s H vs Q E hr h => ?_)
  · first | (obtain ⟨rfl, _⟩ := h; rfl) | (obtain ⟨_, rfl, _⟩ := h; rfl) | (obtain ⟨_, _, rfl, _⟩ := h; rfl) | (obtain ⟨_, _, _, rfl, _⟩ := h; rfl) | (obtain ⟨_, _, _, _, rfl, _⟩ := h; rfl) | (obtain ⟨_, _, _, _, _, rfl, _⟩ := h; rfl) | (obtain ⟨_, _, _, _, _, _, rfl, _⟩ := h; rfl) | (obtain ⟨_, _, _, _, _, _, _, rfl, _⟩ := h; rfl) | (obtain ⟨_, _, _, _, _, _, _, _, rfl, _⟩ := h; rfl) | (obtain ⟨_, _, _, _, _, _, _, _, _, rfl, _⟩ := h; rfl) | (obtain ⟨_, _, _, _, _, _, _, _, _, _, rfl, _⟩ := h; rfl) | (obtain ⟨_, _, _, _, _, _, _, _, _, _, _, rfl, _⟩ := h; rfl) | (obtain ⟨_, _, _, _, _, _, _, _, _, _, _, _, rfl, _⟩ := h; rfl) | (obtain ⟨_, _, _, _, _, _, _, _, _, _, _, _, _, rfl, _⟩ := h; rfl) | (obtain ⟨_, _, _, _, _, _, _, _, _, _, _, _, _, _, rfl, _⟩ := h; rfl) | (obtain ⟨_, _, _, _, _, _, _, _, _, _, _, _, _, _, _, rfl, _⟩ := h; rfl) | (obtain ⟨_, _, _, _, _, _, _, _, _, _, _, _, _, _, _, _, rfl, _⟩ := h; rfl) | (obtain ⟨_, _, _, _, _, _, _, _, _, _, _, _, _, _, _, _, _, rfl, _⟩ := h; rfl) | (obtain ⟨_, _, _, _, _, _, _, _, _, _, _, _, _, _, _, _, _, _, rfl, _⟩ := h; rfl) | (obtain ⟨_, _, _, _, _, _, _, _, _, _, _, _, _, _, _, _, _, _, _, rfl, _⟩ := h; rfl) | (obtain ⟨_, _, _, _, _, _, _, _, _, _, _, _, _, _, _, _, _, _, _, _, rfl, _⟩ := h; rfl) | (obtain ⟨_, _, _, _, _, _, _, _, _, _, _, _, _, _, _, _, _, _, _, _, _, rfl, _⟩ := h; rfl) | (obtain ⟨_, _, _, _, _, _, _, _, _, _, _, _, _, _, _, _, _, _, _, _, _, _, rfl, _⟩ := h; rfl) | (obtain ⟨_, _, _, _, _, _, _, _, _, _, _, _, _, _, _, _, _, _, _, _, _, _, _, rfl, _⟩ := h; rfl)
  · obtain ⟨r, ns, rfl, ⟨dr, x, hrr, hx⟩, q⟩ := h
    refine ⟨_, (pss_one (ps_ret (pe_fld (pv 0) (by rfl)))), ?_⟩
    exact ⟨_, rfl, r, C_Ring, dr, _, .ref x, rfl, hrr, T.cl_Ring, T.na_Ring_form, lk_same, q x hx⟩
theorem ok_Ring___eq__ (T : Txt K mg C_Form C_Ring C_Element) : MDef (fun p f => EqC K C_Ring f) P w K mg base 2 ["self", "other"] (sp_Ring___eq__ K C_Form C_Ring C_Element) := by
  obtain ⟨p_, f_, fd_, R_, F_⟩ := T.e_Ring___eq__
  obtain ⟨p_Form___eq__, f_Form___eq__, fd_Form___eq__, R_Form___eq__, b_Form___eq__, G_Form___eq__⟩ := (ok_Form___eq__ (P := P) (w := w) (base := base) T)
  refine ⟨p_, f_, fd_, R_, F_.binds (ps := ["self", "other"]) (fun _ _ _ _ _ _ us hl => match us, hl with | [_, _], _ => rfl), ?_⟩
  refine F_.ok sc_Ring___eq__ (fun vs H Q E h => ?_) (fun cdv A outer s H vs Q E hr h => ?_)
  · first | (obtain ⟨rfl, _⟩ := h; rfl) | (obtain ⟨_, rfl, _⟩ := h; rfl) | (obtain ⟨_, _, rfl, _⟩ := h; rfl) | (obtain ⟨_, _, _, rfl, _⟩ := h; rfl) | (obtain ⟨_, _, _, _, rfl, _⟩ := h; rfl) | (obtain ⟨_, _, _, _, _, rfl, _⟩ := h; rfl) | (obtain ⟨_, _, _, _, _, _, rfl, _⟩ := h; rfl) | (obtain ⟨_, _, _, _, _, _, _, rfl, _⟩ := h; rfl) | (obtain ⟨_, _, _, _, _, _, _, _, rfl, _⟩ := h; rfl) | (obtain ⟨_, _, _, _, _, _, _, _, _, rfl, _⟩ := h; rfl) | (obtain ⟨_, _, _, _, _, _, _, _, _, _, rfl, _⟩ := h; rfl) | (obtain ⟨_, _, _, _, _, _, _, _, _, _, _, rfl, _⟩ := h; rfl) | (obtain ⟨_, _, _, _, _, _, _, _, _, _, _, _, rfl, _⟩ := h; rfl) | (obtain ⟨_, _, _, _, _, _, _, _, _, _, _, _, _, rfl, _⟩ := h; rfl) | (obtain ⟨_, _, _, _, _, _, _, _, _, _, _, _, _, _, rfl, _⟩ := h; rfl) | (obtain ⟨_, _, _, _, _, _, _, _, _, _, _, _, _, _, _, rfl, _⟩ := h; rfl) | (obtain ⟨_, _, _, _, _, _, _, _, _, _, _, _, _, _, _, _, rfl, _⟩ := h; rfl) | (obtain ⟨_, _, _, _, _, _, _, _, _, _, _, _, _, _, _, _, _, rfl, _⟩ := h; rfl) | (obtain ⟨_, _, _, _, _, _, _, _, _, _, _, _, _, _, _, _, _, _, rfl, _⟩ := h; rfl) | (obtain ⟨_, _, _, _, _, _, _, _, _, _, _, _, _, _, _, _, _, _, _, rfl, _⟩ := h; rfl) | (obtain ⟨_, _, _, _, _, _, _, _, _, _, _, _, _, _, _, _, _, _, _, _, rfl, _⟩ := h; rfl) | (obtain ⟨_, _, _, _, _, _, _, _, _, _, _, _, _, _, _, _, _, _, _, _, _, rfl, _⟩ := h; rfl) | (obtain ⟨_, _, _, _, _, _, _, _, _, _, _, _, _, _, _, _, _, _, _, _, _, _, rfl, _⟩ := h; rfl) | (obtain ⟨_, _, _, _, _, _, _, _, _, _, _, _, _, _, _, _, _, _, _, _, _, _, _, rfl, _⟩ := h; rfl)
  · obtain ⟨x, w, ns, rfl, ⟨dx, f, hx, hf⟩, h2⟩ := h
    obtain ⟨df, t, hf1, hf2⟩ := id hf
    refine ⟨_, (pss_one (ps_ret (pe_and (pe_callB call_isi (by rfl) T.b_isinstance (by decide +kernel) (pa_cons (pv 1) (pa_cons (pe_glob (v := .ref C_Ring) (by rfl) T.g_Ring rfl) pa_nil))) (pe_one (pe_cmpR (op_eqI R_Form___eq__ G_Form___eq__ b_Form___eq__ (hr.mono (by decide)) pass0) (pe_fld (pv 0) (by rfl)) (pe_fld (pv 1) (by rfl)) (nomark _)))))), ?_⟩
    rcases h2 with ⟨y, ms, rfl, ⟨dy, f', hy, hf'⟩, q⟩ | ⟨t, kt, ty, q⟩
    case inr => exact ⟨_, rfl, _, _, _, _, false, rfl, .own _, ty, kt, _, rfl, q⟩
    obtain ⟨df', t', hf3, hf4⟩ := id hf'
    refine ⟨_, rfl, _, _, _, _, true, rfl, .own _, ty_ins T.ty_Ring T.cl_Ring hy, kit_self, _, rfl, ?_⟩
    refine ⟨_, rfl, x, C_Ring, dx, _, .ref f, rfl, hx, T.cl_Ring, T.na_Ring_form, lk_same, _, rfl, y, C_Ring, dy, _, .ref f', rfl, hy, T.cl_Ring, T.na_Ring_form, lk_same, ?_⟩
    exact ⟨f, df, _, _, rfl, hf1, ty_ins T.ty_Form T.cl_Form hf3, first_self, f, f', ns, ms, rfl, hf, hf', _, rfl, q⟩
theorem ok_table_for (T : Txt K mg C_Form C_Ring C_Element) : Def P w K mg base 3 "table_for" ["ring"] (sp_table_for K C_Form C_Ring C_Element) := by
  obtain ⟨f_, fd_, g_, F_⟩ := T.d_table_for
  obtain ⟨p_Form_coefficients, f_Form_coefficients, fd_Form_coefficients, R_Form_coefficients, b_Form_coefficients, G_Form_coefficients⟩ := (ok_Form_coefficients (P := P) (w := w) (base := base) T)
  obtain ⟨p_Ring_form, f_Ring_form, fd_Ring_form, R_Ring_form, b_Ring_form, G_Ring_form⟩ := (ok_Ring_form (P := P) (w := w) (base := base) T)
  obtain ⟨f_table_of, fd_table_of, g_table_of, k_table_of, b_table_of, G_table_of⟩ := (ok_table_of (P := P) (w := w) (base := base) T)
  refine ⟨f_, fd_, g_, F_.kp, F_.binds (ps := ["ring"]) (fun _ _ _ _ _ _ us hl => match us, hl with | [_], _ => rfl), ?_⟩
  refine F_.ok sc_table_for (fun vs H Q E h => ?_) (fun cdv A outer s H vs Q E hr h => ?_)
  · first | (obtain ⟨rfl, _⟩ := h; rfl) | (obtain ⟨_, rfl, _⟩ := h; rfl) | (obtain ⟨_, _, rfl, _⟩ := h; rfl) | (obtain ⟨_, _, _, rfl, _⟩ := h; rfl) | (obtain ⟨_, _, _, _, rfl, _⟩ := h; rfl) | (obtain ⟨_, _, _, _, _, rfl, _⟩ := h; rfl) | (obtain ⟨_, _, _, _, _, _, rfl, _⟩ := h; rfl) | (obtain ⟨_, _, _, _, _, _, _, rfl, _⟩ := h; rfl) | (obtain ⟨_, _, _, _, _, _, _, _, rfl, _⟩ := h; rfl) | (obtain ⟨_, _, _, _, _, _, _, _, _, rfl, _⟩ := h; rfl) | (obtain ⟨_, _, _, _, _, _, _, _, _, _, rfl, _⟩ := h; rfl) | (obtain ⟨_, _, _, _, _, _, _, _, _, _, _, rfl, _⟩ := h; rfl) | (obtain ⟨_, _, _, _, _, _, _, _, _, _, _, _, rfl, _⟩ := h; rfl) | (obtain ⟨_, _, _, _, _, _, _, _, _, _, _, _, _, rfl, _⟩ := h; rfl) | (obtain ⟨_, _, _, _, _, _, _, _, _, _, _, _, _, _, rfl, _⟩ := h; rfl) | (obtain ⟨_, _, _, _, _, _, _, _, _, _, _, _, _, _, _, rfl, _⟩ := h; rfl) | (obtain ⟨_, _, _, _, _, _, _, _, _, _, _, _, _, _, _, _, rfl, _⟩ := h; rfl) | (obtain ⟨_, _, _, _, _, _, _, _, _, _, _, _, _, _, _, _, _, rfl, _⟩ := h; rfl) | (obtain ⟨_, _, _, _, _, _, _, _, _, _, _, _, _, _, _, _, _, _, rfl, _⟩ := h; rfl) | (obtain ⟨_, _, _, _, _, _, _, _, _, _, _, _, _, _, _, _, _, _, _, rfl, _⟩ := h; rfl) | (obtain ⟨_, _, _, _, _, _, _, _, _, _, _, _, _, _, _, _, _, _, _, _, rfl, _⟩ := h; rfl) | (obtain ⟨_, _, _, _, _, _, _, _, _, _, _, _, _, _, _, _, _, _, _, _, _, rfl, _⟩ := h; rfl) | (obtain ⟨_, _, _, _, _, _, _, _, _, _, _, _, _, _, _, _, _, _, _, _, _, _, rfl, _⟩ := h; rfl) | (obtain ⟨_, _, _, _, _, _, _, _, _, _, _, _, _, _, _, _, _, _, _, _, _, _, _, rfl, _⟩ := h; rfl)
  · obtain ⟨r, a, b, c, d, rfl, hR, bz, q⟩ := h
    obtain ⟨dr, x, hrr, hx⟩ := id hR
    refine ⟨_, (pss_one (ps_ret (pe_call G_table_of (hr.mono (by decide)) (by rfl) g_table_of k_table_of b_table_of .nil pass0 (pa_cons (pe_prop (pe_prop (pv 0) T.cl_Ring R_Ring_form G_Ring_form (hr.mono (by decide)) b_Ring_form .nil pass0 (by rfl)) T.cl_Form R_Form_coefficients G_Form_coefficients (hr.mono (by decide)) b_Form_coefficients .nil pass0 (by rfl)) pa_nil)))), ?_⟩
    refine ⟨_, rfl, r, dr, _, rfl, hrr, r, _, rfl, hR, fun f hf => ?_⟩
    obtain ⟨df, tf, hf1, hf2⟩ := id hf
    refine ⟨f, df, _, rfl, hf1, f, _, rfl, hf, fun t ht => ?_⟩
    exact ⟨t, a, b, c, d, rfl, ht, bz, fun o H1 e1 ho => q o H1 e1 ho⟩
theorem ok_Element_ring (T : Txt K mg C_Form C_Ring C_Element) : MDef (fun p f => PropOf K C_Element "ring" p f) P w K mg base 1 ["self"] (sp_Element_ring K C_Form C_Ring C_Element) := by
  obtain ⟨p_, f_, fd_, R_, F_⟩ := T.e_Element_ring
  refine ⟨p_, f_, fd_, R_, F_.binds (ps := ["self"]) (fun _ _ _ _ _ _ us hl => match us, hl with | [_], _ => rfl), ?_⟩
  refine F_.ok sc_Element_ring (fun vs H Q E h => ?_) (fun cdv A outer s H vs Q E hr h => ?_)
  · first | (obtain ⟨rfl, _⟩ := h; rfl) | (obtain ⟨_, rfl, _⟩ := h; rfl) | (obtain ⟨_, _, rfl, _⟩ := h; rfl) | (obtain ⟨_, _, _, rfl, _⟩ := h; rfl) | (obtain ⟨_, _, _, _, rfl, _⟩ := h; rfl) | (obtain ⟨_, _, _, _, _, rfl, _⟩ := h; rfl) | (obtain ⟨_, _, _, _, _, _, rfl, _⟩ := h; rfl) | (obtain ⟨_, _, _, _, _, _, _, rfl, _⟩ := h; rfl) | (obtain ⟨_, _, _, _, _, _, _, _, rfl, _⟩ := h; rfl) | (obtain ⟨_, _, _, _, _, _, _, _, _, rfl, _⟩ := h; rfl) | (obtain ⟨_, _, _, _, _, _, _, _, _, _, rfl, _⟩ := h; rfl) | (obtain ⟨_, _, _, _, _, _, _, _, _, _, _, rfl, _⟩ := h; rfl) | (obtain ⟨_, _, _, _, _, _, _, _, _, _, _, _, rfl, _⟩ := h; rfl) | (obtain ⟨_, _, _, _, _, _, _, _, _, _, _, _, _, rfl, _⟩ := h; rfl) | (obtain ⟨_, _, _, _, _, _, _, _, _, _, _, _, _, _, rfl, _⟩ := h; rfl) | (obtain ⟨_, _, _, _, _, _, _, _, _, _, _, _, _, _, _, rfl, _⟩ := h; rfl) | (obtain ⟨_, _, _, _, _, _, _, _, _, _, _, _, _, _, _, _, rfl, _⟩ := h; rfl) | (obtain ⟨_, _, _, _, _, _, _, _, _, _, _, _, _, _, _, _, _, rfl, _⟩ := h; rfl) | (obtain ⟨_, _, _, _, _, _, _, _, _, _, _, _, _, _, _, _, _, _, rfl, _⟩ := h; rfl) | (obtain ⟨_, _, _, _, _, _, _, _, _, _, _, _, _, _, _, _, _, _, _, rfl, _⟩ := h; rfl) | (obtain ⟨_, _, _, _, _, _, _, _, _, _, _, _, _, _, _, _, _, _, _, _, rfl, _⟩ := h; rfl) | (obtain ⟨_, _, _, _, _, _, _, _, _, _, _, _, _, _, _, _, _, _, _, _, _, rfl, _⟩ := h; rfl) | (obtain ⟨_, _, _, _, _, _, _, _, _, _, _, _, _, _, _, _, _, _, _, _, _, _, rfl, _⟩ := h; rfl) | (obtain ⟨_, _, _, _, _, _, _, _, _, _, _, _, _, _, _, _, _, _, _, _, _, _, _, rfl, _⟩ := h; rfl)
  · obtain ⟨x, ns, u, y, z, b, rfl, ⟨de, r, t, he, hr, ht⟩, q⟩ := h
    refine ⟨_, (pss_one (ps_ret (pe_fld (pv 0) (by rfl)))), ?_⟩
    exact ⟨_, rfl, x, C_Element, de, _, .ref r, rfl, he, T.cl_Element, T.na_Element_ring, lkR, q r hr⟩
theorem ok_check_one_ring (T : Txt K mg C_Form C_Ring C_Element) : Def P w K mg base 4 "check_one_ring" ["first", "second"] (sp_check_one_ring K C_Form C_Ring C_Element) := by
  obtain ⟨f_, fd_, g_, F_⟩ := T.d_check_one_ring
  obtain ⟨p_Element_ring, f_Element_ring, fd_Element_ring, R_Element_ring, b_Element_ring, G_Element_ring⟩ := (ok_Element_ring (P := P) (w := w) (base := base) T)
  obtain ⟨p_Ring___eq__, f_Ring___eq__, fd_Ring___eq__, R_Ring___eq__, b_Ring___eq__, G_Ring___eq__⟩ := (ok_Ring___eq__ (P := P) (w := w) (base := base) T)
  refine ⟨f_, fd_, g_, F_.kp, F_.binds (ps := ["first", "second"]) (fun _ _ _ _ _ _ us hl => match us, hl with | [_, _], _ => rfl), ?_⟩
  refine F_.ok sc_check_one_ring (fun vs H Q E h => ?_) (fun cdv A outer s H vs Q E hr h => ?_)
  · first | (obtain ⟨rfl, _⟩ := h; rfl) | (obtain ⟨_, rfl, _⟩ := h; rfl) | (obtain ⟨_, _, rfl, _⟩ := h; rfl) | (obtain ⟨_, _, _, rfl, _⟩ := h; rfl) | (obtain ⟨_, _, _, _, rfl, _⟩ := h; rfl) | (obtain ⟨_, _, _, _, _, rfl, _⟩ := h; rfl) | (obtain ⟨_, _, _, _, _, _, rfl, _⟩ := h; rfl) | (obtain ⟨_, _, _, _, _, _, _, rfl, _⟩ := h; rfl) | (obtain ⟨_, _, _, _, _, _, _, _, rfl, _⟩ := h; rfl) | (obtain ⟨_, _, _, _, _, _, _, _, _, rfl, _⟩ := h; rfl) | (obtain ⟨_, _, _, _, _, _, _, _, _, _, rfl, _⟩ := h; rfl) | (obtain ⟨_, _, _, _, _, _, _, _, _, _, _, rfl, _⟩ := h; rfl) | (obtain ⟨_, _, _, _, _, _, _, _, _, _, _, _, rfl, _⟩ := h; rfl) | (obtain ⟨_, _, _, _, _, _, _, _, _, _, _, _, _, rfl, _⟩ := h; rfl) | (obtain ⟨_, _, _, _, _, _, _, _, _, _, _, _, _, _, rfl, _⟩ := h; rfl) | (obtain ⟨_, _, _, _, _, _, _, _, _, _, _, _, _, _, _, rfl, _⟩ := h; rfl) | (obtain ⟨_, _, _, _, _, _, _, _, _, _, _, _, _, _, _, _, rfl, _⟩ := h; rfl) | (obtain ⟨_, _, _, _, _, _, _, _, _, _, _, _, _, _, _, _, _, rfl, _⟩ := h; rfl) | (obtain ⟨_, _, _, _, _, _, _, _, _, _, _, _, _, _, _, _, _, _, rfl, _⟩ := h; rfl) | (obtain ⟨_, _, _, _, _, _, _, _, _, _, _, _, _, _, _, _, _, _, _, rfl, _⟩ := h; rfl) | (obtain ⟨_, _, _, _, _, _, _, _, _, _, _, _, _, _, _, _, _, _, _, _, rfl, _⟩ := h; rfl) | (obtain ⟨_, _, _, _, _, _, _, _, _, _, _, _, _, _, _, _, _, _, _, _, _, rfl, _⟩ := h; rfl) | (obtain ⟨_, _, _, _, _, _, _, _, _, _, _, _, _, _, _, _, _, _, _, _, _, _, rfl, _⟩ := h; rfl) | (obtain ⟨_, _, _, _, _, _, _, _, _, _, _, _, _, _, _, _, _, _, _, _, _, _, _, rfl, _⟩ := h; rfl)
  · obtain ⟨x, x', ns, u, y, z, b, v, s', r', e, rfl, h1, h2, q⟩ := h
    obtain ⟨d1, r1, t1, g1, g2, g3⟩ := id h1
    obtain ⟨d2, r2, t2, k1, k2, k3⟩ := id h2
    refine ⟨_, (pss_one (ps_if (pt_cmpR (op_neI R_Ring___eq__ G_Ring___eq__ b_Ring___eq__ (hr.mono (by decide)) pass0) (pe_prop (pv 0) T.cl_Element R_Element_ring G_Element_ring (hr.mono (by decide)) b_Element_ring .nil pass0 (by rfl)) (pe_prop (pv 1) T.cl_Element R_Element_ring G_Element_ring (hr.mono (by decide)) b_Element_ring .nil pass0 (by rfl)) (nomark _))
      pss_never
      pss_nil)), ?_⟩
    refine ⟨_, rfl, x, d1, _, rfl, g1, x, ns, u, y, z, b, rfl, h1, fun q1 hq1 => ?_⟩
    refine ⟨_, rfl, x', d2, _, rfl, k1, x', ns, v, s', r', e, rfl, h2, fun q2 hq2 => ?_⟩
    obtain ⟨d3, f3, m1, m2⟩ := id hq1
    obtain ⟨d4, f4, n1, n2⟩ := id hq2
    refine ⟨q1, d3, _, _, rfl, m1, ty_ins T.ty_Ring T.cl_Ring n1, first_self, q1, .ref q2, ns, rfl, hq1, .inl ⟨q2, ns, rfl, hq2, _, rfl, _, rfl, ?_⟩⟩
    rw [decide_eq_true rfl]
    exact iteF q
theorem ok_Element___init__ (T : Txt K mg C_Form C_Ring C_Element) : MDef (fun p f => Mk K C_Element f) P w K mg base 2 ["self", "ring", "entries", "bottom"] (sp_Element___init__ K C_Form C_Ring C_Element) := by
  obtain ⟨p_, f_, fd_, R_, F_⟩ := T.e_Element___init__
  obtain ⟨f_shared_divisor, fd_shared_divisor, g_shared_divisor, k_shared_divisor, b_shared_divisor, G_shared_divisor⟩ := (ok_shared_divisor (P := P) (w := w) (base := base) T)
  refine ⟨p_, f_, fd_, R_, F_.binds (ps := ["self", "ring", "entries", "bottom"]) (fun _ _ _ _ _ _ us hl => match us, hl with | [_, _, _, _], _ => rfl), ?_⟩
  refine F_.ok sc_Element___init__ (fun vs H Q E h => ?_) (fun cdv A outer s H vs Q E hr h => ?_)
  · first | (obtain ⟨rfl, _⟩ := h; rfl) | (obtain ⟨_, rfl, _⟩ := h; rfl) | (obtain ⟨_, _, rfl, _⟩ := h; rfl) | (obtain ⟨_, _, _, rfl, _⟩ := h; rfl) | (obtain ⟨_, _, _, _, rfl, _⟩ := h; rfl) | (obtain ⟨_, _, _, _, _, rfl, _⟩ := h; rfl) | (obtain ⟨_, _, _, _, _, _, rfl, _⟩ := h; rfl) | (obtain ⟨_, _, _, _, _, _, _, rfl, _⟩ := h; rfl) | (obtain ⟨_, _, _, _, _, _, _, _, rfl, _⟩ := h; rfl) | (obtain ⟨_, _, _, _, _, _, _, _, _, rfl, _⟩ := h; rfl) | (obtain ⟨_, _, _, _, _, _, _, _, _, _, rfl, _⟩ := h; rfl) | (obtain ⟨_, _, _, _, _, _, _, _, _, _, _, rfl, _⟩ := h; rfl) | (obtain ⟨_, _, _, _, _, _, _, _, _, _, _, _, rfl, _⟩ := h; rfl) | (obtain ⟨_, _, _, _, _, _, _, _, _, _, _, _, _, rfl, _⟩ := h; rfl) | (obtain ⟨_, _, _, _, _, _, _, _, _, _, _, _, _, _, rfl, _⟩ := h; rfl) | (obtain ⟨_, _, _, _, _, _, _, _, _, _, _, _, _, _, _, rfl, _⟩ := h; rfl) | (obtain ⟨_, _, _, _, _, _, _, _, _, _, _, _, _, _, _, _, rfl, _⟩ := h; rfl) | (obtain ⟨_, _, _, _, _, _, _, _, _, _, _, _, _, _, _, _, _, rfl, _⟩ := h; rfl) | (obtain ⟨_, _, _, _, _, _, _, _, _, _, _, _, _, _, _, _, _, _, rfl, _⟩ := h; rfl) | (obtain ⟨_, _, _, _, _, _, _, _, _, _, _, _, _, _, _, _, _, _, _, rfl, _⟩ := h; rfl) | (obtain ⟨_, _, _, _, _, _, _, _, _, _, _, _, _, _, _, _, _, _, _, _, rfl, _⟩ := h; rfl) | (obtain ⟨_, _, _, _, _, _, _, _, _, _, _, _, _, _, _, _, _, _, _, _, _, rfl, _⟩ := h; rfl) | (obtain ⟨_, _, _, _, _, _, _, _, _, _, _, _, _, _, _, _, _, _, _, _, _, _, rfl, _⟩ := h; rfl) | (obtain ⟨_, _, _, _, _, _, _, _, _, _, _, _, _, _, _, _, _, _, _, _, _, _, _, rfl, _⟩ := h; rfl)
  · obtain ⟨x, dx, r, t, u, y, z, b, rfl, hx, ht, hb, bb, q⟩ := h
    refine ⟨_, (pss_cons (ps_set (i := 4) sc_Element___init__.nd rfl (.inr rfl) (pe_call G_shared_divisor (hr.mono (by decide)) (by rfl) g_shared_divisor k_shared_divisor b_shared_divisor .nil pass0 (pa_cons (pe_tup (pa_cons (pe_call G_shared_divisor (hr.mono (by decide)) (by rfl) g_shared_divisor k_shared_divisor b_shared_divisor .nil pass0 (pa_cons (pv 2) pa_nil)) (pa_cons (pv 3) pa_nil))) pa_nil)))
    (Evl.pss_cut (ps_if (pt_cmpR op_lt (pv 3) pe_int (nomark _))
      (pss_one (ps_set (i := 4) sc_Element___init__.nd rfl (.inr rfl) (pe_un un_neg (pv 4))))
      pss_nil)
    (pss_cons (ps_fld (pv 0) (pv 1) (by rfl))
    (pss_cons (ps_fld (pv 0) (pe_callTy call_tuple_of (by rfl) T.b_tuple (by decide +kernel) (pa_cons (pe_lc (own := [("number", 5)]) (g := (gName 5)) rfl sc_Element___init__.nd (pi_tup (pv 2)) (blkOk_by (N := N_Element___init__) (sc := defScope s_Element___init__) (by decide +kernel)) (fun _ _ _ _ _ => (pg_name (i := 5) sc_Element___init__.nd rfl (.inl rfl))) (fun _ _ _ _ _ => pts_nil) (fun _ _ _ _ _ => (pe_op op_fdivNW (pv 5) (pv 4)))) pa_nil)) (by rfl))
    (pss_one (ps_fld (pv 0) (pe_op op_fdivNW (pv 3) (pv 4)) (by rfl))))))), ?_⟩
    obtain ⟨g, u', y', z', b', eg, g0, bg, eu, ey, ez, eb, b0, hg⟩ := low_of u y z b hb bb
    refine ⟨_, rfl, t, [u, y, z], rfl, ht, _, rfl, sl2, fun T0 nT => ?_⟩
    refine ⟨T0, [(gcdL [u, y, z] : Int), b], rfl, SqT.of upd_same, ?_⟩
    refine ⟨fun σ H' => σ = [some (.ref x), some (.ref r), some (.ref t), some (.int b), some (.int g), none] ∧ Ex0 H H' ∧ H' x = some (.ins C_Element dx []), ?_, ?_⟩
    · have ex : Ex0 H (upd H T0 (.tup [.int (gcdL [u, y, z] : Int), .int b])) := Ex0.new nT
      refine ⟨_, rfl, _, _, rfl, rfl, _, rfl, iteD (fun n => ?_) (fun n => ?_)⟩
      · rw [if_pos n] at eg
        subst eg
        exact ⟨_, rfl, _, rfl, rfl, ex, ex.ap hx⟩
      · rw [if_neg n] at eg
        subst eg
        exact ⟨rfl, ex, ex.ap hx⟩
    rintro σ H1 ⟨rfl, e1, hx1⟩
    have ht1 := Ex0.tq e1 ht
    have dv : ∀ n m : Int, n = g * m → n.fdiv g = m := fun n m h => by rw [h]; exact Int.mul_fdiv_cancel_left m g0
    have cd : ∀ n : Int, CDivNW n g := fun n => ⟨g0, by have := log_lt bg.1 bg.2; omega⟩
    refine ⟨_, rfl, _, rfl, x, C_Element, dx, _, rfl, hx1, T.cl_Element, T.na_Element_ring, (by decide : (0:Nat) < 1000), ?_⟩
    have hxr : upd H1 x (.ins C_Element dx (putF ("_ring" : Str) (.ref r) [])) x = some (.ins C_Element dx (putF ("_ring" : Str) (.ref r) [])) := upd_same
    have ht2 : Tq K (upd H1 x (.ins C_Element dx (putF ("_ring" : Str) (.ref r) []))) t [u, y, z] := tq_upd ht1 hx1
    generalize hH2 : upd H1 x (.ins C_Element dx (putF ("_ring" : Str) (.ref r) [])) = H2 at hxr ht2 ⊢
    refine ⟨_, rfl, t, rfl, ⟨_, ht2⟩, ?_⟩
    refine lcT fm0 trivial ht2 (fun z => z) (fun i acc _ => acc = (([u', y', z'] : List Int).take i).map V.int) (fun _ _ => rfl) (fun D i n acc H' hD hn e hA hlen hp => ?_) (fun D H' acc hD e hA hp => ?_)
    · obtain ⟨m, hm, rfl⟩ := get_int hn
      refine ⟨rfl, ?_⟩
      refine ⟨_, rfl, _, rfl, m, g, rfl, rfl, cd m, ?_⟩
      have hi : i < 3 := (List.getElem?_eq_some_iff.mp hm).1
      refine cs_yes fm0 trivial hD e hA hlen (by omega) (Fx.refl trivial) ?_
      have hh : m.fdiv g = ([u', y', z'] : List Int).getD i 0 := by
        match i, hm with
        | 0, hm => exact dv m u' ((Option.some.inj hm).symm.trans eu)
        | 1, hm => exact dv m y' ((Option.some.inj hm).symm.trans ey)
        | 2, hm => exact dv m z' ((Option.some.inj hm).symm.trans ez)
      show acc ++ [V.int (m.fdiv g)] = _
      rw [hp, hh]
      match i, hi with
      | 0, _ => rfl
      | 1, _ => rfl
      | 2, _ => rfl
    · refine ⟨D, _, rfl, .inl ⟨SqL.of hA, fun p np => ?_⟩⟩
      have hp' : acc = [.int u', .int y', .int z'] := hp
      subst hp'
      have hx3 := Ex0.ap (Fx.trans e (Ex0.new (o := .tup [.int u', .int y', .int z']) np)) hxr
      refine ⟨_, rfl, x, C_Element, dx, _, rfl, hx3, T.cl_Element, T.na_Element_entries, (by decide : (1:Nat) < 1000), ?_⟩
      refine ⟨_, rfl, _, rfl, b, g, rfl, rfl, cd b, _, rfl, x, C_Element, dx, _, rfl, upd_same, T.cl_Element, T.na_Element_bottom, (by decide : (2:Nat) < 1000), ?_⟩
      have npx : p ≠ x := (ne_of_none (Ex0.ap e hxr) np).symm
      refine q _ p u' y' z' b' ⟨g, eu, ey, ez, eb, b0, hg⟩ (fun c o n ec => ?_) npx ?_ ?_
      · rw [upd_ne n, upd_ne n]
        refine Ex0.ap (Ex0.new np) (Ex0.ap e ?_)
        rw [← hH2, upd_ne n]
        exact Ex0.ap e1 ec
      · rw [upd_same]
        show some (HO.ins C_Element dx (putF ("_bottom" : Str) (.int (b.fdiv g)) _)) = _
        rw [dv b b' eb]
        rfl
      · show upd (upd _ x _) x _ p = _
        rw [upd_ne npx, upd_ne npx]
        exact upd_same
end
end RG
namespace RG
open PySem PySem.Spec PyProof.Rows L2 Fr
theorem w_B {a b c d : Int} (h : B4 1000 a b c d) : B3 2100 (-a * c) b (-a) ∧ B3 2100 (-a * d) 0 0 ∧ B3 2100 (-b * d) d (-c) := by
  obtain ⟨ba, bb, bc, bd⟩ := h
  have z : B 2100 0 := B0 (by decide)
  exact ⟨⟨(B.mul ba.neg bc).mono (by decide), bb.mono (by decide), ba.neg.mono (by decide)⟩, ⟨(B.mul ba.neg bd).mono (by decide), z, z⟩, ⟨(B.mul bb.neg bd).mono (by decide), bd.mono (by decide), bc.neg.mono (by decide)⟩⟩
theorem B3.mono {n m : Nat} {a b c : Int} (h : B3 n a b c) (k : n ≤ m) : B3 m a b c := ⟨h.1.mono k, h.2.1.mono k, h.2.2.mono k⟩
theorem B4.mono {n m : Nat} {a b c d : Int} (h : B4 n a b c d) (k : n ≤ m) : B4 m a b c d := ⟨h.1.mono k, h.2.1.mono k, h.2.2.1.mono k, h.2.2.2.mono k⟩
theorem tr_eq (a b c d u y z : Int) : m0 (-a * c) (-a * d) (-b * d) u y z 1 0 0 + m1 b 0 d u y z 0 1 0 + m2 (-a) 0 (-c) u y z 0 0 1 = tr a b c d u y z := by
  unfold m0 m1 m2 tr
  grind
theorem el_made {C C_R C_E : Addr} {H H' : Hp} {x dx r t t' : Addr} {ns : List Int} {u y z b : Int} {o1 o2 : HO} (nx : H x = none) (ndx : H dx = none) (hr : RingAt C C_R H r ns) (e1 : ∀ c o, c ≠ x → (upd (upd H dx o1) x o2) c = some o → H' c = some o)
    (e2 : H' x = some (.ins C_E dx [(("_ring" : Str), .ref r), (("_entries" : Str), .ref t'), (("_bottom" : Str), .int b)])) (e3 : Ti H' t' [u, y, z]) : Ex0 H H' ∧ ElAt C C_R C_E H' x ns u y z b := by
  have ex := made_ex nx ndx e1
  exact ⟨ex, dx, r, t', e2, Ex0.ri ex hr, e3⟩
section
variable {P : Program} {w : World} {K : PySem.W.Frag} {mg : Str → Option Value} {base : Heap} {C_Form C_Ring C_Element : Addr}
theorem ok_Ring_element (T : Txt K mg C_Form C_Ring C_Element) : MDefD (fun p f => Meth K C_Ring "element" f) P w K mg base 6 ["self", "entries", "bottom"] [.int 1] (sp_Ring_element K C_Form C_Ring C_Element) := by
  obtain ⟨p_, f_, fd_, R_, F_⟩ := T.e_Ring_element
  obtain ⟨p_Element___init__, f_Element___init__, fd_Element___init__, R_Element___init__, b_Element___init__, G_Element___init__⟩ := (ok_Element___init__ (P := P) (w := w) (base := base) T)
  obtain ⟨f_are_short_integers, fd_are_short_integers, g_are_short_integers, k_are_short_integers, b_are_short_integers, G_are_short_integers⟩ := (ok_are_short_integers (P := P) (w := w) (base := base) T)
  obtain ⟨f_check_bottom, fd_check_bottom, g_check_bottom, k_check_bottom, b_check_bottom, G_check_bottom⟩ := (ok_check_bottom (P := P) (w := w) (base := base) T)
  obtain ⟨ds_, v_, d_⟩ := F_.binds1 (ps := ["self", "entries", "bottom"]) 2 0 (by simp) (by rfl) (fun _ _ _ _ _ _ _ us its l1 l2 => match us, its, l1, l2 with | [_, _], [_], _, _ => ⟨_, rfl, rfl⟩)
  obtain ⟨dz_, w_, b_⟩ := F_.binds1 (ps := ["self", "entries", "bottom"]) 3 1 (by simp) (by rfl) (fun _ _ _ _ _ _ _ us its l1 l2 => match us, its, l1, l2 with | [_, _, _], [_], _, _ => ⟨_, rfl, rfl⟩)
  cases w_
  refine ⟨p_, f_, fd_, ds_, R_, b_, v_, d_, ?_⟩
  refine FunD.ok F_ sc_Ring_element (fun vs H Q E h => ?_) (fun cdv A outer s H vs Q E hr h => ?_)
  · first | (obtain ⟨rfl, _⟩ := h; rfl) | (obtain ⟨_, rfl, _⟩ := h; rfl) | (obtain ⟨_, _, rfl, _⟩ := h; rfl) | (obtain ⟨_, _, _, rfl, _⟩ := h; rfl) | (obtain ⟨_, _, _, _, rfl, _⟩ := h; rfl) | (obtain ⟨_, _, _, _, _, rfl, _⟩ := h; rfl) | (obtain ⟨_, _, _, _, _, _, rfl, _⟩ := h; rfl) | (obtain ⟨_, _, _, _, _, _, _, rfl, _⟩ := h; rfl) | (obtain ⟨_, _, _, _, _, _, _, _, rfl, _⟩ := h; rfl) | (obtain ⟨_, _, _, _, _, _, _, _, _, rfl, _⟩ := h; rfl) | (obtain ⟨_, _, _, _, _, _, _, _, _, _, rfl, _⟩ := h; rfl) | (obtain ⟨_, _, _, _, _, _, _, _, _, _, _, rfl, _⟩ := h; rfl) | (obtain ⟨_, _, _, _, _, _, _, _, _, _, _, _, rfl, _⟩ := h; rfl) | (obtain ⟨_, _, _, _, _, _, _, _, _, _, _, _, _, rfl, _⟩ := h; rfl) | (obtain ⟨_, _, _, _, _, _, _, _, _, _, _, _, _, _, rfl, _⟩ := h; rfl) | (obtain ⟨_, _, _, _, _, _, _, _, _, _, _, _, _, _, _, rfl, _⟩ := h; rfl) | (obtain ⟨_, _, _, _, _, _, _, _, _, _, _, _, _, _, _, _, rfl, _⟩ := h; rfl) | (obtain ⟨_, _, _, _, _, _, _, _, _, _, _, _, _, _, _, _, _, rfl, _⟩ := h; rfl) | (obtain ⟨_, _, _, _, _, _, _, _, _, _, _, _, _, _, _, _, _, _, rfl, _⟩ := h; rfl) | (obtain ⟨_, _, _, _, _, _, _, _, _, _, _, _, _, _, _, _, _, _, _, rfl, _⟩ := h; rfl) | (obtain ⟨_, _, _, _, _, _, _, _, _, _, _, _, _, _, _, _, _, _, _, _, rfl, _⟩ := h; rfl) | (obtain ⟨_, _, _, _, _, _, _, _, _, _, _, _, _, _, _, _, _, _, _, _, _, rfl, _⟩ := h; rfl) | (obtain ⟨_, _, _, _, _, _, _, _, _, _, _, _, _, _, _, _, _, _, _, _, _, _, rfl, _⟩ := h; rfl) | (obtain ⟨_, _, _, _, _, _, _, _, _, _, _, _, _, _, _, _, _, _, _, _, _, _, _, rfl, _⟩ := h; rfl)
  · obtain ⟨r, t, ns, u, y, z, b, rfl, hR, ht, su, sy, sz, sb, hb, q⟩ := h
    refine ⟨_, (pss_cons (ps_if (pt_not (pt_val (pe_call G_are_short_integers (hr.mono (by decide)) (by rfl) g_are_short_integers k_are_short_integers b_are_short_integers .nil pass0 (pa_cons (pv 1) (pa_cons pe_int pa_nil)))))
      pss_never
      pss_nil)
    (pss_cons (ps_expr (pe_call G_check_bottom (hr.mono (by decide)) (by rfl) g_check_bottom k_check_bottom b_check_bottom .nil pass0 (pa_cons (pv 2) pa_nil)))
    (pss_one (ps_ret (pe_make R_Element___init__ G_Element___init__ (hr.mono (by decide)) (by rfl) T.g_Element b_Element___init__ .nil pass0 (pa_cons (pv 0) (pa_cons (pv 1) (pa_cons (pv 2) pa_nil)))))))), ?_⟩
    refine ⟨_, rfl, t, [u, y, z], rfl, ht, by show 3 ≤ 1000; decide, fun n hn => ?_, fun H1 e1 => ⟨_, rfl, ?_⟩⟩
    · simp only [List.mem_cons, List.mem_nil_iff, or_false] at hn
      rcases hn with rfl | rfl | rfl <;> assumption
    refine iteF ⟨_, rfl, b, rfl, sb, hb, ?_⟩
    refine ⟨_, rfl, _, rfl, _, rfl, fun x dx nx ndx _ => ?_⟩
    have ht1 := Ex0.ti e1 ht
    refine ⟨x, dx, r, t, u, y, z, b, rfl, upd_same, SqT.of (made_at nx ndx ht1), hb, sb.b.mono (by decide), fun H2 t' u' y' z' b' low e2 nt e3 ht' => ⟨rfl, ?_⟩⟩
    obtain ⟨f1, f2⟩ := el_made (t := t) nx ndx (Ex0.ri e1 hR) e2 e3 ht'
    exact q x H2 u' y' z' b' low (e1.trans f1) f2
theorem ok_Element___mul__ (T : Txt K mg C_Form C_Ring C_Element) : MDef (fun p f => BinC K C_Element "__mul__" f) P w K mg base 5 ["self", "other"] (sp_Element___mul__ K C_Form C_Ring C_Element) := by
  obtain ⟨p_, f_, fd_, R_, F_⟩ := T.e_Element___mul__
  obtain ⟨p_Element___init__, f_Element___init__, fd_Element___init__, R_Element___init__, b_Element___init__, G_Element___init__⟩ := (ok_Element___init__ (P := P) (w := w) (base := base) T)
  obtain ⟨f_check_one_ring, fd_check_one_ring, g_check_one_ring, k_check_one_ring, b_check_one_ring, G_check_one_ring⟩ := (ok_check_one_ring (P := P) (w := w) (base := base) T)
  obtain ⟨f_product_by, fd_product_by, g_product_by, k_product_by, b_product_by, G_product_by⟩ := (ok_product_by (P := P) (w := w) (base := base) T)
  obtain ⟨f_table_for, fd_table_for, g_table_for, k_table_for, b_table_for, G_table_for⟩ := (ok_table_for (P := P) (w := w) (base := base) T)
  refine ⟨p_, f_, fd_, R_, F_.binds (ps := ["self", "other"]) (fun _ _ _ _ _ _ us hl => match us, hl with | [_, _], _ => rfl), ?_⟩
  refine F_.ok sc_Element___mul__ (fun vs H Q E h => ?_) (fun cdv A outer s H vs Q E hr h => ?_)
  · first | (obtain ⟨rfl, _⟩ := h; rfl) | (obtain ⟨_, rfl, _⟩ := h; rfl) | (obtain ⟨_, _, rfl, _⟩ := h; rfl) | (obtain ⟨_, _, _, rfl, _⟩ := h; rfl) | (obtain ⟨_, _, _, _, rfl, _⟩ := h; rfl) | (obtain ⟨_, _, _, _, _, rfl, _⟩ := h; rfl) | (obtain ⟨_, _, _, _, _, _, rfl, _⟩ := h; rfl) | (obtain ⟨_, _, _, _, _, _, _, rfl, _⟩ := h; rfl) | (obtain ⟨_, _, _, _, _, _, _, _, rfl, _⟩ := h; rfl) | (obtain ⟨_, _, _, _, _, _, _, _, _, rfl, _⟩ := h; rfl) | (obtain ⟨_, _, _, _, _, _, _, _, _, _, rfl, _⟩ := h; rfl) | (obtain ⟨_, _, _, _, _, _, _, _, _, _, _, rfl, _⟩ := h; rfl) | (obtain ⟨_, _, _, _, _, _, _, _, _, _, _, _, rfl, _⟩ := h; rfl) | (obtain ⟨_, _, _, _, _, _, _, _, _, _, _, _, _, rfl, _⟩ := h; rfl) | (obtain ⟨_, _, _, _, _, _, _, _, _, _, _, _, _, _, rfl, _⟩ := h; rfl) | (obtain ⟨_, _, _, _, _, _, _, _, _, _, _, _, _, _, _, rfl, _⟩ := h; rfl) | (obtain ⟨_, _, _, _, _, _, _, _, _, _, _, _, _, _, _, _, rfl, _⟩ := h; rfl) | (obtain ⟨_, _, _, _, _, _, _, _, _, _, _, _, _, _, _, _, _, rfl, _⟩ := h; rfl) | (obtain ⟨_, _, _, _, _, _, _, _, _, _, _, _, _, _, _, _, _, _, rfl, _⟩ := h; rfl) | (obtain ⟨_, _, _, _, _, _, _, _, _, _, _, _, _, _, _, _, _, _, _, rfl, _⟩ := h; rfl) | (obtain ⟨_, _, _, _, _, _, _, _, _, _, _, _, _, _, _, _, _, _, _, _, rfl, _⟩ := h; rfl) | (obtain ⟨_, _, _, _, _, _, _, _, _, _, _, _, _, _, _, _, _, _, _, _, _, rfl, _⟩ := h; rfl) | (obtain ⟨_, _, _, _, _, _, _, _, _, _, _, _, _, _, _, _, _, _, _, _, _, _, rfl, _⟩ := h; rfl) | (obtain ⟨_, _, _, _, _, _, _, _, _, _, _, _, _, _, _, _, _, _, _, _, _, _, _, rfl, _⟩ := h; rfl)
  · obtain ⟨x, x', a, b, c, d, u, y, z, e, v, s', r', f, rfl, h1, h2, bz, bu, bv, be, bf, hne, q⟩ := h
    obtain ⟨dx, r, t, hx, hR, ht⟩ := id h1
    obtain ⟨dx2, r2, t2, hx2, hR2, ht2⟩ := id h2
    obtain ⟨v1, v2, v3⟩ := w_B bz
    refine ⟨_, (pss_cons (ps_if (pt_not (pt_val (pe_callB call_isi (by rfl) T.b_isinstance (by decide +kernel) (pa_cons (pv 1) (pa_cons (pe_glob (v := .ref C_Element) (by rfl) T.g_Element rfl) pa_nil)))))
      (pss_one ps_never)
      pss_nil)
    (pss_cons (ps_expr (pe_call G_check_one_ring (hr.mono (by decide)) (by rfl) g_check_one_ring k_check_one_ring b_check_one_ring .nil pass0 (pa_cons (pv 0) (pa_cons (pv 1) pa_nil))))
    (pss_cons (ps_set (i := 2) sc_Element___mul__.nd rfl (.inl rfl) (pe_call G_product_by (hr.mono (by decide)) (by rfl) g_product_by k_product_by b_product_by .nil pass0 (pa_cons (pe_call G_table_for (hr.mono (by decide)) (by rfl) g_table_for k_table_for b_table_for .nil pass0 (pa_cons (pe_fld (pv 0) (by rfl)) pa_nil)) (pa_cons (pe_fld (pv 0) (by rfl)) (pa_cons (pe_fld (pv 1) (by rfl)) pa_nil)))))
    (pss_one (ps_ret (pe_make R_Element___init__ G_Element___init__ (hr.mono (by decide)) (by rfl) T.g_Element b_Element___init__ .nil pass0 (pa_cons (pe_fld (pv 0) (by rfl)) (pa_cons (pv 2) (pa_cons (pe_op op_mulW (pe_fld (pv 0) (by rfl)) (pe_fld (pv 1) (by rfl))) pa_nil))))))))), ?_⟩
    refine ⟨_, rfl, _, _, _, _, true, rfl, .own _, ty_ins T.ty_Element T.cl_Element hx2, kit_self, _, rfl, ?_⟩
    refine iteF ⟨_, rfl, _, rfl, x, x', _, u, y, z, e, v, s', r', f, rfl, h1, h2, ?_⟩
    refine ⟨_, rfl, x, C_Element, dx, _, .ref r, rfl, hx, T.cl_Element, T.na_Element_ring, lkR, r, a, b, c, d, rfl, hR, bz, fun T1 H1 e1 hT => ?_⟩
    refine ⟨_, rfl, x, C_Element, dx, _, .ref t, rfl, e1.ap hx, T.cl_Element, T.na_Element_entries, lkE, ?_⟩
    refine ⟨_, rfl, x', C_Element, dx2, _, .ref t2, rfl, e1.ap hx2, T.cl_Element, T.na_Element_entries, lkE, ?_⟩
    refine ⟨T1, t, t2, _, _, _, _, _, _, _, _, _, u, y, z, v, s', r', rfl, hT, (Ex0.ti e1 ht).q, (Ex0.ti e1 ht2).q, v1, v2, v3, bu, bv, fun o H2 e2 ho => ?_⟩
    have e12 := e1.trans e2
    refine ⟨_, rfl, x, C_Element, dx, _, .ref r, rfl, Ex0.ap e12 hx, T.cl_Element, T.na_Element_ring, lkR, _, rfl, ?_⟩
    refine ⟨_, rfl, x, C_Element, dx, _, .int e, rfl, Ex0.ap e12 hx, T.cl_Element, T.na_Element_bottom, lkB, ?_⟩
    refine ⟨_, rfl, x', C_Element, dx2, _, .int f, rfl, Ex0.ap e12 hx2, T.cl_Element, T.na_Element_bottom, lkB, e, f, rfl, rfl, mulB be bf (by decide), fun y0 dy nx ndx _ => ?_⟩
    refine ⟨y0, dy, r, o, _, _, _, e * f, rfl, upd_same, SqT.of (made_at nx ndx ho), hne, (B.mul be bf).mono (by decide), fun H3 t' u' y' z' b' low e3 nt e4 ht' => ⟨rfl, ?_⟩⟩
    obtain ⟨f1, f2⟩ := el_made (t := o) nx ndx (Ex0.ri e12 hR) e3 e4 ht'
    exact q y0 H3 u' y' z' b' low (e12.trans f1) f2
end
end RG
namespace RG
open PySem PySem.Spec PyProof.Rows L2 Fr
theorem l33_new {H : Hp} {t1 t2 t3 x : Addr} {r1 r2 r3 : List Int} (n1 : H t1 = none) (n2 : upd H t1 (.tup (r1.map V.int)) t2 = none) (n3 : upd (upd H t1 (.tup (r1.map V.int))) t2 (.tup (r2.map V.int)) t3 = none)
    (n4 : upd (upd (upd H t1 (.tup (r1.map V.int))) t2 (.tup (r2.map V.int))) t3 (.tup (r3.map V.int)) x = none) :
    Ex0 H (upd (upd (upd (upd H t1 (.tup (r1.map V.int))) t2 (.tup (r2.map V.int))) t3 (.tup (r3.map V.int))) x (.lst [.ref t1, .ref t2, .ref t3])) ∧
      L33 (upd (upd (upd (upd H t1 (.tup (r1.map V.int))) t2 (.tup (r2.map V.int))) t3 (.tup (r3.map V.int))) x (.lst [.ref t1, .ref t2, .ref t3])) x r1 r2 r3 :=
  ⟨(((Ex0.new n1).trans (Ex0.new n2)).trans (Ex0.new n3)).trans (Ex0.new n4), t1, t2, t3, upd_same, Ex0.ap (Ex0.new n4) (Ex0.ap (Ex0.new n3) (Ex0.ap (Ex0.new n2) upd_same)), Ex0.ap (Ex0.new n4) (Ex0.ap (Ex0.new n3) upd_same), Ex0.ap (Ex0.new n4) upd_same⟩
theorem unL33 {K : PySem.W.Frag} {i1 i2 i3 i4 i5 i6 i7 i8 i9 : Nat} {σ : L2.St} {H : Hp} {t : Addr} {a b c d e f g h i : Int} {Q : L2.St → Hp → Prop} (q : L33 H t [a, b, c] [d, e, f] [g, h, i])
    (z : Q (((((((((σ.set i1 (some (.int a))).set i2 (some (.int b))).set i3 (some (.int c))).set i4 (some (.int d))).set i5 (some (.int e))).set i6 (some (.int f))).set i7 (some (.int g))).set i8 (some (.int h))).set i9 (some (.int i))) H) :
    gLst K 3 (gCons (gTup K 3 (gCons (gName i1) (gCons (gName i2) (gCons (gName i3) gNil)))) (gCons (gTup K 3 (gCons (gName i4) (gCons (gName i5) (gCons (gName i6) gNil)))) (gCons (gTup K 3 (gCons (gName i7) (gCons (gName i8) (gCons (gName i9) gNil)))) gNil))) (.ref t) σ H Q := by
  obtain ⟨t1, t2, t3, h0, h1, h2, h3⟩ := q
  refine ⟨t, _, rfl, SqL.of h0, rfl, _, _, rfl, ?_⟩
  refine ⟨t1, _, rfl, SqT.of h1, rfl, _, _, rfl, _, _, rfl, _, _, rfl, ⟨rfl, ?_⟩⟩
  refine ⟨_, _, rfl, ?_⟩
  refine ⟨t2, _, rfl, SqT.of h2, rfl, _, _, rfl, _, _, rfl, _, _, rfl, ⟨rfl, ?_⟩⟩
  refine ⟨_, _, rfl, ?_⟩
  exact ⟨t3, _, rfl, SqT.of h3, rfl, _, _, rfl, _, _, rfl, _, _, rfl, ⟨rfl, ⟨rfl, z⟩⟩⟩
theorem unM33 {K : PySem.W.Frag} {i1 i2 i3 i4 i5 i6 i7 i8 i9 : Nat} {σ : L2.St} {H : Hp} {t : Addr} {a b c d e f g h i : Int} {Q : L2.St → Hp → Prop} (q : M33 K H t [a, b, c] [d, e, f] [g, h, i])
    (z : Q (((((((((σ.set i1 (some (.int a))).set i2 (some (.int b))).set i3 (some (.int c))).set i4 (some (.int d))).set i5 (some (.int e))).set i6 (some (.int f))).set i7 (some (.int g))).set i8 (some (.int h))).set i9 (some (.int i))) H) :
    gLst K 3 (gCons (gTup K 3 (gCons (gName i1) (gCons (gName i2) (gCons (gName i3) gNil)))) (gCons (gTup K 3 (gCons (gName i4) (gCons (gName i5) (gCons (gName i6) gNil)))) (gCons (gTup K 3 (gCons (gName i7) (gCons (gName i8) (gCons (gName i9) gNil)))) gNil))) (.ref t) σ H Q := by
  obtain ⟨t1, t2, t3, h0, h1, h2, h3⟩ := q
  refine ⟨t, _, rfl, SqL.of h0, rfl, _, _, rfl, ?_⟩
  refine ⟨t1, _, rfl, h1, rfl, _, _, rfl, _, _, rfl, _, _, rfl, ⟨rfl, ?_⟩⟩
  refine ⟨_, _, rfl, ?_⟩
  refine ⟨t2, _, rfl, h2, rfl, _, _, rfl, _, _, rfl, _, _, rfl, ⟨rfl, ?_⟩⟩
  refine ⟨_, _, rfl, ?_⟩
  exact ⟨t3, _, rfl, h3, rfl, _, _, rfl, _, _, rfl, _, _, rfl, ⟨rfl, ⟨rfl, z⟩⟩⟩
def det3 (a b c d e f g h i : Int) : Int := a * (e * i - f * h) - b * (d * i - f * g) + c * (d * h - e * g)
def mn (a b c d e f g h i : Int) : Int := a * e - b * d + a * i - c * g + e * i - f * h
def Fq (a b p q : Int) : Prop := ∃ g : Int, 0 < g ∧ a = g * p ∧ b = g * q ∧ Nat.gcd p.natAbs q.natAbs = 1
section
def sp_determinant_by (_ : PySem.W.Frag) (C C_R C_E : Addr) : Sp := fun vs H Q _ => ∃ (t : Addr) (a b c d e f g h i : Int), vs = [.ref t] ∧ T33 H t [a, b, c] [d, e, f] [g, h, i] ∧ B3 20000 a b c ∧ B3 20000 d e f ∧ B3 20000 g h i ∧ Q (.int (det3 a b c d e f g h i)) H
def plA (a b c d e f g h i u x y : Int) : Int := m0 a d g u x y 1 0 0 + m1 b e h u x y 0 1 0 + m2 c f i u x y 0 0 1
def plB (a b c d e f g h i u x y : Int) : Int := mn (m0 a d g u x y 1 0 0) (m1 b e h u x y 1 0 0) (m2 c f i u x y 1 0 0) (m0 a d g u x y 0 1 0) (m1 b e h u x y 0 1 0) (m2 c f i u x y 0 1 0) (m0 a d g u x y 0 0 1) (m1 b e h u x y 0 0 1) (m2 c f i u x y 0 0 1)
def plC (a b c d e f g h i u x y : Int) : Int := det3 (m0 a d g u x y 1 0 0) (m1 b e h u x y 1 0 0) (m2 c f i u x y 1 0 0) (m0 a d g u x y 0 1 0) (m1 b e h u x y 0 1 0) (m2 c f i u x y 0 1 0) (m0 a d g u x y 0 0 1) (m1 b e h u x y 0 0 1) (m2 c f i u x y 0 0 1)
def sp_polynomial_by (K : PySem.W.Frag) (C C_R C_E : Addr) : Sp := fun vs H Q _ => ∃ (t l : Addr) (a b c d e f g h i u x y : Int), vs = [.ref t, .ref l] ∧ T33 H t [a, b, c] [d, e, f] [g, h, i] ∧ Tq K H l [u, x, y] ∧ B3 2100 a b c ∧ B3 2100 d e f ∧ B3 2100 g h i ∧ B3 9000 u x y ∧ ∀ o H', Ex0 H H' → Ti H' o [-plA a b c d e f g h i u x y, plB a b c d e f g h i u x y, -plC a b c d e f g h i u x y] → Q (.ref o) H'
def sp_Element_entries (_ : PySem.W.Frag) (C C_R C_E : Addr) : Sp := fun vs H Q _ => ∃ (x : Addr) (ns : List Int) (u y z b : Int), vs = [.ref x] ∧ ElAt C C_R C_E H x ns u y z b ∧ ∀ t, Ti H t [u, y, z] → Q (.ref t) H
def sp_Element_bottom (_ : PySem.W.Frag) (C C_R C_E : Addr) : Sp := fun vs H Q _ => ∃ (x : Addr) (ns : List Int) (u y z b : Int), vs = [.ref x] ∧ ElAt C C_R C_E H x ns u y z b ∧ Q (.int b) H
def qA (a b c d u y z : Int) : Int := plA (-a * c) b (-a) (-a * d) 0 0 (-b * d) d (-c) u y z
def qB (a b c d u y z : Int) : Int := plB (-a * c) b (-a) (-a * d) 0 0 (-b * d) d (-c) u y z
def qC (a b c d u y z : Int) : Int := plC (-a * c) b (-a) (-a * d) 0 0 (-b * d) d (-c) u y z
def sp_Element_norm (_ : PySem.W.Frag) (C C_R C_E : Addr) : Sp := fun vs H Q _ => ∃ (x : Addr) (a b c d u y z e : Int), vs = [.ref x] ∧ ElAt C C_R C_E H x [a, b, c, d] u y z e ∧ B4 1000 a b c d ∧ B3 9000 u y z ∧ 0 < e ∧ e < 2 ^ 900 ∧ ∀ o H' p q, Fq (qC a b c d u y z) (e * e * e) p q → Ex0 H H' → Ti H' o [p, q] → Q (.ref o) H'
def sp_Element_polynomial (_ : PySem.W.Frag) (C C_R C_E : Addr) : Sp := fun vs H Q _ => ∃ (x : Addr) (a b c d u y z e : Int), vs = [.ref x] ∧ ElAt C C_R C_E H x [a, b, c, d] u y z e ∧ B4 1000 a b c d ∧ B3 9000 u y z ∧ 0 < e ∧ e < 2 ^ 900 ∧ ∀ o H' p1 q1 p2 q2 p3 q3, Fq (-qA a b c d u y z) e p1 q1 → Fq (qB a b c d u y z) (e * e) p2 q2 → Fq (-qC a b c d u y z) (e * e * e) p3 q3 → Ex0 H H' → T33 H' o [p1, q1] [p2, q2] [p3, q3] → Q (.ref o) H'
def sp_Ring_one (_ : PySem.W.Frag) (C C_R C_E : Addr) : Sp := fun vs H Q _ => ∃ (r : Addr) (ns : List Int), vs = [.ref r] ∧ RingAt C C_R H r ns ∧ ∀ x H', Ex0 H H' → ElAt C C_R C_E H' x ns 1 0 0 1 → Q (.ref x) H'
def sp_Ring_w (_ : PySem.W.Frag) (C C_R C_E : Addr) : Sp := fun vs H Q _ => ∃ (r : Addr) (ns : List Int), vs = [.ref r] ∧ RingAt C C_R H r ns ∧ ∀ x H', Ex0 H H' → ElAt C C_R C_E H' x ns 0 1 0 1 → Q (.ref x) H'
def sp_Ring_t (_ : PySem.W.Frag) (C C_R C_E : Addr) : Sp := fun vs H Q _ => ∃ (r : Addr) (ns : List Int), vs = [.ref r] ∧ RingAt C C_R H r ns ∧ ∀ x H', Ex0 H H' → ElAt C C_R C_E H' x ns 0 0 1 1 → Q (.ref x) H'
def sp_mixed (_ : PySem.W.Frag) (C C_R C_E : Addr) : Sp := fun vs H Q _ => ∃ (x x' : Addr) (ns ms : List Int) (u y z e v s r f n : Int), vs = [.ref x, .ref x', .int n] ∧ ElAt C C_R C_E H x ns u y z e ∧ ElAt C C_R C_E H x' ms v s r f ∧ B3 9000 u y z ∧ B3 9000 v s r ∧ B 1000 e ∧ B 1000 f ∧ e * f ≠ 0 ∧ (n = 1 ∨ n = -1) ∧ ∀ o H' u' y' z' b', Low (u * f + v * (n * e)) (y * f + s * (n * e)) (z * f + r * (n * e)) (e * f) u' y' z' b' → Ex0 H H' → ElAt C C_R C_E H' o ns u' y' z' b' → Q (.ref o) H'
def sp_Element___add__ (_ : PySem.W.Frag) (C C_R C_E : Addr) : Sp := fun vs H Q _ => ∃ (x x' : Addr) (ns : List Int) (u y z e v s r f : Int), vs = [.ref x, .ref x'] ∧ ElAt C C_R C_E H x ns u y z e ∧ ElAt C C_R C_E H x' ns v s r f ∧ B3 9000 u y z ∧ B3 9000 v s r ∧ B 1000 e ∧ B 1000 f ∧ e * f ≠ 0 ∧ ∀ o H' u' y' z' b', Low (u * f + v * (1 * e)) (y * f + s * (1 * e)) (z * f + r * (1 * e)) (e * f) u' y' z' b' → Ex0 H H' → ElAt C C_R C_E H' o ns u' y' z' b' → Q (.ref o) H'
def sp_Element_scaled (_ : PySem.W.Frag) (C C_R C_E : Addr) : Sp := fun vs H Q _ => ∃ (x : Addr) (ns : List Int) (u y z e n m : Int), vs = [.ref x, .int n, .int m] ∧ ElAt C C_R C_E H x ns u y z e ∧ B3 9000 u y z ∧ B 1000 e ∧ e ≠ 0 ∧ Short n ∧ Short m ∧ m ≠ 0 ∧ ∀ o H' u' y' z' b', Low (u * n) (y * n) (z * n) (e * m) u' y' z' b' → Ex0 H H' → ElAt C C_R C_E H' o ns u' y' z' b' → Q (.ref o) H'
def sp_Element___bool__ (_ : PySem.W.Frag) (C C_R C_E : Addr) : Sp := fun vs H Q _ => ∃ (x : Addr) (ns : List Int) (u y z b : Int), vs = [.ref x] ∧ ElAt C C_R C_E H x ns u y z b ∧ Q (.bl ([u, y, z].any (fun n => n != 0))) H
end
section
variable {P : Program} {w : World} {K : PySem.W.Frag} {mg : Str → Option Value} {base : Heap} {C_Form C_Ring C_Element : Addr}
theorem ok_Element_entries (T : Txt K mg C_Form C_Ring C_Element) : MDef (fun p f => PropOf K C_Element "entries" p f) P w K mg base 1 ["self"] (sp_Element_entries K C_Form C_Ring C_Element) := by
  obtain ⟨p_, f_, fd_, R_, F_⟩ := T.e_Element_entries
  refine ⟨p_, f_, fd_, R_, F_.binds (ps := ["self"]) (fun _ _ _ _ _ _ us hl => match us, hl with | [_], _ => rfl), ?_⟩
  refine F_.ok sc_Element_entries (fun vs H Q E h => ?_) (fun cdv A outer s H vs Q E hr h => ?_)
  · first | (obtain ⟨rfl, _⟩ := h; rfl) | (obtain ⟨_, rfl, _⟩ := h; rfl) | (obtain ⟨_, _, rfl, _⟩ := h; rfl) | (obtain ⟨_, _, _, rfl, _⟩ := h; rfl) | (obtain ⟨_, _, _, _, rfl, _⟩ := h; rfl) | (obtain ⟨_, _, _, _, _, rfl, _⟩ := h; rfl) | (obtain ⟨_, _, _, _, _, _, rfl, _⟩ := h; rfl) | (obtain ⟨_, _, _, _, _, _, _, rfl, _⟩ := h; rfl) | (obtain ⟨_, _, _, _, _, _, _, _, rfl, _⟩ := h; rfl) | (obtain ⟨_, _, _, _, _, _, _, _, _, rfl, _⟩ := h; rfl) | (obtain ⟨_, _, _, _, _, _, _, _, _, _, rfl, _⟩ := h; rfl) | (obtain ⟨_, _, _, _, _, _, _, _, _, _, _, rfl, _⟩ := h; rfl) | (obtain ⟨_, _, _, _, _, _, _, _, _, _, _, _, rfl, _⟩ := h; rfl) | (obtain ⟨_, _, _, _, _, _, _, _, _, _, _, _, _, rfl, _⟩ := h; rfl) | (obtain ⟨_, _, _, _, _, _, _, _, _, _, _, _, _, _, rfl, _⟩ := h; rfl) | (obtain ⟨_, _, _, _, _, _, _, _, _, _, _, _, _, _, _, rfl, _⟩ := h; rfl) | (obtain ⟨_, _, _, _, _, _, _, _, _, _, _, _, _, _, _, _, rfl, _⟩ := h; rfl) | (obtain ⟨_, _, _, _, _, _, _, _, _, _, _, _, _, _, _, _, _, rfl, _⟩ := h; rfl) | (obtain ⟨_, _, _, _, _, _, _, _, _, _, _, _, _, _, _, _, _, _, rfl, _⟩ := h; rfl) | (obtain ⟨_, _, _, _, _, _, _, _, _, _, _, _, _, _, _, _, _, _, _, rfl, _⟩ := h; rfl) | (obtain ⟨_, _, _, _, _, _, _, _, _, _, _, _, _, _, _, _, _, _, _, _, rfl, _⟩ := h; rfl) | (obtain ⟨_, _, _, _, _, _, _, _, _, _, _, _, _, _, _, _, _, _, _, _, _, rfl, _⟩ := h; rfl) | (obtain ⟨_, _, _, _, _, _, _, _, _, _, _, _, _, _, _, _, _, _, _, _, _, _, rfl, _⟩ := h; rfl) | (obtain ⟨_, _, _, _, _, _, _, _, _, _, _, _, _, _, _, _, _, _, _, _, _, _, _, rfl, _⟩ := h; rfl)
  · obtain ⟨x, ns, u, y, z, b, rfl, ⟨de, r, t, he, hr, ht⟩, q⟩ := h
    refine ⟨_, (pss_one (ps_ret (pe_fld (pv 0) (by rfl)))), ?_⟩
    exact ⟨_, rfl, x, C_Element, de, _, .ref t, rfl, he, T.cl_Element, T.na_Element_entries, lkE, q t ht⟩
theorem ok_Element_bottom (T : Txt K mg C_Form C_Ring C_Element) : MDef (fun p f => PropOf K C_Element "bottom" p f) P w K mg base 1 ["self"] (sp_Element_bottom K C_Form C_Ring C_Element) := by
  obtain ⟨p_, f_, fd_, R_, F_⟩ := T.e_Element_bottom
  refine ⟨p_, f_, fd_, R_, F_.binds (ps := ["self"]) (fun _ _ _ _ _ _ us hl => match us, hl with | [_], _ => rfl), ?_⟩
  refine F_.ok sc_Element_bottom (fun vs H Q E h => ?_) (fun cdv A outer s H vs Q E hr h => ?_)
  · first | (obtain ⟨rfl, _⟩ := h; rfl) | (obtain ⟨_, rfl, _⟩ := h; rfl) | (obtain ⟨_, _, rfl, _⟩ := h; rfl) | (obtain ⟨_, _, _, rfl, _⟩ := h; rfl) | (obtain ⟨_, _, _, _, rfl, _⟩ := h; rfl) | (obtain ⟨_, _, _, _, _, rfl, _⟩ := h; rfl) | (obtain ⟨_, _, _, _, _, _, rfl, _⟩ := h; rfl) | (obtain ⟨_, _, _, _, _, _, _, rfl, _⟩ := h; rfl) | (obtain ⟨_, _, _, _, _, _, _, _, rfl, _⟩ := h; rfl) | (obtain ⟨_, _, _, _, _, _, _, _, _, rfl, _⟩ := h; rfl) | (obtain ⟨_, _, _, _, _, _, _, _, _, _, rfl, _⟩ := h; rfl) | (obtain ⟨_, _, _, _, _, _, _, _, _, _, _, rfl, _⟩ := h; rfl) | (obtain ⟨_, _, _, _, _, _, _, _, _, _, _, _, rfl, _⟩ := h; rfl) | (obtain ⟨_, _, _, _, _, _, _, _, _, _, _, _, _, rfl, _⟩ := h; rfl) | (obtain ⟨_, _, _, _, _, _, _, _, _, _, _, _, _, _, rfl, _⟩ := h; rfl) | (obtain ⟨_, _, _, _, _, _, _, _, _, _, _, _, _, _, _, rfl, _⟩ := h; rfl) | (obtain ⟨_, _, _, _, _, _, _, _, _, _, _, _, _, _, _, _, rfl, _⟩ := h; rfl) | (obtain ⟨_, _, _, _, _, _, _, _, _, _, _, _, _, _, _, _, _, rfl, _⟩ := h; rfl) | (obtain ⟨_, _, _, _, _, _, _, _, _, _, _, _, _, _, _, _, _, _, rfl, _⟩ := h; rfl) | (obtain ⟨_, _, _, _, _, _, _, _, _, _, _, _, _, _, _, _, _, _, _, rfl, _⟩ := h; rfl) | (obtain ⟨_, _, _, _, _, _, _, _, _, _, _, _, _, _, _, _, _, _, _, _, rfl, _⟩ := h; rfl) | (obtain ⟨_, _, _, _, _, _, _, _, _, _, _, _, _, _, _, _, _, _, _, _, _, rfl, _⟩ := h; rfl) | (obtain ⟨_, _, _, _, _, _, _, _, _, _, _, _, _, _, _, _, _, _, _, _, _, _, rfl, _⟩ := h; rfl) | (obtain ⟨_, _, _, _, _, _, _, _, _, _, _, _, _, _, _, _, _, _, _, _, _, _, _, rfl, _⟩ := h; rfl)
  · obtain ⟨x, ns, u, y, z, b, rfl, ⟨de, r, t, he, hr, ht⟩, q⟩ := h
    refine ⟨_, (pss_one (ps_ret (pe_fld (pv 0) (by rfl)))), ?_⟩
    exact ⟨_, rfl, x, C_Element, de, _, .int b, rfl, he, T.cl_Element, T.na_Element_bottom, lkB, q⟩
end
end RG
namespace RG
open PySem PySem.Spec PyProof.Rows L2 Fr
theorem pow2 (e : Int) : e ^ (2 : Int).toNat = e * e := by
  show e ^ 2 = _
  rw [Int.pow_succ, Int.pow_succ, Int.pow_zero, Int.one_mul]
theorem pow3 (e : Int) : e ^ (3 : Int).toNat = e * e * e := by
  show e ^ 3 = _
  rw [Int.pow_succ, Int.pow_succ, Int.pow_succ, Int.pow_zero, Int.one_mul]
theorem cpow {e : Int} {k : Int} (h0 : 0 < e) (h1 : e < 2 ^ 900) (hk : 0 ≤ k ∧ k ≤ 3) : CPowC e k := by
  refine ⟨hk.1, ?_⟩
  have : Builtin.Int.intBits e ≤ 900 := intBits_le_iff.mpr (by
    have : ((e.natAbs : Nat) : Int) < ((2 ^ 900 : Nat) : Int) := by
      rw [Int.natAbs_of_nonneg (by omega)]
      exact_mod_cast h1
    exact Int.ofNat_lt.mp this)
  have h3 : (Builtin.Int.intBits e : Int) * k ≤ 900 * 3 := Int.mul_le_mul (by omega) hk.2 hk.1 (by decide)
  omega
theorem cube_lt {e : Int} (h0 : 0 < e) (h1 : e < 2 ^ 900) : e * e * e < 2 ^ 3000 := by
  have a1 : e * e ≤ 2 ^ 900 * 2 ^ 900 := Int.mul_le_mul (by omega) (by omega) (by omega) (by decide)
  have a2 : e * e * e ≤ (2 ^ 900 * 2 ^ 900) * 2 ^ 900 := Int.mul_le_mul a1 (by omega) (by omega) (by decide)
  exact Int.lt_of_le_of_lt a2 (by decide)
theorem sq_lt {e : Int} (h0 : 0 < e) (h1 : e < 2 ^ 900) : e * e < 2 ^ 3000 := by
  have a1 : e * e ≤ 2 ^ 900 * 2 ^ 900 := Int.mul_le_mul (by omega) (by omega) (by omega) (by decide)
  exact Int.lt_of_le_of_lt a1 (by decide)
theorem low1 {u y z u' y' z' b' : Int} (h : Low u y z 1 u' y' z' b') : u' = u ∧ y' = y ∧ z' = z ∧ b' = 1 := by
  obtain ⟨g, h1, h2, h3, h4, h5, _⟩ := h
  have g0 : 0 < g := by
    rcases Int.lt_or_le 0 g with k | k
    · exact k
    · have := Int.mul_nonneg (show 0 ≤ -g by omega) (show 0 ≤ b' by omega)
      rw [Int.neg_mul] at this
      omega
  have g1 : g = 1 := by
    rcases Int.lt_or_le 1 g with k | k
    · have := Int.mul_le_mul_of_nonneg_left (show 1 ≤ b' by omega) (show 0 ≤ g by omega)
      omega
    · omega
  subst g1
  omega
theorem tq_made {K : PySem.W.Frag} {H : Hp} {x dx t : Addr} {o1 o2 : HO} {ns : List Int} (nx : H x = none) (ndx : H dx = none) (h : Tq K H t ns) : Tq K (upd (upd H dx o1) x o2) t ns := by
  rcases h with h | h
  · left
    rcases h with h | ⟨o, h⟩
    · left
      rw [upd_ne (ne_of_none h nx), upd_ne (ne_of_none h ndx)]
      exact h
    · right
      refine ⟨o, ?_⟩
      rw [upd_ne (ne_of_none h nx), upd_ne (ne_of_none h ndx)]
      exact h
  · exact .inr h
section
variable {P : Program} {w : World} {K : PySem.W.Frag} {mg : Str → Option Value} {base : Heap} {C_Form C_Ring C_Element : Addr}
theorem ok_mixed (T : Txt K mg C_Form C_Ring C_Element) : Def P w K mg base 4 "mixed" ["first", "second", "sign"] (sp_mixed K C_Form C_Ring C_Element) := by
  obtain ⟨f_, fd_, g_, F_⟩ := T.d_mixed
  obtain ⟨p_Element___init__, f_Element___init__, fd_Element___init__, R_Element___init__, b_Element___init__, G_Element___init__⟩ := (ok_Element___init__ (P := P) (w := w) (base := base) T)
  obtain ⟨p_Element_bottom, f_Element_bottom, fd_Element_bottom, R_Element_bottom, b_Element_bottom, G_Element_bottom⟩ := (ok_Element_bottom (P := P) (w := w) (base := base) T)
  obtain ⟨p_Element_entries, f_Element_entries, fd_Element_entries, R_Element_entries, b_Element_entries, G_Element_entries⟩ := (ok_Element_entries (P := P) (w := w) (base := base) T)
  obtain ⟨p_Element_ring, f_Element_ring, fd_Element_ring, R_Element_ring, b_Element_ring, G_Element_ring⟩ := (ok_Element_ring (P := P) (w := w) (base := base) T)
  refine ⟨f_, fd_, g_, F_.kp, F_.binds (ps := ["first", "second", "sign"]) (fun _ _ _ _ _ _ us hl => match us, hl with | [_, _, _], _ => rfl), ?_⟩
  refine F_.ok sc_mixed (fun vs H Q E h => ?_) (fun cdv A outer s H vs Q E hr h => ?_)
  · first | (obtain ⟨rfl, _⟩ := h; rfl) | (obtain ⟨_, rfl, _⟩ := h; rfl) | (obtain ⟨_, _, rfl, _⟩ := h; rfl) | (obtain ⟨_, _, _, rfl, _⟩ := h; rfl) | (obtain ⟨_, _, _, _, rfl, _⟩ := h; rfl) | (obtain ⟨_, _, _, _, _, rfl, _⟩ := h; rfl) | (obtain ⟨_, _, _, _, _, _, rfl, _⟩ := h; rfl) | (obtain ⟨_, _, _, _, _, _, _, rfl, _⟩ := h; rfl) | (obtain ⟨_, _, _, _, _, _, _, _, rfl, _⟩ := h; rfl) | (obtain ⟨_, _, _, _, _, _, _, _, _, rfl, _⟩ := h; rfl) | (obtain ⟨_, _, _, _, _, _, _, _, _, _, rfl, _⟩ := h; rfl) | (obtain ⟨_, _, _, _, _, _, _, _, _, _, _, rfl, _⟩ := h; rfl) | (obtain ⟨_, _, _, _, _, _, _, _, _, _, _, _, rfl, _⟩ := h; rfl) | (obtain ⟨_, _, _, _, _, _, _, _, _, _, _, _, _, rfl, _⟩ := h; rfl) | (obtain ⟨_, _, _, _, _, _, _, _, _, _, _, _, _, _, rfl, _⟩ := h; rfl) | (obtain ⟨_, _, _, _, _, _, _, _, _, _, _, _, _, _, _, rfl, _⟩ := h; rfl) | (obtain ⟨_, _, _, _, _, _, _, _, _, _, _, _, _, _, _, _, rfl, _⟩ := h; rfl) | (obtain ⟨_, _, _, _, _, _, _, _, _, _, _, _, _, _, _, _, _, rfl, _⟩ := h; rfl) | (obtain ⟨_, _, _, _, _, _, _, _, _, _, _, _, _, _, _, _, _, _, rfl, _⟩ := h; rfl) | (obtain ⟨_, _, _, _, _, _, _, _, _, _, _, _, _, _, _, _, _, _, _, rfl, _⟩ := h; rfl) | (obtain ⟨_, _, _, _, _, _, _, _, _, _, _, _, _, _, _, _, _, _, _, _, rfl, _⟩ := h; rfl) | (obtain ⟨_, _, _, _, _, _, _, _, _, _, _, _, _, _, _, _, _, _, _, _, _, rfl, _⟩ := h; rfl) | (obtain ⟨_, _, _, _, _, _, _, _, _, _, _, _, _, _, _, _, _, _, _, _, _, _, rfl, _⟩ := h; rfl) | (obtain ⟨_, _, _, _, _, _, _, _, _, _, _, _, _, _, _, _, _, _, _, _, _, _, _, rfl, _⟩ := h; rfl)
  · obtain ⟨x, x', ns, ms, u, y, z, e, v, s', r, f, n, rfl, h1, h2, bu, bv, be, bf, hne, hn, q⟩ := h
    obtain ⟨d1, r1, t1, g1, g2, g3⟩ := id h1
    obtain ⟨d2, r2, t2, k1, k2, k3⟩ := id h2
    refine ⟨_, (pss_cons (ps_asg (pe_tup (pa_cons (pe_op op_mulW (pv 2) (pe_prop (pv 0) T.cl_Element R_Element_bottom G_Element_bottom (hr.mono (by decide)) b_Element_bottom .nil pass0 (by rfl))) (pa_cons (pe_prop (pv 1) T.cl_Element R_Element_bottom G_Element_bottom (hr.mono (by decide)) b_Element_bottom .nil pass0 (by rfl)) pa_nil))) (pg_tup (by rfl) (pgs_cons (pg_name (i := 3) sc_mixed.nd rfl (.inr rfl)) (pgs_cons (pg_name (i := 4) sc_mixed.nd rfl (.inr rfl)) pgs_nil))))
    (pss_cons (ps_set (i := 5) sc_mixed.nd rfl (.inl rfl) (pe_callTy call_tuple_of (by rfl) T.b_tuple (by decide +kernel) (pa_cons (pe_lc (own := [("one", 6), ("other", 7)]) (g := (gTup K 2 (gCons (gName 6) (gCons (gName 7) gNil)))) rfl sc_mixed.nd (RZ.pi_zipA (by rfl) T.b_zip (pa_cons (pe_prop (pv 0) T.cl_Element R_Element_entries G_Element_entries (hr.mono (by decide)) b_Element_entries .nil pass0 (by rfl)) (pa_cons (pe_prop (pv 1) T.cl_Element R_Element_entries G_Element_entries (hr.mono (by decide)) b_Element_entries .nil pass0 (by rfl)) pa_nil))) (blkOk_by (N := N_mixed) (sc := defScope s_mixed) (by decide +kernel)) (fun _ _ _ _ _ => (pg_tup (by rfl) (pgs_cons (pg_name (i := 6) sc_mixed.nd rfl (.inl rfl)) (pgs_cons (pg_name (i := 7) sc_mixed.nd rfl (.inl rfl)) pgs_nil)))) (fun _ _ _ _ _ => pts_nil) (fun _ _ _ _ _ => (pe_op op_add (pe_op op_mulW (pv 6) (pv 4)) (pe_op op_mulW (pv 7) (pv 3))))) pa_nil)))
    (pss_one (ps_ret (pe_make R_Element___init__ G_Element___init__ (hr.mono (by decide)) (by rfl) T.g_Element b_Element___init__ .nil pass0 (pa_cons (pe_prop (pv 0) T.cl_Element R_Element_ring G_Element_ring (hr.mono (by decide)) b_Element_ring .nil pass0 (by rfl)) (pa_cons (pv 5) (pa_cons (pe_op op_mulW (pe_prop (pv 0) T.cl_Element R_Element_bottom G_Element_bottom (hr.mono (by decide)) b_Element_bottom .nil pass0 (by rfl)) (pe_prop (pv 1) T.cl_Element R_Element_bottom G_Element_bottom (hr.mono (by decide)) b_Element_bottom .nil pass0 (by rfl))) pa_nil)))))))), ?_⟩
    have bn : B 2 n := by rcases hn with rfl | rfl <;> exact ⟨by decide, by decide⟩
    refine ⟨_, rfl, _, rfl, x, d1, _, rfl, g1, x, ns, u, y, z, e, rfl, h1, _, _, rfl, rfl, mulB bn be (by decide), ?_⟩
    refine ⟨_, rfl, x', d2, _, rfl, k1, x', ms, v, s', r, f, rfl, h2, sl2, fun p np => ?_⟩
    have e0 : Ex0 H (upd H p (.tup [.int (n * e), .int f])) := Ex0.new np
    refine ⟨p, _, rfl, SqT.of upd_same, rfl, _, _, rfl, _, _, rfl, rfl, ?_⟩
    have h1' := Ex0.el e0 h1
    have h2' := Ex0.el e0 h2
    have g1' := Ex0.ap e0 g1
    have k1' := Ex0.ap e0 k1
    generalize upd H p (.tup [.int (n * e), .int f]) = H1 at e0 h1' h2' g1' k1' ⊢
    refine ⟨_, rfl, x, d1, _, rfl, g1', x, ns, u, y, z, e, rfl, h1', fun t ht => ?_⟩
    refine ⟨_, rfl, x', d2, _, rfl, k1', x', ms, v, s', r, f, rfl, h2', fun t' ht' => ⟨t, t', _, _, rfl, .inr ⟨SqT.of ht, SqT.of ht', ?_⟩⟩⟩
    refine lcP (walk_zipT (K := K) (xs := ([u, y, z] : List Int).map V.int) (ys := ([v, s', r] : List Int).map V.int) rfl) fm0 trivial (fun H' e => ⟨SqT.of (Ex0.ti e ht), SqT.of (Ex0.ti e ht')⟩) (fun i acc _ => acc = (([u * f + v * (n * e), y * f + s' * (n * e), z * f + r * (n * e)] : List Int).take i).map V.int) (fun _ _ => rfl) (fun D i T x1 y1 acc H' hD hi fx fy e3 hA hlen hp hT => ?_) (fun D H' acc hD e3 hA hp => ?_)
    · obtain ⟨k, hk, rfl⟩ := get_int fx
      obtain ⟨l, hl, rfl⟩ := get_int fy
      have hi3 : i < 3 := hi
      have bk : B 9000 k := by
        match i, hk with
        | 0, hk => rw [← Option.some.inj hk]; exact bu.1
        | 1, hk => rw [← Option.some.inj hk]; exact bu.2.1
        | 2, hk => rw [← Option.some.inj hk]; exact bu.2.2
      have bl : B 9000 l := by
        match i, hl with
        | 0, hk => rw [← Option.some.inj hk]; exact bv.1
        | 1, hk => rw [← Option.some.inj hk]; exact bv.2.1
        | 2, hk => rw [← Option.some.inj hk]; exact bv.2.2
      refine ⟨T, _, rfl, SqT.of upd_same, rfl, _, _, rfl, _, _, rfl, rfl, ⟨rfl, ?_⟩⟩
      refine ⟨_, rfl, _, rfl, _, _, rfl, rfl, mulB bk bf (by decide), _, rfl, _, rfl, _, _, rfl, rfl, mulB bl (B.mul bn be) (by decide), _, _, rfl, rfl, ?_⟩
      refine cs_yes fm0 trivial hD e3 hA hlen (by omega) (Ex0.new hT) ?_
      show acc ++ [V.int (k * f + l * (n * e))] = _
      rw [hp]
      match i, hk, hl with
      | 0, hk, hl => rw [← Option.some.inj hk, ← Option.some.inj hl]; rfl
      | 1, hk, hl => rw [← Option.some.inj hk, ← Option.some.inj hl]; rfl
      | 2, hk, hl => rw [← Option.some.inj hk, ← Option.some.inj hl]; rfl
    · refine ⟨D, _, rfl, .inl ⟨SqL.of hA, fun p2 np2 => ?_⟩⟩
      have hp' : acc = [.int (u * f + v * (n * e)), .int (y * f + s' * (n * e)), .int (z * f + r * (n * e))] := hp
      subst hp'
      have e4 : Ex0 H1 (upd H' p2 (.tup [.int (u * f + v * (n * e)), .int (y * f + s' * (n * e)), .int (z * f + r * (n * e))])) := Fx.trans e3 (Ex0.new np2)
      have hT : Ti (upd H' p2 (.tup [.int (u * f + v * (n * e)), .int (y * f + s' * (n * e)), .int (z * f + r * (n * e))])) p2 [u * f + v * (n * e), y * f + s' * (n * e), z * f + r * (n * e)] := upd_same
      have g2' := Ex0.ap e4 g1'
      have k2' := Ex0.ap e4 k1'
      have h3 := Ex0.el e4 h1'
      have h4 := Ex0.el e4 h2'
      have e5 := e0.trans e4
      generalize upd H' p2 (.tup [.int (u * f + v * (n * e)), .int (y * f + s' * (n * e)), .int (z * f + r * (n * e))]) = H2 at hT g2' k2' h3 h4 e5 ⊢
      refine ⟨_, rfl, x, d1, _, rfl, g2', x, ns, u, y, z, e, rfl, h3, fun R hR => ⟨_, rfl, ?_⟩⟩
      refine ⟨_, rfl, x, d1, _, rfl, g2', x, ns, u, y, z, e, rfl, h3, ?_⟩
      refine ⟨_, rfl, x', d2, _, rfl, k2', x', ms, v, s', r, f, rfl, h4, _, _, rfl, rfl, mulB be bf (by decide), fun y0 dy nx ndx _ => ?_⟩
      refine ⟨y0, dy, R, p2, _, _, _, e * f, rfl, upd_same, SqT.of (made_at nx ndx hT), hne, (B.mul be bf).mono (by decide), fun H3 t3 u' y' z' b' low e6 nt e7 ht3 => ⟨rfl, ?_⟩⟩
      obtain ⟨f1, f2⟩ := el_made (t := p2) nx ndx hR e6 e7 ht3
      exact q y0 H3 u' y' z' b' low (e5.trans f1) f2
theorem ok_Element___add__ (T : Txt K mg C_Form C_Ring C_Element) : MDef (fun p f => BinC K C_Element "__add__" f) P w K mg base 5 ["self", "other"] (sp_Element___add__ K C_Form C_Ring C_Element) := by
  obtain ⟨p_, f_, fd_, R_, F_⟩ := T.e_Element___add__
  obtain ⟨f_check_one_ring, fd_check_one_ring, g_check_one_ring, k_check_one_ring, b_check_one_ring, G_check_one_ring⟩ := (ok_check_one_ring (P := P) (w := w) (base := base) T)
  obtain ⟨f_mixed, fd_mixed, g_mixed, k_mixed, b_mixed, G_mixed⟩ := (ok_mixed (P := P) (w := w) (base := base) T)
  refine ⟨p_, f_, fd_, R_, F_.binds (ps := ["self", "other"]) (fun _ _ _ _ _ _ us hl => match us, hl with | [_, _], _ => rfl), ?_⟩
  refine F_.ok sc_Element___add__ (fun vs H Q E h => ?_) (fun cdv A outer s H vs Q E hr h => ?_)
  · first | (obtain ⟨rfl, _⟩ := h; rfl) | (obtain ⟨_, rfl, _⟩ := h; rfl) | (obtain ⟨_, _, rfl, _⟩ := h; rfl) | (obtain ⟨_, _, _, rfl, _⟩ := h; rfl) | (obtain ⟨_, _, _, _, rfl, _⟩ := h; rfl) | (obtain ⟨_, _, _, _, _, rfl, _⟩ := h; rfl) | (obtain ⟨_, _, _, _, _, _, rfl, _⟩ := h; rfl) | (obtain ⟨_, _, _, _, _, _, _, rfl, _⟩ := h; rfl) | (obtain ⟨_, _, _, _, _, _, _, _, rfl, _⟩ := h; rfl) | (obtain ⟨_, _, _, _, _, _, _, _, _, rfl, _⟩ := h; rfl) | (obtain ⟨_, _, _, _, _, _, _, _, _, _, rfl, _⟩ := h; rfl) | (obtain ⟨_, _, _, _, _, _, _, _, _, _, _, rfl, _⟩ := h; rfl) | (obtain ⟨_, _, _, _, _, _, _, _, _, _, _, _, rfl, _⟩ := h; rfl) | (obtain ⟨_, _, _, _, _, _, _, _, _, _, _, _, _, rfl, _⟩ := h; rfl) | (obtain ⟨_, _, _, _, _, _, _, _, _, _, _, _, _, _, rfl, _⟩ := h; rfl) | (obtain ⟨_, _, _, _, _, _, _, _, _, _, _, _, _, _, _, rfl, _⟩ := h; rfl) | (obtain ⟨_, _, _, _, _, _, _, _, _, _, _, _, _, _, _, _, rfl, _⟩ := h; rfl) | (obtain ⟨_, _, _, _, _, _, _, _, _, _, _, _, _, _, _, _, _, rfl, _⟩ := h; rfl) | (obtain ⟨_, _, _, _, _, _, _, _, _, _, _, _, _, _, _, _, _, _, rfl, _⟩ := h; rfl) | (obtain ⟨_, _, _, _, _, _, _, _, _, _, _, _, _, _, _, _, _, _, _, rfl, _⟩ := h; rfl) | (obtain ⟨_, _, _, _, _, _, _, _, _, _, _, _, _, _, _, _, _, _, _, _, rfl, _⟩ := h; rfl) | (obtain ⟨_, _, _, _, _, _, _, _, _, _, _, _, _, _, _, _, _, _, _, _, _, rfl, _⟩ := h; rfl) | (obtain ⟨_, _, _, _, _, _, _, _, _, _, _, _, _, _, _, _, _, _, _, _, _, _, rfl, _⟩ := h; rfl) | (obtain ⟨_, _, _, _, _, _, _, _, _, _, _, _, _, _, _, _, _, _, _, _, _, _, _, rfl, _⟩ := h; rfl)
  · obtain ⟨x, x', ns, u, y, z, e, v, s', r', f, rfl, h1, h2, bu, bv, be, bf, hne, q⟩ := h
    obtain ⟨dx, r, t, hx, hR, ht⟩ := id h1
    obtain ⟨dx2, r2, t2, hx2, hR2, ht2⟩ := id h2
    refine ⟨_, (pss_cons (ps_if (pt_not (pt_val (pe_callB call_isi (by rfl) T.b_isinstance (by decide +kernel) (pa_cons (pv 1) (pa_cons (pe_glob (v := .ref C_Element) (by rfl) T.g_Element rfl) pa_nil)))))
      (pss_one ps_never)
      pss_nil)
    (pss_cons (ps_expr (pe_call G_check_one_ring (hr.mono (by decide)) (by rfl) g_check_one_ring k_check_one_ring b_check_one_ring .nil pass0 (pa_cons (pv 0) (pa_cons (pv 1) pa_nil))))
    (pss_one (ps_ret (pe_call G_mixed (hr.mono (by decide)) (by rfl) g_mixed k_mixed b_mixed .nil pass0 (pa_cons (pv 0) (pa_cons (pv 1) (pa_cons pe_int pa_nil)))))))), ?_⟩
    refine ⟨_, rfl, _, _, _, _, true, rfl, .own _, ty_ins T.ty_Element T.cl_Element hx2, kit_self, _, rfl, ?_⟩
    refine iteF ⟨_, rfl, _, rfl, x, x', _, u, y, z, e, v, s', r', f, rfl, h1, h2, ?_⟩
    exact ⟨_, rfl, _, rfl, x, x', ns, ns, u, y, z, e, v, s', r', f, 1, rfl, h1, h2, bu, bv, be, bf, hne, .inl rfl, fun o H' u' y' z' b' low e1 ho => q o H' u' y' z' b' low e1 ho⟩
end
end RG
namespace RG
open PySem PySem.Spec PyProof.Rows L2 Fr
def sp_Element___eq__ (K : PySem.W.Frag) (C C_R C_E : Addr) : Sp := fun vs H Q _ => ∃ (x : Addr) (w : V) (ns : List Int) (u y z b : Int), vs = [.ref x, w] ∧ ElAt C C_R C_E H x ns u y z b ∧
  ((∃ (x' : Addr) (ms : List Int) (v s r e : Int), w = .ref x' ∧ ElAt C C_R C_E H x' ms v s r e ∧ Q (.bl (decide (ns = ms ∧ u = v ∧ y = s ∧ z = r ∧ b = e))) H) ∨ (∃ t, PySem.W.kitOne K t (.ref C_E) = some false ∧ TyX K H w t ∧ Q (.bl false) H))
def sp_Element_is_whole (_ : PySem.W.Frag) (C C_R C_E : Addr) : Sp := fun vs H Q _ => ∃ (x : Addr) (ns : List Int) (u y z b : Int), vs = [.ref x] ∧ ElAt C C_R C_E H x ns u y z b ∧ Q (.bl (decide (b = 1))) H
def sp_Element___neg__ (_ : PySem.W.Frag) (C C_R C_E : Addr) : Sp := fun vs H Q _ => ∃ (x : Addr) (ns : List Int) (u y z e : Int), vs = [.ref x] ∧ ElAt C C_R C_E H x ns u y z e ∧ e ≠ 0 ∧ B 1000 e ∧ ∀ o H' u' y' z' b', Low (-u) (-y) (-z) e u' y' z' b' → Ex0 H H' → ElAt C C_R C_E H' o ns u' y' z' b' → Q (.ref o) H'
def sp_Element___sub__ (_ : PySem.W.Frag) (C C_R C_E : Addr) : Sp := fun vs H Q _ => ∃ (x x' : Addr) (ns : List Int) (u y z e v s r f : Int), vs = [.ref x, .ref x'] ∧ ElAt C C_R C_E H x ns u y z e ∧ ElAt C C_R C_E H x' ns v s r f ∧ B3 9000 u y z ∧ B3 9000 v s r ∧ B 1000 e ∧ B 1000 f ∧ e * f ≠ 0 ∧ ∀ o H' u' y' z' b', Low (u * f + v * (-1 * e)) (y * f + s * (-1 * e)) (z * f + r * (-1 * e)) (e * f) u' y' z' b' → Ex0 H H' → ElAt C C_R C_E H' o ns u' y' z' b' → Q (.ref o) H'
section
variable {P : Program} {w : World} {K : PySem.W.Frag} {mg : Str → Option Value} {base : Heap} {C_Form C_Ring C_Element : Addr}
end
end RG
namespace RG
open PySem PySem.Spec PyProof.Rows L2 Fr
theorem dvd_low {d c a1 a2 a3 : Nat} (h1 : d ∣ c * a1) (h2 : d ∣ c * a2) (h3 : d ∣ c * a3) : d ∣ c * Nat.gcd (Nat.gcd a1 a2) a3 := by
  rw [← Nat.gcd_mul_left, ← Nat.gcd_mul_left]
  exact Nat.dvd_gcd (Nat.dvd_gcd h1 h2) h3
theorem gcdL3 (a b c : Int) : gcdL [a, b, c] = Nat.gcd (Nat.gcd a.natAbs b.natAbs) c.natAbs := by
  unfold gcdL
  simp only [List.foldl, Nat.gcd_zero_left]
theorem low_dvd {a1 a2 a3 a4 c1 c2 c3 c4 : Int} (hg : Nat.gcd (gcdL [a1, a2, a3]) a4.natAbs = 1) (k1 : a1 * c4 = c1 * a4) (k2 : a2 * c4 = c2 * a4) (k3 : a3 * c4 = c3 * a4) : a4.natAbs ∣ c4.natAbs := by
  have f : ∀ a c : Int, a * c4 = c * a4 → a4.natAbs ∣ c4.natAbs * a.natAbs := fun a c h => by
    rw [← Int.natAbs_mul, Int.mul_comm, h, Int.natAbs_mul]
    exact Nat.dvd_mul_left _ _
  have := dvd_low (f _ _ k1) (f _ _ k2) (f _ _ k3)
  rw [← gcdL3] at this
  exact Nat.Coprime.dvd_of_dvd_mul_right (Nat.Coprime.symm hg) this
theorem Low.uniq {u y z b v s r e a1 a2 a3 a4 c1 c2 c3 c4 : Int} (h : Low u y z b a1 a2 a3 a4) (h' : Low v s r e c1 c2 c3 c4) (hb : b ≠ 0) (he : e ≠ 0) (k1 : u * e = v * b) (k2 : y * e = s * b) (k3 : z * e = r * b) :
    a1 = c1 ∧ a2 = c2 ∧ a3 = c3 ∧ a4 = c4 := by
  obtain ⟨g, h1, h2, h3, h4, h5, h6⟩ := h
  obtain ⟨g', h1', h2', h3', h4', h5', h6'⟩ := h'
  have g0 : g ≠ 0 := fun z => hb (by rw [h4, z, Int.zero_mul])
  have g0' : g' ≠ 0 := fun z => he (by rw [h4', z, Int.zero_mul])
  have can : ∀ a c : Int, g * a * (g' * c4) = g' * c * (g * a4) → a * c4 = c * a4 := fun a c k => by
    refine Int.eq_of_mul_eq_mul_left (Int.mul_ne_zero g0 g0') (a := g * g') ?_
    rw [show g * g' * (a * c4) = g * a * (g' * c4) by grind, k]
    grind
  have m1 := can a1 c1 (by rw [← h1, ← h4', ← h1', ← h4]; exact k1)
  have m2 := can a2 c2 (by rw [← h2, ← h4', ← h2', ← h4]; exact k2)
  have m3 := can a3 c3 (by rw [← h3, ← h4', ← h3', ← h4]; exact k3)
  have d1 := low_dvd h6 m1 m2 m3
  have d2 := low_dvd h6' m1.symm m2.symm m3.symm
  have e4 : a4 = c4 := by
    have := Nat.dvd_antisymm d1 d2
    omega
  subst e4
  have ne : a4 ≠ 0 := by omega
  exact ⟨Int.eq_of_mul_eq_mul_right ne m1, Int.eq_of_mul_eq_mul_right ne m2, Int.eq_of_mul_eq_mul_right ne m3, rfl⟩
theorem Low.self {u y z b : Int} (hb : 0 < b) (h : Nat.gcd (gcdL [u, y, z]) b.natAbs = 1) : Low u y z b u y z b := ⟨1, by omega, by omega, by omega, by omega, hb, h⟩
theorem Low.low {u y z b a1 a2 a3 a4 : Int} (h : Low u y z b a1 a2 a3 a4) : Low a1 a2 a3 a4 a1 a2 a3 a4 := by
  obtain ⟨g, h1, h2, h3, h4, h5, h6⟩ := h
  exact Low.self h5 h6
theorem Low.pos {u y z b u' y' z' b' : Int} (h : Low u y z b u' y' z' b') : 0 < b' := by
  obtain ⟨_, _, _, _, _, h, _⟩ := h
  exact h
theorem Low.B {u y z b u' y' z' b' : Int} {n m : Nat} (h : Low u y z b u' y' z' b') (hb : b ≠ 0) (h1 : B3 n u y z) (h2 : B m b) : B3 n u' y' z' ∧ Fr.B m b' := by
  obtain ⟨g, e1, e2, e3, e4, _, _⟩ := h
  have g0 : g ≠ 0 := fun z => hb (by rw [e4, z, Int.zero_mul])
  have le : ∀ p q : Int, p = g * q → q.natAbs ≤ p.natAbs := fun p q e => by
    rw [e, Int.natAbs_mul]
    exact Nat.le_mul_of_pos_left _ (by omega)
  exact ⟨⟨⟨Nat.lt_of_le_of_lt (le _ _ e1) h1.1.1, h1.1.2⟩, ⟨Nat.lt_of_le_of_lt (le _ _ e2) h1.2.1.1, h1.2.1.2⟩, ⟨Nat.lt_of_le_of_lt (le _ _ e3) h1.2.2.1, h1.2.2.2⟩⟩, ⟨Nat.lt_of_le_of_lt (le _ _ e4) h2.1, h2.2⟩⟩
theorem Low.neg {u y z b a1 a2 a3 a4 : Int} (h : Low u y z b a1 a2 a3 a4) : Low (-u) (-y) (-z) b (-a1) (-a2) (-a3) a4 := by
  obtain ⟨g, h1, h2, h3, h4, h5, h6⟩ := h
  refine ⟨g, by rw [h1, Int.mul_neg], by rw [h2, Int.mul_neg], by rw [h3, Int.mul_neg], h4, h5, ?_⟩
  rw [gcdL3] at h6 ⊢
  simpa only [Int.natAbs_neg] using h6
end RG
namespace RG
open PySem PySem.Spec PyProof.Rows L2 Fr
theorem ex_two {H : Hp} {x dx : Addr} {o1 o2 : HO} (nx : H x = none) (ndx : H dx = none) : Ex0 H (upd (upd H dx o1) x o2) := Ex0.of fun b o e => by
  rw [upd_ne (ne_of_none e nx), upd_ne (ne_of_none e ndx)]
  exact e
theorem fo_made {C : Addr} {H H' : Hp} {x dx t : Addr} {ns : List Int} {o1 o2 : HO} (nx : H x = none) (ndx : H dx = none) (ht : Ti H t ns) (e1 : ∀ b o, b ≠ x → (upd (upd H dx o1) x o2) b = some o → H' b = some o)
    (e2 : H' x = some (.ins C dx [(("_coefficients" : Str), .ref t)])) : Ex0 H H' ∧ FormAt C H' x ns :=
  ⟨made_ex nx ndx e1, dx, t, e2, Ex0.ti (made_ex nx ndx e1) ht⟩
theorem ri_made {C C_R : Addr} {H H' : Hp} {x dx f : Addr} {ns : List Int} {o1 o2 : HO} (nx : H x = none) (ndx : H dx = none) (hf : FormAt C H f ns) (e1 : ∀ b o, b ≠ x → (upd (upd H dx o1) x o2) b = some o → H' b = some o)
    (e2 : H' x = some (.ins C_R dx [(("_form" : Str), .ref f)])) : Ex0 H H' ∧ RingAt C C_R H' x ns :=
  ⟨made_ex nx ndx e1, dx, f, e2, Ex0.fo (made_ex nx ndx e1) hf⟩
theorem fo_fv {C c : Addr} {H H' : Hp} {x : Addr} {ns : List Int} (hc : Vat c H) (f : Fv c H H') (h : FormAt C H x ns) : FormAt C H' x ns := by
  obtain ⟨dx, t, h1, h2⟩ := h
  refine ⟨dx, t, f.2 x _ (fun e => ?_) h1, fv_tup hc f h2⟩
  obtain ⟨u, v, z, q⟩ := hc
  unfold Sv at e
  rw [e, q] at h1
  cases h1
theorem ri_fv {C C_R c : Addr} {H H' : Hp} {x : Addr} {ns : List Int} (hc : Vat c H) (f : Fv c H H') (h : RingAt C C_R H x ns) : RingAt C C_R H' x ns := by
  obtain ⟨dx, t, h1, h2⟩ := h
  refine ⟨dx, t, f.2 x _ (fun e => ?_) h1, fo_fv hc f h2⟩
  obtain ⟨u, v, z, q⟩ := hc
  unfold Sv at e
  rw [e, q] at h1
  cases h1
theorem lst_fv {c a : Addr} {H H' : Hp} {t1 t2 t3 : Addr} (hc : Vat c H) (f : Fv c H H') (h : H a = some (.lst [.ref t1, .ref t2, .ref t3])) : H' a = some (.lst [.ref t1, .ref t2, .ref t3]) := f.2 a _ (fun e => by
  obtain ⟨x, y, z, q⟩ := hc
  unfold Sv at e
  subst e
  rw [q] at h
  cases h) h
theorem l33_fv {c : Addr} {H H' : Hp} {a : Addr} {r1 r2 r3 : List Int} (hc : Vat c H) (f : Fv c H H') (h : L33 H a r1 r2 r3) : L33 H' a r1 r2 r3 := by
  obtain ⟨t1, t2, t3, h0, h1, h2, h3⟩ := h
  exact ⟨t1, t2, t3, lst_fv hc f h0, fv_tup hc f h1, fv_tup hc f h2, fv_tup hc f h3⟩
theorem el_fv {C C_R C_E c : Addr} {H H' : Hp} {x : Addr} {ns : List Int} {u y z b : Int} (hc : Vat c H) (f : Fv c H H') (h : ElAt C C_R C_E H x ns u y z b) : ElAt C C_R C_E H' x ns u y z b := by
  obtain ⟨dx, r, t, h1, h2, h3⟩ := h
  refine ⟨dx, r, t, f.2 x _ (fun e => ?_) h1, ri_fv hc f h2, fv_tup hc f h3⟩
  obtain ⟨u, v, z, q⟩ := hc
  unfold Sv at e
  rw [e, q] at h1
  cases h1
end RG
namespace Fr
open PySem PySem.Spec PyProof.Rows L2
inductive PrT (K : PySem.W.Frag) (H : Hp) : List V → List (Int × Int) → Prop where
  | nil : PrT K H [] []
  | cons {t : Addr} {x y : Int} {xs : List V} {ps : List (Int × Int)} (h : SqT K H t [.int x, .int y]) (r : PrT K H xs ps) : PrT K H (.ref t :: xs) ((x, y) :: ps)
section
variable {K : PySem.W.Frag} {H H' : Hp}
theorem PrT.ex (e : Ex0 H H') {xs : List V} {ps : List (Int × Int)} (h : PrT K H xs ps) : PrT K H' xs ps := by
  induction h with
  | nil => exact .nil
  | cons h _ ih => exact .cons (Fx.sqT e (fun z => z) h) ih
theorem sqT_upd {a D : Addr} {vs acc ys : List V} (hD : H D = some (.lst acc)) (h : SqT K H a vs) : SqT K (upd H D (.lst ys)) a vs := by
  have ne : ∀ {o : HO}, H a = some o → (∀ z, o ≠ .lst z) → a ≠ D := fun h n z => by
    rw [z, hD] at h
    exact n _ (Option.some.inj h).symm
  rcases h with (h | ⟨o, h⟩) | h
  · exact .inl (.inl (by rw [upd_ne (ne h (by intro z w; cases w))]; exact h))
  · exact .inl (.inr ⟨o, by rw [upd_ne (ne h (by intro z w; cases w))]; exact h⟩)
  · exact .inr h
theorem PrT.upd {D : Addr} {acc ys : List V} (hD : H D = some (.lst acc)) {xs : List V} {ps : List (Int × Int)} (h : PrT K H xs ps) : PrT K (L2.upd H D (.lst ys)) xs ps := by
  induction h with
  | nil => exact .nil
  | cons h _ ih => exact .cons (sqT_upd hD h) ih
theorem PrT.app {xs ys : List V} {ps qs : List (Int × Int)} (h : PrT K H xs ps) (g : PrT K H ys qs) : PrT K H (xs ++ ys) (ps ++ qs) := by
  induction h with
  | nil => exact g
  | cons h _ ih => exact .cons h ih
theorem PrT.snoc {xs : List V} {ps : List (Int × Int)} (h : PrT K H xs ps) {t : Addr} {x y : Int} (g : SqT K H t [.int x, .int y]) : PrT K H (xs ++ [.ref t]) (ps ++ [(x, y)]) := h.app (.cons g .nil)
theorem PrT.len {xs : List V} {ps : List (Int × Int)} (h : PrT K H xs ps) : xs.length = ps.length := by
  induction h with
  | nil => rfl
  | cons _ _ ih => rw [List.length_cons, List.length_cons, ih]
theorem PrT.get {xs : List V} {ps : List (Int × Int)} (h : PrT K H xs ps) : ∀ {i : Nat} {v : V}, xs[i]? = some v → ∃ t x y, v = .ref t ∧ ps[i]? = some (x, y) ∧ SqT K H t [.int x, .int y] := by
  induction h with
  | nil => intro i v hv; simp at hv
  | @cons t x y xs ps h _ ih =>
    intro i v hv
    cases i with
    | zero => exact ⟨t, x, y, (Option.some.inj hv).symm, rfl, h⟩
    | succ i => exact ih hv
theorem PrT.mem {xs : List V} {ps : List (Int × Int)} (h : PrT K H xs ps) : ∀ v ∈ xs, ∃ t x y, v = .ref t ∧ SqT K H t [.int x, .int y] ∧ (x, y) ∈ ps := by
  induction h with
  | nil => intro v hv; cases hv
  | @cons t x y xs ps h _ ih =>
    intro v hv
    rcases List.mem_cons.mp hv with z | z
    · exact ⟨t, x, y, z, h, List.mem_cons_self⟩
    · obtain ⟨t', x', y', h1, h2, h3⟩ := ih v z
      exact ⟨t', x', y', h1, h2, List.mem_cons_of_mem _ h3⟩
theorem sqT_ty {a : Addr} {xs : List V} (h : SqT K H a xs) : TyX K H (.ref a) (.type "tuple") := by
  rcases h with (h | ⟨o, h⟩) | ⟨o, its, n, h1, h2, _⟩
  · exact .base (.tup h)
  · exact .fTuple h
  · exact .kTuple h1 h2
end
def lexP (p q : Int × Int) : Prop := p.1 < q.1 ∨ (p.1 = q.1 ∧ p.2 ≤ q.2)
theorem eq_sorted : ∀ {l1 l2 : List (Int × Int)}, l1.Pairwise lexP → l1.Nodup → l2.Pairwise lexP → l2.Nodup → (∀ a, a ∈ l1 ↔ a ∈ l2) → l1 = l2
  | [], [], _, _, _, _, _ => rfl
  | [], b :: l2, _, _, _, _, h => by have := (h b).mpr List.mem_cons_self; cases this
  | a :: l1, [], _, _, _, _, h => by have := (h a).mp List.mem_cons_self; cases this
  | a :: l1, b :: l2, p1, n1, p2, n2, h => by
    have p1' := List.pairwise_cons.mp p1
    have p2' := List.pairwise_cons.mp p2
    have n1' := List.nodup_cons.mp n1
    have n2' := List.nodup_cons.mp n2
    have e : a = b := by
      rcases List.mem_cons.mp ((h a).mp List.mem_cons_self) with z | z
      · exact z
      · rcases List.mem_cons.mp ((h b).mpr List.mem_cons_self) with y | y
        · exact y.symm
        · have q1 := p2'.1 a z
          have q2 := p1'.1 b y
          unfold lexP at q1 q2
          refine Prod.ext ?_ ?_ <;> omega
    subst e
    have t : l1 = l2 := eq_sorted p1'.2 n1'.2 p2'.2 n2'.2 fun x => by
      constructor
      · intro hx
        rcases List.mem_cons.mp ((h x).mp (List.mem_cons_of_mem _ hx)) with z | z
        · exact absurd (z ▸ hx) n1'.1
        · exact z
      · intro hx
        rcases List.mem_cons.mp ((h x).mpr (List.mem_cons_of_mem _ hx)) with z | z
        · exact absurd (z ▸ hx) n2'.1
        · exact z
    rw [t]
theorem srt_lex {k : V → Int × Int} {ys : List V} (h : SrtO.Srtd (ltP k) ys) : (ys.map k).Pairwise lexP := by
  rw [List.pairwise_map]
  refine List.Pairwise.imp (fun {u v} h => ?_) h
  rcases Int.lt_trichotomy (k u).1 (k v).1 with z | z | z
  · exact .inl z
  · refine .inr ⟨z, ?_⟩
    rcases Int.lt_or_le (k v).2 (k u).2 with w | w
    · have := SrtO.lexB_iff.mpr (Or.inr ⟨z.symm, w⟩)
      rw [show SrtO.lexB (k v) (k u) = false from h] at this
      cases this
    · exact w
  · have := SrtO.lexB_iff.mpr (Or.inl z)
    rw [show SrtO.lexB (k v) (k u) = false from h] at this
    cases this
noncomputable def kvT (K : PySem.W.Frag) (H : Hp) (v : V) : Int × Int := @dite _ (∃ p : Int × Int, ∃ t, v = .ref t ∧ SqT K H t [.int p.1, .int p.2]) (Classical.propDecidable _) (fun h => Classical.choose h) (fun _ => (0, 0))
theorem kvT_at {K : PySem.W.Frag} {H : Hp} {t : Addr} {x y : Int} (h : SqT K H t [.int x, .int y]) : SqT K H t [.int (kvT K H (.ref t)).1, .int (kvT K H (.ref t)).2] := by
  have ex : ∃ p : Int × Int, ∃ t', V.ref t = .ref t' ∧ SqT K H t' [.int p.1, .int p.2] := ⟨(x, y), t, rfl, h⟩
  unfold kvT
  rw [dif_pos ex]
  obtain ⟨t', e1, e2⟩ := Classical.choose_spec ex
  cases e1
  exact e2
def rSortedPT (K : PySem.W.Frag) : List V → Hp → VK → Prop := fun vs H Q => ∃ (a : Addr) (xs : List V) (ps : List (Int × Int)), vs = [V.ref a] ∧ SqL K H a xs ∧ PrT K H xs ps ∧
  ∀ ys qs p, qs.Perm ps → qs.Pairwise lexP → PrT K H ys qs → H p = none → Q (.ref p) (upd H p (.lst ys))
section
variable {X : Cx}
theorem PrT.map_k {pins : List (Addr × Obj)} {σ : L2.St} {H : Hp} {s : Shared} (I : Inv X pins σ H s) {xs : List V} {ps : List (Int × Int)} (h : PrT X.K H xs ps) : xs.map (kvT X.K H) = ps := by
  induction h with
  | nil => rfl
  | cons h _ ih =>
    have e := I.tuple_inj (kvT_at h) h
    injection e with e1 e
    injection e with e2 _
    injection e1 with e1
    injection e2 with e2
    rw [List.map_cons, ih]
    exact congrArg (· :: _) (Prod.ext e1 e2)
theorem PrT.of_mem {K : PySem.W.Frag} {H : Hp} : ∀ {ys : List V}, (∀ v ∈ ys, ∃ t x y, v = .ref t ∧ SqT K H t [.int x, .int y]) → PrT K H ys (ys.map (kvT K H))
  | [], _ => .nil
  | v :: ys, h => by
    obtain ⟨t, x, y, rfl, ht⟩ := h v List.mem_cons_self
    exact .cons (kvT_at ht) (PrT.of_mem fun v hv => h v (List.mem_cons_of_mem _ hv))
theorem cr_sortedPT : CallR X (.builtin "sorted") (rSortedPT X.K) := by
  intro pins s σ H vs us Q I r h
  obtain ⟨a, xs, ps, rfl, hs, hP, q⟩ := h
  have hx : ∀ x ∈ xs, ∃ t, x = V.ref t ∧ SqT X.K H t [.int (kvT X.K H x).1, .int (kvT X.K H x).2] := fun x m => by
    obtain ⟨t, i, j, e, ht, _⟩ := hP.mem x m
    subst e
    exact ⟨t, rfl, kvT_at ht⟩
  obtain ⟨its, rv, hl, hz⟩ := I.list hs
  obtain ⟨u, rfl, ru⟩ := vals1 r
  obtain rfl : u = Value.ref a := ru
  obtain ⟨e1, e2⟩ := refs_back rv fun x m => by
    obtain ⟨t, e, _⟩ := hx x m
    exact ⟨t, e⟩
  refine SrtO.sorted_pairsO (k := fun u => kvT X.K H (backV u)) hl.isList (by rw [← rv.length]; exact hz) (fun v hv => ?_) fun h' d out h1 h2 kp hd hn => ?_
  · obtain ⟨t, rfl⟩ := e2 v hv
    have hm : V.ref t ∈ xs := by rw [e1]; exact List.mem_map.mpr ⟨_, hv, rfl⟩
    obtain ⟨t', e, ht⟩ := hx _ hm
    cases e
    obtain ⟨its2, r2, ⟨o, ho, hc, n, hd⟩, _⟩ := I.tuple ht
    obtain ⟨u1, u2, rfl, ri, rj⟩ := vals2 r2
    obtain ⟨t1, rfl⟩ := ri
    obtain ⟨t2, rfl⟩ := rj
    exact ⟨t, o, t1, t2, n, rfl, ho, hc, hd⟩
  · have h3 : ∀ u ∈ out, ∃ a, u = Value.ref a := fun u hu => e2 u (h2.perm.mem_iff.mp hu)
    obtain ⟨n, hn⟩ := hn
    have hb : SrtO.Stb (ltP (kvT X.K H)) (out.map backV) xs := by
      rw [e1]
      exact SrtO.Stb.map (ltP_swo (kvT X.K H)) backV h2
    have hy : PrT X.K H (out.map backV) ((out.map backV).map (kvT X.K H)) := PrT.of_mem fun v hv => by
      obtain ⟨t, i, j, e, ht, _⟩ := hP.mem v (hb.perm.mem_iff.mp hv)
      exact ⟨t, i, j, e, ht⟩
    refine ⟨.ref d, upd H d (.lst (out.map backV)), I.laid (t' := s.toks) kp hd ⟨?_, out, n, vals_back h3, hn⟩, rfl, q _ _ d ?_ (srt_lex (SrtO.srtd_map h1)) hy (I.hok.fresh hd)⟩
    · rw [hb.len]
      exact hz
    · rw [← hP.map_k I]
      exact hb.perm.map _
end
def pi2 (q : Int × Int) : PyData := .tuple [.int q.1, .int q.2]
theorem pis_ok (fs : List (Int × Int)) : PyData.canLayAll0 (fs.map pi2) = true ∧ PyData.depthAll (fs.map pi2) ≤ 2 := by
  induction fs with
  | nil => exact ⟨rfl, by simp [PyData.depthAll]⟩
  | cons n r ih =>
    refine ⟨?_, ?_⟩
    · rw [List.map_cons, PyData.canLayAll0, ih.1]; simp [pi2, PyData.canLay0, PyData.canLayAll0]
    · rw [List.map_cons, PyData.depthAll]; exact Nat.max_le.mpr ⟨by simp [pi2, PyData.depth, PyData.depthAll], ih.2⟩
theorem shaped_pis (fs : List (Int × Int)) : SeqAt.shaped (.tuple (fs.map pi2)) = true := by
  have h := pis_ok fs
  unfold SeqAt.shaped
  rw [PyData.canLay0, PyData.depth, h.1]
  simp
  omega
theorem eqv_pis : ∀ fs gs : List (Int × Int), PyData.eqvAll (fs.map pi2) (gs.map pi2) = decide (fs = gs)
  | [], [] => rfl
  | [], m :: ms => rfl
  | n :: ns, [] => rfl
  | (a, b) :: ns, (c, d) :: ms => by
    rw [List.map_cons, List.map_cons, PyData.eqvAll, eqv_pis ns ms]
    apply Bool.eq_iff_iff.mpr
    simp [pi2, PyData.eqv, PyData.eqvAll]
theorem PrT.dp {K : PySem.W.Frag} {H : Hp} {xs : List V} {ps : List (Int × Int)} (h : PrT K H xs ps) : DpAll K H xs (ps.map pi2) := by
  induction h with
  | nil => exact .nil
  | cons h _ ih => exact .cons (.tup h (dp_ints [_, _])) ih
theorem eqv_tp (ps qs : List (Int × Int)) : PyData.eqv (.tuple (ps.map pi2)) (.tuple (qs.map pi2)) = decide (ps = qs) := by
  rw [PyData.eqv, eqv_pis]
end Fr
namespace MapM
def Inv1 (P : Int) : Prop := ∀ l : Int, ¬ P ∣ l → ∃ m k : Int, l * m = 1 + P * k
theorem pdvd {P : Int} (h : Inv1 P) {a b : Int} (hd : P ∣ a * b) : P ∣ a ∨ P ∣ b := by
  rcases Classical.em (P ∣ a) with ha | ha
  · exact .inl ha
  · obtain ⟨m, k, e⟩ := h a ha
    obtain ⟨j, hj⟩ := hd
    refine .inr ⟨m * j - k * b, ?_⟩
    have : b * (a * m) = b + P * k * b := by rw [e]; grind
    grind
theorem tab : ∀ p ∈ [2, 3, 5, 7, 11, 13, 17, 19, 23, 29, 31], ∀ r : Fin 31, r.val < p → r.val ≠ 0 → ∃ m : Fin 31, r.val * m.val % p = 1 := by decide +kernel
theorem inv31 {p : Nat} (hm : p ∈ [2, 3, 5, 7, 11, 13, 17, 19, 23, 29, 31]) : Inv1 p := by
  intro l h
  have pp : 2 ≤ p ∧ p ≤ 31 := by
    simp only [List.mem_cons, List.mem_nil_iff, or_false] at hm
    omega
  have n0 := Int.emod_nonneg l (show (p : Int) ≠ 0 by omega)
  have n1 := Int.emod_lt_of_pos l (show (0 : Int) < (p : Int) by omega)
  obtain ⟨r, hr⟩ : ∃ r : Nat, l % (p : Int) = (r : Int) := ⟨(l % (p : Int)).toNat, by omega⟩
  have r0 : r ≠ 0 := fun z => h (Int.dvd_of_emod_eq_zero (by rw [hr, z]; rfl))
  obtain ⟨m, hm0⟩ := tab p hm ⟨r, by omega⟩ (by show r < p; omega) r0
  have hm1 : r * m.val % p = 1 := hm0
  clear hm0
  have e1 := Int.emod_add_mul_ediv l (p : Int)
  have e2 := Nat.mod_add_div (r * m.val) p
  rw [hm1] at e2
  have e3 : (r : Int) * (m.val : Int) = 1 + (p : Int) * ((r * m.val / p : Nat) : Int) := by
    have := congrArg (fun n : Nat => (n : Int)) e2
    simp only [Int.natCast_add, Int.natCast_mul] at this
    exact this.symm
  refine ⟨(m.val : Int), l / (p : Int) * (m.val : Int) + ((r * m.val / p : Nat) : Int), ?_⟩
  rw [hr] at e1
  generalize ((r * m.val / p : Nat) : Int) = k at *
  generalize l / (p : Int) = j at *
  generalize (m.val : Int) = m' at *
  generalize (r : Int) = r' at *
  generalize (p : Int) = P at *
  rw [← e1, Int.add_mul, e3]
  grind
def Rst (P a b c d u v : Int) : Prop := P ∣ u * v + a * d ∧ P ∣ u * u + a * c - b * u + a * v ∧ P ∣ v * v + b * d - d * u + c * v
def f3 (a b c d x : Int) : Int := ((a * x + b) * x + c) * x + d
theorem of_root {P a b c d x : Int} (h : P ∣ f3 a b c d x) : Rst P a b c d (-a * x) (-(a * x * x + b * x + c)) := by
  obtain ⟨k, hk⟩ := h
  unfold f3 at hk
  refine ⟨⟨a * k, ?_⟩, ⟨0, ?_⟩, ⟨(a * x + b) * k, ?_⟩⟩
  · have : a * _ = a * (P * k) := congrArg (fun z => a * z) hk
    grind
  · grind
  · have : (a * x + b) * _ = (a * x + b) * (P * k) := congrArg (fun z => (a * x + b) * z) hk
    grind
theorem of_end {P a b c d : Int} (h : P ∣ a) : Rst P a b c d b 0 := by
  obtain ⟨k, rfl⟩ := h
  exact ⟨⟨k * d, by grind⟩, ⟨k * c, by grind⟩, ⟨0, by grind⟩⟩
def Eqv (P x y : Int) : Prop := P ∣ x - y
theorem only {P a b c d u v : Int} (hI : Inv1 P) (h : Rst P a b c d u v) : (P ∣ a ∧ Eqv P u b ∧ P ∣ v) ∨ ∃ x, P ∣ f3 a b c d x ∧ Eqv P u (-a * x) ∧ Eqv P v (-(a * x * x + b * x + c)) := by
  obtain ⟨h1, h2, h3⟩ := h
  rcases Classical.em (P ∣ a) with ha | ha
  · obtain ⟨i, rfl⟩ := ha
    have g1 : P ∣ u * v := by
      obtain ⟨k, hk⟩ := h1
      exact ⟨k - i * d, by grind⟩
    have g2 : P ∣ u * (u - b) := by
      obtain ⟨k, hk⟩ := h2
      exact ⟨k - i * c - i * v, by grind⟩
    have case0 : P ∣ u → (P ∣ P * i ∧ Eqv P u b ∧ P ∣ v) ∨ ∃ x, P ∣ f3 (P * i) b c d x ∧ Eqv P u (-(P * i) * x) ∧ Eqv P v (-((P * i) * x * x + b * x + c)) := by
      intro hu
      obtain ⟨j, rfl⟩ := hu
      have g3 : P ∣ v * v + c * v + b * d := by
        obtain ⟨k, hk⟩ := h3
        exact ⟨k + d * j, by grind⟩
      rcases Classical.em (P ∣ b) with hb | hb
      · obtain ⟨b', rfl⟩ := hb
        have g4 : P ∣ v * (v + c) := by
          obtain ⟨k, hk⟩ := g3
          exact ⟨k - b' * d, by grind⟩
        rcases pdvd hI g4 with hv | hv
        · exact .inl ⟨⟨i, rfl⟩, ⟨j - b', by grind⟩, hv⟩
        · rcases Classical.em (P ∣ c) with hc | hc
          · obtain ⟨c', rfl⟩ := hc
            obtain ⟨k, hk⟩ := hv
            exact .inl ⟨⟨i, rfl⟩, ⟨j - b', by grind⟩, ⟨k - c', by grind⟩⟩
          · obtain ⟨m, k, e⟩ := hI c hc
            obtain ⟨w, hw⟩ := hv
            refine .inr ⟨-(d * m), ?_, ⟨j + i * -(d * m), by grind⟩, ?_⟩
            · have : f3 (P * i) (P * b') c d (-(d * m)) = P * (i * -(d * m) * -(d * m) * -(d * m) + b' * -(d * m) * -(d * m)) + d - d * (c * m) := by unfold f3; grind
              rw [this, e]
              exact ⟨i * -(d * m) * -(d * m) * -(d * m) + b' * -(d * m) * -(d * m) - d * k, by grind⟩
            · exact ⟨w + i * -(d * m) * -(d * m) + b' * -(d * m), by grind⟩
      · obtain ⟨m, k, e⟩ := hI b hb
        obtain ⟨w, hw⟩ := g3
        refine .inr ⟨-(v + c) * m, ?_, ⟨j + i * (-(v + c) * m), by grind⟩, ?_⟩
        · have hbf : P ∣ b * f3 (P * i) b c d (-(v + c) * m) := by
            have e2 : b * f3 (P * i) b c d (-(v + c) * m) = P * (b * i * (-(v + c) * m) * (-(v + c) * m) * (-(v + c) * m)) + (b * m) * (b * m) * ((v + c) * (v + c)) - (b * m) * (c * (v + c)) + b * d := by unfold f3; grind
            rw [e2, e]
            have e3 : (v + c) * (v + c) - c * (v + c) + b * d = P * w := by grind
            refine ⟨b * i * (-(v + c) * m) * (-(v + c) * m) * (-(v + c) * m) + (2 * k + P * k * k) * ((v + c) * (v + c)) - k * (c * (v + c)) + w, ?_⟩
            grind
          rcases pdvd hI hbf with z | z
          · exact absurd z hb
          · exact z
        · refine ⟨i * (-(v + c) * m) * (-(v + c) * m) - k * (v + c), ?_⟩
          have : v - -(P * i * (-(v + c) * m) * (-(v + c) * m) + b * (-(v + c) * m) + c) = P * (i * (-(v + c) * m) * (-(v + c) * m)) + (v + c) - (b * m) * (v + c) := by grind
          rw [this, e]
          grind
    rcases pdvd hI g2 with hu | hu
    · exact case0 hu
    · rcases pdvd hI g1 with hu0 | hv
      · exact case0 hu0
      · exact .inl ⟨⟨i, rfl⟩, hu, hv⟩
  · obtain ⟨m, k, e⟩ := hI a ha
    obtain ⟨w, hw⟩ := h2
    obtain ⟨w1, hw1⟩ := h1
    have hu : Eqv P u (-a * (-u * m)) := ⟨-(k * u), by
      have : -a * (-u * m) = (a * m) * u := by grind
      rw [this, e]
      grind⟩
    have hv : Eqv P v (-(a * (-u * m) * (-u * m) + b * (-u * m) + c)) := by
      have ha2 : P ∣ a * (v - -(a * (-u * m) * (-u * m) + b * (-u * m) + c)) := by
        have : a * (v - -(a * (-u * m) * (-u * m) + b * (-u * m) + c)) = a * v + (a * m) * (a * m) * (u * u) - (a * m) * (b * u) + a * c := by grind
        rw [this, e]
        exact ⟨w + (2 * k + P * k * k) * (u * u) - k * (b * u), by grind⟩
      rcases pdvd hI ha2 with z | z
      · exact absurd z ha
      · exact z
    refine .inr ⟨-u * m, ?_, hu, hv⟩
    obtain ⟨i, hi⟩ := hu
    obtain ⟨j, hj⟩ := hv
    generalize hx : -u * m = x at *
    have hf : P ∣ a * f3 a b c d x := by
      refine ⟨w1 - i * v - (-a * x) * j, ?_⟩
      unfold f3
      have e1 : u = P * i + -a * x := by omega
      have e2 : v = P * j + -(a * x * x + b * x + c) := by omega
      have e3 : u * v + a * d = (P * i) * v + (-a * x) * (P * j) + a * (((a * x + b) * x + c) * x + d) := by
        have : u * v = (P * i) * v + (-a * x) * v := by rw [e1]; grind
        rw [this]
        have : (-a * x) * v = (-a * x) * (P * j) + (-a * x) * -(a * x * x + b * x + c) := by rw [e2]; grind
        rw [this]
        grind
      rw [hw1] at e3
      have e4 : a * (((a * x + b) * x + c) * x + d) = P * w1 - (P * i) * v - (-a * x) * (P * j) := by omega
      rw [e4]
      clear e4 e3 e2 e1 hi hj hw hw1 e h3
      grind
    rcases pdvd hI hf with z | z
    · exact absurd z ha
    · exact z
end MapM
namespace MapM
def lexQ (p q : Int × Int) : Prop := p.1 < q.1 ∨ (p.1 = q.1 ∧ p.2 < q.2)
def mp (a b c p : Int) (z : Int × Int) : Int × Int := if z = (1, 0) then (b % p, 0) else (-a * z.1 % p, -(a * z.1 * z.1 + b * z.1 + c) % p)
def rootsG (a b c d : Int) (p : Nat) : List (Int × Int) := (((List.range p).filter fun (x : Nat) => decide (f3 a b c d x % (p : Int) = 0)).map fun (x : Nat) => ((x : Int), (1 : Int))) ++ (if a % (p : Int) = 0 then [((1 : Int), (0 : Int))] else [])
def rstB (a b c d p u v : Int) : Bool := decide ((u * v + a * d) % p = 0) && decide ((u * u + a * c - b * u + a * v) % p = 0) && decide ((v * v + b * d - d * u + c * v) % p = 0)
def mapsTo (a b c d : Int) (p n : Nat) : List (Int × Int) := (List.range n).flatMap fun (u : Nat) => ((List.range p).filter fun (v : Nat) => rstB a b c d p u v).map fun (v : Nat) => ((u : Int), (v : Int))
def mapsL (a b c d : Int) (p : Nat) : List (Int × Int) := mapsTo a b c d p p
theorem mem_roots {a b c d : Int} {p : Nat} {z : Int × Int} : z ∈ rootsG a b c d p ↔ (z = (1, 0) ∧ (p : Int) ∣ a) ∨ ∃ x : Int, 0 ≤ x ∧ x < p ∧ z = (x, 1) ∧ (p : Int) ∣ f3 a b c d x := by
  unfold rootsG
  rw [List.mem_append, List.mem_map]
  constructor
  · rintro (⟨x, hx, rfl⟩ | h)
    · rw [List.mem_filter, List.mem_range] at hx
      exact .inr ⟨x, by omega, by omega, rfl, Int.dvd_of_emod_eq_zero (of_decide_eq_true hx.2)⟩
    · by_cases g : a % (p : Int) = 0
      · rw [if_pos g] at h
        exact .inl ⟨List.mem_singleton.mp h, Int.dvd_of_emod_eq_zero g⟩
      · rw [if_neg g] at h
        cases h
  · rintro (⟨rfl, h⟩ | ⟨x, x0, x1, rfl, h⟩)
    · right
      rw [if_pos (Int.emod_eq_zero_of_dvd h)]
      exact List.mem_singleton.mpr rfl
    · left
      refine ⟨x.toNat, ?_, ?_⟩
      · rw [List.mem_filter, List.mem_range]
        refine ⟨by omega, decide_eq_true ?_⟩
        rw [Int.toNat_of_nonneg x0]
        exact Int.emod_eq_zero_of_dvd h
      · rw [Int.toNat_of_nonneg x0]
theorem eqv_mod {P u w : Int} (h : Eqv P u w) (h0 : 0 ≤ u) (h1 : u < P) : w % P = u := by
  obtain ⟨k, hk⟩ := h
  have : w = u + P * (-k) := by rw [Int.mul_neg]; omega
  rw [this, Int.add_mul_emod_self_left, Int.emod_eq_of_lt h0 h1]
theorem mod_eqv (P w : Int) : Eqv P (w % P) w := by
  have := Int.emod_add_mul_ediv w P
  exact ⟨-(w / P), by rw [Int.mul_neg]; omega⟩
theorem Eqv.symm {P x y : Int} (h : Eqv P x y) : Eqv P y x := by
  obtain ⟨k, hk⟩ := h
  exact ⟨-k, by rw [Int.mul_neg]; omega⟩
theorem Eqv.refl (P x : Int) : Eqv P x x := ⟨0, by omega⟩
theorem eqv_eq {P x y : Int} (hP : 0 < P) (h : Eqv P x y) : x % P = y % P :=
  (eqv_mod (show Eqv P (x % P) y from by
    obtain ⟨k, hk⟩ := h
    obtain ⟨j, hj⟩ := mod_eqv P x
    exact ⟨k + j, by rw [Int.mul_add]; omega⟩) (Int.emod_nonneg _ (by omega)) (Int.emod_lt_of_pos _ hP)).symm
theorem eq_eqv {P x y : Int} (h : x % P = y % P) : Eqv P x y := by
  obtain ⟨i, hi⟩ := mod_eqv P x
  obtain ⟨j, hj⟩ := mod_eqv P y
  exact ⟨j - i, by rw [Int.mul_sub]; omega⟩
theorem Rst.congr {P a b c d u v a' b' c' d' u' v' : Int} (h : Rst P a b c d u v) (ha : Eqv P a' a) (hb : Eqv P b' b) (hc : Eqv P c' c) (hd : Eqv P d' d) (hu : Eqv P u' u) (hv : Eqv P v' v) : Rst P a' b' c' d' u' v' := by
  obtain ⟨i, hi⟩ := ha
  obtain ⟨j, hj⟩ := hb
  obtain ⟨k, hk⟩ := hc
  obtain ⟨l, hl⟩ := hd
  obtain ⟨m, hm⟩ := hu
  obtain ⟨n, hn⟩ := hv
  obtain ⟨⟨x, hx⟩, ⟨y, hy⟩, ⟨z, hz⟩⟩ := h
  obtain rfl : a' = a + P * i := by omega
  obtain rfl : b' = b + P * j := by omega
  obtain rfl : c' = c + P * k := by omega
  obtain rfl : d' = d + P * l := by omega
  obtain rfl : u' = u + P * m := by omega
  obtain rfl : v' = v + P * n := by omega
  clear hi hj hk hl hm hn
  refine ⟨⟨x + u * n + m * (v + P * n) + a * l + i * (d + P * l), ?_⟩, ⟨y + u * m + m * (u + P * m) + a * k + i * (c + P * k) - b * m - j * (u + P * m) + a * n + i * (v + P * n), ?_⟩, ⟨z + v * n + n * (v + P * n) + b * l + j * (d + P * l) - d * m - l * (u + P * m) + c * n + k * (v + P * n), ?_⟩⟩
  · have : (u + P * m) * (v + P * n) + (a + P * i) * (d + P * l) = (u * v + a * d) + P * (u * n + m * (v + P * n) + a * l + i * (d + P * l)) := by grind
    rw [this, hx]; grind
  · have : (u + P * m) * (u + P * m) + (a + P * i) * (c + P * k) - (b + P * j) * (u + P * m) + (a + P * i) * (v + P * n) = (u * u + a * c - b * u + a * v) + P * (u * m + m * (u + P * m) + a * k + i * (c + P * k) - b * m - j * (u + P * m) + a * n + i * (v + P * n)) := by grind
    rw [this, hy]; grind
  · have : (v + P * n) * (v + P * n) + (b + P * j) * (d + P * l) - (d + P * l) * (u + P * m) + (c + P * k) * (v + P * n) = (v * v + b * d - d * u + c * v) + P * (v * n + n * (v + P * n) + b * l + j * (d + P * l) - d * m - l * (u + P * m) + c * n + k * (v + P * n)) := by grind
    rw [this, hz]; grind
theorem f3_congr {P a b c d x a' b' c' d' x' : Int} (h : P ∣ f3 a b c d x) (ha : Eqv P a' a) (hb : Eqv P b' b) (hc : Eqv P c' c) (hd : Eqv P d' d) (hx : Eqv P x' x) : P ∣ f3 a' b' c' d' x' := by
  obtain ⟨i, hi⟩ := ha
  obtain ⟨j, hj⟩ := hb
  obtain ⟨k, hk⟩ := hc
  obtain ⟨l, hl⟩ := hd
  obtain ⟨m, hm⟩ := hx
  obtain ⟨y, hy⟩ := h
  obtain rfl : a' = a + P * i := by omega
  obtain rfl : b' = b + P * j := by omega
  obtain rfl : c' = c + P * k := by omega
  obtain rfl : d' = d + P * l := by omega
  obtain rfl : x' = x + P * m := by omega
  clear hi hj hk hl hm
  unfold f3 at *
  have e1 : (a + P * i) * (x + P * m) + (b + P * j) = (a * x + b) + P * (a * m + i * (x + P * m) + j) := by grind
  generalize a * m + i * (x + P * m) + j = s at *
  have e2 : ((a * x + b) + P * s) * (x + P * m) + (c + P * k) = ((a * x + b) * x + c) + P * ((a * x + b) * m + s * (x + P * m) + k) := by grind
  generalize (a * x + b) * m + s * (x + P * m) + k = t at *
  have e3 : (((a * x + b) * x + c) + P * t) * (x + P * m) + (d + P * l) = (((a * x + b) * x + c) * x + d) + P * (((a * x + b) * x + c) * m + t * (x + P * m) + l) := by grind
  rw [e1, e2, e3, hy]
  exact ⟨y + (((a * x + b) * x + c) * m + t * (x + P * m) + l), by rw [Int.mul_add P y]⟩
theorem rst_iff {a b c d p u v : Int} : rstB a b c d p u v = true ↔ Rst p a b c d u v := by
  unfold rstB Rst
  rw [Bool.and_eq_true, Bool.and_eq_true, decide_eq_true_iff, decide_eq_true_iff, decide_eq_true_iff]
  constructor
  · rintro ⟨⟨h1, h2⟩, h3⟩
    exact ⟨Int.dvd_of_emod_eq_zero h1, Int.dvd_of_emod_eq_zero h2, Int.dvd_of_emod_eq_zero h3⟩
  · rintro ⟨h1, h2, h3⟩
    exact ⟨⟨Int.emod_eq_zero_of_dvd h1, Int.emod_eq_zero_of_dvd h2⟩, Int.emod_eq_zero_of_dvd h3⟩
theorem mem_mapsTo {a b c d : Int} {p n : Nat} {u v : Int} : (u, v) ∈ mapsTo a b c d p n ↔ 0 ≤ u ∧ u < n ∧ 0 ≤ v ∧ v < p ∧ Rst p a b c d u v := by
  unfold mapsTo
  rw [List.mem_flatMap]
  constructor
  · rintro ⟨i, hi, h⟩
    rw [List.mem_map] at h
    obtain ⟨j, hj, e⟩ := h
    rw [List.mem_filter, List.mem_range] at hj
    rw [List.mem_range] at hi
    obtain ⟨rfl, rfl⟩ := Prod.mk.inj e
    exact ⟨by omega, by omega, by omega, by omega, rst_iff.mp hj.2⟩
  · rintro ⟨u0, u1, v0, v1, h⟩
    refine ⟨u.toNat, List.mem_range.mpr (by omega), List.mem_map.mpr ⟨v.toNat, List.mem_filter.mpr ⟨List.mem_range.mpr (by omega), ?_⟩, ?_⟩⟩
    · rw [Int.toNat_of_nonneg u0, Int.toNat_of_nonneg v0]
      exact rst_iff.mpr h
    · rw [Int.toNat_of_nonneg u0, Int.toNat_of_nonneg v0]
theorem pw_range (n : Nat) : (List.range n).Pairwise (· < ·) := by
  induction n with
  | zero => exact .nil
  | succ n ih =>
    rw [List.range_succ, List.pairwise_append]
    refine ⟨ih, List.pairwise_singleton _ _, fun a ha b hb => ?_⟩
    rw [List.mem_singleton] at hb
    rw [hb]
    exact List.mem_range.mp ha
theorem mapsTo_sorted (a b c d : Int) (p n : Nat) : (mapsTo a b c d p n).Pairwise lexQ := by
  induction n with
  | zero => exact .nil
  | succ n ih =>
    unfold mapsTo
    rw [List.range_succ, List.flatMap_append, List.pairwise_append]
    refine ⟨ih, ?_, ?_⟩
    · rw [List.flatMap_cons, List.flatMap_nil, List.append_nil, List.pairwise_map]
      refine ((pw_range p).filter _).imp fun h => .inr ⟨rfl, ?_⟩
      show (_ : Int) < _
      omega
    · rintro ⟨u, v⟩ h ⟨u', v'⟩ h'
      rw [List.flatMap_cons, List.flatMap_nil, List.append_nil, List.mem_map] at h'
      obtain ⟨j, hj, e⟩ := h'
      obtain ⟨rfl, rfl⟩ := Prod.mk.inj e
      have := mem_mapsTo.mp h
      exact .inl this.2.1
theorem aux {p i b c d x y l m : Int} (hl : ((p * i * x + p * b) * x + c) * x + d = p * l) (hm : ((p * i * y + p * b) * y + c) * y + d = p * m) : c * (x - y) = p * (l - m - i * x * x * x - b * x * x + i * y * y * y + b * y * y) := by
  have e1 : p * (l - m - i * x * x * x - b * x * x + i * y * y * y + b * y * y) = p * l - p * m - p * (i * x * x * x + b * x * x) + p * (i * y * y * y + b * y * y) := by grind
  rw [e1, ← hl, ← hm]
  grind
theorem aux2 {p i b c d x l : Int} (hl : ((p * i * x + p * b) * x + p * c) * x + d = p * l) : d = p * (l - i * x * x * x - b * x * x - c * x) := by
  have e1 : p * (l - i * x * x * x - b * x * x - c * x) = p * l - p * (i * x * x * x + b * x * x + c * x) := by grind
  rw [e1, ← hl]
  grind
theorem mp_inj {a b c d : Int} {p : Nat} (hI : Inv1 p) (h2 : 2 ≤ p) (hn : ¬ ((p : Int) ∣ a ∧ (p : Int) ∣ b ∧ (p : Int) ∣ c ∧ (p : Int) ∣ d)) {z w : Int × Int} (hz : z ∈ rootsG a b c d p) (hw : w ∈ rootsG a b c d p) (e : mp a b c p z = mp a b c p w) : z = w := by
  have p0 : (0 : Int) < (p : Int) := by omega
  have key : ∀ x : Int, (p : Int) ∣ a → (p : Int) ∣ f3 a b c d x → mp a b c p (1, 0) = mp a b c p (x, 1) → False := by
    intro x ha hf e
    have e0 : mp a b c p (1, 0) = (b % p, 0) := if_pos rfl
    have e1 : mp a b c p (x, 1) = (-a * x % p, -(a * x * x + b * x + c) % p) := if_neg (by simp)
    rw [e0, e1] at e
    obtain ⟨f1, f2⟩ := Prod.mk.inj e
    obtain ⟨i, rfl⟩ := ha
    obtain ⟨j, hj⟩ := eq_eqv f1
    have hb : (p : Int) ∣ b := ⟨j - i * x, by grind⟩
    obtain ⟨b', rfl⟩ := hb
    obtain ⟨k, hk⟩ := Int.dvd_of_emod_eq_zero f2.symm
    have hc : (p : Int) ∣ c := ⟨-k - i * x * x - b' * x, by grind⟩
    obtain ⟨c', rfl⟩ := hc
    obtain ⟨l, hl⟩ := hf
    have hd : (p : Int) ∣ d := ⟨l - i * x * x * x - b' * x * x - c' * x, by unfold f3 at hl; grind⟩
    exact hn ⟨⟨i, rfl⟩, ⟨b', rfl⟩, ⟨c', rfl⟩, hd⟩
  rcases mem_roots.mp hz with ⟨rfl, ha⟩ | ⟨x, x0, x1, rfl, hx⟩
  · rcases mem_roots.mp hw with ⟨rfl, _⟩ | ⟨y, y0, y1, rfl, hy⟩
    · rfl
    · exact (key y ha hy e).elim
  · rcases mem_roots.mp hw with ⟨rfl, ha⟩ | ⟨y, y0, y1, rfl, hy⟩
    · exact (key x ha hx e.symm).elim
    · have e0 : mp a b c p (x, 1) = (-a * x % p, -(a * x * x + b * x + c) % p) := if_neg (by simp)
      have e1 : mp a b c p (y, 1) = (-a * y % p, -(a * y * y + b * y + c) % p) := if_neg (by simp)
      rw [e0, e1] at e
      obtain ⟨f1, f2⟩ := Prod.mk.inj e
      have close : (p : Int) ∣ x - y → x = y := by
        intro h
        have g := eqv_mod (P := p) (u := x) (w := y) h x0 x1
        rw [Int.emod_eq_of_lt y0 y1] at g
        exact g.symm
      have h : x = y := by
        apply close
        obtain ⟨j, hj⟩ := eq_eqv f1
        have g1 : (p : Int) ∣ a * (x - y) := ⟨-j, by grind⟩
        rcases pdvd hI g1 with ha | h
        · obtain ⟨i, rfl⟩ := ha
          obtain ⟨k, hk⟩ := eq_eqv f2
          have g2 : (p : Int) ∣ b * (x - y) := ⟨-k - i * x * x + i * y * y, by grind⟩
          rcases pdvd hI g2 with hb | h
          · obtain ⟨b', rfl⟩ := hb
            obtain ⟨l, hl⟩ := hx
            obtain ⟨m, hm⟩ := hy
            unfold f3 at hl hm
            have g3 : (p : Int) ∣ c * (x - y) := ⟨l - m - i * x * x * x - b' * x * x + i * y * y * y + b' * y * y, aux hl hm⟩
            rcases pdvd hI g3 with hc | h
            · obtain ⟨c', rfl⟩ := hc
              exact (hn ⟨⟨i, rfl⟩, ⟨b', rfl⟩, ⟨c', rfl⟩, ⟨l - i * x * x * x - b' * x * x - c' * x, aux2 hl⟩⟩).elim
            · exact h
          · exact h
        · exact h
      rw [h]
theorem mem_maps {a b c d : Int} {p : Nat} (hI : Inv1 p) (h2 : 2 ≤ p) (q : Int × Int) : q ∈ (rootsG a b c d p).map (mp a b c p) ↔ q ∈ mapsL a b c d p := by
  obtain ⟨u, v⟩ := q
  have p0 : (0 : Int) < (p : Int) := by omega
  have p1 : (p : Int) ≠ 0 := by omega
  unfold mapsL
  rw [mem_mapsTo, List.mem_map]
  constructor
  · rintro ⟨z, hz, e⟩
    rcases mem_roots.mp hz with ⟨rfl, ha⟩ | ⟨x, x0, x1, rfl, hx⟩
    · have e0 : mp a b c p (1, 0) = (b % p, 0) := if_pos rfl
      rw [e0] at e
      obtain ⟨rfl, rfl⟩ := Prod.mk.inj e
      exact ⟨Int.emod_nonneg _ p1, Int.emod_lt_of_pos _ p0, by omega, by omega, (of_end ha).congr (.refl _ _) (.refl _ _) (.refl _ _) (.refl _ _) (mod_eqv _ _) (.refl _ _)⟩
    · have e0 : mp a b c p (x, 1) = (-a * x % p, -(a * x * x + b * x + c) % p) := if_neg (by simp)
      rw [e0] at e
      obtain ⟨rfl, rfl⟩ := Prod.mk.inj e
      exact ⟨Int.emod_nonneg _ p1, Int.emod_lt_of_pos _ p0, Int.emod_nonneg _ p1, Int.emod_lt_of_pos _ p0, (of_root hx).congr (.refl _ _) (.refl _ _) (.refl _ _) (.refl _ _) (mod_eqv _ _) (mod_eqv _ _)⟩
  · rintro ⟨u0, u1, v0, v1, h⟩
    rcases only hI h with ⟨ha, hu, hv⟩ | ⟨x, hx, hu, hv⟩
    · refine ⟨(1, 0), mem_roots.mpr (.inl ⟨rfl, ha⟩), ?_⟩
      have e0 : mp a b c p (1, 0) = (b % p, 0) := if_pos rfl
      rw [e0, eqv_mod hu u0 u1]
      have : v % (p : Int) = 0 := Int.emod_eq_zero_of_dvd hv
      rw [Int.emod_eq_of_lt v0 v1] at this
      rw [this]
    · refine ⟨(x % p, 1), mem_roots.mpr (.inr ⟨x % p, Int.emod_nonneg _ p1, Int.emod_lt_of_pos _ p0, rfl, f3_congr hx (.refl _ _) (.refl _ _) (.refl _ _) (.refl _ _) (mod_eqv _ _)⟩), ?_⟩
      have e0 : mp a b c p (x % p, 1) = (-a * (x % p) % p, -(a * (x % p) * (x % p) + b * (x % p) + c) % p) := if_neg (by simp)
      obtain ⟨k, hk⟩ := mod_eqv p x
      generalize x % (p : Int) = y at *
      obtain rfl : y = x + p * k := by omega
      rw [e0]
      congr 1
      · refine eqv_mod ?_ u0 u1
        obtain ⟨m, hm⟩ := hu
        exact ⟨m + a * k, by grind⟩
      · refine eqv_mod ?_ v0 v1
        obtain ⟨m, hm⟩ := hv
        exact ⟨m + (a * (x + p * k) * k + a * k * x + b * k), by grind⟩
theorem lexQ_ne {z w : Int × Int} (h : lexQ z w) : z ≠ w := by
  rintro rfl
  rcases h with h | ⟨_, h⟩ <;> omega
theorem maps_nodup (a b c d : Int) (p : Nat) : (mapsL a b c d p).Nodup := (mapsTo_sorted a b c d p p).imp lexQ_ne
theorem roots_nodup (a b c d : Int) (p : Nat) : (rootsG a b c d p).Nodup := by
  unfold rootsG
  refine List.pairwise_append.mpr ⟨?_, ?_, ?_⟩
  · rw [List.pairwise_map]
    refine ((pw_range p).filter _).imp fun {x y} h e => ?_
    have := (Prod.mk.inj e).1
    omega
  · by_cases g : a % (p : Int) = 0
    · rw [if_pos g]; exact List.pairwise_singleton _ _
    · rw [if_neg g]; exact .nil
  · intro z hz w hw e
    rw [List.mem_map] at hz
    obtain ⟨x, _, rfl⟩ := hz
    by_cases g : a % (p : Int) = 0
    · rw [if_pos g, List.mem_singleton] at hw
      rw [hw] at e
      exact absurd (Prod.mk.inj e).2 (by decide)
    · rw [if_neg g] at hw
      cases hw
theorem mp_nodup {a b c d : Int} {p : Nat} (hI : Inv1 p) (h2 : 2 ≤ p) (hn : ¬ ((p : Int) ∣ a ∧ (p : Int) ∣ b ∧ (p : Int) ∣ c ∧ (p : Int) ∣ d)) : ((rootsG a b c d p).map (mp a b c p)).Nodup := by
  refine List.pairwise_map.mpr ?_
  have := roots_nodup a b c d p
  refine List.Pairwise.imp_of_mem ?_ this
  intro z w hz hw ne e
  exact ne (mp_inj hI h2 hn hz hw e)
theorem full_maps {a b c d : Int} {p : Nat} (hI : Inv1 p) (h2 : 2 ≤ p) (ha : (p : Int) ∣ a) (hb : (p : Int) ∣ b) (hc : (p : Int) ∣ c) (hd : (p : Int) ∣ d) (q : Int × Int) : q ∈ [((0 : Int), (0 : Int))] ↔ q ∈ mapsL a b c d p := by
  obtain ⟨u, v⟩ := q
  unfold mapsL
  rw [mem_mapsTo, List.mem_singleton]
  obtain ⟨i, rfl⟩ := ha
  obtain ⟨j, rfl⟩ := hb
  obtain ⟨k, rfl⟩ := hc
  obtain ⟨l, rfl⟩ := hd
  constructor
  · intro e
    obtain ⟨rfl, rfl⟩ := Prod.mk.inj e
    exact ⟨by omega, by omega, by omega, by omega, ⟨i * (p * l), by grind⟩, ⟨i * (p * k), by grind⟩, ⟨j * (p * l), by grind⟩⟩
  · rintro ⟨u0, u1, v0, v1, _, ⟨x, hx⟩, ⟨y, hy⟩⟩
    have hu : (p : Int) ∣ u * u := ⟨x - i * (p * k) + j * u - i * v, by grind⟩
    have hv : (p : Int) ∣ v * v := ⟨y - j * (p * l) + l * u - k * v, by grind⟩
    have hu' : (p : Int) ∣ u := (pdvd hI hu).elim id id
    have hv' : (p : Int) ∣ v := (pdvd hI hv).elim id id
    have e1 := Int.emod_eq_zero_of_dvd hu'
    have e2 := Int.emod_eq_zero_of_dvd hv'
    rw [Int.emod_eq_of_lt u0 u1] at e1
    rw [Int.emod_eq_of_lt v0 v1] at e2
    rw [e1, e2]
theorem rstB_red (a b c d : Int) {p : Int} (hp : 0 < p) (u v : Int) : rstB (a % p) (b % p) (c % p) (d % p) p u v = rstB a b c d p u v := by
  rw [Bool.eq_iff_iff, rst_iff, rst_iff]
  exact ⟨fun h => h.congr (mod_eqv _ _).symm (mod_eqv _ _).symm (mod_eqv _ _).symm (mod_eqv _ _).symm (.refl _ _) (.refl _ _), fun h => h.congr (mod_eqv _ _) (mod_eqv _ _) (mod_eqv _ _) (mod_eqv _ _) (.refl _ _) (.refl _ _)⟩
theorem mapsL_red (a b c d : Int) {p : Nat} (hp : 0 < p) : mapsL (a % p) (b % p) (c % p) (d % p) p = mapsL a b c d p := by
  unfold mapsL mapsTo
  congr 1
  funext u
  congr 1
  congr 1
  funext v
  exact rstB_red a b c d (by omega) u v
theorem rootsG_red (a b c d : Int) {p : Nat} (hp : 0 < p) : rootsG (a % p) (b % p) (c % p) (d % p) p = rootsG a b c d p := by
  unfold rootsG
  congr 1
  · congr 1
    congr 1
    funext x
    refine decide_eq_decide.mpr ⟨fun h => ?_, fun h => ?_⟩
    · exact Int.emod_eq_zero_of_dvd (f3_congr (Int.dvd_of_emod_eq_zero h) (mod_eqv _ _).symm (mod_eqv _ _).symm (mod_eqv _ _).symm (mod_eqv _ _).symm (.refl _ _))
    · exact Int.emod_eq_zero_of_dvd (f3_congr (Int.dvd_of_emod_eq_zero h) (mod_eqv _ _) (mod_eqv _ _) (mod_eqv _ _) (mod_eqv _ _) (.refl _ _))
  · rw [Int.emod_emod_of_dvd _ (Int.dvd_refl _)]
theorem mp_red (a b c : Int) {p : Int} (hp : 0 < p) (z : Int × Int) : mp (a % p) (b % p) (c % p) p z = mp a b c p z := by
  unfold mp
  obtain ⟨i, hi⟩ := mod_eqv p a
  obtain ⟨j, hj⟩ := mod_eqv p b
  obtain ⟨k, hk⟩ := mod_eqv p c
  by_cases h : z = (1, 0)
  · rw [if_pos h, if_pos h, Int.emod_emod_of_dvd _ (Int.dvd_refl _)]
  · rw [if_neg h, if_neg h]
    generalize a % p = a' at *
    generalize b % p = b' at *
    generalize c % p = c' at *
    obtain rfl : a' = a + p * i := by omega
    obtain rfl : b' = b + p * j := by omega
    obtain rfl : c' = c + p * k := by omega
    congr 1
    · exact eqv_eq hp ⟨-i * z.1, by grind⟩
    · exact eqv_eq hp ⟨-(i * z.1 * z.1 + j * z.1 + k), by grind⟩
end MapM
namespace KindM
def valN (p x : Nat) (row : List Nat) : Nat := row.foldl (fun r n => (r * x + n) % p) 0
def lessG (p x : Nat) : Nat → List Nat → List Nat
  | _, [] => []
  | _, [_] => []
  | last, n :: m :: r => ((last * x + n) % p) :: lessG p x ((last * x + n) % p) (m :: r)
def lessN (p x : Nat) (row : List Nat) : List Nat := lessG p x 0 row
def strip (p x : Nat) : Nat → List Nat → Option (List Nat)
  | 0, _ => none
  | f + 1, row => if valN p x row = 0 then (if row.length ≤ 1 then none else strip p x f (lessN p x row)) else some row
def ahead : List Nat → Option (List Nat)
  | [] => none
  | 0 :: r => ahead r
  | n :: r => some (n :: r)
def rootN (p x : Nat) (row : List Nat) : Bool := valN p x row = 0
def places (p : Nat) (row : List Nat) : List (Nat × Nat) := (((List.range p).filter fun x => rootN p x row).map fun x => (x, 1)) ++ (if row.head? = some 0 then [(1, 0)] else [])
def go (p : Nat) : List (Nat × Nat) → List Nat → Option (List Nat)
  | [], row => some row
  | (x, 0) :: r, row => (ahead row).bind (go p r)
  | (x, _) :: r, row => (strip p x 5 row).bind (go p r)
def sorted (p : Nat) (row : List Nat) : List (Nat × Nat) := ((places p row).filter fun z => z.1 = 0) ++ ((places p row).filter fun z => z.1 = 1 && z.2 = 0) ++ ((places p row).filter fun z => z.1 = 1 && z.2 = 1) ++ ((places p row).filter fun z => decide (1 < z.1))
def fine (p : Nat) (row : List Nat) : Bool := match go p (sorted p row) row with
  | none => false
  | some rest => decide (1 < rest.length) || (decide (1 ≤ (places p row).length) && decide ((places p row).length ≤ 3))
def all4 (p : Nat) : List (List Nat) := (List.range p).flatMap fun a => (List.range p).flatMap fun b => (List.range p).flatMap fun c => (List.range p).map fun d => [a, b, c, d]
theorem fine2 : ∀ row ∈ all4 2, row ≠ [0, 0, 0, 0] → fine 2 row = true := by decide +kernel
theorem fine3 : ∀ row ∈ all4 3, row ≠ [0, 0, 0, 0] → fine 3 row = true := by decide +kernel
theorem mem4 {p a b c d : Nat} (ha : a < p) (hb : b < p) (hc : c < p) (hd : d < p) : [a, b, c, d] ∈ all4 p := by
  unfold all4
  simp only [List.mem_flatMap, List.mem_map, List.mem_range]
  exact ⟨a, ha, b, hb, c, hc, d, hd, rfl⟩
theorem lessG_length (p x : Nat) : ∀ (last : Nat) (row : List Nat), (lessG p x last row).length = row.length - 1
  | _, [] => rfl
  | _, [_] => rfl
  | last, n :: m :: r => by
    show (lessG p x _ (m :: r)).length + 1 = _
    rw [lessG_length p x _ (m :: r)]
    simp
end KindM
namespace RG
open PySem PySem.Spec PyProof.Rows L2 Fr
open K05M (fv fl2 fl3 fdisc)
theorem ab_nat (z : Int) : (if z < 0 then -z else z) = (z.natAbs : Int) := by
  by_cases h : z < 0
  · rw [if_pos h]; omega
  · rw [if_neg h]; omega
section
def sp_are_any_integers (_ : PySem.W.Frag) (C C_R C_E : Addr) : Sp := fun vs H Q _ => ∃ (a : Addr) (ns : List Int), vs = [.ref a, .int (ns.length : Int)] ∧ Ti H a ns ∧ ns.length ≤ 1000 ∧ ∀ H', Ex0 H H' → Q (.bl true) H'
def sp_determinant_of (_ : PySem.W.Frag) (C C_R C_E : Addr) : Sp := fun vs H Q _ => ∃ (a : Addr) (p q r s : Int), vs = [.ref a] ∧ T4 H a p q r s ∧ B 200 p ∧ B 200 q ∧ B 200 r ∧ B 200 s ∧ Q (.int (p * s - q * r)) H
def sp_is_change (_ : PySem.W.Frag) (C C_R C_E : Addr) : Sp := fun vs H Q _ => ∃ (a : Addr) (p q r s : Int), vs = [.ref a] ∧ T4 H a p q r s ∧ ChOk p q r s ∧ ∀ H', Ex0 H H' → Q (.bl true) H'
def sp_is_short_change (_ : PySem.W.Frag) (C C_R C_E : Addr) : Sp := fun vs H Q _ => ∃ (a : Addr) (p q r s : Int), vs = [.ref a] ∧ T4 H a p q r s ∧ ChOk p q r s ∧ ∀ H', Ex0 H H' → Q (.bl true) H'
def sp_check_change (_ : PySem.W.Frag) (C C_R C_E : Addr) : Sp := fun vs H Q _ => ∃ (a : Addr) (p q r s : Int), vs = [.ref a] ∧ T4 H a p q r s ∧ ChOk p q r s ∧ ∀ H', Ex0 H H' → Q .non H'
def sp_form_led (_ : PySem.W.Frag) (C C_R C_E : Addr) : Sp := fun vs H Q _ => ∃ (t u : Addr) (a b c d p q r s : Int), vs = [.ref t, .ref u] ∧ Ti H t [a, b, c, d] ∧ T4 H u p q r s ∧ B 1000 a ∧ B 1000 b ∧ B 1000 c ∧ B 1000 d ∧ B 200 p ∧ B 200 q ∧ B 200 r ∧ B 200 s ∧ ∀ x H', Ex0 H H' → Ti H' x (fled a b c d p q r s) → Q (.ref x) H'
def sp_form_of (_ : PySem.W.Frag) (C C_R C_E : Addr) : Sp := fun vs H Q _ => ∃ (t : Addr) (ns : List Int), vs = [.ref t] ∧ Ti H t ns ∧ ∀ x H', Ex0 H H' → FormAt C H' x ns → Q (.ref x) H'
def sp_Form_led (_ : PySem.W.Frag) (C C_R C_E : Addr) : Sp := fun vs H Q _ => ∃ (z u : Addr) (a b c d p q r s : Int), vs = [.ref z, .ref u] ∧ FormAt C H z [a, b, c, d] ∧ T4 H u p q r s ∧ B 1000 a ∧ B 1000 b ∧ B 1000 c ∧ B 1000 d ∧ ChOk p q r s ∧ ∀ x H', Ex0 H H' → FormAt C H' x (fled a b c d p q r s) → Q (.ref x) H'
def sp_Form___call__ (_ : PySem.W.Frag) (C C_R C_E : Addr) : Sp := fun vs H Q _ => ∃ (z : Addr) (a b c d x y : Int), vs = [.ref z, .int x, .int y] ∧ FormAt C H z [a, b, c, d] ∧ B 1000 a ∧ B 1000 b ∧ B 1000 c ∧ B 1000 d ∧ Short x ∧ Short y ∧ Q (.int (fv a b c d x y)) H
def sp_is_between (_ : PySem.W.Frag) (C C_R C_E : Addr) : Sp := fun vs H Q _ => ∃ i lo hi : Int, vs = [.int i, .int lo, .int hi] ∧ Short i ∧ lo ≤ i ∧ i ≤ hi ∧ Q (.bl true) H
def sp_check_between (_ : PySem.W.Frag) (C C_R C_E : Addr) : Sp := fun vs H Q _ => ∃ i lo hi : Int, vs = [.int i, .int lo, .int hi] ∧ Short i ∧ lo ≤ i ∧ i ≤ hi ∧ Q .non H
def sp_form_value (_ : PySem.W.Frag) (C C_R C_E : Addr) : Sp := fun vs H Q _ => ∃ (t : Addr) (a b c d x y : Int), vs = [.ref t, .int x, .int y] ∧ Ti H t [a, b, c, d] ∧ B 1000 a ∧ B 1000 b ∧ B 1000 c ∧ B 1000 d ∧ B 200 x ∧ B 200 y ∧ Q (.int (fv a b c d x y)) H
def sp_index_of (_ : PySem.W.Frag) (C C_R C_E : Addr) : Sp := fun vs H Q _ => ∃ (x : Addr) (a b c d u y z : Int), vs = [.ref x] ∧ ElAt C C_R C_E H x [a, b, c, d] u y z 1 ∧ B4 1000 a b c d ∧ B 200 y ∧ B 200 z ∧ Q (.int (fv a b c d y z).natAbs) H
end
section
variable {P : Program} {w : World} {K : PySem.W.Frag} {mg : Str → Option Value} {base : Heap} {C_Form C_Ring C_Element : Addr}
theorem ok_is_between (T : Txt K mg C_Form C_Ring C_Element) : Def P w K mg base 3 "is_between" ["value", "low", "high"] (sp_is_between K C_Form C_Ring C_Element) := by
  obtain ⟨f_, fd_, g_, F_⟩ := T.d_is_between
  obtain ⟨f_is_short_integer, fd_is_short_integer, g_is_short_integer, k_is_short_integer, b_is_short_integer, G_is_short_integer⟩ := (ok_is_short_integer (P := P) (w := w) (base := base) T)
  refine ⟨f_, fd_, g_, F_.kp, F_.binds (ps := ["value", "low", "high"]) (fun _ _ _ _ _ _ us hl => match us, hl with | [_, _, _], _ => rfl), ?_⟩
  refine F_.ok sc_is_between (fun vs H Q E h => ?_) (fun cdv A outer s H vs Q E hr h => ?_)
  · first | (obtain ⟨rfl, _⟩ := h; rfl) | (obtain ⟨_, rfl, _⟩ := h; rfl) | (obtain ⟨_, _, rfl, _⟩ := h; rfl) | (obtain ⟨_, _, _, rfl, _⟩ := h; rfl) | (obtain ⟨_, _, _, _, rfl, _⟩ := h; rfl) | (obtain ⟨_, _, _, _, _, rfl, _⟩ := h; rfl) | (obtain ⟨_, _, _, _, _, _, rfl, _⟩ := h; rfl) | (obtain ⟨_, _, _, _, _, _, _, rfl, _⟩ := h; rfl) | (obtain ⟨_, _, _, _, _, _, _, _, rfl, _⟩ := h; rfl) | (obtain ⟨_, _, _, _, _, _, _, _, _, rfl, _⟩ := h; rfl) | (obtain ⟨_, _, _, _, _, _, _, _, _, _, rfl, _⟩ := h; rfl) | (obtain ⟨_, _, _, _, _, _, _, _, _, _, _, rfl, _⟩ := h; rfl) | (obtain ⟨_, _, _, _, _, _, _, _, _, _, _, _, rfl, _⟩ := h; rfl) | (obtain ⟨_, _, _, _, _, _, _, _, _, _, _, _, _, rfl, _⟩ := h; rfl) | (obtain ⟨_, _, _, _, _, _, _, _, _, _, _, _, _, _, rfl, _⟩ := h; rfl) | (obtain ⟨_, _, _, _, _, _, _, _, _, _, _, _, _, _, _, rfl, _⟩ := h; rfl) | (obtain ⟨_, _, _, _, _, _, _, _, _, _, _, _, _, _, _, _, rfl, _⟩ := h; rfl) | (obtain ⟨_, _, _, _, _, _, _, _, _, _, _, _, _, _, _, _, _, rfl, _⟩ := h; rfl) | (obtain ⟨_, _, _, _, _, _, _, _, _, _, _, _, _, _, _, _, _, _, rfl, _⟩ := h; rfl) | (obtain ⟨_, _, _, _, _, _, _, _, _, _, _, _, _, _, _, _, _, _, _, rfl, _⟩ := h; rfl) | (obtain ⟨_, _, _, _, _, _, _, _, _, _, _, _, _, _, _, _, _, _, _, _, rfl, _⟩ := h; rfl) | (obtain ⟨_, _, _, _, _, _, _, _, _, _, _, _, _, _, _, _, _, _, _, _, _, rfl, _⟩ := h; rfl) | (obtain ⟨_, _, _, _, _, _, _, _, _, _, _, _, _, _, _, _, _, _, _, _, _, _, rfl, _⟩ := h; rfl) | (obtain ⟨_, _, _, _, _, _, _, _, _, _, _, _, _, _, _, _, _, _, _, _, _, _, _, rfl, _⟩ := h; rfl)
  · obtain ⟨i, lo, hi, rfl, hs, h1, h2, q⟩ := h
    refine ⟨_, (pss_one (ps_ret (pe_and (pe_call G_is_short_integer (hr.mono (by decide)) (by rfl) g_is_short_integer k_is_short_integer b_is_short_integer .nil pass0 (pa_cons (pv 0) pa_nil)) (pe_one (pe_chain op_le op_le (pv 1) (pv 0) (pv 2)))))), ?_⟩
    refine ⟨_, rfl, i, rfl, hs, _, rfl, iteT ?_⟩
    refine ⟨_, rfl, _, rfl, _, _, rfl, rfl, _, rfl, dT h1 ⟨_, rfl, _, _, rfl, rfl, ?_⟩⟩
    show Q (.bl (decide (i ≤ hi))) H
    rw [decide_eq_true h2]
    exact q
theorem ok_check_between (T : Txt K mg C_Form C_Ring C_Element) : Def P w K mg base 4 "check_between" ["value", "low", "high"] (sp_check_between K C_Form C_Ring C_Element) := by
  obtain ⟨f_, fd_, g_, F_⟩ := T.d_check_between
  obtain ⟨f_is_between, fd_is_between, g_is_between, k_is_between, b_is_between, G_is_between⟩ := (ok_is_between (P := P) (w := w) (base := base) T)
  refine ⟨f_, fd_, g_, F_.kp, F_.binds (ps := ["value", "low", "high"]) (fun _ _ _ _ _ _ us hl => match us, hl with | [_, _, _], _ => rfl), ?_⟩
  refine F_.ok sc_check_between (fun vs H Q E h => ?_) (fun cdv A outer s H vs Q E hr h => ?_)
  · first | (obtain ⟨rfl, _⟩ := h; rfl) | (obtain ⟨_, rfl, _⟩ := h; rfl) | (obtain ⟨_, _, rfl, _⟩ := h; rfl) | (obtain ⟨_, _, _, rfl, _⟩ := h; rfl) | (obtain ⟨_, _, _, _, rfl, _⟩ := h; rfl) | (obtain ⟨_, _, _, _, _, rfl, _⟩ := h; rfl) | (obtain ⟨_, _, _, _, _, _, rfl, _⟩ := h; rfl) | (obtain ⟨_, _, _, _, _, _, _, rfl, _⟩ := h; rfl) | (obtain ⟨_, _, _, _, _, _, _, _, rfl, _⟩ := h; rfl) | (obtain ⟨_, _, _, _, _, _, _, _, _, rfl, _⟩ := h; rfl) | (obtain ⟨_, _, _, _, _, _, _, _, _, _, rfl, _⟩ := h; rfl) | (obtain ⟨_, _, _, _, _, _, _, _, _, _, _, rfl, _⟩ := h; rfl) | (obtain ⟨_, _, _, _, _, _, _, _, _, _, _, _, rfl, _⟩ := h; rfl) | (obtain ⟨_, _, _, _, _, _, _, _, _, _, _, _, _, rfl, _⟩ := h; rfl) | (obtain ⟨_, _, _, _, _, _, _, _, _, _, _, _, _, _, rfl, _⟩ := h; rfl) | (obtain ⟨_, _, _, _, _, _, _, _, _, _, _, _, _, _, _, rfl, _⟩ := h; rfl) | (obtain ⟨_, _, _, _, _, _, _, _, _, _, _, _, _, _, _, _, rfl, _⟩ := h; rfl) | (obtain ⟨_, _, _, _, _, _, _, _, _, _, _, _, _, _, _, _, _, rfl, _⟩ := h; rfl) | (obtain ⟨_, _, _, _, _, _, _, _, _, _, _, _, _, _, _, _, _, _, rfl, _⟩ := h; rfl) | (obtain ⟨_, _, _, _, _, _, _, _, _, _, _, _, _, _, _, _, _, _, _, rfl, _⟩ := h; rfl) | (obtain ⟨_, _, _, _, _, _, _, _, _, _, _, _, _, _, _, _, _, _, _, _, rfl, _⟩ := h; rfl) | (obtain ⟨_, _, _, _, _, _, _, _, _, _, _, _, _, _, _, _, _, _, _, _, _, rfl, _⟩ := h; rfl) | (obtain ⟨_, _, _, _, _, _, _, _, _, _, _, _, _, _, _, _, _, _, _, _, _, _, rfl, _⟩ := h; rfl) | (obtain ⟨_, _, _, _, _, _, _, _, _, _, _, _, _, _, _, _, _, _, _, _, _, _, _, rfl, _⟩ := h; rfl)
  · obtain ⟨i, lo, hi, rfl, hs, h1, h2, q⟩ := h
    refine ⟨_, (pss_one (ps_if (pt_not (pt_val (pe_call G_is_between (hr.mono (by decide)) (by rfl) g_is_between k_is_between b_is_between .nil pass0 (pa_cons (pv 0) (pa_cons (pv 1) (pa_cons (pv 2) pa_nil))))))
      pss_never
      pss_nil)), ?_⟩
    refine ⟨_, rfl, _, rfl, _, rfl, i, lo, hi, rfl, hs, h1, h2, _, rfl, ?_⟩
    exact iteF q
end
end RG
namespace RG
open PySem PySem.Spec PyProof.Rows L2 Fr
open K05M (fv fl2 fl3 fdisc)
section
def Plc (p x y : Int) : Prop := (y = 1 ∧ 0 ≤ x ∧ x < p) ∨ (x = 1 ∧ y = 0)
def Pr (n : Nat) : Prop := 2 ≤ n ∧ ∀ c, 2 ≤ c → c * c ≤ n → n % c ≠ 0
theorem modN {n i : Nat} : ((n : Int) % (2 + (i : Int)) = 0) ↔ n % (2 + i) = 0 := by
  rw [show (2 : Int) + (i : Int) = ((2 + i : Nat) : Int) by omega, ← Int.natCast_emod]
  omega
def rootB (a b c d p x y : Int) : Bool := decide (fv a b c d x y % p = 0)
def within (a b c d p x y : Int) : List Int := if y = 1 then [a * p * p, (3 * a * x + b) * p, (3 * a * x + 2 * b) * x + c, fv a b c d x 1 / p] else [a / p, b, c * p, d * p * p]
def rootsL (a b c d : Int) (p : Nat) : List (Int × Int) := (((List.range p).filter fun (x : Nat) => rootB a b c d p x 1).map fun (x : Nat) => ((x : Int), (1 : Int))) ++ (if a % (p : Int) = 0 then [((1 : Int), (0 : Int))] else [])
theorem horner (a b c d x p : Int) : (((a % p * x + b % p) * x + c % p) * x + d % p) % p = fv a b c d x 1 % p := by
  have ha := Int.emod_add_mul_ediv a p
  have hb := Int.emod_add_mul_ediv b p
  have hc := Int.emod_add_mul_ediv c p
  have hd := Int.emod_add_mul_ediv d p
  generalize a % p = a0 at *
  generalize b % p = b0 at *
  generalize c % p = c0 at *
  generalize d % p = d0 at *
  generalize a / p = a1 at *
  generalize b / p = b1 at *
  generalize c / p = c1 at *
  generalize d / p = d1 at *
  have e : fv a b c d x 1 = (((a0 * x + b0) * x + c0) * x + d0) + p * (a1 * x * x * x + b1 * x * x + c1 * x + d1) := by
    rw [← ha, ← hb, ← hc, ← hd]
    unfold fv
    grind
  rw [e, Int.add_mul_emod_self_left]
def sp_is_prime (_ : PySem.W.Frag) (C C_R C_E : Addr) : Sp := fun vs H Q _ => ∃ n : Nat, vs = [.int (n : Int)] ∧ n ≤ 10000 ∧ Pr n ∧ Q (.bl true) H
def sp_check_prime (_ : PySem.W.Frag) (C C_R C_E : Addr) : Sp := fun vs H Q _ => ∃ n : Nat, vs = [.int (n : Int)] ∧ n ≤ 10000 ∧ Pr n ∧ Q .non H
def sp_places_of_roots (K : PySem.W.Frag) (C C_R C_E : Addr) : Sp := fun vs H Q _ => ∃ (t : Addr) (a b c d : Int) (p : Nat), vs = [.ref t, .int (p : Int)] ∧ Ti H t [a, b, c, d] ∧ 0 < p ∧ p < 1000 ∧ ∀ l H' ys qs, Ex0 H H' → H l = none → H' l = some (.lst ys) → PrT K H' ys qs → qs.Perm (rootsL a b c d p) → qs.Pairwise lexP → Q (.ref l) H'
def sp_power_at (_ : PySem.W.Frag) (C C_R C_E : Addr) : Sp := fun vs H Q _ => ∃ a e n : Nat, vs = [.int (a : Int), .int (e : Int), .int (n : Int)] ∧ 2 ≤ n ∧ n ≤ 1000000000000 ∧ a ≤ 1000 ∧ e ≤ 1000000000000 ∧ Q (.int ((a ^ e % n : Nat) : Int)) H
def sp_is_full (_ : PySem.W.Frag) (C C_R C_E : Addr) : Sp := fun vs H Q _ => ∃ (t : Addr) (ns : List Int) (p : Int), vs = [.ref t, .int p] ∧ Ti H t ns ∧ 0 < p ∧ Q (.bl (decide (((gcdL ns : Nat) : Int) % p = 0))) H
end
section
variable {P : Program} {w : World} {K : PySem.W.Frag} {mg : Str → Option Value} {base : Heap} {C_Form C_Ring C_Element : Addr}
theorem ok_is_prime (T : Txt K mg C_Form C_Ring C_Element) : Def P w K mg base 5 "is_prime" ["number"] (sp_is_prime K C_Form C_Ring C_Element) := by
  obtain ⟨f_, fd_, g_, F_⟩ := T.d_is_prime
  obtain ⟨f_check_between, fd_check_between, g_check_between, k_check_between, b_check_between, G_check_between⟩ := (ok_check_between (P := P) (w := w) (base := base) T)
  refine ⟨f_, fd_, g_, F_.kp, F_.binds (ps := ["number"]) (fun _ _ _ _ _ _ us hl => match us, hl with | [_], _ => rfl), ?_⟩
  refine F_.ok sc_is_prime (fun vs H Q E h => ?_) (fun cdv A outer s H vs Q E hr h => ?_)
  · first | (obtain ⟨rfl, _⟩ := h; rfl) | (obtain ⟨_, rfl, _⟩ := h; rfl) | (obtain ⟨_, _, rfl, _⟩ := h; rfl) | (obtain ⟨_, _, _, rfl, _⟩ := h; rfl) | (obtain ⟨_, _, _, _, rfl, _⟩ := h; rfl) | (obtain ⟨_, _, _, _, _, rfl, _⟩ := h; rfl) | (obtain ⟨_, _, _, _, _, _, rfl, _⟩ := h; rfl) | (obtain ⟨_, _, _, _, _, _, _, rfl, _⟩ := h; rfl) | (obtain ⟨_, _, _, _, _, _, _, _, rfl, _⟩ := h; rfl) | (obtain ⟨_, _, _, _, _, _, _, _, _, rfl, _⟩ := h; rfl) | (obtain ⟨_, _, _, _, _, _, _, _, _, _, rfl, _⟩ := h; rfl) | (obtain ⟨_, _, _, _, _, _, _, _, _, _, _, rfl, _⟩ := h; rfl) | (obtain ⟨_, _, _, _, _, _, _, _, _, _, _, _, rfl, _⟩ := h; rfl) | (obtain ⟨_, _, _, _, _, _, _, _, _, _, _, _, _, rfl, _⟩ := h; rfl) | (obtain ⟨_, _, _, _, _, _, _, _, _, _, _, _, _, _, rfl, _⟩ := h; rfl) | (obtain ⟨_, _, _, _, _, _, _, _, _, _, _, _, _, _, _, rfl, _⟩ := h; rfl) | (obtain ⟨_, _, _, _, _, _, _, _, _, _, _, _, _, _, _, _, rfl, _⟩ := h; rfl) | (obtain ⟨_, _, _, _, _, _, _, _, _, _, _, _, _, _, _, _, _, rfl, _⟩ := h; rfl) | (obtain ⟨_, _, _, _, _, _, _, _, _, _, _, _, _, _, _, _, _, _, rfl, _⟩ := h; rfl) | (obtain ⟨_, _, _, _, _, _, _, _, _, _, _, _, _, _, _, _, _, _, _, rfl, _⟩ := h; rfl) | (obtain ⟨_, _, _, _, _, _, _, _, _, _, _, _, _, _, _, _, _, _, _, _, rfl, _⟩ := h; rfl) | (obtain ⟨_, _, _, _, _, _, _, _, _, _, _, _, _, _, _, _, _, _, _, _, _, rfl, _⟩ := h; rfl) | (obtain ⟨_, _, _, _, _, _, _, _, _, _, _, _, _, _, _, _, _, _, _, _, _, _, rfl, _⟩ := h; rfl) | (obtain ⟨_, _, _, _, _, _, _, _, _, _, _, _, _, _, _, _, _, _, _, _, _, _, _, rfl, _⟩ := h; rfl)
  · obtain ⟨n, rfl, hn, hp, q⟩ := h
    obtain ⟨t_MAX_PRIME, h_MAX_PRIME⟩ := T.x_MAX_PRIME
    refine ⟨_, (pss_cons (ps_expr (pe_call G_check_between (hr.mono (by decide)) (by rfl) g_check_between k_check_between b_check_between .nil pass0 (pa_cons (pv 0) (pa_cons pe_int (pa_cons (pe_glob (v := .int 1000000) (by rfl) h_MAX_PRIME ⟨_, rfl⟩) pa_nil)))))
    (pss_cons (ps_if (pt_cmpR op_lt (pv 0) pe_int (nomark _))
      (pss_one (ps_ret pe_bl))
      pss_nil)
    (pss_cons (ps_for PassesOwn.never rfl (pi_range2 (by rfl) T.b_range (pa_cons pe_int (pa_cons (pe_op op_add (pe_callBfun cr_isqrt (by rfl) T.m_isqrt (pa_cons (pv 0) pa_nil)) pe_int) pa_nil))) (pg_name (i := 1) sc_is_prime.nd rfl (.inl rfl))
      (pss_one (ps_if (pt_cmpR op_eq (pe_op op_mod (pv 0) (pv 1)) pe_int (nomark _))
      (pss_one (ps_ret pe_bl))
      pss_nil)))
    (pss_one (ps_ret pe_bl))))), ?_⟩
    refine ⟨_, rfl, _, _, _, rfl, ⟨by omega, by omega⟩, by omega, by omega, ?_⟩
    refine ⟨_, rfl, _, _, rfl, rfl, _, rfl, iteD (fun g => ?_) (fun g => ?_)⟩
    · have := hp.1
      omega
    · refine ⟨_, rfl, _, rfl, by omega, by omega, fun r r0 r1 r2 => ?_⟩
      have r3 : r < 2 ^ 60 := by
        rcases Int.lt_or_le r (2 ^ 60) with h | h
        · exact h
        · have := Int.mul_le_mul h h (by decide) (by omega)
          omega
      refine ⟨_, _, rfl, rfl, _, _, rfl, ⟨by decide, by decide, by omega, by omega⟩, ?_⟩
      refine for_range (lo := 2) (n := (r + 1 - 2).toNat) (fun i σ H' => ∃ y1, σ = [some (.int (n : Int)), y1] ∧ H = H') ⟨none, rfl, rfl⟩ ?_ ?_
      · rintro i σ H' hi ⟨y1, rfl, rfl⟩
        refine ⟨_, rfl, _, rfl, (n : Int), 2 + (i : Int), rfl, rfl, (show (0 : Int) < 2 + (i : Int) by omega), rfl, _, rfl, ?_⟩
        have e : decide (V.int ((n : Int) % (2 + (i : Int))) = V.int 0) = decide ((n : Int) % (2 + (i : Int)) = 0) := by rw [dec_int]; rfl
        show if decide (V.int ((n : Int) % (2 + (i : Int))) = V.int 0) = true then _ else _
        rw [e]
        refine iteD (fun z => ?_) (fun z => ⟨_, rfl, rfl⟩)
        refine absurd (modN.mp z) (hp.2 (2 + i) (by omega) ?_)
        have : (2 + (i : Int)) ≤ r := by omega
        have := Int.mul_le_mul this this (by omega) (by omega)
        have : ((2 + i : Nat) : Int) * ((2 + i : Nat) : Int) ≤ (n : Int) := by
          rw [show ((2 + i : Nat) : Int) = 2 + (i : Int) by omega]
          omega
        exact Int.ofNat_le.mp (by rw [Int.natCast_mul]; exact this)
      · rintro σ H' ⟨y1, rfl, rfl⟩
        exact q
theorem ok_check_prime (T : Txt K mg C_Form C_Ring C_Element) : Def P w K mg base 6 "check_prime" ["number"] (sp_check_prime K C_Form C_Ring C_Element) := by
  obtain ⟨f_, fd_, g_, F_⟩ := T.d_check_prime
  obtain ⟨f_check_between, fd_check_between, g_check_between, k_check_between, b_check_between, G_check_between⟩ := (ok_check_between (P := P) (w := w) (base := base) T)
  obtain ⟨f_is_prime, fd_is_prime, g_is_prime, k_is_prime, b_is_prime, G_is_prime⟩ := (ok_is_prime (P := P) (w := w) (base := base) T)
  refine ⟨f_, fd_, g_, F_.kp, F_.binds (ps := ["number"]) (fun _ _ _ _ _ _ us hl => match us, hl with | [_], _ => rfl), ?_⟩
  refine F_.ok sc_check_prime (fun vs H Q E h => ?_) (fun cdv A outer s H vs Q E hr h => ?_)
  · first | (obtain ⟨rfl, _⟩ := h; rfl) | (obtain ⟨_, rfl, _⟩ := h; rfl) | (obtain ⟨_, _, rfl, _⟩ := h; rfl) | (obtain ⟨_, _, _, rfl, _⟩ := h; rfl) | (obtain ⟨_, _, _, _, rfl, _⟩ := h; rfl) | (obtain ⟨_, _, _, _, _, rfl, _⟩ := h; rfl) | (obtain ⟨_, _, _, _, _, _, rfl, _⟩ := h; rfl) | (obtain ⟨_, _, _, _, _, _, _, rfl, _⟩ := h; rfl) | (obtain ⟨_, _, _, _, _, _, _, _, rfl, _⟩ := h; rfl) | (obtain ⟨_, _, _, _, _, _, _, _, _, rfl, _⟩ := h; rfl) | (obtain ⟨_, _, _, _, _, _, _, _, _, _, rfl, _⟩ := h; rfl) | (obtain ⟨_, _, _, _, _, _, _, _, _, _, _, rfl, _⟩ := h; rfl) | (obtain ⟨_, _, _, _, _, _, _, _, _, _, _, _, rfl, _⟩ := h; rfl) | (obtain ⟨_, _, _, _, _, _, _, _, _, _, _, _, _, rfl, _⟩ := h; rfl) | (obtain ⟨_, _, _, _, _, _, _, _, _, _, _, _, _, _, rfl, _⟩ := h; rfl) | (obtain ⟨_, _, _, _, _, _, _, _, _, _, _, _, _, _, _, rfl, _⟩ := h; rfl) | (obtain ⟨_, _, _, _, _, _, _, _, _, _, _, _, _, _, _, _, rfl, _⟩ := h; rfl) | (obtain ⟨_, _, _, _, _, _, _, _, _, _, _, _, _, _, _, _, _, rfl, _⟩ := h; rfl) | (obtain ⟨_, _, _, _, _, _, _, _, _, _, _, _, _, _, _, _, _, _, rfl, _⟩ := h; rfl) | (obtain ⟨_, _, _, _, _, _, _, _, _, _, _, _, _, _, _, _, _, _, _, rfl, _⟩ := h; rfl) | (obtain ⟨_, _, _, _, _, _, _, _, _, _, _, _, _, _, _, _, _, _, _, _, rfl, _⟩ := h; rfl) | (obtain ⟨_, _, _, _, _, _, _, _, _, _, _, _, _, _, _, _, _, _, _, _, _, rfl, _⟩ := h; rfl) | (obtain ⟨_, _, _, _, _, _, _, _, _, _, _, _, _, _, _, _, _, _, _, _, _, _, rfl, _⟩ := h; rfl) | (obtain ⟨_, _, _, _, _, _, _, _, _, _, _, _, _, _, _, _, _, _, _, _, _, _, _, rfl, _⟩ := h; rfl)
  · obtain ⟨n, rfl, hn, hp, q⟩ := h
    obtain ⟨t_GREATEST_PRIME, h_GREATEST_PRIME⟩ := T.x_GREATEST_PRIME
    refine ⟨_, (pss_cons (ps_expr (pe_call G_check_between (hr.mono (by decide)) (by rfl) g_check_between k_check_between b_check_between .nil pass0 (pa_cons (pv 0) (pa_cons pe_int (pa_cons (pe_glob (v := .int 10000) (by rfl) h_GREATEST_PRIME ⟨_, rfl⟩) pa_nil)))))
    (pss_one (ps_if (pt_not (pt_val (pe_call G_is_prime (hr.mono (by decide)) (by rfl) g_is_prime k_is_prime b_is_prime .nil pass0 (pa_cons (pv 0) pa_nil))))
      pss_never
      pss_nil))), ?_⟩
    have := hp.1
    refine ⟨_, rfl, _, _, _, rfl, ⟨by omega, by omega⟩, by omega, by omega, ?_⟩
    refine ⟨_, rfl, n, rfl, hn, hp, _, rfl, ?_⟩
    exact iteF q
theorem ok_places_of_roots (T : Txt K mg C_Form C_Ring C_Element) : Def P w K mg base 1 "places_of_roots" ["coefficients", "prime"] (sp_places_of_roots K C_Form C_Ring C_Element) := by
  obtain ⟨f_, fd_, g_, F_⟩ := T.d_places_of_roots
  refine ⟨f_, fd_, g_, F_.kp, F_.binds (ps := ["coefficients", "prime"]) (fun _ _ _ _ _ _ us hl => match us, hl with | [_, _], _ => rfl), ?_⟩
  refine F_.ok sc_places_of_roots (fun vs H Q E h => ?_) (fun cdv A outer s H vs Q E hr h => ?_)
  · first | (obtain ⟨rfl, _⟩ := h; rfl) | (obtain ⟨_, rfl, _⟩ := h; rfl) | (obtain ⟨_, _, rfl, _⟩ := h; rfl) | (obtain ⟨_, _, _, rfl, _⟩ := h; rfl) | (obtain ⟨_, _, _, _, rfl, _⟩ := h; rfl) | (obtain ⟨_, _, _, _, _, rfl, _⟩ := h; rfl) | (obtain ⟨_, _, _, _, _, _, rfl, _⟩ := h; rfl) | (obtain ⟨_, _, _, _, _, _, _, rfl, _⟩ := h; rfl) | (obtain ⟨_, _, _, _, _, _, _, _, rfl, _⟩ := h; rfl) | (obtain ⟨_, _, _, _, _, _, _, _, _, rfl, _⟩ := h; rfl) | (obtain ⟨_, _, _, _, _, _, _, _, _, _, rfl, _⟩ := h; rfl) | (obtain ⟨_, _, _, _, _, _, _, _, _, _, _, rfl, _⟩ := h; rfl) | (obtain ⟨_, _, _, _, _, _, _, _, _, _, _, _, rfl, _⟩ := h; rfl) | (obtain ⟨_, _, _, _, _, _, _, _, _, _, _, _, _, rfl, _⟩ := h; rfl) | (obtain ⟨_, _, _, _, _, _, _, _, _, _, _, _, _, _, rfl, _⟩ := h; rfl) | (obtain ⟨_, _, _, _, _, _, _, _, _, _, _, _, _, _, _, rfl, _⟩ := h; rfl) | (obtain ⟨_, _, _, _, _, _, _, _, _, _, _, _, _, _, _, _, rfl, _⟩ := h; rfl) | (obtain ⟨_, _, _, _, _, _, _, _, _, _, _, _, _, _, _, _, _, rfl, _⟩ := h; rfl) | (obtain ⟨_, _, _, _, _, _, _, _, _, _, _, _, _, _, _, _, _, _, rfl, _⟩ := h; rfl) | (obtain ⟨_, _, _, _, _, _, _, _, _, _, _, _, _, _, _, _, _, _, _, rfl, _⟩ := h; rfl) | (obtain ⟨_, _, _, _, _, _, _, _, _, _, _, _, _, _, _, _, _, _, _, _, rfl, _⟩ := h; rfl) | (obtain ⟨_, _, _, _, _, _, _, _, _, _, _, _, _, _, _, _, _, _, _, _, _, rfl, _⟩ := h; rfl) | (obtain ⟨_, _, _, _, _, _, _, _, _, _, _, _, _, _, _, _, _, _, _, _, _, _, rfl, _⟩ := h; rfl) | (obtain ⟨_, _, _, _, _, _, _, _, _, _, _, _, _, _, _, _, _, _, _, _, _, _, _, rfl, _⟩ := h; rfl)
  · obtain ⟨t, a, b, c, d, p, rfl, ht, p0, p1, q⟩ := h
    obtain ⟨A_END, h_END, i_END⟩ := T.k_END
    obtain ⟨t_GREAT, h_GREAT⟩ := T.x_GREAT
    refine ⟨_, (pss_cons (ps_asg (pe_lc (own := [("number", 7)]) (g := (gName 7)) rfl sc_places_of_roots.nd (pi_tup (pv 0)) (blkOk_by (N := N_places_of_roots) (sc := defScope s_places_of_roots) (by decide +kernel)) (fun _ _ _ _ _ => (pg_name (i := 7) sc_places_of_roots.nd rfl (.inl rfl))) (fun _ _ _ _ _ => pts_nil) (fun _ _ _ _ _ => (pe_op op_mod (pv 7) (pv 1)))) (pg_lst (by rfl) (pgs_cons (pg_name (i := 2) sc_places_of_roots.nd rfl (.inr rfl)) (pgs_cons (pg_name (i := 3) sc_places_of_roots.nd rfl (.inr rfl)) (pgs_cons (pg_name (i := 4) sc_places_of_roots.nd rfl (.inr rfl)) (pgs_cons (pg_name (i := 5) sc_places_of_roots.nd rfl (.inr rfl)) pgs_nil))))))
    (Evl.pss_cut (ps_if (PW.pt (pw_or (pt_cmpR op_lt (pv 1) (pe_glob (v := .int 1000) (by rfl) h_GREAT ⟨_, rfl⟩) (nomark _)) (pw_or1 (pt_not (pt_val (pe_callB (cr_any rfl) (by rfl) T.b_any (by decide +kernel) (pa_cons (pe_lst (pa_cons (pv 2) (pa_cons (pv 3) (pa_cons (pv 4) (pa_cons (pv 5) pa_nil))))) pa_nil)))))))
      (pss_one (ps_setLc (i := 6) (own := [("x", 8)]) (g := (gName 8)) rfl sc_places_of_roots.nd rfl rfl (sw_true rfl rfl rfl (by decide +kernel)) (pi_range1 (by rfl) T.b_range (pa_cons (pv 1) pa_nil)) (blkOk_by (N := N_places_of_roots) (sc := defScope s_places_of_roots) (by decide +kernel)) (fun _ _ _ _ _ => (pg_name (i := 8) sc_places_of_roots.nd rfl (.inl rfl))) (fun _ _ _ _ _ => (pts_one (pt_cmpR op_eq (pe_op op_mod (pe_op op_add (pe_op op_mulW (pe_op op_add (pe_op op_mulW (pe_op op_add (pe_op op_mulW (pv 2) (pv 8)) (pv 3)) (pv 8)) (pv 4)) (pv 8)) (pv 5)) (pv 1)) pe_int (nomark _)))) (fun _ _ _ _ _ => (pe_tup (pa_cons (pv 8) (pa_cons pe_int pa_nil))))))
      pss_never)
    (pss_one (ps_ret (pe_callB cr_sortedPT (by rfl) T.b_sorted (by decide +kernel) (pa_cons (pe_ifExp (pt_cmpR op_eq (pv 2) pe_int (nomark _)) (pe_op op_cat (pv 6) (pe_lst (pa_cons (pe_glob (v := .ref A_END) (by rfl) h_END rfl) pa_nil))) (pv 6)) pa_nil)))))), ?_⟩
    refine ⟨_, rfl, t, rfl, ⟨_, SqT.of ht⟩, ?_⟩
    refine lcT fm0 trivial (SqT.of ht) (fun z => z) (fun i acc _ => acc = (([a % (p : Int), b % (p : Int), c % (p : Int), d % (p : Int)] : List Int).take i).map V.int) (fun _ _ => rfl) (fun D i v acc H' hD hv e hA hlen hp => ?_) (fun D H1 acc hD e hA hp => ?_)
    · obtain ⟨n, hn, rfl⟩ := get_int hv
      have hi : i < 4 := (List.getElem?_eq_some_iff.mp hn).1
      refine ⟨rfl, ?_⟩
      refine ⟨_, rfl, _, rfl, _, _, rfl, rfl, (show (0 : Int) < (p : Int) by omega), ?_⟩
      refine cs_yes fm0 trivial hD e hA hlen (by omega) (Fx.refl trivial) ?_
      show acc ++ [V.int (n % (p : Int))] = _
      rw [hp]
      match i, hn with
      | 0, hn => rw [← Option.some.inj hn]; rfl
      | 1, hn => rw [← Option.some.inj hn]; rfl
      | 2, hn => rw [← Option.some.inj hn]; rfl
      | 3, hn => rw [← Option.some.inj hn]; rfl
    have hp' : acc = ([a % (p : Int), b % (p : Int), c % (p : Int), d % (p : Int)] : List Int).map V.int := hp
    subst hp'
    refine ⟨D, _, rfl, SqL.of hA, rfl, _, _, rfl, _, _, rfl, _, _, rfl, _, _, rfl, rfl, ?_⟩
    have bm : ∀ z : Int, B 10 (z % (p : Int)) := fun z => by
      have h1 := Int.emod_nonneg z (show (p : Int) ≠ 0 by omega)
      have h2 := Int.emod_lt_of_pos z (show (0 : Int) < (p : Int) by omega)
      exact ⟨by show _ < 1024; omega, by decide⟩
    refine ⟨fun σ H2 => ∃ (l : Addr) (xs : List V), σ = [some (.ref t), some (.int (p : Int)), some (.int (a % (p : Int))), some (.int (b % (p : Int))), some (.int (c % (p : Int))), some (.int (d % (p : Int))), some (.ref l), none, none] ∧ Ex0 H H2 ∧ H2 l = some (.lst xs) ∧ PrT K H2 xs (((List.range p).filter fun (x : Nat) => rootB a b c d p x 1).map fun (x : Nat) => ((x : Int), (1 : Int))), ?_, ?_⟩
    · refine ⟨_, rfl, _, _, rfl, rfl, _, rfl, dT (by show (p : Int) < 1000; omega) ?_⟩
      refine ⟨_, rfl, _, rfl, by omega, by omega, ?_⟩
      refine lcR fm0 trivial (fun i acc H' => PrT K H' acc (((List.range i).filter fun (x : Nat) => rootB a b c d p x 1).map fun (x : Nat) => ((x : Int), (1 : Int)))) (fun _ _ => .nil) (fun D2 i acc H2 hD2 hi e2 hA2 hlen hp => ?_) (fun D2 H2 acc hD2 e2 hA2 hp => ?_)
      · have hi' : i < p := by simpa using hi
        have bx : B 10 (i : Int) := ⟨by show _ < 1024; omega, by decide⟩
        have s1 := B.add (B.mul (bm a) bx) (bm b)
        have s2 := B.add (B.mul s1 bx) (bm c)
        refine ⟨rfl, ?_⟩
        rw [show (0 : Int) + (i : Int) = (i : Int) by omega]
        refine ⟨_, rfl, _, rfl, _, _, rfl, rfl, mulB (bm a) bx (by decide), _, rfl, _, _, rfl, rfl, _, rfl, _, _, rfl, rfl, mulB s1 bx (by decide), _, rfl, _, _, rfl, rfl, _, rfl, _, _, rfl, rfl, mulB s2 bx (by decide), _, rfl, _, _, rfl, rfl, _, rfl, _, _, rfl, rfl, (show (0 : Int) < (p : Int) by omega), rfl, _, rfl, ?_⟩
        have e1 : decide (V.int ((((a % (p : Int) * (i : Int) + b % (p : Int)) * (i : Int) + c % (p : Int)) * (i : Int) + d % (p : Int)) % (p : Int)) = V.int 0) = rootB a b c d p i 1 := by
          rw [horner]
          exact decide_eq_decide.mpr ⟨fun z => V.int.inj z, fun z => congrArg V.int z⟩
        show if decide (V.int ((((a % (p : Int) * (i : Int) + b % (p : Int)) * (i : Int) + c % (p : Int)) * (i : Int) + d % (p : Int)) % (p : Int)) = V.int 0) = true then _ else _
        rw [e1]
        refine iteB (fun hk => ?_) (fun hk => ?_)
        · refine ⟨_, rfl, sl2, fun t2 n2 => ?_⟩
          have f2 := Ex0.new (o := .tup [.int (i : Int), .int 1]) n2
          refine cs_yes fm0 trivial hD2 e2 hA2 hlen (by omega) f2 ?_
          have hA3 := Ex0.ap f2 hA2
          rw [List.range_succ, List.filter_append, List.map_append, List.filter_cons, if_pos hk]
          exact ((hp.ex f2).upd hA3).snoc (sqT_upd hA3 (SqT.of upd_same))
        · refine cs_no fm0 trivial hD2 e2 hA2 hlen (Fx.refl trivial) ?_
          rw [List.range_succ, List.filter_append, List.map_append, List.filter_cons, if_neg (by rw [hk]; decide)]
          simpa using hp
      · have hn : (p : Int).toNat = p := by omega
        rw [hn] at hp
        exact ⟨D2, acc, rfl, Fx.trans e e2, hA2, hp⟩
    rintro σ H2 ⟨l, xs, rfl, e2, hl, hP⟩
    have len : (((List.range p).filter fun (x : Nat) => rootB a b c d p x 1).map fun (x : Nat) => ((x : Int), (1 : Int))).length ≤ 1000 := by
      rw [List.length_map]
      refine Nat.le_trans (List.length_filter_le _ _) ?_
      rw [List.length_range]
      omega
    refine ⟨_, rfl, rfl, _, rfl, iteE (fun h => ?_) (fun h => ?_)⟩
    · refine ⟨_, rfl, sl1, fun l1 n1 => ?_⟩
      have f1 := Ex0.new (o := .lst [.ref A_END]) n1
      have hP1 := hP.ex f1
      refine ⟨l, l1, xs, _, rfl, rfl, Ex0.ap f1 hl, upd_same, by rw [hP.len, sizeLine_eq]; show _ + 1 ≤ _; omega, fun l2 n2 => ?_⟩
      have f2 := Ex0.new (o := .lst (xs ++ [.ref A_END])) n2
      refine ⟨l2, _, _, rfl, SqL.of upd_same, (hP1.ex f2).snoc (i_END _), fun ys qs l3 pm srt hy n3 => ?_⟩
      have f3 := Ex0.new (o := .lst ys) n3
      refine q l3 _ ys qs (e2.trans (f1.trans (f2.trans f3))) (Fx.free (e2.trans (f1.trans f2)) (fun z => z) n3) upd_same (hy.ex f3) ?_ srt
      unfold rootsL
      rw [if_pos h]
      exact pm
    · refine ⟨_, rfl, l, xs, _, rfl, SqL.of hl, hP, fun ys qs l3 pm srt hy n3 => ?_⟩
      have f3 := Ex0.new (o := .lst ys) n3
      refine q l3 _ ys qs (e2.trans f3) (Fx.free e2 (fun z => z) n3) upd_same (hy.ex f3) ?_ srt
      unfold rootsL
      rw [if_neg h, List.append_nil]
      exact pm
theorem ok_power_at (T : Txt K mg C_Form C_Ring C_Element) : Def P w K mg base 1 "power_at" ["base", "exponent", "prime"] (sp_power_at K C_Form C_Ring C_Element) := by
  obtain ⟨f_, fd_, g_, F_⟩ := T.d_power_at
  refine ⟨f_, fd_, g_, F_.kp, F_.binds (ps := ["base", "exponent", "prime"]) (fun _ _ _ _ _ _ us hl => match us, hl with | [_, _, _], _ => rfl), ?_⟩
  refine F_.ok sc_power_at (fun vs H Q E h => ?_) (fun cdv A outer s H vs Q E hr h => ?_)
  · first | (obtain ⟨rfl, _⟩ := h; rfl) | (obtain ⟨_, rfl, _⟩ := h; rfl) | (obtain ⟨_, _, rfl, _⟩ := h; rfl) | (obtain ⟨_, _, _, rfl, _⟩ := h; rfl) | (obtain ⟨_, _, _, _, rfl, _⟩ := h; rfl) | (obtain ⟨_, _, _, _, _, rfl, _⟩ := h; rfl) | (obtain ⟨_, _, _, _, _, _, rfl, _⟩ := h; rfl) | (obtain ⟨_, _, _, _, _, _, _, rfl, _⟩ := h; rfl) | (obtain ⟨_, _, _, _, _, _, _, _, rfl, _⟩ := h; rfl) | (obtain ⟨_, _, _, _, _, _, _, _, _, rfl, _⟩ := h; rfl) | (obtain ⟨_, _, _, _, _, _, _, _, _, _, rfl, _⟩ := h; rfl) | (obtain ⟨_, _, _, _, _, _, _, _, _, _, _, rfl, _⟩ := h; rfl) | (obtain ⟨_, _, _, _, _, _, _, _, _, _, _, _, rfl, _⟩ := h; rfl) | (obtain ⟨_, _, _, _, _, _, _, _, _, _, _, _, _, rfl, _⟩ := h; rfl) | (obtain ⟨_, _, _, _, _, _, _, _, _, _, _, _, _, _, rfl, _⟩ := h; rfl) | (obtain ⟨_, _, _, _, _, _, _, _, _, _, _, _, _, _, _, rfl, _⟩ := h; rfl) | (obtain ⟨_, _, _, _, _, _, _, _, _, _, _, _, _, _, _, _, rfl, _⟩ := h; rfl) | (obtain ⟨_, _, _, _, _, _, _, _, _, _, _, _, _, _, _, _, _, rfl, _⟩ := h; rfl) | (obtain ⟨_, _, _, _, _, _, _, _, _, _, _, _, _, _, _, _, _, _, rfl, _⟩ := h; rfl) | (obtain ⟨_, _, _, _, _, _, _, _, _, _, _, _, _, _, _, _, _, _, _, rfl, _⟩ := h; rfl) | (obtain ⟨_, _, _, _, _, _, _, _, _, _, _, _, _, _, _, _, _, _, _, _, rfl, _⟩ := h; rfl) | (obtain ⟨_, _, _, _, _, _, _, _, _, _, _, _, _, _, _, _, _, _, _, _, _, rfl, _⟩ := h; rfl) | (obtain ⟨_, _, _, _, _, _, _, _, _, _, _, _, _, _, _, _, _, _, _, _, _, _, rfl, _⟩ := h; rfl) | (obtain ⟨_, _, _, _, _, _, _, _, _, _, _, _, _, _, _, _, _, _, _, _, _, _, _, rfl, _⟩ := h; rfl)
  · obtain ⟨a, e, n, rfl, n2, n1, a1, e1, q⟩ := h
    refine ⟨_, (pss_cons (ps_set (i := 3) sc_power_at.nd rfl (.inl rfl) pe_int)
    (pss_cons (ps_set (i := 4) sc_power_at.nd rfl (.inl rfl) (pe_op op_mod (pv 0) (pv 2)))
    (pss_cons (ps_set (i := 5) sc_power_at.nd rfl (.inl rfl) (pv 1))
    (pss_cons (ps_while PassesOwn.never (pt_cmpR op_gt (pv 5) pe_int (nomark _))
      (Evl.pss_cut (ps_if (pt_cmpR op_eq (pe_op op_odd (pv 5) pe_int) pe_int (nomark _))
      (pss_one (ps_set (i := 3) sc_power_at.nd rfl (.inl rfl) (pe_op op_mod (pe_op op_mul (pv 3) (pv 4)) (pv 2))))
      pss_nil)
    (pss_cons (ps_set (i := 4) sc_power_at.nd rfl (.inl rfl) (pe_op op_mod (pe_op op_mul (pv 4) (pv 4)) (pv 2)))
    (pss_one (ps_set (i := 5) sc_power_at.nd rfl (.inl rfl) (pe_op op_halfN (pv 5) pe_int))))))
    (pss_one (ps_ret (pv 3))))))), ?_⟩
    refine ⟨_, rfl, _, rfl, (a : Int), (n : Int), rfl, rfl, (show (0 : Int) < n by omega), ?_⟩
    refine ⟨_, rfl, ?_⟩
    have m0 : (a : Int) % (n : Int) = ((a % n : Nat) : Int) := (Int.natCast_emod a n).symm
    refine ⟨fun m σ H' => ∃ r s l : Nat, σ = [some (.int (a : Int)), some (.int (e : Int)), some (.int (n : Int)), some (.int (r : Int)), some (.int (s : Int)), some (.int (l : Int))] ∧ H = H' ∧ r < n ∧ s < n ∧ l ≤ e ∧ r * s ^ l % n = a ^ e % n ∧ m = l, ⟨_, 1, a % n, e, by rw [← m0]; rfl, rfl, by omega, Nat.mod_lt _ (by omega), Nat.le_refl _, ?_, rfl⟩, ?_⟩
    · rw [Nat.one_mul, ← Nat.pow_mod]
    rintro m σ H' ⟨r, s, l, rfl, rfl, r1, s1, l1, hh, rfl⟩
    refine ⟨_, rfl, _, _, rfl, rfl, _, rfl, iteD (fun g => ?_) (fun g => ?_)⟩
    · have g' : 0 < m := by omega
      refine ⟨fun σ' H'' => ∃ r s l : Nat, σ' = [some (.int (a : Int)), some (.int (e : Int)), some (.int (n : Int)), some (.int (r : Int)), some (.int (s : Int)), some (.int (l : Int))] ∧ H = H'' ∧ r < n ∧ s < n ∧ l ≤ e ∧ r * s ^ l % n = a ^ e % n ∧ l < m, fun σ' H'' ⟨r, s, l, b1, b2, b3, b4, b5, b6, b7⟩ => ⟨l, b7, r, s, l, b1, b2, b3, b4, b5, b6, rfl⟩, ?_⟩
      have sq : s ^ (2 * (m / 2)) = (s * s) ^ (m / 2) := by rw [Nat.pow_mul, Nat.pow_two]
      refine ⟨fun σ' H'' => ∃ r' : Nat, σ' = [some (.int (a : Int)), some (.int (e : Int)), some (.int (n : Int)), some (.int (r' : Int)), some (.int (s : Int)), some (.int (m : Int))] ∧ H = H'' ∧ r' < n ∧ r' * (s * s) ^ (m / 2) % n = a ^ e % n, ?_, ?_⟩
      · refine ⟨_, rfl, m, rfl, rfl, rfl, _, rfl, iteE (fun z => ?_) (fun z => ?_)⟩
        · have z' : m % 2 = 1 := by omega
          have mr : ((r : Int) * (s : Int)) % (n : Int) = ((r * s % n : Nat) : Int) := by rw [← Int.natCast_mul, ← Int.natCast_emod]
          refine ⟨_, rfl, _, rfl, _, _, rfl, rfl, .inl ⟨by omega, by omega⟩, _, rfl, (r : Int) * (s : Int), (n : Int), rfl, rfl, (show (0 : Int) < n by omega), ?_⟩
          refine ⟨r * s % n, by rw [← mr]; rfl, rfl, Nat.mod_lt _ (by omega), ?_⟩
          rw [← hh]
          conv => rhs; rw [show m = 2 * (m / 2) + 1 by omega, Nat.pow_succ, sq, Nat.mul_comm ((s * s) ^ (m / 2)) s, ← Nat.mul_assoc]
          rw [Nat.mul_mod, Nat.mod_mod, ← Nat.mul_mod]
        · refine ⟨r, rfl, rfl, r1, ?_⟩
          rw [← hh]
          conv => rhs; rw [show m = 2 * (m / 2) by omega, sq]
      rintro σ' H'' ⟨r', rfl, rfl, r1', hh'⟩
      have ms : ((s : Int) * (s : Int)) % (n : Int) = ((s * s % n : Nat) : Int) := by rw [← Int.natCast_mul, ← Int.natCast_emod]
      refine ⟨_, rfl, _, rfl, _, _, rfl, rfl, .inl ⟨by omega, by omega⟩, _, rfl, (s : Int) * (s : Int), (n : Int), rfl, rfl, (show (0 : Int) < n by omega), ?_⟩
      refine ⟨_, rfl, m, rfl, rfl, ?_⟩
      refine ⟨r', s * s % n, m / 2, by rw [← ms]; rfl, rfl, r1', Nat.mod_lt _ (by omega), by omega, ?_, by omega⟩
      rw [← hh', Nat.mul_mod, ← Nat.pow_mod, ← Nat.mul_mod]
    · have : m = 0 := by omega
      subst this
      rw [Nat.pow_zero, Nat.mul_one, Nat.mod_eq_of_lt r1] at hh
      refine ⟨_, rfl, ?_⟩
      rw [hh]
      exact q
theorem ok_is_full (T : Txt K mg C_Form C_Ring C_Element) : Def P w K mg base 2 "is_full" ["coefficients", "prime"] (sp_is_full K C_Form C_Ring C_Element) := by
  obtain ⟨f_, fd_, g_, F_⟩ := T.d_is_full
  obtain ⟨f_shared_divisor, fd_shared_divisor, g_shared_divisor, k_shared_divisor, b_shared_divisor, G_shared_divisor⟩ := (ok_shared_divisor (P := P) (w := w) (base := base) T)
  refine ⟨f_, fd_, g_, F_.kp, F_.binds (ps := ["coefficients", "prime"]) (fun _ _ _ _ _ _ us hl => match us, hl with | [_, _], _ => rfl), ?_⟩
  refine F_.ok sc_is_full (fun vs H Q E h => ?_) (fun cdv A outer s H vs Q E hr h => ?_)
  · first | (obtain ⟨rfl, _⟩ := h; rfl) | (obtain ⟨_, rfl, _⟩ := h; rfl) | (obtain ⟨_, _, rfl, _⟩ := h; rfl) | (obtain ⟨_, _, _, rfl, _⟩ := h; rfl) | (obtain ⟨_, _, _, _, rfl, _⟩ := h; rfl) | (obtain ⟨_, _, _, _, _, rfl, _⟩ := h; rfl) | (obtain ⟨_, _, _, _, _, _, rfl, _⟩ := h; rfl) | (obtain ⟨_, _, _, _, _, _, _, rfl, _⟩ := h; rfl) | (obtain ⟨_, _, _, _, _, _, _, _, rfl, _⟩ := h; rfl) | (obtain ⟨_, _, _, _, _, _, _, _, _, rfl, _⟩ := h; rfl) | (obtain ⟨_, _, _, _, _, _, _, _, _, _, rfl, _⟩ := h; rfl) | (obtain ⟨_, _, _, _, _, _, _, _, _, _, _, rfl, _⟩ := h; rfl) | (obtain ⟨_, _, _, _, _, _, _, _, _, _, _, _, rfl, _⟩ := h; rfl) | (obtain ⟨_, _, _, _, _, _, _, _, _, _, _, _, _, rfl, _⟩ := h; rfl) | (obtain ⟨_, _, _, _, _, _, _, _, _, _, _, _, _, _, rfl, _⟩ := h; rfl) | (obtain ⟨_, _, _, _, _, _, _, _, _, _, _, _, _, _, _, rfl, _⟩ := h; rfl) | (obtain ⟨_, _, _, _, _, _, _, _, _, _, _, _, _, _, _, _, rfl, _⟩ := h; rfl) | (obtain ⟨_, _, _, _, _, _, _, _, _, _, _, _, _, _, _, _, _, rfl, _⟩ := h; rfl) | (obtain ⟨_, _, _, _, _, _, _, _, _, _, _, _, _, _, _, _, _, _, rfl, _⟩ := h; rfl) | (obtain ⟨_, _, _, _, _, _, _, _, _, _, _, _, _, _, _, _, _, _, _, rfl, _⟩ := h; rfl) | (obtain ⟨_, _, _, _, _, _, _, _, _, _, _, _, _, _, _, _, _, _, _, _, rfl, _⟩ := h; rfl) | (obtain ⟨_, _, _, _, _, _, _, _, _, _, _, _, _, _, _, _, _, _, _, _, _, rfl, _⟩ := h; rfl) | (obtain ⟨_, _, _, _, _, _, _, _, _, _, _, _, _, _, _, _, _, _, _, _, _, _, rfl, _⟩ := h; rfl) | (obtain ⟨_, _, _, _, _, _, _, _, _, _, _, _, _, _, _, _, _, _, _, _, _, _, _, rfl, _⟩ := h; rfl)
  · obtain ⟨t, ns, p, rfl, ht, p0, q⟩ := h
    refine ⟨_, (pss_one (ps_ret (pe_cmpR op_eq (pe_op op_mod (pe_call G_shared_divisor (hr.mono (by decide)) (by rfl) g_shared_divisor k_shared_divisor b_shared_divisor .nil pass0 (pa_cons (pv 0) pa_nil)) (pv 1)) pe_int (nomark _)))), ?_⟩
    refine ⟨_, rfl, t, ns, rfl, ht.q, _, rfl, _, _, rfl, rfl, p0, rfl, ?_⟩
    have e : decide (((gcdL ns : Nat) : Int) % p = 0) = decide (V.int (((gcdL ns : Nat) : Int) % p) = V.int 0) := decide_eq_decide.mpr ⟨fun z => congrArg V.int z, fun z => V.int.inj z⟩
    rw [e] at q
    exact q
end
end RG
namespace KindM
open MapM (f3 rootsG)
def zI (z : Nat × Nat) : Int × Int := ((z.1 : Int), (z.2 : Int))
theorem valN_lt {p x : Nat} (hp : 0 < p) (row : List Nat) : valN p x row < p := by
  have : ∀ (row : List Nat) (r : Nat), r < p → row.foldl (fun r n => (r * x + n) % p) r < p := by
    intro row
    induction row with
    | nil => exact fun r h => h
    | cons n row ih => exact fun r h => ih _ (Nat.mod_lt _ hp)
  exact this row 0 hp
theorem valN_take {p x i n : Nat} {row : List Nat} (h : row[i]? = some n) : valN p x (row.take (i + 1)) = (valN p x (row.take i) * x + n) % p := by
  rw [List.take_add_one, h]
  unfold valN
  rw [List.foldl_append]
  rfl
theorem lessG_lt {p x : Nat} (hp : 0 < p) : ∀ (row : List Nat) (last : Nat), ∀ n ∈ lessG p x last row, n < p
  | [], _ => fun n h => by cases h
  | [_], _ => fun n h => by cases h
  | n :: m :: r, last => fun k h => by
    rcases List.mem_cons.mp h with rfl | h
    · exact Nat.mod_lt _ hp
    · exact lessG_lt hp (m :: r) _ k h
theorem lessG_gen (p x : Nat) : ∀ (row : List Nat) (last : Nat), lessG p x last row = (List.range (row.length - 1)).map fun j => (row.take (j + 1)).foldl (fun r n => (r * x + n) % p) last
  | [], _ => rfl
  | [_], _ => rfl
  | n :: m :: r, last => by
    show (last * x + n) % p :: lessG p x ((last * x + n) % p) (m :: r) = _
    rw [lessG_gen p x (m :: r), show (n :: m :: r).length - 1 = (m :: r).length - 1 + 1 from rfl, List.range_succ_eq_map, List.map_cons, List.map_map]
    rfl
theorem lessG_eq (p x : Nat) (row : List Nat) : lessG p x 0 row = (List.range (row.length - 1)).map fun j => valN p x (row.take (j + 1)) := lessG_gen p x row 0
theorem ahead_drop : ∀ {row rest : List Nat}, ahead row = some rest → ∃ k, row.drop k = rest ∧ k ≤ row.length
  | [], _, h => by cases h
  | 0 :: r, rest, h => by
    obtain ⟨k, h1, h2⟩ := ahead_drop (row := r) (rest := rest) h
    exact ⟨k + 1, h1, by rw [List.length_cons]; omega⟩
  | (n + 1) :: r, rest, h => ⟨0, Option.some.inj h, Nat.zero_le _⟩
theorem ahead_zero {r : List Nat} : ahead (0 :: r) = ahead r := rfl
theorem ahead_pos {n : Nat} {r : List Nat} (h : n ≠ 0) : ahead (n :: r) = some (n :: r) := by
  cases n with
  | zero => exact absurd rfl h
  | succ n => rfl
theorem strip_zero {p x f : Nat} {row r : List Nat} (h : strip p x f row = some r) (hv : valN p x row = 0) : ∃ g, f = g + 1 ∧ 1 < row.length ∧ strip p x g (lessN p x row) = some r := by
  cases f with
  | zero => cases h
  | succ g =>
    unfold strip at h
    rw [if_pos hv] at h
    by_cases hl : row.length ≤ 1
    · rw [if_pos hl] at h
      cases h
    · rw [if_neg hl] at h
      exact ⟨g, rfl, by omega, h⟩
theorem strip_pos {p x f : Nat} {row r : List Nat} (h : strip p x f row = some r) (hv : valN p x row ≠ 0) : row = r := by
  cases f with
  | zero => cases h
  | succ g =>
    unfold strip at h
    rw [if_neg hv] at h
    exact Option.some.inj h
theorem go_end {p x : Nat} {r : List (Nat × Nat)} {row rest : List Nat} (h : go p ((x, 0) :: r) row = some rest) : ∃ row', ahead row = some row' ∧ go p r row' = some rest := by
  have h : (ahead row).bind (go p r) = some rest := h
  cases e : ahead row with
  | none => rw [e] at h; cases h
  | some row' => rw [e] at h; exact ⟨row', rfl, h⟩
theorem go_one {p x : Nat} {r : List (Nat × Nat)} {row rest : List Nat} (h : go p ((x, 1) :: r) row = some rest) : ∃ row', strip p x 5 row = some row' ∧ go p r row' = some rest := by
  have h : (strip p x 5 row).bind (go p r) = some rest := h
  cases e : strip p x 5 row with
  | none => rw [e] at h; cases h
  | some row' => rw [e] at h; exact ⟨row', rfl, h⟩
def okS (p : Nat) (row : List Nat) : Bool := decide ((sorted p row).Pairwise fun z w => z.1 < w.1 ∨ (z.1 = w.1 ∧ z.2 < w.2)) && (sorted p row).all (fun z => (places p row).contains z) && (places p row).all (fun z => (sorted p row).contains z) && decide ((sorted p row).length = (places p row).length)
theorem okS2 : ∀ row ∈ all4 2, okS 2 row = true := by decide +kernel
theorem okS3 : ∀ row ∈ all4 3, okS 3 row = true := by decide +kernel
theorem root_iff {p a b c d x : Nat} (hp : 0 < p) : rootN p x [a, b, c, d] = decide (f3 a b c d x % (p : Int) = 0) := by
  unfold rootN
  refine decide_eq_decide.mpr ?_
  have e : valN p x [a, b, c, d] = (((a * x + b) * x + c) * x + d) % p := by
    show ((((0 * x + a) % p * x + b) % p * x + c) % p * x + d) % p = _
    simp only [Nat.zero_mul, Nat.zero_add, Nat.add_mod, Nat.mul_mod, Nat.mod_mod]
  rw [e]
  unfold f3
  constructor
  · intro h
    have := congrArg (fun n : Nat => (n : Int)) h
    simpa [Int.natCast_emod, Int.natCast_add, Int.natCast_mul] using this
  · intro h
    have g : (((((a * x + b) * x + c) * x + d) % p : Nat) : Int) = 0 := by
      rw [Int.natCast_emod]
      simpa [Int.natCast_add, Int.natCast_mul] using h
    exact Int.ofNat.inj g
theorem places_eq {p a b c d : Nat} (hp : 0 < p) (ha : a < p) : (places p [a, b, c, d]).map zI = rootsG a b c d p := by
  unfold places rootsG
  rw [List.map_append, List.map_map]
  congr 1
  · rw [show (fun x => rootN p x [a, b, c, d]) = fun (x : Nat) => decide (f3 a b c d x % (p : Int) = 0) from funext fun x => root_iff hp]
    rfl
  · by_cases h : a = 0
    · subst h
      rw [if_pos (show ([0, b, c, d] : List Nat).head? = some 0 from rfl), if_pos (show ((0 : Nat) : Int) % (p : Int) = 0 from Int.zero_emod _)]
      rfl
    · rw [if_neg (show ¬ ([a, b, c, d].head? = some 0) from fun z => h (Option.some.inj z)), if_neg]
      · rfl
      · rw [Int.emod_eq_of_lt (by omega) (by omega)]
        omega
theorem okS_all {p a b c d : Nat} (hp : p = 2 ∨ p = 3) (ha : a < p) (hb : b < p) (hc : c < p) (hd : d < p) : okS p [a, b, c, d] = true := by
  rcases hp with rfl | rfl
  · exact okS2 _ (mem4 ha hb hc hd)
  · exact okS3 _ (mem4 ha hb hc hd)
theorem fine_all {p a b c d : Nat} (hp : p = 2 ∨ p = 3) (ha : a < p) (hb : b < p) (hc : c < p) (hd : d < p) (h0 : ¬ (a = 0 ∧ b = 0 ∧ c = 0 ∧ d = 0)) : fine p [a, b, c, d] = true := by
  have ne : [a, b, c, d] ≠ [0, 0, 0, 0] := fun e => h0 (by
    injection e with e1 e
    injection e with e2 e
    injection e with e3 e
    injection e with e4 e
    exact ⟨e1, e2, e3, e4⟩)
  rcases hp with rfl | rfl
  · exact fine2 _ (mem4 ha hb hc hd) ne
  · exact fine3 _ (mem4 ha hb hc hd) ne
theorem sorted_eq {p a b c d : Nat} {qs : List (Int × Int)} (hp : p = 2 ∨ p = 3) (ha : a < p) (hb : b < p) (hc : c < p) (hd : d < p) (pm : qs.Perm (rootsG a b c d p)) (srt : qs.Pairwise Fr.lexP) : qs = (sorted p [a, b, c, d]).map zI := by
  have p0 : 0 < p := by omega
  have h := okS_all hp ha hb hc hd
  unfold okS at h
  rw [Bool.and_eq_true, Bool.and_eq_true, Bool.and_eq_true] at h
  obtain ⟨⟨⟨h1, h2⟩, h3⟩, _⟩ := h
  have h1 := of_decide_eq_true h1
  have pw : ((sorted p [a, b, c, d]).map zI).Pairwise MapM.lexQ := by
    rw [List.pairwise_map]
    refine h1.imp fun {z w} h => ?_
    rcases h with h | ⟨h, g⟩
    · exact .inl (by show (z.1 : Int) < (w.1 : Int); omega)
    · exact .inr ⟨by show (z.1 : Int) = (w.1 : Int); omega, by show (z.2 : Int) < (w.2 : Int); omega⟩
  refine Fr.eq_sorted srt (pm.nodup_iff.mpr (MapM.roots_nodup _ _ _ _ _)) (pw.imp fun {z w} h => ?_) (pw.imp MapM.lexQ_ne) fun z => ?_
  · rcases h with h | ⟨h, g⟩
    · exact .inl h
    · exact .inr ⟨h, by omega⟩
  · rw [pm.mem_iff, ← places_eq p0 ha, List.mem_map, List.mem_map]
    constructor
    · rintro ⟨w, hw, e⟩
      have := List.all_eq_true.mp h3 w hw
      exact ⟨w, by simpa using this, e⟩
    · rintro ⟨w, hw, e⟩
      have := List.all_eq_true.mp h2 w hw
      exact ⟨w, by simpa using this, e⟩
theorem sorted_mem {p a b c d : Nat} {z : Nat × Nat} (hp : p = 2 ∨ p = 3) (ha : a < p) (hb : b < p) (hc : c < p) (hd : d < p) (h : z ∈ sorted p [a, b, c, d]) : (z.2 = 1 ∧ z.1 < p) ∨ z = (1, 0) := by
  have g := okS_all hp ha hb hc hd
  unfold okS at g
  rw [Bool.and_eq_true, Bool.and_eq_true, Bool.and_eq_true] at g
  have := List.all_eq_true.mp g.1.1.2 z h
  have h : z ∈ places p [a, b, c, d] := by simpa using this
  unfold places at h
  rw [List.mem_append, List.mem_map] at h
  rcases h with ⟨x, hx, rfl⟩ | h
  · exact .inl ⟨rfl, List.mem_range.mp (List.mem_filter.mp hx).1⟩
  · by_cases e : [a, b, c, d].head? = some 0
    · rw [if_pos e] at h
      exact .inr (List.mem_singleton.mp h)
    · rw [if_neg e] at h
      cases h
theorem fine_out {p a b c d : Nat} (hp : p = 2 ∨ p = 3) (ha : a < p) (hb : b < p) (hc : c < p) (hd : d < p) (h0 : ¬ (a = 0 ∧ b = 0 ∧ c = 0 ∧ d = 0)) : ∃ rest, go p (sorted p [a, b, c, d]) [a, b, c, d] = some rest ∧ (1 < rest.length ∨ (1 ≤ (sorted p [a, b, c, d]).length ∧ (sorted p [a, b, c, d]).length ≤ 3)) := by
  have h := fine_all hp ha hb hc hd h0
  have g := okS_all hp ha hb hc hd
  unfold okS at g
  rw [Bool.and_eq_true, Bool.and_eq_true, Bool.and_eq_true] at g
  have g := of_decide_eq_true g.2
  unfold fine at h
  cases e : go p (sorted p [a, b, c, d]) [a, b, c, d] with
  | none => rw [e] at h; cases h
  | some rest =>
    rw [e] at h
    refine ⟨rest, rfl, ?_⟩
    simp only [Bool.or_eq_true, Bool.and_eq_true, decide_eq_true_iff] at h
    rw [g]
    exact h
end KindM
namespace RG
set_option pp.maxSteps 3000
open PySem PySem.Spec PyProof.Rows L2 Fr
open K05M (fv fl2 fl3 fdisc)
section
def RwN (H : Hp) (l : Addr) (row : List Nat) : Prop := H l = some (.lst (row.map fun (n : Nat) => V.int (n : Int)))
def Full (a b c d p : Int) : Prop := p ∣ a ∧ p ∣ b ∧ p ∣ c ∧ p ∣ d
def sp_form_discriminant (_ : PySem.W.Frag) (C C_R C_E : Addr) : Sp := fun vs H Q _ => ∃ (t : Addr) (a b c d : Int), vs = [.ref t] ∧ Ti H t [a, b, c, d] ∧ B 1000 a ∧ B 1000 b ∧ B 1000 c ∧ B 1000 d ∧ Q (.int (fdisc a b c d)) H
def sp_form_hessian (_ : PySem.W.Frag) (C C_R C_E : Addr) : Sp := fun vs H Q _ => ∃ (t : Addr) (a b c d : Int), vs = [.ref t] ∧ Ti H t [a, b, c, d] ∧ B 1000 a ∧ B 1000 b ∧ B 1000 c ∧ B 1000 d ∧ ∀ (x : Addr) (ns : List Int) (H' : Hp), ns.length = 3 → Ex0 H H' → Ti H' x ns → Q (.ref x) H'
def sp_value_at (_ : PySem.W.Frag) (C C_R C_E : Addr) : Sp := fun vs H Q _ => ∃ (l : Addr) (row : List Nat) (x p : Nat), vs = [.ref l, .int (x : Int), .int (p : Int)] ∧ RwN H l row ∧ 0 < p ∧ p < 10 ∧ x < 10 ∧ (∀ n ∈ row, n < 10) ∧ row.length ≤ 4 ∧ Q (.int ((KindM.valN p x row : Nat) : Int)) H
def sp_less_root (_ : PySem.W.Frag) (C C_R C_E : Addr) : Sp := fun vs H Q _ => ∃ (l : Addr) (row : List Nat) (x p : Nat), vs = [.ref l, .int (x : Int), .int (p : Int)] ∧ RwN H l row ∧ 0 < p ∧ p < 10 ∧ x < 10 ∧ (∀ n ∈ row, n < 10) ∧ 1 ≤ row.length ∧ row.length ≤ 4 ∧ ∀ r H', Ex0 H H' → H r = none → RwN H' r (KindM.lessN p x row) → Q (.ref r) H'
def sp_times_at_end (_ : PySem.W.Frag) (C C_R C_E : Addr) : Sp := fun vs H Q _ => ∃ (l : Addr) (row rest : List Nat), vs = [.ref l] ∧ RwN H l row ∧ KindM.ahead row = some rest ∧ row.length ≤ 4 ∧ ∀ k : Nat, row.drop k = rest → k ≤ row.length → Q (.int (k : Int)) H
def sp_root_times (_ : PySem.W.Frag) (C C_R C_E : Addr) : Sp := fun vs H Q _ => ∃ (t : Addr) (a b c d p : Nat), vs = [.ref t, .int (p : Int)] ∧ Ti H t [(a : Int), (b : Int), (c : Int), (d : Int)] ∧ (p = 2 ∨ p = 3) ∧ a < p ∧ b < p ∧ c < p ∧ d < p ∧ ¬ (a = 0 ∧ b = 0 ∧ c = 0 ∧ d = 0) ∧ ∀ (x l1 l2 : Addr) (xs : List V) (rest : List Nat) (H' : Hp), Ex0 H H' → H' x = some (.tup [.ref l1, .ref l2]) → H' l1 = some (.lst xs) → RwN H' l2 rest → rest.length ≤ 4 → xs.length ≤ 10 → (1 < rest.length ∨ (1 ≤ xs.length ∧ xs.length ≤ 3)) → Q (.ref x) H'
def sp_kind_by_roots (_ : PySem.W.Frag) (C C_R C_E : Addr) : Sp := fun vs H Q _ => ∃ (t : Addr) (a b c d p : Nat), vs = [.ref t, .int (p : Int)] ∧ Ti H t [(a : Int), (b : Int), (c : Int), (d : Int)] ∧ (p = 2 ∨ p = 3) ∧ a < p ∧ b < p ∧ c < p ∧ d < p ∧ ¬ (a = 0 ∧ b = 0 ∧ c = 0 ∧ d = 0) ∧ ∀ (s : Str) H', s ≠ "all" → Ex0 H H' → Q (.str s) H'
def sp_kind_of (_ : PySem.W.Frag) (C C_R C_E : Addr) : Sp := fun vs H Q _ => ∃ (t : Addr) (a b c d : Int) (p : Nat), vs = [.ref t, .int (p : Int)] ∧ Ti H t [a, b, c, d] ∧ Pr p ∧ p < 1000 ∧ ∀ (s : Str) H', (s = "all" ↔ Full a b c d p) → Ex0 H H' → Q (.str s) H'
def sp_check_both (_ : PySem.W.Frag) (C C_R C_E : Addr) : Sp := fun vs H Q _ => ∃ (x : Addr) (ns : List Int) (p : Nat), vs = [.ref x, .int (p : Int)] ∧ FormAt C H x ns ∧ Pr p ∧ p < 1000 ∧ Q .non H
def sp_map_of (K : PySem.W.Frag) (C C_R C_E : Addr) : Sp := fun vs H Q _ => ∃ (t z : Addr) (a b c d x y p : Int), vs = [.ref t, .int p, .ref z] ∧ Ti H t [a, b, c, d] ∧ SqT K H z [.int x, .int y] ∧ 0 < p ∧ p < 1000 ∧ B 900 a ∧ B 900 b ∧ B 900 c ∧ B 900 d ∧ Plc p x y ∧ ∀ u H', Ex0 H H' → H' u = some (.tup [.int (MapM.mp a b c p (x, y)).1, .int (MapM.mp a b c p (x, y)).2]) → Q (.ref u) H'
def sp_kind_at (_ : PySem.W.Frag) (C C_R C_E : Addr) : Sp := fun vs H Q _ => ∃ (x : Addr) (a b c d : Int) (p : Nat), vs = [.ref x, .int (p : Int)] ∧ FormAt C H x [a, b, c, d] ∧ Pr p ∧ p < 1000 ∧ ∀ (s : Str) H', (s = "all" ↔ Full a b c d p) → Ex0 H H' → Q (.str s) H'
def sp_maps_at (K : PySem.W.Frag) (C C_R C_E : Addr) : Sp := fun vs H Q _ => ∃ (x : Addr) (a b c d : Int) (p : Nat), vs = [.ref x, .int (p : Int)] ∧ FormAt C H x [a, b, c, d] ∧ Pr p ∧ p < 1000 ∧ B 900 a ∧ B 900 b ∧ B 900 c ∧ B 900 d ∧ ∀ (t : Addr) (ys : List V) (qs : List (Int × Int)) (H' : Hp), Ex0 H H' → H' t = some (.tup ys) → PrT K H' ys qs → (Full a b c d p → qs = [(0, 0)]) → (¬ Full a b c d p → qs.Perm ((MapM.rootsG a b c d p).map (MapM.mp a b c p)) ∧ qs.Pairwise lexP) → qs.length ≤ 1001 → Q (.ref t) H'
theorem cut_lastV {xs : List V} (h : xs ≠ []) : cutV xs none (some (-1)) = xs.take (xs.length - 1) := by
  have := List.length_pos_iff.mpr h
  unfold cutV
  have e1 : HT.sIx xs.length 0 none = 0 := rfl
  have e2 : HT.sIx xs.length xs.length (some (-1)) = xs.length - 1 := by
    show (if (-1 : Int) < 0 then ((-1 : Int) + (xs.length : Int)).toNat else min (-1 : Int).toNat xs.length) = _
    rw [if_pos (by decide)]
    omega
  rw [e1, e2, List.drop_zero, Nat.sub_zero]
theorem cut_from {xs : List V} {k : Nat} (h : k ≤ xs.length) : cutV xs (some (k : Int)) none = xs.drop k := by
  unfold cutV
  rw [HT.sIx_nat, HT.sIx_none, Nat.min_eq_left h, List.take_of_length_le (by rw [List.length_drop]; omega)]
theorem full_iff (a b c d : Int) (p : Nat) : (((gcdL [a, b, c, d] : Nat) : Int) % (p : Int) = 0) ↔ Full a b c d p := by
  have e : gcdL [a, b, c, d] = Nat.gcd (Nat.gcd (Nat.gcd (Nat.gcd 0 a.natAbs) b.natAbs) c.natAbs) d.natAbs := rfl
  unfold Full
  rw [← Int.dvd_iff_emod_eq_zero, Int.ofNat_dvd, e, Nat.dvd_gcd_iff, Nat.dvd_gcd_iff, Nat.dvd_gcd_iff, Nat.gcd_zero_left, Int.ofNat_dvd_left, Int.ofNat_dvd_left, Int.ofNat_dvd_left, Int.ofNat_dvd_left, and_assoc, and_assoc]
theorem rootsL_eq (a b c d : Int) (p : Nat) : rootsL a b c d p = MapM.rootsG a b c d p := by
  unfold rootsL MapM.rootsG
  congr 1
  congr 1
  congr 1
  funext x
  unfold rootB
  rw [show fv a b c d (x : Int) 1 = MapM.f3 a b c d x from by unfold fv MapM.f3; grind]
theorem rootsL_plc {a b c d : Int} {p : Nat} {y z : Int} (h : (y, z) ∈ rootsL a b c d p) : Plc (p : Int) y z := by
  rw [rootsL_eq] at h
  rcases MapM.mem_roots.mp h with ⟨e, _⟩ | ⟨x, x0, x1, e, _⟩
  · obtain ⟨rfl, rfl⟩ := Prod.mk.inj e
    exact .inr ⟨rfl, rfl⟩
  · obtain ⟨rfl, rfl⟩ := Prod.mk.inj e
    exact .inl ⟨rfl, x0, x1⟩
theorem roots_len (a b c d : Int) (p : Nat) (h : p ≤ 1000) : (rootsL a b c d p).length ≤ 1001 := by
  unfold rootsL
  rw [List.length_append, List.length_map]
  have h1 := List.length_filter_le (fun (x : Nat) => rootB a b c d p x 1) (List.range p)
  rw [List.length_range] at h1
  by_cases g : a % (p : Int) = 0
  · rw [if_pos g, List.length_singleton]; omega
  · rw [if_neg g, List.length_nil]; omega
end
section
variable {P : Program} {w : World} {K : PySem.W.Frag} {mg : Str → Option Value} {base : Heap} {C_Form C_Ring C_Element : Addr}
theorem ok_form_discriminant (T : Txt K mg C_Form C_Ring C_Element) : Def P w K mg base 1 "form_discriminant" ["coefficients"] (sp_form_discriminant K C_Form C_Ring C_Element) := by
  obtain ⟨f_, fd_, g_, F_⟩ := T.d_form_discriminant
  refine ⟨f_, fd_, g_, F_.kp, F_.binds (ps := ["coefficients"]) (fun _ _ _ _ _ _ us hl => match us, hl with | [_], _ => rfl), ?_⟩
  refine F_.ok sc_form_discriminant (fun vs H Q E h => ?_) (fun cdv A outer s H vs Q E hr h => ?_)
  · first | (obtain ⟨rfl, _⟩ := h; rfl) | (obtain ⟨_, rfl, _⟩ := h; rfl) | (obtain ⟨_, _, rfl, _⟩ := h; rfl) | (obtain ⟨_, _, _, rfl, _⟩ := h; rfl) | (obtain ⟨_, _, _, _, rfl, _⟩ := h; rfl) | (obtain ⟨_, _, _, _, _, rfl, _⟩ := h; rfl) | (obtain ⟨_, _, _, _, _, _, rfl, _⟩ := h; rfl) | (obtain ⟨_, _, _, _, _, _, _, rfl, _⟩ := h; rfl) | (obtain ⟨_, _, _, _, _, _, _, _, rfl, _⟩ := h; rfl) | (obtain ⟨_, _, _, _, _, _, _, _, _, rfl, _⟩ := h; rfl) | (obtain ⟨_, _, _, _, _, _, _, _, _, _, rfl, _⟩ := h; rfl) | (obtain ⟨_, _, _, _, _, _, _, _, _, _, _, rfl, _⟩ := h; rfl) | (obtain ⟨_, _, _, _, _, _, _, _, _, _, _, _, rfl, _⟩ := h; rfl) | (obtain ⟨_, _, _, _, _, _, _, _, _, _, _, _, _, rfl, _⟩ := h; rfl) | (obtain ⟨_, _, _, _, _, _, _, _, _, _, _, _, _, _, rfl, _⟩ := h; rfl) | (obtain ⟨_, _, _, _, _, _, _, _, _, _, _, _, _, _, _, rfl, _⟩ := h; rfl) | (obtain ⟨_, _, _, _, _, _, _, _, _, _, _, _, _, _, _, _, rfl, _⟩ := h; rfl) | (obtain ⟨_, _, _, _, _, _, _, _, _, _, _, _, _, _, _, _, _, rfl, _⟩ := h; rfl) | (obtain ⟨_, _, _, _, _, _, _, _, _, _, _, _, _, _, _, _, _, _, rfl, _⟩ := h; rfl) | (obtain ⟨_, _, _, _, _, _, _, _, _, _, _, _, _, _, _, _, _, _, _, rfl, _⟩ := h; rfl) | (obtain ⟨_, _, _, _, _, _, _, _, _, _, _, _, _, _, _, _, _, _, _, _, rfl, _⟩ := h; rfl) | (obtain ⟨_, _, _, _, _, _, _, _, _, _, _, _, _, _, _, _, _, _, _, _, _, rfl, _⟩ := h; rfl) | (obtain ⟨_, _, _, _, _, _, _, _, _, _, _, _, _, _, _, _, _, _, _, _, _, _, rfl, _⟩ := h; rfl) | (obtain ⟨_, _, _, _, _, _, _, _, _, _, _, _, _, _, _, _, _, _, _, _, _, _, _, rfl, _⟩ := h; rfl)
  · obtain ⟨t, a, b, c, d, rfl, ht, ba, bb, bc, bd, q⟩ := h
    refine ⟨_, (pss_cons (ps_asg (pv 0) (pg_tup (by rfl) (pgs_cons (pg_name (i := 1) sc_form_discriminant.nd rfl (.inl rfl)) (pgs_cons (pg_name (i := 2) sc_form_discriminant.nd rfl (.inl rfl)) (pgs_cons (pg_name (i := 3) sc_form_discriminant.nd rfl (.inl rfl)) (pgs_cons (pg_name (i := 4) sc_form_discriminant.nd rfl (.inl rfl)) pgs_nil))))))
    (pss_one (ps_ret (pe_op op_add (pe_op op_sub (pe_op op_sub (pe_op op_sub (pe_op op_mulW (pe_op op_mulW (pe_op op_mulW (pv 2) (pv 2)) (pv 3)) (pv 3)) (pe_op op_mulW (pe_op op_mulW (pe_op op_mulW (pe_op op_mulW pe_int (pv 1)) (pv 3)) (pv 3)) (pv 3))) (pe_op op_mulW (pe_op op_mulW (pe_op op_mulW (pe_op op_mulW pe_int (pv 2)) (pv 2)) (pv 2)) (pv 4))) (pe_op op_mulW (pe_op op_mulW (pe_op op_mulW (pe_op op_mulW pe_int (pv 1)) (pv 1)) (pv 4)) (pv 4))) (pe_op op_mulW (pe_op op_mulW (pe_op op_mulW (pe_op op_mulW pe_int (pv 1)) (pv 2)) (pv 3)) (pv 4)))))), ?_⟩
    refine ⟨_, rfl, unI4 ht ?_⟩
    exact ⟨_, rfl, _, rfl, _, _, rfl, rfl, mulB (by with_reducible assumption) (by with_reducible assumption) (by decide), _, rfl, _, _, rfl, rfl, mulB (B.mul (by with_reducible assumption) (by with_reducible assumption)) (by with_reducible assumption) (by decide), _, rfl, _, _, rfl, rfl, mulB (B.mul (B.mul (by with_reducible assumption) (by with_reducible assumption)) (by with_reducible assumption)) (by with_reducible assumption) (by decide), _, rfl, _, _, rfl, rfl, mulB (B.lit (by decide)) (by with_reducible assumption) (by decide), _, rfl, _, _, rfl, rfl, mulB (B.mul (B.lit (by decide)) (by with_reducible assumption)) (by with_reducible assumption) (by decide), _, rfl, _, _, rfl, rfl, mulB (B.mul (B.mul (B.lit (by decide)) (by with_reducible assumption)) (by with_reducible assumption)) (by with_reducible assumption) (by decide), _, rfl, _, _, rfl, rfl, mulB (B.mul (B.mul (B.mul (B.lit (by decide)) (by with_reducible assumption)) (by with_reducible assumption)) (by with_reducible assumption)) (by with_reducible assumption) (by decide), _, _, rfl, rfl, _, rfl, _, _, rfl, rfl, mulB (B.lit (by decide)) (by with_reducible assumption) (by decide), _, rfl, _, _, rfl, rfl, mulB (B.mul (B.lit (by decide)) (by with_reducible assumption)) (by with_reducible assumption) (by decide), _, rfl, _, _, rfl, rfl, mulB (B.mul (B.mul (B.lit (by decide)) (by with_reducible assumption)) (by with_reducible assumption)) (by with_reducible assumption) (by decide), _, rfl, _, _, rfl, rfl, mulB (B.mul (B.mul (B.mul (B.lit (by decide)) (by with_reducible assumption)) (by with_reducible assumption)) (by with_reducible assumption)) (by with_reducible assumption) (by decide), _, _, rfl, rfl, _, rfl, _, _, rfl, rfl, mulB (B.lit (by decide)) (by with_reducible assumption) (by decide), _, rfl, _, _, rfl, rfl, mulB (B.mul (B.lit (by decide)) (by with_reducible assumption)) (by with_reducible assumption) (by decide), _, rfl, _, _, rfl, rfl, mulB (B.mul (B.mul (B.lit (by decide)) (by with_reducible assumption)) (by with_reducible assumption)) (by with_reducible assumption) (by decide), _, rfl, _, _, rfl, rfl, mulB (B.mul (B.mul (B.mul (B.lit (by decide)) (by with_reducible assumption)) (by with_reducible assumption)) (by with_reducible assumption)) (by with_reducible assumption) (by decide), _, _, rfl, rfl, _, rfl, _, _, rfl, rfl, mulB (B.lit (by decide)) (by with_reducible assumption) (by decide), _, rfl, _, _, rfl, rfl, mulB (B.mul (B.lit (by decide)) (by with_reducible assumption)) (by with_reducible assumption) (by decide), _, rfl, _, _, rfl, rfl, mulB (B.mul (B.mul (B.lit (by decide)) (by with_reducible assumption)) (by with_reducible assumption)) (by with_reducible assumption) (by decide), _, rfl, _, _, rfl, rfl, mulB (B.mul (B.mul (B.mul (B.lit (by decide)) (by with_reducible assumption)) (by with_reducible assumption)) (by with_reducible assumption)) (by with_reducible assumption) (by decide), _, _, rfl, rfl, q⟩
theorem ok_form_hessian (T : Txt K mg C_Form C_Ring C_Element) : Def P w K mg base 1 "form_hessian" ["coefficients"] (sp_form_hessian K C_Form C_Ring C_Element) := by
  obtain ⟨f_, fd_, g_, F_⟩ := T.d_form_hessian
  refine ⟨f_, fd_, g_, F_.kp, F_.binds (ps := ["coefficients"]) (fun _ _ _ _ _ _ us hl => match us, hl with | [_], _ => rfl), ?_⟩
  refine F_.ok sc_form_hessian (fun vs H Q E h => ?_) (fun cdv A outer s H vs Q E hr h => ?_)
  · first | (obtain ⟨rfl, _⟩ := h; rfl) | (obtain ⟨_, rfl, _⟩ := h; rfl) | (obtain ⟨_, _, rfl, _⟩ := h; rfl) | (obtain ⟨_, _, _, rfl, _⟩ := h; rfl) | (obtain ⟨_, _, _, _, rfl, _⟩ := h; rfl) | (obtain ⟨_, _, _, _, _, rfl, _⟩ := h; rfl) | (obtain ⟨_, _, _, _, _, _, rfl, _⟩ := h; rfl) | (obtain ⟨_, _, _, _, _, _, _, rfl, _⟩ := h; rfl) | (obtain ⟨_, _, _, _, _, _, _, _, rfl, _⟩ := h; rfl) | (obtain ⟨_, _, _, _, _, _, _, _, _, rfl, _⟩ := h; rfl) | (obtain ⟨_, _, _, _, _, _, _, _, _, _, rfl, _⟩ := h; rfl) | (obtain ⟨_, _, _, _, _, _, _, _, _, _, _, rfl, _⟩ := h; rfl) | (obtain ⟨_, _, _, _, _, _, _, _, _, _, _, _, rfl, _⟩ := h; rfl) | (obtain ⟨_, _, _, _, _, _, _, _, _, _, _, _, _, rfl, _⟩ := h; rfl) | (obtain ⟨_, _, _, _, _, _, _, _, _, _, _, _, _, _, rfl, _⟩ := h; rfl) | (obtain ⟨_, _, _, _, _, _, _, _, _, _, _, _, _, _, _, rfl, _⟩ := h; rfl) | (obtain ⟨_, _, _, _, _, _, _, _, _, _, _, _, _, _, _, _, rfl, _⟩ := h; rfl) | (obtain ⟨_, _, _, _, _, _, _, _, _, _, _, _, _, _, _, _, _, rfl, _⟩ := h; rfl) | (obtain ⟨_, _, _, _, _, _, _, _, _, _, _, _, _, _, _, _, _, _, rfl, _⟩ := h; rfl) | (obtain ⟨_, _, _, _, _, _, _, _, _, _, _, _, _, _, _, _, _, _, _, rfl, _⟩ := h; rfl) | (obtain ⟨_, _, _, _, _, _, _, _, _, _, _, _, _, _, _, _, _, _, _, _, rfl, _⟩ := h; rfl) | (obtain ⟨_, _, _, _, _, _, _, _, _, _, _, _, _, _, _, _, _, _, _, _, _, rfl, _⟩ := h; rfl) | (obtain ⟨_, _, _, _, _, _, _, _, _, _, _, _, _, _, _, _, _, _, _, _, _, _, rfl, _⟩ := h; rfl) | (obtain ⟨_, _, _, _, _, _, _, _, _, _, _, _, _, _, _, _, _, _, _, _, _, _, _, rfl, _⟩ := h; rfl)
  · obtain ⟨t, a, b, c, d, rfl, ht, ba, bb, bc, bd, q⟩ := h
    refine ⟨_, (pss_cons (ps_asg (pv 0) (pg_tup (by rfl) (pgs_cons (pg_name (i := 1) sc_form_hessian.nd rfl (.inl rfl)) (pgs_cons (pg_name (i := 2) sc_form_hessian.nd rfl (.inl rfl)) (pgs_cons (pg_name (i := 3) sc_form_hessian.nd rfl (.inl rfl)) (pgs_cons (pg_name (i := 4) sc_form_hessian.nd rfl (.inl rfl)) pgs_nil))))))
    (pss_one (ps_ret (pe_tup (pa_cons (pe_op op_sub (pe_op op_mulW (pv 2) (pv 2)) (pe_op op_mulW (pe_op op_mulW pe_int (pv 1)) (pv 3))) (pa_cons (pe_op op_sub (pe_op op_mulW (pv 2) (pv 3)) (pe_op op_mulW (pe_op op_mulW pe_int (pv 1)) (pv 4))) (pa_cons (pe_op op_sub (pe_op op_mulW (pv 3) (pv 3)) (pe_op op_mulW (pe_op op_mulW pe_int (pv 2)) (pv 4))) pa_nil))))))), ?_⟩
    refine ⟨_, rfl, unI4 ht ?_⟩
    exact ⟨_, rfl, _, rfl, _, _, rfl, rfl, mulB (by with_reducible assumption) (by with_reducible assumption) (by decide), _, rfl, _, _, rfl, rfl, mulB (B.lit (by decide)) (by with_reducible assumption) (by decide), _, rfl, _, _, rfl, rfl, mulB (B.mul (B.lit (by decide)) (by with_reducible assumption)) (by with_reducible assumption) (by decide), _, _, rfl, rfl, _, rfl, _, rfl, _, _, rfl, rfl, mulB (by with_reducible assumption) (by with_reducible assumption) (by decide), _, rfl, _, _, rfl, rfl, mulB (B.lit (by decide)) (by with_reducible assumption) (by decide), _, rfl, _, _, rfl, rfl, mulB (B.mul (B.lit (by decide)) (by with_reducible assumption)) (by with_reducible assumption) (by decide), _, _, rfl, rfl, _, rfl, _, rfl, _, _, rfl, rfl, mulB (by with_reducible assumption) (by with_reducible assumption) (by decide), _, rfl, _, _, rfl, rfl, mulB (B.lit (by decide)) (by with_reducible assumption) (by decide), _, rfl, _, _, rfl, rfl, mulB (B.mul (B.lit (by decide)) (by with_reducible assumption)) (by with_reducible assumption) (by decide), _, _, rfl, rfl, sl3, fun x nx => q x [_, _, _] _ rfl (Ex0.new nx) upd_same⟩
theorem ok_value_at (T : Txt K mg C_Form C_Ring C_Element) : Def P w K mg base 1 "value_at" ["row", "x", "prime"] (sp_value_at K C_Form C_Ring C_Element) := by
  obtain ⟨f_, fd_, g_, F_⟩ := T.d_value_at
  refine ⟨f_, fd_, g_, F_.kp, F_.binds (ps := ["row", "x", "prime"]) (fun _ _ _ _ _ _ us hl => match us, hl with | [_, _, _], _ => rfl), ?_⟩
  refine F_.ok sc_value_at (fun vs H Q E h => ?_) (fun cdv A outer s H vs Q E hr h => ?_)
  · first | (obtain ⟨rfl, _⟩ := h; rfl) | (obtain ⟨_, rfl, _⟩ := h; rfl) | (obtain ⟨_, _, rfl, _⟩ := h; rfl) | (obtain ⟨_, _, _, rfl, _⟩ := h; rfl) | (obtain ⟨_, _, _, _, rfl, _⟩ := h; rfl) | (obtain ⟨_, _, _, _, _, rfl, _⟩ := h; rfl) | (obtain ⟨_, _, _, _, _, _, rfl, _⟩ := h; rfl) | (obtain ⟨_, _, _, _, _, _, _, rfl, _⟩ := h; rfl) | (obtain ⟨_, _, _, _, _, _, _, _, rfl, _⟩ := h; rfl) | (obtain ⟨_, _, _, _, _, _, _, _, _, rfl, _⟩ := h; rfl) | (obtain ⟨_, _, _, _, _, _, _, _, _, _, rfl, _⟩ := h; rfl) | (obtain ⟨_, _, _, _, _, _, _, _, _, _, _, rfl, _⟩ := h; rfl) | (obtain ⟨_, _, _, _, _, _, _, _, _, _, _, _, rfl, _⟩ := h; rfl) | (obtain ⟨_, _, _, _, _, _, _, _, _, _, _, _, _, rfl, _⟩ := h; rfl) | (obtain ⟨_, _, _, _, _, _, _, _, _, _, _, _, _, _, rfl, _⟩ := h; rfl) | (obtain ⟨_, _, _, _, _, _, _, _, _, _, _, _, _, _, _, rfl, _⟩ := h; rfl) | (obtain ⟨_, _, _, _, _, _, _, _, _, _, _, _, _, _, _, _, rfl, _⟩ := h; rfl) | (obtain ⟨_, _, _, _, _, _, _, _, _, _, _, _, _, _, _, _, _, rfl, _⟩ := h; rfl) | (obtain ⟨_, _, _, _, _, _, _, _, _, _, _, _, _, _, _, _, _, _, rfl, _⟩ := h; rfl) | (obtain ⟨_, _, _, _, _, _, _, _, _, _, _, _, _, _, _, _, _, _, _, rfl, _⟩ := h; rfl) | (obtain ⟨_, _, _, _, _, _, _, _, _, _, _, _, _, _, _, _, _, _, _, _, rfl, _⟩ := h; rfl) | (obtain ⟨_, _, _, _, _, _, _, _, _, _, _, _, _, _, _, _, _, _, _, _, _, rfl, _⟩ := h; rfl) | (obtain ⟨_, _, _, _, _, _, _, _, _, _, _, _, _, _, _, _, _, _, _, _, _, _, rfl, _⟩ := h; rfl) | (obtain ⟨_, _, _, _, _, _, _, _, _, _, _, _, _, _, _, _, _, _, _, _, _, _, _, rfl, _⟩ := h; rfl)
  · obtain ⟨l, row, x, p, rfl, hl, p0, p1, x1, hn, hlen, q⟩ := h
    refine ⟨_, (pss_cons (ps_set (i := 3) sc_value_at.nd rfl (.inl rfl) pe_int)
    (pss_cons (ps_for PassesOwn.never rfl (pi_list (pv 0)) (pg_name (i := 4) sc_value_at.nd rfl (.inl rfl))
      (pss_one (ps_set (i := 3) sc_value_at.nd rfl (.inl rfl) (pe_op op_mod (pe_op op_add (pe_op op_mulW (pv 3) (pv 1)) (pv 4)) (pv 2)))))
    (pss_one (ps_ret (pv 3))))), ?_⟩
    refine ⟨_, rfl, l, rfl, ⟨_, SqL.of hl⟩, ?_⟩
    have hl' : H l = some (.lst (row.map fun (n : Nat) => V.int (n : Int))) := hl
    refine for_list (xs := row.map fun (n : Nat) => V.int (n : Int)) (fun i σ H' => ∃ y4 : Option V, σ = [some (.ref l), some (.int (x : Int)), some (.int (p : Int)), some (.int ((KindM.valN p x (row.take i) : Nat) : Int)), y4] ∧ H' = H) ⟨none, rfl, rfl⟩ (fun i σ H' _ ⟨_, _, e⟩ => by subst e; exact SqL.of hl') ?_ ?_
    · rintro i v σ H' hv ⟨y4, rfl, rfl⟩
      rw [List.getElem?_map] at hv
      obtain ⟨n, hn', rfl⟩ := Option.map_eq_some_iff.mp hv
      have b1 : B 10 ((KindM.valN p x (row.take i) : Nat) : Int) := ⟨by have := KindM.valN_lt p0 (x := x) (row.take i); show _ < 1024; omega, by decide⟩
      have bx : B 10 (x : Int) := ⟨by show _ < 1024; omega, by decide⟩
      refine ⟨_, rfl, _, rfl, _, _, rfl, rfl, mulB b1 bx (by decide), _, rfl, _, _, rfl, rfl, _, rfl, _, _, rfl, rfl, (show (0 : Int) < (p : Int) by omega), ?_⟩
      refine ⟨some (.int (n : Int)), ?_, rfl⟩
      rw [KindM.valN_take hn', Int.natCast_emod, Int.natCast_add, Int.natCast_mul]
      rfl
    · rintro σ H' ⟨y4, rfl, rfl⟩
      rw [List.length_map, List.take_length]
      exact ⟨_, rfl, q⟩
theorem ok_less_root (T : Txt K mg C_Form C_Ring C_Element) : Def P w K mg base 1 "less_root" ["row", "x", "prime"] (sp_less_root K C_Form C_Ring C_Element) := by
  obtain ⟨f_, fd_, g_, F_⟩ := T.d_less_root
  refine ⟨f_, fd_, g_, F_.kp, F_.binds (ps := ["row", "x", "prime"]) (fun _ _ _ _ _ _ us hl => match us, hl with | [_, _, _], _ => rfl), ?_⟩
  refine F_.ok sc_less_root (fun vs H Q E h => ?_) (fun cdv A outer s H vs Q E hr h => ?_)
  · first | (obtain ⟨rfl, _⟩ := h; rfl) | (obtain ⟨_, rfl, _⟩ := h; rfl) | (obtain ⟨_, _, rfl, _⟩ := h; rfl) | (obtain ⟨_, _, _, rfl, _⟩ := h; rfl) | (obtain ⟨_, _, _, _, rfl, _⟩ := h; rfl) | (obtain ⟨_, _, _, _, _, rfl, _⟩ := h; rfl) | (obtain ⟨_, _, _, _, _, _, rfl, _⟩ := h; rfl) | (obtain ⟨_, _, _, _, _, _, _, rfl, _⟩ := h; rfl) | (obtain ⟨_, _, _, _, _, _, _, _, rfl, _⟩ := h; rfl) | (obtain ⟨_, _, _, _, _, _, _, _, _, rfl, _⟩ := h; rfl) | (obtain ⟨_, _, _, _, _, _, _, _, _, _, rfl, _⟩ := h; rfl) | (obtain ⟨_, _, _, _, _, _, _, _, _, _, _, rfl, _⟩ := h; rfl) | (obtain ⟨_, _, _, _, _, _, _, _, _, _, _, _, rfl, _⟩ := h; rfl) | (obtain ⟨_, _, _, _, _, _, _, _, _, _, _, _, _, rfl, _⟩ := h; rfl) | (obtain ⟨_, _, _, _, _, _, _, _, _, _, _, _, _, _, rfl, _⟩ := h; rfl) | (obtain ⟨_, _, _, _, _, _, _, _, _, _, _, _, _, _, _, rfl, _⟩ := h; rfl) | (obtain ⟨_, _, _, _, _, _, _, _, _, _, _, _, _, _, _, _, rfl, _⟩ := h; rfl) | (obtain ⟨_, _, _, _, _, _, _, _, _, _, _, _, _, _, _, _, _, rfl, _⟩ := h; rfl) | (obtain ⟨_, _, _, _, _, _, _, _, _, _, _, _, _, _, _, _, _, _, rfl, _⟩ := h; rfl) | (obtain ⟨_, _, _, _, _, _, _, _, _, _, _, _, _, _, _, _, _, _, _, rfl, _⟩ := h; rfl) | (obtain ⟨_, _, _, _, _, _, _, _, _, _, _, _, _, _, _, _, _, _, _, _, rfl, _⟩ := h; rfl) | (obtain ⟨_, _, _, _, _, _, _, _, _, _, _, _, _, _, _, _, _, _, _, _, _, rfl, _⟩ := h; rfl) | (obtain ⟨_, _, _, _, _, _, _, _, _, _, _, _, _, _, _, _, _, _, _, _, _, _, rfl, _⟩ := h; rfl) | (obtain ⟨_, _, _, _, _, _, _, _, _, _, _, _, _, _, _, _, _, _, _, _, _, _, _, rfl, _⟩ := h; rfl)
  · obtain ⟨l, row, x, p, rfl, hl, p0, p1, x1, hn, hl1, hlen, q⟩ := h
    refine ⟨_, (pss_cons (ps_set (i := 3) sc_less_root.nd rfl (.inl rfl) (pe_lst pa_nil))
    (pss_cons (ps_set (i := 4) sc_less_root.nd rfl (.inl rfl) pe_int)
    (pss_cons (ps_for PassesOwn.never rfl (pi_list (pe_slice sl_list (pv 0) po_none (po_some (pe_un un_neg pe_int)))) (pg_name (i := 5) sc_less_root.nd rfl (.inl rfl))
      (pss_cons (ps_set (i := 4) sc_less_root.nd rfl (.inl rfl) (pe_op op_mod (pe_op op_add (pe_op op_mulW (pv 4) (pv 1)) (pv 5)) (pv 2)))
    (pss_one (ps_expr (pe_bm PySem.F.plainAttrs_list PySem.F.slot_list_append PySem.F.type_list_append mt_append (pv 3) (pa_cons (pv 4) pa_nil))))))
    (pss_one (ps_ret (pv 3)))))), ?_⟩
    refine ⟨Nat.zero_le _, fun f nf => ?_⟩
    have ef := Ex0.new (o := .lst []) nf
    have hl' : H l = some (.lst (row.map fun (n : Nat) => V.int (n : Int))) := hl
    have hlf := Ex0.ap ef hl'
    have e1 : row ≠ [] := by
      rintro rfl
      exact absurd hl1 (by decide)
    refine ⟨_, rfl, _, rfl, _, rfl, l, _, rfl, SqL.of hlf, fun sl nsl => ?_⟩
    rw [cut_lastV (show (row.map fun (n : Nat) => V.int (n : Int)) ≠ [] by simpa using e1), List.length_map]
    have es := Ex0.new (o := .lst ((row.map fun (n : Nat) => V.int (n : Int)).take (row.length - 1))) nsl
    refine ⟨sl, rfl, ⟨_, SqL.of upd_same⟩, ?_⟩
    have nfs : f ≠ sl := by
      rintro rfl
      rw [upd_same] at nsl
      cases nsl
    have hf2 := Ex0.ap es (show upd H f (.lst []) f = some (.lst []) from upd_same)
    have ff : Ex0 H (upd (upd H f (.lst [])) sl (.lst ((row.map fun (n : Nat) => V.int (n : Int)).take (row.length - 1)))) := ef.trans es
    have hsl : (upd (upd H f (.lst [])) sl (.lst ((row.map fun (n : Nat) => V.int (n : Int)).take (row.length - 1)))) sl = some (.lst ((row.map fun (n : Nat) => V.int (n : Int)).take (row.length - 1))) := upd_same
    generalize upd (upd H f (.lst [])) sl (.lst ((row.map fun (n : Nat) => V.int (n : Int)).take (row.length - 1))) = H2 at *
    refine for_list (xs := (row.map fun (n : Nat) => V.int (n : Int)).take (row.length - 1)) (fun i σ H' => ∃ y5 : Option V, σ = [some (.ref l), some (.int (x : Int)), some (.int (p : Int)), some (.ref f), some (.int ((KindM.valN p x (row.take i) : Nat) : Int)), y5] ∧ Ex0 H H' ∧ H' sl = some (.lst ((row.map fun (n : Nat) => V.int (n : Int)).take (row.length - 1))) ∧ RwN H' f ((List.range i).map fun j => KindM.valN p x (row.take (j + 1)))) ⟨none, rfl, ff, hsl, hf2⟩ (fun i σ H' _ ⟨_, _, _, e, _⟩ => SqL.of e) ?_ ?_
    · rintro i v σ H3 hv ⟨y5, rfl, e3, hsl3, hf3⟩
      have hv2 : i < row.length - 1 ∧ (row.map fun (n : Nat) => V.int (n : Int))[i]? = some v := by
        rw [List.getElem?_take] at hv
        split at hv
        · exact ⟨by assumption, hv⟩
        · cases hv
      obtain ⟨hi, hv3⟩ := hv2
      rw [List.getElem?_map] at hv3
      obtain ⟨n, hn', rfl⟩ := Option.map_eq_some_iff.mp hv3
      have b1 : B 10 ((KindM.valN p x (row.take i) : Nat) : Int) := ⟨by have := KindM.valN_lt p0 (x := x) (row.take i); show _ < 1024; omega, by decide⟩
      have bx : B 10 (x : Int) := ⟨by show _ < 1024; omega, by decide⟩
      have hf3' : H3 f = some (.lst (((List.range i).map fun j => KindM.valN p x (row.take (j + 1))).map fun (n : Nat) => V.int (n : Int))) := hf3
      refine ⟨_, rfl, _, rfl, _, _, rfl, rfl, mulB b1 bx (by decide), _, rfl, _, _, rfl, rfl, _, rfl, _, _, rfl, rfl, (show (0 : Int) < (p : Int) by omega), ?_⟩
      have ev : ((KindM.valN p x (row.take i) : Nat) : Int) * (x : Int) + (n : Int) = ((KindM.valN p x (row.take i) * x + n : Nat) : Int) := by
        rw [Int.natCast_add, Int.natCast_mul]
      have ev2 : (((KindM.valN p x (row.take i) : Nat) : Int) * (x : Int) + (n : Int)) % (p : Int) = ((KindM.valN p x (row.take (i + 1)) : Nat) : Int) := by
        rw [KindM.valN_take hn', Int.natCast_emod, ev]
      refine ⟨_, rfl, .inl ⟨rfl, _, SqL.of hf3'⟩, _, rfl, f, _, _, rfl, rfl, hf3', by rw [List.length_map, List.length_map, List.length_range]; exact Nat.lt_of_lt_of_le hi (Nat.le_trans (Nat.sub_le _ _) (Nat.le_trans hlen (by decide))), ?_⟩
      refine ⟨some (.int (n : Int)), ?_, Fx.mut fm0 e3 trivial nf, ?_, ?_⟩
      · rw [← ev2]
        rfl
      · rw [upd_ne (Ne.symm nfs)]
        exact hsl3
      · unfold RwN
        rw [upd_same, List.range_succ, List.map_append, List.map_append]
        exact congrArg (fun z => some (HO.lst (_ ++ [z]))) (congrArg V.int ev2)
    · rintro σ H3 ⟨y5, rfl, e3, hsl3, hf3⟩
      refine ⟨_, rfl, q f H3 e3 nf ?_⟩
      rw [List.length_take, List.length_map, Nat.min_eq_left (Nat.sub_le _ _)] at hf3
      unfold KindM.lessN
      rw [KindM.lessG_eq]
      exact hf3
theorem ok_times_at_end (T : Txt K mg C_Form C_Ring C_Element) : Def P w K mg base 1 "times_at_end" ["row"] (sp_times_at_end K C_Form C_Ring C_Element) := by
  obtain ⟨f_, fd_, g_, F_⟩ := T.d_times_at_end
  refine ⟨f_, fd_, g_, F_.kp, F_.binds (ps := ["row"]) (fun _ _ _ _ _ _ us hl => match us, hl with | [_], _ => rfl), ?_⟩
  refine F_.ok sc_times_at_end (fun vs H Q E h => ?_) (fun cdv A outer s H vs Q E hr h => ?_)
  · first | (obtain ⟨rfl, _⟩ := h; rfl) | (obtain ⟨_, rfl, _⟩ := h; rfl) | (obtain ⟨_, _, rfl, _⟩ := h; rfl) | (obtain ⟨_, _, _, rfl, _⟩ := h; rfl) | (obtain ⟨_, _, _, _, rfl, _⟩ := h; rfl) | (obtain ⟨_, _, _, _, _, rfl, _⟩ := h; rfl) | (obtain ⟨_, _, _, _, _, _, rfl, _⟩ := h; rfl) | (obtain ⟨_, _, _, _, _, _, _, rfl, _⟩ := h; rfl) | (obtain ⟨_, _, _, _, _, _, _, _, rfl, _⟩ := h; rfl) | (obtain ⟨_, _, _, _, _, _, _, _, _, rfl, _⟩ := h; rfl) | (obtain ⟨_, _, _, _, _, _, _, _, _, _, rfl, _⟩ := h; rfl) | (obtain ⟨_, _, _, _, _, _, _, _, _, _, _, rfl, _⟩ := h; rfl) | (obtain ⟨_, _, _, _, _, _, _, _, _, _, _, _, rfl, _⟩ := h; rfl) | (obtain ⟨_, _, _, _, _, _, _, _, _, _, _, _, _, rfl, _⟩ := h; rfl) | (obtain ⟨_, _, _, _, _, _, _, _, _, _, _, _, _, _, rfl, _⟩ := h; rfl) | (obtain ⟨_, _, _, _, _, _, _, _, _, _, _, _, _, _, _, rfl, _⟩ := h; rfl) | (obtain ⟨_, _, _, _, _, _, _, _, _, _, _, _, _, _, _, _, rfl, _⟩ := h; rfl) | (obtain ⟨_, _, _, _, _, _, _, _, _, _, _, _, _, _, _, _, _, rfl, _⟩ := h; rfl) | (obtain ⟨_, _, _, _, _, _, _, _, _, _, _, _, _, _, _, _, _, _, rfl, _⟩ := h; rfl) | (obtain ⟨_, _, _, _, _, _, _, _, _, _, _, _, _, _, _, _, _, _, _, rfl, _⟩ := h; rfl) | (obtain ⟨_, _, _, _, _, _, _, _, _, _, _, _, _, _, _, _, _, _, _, _, rfl, _⟩ := h; rfl) | (obtain ⟨_, _, _, _, _, _, _, _, _, _, _, _, _, _, _, _, _, _, _, _, _, rfl, _⟩ := h; rfl) | (obtain ⟨_, _, _, _, _, _, _, _, _, _, _, _, _, _, _, _, _, _, _, _, _, _, rfl, _⟩ := h; rfl) | (obtain ⟨_, _, _, _, _, _, _, _, _, _, _, _, _, _, _, _, _, _, _, _, _, _, _, rfl, _⟩ := h; rfl)
  · obtain ⟨l, row, rest, rfl, hl, ha, hlen, q⟩ := h
    refine ⟨_, (pss_cons (ps_set (i := 1) sc_times_at_end.nd rfl (.inl rfl) pe_int)
    (pss_cons (ps_while PassesOwn.never (pt_cmpR op_eq (pe_ix ix_list (pv 0) (pv 1) (fun _ _ => rfl)) pe_int (nomark _))
      (pss_one (ps_aug (i := 1) sc_times_at_end.nd rfl (.inl rfl) pe_int ip_add)))
    (pss_one (ps_ret (pv 1))))), ?_⟩
    have hl' : H l = some (.lst (row.map fun (n : Nat) => V.int (n : Int))) := hl
    refine ⟨fun m σ H' => ∃ k : Nat, σ = [some (.ref l), some (.int (k : Int))] ∧ H' = H ∧ k ≤ row.length ∧ KindM.ahead (row.drop k) = some rest ∧ m = row.length - k, ⟨_, 0, rfl, rfl, Nat.zero_le _, ha, rfl⟩, ?_⟩
    rintro m σ H' ⟨k, rfl, rfl, k1, k2, rfl⟩
    have kl : k < row.length := by
      rcases Nat.lt_or_ge k row.length with h | h
      · exact h
      · rw [List.drop_eq_nil_of_le h] at k2
        cases k2
    have e1 : row.drop k = row[k] :: row.drop (k + 1) := (List.drop_eq_getElem_cons kl)
    refine ⟨_, rfl, _, rfl, l, _, (k : Int), .int (row[k] : Nat), rfl, rfl, SqL.of hl', atI_nat (by rw [List.getElem?_map, List.getElem?_eq_getElem kl]; rfl), rfl, _, rfl, iteE (fun g => ?_) (fun g => ?_)⟩
    · refine ⟨fun σ' H'' => ∃ k' : Nat, σ' = [some (.ref l), some (.int (k' : Int))] ∧ H'' = H' ∧ k' ≤ row.length ∧ KindM.ahead (row.drop k') = some rest ∧ row.length - k' < row.length - k, fun σ' H'' ⟨k', b1, b2, b3, b4, b5⟩ => ⟨_, b5, k', b1, b2, b3, b4, rfl⟩, ?_⟩
      have g0 : row[k] = 0 := by omega
      rw [e1, g0] at k2
      exact ⟨_, rfl, _, _, rfl, rfl, k + 1, rfl, rfl, by omega, k2, by omega⟩
    · have g0 : row[k] ≠ 0 := by omega
      rw [e1, KindM.ahead_pos g0] at k2
      exact ⟨_, rfl, q k (by rw [e1]; exact Option.some.inj k2) k1⟩
theorem ok_root_times (T : Txt K mg C_Form C_Ring C_Element) : Def P w K mg base 2 "root_times" ["coefficients", "prime"] (sp_root_times K C_Form C_Ring C_Element) := by
  obtain ⟨f_, fd_, g_, F_⟩ := T.d_root_times
  obtain ⟨f_less_root, fd_less_root, g_less_root, k_less_root, b_less_root, G_less_root⟩ := (ok_less_root (P := P) (w := w) (base := base) T)
  obtain ⟨f_places_of_roots, fd_places_of_roots, g_places_of_roots, k_places_of_roots, b_places_of_roots, G_places_of_roots⟩ := (ok_places_of_roots (P := P) (w := w) (base := base) T)
  obtain ⟨f_times_at_end, fd_times_at_end, g_times_at_end, k_times_at_end, b_times_at_end, G_times_at_end⟩ := (ok_times_at_end (P := P) (w := w) (base := base) T)
  obtain ⟨f_value_at, fd_value_at, g_value_at, k_value_at, b_value_at, G_value_at⟩ := (ok_value_at (P := P) (w := w) (base := base) T)
  refine ⟨f_, fd_, g_, F_.kp, F_.binds (ps := ["coefficients", "prime"]) (fun _ _ _ _ _ _ us hl => match us, hl with | [_, _], _ => rfl), ?_⟩
  refine F_.ok sc_root_times (fun vs H Q E h => ?_) (fun cdv A outer s H vs Q E hr h => ?_)
  · first | (obtain ⟨rfl, _⟩ := h; rfl) | (obtain ⟨_, rfl, _⟩ := h; rfl) | (obtain ⟨_, _, rfl, _⟩ := h; rfl) | (obtain ⟨_, _, _, rfl, _⟩ := h; rfl) | (obtain ⟨_, _, _, _, rfl, _⟩ := h; rfl) | (obtain ⟨_, _, _, _, _, rfl, _⟩ := h; rfl) | (obtain ⟨_, _, _, _, _, _, rfl, _⟩ := h; rfl) | (obtain ⟨_, _, _, _, _, _, _, rfl, _⟩ := h; rfl) | (obtain ⟨_, _, _, _, _, _, _, _, rfl, _⟩ := h; rfl) | (obtain ⟨_, _, _, _, _, _, _, _, _, rfl, _⟩ := h; rfl) | (obtain ⟨_, _, _, _, _, _, _, _, _, _, rfl, _⟩ := h; rfl) | (obtain ⟨_, _, _, _, _, _, _, _, _, _, _, rfl, _⟩ := h; rfl) | (obtain ⟨_, _, _, _, _, _, _, _, _, _, _, _, rfl, _⟩ := h; rfl) | (obtain ⟨_, _, _, _, _, _, _, _, _, _, _, _, _, rfl, _⟩ := h; rfl) | (obtain ⟨_, _, _, _, _, _, _, _, _, _, _, _, _, _, rfl, _⟩ := h; rfl) | (obtain ⟨_, _, _, _, _, _, _, _, _, _, _, _, _, _, _, rfl, _⟩ := h; rfl) | (obtain ⟨_, _, _, _, _, _, _, _, _, _, _, _, _, _, _, _, rfl, _⟩ := h; rfl) | (obtain ⟨_, _, _, _, _, _, _, _, _, _, _, _, _, _, _, _, _, rfl, _⟩ := h; rfl) | (obtain ⟨_, _, _, _, _, _, _, _, _, _, _, _, _, _, _, _, _, _, rfl, _⟩ := h; rfl) | (obtain ⟨_, _, _, _, _, _, _, _, _, _, _, _, _, _, _, _, _, _, _, rfl, _⟩ := h; rfl) | (obtain ⟨_, _, _, _, _, _, _, _, _, _, _, _, _, _, _, _, _, _, _, _, rfl, _⟩ := h; rfl) | (obtain ⟨_, _, _, _, _, _, _, _, _, _, _, _, _, _, _, _, _, _, _, _, _, rfl, _⟩ := h; rfl) | (obtain ⟨_, _, _, _, _, _, _, _, _, _, _, _, _, _, _, _, _, _, _, _, _, _, rfl, _⟩ := h; rfl) | (obtain ⟨_, _, _, _, _, _, _, _, _, _, _, _, _, _, _, _, _, _, _, _, _, _, _, rfl, _⟩ := h; rfl)
  · obtain ⟨t, a, b, c, d, p, rfl, ht, hp, ha, hb, hc, hd, h0, q⟩ := h
    obtain ⟨A_END, h_END, i_END⟩ := T.k_END
    refine ⟨_, (pss_cons (ps_setLc (i := 2) (own := [("number", 6)]) (g := (gName 6)) rfl sc_root_times.nd rfl rfl (sw_true rfl rfl rfl (by decide +kernel)) (pi_tup (pv 0)) (blkOk_by (N := N_root_times) (sc := defScope s_root_times) (by decide +kernel)) (fun _ _ _ _ _ => (pg_name (i := 6) sc_root_times.nd rfl (.inl rfl))) (fun _ _ _ _ _ => pts_nil) (fun _ _ _ _ _ => (pe_op op_mod (pv 6) (pv 1))))
    (pss_cons (ps_set (i := 3) sc_root_times.nd rfl (.inl rfl) (pe_lst pa_nil))
    (pss_cons (ps_for PassesOwn.never rfl (pi_list (pe_call G_places_of_roots (hr.mono (by decide)) (by rfl) g_places_of_roots k_places_of_roots b_places_of_roots .nil pass0 (pa_cons (pv 0) (pa_cons (pv 1) pa_nil)))) (pg_name (i := 4) sc_root_times.nd rfl (.inl rfl))
      (pss_cons (ps_set (i := 5) sc_root_times.nd rfl (.inl rfl) pe_int)
    (Evl.pss_cut (ps_if (pt_cmpR (op_eqD hr.units) (pv 4) (pe_glob (v := .ref A_END) (by rfl) h_END rfl) (nomark _))
      (pss_cons (ps_set (i := 5) sc_root_times.nd rfl (.inl rfl) (pe_call G_times_at_end (hr.mono (by decide)) (by rfl) g_times_at_end k_times_at_end b_times_at_end .nil pass0 (pa_cons (pv 2) pa_nil)))
    (pss_one (ps_set (i := 2) sc_root_times.nd rfl (.inl rfl) (pe_slice sl_list (pv 2) (po_some (pv 5)) po_none))))
      pss_nil)
    (pss_cons (ps_while PassesOwn.never (PW.pt (pw_and (pt_cmpR op_eq (pe_call G_value_at (hr.mono (by decide)) (by rfl) g_value_at k_value_at b_value_at .nil pass0 (pa_cons (pv 2) (pa_cons (pe_ix ix_tup (pv 4) pe_int (fun _ _ => rfl)) (pa_cons (pv 1) pa_nil)))) pe_int (nomark _)) (pw_and1 (pt_cmpR (op_neD hr.units) (pv 4) (pe_glob (v := .ref A_END) (by rfl) h_END rfl) (nomark _)))))
      (pss_cons (ps_set (i := 2) sc_root_times.nd rfl (.inl rfl) (pe_call G_less_root (hr.mono (by decide)) (by rfl) g_less_root k_less_root b_less_root .nil pass0 (pa_cons (pv 2) (pa_cons (pe_ix ix_tup (pv 4) pe_int (fun _ _ => rfl)) (pa_cons (pv 1) pa_nil)))))
    (pss_one (ps_aug (i := 5) sc_root_times.nd rfl (.inl rfl) pe_int ip_add))))
    (pss_one (ps_expr (pe_bm PySem.F.plainAttrs_list PySem.F.slot_list_append PySem.F.type_list_append mt_append (pv 3) (pa_cons (pe_tup (pa_cons (pv 4) (pa_cons (pv 5) pa_nil))) pa_nil))))))))
    (pss_one (ps_ret (pe_tup (pa_cons (pv 3) (pa_cons (pv 2) pa_nil)))))))), ?_⟩
    have p0 : (0 : Int) < (p : Int) := by omega
    have pN : 0 < p := by omega
    obtain ⟨rest, hgo, hfin⟩ := KindM.fine_out hp ha hb hc hd h0
    have sm : ∀ z ∈ KindM.sorted p [a, b, c, d], (z.2 = 1 ∧ z.1 < p) ∨ z = (1, 0) := fun z hz => KindM.sorted_mem hp ha hb hc hd hz
    have eqq : ∀ qs : List (Int × Int), qs.Perm (rootsL a b c d p) → qs.Pairwise lexP → qs = (KindM.sorted p [a, b, c, d]).map KindM.zI := fun qs pm srt => KindM.sorted_eq hp ha hb hc hd (by rw [← rootsL_eq]; exact pm) srt
    generalize hS : KindM.sorted p [a, b, c, d] = S at *
    refine ⟨_, rfl, t, rfl, ⟨_, SqT.of ht⟩, ?_⟩
    refine lcT fm0 trivial (SqT.of ht) (fun z => z) (fun i acc _ => acc = ((([a, b, c, d] : List Nat).map fun (n : Nat) => V.int (n : Int)).take i)) (fun _ _ => rfl) (fun D i v acc H' hD hv e hA hlen hp => ?_) (fun D H1 acc hD e1 hA hp' => ?_)
    · obtain ⟨n, hn, rfl⟩ := get_int hv
      have hi : i < 4 := (List.getElem?_eq_some_iff.mp hn).1
      refine ⟨rfl, ?_⟩
      refine ⟨_, rfl, _, rfl, _, _, rfl, rfl, p0, ?_⟩
      refine cs_yes fm0 trivial hD e hA hlen (by omega) (Fx.refl trivial) ?_
      show acc ++ [V.int (n % (p : Int))] = _
      rw [hp]
      match i, hn with
      | 0, hn => rw [← Option.some.inj hn, Int.emod_eq_of_lt (by omega) (by omega)]; rfl
      | 1, hn => rw [← Option.some.inj hn, Int.emod_eq_of_lt (by omega) (by omega)]; rfl
      | 2, hn => rw [← Option.some.inj hn, Int.emod_eq_of_lt (by omega) (by omega)]; rfl
      | 3, hn => rw [← Option.some.inj hn, Int.emod_eq_of_lt (by omega) (by omega)]; rfl
    have hp2 : acc = ([a, b, c, d] : List Nat).map fun (n : Nat) => V.int (n : Int) := hp'
    subst hp2
    have hD1 : RwN H1 D [a, b, c, d] := hA
    refine ⟨Nat.zero_le _, fun f nf => ?_⟩
    have ef := Ex0.new (o := .lst []) nf
    have hf0 : upd H1 f (.lst []) f = some (.lst []) := upd_same
    generalize hH2 : upd H1 f (.lst []) = H2 at *
    have ht2 := Ex0.ti (Fx.trans e1 ef) ht
    refine ⟨_, rfl, _, rfl, t, a, b, c, d, p, rfl, ht2, by omega, by omega, fun l H3 ys qs e3 nl hl hP pm srt => ?_⟩
    have hq := eqq qs pm srt
    subst hq
    have hlenY : ys.length = S.length := by rw [hP.len, List.length_map]
    have nlf : l ≠ f := by
      rintro rfl
      rw [hf0] at nl
      cases nl
    refine ⟨l, rfl, ⟨_, SqL.of hl⟩, ?_⟩
    have hf3 := Ex0.ap e3 hf0
    have nDf : D ≠ f := by
      rintro rfl
      rw [hA] at nf
      cases nf
    have hD3 : RwN H3 D [a, b, c, d] := Ex0.ap (ef.trans e3) hD1
    have e13 : Ex0 H1 H3 := ef.trans e3
    have sl4S : S.length ≤ 4 := by
      have h1 := pm.length_eq
      have h2 := roots_len a b c d p (by omega)
      rw [List.length_map] at h1
      have h3 : (rootsL a b c d p).length ≤ p + 1 := by
        unfold rootsL
        rw [List.length_append, List.length_map]
        have h1 := List.length_filter_le (fun (x : Nat) => rootB a b c d p x 1) (List.range p)
        rw [List.length_range] at h1
        by_cases g : (a : Int) % (p : Int) = 0
        · rw [if_pos g, List.length_singleton]; omega
        · rw [if_neg g, List.length_nil]; omega
      omega
    clear hH2
    refine for_list (xs := ys) (fun i σ H' => ∃ (r : Addr) (row : List Nat) (fs : List V) (y4 y5 : Option V), σ = [some (.ref t), some (.int (p : Int)), some (.ref r), some (.ref f), y4, y5, none] ∧ Ex0 H1 H' ∧ RwN H' r row ∧ (∀ n ∈ row, n < 10) ∧ row.length ≤ 4 ∧ r ≠ f ∧ H' f = some (.lst fs) ∧ fs.length = i ∧ H' l = some (.lst ys) ∧ PrT K H' ys (S.map KindM.zI) ∧ KindM.go p (S.drop i) row = some rest) ⟨D, [a, b, c, d], [], none, none, rfl, e13, hD3, fun n hn => by simp only [List.mem_cons, List.mem_nil_iff, or_false] at hn; omega, Nat.le_refl 4, nDf, hf3, rfl, hl, hP, hgo⟩ (fun i σ H' _ ⟨_, _, _, _, _, _, _, _, _, _, _, _, _, h, _⟩ => SqL.of h) ?_ ?_
    · rintro i v σ H4 hv ⟨r, row, fs, y4, y5, rfl, e4, hr4, hrow, hrl, nrf, hf4, hfl, hl4, hP4, hgo4⟩
      obtain ⟨u, x, y, rfl, hxy, hu⟩ := hP4.get hv
      rw [List.getElem?_map] at hxy
      obtain ⟨⟨x', y'⟩, hz, e⟩ := Option.map_eq_some_iff.mp hxy
      obtain ⟨rfl, rfl⟩ := Prod.mk.inj e
      have hiS : i < S.length := (List.getElem?_eq_some_iff.mp hz).1
      have hdrop : S.drop i = (x', y') :: S.drop (i + 1) := by
        rw [List.drop_eq_getElem_cons hiS]
        congr 1
        exact (List.getElem?_eq_some_iff.mp hz).2
      rw [hdrop] at hgo4
      have hmem := sm (x', y') (List.mem_of_getElem? hz)
      have hx3 : x' < 10 := by
        rcases hmem with ⟨_, h⟩ | h
        · have : x' < p := h
          omega
        · have : x' = 1 := (Prod.mk.inj h).1
          omega
      have ne1 : ∀ (z : Nat), (decide (([(z : Int), ((1 : Nat) : Int)] : List Int) = [1, 0])) = false := fun z => decide_eq_false (fun z => by injection z with _ z; injection z with z; cases z)
      refine ⟨fun σ H' => ∃ (r : Addr) (row : List Nat) (k : Int), σ = [some (.ref t), some (.int (p : Int)), some (.ref r), some (.ref f), some (.ref u), some (.int k), none] ∧ Ex0 H4 H' ∧ RwN H' r row ∧ (∀ n ∈ row, n < 10) ∧ row.length ≤ 4 ∧ r ≠ f ∧ (((x', y') = (1, 0) ∧ KindM.go p (S.drop (i + 1)) row = some rest) ∨ (y' = 1 ∧ ∃ row'', KindM.strip p x' 5 row = some row'' ∧ KindM.go p (S.drop (i + 1)) row'' = some rest)), ?_, ?_⟩
      · refine ⟨_, rfl, .tuple (([(x' : Int), (y' : Int)] : List Int).map .int), .tuple (([1, 0] : List Int).map .int), .tup hu (dp_ints [(x' : Int), (y' : Int)]), .tup (i_END H4) (dp_ints [1, 0]), shaped_tints _, shaped_tints _, _, rfl, ?_⟩
        rw [PyData.eqv, eqv_ints]
        rcases hmem with ⟨h1, h2⟩ | h
        · have hy : y' = 1 := h1
          subst hy
          rw [ne1]
          refine iteF ?_
          obtain ⟨row'', g1, g2⟩ := KindM.go_one hgo4
          exact ⟨r, row, 0, rfl, Ex0.refl H4, hr4, hrow, hrl, nrf, .inr ⟨rfl, row'', g1, g2⟩⟩
        · obtain ⟨rfl, rfl⟩ := Prod.mk.inj h
          rw [show decide (([((1 : Nat) : Int), ((0 : Nat) : Int)] : List Int) = [1, 0]) = true from by decide]
          refine iteT ?_
          obtain ⟨row', g1, g2⟩ := KindM.go_end hgo4
          refine ⟨_, rfl, r, row, row', rfl, hr4, g1, hrl, fun k hk kle => ?_⟩
          have hr4' : H4 r = some (.lst (row.map fun (n : Nat) => V.int (n : Int))) := hr4
          refine ⟨_, rfl, _, rfl, _, rfl, r, _, rfl, SqL.of hr4', fun sl nsl => ?_⟩
          rw [cut_from (show k ≤ (row.map fun (n : Nat) => V.int (n : Int)).length by rw [List.length_map]; exact kle), ← List.map_drop, hk]
          have es := Ex0.new (o := .lst (row'.map fun (n : Nat) => V.int (n : Int))) nsl
          refine ⟨sl, row', k, rfl, es, upd_same, fun n hn => hrow n (List.mem_of_mem_drop (hk ▸ hn)), by rw [← hk, List.length_drop]; omega, ?_, .inl ⟨rfl, g2⟩⟩
          rintro rfl
          rw [hf4] at nsl
          cases nsl
      rintro σ H5 ⟨r5, row5, k5, rfl, e5, hr5, hrow5, hrl5, nrf5, hcase⟩
      have hu5 := Fx.sqT e5 (fun z => z) hu
      refine ⟨fun m σ H' => ∃ (r : Addr) (row : List Nat) (k : Int), σ = [some (.ref t), some (.int (p : Int)), some (.ref r), some (.ref f), some (.ref u), some (.int k), none] ∧ Ex0 H5 H' ∧ RwN H' r row ∧ (∀ n ∈ row, n < 10) ∧ row.length ≤ 4 ∧ r ≠ f ∧ (((x', y') = (1, 0) ∧ KindM.go p (S.drop (i + 1)) row = some rest) ∨ (y' = 1 ∧ ∃ row'', KindM.strip p x' m row = some row'' ∧ KindM.go p (S.drop (i + 1)) row'' = some rest)), ⟨5, r5, row5, k5, rfl, Ex0.refl H5, hr5, hrow5, hrl5, nrf5, hcase⟩, ?_⟩
      rintro m σ H6 ⟨r6, row6, k6, rfl, e6, hr6, hrow6, hrl6, nrf6, hcase6⟩
      have hu6 := Fx.sqT e6 (fun z => z) hu5
      refine ⟨_, rfl, _, rfl, u, _, 0, .int (x' : Int), rfl, rfl, hu6, rfl, _, rfl, r6, row6, x', p, rfl, hr6, pN, by omega, hx3, hrow6, hrl6, rfl, _, rfl, iteE (fun g => ?_) (fun g => ?_)⟩
      · refine ⟨_, rfl, .tuple (([(x' : Int), (y' : Int)] : List Int).map .int), .tuple (([1, 0] : List Int).map .int), .tup hu6 (dp_ints [(x' : Int), (y' : Int)]), .tup (i_END H6) (dp_ints [1, 0]), shaped_tints _, shaped_tints _, _, rfl, ?_⟩
        rw [PyData.eqv, eqv_ints]
        rcases hcase6 with ⟨h, g2⟩ | ⟨rfl, row'', g1, g2⟩
        · obtain ⟨rfl, rfl⟩ := Prod.mk.inj h
          rw [show decide (([((1 : Nat) : Int), ((0 : Nat) : Int)] : List Int) = [1, 0]) = true from by decide]
          refine iteF ?_
          have e46 := e5.trans e6
          have hf6 := Ex0.ap e46 hf4
          refine ⟨_, rfl, .inl ⟨rfl, _, SqL.of hf6⟩, _, rfl, _, rfl, sl2, fun z nz => ?_⟩
          have ez := Ex0.new (o := .tup [.ref u, .int k6]) nz
          refine ⟨f, fs, _, rfl, rfl, Ex0.ap ez hf6, Nat.lt_of_le_of_lt (show fs.length ≤ 4 by omega) (by decide), ?_⟩
          have e4z := e46.trans ez
          refine ⟨r6, row6, fs ++ [.ref z], _, _, rfl, Fx.mut fm0 (e4.trans e4z) trivial nf, ?_, hrow6, hrl6, nrf6, upd_same, by rw [List.length_append]; show fs.length + 1 = i + 1; rw [hfl], ?_, (hP4.ex e4z).upd (Ex0.ap e4z hf4), g2⟩
          · unfold RwN
            rw [upd_ne nrf6]
            exact Ex0.ap ez hr6
          · rw [upd_ne nlf]
            exact Ex0.ap e4z hl4
        · rw [ne1]
          refine iteT ?_
          obtain ⟨m', rfl, g3, g4⟩ := KindM.strip_zero g1 (by omega)
          refine ⟨fun σ' H'' => ∃ (r : Addr) (row : List Nat) (k : Int), σ' = [some (.ref t), some (.int (p : Int)), some (.ref r), some (.ref f), some (.ref u), some (.int k), none] ∧ Ex0 H5 H'' ∧ RwN H'' r row ∧ (∀ n ∈ row, n < 10) ∧ row.length ≤ 4 ∧ r ≠ f ∧ KindM.strip p x' m' row = some row'', fun σ' H'' ⟨r, row, k, b1, b2, b3, b4, b5, b6, b7⟩ => ⟨m', Nat.lt_succ_self _, r, row, k, b1, b2, b3, b4, b5, b6, .inr ⟨rfl, row'', b7, g2⟩⟩, ?_⟩
          refine ⟨_, rfl, _, rfl, u, _, 0, .int (x' : Int), rfl, rfl, hu6, rfl, _, rfl, r6, row6, x', p, rfl, hr6, pN, by omega, hx3, hrow6, by omega, hrl6, fun r7 H7 e7 nr7 hr7 => ?_⟩
          refine ⟨_, rfl, _, _, rfl, rfl, r7, KindM.lessN p x' row6, k6 + 1, rfl, e6.trans e7, hr7, fun n hn => Nat.lt_trans (KindM.lessG_lt pN row6 0 n hn) (by omega), ?_, ?_, g4⟩
          · show (KindM.lessG p x' 0 row6).length ≤ 4
            rw [KindM.lessG_length]
            omega
          · rintro rfl
            rw [Ex0.ap (e5.trans e6) hf4] at nr7
            cases nr7
      · refine iteF ?_
        have g9 : KindM.go p (S.drop (i + 1)) row6 = some rest := by
          rcases hcase6 with ⟨_, g2⟩ | ⟨_, row'', g1, g2⟩
          · exact g2
          · rw [KindM.strip_pos g1 (by omega)]
            exact g2
        have e46 := e5.trans e6
        have hf6 := Ex0.ap e46 hf4
        refine ⟨_, rfl, .inl ⟨rfl, _, SqL.of hf6⟩, _, rfl, _, rfl, sl2, fun z nz => ?_⟩
        have ez := Ex0.new (o := .tup [.ref u, .int k6]) nz
        refine ⟨f, fs, _, rfl, rfl, Ex0.ap ez hf6, Nat.lt_of_le_of_lt (show fs.length ≤ 4 by omega) (by decide), ?_⟩
        have e4z := e46.trans ez
        refine ⟨r6, row6, fs ++ [.ref z], _, _, rfl, Fx.mut fm0 (e4.trans e4z) trivial nf, ?_, hrow6, hrl6, nrf6, upd_same, by rw [List.length_append]; show fs.length + 1 = i + 1; rw [hfl], ?_, (hP4.ex e4z).upd (Ex0.ap e4z hf4), g9⟩
        · unfold RwN
          rw [upd_ne nrf6]
          exact Ex0.ap ez hr6
        · rw [upd_ne nlf]
          exact Ex0.ap e4z hl4
    · rintro σ H4 ⟨r, row, fs, y4, y5, rfl, e4, hr4, hrow, hrl, nrf, hf4, hfl, hl4, hP4, hgo4⟩
      rw [hlenY, List.drop_length] at hgo4
      have hgo4 := Option.some.inj hgo4
      subst hgo4
      refine ⟨_, rfl, _, rfl, sl2, fun o no => ?_⟩
      have eo := Ex0.new (o := .tup [.ref f, .ref r]) no
      refine q o f r fs row _ ((Fx.trans e1 e4).trans eo) upd_same (Ex0.ap eo hf4) (Ex0.ap eo hr4) hrl (by omega) ?_
      rw [hfl, hlenY]
      exact hfin
theorem ok_kind_by_roots (T : Txt K mg C_Form C_Ring C_Element) : Def P w K mg base 3 "kind_by_roots" ["coefficients", "prime"] (sp_kind_by_roots K C_Form C_Ring C_Element) := by
  obtain ⟨f_, fd_, g_, F_⟩ := T.d_kind_by_roots
  obtain ⟨f_root_times, fd_root_times, g_root_times, k_root_times, b_root_times, G_root_times⟩ := (ok_root_times (P := P) (w := w) (base := base) T)
  refine ⟨f_, fd_, g_, F_.kp, F_.binds (ps := ["coefficients", "prime"]) (fun _ _ _ _ _ _ us hl => match us, hl with | [_, _], _ => rfl), ?_⟩
  refine F_.ok sc_kind_by_roots (fun vs H Q E h => ?_) (fun cdv A outer s H vs Q E hr h => ?_)
  · first | (obtain ⟨rfl, _⟩ := h; rfl) | (obtain ⟨_, rfl, _⟩ := h; rfl) | (obtain ⟨_, _, rfl, _⟩ := h; rfl) | (obtain ⟨_, _, _, rfl, _⟩ := h; rfl) | (obtain ⟨_, _, _, _, rfl, _⟩ := h; rfl) | (obtain ⟨_, _, _, _, _, rfl, _⟩ := h; rfl) | (obtain ⟨_, _, _, _, _, _, rfl, _⟩ := h; rfl) | (obtain ⟨_, _, _, _, _, _, _, rfl, _⟩ := h; rfl) | (obtain ⟨_, _, _, _, _, _, _, _, rfl, _⟩ := h; rfl) | (obtain ⟨_, _, _, _, _, _, _, _, _, rfl, _⟩ := h; rfl) | (obtain ⟨_, _, _, _, _, _, _, _, _, _, rfl, _⟩ := h; rfl) | (obtain ⟨_, _, _, _, _, _, _, _, _, _, _, rfl, _⟩ := h; rfl) | (obtain ⟨_, _, _, _, _, _, _, _, _, _, _, _, rfl, _⟩ := h; rfl) | (obtain ⟨_, _, _, _, _, _, _, _, _, _, _, _, _, rfl, _⟩ := h; rfl) | (obtain ⟨_, _, _, _, _, _, _, _, _, _, _, _, _, _, rfl, _⟩ := h; rfl) | (obtain ⟨_, _, _, _, _, _, _, _, _, _, _, _, _, _, _, rfl, _⟩ := h; rfl) | (obtain ⟨_, _, _, _, _, _, _, _, _, _, _, _, _, _, _, _, rfl, _⟩ := h; rfl) | (obtain ⟨_, _, _, _, _, _, _, _, _, _, _, _, _, _, _, _, _, rfl, _⟩ := h; rfl) | (obtain ⟨_, _, _, _, _, _, _, _, _, _, _, _, _, _, _, _, _, _, rfl, _⟩ := h; rfl) | (obtain ⟨_, _, _, _, _, _, _, _, _, _, _, _, _, _, _, _, _, _, _, rfl, _⟩ := h; rfl) | (obtain ⟨_, _, _, _, _, _, _, _, _, _, _, _, _, _, _, _, _, _, _, _, rfl, _⟩ := h; rfl) | (obtain ⟨_, _, _, _, _, _, _, _, _, _, _, _, _, _, _, _, _, _, _, _, _, rfl, _⟩ := h; rfl) | (obtain ⟨_, _, _, _, _, _, _, _, _, _, _, _, _, _, _, _, _, _, _, _, _, _, rfl, _⟩ := h; rfl) | (obtain ⟨_, _, _, _, _, _, _, _, _, _, _, _, _, _, _, _, _, _, _, _, _, _, _, rfl, _⟩ := h; rfl)
  · obtain ⟨t, a, b, c, d, p, rfl, ht, hp, ha, hb, hc, hd, h0, q⟩ := h
    refine ⟨_, (pss_cons (ps_asg (pe_call G_root_times (hr.mono (by decide)) (by rfl) g_root_times k_root_times b_root_times .nil pass0 (pa_cons (pv 0) (pa_cons (pv 1) pa_nil))) (pg_tup (by rfl) (pgs_cons (pg_name (i := 2) sc_kind_by_roots.nd rfl (.inl rfl)) (pgs_cons (pg_name (i := 3) sc_kind_by_roots.nd rfl (.inl rfl)) pgs_nil))))
    (pss_cons (ps_if (pt_cmpR op_gt (pe_callB call_len_seq (by rfl) T.b_len PySem.boot_len (pa_cons (pv 3) pa_nil)) pe_int (nomark _))
      (pss_one (ps_ret (pe_ifExp (pt_cmpR op_eq (pe_callB call_len_seq (by rfl) T.b_len PySem.boot_len (pa_cons (pv 2) pa_nil)) pe_int (nomark _)) pe_str pe_str)))
      pss_nil)
    (pss_one (ps_ret (pe_ix ix_tup (pe_tup (pa_cons pe_str (pa_cons pe_str (pa_cons pe_str pa_nil)))) (pe_op op_sub (pe_callB call_len_seq (by rfl) T.b_len PySem.boot_len (pa_cons (pv 2) pa_nil)) pe_int) (fun _ _ => rfl)))))), ?_⟩
    refine ⟨_, rfl, _, rfl, t, a, b, c, d, p, rfl, ht, hp, ha, hb, hc, hd, h0, fun x l1 l2 xs rest H' e hx h1 h2 b1 b2 hfin => ?_⟩
    refine ⟨x, _, rfl, SqT.of hx, rfl, _, _, rfl, _, _, rfl, rfl, ?_⟩
    have h2' : H' l2 = some (.lst (rest.map fun (n : Nat) => V.int (n : Int))) := h2
    refine ⟨_, rfl, l2, _, rfl, .inl (SqL.of h2'), _, _, rfl, rfl, _, rfl, ?_⟩
    rw [List.length_map]
    refine iteD (fun g => ?_) (fun g => ?_)
    · refine ⟨_, rfl, l1, xs, rfl, .inl (SqL.of h1), rfl, _, rfl, iteE (fun g => ?_) (fun g => ?_)⟩
      · exact q _ H' (by decide) e
      · exact q _ H' (by decide) e
    · have hx3 : 1 ≤ xs.length ∧ xs.length ≤ 3 := by
        rcases hfin with h | h
        · omega
        · exact h
      refine ⟨sl3, fun o no => ?_⟩
      have e2 := Ex0.new (o := .tup [.str "thrice", .str "twice", .str "three"]) no
      refine ⟨_, rfl, l1, xs, rfl, .inl (SqL.of (Ex0.ap e2 h1)), _, _, rfl, rfl, ?_⟩
      have h : xs.length = 1 ∨ xs.length = 2 ∨ xs.length = 3 := by omega
      rcases h with h | h | h
      · exact ⟨o, _, 0, .str "thrice", rfl, by rw [h]; rfl, SqT.of upd_same, rfl, q _ _ (by decide) (e.trans e2)⟩
      · exact ⟨o, _, 1, .str "twice", rfl, by rw [h]; rfl, SqT.of upd_same, rfl, q _ _ (by decide) (e.trans e2)⟩
      · exact ⟨o, _, 2, .str "three", rfl, by rw [h]; rfl, SqT.of upd_same, rfl, q _ _ (by decide) (e.trans e2)⟩
theorem ok_kind_of (T : Txt K mg C_Form C_Ring C_Element) : Def P w K mg base 4 "kind_of" ["coefficients", "prime"] (sp_kind_of K C_Form C_Ring C_Element) := by
  obtain ⟨f_, fd_, g_, F_⟩ := T.d_kind_of
  obtain ⟨f_form_discriminant, fd_form_discriminant, g_form_discriminant, k_form_discriminant, b_form_discriminant, G_form_discriminant⟩ := (ok_form_discriminant (P := P) (w := w) (base := base) T)
  obtain ⟨f_form_hessian, fd_form_hessian, g_form_hessian, k_form_hessian, b_form_hessian, G_form_hessian⟩ := (ok_form_hessian (P := P) (w := w) (base := base) T)
  obtain ⟨f_kind_by_roots, fd_kind_by_roots, g_kind_by_roots, k_kind_by_roots, b_kind_by_roots, G_kind_by_roots⟩ := (ok_kind_by_roots (P := P) (w := w) (base := base) T)
  obtain ⟨f_places_of_roots, fd_places_of_roots, g_places_of_roots, k_places_of_roots, b_places_of_roots, G_places_of_roots⟩ := (ok_places_of_roots (P := P) (w := w) (base := base) T)
  obtain ⟨f_power_at, fd_power_at, g_power_at, k_power_at, b_power_at, G_power_at⟩ := (ok_power_at (P := P) (w := w) (base := base) T)
  refine ⟨f_, fd_, g_, F_.kp, F_.binds (ps := ["coefficients", "prime"]) (fun _ _ _ _ _ _ us hl => match us, hl with | [_, _], _ => rfl), ?_⟩
  refine F_.ok sc_kind_of (fun vs H Q E h => ?_) (fun cdv A outer s H vs Q E hr h => ?_)
  · first | (obtain ⟨rfl, _⟩ := h; rfl) | (obtain ⟨_, rfl, _⟩ := h; rfl) | (obtain ⟨_, _, rfl, _⟩ := h; rfl) | (obtain ⟨_, _, _, rfl, _⟩ := h; rfl) | (obtain ⟨_, _, _, _, rfl, _⟩ := h; rfl) | (obtain ⟨_, _, _, _, _, rfl, _⟩ := h; rfl) | (obtain ⟨_, _, _, _, _, _, rfl, _⟩ := h; rfl) | (obtain ⟨_, _, _, _, _, _, _, rfl, _⟩ := h; rfl) | (obtain ⟨_, _, _, _, _, _, _, _, rfl, _⟩ := h; rfl) | (obtain ⟨_, _, _, _, _, _, _, _, _, rfl, _⟩ := h; rfl) | (obtain ⟨_, _, _, _, _, _, _, _, _, _, rfl, _⟩ := h; rfl) | (obtain ⟨_, _, _, _, _, _, _, _, _, _, _, rfl, _⟩ := h; rfl) | (obtain ⟨_, _, _, _, _, _, _, _, _, _, _, _, rfl, _⟩ := h; rfl) | (obtain ⟨_, _, _, _, _, _, _, _, _, _, _, _, _, rfl, _⟩ := h; rfl) | (obtain ⟨_, _, _, _, _, _, _, _, _, _, _, _, _, _, rfl, _⟩ := h; rfl) | (obtain ⟨_, _, _, _, _, _, _, _, _, _, _, _, _, _, _, rfl, _⟩ := h; rfl) | (obtain ⟨_, _, _, _, _, _, _, _, _, _, _, _, _, _, _, _, rfl, _⟩ := h; rfl) | (obtain ⟨_, _, _, _, _, _, _, _, _, _, _, _, _, _, _, _, _, rfl, _⟩ := h; rfl) | (obtain ⟨_, _, _, _, _, _, _, _, _, _, _, _, _, _, _, _, _, _, rfl, _⟩ := h; rfl) | (obtain ⟨_, _, _, _, _, _, _, _, _, _, _, _, _, _, _, _, _, _, _, rfl, _⟩ := h; rfl) | (obtain ⟨_, _, _, _, _, _, _, _, _, _, _, _, _, _, _, _, _, _, _, _, rfl, _⟩ := h; rfl) | (obtain ⟨_, _, _, _, _, _, _, _, _, _, _, _, _, _, _, _, _, _, _, _, _, rfl, _⟩ := h; rfl) | (obtain ⟨_, _, _, _, _, _, _, _, _, _, _, _, _, _, _, _, _, _, _, _, _, _, rfl, _⟩ := h; rfl) | (obtain ⟨_, _, _, _, _, _, _, _, _, _, _, _, _, _, _, _, _, _, _, _, _, _, _, rfl, _⟩ := h; rfl)
  · obtain ⟨t, a, b, c, d, p, rfl, ht, hp, p1, q⟩ := h
    refine ⟨_, (pss_cons (ps_set (i := 2) sc_kind_of.nd rfl (.inl rfl) (pe_callTy call_tuple_of (by rfl) T.b_tuple (by decide +kernel) (pa_cons (pe_lc (own := [("number", 3)]) (g := (gName 3)) rfl sc_kind_of.nd (pi_tup (pv 0)) (blkOk_by (N := N_kind_of) (sc := defScope s_kind_of) (by decide +kernel)) (fun _ _ _ _ _ => (pg_name (i := 3) sc_kind_of.nd rfl (.inl rfl))) (fun _ _ _ _ _ => pts_nil) (fun _ _ _ _ _ => (pe_op op_mod (pv 3) (pv 1)))) pa_nil)))
    (pss_cons (ps_if (pt_not (pt_val (pe_callB (cr_anyT rfl) (by rfl) T.b_any (by decide +kernel) (pa_cons (pv 2) pa_nil))))
      (pss_one (ps_ret pe_str))
      pss_nil)
    (pss_cons (ps_if (pt_cmpR op_lt (pv 1) pe_int (nomark _))
      (pss_one (ps_ret (pe_call G_kind_by_roots (hr.mono (by decide)) (by rfl) g_kind_by_roots k_kind_by_roots b_kind_by_roots .nil pass0 (pa_cons (pv 2) (pa_cons (pv 1) pa_nil)))))
      pss_nil)
    (pss_cons (ps_set (i := 3) sc_kind_of.nd rfl (.inl rfl) (pe_op op_mod (pe_call G_form_discriminant (hr.mono (by decide)) (by rfl) g_form_discriminant k_form_discriminant b_form_discriminant .nil pass0 (pa_cons (pv 2) pa_nil)) (pv 1)))
    (pss_cons (ps_if (pt_cmpR op_eq (pv 3) pe_int (nomark _))
      (pss_one (ps_ret (pe_ifExp (pt_val (pe_callB (cr_any rfl) (by rfl) T.b_any (by decide +kernel) (pa_cons (pe_lc (own := [("entry", 4)]) (g := (gName 4)) rfl sc_kind_of.nd (pi_tup (pe_call G_form_hessian (hr.mono (by decide)) (by rfl) g_form_hessian k_form_hessian b_form_hessian .nil pass0 (pa_cons (pv 2) pa_nil))) (blkOk_by (N := N_kind_of) (sc := defScope s_kind_of) (by decide +kernel)) (fun _ _ _ _ _ => (pg_name (i := 4) sc_kind_of.nd rfl (.inl rfl))) (fun _ _ _ _ _ => pts_nil) (fun _ _ _ _ _ => (pe_cmpR op_ne (pe_op op_mod (pv 4) (pv 1)) pe_int (nomark _)))) pa_nil))) pe_str pe_str)))
      pss_nil)
    (pss_cons (ps_if (pt_cmpR op_ne (pe_call G_power_at (hr.mono (by decide)) (by rfl) g_power_at k_power_at b_power_at .nil pass0 (pa_cons (pv 3) (pa_cons (pe_op op_fdivW (pe_op op_sub (pv 1) pe_int) pe_int) (pa_cons (pv 1) pa_nil)))) pe_int (nomark _))
      (pss_one (ps_ret pe_str))
      pss_nil)
    (pss_one (ps_ret (pe_ifExp (pt_cmpR op_gt (pe_callB call_len_seq (by rfl) T.b_len PySem.boot_len (pa_cons (pe_call G_places_of_roots (hr.mono (by decide)) (by rfl) g_places_of_roots k_places_of_roots b_places_of_roots .nil pass0 (pa_cons (pv 2) (pa_cons (pv 1) pa_nil))) pa_nil)) pe_int (nomark _)) pe_str pe_str))))))))), ?_⟩
    have p2 := hp.1
    have p0 : (0 : Int) < (p : Int) := by omega
    have pn : (p : Int) ≠ 0 := by omega
    refine ⟨_, rfl, t, rfl, ⟨_, SqT.of ht⟩, ?_⟩
    refine lcT fm0 trivial (SqT.of ht) (fun z => z) (fun i acc _ => acc = (([a % (p : Int), b % (p : Int), c % (p : Int), d % (p : Int)] : List Int).take i).map V.int) (fun _ _ => rfl) (fun D i v acc H' hD hv e hA hlen hp => ?_) (fun D H1 acc hD e hA hp' => ?_)
    · obtain ⟨n, hn, rfl⟩ := get_int hv
      have hi : i < 4 := (List.getElem?_eq_some_iff.mp hn).1
      refine ⟨rfl, ?_⟩
      refine ⟨_, rfl, _, rfl, _, _, rfl, rfl, p0, ?_⟩
      refine cs_yes fm0 trivial hD e hA hlen (by omega) (Fx.refl trivial) ?_
      show acc ++ [V.int (n % (p : Int))] = _
      rw [hp]
      match i, hn with
      | 0, hn => rw [← Option.some.inj hn]; rfl
      | 1, hn => rw [← Option.some.inj hn]; rfl
      | 2, hn => rw [← Option.some.inj hn]; rfl
      | 3, hn => rw [← Option.some.inj hn]; rfl
    have hp2 : acc = ([a % (p : Int), b % (p : Int), c % (p : Int), d % (p : Int)] : List Int).map V.int := hp'
    subst hp2
    refine ⟨D, _, rfl, .inl ⟨SqL.of hA, fun o no => ?_⟩⟩
    have e1 : Ex0 H (upd H1 o (.tup (([a % (p : Int), b % (p : Int), c % (p : Int), d % (p : Int)] : List Int).map V.int))) := e.trans (Ex0.new no)
    have hu : Ti (upd H1 o (.tup (([a % (p : Int), b % (p : Int), c % (p : Int), d % (p : Int)] : List Int).map V.int))) o [a % (p : Int), b % (p : Int), c % (p : Int), d % (p : Int)] := upd_same
    generalize upd H1 o (.tup (([a % (p : Int), b % (p : Int), c % (p : Int), d % (p : Int)] : List Int).map V.int)) = H2 at *
    have hfull : Full a b c d p ↔ (a % (p : Int) = 0 ∧ b % (p : Int) = 0 ∧ c % (p : Int) = 0 ∧ d % (p : Int) = 0) := by
      unfold Full
      rw [Int.dvd_iff_emod_eq_zero, Int.dvd_iff_emod_eq_zero, Int.dvd_iff_emod_eq_zero, Int.dvd_iff_emod_eq_zero]
    rw [hfull] at q
    obtain ⟨A, hA'⟩ : ∃ n : Nat, a % (p : Int) = n := ⟨(a % (p : Int)).toNat, (Int.toNat_of_nonneg (Int.emod_nonneg a pn)).symm⟩
    obtain ⟨B', hB'⟩ : ∃ n : Nat, b % (p : Int) = n := ⟨(b % (p : Int)).toNat, (Int.toNat_of_nonneg (Int.emod_nonneg b pn)).symm⟩
    obtain ⟨C', hC'⟩ : ∃ n : Nat, c % (p : Int) = n := ⟨(c % (p : Int)).toNat, (Int.toNat_of_nonneg (Int.emod_nonneg c pn)).symm⟩
    obtain ⟨D', hD'⟩ : ∃ n : Nat, d % (p : Int) = n := ⟨(d % (p : Int)).toNat, (Int.toNat_of_nonneg (Int.emod_nonneg d pn)).symm⟩
    have la := Int.emod_lt_of_pos a p0
    have lb := Int.emod_lt_of_pos b p0
    have lc := Int.emod_lt_of_pos c p0
    have ld := Int.emod_lt_of_pos d p0
    rw [hA', hB', hC', hD'] at hu hfull
    rw [hA', hB', hC', hD'] at q
    rw [hA'] at la
    rw [hB'] at lb
    rw [hC'] at lc
    rw [hD'] at ld
    clear hA' hB' hC' hD' hA hfull
    have bA : B 1000 (A : Int) := B.mono (show B 10 (A : Int) from ⟨by show _ < 1024; omega, by decide⟩) (by decide)
    have bB : B 1000 (B' : Int) := B.mono (show B 10 (B' : Int) from ⟨by show _ < 1024; omega, by decide⟩) (by decide)
    have bC : B 1000 (C' : Int) := B.mono (show B 10 (C' : Int) from ⟨by show _ < 1024; omega, by decide⟩) (by decide)
    have bD : B 1000 (D' : Int) := B.mono (show B 10 (D' : Int) from ⟨by show _ < 1024; omega, by decide⟩) (by decide)
    refine ⟨_, rfl, o, [(A : Int), (B' : Int), (C' : Int), (D' : Int)], rfl, SqT.of hu, _, rfl, ?_⟩
    by_cases hz : (A : Int) = 0 ∧ (B' : Int) = 0 ∧ (C' : Int) = 0 ∧ (D' : Int) = 0
    · have hany : ([(A : Int), (B' : Int), (C' : Int), (D' : Int)] : List Int).any (fun n => n != 0) = false := by
        obtain ⟨z1, z2, z3, z4⟩ := hz
        rw [z1, z2, z3, z4]
        rfl
      rw [hany]
      exact iteT (q "all" H2 ⟨fun _ => hz, fun _ => rfl⟩ e1)
    have no' : ∀ s : Str, s ≠ "all" → (s = "all" ↔ ((A : Int) = 0 ∧ (B' : Int) = 0 ∧ (C' : Int) = 0 ∧ (D' : Int) = 0)) := fun s hs => ⟨fun h => absurd h hs, fun h => absurd h hz⟩
    have hany : ([(A : Int), (B' : Int), (C' : Int), (D' : Int)] : List Int).any (fun n => n != 0) = true := by
      rw [List.any_eq_true]
      refine Classical.byContradiction fun h => hz ?_
      have all0 : ∀ n ∈ ([(A : Int), (B' : Int), (C' : Int), (D' : Int)] : List Int), n = 0 := fun n hn => Classical.byContradiction fun g => h ⟨n, hn, by simpa using g⟩
      exact ⟨all0 _ (by simp), all0 _ (by simp), all0 _ (by simp), all0 _ (by simp)⟩
    rw [hany]
    refine iteF ?_
    refine ⟨_, rfl, _, _, rfl, rfl, _, rfl, iteD (fun g => ?_) (fun g => ?_)⟩
    · have p23 : p = 2 ∨ p = 3 := by
        have : p ≠ 4 := by
          rintro rfl
          exact absurd rfl (hp.2 2 (by decide) (by decide))
        omega
      exact ⟨_, rfl, _, rfl, o, A, B', C', D', p, rfl, hu, p23, by omega, by omega, by omega, by omega, fun ⟨h1, h2, h3, h4⟩ => hz ⟨by omega, by omega, by omega, by omega⟩, fun s H' ne e' => q s H' (no' s ne) (e1.trans e')⟩
    refine ⟨_, rfl, o, A, B', C', D', rfl, hu, bA, bB, bC, bD, _, rfl, _, _, rfl, rfl, p0, ?_⟩
    refine ⟨_, rfl, rfl, _, rfl, iteE (fun g => ?_) (fun g => ?_)⟩
    · refine ⟨_, rfl, o, A, B', C', D', rfl, hu, bA, bB, bC, bD, fun x ns H3 len3 e3 hx => ?_⟩
      refine ⟨x, rfl, ⟨_, SqT.of hx⟩, ?_⟩
      refine lcT fm0 trivial (SqT.of hx) (fun z => z) (fun i acc _ => ∃ bs : List Bool, acc = bs.map V.bl) (fun _ _ => ⟨[], rfl⟩) (fun D i v acc H' hD hv e hA hlen hp => ?_) (fun D H4 acc hD e4 hA hp' => ?_)
      · obtain ⟨n, hn, rfl⟩ := get_int hv
        have hi : i < ns.length := (List.getElem?_eq_some_iff.mp hn).1
        refine ⟨rfl, ?_⟩
        refine ⟨_, rfl, _, rfl, _, _, rfl, rfl, p0, rfl, ?_⟩
        refine cs_yes fm0 trivial hD e hA hlen (by omega) (Fx.refl trivial) ?_
        obtain ⟨bs, rfl⟩ := hp
        exact ⟨bs ++ [_], by rw [List.map_append]; rfl⟩
      · obtain ⟨bs, rfl⟩ := hp'
        refine ⟨D, bs, rfl, SqL.of hA, _, rfl, iteB (fun g => ?_) (fun g => ?_)⟩
        · exact q _ H4 (no' _ (by decide)) (e1.trans (Fx.trans e3 e4))
        · exact q _ H4 (no' _ (by decide)) (e1.trans (Fx.trans e3 e4))
    obtain ⟨k, hk⟩ : ∃ n : Nat, fdisc A B' C' D' % (p : Int) = n := ⟨(fdisc A B' C' D' % (p : Int)).toNat, (Int.toNat_of_nonneg (Int.emod_nonneg _ pn)).symm⟩
    have lk := Int.emod_lt_of_pos (fdisc A B' C' D') p0
    rw [hk] at lk
    refine ⟨_, rfl, _, rfl, _, _, rfl, rfl, _, _, rfl, rfl, dw (by decide) (by decide), _, rfl, k, (p - 1) / 2, p, ?_, p2, by omega, by omega, by omega, rfl, _, rfl, ?_⟩
    · have e2 : ((p : Int) - 1) / 2 = (((p - 1) / 2 : Nat) : Int) := by omega
      rw [← hk, ← e2]
      rfl
    · refine iteEn (fun g => q _ H2 (no' _ (by decide)) e1) (fun g => ?_)
      refine ⟨_, rfl, _, rfl, o, A, B', C', D', p, rfl, hu, by omega, p1, fun l H3 ys qs e3 _ hl hP pm srt => ?_⟩
      refine ⟨l, ys, rfl, .inl (SqL.of hl), _, _, rfl, rfl, _, rfl, iteD (fun g => ?_) (fun g => ?_)⟩
      · exact q _ H3 (no' _ (by decide)) (e1.trans e3)
      · exact q _ H3 (no' _ (by decide)) (e1.trans e3)
theorem ok_check_both (T : Txt K mg C_Form C_Ring C_Element) : Def P w K mg base 7 "check_both" ["form", "prime"] (sp_check_both K C_Form C_Ring C_Element) := by
  obtain ⟨f_, fd_, g_, F_⟩ := T.d_check_both
  obtain ⟨f_check_form, fd_check_form, g_check_form, k_check_form, b_check_form, G_check_form⟩ := (ok_check_form (P := P) (w := w) (base := base) T)
  obtain ⟨f_check_prime, fd_check_prime, g_check_prime, k_check_prime, b_check_prime, G_check_prime⟩ := (ok_check_prime (P := P) (w := w) (base := base) T)
  refine ⟨f_, fd_, g_, F_.kp, F_.binds (ps := ["form", "prime"]) (fun _ _ _ _ _ _ us hl => match us, hl with | [_, _], _ => rfl), ?_⟩
  refine F_.ok sc_check_both (fun vs H Q E h => ?_) (fun cdv A outer s H vs Q E hr h => ?_)
  · first | (obtain ⟨rfl, _⟩ := h; rfl) | (obtain ⟨_, rfl, _⟩ := h; rfl) | (obtain ⟨_, _, rfl, _⟩ := h; rfl) | (obtain ⟨_, _, _, rfl, _⟩ := h; rfl) | (obtain ⟨_, _, _, _, rfl, _⟩ := h; rfl) | (obtain ⟨_, _, _, _, _, rfl, _⟩ := h; rfl) | (obtain ⟨_, _, _, _, _, _, rfl, _⟩ := h; rfl) | (obtain ⟨_, _, _, _, _, _, _, rfl, _⟩ := h; rfl) | (obtain ⟨_, _, _, _, _, _, _, _, rfl, _⟩ := h; rfl) | (obtain ⟨_, _, _, _, _, _, _, _, _, rfl, _⟩ := h; rfl) | (obtain ⟨_, _, _, _, _, _, _, _, _, _, rfl, _⟩ := h; rfl) | (obtain ⟨_, _, _, _, _, _, _, _, _, _, _, rfl, _⟩ := h; rfl) | (obtain ⟨_, _, _, _, _, _, _, _, _, _, _, _, rfl, _⟩ := h; rfl) | (obtain ⟨_, _, _, _, _, _, _, _, _, _, _, _, _, rfl, _⟩ := h; rfl) | (obtain ⟨_, _, _, _, _, _, _, _, _, _, _, _, _, _, rfl, _⟩ := h; rfl) | (obtain ⟨_, _, _, _, _, _, _, _, _, _, _, _, _, _, _, rfl, _⟩ := h; rfl) | (obtain ⟨_, _, _, _, _, _, _, _, _, _, _, _, _, _, _, _, rfl, _⟩ := h; rfl) | (obtain ⟨_, _, _, _, _, _, _, _, _, _, _, _, _, _, _, _, _, rfl, _⟩ := h; rfl) | (obtain ⟨_, _, _, _, _, _, _, _, _, _, _, _, _, _, _, _, _, _, rfl, _⟩ := h; rfl) | (obtain ⟨_, _, _, _, _, _, _, _, _, _, _, _, _, _, _, _, _, _, _, rfl, _⟩ := h; rfl) | (obtain ⟨_, _, _, _, _, _, _, _, _, _, _, _, _, _, _, _, _, _, _, _, rfl, _⟩ := h; rfl) | (obtain ⟨_, _, _, _, _, _, _, _, _, _, _, _, _, _, _, _, _, _, _, _, _, rfl, _⟩ := h; rfl) | (obtain ⟨_, _, _, _, _, _, _, _, _, _, _, _, _, _, _, _, _, _, _, _, _, _, rfl, _⟩ := h; rfl) | (obtain ⟨_, _, _, _, _, _, _, _, _, _, _, _, _, _, _, _, _, _, _, _, _, _, _, rfl, _⟩ := h; rfl)
  · obtain ⟨x, ns, p, rfl, hx, hp, p1, q⟩ := h
    refine ⟨_, (pss_cons (ps_expr (pe_call G_check_form (hr.mono (by decide)) (by rfl) g_check_form k_check_form b_check_form .nil pass0 (pa_cons (pv 0) pa_nil)))
    (pss_one (ps_expr (pe_call G_check_prime (hr.mono (by decide)) (by rfl) g_check_prime k_check_prime b_check_prime .nil pass0 (pa_cons (pv 1) pa_nil))))), ?_⟩
    refine ⟨_, rfl, x, ns, rfl, hx, ?_⟩
    exact ⟨_, rfl, p, rfl, by omega, hp, q⟩
theorem ok_map_of (T : Txt K mg C_Form C_Ring C_Element) : Def P w K mg base 1 "map_of" ["coefficients", "prime", "place"] (sp_map_of K C_Form C_Ring C_Element) := by
  obtain ⟨f_, fd_, g_, F_⟩ := T.d_map_of
  refine ⟨f_, fd_, g_, F_.kp, F_.binds (ps := ["coefficients", "prime", "place"]) (fun _ _ _ _ _ _ us hl => match us, hl with | [_, _, _], _ => rfl), ?_⟩
  refine F_.ok sc_map_of (fun vs H Q E h => ?_) (fun cdv A outer s H vs Q E hr h => ?_)
  · first | (obtain ⟨rfl, _⟩ := h; rfl) | (obtain ⟨_, rfl, _⟩ := h; rfl) | (obtain ⟨_, _, rfl, _⟩ := h; rfl) | (obtain ⟨_, _, _, rfl, _⟩ := h; rfl) | (obtain ⟨_, _, _, _, rfl, _⟩ := h; rfl) | (obtain ⟨_, _, _, _, _, rfl, _⟩ := h; rfl) | (obtain ⟨_, _, _, _, _, _, rfl, _⟩ := h; rfl) | (obtain ⟨_, _, _, _, _, _, _, rfl, _⟩ := h; rfl) | (obtain ⟨_, _, _, _, _, _, _, _, rfl, _⟩ := h; rfl) | (obtain ⟨_, _, _, _, _, _, _, _, _, rfl, _⟩ := h; rfl) | (obtain ⟨_, _, _, _, _, _, _, _, _, _, rfl, _⟩ := h; rfl) | (obtain ⟨_, _, _, _, _, _, _, _, _, _, _, rfl, _⟩ := h; rfl) | (obtain ⟨_, _, _, _, _, _, _, _, _, _, _, _, rfl, _⟩ := h; rfl) | (obtain ⟨_, _, _, _, _, _, _, _, _, _, _, _, _, rfl, _⟩ := h; rfl) | (obtain ⟨_, _, _, _, _, _, _, _, _, _, _, _, _, _, rfl, _⟩ := h; rfl) | (obtain ⟨_, _, _, _, _, _, _, _, _, _, _, _, _, _, _, rfl, _⟩ := h; rfl) | (obtain ⟨_, _, _, _, _, _, _, _, _, _, _, _, _, _, _, _, rfl, _⟩ := h; rfl) | (obtain ⟨_, _, _, _, _, _, _, _, _, _, _, _, _, _, _, _, _, rfl, _⟩ := h; rfl) | (obtain ⟨_, _, _, _, _, _, _, _, _, _, _, _, _, _, _, _, _, _, rfl, _⟩ := h; rfl) | (obtain ⟨_, _, _, _, _, _, _, _, _, _, _, _, _, _, _, _, _, _, _, rfl, _⟩ := h; rfl) | (obtain ⟨_, _, _, _, _, _, _, _, _, _, _, _, _, _, _, _, _, _, _, _, rfl, _⟩ := h; rfl) | (obtain ⟨_, _, _, _, _, _, _, _, _, _, _, _, _, _, _, _, _, _, _, _, _, rfl, _⟩ := h; rfl) | (obtain ⟨_, _, _, _, _, _, _, _, _, _, _, _, _, _, _, _, _, _, _, _, _, _, rfl, _⟩ := h; rfl) | (obtain ⟨_, _, _, _, _, _, _, _, _, _, _, _, _, _, _, _, _, _, _, _, _, _, _, rfl, _⟩ := h; rfl)
  · obtain ⟨t, z, a, b, c, d, x, y, p, rfl, ht, hz, p0, p1, ba, bb, bc, bd, hpl, q⟩ := h
    obtain ⟨A_END, h_END, i_END⟩ := T.k_END
    refine ⟨_, (pss_cons (ps_asg (pv 0) (pg_tup (by rfl) (pgs_cons (pg_name (i := 3) sc_map_of.nd rfl (.inl rfl)) (pgs_cons (pg_name (i := 4) sc_map_of.nd rfl (.inl rfl)) (pgs_cons (pg_name (i := 5) sc_map_of.nd rfl (.inl rfl)) (pgs_cons (pg_name (i := 6) sc_map_of.nd rfl (.inl rfl)) pgs_nil))))))
    (pss_cons (ps_if (pt_cmpR (op_eqD hr.units) (pv 2) (pe_glob (v := .ref A_END) (by rfl) h_END rfl) (nomark _))
      (pss_one (ps_ret (pe_tup (pa_cons (pe_op op_mod (pv 4) (pv 1)) (pa_cons pe_int pa_nil)))))
      pss_nil)
    (pss_cons (ps_asg (pv 2) (pg_tup (by rfl) (pgs_cons (pg_name (i := 7) sc_map_of.nd rfl (.inl rfl)) (pgs_cons (pg_name (i := 6) sc_map_of.nd rfl (.inl rfl)) pgs_nil))))
    (pss_one (ps_ret (pe_tup (pa_cons (pe_op op_mod (pe_op op_mulW (pe_un un_neg (pv 3)) (pv 7)) (pv 1)) (pa_cons (pe_op op_mod (pe_un un_neg (pe_op op_add (pe_op op_add (pe_op op_mulW (pe_op op_mulW (pv 3) (pv 7)) (pv 7)) (pe_op op_mulW (pv 4) (pv 7))) (pv 5))) (pv 1)) pa_nil)))))))), ?_⟩
    refine ⟨_, rfl, unI4 ht ?_⟩
    refine ⟨_, rfl, .tuple (([x, y] : List Int).map .int), .tuple (([1, 0] : List Int).map .int), .tup hz (dp_ints [x, y]), .tup (i_END H) (dp_ints [1, 0]), shaped_tints _, shaped_tints _, _, rfl, ?_⟩
    rw [PyData.eqv, eqv_ints]
    rcases hpl with ⟨rfl, h0, h1⟩ | ⟨rfl, rfl⟩
    · rw [decide_eq_false (fun z => by injection z with _ z; injection z with z; cases z)]
      refine iteF ?_
      have bx : B 14 x := ⟨by show _ < 16384; omega, by decide⟩
      have s1 := B.mul ba bx
      have em : MapM.mp a b c p (x, 1) = (-a * x % p, -(a * x * x + b * x + c) % p) := if_neg (by simp)
      rw [em] at q
      refine ⟨_, rfl, z, _, rfl, hz, rfl, _, _, rfl, _, _, rfl, rfl, ?_⟩
      refine ⟨_, rfl, _, rfl, _, rfl, _, _, rfl, rfl, mulB (B.neg ba) bx (by decide), _, rfl, _, _, rfl, rfl, p0, ?_⟩
      refine ⟨_, rfl, _, rfl, _, _, rfl, rfl, mulB ba bx (by decide), _, rfl, _, _, rfl, rfl, mulB s1 bx (by decide), _, rfl, _, rfl, _, _, rfl, rfl, mulB bb bx (by decide), _, _, rfl, rfl, _, rfl, _, _, rfl, rfl, _, rfl, _, rfl, _, _, rfl, rfl, p0, sl2, fun o no => ?_⟩
      exact q o _ (Ex0.new no) upd_same
    · rw [decide_eq_true rfl]
      refine iteT ?_
      have em : MapM.mp a b c p (1, 0) = (b % p, 0) := if_pos rfl
      rw [em] at q
      refine ⟨_, rfl, _, rfl, _, _, rfl, rfl, p0, sl2, fun o no => ?_⟩
      exact q o _ (Ex0.new no) upd_same
theorem ok_kind_at (T : Txt K mg C_Form C_Ring C_Element) : Def P w K mg base 8 "kind_at" ["form", "prime"] (sp_kind_at K C_Form C_Ring C_Element) := by
  obtain ⟨f_, fd_, g_, F_⟩ := T.d_kind_at
  obtain ⟨p_Form_coefficients, f_Form_coefficients, fd_Form_coefficients, R_Form_coefficients, b_Form_coefficients, G_Form_coefficients⟩ := (ok_Form_coefficients (P := P) (w := w) (base := base) T)
  obtain ⟨f_check_both, fd_check_both, g_check_both, k_check_both, b_check_both, G_check_both⟩ := (ok_check_both (P := P) (w := w) (base := base) T)
  obtain ⟨f_kind_of, fd_kind_of, g_kind_of, k_kind_of, b_kind_of, G_kind_of⟩ := (ok_kind_of (P := P) (w := w) (base := base) T)
  refine ⟨f_, fd_, g_, F_.kp, F_.binds (ps := ["form", "prime"]) (fun _ _ _ _ _ _ us hl => match us, hl with | [_, _], _ => rfl), ?_⟩
  refine F_.ok sc_kind_at (fun vs H Q E h => ?_) (fun cdv A outer s H vs Q E hr h => ?_)
  · first | (obtain ⟨rfl, _⟩ := h; rfl) | (obtain ⟨_, rfl, _⟩ := h; rfl) | (obtain ⟨_, _, rfl, _⟩ := h; rfl) | (obtain ⟨_, _, _, rfl, _⟩ := h; rfl) | (obtain ⟨_, _, _, _, rfl, _⟩ := h; rfl) | (obtain ⟨_, _, _, _, _, rfl, _⟩ := h; rfl) | (obtain ⟨_, _, _, _, _, _, rfl, _⟩ := h; rfl) | (obtain ⟨_, _, _, _, _, _, _, rfl, _⟩ := h; rfl) | (obtain ⟨_, _, _, _, _, _, _, _, rfl, _⟩ := h; rfl) | (obtain ⟨_, _, _, _, _, _, _, _, _, rfl, _⟩ := h; rfl) | (obtain ⟨_, _, _, _, _, _, _, _, _, _, rfl, _⟩ := h; rfl) | (obtain ⟨_, _, _, _, _, _, _, _, _, _, _, rfl, _⟩ := h; rfl) | (obtain ⟨_, _, _, _, _, _, _, _, _, _, _, _, rfl, _⟩ := h; rfl) | (obtain ⟨_, _, _, _, _, _, _, _, _, _, _, _, _, rfl, _⟩ := h; rfl) | (obtain ⟨_, _, _, _, _, _, _, _, _, _, _, _, _, _, rfl, _⟩ := h; rfl) | (obtain ⟨_, _, _, _, _, _, _, _, _, _, _, _, _, _, _, rfl, _⟩ := h; rfl) | (obtain ⟨_, _, _, _, _, _, _, _, _, _, _, _, _, _, _, _, rfl, _⟩ := h; rfl) | (obtain ⟨_, _, _, _, _, _, _, _, _, _, _, _, _, _, _, _, _, rfl, _⟩ := h; rfl) | (obtain ⟨_, _, _, _, _, _, _, _, _, _, _, _, _, _, _, _, _, _, rfl, _⟩ := h; rfl) | (obtain ⟨_, _, _, _, _, _, _, _, _, _, _, _, _, _, _, _, _, _, _, rfl, _⟩ := h; rfl) | (obtain ⟨_, _, _, _, _, _, _, _, _, _, _, _, _, _, _, _, _, _, _, _, rfl, _⟩ := h; rfl) | (obtain ⟨_, _, _, _, _, _, _, _, _, _, _, _, _, _, _, _, _, _, _, _, _, rfl, _⟩ := h; rfl) | (obtain ⟨_, _, _, _, _, _, _, _, _, _, _, _, _, _, _, _, _, _, _, _, _, _, rfl, _⟩ := h; rfl) | (obtain ⟨_, _, _, _, _, _, _, _, _, _, _, _, _, _, _, _, _, _, _, _, _, _, _, rfl, _⟩ := h; rfl)
  · obtain ⟨x, a, b, c, d, p, rfl, hx, hp, p1, q⟩ := h
    refine ⟨_, (pss_cons (ps_expr (pe_call G_check_both (hr.mono (by decide)) (by rfl) g_check_both k_check_both b_check_both .nil pass0 (pa_cons (pv 0) (pa_cons (pv 1) pa_nil))))
    (pss_one (ps_ret (pe_call G_kind_of (hr.mono (by decide)) (by rfl) g_kind_of k_kind_of b_kind_of .nil pass0 (pa_cons (pe_prop (pv 0) T.cl_Form R_Form_coefficients G_Form_coefficients (hr.mono (by decide)) b_Form_coefficients .nil pass0 (by rfl)) (pa_cons (pv 1) pa_nil)))))), ?_⟩
    obtain ⟨dx, t0, hx1, hx2⟩ := id hx
    refine ⟨_, rfl, _, rfl, x, _, p, rfl, hx, hp, p1, ?_⟩
    refine ⟨_, rfl, x, dx, _, rfl, hx1, x, _, rfl, hx, fun t ht => ?_⟩
    exact ⟨_, rfl, t, a, b, c, d, p, rfl, ht, hp, p1, q⟩
theorem ok_maps_at (T : Txt K mg C_Form C_Ring C_Element) : Def P w K mg base 8 "maps_at" ["form", "prime"] (sp_maps_at K C_Form C_Ring C_Element) := by
  obtain ⟨f_, fd_, g_, F_⟩ := T.d_maps_at
  obtain ⟨p_Form_coefficients, f_Form_coefficients, fd_Form_coefficients, R_Form_coefficients, b_Form_coefficients, G_Form_coefficients⟩ := (ok_Form_coefficients (P := P) (w := w) (base := base) T)
  obtain ⟨f_check_both, fd_check_both, g_check_both, k_check_both, b_check_both, G_check_both⟩ := (ok_check_both (P := P) (w := w) (base := base) T)
  obtain ⟨f_is_full, fd_is_full, g_is_full, k_is_full, b_is_full, G_is_full⟩ := (ok_is_full (P := P) (w := w) (base := base) T)
  obtain ⟨f_map_of, fd_map_of, g_map_of, k_map_of, b_map_of, G_map_of⟩ := (ok_map_of (P := P) (w := w) (base := base) T)
  obtain ⟨f_places_of_roots, fd_places_of_roots, g_places_of_roots, k_places_of_roots, b_places_of_roots, G_places_of_roots⟩ := (ok_places_of_roots (P := P) (w := w) (base := base) T)
  refine ⟨f_, fd_, g_, F_.kp, F_.binds (ps := ["form", "prime"]) (fun _ _ _ _ _ _ us hl => match us, hl with | [_, _], _ => rfl), ?_⟩
  refine F_.ok sc_maps_at (fun vs H Q E h => ?_) (fun cdv A outer s H vs Q E hr h => ?_)
  · first | (obtain ⟨rfl, _⟩ := h; rfl) | (obtain ⟨_, rfl, _⟩ := h; rfl) | (obtain ⟨_, _, rfl, _⟩ := h; rfl) | (obtain ⟨_, _, _, rfl, _⟩ := h; rfl) | (obtain ⟨_, _, _, _, rfl, _⟩ := h; rfl) | (obtain ⟨_, _, _, _, _, rfl, _⟩ := h; rfl) | (obtain ⟨_, _, _, _, _, _, rfl, _⟩ := h; rfl) | (obtain ⟨_, _, _, _, _, _, _, rfl, _⟩ := h; rfl) | (obtain ⟨_, _, _, _, _, _, _, _, rfl, _⟩ := h; rfl) | (obtain ⟨_, _, _, _, _, _, _, _, _, rfl, _⟩ := h; rfl) | (obtain ⟨_, _, _, _, _, _, _, _, _, _, rfl, _⟩ := h; rfl) | (obtain ⟨_, _, _, _, _, _, _, _, _, _, _, rfl, _⟩ := h; rfl) | (obtain ⟨_, _, _, _, _, _, _, _, _, _, _, _, rfl, _⟩ := h; rfl) | (obtain ⟨_, _, _, _, _, _, _, _, _, _, _, _, _, rfl, _⟩ := h; rfl) | (obtain ⟨_, _, _, _, _, _, _, _, _, _, _, _, _, _, rfl, _⟩ := h; rfl) | (obtain ⟨_, _, _, _, _, _, _, _, _, _, _, _, _, _, _, rfl, _⟩ := h; rfl) | (obtain ⟨_, _, _, _, _, _, _, _, _, _, _, _, _, _, _, _, rfl, _⟩ := h; rfl) | (obtain ⟨_, _, _, _, _, _, _, _, _, _, _, _, _, _, _, _, _, rfl, _⟩ := h; rfl) | (obtain ⟨_, _, _, _, _, _, _, _, _, _, _, _, _, _, _, _, _, _, rfl, _⟩ := h; rfl) | (obtain ⟨_, _, _, _, _, _, _, _, _, _, _, _, _, _, _, _, _, _, _, rfl, _⟩ := h; rfl) | (obtain ⟨_, _, _, _, _, _, _, _, _, _, _, _, _, _, _, _, _, _, _, _, rfl, _⟩ := h; rfl) | (obtain ⟨_, _, _, _, _, _, _, _, _, _, _, _, _, _, _, _, _, _, _, _, _, rfl, _⟩ := h; rfl) | (obtain ⟨_, _, _, _, _, _, _, _, _, _, _, _, _, _, _, _, _, _, _, _, _, _, rfl, _⟩ := h; rfl) | (obtain ⟨_, _, _, _, _, _, _, _, _, _, _, _, _, _, _, _, _, _, _, _, _, _, _, rfl, _⟩ := h; rfl)
  · obtain ⟨x, a, b, c, d, p, rfl, hx, hp, p1, ba, bb, bc, bd, q⟩ := h
    refine ⟨_, (pss_cons (ps_expr (pe_call G_check_both (hr.mono (by decide)) (by rfl) g_check_both k_check_both b_check_both .nil pass0 (pa_cons (pv 0) (pa_cons (pv 1) pa_nil))))
    (pss_cons (ps_if (pt_val (pe_call G_is_full (hr.mono (by decide)) (by rfl) g_is_full k_is_full b_is_full .nil pass0 (pa_cons (pe_prop (pv 0) T.cl_Form R_Form_coefficients G_Form_coefficients (hr.mono (by decide)) b_Form_coefficients .nil pass0 (by rfl)) (pa_cons (pv 1) pa_nil))))
      (pss_one (ps_ret (pe_tup (pa_cons (pe_tup (pa_cons pe_int (pa_cons pe_int pa_nil))) pa_nil))))
      pss_nil)
    (pss_cons (ps_set (i := 2) sc_maps_at.nd rfl (.inl rfl) (pe_call G_places_of_roots (hr.mono (by decide)) (by rfl) g_places_of_roots k_places_of_roots b_places_of_roots .nil pass0 (pa_cons (pe_prop (pv 0) T.cl_Form R_Form_coefficients G_Form_coefficients (hr.mono (by decide)) b_Form_coefficients .nil pass0 (by rfl)) (pa_cons (pv 1) pa_nil))))
    (pss_one (ps_ret (pe_callTy call_tuple_of (by rfl) T.b_tuple (by decide +kernel) (pa_cons (pe_callB cr_sortedPT (by rfl) T.b_sorted (by decide +kernel) (pa_cons (pe_lc (own := [("place", 3)]) (g := (gName 3)) rfl sc_maps_at.nd (pi_list (pv 2)) (blkOk_by (N := N_maps_at) (sc := defScope s_maps_at) (by decide +kernel)) (fun _ _ _ _ _ => (pg_name (i := 3) sc_maps_at.nd rfl (.inl rfl))) (fun _ _ _ _ _ => pts_nil) (fun _ _ _ _ _ => (pe_call G_map_of (hr.mono (by decide)) (by rfl) g_map_of k_map_of b_map_of .nil pass0 (pa_cons (pe_prop (pv 0) T.cl_Form R_Form_coefficients G_Form_coefficients (hr.mono (by decide)) b_Form_coefficients .nil pass0 (by rfl)) (pa_cons (pv 1) (pa_cons (pv 3) pa_nil)))))) pa_nil)) pa_nil))))))), ?_⟩
    obtain ⟨dx, t0, hx1, hx2⟩ := id hx
    refine ⟨_, rfl, _, rfl, x, _, p, rfl, hx, hp, p1, ?_⟩
    have p2 := hp.1
    refine ⟨_, rfl, x, dx, _, rfl, hx1, x, _, rfl, hx, fun t ht => ?_⟩
    refine ⟨_, rfl, t, _, p, rfl, ht, by omega, _, rfl, iteD (fun g => ?_) (fun g => ?_)⟩
    · have hf : Full a b c d p := (full_iff a b c d p).mp g
      refine ⟨sl2, fun o1 n1 => ?_⟩
      have e1 := Ex0.new (o := .tup [.int 0, .int 0]) n1
      refine ⟨sl1, fun o2 n2 => ?_⟩
      have e2 := Ex0.new (o := .tup [.ref o1]) n2
      exact q o2 _ [(0, 0)] _ (e1.trans e2) upd_same (.cons (SqT.of (Ex0.ap e2 upd_same)) .nil) (fun _ => rfl) (fun h => absurd hf h) (by decide)
    · have hf : ¬ Full a b c d p := fun h => g ((full_iff a b c d p).mpr h)
      refine ⟨_, rfl, x, dx, _, rfl, hx1, x, _, rfl, hx, fun t' ht' => ?_⟩
      refine ⟨_, rfl, t', a, b, c, d, p, rfl, ht', by omega, p1, fun l H1 xs ps e1 _ hl hP pm srt => ?_⟩
      have hlen : ps.length ≤ 1001 := by
        rw [pm.length_eq]
        exact roots_len a b c d p (by omega)
      refine ⟨_, rfl, l, rfl, ⟨_, SqL.of hl⟩, ?_⟩
      refine lcL fm0 trivial (SqL.of hl) (fun z => z) (fun i acc H' => PrT K H' acc ((ps.take i).map (MapM.mp a b c p))) (fun _ _ => .nil) (fun D i v acc H2 hD hv e2 hA hn hp' => ?_) (fun D H2 acc hD e2 hA hp' => ?_)
      · obtain ⟨u, y, z, rfl, hi, hu⟩ := hP.get hv
        have hm := pm.mem_iff.mp (List.mem_of_getElem? hi)
        have hpl : Plc (p : Int) y z := rootsL_plc hm
        have e12 := Fx.trans e1 e2
        refine ⟨rfl, ?_⟩
        have hx2' := Ex0.fo e12 hx
        refine ⟨_, rfl, x, dx, _, rfl, Ex0.ap e12 hx1, x, _, rfl, hx2', fun t2 ht2 => ?_⟩
        refine ⟨_, rfl, _, rfl, t2, u, a, b, c, d, y, z, p, rfl, ht2, Fx.sqT e2 (fun z => z) hu, by omega, by omega, ba, bb, bc, bd, hpl, fun w H3 e3 hw => ?_⟩
        refine cs_yes fm0 trivial hD e2 hA hn (by have := (List.getElem?_eq_some_iff.mp hi).1; omega) e3 ?_
        have hA3 := Ex0.ap e3 hA
        rw [List.take_add_one, hi, List.map_append]
        exact ((hp'.ex e3).upd hA3).snoc (sqT_upd hA3 (SqT.of hw))
      · rw [hP.len, List.take_length] at hp'
        have e12 := Fx.trans e1 e2
        refine ⟨D, acc, _, rfl, SqL.of hA, hp', fun ys qs o pm2 srt2 hy no => ?_⟩
        have e3 := Ex0.new (o := .lst ys) no
        refine ⟨o, ys, rfl, .inl ⟨SqL.of upd_same, fun o2 no2 => ?_⟩⟩
        have e4 := Ex0.new (o := .tup ys) no2
        have pm3 : qs.Perm ((MapM.rootsG a b c d p).map (MapM.mp a b c p)) := by
          refine pm2.trans ?_
          rw [← rootsL_eq]
          exact pm.map _
        refine q o2 ys qs _ (e12.trans (e3.trans e4)) upd_same ((hy.ex e3).ex e4) (fun h => absurd h hf) (fun _ => ⟨pm3, srt2⟩) ?_
        rw [pm2.length_eq, List.length_map]
        exact hlen
end
end RG
namespace RG
open PySem PySem.Spec PyProof.Rows L2 Fr
open K05M (fv fl2 fl3 fdisc)
section
def sp_l_crock (K : PySem.W.Frag) (_ _ _ : Addr) : Sp := fun vs H Q _ => ∃ (a : Addr) (ns : List Int) (i : Nat), vs = [.ref a, .int (i : Int)] ∧ SqL K H a (ns.map V.int) ∧ ∀ p H', H p = none → Ex0 H H' → Vat p H' → Q (.ref p) H'
def sp_l_scoop (_ : PySem.W.Frag) (_ _ _ : Addr) : Sp := fun vs H Q _ => ∃ (c : Addr) (t : Int), vs = [.ref c, .int t] ∧ Vat c H ∧ 0 < t ∧ t < 2 ^ 250 ∧ ∀ (r : Int) H', 0 ≤ r → r < t → Fv c H H' → Q (.int r) H'
def sp_l_choose (K : PySem.W.Frag) (_ _ _ : Addr) : Sp := fun vs H Q _ => ∃ (c l : Addr) (xs : List V), vs = [.ref c, .ref l] ∧ Vat c H ∧ H l = some (.lst xs) ∧ l ≠ c ∧ xs ≠ [] ∧ xs.length ≤ 1000 ∧ ∀ v H', v ∈ xs → Fv c H H' → Q v H'
def sp_l_lines (K : PySem.W.Frag) (_ _ _ : Addr) : Sp := fun vs H Q _ => ∃ (l l1 l2 l3 : Addr) (x1 y1 x2 y2 x3 y3 : Int), vs = [.ref l] ∧ H l = some (.lst [.ref l1, .ref l2, .ref l3]) ∧ H l1 = some (.lst [.int x1, .int y1]) ∧ H l2 = some (.lst [.int x2, .int y2]) ∧ H l3 = some (.lst [.int x3, .int y3]) ∧ (∀ z ∈ [x1, y1, x2, y2, x3, y3], z.natAbs ≤ 100000000) ∧ ∀ (r : Addr) (ns : List Int) H', Ex0 H H' → H' r = some (.lst (ns.map V.int)) → ns.length = 4 → (∀ z ∈ ns, z.natAbs ≤ 8000000000000000000000000) → Q (.ref r) H'
end
section
variable {P : Program} {w : World} {K : PySem.W.Frag} {mg : Str → Option Value} {base : Heap} {C_Form C_Ring C_Element : Addr}
theorem ok_l_crock (T : Txt K mg C_Form C_Ring C_Element) : Def P w K mg base 1 "_law_crock" ["_law_script", "_law_turn"] (sp_l_crock K C_Form C_Ring C_Element) := by
  obtain ⟨f_, fd_, g_, F_⟩ := T.d_l_crock
  refine ⟨f_, fd_, g_, F_.kp, F_.binds (ps := ["_law_script", "_law_turn"]) (fun _ _ _ _ _ _ us hl => match us, hl with | [_, _], _ => rfl), ?_⟩
  refine F_.ok sc_l_crock (fun vs H Q E h => ?_) (fun cdv A outer s H vs Q E hr h => ?_)
  · first | (obtain ⟨rfl, _⟩ := h; rfl) | (obtain ⟨_, rfl, _⟩ := h; rfl) | (obtain ⟨_, _, rfl, _⟩ := h; rfl) | (obtain ⟨_, _, _, rfl, _⟩ := h; rfl) | (obtain ⟨_, _, _, _, rfl, _⟩ := h; rfl) | (obtain ⟨_, _, _, _, _, rfl, _⟩ := h; rfl) | (obtain ⟨_, _, _, _, _, _, rfl, _⟩ := h; rfl) | (obtain ⟨_, _, _, _, _, _, _, rfl, _⟩ := h; rfl) | (obtain ⟨_, _, _, _, _, _, _, _, rfl, _⟩ := h; rfl) | (obtain ⟨_, _, _, _, _, _, _, _, _, rfl, _⟩ := h; rfl) | (obtain ⟨_, _, _, _, _, _, _, _, _, _, rfl, _⟩ := h; rfl) | (obtain ⟨_, _, _, _, _, _, _, _, _, _, _, rfl, _⟩ := h; rfl) | (obtain ⟨_, _, _, _, _, _, _, _, _, _, _, _, rfl, _⟩ := h; rfl) | (obtain ⟨_, _, _, _, _, _, _, _, _, _, _, _, _, rfl, _⟩ := h; rfl) | (obtain ⟨_, _, _, _, _, _, _, _, _, _, _, _, _, _, rfl, _⟩ := h; rfl) | (obtain ⟨_, _, _, _, _, _, _, _, _, _, _, _, _, _, _, rfl, _⟩ := h; rfl) | (obtain ⟨_, _, _, _, _, _, _, _, _, _, _, _, _, _, _, _, rfl, _⟩ := h; rfl) | (obtain ⟨_, _, _, _, _, _, _, _, _, _, _, _, _, _, _, _, _, rfl, _⟩ := h; rfl) | (obtain ⟨_, _, _, _, _, _, _, _, _, _, _, _, _, _, _, _, _, _, rfl, _⟩ := h; rfl) | (obtain ⟨_, _, _, _, _, _, _, _, _, _, _, _, _, _, _, _, _, _, _, rfl, _⟩ := h; rfl) | (obtain ⟨_, _, _, _, _, _, _, _, _, _, _, _, _, _, _, _, _, _, _, _, rfl, _⟩ := h; rfl) | (obtain ⟨_, _, _, _, _, _, _, _, _, _, _, _, _, _, _, _, _, _, _, _, _, rfl, _⟩ := h; rfl) | (obtain ⟨_, _, _, _, _, _, _, _, _, _, _, _, _, _, _, _, _, _, _, _, _, _, rfl, _⟩ := h; rfl) | (obtain ⟨_, _, _, _, _, _, _, _, _, _, _, _, _, _, _, _, _, _, _, _, _, _, _, rfl, _⟩ := h; rfl)
  · obtain ⟨a, ns, i, rfl, ha, q⟩ := h
    refine ⟨_, (Evl.pss_cut (ps_set (i := 2) sc_l_crock.nd rfl (.inl rfl) (pe_ifExp (pt_cmpR op_lt (pv 1) (pe_callB call_len_seq (by rfl) T.b_len PySem.boot_len (pa_cons (pv 0) pa_nil)) (nomark _)) (pe_callTy call_int1 (by rfl) T.b_int (by decide +kernel) (pa_cons (pe_ix ix_list (pv 0) (pv 1) (fun _ _ => rfl)) pa_nil)) (pe_op op_add (pe_op op_add (pe_op op_mul pe_int (pv 1)) pe_int) (pe_op op_mod (pe_callTy call_int1 (by rfl) T.b_int (by decide +kernel) (pa_cons (pe_callB (cr_sum rfl) (by rfl) T.b_sum (by decide +kernel) (pa_cons (pe_slice sl_list (pv 0) po_none (po_some pe_int)) pa_nil)) pa_nil)) pe_int))))
    (pss_cons (ps_set (i := 3) sc_l_crock.nd rfl (.inl rfl) (pe_op op_mod (pe_callB call_abs (by rfl) T.b_abs (by decide +kernel) (pa_cons (pv 2) pa_nil)) (pe_op op_powC (pe_op op_pow pe_int pe_int) pe_int)))
    (pss_one (ps_ret (pe_lst (pa_cons (pe_callB (call_max2 rfl) (by rfl) T.b_max (by decide +kernel) (pa_cons pe_int (pa_cons (pe_op op_sub (pv 3) (pe_op op_pow pe_int pe_int)) pa_nil))) (pa_cons (pe_op op_add (pe_op op_add (pe_op op_add (pe_op op_mul (pe_op op_mod (pv 3) pe_int) pe_int) (pe_op op_mul pe_int (pv 1))) (pe_op op_mul pe_int (pe_callTy call_int1 (by rfl) T.b_int (by decide +kernel) (pa_cons (pe_cmpR op_lt (pv 2) pe_int (nomark _)) pa_nil)))) pe_int) (pa_cons pe_int pa_nil)))))))), ?_⟩
    refine ⟨fun σ H' => ∃ cell : Int, σ = [some (.ref a), some (.int (i : Int)), some (.int cell), none] ∧ Ex0 H H', ?_, ?_⟩
    · refine ⟨_, rfl, _, rfl, a, _, rfl, .inl ha, _, _, rfl, rfl, _, rfl, iteD (fun g => ?_) (fun g => ?_)⟩
      · have hi : i < ns.length := by rw [List.length_map] at g; omega
        refine ⟨_, rfl, _, rfl, a, _, (i : Int), .int ns[i], rfl, rfl, ha, atI_nat (by rw [List.getElem?_map, List.getElem?_eq_getElem hi]; rfl), .inl ⟨_, rfl, ?_⟩⟩
        exact ⟨_, rfl, Ex0.refl H⟩
      · refine ⟨_, rfl, _, _, rfl, rfl, .inl ⟨by decide, by decide⟩, _, _, rfl, rfl, ?_⟩
        refine ⟨_, rfl, _, rfl, a, _, rfl, ha, fun p np => ?_⟩
        refine ⟨p, _, rfl, SqL.of (by rw [upd_same, cut_map]), .inl ⟨_, rfl, ?_⟩⟩
        refine ⟨_, _, rfl, rfl, (show (0 : Int) < 1000033 by decide), _, _, rfl, rfl, ?_⟩
        exact ⟨_, rfl, Ex0.new np⟩
    · rintro σ H' ⟨cell, rfl, e⟩
      refine ⟨_, rfl, cell, rfl, _, _, rfl, rfl, ⟨by decide, by decide, by decide⟩, _, _, rfl, rfl, ⟨by decide, by decide +kernel⟩, _, _, rfl, rfl, by show (0 : Int) < (10 ^ 57) ^ 6; decide +kernel, ?_⟩
      refine ⟨_, rfl, _, _, rfl, rfl, ⟨by decide, by decide, by decide⟩, _, _, rfl, rfl, _, _, rfl, ?_⟩
      refine ⟨_, rfl, _, _, rfl, rfl, (show (0 : Int) < 1000000000177 by decide), _, _, rfl, rfl, .inr ⟨by decide, by decide⟩, _, rfl, _, _, rfl, rfl, .inl ⟨by decide, by decide⟩, _, _, rfl, rfl, ?_⟩
      refine ⟨_, rfl, _, _, rfl, rfl, .inr ⟨_, rfl, _, _, rfl, rfl, .inl ⟨by decide, by decide⟩, _, _, rfl, rfl, _, _, rfl, rfl, sl3, fun p hp => ?_⟩⟩
      exact q p _ (Fx.free e (fun z => z) hp) (e.trans (Ex0.new hp)) ⟨_, _, _, upd_same⟩
theorem ok_l_scoop (T : Txt K mg C_Form C_Ring C_Element) : Def P w K mg base 1 "_law_scoop" ["_law_crock_here", "_law_many"] (sp_l_scoop K C_Form C_Ring C_Element) := by
  obtain ⟨f_, fd_, g_, F_⟩ := T.d_l_scoop
  refine ⟨f_, fd_, g_, F_.kp, F_.binds (ps := ["_law_crock_here", "_law_many"]) (fun _ _ _ _ _ _ us hl => match us, hl with | [_, _], _ => rfl), ?_⟩
  refine F_.ok sc_l_scoop (fun vs H Q E h => ?_) (fun cdv A outer s H vs Q E hr h => ?_)
  · first | (obtain ⟨rfl, _⟩ := h; rfl) | (obtain ⟨_, rfl, _⟩ := h; rfl) | (obtain ⟨_, _, rfl, _⟩ := h; rfl) | (obtain ⟨_, _, _, rfl, _⟩ := h; rfl) | (obtain ⟨_, _, _, _, rfl, _⟩ := h; rfl) | (obtain ⟨_, _, _, _, _, rfl, _⟩ := h; rfl) | (obtain ⟨_, _, _, _, _, _, rfl, _⟩ := h; rfl) | (obtain ⟨_, _, _, _, _, _, _, rfl, _⟩ := h; rfl) | (obtain ⟨_, _, _, _, _, _, _, _, rfl, _⟩ := h; rfl) | (obtain ⟨_, _, _, _, _, _, _, _, _, rfl, _⟩ := h; rfl) | (obtain ⟨_, _, _, _, _, _, _, _, _, _, rfl, _⟩ := h; rfl) | (obtain ⟨_, _, _, _, _, _, _, _, _, _, _, rfl, _⟩ := h; rfl) | (obtain ⟨_, _, _, _, _, _, _, _, _, _, _, _, rfl, _⟩ := h; rfl) | (obtain ⟨_, _, _, _, _, _, _, _, _, _, _, _, _, rfl, _⟩ := h; rfl) | (obtain ⟨_, _, _, _, _, _, _, _, _, _, _, _, _, _, rfl, _⟩ := h; rfl) | (obtain ⟨_, _, _, _, _, _, _, _, _, _, _, _, _, _, _, rfl, _⟩ := h; rfl) | (obtain ⟨_, _, _, _, _, _, _, _, _, _, _, _, _, _, _, _, rfl, _⟩ := h; rfl) | (obtain ⟨_, _, _, _, _, _, _, _, _, _, _, _, _, _, _, _, _, rfl, _⟩ := h; rfl) | (obtain ⟨_, _, _, _, _, _, _, _, _, _, _, _, _, _, _, _, _, _, rfl, _⟩ := h; rfl) | (obtain ⟨_, _, _, _, _, _, _, _, _, _, _, _, _, _, _, _, _, _, _, rfl, _⟩ := h; rfl) | (obtain ⟨_, _, _, _, _, _, _, _, _, _, _, _, _, _, _, _, _, _, _, _, rfl, _⟩ := h; rfl) | (obtain ⟨_, _, _, _, _, _, _, _, _, _, _, _, _, _, _, _, _, _, _, _, _, rfl, _⟩ := h; rfl) | (obtain ⟨_, _, _, _, _, _, _, _, _, _, _, _, _, _, _, _, _, _, _, _, _, _, rfl, _⟩ := h; rfl) | (obtain ⟨_, _, _, _, _, _, _, _, _, _, _, _, _, _, _, _, _, _, _, _, _, _, _, rfl, _⟩ := h; rfl)
  · obtain ⟨c, t, rfl, ⟨x, y, z, hv⟩, h0, h1, q⟩ := h
    refine ⟨_, (pss_cons (ps_if (pt_cmpR op_gt (pe_ix ix_list (pv 0) pe_int (fun _ _ => rfl)) pe_int (nomark _))
      (pss_cons (ps_set (i := 2) sc_l_scoop.nd rfl (.inl rfl) (pe_op op_mod (pe_callTy call_int1 (by rfl) T.b_int (by decide +kernel) (pa_cons (pe_ix ix_list (pv 0) pe_int (fun _ _ => rfl)) pa_nil)) (pv 1)))
    (pss_cons (ps_asg (pe_op op_fdivW (pe_callTy call_int1 (by rfl) T.b_int (by decide +kernel) (pa_cons (pe_ix ix_list (pv 0) pe_int (fun _ _ => rfl)) pa_nil)) (pv 1)) (pg_sub (pv 0) pe_int set_list))
    (pss_one (ps_ret (pv 2)))))
      pss_nil)
    (pss_cons (ps_asg (pe_op op_add (pe_ix ix_list (pv 0) pe_int (fun _ _ => rfl)) pe_int) (pg_sub (pv 0) pe_int set_list))
    (pss_cons (ps_set (i := 3) sc_l_scoop.nd rfl (.inl rfl) (pe_op op_mod (pe_callTy call_int1 (by rfl) T.b_int (by decide +kernel) (pa_cons (pe_op op_add (pe_ix ix_list (pv 0) pe_int (fun _ _ => rfl)) (pe_op op_mul pe_int (pe_ix ix_list (pv 0) pe_int (fun _ _ => rfl)))) pa_nil)) pe_int))
    (pss_cons (ps_set (i := 4) sc_l_scoop.nd rfl (.inl rfl) (pe_op op_mod (pe_callTy call_int1 (by rfl) T.b_int (by decide +kernel) (pa_cons (pe_op op_add (pe_op op_add (pe_op op_mul (pv 3) (pv 3)) (pe_op op_mul pe_int (pe_ix ix_list (pv 0) pe_int (fun _ _ => rfl)))) pe_int) pa_nil)) pe_int))
    (pss_one (ps_ret (pe_op op_mod (pe_callTy call_int1 (by rfl) T.b_int (by decide +kernel) (pa_cons (pe_op op_fdivW (pe_op op_mul (pv 4) (pe_op op_add (pe_op op_mod (pv 3) pe_int) pe_int)) pe_int) pa_nil)) (pv 1)))))))), ?_⟩
    have fv : ∀ (H' : Hp) (x' y' z' : Int), (∀ b o, b ≠ c → H b = some o → H' b = some o) → H' c = some (.lst [.int x', .int y', .int z']) → Fv c H H' := fun H' x' y' z' a b => ⟨⟨x', y', z', b⟩, a⟩
    refine ⟨_, rfl, c, _, 0, .int x, rfl, rfl, SqL.of hv, rfl, x, 0, rfl, rfl, _, rfl, iteD (fun g => ?_) (fun g => ?_)⟩
    · refine ⟨_, rfl, c, _, 0, .int x, rfl, rfl, SqL.of hv, rfl, .inl ⟨x, rfl, _, rfl, x, t, rfl, rfl, h0, ?_⟩⟩
      refine ⟨_, rfl, c, _, 0, .int x, rfl, rfl, SqL.of hv, rfl, .inl ⟨x, rfl, _, rfl, x, t, rfl, rfl, dw h0 h1, ?_⟩⟩
      refine ⟨_, rfl, c, _, 0, 0, rfl, rfl, hv, rfl, ?_⟩
      refine ⟨_, rfl, ?_⟩
      exact q _ _ (Int.emod_nonneg _ (by omega)) (Int.emod_lt_of_pos _ h0) (fv _ _ _ _ (fun b o n e => by rw [upd_ne n]; exact e) upd_same)
    · refine ⟨_, rfl, c, _, 2, .int z, rfl, rfl, SqL.of hv, rfl, _, 1, rfl, rfl, ?_⟩
      refine ⟨_, rfl, c, _, 2, 2, rfl, rfl, hv, rfl, ?_⟩
      have hv2 : upd H c (.lst [.int x, .int y, .int (z + 1)]) c = some (.lst [.int x, .int y, .int (z + 1)]) := upd_same
      refine ⟨_, rfl, c, _, 1, .int y, rfl, rfl, SqL.of hv2, rfl, _, rfl, c, _, 2, .int (z + 1), rfl, rfl, SqL.of hv2, rfl, _, _, rfl, rfl, .inl ⟨by decide, by decide⟩, _, _, rfl, rfl, .inl ⟨_, rfl, ?_⟩⟩
      refine ⟨_, _, rfl, rfl, (show (0 : Int) < 2305843009213693951 by decide), ?_⟩
      refine ⟨_, rfl, _, rfl, _, _, rfl, rfl, .inl ⟨by omega, by omega⟩, _, rfl, c, _, 2, .int (z + 1), rfl, rfl, SqL.of hv2, rfl, _, _, rfl, rfl, .inl ⟨by decide, by decide⟩, _, _, rfl, rfl, _, _, rfl, rfl, .inl ⟨_, rfl, ?_⟩⟩
      refine ⟨_, _, rfl, rfl, (show (0 : Int) < 1152921504606846883 by decide), ?_⟩
      refine ⟨_, rfl, _, rfl, _, _, rfl, rfl, (show (0 : Int) < 1019 by decide), _, _, rfl, rfl, _, _, rfl, rfl, .inl ⟨by omega, by omega⟩, _, _, rfl, rfl, dw (by decide) (by decide), .inl ⟨_, rfl, _, rfl, _, _, rfl, rfl, h0, ?_⟩⟩
      exact q _ _ (Int.emod_nonneg _ (by omega)) (Int.emod_lt_of_pos _ h0) (fv _ _ _ _ (fun b o n e => by rw [upd_ne n]; exact e) hv2)
theorem ok_l_choose (T : Txt K mg C_Form C_Ring C_Element) : Def P w K mg base 2 "_law_choose" ["_law_crock_here", "_law_items"] (sp_l_choose K C_Form C_Ring C_Element) := by
  obtain ⟨f_, fd_, g_, F_⟩ := T.d_l_choose
  obtain ⟨f_l_scoop, fd_l_scoop, g_l_scoop, k_l_scoop, b_l_scoop, G_l_scoop⟩ := (ok_l_scoop (P := P) (w := w) (base := base) T)
  refine ⟨f_, fd_, g_, F_.kp, F_.binds (ps := ["_law_crock_here", "_law_items"]) (fun _ _ _ _ _ _ us hl => match us, hl with | [_, _], _ => rfl), ?_⟩
  refine F_.ok sc_l_choose (fun vs H Q E h => ?_) (fun cdv A outer s H vs Q E hr h => ?_)
  · first | (obtain ⟨rfl, _⟩ := h; rfl) | (obtain ⟨_, rfl, _⟩ := h; rfl) | (obtain ⟨_, _, rfl, _⟩ := h; rfl) | (obtain ⟨_, _, _, rfl, _⟩ := h; rfl) | (obtain ⟨_, _, _, _, rfl, _⟩ := h; rfl) | (obtain ⟨_, _, _, _, _, rfl, _⟩ := h; rfl) | (obtain ⟨_, _, _, _, _, _, rfl, _⟩ := h; rfl) | (obtain ⟨_, _, _, _, _, _, _, rfl, _⟩ := h; rfl) | (obtain ⟨_, _, _, _, _, _, _, _, rfl, _⟩ := h; rfl) | (obtain ⟨_, _, _, _, _, _, _, _, _, rfl, _⟩ := h; rfl) | (obtain ⟨_, _, _, _, _, _, _, _, _, _, rfl, _⟩ := h; rfl) | (obtain ⟨_, _, _, _, _, _, _, _, _, _, _, rfl, _⟩ := h; rfl) | (obtain ⟨_, _, _, _, _, _, _, _, _, _, _, _, rfl, _⟩ := h; rfl) | (obtain ⟨_, _, _, _, _, _, _, _, _, _, _, _, _, rfl, _⟩ := h; rfl) | (obtain ⟨_, _, _, _, _, _, _, _, _, _, _, _, _, _, rfl, _⟩ := h; rfl) | (obtain ⟨_, _, _, _, _, _, _, _, _, _, _, _, _, _, _, rfl, _⟩ := h; rfl) | (obtain ⟨_, _, _, _, _, _, _, _, _, _, _, _, _, _, _, _, rfl, _⟩ := h; rfl) | (obtain ⟨_, _, _, _, _, _, _, _, _, _, _, _, _, _, _, _, _, rfl, _⟩ := h; rfl) | (obtain ⟨_, _, _, _, _, _, _, _, _, _, _, _, _, _, _, _, _, _, rfl, _⟩ := h; rfl) | (obtain ⟨_, _, _, _, _, _, _, _, _, _, _, _, _, _, _, _, _, _, _, rfl, _⟩ := h; rfl) | (obtain ⟨_, _, _, _, _, _, _, _, _, _, _, _, _, _, _, _, _, _, _, _, rfl, _⟩ := h; rfl) | (obtain ⟨_, _, _, _, _, _, _, _, _, _, _, _, _, _, _, _, _, _, _, _, _, rfl, _⟩ := h; rfl) | (obtain ⟨_, _, _, _, _, _, _, _, _, _, _, _, _, _, _, _, _, _, _, _, _, _, rfl, _⟩ := h; rfl) | (obtain ⟨_, _, _, _, _, _, _, _, _, _, _, _, _, _, _, _, _, _, _, _, _, _, _, rfl, _⟩ := h; rfl)
  · obtain ⟨c, l, xs, rfl, hc, hl, ne, hx, hz, q⟩ := h
    refine ⟨_, (pss_one (ps_ret (pe_ix ix_list (pv 1) (pe_call G_l_scoop (hr.mono (by decide)) (by rfl) g_l_scoop k_l_scoop b_l_scoop .nil pass0 (pa_cons (pv 0) (pa_cons (pe_callB call_len_seq (by rfl) T.b_len PySem.boot_len (pa_cons (pv 1) pa_nil)) pa_nil))) (fun _ _ => rfl)))), ?_⟩
    have h0 : 0 < xs.length := List.length_pos_iff.mpr hx
    refine ⟨_, rfl, _, rfl, _, rfl, l, xs, rfl, .inl (SqL.of hl), c, _, rfl, hc, by omega, by omega, fun r H' r0 r1 e => ?_⟩
    obtain ⟨j, rfl⟩ : ∃ j : Nat, r = (j : Int) := ⟨r.toNat, by omega⟩
    have hj : j < xs.length := by omega
    exact ⟨l, xs, _, xs[j], rfl, rfl, SqL.of (e.2 _ _ ne hl), atI_nat (List.getElem?_eq_getElem hj), q _ _ (List.getElem_mem hj) e⟩
theorem ok_l_lines (T : Txt K mg C_Form C_Ring C_Element) : Def P w K mg base 1 "_law_lines" ["_law_lines_here"] (sp_l_lines K C_Form C_Ring C_Element) := by
  obtain ⟨f_, fd_, g_, F_⟩ := T.d_l_lines
  refine ⟨f_, fd_, g_, F_.kp, F_.binds (ps := ["_law_lines_here"]) (fun _ _ _ _ _ _ us hl => match us, hl with | [_], _ => rfl), ?_⟩
  refine F_.ok sc_l_lines (fun vs H Q E h => ?_) (fun cdv A outer s H vs Q E hr h => ?_)
  · first | (obtain ⟨rfl, _⟩ := h; rfl) | (obtain ⟨_, rfl, _⟩ := h; rfl) | (obtain ⟨_, _, rfl, _⟩ := h; rfl) | (obtain ⟨_, _, _, rfl, _⟩ := h; rfl) | (obtain ⟨_, _, _, _, rfl, _⟩ := h; rfl) | (obtain ⟨_, _, _, _, _, rfl, _⟩ := h; rfl) | (obtain ⟨_, _, _, _, _, _, rfl, _⟩ := h; rfl) | (obtain ⟨_, _, _, _, _, _, _, rfl, _⟩ := h; rfl) | (obtain ⟨_, _, _, _, _, _, _, _, rfl, _⟩ := h; rfl) | (obtain ⟨_, _, _, _, _, _, _, _, _, rfl, _⟩ := h; rfl) | (obtain ⟨_, _, _, _, _, _, _, _, _, _, rfl, _⟩ := h; rfl) | (obtain ⟨_, _, _, _, _, _, _, _, _, _, _, rfl, _⟩ := h; rfl) | (obtain ⟨_, _, _, _, _, _, _, _, _, _, _, _, rfl, _⟩ := h; rfl) | (obtain ⟨_, _, _, _, _, _, _, _, _, _, _, _, _, rfl, _⟩ := h; rfl) | (obtain ⟨_, _, _, _, _, _, _, _, _, _, _, _, _, _, rfl, _⟩ := h; rfl) | (obtain ⟨_, _, _, _, _, _, _, _, _, _, _, _, _, _, _, rfl, _⟩ := h; rfl) | (obtain ⟨_, _, _, _, _, _, _, _, _, _, _, _, _, _, _, _, rfl, _⟩ := h; rfl) | (obtain ⟨_, _, _, _, _, _, _, _, _, _, _, _, _, _, _, _, _, rfl, _⟩ := h; rfl) | (obtain ⟨_, _, _, _, _, _, _, _, _, _, _, _, _, _, _, _, _, _, rfl, _⟩ := h; rfl) | (obtain ⟨_, _, _, _, _, _, _, _, _, _, _, _, _, _, _, _, _, _, _, rfl, _⟩ := h; rfl) | (obtain ⟨_, _, _, _, _, _, _, _, _, _, _, _, _, _, _, _, _, _, _, _, rfl, _⟩ := h; rfl) | (obtain ⟨_, _, _, _, _, _, _, _, _, _, _, _, _, _, _, _, _, _, _, _, _, rfl, _⟩ := h; rfl) | (obtain ⟨_, _, _, _, _, _, _, _, _, _, _, _, _, _, _, _, _, _, _, _, _, _, rfl, _⟩ := h; rfl) | (obtain ⟨_, _, _, _, _, _, _, _, _, _, _, _, _, _, _, _, _, _, _, _, _, _, _, rfl, _⟩ := h; rfl)
  · obtain ⟨l, l1, l2, l3, x1, y1, x2, y2', x3, y3', rfl, hl, h1, h2, h3, hb, q⟩ := h
    refine ⟨_, (pss_cons (ps_set (i := 1) sc_l_lines.nd rfl (.inl rfl) (pe_lst (pa_cons pe_int pa_nil)))
    (pss_cons (ps_for PassesOwn.never rfl (pi_list (pv 0)) (pg_lst (by rfl) (pgs_cons (pg_name (i := 2) sc_l_lines.nd rfl (.inr rfl)) (pgs_cons (pg_name (i := 3) sc_l_lines.nd rfl (.inr rfl)) pgs_nil)))
      (pss_one (ps_setLc (i := 1) (own := [("_law_left", 4), ("_law_right_here", 5)]) (g := (gTup K 2 (gCons (gName 4) (gCons (gName 5) gNil)))) rfl sc_l_lines.nd rfl rfl (sw_true rfl rfl rfl (by decide +kernel)) (pi_zip (by rfl) T.b_zip (pa_cons (pe_op op_cat (pv 1) (pe_lst (pa_cons pe_int pa_nil))) (pa_cons (pe_op op_cat (pe_lst (pa_cons pe_int pa_nil)) (pv 1)) pa_nil))) (blkOk_by (N := N_l_lines) (sc := defScope s_l_lines) (by decide +kernel)) (fun _ _ _ _ _ => (pg_tup (by rfl) (pgs_cons (pg_name (i := 4) sc_l_lines.nd rfl (.inl rfl)) (pgs_cons (pg_name (i := 5) sc_l_lines.nd rfl (.inl rfl)) pgs_nil)))) (fun _ _ _ _ _ => pts_nil) (fun _ _ _ _ _ => (pe_op op_add (pe_op op_mulW (pv 2) (pv 4)) (pe_op op_mulW (pv 3) (pv 5)))))))
    (pss_one (ps_ret (pv 1))))), ?_⟩
    refine ⟨sl1, fun f0 nf0 => ?_⟩
    have e0 := Ex0.new (o := .lst [.int 1]) nf0
    refine ⟨_, rfl, l, rfl, ⟨_, SqL.of (Ex0.ap e0 hl)⟩, ?_⟩
    refine for_list (xs := [.ref l1, .ref l2, .ref l3]) (fun i σ H' => ∃ (f : Addr) (ns : List Int) (y2 y3 : Option V), σ = [some (.ref l), some (.ref f), y2, y3, none, none] ∧ Ex0 H H' ∧ H' f = some (.lst (ns.map V.int)) ∧ ns.length = i + 1 ∧ ∀ z ∈ ns, z.natAbs ≤ 200000000 ^ i) ⟨f0, [1], none, none, rfl, e0, upd_same, rfl, fun z hz => by rw [List.mem_singleton] at hz; rw [hz]; decide⟩ (fun i σ H' _ ⟨_, _, _, _, _, e, _⟩ => SqL.of (Ex0.ap e hl)) ?_ ?_
    · rintro i v σ H1 hv ⟨f, ns, y2, y3, rfl, e1, hf, hlen, hbd⟩
      have hline : ∃ (u : Addr) (x y : Int), v = .ref u ∧ H1 u = some (.lst [.int x, .int y]) ∧ x.natAbs ≤ 100000000 ∧ y.natAbs ≤ 100000000 := by
        match i, hv with
        | 0, hv => exact ⟨l1, x1, y1, (Option.some.inj hv).symm, Ex0.ap e1 h1, hb _ (by simp), hb _ (by simp)⟩
        | 1, hv => exact ⟨l2, x2, y2', (Option.some.inj hv).symm, Ex0.ap e1 h2, hb _ (by simp), hb _ (by simp)⟩
        | 2, hv => exact ⟨l3, x3, y3', (Option.some.inj hv).symm, Ex0.ap e1 h3, hb _ (by simp), hb _ (by simp)⟩
      have hi3 : i < 3 := (List.getElem?_eq_some_iff.mp hv).1
      obtain ⟨u, x, y, rfl, hu, bx, by'⟩ := hline
      refine ⟨u, _, rfl, SqL.of hu, rfl, _, _, rfl, _, _, rfl, rfl, ?_⟩
      refine ⟨_, rfl, sl1, fun o1 n1 => ?_⟩
      have g1 := Ex0.new (o := .lst [.int 0]) n1
      refine ⟨f, o1, _, _, rfl, rfl, Ex0.ap g1 hf, upd_same, ?_, fun o2 n2 => ?_⟩
      · rw [List.length_map, hlen, sizeLine_eq]; show i + 1 + 1 ≤ _; omega
      have g2 := Ex0.new (o := .lst (ns.map V.int ++ [.int 0])) n2
      refine ⟨sl1, fun o3 n3 => ?_⟩
      have g3 := Ex0.new (o := .lst [.int 0]) n3
      refine ⟨_, rfl, o3, f, _, _, rfl, rfl, upd_same, Ex0.ap (g1.trans (g2.trans g3)) hf, ?_, fun o4 n4 => ?_⟩
      · rw [List.length_map, hlen, sizeLine_eq]; show 1 + (i + 1) ≤ _; omega
      have g4 := Ex0.new (o := .lst ([.int 0] ++ ns.map V.int)) n4
      have ho2 := Ex0.ap (g3.trans g4) (show (upd (upd H1 o1 (.lst [.int 0])) o2 (.lst (ns.map V.int ++ [.int 0]))) o2 = some (.lst (ns.map V.int ++ [.int 0])) from upd_same)
      have g14 := g1.trans (g2.trans (g3.trans g4))
      have ex2 : ns.map V.int ++ [.int 0] = (ns ++ [0]).map V.int := by rw [List.map_append]; rfl
      have ex4 : [V.int 0] ++ ns.map V.int = ([0] ++ ns).map V.int := rfl
      have ho2 := ho2.trans (congrArg (fun z => some (HO.lst z)) ex2)
      have ho4 : (upd (upd (upd (upd H1 o1 (.lst [.int 0])) o2 (.lst (ns.map V.int ++ [.int 0]))) o3 (.lst [.int 0])) o4 (.lst ([.int 0] ++ ns.map V.int))) o4 = some (.lst (([0] ++ ns).map V.int)) := by rw [← ex4]; exact upd_same
      refine ⟨o2, o4, _, _, rfl, SqL.of ho2, SqL.of ho4, ?_⟩
      generalize upd (upd (upd (upd H1 o1 (.lst [.int 0])) o2 (.lst (ns.map V.int ++ [.int 0]))) o3 (.lst [.int 0])) o4 (.lst ([.int 0] ++ ns.map V.int)) = H5 at *
      have l1' : (ns ++ [0]).length = i + 2 := by rw [List.length_append, hlen]; rfl
      have l2' : ([0] ++ ns).length = i + 2 := by rw [List.length_append, hlen]; show 1 + (i + 1) = _; omega
      have b1' : ∀ z ∈ ns ++ [0], z.natAbs ≤ 200000000 ^ i := fun z hz => by
        rcases List.mem_append.mp hz with h | h
        · exact hbd z h
        · rw [List.mem_singleton] at h; rw [h]; exact Nat.zero_le _
      have b2' : ∀ z ∈ [0] ++ ns, z.natAbs ≤ 200000000 ^ i := fun z hz => by
        rcases List.mem_append.mp hz with h | h
        · rw [List.mem_singleton] at h; rw [h]; exact Nat.zero_le _
        · exact hbd z h
      generalize hns1 : ns ++ [0] = N1 at *
      generalize hns2 : [0] ++ ns = N2 at *
      have M : 200000000 ^ i < 2 ^ 100 := Nat.lt_of_le_of_lt (Nat.pow_le_pow_right (by decide) (show i ≤ 2 by omega)) (by decide)
      have bx' : B 30 x := ⟨Nat.lt_of_le_of_lt bx (by decide), by decide⟩
      have by'' : B 30 y := ⟨Nat.lt_of_le_of_lt by' (by decide), by decide⟩
      refine lcP (walk_zipL (K := K) (xs := N1.map V.int) (ys := N2.map V.int) (by rw [List.length_map, List.length_map, l1', l2'])) fm0 trivial (fun H' e => ⟨SqL.of (Ex0.ap e ho2), SqL.of (Ex0.ap e ho4)⟩) (fun j acc _ => acc = ((List.range j).map fun k => x * N1.getD k 0 + y * N2.getD k 0).map V.int) (fun _ _ => rfl) (fun D j T z1 z2 acc H' hD hj fx fy e3 hA hlen' hp hT => ?_) (fun D H' acc hD e3 hA hp => ?_)
      · obtain ⟨rfl, hj1⟩ := get_D fx
        obtain ⟨rfl, hj2⟩ := get_D fy
        have m1 : N1.getD j 0 ∈ N1 := by rw [List.getD_eq_getElem?_getD, List.getElem?_eq_getElem hj1]; exact List.getElem_mem hj1
        have m2 : N2.getD j 0 ∈ N2 := by rw [List.getD_eq_getElem?_getD, List.getElem?_eq_getElem hj2]; exact List.getElem_mem hj2
        have c1 : B 100 (N1.getD j 0) := ⟨Nat.lt_of_le_of_lt (b1' _ m1) M, by decide⟩
        have c2 : B 100 (N2.getD j 0) := ⟨Nat.lt_of_le_of_lt (b2' _ m2) M, by decide⟩
        refine ⟨T, _, rfl, SqT.of upd_same, rfl, _, _, rfl, _, _, rfl, rfl, ⟨rfl, ?_⟩⟩
        refine ⟨_, rfl, _, rfl, _, _, rfl, rfl, mulB bx' c1 (by decide), _, rfl, _, rfl, _, _, rfl, rfl, mulB by'' c2 (by decide), _, _, rfl, rfl, ?_⟩
        refine cs_yes fm0 trivial hD e3 hA hlen' (by omega) (Ex0.new hT) ?_
        rw [hp, List.range_succ, List.map_append, List.map_append]
        rfl
      · rw [List.length_map, l1'] at hp
        refine ⟨D, (List.range (i + 2)).map fun k => x * N1.getD k 0 + y * N2.getD k 0, _, _, rfl, e1.trans (g14.trans e3), by rw [hA, hp], by rw [List.length_map, List.length_range], fun z hz => ?_⟩
        obtain ⟨k, hk, rfl⟩ := List.mem_map.mp hz
        rw [List.mem_range] at hk
        have m1 : N1.getD k 0 ∈ N1 := by rw [List.getD_eq_getElem?_getD, List.getElem?_eq_getElem (show k < N1.length by omega)]; exact List.getElem_mem _
        have m2 : N2.getD k 0 ∈ N2 := by rw [List.getD_eq_getElem?_getD, List.getElem?_eq_getElem (show k < N2.length by omega)]; exact List.getElem_mem _
        have d1 := b1' _ m1
        have d2 := b2' _ m2
        have f1 : (x * N1.getD k 0).natAbs ≤ 100000000 * 200000000 ^ i := by rw [Int.natAbs_mul]; exact Nat.mul_le_mul bx d1
        have f2 : (y * N2.getD k 0).natAbs ≤ 100000000 * 200000000 ^ i := by rw [Int.natAbs_mul]; exact Nat.mul_le_mul by' d2
        rw [Nat.pow_succ]
        omega
    · rintro σ H1 ⟨f, ns, y2, y3, rfl, e1, hf, hlen, hbd⟩
      exact ⟨_, rfl, q f ns H1 e1 hf hlen fun z hz => Nat.le_trans (hbd z hz) (show (200000000 : Nat) ^ 3 ≤ _ by decide)⟩
end
end RG
namespace RG
open PySem PySem.Spec PyProof.Rows L2 Fr
open K05M (fv fl2 fl3 fdisc)
section
def sp_l_at (_ : PySem.W.Frag) (_ _ _ : Addr) : Sp := fun vs H Q _ => ∃ (t : Addr) (a b c d x y : Int), vs = [.ref t, .int x, .int y] ∧ Ti H t [a, b, c, d] ∧ B 1000 a ∧ B 1000 b ∧ B 1000 c ∧ B 1000 d ∧ B 200 x ∧ B 200 y ∧ Q (.int (fv a b c d x y)) H
def sp_l_maps (K : PySem.W.Frag) (_ _ _ : Addr) : Sp := fun vs H Q _ => ∃ (t : Addr) (a b c d : Int) (p : Nat), vs = [.ref t, .int (p : Int)] ∧ Ti H t [a, b, c, d] ∧ 0 < p ∧ p < 100 ∧ ∀ l ys H', Ex0 H H' → H' l = some (.lst ys) → PrT K H' ys (MapM.mapsL a b c d p) → Q (.ref l) H'
def sp_l_by_roots (K : PySem.W.Frag) (_ _ _ : Addr) : Sp := fun vs H Q _ => ∃ (t : Addr) (a b c d : Int) (p : Nat), vs = [.ref t, .int (p : Int)] ∧ Ti H t [a, b, c, d] ∧ 0 < p ∧ p < 100 ∧ ∀ l ys qs H', Ex0 H H' → H' l = some (.lst ys) → PrT K H' ys qs → qs.Perm ((MapM.rootsG a b c d p).map (MapM.mp a b c p)) → qs.Pairwise lexP → Q (.ref l) H'
def sp_l_goes_along (K : PySem.W.Frag) (_ _ _ : Addr) : Sp := fun vs H Q _ => ∃ (t z o1 o2 : Addr) (a b c d u v e1 e2 e3 f1 f2 f3 : Int) (p : Nat), vs = [.ref t, .int (p : Int), .ref z, .ref o1, .ref o2] ∧ Ti H t [a, b, c, d] ∧ Short a ∧ Short b ∧ Short c ∧ Short d ∧ SqT K H z [.int u, .int v] ∧ 0 < p ∧ p < 100 ∧ 0 ≤ u ∧ u < p ∧ 0 ≤ v ∧ v < p ∧ Ti H o1 [e1, e2, e3] ∧ Ti H o2 [f1, f2, f3] ∧ (∀ n ∈ [e1, e2, e3, f1, f2, f3], n.natAbs ≤ 50) ∧ MapM.Rst p a b c d u v ∧ ∀ H', Ex0 H H' → Q (.bl true) H'
theorem low1n {u y z b u' y' z' b' : Int} (h : Low u y z b u' y' z' b') (hb : b = 1) : u' = u ∧ y' = y ∧ z' = z ∧ b' = 1 := by
  subst hb
  exact low1 h
def ph (p U W u x y : Int) : Int := (u + x * U + y * W) % p
theorem ph_mul {a b c d p U W u y z v s r : Int} (h : MapM.Rst p a b c d U W) : (ph p U W u y z * ph p U W v s r - ph p U W (m0 (-a * c) (-a * d) (-b * d) u y z v s r) (m1 b 0 d u y z v s r) (m2 (-a) 0 (-c) u y z v s r)) % p = 0 := by
  obtain ⟨⟨i, hi⟩, ⟨j, hj⟩, ⟨k, hk⟩⟩ := h
  have e : (u + y * U + z * W) * (v + s * U + r * W) - (m0 (-a * c) (-a * d) (-b * d) u y z v s r + m1 b 0 d u y z v s r * U + m2 (-a) 0 (-c) u y z v s r * W) = p * (y * s * j + (y * r + z * s) * i + z * r * k) := by
    have e1 : p * (y * s * j + (y * r + z * s) * i + z * r * k) = y * s * (p * j) + (y * r + z * s) * (p * i) + z * r * (p * k) := by grind
    rw [e1, ← hi, ← hj, ← hk]
    unfold m0 m1 m2
    grind
  unfold ph
  rw [Int.sub_emod, Int.mul_emod, Int.emod_emod_of_dvd _ (Int.dvd_refl p), Int.emod_emod_of_dvd _ (Int.dvd_refl p), ← Int.mul_emod, Int.emod_emod_of_dvd _ (Int.dvd_refl p), ← Int.sub_emod, e]
  exact Int.mul_emod_right _ _
theorem ph_B {p U W x y z : Int} (h0 : 0 < p) (h1 : p < 100) : B 10 (ph p U W x y z) := by
  have g1 := Int.emod_nonneg (x + y * U + z * W) (show p ≠ 0 by omega)
  have g2 := Int.emod_lt_of_pos (x + y * U + z * W) h0
  unfold ph
  exact ⟨by show _ < 1024; omega, by decide⟩
theorem el_upd {C C_R C_E : Addr} {H : Hp} {L : Addr} {acc ys : List V} (hL : H L = some (.lst acc)) {x : Addr} {ns : List Int} {u y z b : Int} (h : ElAt C C_R C_E H x ns u y z b) : ElAt C C_R C_E (upd H L (.lst ys)) x ns u y z b := by
  obtain ⟨de, r, t, h1, ⟨dr, f, h2, dx, t', h3, h4⟩, h5⟩ := h
  unfold Ti at h4 h5
  refine ⟨de, r, t, ?_, ⟨dr, f, ?_, dx, t', ?_, ?_⟩, ?_⟩
  · rw [upd_ne (ne_of h1 hL (by intro z; cases z))]; exact h1
  · rw [upd_ne (ne_of h2 hL (by intro z; cases z))]; exact h2
  · rw [upd_ne (ne_of h3 hL (by intro z; cases z))]; exact h3
  · show upd H L _ t' = _
    rw [upd_ne (ne_of h4 hL (by intro z; cases z))]; exact h4
  · show upd H L _ t = _
    rw [upd_ne (ne_of h5 hL (by intro z; cases z))]; exact h5
theorem ph_add {p U W u y z v s r : Int} : (ph p U W u y z + ph p U W v s r - ph p U W (u + v) (y + s) (z + r)) % p = 0 := by
  unfold ph
  rw [show u + v + (y + s) * U + (z + r) * W = (u + y * U + z * W) + (v + s * U + r * W) by grind]
  generalize u + y * U + z * W = A
  generalize v + s * U + r * W = B
  rw [Int.sub_emod, Int.add_emod, Int.emod_emod_of_dvd _ (Int.dvd_refl p), Int.emod_emod_of_dvd _ (Int.dvd_refl p), ← Int.add_emod, Int.emod_emod_of_dvd _ (Int.dvd_refl p), Int.sub_self]
  exact Int.zero_emod _
end
section
variable {P : Program} {w : World} {K : PySem.W.Frag} {mg : Str → Option Value} {base : Heap} {C_Form C_Ring C_Element : Addr}
theorem ok_l_at (T : Txt K mg C_Form C_Ring C_Element) : Def P w K mg base 1 "_law_at" ["_law_form", "_law_x", "_law_y"] (sp_l_at K C_Form C_Ring C_Element) := by
  obtain ⟨f_, fd_, g_, F_⟩ := T.d_l_at
  refine ⟨f_, fd_, g_, F_.kp, F_.binds (ps := ["_law_form", "_law_x", "_law_y"]) (fun _ _ _ _ _ _ us hl => match us, hl with | [_, _, _], _ => rfl), ?_⟩
  refine F_.ok sc_l_at (fun vs H Q E h => ?_) (fun cdv A outer s H vs Q E hr h => ?_)
  · first | (obtain ⟨rfl, _⟩ := h; rfl) | (obtain ⟨_, rfl, _⟩ := h; rfl) | (obtain ⟨_, _, rfl, _⟩ := h; rfl) | (obtain ⟨_, _, _, rfl, _⟩ := h; rfl) | (obtain ⟨_, _, _, _, rfl, _⟩ := h; rfl) | (obtain ⟨_, _, _, _, _, rfl, _⟩ := h; rfl) | (obtain ⟨_, _, _, _, _, _, rfl, _⟩ := h; rfl) | (obtain ⟨_, _, _, _, _, _, _, rfl, _⟩ := h; rfl) | (obtain ⟨_, _, _, _, _, _, _, _, rfl, _⟩ := h; rfl) | (obtain ⟨_, _, _, _, _, _, _, _, _, rfl, _⟩ := h; rfl) | (obtain ⟨_, _, _, _, _, _, _, _, _, _, rfl, _⟩ := h; rfl) | (obtain ⟨_, _, _, _, _, _, _, _, _, _, _, rfl, _⟩ := h; rfl) | (obtain ⟨_, _, _, _, _, _, _, _, _, _, _, _, rfl, _⟩ := h; rfl) | (obtain ⟨_, _, _, _, _, _, _, _, _, _, _, _, _, rfl, _⟩ := h; rfl) | (obtain ⟨_, _, _, _, _, _, _, _, _, _, _, _, _, _, rfl, _⟩ := h; rfl) | (obtain ⟨_, _, _, _, _, _, _, _, _, _, _, _, _, _, _, rfl, _⟩ := h; rfl) | (obtain ⟨_, _, _, _, _, _, _, _, _, _, _, _, _, _, _, _, rfl, _⟩ := h; rfl) | (obtain ⟨_, _, _, _, _, _, _, _, _, _, _, _, _, _, _, _, _, rfl, _⟩ := h; rfl) | (obtain ⟨_, _, _, _, _, _, _, _, _, _, _, _, _, _, _, _, _, _, rfl, _⟩ := h; rfl) | (obtain ⟨_, _, _, _, _, _, _, _, _, _, _, _, _, _, _, _, _, _, _, rfl, _⟩ := h; rfl) | (obtain ⟨_, _, _, _, _, _, _, _, _, _, _, _, _, _, _, _, _, _, _, _, rfl, _⟩ := h; rfl) | (obtain ⟨_, _, _, _, _, _, _, _, _, _, _, _, _, _, _, _, _, _, _, _, _, rfl, _⟩ := h; rfl) | (obtain ⟨_, _, _, _, _, _, _, _, _, _, _, _, _, _, _, _, _, _, _, _, _, _, rfl, _⟩ := h; rfl) | (obtain ⟨_, _, _, _, _, _, _, _, _, _, _, _, _, _, _, _, _, _, _, _, _, _, _, rfl, _⟩ := h; rfl)
  · obtain ⟨t, a, b, c, d, x, y, rfl, ht, ba, bb, bc, bd, bx, by', q⟩ := h
    refine ⟨_, (pss_cons (ps_asg (pv 0) (pg_tup (by rfl) (pgs_cons (pg_name (i := 3) sc_l_at.nd rfl (.inl rfl)) (pgs_cons (pg_name (i := 4) sc_l_at.nd rfl (.inl rfl)) (pgs_cons (pg_name (i := 5) sc_l_at.nd rfl (.inl rfl)) (pgs_cons (pg_name (i := 6) sc_l_at.nd rfl (.inl rfl)) pgs_nil))))))
    (pss_one (ps_ret (pe_op op_add (pe_op op_add (pe_op op_add (pe_op op_mulW (pe_op op_mulW (pe_op op_mulW (pv 3) (pv 1)) (pv 1)) (pv 1)) (pe_op op_mulW (pe_op op_mulW (pe_op op_mulW (pv 4) (pv 1)) (pv 1)) (pv 2))) (pe_op op_mulW (pe_op op_mulW (pe_op op_mulW (pv 5) (pv 1)) (pv 2)) (pv 2))) (pe_op op_mulW (pe_op op_mulW (pe_op op_mulW (pv 6) (pv 2)) (pv 2)) (pv 2)))))), ?_⟩
    refine ⟨_, rfl, unI4 ht ?_⟩
    exact ⟨_, rfl, _, rfl, _, _, rfl, rfl, mulB (by with_reducible assumption) (by with_reducible assumption) (by decide), _, rfl, _, _, rfl, rfl, mulB (B.mul (by with_reducible assumption) (by with_reducible assumption)) (by with_reducible assumption) (by decide), _, rfl, _, _, rfl, rfl, mulB (B.mul (B.mul (by with_reducible assumption) (by with_reducible assumption)) (by with_reducible assumption)) (by with_reducible assumption) (by decide), _, rfl, _, rfl, _, _, rfl, rfl, mulB (by with_reducible assumption) (by with_reducible assumption) (by decide), _, rfl, _, _, rfl, rfl, mulB (B.mul (by with_reducible assumption) (by with_reducible assumption)) (by with_reducible assumption) (by decide), _, rfl, _, _, rfl, rfl, mulB (B.mul (B.mul (by with_reducible assumption) (by with_reducible assumption)) (by with_reducible assumption)) (by with_reducible assumption) (by decide), _, _, rfl, rfl, _, rfl, _, rfl, _, _, rfl, rfl, mulB (by with_reducible assumption) (by with_reducible assumption) (by decide), _, rfl, _, _, rfl, rfl, mulB (B.mul (by with_reducible assumption) (by with_reducible assumption)) (by with_reducible assumption) (by decide), _, rfl, _, _, rfl, rfl, mulB (B.mul (B.mul (by with_reducible assumption) (by with_reducible assumption)) (by with_reducible assumption)) (by with_reducible assumption) (by decide), _, _, rfl, rfl, _, rfl, _, rfl, _, _, rfl, rfl, mulB (by with_reducible assumption) (by with_reducible assumption) (by decide), _, rfl, _, _, rfl, rfl, mulB (B.mul (by with_reducible assumption) (by with_reducible assumption)) (by with_reducible assumption) (by decide), _, rfl, _, _, rfl, rfl, mulB (B.mul (B.mul (by with_reducible assumption) (by with_reducible assumption)) (by with_reducible assumption)) (by with_reducible assumption) (by decide), _, _, rfl, rfl, q⟩
theorem ok_l_maps (T : Txt K mg C_Form C_Ring C_Element) : Def P w K mg base 1 "_law_maps" ["_law_form", "_law_prime"] (sp_l_maps K C_Form C_Ring C_Element) := by
  obtain ⟨f_, fd_, g_, F_⟩ := T.d_l_maps
  refine ⟨f_, fd_, g_, F_.kp, F_.binds (ps := ["_law_form", "_law_prime"]) (fun _ _ _ _ _ _ us hl => match us, hl with | [_, _], _ => rfl), ?_⟩
  refine F_.ok sc_l_maps (fun vs H Q E h => ?_) (fun cdv A outer s H vs Q E hr h => ?_)
  · first | (obtain ⟨rfl, _⟩ := h; rfl) | (obtain ⟨_, rfl, _⟩ := h; rfl) | (obtain ⟨_, _, rfl, _⟩ := h; rfl) | (obtain ⟨_, _, _, rfl, _⟩ := h; rfl) | (obtain ⟨_, _, _, _, rfl, _⟩ := h; rfl) | (obtain ⟨_, _, _, _, _, rfl, _⟩ := h; rfl) | (obtain ⟨_, _, _, _, _, _, rfl, _⟩ := h; rfl) | (obtain ⟨_, _, _, _, _, _, _, rfl, _⟩ := h; rfl) | (obtain ⟨_, _, _, _, _, _, _, _, rfl, _⟩ := h; rfl) | (obtain ⟨_, _, _, _, _, _, _, _, _, rfl, _⟩ := h; rfl) | (obtain ⟨_, _, _, _, _, _, _, _, _, _, rfl, _⟩ := h; rfl) | (obtain ⟨_, _, _, _, _, _, _, _, _, _, _, rfl, _⟩ := h; rfl) | (obtain ⟨_, _, _, _, _, _, _, _, _, _, _, _, rfl, _⟩ := h; rfl) | (obtain ⟨_, _, _, _, _, _, _, _, _, _, _, _, _, rfl, _⟩ := h; rfl) | (obtain ⟨_, _, _, _, _, _, _, _, _, _, _, _, _, _, rfl, _⟩ := h; rfl) | (obtain ⟨_, _, _, _, _, _, _, _, _, _, _, _, _, _, _, rfl, _⟩ := h; rfl) | (obtain ⟨_, _, _, _, _, _, _, _, _, _, _, _, _, _, _, _, rfl, _⟩ := h; rfl) | (obtain ⟨_, _, _, _, _, _, _, _, _, _, _, _, _, _, _, _, _, rfl, _⟩ := h; rfl) | (obtain ⟨_, _, _, _, _, _, _, _, _, _, _, _, _, _, _, _, _, _, rfl, _⟩ := h; rfl) | (obtain ⟨_, _, _, _, _, _, _, _, _, _, _, _, _, _, _, _, _, _, _, rfl, _⟩ := h; rfl) | (obtain ⟨_, _, _, _, _, _, _, _, _, _, _, _, _, _, _, _, _, _, _, _, rfl, _⟩ := h; rfl) | (obtain ⟨_, _, _, _, _, _, _, _, _, _, _, _, _, _, _, _, _, _, _, _, _, rfl, _⟩ := h; rfl) | (obtain ⟨_, _, _, _, _, _, _, _, _, _, _, _, _, _, _, _, _, _, _, _, _, _, rfl, _⟩ := h; rfl) | (obtain ⟨_, _, _, _, _, _, _, _, _, _, _, _, _, _, _, _, _, _, _, _, _, _, _, rfl, _⟩ := h; rfl)
  · obtain ⟨t, a, b, c, d, p, rfl, ht, p0, p1, q⟩ := h
    refine ⟨_, (pss_cons (ps_asg (pe_lc (own := [("_law_one", 10)]) (g := (gName 10)) rfl sc_l_maps.nd (pi_tup (pv 0)) (blkOk_by (N := N_l_maps) (sc := defScope s_l_maps) (by decide +kernel)) (fun _ _ _ _ _ => (pg_name (i := 10) sc_l_maps.nd rfl (.inl rfl))) (fun _ _ _ _ _ => pts_nil) (fun _ _ _ _ _ => (pe_op op_mod (pe_callTy call_int1 (by rfl) T.b_int (by decide +kernel) (pa_cons (pv 10) pa_nil)) (pv 1)))) (pg_lst (by rfl) (pgs_cons (pg_name (i := 2) sc_l_maps.nd rfl (.inl rfl)) (pgs_cons (pg_name (i := 3) sc_l_maps.nd rfl (.inl rfl)) (pgs_cons (pg_name (i := 4) sc_l_maps.nd rfl (.inl rfl)) (pgs_cons (pg_name (i := 5) sc_l_maps.nd rfl (.inl rfl)) pgs_nil))))))
    (pss_cons (ps_set (i := 6) sc_l_maps.nd rfl (.inl rfl) (pe_lst pa_nil))
    (pss_cons (ps_for PassesOwn.never rfl (pi_range1 (by rfl) T.b_range (pa_cons (pv 1) pa_nil)) (pg_name (i := 7) sc_l_maps.nd rfl (.inl rfl))
      (pss_one (ps_for PassesOwn.never rfl (pi_range1 (by rfl) T.b_range (pa_cons (pv 1) pa_nil)) (pg_name (i := 8) sc_l_maps.nd rfl (.inl rfl))
      (Evl.pss_cut (ps_set (i := 9) sc_l_maps.nd rfl (.inl rfl) (pe_lst (pa_cons (pe_op op_add (pe_op op_mulW (pv 7) (pv 8)) (pe_op op_mulW (pv 2) (pv 5))) (pa_cons (pe_op op_add (pe_op op_sub (pe_op op_add (pe_op op_mulW (pv 7) (pv 7)) (pe_op op_mulW (pv 2) (pv 4))) (pe_op op_mulW (pv 3) (pv 7))) (pe_op op_mulW (pv 2) (pv 8))) (pa_cons (pe_op op_add (pe_op op_sub (pe_op op_add (pe_op op_mulW (pv 8) (pv 8)) (pe_op op_mulW (pv 3) (pv 5))) (pe_op op_mulW (pv 5) (pv 7))) (pe_op op_mulW (pv 4) (pv 8))) pa_nil)))))
    (pss_one (ps_if (pt_cmpR (op_eqD hr.units) (pe_lc (own := [("_law_one", 10)]) (g := (gName 10)) rfl sc_l_maps.nd (pi_list (pv 9)) (blkOk_by (N := N_l_maps) (sc := defScope s_l_maps) (by decide +kernel)) (fun _ _ _ _ _ => (pg_name (i := 10) sc_l_maps.nd rfl (.inl rfl))) (fun _ _ _ _ _ => (pts_one (pt_cmpR op_ne (pe_op op_mod (pe_callTy call_int1 (by rfl) T.b_int (by decide +kernel) (pa_cons (pv 10) pa_nil)) (pv 1)) pe_int (nomark _)))) (fun _ _ _ _ _ => (pv 10))) (pe_lst pa_nil) (nomark _))
      (pss_one (ps_expr (pe_bm PySem.F.plainAttrs_list PySem.F.slot_list_append PySem.F.type_list_append mt_append (pv 6) (pa_cons (pe_tup (pa_cons (pv 7) (pa_cons (pv 8) pa_nil))) pa_nil))))
      pss_nil))))))
    (pss_one (ps_ret (pv 6)))))), ?_⟩
    have p0' : (0 : Int) < (p : Int) := by omega
    have pn : (p : Int) ≠ 0 := by omega
    refine ⟨_, rfl, t, rfl, ⟨_, SqT.of ht⟩, ?_⟩
    refine lcT fm0 trivial (SqT.of ht) (fun z => z) (fun i acc _ => acc = (([a % (p : Int), b % (p : Int), c % (p : Int), d % (p : Int)] : List Int).take i).map V.int) (fun _ _ => rfl) (fun D i v acc H' hD hv e hA hlen hp => ?_) (fun D H1 acc hD e1 hA hp' => ?_)
    · obtain ⟨n, hn, rfl⟩ := get_int hv
      have hi : i < 4 := (List.getElem?_eq_some_iff.mp hn).1
      refine ⟨rfl, ?_⟩
      refine ⟨_, rfl, .inl ⟨_, rfl, _, rfl, _, _, rfl, rfl, p0', ?_⟩⟩
      refine cs_yes fm0 trivial hD e hA hlen (by omega) (Fx.refl trivial) ?_
      show acc ++ [V.int (n % (p : Int))] = _
      rw [hp]
      match i, hn with
      | 0, hn => rw [← Option.some.inj hn]; rfl
      | 1, hn => rw [← Option.some.inj hn]; rfl
      | 2, hn => rw [← Option.some.inj hn]; rfl
      | 3, hn => rw [← Option.some.inj hn]; rfl
    have hp2 : acc = ([a % (p : Int), b % (p : Int), c % (p : Int), d % (p : Int)] : List Int).map V.int := hp'
    subst hp2
    have bm : ∀ z : Int, B 10 (z % (p : Int)) := fun z => by
      have h1 := Int.emod_nonneg z pn
      have h2 := Int.emod_lt_of_pos z p0'
      exact ⟨by show _ < 1024; omega, by decide⟩
    have ba := bm a
    have bb := bm b
    have bc := bm c
    have bd := bm d
    rw [← MapM.mapsL_red a b c d p0] at q
    generalize a % (p : Int) = a at *
    generalize b % (p : Int) = b at *
    generalize c % (p : Int) = c at *
    generalize d % (p : Int) = d at *
    refine ⟨D, _, rfl, SqL.of hA, rfl, _, _, rfl, _, _, rfl, _, _, rfl, _, _, rfl, rfl, ?_⟩
    refine ⟨Nat.zero_le _, fun f nf => ?_⟩
    have ef := Ex0.new (o := .lst []) nf
    refine ⟨_, rfl, _, rfl, by omega, by omega, ?_⟩
    refine for_range (lo := 0) (n := (p : Int).toNat) (fun i σ H' => ∃ (ys : List V) (y7 y8 y9 : Option V), σ = [some (.ref t), some (.int (p : Int)), some (.int a), some (.int b), some (.int c), some (.int d), some (.ref f), y7, y8, y9, none] ∧ Ex0 H1 H' ∧ H' f = some (.lst ys) ∧ ys.length ≤ i * p ∧ PrT K H' ys (MapM.mapsTo a b c d p i)) ⟨[], none, none, none, rfl, ef, upd_same, Nat.zero_le _, .nil⟩ ?_ ?_
    · rintro i σ H2 hi ⟨ys, y7, y8, y9, rfl, e2, hf2, hl2, hP2⟩
      have hi' : i < p := by simpa using hi
      refine ⟨_, rfl, _, rfl, by omega, by omega, ?_⟩
      refine for_range (lo := 0) (n := (p : Int).toNat) (fun j σ H' => ∃ (ys : List V) (y8 y9 : Option V), σ = [some (.ref t), some (.int (p : Int)), some (.int a), some (.int b), some (.int c), some (.int d), some (.ref f), some (.int (i : Int)), y8, y9, none] ∧ Ex0 H1 H' ∧ H' f = some (.lst ys) ∧ ys.length ≤ i * p + j ∧ PrT K H' ys (MapM.mapsTo a b c d p i ++ ((List.range j).filter fun (v : Nat) => MapM.rstB a b c d p i v).map fun (v : Nat) => ((i : Int), (v : Int)))) ⟨ys, y8, y9, by rw [Int.zero_add]; rfl, e2, hf2, hl2, by simpa using hP2⟩ ?_ ?_
      · rintro j σ H3 hj ⟨ys, y8, y9, rfl, e3, hf3, hl3, hP3⟩
        have hj' : j < p := by simpa using hj
        rw [show (0 : Int) + (j : Int) = (j : Int) by omega]
        have bu : B 10 (i : Int) := ⟨by show _ < 1024; omega, by decide⟩
        have bv : B 10 (j : Int) := ⟨by show _ < 1024; omega, by decide⟩
        refine ⟨fun σ H' => ∃ (l : Addr), σ = [some (.ref t), some (.int (p : Int)), some (.int a), some (.int b), some (.int c), some (.int d), some (.ref f), some (.int (i : Int)), some (.int (j : Int)), some (.ref l), none] ∧ Ex0 H3 H' ∧ H' l = some (.lst (([(i : Int) * (j : Int) + a * d, (i : Int) * (i : Int) + a * c - b * (i : Int) + a * (j : Int), (j : Int) * (j : Int) + b * d - d * (i : Int) + c * (j : Int)] : List Int).map V.int)), ?_, ?_⟩
        · exact ⟨_, rfl, _, rfl, _, _, rfl, rfl, mulB (by with_reducible assumption) (by with_reducible assumption) (by decide), _, rfl, _, rfl, _, _, rfl, rfl, mulB (by with_reducible assumption) (by with_reducible assumption) (by decide), _, _, rfl, rfl, _, rfl, _, rfl, _, _, rfl, rfl, mulB (by with_reducible assumption) (by with_reducible assumption) (by decide), _, rfl, _, rfl, _, _, rfl, rfl, mulB (by with_reducible assumption) (by with_reducible assumption) (by decide), _, _, rfl, rfl, _, rfl, _, rfl, _, _, rfl, rfl, mulB (by with_reducible assumption) (by with_reducible assumption) (by decide), _, _, rfl, rfl, _, rfl, _, rfl, _, _, rfl, rfl, mulB (by with_reducible assumption) (by with_reducible assumption) (by decide), _, _, rfl, rfl, _, rfl, _, rfl, _, _, rfl, rfl, mulB (by with_reducible assumption) (by with_reducible assumption) (by decide), _, rfl, _, rfl, _, _, rfl, rfl, mulB (by with_reducible assumption) (by with_reducible assumption) (by decide), _, _, rfl, rfl, _, rfl, _, rfl, _, _, rfl, rfl, mulB (by with_reducible assumption) (by with_reducible assumption) (by decide), _, _, rfl, rfl, _, rfl, _, rfl, _, _, rfl, rfl, mulB (by with_reducible assumption) (by with_reducible assumption) (by decide), _, _, rfl, rfl, sl3, fun l nl => ⟨l, rfl, Ex0.new nl, upd_same⟩⟩
        · rintro σ H4 ⟨l, rfl, e4, hl4⟩
          refine ⟨_, rfl, l, rfl, ⟨_, SqL.of hl4⟩, ?_⟩
          refine lcL fm0 trivial (SqL.of hl4) (fun z => z) (fun k acc _ => acc = ((([(i : Int) * (j : Int) + a * d, (i : Int) * (i : Int) + a * c - b * (i : Int) + a * (j : Int), (j : Int) * (j : Int) + b * d - d * (i : Int) + c * (j : Int)] : List Int).take k).filter fun n => !decide (n % (p : Int) = 0)).map V.int) (fun _ _ => rfl) (fun D k v acc H5 hD hv e5 hA hlen hp => ?_) (fun D H5 acc hD e5 hA hp' => ?_)
          · obtain ⟨n, hn, rfl⟩ := get_int hv
            refine ⟨rfl, ?_⟩
            refine ⟨_, rfl, .inl ⟨_, rfl, _, rfl, _, _, rfl, rfl, p0', rfl, _, rfl, ?_⟩⟩
            refine iteEn (fun g => ?_) (fun g => ?_)
            · refine ⟨_, rfl, ?_⟩
              refine cs_yes fm0 trivial hD e5 hA hlen (by have : k < 3 := (List.getElem?_eq_some_iff.mp hn).1; omega) (Fx.refl trivial) ?_
              rw [hp, List.take_add_one, hn, List.filter_append]
              rw [show (some n).toList.filter (fun n => !decide (n % (p : Int) = 0)) = [n] from by
                show List.filter _ [n] = _
                rw [List.filter_cons, if_pos (by rw [decide_eq_false g]; rfl)]; rfl, List.map_append]
              rfl
            · refine cs_no fm0 trivial hD e5 hA hlen (Fx.refl trivial) ?_
              rw [hp, List.take_add_one, hn, List.filter_append]
              rw [show (some n).toList.filter (fun n => !decide (n % (p : Int) = 0)) = [] from by
                show List.filter _ [n] = _
                rw [List.filter_cons, if_neg (by rw [decide_eq_true g]; decide)]; rfl, List.append_nil]
          · have hp2 : acc = ((([(i : Int) * (j : Int) + a * d, (i : Int) * (i : Int) + a * c - b * (i : Int) + a * (j : Int), (j : Int) * (j : Int) + b * d - d * (i : Int) + c * (j : Int)] : List Int)).filter fun n => !decide (n % (p : Int) = 0)).map V.int := hp'
            subst hp2
            refine ⟨Nat.zero_le _, fun w0 nw => ?_⟩
            have ew := Ex0.new (o := .lst []) nw
            refine ⟨.list (List.map .int _), .list (List.map .int []), .lst (SqL.of (Ex0.ap ew hA)) (dp_ints _), .lst (SqL.of upd_same) .nil, shaped_ints _, shaped_ints [], _, rfl, ?_⟩
            rw [PyData.eqv, eqv_ints]
            have e36 := (e4.trans e5).trans ew
            have hf6 := Ex0.ap e36 hf3
            have hP6 := hP3.ex e36
            have hrb : decide ((([(i : Int) * (j : Int) + a * d, (i : Int) * (i : Int) + a * c - b * (i : Int) + a * (j : Int), (j : Int) * (j : Int) + b * d - d * (i : Int) + c * (j : Int)] : List Int).filter fun n => !decide (n % (p : Int) = 0)) = []) = MapM.rstB a b c d p i j := by
              unfold MapM.rstB
              rw [Bool.eq_iff_iff, decide_eq_true_iff, List.filter_eq_nil_iff, Bool.and_eq_true, Bool.and_eq_true]
              simp only [List.mem_cons, List.mem_nil_iff, or_false, forall_eq_or_imp, forall_eq, Bool.not_eq_true', decide_eq_false_iff_not, Decidable.not_not, decide_eq_true_iff, and_assoc]
            rw [hrb]
            refine iteB (fun hk => ?_) (fun hk => ?_)
            · refine ⟨_, rfl, .inl ⟨rfl, _, SqL.of hf6⟩, _, rfl, _, rfl, sl2, fun z nz => ?_⟩
              have ez := Ex0.new (o := .tup [.int (i : Int), .int (j : Int)]) nz
              refine ⟨f, ys, _, rfl, rfl, Ex0.ap ez hf6, ?_, ?_⟩
              · have : i * p ≤ 100 * 100 := Nat.mul_le_mul (by omega) (by omega)
                rw [sizeLine_eq]
                omega
              refine ⟨ys ++ [.ref z], _, _, rfl, Fx.mut fm0 (e3.trans (e36.trans ez)) trivial nf, upd_same, by rw [List.length_append]; show ys.length + 1 ≤ _; omega, ?_⟩
              rw [List.range_succ, List.filter_append, List.map_append, List.filter_cons, if_pos hk, ← List.append_assoc]
              exact ((hP6.ex ez).upd (Ex0.ap ez hf6)).snoc (sqT_upd (Ex0.ap ez hf6) (SqT.of upd_same))
            · refine ⟨ys, _, _, rfl, e3.trans e36, hf6, by omega, ?_⟩
              rw [List.range_succ, List.filter_append, List.map_append, List.filter_cons, if_neg (by rw [hk]; decide)]
              simpa using hP6
      · rintro σ H3 ⟨ys, y8, y9, rfl, e3, hf3, hl3, hP3⟩
        rw [Int.toNat_natCast] at hl3 hP3
        refine ⟨ys, _, y8, y9, rfl, e3, hf3, by rw [Nat.add_mul, Nat.one_mul]; exact hl3, ?_⟩
        unfold MapM.mapsTo
        rw [List.range_succ, List.flatMap_append, List.flatMap_cons, List.flatMap_nil, List.append_nil]
        exact hP3
    · rintro σ H2 ⟨ys, y7, y8, y9, rfl, e2, hf2, hl2, hP2⟩
      rw [Int.toNat_natCast] at hP2
      exact ⟨_, rfl, q f ys H2 (Fx.trans e1 e2) hf2 hP2⟩
theorem ok_l_by_roots (T : Txt K mg C_Form C_Ring C_Element) : Def P w K mg base 2 "_law_by_roots" ["_law_form", "_law_prime"] (sp_l_by_roots K C_Form C_Ring C_Element) := by
  obtain ⟨f_, fd_, g_, F_⟩ := T.d_l_by_roots
  obtain ⟨f_l_at, fd_l_at, g_l_at, k_l_at, b_l_at, G_l_at⟩ := (ok_l_at (P := P) (w := w) (base := base) T)
  refine ⟨f_, fd_, g_, F_.kp, F_.binds (ps := ["_law_form", "_law_prime"]) (fun _ _ _ _ _ _ us hl => match us, hl with | [_, _], _ => rfl), ?_⟩
  refine F_.ok sc_l_by_roots (fun vs H Q E h => ?_) (fun cdv A outer s H vs Q E hr h => ?_)
  · first | (obtain ⟨rfl, _⟩ := h; rfl) | (obtain ⟨_, rfl, _⟩ := h; rfl) | (obtain ⟨_, _, rfl, _⟩ := h; rfl) | (obtain ⟨_, _, _, rfl, _⟩ := h; rfl) | (obtain ⟨_, _, _, _, rfl, _⟩ := h; rfl) | (obtain ⟨_, _, _, _, _, rfl, _⟩ := h; rfl) | (obtain ⟨_, _, _, _, _, _, rfl, _⟩ := h; rfl) | (obtain ⟨_, _, _, _, _, _, _, rfl, _⟩ := h; rfl) | (obtain ⟨_, _, _, _, _, _, _, _, rfl, _⟩ := h; rfl) | (obtain ⟨_, _, _, _, _, _, _, _, _, rfl, _⟩ := h; rfl) | (obtain ⟨_, _, _, _, _, _, _, _, _, _, rfl, _⟩ := h; rfl) | (obtain ⟨_, _, _, _, _, _, _, _, _, _, _, rfl, _⟩ := h; rfl) | (obtain ⟨_, _, _, _, _, _, _, _, _, _, _, _, rfl, _⟩ := h; rfl) | (obtain ⟨_, _, _, _, _, _, _, _, _, _, _, _, _, rfl, _⟩ := h; rfl) | (obtain ⟨_, _, _, _, _, _, _, _, _, _, _, _, _, _, rfl, _⟩ := h; rfl) | (obtain ⟨_, _, _, _, _, _, _, _, _, _, _, _, _, _, _, rfl, _⟩ := h; rfl) | (obtain ⟨_, _, _, _, _, _, _, _, _, _, _, _, _, _, _, _, rfl, _⟩ := h; rfl) | (obtain ⟨_, _, _, _, _, _, _, _, _, _, _, _, _, _, _, _, _, rfl, _⟩ := h; rfl) | (obtain ⟨_, _, _, _, _, _, _, _, _, _, _, _, _, _, _, _, _, _, rfl, _⟩ := h; rfl) | (obtain ⟨_, _, _, _, _, _, _, _, _, _, _, _, _, _, _, _, _, _, _, rfl, _⟩ := h; rfl) | (obtain ⟨_, _, _, _, _, _, _, _, _, _, _, _, _, _, _, _, _, _, _, _, rfl, _⟩ := h; rfl) | (obtain ⟨_, _, _, _, _, _, _, _, _, _, _, _, _, _, _, _, _, _, _, _, _, rfl, _⟩ := h; rfl) | (obtain ⟨_, _, _, _, _, _, _, _, _, _, _, _, _, _, _, _, _, _, _, _, _, _, rfl, _⟩ := h; rfl) | (obtain ⟨_, _, _, _, _, _, _, _, _, _, _, _, _, _, _, _, _, _, _, _, _, _, _, rfl, _⟩ := h; rfl)
  · obtain ⟨t, a, b, c, d, p, rfl, ht, p0, p1, q⟩ := h
    refine ⟨_, (pss_cons (ps_asg (pe_lc (own := [("_law_one", 8)]) (g := (gName 8)) rfl sc_l_by_roots.nd (pi_tup (pv 0)) (blkOk_by (N := N_l_by_roots) (sc := defScope s_l_by_roots) (by decide +kernel)) (fun _ _ _ _ _ => (pg_name (i := 8) sc_l_by_roots.nd rfl (.inl rfl))) (fun _ _ _ _ _ => pts_nil) (fun _ _ _ _ _ => (pe_op op_mod (pe_callTy call_int1 (by rfl) T.b_int (by decide +kernel) (pa_cons (pv 8) pa_nil)) (pv 1)))) (pg_lst (by rfl) (pgs_cons (pg_name (i := 2) sc_l_by_roots.nd rfl (.inl rfl)) (pgs_cons (pg_name (i := 3) sc_l_by_roots.nd rfl (.inl rfl)) (pgs_cons (pg_name (i := 4) sc_l_by_roots.nd rfl (.inl rfl)) (pgs_cons (pg_name (i := 5) sc_l_by_roots.nd rfl (.inl rfl)) pgs_nil))))))
    (Evl.pss_cut (ps_set (i := 6) sc_l_by_roots.nd rfl (.inl rfl) (pe_ifExp (pt_cmpR op_eq (pv 2) pe_int (nomark _)) (pe_lst (pa_cons (pe_tup (pa_cons (pv 3) (pa_cons pe_int pa_nil))) pa_nil)) (pe_lst pa_nil)))
    (pss_cons (ps_for PassesOwn.never rfl (pi_range1 (by rfl) T.b_range (pa_cons (pv 1) pa_nil)) (pg_name (i := 7) sc_l_by_roots.nd rfl (.inl rfl))
      (pss_one (ps_if (pt_cmpR op_eq (pe_op op_mod (pe_callTy call_int1 (by rfl) T.b_int (by decide +kernel) (pa_cons (pe_call G_l_at (hr.mono (by decide)) (by rfl) g_l_at k_l_at b_l_at .nil pass0 (pa_cons (pe_tup (pa_cons (pv 2) (pa_cons (pv 3) (pa_cons (pv 4) (pa_cons (pv 5) pa_nil))))) (pa_cons (pv 7) (pa_cons pe_int pa_nil)))) pa_nil)) (pv 1)) pe_int (nomark _))
      (pss_one (ps_expr (pe_bm PySem.F.plainAttrs_list PySem.F.slot_list_append PySem.F.type_list_append mt_append (pv 6) (pa_cons (pe_tup (pa_cons (pe_op op_mod (pe_callTy call_int1 (by rfl) T.b_int (by decide +kernel) (pa_cons (pe_op op_sub pe_int (pe_op op_mulW (pv 2) (pv 7))) pa_nil)) (pv 1)) (pa_cons (pe_op op_mod (pe_callTy call_int1 (by rfl) T.b_int (by decide +kernel) (pa_cons (pe_op op_sub (pe_op op_sub (pe_op op_sub pe_int (pe_op op_mulW (pe_op op_mulW (pv 2) (pv 7)) (pv 7))) (pe_op op_mulW (pv 3) (pv 7))) (pv 4)) pa_nil)) (pv 1)) pa_nil))) pa_nil))))
      pss_nil)))
    (pss_one (ps_ret (pe_callB cr_sortedPT (by rfl) T.b_sorted (by decide +kernel) (pa_cons (pv 6) pa_nil))))))), ?_⟩
    have p0' : (0 : Int) < (p : Int) := by omega
    have pn : (p : Int) ≠ 0 := by omega
    refine ⟨_, rfl, t, rfl, ⟨_, SqT.of ht⟩, ?_⟩
    refine lcT fm0 trivial (SqT.of ht) (fun z => z) (fun i acc _ => acc = (([a % (p : Int), b % (p : Int), c % (p : Int), d % (p : Int)] : List Int).take i).map V.int) (fun _ _ => rfl) (fun D i v acc H' hD hv e hA hlen hp => ?_) (fun D H1 acc hD e1 hA hp' => ?_)
    · obtain ⟨n, hn, rfl⟩ := get_int hv
      have hi : i < 4 := (List.getElem?_eq_some_iff.mp hn).1
      refine ⟨rfl, ?_⟩
      refine ⟨_, rfl, .inl ⟨_, rfl, _, rfl, _, _, rfl, rfl, p0', ?_⟩⟩
      refine cs_yes fm0 trivial hD e hA hlen (by omega) (Fx.refl trivial) ?_
      show acc ++ [V.int (n % (p : Int))] = _
      rw [hp]
      match i, hn with
      | 0, hn => rw [← Option.some.inj hn]; rfl
      | 1, hn => rw [← Option.some.inj hn]; rfl
      | 2, hn => rw [← Option.some.inj hn]; rfl
      | 3, hn => rw [← Option.some.inj hn]; rfl
    have hp2 : acc = ([a % (p : Int), b % (p : Int), c % (p : Int), d % (p : Int)] : List Int).map V.int := hp'
    subst hp2
    have bm : ∀ z : Int, B 10 (z % (p : Int)) := fun z => by
      have h1 := Int.emod_nonneg z pn
      have h2 := Int.emod_lt_of_pos z p0'
      exact ⟨by show _ < 1024; omega, by decide⟩
    have ba := bm a
    have bb := bm b
    have bc := bm c
    have bd := bm d
    have hroots := MapM.rootsG_red a b c d p0
    have hmp : (fun z => MapM.mp (a % p) (b % p) (c % p) p z) = MapM.mp a b c p := funext fun z => MapM.mp_red a b c p0' z
    rw [← hroots, ← hmp] at q
    have a0 := Int.emod_nonneg a pn
    have a1 := Int.emod_lt_of_pos a p0'
    have b0 := Int.emod_nonneg b pn
    have b1 := Int.emod_lt_of_pos b p0'
    clear hroots hmp
    generalize a % (p : Int) = a at *
    generalize b % (p : Int) = b at *
    generalize c % (p : Int) = c at *
    generalize d % (p : Int) = d at *
    refine ⟨D, _, rfl, SqL.of hA, rfl, _, _, rfl, _, _, rfl, _, _, rfl, _, _, rfl, rfl, ?_⟩
    refine ⟨fun σ H' => ∃ (f : Addr) (ys : List V), σ = [some (.ref t), some (.int (p : Int)), some (.int a), some (.int b), some (.int c), some (.int d), some (.ref f), none, none] ∧ Ex0 H1 H' ∧ H1 f = none ∧ H' f = some (.lst ys) ∧ PrT K H' ys ((if a % (p : Int) = 0 then [((1 : Int), (0 : Int))] else []).map (MapM.mp a b c p)) ∧ ys.length ≤ 1, ?_, ?_⟩
    · refine ⟨_, rfl, rfl, _, rfl, iteE (fun g => ?_) (fun g => ?_)⟩
      · refine ⟨_, rfl, sl2, fun o1 n1 => ?_⟩
        have f1 := Ex0.new (o := .tup [.int b, .int 0]) n1
        refine ⟨sl1, fun f nf => ?_⟩
        have f2 := Ex0.new (o := .lst [.ref o1]) nf
        refine ⟨f, _, rfl, f1.trans f2, Fx.free f1 (fun z => z) nf, upd_same, ?_, Nat.le_refl 1⟩
        rw [if_pos (by rw [g]; exact Int.zero_emod _)]
        refine .cons (SqT.of ?_) .nil
        rw [Int.emod_eq_of_lt b0 b1]
        exact Ex0.ap f2 upd_same
      · refine ⟨Nat.zero_le _, fun f nf => ?_⟩
        have f2 := Ex0.new (o := .lst []) nf
        refine ⟨f, [], rfl, f2, nf, upd_same, ?_, Nat.zero_le _⟩
        rw [if_neg (by rw [Int.emod_eq_of_lt a0 a1]; exact g)]
        exact .nil
    rintro σ H2 ⟨f, ys0, rfl, e2, nf, hf2, hP2, hl2⟩
    refine ⟨_, rfl, _, rfl, by omega, by omega, ?_⟩
    refine for_range (lo := 0) (n := (p : Int).toNat) (fun i σ H' => ∃ (ys : List V) (y7 : Option V), σ = [some (.ref t), some (.int (p : Int)), some (.int a), some (.int b), some (.int c), some (.int d), some (.ref f), y7, none] ∧ Ex0 H1 H' ∧ H' f = some (.lst ys) ∧ ys.length ≤ 1 + i ∧ PrT K H' ys ((if a % (p : Int) = 0 then [((1 : Int), (0 : Int))] else []).map (MapM.mp a b c p) ++ (((List.range i).filter fun (x : Nat) => decide (MapM.f3 a b c d x % (p : Int) = 0)).map fun (x : Nat) => ((x : Int), (1 : Int))).map (MapM.mp a b c p))) ⟨ys0, none, rfl, e2, hf2, by omega, by simpa using hP2⟩ ?_ ?_
    · rintro i σ H3 hi ⟨ys, y7, rfl, e3, hf3, hl3, hP3⟩
      have hi' : i < p := by simpa using hi
      rw [show (0 : Int) + (i : Int) = (i : Int) by omega]
      have bu : B 10 (i : Int) := ⟨by show _ < 1024; omega, by decide⟩
      refine ⟨_, rfl, _, rfl, _, rfl, _, rfl, sl4, fun o no => ?_⟩
      have fo := Ex0.new (o := .tup [.int a, .int b, .int c, .int d]) no
      have ho : Ti (upd H3 o (.tup [.int a, .int b, .int c, .int d])) o [a, b, c, d] := upd_same
      have hf4 := Ex0.ap fo hf3
      have hP4 := hP3.ex fo
      generalize upd H3 o (.tup [.int a, .int b, .int c, .int d]) = H4 at *
      refine ⟨_, rfl, o, a, b, c, d, (i : Int), 1, rfl, ho, ba.mono (by decide), bb.mono (by decide), bc.mono (by decide), bd.mono (by decide), bu.mono (by decide), ⟨by decide, by decide⟩, .inl ⟨_, rfl, _, rfl, _, _, rfl, rfl, p0', rfl, _, rfl, ?_⟩⟩
      have ev : fv a b c d (i : Int) 1 = MapM.f3 a b c d i := by unfold fv MapM.f3; grind
      rw [ev]
      refine iteE (fun g => ?_) (fun g => ?_)
      · refine ⟨_, rfl, .inl ⟨rfl, _, SqL.of hf4⟩, ?_⟩
        refine ⟨_, rfl, _, rfl, _, _, rfl, rfl, mulB ba bu (by decide), _, _, rfl, rfl, .inl ⟨_, rfl, _, rfl, _, _, rfl, rfl, p0', ?_⟩⟩
        refine ⟨_, rfl, _, rfl, _, _, rfl, rfl, mulB ba bu (by decide), _, rfl, _, _, rfl, rfl, mulB (B.mul ba bu) bu (by decide), _, _, rfl, rfl, _, rfl, _, rfl, _, _, rfl, rfl, mulB bb bu (by decide), _, _, rfl, rfl, _, rfl, _, _, rfl, rfl, .inl ⟨_, rfl, _, rfl, _, _, rfl, rfl, p0', sl2, fun z nz => ?_⟩⟩
        have ez := Ex0.new (o := .tup [.int ((0 - a * (i : Int)) % (p : Int)), .int ((0 - a * (i : Int) * (i : Int) - b * (i : Int) - c) % (p : Int))]) nz
        refine ⟨f, ys, _, rfl, rfl, Ex0.ap ez hf4, ?_, ?_⟩
        · rw [sizeLine_eq]
          omega
        refine ⟨ys ++ [.ref z], _, rfl, Fx.mut fm0 (e3.trans (fo.trans ez)) trivial nf, upd_same, by rw [List.length_append]; show ys.length + 1 ≤ _; omega, ?_⟩
        have hrec : (List.range (i + 1)).filter (fun (x : Nat) => decide (MapM.f3 a b c d x % (p : Int) = 0)) = (List.range i).filter (fun (x : Nat) => decide (MapM.f3 a b c d x % (p : Int) = 0)) ++ [i] := by
          rw [List.range_succ, List.filter_append, List.filter_cons, if_pos (by show decide (MapM.f3 a b c d i % (p : Int) = 0) = true; exact decide_eq_true g), List.filter_nil]
        have hmi : MapM.mp a b c p ((i : Int), 1) = ((0 - a * (i : Int)) % (p : Int), (0 - a * (i : Int) * (i : Int) - b * (i : Int) - c) % (p : Int)) := by
          have e0 : MapM.mp a b c p ((i : Int), 1) = (-a * i % p, -(a * i * i + b * i + c) % p) := if_neg (by simp)
          rw [e0, show 0 - a * (i : Int) = -a * i by grind, show 0 - a * (i : Int) * (i : Int) - b * (i : Int) - c = -(a * i * i + b * i + c) by grind]
        rw [hrec, List.map_append, List.map_append, List.map_cons, List.map_cons, List.map_nil, List.map_nil, hmi, ← List.append_assoc]
        exact ((hP4.ex ez).upd (Ex0.ap ez hf4)).snoc (sqT_upd (Ex0.ap ez hf4) (SqT.of upd_same))
      · refine ⟨ys, _, rfl, e3.trans fo, hf4, by omega, ?_⟩
        have hrec : (List.range (i + 1)).filter (fun (x : Nat) => decide (MapM.f3 a b c d x % (p : Int) = 0)) = (List.range i).filter (fun (x : Nat) => decide (MapM.f3 a b c d x % (p : Int) = 0)) := by
          rw [List.range_succ, List.filter_append, List.filter_cons, if_neg (by show ¬ (decide (MapM.f3 a b c d i % (p : Int) = 0) = true); rw [decide_eq_false g]; decide), List.filter_nil, List.append_nil]
        rw [hrec]
        exact hP4
    · rintro σ H3 ⟨ys, y7, rfl, e3, hf3, hl3, hP3⟩
      rw [Int.toNat_natCast] at hP3
      refine ⟨_, rfl, f, ys, _, rfl, SqL.of hf3, hP3, fun ys2 qs l pm srt hy nl => ?_⟩
      have fl := Ex0.new (o := .lst ys2) nl
      refine q l ys2 qs _ ((Fx.trans e1 e3).trans fl) upd_same (hy.ex fl) ?_ srt
      refine pm.trans ?_
      rw [← List.map_append]
      exact (List.perm_append_comm).map _
theorem ok_l_goes_along (T : Txt K mg C_Form C_Ring C_Element) : Def P w K mg base 9 "_law_goes_along" ["_law_form", "_law_prime", "_law_pair", "_law_one", "_law_other"] (sp_l_goes_along K C_Form C_Ring C_Element) := by
  obtain ⟨f_, fd_, g_, F_⟩ := T.d_l_goes_along
  obtain ⟨p_Element___add__, f_Element___add__, fd_Element___add__, R_Element___add__, b_Element___add__, G_Element___add__⟩ := (ok_Element___add__ (P := P) (w := w) (base := base) T)
  obtain ⟨p_Element___mul__, f_Element___mul__, fd_Element___mul__, R_Element___mul__, b_Element___mul__, G_Element___mul__⟩ := (ok_Element___mul__ (P := P) (w := w) (base := base) T)
  obtain ⟨p_Element_entries, f_Element_entries, fd_Element_entries, R_Element_entries, b_Element_entries, G_Element_entries⟩ := (ok_Element_entries (P := P) (w := w) (base := base) T)
  obtain ⟨p_Form___init__, f_Form___init__, fd_Form___init__, R_Form___init__, b_Form___init__, G_Form___init__⟩ := (ok_Form___init__ (P := P) (w := w) (base := base) T)
  obtain ⟨p_Ring___init__, f_Ring___init__, fd_Ring___init__, R_Ring___init__, b_Ring___init__, G_Ring___init__⟩ := (ok_Ring___init__ (P := P) (w := w) (base := base) T)
  obtain ⟨p_Ring_element, f_Ring_element, fd_Ring_element, ds_Ring_element, R_Ring_element, b_Ring_element, v_Ring_element, d_Ring_element, G_Ring_element⟩ := (ok_Ring_element (P := P) (w := w) (base := base) T)
  refine ⟨f_, fd_, g_, F_.kp, F_.binds (ps := ["_law_form", "_law_prime", "_law_pair", "_law_one", "_law_other"]) (fun _ _ _ _ _ _ us hl => match us, hl with | [_, _, _, _, _], _ => rfl), ?_⟩
  refine F_.ok sc_l_goes_along (fun vs H Q E h => ?_) (fun cdv A outer s H vs Q E hr h => ?_)
  · first | (obtain ⟨rfl, _⟩ := h; rfl) | (obtain ⟨_, rfl, _⟩ := h; rfl) | (obtain ⟨_, _, rfl, _⟩ := h; rfl) | (obtain ⟨_, _, _, rfl, _⟩ := h; rfl) | (obtain ⟨_, _, _, _, rfl, _⟩ := h; rfl) | (obtain ⟨_, _, _, _, _, rfl, _⟩ := h; rfl) | (obtain ⟨_, _, _, _, _, _, rfl, _⟩ := h; rfl) | (obtain ⟨_, _, _, _, _, _, _, rfl, _⟩ := h; rfl) | (obtain ⟨_, _, _, _, _, _, _, _, rfl, _⟩ := h; rfl) | (obtain ⟨_, _, _, _, _, _, _, _, _, rfl, _⟩ := h; rfl) | (obtain ⟨_, _, _, _, _, _, _, _, _, _, rfl, _⟩ := h; rfl) | (obtain ⟨_, _, _, _, _, _, _, _, _, _, _, rfl, _⟩ := h; rfl) | (obtain ⟨_, _, _, _, _, _, _, _, _, _, _, _, rfl, _⟩ := h; rfl) | (obtain ⟨_, _, _, _, _, _, _, _, _, _, _, _, _, rfl, _⟩ := h; rfl) | (obtain ⟨_, _, _, _, _, _, _, _, _, _, _, _, _, _, rfl, _⟩ := h; rfl) | (obtain ⟨_, _, _, _, _, _, _, _, _, _, _, _, _, _, _, rfl, _⟩ := h; rfl) | (obtain ⟨_, _, _, _, _, _, _, _, _, _, _, _, _, _, _, _, rfl, _⟩ := h; rfl) | (obtain ⟨_, _, _, _, _, _, _, _, _, _, _, _, _, _, _, _, _, rfl, _⟩ := h; rfl) | (obtain ⟨_, _, _, _, _, _, _, _, _, _, _, _, _, _, _, _, _, _, rfl, _⟩ := h; rfl) | (obtain ⟨_, _, _, _, _, _, _, _, _, _, _, _, _, _, _, _, _, _, _, rfl, _⟩ := h; rfl) | (obtain ⟨_, _, _, _, _, _, _, _, _, _, _, _, _, _, _, _, _, _, _, _, rfl, _⟩ := h; rfl) | (obtain ⟨_, _, _, _, _, _, _, _, _, _, _, _, _, _, _, _, _, _, _, _, _, rfl, _⟩ := h; rfl) | (obtain ⟨_, _, _, _, _, _, _, _, _, _, _, _, _, _, _, _, _, _, _, _, _, _, rfl, _⟩ := h; rfl) | (obtain ⟨_, _, _, _, _, _, _, _, _, _, _, _, _, _, _, _, _, _, _, _, _, _, _, rfl, _⟩ := h; rfl)
  · obtain ⟨t, z, o1, o2, a, b, c, d, u, v, i1, i2, i3, j1, j2, j3, p, rfl, ht, sa, sb, sc, sd, hz, p0, p1, u0, u1, v0, v1, h1, h2, hn, hRst, q⟩ := h
    refine ⟨_, (Evl.pss_cut (ps_par (i := 5) (j := 6) (by rfl) sc_l_goes_along.nd rfl rfl (by decide) rfl rfl (pa_cons (pe_make R_Ring___init__ G_Ring___init__ (hr.mono (by decide)) (by rfl) T.g_Ring b_Ring___init__ .nil pass0 (pa_cons (pe_make R_Form___init__ G_Form___init__ (hr.mono (by decide)) (by rfl) T.g_Form b_Form___init__ .nil pass0 (pa_cons (pv 0) pa_nil)) pa_nil)) (pa_cons (pe_lst pa_nil) pa_nil)) (by rfl))
    (Evl.pss_cut (ps_par (i := 7) (j := 8) (by rfl) sc_l_goes_along.nd rfl rfl (by decide) rfl rfl (pa_cons (pe_meth (pv 5) T.cl_Ring R_Ring_element G_Ring_element (hr.mono (by decide)) d_Ring_element v_Ring_element pass0 (pa_cons (pv 3) pa_nil)) (pa_cons (pe_meth (pv 5) T.cl_Ring R_Ring_element G_Ring_element (hr.mono (by decide)) d_Ring_element v_Ring_element pass0 (pa_cons (pv 4) pa_nil)) pa_nil)) (by rfl))
    (pss_cons (ps_for PassesOwn.never rfl (pi_tup (pe_tup (pa_cons (pv 7) (pa_cons (pv 8) (pa_cons (pe_op (op_binI R_Element___mul__ G_Element___mul__ b_Element___mul__ (hr.mono (by decide)) pass0) (pv 7) (pv 8)) (pa_cons (pe_op (op_binI R_Element___add__ G_Element___add__ b_Element___add__ (hr.mono (by decide)) pass0) (pv 7) (pv 8)) pa_nil)))))) (pg_name (i := 9) sc_l_goes_along.nd rfl (.inl rfl))
      (pss_cons (ps_asg (pe_prop (pv 9) T.cl_Element R_Element_entries G_Element_entries (hr.mono (by decide)) b_Element_entries .nil pass0 (by rfl)) (pg_tup (by rfl) (pgs_cons (pg_name (i := 10) sc_l_goes_along.nd rfl (.inl rfl)) (pgs_cons (pg_name (i := 11) sc_l_goes_along.nd rfl (.inl rfl)) (pgs_cons (pg_name (i := 12) sc_l_goes_along.nd rfl (.inl rfl)) pgs_nil)))))
    (pss_one (ps_expr (pe_bm PySem.F.plainAttrs_list PySem.F.slot_list_append PySem.F.type_list_append mt_append (pv 6) (pa_cons (pe_op op_mod (pe_callTy call_int1 (by rfl) T.b_int (by decide +kernel) (pa_cons (pe_op op_add (pe_op op_add (pv 10) (pe_op op_mulW (pv 11) (pe_ix ix_tup (pv 2) pe_int (fun _ _ => rfl)))) (pe_op op_mulW (pv 12) (pe_ix ix_tup (pv 2) pe_int (fun _ _ => rfl)))) pa_nil)) (pv 1)) pa_nil))))))
    (pss_one (ps_ret (pe_and (pe_cmpR op_eq (pe_op op_mod (pe_callTy call_int1 (by rfl) T.b_int (by decide +kernel) (pa_cons (pe_op op_sub (pe_op op_mulW (pe_ix ix_list (pv 6) pe_int (fun _ _ => rfl)) (pe_ix ix_list (pv 6) pe_int (fun _ _ => rfl))) (pe_ix ix_list (pv 6) pe_int (fun _ _ => rfl))) pa_nil)) (pv 1)) pe_int (nomark _)) (pe_one (pe_cmpR op_eq (pe_op op_mod (pe_callTy call_int1 (by rfl) T.b_int (by decide +kernel) (pa_cons (pe_op op_sub (pe_op op_add (pe_ix ix_list (pv 6) pe_int (fun _ _ => rfl)) (pe_ix ix_list (pv 6) pe_int (fun _ _ => rfl))) (pe_ix ix_list (pv 6) pe_int (fun _ _ => rfl))) pa_nil)) (pv 1)) pe_int (nomark _))))))))), ?_⟩
    have sn : ∀ n ∈ [a, b, c, d], Short n := fun n hn => by
      simp only [List.mem_cons, List.mem_nil_iff, or_false] at hn
      rcases hn with rfl | rfl | rfl | rfl <;> assumption
    have bz1 : B4 1000 a b c d := ⟨sa.b.mono (by decide), sb.b.mono (by decide), sc.b.mono (by decide), sd.b.mono (by decide)⟩
    have b6 : ∀ n ∈ [i1, i2, i3, j1, j2, j3], B 6 n := fun n h => ⟨Nat.lt_of_le_of_lt (hn n h) (by decide), by decide⟩
    have sh : ∀ n ∈ [i1, i2, i3, j1, j2, j3], Short n := fun n h => by have := hn n h; exact ⟨by omega, by omega⟩
    have bu : B3 6 i1 i2 i3 := ⟨b6 _ (by simp), b6 _ (by simp), b6 _ (by simp)⟩
    have bv : B3 6 j1 j2 j3 := ⟨b6 _ (by simp), b6 _ (by simp), b6 _ (by simp)⟩
    have one1 : B 1000 1 := ⟨by decide, by decide⟩
    have s1 : Short 1 := ⟨by decide, by decide⟩
    refine ⟨fun σ H' => ∃ (R L : Addr) (H0 : Hp), σ = [some (.ref t), some (.int (p : Int)), some (.ref z), some (.ref o1), some (.ref o2), some (.ref R), some (.ref L), none, none, none, none, none, none] ∧ Ex0 H H0 ∧ RingAt C_Form C_Ring H0 R [a, b, c, d] ∧ H0 L = none ∧ Ex0 H0 H' ∧ H' L = some (.lst []), ?_, ?_⟩
    · refine ⟨_, rfl, fun x dx nx ndx _ => ?_⟩
      refine ⟨x, dx, t, [a, b, c, d], rfl, upd_same, made_at nx ndx ht, rfl, sn, fun H2 e2 h2 => ⟨rfl, ?_⟩⟩
      obtain ⟨e3, hx⟩ := fo_made nx ndx ht e2 h2
      intro y dy ny ndy _
      refine ⟨y, dy, x, [a, b, c, d], rfl, upd_same, Ex0.fo (ex_two ny ndy) hx, fun H3 e4 h4 => ⟨rfl, ?_⟩⟩
      obtain ⟨e5, hy⟩ := ri_made ny ndy hx e4 h4
      refine ⟨Nat.zero_le _, fun L nL => ?_⟩
      exact ⟨_, _, rfl, y, L, H3, rfl, e3.trans e5, hy, nL, Ex0.new nL, upd_same⟩
    rintro σ H2 ⟨R, L, H0, rfl, e0, hR, nL, e02, hL⟩
    have e2 := e0.trans e02
    have hR2 := Ex0.ri e02 hR
    obtain ⟨dR, xR, hR1, _⟩ := id hR2
    refine ⟨fun σ H' => ∃ (X Y : Addr), σ = [some (.ref t), some (.int (p : Int)), some (.ref z), some (.ref o1), some (.ref o2), some (.ref R), some (.ref L), some (.ref X), some (.ref Y), none, none, none, none] ∧ Ex0 H2 H' ∧ ElAt C_Form C_Ring C_Element H' X [a, b, c, d] i1 i2 i3 1 ∧ ElAt C_Form C_Ring C_Element H' Y [a, b, c, d] j1 j2 j3 1, ?_, ?_⟩
    · have h1' := Ex0.ti e2 h1
      refine ⟨_, rfl, R, dR, _, rfl, hR1, (by rfl), _, rfl, R, o1, [a, b, c, d], i1, i2, i3, 1, rfl, hR2, h1', sh _ (by simp), sh _ (by simp), sh _ (by simp), s1, by decide, fun X H3 u' y' z' b' lo e3 hX => ?_⟩
      obtain ⟨rfl, rfl, rfl, rfl⟩ := low1n lo rfl
      have h2' := Ex0.ti (e2.trans e3) h2
      have hR3 := Ex0.ri e3 hR2
      refine ⟨_, rfl, R, dR, _, rfl, Ex0.ap e3 hR1, (by rfl), _, rfl, R, o2, [a, b, c, d], j1, j2, j3, 1, rfl, hR3, h2', sh _ (by simp), sh _ (by simp), sh _ (by simp), s1, by decide, fun Y H4 u' y' z' b' lo e4 hY => ?_⟩
      obtain ⟨rfl, rfl, rfl, rfl⟩ := low1n lo rfl
      exact ⟨_, _, rfl, X, Y, rfl, e3.trans e4, Ex0.el e4 hX, hY⟩
    rintro σ H3 ⟨X, Y, rfl, e3, hX, hY⟩
    obtain ⟨dX, rX, tX, hX0, _, _⟩ := id hX
    obtain ⟨dY, rY, tY, hY0, _, _⟩ := id hY
    refine ⟨_, rfl, _, rfl, _, rfl, _, rfl, X, Y, dX, dY, _, _, rfl, rfl, hX0, hY0, X, Y, a, b, c, d, i1, i2, i3, 1, j1, j2, j3, 1, rfl, hX, hY, bz1, bu.mono (by decide), bv.mono (by decide), one1, one1, by decide, fun M H4 k0 k1 k2 kb lk e4 hM => ⟨⟨_, rfl⟩, ?_⟩⟩
    obtain ⟨rfl, rfl, rfl, rfl⟩ := low1n lk (by decide)
    have hX4 := Ex0.el e4 hX
    have hY4 := Ex0.el e4 hY
    refine ⟨_, rfl, _, rfl, X, Y, dX, dY, _, _, rfl, rfl, Ex0.ap e4 hX0, Ex0.ap e4 hY0, X, Y, _, i1, i2, i3, 1, j1, j2, j3, 1, rfl, hX4, hY4, bu.mono (by decide), bv.mono (by decide), one1, one1, by decide, fun S H5 k0 k1 k2 kb lk e5 hS => ⟨⟨_, rfl⟩, ?_⟩⟩
    obtain ⟨rfl, rfl, rfl, rfl⟩ := low1n lk (by decide)
    rw [show i1 * 1 + j1 * (1 * 1) = i1 + j1 by omega, show i2 * 1 + j2 * (1 * 1) = i2 + j2 by omega, show i3 * 1 + j3 * (1 * 1) = i3 + j3 by omega] at hS
    refine ⟨sl4, fun T nT => ?_⟩
    have e6 := Ex0.new (o := .tup [.ref X, .ref Y, .ref M, .ref S]) nT
    refine ⟨T, rfl, ⟨_, SqT.of upd_same⟩, ?_⟩
    have hX6 := Ex0.el (e5.trans e6) hX4
    have hY6 := Ex0.el (e5.trans e6) hY4
    have hM6 := Ex0.el (e5.trans e6) hM
    have hS6 := Ex0.el e6 hS
    have e36 := (e4.trans e5).trans e6
    have hL6 := Ex0.ap (e3.trans e36) hL
    have hT : (upd H5 T (.tup [.ref X, .ref Y, .ref M, .ref S])) T = some (.tup [.ref X, .ref Y, .ref M, .ref S]) := upd_same
    have e06 : Ex0 H0 (upd H5 T (.tup [.ref X, .ref Y, .ref M, .ref S])) := e02.trans (e3.trans e36)
    have hz6 := Fx.sqT (e0.trans e06) (fun z => z) hz
    generalize upd H5 T (.tup [.ref X, .ref Y, .ref M, .ref S]) = H6 at *
    obtain ⟨w1, w2, w3⟩ := w_B bz1
    have bm0 := (m_B (n := 6) (m := 6) w1.1 w2.1 w3.1 bu bv).1
    have bm1 := (m_B (n := 6) (m := 6) w1.2.1 w2.2.1 w3.2.1 bu bv).2.1
    have bm2 := (m_B (n := 6) (m := 6) w1.2.2 w2.2.2 w3.2.2 bu bv).2.2
    have bU : B 10 u := ⟨by show _ < 1024; omega, by decide⟩
    have bW : B 10 v := ⟨by show _ < 1024; omega, by decide⟩
    have p0' : (0 : Int) < (p : Int) := by omega
    refine for_tup (xs := [.ref X, .ref Y, .ref M, .ref S]) (fun i σ H' => ∃ (y9 y10 y11 y12 : Option V), σ = [some (.ref t), some (.int (p : Int)), some (.ref z), some (.ref o1), some (.ref o2), some (.ref R), some (.ref L), some (.ref X), some (.ref Y), y9, y10, y11, y12] ∧ Ex0 H0 H' ∧ ElAt C_Form C_Ring C_Element H' X [a, b, c, d] i1 i2 i3 1 ∧ ElAt C_Form C_Ring C_Element H' Y [a, b, c, d] j1 j2 j3 1 ∧ ElAt C_Form C_Ring C_Element H' M [a, b, c, d] (m0 (-a * c) (-a * d) (-b * d) i1 i2 i3 j1 j2 j3) (m1 b 0 d i1 i2 i3 j1 j2 j3) (m2 (-a) 0 (-c) i1 i2 i3 j1 j2 j3) 1 ∧ ElAt C_Form C_Ring C_Element H' S [a, b, c, d] (i1 + j1) (i2 + j2) (i3 + j3) 1 ∧ H' T = some (.tup [.ref X, .ref Y, .ref M, .ref S]) ∧ SqT K H' z [.int u, .int v] ∧ H' L = some (.lst ((([ph p u v i1 i2 i3, ph p u v j1 j2 j3, ph p u v (m0 (-a * c) (-a * d) (-b * d) i1 i2 i3 j1 j2 j3) (m1 b 0 d i1 i2 i3 j1 j2 j3) (m2 (-a) 0 (-c) i1 i2 i3 j1 j2 j3), ph p u v (i1 + j1) (i2 + j2) (i3 + j3)] : List Int).take i).map V.int))) ⟨none, none, none, none, rfl, e06, hX6, hY6, hM6, hS6, hT, hz6, hL6⟩ (fun i σ H' _ ⟨_, _, _, _, _, _, _, _, _, _, h, _⟩ => SqT.of h) ?_ ?_
    · rintro i w σ H7 hw ⟨y9, y10, y11, y12, rfl, e7, hX7, hY7, hM7, hS7, hT7, hz7, hL7⟩
      obtain ⟨E, g1, g2, g3, rfl, hE, bg, hval⟩ : ∃ (E : Addr) (g1 g2 g3 : Int), w = .ref E ∧ ElAt C_Form C_Ring C_Element H7 E [a, b, c, d] g1 g2 g3 1 ∧ B3 5000 g1 g2 g3 ∧ ([ph p u v i1 i2 i3, ph p u v j1 j2 j3, ph p u v (m0 (-a * c) (-a * d) (-b * d) i1 i2 i3 j1 j2 j3) (m1 b 0 d i1 i2 i3 j1 j2 j3) (m2 (-a) 0 (-c) i1 i2 i3 j1 j2 j3), ph p u v (i1 + j1) (i2 + j2) (i3 + j3)] : List Int).take (i + 1) = ([ph p u v i1 i2 i3, ph p u v j1 j2 j3, ph p u v (m0 (-a * c) (-a * d) (-b * d) i1 i2 i3 j1 j2 j3) (m1 b 0 d i1 i2 i3 j1 j2 j3) (m2 (-a) 0 (-c) i1 i2 i3 j1 j2 j3), ph p u v (i1 + j1) (i2 + j2) (i3 + j3)] : List Int).take i ++ [ph p u v g1 g2 g3] := by
        match i, hw with
        | 0, hw => exact ⟨X, _, _, _, (Option.some.inj hw).symm, hX7, bu.mono (by decide), rfl⟩
        | 1, hw => exact ⟨Y, _, _, _, (Option.some.inj hw).symm, hY7, bv.mono (by decide), rfl⟩
        | 2, hw => exact ⟨M, _, _, _, (Option.some.inj hw).symm, hM7, ⟨bm0.mono (by decide), bm1.mono (by decide), bm2.mono (by decide)⟩, rfl⟩
        | 3, hw => exact ⟨S, _, _, _, (Option.some.inj hw).symm, hS7, ⟨(B.add bu.1 bv.1).mono (by decide), (B.add bu.2.1 bv.2.1).mono (by decide), (B.add bu.2.2 bv.2.2).mono (by decide)⟩, rfl⟩
      have hi4 : i < 4 := (List.getElem?_eq_some_iff.mp hw).1
      obtain ⟨dE, rE, tE, hE0, _, _⟩ := id hE
      refine ⟨_, rfl, E, dE, _, rfl, hE0, E, _, g1, g2, g3, 1, rfl, hE, fun tt htt => ?_⟩
      refine ⟨tt, _, rfl, SqT.of htt, rfl, _, _, rfl, _, _, rfl, _, _, rfl, rfl, ?_⟩
      refine ⟨_, rfl, .inl ⟨rfl, _, SqL.of hL7⟩, _, rfl, _, rfl, _, rfl, z, _, 0, .int u, rfl, rfl, hz7, rfl, _, _, rfl, rfl, mulB bg.2.1 bU (by decide), _, _, rfl, rfl, _, rfl, _, rfl, z, _, 1, .int v, rfl, rfl, hz7, rfl, _, _, rfl, rfl, mulB bg.2.2 bW (by decide), _, _, rfl, rfl, .inl ⟨_, rfl, _, rfl, _, _, rfl, rfl, p0', ?_⟩⟩
      refine ⟨L, _, _, rfl, rfl, hL7, ?_, ?_⟩
      · rw [List.length_map]
        refine Nat.lt_of_le_of_lt (List.length_take_le _ _) ?_
        rw [sizeLine_eq]
        omega
      refine ⟨_, _, _, _, rfl, Fx.mut fm0 e7 trivial nL, el_upd hL7 hX7, el_upd hL7 hY7, el_upd hL7 hM7, el_upd hL7 hS7, ?_, sqT_upd hL7 hz7, ?_⟩
      · rw [upd_ne (ne_of hT7 hL7 (by intro z; cases z))]
        exact hT7
      · rw [upd_same, hval, List.map_append]
        rfl
    · rintro σ H7 ⟨y9, y10, y11, y12, rfl, e7, hX7, hY7, hM7, hS7, hT7, hz7, hL7⟩
      have q1 := ph_B (U := u) (W := v) (x := i1) (y := i2) (z := i3) p0' (by omega)
      have q2 := ph_B (U := u) (W := v) (x := j1) (y := j2) (z := j3) p0' (by omega)
      refine ⟨_, rfl, L, _, 0, .int _, rfl, rfl, SqL.of hL7, rfl, _, rfl, L, _, 1, .int _, rfl, rfl, SqL.of hL7, rfl, _, _, rfl, rfl, mulB q1 q2 (by decide), _, rfl, L, _, 2, .int _, rfl, rfl, SqL.of hL7, rfl, _, _, rfl, rfl, .inl ⟨_, rfl, _, rfl, _, _, rfl, rfl, p0', rfl, _, rfl, iteE (fun g => ?_) (fun g => absurd (ph_mul hRst) g)⟩⟩
      refine ⟨_, rfl, L, _, 0, .int _, rfl, rfl, SqL.of hL7, rfl, _, rfl, L, _, 1, .int _, rfl, rfl, SqL.of hL7, rfl, _, _, rfl, rfl, _, rfl, L, _, 3, .int _, rfl, rfl, SqL.of hL7, rfl, _, _, rfl, rfl, .inl ⟨_, rfl, _, rfl, _, _, rfl, rfl, p0', rfl, ?_⟩⟩
      have e9 : Ex0 H H7 := e0.trans e7
      have hq := q H7 e9
      show Q (.bl (decide (V.int ((ph p u v i1 i2 i3 + ph p u v j1 j2 j3 - ph p u v (i1 + j1) (i2 + j2) (i3 + j3)) % (p : Int)) = V.int 0))) H7
      rw [ph_add, decide_eq_true rfl]
      exact hq
end
end RG
namespace RG
open PySem PySem.Spec PyProof.Rows L2 Fr
open K05M (fv fl2 fl3 fdisc)
section
def sp_l_right (K : PySem.W.Frag) (_ _ _ : Addr) : Sp := fun vs H Q _ => ∃ (c : Addr), vs = [.ref c] ∧ Vat c H ∧ ∀ H', Fv c H H' → Q (.bl true) H'
theorem fv_sqT {K : PySem.W.Frag} {c a : Addr} {H H' : Hp} {xs : List V} (hc : Vat c H) (f : Fv c H H') (h : SqT K H a xs) : SqT K H' a xs := by
  have ne : ∀ {o : HO}, H a = some o → (∀ z, o ≠ .lst z) → ¬ Sv c a := fun h n e => by
    obtain ⟨x, y, z, q⟩ := hc
    unfold Sv at e
    rw [e, q] at h
    exact n _ (Option.some.inj h).symm
  rcases h with (h | ⟨o, h⟩) | h
  · exact .inl (.inl (f.2 _ _ (ne h (by intro z w; cases w)) h))
  · exact .inl (.inr ⟨o, f.2 _ _ (ne h (by intro z w; cases w)) h⟩)
  · exact .inr h
theorem fv_prT {K : PySem.W.Frag} {c : Addr} {H H' : Hp} (hc : Vat c H) (f : Fv c H H') {xs : List V} {ps : List (Int × Int)} (h : PrT K H xs ps) : PrT K H' xs ps := by
  induction h with
  | nil => exact .nil
  | cons h _ ih => exact .cons (fv_sqT hc f h) ih
theorem eqv_lp (ps qs : List (Int × Int)) : PyData.eqv (.list (ps.map pi2)) (.list (qs.map pi2)) = decide (ps = qs) := by
  rw [PyData.eqv, eqv_pis]
theorem shaped_lpis (fs : List (Int × Int)) : SeqAt.shaped (.list (fs.map pi2)) = true := shaped_pis fs
theorem fv_ls {c a : Addr} {H H' : Hp} {xs : List V} (f : Fv c H H') (ne : a ≠ c) (h : H a = some (.lst xs)) : H' a = some (.lst xs) := f.2 a _ (fun e => ne e) h
theorem pr_of {p : Nat} (h : p ∈ [2, 3, 5, 7, 11, 13, 17, 19, 23, 29, 31]) : Pr p := by
  have hp : 2 ≤ p ∧ p < 36 := by
    simp only [List.mem_cons, List.mem_nil_iff, or_false] at h
    omega
  refine ⟨hp.1, fun c h2 hc => ?_⟩
  have c5 : c ≤ 5 := by
    rcases Nat.lt_or_ge 5 c with g | g
    · have := Nat.mul_le_mul g g
      omega
    · exact g
  simp only [List.mem_cons, List.mem_nil_iff, or_false] at h
  have : c = 2 ∨ c = 3 ∨ c = 4 ∨ c = 5 := by omega
  rcases this with rfl | rfl | rfl | rfl <;> omega
theorem primes_of {p : Nat} (h : p ∈ [2, 3, 5, 7, 11, 13, 23, 31]) : p ∈ [2, 3, 5, 7, 11, 13, 17, 19, 23, 29, 31] := by
  simp only [List.mem_cons, List.mem_nil_iff, or_false] at h ⊢
  omega
theorem lex_of {l : List (Int × Int)} (h : l.Pairwise MapM.lexQ) : l.Pairwise lexP := h.imp fun {z w} h => by
  rcases h with h | ⟨h, g⟩
  · exact .inl h
  · exact .inr ⟨h, by omega⟩
theorem told_eq {a b c d : Int} {p : Nat} {qs : List (Int × Int)} (hp : p ∈ [2, 3, 5, 7, 11, 13, 17, 19, 23, 29, 31]) (hF : Full a b c d p → qs = [(0, 0)]) (hN : ¬ Full a b c d p → qs.Perm ((MapM.rootsG a b c d p).map (MapM.mp a b c p)) ∧ qs.Pairwise lexP) : qs = MapM.mapsL a b c d p := by
  have hI := MapM.inv31 hp
  have p2 := (pr_of hp).1
  have m1 := lex_of (MapM.mapsTo_sorted a b c d p p)
  have m2 := MapM.maps_nodup a b c d p
  by_cases h : Full a b c d p
  · rw [hF h]
    obtain ⟨h1, h2, h3, h4⟩ := h
    exact eq_sorted (List.pairwise_singleton _ _) (List.pairwise_singleton _ _) m1 m2 (MapM.full_maps hI p2 h1 h2 h3 h4)
  · obtain ⟨h1, h2⟩ := hN h
    refine eq_sorted h2 (h1.nodup_iff.mpr (MapM.mp_nodup hI p2 h)) m1 m2 fun q => ?_
    rw [h1.mem_iff]
    exact MapM.mem_maps hI p2 q
theorem told_roots {a b c d : Int} {p : Nat} {qs rs : List (Int × Int)} (hp : p ∈ [2, 3, 5, 7, 11, 13, 17, 19, 23, 29, 31]) (hf : ¬ Full a b c d p) (h1 : qs.Perm ((MapM.rootsG a b c d p).map (MapM.mp a b c p))) (h2 : qs.Pairwise lexP) (g1 : rs.Perm ((MapM.rootsG a b c d p).map (MapM.mp a b c p))) (g2 : rs.Pairwise lexP) : qs = rs := by
  have hI := MapM.inv31 hp
  have p2 := (pr_of hp).1
  have nd := MapM.mp_nodup hI p2 hf
  refine eq_sorted h2 (h1.nodup_iff.mpr nd) g2 (g1.nodup_iff.mpr nd) fun q => ?_
  rw [h1.mem_iff, g1.mem_iff]
def Sm3 (H : Hp) (v : V) : Prop := ∃ (o : Addr) (i1 i2 i3 : Int), v = .ref o ∧ Ti H o [i1, i2, i3] ∧ ∀ n ∈ [i1, i2, i3], n.natAbs ≤ 50
theorem Sm3.fv {c : Addr} {H H' : Hp} {v : V} (hc : Vat c H) (e : Fv c H H') (h : Sm3 H v) : Sm3 H' v := by
  obtain ⟨o, i1, i2, i3, rfl, h1, h2⟩ := h
  exact ⟨o, i1, i2, i3, rfl, fv_tup hc e h1, h2⟩
theorem Sm3.upd {D : Addr} {H : Hp} {acc ys : List V} {v : V} (hD : H D = some (.lst acc)) (h : Sm3 H v) : Sm3 (L2.upd H D (.lst ys)) v := by
  obtain ⟨o, i1, i2, i3, rfl, h1, h2⟩ := h
  refine ⟨o, i1, i2, i3, rfl, ?_, h2⟩
  unfold Ti at h1 ⊢
  rw [upd_ne (ne_of h1 hD (by intro z; cases z))]
  exact h1
end
section
variable {P : Program} {w : World} {K : PySem.W.Frag} {mg : Str → Option Value} {base : Heap} {C_Form C_Ring C_Element : Addr}
theorem ok_l_right (T : Txt K mg C_Form C_Ring C_Element) : Def P w K mg base 10 "_law_right" ["_law_crock_here"] (sp_l_right K C_Form C_Ring C_Element) := by
  obtain ⟨f_, fd_, g_, F_⟩ := T.d_l_right
  obtain ⟨p_Form___init__, f_Form___init__, fd_Form___init__, R_Form___init__, b_Form___init__, G_Form___init__⟩ := (ok_Form___init__ (P := P) (w := w) (base := base) T)
  obtain ⟨f_l_by_roots, fd_l_by_roots, g_l_by_roots, k_l_by_roots, b_l_by_roots, G_l_by_roots⟩ := (ok_l_by_roots (P := P) (w := w) (base := base) T)
  obtain ⟨f_l_choose, fd_l_choose, g_l_choose, k_l_choose, b_l_choose, G_l_choose⟩ := (ok_l_choose (P := P) (w := w) (base := base) T)
  obtain ⟨f_l_goes_along, fd_l_goes_along, g_l_goes_along, k_l_goes_along, b_l_goes_along, G_l_goes_along⟩ := (ok_l_goes_along (P := P) (w := w) (base := base) T)
  obtain ⟨f_l_lines, fd_l_lines, g_l_lines, k_l_lines, b_l_lines, G_l_lines⟩ := (ok_l_lines (P := P) (w := w) (base := base) T)
  obtain ⟨f_l_maps, fd_l_maps, g_l_maps, k_l_maps, b_l_maps, G_l_maps⟩ := (ok_l_maps (P := P) (w := w) (base := base) T)
  obtain ⟨f_l_scoop, fd_l_scoop, g_l_scoop, k_l_scoop, b_l_scoop, G_l_scoop⟩ := (ok_l_scoop (P := P) (w := w) (base := base) T)
  obtain ⟨f_kind_at, fd_kind_at, g_kind_at, k_kind_at, b_kind_at, G_kind_at⟩ := (ok_kind_at (P := P) (w := w) (base := base) T)
  obtain ⟨f_maps_at, fd_maps_at, g_maps_at, k_maps_at, b_maps_at, G_maps_at⟩ := (ok_maps_at (P := P) (w := w) (base := base) T)
  refine ⟨f_, fd_, g_, F_.kp, F_.binds (ps := ["_law_crock_here"]) (fun _ _ _ _ _ _ us hl => match us, hl with | [_], _ => rfl), ?_⟩
  refine F_.ok sc_l_right (fun vs H Q E h => ?_) (fun cdv A outer s H vs Q E hr h => ?_)
  · first | (obtain ⟨rfl, _⟩ := h; rfl) | (obtain ⟨_, rfl, _⟩ := h; rfl) | (obtain ⟨_, _, rfl, _⟩ := h; rfl) | (obtain ⟨_, _, _, rfl, _⟩ := h; rfl) | (obtain ⟨_, _, _, _, rfl, _⟩ := h; rfl) | (obtain ⟨_, _, _, _, _, rfl, _⟩ := h; rfl) | (obtain ⟨_, _, _, _, _, _, rfl, _⟩ := h; rfl) | (obtain ⟨_, _, _, _, _, _, _, rfl, _⟩ := h; rfl) | (obtain ⟨_, _, _, _, _, _, _, _, rfl, _⟩ := h; rfl) | (obtain ⟨_, _, _, _, _, _, _, _, _, rfl, _⟩ := h; rfl) | (obtain ⟨_, _, _, _, _, _, _, _, _, _, rfl, _⟩ := h; rfl) | (obtain ⟨_, _, _, _, _, _, _, _, _, _, _, rfl, _⟩ := h; rfl) | (obtain ⟨_, _, _, _, _, _, _, _, _, _, _, _, rfl, _⟩ := h; rfl) | (obtain ⟨_, _, _, _, _, _, _, _, _, _, _, _, _, rfl, _⟩ := h; rfl) | (obtain ⟨_, _, _, _, _, _, _, _, _, _, _, _, _, _, rfl, _⟩ := h; rfl) | (obtain ⟨_, _, _, _, _, _, _, _, _, _, _, _, _, _, _, rfl, _⟩ := h; rfl) | (obtain ⟨_, _, _, _, _, _, _, _, _, _, _, _, _, _, _, _, rfl, _⟩ := h; rfl) | (obtain ⟨_, _, _, _, _, _, _, _, _, _, _, _, _, _, _, _, _, rfl, _⟩ := h; rfl) | (obtain ⟨_, _, _, _, _, _, _, _, _, _, _, _, _, _, _, _, _, _, rfl, _⟩ := h; rfl) | (obtain ⟨_, _, _, _, _, _, _, _, _, _, _, _, _, _, _, _, _, _, _, rfl, _⟩ := h; rfl) | (obtain ⟨_, _, _, _, _, _, _, _, _, _, _, _, _, _, _, _, _, _, _, _, rfl, _⟩ := h; rfl) | (obtain ⟨_, _, _, _, _, _, _, _, _, _, _, _, _, _, _, _, _, _, _, _, _, rfl, _⟩ := h; rfl) | (obtain ⟨_, _, _, _, _, _, _, _, _, _, _, _, _, _, _, _, _, _, _, _, _, _, rfl, _⟩ := h; rfl) | (obtain ⟨_, _, _, _, _, _, _, _, _, _, _, _, _, _, _, _, _, _, _, _, _, _, _, rfl, _⟩ := h; rfl)
  · obtain ⟨cr, rfl, hv, q⟩ := h
    refine ⟨_, (Evl.pss_cut (ps_asg (pe_tup (pa_cons (pe_call G_l_choose (hr.mono (by decide)) (by rfl) g_l_choose k_l_choose b_l_choose .nil pass0 (pa_cons (pv 0) (pa_cons (pe_lst (pa_cons pe_int (pa_cons pe_int (pa_cons (pe_op op_pow pe_int pe_int) pa_nil)))) pa_nil))) (pa_cons (pe_call G_l_scoop (hr.mono (by decide)) (by rfl) g_l_scoop k_l_scoop b_l_scoop .nil pass0 (pa_cons (pv 0) (pa_cons pe_int pa_nil))) pa_nil))) (pg_tup (by rfl) (pgs_cons (pg_name (i := 1) sc_l_right.nd rfl (.inr rfl)) (pgs_cons (pg_name (i := 2) sc_l_right.nd rfl (.inl rfl)) pgs_nil))))
    (Evl.pss_cut (ps_setLc (i := 3) (own := [("_law_at_here", 9)]) (g := (gName 9)) rfl sc_l_right.nd rfl rfl (sw_true rfl rfl rfl (by decide +kernel)) (pi_range1 (by rfl) T.b_range (pa_cons pe_int pa_nil)) (blkOk_by (N := N_l_right) (sc := defScope s_l_right) (by decide +kernel)) (fun _ _ _ _ _ => (pg_name (i := 9) sc_l_right.nd rfl (.inl rfl))) (fun _ _ _ _ _ => pts_nil) (fun _ _ _ _ _ => (pe_op op_sub (pe_call G_l_scoop (hr.mono (by decide)) (by rfl) g_l_scoop k_l_scoop b_l_scoop .nil pass0 (pa_cons (pv 0) (pa_cons (pe_op op_add (pe_op op_mulW pe_int (pv 1)) pe_int) pa_nil))) (pv 1))))
    (Evl.pss_cut (ps_set (i := 4) sc_l_right.nd rfl (.inr rfl) (pe_ifExp (pt_cmpR op_lt (pv 2) pe_int (nomark _)) (pe_callTy call_tuple_of (by rfl) T.b_tuple (by decide +kernel) (pa_cons (pe_call G_l_lines (hr.mono (by decide)) (by rfl) g_l_lines k_l_lines b_l_lines .nil pass0 (pa_cons (pe_lst (pa_cons (pe_slice sl_list (pv 3) po_none (po_some pe_int)) (pa_cons (pe_slice sl_list (pv 3) (po_some pe_int) (po_some pe_int)) (pa_cons (pe_slice sl_list (pv 3) (po_some pe_int) po_none) pa_nil)))) pa_nil)) pa_nil)) (pe_callTy call_tuple_of (by rfl) T.b_tuple (by decide +kernel) (pa_cons (pe_slice sl_list (pv 3) po_none (po_some pe_int)) pa_nil))))
    (Evl.pss_cut (ps_set (i := 4) sc_l_right.nd rfl (.inr rfl) (pe_ifExp (pt_cmpR op_eq (pv 2) pe_int (nomark _)) (pe_callTy call_tuple_of (by rfl) T.b_tuple (by decide +kernel) (pa_cons (pe_lc (own := [("_law_one", 5)]) (g := (gName 5)) rfl sc_l_right.nd (pi_tup (pv 4)) (blkOk_by (N := N_l_right) (sc := defScope s_l_right) (by decide +kernel)) (fun _ _ _ _ _ => (pg_name (i := 5) sc_l_right.nd rfl (.inl rfl))) (fun _ _ _ _ _ => pts_nil) (fun _ _ _ _ _ => (pe_op op_mulW pe_int (pv 5)))) pa_nil)) (pv 4)))
    (pss_cons (ps_for PassesOwn.never rfl (pi_list (pe_lst (pa_cons pe_int (pa_cons pe_int (pa_cons pe_int (pa_cons (pe_call G_l_choose (hr.mono (by decide)) (by rfl) g_l_choose k_l_choose b_l_choose .nil pass0 (pa_cons (pv 0) (pa_cons (pe_lst (pa_cons pe_int (pa_cons pe_int (pa_cons pe_int (pa_cons pe_int (pa_cons pe_int pa_nil)))))) pa_nil))) pa_nil)))))) (pg_name (i := 6) sc_l_right.nd rfl (.inr rfl))
      (Evl.pss_cut (ps_set (i := 7) sc_l_right.nd rfl (.inl rfl) (pe_call G_maps_at (hr.mono (by decide)) (by rfl) g_maps_at k_maps_at b_maps_at .nil pass0 (pa_cons (pe_make R_Form___init__ G_Form___init__ (hr.mono (by decide)) (by rfl) T.g_Form b_Form___init__ .nil pass0 (pa_cons (pv 4) pa_nil)) (pa_cons (pv 6) pa_nil))))
    (Evl.pss_cut (ps_if (pt_cmpR (op_neD hr.units) (pv 7) (pe_callTy call_tuple_of (by rfl) T.b_tuple (by decide +kernel) (pa_cons (pe_call G_l_maps (hr.mono (by decide)) (by rfl) g_l_maps k_l_maps b_l_maps .nil pass0 (pa_cons (pv 4) (pa_cons (pv 6) pa_nil))) pa_nil)) (nomark _))
      (pss_one (ps_ret pe_bl))
      pss_nil)
    (Evl.pss_cut (ps_if (pt_cmpR op_eq (pe_call G_kind_at (hr.mono (by decide)) (by rfl) g_kind_at k_kind_at b_kind_at .nil pass0 (pa_cons (pe_make R_Form___init__ G_Form___init__ (hr.mono (by decide)) (by rfl) T.g_Form b_Form___init__ .nil pass0 (pa_cons (pv 4) pa_nil)) (pa_cons (pv 6) pa_nil))) pe_str (nomark _))
      (pss_one (ps_if (pt_cmpR (op_neD hr.units) (pv 7) (pe_tup (pa_cons (pe_tup (pa_cons pe_int (pa_cons pe_int pa_nil))) pa_nil)) (nomark _))
      (pss_one (ps_ret pe_bl))
      pss_nil))
      (pss_one (ps_if (pt_cmpR (op_neD hr.units) (pe_callTy call_list_of (by rfl) T.b_list (by decide +kernel) (pa_cons (pv 7) pa_nil)) (pe_call G_l_by_roots (hr.mono (by decide)) (by rfl) g_l_by_roots k_l_by_roots b_l_by_roots .nil pass0 (pa_cons (pv 4) (pa_cons (pv 6) pa_nil))) (nomark _))
      (pss_one (ps_ret pe_bl))
      pss_nil)))
    (Evl.pss_cut (ps_asg (pe_lc (own := [("_law_side", 10)]) (g := (gName 10)) rfl sc_l_right.nd (pi_range1 (by rfl) T.b_range (pa_cons pe_int pa_nil)) (blkOk_by (N := N_l_right) (sc := defScope s_l_right) (by decide +kernel)) (fun _ _ _ _ _ => (pg_name (i := 10) sc_l_right.nd rfl (.inl rfl))) (fun _ _ _ _ _ => pts_nil) (fun _ _ _ _ _ => (pe_callTy (call_tuple_ofK (K := K) rfl) (by rfl) T.b_tuple (by decide +kernel) (pa_cons (pe_lc (own := [("_law_at_here", 9)]) (g := (gName 9)) rfl sc_l_right.nd (pi_range1 (by rfl) T.b_range (pa_cons pe_int pa_nil)) (blkOk_by (by rfl)) (fun _ _ _ _ _ => (pg_name (i := 9) sc_l_right.nd rfl (.inl rfl))) (fun _ _ _ _ _ => pts_nil) (fun _ _ _ _ _ => (pe_op op_sub (pe_call G_l_scoop (hr.mono (by decide)) (by rfl) g_l_scoop k_l_scoop b_l_scoop .nil pass0 (pa_cons (pv 0) (pa_cons pe_int pa_nil))) pe_int))) pa_nil)))) (pg_lst (by rfl) (pgs_cons (pg_name (i := 5) sc_l_right.nd rfl (.inr rfl)) (pgs_cons (pg_name (i := 8) sc_l_right.nd rfl (.inr rfl)) pgs_nil))))
    (pss_one (ps_if (pt_cmpR (op_neD hr.units) (pe_lc (own := [("_law_pair", 11)]) (g := (gName 11)) rfl sc_l_right.nd (pi_tup (pv 7)) (blkOk_by (N := N_l_right) (sc := defScope s_l_right) (by decide +kernel)) (fun _ _ _ _ _ => (pg_name (i := 11) sc_l_right.nd rfl (.inl rfl))) (fun _ _ _ _ _ => (pts_one (pt_not (pt_val (pe_call G_l_goes_along (hr.mono (by decide)) (by rfl) g_l_goes_along k_l_goes_along b_l_goes_along .nil pass0 (pa_cons (pv 4) (pa_cons (pv 6) (pa_cons (pv 11) (pa_cons (pv 5) (pa_cons (pv 8) pa_nil)))))))))) (fun _ _ _ _ _ => (pv 11))) (pe_lst pa_nil) (nomark _))
      (pss_one (ps_ret pe_bl))
      pss_nil)))))))
    (pss_one (ps_ret pe_bl))))))), ?_⟩
    refine ⟨fun σ H' => ∃ (m w : Int), σ = [some (.ref cr), some (.int m), some (.int w), none, none, none, none, none, none, none, none, none] ∧ Fv cr H H' ∧ 0 ≤ m ∧ m ≤ 100000000, ?_, ?_⟩
    · refine ⟨_, rfl, _, _, rfl, rfl, ⟨by decide, by decide, by decide⟩, sl3, fun l nl => ?_⟩
      have fl := fv_new (o := .lst [.int 2, .int 9, .int (10 ^ (8 : Int).toNat)]) hv nl
      refine ⟨cr, l, _, rfl, fl.1, upd_same, fv_ne hv nl, by simp, by show 3 ≤ 1000; decide, fun v H2 hm e2 => ?_⟩
      have hm' : ∃ m : Int, v = .int m ∧ 0 ≤ m ∧ m ≤ 100000000 := by
        simp only [List.mem_cons, List.mem_nil_iff, or_false] at hm
        rcases hm with rfl | rfl | rfl
        · exact ⟨2, rfl, by decide, by decide⟩
        · exact ⟨9, rfl, by decide, by decide⟩
        · exact ⟨_, rfl, by decide, by decide⟩
      obtain ⟨m, rfl, m0, m1⟩ := hm'
      refine ⟨_, rfl, cr, 4, rfl, e2.1, by decide, by decide, fun w H3 w0 w1 e3 => ⟨sl2, fun o no => ?_⟩⟩
      have v3 := fl.trans (e2.trans e3)
      refine ⟨o, _, rfl, SqT.of upd_same, rfl, _, _, rfl, _, _, rfl, rfl, ?_⟩
      exact ⟨m, w, rfl, v3.trans (fv_new v3.1 no), m0, m1⟩
    rintro σ H1 ⟨m, w, rfl, v1, m0, m1⟩
    have bm : B 30 m := ⟨by show _ < 1073741824; omega, by decide⟩
    refine ⟨fun σ H' => ∃ (l : Addr) (x1 y1 x2 y2 x3 y3 : Int), σ = [some (.ref cr), some (.int m), some (.int w), some (.ref l), none, none, none, none, none, none, none, none] ∧ Fv cr H1 H' ∧ H' l = some (.lst (([x1, y1, x2, y2, x3, y3] : List Int).map V.int)) ∧ l ≠ cr ∧ ∀ z ∈ [x1, y1, x2, y2, x3, y3], z.natAbs ≤ 100000000, ?_, ?_⟩
    · refine ⟨_, rfl, by decide, by decide, ?_⟩
      refine lcR (fmV cr) v1.1 (fun i acc _ => ∃ ns : List Int, acc = ns.map V.int ∧ ns.length = i ∧ ∀ z ∈ ns, z.natAbs ≤ 100000000) (fun _ _ => ⟨[], rfl, rfl, fun _ h => by cases h⟩) (fun D i acc H3 hD hi e5 hA hlen hp => ?_) (fun D H3 acc hD e5 hA hp => ?_)
      · obtain ⟨ns, rfl, hln, hns⟩ := hp
        have hi' : i < 6 := by simpa using hi
        refine ⟨rfl, ?_⟩
        refine ⟨_, rfl, _, rfl, _, _, rfl, rfl, mulB (show B 2 2 from ⟨by decide, by decide⟩) bm (by decide), _, _, rfl, rfl, cr, 2 * m + 1, rfl, e5.1, by omega, by omega, fun r H4 r0 r1 e6 => ?_⟩
        refine ⟨_, rfl, _, _, rfl, rfl, ?_⟩
        refine cs_yes (fmV cr) v1.1 hD e5 hA hlen (by omega) e6 ⟨ns ++ [r - m], by rw [List.map_append]; rfl, by rw [List.length_append, hln]; rfl, fun z hz => ?_⟩
        rcases List.mem_append.mp hz with h | h
        · exact hns z h
        · have : z = r - m := by simpa using h
          omega
      · obtain ⟨ns, rfl, hln, hns⟩ := hp
        obtain ⟨x1, y1, x2, y2, x3, y3, rfl⟩ : ∃ x1 y1 x2 y2 x3 y3, ns = [x1, y1, x2, y2, x3, y3] := by
          have hln' : ns.length = 6 := by simpa using hln
          match ns, hln' with
          | [x1, y1, x2, y2, x3, y3], _ => exact ⟨x1, y1, x2, y2, x3, y3, rfl⟩
        exact ⟨D, x1, y1, x2, y2, x3, y3, rfl, e5, hA, fv_ne v1.1 hD, hns⟩
    rintro σ H2 ⟨l, x1, y1, x2, y2, x3, y3, rfl, e2, hl, lc, hz⟩
    have v2 := v1.trans e2
    refine ⟨fun σ H' => ∃ (t : Addr) (a b c d : Int), σ = [some (.ref cr), some (.int m), some (.int w), some (.ref l), some (.ref t), none, none, none, none, none, none, none] ∧ Fv cr H2 H' ∧ Ti H' t [a, b, c, d] ∧ ∀ z ∈ [a, b, c, d], z.natAbs ≤ 8000000000000000000000000, ?_, ?_⟩
    · refine ⟨_, rfl, _, _, rfl, rfl, _, rfl, iteD (fun g => ?_) (fun g => ?_)⟩
      · refine ⟨_, rfl, _, rfl, l, _, rfl, SqL.of hl, fun s1 n1 => ?_⟩
        have g1 := Ex0.new (o := .lst (cutV (([x1, y1, x2, y2, x3, y3] : List Int).map V.int) none (some 2))) n1
        refine ⟨_, rfl, _, rfl, _, rfl, l, _, rfl, SqL.of (Ex0.ap g1 hl), fun s2 n2 => ?_⟩
        have g2 := Ex0.new (o := .lst (cutV (([x1, y1, x2, y2, x3, y3] : List Int).map V.int) (some 2) (some 4))) n2
        refine ⟨_, rfl, _, rfl, l, _, rfl, SqL.of (Ex0.ap (g1.trans g2) hl), fun s3 n3 => ?_⟩
        have g3 := Ex0.new (o := .lst (cutV (([x1, y1, x2, y2, x3, y3] : List Int).map V.int) (some 4) none)) n3
        refine ⟨sl3, fun o no => ?_⟩
        have go := Ex0.new (o := .lst [.ref s1, .ref s2, .ref s3]) no
        have h1 := Ex0.ap (g2.trans (g3.trans go)) (show upd H2 s1 (.lst (cutV (([x1, y1, x2, y2, x3, y3] : List Int).map V.int) none (some 2))) s1 = some (.lst [.int x1, .int y1]) from upd_same)
        have h2 := Ex0.ap (g3.trans go) (show upd (upd H2 s1 (.lst (cutV (([x1, y1, x2, y2, x3, y3] : List Int).map V.int) none (some 2)))) s2 (.lst (cutV (([x1, y1, x2, y2, x3, y3] : List Int).map V.int) (some 2) (some 4))) s2 = some (.lst [.int x2, .int y2]) from upd_same)
        have h3 := Ex0.ap go (show upd (upd (upd H2 s1 (.lst (cutV (([x1, y1, x2, y2, x3, y3] : List Int).map V.int) none (some 2)))) s2 (.lst (cutV (([x1, y1, x2, y2, x3, y3] : List Int).map V.int) (some 2) (some 4)))) s3 (.lst (cutV (([x1, y1, x2, y2, x3, y3] : List Int).map V.int) (some 4) none)) s3 = some (.lst [.int x3, .int y3]) from upd_same)
        refine ⟨o, s1, s2, s3, x1, y1, x2, y2, x3, y3, rfl, upd_same, h1, h2, h3, hz, fun r ns H4 e4 hr hlen hb => ?_⟩
        obtain ⟨a, b, c, d, rfl⟩ : ∃ A1 A2 A3 A4, ns = [A1, A2, A3, A4] := by
          match ns, hlen with
          | [x, y, z, w], _ => exact ⟨x, y, z, w, rfl⟩
        refine ⟨r, _, rfl, .inl ⟨SqL.of hr, fun t nt => ?_⟩⟩
        exact ⟨t, a, b, c, d, rfl, fv_ex v2.1 ((g1.trans (g2.trans (g3.trans go))).trans (e4.trans (Ex0.new nt))), upd_same, hb⟩
      · refine ⟨_, rfl, _, rfl, l, _, rfl, SqL.of hl, fun s1 n1 => ?_⟩
        have g1 := Ex0.new (o := .lst (cutV (([x1, y1, x2, y2, x3, y3] : List Int).map V.int) none (some 4))) n1
        refine ⟨s1, _, rfl, .inl ⟨SqL.of upd_same, fun t nt => ?_⟩⟩
        exact ⟨t, x1, y1, x2, y2, rfl, fv_ex v2.1 (g1.trans (Ex0.new nt)), upd_same, fun z hz' => Nat.le_trans (hz z (by simp only [List.mem_cons, List.mem_nil_iff, or_false] at hz' ⊢; omega)) (by decide)⟩
    rintro σ H3 ⟨t, a, b, c, d, rfl, e3, ht, hab⟩
    have v3 := v2.trans e3
    refine ⟨fun σ H' => ∃ (t : Addr) (a b c d : Int), σ = [some (.ref cr), some (.int m), some (.int w), some (.ref l), some (.ref t), none, none, none, none, none, none, none] ∧ Fv cr H3 H' ∧ Ti H' t [a, b, c, d] ∧ ∀ z ∈ [a, b, c, d], z.natAbs ≤ 24000000000000000000000000, ?_, ?_⟩
    · have three : ∀ z : Int, z.natAbs ≤ 8000000000000000000000000 → B 90 z := fun z h => ⟨Nat.lt_of_le_of_lt h (by decide), by decide⟩
      refine ⟨_, rfl, rfl, _, rfl, iteE (fun g => ?_) (fun g => ?_)⟩
      · refine ⟨_, rfl, t, rfl, ⟨_, SqT.of ht⟩, ?_⟩
        refine lcT fm0 trivial (SqT.of ht) (fun z => z) (fun i acc _ => acc = (([3 * a, 3 * b, 3 * c, 3 * d] : List Int).take i).map V.int) (fun _ _ => rfl) (fun D i v acc H' hD hv e hA hlen hp => ?_) (fun D H4 acc hD e4 hA hp' => ?_)
        · obtain ⟨n, hn, rfl⟩ := get_int hv
          have hi : i < 4 := (List.getElem?_eq_some_iff.mp hn).1
          have hnm : n ∈ [a, b, c, d] := List.mem_of_getElem? hn
          refine ⟨rfl, ?_⟩
          refine ⟨_, rfl, _, _, rfl, rfl, mulB (show B 2 3 from ⟨by decide, by decide⟩) (three n (hab n hnm)) (by decide), ?_⟩
          refine cs_yes fm0 trivial hD e hA hlen (by omega) (Fx.refl trivial) ?_
          rw [hp]
          match i, hn with
          | 0, hn => rw [← Option.some.inj hn]; rfl
          | 1, hn => rw [← Option.some.inj hn]; rfl
          | 2, hn => rw [← Option.some.inj hn]; rfl
          | 3, hn => rw [← Option.some.inj hn]; rfl
        · have hp2 : acc = ([3 * a, 3 * b, 3 * c, 3 * d] : List Int).map V.int := hp'
          subst hp2
          refine ⟨D, _, rfl, .inl ⟨SqL.of hA, fun o no => ?_⟩⟩
          refine ⟨o, 3 * a, 3 * b, 3 * c, 3 * d, rfl, fv_ex v3.1 (Fx.trans e4 (Ex0.new no)), upd_same, fun z hz' => ?_⟩
          have ha := hab a (by simp)
          have hb := hab b (by simp)
          have hc := hab c (by simp)
          have hd := hab d (by simp)
          simp only [List.mem_cons, List.mem_nil_iff, or_false] at hz'
          rcases hz' with rfl | rfl | rfl | rfl <;> omega
      · exact ⟨_, rfl, t, a, b, c, d, rfl, Fx.refl v3.1, ht, fun z hz' => Nat.le_trans (hab z hz') (by decide)⟩
    clear hab ht
    rintro σ H4 ⟨t, a, b, c, d, rfl, e4, ht, hab⟩
    have v4 := v3.trans e4
    have bb : ∀ z ∈ [a, b, c, d], B 90 z := fun z h => ⟨Nat.lt_of_le_of_lt (hab z h) (by decide), by decide⟩
    have hs : ∀ n ∈ [a, b, c, d], Short n := fun n h => by have := hab n h; exact ⟨by omega, by omega⟩
    refine ⟨_, rfl, slN (by decide), fun s1 n1 => ?_⟩
    have f1 := fv_new (o := .lst [.int 7, .int 11, .int 13, .int 23, .int 31]) v4.1 n1
    refine ⟨cr, s1, _, rfl, f1.1, upd_same, fv_ne v4.1 n1, by simp, by show 5 ≤ 1000; decide, fun v H5 hm e5 => ?_⟩
    obtain ⟨q', rfl, hq'⟩ : ∃ q' : Nat, v = .int (q' : Int) ∧ q' ∈ [7, 11, 13, 23, 31] := by
      simp only [List.mem_cons, List.mem_nil_iff, or_false] at hm
      rcases hm with rfl | rfl | rfl | rfl | rfl
      · exact ⟨7, rfl, by decide⟩
      · exact ⟨11, rfl, by decide⟩
      · exact ⟨13, rfl, by decide⟩
      · exact ⟨23, rfl, by decide⟩
      · exact ⟨31, rfl, by decide⟩
    refine ⟨sl4, fun L nL => ?_⟩
    have v5 := (v4.trans f1).trans e5
    have fL := fv_new (o := .lst [.int 2, .int 3, .int 5, .int (q' : Int)]) v5.1 nL
    have nLc := fv_ne v5.1 nL
    have v6 := v5.trans fL
    have ht6 := fv_tup v4.1 ((f1.trans e5).trans fL) ht
    refine ⟨L, rfl, ⟨_, SqL.of upd_same⟩, ?_⟩
    have hL : upd H5 L (.lst [.int 2, .int 3, .int 5, .int (q' : Int)]) L = some (.lst [.int 2, .int 3, .int 5, .int (q' : Int)]) := upd_same
    generalize upd H5 L (.lst [.int 2, .int 3, .int 5, .int (q' : Int)]) = H6 at *
    refine for_list (xs := [.int 2, .int 3, .int 5, .int (q' : Int)]) (fun i σ H' => ∃ (y5 y6 y7 y8 : Option V), σ = [some (.ref cr), some (.int m), some (.int w), some (.ref l), some (.ref t), y5, y6, y7, y8, none, none, none] ∧ Fv cr H6 H') ⟨none, none, none, none, rfl, Fx.refl v6.1⟩ (fun i σ H' _ ⟨_, _, _, _, _, e⟩ => SqL.of (fv_ls e nLc hL)) ?_ ?_
    · rintro i v σ H7 hv ⟨y5, y6, y7, y8, rfl, e7⟩
      obtain ⟨p, rfl, hp⟩ : ∃ p : Nat, v = .int (p : Int) ∧ p ∈ [2, 3, 5, 7, 11, 13, 23, 31] := by
        have hm := List.mem_of_getElem? hv
        simp only [List.mem_cons, List.mem_nil_iff, or_false] at hm hq'
        rcases hm with rfl | rfl | rfl | rfl
        · exact ⟨2, rfl, by decide⟩
        · exact ⟨3, rfl, by decide⟩
        · exact ⟨5, rfl, by decide⟩
        · exact ⟨q', rfl, by simp only [List.mem_cons, List.mem_nil_iff, or_false]; omega⟩
      have hp := primes_of hp
      have hpr := pr_of hp
      have p2 := hpr.1
      have p36 : p < 36 := by
        simp only [List.mem_cons, List.mem_nil_iff, or_false] at hp
        omega
      have v7 := v6.trans e7
      have ht7 := fv_tup v6.1 e7 ht6
      have b900 : ∀ z ∈ [a, b, c, d], B 900 z := fun z h => (bb z h).mono (by decide)
      refine ⟨fun σ H' => ∃ (T : Addr) (ys : List V) (qs : List (Int × Int)), σ = [some (.ref cr), some (.int m), some (.int w), some (.ref l), some (.ref t), y5, some (.int (p : Int)), some (.ref T), y8, none, none, none] ∧ Ex0 H7 H' ∧ H' T = some (.tup ys) ∧ PrT K H' ys qs ∧ (Full a b c d p → qs = [(0, 0)]) ∧ (¬ Full a b c d p → qs.Perm ((MapM.rootsG a b c d p).map (MapM.mp a b c p)) ∧ qs.Pairwise lexP) ∧ qs.length ≤ 1001, ?_, ?_⟩
      · refine ⟨_, rfl, fun x dx nx ndx _ => ?_⟩
        refine ⟨x, dx, t, [a, b, c, d], rfl, upd_same, made_at nx ndx ht7, rfl, hs, fun H8 e8 h8 => ⟨rfl, ?_⟩⟩
        obtain ⟨e8, hx⟩ := fo_made nx ndx ht7 e8 h8
        exact ⟨_, rfl, x, a, b, c, d, p, rfl, hx, hpr, by omega, b900 a (by simp), b900 b (by simp), b900 c (by simp), b900 d (by simp), fun T ys qs H9 e9 hT hP hF hN hlen => ⟨T, ys, qs, rfl, e8.trans e9, hT, hP, hF, hN, hlen⟩⟩
      rintro σ H8 ⟨T, ys, qs, rfl, e8, hT, hP, hF, hN, hlen⟩
      have heq := told_eq hp hF hN
      have ht8 := Ex0.ti e8 ht7
      refine ⟨fun σ H' => σ = [some (.ref cr), some (.int m), some (.int w), some (.ref l), some (.ref t), y5, some (.int (p : Int)), some (.ref T), y8, none, none, none] ∧ Ex0 H8 H', ?_, ?_⟩
      · refine ⟨_, rfl, _, rfl, _, rfl, t, a, b, c, d, p, rfl, ht8, by omega, by omega, fun l2 ys2 H9 e9 hl2 hP2 => ?_⟩
        refine ⟨l2, ys2, rfl, .inl ⟨SqL.of hl2, fun o no => ?_⟩⟩
        have eo := Ex0.new (o := .tup ys2) no
        refine ⟨.tuple (qs.map pi2), .tuple ((MapM.mapsL a b c d p).map pi2), .tup (SqT.of (Ex0.ap (e9.trans eo) hT)) (hP.ex (e9.trans eo)).dp, .tup (SqT.of upd_same) (hP2.ex eo).dp, shaped_pis _, shaped_pis _, _, rfl, ?_⟩
        rw [eqv_tp, decide_eq_true heq]
        exact iteF ⟨rfl, e9.trans eo⟩
      rintro σ H9 ⟨rfl, e9⟩
      have ht9 := Ex0.ti e9 ht8
      have hT9 := Ex0.ap e9 hT
      have hP9 := hP.ex e9
      refine ⟨fun σ H' => σ = [some (.ref cr), some (.int m), some (.int w), some (.ref l), some (.ref t), y5, some (.int (p : Int)), some (.ref T), y8, none, none, none] ∧ Ex0 H9 H', ?_, ?_⟩
      · refine ⟨_, rfl, fun x dx nx ndx _ => ?_⟩
        refine ⟨x, dx, t, [a, b, c, d], rfl, upd_same, made_at nx ndx ht9, rfl, hs, fun H10 e10 h10 => ⟨rfl, ?_⟩⟩
        obtain ⟨e10, hx⟩ := fo_made nx ndx ht9 e10 h10
        refine ⟨_, rfl, x, a, b, c, d, p, rfl, hx, hpr, by omega, fun s H11 hs' e11 => ?_⟩
        have e911 := e10.trans e11
        refine ⟨rfl, _, rfl, ?_⟩
        by_cases hall : s = "all"
        · rw [decide_eq_true (congrArg V.str hall)]
          refine iteT ?_
          have hqs := hF (hs'.mp hall)
          refine ⟨_, rfl, sl2, fun o1 n1 => ⟨sl1, fun o2 n2 => ?_⟩⟩
          have g1 := Ex0.new (o := .tup [.int 0, .int 0]) n1
          have g2 := Ex0.new (o := .tup [.ref o1]) n2
          refine ⟨.tuple (qs.map pi2), .tuple (([(0, 0)] : List (Int × Int)).map pi2), .tup (SqT.of (Ex0.ap (e911.trans (g1.trans g2)) hT9)) (hP9.ex (e911.trans (g1.trans g2))).dp, .tup (SqT.of upd_same) (PrT.cons (SqT.of (Ex0.ap g2 upd_same)) .nil).dp, shaped_pis _, shaped_pis _, _, rfl, ?_⟩
          rw [eqv_tp, decide_eq_true hqs]
          exact iteF ⟨rfl, e911.trans (g1.trans g2)⟩
        · rw [decide_eq_false fun z => hall (V.str.inj z)]
          refine iteF ?_
          have hnf : ¬ Full a b c d p := fun z => hall (hs'.mpr z)
          obtain ⟨h1, h2⟩ := hN hnf
          refine ⟨_, rfl, T, ys, rfl, .inr (SqT.of (Ex0.ap e911 hT9)), fun o no => ?_⟩
          have g1 := Ex0.new (o := .lst ys) no
          refine ⟨_, rfl, _, rfl, t, a, b, c, d, p, rfl, Ex0.ti (e911.trans g1) ht9, by omega, by omega, fun l3 ys3 qs3 H12 e12 hl3 hP3 pm3 srt3 => ?_⟩
          have heq3 := told_roots hp hnf h1 h2 pm3 srt3
          refine ⟨.list (qs.map pi2), .list (qs3.map pi2), .lst (SqL.of (Ex0.ap e12 upd_same)) (hP9.ex ((e911.trans g1).trans e12)).dp, .lst (SqL.of hl3) hP3.dp, shaped_lpis _, shaped_lpis _, _, rfl, ?_⟩
          rw [eqv_lp, decide_eq_true heq3]
          exact iteF ⟨rfl, (e911.trans g1).trans e12⟩
      rintro σ H10 ⟨rfl, e10⟩
      have v10 := v7.trans (fv_ex v7.1 (e8.trans (e9.trans e10)))
      have ht10 := Ex0.ti e10 ht9
      have hT10 := Ex0.ap e10 hT9
      have hP10 := hP9.ex e10
      refine ⟨fun σ H' => ∃ (o1 o2 : Addr) (i1 i2 i3 j1 j2 j3 : Int), σ = [some (.ref cr), some (.int m), some (.int w), some (.ref l), some (.ref t), some (.ref o1), some (.int (p : Int)), some (.ref T), some (.ref o2), none, none, none] ∧ Fv cr H10 H' ∧ Ti H' o1 [i1, i2, i3] ∧ Ti H' o2 [j1, j2, j3] ∧ ∀ n ∈ [i1, i2, i3, j1, j2, j3], n.natAbs ≤ 50, ?_, ?_⟩
      · refine ⟨_, rfl, by decide, by decide, ?_⟩
        refine lcR (fmV cr) v10.1 (fun i acc H' => acc.length = i ∧ ∀ v ∈ acc, Sm3 H' v) (fun _ _ => ⟨rfl, fun _ h => by cases h⟩) (fun D i acc H11 hD hi e11 hA hlen hp => ?_) (fun D H11 acc hD e11 hA hp => ?_)
        · obtain ⟨hln, hsm⟩ := hp
          have hi' : i < 2 := by simpa using hi
          refine ⟨rfl, ?_⟩
          refine ⟨_, rfl, by decide, by decide, ?_⟩
          refine lcR (fmV cr) e11.1 (fun j acc _ => ∃ ns : List Int, acc = ns.map V.int ∧ ns.length = j ∧ ∀ z ∈ ns, z.natAbs ≤ 50) (fun _ _ => ⟨[], rfl, rfl, fun _ h => by cases h⟩) (fun D2 j acc2 H12 hD2 hj e12 hA2 hlen2 hp2 => ?_) (fun D2 H12 acc2 hD2 e12 hA2 hp2 => ?_)
          · obtain ⟨ns, rfl, hln2, hns⟩ := hp2
            have hj' : j < 3 := by simpa using hj
            refine ⟨rfl, ?_⟩
            refine ⟨_, rfl, cr, 99, rfl, e12.1, by decide, by decide, fun r H13 r0 r1 e13 => ?_⟩
            refine ⟨_, _, rfl, rfl, ?_⟩
            refine cs_yes (fmV cr) e11.1 hD2 e12 hA2 hlen2 (by omega) e13 ⟨ns ++ [r - 49], by rw [List.map_append]; rfl, by rw [List.length_append, hln2]; rfl, fun z hz' => ?_⟩
            rcases List.mem_append.mp hz' with h | h
            · exact hns z h
            · have : z = r - 49 := by simpa using h
              omega
          · obtain ⟨ns, rfl, hln2, hns⟩ := hp2
            obtain ⟨i1, i2, i3, rfl⟩ : ∃ i1 i2 i3, ns = [i1, i2, i3] := by
              have hln' : ns.length = 3 := by simpa using hln2
              match ns, hln' with
              | [x, y, z], _ => exact ⟨x, y, z, rfl⟩
            refine ⟨D2, _, rfl, .inl ⟨SqL.of hA2, fun o no => ?_⟩⟩
            have eo := e12.trans (fv_new (o := .tup (([i1, i2, i3] : List Int).map V.int)) e12.1 no)
            have hD12 := fv_ls eo (fv_ne v10.1 hD) hA
            refine cs_yes (fmV cr) v10.1 hD e11 hA hlen (by omega) eo ⟨by rw [List.length_append, hln]; rfl, fun z hz' => ?_⟩
            rcases List.mem_append.mp hz' with h | h
            · exact ((hsm z h).fv e11.1 eo).upd hD12
            · rw [List.mem_singleton] at h
              rw [h]
              exact Sm3.upd hD12 ⟨o, i1, i2, i3, rfl, upd_same, hns⟩
        · obtain ⟨hln, hsm⟩ := hp
          obtain ⟨x, y, rfl⟩ : ∃ x y, acc = [x, y] := by
            have hln' : acc.length = 2 := by simpa using hln
            match acc, hln' with
            | [x, y], _ => exact ⟨x, y, rfl⟩
          obtain ⟨o1, i1, i2, i3, rfl, g1, g2⟩ := hsm x (by simp)
          obtain ⟨o2, j1, j2, j3, rfl, g3, g4⟩ := hsm y (by simp)
          refine ⟨D, _, rfl, SqL.of hA, rfl, _, _, rfl, _, _, rfl, rfl, ?_⟩
          refine ⟨o1, o2, i1, i2, i3, j1, j2, j3, rfl, e11, g1, g3, fun n hn => ?_⟩
          simp only [List.mem_cons, List.mem_nil_iff, or_false] at hn g2 g4
          rcases hn with h | h | h | h | h | h
          · exact g2 n (.inl h)
          · exact g2 n (.inr (.inl h))
          · exact g2 n (.inr (.inr h))
          · exact g4 n (.inl h)
          · exact g4 n (.inr (.inl h))
          · exact g4 n (.inr (.inr h))
      rintro σ H11 ⟨o1, o2, i1, i2, i3, j1, j2, j3, rfl, e11, ho1, ho2, hsm⟩
      have v11 := v10.trans e11
      have ht11 := fv_tup v10.1 e11 ht10
      have hT11 := fv_tup v10.1 e11 hT10
      have hP11 := fv_prT v10.1 e11 hP10
      refine ⟨_, rfl, T, rfl, ⟨_, SqT.of hT11⟩, ?_⟩
      refine lcT fm0 trivial (SqT.of hT11) (fun z => z) (fun i acc _ => acc = []) (fun _ _ => rfl) (fun D i v acc H' hD hv e12 hA hlen' hp' => ?_) (fun D H12 acc hD e12 hA hp' => ?_)
      · obtain ⟨u, x, y, rfl, hi, hu⟩ := hP11.get hv
        have hmem := List.mem_of_getElem? hi
        rw [heq] at hmem
        obtain ⟨x0, x1, y0, y1, hR⟩ := MapM.mem_mapsTo.mp hmem
        refine ⟨rfl, ?_⟩
        refine ⟨_, rfl, _, rfl, _, rfl, _, rfl, _, rfl, t, u, o1, o2, a, b, c, d, x, y, i1, i2, i3, j1, j2, j3, p, rfl, Ex0.ti e12 ht11, hs a (by simp), hs b (by simp), hs c (by simp), hs d (by simp), Fx.sqT e12 (fun z => z) hu, by omega, by omega, x0, x1, y0, y1, Ex0.ti e12 ho1, Ex0.ti e12 ho2, hsm, hR, fun H13 e13 => ?_⟩
        refine ⟨_, rfl, iteF ?_⟩
        exact cs_no fm0 trivial hD e12 hA hlen' e13 hp'
      · have hp2 : acc = [] := hp'
        subst hp2
        refine ⟨Nat.zero_le _, fun w0 nw => ?_⟩
        have ew := Ex0.new (o := .lst []) nw
        refine ⟨.list (([] : List (Int × Int)).map pi2), .list (([] : List (Int × Int)).map pi2), .lst (SqL.of (Ex0.ap ew hA)) .nil, .lst (SqL.of upd_same) .nil, shaped_lpis [], shaped_lpis [], _, rfl, ?_⟩
        rw [eqv_lp, decide_eq_true rfl]
        refine iteF ?_
        exact ⟨_, _, _, _, rfl, e7.trans ((fv_ex v7.1 (e8.trans (e9.trans e10))).trans (e11.trans (fv_ex e11.1 (Fx.trans e12 ew))))⟩
    · rintro σ H7 ⟨y5, y6, y7, y8, rfl, e7⟩
      exact q H7 (v6.trans e7)
end
end RG
set_option Elab.async false
set_option linter.all false
set_option maxRecDepth 100000
namespace RG
open PySem PySem.Spec PyProof.Rows L2 Fr
open K05M (fv fl2 fl3 fdisc)
def sp_lawW (K : PySem.W.Frag) : Sp := fun vs H Q _ => ∃ (a : Addr) (ns : List Int), vs = [.ref a] ∧ SqL K H a (ns.map V.int) ∧ ns.length ≤ 63 ∧ ∀ H', Q (.bl true) H'
abbrev sp_law (K : PySem.W.Frag) (_ _ _ : Addr) : Sp := sp_lawW K
inductive TlA (K : PySem.W.Frag) (H : Hp) : List V → List (List (Int × Int)) → Prop where
  | nil : TlA K H [] []
  | cons {T : Addr} {ys xs : List V} {qs : List (Int × Int)} {ls : List (List (Int × Int))} : H T = some (.tup ys) → PrT K H ys qs → TlA K H xs ls → TlA K H (.ref T :: xs) (qs :: ls)
theorem TlA.ex {K : PySem.W.Frag} {H H' : Hp} (e : Ex0 H H') {xs : List V} {ls : List (List (Int × Int))} (h : TlA K H xs ls) : TlA K H' xs ls := by
  induction h with
  | nil => exact .nil
  | cons h g _ ih => exact .cons (Ex0.ap e h) (g.ex e) ih
theorem TlA.upd {K : PySem.W.Frag} {H : Hp} {D : Addr} {acc zs : List V} (hD : H D = some (.lst acc)) {xs : List V} {ls : List (List (Int × Int))} (h : TlA K H xs ls) : TlA K (L2.upd H D (.lst zs)) xs ls := by
  induction h with
  | nil => exact .nil
  | cons h g _ ih => exact .cons (by rw [upd_ne (ne_of h hD (by intro z; cases z))]; exact h) (g.upd hD) ih
theorem TlA.snoc {K : PySem.W.Frag} {H : Hp} {xs ys : List V} {ls : List (List (Int × Int))} {qs : List (Int × Int)} {T : Addr} (h : TlA K H xs ls) (h1 : H T = some (.tup ys)) (h2 : PrT K H ys qs) : TlA K H (xs ++ [.ref T]) (ls ++ [qs]) := by
  induction h with
  | nil => exact .cons h1 h2 .nil
  | cons h g _ ih => exact .cons h g ih
def tq (qs : List (Int × Int)) : PyData := .tuple (qs.map pi2)
theorem TlA.dp {K : PySem.W.Frag} {H : Hp} {xs : List V} {ls : List (List (Int × Int))} (h : TlA K H xs ls) : DpAll K H xs (ls.map tq) := by
  induction h with
  | nil => exact .nil
  | cons h g _ ih => exact .cons (.tup (SqT.of h) g.dp) ih
def EL : List (List (Int × Int)) := [[(4, 1)], [(0, 0), (0, 1), (1, 0)], [(0, 0)], []]
section
variable {P : Program} {w : World} {K : PySem.W.Frag} {mg : Str → Option Value} {base : Heap} {C_Form C_Ring C_Element : Addr}
theorem ok_law0 (T : Txt K mg C_Form C_Ring C_Element) {f_ : Addr} {fd_ : FuncData} (F_ : Fun K "law" "law" s_law f_ fd_) : FnOk P w K mg base CX0 11 f_ fd_ ["_law_script"] (sp_law K C_Form C_Ring C_Element) := by
  obtain ⟨p_Form___init__, f_Form___init__, fd_Form___init__, R_Form___init__, b_Form___init__, G_Form___init__⟩ := (ok_Form___init__ (P := P) (w := w) (base := base) T)
  obtain ⟨f_l_crock, fd_l_crock, g_l_crock, k_l_crock, b_l_crock, G_l_crock⟩ := (ok_l_crock (P := P) (w := w) (base := base) T)
  obtain ⟨f_l_right, fd_l_right, g_l_right, k_l_right, b_l_right, G_l_right⟩ := (ok_l_right (P := P) (w := w) (base := base) T)
  obtain ⟨f_maps_at, fd_maps_at, g_maps_at, k_maps_at, b_maps_at, G_maps_at⟩ := (ok_maps_at (P := P) (w := w) (base := base) T)
  refine F_.ok sc_law (fun vs H Q E h => ?_) (fun cdv A outer s H vs Q E hr h => ?_)
  · first | (obtain ⟨rfl, _⟩ := h; rfl) | (obtain ⟨_, rfl, _⟩ := h; rfl) | (obtain ⟨_, _, rfl, _⟩ := h; rfl) | (obtain ⟨_, _, _, rfl, _⟩ := h; rfl) | (obtain ⟨_, _, _, _, rfl, _⟩ := h; rfl) | (obtain ⟨_, _, _, _, _, rfl, _⟩ := h; rfl) | (obtain ⟨_, _, _, _, _, _, rfl, _⟩ := h; rfl) | (obtain ⟨_, _, _, _, _, _, _, rfl, _⟩ := h; rfl) | (obtain ⟨_, _, _, _, _, _, _, _, rfl, _⟩ := h; rfl) | (obtain ⟨_, _, _, _, _, _, _, _, _, rfl, _⟩ := h; rfl) | (obtain ⟨_, _, _, _, _, _, _, _, _, _, rfl, _⟩ := h; rfl) | (obtain ⟨_, _, _, _, _, _, _, _, _, _, _, rfl, _⟩ := h; rfl) | (obtain ⟨_, _, _, _, _, _, _, _, _, _, _, _, rfl, _⟩ := h; rfl) | (obtain ⟨_, _, _, _, _, _, _, _, _, _, _, _, _, rfl, _⟩ := h; rfl) | (obtain ⟨_, _, _, _, _, _, _, _, _, _, _, _, _, _, rfl, _⟩ := h; rfl) | (obtain ⟨_, _, _, _, _, _, _, _, _, _, _, _, _, _, _, rfl, _⟩ := h; rfl) | (obtain ⟨_, _, _, _, _, _, _, _, _, _, _, _, _, _, _, _, rfl, _⟩ := h; rfl) | (obtain ⟨_, _, _, _, _, _, _, _, _, _, _, _, _, _, _, _, _, rfl, _⟩ := h; rfl) | (obtain ⟨_, _, _, _, _, _, _, _, _, _, _, _, _, _, _, _, _, _, rfl, _⟩ := h; rfl) | (obtain ⟨_, _, _, _, _, _, _, _, _, _, _, _, _, _, _, _, _, _, _, rfl, _⟩ := h; rfl) | (obtain ⟨_, _, _, _, _, _, _, _, _, _, _, _, _, _, _, _, _, _, _, _, rfl, _⟩ := h; rfl) | (obtain ⟨_, _, _, _, _, _, _, _, _, _, _, _, _, _, _, _, _, _, _, _, _, rfl, _⟩ := h; rfl) | (obtain ⟨_, _, _, _, _, _, _, _, _, _, _, _, _, _, _, _, _, _, _, _, _, _, rfl, _⟩ := h; rfl) | (obtain ⟨_, _, _, _, _, _, _, _, _, _, _, _, _, _, _, _, _, _, _, _, _, _, _, rfl, _⟩ := h; rfl)
  · obtain ⟨a, ns, rfl, hS, hn, q⟩ := h
    refine ⟨_, (pss_cons (ps_for PassesOwn.never rfl (pi_range1 (by rfl) T.b_range (pa_cons (pe_callB (call_max2 rfl) (by rfl) T.b_max (by decide +kernel) (pa_cons pe_int (pa_cons (pe_callB (call_min2 rfl) (by rfl) T.b_min (by decide +kernel) (pa_cons pe_int (pa_cons (pe_callB call_len_seq (by rfl) T.b_len PySem.boot_len (pa_cons (pv 0) pa_nil)) pa_nil))) pa_nil))) pa_nil)) (pg_name (i := 1) sc_law.nd rfl (.inl rfl))
      (pss_cons (ps_set (i := 2) sc_law.nd rfl (.inl rfl) (pe_call G_l_crock (hr.mono (by decide)) (by rfl) g_l_crock k_l_crock b_l_crock .nil pass0 (pa_cons (pv 0) (pa_cons (pv 1) pa_nil))))
    (pss_one (ps_if (pt_not (pt_val (pe_call G_l_right (hr.mono (by decide)) (by rfl) g_l_right k_l_right b_l_right .nil pass0 (pa_cons (pv 2) pa_nil))))
      (pss_one (ps_ret pe_bl))
      pss_nil))))
    (pss_cons (ps_setLc (i := 3) (own := [("_law_row", 4), ("_law_prime", 5)]) (g := (gTup K 2 (gCons (gName 4) (gCons (gName 5) gNil)))) rfl sc_law.nd rfl rfl (sw_true rfl rfl rfl (by decide +kernel)) (pi_tup (pe_tup (pa_cons (pe_tup (pa_cons (pe_tup (pa_cons pe_int (pa_cons pe_int (pa_cons pe_int (pa_cons pe_int pa_nil))))) (pa_cons pe_int pa_nil))) (pa_cons (pe_tup (pa_cons (pe_tup (pa_cons pe_int (pa_cons pe_int (pa_cons pe_int (pa_cons pe_int pa_nil))))) (pa_cons pe_int pa_nil))) (pa_cons (pe_tup (pa_cons (pe_tup (pa_cons pe_int (pa_cons pe_int (pa_cons pe_int (pa_cons pe_int pa_nil))))) (pa_cons pe_int pa_nil))) (pa_cons (pe_tup (pa_cons (pe_tup (pa_cons pe_int (pa_cons pe_int (pa_cons pe_int (pa_cons pe_int pa_nil))))) (pa_cons pe_int pa_nil))) pa_nil)))))) (blkOk_by (N := N_law) (sc := defScope s_law) (by decide +kernel)) (fun _ _ _ _ _ => (pg_tup (by rfl) (pgs_cons (pg_name (i := 4) sc_law.nd rfl (.inl rfl)) (pgs_cons (pg_name (i := 5) sc_law.nd rfl (.inl rfl)) pgs_nil)))) (fun _ _ _ _ _ => pts_nil) (fun _ _ _ _ _ => (pe_call G_maps_at (hr.mono (by decide)) (by rfl) g_maps_at k_maps_at b_maps_at .nil pass0 (pa_cons (pe_make R_Form___init__ G_Form___init__ (hr.mono (by decide)) (by rfl) T.g_Form b_Form___init__ .nil pass0 (pa_cons (pv 4) pa_nil)) (pa_cons (pv 5) pa_nil)))))
    (pss_one (ps_ret (pe_cmpR (op_eqD hr.units) (pv 3) (pe_lst (pa_cons (pe_tup (pa_cons (pe_tup (pa_cons pe_int (pa_cons pe_int pa_nil))) pa_nil)) (pa_cons (pe_tup (pa_cons (pe_tup (pa_cons pe_int (pa_cons pe_int pa_nil))) (pa_cons (pe_tup (pa_cons pe_int (pa_cons pe_int pa_nil))) (pa_cons (pe_tup (pa_cons pe_int (pa_cons pe_int pa_nil))) pa_nil)))) (pa_cons (pe_tup (pa_cons (pe_tup (pa_cons pe_int (pa_cons pe_int pa_nil))) pa_nil)) (pa_cons (pe_tup pa_nil) pa_nil))))) (nomark _)))))), ?_⟩
    have hm : ∀ z : Int, z ≤ 63 → -(2 ^ 62) ≤ (if (if z < 3 then z else 3) > 1 then (if z < 3 then z else 3) else 1) ∧ (if (if z < 3 then z else 3) > 1 then (if z < 3 then z else 3) else 1) < 2 ^ 62 := fun z hz => by
      split <;> split <;> omega
    have hm2 := hm (((ns.map V.int).length : Nat) : Int) (by rw [List.length_map]; omega)
    refine ⟨_, rfl, a, _, rfl, .inl hS, _, _, rfl, _, _, rfl, _, rfl, hm2.1, hm2.2, ?_⟩
    refine for_range (lo := 0) (fun i σ H' => ∃ y1 y2, σ = [some (.ref a), y1, y2, none, none, none] ∧ Ex0 H H') ⟨none, none, rfl, Ex0.refl H⟩ ?_ ?_
    · rintro i σ H' hi ⟨y1, y2, rfl, e⟩
      refine ⟨_, rfl, _, rfl, a, ns, i, by show [V.ref a, V.int (0 + (i : Int))] = _; rw [Int.zero_add], e.sqL (fun z => z) hS, fun p H1 np e1 hv => ?_⟩
      have hp0 : H p = none := Fx.free e (fun z => z) np
      have e01 : Ex0 H H1 := e.trans e1
      refine ⟨_, rfl, p, rfl, hv, fun H2 e2 => ⟨_, rfl, iteF ?_⟩⟩
      exact ⟨_, _, rfl, ex_fv e01 hp0 e2⟩
    · rintro σ H' ⟨y1, y2, rfl, e⟩
      have sh : ∀ {x y z v : Int}, x.natAbs ≤ 9 → y.natAbs ≤ 9 → z.natAbs ≤ 9 → v.natAbs ≤ 9 → ∀ n ∈ [x, y, z, v], Short n := fun h1 h2 h3 h4 n h => by
        simp only [List.mem_cons, List.mem_nil_iff, or_false] at h
        rcases h with rfl | rfl | rfl | rfl <;> exact ⟨by omega, by omega⟩
      have B9 : ∀ {n : Int}, n.natAbs ≤ 9 → B 900 n := fun h => ⟨Nat.lt_of_le_of_lt h (by decide), by decide⟩
      refine ⟨sl4, fun t1 n1 => ⟨sl2, fun r1 m1 => ⟨sl4, fun t2 n2 => ⟨sl2, fun r2 m2 => ⟨sl4, fun t3 n3 => ⟨sl2, fun r3 m3 => ⟨sl4, fun t4 n4 => ⟨sl2, fun r4 m4 => ⟨sl4, fun R nR => ?_⟩⟩⟩⟩⟩⟩⟩⟩⟩
      have c1 := Ex0.new (o := .tup [.int 1, .int 1, .int 2, .int 1]) n1
      have d1 := Ex0.new (o := .tup [.ref t1, .int 5]) m1
      have c2 := Ex0.new (o := .tup [.int 0, .int 1, .int 1, .int 0]) n2
      have d2 := Ex0.new (o := .tup [.ref t2, .int 2]) m2
      have c3 := Ex0.new (o := .tup [.int 2, .int 0, .int 4, .int 2]) n3
      have d3 := Ex0.new (o := .tup [.ref t3, .int 2]) m3
      have c4 := Ex0.new (o := .tup [.int 1, .int 1, .int 2, .int 1]) n4
      have d4 := Ex0.new (o := .tup [.ref t4, .int 2]) m4
      have cR := Ex0.new (o := .tup [.ref r1, .ref r2, .ref r3, .ref r4]) nR
      have k8 := d4.trans cR
      have k7 := c4.trans k8
      have k6 := d3.trans k7
      have k5 := c3.trans k6
      have k4 := d2.trans k5
      have k3 := c2.trans k4
      have k2 := d1.trans k3
      have k1 := c1.trans k2
      have ht1 := Ex0.ti k2 (show Ti _ t1 [1, 1, 2, 1] from upd_same)
      have hr1 := Ex0.ap k3 (show (upd _ r1 (.tup [.ref t1, .int 5])) r1 = _ from upd_same)
      have ht2 := Ex0.ti k4 (show Ti _ t2 [0, 1, 1, 0] from upd_same)
      have hr2 := Ex0.ap k5 (show (upd _ r2 (.tup [.ref t2, .int 2])) r2 = _ from upd_same)
      have ht3 := Ex0.ti k6 (show Ti _ t3 [2, 0, 4, 2] from upd_same)
      have hr3 := Ex0.ap k7 (show (upd _ r3 (.tup [.ref t3, .int 2])) r3 = _ from upd_same)
      have ht4 := Ex0.ti k8 (show Ti _ t4 [1, 1, 2, 1] from upd_same)
      have hr4 := Ex0.ap cR (show (upd _ r4 (.tup [.ref t4, .int 2])) r4 = _ from upd_same)
      refine ⟨R, rfl, ⟨_, SqT.of upd_same⟩, ?_⟩
      refine lcT fm0 trivial (SqT.of upd_same) (fun z => z) (fun i acc H' => TlA K H' acc (EL.take i)) (fun _ _ => .nil) (fun D i v acc H2 hD hv e2 hA hlen hp' => ?_) (fun D H2 acc hD e2 hA hp' => ?_)
      · obtain ⟨r, t, a', b, c, d, p, x, rfl, hr, ht, h1, h2, h3, h4, hpm, hx, hE⟩ : ∃ (r t : Addr) (a b c d : Int) (p : Nat) (x : List (Int × Int)), v = .ref r ∧ H2 r = some (.tup [.ref t, .int (p : Int)]) ∧ Ti H2 t [a, b, c, d] ∧ a.natAbs ≤ 9 ∧ b.natAbs ≤ 9 ∧ c.natAbs ≤ 9 ∧ d.natAbs ≤ 9 ∧ p ∈ [2, 5] ∧ MapM.mapsL a b c d p = x ∧ EL.take (i + 1) = EL.take i ++ [x] := by
          match i, hv with
          | 0, hv => exact ⟨r1, t1, 1, 1, 2, 1, 5, _, (Option.some.inj hv).symm, Ex0.ap e2 hr1, Ex0.ti e2 ht1, by decide, by decide, by decide, by decide, by decide, by decide +kernel, rfl⟩
          | 1, hv => exact ⟨r2, t2, 0, 1, 1, 0, 2, _, (Option.some.inj hv).symm, Ex0.ap e2 hr2, Ex0.ti e2 ht2, by decide, by decide, by decide, by decide, by decide, by decide +kernel, rfl⟩
          | 2, hv => exact ⟨r3, t3, 2, 0, 4, 2, 2, _, (Option.some.inj hv).symm, Ex0.ap e2 hr3, Ex0.ti e2 ht3, by decide, by decide, by decide, by decide, by decide, by decide +kernel, rfl⟩
          | 3, hv => exact ⟨r4, t4, 1, 1, 2, 1, 2, _, (Option.some.inj hv).symm, Ex0.ap e2 hr4, Ex0.ti e2 ht4, by decide, by decide, by decide, by decide, by decide, by decide +kernel, rfl⟩
        have hi : i < 4 := (List.getElem?_eq_some_iff.mp hv).1
        have hp11 : p ∈ [2, 3, 5, 7, 11, 13, 17, 19, 23, 29, 31] := by
          simp only [List.mem_cons, List.mem_nil_iff, or_false] at hpm ⊢
          omega
        have hpr := pr_of hp11
        have p10 : p < 10 := by
          simp only [List.mem_cons, List.mem_nil_iff, or_false] at hpm
          omega
        refine ⟨r, _, rfl, SqT.of hr, rfl, _, _, rfl, _, _, rfl, rfl, ⟨rfl, ?_⟩⟩
        refine ⟨_, rfl, fun x0 dx nx ndx _ => ?_⟩
        refine ⟨x0, dx, t, [a', b, c, d], rfl, upd_same, made_at nx ndx ht, rfl, sh h1 h2 h3 h4, fun H3 e3 h8 => ⟨rfl, ?_⟩⟩
        obtain ⟨e3, hx0⟩ := fo_made nx ndx ht e3 h8
        refine ⟨_, rfl, x0, a', b, c, d, p, rfl, hx0, hpr, by omega, B9 h1, B9 h2, B9 h3, B9 h4, fun T ys qs H4 e4 hT hP hF hN _ => ?_⟩
        have heq := (told_eq hp11 hF hN).trans hx
        subst heq
        have e34 := e3.trans e4
        refine cs_yes fm0 trivial hD e2 hA hlen (by omega) e34 ?_
        have hA4 := Ex0.ap e34 hA
        rw [hE]
        exact ((hp'.ex e34).upd hA4).snoc (by rw [upd_ne (ne_of hT hA4 (by intro z; cases z))]; exact hT) (hP.upd hA4)
      · have hp2 : TlA K H2 acc EL := hp'
        refine ⟨_, rfl, sl2, fun a1 q1 => ⟨sl1, fun b1 q2 => ⟨sl2, fun a2 q3 => ⟨sl2, fun a3 q4 => ⟨sl2, fun a4 q5 => ⟨sl3, fun b2 q6 => ⟨sl2, fun a5 q7 => ⟨sl1, fun b3 q8 => ⟨Nat.zero_le _, fun b4 q9 => ⟨sl4, fun l q10 => ?_⟩⟩⟩⟩⟩⟩⟩⟩⟩⟩
        have w1 := Ex0.new (o := .tup [.int 4, .int 1]) q1
        have w2 := Ex0.new (o := .tup [.ref a1]) q2
        have w3 := Ex0.new (o := .tup [.int 0, .int 0]) q3
        have w4 := Ex0.new (o := .tup [.int 0, .int 1]) q4
        have w5 := Ex0.new (o := .tup [.int 1, .int 0]) q5
        have w6 := Ex0.new (o := .tup [.ref a2, .ref a3, .ref a4]) q6
        have w7 := Ex0.new (o := .tup [.int 0, .int 0]) q7
        have w8 := Ex0.new (o := .tup [.ref a5]) q8
        have w9 := Ex0.new (o := .tup []) q9
        have w10 := Ex0.new (o := .lst [.ref b1, .ref b2, .ref b3, .ref b4]) q10
        have g9 := w9.trans w10
        have g8 := w8.trans g9
        have g7 := w7.trans g8
        have g6 := w6.trans g7
        have g5 := w5.trans g6
        have g4 := w4.trans g5
        have g3 := w3.trans g4
        have g2 := w2.trans g3
        have g1 := w1.trans g2
        refine ⟨.list (EL.map tq), .list (EL.map tq), .lst (SqL.of (Ex0.ap g1 hA)) (hp2.ex g1).dp, .lst (SqL.of upd_same) (TlA.dp (ls := EL) ?_), by decide +kernel, by decide +kernel, ?_⟩
        · exact .cons (Ex0.ap g3 upd_same) (.cons (SqT.of (Ex0.ap g2 upd_same)) .nil) (.cons (Ex0.ap g7 upd_same) (.cons (SqT.of (Ex0.ap g4 upd_same)) (.cons (SqT.of (Ex0.ap g5 upd_same)) (.cons (SqT.of (Ex0.ap g6 upd_same)) .nil))) (.cons (Ex0.ap g9 upd_same) (.cons (SqT.of (Ex0.ap g8 upd_same)) .nil) (.cons (Ex0.ap w10 upd_same) .nil .nil)))
        · rw [show PyData.eqv (.list (EL.map tq)) (.list (EL.map tq)) = true by decide +kernel]
          exact q _
end
theorem facts {P : Program} {w : World} {K : PySem.W.Frag} {h : Heap} {mg : Str → Option Value} {f : Addr} (X : K.In h) (G : h.Ns mainGlobals mg) (hfa : mg ("law" : Str) = some (.ref f)) (c : Hd.SaysM fa dd K) :
    ∃ fd : FuncData, (∀ (s : Shared) (v : Value), BindsTo s fd ⟨[v], []⟩ [("_law_script", v)]) ∧ ∀ base : Heap, K.In base → base.Ns mainGlobals mg → FnOk P w K mg base CX0 11 f fd ["_law_script"] (sp_lawW K) := by
  obtain ⟨fd0, F0⟩ := c.def_ 0 (d := e0) rfl
  obtain ⟨fd1, F1⟩ := c.def_ 1 (d := e1) rfl
  obtain ⟨fd2, F2⟩ := c.def_ 2 (d := e2) rfl
  obtain ⟨fd3, F3⟩ := c.def_ 3 (d := e3) rfl
  obtain ⟨fd4, F4⟩ := c.def_ 4 (d := e4) rfl
  obtain ⟨fd5, F5⟩ := c.def_ 5 (d := e5) rfl
  obtain ⟨fd6, F6⟩ := c.def_ 6 (d := e6) rfl
  obtain ⟨fd7, F7⟩ := c.def_ 7 (d := e7) rfl
  obtain ⟨fd8, F8⟩ := c.def_ 8 (d := e8) rfl
  obtain ⟨fd9, F9⟩ := c.def_ 9 (d := e9) rfl
  obtain ⟨fd10, F10⟩ := c.def_ 10 (d := e10) rfl
  obtain ⟨fd11, F11⟩ := c.def_ 11 (d := e11) rfl
  obtain ⟨fd12, F12⟩ := c.def_ 12 (d := e12) rfl
  obtain ⟨fd13, F13⟩ := c.def_ 13 (d := e13) rfl
  obtain ⟨fd14, F14⟩ := c.def_ 14 (d := e14) rfl
  obtain ⟨fd15, F15⟩ := c.def_ 15 (d := e15) rfl
  obtain ⟨fd16, F16⟩ := c.def_ 16 (d := e16) rfl
  obtain ⟨fd17, F17⟩ := c.def_ 17 (d := e17) rfl
  obtain ⟨fd18, F18⟩ := c.def_ 18 (d := e18) rfl
  obtain ⟨fd19, F19⟩ := c.def_ 19 (d := e19) rfl
  obtain ⟨fd20, F20⟩ := c.def_ 20 (d := e20) rfl
  obtain ⟨fd21, F21⟩ := c.def_ 21 (d := e21) rfl
  obtain ⟨fd22, F22⟩ := c.def_ 22 (d := e22) rfl
  obtain ⟨fd23, F23⟩ := c.def_ 23 (d := e23) rfl
  obtain ⟨fd24, F24⟩ := c.def_ 24 (d := e24) rfl
  obtain ⟨fd25, F25⟩ := c.def_ 25 (d := e25) rfl
  obtain ⟨fd26, F26⟩ := c.def_ 26 (d := e26) rfl
  obtain ⟨fd27, F27⟩ := c.def_ 27 (d := e27) rfl
  obtain ⟨fd28, F28⟩ := c.def_ 28 (d := e28) rfl
  obtain ⟨fd29, F29⟩ := c.def_ 29 (d := e29) rfl
  obtain ⟨fd30, F30⟩ := c.def_ 30 (d := e30) rfl
  obtain ⟨fd31, F31⟩ := c.def_ 31 (d := e31) rfl
  obtain ⟨fd32, F32⟩ := c.def_ 32 (d := e32) rfl
  obtain ⟨fd33, F33⟩ := c.def_ 33 (d := e33) rfl
  obtain ⟨fd34, F34⟩ := c.def_ 34 (d := e34) rfl
  obtain ⟨fd35, F35⟩ := c.def_ 35 (d := e35) rfl
  obtain ⟨fd36, F36⟩ := c.def_ 36 (d := e36) rfl
  obtain ⟨fd37, F37⟩ := c.def_ 37 (d := e37) rfl
  obtain ⟨fd38, F38⟩ := c.def_ 38 (d := e38) rfl
  obtain ⟨fd39, F39⟩ := c.def_ 39 (d := e39) rfl
  obtain ⟨fd40, F40⟩ := c.def_ 40 (d := e40) rfl
  obtain ⟨fd41, F41⟩ := c.def_ 41 (d := e41) rfl
  obtain ⟨fd42, F42⟩ := c.def_ 42 (d := e42) rfl
  obtain ⟨fd43, F43⟩ := c.def_ 43 (d := e43) rfl
  obtain ⟨fd44, F44⟩ := c.def_ 44 (d := e44) rfl
  obtain ⟨fd45, F45⟩ := c.def_ 45 (d := e45) rfl
  obtain ⟨fd46, F46⟩ := c.def_ 46 (d := e46) rfl
  obtain ⟨fd47, F47⟩ := c.def_ 47 (d := e47) rfl
  obtain ⟨fd48, F48⟩ := c.def_ 48 (d := e48) rfl
  obtain ⟨fd49, F49⟩ := c.def_ 49 (d := e49) rfl
  obtain ⟨fd50, F50⟩ := c.def_ 50 (d := e50) rfl
  obtain ⟨fd51, F51⟩ := c.def_ 51 (d := e51) rfl
  obtain ⟨fd52, F52⟩ := c.def_ 52 (d := e52) rfl
  obtain ⟨fd53, F53⟩ := c.def_ 53 (d := e53) rfl
  obtain ⟨fd54, F54⟩ := c.def_ 54 (d := e54) rfl
  obtain ⟨fd55, F55⟩ := c.def_ 55 (d := e55) rfl
  obtain ⟨fd56, F56⟩ := c.def_ 56 (d := e56) rfl
  have T : Txt K mg (He.ga K "Form") (He.ga K "Ring") (He.ga K "Element") := ⟨He.glo_ok X G (c.fact 0 (f := g0) rfl),
    He.cls_ok (c.fact 1 (f := g1) rfl),
    Hd.ty_ok (c.fact 2 (f := g2) rfl),
    He.noat_ok (c.fact 3 (f := g3) rfl),
    He.glo_ok X G (c.fact 4 (f := g4) rfl),
    He.cls_ok (c.fact 5 (f := g5) rfl),
    Hd.ty_ok (c.fact 6 (f := g6) rfl),
    He.noat_ok (c.fact 7 (f := g7) rfl),
    He.glo_ok X G (c.fact 8 (f := g8) rfl),
    He.cls_ok (c.fact 9 (f := g9) rfl),
    Hd.ty_ok (c.fact 10 (f := g10) rfl),
    He.noat_ok (c.fact 11 (f := g11) rfl),
    He.noat_ok (c.fact 12 (f := g12) rfl),
    He.noat_ok (c.fact 13 (f := g13) rfl),
    Hd.fore_ok (c.fact 14 (f := g14) rfl),
    Hd.fore_ok (c.fact 15 (f := g15) rfl),
    ⟨_, _, He.glo_ok X G (c.fact 16 (f := g16) rfl), Hd.fun_of F0⟩,
    ⟨_, _, He.glo_ok X G (c.fact 17 (f := g17) rfl), Hd.fun_of F1⟩,
    ⟨_, _, He.glo_ok X G (c.fact 18 (f := g18) rfl), Hd.fun_of F2⟩,
    ⟨_, _, He.glo_ok X G (c.fact 19 (f := g19) rfl), Hd.fun_of F3⟩,
    ⟨_, _, He.glo_ok X G (c.fact 20 (f := g20) rfl), Hd.fun_of F4⟩,
    ⟨_, _, He.glo_ok X G (c.fact 21 (f := g21) rfl), Hd.fun_of F5⟩,
    ⟨_, _, He.glo_ok X G (c.fact 22 (f := g22) rfl), Hd.fun_of F6⟩,
    ⟨_, _, He.glo_ok X G (c.fact 23 (f := g23) rfl), Hd.fun_of F7⟩,
    ⟨_, _, He.glo_ok X G (c.fact 24 (f := g24) rfl), Hd.fun_of F8⟩,
    ⟨_, _, He.glo_ok X G (c.fact 25 (f := g25) rfl), Hd.fun_of F9⟩,
    ⟨_, _, He.glo_ok X G (c.fact 26 (f := g26) rfl), Hd.fun_of F10⟩,
    ⟨_, _, He.glo_ok X G (c.fact 27 (f := g27) rfl), Hd.fun_of F11⟩,
    ⟨_, _, He.glo_ok X G (c.fact 28 (f := g28) rfl), Hd.fun_of F12⟩,
    ⟨He.ga K "Form", _, _, He.mkr_ok (c.fact 29 (f := g29) rfl), Hd.fun_of F13⟩,
    ⟨_, _, _, Hd.prop_ok (c.fact 30 (f := g30) rfl), Hd.fun_of F14⟩,
    ⟨He.ga K "Form", _, _, Hd.eq_ok (c.fact 31 (f := g31) rfl), Hd.fun_of F15⟩,
    ⟨_, _, He.glo_ok X G (c.fact 32 (f := g32) rfl), Hd.fun_of F16⟩,
    ⟨_, _, He.glo_ok X G (c.fact 33 (f := g33) rfl), Hd.fun_of F17⟩,
    ⟨_, _, He.glo_ok X G (c.fact 34 (f := g34) rfl), Hd.fun_of F18⟩,
    ⟨_, _, He.glo_ok X G (c.fact 35 (f := g35) rfl), Hd.fun_of F19⟩,
    ⟨_, _, He.glo_ok X G (c.fact 36 (f := g36) rfl), Hd.fun_of F20⟩,
    ⟨_, _, He.glo_ok X G (c.fact 37 (f := g37) rfl), Hd.fun_of F21⟩,
    ⟨_, _, He.glo_ok X G (c.fact 38 (f := g38) rfl), Hd.fun_of F22⟩,
    ⟨_, _, He.glo_ok X G (c.fact 39 (f := g39) rfl), Hd.fun_of F23⟩,
    ⟨_, _, He.glo_ok X G (c.fact 40 (f := g40) rfl), Hd.fun_of F24⟩,
    ⟨_, _, He.glo_ok X G (c.fact 41 (f := g41) rfl), Hd.fun_of F25⟩,
    ⟨_, _, He.glo_ok X G (c.fact 42 (f := g42) rfl), Hd.fun_of F26⟩,
    ⟨_, _, He.glo_ok X G (c.fact 43 (f := g43) rfl), Hd.fun_of F27⟩,
    ⟨_, _, He.glo_ok X G (c.fact 44 (f := g44) rfl), Hd.fun_of F28⟩,
    ⟨_, _, He.glo_ok X G (c.fact 45 (f := g45) rfl), Hd.fun_of F29⟩,
    ⟨_, _, He.glo_ok X G (c.fact 46 (f := g46) rfl), Hd.fun_of F30⟩,
    ⟨_, _, He.glo_ok X G (c.fact 47 (f := g47) rfl), Hd.fun_of F31⟩,
    ⟨He.ga K "Ring", _, _, He.mkr_ok (c.fact 48 (f := g48) rfl), Hd.fun_of F32⟩,
    ⟨_, _, _, Hd.prop_ok (c.fact 49 (f := g49) rfl), Hd.fun_of F33⟩,
    ⟨He.ga K "Ring", _, _, He.meth_ok (c.fact 50 (f := g50) rfl), F34⟩,
    ⟨He.ga K "Ring", _, _, Hd.eq_ok (c.fact 51 (f := g51) rfl), Hd.fun_of F35⟩,
    ⟨_, _, He.glo_ok X G (c.fact 52 (f := g52) rfl), Hd.fun_of F36⟩,
    ⟨_, _, He.glo_ok X G (c.fact 53 (f := g53) rfl), Hd.fun_of F37⟩,
    ⟨He.ga K "Element", _, _, He.mkr_ok (c.fact 54 (f := g54) rfl), Hd.fun_of F38⟩,
    ⟨_, _, _, Hd.prop_ok (c.fact 55 (f := g55) rfl), Hd.fun_of F39⟩,
    ⟨_, _, _, Hd.prop_ok (c.fact 56 (f := g56) rfl), Hd.fun_of F40⟩,
    ⟨_, _, _, Hd.prop_ok (c.fact 57 (f := g57) rfl), Hd.fun_of F41⟩,
    ⟨He.ga K "Element", _, _, (fun z => ⟨z.1, z.2.1, z.2.2⟩ : _ → BinC K _ _ _) (Hd.bin_ok (c.fact 58 (f := g58) rfl)), Hd.fun_of F42⟩,
    ⟨He.ga K "Element", _, _, (fun z => ⟨z.1, z.2.1, z.2.2⟩ : _ → BinC K _ _ _) (Hd.bin_ok (c.fact 59 (f := g59) rfl)), Hd.fun_of F43⟩,
    ⟨_, _, He.glo_ok X G (c.fact 60 (f := g60) rfl), Hd.fun_of F44⟩,
    ⟨_, _, He.glo_ok X G (c.fact 61 (f := g61) rfl), Hd.fun_of F45⟩,
    ⟨_, _, He.glo_ok X G (c.fact 62 (f := g62) rfl), Hd.fun_of F46⟩,
    ⟨_, _, He.glo_ok X G (c.fact 63 (f := g63) rfl), Hd.fun_of F47⟩,
    ⟨_, _, He.glo_ok X G (c.fact 64 (f := g64) rfl), Hd.fun_of F48⟩,
    ⟨_, _, He.glo_ok X G (c.fact 65 (f := g65) rfl), Hd.fun_of F49⟩,
    ⟨_, _, He.glo_ok X G (c.fact 66 (f := g66) rfl), Hd.fun_of F50⟩,
    ⟨_, _, He.glo_ok X G (c.fact 67 (f := g67) rfl), Hd.fun_of F51⟩,
    ⟨_, _, He.glo_ok X G (c.fact 68 (f := g68) rfl), Hd.fun_of F52⟩,
    ⟨_, _, He.glo_ok X G (c.fact 69 (f := g69) rfl), Hd.fun_of F53⟩,
    ⟨_, _, He.glo_ok X G (c.fact 70 (f := g70) rfl), Hd.fun_of F54⟩,
    ⟨_, _, He.glo_ok X G (c.fact 71 (f := g71) rfl), Hd.fun_of F55⟩,
    ⟨_, _, He.glo_ok X G (c.fact 72 (f := g72) rfl), Hd.fun_of F56⟩,
    He.free_ok X G (c.fact 73 (f := g73) rfl),
    He.free_ok X G (c.fact 74 (f := g74) rfl),
    He.free_ok X G (c.fact 75 (f := g75) rfl),
    He.free_ok X G (c.fact 76 (f := g76) rfl),
    He.free_ok X G (c.fact 77 (f := g77) rfl),
    He.free_ok X G (c.fact 78 (f := g78) rfl),
    He.free_ok X G (c.fact 79 (f := g79) rfl),
    He.free_ok X G (c.fact 80 (f := g80) rfl),
    He.free_ok X G (c.fact 81 (f := g81) rfl),
    He.free_ok X G (c.fact 82 (f := g82) rfl),
    He.free_ok X G (c.fact 83 (f := g83) rfl),
    He.free_ok X G (c.fact 84 (f := g84) rfl),
    He.free_ok X G (c.fact 85 (f := g85) rfl),
    He.free_ok X G (c.fact 86 (f := g86) rfl),
    He.free_ok X G (c.fact 87 (f := g87) rfl),
    He.free_ok X G (c.fact 88 (f := g88) rfl),
    He.int_ok X G (c.fact 89 (f := g89) rfl),
    He.int_ok X G (c.fact 90 (f := g90) rfl),
    He.int_ok X G (c.fact 91 (f := g91) rfl),
    He.int_ok X G (c.fact 92 (f := g92) rfl),
    Hd.blt_ok X G (c.fact 93 (f := g93) rfl),
    Hd.blt_ok X G (c.fact 94 (f := g94) rfl),
    ⟨_, He.glo_ok X G (c.fact 99 (f := g99) rfl), fun H => ⟨_, _, _, Hd.refs_ok (c.fact 95 (f := g95) rfl) H, Hd.ints_ok (c.fact 96 (f := g96) rfl) H, Hd.ints_ok (c.fact 97 (f := g97) rfl) H, Hd.ints_ok (c.fact 98 (f := g98) rfl) H⟩⟩,
    ⟨_, He.glo_ok X G (c.fact 100 (f := g100) rfl), fun H => Hd.ints_ok (c.fact 101 (f := g101) rfl) H⟩⟩
  have e := hfa.symm.trans (He.glo_ok X G (c.fact 72 (f := g72) rfl))
  cases e
  have b := FunD.bindsA (ps := ["_law_script"]) F56 fun _ _ _ _ _ _ us hl => match us, hl with | [_], _ => rfl
  exact ⟨fd56, fun s v => b s [v] rfl, fun base _ _ => ok_law0 (P := P) (w := w) (base := base) T (Hd.fun_of F56)⟩
end RG
open PySem PySem.W PySem.Calls PyProof.Rows
set_option maxHeartbeats 0 in
theorem PySem.Challenge.cw_formrings_k54_whole_maps_to_residues_holds : PySem.Challenge.rw_formrings_k54_whole_maps_to_residues.Holds := by
  w_on; o_law
  refine HandSHeadRun.head_imp (r := OpenLaw.row PySem.Challenge.rw_formrings_k54_whole_maps_to_residues) (q := RG.vw) (H := RG.hk) (ob := RG.ob) (M := 12000) (loose := RG.names) (d := HandSHeadRun.topDef (OpenLaw.row PySem.Challenge.rw_formrings_k54_whole_maps_to_residues).prog 112) (kwd := []) RG.ob_eq RG.run (by kernel_rfl) (by kernel_rfl) (by kernel_rfl) (by rfl) (by first | assumption | decide +kernel) (by decide +kernel) ⟨rfl, rfl, rfl, rfl, rfl, by decide +kernel⟩ ?hw ?hc
  case hw => w_witness2
  case hc =>
    refine L2.walk_ofE (l := PySem.Challenge.rw_formrings_k54_whole_maps_to_residues) (n := 63) (k := 11) (x := "_law_script") (CX := L2.CX0) rfl (by decide) (by kernel_rfl) ⟨rfl, by decide, by decide⟩ ?F (fun _ _ _ _ z => z)
    intro w mg fa h Y G hmg0
    obtain ⟨K, KX, c⟩ := Y
    have hmg : mg ("law" : PySem.Str) = some (.ref fa) := by
      have e : (HandSHeadRun.topDef (OpenLaw.row PySem.Challenge.rw_formrings_k54_whole_maps_to_residues).prog 112).name = ("law" : PySem.Str) := by kernel_rfl
      rw [← e]
      exact hmg0
    obtain ⟨fd, hb, hF⟩ := RG.facts (P := (PySem.Challenge.rw_formrings_k54_whole_maps_to_residues).prog) (w := w) KX G hmg c
    exact ⟨K, fd, RG.sp_lawW K, KX, hb, fun H a ns hl _ hS => ⟨a, ns, rfl, hS, hl, fun _ => rfl⟩, hF⟩
