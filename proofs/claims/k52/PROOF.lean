import PyProof.Rows.All
import Wide.All
import OpenK.AllK
import Wide.FinOn
import HandS.ForMost
import HandS.Wide
import HandS.WideBits
import HandS.Gcd
import HandS.IsInst
import HandS.Style
import HandS.Evl
import Flt.RightSqrt
import HandS.More
import HandS.OwnEq
import HandS.Property
import HandS.Star
import KE.KOpsOwn
import HandS.ForExc
import HandS.HeadHook1
import OpenK.KMeth
import HandS.Walk
import HandS.Zip
import KE.GoesEnum
import OpenK.KOps
import PyProof.Rows.Range3
import PyProof.Conv_bool
import HandS.List
import PyProof.ConsumeWalk
import PyProof.TupleIter
import KE.GoesZip
import KE.GoesMore
import HandS.SortRule
import HandS.TryOnly
import HandS.Defaults
import KE.IntBitsLaws
import HandS.TupMul
import HandS.TupAny
import HandS.Text
import HandS.FStr
import HandS.RaiseMore
import HandS.Sort
import HandS.DictComp
import HandS.Small
import KE.KStateDown
import HandS.Base
import HandS.Call
import HandS.Ends
import HandS.Words
import HandS.Head0
import HandS.Head1
import HandS.Head2
import HandS.Head3
import HandS.HeadEnd
import HandS.HeadHook2
import PySem.Challenge.RW_formrings_k52_whole_kinds_by_roots_and_r
set_option Elab.async false
set_option linter.all false
set_option maxRecDepth 100000
set_option maxHeartbeats 4000000
namespace Fr
open PySem PySem.Spec PyProof.Rows L2
open Evl (Ex)
def Def (P : Program) (w : World) (K : PySem.W.Frag) (mg : Str → Option Value) (base : Heap) (k : Nat) (x : Str) (ps : List Str) (sp : Sp) : Prop :=
  ∃ f fd, mg x = some (.ref f) ∧ PySem.W.keepIn K (.ref f) = true ∧ Binds K fd ps [] ∧ FnOk P w K mg base CX0 k f fd ps sp
structure Fm (S : Addr → Prop) (I : Hp → Prop) : Prop where
  fresh : ∀ {H D}, I H → H D = none → ¬ S D
  stay : ∀ {H D o}, ¬ S D → I H → I (upd H D o)
def Fx (S : Addr → Prop) (I : Hp → Prop) (H H' : Hp) : Prop := I H' ∧ ∀ b o, ¬ S b → H b = some o → H' b = some o
section
variable {S : Addr → Prop} {I : Hp → Prop} {H H1 H2 : Hp}
theorem Fx.refl (i : I H) : Fx S I H H := ⟨i, fun _ _ _ h => h⟩
theorem Fx.trans (a : Fx S I H H1) (b : Fx S I H1 H2) : Fx S I H H2 := ⟨b.1, fun x o n h => b.2 x o n (a.2 x o n h)⟩
theorem Fx.new (m : Fm S I) (i : I H) {p : Addr} {o : HO} (h : H p = none) : Fx S I H (upd H p o) := ⟨m.stay (m.fresh i h) i, fun b u _ e => by
  rw [upd_ne (ne_of_none e h)]
  exact e⟩
theorem Fx.mut (m : Fm S I) (a : Fx S I H H1) (i : I H) {p : Addr} {o : HO} (h : H p = none) : Fx S I H (upd H1 p o) := ⟨m.stay (m.fresh i h) a.1, fun b u n e => by
  rw [upd_ne (ne_of_none e h)]
  exact a.2 b u n e⟩
theorem Fx.at (a : Fx S I H H1) {p : Addr} {o : HO} (n : ¬ S p) (h : H p = some o) : H1 p = some o := a.2 p o n h
theorem Fx.sqT {K : PySem.W.Frag} (a : Fx S I H H1) {p : Addr} {xs : List V} (n : ¬ S p) (h : SqT K H p xs) : SqT K H1 p xs := by
  rcases h with (h | ⟨o, h⟩) | h
  · exact .inl (.inl (a.2 _ _ n h))
  · exact .inl (.inr ⟨o, a.2 _ _ n h⟩)
  · exact .inr h
theorem Fx.sqL {K : PySem.W.Frag} (a : Fx S I H H1) {p : Addr} {xs : List V} (n : ¬ S p) (h : SqL K H p xs) : SqL K H1 p xs := by
  rcases h with (h | ⟨o, h⟩) | h
  · exact .inl (.inl (a.2 _ _ n h))
  · exact .inl (.inr ⟨o, a.2 _ _ n h⟩)
  · exact .inr h
theorem Fx.free (a : Fx S I H H1) {p : Addr} (n : ¬ S p) (h : H1 p = none) : H p = none := by
  cases e : H p with
  | none => rfl
  | some o => rw [a.2 p o n e] at h; cases h
theorem Fx.free' (m : Fm S I) (a : Fx S I H H1) {p : Addr} (h : H1 p = none) : H p = none := a.free (m.fresh a.1 h) h
end
abbrev S0 : Addr → Prop := fun _ => False
abbrev I0 : Hp → Prop := fun _ => True
theorem fm0 : Fm S0 I0 := ⟨fun _ _ h => h, fun _ _ => trivial⟩
abbrev Ex0 : Hp → Hp → Prop := Fx S0 I0
theorem Ex0.of {H H' : Hp} (h : ∀ b o, H b = some o → H' b = some o) : Ex0 H H' := ⟨trivial, fun b o _ e => h b o e⟩
theorem Ex0.ap {H H' : Hp} (h : Ex0 H H') {b : Addr} {o : HO} (e : H b = some o) : H' b = some o := h.2 b o (fun z => z) e
theorem Ex0.refl (H : Hp) : Ex0 H H := Fx.refl trivial
theorem Ex0.new {H : Hp} {p : Addr} {o : HO} (h : H p = none) : Ex0 H (upd H p o) := Fx.new fm0 trivial h
def Cs (S : Addr → Prop) (I : Hp → Prop) (H : Hp) (P : Nat → List V → Hp → Prop) (D : Addr) (i : Nat) (H' : Hp) : Prop := Fx S I H H' ∧ ∃ acc, H' D = some (.lst acc) ∧ acc.length ≤ i ∧ P i acc H'
section
variable {K : PySem.W.Frag} {S : Addr → Prop} {I : Hp → Prop} {σ : L2.St} {H : Hp} {Q : Addr → Hp → Prop} {te : TE} {vs : List Nat} {g : TG} {tt : TT} {P : Nat → List V → Hp → Prop}
theorem cs_yes (m : Fm S I) (i0 : I H) {D : Addr} {i : Nat} {acc : List V} {H' H4 : Hp} {y : V} (hD : H D = none) (p1 : Fx S I H H') (p2 : H' D = some (.lst acc)) (p3 : acc.length ≤ i) (hi : i < 1000000) (e : Fx S I H' H4) (h : P (i + 1) (acc ++ [y]) (upd H4 D (.lst (acc ++ [y])))) :
    ∃ acc', H4 D = some (.lst acc') ∧ acc'.length < sizeLine ∧ Cs S I H P D (i + 1) (upd H4 D (.lst (acc' ++ [y]))) :=
  ⟨acc, e.2 _ _ (m.fresh i0 hD) p2, Nat.lt_of_le_of_lt p3 (Nat.lt_of_lt_of_le hi (by decide)), Fx.mut m (p1.trans e) i0 hD, _, upd_same, by rw [List.length_append]; exact Nat.add_le_add_right p3 1, h⟩
theorem cs_no (m : Fm S I) (i0 : I H) {D : Addr} {i : Nat} {acc : List V} {H' H4 : Hp} (hD : H D = none) (p1 : Fx S I H H') (p2 : H' D = some (.lst acc)) (p3 : acc.length ≤ i) (e : Fx S I H' H4) (h : P (i + 1) acc H4) : Cs S I H P D (i + 1) H4 :=
  ⟨p1.trans e, acc, e.2 _ _ (m.fresh i0 hD) p2, Nat.le_succ_of_le p3, h⟩
theorem lcT (m : Fm S I) (i0 : I H) {a : Addr} {xs : List V} (hx : SqT K H a xs) (ha : ¬ S a) (P : Nat → List V → Hp → Prop) (p0 : ∀ D, H D = none → P 0 [] (upd H D (.lst [])))
    (hs : ∀ D i x acc H', H D = none → xs[i]? = some x → Fx S I H H' → H' D = some (.lst acc) → acc.length ≤ i → P i acc H' → g x (wipe σ vs) H' fun σ2 H2 => wipe σ2 vs = wipe σ vs ∧ tt σ2 H2 fun b H3 =>
      if b = true then te σ2 H3 fun y H4 => ∃ acc, H4 D = some (.lst acc) ∧ acc.length < sizeLine ∧ Cs S I H P D (i + 1) (upd H4 D (.lst (acc ++ [y]))) else Cs S I H P D (i + 1) H3)
    (q : ∀ D H' acc, H D = none → Fx S I H H' → H' D = some (.lst acc) → P xs.length acc H' → Q D H') :
    ∀ D, H D = none → ∃ W : Nat → Nat → Hp → Prop, (∃ m, W 0 m (upd H D (.lst []))) ∧ ∀ i m H, W i m H →
      ((Itt K a).stop i H ∧ Q D H) ∨ ((Itt K a).go i H ∧ ∃ Nx : Hp → Prop, (∀ H', Nx H' → ∃ m', m' < m ∧ W (i + 1) m' H') ∧ ∀ x H', (Itt K a).yld i H x H' → g x (wipe σ vs) H' fun σ2 H2 => wipe σ2 vs = wipe σ vs ∧ tt σ2 H2 fun b H3 =>
        if b = true then te σ2 H3 fun y H4 => ∃ acc, H4 D = some (.lst acc) ∧ acc.length < sizeLine ∧ Nx (upd H4 D (.lst (acc ++ [y]))) else Nx H3) := fun D hD =>
  lc_tup (xs := xs) (Cs S I H P D) ⟨Fx.new m i0 hD, [], upd_same, Nat.le_refl _, p0 D hD⟩ (fun i H' _ p => p.1.sqT ha hx)
    (fun i x H' hi p => by
      obtain ⟨p1, acc, p2, p3, p4⟩ := p
      exact hs D i x acc H' hD hi p1 p2 p3 p4)
    (fun H' p => by
      obtain ⟨p1, acc, p2, p3, p4⟩ := p
      exact q D H' acc hD p1 p2 p4)
theorem lcL (m : Fm S I) (i0 : I H) {a : Addr} {xs : List V} (hx : SqL K H a xs) (ha : ¬ S a) (P : Nat → List V → Hp → Prop) (p0 : ∀ D, H D = none → P 0 [] (upd H D (.lst [])))
    (hs : ∀ D i x acc H', H D = none → xs[i]? = some x → Fx S I H H' → H' D = some (.lst acc) → acc.length ≤ i → P i acc H' → g x (wipe σ vs) H' fun σ2 H2 => wipe σ2 vs = wipe σ vs ∧ tt σ2 H2 fun b H3 =>
      if b = true then te σ2 H3 fun y H4 => ∃ acc, H4 D = some (.lst acc) ∧ acc.length < sizeLine ∧ Cs S I H P D (i + 1) (upd H4 D (.lst (acc ++ [y]))) else Cs S I H P D (i + 1) H3)
    (q : ∀ D H' acc, H D = none → Fx S I H H' → H' D = some (.lst acc) → P xs.length acc H' → Q D H') :
    ∀ D, H D = none → ∃ W : Nat → Nat → Hp → Prop, (∃ m, W 0 m (upd H D (.lst []))) ∧ ∀ i m H, W i m H →
      ((Itl K a).stop i H ∧ Q D H) ∨ ((Itl K a).go i H ∧ ∃ Nx : Hp → Prop, (∀ H', Nx H' → ∃ m', m' < m ∧ W (i + 1) m' H') ∧ ∀ x H', (Itl K a).yld i H x H' → g x (wipe σ vs) H' fun σ2 H2 => wipe σ2 vs = wipe σ vs ∧ tt σ2 H2 fun b H3 =>
        if b = true then te σ2 H3 fun y H4 => ∃ acc, H4 D = some (.lst acc) ∧ acc.length < sizeLine ∧ Nx (upd H4 D (.lst (acc ++ [y]))) else Nx H3) := fun D hD =>
  lc_list (xs := xs) (Cs S I H P D) ⟨Fx.new m i0 hD, [], upd_same, Nat.le_refl _, p0 D hD⟩ (fun i H' _ p => p.1.sqL ha hx)
    (fun i x H' hi p => by
      obtain ⟨p1, acc, p2, p3, p4⟩ := p
      exact hs D i x acc H' hD hi p1 p2 p3 p4)
    (fun H' p => by
      obtain ⟨p1, acc, p2, p3, p4⟩ := p
      exact q D H' acc hD p1 p2 p4)
theorem lcR (m : Fm S I) (i0 : I H) {lo : Int} {n : Nat} (P : Nat → List V → Hp → Prop) (p0 : ∀ D, H D = none → P 0 [] (upd H D (.lst [])))
    (hs : ∀ D i acc H', H D = none → i < n → Fx S I H H' → H' D = some (.lst acc) → acc.length ≤ i → P i acc H' → g (.int (lo + i)) (wipe σ vs) H' fun σ2 H2 => wipe σ2 vs = wipe σ vs ∧ tt σ2 H2 fun b H3 =>
      if b = true then te σ2 H3 fun y H4 => ∃ acc, H4 D = some (.lst acc) ∧ acc.length < sizeLine ∧ Cs S I H P D (i + 1) (upd H4 D (.lst (acc ++ [y]))) else Cs S I H P D (i + 1) H3)
    (q : ∀ D H' acc, H D = none → Fx S I H H' → H' D = some (.lst acc) → P n acc H' → Q D H') :
    ∀ D, H D = none → ∃ W : Nat → Nat → Hp → Prop, (∃ m, W 0 m (upd H D (.lst []))) ∧ ∀ i m H, W i m H →
      ((Itr lo n).stop i H ∧ Q D H) ∨ ((Itr lo n).go i H ∧ ∃ Nx : Hp → Prop, (∀ H', Nx H' → ∃ m', m' < m ∧ W (i + 1) m' H') ∧ ∀ x H', (Itr lo n).yld i H x H' → g x (wipe σ vs) H' fun σ2 H2 => wipe σ2 vs = wipe σ vs ∧ tt σ2 H2 fun b H3 =>
        if b = true then te σ2 H3 fun y H4 => ∃ acc, H4 D = some (.lst acc) ∧ acc.length < sizeLine ∧ Nx (upd H4 D (.lst (acc ++ [y]))) else Nx H3) := fun D hD =>
  lc_range (lo := lo) (n := n) (Cs S I H P D) ⟨Fx.new m i0 hD, [], upd_same, Nat.le_refl _, p0 D hD⟩
    (fun i H' hi p => by
      obtain ⟨p1, acc, p2, p3, p4⟩ := p
      exact hs D i acc H' hD hi p1 p2 p3 p4)
    (fun H' p => by
      obtain ⟨p1, acc, p2, p3, p4⟩ := p
      exact q D H' acc hD p1 p2 p4)
end
theorem log_lt {i : Int} {a : Nat} (h : i.natAbs < 2 ^ a) (h0 : 0 < a) : i.natAbs.log2 < a := by
  by_cases z : i.natAbs = 0
  · rw [z]
    exact h0
  · exact (Nat.log2_lt z).mpr h
theorem mw {i j : Int} (h1 : -(2 ^ 250) < i) (h2 : i < 2 ^ 250) (h3 : -(2 ^ 250) < j) (h4 : j < 2 ^ 250) : CMulW i j :=
  wide_mul (a := 250) (b := 250) (by omega) (by omega) (by decide) (by decide) (by decide)
theorem dw {i j : Int} (h : 0 < j) (h4 : j < 2 ^ 250) : CDivW i j := wide_div (b := 250) h (by omega) (by decide) (by decide)
theorem iteB {b : Bool} {A B : Prop} (h1 : b = true → A) (h2 : b = false → B) : if b = true then A else B := by
  cases b with
  | true => rw [if_pos rfl]; exact h1 rfl
  | false => rw [if_neg Bool.false_ne_true]; exact h2 rfl
theorem iteD {c : Prop} [Decidable c] {A B : Prop} (h1 : c → A) (h2 : ¬ c → B) : if decide c = true then A else B :=
  iteB (fun h => h1 (of_decide_eq_true h)) (fun h => h2 (of_decide_eq_false h))
theorem iteN {c : Prop} [Decidable c] {A B : Prop} (h1 : ¬ c → A) (h2 : c → B) : if (!decide c) = true then A else B := by
  by_cases h : c
  · rw [decide_eq_true h]; exact iteF (h2 h)
  · rw [decide_eq_false h]; exact iteT (h1 h)
theorem dT {c : Prop} [Decidable c] {A B : Prop} (h : c) (a : A) : if decide c = true then A else B := by rw [decide_eq_true h, if_pos rfl]; exact a
theorem dF {c : Prop} [Decidable c] {A B : Prop} (h : ¬ c) (a : B) : if decide c = true then A else B := by rw [decide_eq_false h, if_neg Bool.false_ne_true]; exact a
theorem ndT {c : Prop} [Decidable c] {A B : Prop} (h : ¬ c) (a : A) : if (!decide c) = true then A else B := by rw [decide_eq_false h]; exact iteT a
theorem ndF {c : Prop} [Decidable c] {A B : Prop} (h : c) (a : B) : if (!decide c) = true then A else B := by rw [decide_eq_true h]; exact iteF a
theorem sl1 : 1 ≤ sizeLine := by decide
theorem sl2 : 2 ≤ sizeLine := by decide
theorem sl3 : 3 ≤ sizeLine := by decide
theorem sl4 : 4 ≤ sizeLine := by decide
theorem sl5 : 5 ≤ sizeLine := by decide
theorem sl6 : 6 ≤ sizeLine := by decide
theorem sl8 : 8 ≤ sizeLine := by decide
theorem slN {n : Nat} (h : n ≤ 1000000) : n ≤ sizeLine := Nat.le_trans h (by decide)
section
variable {X : Cx}
def rIsqrt : List V → Hp → VK → Prop := fun vs H Q => ∃ a : Int, vs = [.int a] ∧ 0 ≤ a ∧ a < 2 ^ 64 ∧ ∀ r : Int, 0 ≤ r → r * r ≤ a → a < (r + 1) * (r + 1) → Q (.int r) H
theorem cr_isqrt : CallR X (.builtin "math.isqrt") rIsqrt := by
  intro pins s σ H vs us Q I r h
  obtain ⟨a, rfl, h0, h1, q⟩ := h
  obtain ⟨u, rfl, ru⟩ := Vals.one r
  obtain ⟨t, rfl⟩ := ru
  have sp := PySem.Float64.isqrt_spec a.toNat
  refine PySem.W.mg_isqrt h0 h1 ⟨.int _, H, I.tok _, ⟨_, rfl⟩, q _ (Int.natCast_nonneg _) ?_ ?_⟩
  · have := sp.1
    have e : ((Float64.isqrt a.toNat * Float64.isqrt a.toNat : Nat) : Int) ≤ (a.toNat : Int) := Int.ofNat_le.mpr this
    rw [Int.toNat_of_nonneg h0] at e
    simpa using e
  · have := sp.2
    have e : (a.toNat : Int) < (((Float64.isqrt a.toNat + 1) * (Float64.isqrt a.toNat + 1) : Nat) : Int) := Int.ofNat_lt.mpr this
    rw [Int.toNat_of_nonneg h0] at e
    simpa using e
end
end Fr
namespace Fr
open PySem PySem.Spec PyProof.Rows L2
section
variable {X : Cx}
def CPowC (i j : Int) : Prop := 0 ≤ j ∧ (Builtin.Int.intBits i : Int) * j ≤ 2 ^ 27
theorem op_powC : OpR X (binaryOp .Pow) (rI CPowC fun i j => .int (i ^ j.toNat)) := opI fun _ _ _ _ _ _ _ hc q => PyProof.Rows.pow_int hc.1 hc.2 q
end
end Fr
namespace Fr
open PySem PySem.Spec PyProof.Rows L2
theorem deI {i j : Int} : decide (V.int i = V.int j) = decide (i = j) := by
  rw [dec_int]
  rfl
theorem iteE {i j : Int} {A B : Prop} (h1 : i = j → A) (h2 : i ≠ j → B) : if decide (V.int i = V.int j) = true then A else B := by
  rw [deI]
  exact iteD h1 h2
theorem iteEn {i j : Int} {A B : Prop} (h1 : i ≠ j → A) (h2 : i = j → B) : if (!decide (V.int i = V.int j)) = true then A else B := by
  rw [deI]
  exact iteN h1 h2
end Fr
namespace Fr
open PySem PySem.Spec PyProof.Rows L2
def inb (lo hi : Int) : V → Bool
  | .int i => decide (lo ≤ i) && decide (i ≤ hi)
  | _ => false
theorem in_b {lo hi : Int} {xs : List V} {v : V} (hv : v ∈ xs) (h : xs.all (inb lo hi) = true) : ∃ f : Int, v = .int f ∧ lo ≤ f ∧ f ≤ hi := by
  have := List.all_eq_true.mp h v hv
  cases v with
  | int i =>
    unfold inb at this
    rw [Bool.and_eq_true, decide_eq_true_iff, decide_eq_true_iff] at this
    exact ⟨i, rfl, this.1, this.2⟩
  | _ => cases this
theorem shaped_ints (ns : List Int) : SeqAt.shaped (.list (ns.map .int)) = true := by
  have h : PyData.canLayAll0 (ns.map PyData.int) = true ∧ PyData.depthAll (ns.map PyData.int) ≤ 1 := by
    induction ns with
    | nil => exact ⟨rfl, by simp [PyData.depthAll]⟩
    | cons n r ih =>
      refine ⟨?_, ?_⟩
      · rw [List.map_cons, PyData.canLayAll0, PyData.canLay0, ih.1]; rfl
      · rw [List.map_cons, PyData.depthAll, PyData.depth]; exact Nat.max_le.mpr ⟨by decide, ih.2⟩
  unfold SeqAt.shaped
  rw [PyData.canLay0, PyData.depth, h.1]
  simp
  omega
theorem dp_ints {K : PySem.W.Frag} {H : Hp} : ∀ ns : List Int, DpAll K H (ns.map V.int) (ns.map PyData.int)
  | [] => .nil
  | n :: r => .cons (.int n) (dp_ints r)
theorem eqv_ints : ∀ ns ms : List Int, PyData.eqvAll (ns.map PyData.int) (ms.map PyData.int) = decide (ns = ms)
  | [], [] => rfl
  | [], m :: ms => rfl
  | n :: ns, [] => rfl
  | n :: ns, m :: ms => by
    rw [List.map_cons, List.map_cons, PyData.eqvAll, PyData.eqv, eqv_ints ns ms]
    apply Bool.eq_iff_iff.mpr
    simp
def pr2 (q : Nat × Nat) : PyData := .tuple [.int (q.1 : Int), .int (q.2 : Int)]
theorem shaped_prs (fs : List (Nat × Nat)) : SeqAt.shaped (.tuple (fs.map pr2)) = true := by
  have h : PyData.canLayAll0 (fs.map pr2) = true ∧ PyData.depthAll (fs.map pr2) ≤ 2 := by
    induction fs with
    | nil => exact ⟨rfl, by simp [PyData.depthAll]⟩
    | cons n r ih =>
      refine ⟨?_, ?_⟩
      · rw [List.map_cons, PyData.canLayAll0, ih.1]; simp [pr2, PyData.canLay0, PyData.canLayAll0]
      · rw [List.map_cons, PyData.depthAll]; exact Nat.max_le.mpr ⟨by simp [pr2, PyData.depth, PyData.depthAll], ih.2⟩
  unfold SeqAt.shaped
  rw [PyData.canLay0, PyData.depth, h.1]
  simp
  omega
theorem eqv_prs : ∀ fs gs : List (Nat × Nat), PyData.eqvAll (fs.map pr2) (gs.map pr2) = decide (fs = gs)
  | [], [] => rfl
  | [], m :: ms => rfl
  | n :: ns, [] => rfl
  | (a, b) :: ns, (c, d) :: ms => by
    rw [List.map_cons, List.map_cons, PyData.eqvAll, eqv_prs ns ms]
    apply Bool.eq_iff_iff.mpr
    simp [pr2, PyData.eqv, PyData.eqvAll]
    omega
end Fr
namespace Fr
open PySem PySem.Spec PyProof.Rows L2
def B (a : Nat) (i : Int) : Prop := i.natAbs < 2 ^ a ∧ 0 < a
theorem two_pow_two {a : Nat} (h : 0 < a) : 2 ≤ 2 ^ a := by
  obtain ⟨k, rfl⟩ : ∃ k, a = k + 1 := ⟨a - 1, by omega⟩
  rw [Nat.pow_succ]
  have := Nat.two_pow_pos k
  omega
theorem pow_sum {a b : Nat} (ha : 0 < a) (hb : 0 < b) : 2 ^ a + 2 ^ b ≤ 2 ^ (a + b) := by
  rw [Nat.pow_add]
  have h1 := two_pow_two ha
  have h2 := two_pow_two hb
  generalize 2 ^ a = x at *
  generalize 2 ^ b = y at *
  have := Nat.mul_le_mul h1 (Nat.le_refl y)
  have := Nat.mul_le_mul (Nat.le_refl x) h2
  rcases Nat.le_total x y with h | h <;> omega
theorem B.mul {a b : Nat} {i j : Int} (h1 : B a i) (h2 : B b j) : B (a + b) (i * j) := ⟨wide_lt h1.1 h2.1, Nat.add_pos_left h1.2 _⟩
theorem B.add {a b : Nat} {i j : Int} (h1 : B a i) (h2 : B b j) : B (a + b) (i + j) :=
  ⟨Nat.lt_of_lt_of_le (by have := h1.1; have := h2.1; omega : (i + j).natAbs < 2 ^ a + 2 ^ b) (pow_sum h1.2 h2.2), Nat.add_pos_left h1.2 _⟩
theorem B.sub {a b : Nat} {i j : Int} (h1 : B a i) (h2 : B b j) : B (a + b) (i - j) :=
  ⟨Nat.lt_of_lt_of_le (by have := h1.1; have := h2.1; omega : (i - j).natAbs < 2 ^ a + 2 ^ b) (pow_sum h1.2 h2.2), Nat.add_pos_left h1.2 _⟩
theorem B.neg {a : Nat} {i : Int} (h1 : B a i) : B a (-i) := ⟨by rw [Int.natAbs_neg]; exact h1.1, h1.2⟩
theorem B.lit {i : Int} (h : i.natAbs < 2 ^ 64) : B 64 i := ⟨h, by decide⟩
theorem B.mono {a b : Nat} {i : Int} (h : B a i) (hab : a ≤ b) : B b i := ⟨Nat.lt_of_lt_of_le h.1 (Nat.pow_le_pow_right (by decide) hab), Nat.lt_of_lt_of_le h.2 hab⟩
theorem mulB {a b : Nat} {i j : Int} (h1 : B a i) (h2 : B b j) (h : a + b ≤ 1000000) : CMulW i j := wide_mul h1.1 h2.1 h1.2 h2.2 h
end Fr
namespace Fr
open PySem PySem.Spec PyProof.Rows L2
theorem shaped_tints (ns : List Int) : SeqAt.shaped (.tuple (ns.map .int)) = true := by
  have h : PyData.canLayAll0 (ns.map .int) = true ∧ PyData.depthAll (ns.map .int) ≤ 1 := by
    induction ns with
    | nil => exact ⟨rfl, by simp [PyData.depthAll]⟩
    | cons n r ih =>
      refine ⟨?_, ?_⟩
      · rw [List.map_cons, PyData.canLayAll0, ih.1]; simp [PyData.canLay0]
      · rw [List.map_cons, PyData.depthAll]; exact Nat.max_le.mpr ⟨by simp [PyData.depth], ih.2⟩
  unfold SeqAt.shaped
  rw [PyData.canLay0, PyData.depth, h.1]
  simp
  omega
end Fr
namespace Fr
open PySem PySem.Spec PyProof.Rows L2
section
variable {M : Model} {prog : Program} {w : World} {A : Around} {E : Value → Shared → Prop} {s : Shared} {K : PySem.W.Frag} {x C f : Addr} {ox : Obj} {od : Option Obj}
theorem ifBound_ne {args : List Value} {Q : Option Value → Shared → Prop} (X : K.In s.heap) (I : PySem.W.InstAt s.heap x ox C od) (hs : PySem.W.findIn K (.ref C) "__ne__" = some (some (.builtin "object.__ne__")))
    (h : wpAny M A (call (.builtin "object.__ne__") (.ref x :: args)) (fun v => Q (some v)) E s) : wpAny M A (callSpecialIfBound? (.ref x) "__ne__" args) Q E s := by
  simp only [callSpecialIfBound?, bindSpecialIfBound?]
  refine wpAny_holding (wpAny_bind (wpAny_bind (wpAny_bind (I.type.here ((PySem.W.looks_findIn X hs).here ?_)))))
  refine wpAny_bind (wpAny_askSetting (wpAny_ite ?_))
  have fin : wpAny M A (call (.builtin "object.__ne__") ([.ref x] ++ args) >>= fun v => pure (some v)) Q E s := wpAny_bind (wpAny_mono h (fun v s' h' => wpAny_pure h') fun _ _ h' => h')
  split
  · exact wpAny_bind (wpAny_of_eq (F.cmp_object.ne.bind _) (wpAny_pure (by exact fin)))
  · exact wpAny_tryCatch (wpAny_bind (wpAny_of_eq (F.cmp_object.ne.bind _) (wpAny_pure (by exact fin))))
def NeB (Q : Value → Shared → Prop) (v : Value) (s' : Shared) : Prop := ∃ b, v = .bool b ∧ Q (.bool (!b)) s'
theorem entry_ne {b : Value} {Q : Fin → Shared → Prop} (hu : A.units < cLine) (X : K.In s.heap) (I : PySem.W.InstAt s.heap x ox C od) (hs : PySem.W.findIn K (.ref C) "__eq__" = some (some (.ref f))) (hf : PySem.W.isFn K (.ref f) = true)
    (h : wpAny (model prog w) A (call (.ref f) [.ref x, b]) (NeB fun v s' => Q (.done (.ret v)) s') E s) : wpAny (model prog w) A (Builtin.«object.__ne__» ⟨[.ref x, b], []⟩) Q E s := by
  unfold Builtin.«object.__ne__»
  repeat (first | with_reducible refine wpAny_cRoomFor hu ?_ | (refine wpAny_bind (PySem.W.ifBound_K X I hs hf (wpAny_mono h (fun v s' hv => ?_) fun _ _ e => e))) | wp_step)
  all_goals (obtain ⟨b', rfl, q⟩ := hv)
  all_goals (repeat (first | wp_step))
  all_goals exact q
theorem ne_K {h₀ : Heap} {L : Addr} {m : Str → Option Value} {b tb : Value} {Q : Value → Shared → Prop} (hu : A.units + 1 < cLine) (F : Fr h₀ L s.heap m) (X₀ : K.In h₀) (I : PySem.W.InstAt s.heap x ox C od) (hb : PySem.W.Looks (model prog w) s.heap (typeOf b) tb) (hn : PySem.W.notFirst K C tb = true)
    (hne : PySem.W.findIn K (.ref C) "__ne__" = some (some (.builtin "object.__ne__"))) (hs : PySem.W.findIn K (.ref C) "__eq__" = some (some (.ref f))) (hf : PySem.W.isFn K (.ref f) = true) (hm : PySem.W.mroIn K C (.type "object") = some true)
    (h : wpAny (model prog w) A.in1 (call (.ref f) [.ref x, b]) (NeB Q) E s) : wpAny (model prog w) A (richCompare .NotEq (.ref x) b) Q E s := by
  have X := X₀.keeps F.keep
  have one : wpAny (model prog w) A (tryCompare (.ref x) "__ne__" b) (fun r s' => ∃ v, r = some v ∧ Q v s') E s := by
    unfold tryCompare
    refine wpAny_bind (ifBound_ne X I hne (wpAny_call (codeAny_call_builtin PySem.F.cmp_object.ne.plain PySem.F.cmpEntry_ne (PySem.W.check_slot PySem.F.cmpKind_ne PySem.F.cmpSplit_ne (I.type.andThen (PySem.W.looks_mroIn X hm)) (PySem.F.cmpArgs_ne _ _) ?_))))
    refine entry_ne (A := A.in1) hu X I hs hf (wpAny_mono h (fun v s' hv => ?_) fun _ _ e => e)
    obtain ⟨b', rfl, q⟩ := hv
    exact ⟨b', rfl, wpAny_pure ⟨_, rfl, q⟩⟩
  unfold richCompare
  simp only [oneThing_ref]
  refine wpAny_holding (wpAny_bind (wpAny_cRoomFor (Nat.lt_of_succ_lt hu) ?_))
  refine wpAny_bind (I.type.here (wpAny_bind (hb.here ?_)))
  split
  · rename_i q
    have e : PySem.W.subIn K tb (.ref C) = some false := by
      rcases Bool.or_eq_true_iff.mp hn with e | e
      · rw [beq_iff_eq.mp e] at q; simp at q
      · exact beq_iff_eq.mp e
    refine wpAny_bind ((PySem.W.looks_subIn X e).here ?_)
    simp only [Bool.false_eq_true, if_false]
    refine wpAny_bind (wpAny_mono one (fun r s' z => ?_) fun _ _ e => e)
    obtain ⟨v, rfl, hq⟩ := z
    exact wpAny_pure hq
  · refine wpAny_bind (wpAny_pure ?_)
    simp only [Bool.false_eq_true, if_false]
    refine wpAny_bind (wpAny_mono one (fun r s' z => ?_) fun _ _ e => e)
    obtain ⟨v, rfl, hq⟩ := z
    exact wpAny_pure hq
end
section
variable {X : Cx} {CX : CXT} {C f : Addr} {fd : FuncData} {ps : List Str} {k : Nat} {sp : Sp} {E : XK}
structure EqC (K : PySem.W.Frag) (C f : Addr) : Prop where
  eq : PySem.W.findIn K (.ref C) "__eq__" = some (some (.ref f))
  fn : PySem.W.isFn K (.ref f) = true
  ne : PySem.W.findIn K (.ref C) "__ne__" = some (some (.builtin "object.__ne__"))
  mo : PySem.W.mroIn K C (.type "object") = some true
def rEqI (K : PySem.W.Frag) (C : Addr) (sp : Sp) (E : XK) (neg : Bool) : R2 := fun x y H Q => ∃ a dx fs tb, x = .ref a ∧ H a = some (.ins C dx fs) ∧ TyX K H y tb ∧ PySem.W.notFirst K C tb = true ∧ sp [x, y] H (fun v H' => ∃ b, v = .bl b ∧ Q (.bl (if neg = true then !b else b)) H') E
theorem op_eqI (c : EqC X.K C f) (F : FnOk X.prog X.w X.K X.mg X.base CX k f fd ps sp) (hb : Binds X.K fd ps []) (hr : Room k X.A) (hx : Passes CX X E) : OpR X (compareOp .Eq) (rEqI X.K C sp E false) := by
  intro pins s σ H x y v u Q I rx ry h
  obtain ⟨a, dx, fs, tb, rfl, ha, ty, hn, q⟩ := h
  cases (show v = Value.ref a from rx)
  obtain ⟨mA, J, _⟩ := ins_get I.hok ha
  obtain ⟨od, J, _⟩ := J.look
  obtain ⟨m, hF⟩ := I.fr
  obtain ⟨P, kt, hP, _⟩ := kit_of I ry ty
  refine PySem.W.cmp_K (op := .Eq) hr.units0 hF I.ok.mod.kin J (kt.ty _ _ I.kIn hP) hn c.eq c.fn ?_
  refine wpAny_mono (run_fn (us := [.ref a, u]) (vs := [.ref a, y]) F hr hb .nil hx I (.cons rfl (.cons ry .nil)) q) (fun w s' z => ?_) fun _ _ x => x
  obtain ⟨z', H', I', rz, b, rfl, qz⟩ := z
  cases (show w = Value.bool b from rz)
  exact ⟨.bl b, H', I', rfl, qz⟩
theorem op_neI (c : EqC X.K C f) (F : FnOk X.prog X.w X.K X.mg X.base CX k f fd ps sp) (hb : Binds X.K fd ps []) (hr : Room (k + 1) X.A) (hx : Passes CX X E) : OpR X (compareOp .NotEq) (rEqI X.K C sp E true) := by
  intro pins s σ H x y v u Q I rx ry h
  obtain ⟨a, dx, fs, tb, rfl, ha, ty, hn, q⟩ := h
  cases (show v = Value.ref a from rx)
  obtain ⟨mA, J, _⟩ := ins_get I.hok ha
  obtain ⟨od, J, _⟩ := J.look
  obtain ⟨m, hF⟩ := I.fr
  obtain ⟨P, kt, hP, _⟩ := kit_of I ry ty
  refine ne_K (Nat.lt_of_le_of_lt (Nat.add_le_add_left (by decide : 1 ≤ 64) _) hr.units) hF I.ok.mod.kin J (kt.ty _ _ I.kIn hP) hn c.ne c.eq c.fn c.mo ?_
  refine wpAny_call (codeAny_mono ((F.raw hb .nil) X.A.in1 X.stack s H [.ref a, u] [.ref a, y] _ E hr.in1 I.env0.in1 (.cons rfl (.cons ry .nil)) q) fun r s' hq => ?_)
  cases r with
  | error e => exact hx pins σ H s e s' I hq
  | ok fl =>
    cases fl with
    | ret w =>
      obtain ⟨z', H', I', rz, b, rfl, qz⟩ := I.after hq
      cases (show w = Value.bool b from rz)
      exact ⟨b, rfl, .bl (!b), H', I', rfl, qz⟩
    | next => exact False.elim hq
    | brk => exact False.elim hq
    | cont => exact False.elim hq
structure TyI (K : PySem.W.Frag) (C : Addr) : Prop where
  ca : PySem.W.findIn K (.ref C) "__class__" = some (some (.builtin "object.__class__"))
  cn : PySem.W.specialIn K (.builtin "object.__class__") "__get__" = some (some (.builtin "getset_descriptor.__get__"))
  ct : PySem.W.takesIn K (.builtin "object.__class__") = some true
  cm : PySem.W.mroIn K C (.type "object") = some true
theorem ty_ins {K : PySem.W.Frag} {C a dx : Addr} {H : Hp} {fs : List (Str × V)} (t : TyI K C) (cl : Cls K C) (e : H a = some (.ins C dx fs)) : TyX K H (.ref a) (.ref C) := .base (.ins e cl t.ca t.cn t.ct t.cm)
theorem first_self {K : PySem.W.Frag} {C : Addr} : PySem.W.notFirst K C (.ref C) = true := by simp [PySem.W.notFirst]
theorem kit_self {K : PySem.W.Frag} {C : Addr} : PySem.W.kitOne K (.ref C) (.ref C) = some true := by simp [PySem.W.kitOne]
theorem un_negI (c : Meth X.K C "__neg__" f) (F : FnOk X.prog X.w X.K X.mg X.base CX k f fd ps sp) (hb : Binds X.K fd ps []) (hr : Room k X.A) (hx : Passes CX X E) :
    UnR X (unaryOp .USub) (fun x H Q => ∃ a dx fs, x = .ref a ∧ H a = some (.ins C dx fs) ∧ sp [x] H Q E) := by
  intro pins s σ H x v Q I rx h
  obtain ⟨a, dx, fs, rfl, ha, q⟩ := h
  cases (show v = Value.ref a from rx)
  obtain ⟨mA, J, _⟩ := ins_get I.hok ha
  obtain ⟨od, J, _⟩ := J.look
  obtain ⟨m, hF⟩ := I.fr
  exact PySem.W.ksp_neg hF I.ok.mod.kin J c.at_ c.fn (run_fn (us := [.ref a]) (vs := [.ref a]) F hr hb .nil hx I (.cons rfl .nil) q)
def MDef (R : Addr → Addr → Prop) (P : Program) (w : World) (K : PySem.W.Frag) (mg : Str → Option Value) (base : Heap) (k : Nat) (ps : List Str) (sp : Sp) : Prop :=
  ∃ p f fd, R p f ∧ Binds K fd ps [] ∧ FnOk P w K mg base CX0 k f fd ps sp
end
section
variable {X : Cx} {K : PySem.W.Frag}
theorem call_isiKK (hK : X.K = K) : CallR X (.builtin "isinstance") (rIsi K) := hK ▸ call_isi
end
section
variable {X : Cx}
theorem pi_or {tg l : Expr} {wa wb : TI} (a : PI X tg l wa) (b : PI X tg l wb) : PI X tg l (fun σ H R => wa σ H R ∨ wb σ H R) := ⟨fun pins s σ H R I h => h.elim (fun z => a.run pins s σ H R I z) (fun z => b.run pins s σ H R I z)⟩
end
abbrev XA (K : PySem.W.Frag) (x : Str) : Addr := He.ga K x
structure Xc (K : PySem.W.Frag) (mg : Str → Option Value) (x : Str) (bm : List Value) (newId : String) : Prop where
  g : mg x = some (.ref (XA K x))
  ex : PySem.W.excIn K (XA K x) bm newId = true
  kp : PySem.W.keepIn K (.ref (XA K x)) = true
  sb : PySem.W.subIn K (.ref (XA K x)) (.type "BaseException") = some true
  ty : PySem.W.typeIn K (.ref (XA K x)) = some (.type "type")
  te : PySem.W.exmOne K (.ref (XA K x)) (.ref (XA K x)) = some true
def DefX (P : Program) (w : World) (K : PySem.W.Frag) (mg : Str → Option Value) (base : Heap) (k : Nat) (x : Str) (ps : List Str) (sp : Sp) : Prop :=
  ∃ f fd, mg x = some (.ref f) ∧ PySem.W.keepIn K (.ref f) = true ∧ Binds K fd ps [] ∧ FnOk P w K mg base (L2.CX P w) k f fd ps sp
end Fr
namespace Hd
open PySem PySem.Spec PyProof.Rows L2 Fr
open He (ga ma eqO eqO_ok ba)
def pa (K : PySem.W.Frag) (C : Addr) (m : Str) : Addr := match PySem.W.recIn K (ma K C m) "property" with
  | some (.ref g :: _) => g
  | _ => 0
def itA (K : PySem.W.Frag) (a : Addr) (i : Nat) : Addr := match K.lookup a with
  | some ⟨_, _, .seq its _, _⟩ => (match its[i]? with
    | some (.ref b) => b
    | _ => 0)
  | _ => 0
structure Dd where
  at_ : PySem.W.Frag → Addr
  name : Str
  qual : Str
  st : Stmt
  dfl : List V := []
def fnA (K : PySem.W.Frag) (a : Addr) : He.FnW := match K.lookup a with
  | some ⟨_, _, .func fd, _⟩ => some (fd.name, fd.qualname, fd.params, fd.body, fd.scope, fd.globals, fd.closure, fd.builtins)
  | _ => none
def Dd.val (d : Dd) : He.FnW := some (d.name, d.qual, defArgs d.st, .stmts (defBody d.st), defScope d.st, mainGlobals, [], builtinsNs)
def Dd.ok (K : PySem.W.Frag) (d : Dd) : Bool := PySem.W.keepIn K (.ref (d.at_ K)) && (match K.lookup (d.at_ K) with
  | some ⟨_, _, .func fd, _⟩ => PySem.W.codeIn K fd.code d.qual && He.dflB K fd.defaults d.dfl
  | _ => false)
theorem Dd.funD {K : PySem.W.Frag} {d : Dd} (e : fnA K (d.at_ K) = d.val) (c : d.ok K = true) : ∃ fd, FunD K d.name d.qual (defArgs d.st) (defBody d.st) (defScope d.st) d.dfl [] (d.at_ K) fd := by
  obtain ⟨kp, c2⟩ := ba c
  unfold fnA at e
  cases hk : K.lookup (d.at_ K) with
  | none => rw [hk] at c2; cases c2
  | some o =>
    obtain ⟨oc, od, dt, osl⟩ := o
    rw [hk] at c2 e
    cases dt with
    | func fd =>
      obtain ⟨n1, n2, n3, n4, n5, n6, n7, n8, n9, n10, n11, n12, n13, n14, n15⟩ := fd
      have e0 : (some (n1, n2, n3, n4, n5, n6, n7, n15) : He.FnW) = some (d.name, d.qual, defArgs d.st, .stmts (defBody d.st), defScope d.st, mainGlobals, [], builtinsNs) := e
      simp only [Option.some.injEq, Prod.mk.injEq] at e0
      obtain ⟨h1, h2, h3, h4, h5, h6, h7, h8⟩ := e0
      subst h1 h2 h3 h4 h5 h6 h7 h8
      obtain ⟨k1, k2⟩ := ba (show (PySem.W.codeIn K n13 d.qual && He.dflB K n8 d.dfl) = true from c2)
      exact ⟨_, ⟨oc, od, n8, n9, n10, n11, n12, n13, n14, osl, rfl, hk, k1, He.dflB_ok k2, .inl rfl⟩, kp⟩
    | _ => cases c2
theorem fun_of {K : PySem.W.Frag} {x q : Str} {st : Stmt} {f : Addr} {fd : FuncData} (F : FunD K x q (defArgs st) (defBody st) (defScope st) [] [] f fd) : Fun K x q st f fd := by
  obtain ⟨⟨oc, od, dV, kV, doc, pm, an, cdv, ct, osl, e1, e2, e3, e4, e5⟩, kp⟩ := F
  rcases e4 with ⟨_, rfl⟩ | ⟨h, _⟩
  · exact ⟨⟨oc, od, kV, doc, pm, an, cdv, ct, osl, e1, e2, e3⟩, kp⟩
  · exact absurd rfl h
def refsP (o : Obj) : List Addr := match o.data with
  | .seq its _ => its.toList.flatMap He.refV
  | .dict es _ => es.toList.flatMap fun e => He.refV e.val
  | .func fd => He.refV fd.code ++ He.refV fd.defaults
  | .cls cd => [cd.ns]
  | .fields vs => (match o.cls with
    | .type c => (match c == "property" with
      | true => vs.toList.flatMap He.refV
      | false => [])
    | _ => [])
  | _ => []
def nxt (g : Addr → Option Obj) (as : List Addr) : List Addr := as.flatMap fun a => match g a with
  | some o => refsP o
  | none => []
def asM (g : Addr → Option Obj) : Nat → List Addr → List Addr
  | 0, as => as
  | n + 1, as => as ++ asM g n (nxt g as)
abbrev Fb : Type := PySem.W.Frag → Bool
abbrev AlM : Type := Bool × List He.FnW
def obsM (fa : List Fb) (fn : List Dd) (K : PySem.W.Frag) : AlM := ((fa.all fun f => f K) && fn.all fun d => d.ok K, fn.map fun d => fnA K (d.at_ K))
def valM (fn : List Dd) : AlM := (true, fn.map Dd.val)
def SaysM (fa : List Fb) (fn : List Dd) (K : PySem.W.Frag) : Prop := obsM fa fn K = valM fn
def obsMG (n : Nat) (fa : List Fb) (fn : List Dd) (g : Addr → Option Obj) : AlM := obsM fa fn (He.frG g (asM g n [mainGlobals]))
def hookM (n : Nat) (fa : List Fb) (fn : List Dd) : PySem.W.Hook where
  α := AlM
  obs := fun s => obsMG n fa fn s.heap.get?
  val := fun _ => valM fn
  says := fun _ h => ∃ K : PySem.W.Frag, K.In h ∧ SaysM fa fn K
  of := fun _ _ e => ⟨_, He.frG_in, e⟩
  keeps := fun _ _ _ ⟨K, hK, c⟩ k => ⟨K, PySem.W.Frag.In.keeps hK k, c⟩
theorem obsMG_eq {n : Nat} {fa : List Fb} {fn : List Dd} {g : Addr → Option Obj} {s : Shared} (h : ∀ a, g a = s.heap.get? a) : obsMG n fa fn g = (hookM n fa fn).obs s := by
  have e : g = s.heap.get? := funext h
  rw [e] <;> rfl
section
variable {fa : List Fb} {fn : List Dd} {K : PySem.W.Frag}
theorem SaysM.fact (c : SaysM fa fn K) (i : Nat) {f : Fb} (h : fa[i]? = some f := by rfl) : f K = true := by
  have c1 : ((fa.all fun f => f K) && fn.all fun d => d.ok K) = true := congrArg (fun z : AlM => z.1) c
  exact List.all_eq_true.mp (ba c1).1 f (List.mem_of_getElem? h)
theorem SaysM.def_ (c : SaysM fa fn K) (i : Nat) {d : Dd} (h : fn[i]? = some d := by rfl) : ∃ fd, FunD K d.name d.qual (defArgs d.st) (defBody d.st) (defScope d.st) d.dfl [] (d.at_ K) fd := by
  have c1 : ((fa.all fun f => f K) && fn.all fun d => d.ok K) = true := congrArg (fun z : AlM => z.1) c
  have c2 : fn.map (fun d => fnA K (d.at_ K)) = fn.map Dd.val := congrArg (fun z : AlM => z.2) c
  have c3 : (fn.map fun d => fnA K (d.at_ K))[i]? = (fn.map Dd.val)[i]? := by rw [c2]
  rw [List.getElem?_map, List.getElem?_map, h] at c3
  exact Dd.funD (Option.some.inj c3) (List.all_eq_true.mp (ba c1).2 d (List.mem_of_getElem? h))
end
def decO (a b : Option Bool) : Bool := decide (a = b)
theorem decO_ok {a b : Option Bool} (h : decO a b = true) : a = b := of_decide_eq_true h
def bltB (x : Str) (id : String) : Fb := fun K => eqO (PySem.W.nsIn K mainGlobals x) (some (some (.builtin id)))
theorem blt_ok {K : PySem.W.Frag} {h : Heap} {mg : Str → Option Value} (X : K.In h) (G : h.Ns mainGlobals mg) {x : Str} {id : String} (c : bltB x id K = true) : mg x = some (.builtin id) := PySem.W.mg_of X G (eqO_ok c)
def tyB (C : Str) : Fb := fun K => eqO (PySem.W.findIn K (.ref (ga K C)) "__class__") (some (some (.builtin "object.__class__"))) && (eqO (PySem.W.specialIn K (.builtin "object.__class__") "__get__") (some (some (.builtin "getset_descriptor.__get__"))) && (decO (PySem.W.takesIn K (.builtin "object.__class__")) (some true) && decO (PySem.W.mroIn K (ga K C) (.type "object")) (some true)))
theorem ty_ok {K : PySem.W.Frag} {C : Str} (c : tyB C K = true) : TyI K (ga K C) := by
  obtain ⟨c1, c⟩ := ba c
  obtain ⟨c2, c⟩ := ba c
  obtain ⟨c3, c4⟩ := ba c
  exact ⟨eqO_ok c1, eqO_ok c2, decO_ok c3, decO_ok c4⟩
def propB (C m : Str) : Fb := fun K => eqO (PySem.W.findIn K (.ref (ga K C)) m) (some (some (.ref (ma K (ga K C) m)))) && (eqO (PySem.W.specialIn K (.ref (ma K (ga K C) m)) "__get__") (some (some (.builtin "property.__get__"))) && (decO (PySem.W.takesIn K (.ref (ma K (ga K C) m))) (some true) && (match PySem.W.recIn K (ma K (ga K C) m) "property" with
  | some (.ref _ :: _) => true
  | _ => false)))
theorem prop_ok {K : PySem.W.Frag} {C m : Str} (c : propB C m K = true) : PropOf K (ga K C) m (ma K (ga K C) m) (pa K (ga K C) m) := by
  obtain ⟨c1, c⟩ := ba c
  obtain ⟨c2, c⟩ := ba c
  obtain ⟨c3, c4⟩ := ba c
  refine ⟨eqO_ok c1, eqO_ok c2, decO_ok c3, ?_⟩
  unfold pa
  cases hr : PySem.W.recIn K (ma K (ga K C) m) "property" with
  | none => rw [hr] at c4; cases c4
  | some l =>
    rw [hr] at c4
    cases l with
    | nil => cases c4
    | cons v rest =>
      cases v with
      | ref g => exact ⟨rest, rfl⟩
      | _ => cases c4
def eqB (C : Str) : Fb := fun K => eqO (PySem.W.findIn K (.ref (ga K C)) "__eq__") (some (some (.ref (ma K (ga K C) "__eq__")))) && (PySem.W.isFn K (.ref (ma K (ga K C) "__eq__")) && (eqO (PySem.W.findIn K (.ref (ga K C)) "__ne__") (some (some (.builtin "object.__ne__"))) && decO (PySem.W.mroIn K (ga K C) (.type "object")) (some true)))
theorem eq_ok {K : PySem.W.Frag} {C : Str} (c : eqB C K = true) : EqC K (ga K C) (ma K (ga K C) "__eq__") := by
  obtain ⟨c1, c⟩ := ba c
  obtain ⟨c2, c⟩ := ba c
  obtain ⟨c3, c4⟩ := ba c
  exact ⟨eqO_ok c1, c2, eqO_ok c3, decO_ok c4⟩
def callB (C : Str) : Fb := fun K => eqO (PySem.W.findIn K (.ref (ga K C)) "__call__") (some (some (.ref (ma K (ga K C) "__call__")))) && (PySem.W.isFn K (.ref (ma K (ga K C) "__call__")) && PySem.W.fnIn K (ma K (ga K C) "__call__"))
theorem call_ok {K : PySem.W.Frag} {C : Str} (c : callB C K = true) : StX.CallO K (ga K C) (ma K (ga K C) "__call__") := by
  obtain ⟨c1, c⟩ := ba c
  obtain ⟨c2, c3⟩ := ba c
  exact ⟨eqO_ok c1, c2, c3⟩
def binB (C m : Str) : Fb := fun K => eqO (PySem.W.findIn K (.ref (ga K C)) m) (some (some (.ref (ma K (ga K C) m)))) && (PySem.W.isFn K (.ref (ma K (ga K C) m)) && PySem.W.selfFirst K (ga K C))
theorem bin_ok {K : PySem.W.Frag} {C m : Str} (c : binB C m K = true) : PySem.W.findIn K (.ref (ga K C)) m = some (some (.ref (ma K (ga K C) m))) ∧ PySem.W.isFn K (.ref (ma K (ga K C) m)) = true ∧ PySem.W.selfFirst K (ga K C) = true := by
  obtain ⟨c1, c⟩ := ba c
  obtain ⟨c2, c3⟩ := ba c
  exact ⟨eqO_ok c1, c2, c3⟩
def intsB (a : PySem.W.Frag → Addr) (ns : List Int) : Fb := fun K => match K.lookup (a K) with
  | some ⟨.type c, _, .seq its _, _⟩ => decide (c = "tuple") && (decide (its.size ≤ sizeLine) && He.relAll (ns.map V.int) its.toList)
  | _ => false
theorem ints_ok {K : PySem.W.Frag} {a : PySem.W.Frag → Addr} {ns : List Int} (c : intsB a ns K = true) (H : Hp) : SqT K H (a K) (ns.map V.int) := by
  unfold intsB at c
  cases hk : K.lookup (a K) with
  | none => rw [hk] at c; cases c
  | some o =>
    obtain ⟨oc, od, dt, sl⟩ := o
    rw [hk] at c
    cases oc with
    | type t =>
      cases dt with
      | seq its m =>
        obtain ⟨c1, c⟩ := ba c
        obtain ⟨c2, c3⟩ := ba c
        exact .inr ⟨_, its, m, hk, congrArg Value.type (of_decide_eq_true c1), rfl, of_decide_eq_true c2, He.relAll_ok c3⟩
      | _ => cases c
    | _ => cases dt <;> cases c
def refsB (a : PySem.W.Frag → Addr) (n : Nat) : Fb := fun K => match K.lookup (a K) with
  | some ⟨.type c, _, .seq its _, _⟩ => decide (c = "tuple") && (decide (its.size ≤ sizeLine) && He.relAll ((List.range n).map fun i => V.ref (itA K (a K) i)) its.toList)
  | _ => false
theorem refs_ok {K : PySem.W.Frag} {a : PySem.W.Frag → Addr} {n : Nat} (c : refsB a n K = true) (H : Hp) : SqT K H (a K) ((List.range n).map fun i => V.ref (itA K (a K) i)) := by
  unfold refsB at c
  generalize hl : (List.range n).map (fun i => V.ref (itA K (a K) i)) = l at c ⊢
  cases hk : K.lookup (a K) with
  | none => rw [hk] at c; cases c
  | some o =>
    obtain ⟨oc, od, dt, sl⟩ := o
    rw [hk] at c
    cases oc with
    | type t =>
      cases dt with
      | seq its m =>
        obtain ⟨c1, c⟩ := ba c
        obtain ⟨c2, c3⟩ := ba c
        exact .inr ⟨_, its, m, hk, congrArg Value.type (of_decide_eq_true c1), rfl, of_decide_eq_true c2, He.relAll_ok c3⟩
      | _ => cases c
    | _ => cases dt <;> cases c
def foreB (C : Str) (t : String) : Fb := fun K => decO (PySem.W.kitOne K (.type t) (.ref (ga K C))) (some false) && PySem.W.notFirst K (ga K C) (.type t)
theorem fore_ok {K : PySem.W.Frag} {C : Str} {t : String} (c : foreB C t K = true) : PySem.W.kitOne K (.type t) (.ref (ga K C)) = some false ∧ PySem.W.notFirst K (ga K C) (.type t) = true := by
  obtain ⟨c1, c2⟩ := ba c
  exact ⟨decO_ok c1, c2⟩
def foreCB (C D : Str) : Fb := fun K => decO (PySem.W.kitOne K (.ref (ga K D)) (.ref (ga K C))) (some false) && PySem.W.notFirst K (ga K C) (.ref (ga K D))
theorem foreC_ok {K : PySem.W.Frag} {C D : Str} (c : foreCB C D K = true) : PySem.W.kitOne K (.ref (ga K D)) (.ref (ga K C)) = some false ∧ PySem.W.notFirst K (ga K C) (.ref (ga K D)) = true := by
  obtain ⟨c1, c2⟩ := ba c
  exact ⟨decO_ok c1, c2⟩
def fmtB (C : Str) : Fb := fun K => eqO (PySem.W.findIn K (.ref (ga K C)) "__format__") (some (some (.builtin "object.__format__"))) && decO (PySem.W.mroIn K (ga K C) (.type "object")) (some true)
theorem fmt_ok {K : PySem.W.Frag} {C : Str} (c : fmtB C K = true) : PySem.W.findIn K (.ref (ga K C)) "__format__" = some (some (.builtin "object.__format__")) ∧ PySem.W.mroIn K (ga K C) (.type "object") = some true := by
  obtain ⟨c1, c2⟩ := ba c
  exact ⟨eqO_ok c1, decO_ok c2⟩
def xcB (x : Str) (bm : List Value) (newId : String) : Fb := fun K => He.Fa.ok K (.glo x) && (PySem.W.excIn K (ga K x) bm newId && (PySem.W.keepIn K (.ref (ga K x)) && (decO (PySem.W.subIn K (.ref (ga K x)) (.type "BaseException")) (some true) && (decide (PySem.W.typeIn K (.ref (ga K x)) = some (.type "type")) && decO (PySem.W.exmOne K (.ref (ga K x)) (.ref (ga K x))) (some true)))))
theorem xc_ok {K : PySem.W.Frag} {h : Heap} {mg : Str → Option Value} (X : K.In h) (G : h.Ns mainGlobals mg) {x : Str} {bm : List Value} {newId : String} (c : xcB x bm newId K = true) : Xc K mg x bm newId := by
  obtain ⟨c1, c⟩ := ba c
  obtain ⟨c2, c⟩ := ba c
  obtain ⟨c3, c⟩ := ba c
  obtain ⟨c4, c⟩ := ba c
  obtain ⟨c5, c6⟩ := ba c
  exact ⟨He.glo_ok X G c1, c2, c3, decO_ok c4, of_decide_eq_true c5, decO_ok c6⟩
end Hd
namespace K52
open PySem PySem.Spec PyProof.Rows L2
def topS (i : Nat) : Stmt := PySem.Challenge.pw_formrings_k52_whole_kinds_by_roots_and_r.main.body.getD i (.Pass ⟨0, 0, 0, 0⟩)
abbrev s_is_any_integer : Stmt := topS 13
abbrev s_is_short_integer : Stmt := topS 14
abbrev s_is_between : Stmt := topS 15
abbrev s_are_short_integers : Stmt := topS 16
abbrev s_check_integer : Stmt := topS 18
abbrev s_check_between : Stmt := topS 19
abbrev s_power_at : Stmt := topS 21
abbrev s_shared_divisor : Stmt := topS 35
abbrev s_is_prime : Stmt := topS 36
abbrev s_check_prime : Stmt := topS 37
abbrev s_form_value : Stmt := topS 55
abbrev s_form_discriminant : Stmt := topS 56
abbrev s_form_hessian : Stmt := topS 57
abbrev s_check_form : Stmt := topS 59
abbrev s_form_of : Stmt := topS 60
abbrev s_Form___init__ : Stmt := inClass (topS 61) 0
abbrev s_Form_coefficients : Stmt := inClass (topS 61) 2
abbrev s_Form___call__ : Stmt := inClass (topS 61) 7
abbrev s_Form___eq__ : Stmt := inClass (topS 61) 17
abbrev s_places_of_roots : Stmt := topS 65
abbrev s_value_at : Stmt := topS 67
abbrev s_less_root : Stmt := topS 68
abbrev s_times_at_end : Stmt := topS 69
abbrev s_root_times : Stmt := topS 70
abbrev s_kind_by_roots : Stmt := topS 71
abbrev s_kind_of : Stmt := topS 72
abbrev s_check_both : Stmt := topS 75
abbrev s_kind_at : Stmt := topS 76
abbrev s_kinds_to : Stmt := topS 77
abbrev s_l_crock : Stmt := topS 79
abbrev s_l_scoop : Stmt := topS 80
abbrev s_l_choose : Stmt := topS 81
abbrev s_l_lines : Stmt := topS 82
abbrev s_l_led : Stmt := topS 83
abbrev s_l_discriminant : Stmt := topS 84
abbrev s_l_at : Stmt := topS 85
abbrev s_l_change : Stmt := topS 86
abbrev s_l_kind : Stmt := topS 87
abbrev s_l_counts : Stmt := topS 88
abbrev s_l_drawn : Stmt := topS 89
abbrev s_l_right : Stmt := topS 90
abbrev s_law : Stmt := topS 91
end K52
namespace K52
open PySem PySem.Spec PyProof.Rows L2 Fr
def e0 : Hd.Dd := ⟨fun K => He.ga K "is_any_integer", "is_any_integer", "is_any_integer", s_is_any_integer, []⟩
def e1 : Hd.Dd := ⟨fun K => He.ga K "is_short_integer", "is_short_integer", "is_short_integer", s_is_short_integer, []⟩
def e2 : Hd.Dd := ⟨fun K => He.ga K "is_between", "is_between", "is_between", s_is_between, []⟩
def e3 : Hd.Dd := ⟨fun K => He.ga K "are_short_integers", "are_short_integers", "are_short_integers", s_are_short_integers, []⟩
def e4 : Hd.Dd := ⟨fun K => He.ga K "check_integer", "check_integer", "check_integer", s_check_integer, []⟩
def e5 : Hd.Dd := ⟨fun K => He.ga K "check_between", "check_between", "check_between", s_check_between, []⟩
def e6 : Hd.Dd := ⟨fun K => He.ga K "power_at", "power_at", "power_at", s_power_at, []⟩
def e7 : Hd.Dd := ⟨fun K => He.ga K "shared_divisor", "shared_divisor", "shared_divisor", s_shared_divisor, []⟩
def e8 : Hd.Dd := ⟨fun K => He.ga K "is_prime", "is_prime", "is_prime", s_is_prime, []⟩
def e9 : Hd.Dd := ⟨fun K => He.ga K "check_prime", "check_prime", "check_prime", s_check_prime, []⟩
def e10 : Hd.Dd := ⟨fun K => He.ga K "form_value", "form_value", "form_value", s_form_value, []⟩
def e11 : Hd.Dd := ⟨fun K => He.ga K "form_discriminant", "form_discriminant", "form_discriminant", s_form_discriminant, []⟩
def e12 : Hd.Dd := ⟨fun K => He.ga K "form_hessian", "form_hessian", "form_hessian", s_form_hessian, []⟩
def e13 : Hd.Dd := ⟨fun K => He.ga K "check_form", "check_form", "check_form", s_check_form, []⟩
def e14 : Hd.Dd := ⟨fun K => He.ga K "form_of", "form_of", "form_of", s_form_of, []⟩
def e15 : Hd.Dd := ⟨fun K => He.ma K (He.ga K "Form") "__init__", "__init__", "Form.__init__", s_Form___init__, []⟩
def e16 : Hd.Dd := ⟨fun K => Hd.pa K (He.ga K "Form") "coefficients", "coefficients", "Form.coefficients", s_Form_coefficients, []⟩
def e17 : Hd.Dd := ⟨fun K => He.ma K (He.ga K "Form") "__call__", "__call__", "Form.__call__", s_Form___call__, []⟩
def e18 : Hd.Dd := ⟨fun K => He.ma K (He.ga K "Form") "__eq__", "__eq__", "Form.__eq__", s_Form___eq__, []⟩
def e19 : Hd.Dd := ⟨fun K => He.ga K "places_of_roots", "places_of_roots", "places_of_roots", s_places_of_roots, []⟩
def e20 : Hd.Dd := ⟨fun K => He.ga K "value_at", "value_at", "value_at", s_value_at, []⟩
def e21 : Hd.Dd := ⟨fun K => He.ga K "less_root", "less_root", "less_root", s_less_root, []⟩
def e22 : Hd.Dd := ⟨fun K => He.ga K "times_at_end", "times_at_end", "times_at_end", s_times_at_end, []⟩
def e23 : Hd.Dd := ⟨fun K => He.ga K "root_times", "root_times", "root_times", s_root_times, []⟩
def e24 : Hd.Dd := ⟨fun K => He.ga K "kind_by_roots", "kind_by_roots", "kind_by_roots", s_kind_by_roots, []⟩
def e25 : Hd.Dd := ⟨fun K => He.ga K "kind_of", "kind_of", "kind_of", s_kind_of, []⟩
def e26 : Hd.Dd := ⟨fun K => He.ga K "check_both", "check_both", "check_both", s_check_both, []⟩
def e27 : Hd.Dd := ⟨fun K => He.ga K "kind_at", "kind_at", "kind_at", s_kind_at, []⟩
def e28 : Hd.Dd := ⟨fun K => He.ga K "kinds_to", "kinds_to", "kinds_to", s_kinds_to, []⟩
def e29 : Hd.Dd := ⟨fun K => He.ga K "_law_crock", "_law_crock", "_law_crock", s_l_crock, []⟩
def e30 : Hd.Dd := ⟨fun K => He.ga K "_law_scoop", "_law_scoop", "_law_scoop", s_l_scoop, []⟩
def e31 : Hd.Dd := ⟨fun K => He.ga K "_law_choose", "_law_choose", "_law_choose", s_l_choose, []⟩
def e32 : Hd.Dd := ⟨fun K => He.ga K "_law_lines", "_law_lines", "_law_lines", s_l_lines, []⟩
def e33 : Hd.Dd := ⟨fun K => He.ga K "_law_led", "_law_led", "_law_led", s_l_led, []⟩
def e34 : Hd.Dd := ⟨fun K => He.ga K "_law_discriminant", "_law_discriminant", "_law_discriminant", s_l_discriminant, []⟩
def e35 : Hd.Dd := ⟨fun K => He.ga K "_law_at", "_law_at", "_law_at", s_l_at, []⟩
def e36 : Hd.Dd := ⟨fun K => He.ga K "_law_change", "_law_change", "_law_change", s_l_change, []⟩
def e37 : Hd.Dd := ⟨fun K => He.ga K "_law_kind", "_law_kind", "_law_kind", s_l_kind, []⟩
def e38 : Hd.Dd := ⟨fun K => He.ga K "_law_counts", "_law_counts", "_law_counts", s_l_counts, []⟩
def e39 : Hd.Dd := ⟨fun K => He.ga K "_law_drawn", "_law_drawn", "_law_drawn", s_l_drawn, []⟩
def e40 : Hd.Dd := ⟨fun K => He.ga K "_law_right", "_law_right", "_law_right", s_l_right, []⟩
def e41 : Hd.Dd := ⟨fun K => He.ga K "law", "law", "law", s_law, []⟩
def dd0 : List Hd.Dd := [e0, e1, e2, e3, e4, e5, e6, e7, e8, e9, e10, e11, e12, e13, e14, e15, e16, e17, e18, e19]
def dd1 : List Hd.Dd := [e20, e21, e22, e23, e24, e25, e26, e27, e28, e29, e30, e31, e32, e33, e34, e35, e36, e37, e38, e39]
def dd2 : List Hd.Dd := [e40, e41]
def dd : List Hd.Dd := dd0 ++ (dd1 ++ (dd2))
def g0 : Hd.Fb := fun K => (fun K => (He.Fa.glo "Form").ok K) K
def g1 : Hd.Fb := fun K => (fun K => (He.Fa.cls "Form").ok K) K
def g2 : Hd.Fb := fun K => Hd.tyB "Form" K
def g3 : Hd.Fb := fun K => (fun K => (He.Fa.noat "Form" "_coefficients").ok K) K
def g4 : Hd.Fb := fun K => (fun K => (He.Fa.glo "is_any_integer").ok K) K
def g5 : Hd.Fb := fun K => (fun K => (He.Fa.glo "is_short_integer").ok K) K
def g6 : Hd.Fb := fun K => (fun K => (He.Fa.glo "is_between").ok K) K
def g7 : Hd.Fb := fun K => (fun K => (He.Fa.glo "are_short_integers").ok K) K
def g8 : Hd.Fb := fun K => (fun K => (He.Fa.glo "check_integer").ok K) K
def g9 : Hd.Fb := fun K => (fun K => (He.Fa.glo "check_between").ok K) K
def g10 : Hd.Fb := fun K => (fun K => (He.Fa.glo "power_at").ok K) K
def g11 : Hd.Fb := fun K => (fun K => (He.Fa.glo "shared_divisor").ok K) K
def g12 : Hd.Fb := fun K => (fun K => (He.Fa.glo "is_prime").ok K) K
def g13 : Hd.Fb := fun K => (fun K => (He.Fa.glo "check_prime").ok K) K
def g14 : Hd.Fb := fun K => (fun K => (He.Fa.glo "form_value").ok K) K
def g15 : Hd.Fb := fun K => (fun K => (He.Fa.glo "form_discriminant").ok K) K
def g16 : Hd.Fb := fun K => (fun K => (He.Fa.glo "form_hessian").ok K) K
def g17 : Hd.Fb := fun K => (fun K => (He.Fa.glo "check_form").ok K) K
def g18 : Hd.Fb := fun K => (fun K => (He.Fa.glo "form_of").ok K) K
def g19 : Hd.Fb := fun K => (fun K => (He.Fa.mkr "Form").ok K) K
def g20 : Hd.Fb := fun K => Hd.propB "Form" "coefficients" K
def g21 : Hd.Fb := fun K => Hd.callB "Form" K
def g22 : Hd.Fb := fun K => Hd.eqB "Form" K
def g23 : Hd.Fb := fun K => (fun K => (He.Fa.glo "places_of_roots").ok K) K
def g24 : Hd.Fb := fun K => (fun K => (He.Fa.glo "value_at").ok K) K
def g25 : Hd.Fb := fun K => (fun K => (He.Fa.glo "less_root").ok K) K
def g26 : Hd.Fb := fun K => (fun K => (He.Fa.glo "times_at_end").ok K) K
def g27 : Hd.Fb := fun K => (fun K => (He.Fa.glo "root_times").ok K) K
def g28 : Hd.Fb := fun K => (fun K => (He.Fa.glo "kind_by_roots").ok K) K
def g29 : Hd.Fb := fun K => (fun K => (He.Fa.glo "kind_of").ok K) K
def g30 : Hd.Fb := fun K => (fun K => (He.Fa.glo "check_both").ok K) K
def g31 : Hd.Fb := fun K => (fun K => (He.Fa.glo "kind_at").ok K) K
def g32 : Hd.Fb := fun K => (fun K => (He.Fa.glo "kinds_to").ok K) K
def g33 : Hd.Fb := fun K => (fun K => (He.Fa.glo "_law_crock").ok K) K
def g34 : Hd.Fb := fun K => (fun K => (He.Fa.glo "_law_scoop").ok K) K
def g35 : Hd.Fb := fun K => (fun K => (He.Fa.glo "_law_choose").ok K) K
def g36 : Hd.Fb := fun K => (fun K => (He.Fa.glo "_law_lines").ok K) K
def g37 : Hd.Fb := fun K => (fun K => (He.Fa.glo "_law_led").ok K) K
def g38 : Hd.Fb := fun K => (fun K => (He.Fa.glo "_law_discriminant").ok K) K
def g39 : Hd.Fb := fun K => (fun K => (He.Fa.glo "_law_at").ok K) K
def g40 : Hd.Fb := fun K => (fun K => (He.Fa.glo "_law_change").ok K) K
def g41 : Hd.Fb := fun K => (fun K => (He.Fa.glo "_law_kind").ok K) K
def g42 : Hd.Fb := fun K => (fun K => (He.Fa.glo "_law_counts").ok K) K
def g43 : Hd.Fb := fun K => (fun K => (He.Fa.glo "_law_drawn").ok K) K
def g44 : Hd.Fb := fun K => (fun K => (He.Fa.glo "_law_right").ok K) K
def g45 : Hd.Fb := fun K => (fun K => (He.Fa.glo "law").ok K) K
def g46 : Hd.Fb := fun K => (fun K => (He.Fa.free "abs").ok K) K
def g47 : Hd.Fb := fun K => (fun K => (He.Fa.free "all").ok K) K
def g48 : Hd.Fb := fun K => (fun K => (He.Fa.free "any").ok K) K
def g49 : Hd.Fb := fun K => (fun K => (He.Fa.free "bool").ok K) K
def g50 : Hd.Fb := fun K => (fun K => (He.Fa.free "dict").ok K) K
def g51 : Hd.Fb := fun K => (fun K => (He.Fa.free "enumerate").ok K) K
def g52 : Hd.Fb := fun K => (fun K => (He.Fa.free "int").ok K) K
def g53 : Hd.Fb := fun K => (fun K => (He.Fa.free "isinstance").ok K) K
def g54 : Hd.Fb := fun K => (fun K => (He.Fa.free "len").ok K) K
def g55 : Hd.Fb := fun K => (fun K => (He.Fa.free "list").ok K) K
def g56 : Hd.Fb := fun K => (fun K => (He.Fa.free "max").ok K) K
def g57 : Hd.Fb := fun K => (fun K => (He.Fa.free "min").ok K) K
def g58 : Hd.Fb := fun K => (fun K => (He.Fa.free "range").ok K) K
def g59 : Hd.Fb := fun K => (fun K => (He.Fa.free "sorted").ok K) K
def g60 : Hd.Fb := fun K => (fun K => (He.Fa.free "sum").ok K) K
def g61 : Hd.Fb := fun K => (fun K => (He.Fa.free "tuple").ok K) K
def g62 : Hd.Fb := fun K => (fun K => (He.Fa.free "zip").ok K) K
def g63 : Hd.Fb := fun K => (fun K => (He.Fa.int "GREAT" (1000)).ok K) K
def g64 : Hd.Fb := fun K => (fun K => (He.Fa.int "GREATEST_PRIME" (10000)).ok K) K
def g65 : Hd.Fb := fun K => (fun K => (He.Fa.int "LIMIT" (1000000000000000000000000000000000000000000000000000000000000)).ok K) K
def g66 : Hd.Fb := fun K => (fun K => (He.Fa.int "MAX_KINDS" (1000)).ok K) K
def g67 : Hd.Fb := fun K => (fun K => (He.Fa.int "MAX_PRIME" (1000000)).ok K) K
def g68 : Hd.Fb := fun K => Hd.bltB "gcd" "math.gcd" K
def g69 : Hd.Fb := fun K => Hd.bltB "isqrt" "math.isqrt" K
def g70 : Hd.Fb := fun K => (fun K => (He.Fa.glo "END").ok K) K
def g71 : Hd.Fb := fun K => Hd.intsB (fun K => He.ga K "END") [1, 0] K
def fa0 : List Hd.Fb := [g0, g1, g2, g3, g4, g5, g6, g7, g8, g9, g10, g11, g12, g13, g14, g15, g16, g17, g18, g19]
def fa1 : List Hd.Fb := [g20, g21, g22, g23, g24, g25, g26, g27, g28, g29, g30, g31, g32, g33, g34, g35, g36, g37, g38, g39]
def fa2 : List Hd.Fb := [g40, g41, g42, g43, g44, g45, g46, g47, g48, g49, g50, g51, g52, g53, g54, g55, g56, g57, g58, g59]
def fa3 : List Hd.Fb := [g60, g61, g62, g63, g64, g65, g66, g67, g68, g69, g70, g71]
def fa : List Hd.Fb := fa0 ++ (fa1 ++ (fa2 ++ (fa3)))
def names0 : List Str := ["_wall", "__name__", "RingError", "InvalidForm", "InvalidDouble", "InvalidOperation", "ParseError", "InvalidNumber", "Refused", "DIGITS", "LIMIT", "is_any_integer", "is_short_integer", "is_between", "are_short_integers", "is_written_integer", "check_integer", "check_between", "power_at", "inverse_at", "first_one", "rest_by", "quotient_by", "product_by_rest", "power_by_rest", "shared_by", "less_number", "split_roots", "roots_of", "MAX_PRIME"]
def names1 : List Str := ["GREATEST_PRIME", "shared_divisor", "is_prime", "check_prime", "double_value", "double_discriminant", "double_of", "Double", "plain_root", "double_roots", "cubic_value", "cubic_span", "cubic_parts", "reached", "cubic_root", "some_root", "rest_of", "form_roots", "form_value", "form_discriminant", "form_hessian", "is_root_of", "check_form", "form_of", "Form", "END", "GREAT", "places_of_roots", "value_at", "less_root"]
def names2 : List Str := ["times_at_end", "root_times", "kind_by_roots", "kind_of", "MAX_KINDS", "check_both", "kind_at", "kinds_to", "_law_crock", "_law_scoop", "_law_choose", "_law_lines", "_law_led", "_law_discriminant", "_law_at", "_law_change", "_law_kind", "_law_counts", "_law_drawn", "_law_right"]
def names : List Str := names0 ++ (names1 ++ (names2))
abbrev RR : PySem.W.OpenRow := PySem.W.OpenLaw.row PySem.Challenge.rw_formrings_k52_whole_kinds_by_roots_and_r
abbrev vw : Program := PySem.W.view RR.prog [0, 91]
abbrev hk : PySem.W.Hook := Hd.hookM 5 fa dd
def ob (s : PySem.W.SharedT) : Hd.AlM := Hd.obsMG 5 fa dd (HandSHeadRun.getT s)
theorem ob_eq (s : PySem.W.SharedT) : ob s = hk.obs s.abs := Hd.obsMG_eq (HandSHeadRun.getT_eq s)
theorem run (w : World) : HandSHeadRun.RunEqI RR vw hk ob 12000 names w := by
  unfold HandSHeadRun.RunEqI
  kernel_rfl
end K52
set_option Elab.async false
set_option linter.all false
set_option maxRecDepth 100000
namespace Fr
open PySem PySem.Spec PyProof.Rows L2
section
variable {X : Cx} {CX : CXT} {C f : Addr} {fd : FuncData} {ps : List Str} {k : Nat} {sp : Sp} {E : XK}
structure BinC (K : PySem.W.Frag) (C : Addr) (m : Str) (f : Addr) : Prop where
  at_ : PySem.W.findIn K (.ref C) m = some (some (.ref f))
  fn : PySem.W.isFn K (.ref f) = true
  sf : PySem.W.selfFirst K C = true
def rBinI (C : Addr) (sp : Sp) (E : XK) : R2 := fun x y H Q => ∃ a b dx dy fx fy, x = .ref a ∧ y = .ref b ∧ H a = some (.ins C dx fx) ∧ H b = some (.ins C dy fy) ∧ sp [x, y] H (fun v H' => (∃ r, v = .ref r) ∧ Q v H') E
theorem op_binI {op : Operator} (c : BinC X.K C (PySem.dunder op.info.2) f) (F : FnOk X.prog X.w X.K X.mg X.base CX k f fd ps sp) (hb : Binds X.K fd ps []) (hr : Room k X.A) (hx : Passes CX X E) : OpR X (binaryOp op) (rBinI C sp E) := by
  intro pins s σ H x y v u Q I rx ry h
  obtain ⟨a, b, dx, dy, fx, fy, rfl, rfl, ha, hbb, q⟩ := h
  cases (show v = Value.ref a from rx)
  cases (show u = Value.ref b from ry)
  obtain ⟨mA, J, _⟩ := ins_get I.hok ha
  obtain ⟨od, J, _⟩ := J.look
  obtain ⟨mB, J2, _⟩ := ins_get I.hok hbb
  obtain ⟨od2, J2, _⟩ := J2.look
  obtain ⟨m, hF⟩ := I.fr
  refine PySem.W.binop_K hF I.ok.mod.kin J J2.type c.sf c.at_ c.fn ?_
  refine wpAny_mono (run_fn (us := [.ref a, .ref b]) (vs := [.ref a, .ref b]) F hr hb .nil hx I (.cons rfl (.cons rfl .nil)) q) (fun w s' z => ?_) fun _ _ x => x
  obtain ⟨z', H', I', rz, ⟨r, rfl⟩, qz⟩ := z
  cases (show w = Value.ref r from rz)
  exact ⟨.ref r, H', I', rfl, qz⟩
def MDefD (R : Addr → Addr → Prop) (P : Program) (w : World) (K : PySem.W.Frag) (mg : Str → Option Value) (base : Heap) (k : Nat) (ps : List Str) (dvs : List V) (sp : Sp) : Prop :=
  ∃ p f fd ds, R p f ∧ Binds K fd ps [] ∧ Vals dvs ds ∧ Binds K fd ps ds ∧ FnOk P w K mg base CX0 k f fd ps sp
variable {K : PySem.W.Frag}
theorem pi_tupK (hK : X.K = K) {tg l : Expr} {tl : TE} (hl : PE X l tl) : PI X tg l (iTup K tl) := hK ▸ pi_tup hl
theorem pi_listK (hK : X.K = K) {tg l : Expr} {tl : TE} (hl : PE X l tl) : PI X tg l (iList K tl) := hK ▸ pi_list hl
theorem ix_tupK (hK : X.K = K) : IxR X (rIxT K) := hK ▸ ix_tup
theorem ix_listK (hK : X.K = K) : IxR X (rIxL K) := hK ▸ ix_list
def rTupOf (K : PySem.W.Frag) : List V → Hp → VK → Prop := fun xs H Q => ∃ p ys, xs = [.ref p] ∧ ((SqL K H p ys ∧ ∀ l, H l = none → Q (.ref l) (upd H l (.tup ys))) ∨ (SqT K H p ys ∧ Q (.ref p) H))
theorem call_tuple_ofK (hK : X.K = K) : CallR X (.type "tuple") (rTupOf K) := hK ▸ call_tuple_of
theorem cr_sumK (hK : X.K = K) (hc : X.calm = true) : CallR X (.builtin "sum") (rSum K) := hK ▸ cr_sum hc
theorem cr_allK (hK : X.K = K) (hc : X.calm = true) : CallR X (.builtin "all") (rAll K) := hK ▸ cr_all hc
end
end Fr
set_option Elab.async false
set_option linter.all false
set_option maxRecDepth 100000
namespace Fr
open PySem PySem.Spec PyProof.Rows L2
set_option maxHeartbeats 1000000 in
theorem meets_en1 {v : Value} {o : Obj} {H : Heap → Prop} (B : Begins v o H) :
    Meets (Builtin.«enumerate.__new__» ⟨[.type "enumerate", v], []⟩) (fun _ R s => H s.heap ∧
      R (.ok (.ret (.ref (s.heap.push o).objs.size))) { s with heap := (s.heap.push o).push { cls := .type "enumerate", data := .fields #[.none, .bool false, .ref s.heap.objs.size, rawInt 0, .none, .none] } }) :=
  .of_wp fun prog w A R s h => by
    obtain ⟨hp, g, d, tk, os⟩ := s; obtain ⟨h1, h⟩ := h
    have hsub := sub_enumerate
    have q1 : ∀ {A' : Around} {E : Value → Shared → Prop} {Q : Value → Shared → Prop}, Q (.ref hp.objs.size) ⟨hp.push o, g, d, tk, os⟩ → wpAny (model prog w) A' (pyIter v) Q E ⟨hp, g, d, tk, os⟩ :=
      fun q => B.iter prog w _ _ ⟨hp, g, d, tk, os⟩ _ h1 q
    wp_walk using q1
    refine wpAny_stack_any fun st => wpAny_pure ?_
    split
    · rename_i c _ _ _ _ _
      cases (c == Value.type "enumerate")
      · wp_walk using q1
        exact ⟨_, rfl, h⟩
      · wp_walk using q1
        exact ⟨_, rfl, h⟩
    · wp_walk using q1
      exact ⟨_, rfl, h⟩
theorem call_en1 {prog : Program} {w : World} {A : Around} {E : Value → Shared → Prop} {s : Shared} {v : Value} {o : Obj} {H : Heap → Prop} {Q : Value → Shared → Prop} (B : Begins v o H) (h1 : H s.heap)
    (h : ∀ h', IsEnum h' (s.heap.objs.size + 1) s.heap.objs.size 0 .none → h'.get? s.heap.objs.size = some o → h'.objs.size = s.heap.objs.size + 2 →
      (∀ b o, s.heap.get? b = some o → h'.get? b = some o) → Q (.ref (s.heap.objs.size + 1)) { s with heap := h' }) :
    wpAny (model prog w) A (call (.type "enumerate") [v]) Q E s := by
  refine callType_new F.called_enumerate (by decide) (F.typeCall_enumerate_1 _) (F.newCall_enumerate_1 _) (fun obj => F.args_object_init_2 obj _) F.entry_enumerate_new (meets_en1 B) ⟨h1, ?_⟩
  have hz : (s.heap.push o).objs.size = s.heap.objs.size + 1 := Heap.size_push ..
  show _ ∧ _
  rw [hz]
  have he : IsEnum ((s.heap.push o).push { cls := .type "enumerate", data := .fields #[.none, .bool false, .ref s.heap.objs.size, rawInt 0, .none, .none] }) (s.heap.objs.size + 1) s.heap.objs.size 0 .none := by
    have := Heap.get?_push_size (s.heap.push o) (o := { cls := .type "enumerate", data := .fields #[.none, .bool false, .ref s.heap.objs.size, rawInt 0, .none, .none] }) rfl
    rw [hz] at this; exact this
  exact ⟨⟨_, he, rfl⟩, h _ he (Heap.get?_push_of_some _ (Heap.get?_push_size _ B.free)) (by rw [Heap.size_push, hz]) fun b o x => Heap.get?_push_of_some _ (Heap.get?_push_of_some _ x)⟩
def IteT (K : PySem.W.Frag) (a : Addr) : It :=
  ⟨fun i H => ∃ (xs : List V) (x : V), SqT K H a xs ∧ xs[i]? = some x, fun i H v H' => ∃ T x, v = .ref T ∧ H T = none ∧ H' = upd H T (.tup [.int (i : Nat), x]) ∧ ∀ xs, SqT K H a xs → xs[i]? = some x, fun i H => ∃ xs : List V, SqT K H a xs ∧ xs.length = i⟩
theorem turn_enumT {P : Program} {w : World} {K : PySem.W.Frag} {elts : List Expr} {kk : Nat} {tpos : Pos} (a e it : Addr) (hae : a ≠ it) :
    Turn P w K (.Tuple elts kk tpos) (IteT K a) [e, it] e (fun i h => (∃ old, IsEnum h e it ((i : Nat) : Int) old) ∧ h.IsTupleIter it a i ∧ e ≠ it) where
  mem := by simp
  obj := fun i h st b hb => by
    obtain ⟨⟨old, he⟩, ⟨o, ho, hc, hd⟩, _⟩ := st
    have e' : b = e ∨ b = it := by simpa using hb
    rcases e' with z | z
    · rw [z]; exact ⟨_, he, fun v q => nomatch q⟩
    · rw [z]; exact ⟨o, ho, fun v q => by rw [hd] at q; cases q⟩
  keep := fun i h h' st k => let ⟨⟨old, he⟩, hi, hne⟩ := st; ⟨⟨old, k e (by simp) _ he⟩, hi.at fun o q => k it (by simp) o q, hne⟩
  item := by
    intro X hP hw hK hc i pins s σ H E I hf st hg
    subst hP hw hK
    obtain ⟨⟨old, he⟩, hit, hne⟩ := st
    obtain ⟨xs, x, hq, hx⟩ := hg
    obtain ⟨its, rv, p, hz⟩ := I.tuple hq
    obtain ⟨u, hu, ru⟩ := rv.get hx
    have hel : e < s.heap.objs.size := Heap.lt_size he
    have hi : i < its.toArray.size := by
      have := (List.getElem?_eq_some_iff.mp hu).1
      simpa using this
    have hea : e ∉ [it, a] := fun z => by
      have z' : e = it ∨ e = a := by simpa using z
      rcases z' with z | z
      · exact hne z
      · obtain ⟨o, ho, hc', _⟩ := id p
        rw [← z, he] at ho
        cases ho
        injection hc' with z2
        exact absurd z2 (by decide)
    have D := Draws.tuple (prog := X.prog) (w := X.w) (A := X.A.in1) (I.ok.hd hc) it a hae its.toArray
    refine wpAny_pyNext_enum_itemC D he ⟨hit, p⟩ hi hne hea fun y h' tk hy ho hit' hT hsz hk => ?_
    obtain rfl : u = y := by
      have hu' : its.toArray[i]? = some u := by simpa using hu
      have hy' : its.toArray[i]? = some y := hy
      rw [hu'] at hy'
      exact Option.some.inj hy'
    refine ⟨_, rfl, wpAny_letOwnedTupleGo_enum (s := { s with heap := h', toks := tk + 1 }) ho fun h'' he' sb => ?_⟩
    have hT2 : h''.get? s.heap.objs.size = some { cls := .type "tuple", data := .seq #[.int i tk, u] } := (sb.2 _ (Nat.ne_of_gt hel)).trans hT
    have new : ObjOk X.prog X.w (upd H s.heap.objs.size (.tup [.int (i : Nat), x])) h'' s.heap.objs.size (.tup [.int (i : Nat), x]) :=
      ⟨by show 2 ≤ sizeLine; decide, [.int i tk, u], .cons ⟨_, rfl⟩ (.cons ru .nil), ⟨_, hT2, rfl, _, rfl⟩⟩
    have I1 : Inv X pins σ (upd H s.heap.objs.size (.tup [.int (i : Nat), x])) { s with heap := h'', toks := tk + 1 } :=
      I.turnedNew (ch := [e, it]) (fun b ob hb q => (sb.2 b (fun z => hb (by simp [z]))).trans (hk b ob (fun z => hb (by simp [z])) (fun z => hb (by simp [z])) q)) hf (Nat.le_refl _) new
    refine ⟨.ref s.heap.objs.size, _, I1, rfl, ⟨_, x, rfl, I.hok.fresh (Nat.le_refl _), rfl, fun ys hy => by rw [I.tuple_inj hy hq]; exact hx⟩, ⟨⟨u, ?_⟩, hit'.1.at fun o q => (sb.2 it (Ne.symm hne)).trans q, hne⟩, fun b hb => ?_⟩
    · have e1 : ((i + 1 : Nat) : Int) = (i : Int) + 1 := by omega
      rw [e1]; exact he'
    · have hb' : b < s.heap.objs.size := by
        have e' : b = e ∨ b = it := by simpa using hb
        rcases e' with z | z
        · rw [z]; exact hel
        · rw [z]; obtain ⟨_, q, _⟩ := hit; exact Heap.lt_size q
      rw [upd_ne (Nat.ne_of_lt hb')]
      exact (hf b hb).1
  done := by
    intro X hP hw hK hc i pins s σ H E I hf st hg
    subst hP hw hK
    obtain ⟨⟨old, he⟩, hit, hne⟩ := st
    obtain ⟨xs, hq, hx⟩ := hg
    obtain ⟨its, rv, p, hz⟩ := I.tuple hq
    obtain ⟨f0, f1, f2, f3, f4, f5⟩ := hf it (by simp)
    have hl := rv.length
    have D := Draws.tuple (prog := X.prog) (w := X.w) (A := X.A.in1) (I.ok.hd hc) it a hae its.toArray
    have hi : its.toArray.size = i := by simp; omega
    exact wpAny_pyNext_enum_endD D he (by rw [hi]; exact ⟨hit, p⟩) fun h' eb => ⟨rfl, I.turned (t' := s.toks) (fun b o hb q => eb b o hb q) f0 f1 f3 f4 f5⟩
  self := fun A i s Q E st h => let ⟨⟨_, he⟩, _⟩ := st; wpAny_pyIter_enum he h
def iEnumT (K : PySem.W.Frag) (ta : TA) : TI := fun σ H R => ta σ H fun vs H1 => ∃ a xs, vs = [.ref a] ∧ SqT K H1 a xs ∧ R (IteT K a) H1
theorem pi_enumT {X : Cx} {e : Expr} {ta : TA} {p pos tpos : Pos} {elts : List Expr} {kk : Nat} (hg : Gl X "enumerate") (hm : X.mg "enumerate" = none) (ha : PA X [e] ta) (hs : starEach [e] X.env = [(false, eval e X.env)] := by rfl) :
    PI X (.Tuple elts kk tpos) (.Call (.Name "enumerate" p) [e] [] pos) (iEnumT X.K ta) := by
  refine ⟨fun pins s σ H R I h => ?_⟩
  refine Call_ (ld_blt I hg hm boot_enumerate (PyProof.Rows.callWith_type1 (thn (ha.run pos pins s σ H _ I h) fun us s1 ⟨vs, H1, I1, r1, q1⟩ => ?_) hs rfl))
  obtain ⟨a, xs, ex, hq, q⟩ := q1
  subst ex
  cases r1 with
  | cons r rr =>
    cases rr
    cases r
    obtain ⟨its, rv, p', hz⟩ := I1.tuple hq
    have hal : a < s1.heap.objs.size := by obtain ⟨o, ho, _⟩ := id p'; exact Heap.lt_size ho
    refine call_en1 (begins_tuple a its.toArray) p' fun h' he hit hsz hk => wpAny_pyIter_enum he ?_
    have I2 : Inv X pins σ H1 { s1 with heap := h' } := I1.kept (t' := s1.toks) hk
    refine ⟨s1.heap.objs.size + 1, [s1.heap.objs.size + 1, s1.heap.objs.size], _, _, H1, rfl, I2, turn_enumT a (s1.heap.objs.size + 1) s1.heap.objs.size (Nat.ne_of_lt hal), ⟨⟨.none, he⟩, ⟨_, hit, rfl, rfl⟩, Nat.succ_ne_self _⟩, fun b hb => ?_, q⟩
    have e' : b = s1.heap.objs.size + 1 ∨ b = s1.heap.objs.size := by simpa using hb
    have hle : s1.heap.objs.size ≤ b := by
      rcases e' with z | z
      · rw [z]; exact Nat.le_add_right _ _
      · rw [z]; exact Nat.le_refl _
    exact I1.fpOk hle (I1.hok.fresh hle)
section
variable {K : PySem.W.Frag} {a b : Addr} {xs ys : List V}
theorem walk_enumT : Walk (IteT K a) xs.length (fun H => SqT K H a xs) (YPair (fun i => some (.int (i : Nat))) fun i => xs[i]?) :=
  ⟨fun i _ hi q => ⟨xs, xs[i], q, by simp [hi]⟩, fun _ q => ⟨xs, q, rfl⟩, fun i H v H' _ q y => by
    obtain ⟨T, x, rfl, hT, rfl, f⟩ := y
    exact ⟨T, _, x, rfl, hT, rfl, rfl, f xs q⟩⟩
theorem walk_zipT (hl : xs.length = ys.length) : Walk (RZ.ItzT K a b) xs.length (fun H => SqT K H a xs ∧ SqT K H b ys) (YPair (fun i => xs[i]?) fun i => ys[i]?) :=
  ⟨fun i _ hi q => ⟨xs, ys, xs[i], ys[i], q.1, q.2, by simp [hi], by simp [← hl, hi]⟩, fun _ q => ⟨xs, ys, q.1, q.2, .inl (Nat.le_refl _)⟩, fun i H v H' _ q y => by
    obtain ⟨T, x, y, rfl, hT, rfl, f1, f2⟩ := y
    exact ⟨T, x, y, rfl, hT, rfl, f1 xs q.1, f2 ys q.2⟩⟩
theorem walk_zipL (hl : xs.length = ys.length) : Walk (Itz K a b) xs.length (fun H => SqL K H a xs ∧ SqL K H b ys) (YPair (fun i => xs[i]?) fun i => ys[i]?) :=
  ⟨fun i _ hi q => ⟨xs, ys, xs[i], ys[i], q.1, q.2, by simp [hi], by simp [← hl, hi]⟩, fun _ q => ⟨xs, ys, q.1, q.2, .inl (Nat.le_refl _)⟩, fun i H v H' _ q y => by
    obtain ⟨T, x, y, rfl, hT, rfl, f1, f2⟩ := y
    exact ⟨T, x, y, rfl, hT, rfl, f1 xs q.1, f2 ys q.2⟩⟩
end
section
variable {S : Addr → Prop} {I : Hp → Prop} {H : Hp} {J : It} {n : Nat} {G : Hp → Prop} {fx fy : Nat → Option V} {g : TG} {tt : TT} {te : TE} {vs : List Nat} {σ : L2.St} {Q : Addr → Hp → Prop}
theorem lcP (w : Walk J n G (YPair fx fy)) (m : Fm S I) (i0 : I H) (hG : ∀ H', Fx S I H H' → G H') (P : Nat → List V → Hp → Prop) (p0 : ∀ D, H D = none → P 0 [] (upd H D (.lst [])))
    (hs : ∀ D i T x y acc H', H D = none → i < n → fx i = some x → fy i = some y → Fx S I H H' → H' D = some (.lst acc) → acc.length ≤ i → P i acc H' → H' T = none → g (.ref T) (wipe σ vs) (upd H' T (.tup [x, y])) fun σ2 H2 => wipe σ2 vs = wipe σ vs ∧ tt σ2 H2 fun b H3 =>
      if b = true then te σ2 H3 fun y H4 => ∃ acc, H4 D = some (.lst acc) ∧ acc.length < sizeLine ∧ Cs S I H P D (i + 1) (upd H4 D (.lst (acc ++ [y]))) else Cs S I H P D (i + 1) H3)
    (q : ∀ D H' acc, H D = none → Fx S I H H' → H' D = some (.lst acc) → P n acc H' → Q D H') :
    ∀ D, H D = none → ∃ W : Nat → Nat → Hp → Prop, (∃ m, W 0 m (upd H D (.lst []))) ∧ ∀ i m H, W i m H →
      (J.stop i H ∧ Q D H) ∨ (J.go i H ∧ ∃ Nx : Hp → Prop, (∀ H', Nx H' → ∃ m', m' < m ∧ W (i + 1) m' H') ∧ ∀ x H', J.yld i H x H' → g x (wipe σ vs) H' fun σ2 H2 => wipe σ2 vs = wipe σ vs ∧ tt σ2 H2 fun b H3 =>
        if b = true then te σ2 H3 fun y H4 => ∃ acc, H4 D = some (.lst acc) ∧ acc.length < sizeLine ∧ Nx (upd H4 D (.lst (acc ++ [y]))) else Nx H3) := fun D hD =>
  lc_it w (Cs S I H P D) ⟨Fx.new m i0 hD, [], upd_same, Nat.le_refl _, p0 D hD⟩ (fun i H' _ p => hG H' p.1)
    (fun i x H' H'' hi p y => by
      obtain ⟨p1, acc, p2, p3, p4⟩ := p
      obtain ⟨T, x, y, rfl, hT, rfl, f1, f2⟩ := y
      exact hs D i T x y acc H' hD hi f1 f2 p1 p2 p3 p4 hT)
    (fun H' p => by
      obtain ⟨p1, acc, p2, p3, p4⟩ := p
      exact q D H' acc hD p1 p2 p4)
theorem for_P (w : Walk J n G (YPair fx fy)) {g : TG} {tb : TS} {D : Ends} {σ : L2.St} {H : Hp} (Pv : Nat → L2.St → Hp → Prop) (h0 : Pv 0 σ H) (hG : ∀ i σ H, i ≤ n → Pv i σ H → G H)
    (hs : ∀ i T x y σ H, i < n → fx i = some x → fy i = some y → Pv i σ H → H T = none → g (.ref T) σ (upd H T (.tup [x, y])) fun σ2 H2 => tb { D with nx := Pv (i + 1), ct := Pv (i + 1), bk := D.nx } σ2 H2) (hd : ∀ σ H, Pv n σ H → D.nx σ H) :
    ∃ W : Nat → Nat → L2.St → Hp → Prop, (∃ m, W 0 m σ H) ∧ ∀ i m σ H, W i m σ H →
      (J.stop i H ∧ D.nx σ H) ∨ (J.go i H ∧ ∃ N : L2.St → Hp → Prop, (∀ σ' H', N σ' H' → ∃ m', m' < m ∧ W (i + 1) m' σ' H') ∧ ∀ x H', J.yld i H x H' → g x σ H' fun σ2 H2 => tb { D with nx := N, ct := N, bk := D.nx } σ2 H2) :=
  for_it w Pv h0 hG (fun i v σ H H' hi p y => by
    obtain ⟨T, x, y, rfl, hT, rfl, f1, f2⟩ := y
    exact hs i T x y σ H hi f1 f2 p hT) hd
end
end Fr
set_option Elab.async false
set_option linter.all false
set_option maxRecDepth 100000
namespace Fr
open PySem PySem.Spec PyProof.Rows L2
section
variable {prog : Program} {w : World}
theorem meets_bool_own {a : Addr} : MeetsIn prog w (Builtin.«bool.__new__» ⟨[.type "bool", .ref a], []⟩) (fun A R s => wpAny (model prog w) A.in1 (truthy (.ref a)) (fun b s' => R (.ok (.ret (.bool b))) s') (fun e s' => R (.error e) s') s) :=
  fun A R s h => by
    have f1 := F.conv_sub_bool
    repeat (any_goals (first | assumption | (refine wpAny_bind (m := truthy (.ref a)) (wpAny_mono h (fun b s' hb => ?_) fun _ _ y => y)) | wp_step))
theorem call_bool_ref {A : Around} {E : Value → Shared → Prop} {s : Shared} {a : Addr} {Q : Value → Shared → Prop} (h : wpAny (model prog w) A.in1.in1 (truthy (.ref a)) (fun b s' => Q (.bool b) s') E s) :
    wpAny (model prog w) A (call (.type "bool") [.ref a]) Q E s :=
  callType_newIn F.called_bool F.newNe_bool (F.typeCall_bool_1 _) (F.newCall_bool_1 _) (fun obj => F.args_object_init_2 obj _) F.entry_bool_new meets_bool_own
    (wpAny_mono h (fun b s' q => ⟨rfl, q⟩) fun _ _ y => y)
end
section
variable {X : Cx} {CX : CXT} {C f : Addr} {fd : FuncData} {ps : List Str} {k : Nat} {sp : Sp} {E : XK}
theorem call_boolI (c : Meth X.K C "__bool__" f) (F : FnOk X.prog X.w X.K X.mg X.base CX k f fd ps sp) (hb : Binds X.K fd ps []) (hr : Room (k + 2) X.A) (hx : Passes CX X E) :
    CallR X (.type "bool") (fun xs H Q => ∃ a dx fs, xs = [.ref a] ∧ H a = some (.ins C dx fs) ∧ sp [.ref a] H (fun v H' => ∃ b, v = .bl b ∧ Q (.bl b) H') E) := by
  intro pins s σ H xs us Q I r h
  obtain ⟨a, dx, fs, rfl, ha, q⟩ := h
  obtain rfl := Vals.ref1 r
  obtain ⟨mA, J, _⟩ := ins_get I.hok ha
  obtain ⟨od, J, _⟩ := J.look
  obtain ⟨m, hF⟩ := I.fr
  have hl : [Value.ref a].length = ps.length := (F.len _ _ _ _ q)
  refine call_bool_ref (PySem.W.truthy_K hF I.ok.mod.kin J c.at_ c.fn ?_)
  refine wpAny_call (codeAny_mono (F.run X.A.in1.in1 X.stack s H ⟨[.ref a], []⟩ [.ref a] [.ref a] _ E hr.in1.in1 I.env0.in1.in1 (hb s [.ref a] I.kIn hl) (.cons rfl .nil) q) fun r s' hq => ?_)
  cases r with
  | error e => exact hx pins σ H s e s' I hq
  | ok fl =>
    cases fl with
    | ret u =>
      obtain ⟨v, H', I3, rv, b, rfl, q3⟩ := I.after hq
      cases (show u = Value.bool b from rv)
      exact ⟨.bl b, H', I3, rfl, q3⟩
    | next => exact False.elim hq
    | brk => exact False.elim hq
    | cont => exact False.elim hq
end
end Fr
set_option Elab.async false
set_option linter.all false
set_option maxRecDepth 100000
namespace Fr
open PySem PySem.Spec PyProof.Rows L2
theorem iter_anyT {prog : Program} {w : World} {A : Around} {E : Value → Shared → Prop} {s : Shared} {l : Addr} {items : Array Value} {Q : Value → Shared → Prop} (hl : s.heap.IsTuple l items)
    (h : ∀ s₂ : Shared, s₂ = { s with heap := s.heap.push { cls := .type "tuple_iterator", data := .fields #[.ref l, .int 0 0] } } →
      (s₂.heap.IsTupleIter s.heap.objs.size l 0 ∧ s₂.heap.IsTuple l items) → l ≠ s.heap.objs.size → Q (.ref s.heap.objs.size) s₂) : wpAny (model prog w) A (pyIter (.ref l)) Q E s := by
  have hlt : l < s.heap.objs.size := by obtain ⟨_, e, _⟩ := hl; exact Heap.lt_size e
  exact wpAny_pyIter_tuple hl (h _ rfl ⟨⟨_, Heap.get?_push_size _ rfl, rfl, rfl⟩, hl.push _⟩ (Nat.ne_of_lt hlt))
theorem ints_at : ∀ {us : List Value} {ns : List Int}, IntsAre us ns → ∀ (i : Nat) (v : Value), us[i]? = some v → ∃ n t, v = .int n t ∧ ns[i]? = some n
  | _, _, .nil, i, v, h => by simp at h
  | _, _, .cons n t r, 0, v, h => ⟨n, t, (Option.some.inj h).symm, rfl⟩
  | _, _, .cons n t r, i + 1, v, h => ints_at r i v h
theorem truth_ints {prog : Program} {w : World} {A : Around} {ns : List Int} {its : List Value} (e : IntsAre its ns) :
    TruthOf prog w A (fun i v => its.toArray[i]? = some v) (fun i => (ns.map (fun n => n != 0)).getD i false) := fun i v s Q E hv hq => by
  have hv' : its[i]? = some v := by simpa using hv
  obtain ⟨n, t, rfl, hn⟩ := ints_at e i v hv'
  have hg : (ns.map (fun n => n != 0)).getD i false = (n != 0) := by rw [List.getD_eq_getElem?_getD, List.getElem?_map, hn] <;> rfl
  have hq' : Q ((ns.map (fun n => n != 0)).getD i false) s := hq
  rw [hg] at hq'
  exact P.truthy_int hq'
section
variable {X : Cx}
def rAnyT (K : PySem.W.Frag) : List V → Hp → VK → Prop := fun vs H Q => ∃ (a : Addr) (ns : List Int), vs = [V.ref a] ∧ SqT K H a (ns.map V.int) ∧ Q (.bl (ns.any (fun n => n != 0))) H
theorem cr_anyT (hc : X.calm = true) : CallR X (.builtin "any") (rAnyT X.K) := by
  intro pins s σ H vs us Q I r h
  obtain ⟨a, ns, rfl, hs, q⟩ := h
  obtain ⟨its, rv, hl, _⟩ := I.tuple hs
  rw [Vals.ref1 r]
  have hb := Vals.ints rv
  have hl' : s.heap.IsTuple a its.toArray := by
    obtain ⟨o, e1, e2, n, e3⟩ := hl
    exact ⟨o, e1, e2, n, e3⟩
  have hlen : its.length = ns.length := by rw [← rv.length, List.length_map]
  refine call_any_walk (iter_anyT hl' fun s₂ e2 st hne => ?_)
  subst e2
  refine ⟨_, _, _, _, _, _, _, rfl, Walks.tuple (A := X.A.in1) (I.ok.hd hc) _ a hne its.toArray, st, truth_ints hb, fun h' tk hk => ?_⟩
  refine ⟨.bl _, H, I.kept fun b o eo => hk b o (fun hmem => ?_) (Heap.get?_push_of_some _ eo), ?_, q⟩
  · rcases List.mem_cons.mp hmem with e1 | hmem
    · exact absurd (e1 ▸ Heap.lt_size eo) (Nat.lt_irrefl _)
    · cases hmem
  · show Value.bool _ = Value.bool _
    have := any_range (ns.map (fun n => n != 0))
    rw [List.length_map] at this
    rw [List.size_toArray, hlen, this, List.any_map]
    rfl
end
end Fr
set_option Elab.async false
set_option linter.all false
set_option maxRecDepth 100000
namespace Fr
open PySem PySem.Spec PyProof.Rows L2
def Vat (c : Addr) (H : Hp) : Prop := ∃ x y z : Int, H c = some (.lst [.int x, .int y, .int z])
def Sv (c : Addr) : Addr → Prop := fun b => b = c
theorem fmV (c : Addr) : Fm (Sv c) (Vat c) := by
  constructor
  · intro H D i h e
    obtain ⟨x, y, z, q⟩ := i
    unfold Sv at e
    rw [e, q] at h
    cases h
  · intro H D o n i
    obtain ⟨x, y, z, q⟩ := i
    exact ⟨x, y, z, by rw [upd_ne (fun e => n e.symm)]; exact q⟩
abbrev Fv (c : Addr) : Hp → Hp → Prop := Fx (Sv c) (Vat c)
theorem vat_new {c l : Addr} {H : Hp} {o : HO} (hc : Vat c H) (hl : H l = none) : Vat c (upd H l o) := (fmV c).stay ((fmV c).fresh hc hl) hc
theorem fv_new {c l : Addr} {H : Hp} {o : HO} (hc : Vat c H) (hl : H l = none) : Fv c H (upd H l o) := Fx.new (fmV c) hc hl
theorem fv_ne {c l : Addr} {H : Hp} (hc : Vat c H) (hl : H l = none) : l ≠ c := (fmV c).fresh hc hl
theorem vat_ex {c : Addr} {H H' : Hp} (hc : Vat c H) (e : Ex0 H H') : Vat c H' := by
  obtain ⟨x, y, z, q⟩ := hc
  exact ⟨x, y, z, Ex0.ap e q⟩
theorem fv_ex {c : Addr} {H H' : Hp} (hc : Vat c H) (e : Ex0 H H') : Fv c H H' := ⟨vat_ex hc e, fun b o _ h => Ex0.ap e h⟩
theorem fv_tup {c a : Addr} {H H' : Hp} {xs : List V} (hc : Vat c H) (f : Fv c H H') (h : H a = some (.tup xs)) : H' a = some (.tup xs) := f.2 a _ (fun e => by
  obtain ⟨x, y, z, q⟩ := hc
  unfold Sv at e
  rw [e, q] at h
  cases h) h
theorem ex_fv {p : Addr} {H H1 H2 : Hp} (e : Ex0 H H1) (hp : H p = none) (f : Fv p H1 H2) : Ex0 H H2 := ⟨trivial, fun b o _ h => f.2 b o (fun z => by unfold Sv at z; rw [z, hp] at h; cases h) (Ex0.ap e h)⟩
theorem cut_map (ns : List Int) (lo hi : Option Int) : cutV (ns.map V.int) lo hi = ((ns.drop (HT.sIx (ns.map V.int).length 0 lo)).take (HT.sIx (ns.map V.int).length (ns.map V.int).length hi - HT.sIx (ns.map V.int).length 0 lo)).map V.int := by
  unfold cutV
  rw [← List.map_drop, ← List.map_take]
end Fr
set_option Elab.async false
set_option linter.all false
set_option maxRecDepth 100000
namespace Fr
open PySem PySem.Spec PyProof.Rows L2
@[reducible] def SqK (k : Bool) (K : PySem.W.Frag) (H : Hp) (a : Addr) (xs : List V) : Prop := match k with
  | true => SqT K H a xs
  | false => SqL K H a xs
@[reducible] def IterK (k : Bool) (h : Heap) (it l : Addr) (i : Nat) : Prop := match k with
  | true => h.IsTupleIter it l i
  | false => h.IsListIter it l i
@[reducible] def HasK (k : Bool) (h : Heap) (l : Addr) (items : Array Value) : Prop := match k with
  | true => h.IsTuple l items
  | false => h.IsList l items
theorem IterK.cell {k : Bool} {h : Heap} {it l : Addr} {i : Nat} (q : IterK k h it l i) : ∃ o, h.get? it = some o ∧ ∀ v, o.data ≠ .cell v := by
  cases k <;> obtain ⟨o, e, _, d⟩ := q <;> exact ⟨o, e, fun v z => by rw [d] at z; cases z⟩
theorem IterK.look {k : Bool} {h h' : Heap} {it l : Addr} {i : Nat} (q : IterK k h it l i) (e : ∀ o, h.get? it = some o → h'.get? it = some o) : IterK k h' it l i := by
  cases k
  · exact Heap.IsListIter.at q fun o z => e o z
  · exact Heap.IsTupleIter.at q fun o z => e o z
theorem drawsK {k : Bool} {prog : Program} {w : World} {A : Around} (hh : A.handled = none) (it l : Addr) (hne : l ≠ it) (items : Array Value) :
    Draws prog w A it [it, l] items.size (fun i v => items[i]? = some v) (fun i h => IterK k h it l i ∧ HasK k h l items) := by
  cases k
  · exact Draws.list hh it l hne items
  · exact Draws.tuple hh it l hne items
section
variable {X : Cx} {pins : List (Addr × Obj)} {σ : L2.St} {H : Hp} {s : Shared}
theorem hasK (I : Inv X pins σ H s) {k : Bool} {a : Addr} {xs : List V} (q : SqK k X.K H a xs) : ∃ its : List Value, Vals xs its ∧ HasK k s.heap a its.toArray ∧ a < s.heap.objs.size := by
  cases k
  · obtain ⟨its, rv, p, _⟩ := I.list q
    exact ⟨its, rv, p.isList, p.lt⟩
  · obtain ⟨its, rv, p, _⟩ := I.tuple q
    exact ⟨its, rv, p, by obtain ⟨o, e, _⟩ := id p; exact Heap.lt_size e⟩
theorem sqK_inj (I : Inv X pins σ H s) {k : Bool} {a : Addr} {xs ys : List V} (q : SqK k X.K H a xs) (r : SqK k X.K H a ys) : xs = ys := by
  cases k
  · exact I.list_inj q r
  · exact I.tuple_inj q r
end
def ItzK (K : PySem.W.Frag) (k1 k2 : Bool) (a b : Addr) : It where
  go := fun i H => ∃ (xs ys : List V) (x y : V), SqK k1 K H a xs ∧ SqK k2 K H b ys ∧ xs[i]? = some x ∧ ys[i]? = some y
  yld := fun i H v H' => ∃ T x y, v = .ref T ∧ H T = none ∧ H' = upd H T (.tup [x, y]) ∧ (∀ xs, SqK k1 K H a xs → xs[i]? = some x) ∧ ∀ ys, SqK k2 K H b ys → ys[i]? = some y
  stop := fun i H => ∃ xs ys : List V, SqK k1 K H a xs ∧ SqK k2 K H b ys ∧ xs.length = i ∧ ys.length = i
theorem in5 {c z TI TO i1 i2 : Addr} (h : c ∈ [z, TI, TO, i1, i2]) : c = z ∨ c = TI ∨ c = TO ∨ c = i1 ∨ c = i2 := by simpa using h
theorem turn_zipK {P : Program} {w : World} {K : PySem.W.Frag} {elts : List Expr} {kk : Nat} {tpos : Pos} {k1 k2 : Bool} {a b z TI TO i1 i2 : Addr} (S : ZipSep2 z TI TO i1 i2 [i1, a] [i2, b]) (na : a ≠ i1) (nb : b ≠ i2) :
    Turn P w K (.Tuple elts kk tpos) (ItzK K k1 k2 a b) [z, TI, TO, i1, i2] z (fun i h => IsZip h z TI TO .none ∧ IsTupOf2 h TI (.ref i1) (.ref i2) ∧ (∃ x y, IsTupOf2 h TO x y) ∧ IterK k1 h i1 a i ∧ IterK k2 h i2 b i) where
  mem := by simp
  obj := fun i h st c hc => by
    obtain ⟨hz, hTI, ⟨x, y, hTO⟩, q1, q2⟩ := st
    rcases in5 hc with q | q | q | q | q <;> rw [q]
    · exact ⟨_, hz, fun v q => nomatch q⟩
    · exact ⟨_, hTI, fun v q => nomatch q⟩
    · exact ⟨_, hTO, fun v q => nomatch q⟩
    · exact q1.cell
    · exact q2.cell
  keep := fun i h h' st kp => by
    obtain ⟨hz, hTI, ⟨x, y, hTO⟩, q1, q2⟩ := st
    exact ⟨kp z (by simp) _ hz, kp TI (by simp) _ hTI, ⟨x, y, kp TO (by simp) _ hTO⟩, q1.look fun o q => kp i1 (by simp) o q, q2.look fun o q => kp i2 (by simp) o q⟩
  item := by
    intro X hP hw hK hc i pins s σ H E I hf st hg
    subst hP hw hK
    obtain ⟨hz, hTI, ⟨x0, y0, hTO⟩, q1, q2⟩ := st
    obtain ⟨xs, ys, x, y, hqx, hqy, hx, hy⟩ := hg
    obtain ⟨its1, rv1, p1, _⟩ := hasK I hqx
    obtain ⟨its2, rv2, p2, _⟩ := hasK I hqy
    obtain ⟨u1, hu1, ru1⟩ := rv1.get hx
    obtain ⟨u2, hu2, ru2⟩ := rv2.get hy
    have hzl : z < s.heap.objs.size := Heap.lt_size hz
    have D1 := drawsK (k := k1) (prog := X.prog) (w := X.w) (A := X.A.in1) (I.ok.hd hc) i1 a na its1.toArray
    have D2 := drawsK (k := k2) (prog := X.prog) (w := X.w) (A := X.A.in1) (I.ok.hd hc) i2 b nb its2.toArray
    have l1 : i < its1.toArray.size := by
      have := (List.getElem?_eq_some_iff.mp hu1).1
      simpa using this
    have l2 : i < its2.toArray.size := by
      have := (List.getElem?_eq_some_iff.mp hu2).1
      simpa using this
    refine wpAny_pyNext_zipD2_item S D1 D2 hz hTI hTO ⟨q1, p1⟩ ⟨q2, p2⟩ l1 l2 fun y1 y2 h' tk e1 e2 z' TO' st1 st2 hT hsz hk => ?_
    obtain rfl : u1 = y1 := by
      have a1 : its1.toArray[i]? = some u1 := by simpa using hu1
      have a2 : its1.toArray[i]? = some y1 := e1
      rw [a1] at a2
      exact Option.some.inj a2
    obtain rfl : u2 = y2 := by
      have a1 : its2.toArray[i]? = some u2 := by simpa using hu2
      have a2 : its2.toArray[i]? = some y2 := e2
      rw [a1] at a2
      exact Option.some.inj a2
    refine ⟨_, rfl, wpAny_letOwnedTupleGo_zip (s := { s with heap := h', toks := tk }) z' fun h'' z'' sb => ?_⟩
    have hT2 : h''.get? s.heap.objs.size = some { cls := .type "tuple", data := .seq #[u1, u2] } := (sb.2 _ (Nat.ne_of_gt hzl)).trans hT
    have new : ObjOk X.prog X.w (upd H s.heap.objs.size (.tup [x, y])) h'' s.heap.objs.size (.tup [x, y]) :=
      ⟨by show 2 ≤ sizeLine; decide, [u1, u2], .cons ru1 (.cons ru2 .nil), ⟨_, hT2, rfl, _, rfl⟩⟩
    have I1 : Inv X pins σ (upd H s.heap.objs.size (.tup [x, y])) { s with heap := h'', toks := tk } :=
      I.turnedNew (ch := [z, TI, TO, i1, i2]) (fun c o hb q => (sb.2 c (fun e => hb (by simp [e]))).trans (hk c o (fun e => hb (by simp [e])) (fun e => hb (by simp [e])) (fun e => hb (by simp [e])) (fun e => hb (by simp [e])) q)) hf (Nat.le_refl _) new
    refine ⟨.ref s.heap.objs.size, _, I1, rfl, ⟨_, x, y, rfl, I.hok.fresh (Nat.le_refl _), rfl, fun l hl => by rw [sqK_inj I hl hqx]; exact hx, fun l hl => by rw [sqK_inj I hl hqy]; exact hy⟩, ⟨z'', ?_, ⟨u1, u2, ?_⟩, ?_, ?_⟩, fun c hcm => ?_⟩
    · exact (sb.2 _ S.TIz).trans (hk _ _ S.TIz S.TITO S.TIi1 S.TIi2 hTI)
    · exact (sb.2 _ S.TOz).trans TO'
    · exact st1.1.look fun o q => (sb.2 _ (Ne.symm S.zi1)).trans q
    · exact st2.1.look fun o q => (sb.2 _ (Ne.symm S.zi2)).trans q
    · have hlt : c < s.heap.objs.size := by
        rcases in5 hcm with q | q | q | q | q <;> rw [q]
        · exact hzl
        · exact Heap.lt_size hTI
        · exact Heap.lt_size hTO
        · obtain ⟨_, e, _⟩ := q1.cell; exact Heap.lt_size e
        · obtain ⟨_, e, _⟩ := q2.cell; exact Heap.lt_size e
      rw [upd_ne (Nat.ne_of_lt hlt)]
      exact (hf c hcm).1
  done := by
    intro X hP hw hK hc i pins s σ H E I hf st hg
    subst hP hw hK
    obtain ⟨hz, hTI, ⟨x0, y0, hTO⟩, q1, q2⟩ := st
    obtain ⟨xs, ys, hqx, hqy, ex, ey⟩ := hg
    obtain ⟨its1, rv1, p1, _⟩ := hasK I hqx
    obtain ⟨its2, rv2, p2, _⟩ := hasK I hqy
    have D1 := drawsK (k := k1) (prog := X.prog) (w := X.w) (A := X.A.in1) (I.ok.hd hc) i1 a na its1.toArray
    have D2 := drawsK (k := k2) (prog := X.prog) (w := X.w) (A := X.A.in1) (I.ok.hd hc) i2 b nb its2.toArray
    have l1 : its1.toArray.size = i := by have := rv1.length; simp; omega
    have l2 : its2.toArray.size = i := by have := rv2.length; simp; omega
    exact wpAny_pyNext_zipD2_end S D1 D2 hz hTI hTO ⟨q1, p1⟩ ⟨q2, p2⟩ (by omega) (by omega) (.inl (by omega)) fun h' tk hk => ⟨rfl, I.turnedL (ch := [z, TI, TO, i1, i2]) (fun c o hb q =>
      hk c o (fun e => hb (by simp [e])) (fun e => hb (by simp [e])) (fun e => hb (by simp [e])) (fun e => hb (by simp [e])) q) hf⟩
  self := fun A i s Q E st h => wpAny_pyIter_zip st.1 h
def iZipK (K : PySem.W.Frag) (k1 k2 : Bool) (ta : TA) : TI := fun σ H R => ta σ H fun vs H1 => ∃ a b xs ys, vs = [.ref a, .ref b] ∧ SqK k1 K H1 a xs ∧ SqK k2 K H1 b ys ∧ R (ItzK K k1 k2 a b) H1
theorem pi_zipK (k1 k2 : Bool) {X : Cx} {e e2 : Expr} {ta : TA} {p pos tpos : Pos} {elts : List Expr} {kk : Nat} (hg : Gl X "zip") (hm : X.mg "zip" = none) (ha : PA X [e, e2] ta)
    (hs : starEach [e, e2] X.env = (false, eval e X.env) :: starEach [e2] X.env := by rfl) (hpl : (backTo pos (starEach [e2] X.env)).any (·.1) = false := by rfl) :
    PI X (.Tuple elts kk tpos) (.Call (.Name "zip" p) [e, e2] [] pos) (iZipK X.K k1 k2 ta) := by
  refine ⟨fun pins s σ H R I h => Call_ (ld_blt I hg hm PyProof.Rows.boot_zip (PyProof.Rows.callWith_type1 (thn (ha.run pos pins s σ H _ I h) fun us s1 ⟨vs, H1, I1, r1, a, b, xs, ys, ex, hqx, hqy, q⟩ => ?_) hs hpl))⟩
  subst ex
  cases r1 with
  | cons r rr =>
    cases rr with
    | cons r' rr =>
      cases rr
      cases r
      cases r'
      obtain ⟨its1, rv1, p1, b1⟩ := hasK I1 hqx
      obtain ⟨its2, rv2, p2, b2⟩ := hasK I1 hqy
      generalize hn : s1.heap.objs.size = n at b1 b2
      have fin : ∀ h', IsZip h' (n + 4) (n + 2) (n + 3) .none → IsTupOf2 h' (n + 2) (.ref n) (.ref (n + 1)) → IsTupOf2 h' (n + 3) .none .none → IterK k1 h' n a 0 → IterK k2 h' (n + 1) b 0 →
          (∀ c o, s1.heap.get? c = some o → h'.get? c = some o) → wpAny (model X.prog X.w) X.A (pyIter (.ref (n + 4))) (PIE X pins σ (.Tuple elts kk tpos) R) X.xe { s1 with heap := h' } := fun h' hz hTI hTO h1 h2 hk => by
        refine wpAny_pyIter_zip hz ?_
        have I2 : Inv X pins σ H1 { s1 with heap := h' } := I1.kept (t' := s1.toks) hk
        have S : ZipSep2 (n + 4) (n + 2) (n + 3) n (n + 1) [n, a] [n + 1, b] := by
          have a1 : ∀ j : Nat, (n + j : Nat) ≠ a := fun j e => Nat.lt_irrefl n (Nat.lt_of_le_of_lt (Nat.le_add_right n j) (by rw [e]; exact b1))
          have a2 : ∀ j : Nat, (n + j : Nat) ≠ b := fun j e => Nat.lt_irrefl n (Nat.lt_of_le_of_lt (Nat.le_add_right n j) (by rw [e]; exact b2))
          have q : ∀ i j : Nat, i ≠ j → (n + i : Nat) ≠ n + j := fun i j h e => h (by omega)
          have o2 : ∀ {x y z : Addr}, x ≠ y → x ≠ z → x ∉ [y, z] := fun h1 h2 h => by simp [h1, h2] at h
          exact ⟨q 2 4 (by decide), q 3 4 (by decide), q 2 3 (by decide), q 2 0 (by decide), by simp, o2 (q 4 0 (by decide)) (a1 4), o2 (q 3 0 (by decide)) (a1 3), q 2 1 (by decide), by simp, o2 (q 4 1 (by decide)) (a2 4), o2 (q 3 1 (by decide)) (a2 3), o2 (q 0 1 (by decide)) (a2 0), o2 (q 1 0 (by decide)) (a1 1)⟩
        refine ⟨n + 4, [n + 4, n + 2, n + 3, n, n + 1], _, ItzK X.K k1 k2 a b, H1, rfl, I2, turn_zipK S (Nat.ne_of_lt b1) (Nat.ne_of_lt (Nat.lt_succ_of_lt b2)), ⟨hz, hTI, ⟨_, _, hTO⟩, h1, h2⟩, fun c hcm => ?_, q⟩
        have hle : s1.heap.objs.size ≤ c := by
          rcases in5 hcm with z | z | z | z | z <;> rw [z] <;> omega
        exact I1.fpOk hle (I1.hok.fresh hle)
      subst hn
      cases k1 <;> cases k2
      · exact zip_begins2 (begins_list a its1.toArray) (begins_list b its2.toArray) p1 p2 fun h' hz hTI hTO h1 h2 _ hk => fin h' hz hTI hTO ⟨_, h1, rfl, rfl⟩ ⟨_, h2, rfl, rfl⟩ hk
      · exact zip_begins2 (begins_list a its1.toArray) (begins_tuple b its2.toArray) p1 p2 fun h' hz hTI hTO h1 h2 _ hk => fin h' hz hTI hTO ⟨_, h1, rfl, rfl⟩ ⟨_, h2, rfl, rfl⟩ hk
      · exact zip_begins2 (begins_tuple a its1.toArray) (begins_list b its2.toArray) p1 p2 fun h' hz hTI hTO h1 h2 _ hk => fin h' hz hTI hTO ⟨_, h1, rfl, rfl⟩ ⟨_, h2, rfl, rfl⟩ hk
      · exact zip_begins2 (begins_tuple a its1.toArray) (begins_tuple b its2.toArray) p1 p2 fun h' hz hTI hTO h1 h2 _ hk => fin h' hz hTI hTO ⟨_, h1, rfl, rfl⟩ ⟨_, h2, rfl, rfl⟩ hk
theorem walk_zipK {K : PySem.W.Frag} {k1 k2 : Bool} {a b : Addr} {xs ys : List V} (hl : xs.length = ys.length) : Walk (ItzK K k1 k2 a b) xs.length (fun H => SqK k1 K H a xs ∧ SqK k2 K H b ys) (YPair (fun i => xs[i]?) fun i => ys[i]?) :=
  ⟨fun i _ hi q => ⟨xs, ys, xs[i], ys[i], q.1, q.2, by simp [hi], by simp [← hl, hi]⟩, fun _ q => ⟨xs, ys, q.1, q.2, rfl, hl.symm⟩, fun i H v H' _ q y => by
    obtain ⟨T, x, y, rfl, hT, rfl, f1, f2⟩ := y
    exact ⟨T, x, y, rfl, hT, rfl, f1 xs q.1, f2 ys q.2⟩⟩
end Fr
set_option Elab.async false
set_option linter.all false
set_option maxRecDepth 100000
namespace Fr
open PySem PySem.Spec PyProof.Rows L2
def addAt (l : List Int) (k : Nat) (v : Int) : List Int := l.set k (l.getD k 0 + v)
def rowN (l : List Int) (k : Nat) (x : Int) (ys : List Int) : Nat → List Int
  | 0 => l
  | j + 1 => addAt (rowN l k x ys j) (k + j) (x * ys.getD j 0)
def prodN (xs ys : List Int) : Nat → List Int
  | 0 => List.replicate (xs.length + ys.length - 1) 0
  | i + 1 => rowN (prodN xs ys i) i (xs.getD i 0) ys ys.length
def prodL (xs ys : List Int) : List Int := prodN xs ys xs.length
theorem addAt_len (l : List Int) (k : Nat) (v : Int) : (addAt l k v).length = l.length := by unfold addAt; rw [List.length_set]
theorem rowN_len (l : List Int) (k : Nat) (x : Int) (ys : List Int) : ∀ j, (rowN l k x ys j).length = l.length
  | 0 => rfl
  | j + 1 => by rw [rowN, addAt_len, rowN_len l k x ys j]
theorem prodN_len (xs ys : List Int) : ∀ i, (prodN xs ys i).length = xs.length + ys.length - 1
  | 0 => by rw [prodN, List.length_replicate]
  | i + 1 => by rw [prodN, rowN_len, prodN_len xs ys i]
theorem prodL_len (xs ys : List Int) : (prodL xs ys).length = xs.length + ys.length - 1 := prodN_len xs ys _
theorem gD_mem {l : List Int} {k : Nat} (h : k < l.length) : l.getD k 0 ∈ l := by
  rw [List.getD_eq_getElem?_getD, List.getElem?_eq_getElem h]
  exact List.getElem_mem h
theorem getD_le {l : List Int} {m : Nat} (h : ∀ z ∈ l, z.natAbs ≤ m) (k : Nat) : (l.getD k 0).natAbs ≤ m := by
  by_cases hk : k < l.length
  · exact h _ (gD_mem hk)
  · rw [List.getD_eq_getElem?_getD, List.getElem?_eq_none (by omega)]
    exact Nat.zero_le _
theorem rowN_le {l : List Int} {k : Nat} {x : Int} {ys : List Int} {m M : Nat} (h : ∀ z ∈ l, z.natAbs ≤ m) (hy : ∀ y ∈ ys, (x * y).natAbs ≤ M) : ∀ j, j ≤ ys.length → ∀ z ∈ rowN l k x ys j, z.natAbs ≤ m + j * M
  | 0, _ => fun z hz => by have := h z hz; omega
  | j + 1, hj => fun z hz => by
    have ih := rowN_le (k := k) h hy j (by omega)
    have e : (j + 1) * M = j * M + M := by rw [Nat.add_mul, Nat.one_mul]
    rw [rowN] at hz
    unfold addAt at hz
    rcases List.mem_or_eq_of_mem_set hz with q | rfl
    · have := ih z q
      omega
    · have h1 := getD_le ih (k + j)
      have h2 := hy _ (gD_mem (show j < ys.length by omega))
      omega
theorem prodN_le {xs ys : List Int} {M : Nat} (h : ∀ x ∈ xs, ∀ y ∈ ys, (x * y).natAbs ≤ M) : ∀ i, i ≤ xs.length → ∀ z ∈ prodN xs ys i, z.natAbs ≤ i * (ys.length * M)
  | 0, _ => fun z hz => by
    rw [prodN] at hz
    rw [List.eq_of_mem_replicate hz]
    exact Nat.zero_le _
  | i + 1, hi => fun z hz => by
    have ih := prodN_le h i (by omega)
    have e : (i + 1) * (ys.length * M) = i * (ys.length * M) + ys.length * M := by rw [Nat.add_mul, Nat.one_mul]
    rw [prodN] at hz
    rw [e]
    exact rowN_le ih (fun y hy => h _ (gD_mem (by omega)) y hy) _ (Nat.le_refl _) z hz
theorem prodL_B {xs ys : List Int} {a b : Nat} (ha : ∀ x ∈ xs, B a x) (hb : ∀ y ∈ ys, B b y) (hp : 0 < a) : ∀ z ∈ prodL xs ys, B (a + b + xs.length * ys.length) z := fun z hz => by
  have h1 := prodN_le (M := 2 ^ (a + b)) (fun x hx y hy => Nat.le_of_lt (B.mul (ha x hx) (hb y hy)).1) xs.length (Nat.le_refl _) z hz
  refine ⟨?_, by omega⟩
  rw [← Nat.mul_assoc] at h1
  rw [Nat.pow_add 2 (a + b), Nat.mul_comm]
  exact Nat.lt_of_le_of_lt h1 (Nat.mul_lt_mul_of_pos_right Nat.lt_two_pow_self (Nat.two_pow_pos _))
theorem get_map {l : List Int} {k : Nat} (h : k < l.length) : (l.map V.int)[k]? = some (V.int (l.getD k 0)) := by
  rw [List.getElem?_map, List.getElem?_eq_getElem h, List.getD_eq_getElem?_getD, List.getElem?_eq_getElem h]
  rfl
theorem get_D {l : List Int} {k : Nat} {y : V} (h : (l.map V.int)[k]? = some y) : y = V.int (l.getD k 0) ∧ k < l.length := by
  have hk : k < l.length := by
    have := (List.getElem?_eq_some_iff.mp h).1
    rwa [List.length_map] at this
  rw [get_map hk] at h
  exact ⟨(Option.some.inj h).symm, hk⟩
theorem zeros (m : Nat) : (List.replicate m [V.int 0]).flatten = (List.replicate m (0 : Int)).map V.int := by
  induction m with
  | zero => rfl
  | succ m ih => rw [List.replicate_succ, List.replicate_succ, List.flatten_cons, ih]; rfl
def valN (xs : List Int) (x y : Int) : Nat → Int × Int
  | 0 => (0, 1)
  | i + 1 => ((valN xs x y i).1 * x + xs.getD i 0 * (valN xs x y i).2, (valN xs x y i).2 * y)
theorem valN_B {xs : List Int} {x y : Int} (hx : B 200 x) (hy : B 200 y) (h : ∀ z ∈ xs, B 200 z) : ∀ i, i ≤ 8 → B (1 + 3000 * i) (valN xs x y i).1 ∧ B (1 + 200 * i) (valN xs x y i).2
  | 0, _ => ⟨⟨by show (0 : Int).natAbs < 2 ^ 1; decide, by decide⟩, ⟨by show (1 : Int).natAbs < 2 ^ 1; decide, by decide⟩⟩
  | i + 1, hi => by
    obtain ⟨h1, h2⟩ := valN_B hx hy h i (by omega)
    have h3 : B 200 (xs.getD i 0) := ⟨Nat.lt_of_le_of_lt (getD_le (m := 2 ^ 200 - 1) (fun z hz => Nat.le_sub_one_of_lt (h z hz).1) i) (by decide), by decide⟩
    rw [valN]
    exact ⟨(B.add (B.mul h1 hx) (B.mul h3 h2)).mono (by omega), (B.mul h2 hy).mono (by omega)⟩
def partN (n : Nat) (e p q r s : Int) (i : Nat) : Nat → List Int
  | 0 => [e]
  | t + 1 => prodL (partN n e p q r s i t) (if (0 : Int) + (t : Int) < ((n : Int) - 1) - (i : Int) then [p, r] else [q, s])
def putN (row : List Int) (p q r s : Int) : Nat → List Int
  | 0 => List.replicate row.length 0
  | i + 1 => List.zipWith (· + ·) (putN row p q r s i) (partN row.length (row.getD i 0) p q r s i (row.length - 1))
theorem partN_len (n : Nat) (e p q r s : Int) (i : Nat) : ∀ t, (partN n e p q r s i t).length = t + 1
  | 0 => rfl
  | t + 1 => by
    rw [partN, prodL_len, partN_len n e p q r s i t]
    split <;> rfl
theorem partN_B {n : Nat} {e p q r s : Int} {i : Nat} (he : B 400 e) (hp : B 400 p) (hq : B 400 q) (hr : B 400 r) (hs : B 400 s) : ∀ t, t ≤ 10 → ∀ z ∈ partN n e p q r s i t, B (400 + 500 * t) z
  | 0, _ => fun z hz => by
    rw [partN] at hz
    have : z = e := by simpa using hz
    rw [this]
    exact he
  | t + 1, ht => fun z hz => by
    have ih := partN_B (n := n) (i := i) he hp hq hr hs t (by omega)
    rw [partN] at hz
    refine B.mono (prodL_B (a := 400 + 500 * t) (b := 400) ih (fun y hy => ?_) (by omega) z hz) ?_
    · split at hy <;> simp only [List.mem_cons, List.mem_nil_iff, or_false] at hy <;> rcases hy with rfl | rfl <;> assumption
    · rw [partN_len]
      split <;> simp <;> omega
theorem putN_len (row : List Int) (p q r s : Int) (h : row ≠ []) : ∀ i, (putN row p q r s i).length = row.length
  | 0 => by rw [putN, List.length_replicate]
  | i + 1 => by
    have := List.length_pos_iff.mpr h
    rw [putN, List.length_zipWith, putN_len row p q r s h i, partN_len]
    omega
theorem mem_zip {xs ys : List Int} {z : Int} (h : z ∈ List.zipWith (· + ·) xs ys) : ∃ x ∈ xs, ∃ y ∈ ys, z = x + y := by
  obtain ⟨k, hk, e⟩ := List.getElem_of_mem h
  rw [List.getElem_zipWith] at e
  rw [List.length_zipWith] at hk
  exact ⟨_, List.getElem_mem (by omega), _, List.getElem_mem (by omega), e.symm⟩
theorem putN_B {row : List Int} {p q r s : Int} (h : ∀ e ∈ row, B 400 e) (hl : row.length ≤ 11) (hp : B 400 p) (hq : B 400 q) (hr : B 400 r) (hs : B 400 s) : ∀ i, i ≤ row.length → ∀ z ∈ putN row p q r s i, B (1 + 6000 * i) z
  | 0, _ => fun z hz => by
    rw [putN] at hz
    rw [List.eq_of_mem_replicate hz]
    exact ⟨by decide, by decide⟩
  | i + 1, hi => fun z hz => by
    rw [putN] at hz
    obtain ⟨u, hu, v, hv, rfl⟩ := mem_zip hz
    exact (B.add (putN_B h hl hp hq hr hs i (by omega) u hu) (partN_B (h _ (gD_mem (by omega))) hp hq hr hs _ (by omega) v hv)).mono (by omega)
end Fr
set_option Elab.async false
set_option linter.all false
set_option maxRecDepth 100000
namespace Fr
open PySem PySem.Spec PyProof.Rows L2
def CDivNW (_ j : Int) : Prop := j ≠ 0 ∧ j.natAbs.log2 < 9000
theorem op_fdivNW {X : Cx} : OpR X (binaryOp .FloorDiv) (rI CDivNW fun i j => .int (i.fdiv j)) := opI fun _ _ _ _ _ _ _ hc q => floordiv_int hc.1 q (.inl (PyProof.noPylong_of_log2 hc.2))
structure Bz (M : Nat) (p q one other u v u' v' : Int) : Prop where
  o : 0 ≤ other
  pos : 0 ≤ one ∨ (u = 1 ∧ u' = 0)
  e1 : u * p + v * q = one
  e2 : u' * p + v' * q = other
  d : one * u' - other * u = q ∨ one * u' - other * u = -q
  s : (0 ≤ u ∧ u' ≤ 0) ∨ (u ≤ 0 ∧ 0 ≤ u')
  bu : u.natAbs ≤ q.natAbs + 1
  bu' : u'.natAbs ≤ q.natAbs + 1
  g : Nat.gcd one.natAbs other.natAbs = 1
  b1 : one.natAbs ≤ M
  b2 : other.natAbs ≤ M
  z : q = 0 → other = 0 ∧ v = 0
theorem Bz.init {M : Nat} {p q : Int} (hq : 0 ≤ q) (g : Nat.gcd p.natAbs q.natAbs = 1) (h1 : p.natAbs ≤ M) (h2 : q.natAbs ≤ M) : Bz M p q p q 1 0 0 1 :=
  ⟨hq, .inr ⟨rfl, rfl⟩, by simp, by simp, .inr (by simp), .inl ⟨by decide, by decide⟩, by show 1 ≤ _; omega, by show 0 ≤ _; omega, g, h1, h2, fun h => ⟨h, rfl⟩⟩
theorem Bz.step {M : Nat} {p q one other u v u' v' : Int} (h : Bz M p q one other u v u' v') (ho : other ≠ 0) :
    Bz M p q other (one - one / other * other) u' v' (u - one / other * u') (v - one / other * v') ∧ (one - one / other * other).toNat < other.toNat := by
  have o0 : 0 < other := by have := h.o; omega
  have hr : one - one / other * other = one % other := by
    have := Int.emod_add_mul_ediv one other
    rw [Int.mul_comm other] at this
    omega
  have r0 := Int.emod_nonneg one ho
  have r1 := Int.emod_lt_of_pos one o0
  have s' : (0 ≤ u' ∧ u - one / other * u' ≤ 0) ∨ (u' ≤ 0 ∧ 0 ≤ u - one / other * u') := by
    rcases h.pos with hp | ⟨rfl, rfl⟩
    · have t0 : 0 ≤ one / other := Int.ediv_nonneg hp h.o
      rcases h.s with ⟨a, b⟩ | ⟨a, b⟩
      · right
        have := Int.mul_nonneg t0 (show 0 ≤ -u' by omega)
        rw [Int.mul_neg] at this
        exact ⟨b, by omega⟩
      · left
        have := Int.mul_nonneg t0 b
        exact ⟨b, by omega⟩
    · right
      simp
  have dd : other * (u - one / other * u') - (one - one / other * other) * u' = -(one * u' - other * u) := by grind
  have d' : other * (u - one / other * u') - (one - one / other * other) * u' = q ∨ other * (u - one / other * u') - (one - one / other * other) * u' = -q := by
    rw [dd]
    rcases h.d with e | e <;> rw [e]
    · exact .inr rfl
    · exact .inl (by omega)
  have bu'' : (u - one / other * u').natAbs ≤ q.natAbs + 1 := by
    rw [hr] at d'
    generalize u - one / other * u' = w at *
    have k1 : other * w - (one % other) * u' = q ∨ other * w - (one % other) * u' = -q := d'
    rcases s' with ⟨a, b⟩ | ⟨a, b⟩
    · have m1 := Int.mul_nonneg r0 a
      have m2 := Int.mul_le_mul_of_nonneg_right (show (1 : Int) ≤ other by omega) (show 0 ≤ -w by omega)
      rw [Int.one_mul, Int.mul_neg] at m2
      omega
    · have m1 := Int.mul_nonneg r0 (show 0 ≤ -u' by omega)
      have m2 := Int.mul_le_mul_of_nonneg_right (show (1 : Int) ≤ other by omega) b
      rw [Int.one_mul] at m2
      rw [Int.mul_neg] at m1
      omega
  have gg : Nat.gcd other.natAbs (one - one / other * other).natAbs = 1 := by
    have h1 : Nat.gcd other.natAbs (one - one / other * other).natAbs ∣ other.natAbs := Nat.gcd_dvd_left _ _
    have h2 : Nat.gcd other.natAbs (one - one / other * other).natAbs ∣ (one - one / other * other).natAbs := Nat.gcd_dvd_right _ _
    generalize Nat.gcd other.natAbs (one - one / other * other).natAbs = k at *
    have i1 := Int.ofNat_dvd_left.mpr h1
    have i2 := Int.ofNat_dvd_left.mpr h2
    have i3 : (k : Int) ∣ one := by
      have := Int.dvd_add i2 (Int.dvd_mul_of_dvd_right i1 (b := one / other))
      rwa [show one - one / other * other + one / other * other = one by omega] at this
    have i4 : k ∣ Nat.gcd one.natAbs other.natAbs := Nat.dvd_gcd (Int.ofNat_dvd_left.mp i3) h1
    rw [h.g] at i4
    exact Nat.dvd_one.mp i4
  refine ⟨⟨by rw [hr]; exact r0, .inl h.o, h.e2, ?_, d', s', h.bu', bu'', gg, h.b2, ?_, fun z => absurd (h.z z).1 ho⟩, ?_⟩
  · have a := h.e1
    have b := h.e2
    generalize one / other = t at *
    rw [← a, ← b]
    grind
  · rw [hr]
    have := h.b2
    omega
  · rw [hr]
    omega
theorem Bz.fin {M : Nat} {p q one u v u' v' : Int} (h : Bz M p q one 0 u v u' v') (hp : p.natAbs ≤ M) : (p * u - q * (0 - v) = 1 ∨ p * u - q * (0 - v) = -1) ∧ u.natAbs ≤ q.natAbs + 1 ∧ v.natAbs ≤ M + (q.natAbs + 1) * M := by
  have g := h.g
  rw [show (0 : Int).natAbs = 0 from rfl, Nat.gcd_zero_right] at g
  have e := h.e1
  refine ⟨?_, h.bu, ?_⟩
  · have : p * u - q * (0 - v) = one := by rw [← e]; grind
    rw [this]
    omega
  · by_cases hq : q = 0
    · rw [(h.z hq).2]
      exact Nat.zero_le _
    · have h1 : v.natAbs ≤ (v * q).natAbs := by
        rw [Int.natAbs_mul]
        exact Nat.le_mul_of_pos_right _ (by omega)
      have h2 : v * q = one - u * p := by omega
      have h3 : (u * p).natAbs ≤ (q.natAbs + 1) * M := by
        rw [Int.natAbs_mul]
        exact Nat.mul_le_mul h.bu hp
      have h4 := h.b1
      rw [h2] at h1
      omega
theorem Bz.bv {M : Nat} {p q one other u v u' v' : Int} (h : Bz M p q one other u v u' v') (ho : other ≠ 0) (hp : p.natAbs ≤ M) : v'.natAbs ≤ M + (q.natAbs + 1) * M := by
  have hq : q ≠ 0 := fun z => ho (h.z z).1
  have e := h.e2
  have h1 : v'.natAbs ≤ (v' * q).natAbs := by
    rw [Int.natAbs_mul]
    exact Nat.le_mul_of_pos_right _ (by omega)
  have h2 : v' * q = other - u' * p := by omega
  have h3 : (u' * p).natAbs ≤ (q.natAbs + 1) * M := by
    rw [Int.natAbs_mul]
    exact Nat.mul_le_mul h.bu' hp
  have h4 := h.b2
  rw [h2] at h1
  omega
end Fr
set_option Elab.async false
set_option linter.all false
set_option maxRecDepth 100000
namespace Fr
open PySem PySem.Spec PyProof.Rows L2
@[reducible] def Itk (K : PySem.W.Frag) (k : Bool) (a : Addr) : It := match k with
  | true => Itt K a
  | false => Itl K a
theorem or_slot {K : PySem.W.Frag} {k : Bool} {a : Addr} {xs : List V} {i : Nat} {σ : L2.St} {H : Hp} {R : It → Hp → Prop} (e : σ[i]? = some (some (.ref a))) (h : SqK k K H a xs) (z : R (Itk K k a) H) :
    iList K (tVar i) σ H R ∨ iTup K (tVar i) σ H R := by
  cases k
  · exact .inl ⟨_, e, a, rfl, ⟨xs, h⟩, z⟩
  · exact .inr ⟨_, e, a, rfl, ⟨xs, h⟩, z⟩
section
variable {K : PySem.W.Frag} {k : Bool} {a : Addr} {xs : List V} {g : TG} {tb : TS} {D : Ends} {σ : L2.St} {H : Hp}
theorem for_K (J : Nat → L2.St → Hp → Prop) (start : J 0 σ H) (stays : ∀ i σ H, i ≤ xs.length → J i σ H → SqK k K H a xs)
    (turn : ∀ i x σ H, xs[i]? = some x → J i σ H → g x σ H fun σ2 H2 => tb { D with nx := J (i + 1), ct := J (i + 1), bk := D.nx } σ2 H2)
    (after : ∀ σ H, J xs.length σ H → D.nx σ H) :
    ∃ V : Nat → Nat → L2.St → Hp → Prop, (∃ n, V 0 n σ H) ∧ ∀ i n σ H, V i n σ H → ((Itk K k a).stop i H ∧ D.nx σ H) ∨
      ((Itk K k a).go i H ∧ ∃ N : L2.St → Hp → Prop, (∀ σ1 H1, N σ1 H1 → ∃ n1, n1 < n ∧ V (i + 1) n1 σ1 H1) ∧
        ∀ x H1, (Itk K k a).yld i H x H1 → g x σ H1 fun σ2 H2 => tb { D with nx := N, ct := N, bk := D.nx } σ2 H2) := by
  cases k
  · exact for_list J start stays turn after
  · exact for_tup J start stays turn after
end
section
variable {K : PySem.W.Frag} {S : Addr → Prop} {I : Hp → Prop} {σ : L2.St} {H : Hp} {Q : Addr → Hp → Prop} {te : TE} {vs : List Nat} {g : TG} {tt : TT}
theorem lcK {k : Bool} (m : Fm S I) (i0 : I H) {a : Addr} {xs : List V} (hx : SqK k K H a xs) (ha : ¬ S a) (P : Nat → List V → Hp → Prop) (p0 : ∀ D, H D = none → P 0 [] (upd H D (.lst [])))
    (hs : ∀ D i x acc H', H D = none → xs[i]? = some x → Fx S I H H' → H' D = some (.lst acc) → acc.length ≤ i → P i acc H' → g x (wipe σ vs) H' fun σ2 H2 => wipe σ2 vs = wipe σ vs ∧ tt σ2 H2 fun b H3 =>
      if b = true then te σ2 H3 fun y H4 => ∃ acc, H4 D = some (.lst acc) ∧ acc.length < sizeLine ∧ Cs S I H P D (i + 1) (upd H4 D (.lst (acc ++ [y]))) else Cs S I H P D (i + 1) H3)
    (q : ∀ D H' acc, H D = none → Fx S I H H' → H' D = some (.lst acc) → P xs.length acc H' → Q D H') :
    ∀ D, H D = none → ∃ V : Nat → Nat → Hp → Prop, (∃ n, V 0 n (upd H D (.lst []))) ∧ ∀ i n H, V i n H →
      ((Itk K k a).stop i H ∧ Q D H) ∨ ((Itk K k a).go i H ∧ ∃ N : Hp → Prop, (∀ H1, N H1 → ∃ n1, n1 < n ∧ V (i + 1) n1 H1) ∧ ∀ x H1, (Itk K k a).yld i H x H1 → g x (wipe σ vs) H1 fun σ2 H2 => wipe σ2 vs = wipe σ vs ∧ tt σ2 H2 fun b H3 =>
        if b = true then te σ2 H3 fun y H4 => ∃ acc, H4 D = some (.lst acc) ∧ acc.length < sizeLine ∧ N (upd H4 D (.lst (acc ++ [y]))) else N H3) := by
  cases k
  · exact lcL m i0 hx ha P p0 hs q
  · exact lcT m i0 hx ha P p0 hs q
end
end Fr
set_option Elab.async false
set_option linter.all false
set_option maxRecDepth 100000
namespace K05M
def fv (a b c d x y : Int) : Int := a * x * x * x + b * x * x * y + c * x * y * y + d * y * y * y
def fdisc (a b c d : Int) : Int := b * b * c * c - 4 * a * c * c * c - 4 * b * b * b * d - 27 * a * a * d * d + 18 * a * b * c * d
def fl2 (a b c d p q r s : Int) : Int := 3 * a * p * p * r + b * p * (p * s + 2 * q * r) + c * q * (2 * p * s + q * r) + 3 * d * q * q * s
def fl3 (a b c d p q r s : Int) : Int := 3 * a * p * r * r + b * r * (2 * p * s + q * r) + c * s * (p * s + 2 * q * r) + 3 * d * q * s * s
theorem put1 (a b c d p q r s i j : Int) : fv (fv a b c d p q) (fl2 a b c d p q r s) (fl3 a b c d p q r s) (fv a b c d r s) i j = fv a b c d (i * p + j * r) (i * q + j * s) := by
  unfold fv fl2 fl3
  grind
theorem put2 (a b c d p q r s i j k m : Int) : fl2 (fv a b c d p q) (fl2 a b c d p q r s) (fl3 a b c d p q r s) (fv a b c d r s) i j k m = fl2 a b c d (i * p + j * r) (i * q + j * s) (k * p + m * r) (k * q + m * s) := by
  unfold fv fl2 fl3
  grind
theorem put3 (a b c d p q r s i j k m : Int) : fl3 (fv a b c d p q) (fl2 a b c d p q r s) (fl3 a b c d p q r s) (fv a b c d r s) i j k m = fl3 a b c d (i * p + j * r) (i * q + j * s) (k * p + m * r) (k * q + m * s) := by
  unfold fv fl2 fl3
  grind
theorem disc (a b c d p q r s : Int) : fdisc (fv a b c d p q) (fl2 a b c d p q r s) (fl3 a b c d p q r s) (fv a b c d r s) = (p * s - q * r) * (p * s - q * r) * (p * s - q * r) * (p * s - q * r) * (p * s - q * r) * (p * s - q * r) * fdisc a b c d := by
  unfold fdisc fv fl2 fl3
  grind
theorem fv_mul (e a b c d x y : Int) : fv (e * a) (e * b) (e * c) (e * d) x y = e * fv a b c d x y := by unfold fv; grind
theorem fl2_mul (e a b c d p q r s : Int) : fl2 (e * a) (e * b) (e * c) (e * d) p q r s = e * fl2 a b c d p q r s := by unfold fl2; grind
theorem fl3_mul (e a b c d p q r s : Int) : fl3 (e * a) (e * b) (e * c) (e * d) p q r s = e * fl3 a b c d p q r s := by unfold fl3; grind
theorem disc_neg (a b c d : Int) : fdisc (-1 * a) (-1 * b) (-1 * c) (-1 * d) = fdisc a b c d := by unfold fdisc; grind
theorem det_mul (p q r s i j k m : Int) : (i * p + j * r) * (k * q + m * s) - (i * q + j * s) * (k * p + m * r) = (i * m - j * k) * (p * s - q * r) := by grind
theorem fv_one (a b c d : Int) : fv a b c d 1 0 = a ∧ fv a b c d 0 1 = d ∧ fl2 a b c d 1 0 0 1 = b ∧ fl3 a b c d 1 0 0 1 = c := by
  unfold fv fl2 fl3
  refine ⟨?_, ?_, ?_, ?_⟩ <;> grind
theorem und (p q r s e : Int) (he : e = p * s - q * r) (h : e = 1 ∨ e = -1) : (e * s) * p + (-e * q) * r = 1 ∧ (e * s) * q + (-e * q) * s = 0 ∧ (-e * r) * p + (e * p) * r = 0 ∧ (-e * r) * q + (e * p) * s = 1 := by
  have h1 : e * e = 1 := by rcases h with rfl | rfl <;> decide
  refine ⟨?_, ?_, ?_, ?_⟩ <;> grind
end K05M
namespace Fr
open PySem PySem.Spec PyProof.Rows L2
inductive PrT (K : PySem.W.Frag) (H : Hp) : List V → List (Int × Int) → Prop where
  | nil : PrT K H [] []
  | cons {t : Addr} {x y : Int} {xs : List V} {ps : List (Int × Int)} (h : SqT K H t [.int x, .int y]) (r : PrT K H xs ps) : PrT K H (.ref t :: xs) ((x, y) :: ps)
section
variable {K : PySem.W.Frag} {H H' : Hp}
theorem PrT.ex (e : Ex0 H H') {xs : List V} {ps : List (Int × Int)} (h : PrT K H xs ps) : PrT K H' xs ps := by
  induction h with
  | nil => exact .nil
  | cons h _ ih => exact .cons (Fx.sqT e (fun z => z) h) ih
theorem sqT_upd {a D : Addr} {vs acc ys : List V} (hD : H D = some (.lst acc)) (h : SqT K H a vs) : SqT K (upd H D (.lst ys)) a vs := by
  have ne : ∀ {o : HO}, H a = some o → (∀ z, o ≠ .lst z) → a ≠ D := fun h n z => by
    rw [z, hD] at h
    exact n _ (Option.some.inj h).symm
  rcases h with (h | ⟨o, h⟩) | h
  · exact .inl (.inl (by rw [upd_ne (ne h (by intro z w; cases w))]; exact h))
  · exact .inl (.inr ⟨o, by rw [upd_ne (ne h (by intro z w; cases w))]; exact h⟩)
  · exact .inr h
theorem PrT.upd {D : Addr} {acc ys : List V} (hD : H D = some (.lst acc)) {xs : List V} {ps : List (Int × Int)} (h : PrT K H xs ps) : PrT K (L2.upd H D (.lst ys)) xs ps := by
  induction h with
  | nil => exact .nil
  | cons h _ ih => exact .cons (sqT_upd hD h) ih
theorem PrT.app {xs ys : List V} {ps qs : List (Int × Int)} (h : PrT K H xs ps) (g : PrT K H ys qs) : PrT K H (xs ++ ys) (ps ++ qs) := by
  induction h with
  | nil => exact g
  | cons h _ ih => exact .cons h ih
theorem PrT.snoc {xs : List V} {ps : List (Int × Int)} (h : PrT K H xs ps) {t : Addr} {x y : Int} (g : SqT K H t [.int x, .int y]) : PrT K H (xs ++ [.ref t]) (ps ++ [(x, y)]) := h.app (.cons g .nil)
theorem PrT.len {xs : List V} {ps : List (Int × Int)} (h : PrT K H xs ps) : xs.length = ps.length := by
  induction h with
  | nil => rfl
  | cons _ _ ih => rw [List.length_cons, List.length_cons, ih]
theorem PrT.get {xs : List V} {ps : List (Int × Int)} (h : PrT K H xs ps) : ∀ {i : Nat} {v : V}, xs[i]? = some v → ∃ t x y, v = .ref t ∧ ps[i]? = some (x, y) ∧ SqT K H t [.int x, .int y] := by
  induction h with
  | nil => intro i v hv; simp at hv
  | @cons t x y xs ps h _ ih =>
    intro i v hv
    cases i with
    | zero => exact ⟨t, x, y, (Option.some.inj hv).symm, rfl, h⟩
    | succ i => exact ih hv
theorem PrT.mem {xs : List V} {ps : List (Int × Int)} (h : PrT K H xs ps) : ∀ v ∈ xs, ∃ t x y, v = .ref t ∧ SqT K H t [.int x, .int y] ∧ (x, y) ∈ ps := by
  induction h with
  | nil => intro v hv; cases hv
  | @cons t x y xs ps h _ ih =>
    intro v hv
    rcases List.mem_cons.mp hv with z | z
    · exact ⟨t, x, y, z, h, List.mem_cons_self⟩
    · obtain ⟨t', x', y', h1, h2, h3⟩ := ih v z
      exact ⟨t', x', y', h1, h2, List.mem_cons_of_mem _ h3⟩
theorem sqT_ty {a : Addr} {xs : List V} (h : SqT K H a xs) : TyX K H (.ref a) (.type "tuple") := by
  rcases h with (h | ⟨o, h⟩) | ⟨o, its, n, h1, h2, _⟩
  · exact .base (.tup h)
  · exact .fTuple h
  · exact .kTuple h1 h2
end
def lexP (p q : Int × Int) : Prop := p.1 < q.1 ∨ (p.1 = q.1 ∧ p.2 ≤ q.2)
theorem eq_sorted : ∀ {l1 l2 : List (Int × Int)}, l1.Pairwise lexP → l1.Nodup → l2.Pairwise lexP → l2.Nodup → (∀ a, a ∈ l1 ↔ a ∈ l2) → l1 = l2
  | [], [], _, _, _, _, _ => rfl
  | [], b :: l2, _, _, _, _, h => by have := (h b).mpr List.mem_cons_self; cases this
  | a :: l1, [], _, _, _, _, h => by have := (h a).mp List.mem_cons_self; cases this
  | a :: l1, b :: l2, p1, n1, p2, n2, h => by
    have p1' := List.pairwise_cons.mp p1
    have p2' := List.pairwise_cons.mp p2
    have n1' := List.nodup_cons.mp n1
    have n2' := List.nodup_cons.mp n2
    have e : a = b := by
      rcases List.mem_cons.mp ((h a).mp List.mem_cons_self) with z | z
      · exact z
      · rcases List.mem_cons.mp ((h b).mpr List.mem_cons_self) with y | y
        · exact y.symm
        · have q1 := p2'.1 a z
          have q2 := p1'.1 b y
          unfold lexP at q1 q2
          refine Prod.ext ?_ ?_ <;> omega
    subst e
    have t : l1 = l2 := eq_sorted p1'.2 n1'.2 p2'.2 n2'.2 fun x => by
      constructor
      · intro hx
        rcases List.mem_cons.mp ((h x).mp (List.mem_cons_of_mem _ hx)) with z | z
        · exact absurd (z ▸ hx) n1'.1
        · exact z
      · intro hx
        rcases List.mem_cons.mp ((h x).mpr (List.mem_cons_of_mem _ hx)) with z | z
        · exact absurd (z ▸ hx) n2'.1
        · exact z
    rw [t]
theorem srt_lex {k : V → Int × Int} {ys : List V} (h : SrtO.Srtd (ltP k) ys) : (ys.map k).Pairwise lexP := by
  rw [List.pairwise_map]
  refine List.Pairwise.imp (fun {u v} h => ?_) h
  rcases Int.lt_trichotomy (k u).1 (k v).1 with z | z | z
  · exact .inl z
  · refine .inr ⟨z, ?_⟩
    rcases Int.lt_or_le (k v).2 (k u).2 with w | w
    · have := SrtO.lexB_iff.mpr (Or.inr ⟨z.symm, w⟩)
      rw [show SrtO.lexB (k v) (k u) = false from h] at this
      cases this
    · exact w
  · have := SrtO.lexB_iff.mpr (Or.inl z)
    rw [show SrtO.lexB (k v) (k u) = false from h] at this
    cases this
noncomputable def kvT (K : PySem.W.Frag) (H : Hp) (v : V) : Int × Int := @dite _ (∃ p : Int × Int, ∃ t, v = .ref t ∧ SqT K H t [.int p.1, .int p.2]) (Classical.propDecidable _) (fun h => Classical.choose h) (fun _ => (0, 0))
theorem kvT_at {K : PySem.W.Frag} {H : Hp} {t : Addr} {x y : Int} (h : SqT K H t [.int x, .int y]) : SqT K H t [.int (kvT K H (.ref t)).1, .int (kvT K H (.ref t)).2] := by
  have ex : ∃ p : Int × Int, ∃ t', V.ref t = .ref t' ∧ SqT K H t' [.int p.1, .int p.2] := ⟨(x, y), t, rfl, h⟩
  unfold kvT
  rw [dif_pos ex]
  obtain ⟨t', e1, e2⟩ := Classical.choose_spec ex
  cases e1
  exact e2
def rSortedPT (K : PySem.W.Frag) : List V → Hp → VK → Prop := fun vs H Q => ∃ (a : Addr) (xs : List V) (ps : List (Int × Int)), vs = [V.ref a] ∧ SqL K H a xs ∧ PrT K H xs ps ∧
  ∀ ys qs p, qs.Perm ps → qs.Pairwise lexP → PrT K H ys qs → H p = none → Q (.ref p) (upd H p (.lst ys))
section
variable {X : Cx}
theorem PrT.map_k {pins : List (Addr × Obj)} {σ : L2.St} {H : Hp} {s : Shared} (I : Inv X pins σ H s) {xs : List V} {ps : List (Int × Int)} (h : PrT X.K H xs ps) : xs.map (kvT X.K H) = ps := by
  induction h with
  | nil => rfl
  | cons h _ ih =>
    have e := I.tuple_inj (kvT_at h) h
    injection e with e1 e
    injection e with e2 _
    injection e1 with e1
    injection e2 with e2
    rw [List.map_cons, ih]
    exact congrArg (· :: _) (Prod.ext e1 e2)
theorem PrT.of_mem {K : PySem.W.Frag} {H : Hp} : ∀ {ys : List V}, (∀ v ∈ ys, ∃ t x y, v = .ref t ∧ SqT K H t [.int x, .int y]) → PrT K H ys (ys.map (kvT K H))
  | [], _ => .nil
  | v :: ys, h => by
    obtain ⟨t, x, y, rfl, ht⟩ := h v List.mem_cons_self
    exact .cons (kvT_at ht) (PrT.of_mem fun v hv => h v (List.mem_cons_of_mem _ hv))
theorem cr_sortedPT : CallR X (.builtin "sorted") (rSortedPT X.K) := by
  intro pins s σ H vs us Q I r h
  obtain ⟨a, xs, ps, rfl, hs, hP, q⟩ := h
  have hx : ∀ x ∈ xs, ∃ t, x = V.ref t ∧ SqT X.K H t [.int (kvT X.K H x).1, .int (kvT X.K H x).2] := fun x m => by
    obtain ⟨t, i, j, e, ht, _⟩ := hP.mem x m
    subst e
    exact ⟨t, rfl, kvT_at ht⟩
  obtain ⟨its, rv, hl, hz⟩ := I.list hs
  obtain ⟨u, rfl, ru⟩ := vals1 r
  obtain rfl : u = Value.ref a := ru
  obtain ⟨e1, e2⟩ := refs_back rv fun x m => by
    obtain ⟨t, e, _⟩ := hx x m
    exact ⟨t, e⟩
  refine SrtO.sorted_pairsO (k := fun u => kvT X.K H (backV u)) hl.isList (by rw [← rv.length]; exact hz) (fun v hv => ?_) fun h' d out h1 h2 kp hd hn => ?_
  · obtain ⟨t, rfl⟩ := e2 v hv
    have hm : V.ref t ∈ xs := by rw [e1]; exact List.mem_map.mpr ⟨_, hv, rfl⟩
    obtain ⟨t', e, ht⟩ := hx _ hm
    cases e
    obtain ⟨its2, r2, ⟨o, ho, hc, n, hd⟩, _⟩ := I.tuple ht
    obtain ⟨u1, u2, rfl, ri, rj⟩ := vals2 r2
    obtain ⟨t1, rfl⟩ := ri
    obtain ⟨t2, rfl⟩ := rj
    exact ⟨t, o, t1, t2, n, rfl, ho, hc, hd⟩
  · have h3 : ∀ u ∈ out, ∃ a, u = Value.ref a := fun u hu => e2 u (h2.perm.mem_iff.mp hu)
    obtain ⟨n, hn⟩ := hn
    have hb : SrtO.Stb (ltP (kvT X.K H)) (out.map backV) xs := by
      rw [e1]
      exact SrtO.Stb.map (ltP_swo (kvT X.K H)) backV h2
    have hy : PrT X.K H (out.map backV) ((out.map backV).map (kvT X.K H)) := PrT.of_mem fun v hv => by
      obtain ⟨t, i, j, e, ht, _⟩ := hP.mem v (hb.perm.mem_iff.mp hv)
      exact ⟨t, i, j, e, ht⟩
    refine ⟨.ref d, upd H d (.lst (out.map backV)), I.laid (t' := s.toks) kp hd ⟨?_, out, n, vals_back h3, hn⟩, rfl, q _ _ d ?_ (srt_lex (SrtO.srtd_map h1)) hy (I.hok.fresh hd)⟩
    · rw [hb.len]
      exact hz
    · rw [← hP.map_k I]
      exact hb.perm.map _
end
def pi2 (q : Int × Int) : PyData := .tuple [.int q.1, .int q.2]
theorem pis_ok (fs : List (Int × Int)) : PyData.canLayAll0 (fs.map pi2) = true ∧ PyData.depthAll (fs.map pi2) ≤ 2 := by
  induction fs with
  | nil => exact ⟨rfl, by simp [PyData.depthAll]⟩
  | cons n r ih =>
    refine ⟨?_, ?_⟩
    · rw [List.map_cons, PyData.canLayAll0, ih.1]; simp [pi2, PyData.canLay0, PyData.canLayAll0]
    · rw [List.map_cons, PyData.depthAll]; exact Nat.max_le.mpr ⟨by simp [pi2, PyData.depth, PyData.depthAll], ih.2⟩
theorem shaped_pis (fs : List (Int × Int)) : SeqAt.shaped (.tuple (fs.map pi2)) = true := by
  have h := pis_ok fs
  unfold SeqAt.shaped
  rw [PyData.canLay0, PyData.depth, h.1]
  simp
  omega
theorem eqv_pis : ∀ fs gs : List (Int × Int), PyData.eqvAll (fs.map pi2) (gs.map pi2) = decide (fs = gs)
  | [], [] => rfl
  | [], m :: ms => rfl
  | n :: ns, [] => rfl
  | (a, b) :: ns, (c, d) :: ms => by
    rw [List.map_cons, List.map_cons, PyData.eqvAll, eqv_pis ns ms]
    apply Bool.eq_iff_iff.mpr
    simp [pi2, PyData.eqv, PyData.eqvAll]
theorem PrT.dp {K : PySem.W.Frag} {H : Hp} {xs : List V} {ps : List (Int × Int)} (h : PrT K H xs ps) : DpAll K H xs (ps.map pi2) := by
  induction h with
  | nil => exact .nil
  | cons h _ ih => exact .cons (.tup h (dp_ints [_, _])) ih
theorem eqv_tp (ps qs : List (Int × Int)) : PyData.eqv (.tuple (ps.map pi2)) (.tuple (qs.map pi2)) = decide (ps = qs) := by
  rw [PyData.eqv, eqv_pis]
end Fr
namespace Fr
open PySem PySem.Spec PyProof.Rows L2
def gOr (g1 g2 : TG) : TG := fun v σ H Q => g1 v σ H Q ∨ g2 v σ H Q
theorem pg_or {X : Cx} {e : Expr} {g1 g2 : TG} (h1 : PG X e g1) (h2 : PG X e g2) : PG X e (gOr g1 g2) := by
  refine ⟨fun pins s σ H v u Q I r hw => ?_⟩
  rcases hw with h | h
  · exact h1.run pins s σ H v u Q I r h
  · exact h2.run pins s σ H v u Q I r h
theorem Ex0.none {H H' : Hp} {a : Addr} (e : Ex0 H H') (h : H' a = none) : H a = none := by
  rcases hh : H a with _ | o
  · rfl
  · rw [e.ap hh] at h
    cases h
end Fr
namespace LedM
open K05M (fv fl2 fl3)
def lnl (x y : Int) (ns : List Int) : List Int := (List.range (ns.length + 1)).map fun k => x * (ns ++ [0]).getD k 0 + y * ([0] ++ ns).getD k 0
theorem lnl_len (x y : Int) (ns : List Int) : (lnl x y ns).length = ns.length + 1 := by
  unfold lnl
  rw [List.length_map, List.length_range]
theorem lnl_le {x y : Int} {ns : List Int} {A M : Nat} (hx : x.natAbs ≤ A) (hy : y.natAbs ≤ A) (h : ∀ z ∈ ns, z.natAbs ≤ M) : ∀ z ∈ lnl x y ns, z.natAbs ≤ A * M + A * M := by
  intro z hz
  unfold lnl at hz
  obtain ⟨k, hk, rfl⟩ := List.mem_map.mp hz
  rw [List.mem_range] at hk
  have b1' : ∀ z ∈ ns ++ [0], z.natAbs ≤ M := fun z hz => by
    rcases List.mem_append.mp hz with g | g
    · exact h z g
    · rw [List.mem_singleton] at g; rw [g]; exact Nat.zero_le _
  have b2' : ∀ z ∈ [0] ++ ns, z.natAbs ≤ M := fun z hz => by
    rcases List.mem_append.mp hz with g | g
    · rw [List.mem_singleton] at g; rw [g]; exact Nat.zero_le _
    · exact h z g
  have m1 : (ns ++ [0]).getD k 0 ∈ ns ++ [0] := by rw [List.getD_eq_getElem?_getD, List.getElem?_eq_getElem (show k < (ns ++ [0]).length by rw [List.length_append]; exact hk)]; exact List.getElem_mem _
  have m2 : ([0] ++ ns).getD k 0 ∈ [0] ++ ns := by rw [List.getD_eq_getElem?_getD, List.getElem?_eq_getElem (show k < ([0] ++ ns).length by rw [List.length_append, Nat.add_comm]; exact hk)]; exact List.getElem_mem _
  have f1 : (x * (ns ++ [0]).getD k 0).natAbs ≤ A * M := by rw [Int.natAbs_mul]; exact Nat.mul_le_mul hx (b1' _ m1)
  have f2 : (y * ([0] ++ ns).getD k 0).natAbs ≤ A * M := by rw [Int.natAbs_mul]; exact Nat.mul_le_mul hy (b2' _ m2)
  omega
def lnP (ps : List (Int × Int)) : List Int := ps.foldl (fun ns z => lnl z.1 z.2 ns) [1]
theorem lnP_take {ps : List (Int × Int)} {i : Nat} {z : Int × Int} (h : ps[i]? = some z) : lnP (ps.take (i + 1)) = lnl z.1 z.2 (lnP (ps.take i)) := by
  unfold lnP
  rw [List.take_add_one, h, List.foldl_append]
  rfl
theorem lnP_len (ps : List (Int × Int)) : ∀ i, i ≤ ps.length → (lnP (ps.take i)).length = i + 1
  | 0, _ => rfl
  | i + 1, h => by
    rw [lnP_take (List.getElem?_eq_getElem (show i < ps.length by omega)), lnl_len, lnP_len ps i (by omega)]
theorem lnP_le {ps : List (Int × Int)} (hb : ∀ z ∈ ps, z.1.natAbs ≤ 100000000 ∧ z.2.natAbs ≤ 100000000) : ∀ i, i ≤ ps.length → ∀ z ∈ lnP (ps.take i), z.natAbs ≤ 200000000 ^ i
  | 0, _ => fun z hz => by
    have hz : z ∈ ([1] : List Int) := hz
    rw [List.mem_singleton] at hz
    rw [hz]
    decide
  | i + 1, h => by
    have hi := List.getElem?_eq_getElem (show i < ps.length by omega)
    rw [lnP_take hi]
    have hm := hb _ (List.getElem_mem (show i < ps.length by omega))
    intro z hz
    have := lnl_le hm.1 hm.2 (lnP_le hb i (by omega)) z hz
    rw [Nat.pow_succ]
    omega
def LN (p q r s : Int) (i : Nat) : List (Int × Int) := match i with
  | 0 => [(p, r), (p, r), (p, r)]
  | 1 => [(p, r), (p, r), (q, s)]
  | 2 => [(p, r), (q, s), (q, s)]
  | _ => [(q, s), (q, s), (q, s)]
theorem LN_len (p q r s : Int) (i : Nat) : (LN p q r s i).length = 3 := by
  unfold LN
  split <;> rfl
theorem LN_le {p q r s : Int} {M : Nat} (hp : p.natAbs ≤ M) (hq : q.natAbs ≤ M) (hr : r.natAbs ≤ M) (hs : s.natAbs ≤ M) (i : Nat) : ∀ z ∈ LN p q r s i, z.1.natAbs ≤ M ∧ z.2.natAbs ≤ M := by
  unfold LN
  split <;> (intro z hz; simp only [List.mem_cons, List.mem_nil_iff, or_false] at hz; rcases hz with rfl | rfl | rfl <;> exact ⟨by assumption, by assumption⟩)
def FN (cf : List Int) (p q r s : Int) : Nat → List Int
  | 0 => [0, 0, 0, 0]
  | i + 1 => (List.range 4).map fun k => (FN cf p q r s i).getD k 0 + cf.getD i 0 * (lnP (LN p q r s i)).getD k 0
theorem FN_len (cf : List Int) (p q r s : Int) (i : Nat) : (FN cf p q r s i).length = 4 := by
  cases i
  · rfl
  · show ((List.range 4).map _).length = 4
    rw [List.length_map, List.length_range]
theorem lnP_len3 (p q r s : Int) (i : Nat) : (lnP (LN p q r s i)).length = 4 := by
  have h := lnP_len (LN p q r s i) 3 (by rw [LN_len]; exact Nat.le_refl 3)
  rw [List.take_of_length_le (by rw [LN_len]; exact Nat.le_refl 3)] at h
  exact h
theorem lnP_le3 {p q r s : Int} (hp : p.natAbs ≤ 100000000) (hq : q.natAbs ≤ 100000000) (hr : r.natAbs ≤ 100000000) (hs : s.natAbs ≤ 100000000) (i : Nat) : ∀ z ∈ lnP (LN p q r s i), z.natAbs ≤ 8000000000000000000000000 := by
  have h := lnP_le (LN_le hp hq hr hs i) 3 (by rw [LN_len]; exact Nat.le_refl 3)
  rw [List.take_of_length_le (by rw [LN_len]; exact Nat.le_refl 3)] at h
  exact h
theorem gmem {l : List Int} {k : Nat} (h : k < l.length) : l.getD k 0 ∈ l := by
  rw [List.getD_eq_getElem?_getD, List.getElem?_eq_getElem h]
  exact List.getElem_mem h
theorem FN_le {cf : List Int} {p q r s : Int} {A M : Nat} (hc : ∀ z ∈ cf, z.natAbs ≤ A) (hl : cf.length = 4) (hm : ∀ i, ∀ z ∈ lnP (LN p q r s i), z.natAbs ≤ M) : ∀ i, i ≤ 4 → ∀ z ∈ FN cf p q r s i, z.natAbs ≤ i * (A * M)
  | 0, _ => fun z hz => by
    have hz : z ∈ ([0, 0, 0, 0] : List Int) := hz
    simp only [List.mem_cons, List.mem_nil_iff, or_false, or_self] at hz
    rw [hz]
    exact Nat.zero_le _
  | i + 1, hi => fun z hz => by
    have hz : z ∈ (List.range 4).map fun k => (FN cf p q r s i).getD k 0 + cf.getD i 0 * (lnP (LN p q r s i)).getD k 0 := hz
    obtain ⟨k, hk, rfl⟩ := List.mem_map.mp hz
    rw [List.mem_range] at hk
    have h1 := FN_le hc hl hm i (by omega) _ (gmem (k := k) (by rw [FN_len]; exact hk))
    have h2 := hc _ (gmem (k := i) (by omega))
    have h3 := hm i _ (gmem (k := k) (by rw [lnP_len3]; exact hk))
    have h4 : (cf.getD i 0 * (lnP (LN p q r s i)).getD k 0).natAbs ≤ A * M := by rw [Int.natAbs_mul]; exact Nat.mul_le_mul h2 h3
    rw [Nat.succ_mul]
    omega
theorem FN4 (a b c d p q r s : Int) : FN [a, b, c, d] p q r s 4 = [fv a b c d p q, fl2 a b c d p q r s, fl3 a b c d p q r s, fv a b c d r s] := by
  have e0 : lnP (LN p q r s 0) = [p * p * p, 3 * p * p * r, 3 * p * r * r, r * r * r] := by
    simp only [lnP, LN, lnl, List.foldl, List.length_cons, List.length_nil, List.length_map, List.length_range, List.range_succ, List.range_zero, List.nil_append, List.cons_append, List.map_cons, List.map_nil, List.getD_cons_zero, List.getD_cons_succ, List.cons.injEq, and_true]
    refine ⟨?_, ?_, ?_, ?_⟩ <;> grind
  have e1 : lnP (LN p q r s 1) = [p * p * q, p * (p * s + 2 * q * r), r * (2 * p * s + q * r), r * r * s] := by
    simp only [lnP, LN, lnl, List.foldl, List.length_cons, List.length_nil, List.length_map, List.length_range, List.range_succ, List.range_zero, List.nil_append, List.cons_append, List.map_cons, List.map_nil, List.getD_cons_zero, List.getD_cons_succ, List.cons.injEq, and_true]
    refine ⟨?_, ?_, ?_, ?_⟩ <;> grind
  have e2 : lnP (LN p q r s 2) = [p * q * q, q * (2 * p * s + q * r), s * (p * s + 2 * q * r), r * s * s] := by
    simp only [lnP, LN, lnl, List.foldl, List.length_cons, List.length_nil, List.length_map, List.length_range, List.range_succ, List.range_zero, List.nil_append, List.cons_append, List.map_cons, List.map_nil, List.getD_cons_zero, List.getD_cons_succ, List.cons.injEq, and_true]
    refine ⟨?_, ?_, ?_, ?_⟩ <;> grind
  have e3 : lnP (LN p q r s 3) = [q * q * q, 3 * q * q * s, 3 * q * s * s, s * s * s] := by
    simp only [lnP, LN, lnl, List.foldl, List.length_cons, List.length_nil, List.length_map, List.length_range, List.range_succ, List.range_zero, List.nil_append, List.cons_append, List.map_cons, List.map_nil, List.getD_cons_zero, List.getD_cons_succ, List.cons.injEq, and_true]
    refine ⟨?_, ?_, ?_, ?_⟩ <;> grind
  simp only [FN, e0, e1, e2, e3, List.range_succ, List.range_zero, List.nil_append, List.cons_append, List.map_cons, List.map_nil, List.getD_cons_zero, List.getD_cons_succ, List.cons.injEq, and_true]
  unfold fv fl2 fl3
  refine ⟨?_, ?_, ?_, ?_⟩ <;> grind
def Gn (p q r s : Int) (M : Nat) : Prop := p.natAbs ≤ M ∧ q.natAbs ≤ M ∧ r.natAbs ≤ M ∧ s.natAbs ≤ M ∧ (p * s - q * r = 1 ∨ p * s - q * r = -1)
def Ei (i j k m z : Int) : Prop := (i = 1 ∧ j = z ∧ k = 0 ∧ m = 1) ∨ (i = 1 ∧ j = 0 ∧ k = z ∧ m = 1) ∨ (i = 0 ∧ j = 1 ∧ k = 1 ∧ m = 0) ∨ (i = -1 ∧ j = 0 ∧ k = 0 ∧ m = 1)
theorem Gn.mono {M N : Nat} {p q r s : Int} (h : Gn p q r s M) (hm : M ≤ N) : Gn p q r s N :=
  ⟨Nat.le_trans h.1 hm, Nat.le_trans h.2.1 hm, Nat.le_trans h.2.2.1 hm, Nat.le_trans h.2.2.2.1 hm, h.2.2.2.2⟩
theorem comb {α β x y : Int} {M : Nat} (h : α.natAbs + β.natAbs ≤ 10) (hx : x.natAbs ≤ M) (hy : y.natAbs ≤ M) : (α * x + β * y).natAbs ≤ 10 * M := by
  have h1 := Int.natAbs_add_le (α * x) (β * y)
  rw [Int.natAbs_mul, Int.natAbs_mul] at h1
  have h2 := Nat.mul_le_mul (Nat.le_refl α.natAbs) hx
  have h3 := Nat.mul_le_mul (Nat.le_refl β.natAbs) hy
  have h4 : α.natAbs * M + β.natAbs * M ≤ 10 * M := by rw [← Nat.add_mul]; exact Nat.mul_le_mul h (Nat.le_refl M)
  exact Nat.le_trans h1 (Nat.le_trans (Nat.add_le_add h2 h3) h4)
theorem Gn.step {M : Nat} {p q r s i j k m z : Int} (h : Gn p q r s M) (g : Ei i j k m z) (hz : z.natAbs ≤ 9) : Gn (i * p + j * r) (i * q + j * s) (k * p + m * r) (k * q + m * s) (10 * M) := by
  obtain ⟨h1, h2, h3, h4, h5⟩ := h
  have hd : (i * m - j * k = 1 ∨ i * m - j * k = -1) ∧ i.natAbs + j.natAbs ≤ 10 ∧ k.natAbs + m.natAbs ≤ 10 := by
    clear h5
    rcases g with ⟨rfl, rfl, rfl, rfl⟩ | ⟨rfl, rfl, rfl, rfl⟩ | ⟨rfl, rfl, rfl, rfl⟩ | ⟨rfl, rfl, rfl, rfl⟩
    · exact ⟨.inl (by omega), by omega, by omega⟩
    · exact ⟨.inl (by omega), by omega, by omega⟩
    · exact ⟨.inr (by decide), by decide, by decide⟩
    · exact ⟨.inr (by decide), by decide, by decide⟩
  obtain ⟨hd, b1, b2⟩ := hd
  refine ⟨comb b1 h1 h3, comb b1 h2 h4, comb b2 h1 h3, comb b2 h2 h4, ?_⟩
  rw [K05M.det_mul]
  rcases hd with hd | hd <;> rcases h5 with h5 | h5 <;> rw [hd, h5]
  · exact .inl rfl
  · exact .inr rfl
  · exact .inr rfl
  · exact .inl rfl
end LedM
namespace K52
open PySem PySem.Spec PyProof.Rows L2 Fr
def Un (K : PySem.W.Frag) (H : Hp) (A : Addr) : Prop := ∃ a b c, SqT K H A [.ref a, .ref b, .ref c] ∧ SqT K H a [.int 1, .int 0, .int 0] ∧ SqT K H b [.int 0, .int 1, .int 0] ∧ SqT K H c [.int 0, .int 0, .int 1]
theorem un_k {K : PySem.W.Frag} {H : Hp} {A a b c : Addr} {o0 o1 o2 o3 : Option Addr} {s0 s1 s2 s3 : Array (Option Value)} {n0 n1 n2 n3 : Nat} {t0 t1 t2 t3 t4 t5 t6 t7 t8 : Tok}
    (h0 : K.lookup A = some ⟨.type "tuple", o0, .seq #[.ref a, .ref b, .ref c] n0, s0⟩) (h1 : K.lookup a = some ⟨.type "tuple", o1, .seq #[.int 1 t0, .int 0 t1, .int 0 t2] n1, s1⟩)
    (h2 : K.lookup b = some ⟨.type "tuple", o2, .seq #[.int 0 t3, .int 1 t4, .int 0 t5] n2, s2⟩) (h3 : K.lookup c = some ⟨.type "tuple", o3, .seq #[.int 0 t6, .int 0 t7, .int 1 t8] n3, s3⟩) : Un K H A :=
  ⟨a, b, c, .inr ⟨_, _, _, h0, rfl, rfl, by show 3 ≤ sizeLine; decide, .cons rfl (.cons rfl (.cons rfl .nil))⟩, .inr ⟨_, _, _, h1, rfl, rfl, by show 3 ≤ sizeLine; decide, .cons ⟨_, rfl⟩ (.cons ⟨_, rfl⟩ (.cons ⟨_, rfl⟩ .nil))⟩,
    .inr ⟨_, _, _, h2, rfl, rfl, by show 3 ≤ sizeLine; decide, .cons ⟨_, rfl⟩ (.cons ⟨_, rfl⟩ (.cons ⟨_, rfl⟩ .nil))⟩, .inr ⟨_, _, _, h3, rfl, rfl, by show 3 ≤ sizeLine; decide, .cons ⟨_, rfl⟩ (.cons ⟨_, rfl⟩ (.cons ⟨_, rfl⟩ .nil))⟩⟩
abbrev N_is_any_integer : List Str := ["value"]
theorem sc_is_any_integer : FnScope N_is_any_integer ["value"] (defScope s_is_any_integer) := ⟨rfl, rfl, rfl, by decide +kernel, rfl, by decide +kernel, by decide +kernel⟩
abbrev N_is_short_integer : List Str := ["value"]
theorem sc_is_short_integer : FnScope N_is_short_integer ["value"] (defScope s_is_short_integer) := ⟨rfl, rfl, rfl, by decide +kernel, rfl, by decide +kernel, by decide +kernel⟩
abbrev N_is_between : List Str := ["value", "low", "high"]
theorem sc_is_between : FnScope N_is_between ["value", "low", "high"] (defScope s_is_between) := ⟨rfl, rfl, rfl, by decide +kernel, rfl, by decide +kernel, by decide +kernel⟩
abbrev N_are_short_integers : List Str := ["value", "many", "n"]
theorem sc_are_short_integers : FnScope N_are_short_integers ["value", "many"] (defScope s_are_short_integers) := ⟨rfl, rfl, rfl, by decide +kernel, rfl, by decide +kernel, by decide +kernel⟩
abbrev N_check_integer : List Str := ["value"]
theorem sc_check_integer : FnScope N_check_integer ["value"] (defScope s_check_integer) := ⟨rfl, rfl, rfl, by decide +kernel, rfl, by decide +kernel, by decide +kernel⟩
abbrev N_check_between : List Str := ["value", "low", "high"]
theorem sc_check_between : FnScope N_check_between ["value", "low", "high"] (defScope s_check_between) := ⟨rfl, rfl, rfl, by decide +kernel, rfl, by decide +kernel, by decide +kernel⟩
abbrev N_power_at : List Str := ["base", "exponent", "prime", "result", "square", "left"]
theorem sc_power_at : FnScope N_power_at ["base", "exponent", "prime"] (defScope s_power_at) := ⟨rfl, rfl, rfl, by decide +kernel, rfl, by decide +kernel, by decide +kernel⟩
abbrev N_shared_divisor : List Str := ["numbers", "shared", "number"]
theorem sc_shared_divisor : FnScope N_shared_divisor ["numbers"] (defScope s_shared_divisor) := ⟨rfl, rfl, rfl, by decide +kernel, rfl, by decide +kernel, by decide +kernel⟩
abbrev N_is_prime : List Str := ["number", "divisor"]
theorem sc_is_prime : FnScope N_is_prime ["number"] (defScope s_is_prime) := ⟨rfl, rfl, rfl, by decide +kernel, rfl, by decide +kernel, by decide +kernel⟩
abbrev N_check_prime : List Str := ["number"]
theorem sc_check_prime : FnScope N_check_prime ["number"] (defScope s_check_prime) := ⟨rfl, rfl, rfl, by decide +kernel, rfl, by decide +kernel, by decide +kernel⟩
abbrev N_form_value : List Str := ["coefficients", "x", "y", "a", "b", "c", "d"]
theorem sc_form_value : FnScope N_form_value ["coefficients", "x", "y"] (defScope s_form_value) := ⟨rfl, rfl, rfl, by decide +kernel, rfl, by decide +kernel, by decide +kernel⟩
abbrev N_form_discriminant : List Str := ["coefficients", "a", "b", "c", "d"]
theorem sc_form_discriminant : FnScope N_form_discriminant ["coefficients"] (defScope s_form_discriminant) := ⟨rfl, rfl, rfl, by decide +kernel, rfl, by decide +kernel, by decide +kernel⟩
abbrev N_form_hessian : List Str := ["coefficients", "a", "b", "c", "d"]
theorem sc_form_hessian : FnScope N_form_hessian ["coefficients"] (defScope s_form_hessian) := ⟨rfl, rfl, rfl, by decide +kernel, rfl, by decide +kernel, by decide +kernel⟩
abbrev N_check_form : List Str := ["value"]
theorem sc_check_form : FnScope N_check_form ["value"] (defScope s_check_form) := ⟨rfl, rfl, rfl, by decide +kernel, rfl, by decide +kernel, by decide +kernel⟩
abbrev N_form_of : List Str := ["coefficients", "form"]
theorem sc_form_of : FnScope N_form_of ["coefficients"] (defScope s_form_of) := ⟨rfl, rfl, rfl, by decide +kernel, rfl, by decide +kernel, by decide +kernel⟩
abbrev N_Form___init__ : List Str := ["self", "coefficients"]
theorem sc_Form___init__ : FnScope N_Form___init__ ["self", "coefficients"] (defScope s_Form___init__) := ⟨rfl, rfl, rfl, by decide +kernel, rfl, by decide +kernel, by decide +kernel⟩
abbrev N_Form_coefficients : List Str := ["self"]
theorem sc_Form_coefficients : FnScope N_Form_coefficients ["self"] (defScope s_Form_coefficients) := ⟨rfl, rfl, rfl, by decide +kernel, rfl, by decide +kernel, by decide +kernel⟩
abbrev N_Form___call__ : List Str := ["self", "x", "y"]
theorem sc_Form___call__ : FnScope N_Form___call__ ["self", "x", "y"] (defScope s_Form___call__) := ⟨rfl, rfl, rfl, by decide +kernel, rfl, by decide +kernel, by decide +kernel⟩
abbrev N_Form___eq__ : List Str := ["self", "other"]
theorem sc_Form___eq__ : FnScope N_Form___eq__ ["self", "other"] (defScope s_Form___eq__) := ⟨rfl, rfl, rfl, by decide +kernel, rfl, by decide +kernel, by decide +kernel⟩
abbrev N_places_of_roots : List Str := ["coefficients", "prime", "a", "b", "c", "d", "found", "number", "x"]
theorem sc_places_of_roots : FnScope N_places_of_roots ["coefficients", "prime"] (defScope s_places_of_roots) := ⟨rfl, rfl, rfl, by decide +kernel, rfl, by decide +kernel, by decide +kernel⟩
abbrev N_value_at : List Str := ["row", "x", "prime", "result", "number"]
theorem sc_value_at : FnScope N_value_at ["row", "x", "prime"] (defScope s_value_at) := ⟨rfl, rfl, rfl, by decide +kernel, rfl, by decide +kernel, by decide +kernel⟩
abbrev N_less_root : List Str := ["row", "x", "prime", "found", "last", "number"]
theorem sc_less_root : FnScope N_less_root ["row", "x", "prime"] (defScope s_less_root) := ⟨rfl, rfl, rfl, by decide +kernel, rfl, by decide +kernel, by decide +kernel⟩
abbrev N_times_at_end : List Str := ["row", "times"]
theorem sc_times_at_end : FnScope N_times_at_end ["row"] (defScope s_times_at_end) := ⟨rfl, rfl, rfl, by decide +kernel, rfl, by decide +kernel, by decide +kernel⟩
abbrev N_root_times : List Str := ["coefficients", "prime", "row", "found", "place", "times", "number"]
theorem sc_root_times : FnScope N_root_times ["coefficients", "prime"] (defScope s_root_times) := ⟨rfl, rfl, rfl, by decide +kernel, rfl, by decide +kernel, by decide +kernel⟩
abbrev N_kind_by_roots : List Str := ["coefficients", "prime", "roots", "rest"]
theorem sc_kind_by_roots : FnScope N_kind_by_roots ["coefficients", "prime"] (defScope s_kind_by_roots) := ⟨rfl, rfl, rfl, by decide +kernel, rfl, by decide +kernel, by decide +kernel⟩
abbrev N_kind_of : List Str := ["coefficients", "prime", "short", "number", "entry"]
theorem sc_kind_of : FnScope N_kind_of ["coefficients", "prime"] (defScope s_kind_of) := ⟨rfl, rfl, rfl, by decide +kernel, rfl, by decide +kernel, by decide +kernel⟩
abbrev N_check_both : List Str := ["form", "prime"]
theorem sc_check_both : FnScope N_check_both ["form", "prime"] (defScope s_check_both) := ⟨rfl, rfl, rfl, by decide +kernel, rfl, by decide +kernel, by decide +kernel⟩
abbrev N_kind_at : List Str := ["form", "prime"]
theorem sc_kind_at : FnScope N_kind_at ["form", "prime"] (defScope s_kind_at) := ⟨rfl, rfl, rfl, by decide +kernel, rfl, by decide +kernel, by decide +kernel⟩
abbrev N_kinds_to : List Str := ["form", "most", "prime"]
theorem sc_kinds_to : FnScope N_kinds_to ["form", "most"] (defScope s_kinds_to) := ⟨rfl, rfl, rfl, by decide +kernel, rfl, by decide +kernel, by decide +kernel⟩
abbrev N_l_crock : List Str := ["_law_script", "_law_turn", "_law_cell", "_law_great"]
theorem sc_l_crock : FnScope N_l_crock ["_law_script", "_law_turn"] (defScope s_l_crock) := ⟨rfl, rfl, rfl, by decide +kernel, rfl, by decide +kernel, by decide +kernel⟩
abbrev N_l_scoop : List Str := ["_law_crock_here", "_law_many", "_law_found", "_law_one", "_law_two"]
theorem sc_l_scoop : FnScope N_l_scoop ["_law_crock_here", "_law_many"] (defScope s_l_scoop) := ⟨rfl, rfl, rfl, by decide +kernel, rfl, by decide +kernel, by decide +kernel⟩
abbrev N_l_choose : List Str := ["_law_crock_here", "_law_items"]
theorem sc_l_choose : FnScope N_l_choose ["_law_crock_here", "_law_items"] (defScope s_l_choose) := ⟨rfl, rfl, rfl, by decide +kernel, rfl, by decide +kernel, by decide +kernel⟩
abbrev N_l_lines : List Str := ["_law_lines_here", "_law_found", "_law_one", "_law_other", "_law_left", "_law_right_here"]
theorem sc_l_lines : FnScope N_l_lines ["_law_lines_here"] (defScope s_l_lines) := ⟨rfl, rfl, rfl, by decide +kernel, rfl, by decide +kernel, by decide +kernel⟩
abbrev N_l_led : List Str := ["_law_form", "_law_change_here", "_law_p", "_law_q", "_law_r", "_law_s", "_law_first", "_law_second", "_law_found", "_law_at_here", "_law_entry", "_law_lines_here", "_law_sense", "_law_one", "_law_more"]
theorem sc_l_led : FnScope N_l_led ["_law_form", "_law_change_here"] (defScope s_l_led) := ⟨rfl, rfl, rfl, by decide +kernel, rfl, by decide +kernel, by decide +kernel⟩
abbrev N_l_discriminant : List Str := ["_law_form", "_law_a", "_law_b", "_law_c", "_law_d", "_law_first"]
theorem sc_l_discriminant : FnScope N_l_discriminant ["_law_form"] (defScope s_l_discriminant) := ⟨rfl, rfl, rfl, by decide +kernel, rfl, by decide +kernel, by decide +kernel⟩
abbrev N_l_at : List Str := ["_law_form", "_law_x", "_law_y", "_law_a", "_law_b", "_law_c", "_law_d"]
theorem sc_l_at : FnScope N_l_at ["_law_form", "_law_x", "_law_y"] (defScope s_l_at) := ⟨rfl, rfl, rfl, by decide +kernel, rfl, by decide +kernel, by decide +kernel⟩
abbrev N_l_change : List Str := ["_law_crock_here", "_law_most", "_law_times", "_law_found", "_law_turn", "_law_way", "_law_number", "_law_one", "_law_p", "_law_q", "_law_r", "_law_s", "_law_i", "_law_j", "_law_k", "_law_m", "_law_upper"]
theorem sc_l_change : FnScope N_l_change ["_law_crock_here", "_law_most", "_law_times"] (defScope s_l_change) := ⟨rfl, rfl, rfl, by decide +kernel, rfl, by decide +kernel, by decide +kernel⟩
abbrev N_l_kind : List Str := ["_law_form", "_law_prime", "_law_rests", "_law_a", "_law_b", "_law_c", "_law_d", "_law_found", "_law_one", "_law_x"]
theorem sc_l_kind : FnScope N_l_kind ["_law_form", "_law_prime"] (defScope s_l_kind) := ⟨rfl, rfl, rfl, by decide +kernel, rfl, by decide +kernel, by decide +kernel⟩
abbrev N_l_counts : List Str := ["_law_form", "_law_prime", "_law_a", "_law_b", "_law_c", "_law_d", "_law_alike", "_law_noughts", "_law_x", "_law_y", "_law_high", "_law_low", "_law_plain", "_law_u", "_law_square", "_law_one"]
theorem sc_l_counts : FnScope N_l_counts ["_law_form", "_law_prime"] (defScope s_l_counts) := ⟨rfl, rfl, rfl, by decide +kernel, rfl, by decide +kernel, by decide +kernel⟩
abbrev N_l_drawn : List Str := ["_law_crock_here", "_law_most", "_law_way", "_law_numbers", "_law_at_here", "_law_one"]
theorem sc_l_drawn : FnScope N_l_drawn ["_law_crock_here"] (defScope s_l_drawn) := ⟨rfl, rfl, rfl, by decide +kernel, rfl, by decide +kernel, by decide +kernel⟩
abbrev N_l_right : List Str := ["_law_crock_here", "_law_form", "_law_other", "_law_prime", "_law_due", "_law_sizes", "_law_told"]
theorem sc_l_right : FnScope N_l_right ["_law_crock_here"] (defScope s_l_right) := ⟨rfl, rfl, rfl, by decide +kernel, rfl, by decide +kernel, by decide +kernel⟩
abbrev N_law : List Str := ["_law_script", "_law_turn", "_law_crock_here", "_law_rows", "_law_row", "_law_prime"]
theorem sc_law : FnScope N_law ["_law_script"] (defScope s_law) := ⟨rfl, rfl, rfl, by decide +kernel, rfl, by decide +kernel, by decide +kernel⟩
structure Txt (K : PySem.W.Frag) (mg : Str → Option Value) (C_Form : Addr) : Prop where
  g_Form : mg "Form" = some (.ref C_Form)
  cl_Form : Cls K C_Form
  ty_Form : TyI K C_Form
  na_Form_coefficients : NoAttr K C_Form "_coefficients"
  d_is_any_integer : ∃ f fd, mg "is_any_integer" = some (.ref f) ∧ Fun K "is_any_integer" "is_any_integer" s_is_any_integer f fd
  d_is_short_integer : ∃ f fd, mg "is_short_integer" = some (.ref f) ∧ Fun K "is_short_integer" "is_short_integer" s_is_short_integer f fd
  d_is_between : ∃ f fd, mg "is_between" = some (.ref f) ∧ Fun K "is_between" "is_between" s_is_between f fd
  d_are_short_integers : ∃ f fd, mg "are_short_integers" = some (.ref f) ∧ Fun K "are_short_integers" "are_short_integers" s_are_short_integers f fd
  d_check_integer : ∃ f fd, mg "check_integer" = some (.ref f) ∧ Fun K "check_integer" "check_integer" s_check_integer f fd
  d_check_between : ∃ f fd, mg "check_between" = some (.ref f) ∧ Fun K "check_between" "check_between" s_check_between f fd
  d_power_at : ∃ f fd, mg "power_at" = some (.ref f) ∧ Fun K "power_at" "power_at" s_power_at f fd
  d_shared_divisor : ∃ f fd, mg "shared_divisor" = some (.ref f) ∧ Fun K "shared_divisor" "shared_divisor" s_shared_divisor f fd
  d_is_prime : ∃ f fd, mg "is_prime" = some (.ref f) ∧ Fun K "is_prime" "is_prime" s_is_prime f fd
  d_check_prime : ∃ f fd, mg "check_prime" = some (.ref f) ∧ Fun K "check_prime" "check_prime" s_check_prime f fd
  d_form_value : ∃ f fd, mg "form_value" = some (.ref f) ∧ Fun K "form_value" "form_value" s_form_value f fd
  d_form_discriminant : ∃ f fd, mg "form_discriminant" = some (.ref f) ∧ Fun K "form_discriminant" "form_discriminant" s_form_discriminant f fd
  d_form_hessian : ∃ f fd, mg "form_hessian" = some (.ref f) ∧ Fun K "form_hessian" "form_hessian" s_form_hessian f fd
  d_check_form : ∃ f fd, mg "check_form" = some (.ref f) ∧ Fun K "check_form" "check_form" s_check_form f fd
  d_form_of : ∃ f fd, mg "form_of" = some (.ref f) ∧ Fun K "form_of" "form_of" s_form_of f fd
  e_Form___init__ : ∃ (p f : Addr) (fd : FuncData), Mk K C_Form f ∧ Fun K "__init__" "Form.__init__" s_Form___init__ f fd
  e_Form_coefficients : ∃ (p f : Addr) (fd : FuncData), PropOf K C_Form "coefficients" p f ∧ Fun K "coefficients" "Form.coefficients" s_Form_coefficients f fd
  e_Form___call__ : ∃ (p f : Addr) (fd : FuncData), StX.CallO K C_Form f ∧ Fun K "__call__" "Form.__call__" s_Form___call__ f fd
  e_Form___eq__ : ∃ (p f : Addr) (fd : FuncData), EqC K C_Form f ∧ Fun K "__eq__" "Form.__eq__" s_Form___eq__ f fd
  d_places_of_roots : ∃ f fd, mg "places_of_roots" = some (.ref f) ∧ Fun K "places_of_roots" "places_of_roots" s_places_of_roots f fd
  d_value_at : ∃ f fd, mg "value_at" = some (.ref f) ∧ Fun K "value_at" "value_at" s_value_at f fd
  d_less_root : ∃ f fd, mg "less_root" = some (.ref f) ∧ Fun K "less_root" "less_root" s_less_root f fd
  d_times_at_end : ∃ f fd, mg "times_at_end" = some (.ref f) ∧ Fun K "times_at_end" "times_at_end" s_times_at_end f fd
  d_root_times : ∃ f fd, mg "root_times" = some (.ref f) ∧ Fun K "root_times" "root_times" s_root_times f fd
  d_kind_by_roots : ∃ f fd, mg "kind_by_roots" = some (.ref f) ∧ Fun K "kind_by_roots" "kind_by_roots" s_kind_by_roots f fd
  d_kind_of : ∃ f fd, mg "kind_of" = some (.ref f) ∧ Fun K "kind_of" "kind_of" s_kind_of f fd
  d_check_both : ∃ f fd, mg "check_both" = some (.ref f) ∧ Fun K "check_both" "check_both" s_check_both f fd
  d_kind_at : ∃ f fd, mg "kind_at" = some (.ref f) ∧ Fun K "kind_at" "kind_at" s_kind_at f fd
  d_kinds_to : ∃ f fd, mg "kinds_to" = some (.ref f) ∧ Fun K "kinds_to" "kinds_to" s_kinds_to f fd
  d_l_crock : ∃ f fd, mg "_law_crock" = some (.ref f) ∧ Fun K "_law_crock" "_law_crock" s_l_crock f fd
  d_l_scoop : ∃ f fd, mg "_law_scoop" = some (.ref f) ∧ Fun K "_law_scoop" "_law_scoop" s_l_scoop f fd
  d_l_choose : ∃ f fd, mg "_law_choose" = some (.ref f) ∧ Fun K "_law_choose" "_law_choose" s_l_choose f fd
  d_l_lines : ∃ f fd, mg "_law_lines" = some (.ref f) ∧ Fun K "_law_lines" "_law_lines" s_l_lines f fd
  d_l_led : ∃ f fd, mg "_law_led" = some (.ref f) ∧ Fun K "_law_led" "_law_led" s_l_led f fd
  d_l_discriminant : ∃ f fd, mg "_law_discriminant" = some (.ref f) ∧ Fun K "_law_discriminant" "_law_discriminant" s_l_discriminant f fd
  d_l_at : ∃ f fd, mg "_law_at" = some (.ref f) ∧ Fun K "_law_at" "_law_at" s_l_at f fd
  d_l_change : ∃ f fd, mg "_law_change" = some (.ref f) ∧ Fun K "_law_change" "_law_change" s_l_change f fd
  d_l_kind : ∃ f fd, mg "_law_kind" = some (.ref f) ∧ Fun K "_law_kind" "_law_kind" s_l_kind f fd
  d_l_counts : ∃ f fd, mg "_law_counts" = some (.ref f) ∧ Fun K "_law_counts" "_law_counts" s_l_counts f fd
  d_l_drawn : ∃ f fd, mg "_law_drawn" = some (.ref f) ∧ Fun K "_law_drawn" "_law_drawn" s_l_drawn f fd
  d_l_right : ∃ f fd, mg "_law_right" = some (.ref f) ∧ Fun K "_law_right" "_law_right" s_l_right f fd
  d_law : ∃ f fd, mg "law" = some (.ref f) ∧ Fun K "law" "law" s_law f fd
  b_abs : mg "abs" = none
  b_all : mg "all" = none
  b_any : mg "any" = none
  b_bool : mg "bool" = none
  b_dict : mg "dict" = none
  b_enumerate : mg "enumerate" = none
  b_int : mg "int" = none
  b_isinstance : mg "isinstance" = none
  b_len : mg "len" = none
  b_list : mg "list" = none
  b_max : mg "max" = none
  b_min : mg "min" = none
  b_range : mg "range" = none
  b_sorted : mg "sorted" = none
  b_sum : mg "sum" = none
  b_tuple : mg "tuple" = none
  b_zip : mg "zip" = none
  x_GREAT : ∃ t, mg "GREAT" = some (.int (1000) t)
  x_GREATEST_PRIME : ∃ t, mg "GREATEST_PRIME" = some (.int (10000) t)
  x_LIMIT : ∃ t, mg "LIMIT" = some (.int (1000000000000000000000000000000000000000000000000000000000000) t)
  x_MAX_KINDS : ∃ t, mg "MAX_KINDS" = some (.int (1000) t)
  x_MAX_PRIME : ∃ t, mg "MAX_PRIME" = some (.int (1000000) t)
  m_gcd : mg "gcd" = some (.builtin "math.gcd")
  m_isqrt : mg "isqrt" = some (.builtin "math.isqrt")
  k_END : ∃ A, mg "END" = some (.ref A) ∧ ∀ H, SqT K H A [.int 1, .int 0]
def Short (i : Int) : Prop := -1000000000000000000000000000000000000000000000000000000000000 < i ∧ i < 1000000000000000000000000000000000000000000000000000000000000
theorem Short.b {i : Int} (h : Short i) : B 200 i := ⟨by have := h.1; have := h.2; omega, by decide⟩
def Ti (H : Hp) (a : Addr) (ns : List Int) : Prop := H a = some (.tup (ns.map V.int))
def T4 (H : Hp) (a : Addr) (p q r s : Int) : Prop := ∃ t1 t2, H a = some (.tup [.ref t1, .ref t2]) ∧ H t1 = some (.tup [.int p, .int q]) ∧ H t2 = some (.tup [.int r, .int s])
def Tq (K : PySem.W.Frag) (H : Hp) (a : Addr) (ns : List Int) : Prop := SqT K H a (ns.map V.int)
theorem Ti.q {K : PySem.W.Frag} {H : Hp} {a : Addr} {ns : List Int} (h : Ti H a ns) : Tq K H a ns := SqT.of h
def T33 (H : Hp) (a : Addr) (r1 r2 r3 : List Int) : Prop := ∃ t1 t2 t3, H a = some (.tup [.ref t1, .ref t2, .ref t3]) ∧ Ti H t1 r1 ∧ Ti H t2 r2 ∧ Ti H t3 r3
def L33 (H : Hp) (a : Addr) (r1 r2 r3 : List Int) : Prop := ∃ t1 t2 t3, H a = some (.lst [.ref t1, .ref t2, .ref t3]) ∧ Ti H t1 r1 ∧ Ti H t2 r2 ∧ Ti H t3 r3
def M33 (K : PySem.W.Frag) (H : Hp) (a : Addr) (r1 r2 r3 : List Int) : Prop := ∃ t1 t2 t3, H a = some (.lst [.ref t1, .ref t2, .ref t3]) ∧ Tq K H t1 r1 ∧ Tq K H t2 r2 ∧ Tq K H t3 r3
def FormAt (C : Addr) (H : Hp) (x : Addr) (ns : List Int) : Prop := ∃ dx t, H x = some (.ins C dx [(("_coefficients" : Str), .ref t)]) ∧ Ti H t ns
def ChOk (p q r s : Int) : Prop := Short p ∧ Short q ∧ Short r ∧ Short s ∧ (p * s - q * r = 1 ∨ p * s - q * r = -1)
theorem Ti.ex {H H' : Hp} {a : Addr} {ns : List Int} (h : Ti H a ns) (e : ∀ b xs, H b = some (.tup xs) → H' b = some (.tup xs)) : Ti H' a ns := e _ _ h
theorem T4.ex {H H' : Hp} {a : Addr} {p q r s : Int} (h : T4 H a p q r s) (e : ∀ b xs, H b = some (.tup xs) → H' b = some (.tup xs)) : T4 H' a p q r s := by
  obtain ⟨t1, t2, h0, h1, h2⟩ := h
  exact ⟨t1, t2, e _ _ h0, e _ _ h1, e _ _ h2⟩
theorem get_int {ns : List Int} {i : Nat} {x : V} (hx : (ns.map V.int)[i]? = some x) : ∃ n, ns[i]? = some n ∧ x = V.int n := by
  rw [List.getElem?_map] at hx
  cases e : ns[i]? with
  | none => rw [e] at hx; cases hx
  | some z => rw [e] at hx; exact ⟨z, rfl, (Option.some.inj hx).symm⟩
def gcdL (ns : List Int) : Nat := ns.foldl (fun g n => Nat.gcd g n.natAbs) 0
theorem gcdL_take {ns : List Int} {i : Nat} {n : Int} (h : ns[i]? = some n) : gcdL (ns.take (i + 1)) = Nat.gcd (gcdL (ns.take i)) n.natAbs := by
  unfold gcdL
  rw [List.take_add_one, h, List.foldl_append]
  rfl
def fv (a b c d x y : Int) : Int := a * x * x * x + b * x * x * y + c * x * y * y + d * y * y * y
def fdisc (a b c d : Int) : Int := b * b * c * c - 4 * a * c * c * c - 4 * b * b * b * d - 27 * a * a * d * d + 18 * a * b * c * d
def fl2 (a b c d p q r s : Int) : Int := 3 * a * p * p * r + b * p * (p * s + 2 * q * r) + c * q * (2 * p * s + q * r) + 3 * d * q * q * s
def fl3 (a b c d p q r s : Int) : Int := 3 * a * p * r * r + b * r * (2 * p * s + q * r) + c * s * (p * s + 2 * q * r) + 3 * d * q * s * s
def fled (a b c d p q r s : Int) : List Int := [(p * s - q * r) * fv a b c d p q, (p * s - q * r) * fl2 a b c d p q r s, (p * s - q * r) * fl3 a b c d p q r s, (p * s - q * r) * fv a b c d r s]
theorem un4 {K : PySem.W.Frag} {i j k l : Nat} {σ : L2.St} {H : Hp} {a : Addr} {p q r s : Int} {Q : L2.St → Hp → Prop} (h : T4 H a p q r s)
    (z : Q ((((σ.set i (some (.int p))).set j (some (.int q))).set k (some (.int r))).set l (some (.int s))) H) :
    gTup K 2 (gCons (gTup K 2 (gCons (gName i) (gCons (gName j) gNil))) (gCons (gTup K 2 (gCons (gName k) (gCons (gName l) gNil))) gNil)) (.ref a) σ H Q := by
  obtain ⟨t1, t2, h0, h1, h2⟩ := h
  refine ⟨a, _, rfl, SqT.of h0, rfl, _, _, rfl, ?_⟩
  refine ⟨t1, _, rfl, SqT.of h1, rfl, _, _, rfl, ?_⟩
  refine ⟨_, _, rfl, ⟨rfl, ?_⟩⟩
  refine ⟨_, _, rfl, ?_⟩
  refine ⟨t2, _, rfl, SqT.of h2, rfl, _, _, rfl, ?_⟩
  exact ⟨_, _, rfl, ⟨rfl, ⟨rfl, z⟩⟩⟩
theorem unI4 {K : PySem.W.Frag} {i j k l : Nat} {σ : L2.St} {H : Hp} {t : Addr} {a b c d : Int} {Q : L2.St → Hp → Prop} (h : Ti H t [a, b, c, d])
    (z : Q ((((σ.set i (some (.int a))).set j (some (.int b))).set k (some (.int c))).set l (some (.int d))) H) :
    gTup K 4 (gCons (gName i) (gCons (gName j) (gCons (gName k) (gCons (gName l) gNil)))) (.ref t) σ H Q :=
  ⟨t, _, rfl, SqT.of h, rfl, _, _, rfl, _, _, rfl, _, _, rfl, _, _, rfl, rfl, z⟩
theorem t4_new {H : Hp} {t1 t2 x : Addr} {p q r s : Int} (n1 : H t1 = none) (n2 : upd H t1 (.tup [.int p, .int q]) t2 = none) (n3 : upd (upd H t1 (.tup [.int p, .int q])) t2 (.tup [.int r, .int s]) x = none) :
    Ex0 H (upd (upd (upd H t1 (.tup [.int p, .int q])) t2 (.tup [.int r, .int s])) x (.tup [.ref t1, .ref t2])) ∧ T4 (upd (upd (upd H t1 (.tup [.int p, .int q])) t2 (.tup [.int r, .int s])) x (.tup [.ref t1, .ref t2])) x p q r s :=
  ⟨((Ex0.new n1).trans (Ex0.new n2)).trans (Ex0.new n3), t1, t2, upd_same, Ex0.ap (Ex0.new n3) (Ex0.ap (Ex0.new n2) upd_same), Ex0.ap (Ex0.new n3) upd_same⟩
theorem Ex0.t4 {H H' : Hp} {a : Addr} {p q r s : Int} (e : Ex0 H H') (h : T4 H a p q r s) : T4 H' a p q r s := h.ex fun _ _ z => Ex0.ap e z
theorem Ex0.ti {H H' : Hp} {a : Addr} {ns : List Int} (e : Ex0 H H') (h : Ti H a ns) : Ti H' a ns := Ex0.ap e h
theorem Ex0.fo {C : Addr} {H H' : Hp} {x : Addr} {ns : List Int} (e : Ex0 H H') (h : FormAt C H x ns) : FormAt C H' x ns := by
  obtain ⟨dx, t, h1, h2⟩ := h
  exact ⟨dx, t, Ex0.ap e h1, Ex0.ap e h2⟩
def RingAt (C C_R : Addr) (H : Hp) (r : Addr) (ns : List Int) : Prop := ∃ dr x, H r = some (.ins C_R dr [(("_form" : Str), .ref x)]) ∧ FormAt C H x ns
def ElAt (C C_R C_E : Addr) (H : Hp) (e : Addr) (ns : List Int) (u y z b : Int) : Prop := ∃ de r t, H e = some (.ins C_E de [(("_ring" : Str), .ref r), (("_entries" : Str), .ref t), (("_bottom" : Str), .int b)]) ∧ RingAt C C_R H r ns ∧ Ti H t [u, y, z]
theorem Ex0.tq {K : PySem.W.Frag} {H H' : Hp} {a : Addr} {ns : List Int} (e : Ex0 H H') (h : Tq K H a ns) : Tq K H' a ns := e.sqT (fun z => z) h
theorem Ex0.t33 {H H' : Hp} {a : Addr} {r1 r2 r3 : List Int} (e : Ex0 H H') (h : T33 H a r1 r2 r3) : T33 H' a r1 r2 r3 := by
  obtain ⟨t1, t2, t3, h0, h1, h2, h3⟩ := h
  exact ⟨t1, t2, t3, Ex0.ap e h0, Ex0.ap e h1, Ex0.ap e h2, Ex0.ap e h3⟩
theorem Ex0.l33 {H H' : Hp} {a : Addr} {r1 r2 r3 : List Int} (e : Ex0 H H') (h : L33 H a r1 r2 r3) : L33 H' a r1 r2 r3 := by
  obtain ⟨t1, t2, t3, h0, h1, h2, h3⟩ := h
  exact ⟨t1, t2, t3, Ex0.ap e h0, Ex0.ap e h1, Ex0.ap e h2, Ex0.ap e h3⟩
theorem Ex0.ri {C C_R : Addr} {H H' : Hp} {r : Addr} {ns : List Int} (e : Ex0 H H') (h : RingAt C C_R H r ns) : RingAt C C_R H' r ns := by
  obtain ⟨dr, x, h1, h2⟩ := h
  exact ⟨dr, x, Ex0.ap e h1, Ex0.fo e h2⟩
theorem Ex0.el {C C_R C_E : Addr} {H H' : Hp} {x : Addr} {ns : List Int} {u y z b : Int} (e : Ex0 H H') (h : ElAt C C_R C_E H x ns u y z b) : ElAt C C_R C_E H' x ns u y z b := by
  obtain ⟨de, r, t, h1, h2, h3⟩ := h
  exact ⟨de, r, t, Ex0.ap e h1, Ex0.ri e h2, Ex0.ti e h3⟩
theorem unq3 {K : PySem.W.Frag} {i j k : Nat} {σ : L2.St} {H : Hp} {t : Addr} {a b c : Int} {Q : L2.St → Hp → Prop} (h : Tq K H t [a, b, c])
    (z : Q (((σ.set i (some (.int a))).set j (some (.int b))).set k (some (.int c))) H) :
    gTup K 3 (gCons (gName i) (gCons (gName j) (gCons (gName k) gNil))) (.ref t) σ H Q :=
  ⟨t, _, rfl, h, rfl, _, _, rfl, _, _, rfl, _, _, rfl, rfl, z⟩
def w1 (a b c d : Int) : List Int := [-a * c, b, -a]
def w2 (a b c d : Int) : List Int := [-a * d, 0, 0]
def w3 (a b c d : Int) : List Int := [-b * d, d, -c]
def m0 (a d g u y z v s r : Int) : Int := u * v + y * s * a + (y * r + z * s) * d + z * r * g
def m1 (b e h u y z v s r : Int) : Int := u * s + y * v + y * s * b + (y * r + z * s) * e + z * r * h
def m2 (c f i u y z v s r : Int) : Int := u * r + z * v + y * s * c + (y * r + z * s) * f + z * r * i
def pr (a b c d u y z v s r : Int) : List Int := [m0 (-a * c) (-a * d) (-b * d) u y z v s r, m1 b 0 d u y z v s r, m2 (-a) 0 (-c) u y z v s r]
def tr (a b c d u y z : Int) : Int := 3 * u + b * y - c * z
section
def sp_is_any_integer (_ : PySem.W.Frag) (C : Addr) : Sp := fun vs H Q _ => ∃ i : Int, vs = [.int i] ∧ Q (.bl true) H
def sp_is_short_integer (_ : PySem.W.Frag) (C : Addr) : Sp := fun vs H Q _ => ∃ i : Int, vs = [.int i] ∧ Short i ∧ Q (.bl true) H
def sp_are_short_integers (_ : PySem.W.Frag) (C : Addr) : Sp := fun vs H Q _ => ∃ (a : Addr) (ns : List Int), vs = [.ref a, .int (ns.length : Int)] ∧ Ti H a ns ∧ ns.length ≤ 1000 ∧ (∀ n ∈ ns, Short n) ∧ ∀ H', Ex0 H H' → Q (.bl true) H'
def sp_check_integer (_ : PySem.W.Frag) (C : Addr) : Sp := fun vs H Q _ => ∃ i : Int, vs = [.int i] ∧ Short i ∧ Q .non H
def sp_shared_divisor (K : PySem.W.Frag) (C : Addr) : Sp := fun vs H Q _ => ∃ (a : Addr) (ns : List Int), vs = [.ref a] ∧ Tq K H a ns ∧ Q (.int (gcdL ns : Nat)) H
def sp_Form___init__ (_ : PySem.W.Frag) (C : Addr) : Sp := fun vs H Q _ => ∃ (x dx t : Addr) (ns : List Int), vs = [.ref x, .ref t] ∧ H x = some (.ins C dx []) ∧ Ti H t ns ∧ ns.length = 4 ∧ (∀ n ∈ ns, Short n) ∧ ∀ H', (∀ b o, b ≠ x → H b = some o → H' b = some o) → H' x = some (.ins C dx [(("_coefficients" : Str), .ref t)]) → Q .non H'
def sp_Form_coefficients (_ : PySem.W.Frag) (C : Addr) : Sp := fun vs H Q _ => ∃ (x : Addr) (ns : List Int), vs = [.ref x] ∧ FormAt C H x ns ∧ ∀ t, Ti H t ns → Q (.ref t) H
def sp_Form___eq__ (_ : PySem.W.Frag) (C : Addr) : Sp := fun vs H Q _ => ∃ (x y : Addr) (ns ms : List Int), vs = [.ref x, .ref y] ∧ FormAt C H x ns ∧ FormAt C H y ms ∧ Q (.bl (decide (ns = ms))) H
end
section
variable {P : Program} {w : World} {K : PySem.W.Frag} {mg : Str → Option Value} {base : Heap} {C_Form : Addr}
theorem ok_is_any_integer (T : Txt K mg C_Form) : Def P w K mg base 1 "is_any_integer" ["value"] (sp_is_any_integer K C_Form) := by
  obtain ⟨f_, fd_, g_, F_⟩ := T.d_is_any_integer
  refine ⟨f_, fd_, g_, F_.kp, F_.binds (ps := ["value"]) (fun _ _ _ _ _ _ us hl => match us, hl with | [_], _ => rfl), ?_⟩
  refine F_.ok sc_is_any_integer (fun vs H Q E h => ?_) (fun cdv A outer s H vs Q E hr h => ?_)
  · first | (obtain ⟨rfl, _⟩ := h; rfl) | (obtain ⟨_, rfl, _⟩ := h; rfl) | (obtain ⟨_, _, rfl, _⟩ := h; rfl) | (obtain ⟨_, _, _, rfl, _⟩ := h; rfl) | (obtain ⟨_, _, _, _, rfl, _⟩ := h; rfl) | (obtain ⟨_, _, _, _, _, rfl, _⟩ := h; rfl) | (obtain ⟨_, _, _, _, _, _, rfl, _⟩ := h; rfl) | (obtain ⟨_, _, _, _, _, _, _, rfl, _⟩ := h; rfl) | (obtain ⟨_, _, _, _, _, _, _, _, rfl, _⟩ := h; rfl) | (obtain ⟨_, _, _, _, _, _, _, _, _, rfl, _⟩ := h; rfl) | (obtain ⟨_, _, _, _, _, _, _, _, _, _, rfl, _⟩ := h; rfl) | (obtain ⟨_, _, _, _, _, _, _, _, _, _, _, rfl, _⟩ := h; rfl) | (obtain ⟨_, _, _, _, _, _, _, _, _, _, _, _, rfl, _⟩ := h; rfl) | (obtain ⟨_, _, _, _, _, _, _, _, _, _, _, _, _, rfl, _⟩ := h; rfl) | (obtain ⟨_, _, _, _, _, _, _, _, _, _, _, _, _, _, rfl, _⟩ := h; rfl) | (obtain ⟨_, _, _, _, _, _, _, _, _, _, _, _, _, _, _, rfl, _⟩ := h; rfl) | (obtain ⟨_, _, _, _, _, _, _, _, _, _, _, _, _, _, _, _, rfl, _⟩ := h; rfl) | (obtain ⟨_, _, _, _, _, _, _, _, _, _, _, _, _, _, _, _, _, rfl, _⟩ := h; rfl) | (obtain ⟨_, _, _, _, _, _, _, _, _, _, _, _, _, _, _, _, _, _, rfl, _⟩ := h; rfl) | (obtain ⟨_, _, _, _, _, _, _, _, _, _, _, _, _, _, _, _, _, _, _, rfl, _⟩ := h; rfl) | (obtain ⟨_, _, _, _, _, _, _, _, _, _, _, _, _, _, _, _, _, _, _, _, rfl, _⟩ := h; rfl) | (obtain ⟨_, _, _, _, _, _, _, _, _, _, _, _, _, _, _, _, _, _, _, _, _, rfl, _⟩ := h; rfl) | (obtain ⟨_, _, _, _, _, _, _, _, _, _, _, _, _, _, _, _, _, _, _, _, _, _, rfl, _⟩ := h; rfl) | (obtain ⟨_, _, _, _, _, _, _, _, _, _, _, _, _, _, _, _, _, _, _, _, _, _, _, rfl, _⟩ := h; rfl)
  · obtain ⟨i, rfl, q⟩ := h
    refine ⟨_, (pss_one (ps_ret (pe_and (pe_callB call_isi (by rfl) T.b_isinstance (by decide +kernel) (pa_cons (pv 0) (pa_cons (pe_bltn (v := .ty "int") (by rfl) T.b_int (by decide +kernel) rfl) pa_nil))) (pe_one (pe_not (pe_callB call_isi (by rfl) T.b_isinstance (by decide +kernel) (pa_cons (pv 0) (pa_cons (pe_bltn (v := .ty "bool") (by rfl) T.b_bool (by decide +kernel) rfl) pa_nil)))))))), ?_⟩
    refine ⟨_, rfl, _, _, _, _, true, rfl, .ty _, .base (.int i), kit_ty (by decide +kernel), _, rfl, iteT ?_⟩
    exact ⟨_, rfl, _, _, _, _, false, rfl, .ty _, .base (.int i), kit_ty (by decide +kernel), _, rfl, q⟩
theorem ok_is_short_integer (T : Txt K mg C_Form) : Def P w K mg base 2 "is_short_integer" ["value"] (sp_is_short_integer K C_Form) := by
  obtain ⟨f_, fd_, g_, F_⟩ := T.d_is_short_integer
  obtain ⟨f_is_any_integer, fd_is_any_integer, g_is_any_integer, k_is_any_integer, b_is_any_integer, G_is_any_integer⟩ := (ok_is_any_integer (P := P) (w := w) (base := base) T)
  refine ⟨f_, fd_, g_, F_.kp, F_.binds (ps := ["value"]) (fun _ _ _ _ _ _ us hl => match us, hl with | [_], _ => rfl), ?_⟩
  refine F_.ok sc_is_short_integer (fun vs H Q E h => ?_) (fun cdv A outer s H vs Q E hr h => ?_)
  · first | (obtain ⟨rfl, _⟩ := h; rfl) | (obtain ⟨_, rfl, _⟩ := h; rfl) | (obtain ⟨_, _, rfl, _⟩ := h; rfl) | (obtain ⟨_, _, _, rfl, _⟩ := h; rfl) | (obtain ⟨_, _, _, _, rfl, _⟩ := h; rfl) | (obtain ⟨_, _, _, _, _, rfl, _⟩ := h; rfl) | (obtain ⟨_, _, _, _, _, _, rfl, _⟩ := h; rfl) | (obtain ⟨_, _, _, _, _, _, _, rfl, _⟩ := h; rfl) | (obtain ⟨_, _, _, _, _, _, _, _, rfl, _⟩ := h; rfl) | (obtain ⟨_, _, _, _, _, _, _, _, _, rfl, _⟩ := h; rfl) | (obtain ⟨_, _, _, _, _, _, _, _, _, _, rfl, _⟩ := h; rfl) | (obtain ⟨_, _, _, _, _, _, _, _, _, _, _, rfl, _⟩ := h; rfl) | (obtain ⟨_, _, _, _, _, _, _, _, _, _, _, _, rfl, _⟩ := h; rfl) | (obtain ⟨_, _, _, _, _, _, _, _, _, _, _, _, _, rfl, _⟩ := h; rfl) | (obtain ⟨_, _, _, _, _, _, _, _, _, _, _, _, _, _, rfl, _⟩ := h; rfl) | (obtain ⟨_, _, _, _, _, _, _, _, _, _, _, _, _, _, _, rfl, _⟩ := h; rfl) | (obtain ⟨_, _, _, _, _, _, _, _, _, _, _, _, _, _, _, _, rfl, _⟩ := h; rfl) | (obtain ⟨_, _, _, _, _, _, _, _, _, _, _, _, _, _, _, _, _, rfl, _⟩ := h; rfl) | (obtain ⟨_, _, _, _, _, _, _, _, _, _, _, _, _, _, _, _, _, _, rfl, _⟩ := h; rfl) | (obtain ⟨_, _, _, _, _, _, _, _, _, _, _, _, _, _, _, _, _, _, _, rfl, _⟩ := h; rfl) | (obtain ⟨_, _, _, _, _, _, _, _, _, _, _, _, _, _, _, _, _, _, _, _, rfl, _⟩ := h; rfl) | (obtain ⟨_, _, _, _, _, _, _, _, _, _, _, _, _, _, _, _, _, _, _, _, _, rfl, _⟩ := h; rfl) | (obtain ⟨_, _, _, _, _, _, _, _, _, _, _, _, _, _, _, _, _, _, _, _, _, _, rfl, _⟩ := h; rfl) | (obtain ⟨_, _, _, _, _, _, _, _, _, _, _, _, _, _, _, _, _, _, _, _, _, _, _, rfl, _⟩ := h; rfl)
  · obtain ⟨i, rfl, hs, q⟩ := h
    obtain ⟨t_LIMIT, h_LIMIT⟩ := T.x_LIMIT
    refine ⟨_, (pss_one (ps_ret (pe_and (pe_call G_is_any_integer (hr.mono (by decide)) (by rfl) g_is_any_integer k_is_any_integer b_is_any_integer .nil pass0 (pa_cons (pv 0) pa_nil)) (pe_one (pe_chain op_lt op_lt (pe_un un_neg (pe_glob (v := .int 1000000000000000000000000000000000000000000000000000000000000) (by rfl) h_LIMIT ⟨_, rfl⟩)) (pv 0) (pe_glob (v := .int 1000000000000000000000000000000000000000000000000000000000000) (by rfl) h_LIMIT ⟨_, rfl⟩)))))), ?_⟩
    refine ⟨_, rfl, i, rfl, _, rfl, iteT ?_⟩
    refine ⟨_, rfl, _, rfl, _, _, rfl, rfl, _, rfl, dT hs.1 ⟨_, _, rfl, rfl, ?_⟩⟩
    show Q (.bl (decide (i < 1000000000000000000000000000000000000000000000000000000000000))) H
    rw [decide_eq_true hs.2]
    exact q
theorem ok_check_integer (T : Txt K mg C_Form) : Def P w K mg base 3 "check_integer" ["value"] (sp_check_integer K C_Form) := by
  obtain ⟨f_, fd_, g_, F_⟩ := T.d_check_integer
  obtain ⟨f_is_short_integer, fd_is_short_integer, g_is_short_integer, k_is_short_integer, b_is_short_integer, G_is_short_integer⟩ := (ok_is_short_integer (P := P) (w := w) (base := base) T)
  refine ⟨f_, fd_, g_, F_.kp, F_.binds (ps := ["value"]) (fun _ _ _ _ _ _ us hl => match us, hl with | [_], _ => rfl), ?_⟩
  refine F_.ok sc_check_integer (fun vs H Q E h => ?_) (fun cdv A outer s H vs Q E hr h => ?_)
  · first | (obtain ⟨rfl, _⟩ := h; rfl) | (obtain ⟨_, rfl, _⟩ := h; rfl) | (obtain ⟨_, _, rfl, _⟩ := h; rfl) | (obtain ⟨_, _, _, rfl, _⟩ := h; rfl) | (obtain ⟨_, _, _, _, rfl, _⟩ := h; rfl) | (obtain ⟨_, _, _, _, _, rfl, _⟩ := h; rfl) | (obtain ⟨_, _, _, _, _, _, rfl, _⟩ := h; rfl) | (obtain ⟨_, _, _, _, _, _, _, rfl, _⟩ := h; rfl) | (obtain ⟨_, _, _, _, _, _, _, _, rfl, _⟩ := h; rfl) | (obtain ⟨_, _, _, _, _, _, _, _, _, rfl, _⟩ := h; rfl) | (obtain ⟨_, _, _, _, _, _, _, _, _, _, rfl, _⟩ := h; rfl) | (obtain ⟨_, _, _, _, _, _, _, _, _, _, _, rfl, _⟩ := h; rfl) | (obtain ⟨_, _, _, _, _, _, _, _, _, _, _, _, rfl, _⟩ := h; rfl) | (obtain ⟨_, _, _, _, _, _, _, _, _, _, _, _, _, rfl, _⟩ := h; rfl) | (obtain ⟨_, _, _, _, _, _, _, _, _, _, _, _, _, _, rfl, _⟩ := h; rfl) | (obtain ⟨_, _, _, _, _, _, _, _, _, _, _, _, _, _, _, rfl, _⟩ := h; rfl) | (obtain ⟨_, _, _, _, _, _, _, _, _, _, _, _, _, _, _, _, rfl, _⟩ := h; rfl) | (obtain ⟨_, _, _, _, _, _, _, _, _, _, _, _, _, _, _, _, _, rfl, _⟩ := h; rfl) | (obtain ⟨_, _, _, _, _, _, _, _, _, _, _, _, _, _, _, _, _, _, rfl, _⟩ := h; rfl) | (obtain ⟨_, _, _, _, _, _, _, _, _, _, _, _, _, _, _, _, _, _, _, rfl, _⟩ := h; rfl) | (obtain ⟨_, _, _, _, _, _, _, _, _, _, _, _, _, _, _, _, _, _, _, _, rfl, _⟩ := h; rfl) | (obtain ⟨_, _, _, _, _, _, _, _, _, _, _, _, _, _, _, _, _, _, _, _, _, rfl, _⟩ := h; rfl) | (obtain ⟨_, _, _, _, _, _, _, _, _, _, _, _, _, _, _, _, _, _, _, _, _, _, rfl, _⟩ := h; rfl) | (obtain ⟨_, _, _, _, _, _, _, _, _, _, _, _, _, _, _, _, _, _, _, _, _, _, _, rfl, _⟩ := h; rfl)
  · obtain ⟨i, rfl, hs, q⟩ := h
    refine ⟨_, (pss_one (ps_if (pt_not (pt_val (pe_call G_is_short_integer (hr.mono (by decide)) (by rfl) g_is_short_integer k_is_short_integer b_is_short_integer .nil pass0 (pa_cons (pv 0) pa_nil))))
      pss_never
      pss_nil)), ?_⟩
    refine ⟨_, rfl, i, rfl, hs, _, rfl, ?_⟩
    exact iteF q
theorem ok_are_short_integers (T : Txt K mg C_Form) : Def P w K mg base 3 "are_short_integers" ["value", "many"] (sp_are_short_integers K C_Form) := by
  obtain ⟨f_, fd_, g_, F_⟩ := T.d_are_short_integers
  refine ⟨f_, fd_, g_, F_.kp, F_.binds (ps := ["value", "many"]) (fun _ _ _ _ _ _ us hl => match us, hl with | [_, _], _ => rfl), ?_⟩
  refine F_.ok sc_are_short_integers (fun vs H Q E h => ?_) (fun cdv A outer s H vs Q E hr h => ?_)
  · first | (obtain ⟨rfl, _⟩ := h; rfl) | (obtain ⟨_, rfl, _⟩ := h; rfl) | (obtain ⟨_, _, rfl, _⟩ := h; rfl) | (obtain ⟨_, _, _, rfl, _⟩ := h; rfl) | (obtain ⟨_, _, _, _, rfl, _⟩ := h; rfl) | (obtain ⟨_, _, _, _, _, rfl, _⟩ := h; rfl) | (obtain ⟨_, _, _, _, _, _, rfl, _⟩ := h; rfl) | (obtain ⟨_, _, _, _, _, _, _, rfl, _⟩ := h; rfl) | (obtain ⟨_, _, _, _, _, _, _, _, rfl, _⟩ := h; rfl) | (obtain ⟨_, _, _, _, _, _, _, _, _, rfl, _⟩ := h; rfl) | (obtain ⟨_, _, _, _, _, _, _, _, _, _, rfl, _⟩ := h; rfl) | (obtain ⟨_, _, _, _, _, _, _, _, _, _, _, rfl, _⟩ := h; rfl) | (obtain ⟨_, _, _, _, _, _, _, _, _, _, _, _, rfl, _⟩ := h; rfl) | (obtain ⟨_, _, _, _, _, _, _, _, _, _, _, _, _, rfl, _⟩ := h; rfl) | (obtain ⟨_, _, _, _, _, _, _, _, _, _, _, _, _, _, rfl, _⟩ := h; rfl) | (obtain ⟨_, _, _, _, _, _, _, _, _, _, _, _, _, _, _, rfl, _⟩ := h; rfl) | (obtain ⟨_, _, _, _, _, _, _, _, _, _, _, _, _, _, _, _, rfl, _⟩ := h; rfl) | (obtain ⟨_, _, _, _, _, _, _, _, _, _, _, _, _, _, _, _, _, rfl, _⟩ := h; rfl) | (obtain ⟨_, _, _, _, _, _, _, _, _, _, _, _, _, _, _, _, _, _, rfl, _⟩ := h; rfl) | (obtain ⟨_, _, _, _, _, _, _, _, _, _, _, _, _, _, _, _, _, _, _, rfl, _⟩ := h; rfl) | (obtain ⟨_, _, _, _, _, _, _, _, _, _, _, _, _, _, _, _, _, _, _, _, rfl, _⟩ := h; rfl) | (obtain ⟨_, _, _, _, _, _, _, _, _, _, _, _, _, _, _, _, _, _, _, _, _, rfl, _⟩ := h; rfl) | (obtain ⟨_, _, _, _, _, _, _, _, _, _, _, _, _, _, _, _, _, _, _, _, _, _, rfl, _⟩ := h; rfl) | (obtain ⟨_, _, _, _, _, _, _, _, _, _, _, _, _, _, _, _, _, _, _, _, _, _, _, rfl, _⟩ := h; rfl)
  · obtain ⟨a, ns, rfl, ha, hl, hs, q⟩ := h
    obtain ⟨t_LIMIT, h_LIMIT⟩ := T.x_LIMIT
    refine ⟨_, (pss_cons (ps_if (PW.pt (pw_or (pt_not (pt_val (pe_callB call_isi (by rfl) T.b_isinstance (by decide +kernel) (pa_cons (pv 0) (pa_cons (pe_bltn (v := .ty "tuple") (by rfl) T.b_tuple (by decide +kernel) rfl) pa_nil))))) (pw_or1 (pt_cmpR op_ne (pe_callB call_len_seq (by rfl) T.b_len PySem.boot_len (pa_cons (pv 0) pa_nil)) (pv 1) (nomark _)))))
      (pss_one (ps_ret pe_bl))
      pss_nil)
    (pss_one (ps_ret (pe_callB (cr_all rfl) (by rfl) T.b_all (by decide +kernel) (pa_cons (pe_lc (own := [("n", 2)]) (g := (gName 2)) rfl sc_are_short_integers.nd (pi_tup (pv 0)) (blkOk_by (N := N_are_short_integers) (sc := defScope s_are_short_integers) (by decide +kernel)) (fun _ _ _ _ _ => (pg_name (i := 2) sc_are_short_integers.nd rfl (.inl rfl))) (fun _ _ _ _ _ => pts_nil) (fun _ _ _ _ _ => (pe_and (pe_callB (call_isiKK (K := K) rfl) (by rfl) T.b_isinstance (by decide +kernel) (pa_cons (pv 2) (pa_cons (pe_bltn (v := .ty "int") (by rfl) T.b_int (by decide +kernel) rfl) pa_nil))) (pe_and (pe_not (pe_callB (call_isiKK (K := K) rfl) (by rfl) T.b_isinstance (by decide +kernel) (pa_cons (pv 2) (pa_cons (pe_bltn (v := .ty "bool") (by rfl) T.b_bool (by decide +kernel) rfl) pa_nil)))) (pe_one (pe_chain op_lt op_lt (pe_un un_neg (pe_glob (v := .int 1000000000000000000000000000000000000000000000000000000000000) (by rfl) h_LIMIT ⟨_, rfl⟩)) (pv 2) (pe_glob (v := .int 1000000000000000000000000000000000000000000000000000000000000) (by rfl) h_LIMIT ⟨_, rfl⟩))))))) pa_nil))))), ?_⟩
    refine ⟨_, rfl, _, _, _, _, true, rfl, .ty _, .base (.tup ha), kit_ty (by decide +kernel), _, rfl, ?_⟩
    refine iteF ⟨_, rfl, a, _, rfl, .inr (SqT.of ha), _, rfl, rfl, _, rfl, ?_⟩
    refine ndF (by rw [List.length_map]) ?_
    refine ⟨_, rfl, a, rfl, ⟨_, SqT.of ha⟩, ?_⟩
    refine lcT fm0 trivial (SqT.of ha) (fun z => z) (fun i acc _ => acc = (List.replicate i true).map V.bl) (fun _ _ => rfl) (fun D i x acc H' hD hx e hA hlen hp => ?_) (fun D H' acc hD e hA hp => ?_)
    · obtain ⟨n, hn, rfl⟩ := get_int hx
      have hi := (List.getElem?_eq_some_iff.mp hn).1
      refine ⟨rfl, ?_⟩
      have hn2 := hs n (List.mem_of_getElem? hn)
      refine ⟨_, rfl, _, _, _, _, true, rfl, .ty _, .base (.int n), kit_ty (by decide +kernel), _, rfl, iteT ?_⟩
      refine ⟨_, rfl, _, _, _, _, false, rfl, .ty _, .base (.int n), kit_ty (by decide +kernel), _, rfl, _, rfl, iteT ?_⟩
      refine ⟨_, rfl, _, rfl, _, _, rfl, rfl, _, rfl, dT hn2.1 ⟨_, _, rfl, rfl, ?_⟩⟩
      simp only [decide_eq_true hn2.2]
      refine cs_yes fm0 trivial hD e hA hlen (by omega) (Fx.refl trivial) ?_
      show acc ++ [V.bl true] = _
      rw [hp, List.replicate_succ', List.map_append]
      rfl
    · rw [List.length_map] at hp
      subst hp
      refine ⟨D, _, rfl, SqL.of hA, ?_⟩
      rw [show ((List.replicate ns.length true).all id) = true by simp]
      exact q H' e
theorem ok_shared_divisor (T : Txt K mg C_Form) : Def P w K mg base 1 "shared_divisor" ["numbers"] (sp_shared_divisor K C_Form) := by
  obtain ⟨f_, fd_, g_, F_⟩ := T.d_shared_divisor
  refine ⟨f_, fd_, g_, F_.kp, F_.binds (ps := ["numbers"]) (fun _ _ _ _ _ _ us hl => match us, hl with | [_], _ => rfl), ?_⟩
  refine F_.ok sc_shared_divisor (fun vs H Q E h => ?_) (fun cdv A outer s H vs Q E hr h => ?_)
  · first | (obtain ⟨rfl, _⟩ := h; rfl) | (obtain ⟨_, rfl, _⟩ := h; rfl) | (obtain ⟨_, _, rfl, _⟩ := h; rfl) | (obtain ⟨_, _, _, rfl, _⟩ := h; rfl) | (obtain ⟨_, _, _, _, rfl, _⟩ := h; rfl) | (obtain ⟨_, _, _, _, _, rfl, _⟩ := h; rfl) | (obtain ⟨_, _, _, _, _, _, rfl, _⟩ := h; rfl) | (obtain ⟨_, _, _, _, _, _, _, rfl, _⟩ := h; rfl) | (obtain ⟨_, _, _, _, _, _, _, _, rfl, _⟩ := h; rfl) | (obtain ⟨_, _, _, _, _, _, _, _, _, rfl, _⟩ := h; rfl) | (obtain ⟨_, _, _, _, _, _, _, _, _, _, rfl, _⟩ := h; rfl) | (obtain ⟨_, _, _, _, _, _, _, _, _, _, _, rfl, _⟩ := h; rfl) | (obtain ⟨_, _, _, _, _, _, _, _, _, _, _, _, rfl, _⟩ := h; rfl) | (obtain ⟨_, _, _, _, _, _, _, _, _, _, _, _, _, rfl, _⟩ := h; rfl) | (obtain ⟨_, _, _, _, _, _, _, _, _, _, _, _, _, _, rfl, _⟩ := h; rfl) | (obtain ⟨_, _, _, _, _, _, _, _, _, _, _, _, _, _, _, rfl, _⟩ := h; rfl) | (obtain ⟨_, _, _, _, _, _, _, _, _, _, _, _, _, _, _, _, rfl, _⟩ := h; rfl) | (obtain ⟨_, _, _, _, _, _, _, _, _, _, _, _, _, _, _, _, _, rfl, _⟩ := h; rfl) | (obtain ⟨_, _, _, _, _, _, _, _, _, _, _, _, _, _, _, _, _, _, rfl, _⟩ := h; rfl) | (obtain ⟨_, _, _, _, _, _, _, _, _, _, _, _, _, _, _, _, _, _, _, rfl, _⟩ := h; rfl) | (obtain ⟨_, _, _, _, _, _, _, _, _, _, _, _, _, _, _, _, _, _, _, _, rfl, _⟩ := h; rfl) | (obtain ⟨_, _, _, _, _, _, _, _, _, _, _, _, _, _, _, _, _, _, _, _, _, rfl, _⟩ := h; rfl) | (obtain ⟨_, _, _, _, _, _, _, _, _, _, _, _, _, _, _, _, _, _, _, _, _, _, rfl, _⟩ := h; rfl) | (obtain ⟨_, _, _, _, _, _, _, _, _, _, _, _, _, _, _, _, _, _, _, _, _, _, _, rfl, _⟩ := h; rfl)
  · obtain ⟨a, ns, rfl, ha, q⟩ := h
    refine ⟨_, (pss_cons (ps_set (i := 1) sc_shared_divisor.nd rfl (.inl rfl) pe_int)
    (pss_cons (ps_for PassesOwn.never rfl (pi_tup (pv 0)) (pg_name (i := 2) sc_shared_divisor.nd rfl (.inl rfl))
      (pss_one (ps_set (i := 1) sc_shared_divisor.nd rfl (.inl rfl) (pe_callBfun cr_gcd (by rfl) T.m_gcd (pa_cons (pv 1) (pa_cons (pv 2) pa_nil))))))
    (pss_one (ps_ret (pv 1))))), ?_⟩
    refine ⟨_, rfl, a, rfl, ⟨_, ha⟩, for_tup (xs := ns.map V.int) (fun i σ H' => ∃ y2, σ = [some (.ref a), some (.int (gcdL (ns.take i) : Nat)), y2] ∧ H = H') ⟨none, rfl, rfl⟩ (fun i σ H' _ ⟨_, _, e⟩ => e ▸ ha) ?_ ?_⟩
    · rintro i x σ H' hx ⟨y2, rfl, rfl⟩
      obtain ⟨n, hn, rfl⟩ := get_int hx
      refine ⟨_, rfl, _, rfl, _, _, rfl, ?_⟩
      refine ⟨some (.int n), ?_, rfl⟩
      rw [gcdL_take hn]
      rfl
    · rintro σ H' ⟨y2, rfl, rfl⟩
      refine ⟨_, rfl, ?_⟩
      rw [List.length_map, List.take_length]
      exact q
end
end K52
namespace K52
open PySem PySem.Spec PyProof.Rows L2 Fr
theorem putF_same {u v : V} : putF ("_coefficients" : Str) v [(("_coefficients" : Str), u)] = [(("_coefficients" : Str), v)] := by simp [putF]
theorem lk_same {x : Str} {u : V} : List.lookup x [(x, u)] = some u := by simp [List.lookup]
section
variable {P : Program} {w : World} {K : PySem.W.Frag} {mg : Str → Option Value} {base : Heap} {C_Form : Addr}
theorem ok_Form___init__ (T : Txt K mg C_Form) : MDef (fun p f => Mk K C_Form f) P w K mg base 4 ["self", "coefficients"] (sp_Form___init__ K C_Form) := by
  obtain ⟨p_, f_, fd_, R_, F_⟩ := T.e_Form___init__
  obtain ⟨f_are_short_integers, fd_are_short_integers, g_are_short_integers, k_are_short_integers, b_are_short_integers, G_are_short_integers⟩ := (ok_are_short_integers (P := P) (w := w) (base := base) T)
  refine ⟨p_, f_, fd_, R_, F_.binds (ps := ["self", "coefficients"]) (fun _ _ _ _ _ _ us hl => match us, hl with | [_, _], _ => rfl), ?_⟩
  refine F_.ok sc_Form___init__ (fun vs H Q E h => ?_) (fun cdv A outer s H vs Q E hr h => ?_)
  · first | (obtain ⟨rfl, _⟩ := h; rfl) | (obtain ⟨_, rfl, _⟩ := h; rfl) | (obtain ⟨_, _, rfl, _⟩ := h; rfl) | (obtain ⟨_, _, _, rfl, _⟩ := h; rfl) | (obtain ⟨_, _, _, _, rfl, _⟩ := h; rfl) | (obtain ⟨_, _, _, _, _, rfl, _⟩ := h; rfl) | (obtain ⟨_, _, _, _, _, _, rfl, _⟩ := h; rfl) | (obtain ⟨_, _, _, _, _, _, _, rfl, _⟩ := h; rfl) | (obtain ⟨_, _, _, _, _, _, _, _, rfl, _⟩ := h; rfl) | (obtain ⟨_, _, _, _, _, _, _, _, _, rfl, _⟩ := h; rfl) | (obtain ⟨_, _, _, _, _, _, _, _, _, _, rfl, _⟩ := h; rfl) | (obtain ⟨_, _, _, _, _, _, _, _, _, _, _, rfl, _⟩ := h; rfl) | (obtain ⟨_, _, _, _, _, _, _, _, _, _, _, _, rfl, _⟩ := h; rfl) | (obtain ⟨_, _, _, _, _, _, _, _, _, _, _, _, _, rfl, _⟩ := h; rfl) | (obtain ⟨_, _, _, _, _, _, _, _, _, _, _, _, _, _, rfl, _⟩ := h; rfl) | (obtain ⟨_, _, _, _, _, _, _, _, _, _, _, _, _, _, _, rfl, _⟩ := h; rfl) | (obtain ⟨_, _, _, _, _, _, _, _, _, _, _, _, _, _, _, _, rfl, _⟩ := h; rfl) | (obtain ⟨_, _, _, _, _, _, _, _, _, _, _, _, _, _, _, _, _, rfl, _⟩ := h; rfl) | (obtain ⟨_, _, _, _, _, _, _, _, _, _, _, _, _, _, _, _, _, _, rfl, _⟩ := h; rfl) | (obtain ⟨_, _, _, _, _, _, _, _, _, _, _, _, _, _, _, _, _, _, _, rfl, _⟩ := h; rfl) | (obtain ⟨_, _, _, _, _, _, _, _, _, _, _, _, _, _, _, _, _, _, _, _, rfl, _⟩ := h; rfl) | (obtain ⟨_, _, _, _, _, _, _, _, _, _, _, _, _, _, _, _, _, _, _, _, _, rfl, _⟩ := h; rfl) | (obtain ⟨_, _, _, _, _, _, _, _, _, _, _, _, _, _, _, _, _, _, _, _, _, _, rfl, _⟩ := h; rfl) | (obtain ⟨_, _, _, _, _, _, _, _, _, _, _, _, _, _, _, _, _, _, _, _, _, _, _, rfl, _⟩ := h; rfl)
  · obtain ⟨x, dx, t, ns, rfl, hx, ht, hl, hs, q⟩ := h
    refine ⟨_, (pss_cons (ps_if (pt_not (pt_val (pe_call G_are_short_integers (hr.mono (by decide)) (by rfl) g_are_short_integers k_are_short_integers b_are_short_integers .nil pass0 (pa_cons (pv 1) (pa_cons pe_int pa_nil)))))
      pss_never
      pss_nil)
    (pss_one (ps_fld (pv 0) (pe_callTy call_tuple_of (by rfl) T.b_tuple (by decide +kernel) (pa_cons (pv 1) pa_nil)) (by rfl)))), ?_⟩
    refine ⟨_, rfl, t, ns, by rw [hl]; rfl, ht, by omega, hs, fun H1 e1 => ⟨_, rfl, ?_⟩⟩
    refine iteF ⟨_, rfl, t, _, rfl, .inr ⟨SqT.of (Ex0.ti e1 ht), ?_⟩⟩
    refine ⟨_, rfl, x, C_Form, dx, _, rfl, e1.ap hx, T.cl_Form, T.na_Form_coefficients, (by decide : (0:Nat) < 1000), ?_⟩
    exact q _ (fun b o n e => by rw [upd_ne n]; exact e1.ap e) upd_same
theorem ok_Form_coefficients (T : Txt K mg C_Form) : MDef (fun p f => PropOf K C_Form "coefficients" p f) P w K mg base 1 ["self"] (sp_Form_coefficients K C_Form) := by
  obtain ⟨p_, f_, fd_, R_, F_⟩ := T.e_Form_coefficients
  refine ⟨p_, f_, fd_, R_, F_.binds (ps := ["self"]) (fun _ _ _ _ _ _ us hl => match us, hl with | [_], _ => rfl), ?_⟩
  refine F_.ok sc_Form_coefficients (fun vs H Q E h => ?_) (fun cdv A outer s H vs Q E hr h => ?_)
  · first | (obtain ⟨rfl, _⟩ := h; rfl) | (obtain ⟨_, rfl, _⟩ := h; rfl) | (obtain ⟨_, _, rfl, _⟩ := h; rfl) | (obtain ⟨_, _, _, rfl, _⟩ := h; rfl) | (obtain ⟨_, _, _, _, rfl, _⟩ := h; rfl) | (obtain ⟨_, _, _, _, _, rfl, _⟩ := h; rfl) | (obtain ⟨_, _, _, _, _, _, rfl, _⟩ := h; rfl) | (obtain ⟨_, _, _, _, _, _, _, rfl, _⟩ := h; rfl) | (obtain ⟨_, _, _, _, _, _, _, _, rfl, _⟩ := h; rfl) | (obtain ⟨_, _, _, _, _, _, _, _, _, rfl, _⟩ := h; rfl) | (obtain ⟨_, _, _, _, _, _, _, _, _, _, rfl, _⟩ := h; rfl) | (obtain ⟨_, _, _, _, _, _, _, _, _, _, _, rfl, _⟩ := h; rfl) | (obtain ⟨_, _, _, _, _, _, _, _, _, _, _, _, rfl, _⟩ := h; rfl) | (obtain ⟨_, _, _, _, _, _, _, _, _, _, _, _, _, rfl, _⟩ := h; rfl) | (obtain ⟨_, _, _, _, _, _, _, _, _, _, _, _, _, _, rfl, _⟩ := h; rfl) | (obtain ⟨_, _, _, _, _, _, _, _, _, _, _, _, _, _, _, rfl, _⟩ := h; rfl) | (obtain ⟨_, _, _, _, _, _, _, _, _, _, _, _, _, _, _, _, rfl, _⟩ := h; rfl) | (obtain ⟨_, _, _, _, _, _, _, _, _, _, _, _, _, _, _, _, _, rfl, _⟩ := h; rfl) | (obtain ⟨_, _, _, _, _, _, _, _, _, _, _, _, _, _, _, _, _, _, rfl, _⟩ := h; rfl) | (obtain ⟨_, _, _, _, _, _, _, _, _, _, _, _, _, _, _, _, _, _, _, rfl, _⟩ := h; rfl) | (obtain ⟨_, _, _, _, _, _, _, _, _, _, _, _, _, _, _, _, _, _, _, _, rfl, _⟩ := h; rfl) | (obtain ⟨_, _, _, _, _, _, _, _, _, _, _, _, _, _, _, _, _, _, _, _, _, rfl, _⟩ := h; rfl) | (obtain ⟨_, _, _, _, _, _, _, _, _, _, _, _, _, _, _, _, _, _, _, _, _, _, rfl, _⟩ := h; rfl) | (obtain ⟨_, _, _, _, _, _, _, _, _, _, _, _, _, _, _, _, _, _, _, _, _, _, _, rfl, _⟩ := h; rfl)
  · obtain ⟨x, ns, rfl, ⟨dx, t, hx, ht⟩, q⟩ := h
    refine ⟨_, (pss_one (ps_ret (pe_fld (pv 0) (by rfl)))), ?_⟩
    exact ⟨_, rfl, x, C_Form, dx, _, .ref t, rfl, hx, T.cl_Form, T.na_Form_coefficients, lk_same, q t ht⟩
theorem ok_Form___eq__ (T : Txt K mg C_Form) : MDef (fun p f => EqC K C_Form f) P w K mg base 1 ["self", "other"] (sp_Form___eq__ K C_Form) := by
  obtain ⟨p_, f_, fd_, R_, F_⟩ := T.e_Form___eq__
  refine ⟨p_, f_, fd_, R_, F_.binds (ps := ["self", "other"]) (fun _ _ _ _ _ _ us hl => match us, hl with | [_, _], _ => rfl), ?_⟩
  refine F_.ok sc_Form___eq__ (fun vs H Q E h => ?_) (fun cdv A outer s H vs Q E hr h => ?_)
  · first | (obtain ⟨rfl, _⟩ := h; rfl) | (obtain ⟨_, rfl, _⟩ := h; rfl) | (obtain ⟨_, _, rfl, _⟩ := h; rfl) | (obtain ⟨_, _, _, rfl, _⟩ := h; rfl) | (obtain ⟨_, _, _, _, rfl, _⟩ := h; rfl) | (obtain ⟨_, _, _, _, _, rfl, _⟩ := h; rfl) | (obtain ⟨_, _, _, _, _, _, rfl, _⟩ := h; rfl) | (obtain ⟨_, _, _, _, _, _, _, rfl, _⟩ := h; rfl) | (obtain ⟨_, _, _, _, _, _, _, _, rfl, _⟩ := h; rfl) | (obtain ⟨_, _, _, _, _, _, _, _, _, rfl, _⟩ := h; rfl) | (obtain ⟨_, _, _, _, _, _, _, _, _, _, rfl, _⟩ := h; rfl) | (obtain ⟨_, _, _, _, _, _, _, _, _, _, _, rfl, _⟩ := h; rfl) | (obtain ⟨_, _, _, _, _, _, _, _, _, _, _, _, rfl, _⟩ := h; rfl) | (obtain ⟨_, _, _, _, _, _, _, _, _, _, _, _, _, rfl, _⟩ := h; rfl) | (obtain ⟨_, _, _, _, _, _, _, _, _, _, _, _, _, _, rfl, _⟩ := h; rfl) | (obtain ⟨_, _, _, _, _, _, _, _, _, _, _, _, _, _, _, rfl, _⟩ := h; rfl) | (obtain ⟨_, _, _, _, _, _, _, _, _, _, _, _, _, _, _, _, rfl, _⟩ := h; rfl) | (obtain ⟨_, _, _, _, _, _, _, _, _, _, _, _, _, _, _, _, _, rfl, _⟩ := h; rfl) | (obtain ⟨_, _, _, _, _, _, _, _, _, _, _, _, _, _, _, _, _, _, rfl, _⟩ := h; rfl) | (obtain ⟨_, _, _, _, _, _, _, _, _, _, _, _, _, _, _, _, _, _, _, rfl, _⟩ := h; rfl) | (obtain ⟨_, _, _, _, _, _, _, _, _, _, _, _, _, _, _, _, _, _, _, _, rfl, _⟩ := h; rfl) | (obtain ⟨_, _, _, _, _, _, _, _, _, _, _, _, _, _, _, _, _, _, _, _, _, rfl, _⟩ := h; rfl) | (obtain ⟨_, _, _, _, _, _, _, _, _, _, _, _, _, _, _, _, _, _, _, _, _, _, rfl, _⟩ := h; rfl) | (obtain ⟨_, _, _, _, _, _, _, _, _, _, _, _, _, _, _, _, _, _, _, _, _, _, _, rfl, _⟩ := h; rfl)
  · obtain ⟨x, y, ns, ms, rfl, ⟨dx, t, hx, ht⟩, ⟨dy, u, hy, hu⟩, q⟩ := h
    refine ⟨_, (pss_one (ps_ret (pe_and (pe_callB call_isi (by rfl) T.b_isinstance (by decide +kernel) (pa_cons (pv 1) (pa_cons (pe_glob (v := .ref C_Form) (by rfl) T.g_Form rfl) pa_nil))) (pe_one (pe_cmpR (op_eqD hr.units) (pe_fld (pv 0) (by rfl)) (pe_fld (pv 1) (by rfl)) (nomark _)))))), ?_⟩
    refine ⟨_, rfl, _, _, _, _, true, rfl, .own _, ty_ins T.ty_Form T.cl_Form hy, kit_self, _, rfl, ?_⟩
    refine ⟨_, rfl, x, C_Form, dx, _, .ref t, rfl, hx, T.cl_Form, T.na_Form_coefficients, lk_same, _, rfl, y, C_Form, dy, _, .ref u, rfl, hy, T.cl_Form, T.na_Form_coefficients, lk_same, ?_⟩
    refine ⟨.tuple (ns.map .int), .tuple (ms.map .int), .tup (SqT.of ht) (dp_ints _), .tup (SqT.of hu) (dp_ints _), shaped_tints _, shaped_tints _, ?_⟩
    rw [PyData.eqv, eqv_ints]
    exact q
end
end K52
namespace K52
open PySem PySem.Spec PyProof.Rows L2 Fr
def Low (u y z b u' y' z' b' : Int) : Prop := ∃ g : Int, u = g * u' ∧ y = g * y' ∧ z = g * z' ∧ b = g * b' ∧ 0 < b' ∧ Nat.gcd (gcdL [u', y', z']) b'.natAbs = 1
def B4 (n : Nat) (a b c d : Int) : Prop := B n a ∧ B n b ∧ B n c ∧ B n d
def B3 (n : Nat) (a b c : Int) : Prop := B n a ∧ B n b ∧ B n c
section
def sp_fraction (_ : PySem.W.Frag) (C : Addr) : Sp := fun vs H Q _ => ∃ a b : Int, vs = [.int a, .int b] ∧ 0 < b ∧ b < 2 ^ 3000 ∧ ∀ x H' p q g, 0 < g → a = g * p → b = g * q → Nat.gcd p.natAbs q.natAbs = 1 → Ex0 H H' → Ti H' x [p, q] → Q (.ref x) H'
def sp_check_form (_ : PySem.W.Frag) (C : Addr) : Sp := fun vs H Q _ => ∃ (x : Addr) (ns : List Int), vs = [.ref x] ∧ FormAt C H x ns ∧ Q .non H
def sp_check_bottom (_ : PySem.W.Frag) (C : Addr) : Sp := fun vs H Q _ => ∃ i : Int, vs = [.int i] ∧ Short i ∧ i ≠ 0 ∧ Q .non H
def sp_table_of (_ : PySem.W.Frag) (C : Addr) : Sp := fun vs H Q _ => ∃ (t : Addr) (a b c d : Int), vs = [.ref t] ∧ Ti H t [a, b, c, d] ∧ B4 1000 a b c d ∧ ∀ x H', Ex0 H H' → T33 H' x (w1 a b c d) (w2 a b c d) (w3 a b c d) → Q (.ref x) H'
def sp_product_by (K : PySem.W.Frag) (C : Addr) : Sp := fun vs H Q _ => ∃ (t l r : Addr) (a b c d e f g h i u x y v z s : Int), vs = [.ref t, .ref l, .ref r] ∧ T33 H t [a, b, c] [d, e, f] [g, h, i] ∧ Tq K H l [u, x, y] ∧ Tq K H r [v, z, s] ∧ B3 2100 a b c ∧ B3 2100 d e f ∧ B3 2100 g h i ∧ B3 9000 u x y ∧ B3 1000 v z s ∧ ∀ o H', Ex0 H H' → Ti H' o [m0 a d g u x y v z s, m1 b e h u x y v z s, m2 c f i u x y v z s] → Q (.ref o) H'
def sp_map_by (K : PySem.W.Frag) (C : Addr) : Sp := fun vs H Q _ => ∃ (t l : Addr) (a b c d e f g h i u x y : Int), vs = [.ref t, .ref l] ∧ T33 H t [a, b, c] [d, e, f] [g, h, i] ∧ Tq K H l [u, x, y] ∧ B3 2100 a b c ∧ B3 2100 d e f ∧ B3 2100 g h i ∧ B3 9000 u x y ∧ ∀ o H', Ex0 H H' → M33 K H' o [m0 a d g u x y 1 0 0, m1 b e h u x y 1 0 0, m2 c f i u x y 1 0 0] [m0 a d g u x y 0 1 0, m1 b e h u x y 0 1 0, m2 c f i u x y 0 1 0] [m0 a d g u x y 0 0 1, m1 b e h u x y 0 0 1, m2 c f i u x y 0 0 1] → Q (.ref o) H'
def sp_trace_by (K : PySem.W.Frag) (C : Addr) : Sp := fun vs H Q _ => ∃ (t l : Addr) (a b c d e f g h i u x y : Int), vs = [.ref t, .ref l] ∧ T33 H t [a, b, c] [d, e, f] [g, h, i] ∧ Tq K H l [u, x, y] ∧ B3 2100 a b c ∧ B3 2100 d e f ∧ B3 2100 g h i ∧ B3 9000 u x y ∧ ∀ H', Ex0 H H' → Q (.int (m0 a d g u x y 1 0 0 + m1 b e h u x y 0 1 0 + m2 c f i u x y 0 0 1)) H'
end
theorem un33 {K : PySem.W.Frag} {i1 i2 i3 i4 i5 i6 i7 i8 i9 : Nat} {σ : L2.St} {H : Hp} {t : Addr} {a b c d e f g h i : Int} {Q : L2.St → Hp → Prop} (q : T33 H t [a, b, c] [d, e, f] [g, h, i])
    (z : Q (((((((((σ.set i1 (some (.int a))).set i2 (some (.int b))).set i3 (some (.int c))).set i4 (some (.int d))).set i5 (some (.int e))).set i6 (some (.int f))).set i7 (some (.int g))).set i8 (some (.int h))).set i9 (some (.int i))) H) :
    gTup K 3 (gCons (gTup K 3 (gCons (gName i1) (gCons (gName i2) (gCons (gName i3) gNil)))) (gCons (gTup K 3 (gCons (gName i4) (gCons (gName i5) (gCons (gName i6) gNil)))) (gCons (gTup K 3 (gCons (gName i7) (gCons (gName i8) (gCons (gName i9) gNil)))) gNil))) (.ref t) σ H Q := by
  obtain ⟨t1, t2, t3, h0, h1, h2, h3⟩ := q
  refine ⟨t, _, rfl, SqT.of h0, rfl, _, _, rfl, ?_⟩
  refine ⟨t1, _, rfl, SqT.of h1, rfl, _, _, rfl, _, _, rfl, _, _, rfl, ⟨rfl, ?_⟩⟩
  refine ⟨_, _, rfl, ?_⟩
  refine ⟨t2, _, rfl, SqT.of h2, rfl, _, _, rfl, _, _, rfl, _, _, rfl, ⟨rfl, ?_⟩⟩
  refine ⟨_, _, rfl, ?_⟩
  exact ⟨t3, _, rfl, SqT.of h3, rfl, _, _, rfl, _, _, rfl, _, _, rfl, ⟨rfl, ⟨rfl, z⟩⟩⟩
theorem t33_new {H : Hp} {t1 t2 t3 x : Addr} {r1 r2 r3 : List Int} (n1 : H t1 = none) (n2 : upd H t1 (.tup (r1.map V.int)) t2 = none) (n3 : upd (upd H t1 (.tup (r1.map V.int))) t2 (.tup (r2.map V.int)) t3 = none)
    (n4 : upd (upd (upd H t1 (.tup (r1.map V.int))) t2 (.tup (r2.map V.int))) t3 (.tup (r3.map V.int)) x = none) :
    Ex0 H (upd (upd (upd (upd H t1 (.tup (r1.map V.int))) t2 (.tup (r2.map V.int))) t3 (.tup (r3.map V.int))) x (.tup [.ref t1, .ref t2, .ref t3])) ∧
      T33 (upd (upd (upd (upd H t1 (.tup (r1.map V.int))) t2 (.tup (r2.map V.int))) t3 (.tup (r3.map V.int))) x (.tup [.ref t1, .ref t2, .ref t3])) x r1 r2 r3 :=
  ⟨(((Ex0.new n1).trans (Ex0.new n2)).trans (Ex0.new n3)).trans (Ex0.new n4), t1, t2, t3, upd_same, Ex0.ap (Ex0.new n4) (Ex0.ap (Ex0.new n3) (Ex0.ap (Ex0.new n2) upd_same)), Ex0.ap (Ex0.new n4) (Ex0.ap (Ex0.new n3) upd_same), Ex0.ap (Ex0.new n4) upd_same⟩
inductive Tis (H : Hp) : List V → List (List Int) → Prop where
  | nil : Tis H [] []
  | cons {t : Addr} {r : List Int} {xs : List V} {rs : List (List Int)} (h : Ti H t r) (q : Tis H xs rs) : Tis H (.ref t :: xs) (r :: rs)
theorem Tis.mono {H H' : Hp} {xs : List V} {rs : List (List Int)} (r : Tis H xs rs) (e : ∀ t zs, H t = some (.tup zs) → H' t = some (.tup zs)) : Tis H' xs rs := by
  induction r with
  | nil => exact .nil
  | cons h _ ih => exact .cons (e _ _ h) ih
theorem Tis.snoc {H : Hp} {xs : List V} {rs : List (List Int)} (r : Tis H xs rs) {t : Addr} {r1 : List Int} (h : Ti H t r1) : Tis H (xs ++ [.ref t]) (rs ++ [r1]) := by
  induction r with
  | nil => exact .cons h .nil
  | cons h' _ ih => exact .cons h' ih
theorem Tis.len {H : Hp} {xs : List V} {rs : List (List Int)} (r : Tis H xs rs) : xs.length = rs.length := by
  induction r with
  | nil => rfl
  | cons _ _ ih => rw [List.length_cons, List.length_cons, ih]
theorem Tis.three {H : Hp} {xs : List V} {r1 r2 r3 : List Int} (r : Tis H xs [r1, r2, r3]) : ∃ t1 t2 t3, xs = [.ref t1, .ref t2, .ref t3] ∧ Ti H t1 r1 ∧ Ti H t2 r2 ∧ Ti H t3 r3 := by
  cases r with
  | cons h1 r =>
    cases r with
    | cons h2 r =>
      cases r with
      | cons h3 r =>
        cases r
        exact ⟨_, _, _, rfl, h1, h2, h3⟩
def Uv (i : Nat) (v z s : Int) : Prop := (i = 0 ∧ v = 1 ∧ z = 0 ∧ s = 0) ∨ (i = 1 ∧ v = 0 ∧ z = 1 ∧ s = 0) ∨ (i = 2 ∧ v = 0 ∧ z = 0 ∧ s = 1)
theorem Uv.b {i : Nat} {v z s : Int} (h : Uv i v z s) : i < 3 ∧ B3 1000 v z s := by
  have b0 : B 1000 0 := ⟨by decide, by decide⟩
  have b1 : B 1000 1 := ⟨by decide, by decide⟩
  rcases h with ⟨rfl, rfl, rfl, rfl⟩ | ⟨rfl, rfl, rfl, rfl⟩ | ⟨rfl, rfl, rfl, rfl⟩
  · exact ⟨by decide, b1, b0, b0⟩
  · exact ⟨by decide, b0, b1, b0⟩
  · exact ⟨by decide, b0, b0, b1⟩
theorem unit_at {K : PySem.W.Frag} {H H' : Hp} {a b c : Addr} {i : Nat} {x : V} (h1 : SqT K H a [.int 1, .int 0, .int 0]) (h2 : SqT K H b [.int 0, .int 1, .int 0]) (h3 : SqT K H c [.int 0, .int 0, .int 1]) (e : Ex0 H H')
    (hx : [V.ref a, .ref b, .ref c][i]? = some x) : ∃ t v z s, x = .ref t ∧ Tq K H' t [v, z, s] ∧ Uv i v z s := by
  match i, hx with
  | 0, hx => exact ⟨a, 1, 0, 0, (Option.some.inj hx).symm, Ex0.tq e h1, .inl ⟨rfl, rfl, rfl, rfl⟩⟩
  | 1, hx => exact ⟨b, 0, 1, 0, (Option.some.inj hx).symm, Ex0.tq e h2, .inr (.inl ⟨rfl, rfl, rfl, rfl⟩)⟩
  | 2, hx => exact ⟨c, 0, 0, 1, (Option.some.inj hx).symm, Ex0.tq e h3, .inr (.inr ⟨rfl, rfl, rfl, rfl⟩)⟩
theorem B.pl {n : Nat} {i j : Int} (h1 : B n i) (h2 : B n j) : B (n + 1) (i + j) := ⟨by
  have a := h1.1
  have b := h2.1
  rw [Nat.pow_succ]
  omega, by omega⟩
theorem m_B {n m k : Nat} {A D G u x y v z s : Int} (ha : B k A) (hd : B k D) (hg : B k G) (hu : B3 n u x y) (hv : B3 m v z s) : B (n + m + k + 4) (m0 A D G u x y v z s) ∧ B (n + m + k + 4) (m1 A D G u x y v z s) ∧ B (n + m + k + 4) (m2 A D G u x y v z s) := by
  obtain ⟨h1, h2, h3⟩ := hu
  obtain ⟨k1, k2, k3⟩ := hv
  have k0 := ha.2
  have pl : ∀ {i j l : Nat} {p q : Int}, B i p → B j q → i < l → j < l → B l (p + q) := fun {i j l p q} h g hi hj => (B.pl (n := l - 1) (h.mono (by omega)) (g.mono (by omega))).mono (by omega)
  unfold m0 m1 m2
  have mid := pl (l := n + m + 1) (B.mul h2 k3) (B.mul h3 k2) (by omega) (by omega)
  have lA := B.mul (B.mul h2 k2) ha
  have lD := B.mul mid hd
  have lG := B.mul (B.mul h3 k3) hg
  refine ⟨?_, ?_, ?_⟩
  · exact pl (pl (l := n + m + k + 3) (pl (l := n + m + k + 2) (B.mul h1 k1) lA (by omega) (by omega)) lD (by omega) (by omega)) lG (by omega) (by omega)
  · exact pl (pl (l := n + m + k + 3) (pl (l := n + m + k + 2) (pl (l := n + m + 1) (B.mul h1 k2) (B.mul h2 k1) (by omega) (by omega)) lA (by omega) (by omega)) lD (by omega) (by omega)) lG (by omega) (by omega)
  · exact pl (pl (l := n + m + k + 3) (pl (l := n + m + k + 2) (pl (l := n + m + 1) (B.mul h1 k3) (B.mul h3 k1) (by omega) (by omega)) lA (by omega) (by omega)) lD (by omega) (by omega)) lG (by omega) (by omega)
theorem out_g {g : Nat} {n : Int} (h : (g : Int) ∣ n) : n = (g : Int) * (n / (g : Int)) := (Int.mul_ediv_cancel' h).symm
theorem gcd_out {a b : Int} (h : b ≠ 0) : ∃ p q : Int, 0 < Nat.gcd a.natAbs b.natAbs ∧ a = (Nat.gcd a.natAbs b.natAbs : Int) * p ∧ b = (Nat.gcd a.natAbs b.natAbs : Int) * q ∧ Nat.gcd p.natAbs q.natAbs = 1 := by
  have g0 : 0 < Nat.gcd a.natAbs b.natAbs := Nat.gcd_pos_of_pos_right _ (by omega)
  have d1 : ((Nat.gcd a.natAbs b.natAbs : Nat) : Int) ∣ a := Int.ofNat_dvd_left.mpr (Nat.gcd_dvd_left _ _)
  have d2 : ((Nat.gcd a.natAbs b.natAbs : Nat) : Int) ∣ b := Int.ofNat_dvd_left.mpr (Nat.gcd_dvd_right _ _)
  refine ⟨a / (Nat.gcd a.natAbs b.natAbs : Int), b / (Nat.gcd a.natAbs b.natAbs : Int), g0, out_g d1, out_g d2, ?_⟩
  rw [Int.natAbs_ediv_of_dvd d1, Int.natAbs_ediv_of_dvd d2]
  show Nat.gcd (a.natAbs / Nat.gcd a.natAbs b.natAbs) (b.natAbs / Nat.gcd a.natAbs b.natAbs) = 1
  rw [Nat.gcd_div (Nat.gcd_dvd_left _ _) (Nat.gcd_dvd_right _ _), Nat.div_self g0]
end K52
namespace K52
open PySem PySem.Spec PyProof.Rows L2 Fr
theorem dw3 {i j : Int} (h : 0 < j) (h4 : j < 2 ^ 3000) : CDivW i j := wide_div (b := 3000) h (by omega) (by decide) (by decide)
theorem lkR {a b c : V} : List.lookup ("_ring" : Str) [(("_ring" : Str), a), (("_entries" : Str), b), (("_bottom" : Str), c)] = some a := rfl
theorem lkE {a b c : V} : List.lookup ("_entries" : Str) [(("_ring" : Str), a), (("_entries" : Str), b), (("_bottom" : Str), c)] = some b := rfl
theorem lkB {a b c : V} : List.lookup ("_bottom" : Str) [(("_ring" : Str), a), (("_entries" : Str), b), (("_bottom" : Str), c)] = some c := rfl
theorem made_ex {H H' : Hp} {x dx : Addr} {o1 o2 : HO} (nx : H x = none) (ndx : H dx = none) (e1 : ∀ b o, b ≠ x → (upd (upd H dx o1) x o2) b = some o → H' b = some o) : Ex0 H H' := Ex0.of fun b o e => by
  have n1 : b ≠ x := ne_of_none e nx
  have n2 : b ≠ dx := ne_of_none e ndx
  refine e1 b o n1 ?_
  rw [upd_ne n1, upd_ne n2]
  exact e
theorem made_at {H : Hp} {x dx t : Addr} {o1 o2 : HO} {xs : List V} (nx : H x = none) (ndx : H dx = none) (h : H t = some (.tup xs)) : upd (upd H dx o1) x o2 t = some (.tup xs) := by
  rw [upd_ne (ne_of_none h nx), upd_ne (ne_of_none h ndx)]
  exact h
theorem gcd_dvd {g : Nat} : ∀ (ns : List Int) (x : Nat), g ∣ ns.foldl (fun g n => Nat.gcd g n.natAbs) x ↔ g ∣ x ∧ ∀ n ∈ ns, (g : Int) ∣ n
  | [], x => by simp
  | n :: ns, x => by
    rw [List.foldl_cons, gcd_dvd ns, Nat.dvd_gcd_iff, List.forall_mem_cons, Int.ofNat_dvd_left]
    constructor
    · rintro ⟨⟨h1, h2⟩, h3⟩; exact ⟨h1, h2, h3⟩
    · rintro ⟨h1, h2, h3⟩; exact ⟨⟨h1, h2⟩, h3⟩
theorem gcdL_dvd {g : Nat} {ns : List Int} : g ∣ gcdL ns ↔ ∀ n ∈ ns, (g : Int) ∣ n := by
  unfold gcdL
  rw [gcd_dvd]
  simp
theorem gcd3 {g : Nat} {u y z : Int} : g ∣ gcdL [u, y, z] ↔ (g : Int) ∣ u ∧ (g : Int) ∣ y ∧ (g : Int) ∣ z := by
  rw [gcdL_dvd]
  simp
theorem low_of (u y z b : Int) (h : b ≠ 0) (hb : B 3000 b) : ∃ (g u' y' z' b' : Int), g = (if b < 0 then -((gcdL [(gcdL [u, y, z] : Int), b] : Nat) : Int) else ((gcdL [(gcdL [u, y, z] : Int), b] : Nat) : Int)) ∧ g ≠ 0 ∧ B 3000 g ∧ u = g * u' ∧ y = g * y' ∧ z = g * z' ∧ b = g * b' ∧ 0 < b' ∧ Nat.gcd (gcdL [u', y', z']) b'.natAbs = 1 := by
  have hG : ∀ d : Nat, d ∣ gcdL [(gcdL [u, y, z] : Int), b] ↔ ((d : Int) ∣ u ∧ (d : Int) ∣ y ∧ (d : Int) ∣ z) ∧ (d : Int) ∣ b := fun d => by
    rw [gcdL_dvd, List.forall_mem_cons, Int.natCast_dvd_natCast, gcd3]
    simp
  generalize gcdL [(gcdL [u, y, z] : Int), b] = G at hG ⊢
  obtain ⟨⟨d1, d2, d3⟩, d4⟩ := (hG G).mp (Nat.dvd_refl _)
  have G0 : 0 < G := by
    rcases Nat.eq_zero_or_pos G with e | e
    · rw [e] at d4
      exact absurd (Int.zero_dvd.mp d4) h
    · exact e
  have Gb : G ≤ b.natAbs := Nat.le_of_dvd (by omega) (Int.ofNat_dvd_left.mp d4)
  have bG : B 3000 (G : Int) := ⟨Nat.lt_of_le_of_lt Gb hb.1, by decide⟩
  obtain ⟨u0, rfl⟩ := d1
  obtain ⟨y0, rfl⟩ := d2
  obtain ⟨z0, rfl⟩ := d3
  obtain ⟨b0, rfl⟩ := d4
  have one : ∀ d : Nat, (d : Int) ∣ u0 → (d : Int) ∣ y0 → (d : Int) ∣ z0 → (d : Int) ∣ b0 → d = 1 := fun d e1 e2 e3 e4 => by
    have m : ∀ x : Int, (d : Int) ∣ x → ((G * d : Nat) : Int) ∣ (G : Int) * x := fun x hx => by rw [Int.natCast_mul]; exact Int.mul_dvd_mul_left _ hx
    have k : G * d ∣ G * 1 := by rw [Nat.mul_one]; exact (hG (G * d)).mpr ⟨⟨m _ e1, m _ e2, m _ e3⟩, m _ e4⟩
    exact Nat.dvd_one.mp (Nat.dvd_of_mul_dvd_mul_left G0 k)
  have fin : ∀ u' y' z' b' : Int, (∀ d : Nat, (d : Int) ∣ u' → (d : Int) ∣ u0) → (∀ d : Nat, (d : Int) ∣ y' → (d : Int) ∣ y0) → (∀ d : Nat, (d : Int) ∣ z' → (d : Int) ∣ z0) → (∀ d : Nat, (d : Int) ∣ b' → (d : Int) ∣ b0) → Nat.gcd (gcdL [u', y', z']) b'.natAbs = 1 := fun u' y' z' b' e1 e2 e3 e4 => by
    obtain ⟨f1, f2, f3⟩ := gcd3.mp (Nat.gcd_dvd_left (gcdL [u', y', z']) b'.natAbs)
    exact one _ (e1 _ f1) (e2 _ f2) (e3 _ f3) (e4 _ (Int.ofNat_dvd_left.mpr (Nat.gcd_dvd_right (gcdL [u', y', z']) b'.natAbs)))
  by_cases n : (G : Int) * b0 < 0
  · rw [if_pos n]
    have b1 : b0 < 0 := by
      rcases Int.lt_or_le b0 0 with e | e
      · exact e
      · have := Int.mul_nonneg (show (0 : Int) ≤ G by omega) e
        omega
    exact ⟨_, -u0, -y0, -z0, -b0, rfl, by omega, bG.neg, by rw [Int.neg_mul_neg], by rw [Int.neg_mul_neg], by rw [Int.neg_mul_neg], by rw [Int.neg_mul_neg], by omega, fin _ _ _ _ (fun d => Int.dvd_neg.mp) (fun d => Int.dvd_neg.mp) (fun d => Int.dvd_neg.mp) (fun d => Int.dvd_neg.mp)⟩
  · rw [if_neg n]
    have b1 : 0 < b0 := by
      rcases Int.lt_or_le 0 b0 with e | e
      · exact e
      · have := Int.mul_nonneg (show (0 : Int) ≤ G by omega) (show 0 ≤ -b0 by omega)
        rw [Int.mul_neg] at this
        omega
    exact ⟨_, u0, y0, z0, b0, rfl, by omega, bG, rfl, rfl, rfl, rfl, b1, fin _ _ _ _ (fun d => id) (fun d => id) (fun d => id) (fun d => id)⟩
section
variable {P : Program} {w : World} {K : PySem.W.Frag} {mg : Str → Option Value} {base : Heap} {C_Form : Addr}
theorem ok_check_form (T : Txt K mg C_Form) : Def P w K mg base 1 "check_form" ["value"] (sp_check_form K C_Form) := by
  obtain ⟨f_, fd_, g_, F_⟩ := T.d_check_form
  refine ⟨f_, fd_, g_, F_.kp, F_.binds (ps := ["value"]) (fun _ _ _ _ _ _ us hl => match us, hl with | [_], _ => rfl), ?_⟩
  refine F_.ok sc_check_form (fun vs H Q E h => ?_) (fun cdv A outer s H vs Q E hr h => ?_)
  · first | (obtain ⟨rfl, _⟩ := h; rfl) | (obtain ⟨_, rfl, _⟩ := h; rfl) | (obtain ⟨_, _, rfl, _⟩ := h; rfl) | (obtain ⟨_, _, _, rfl, _⟩ := h; rfl) | (obtain ⟨_, _, _, _, rfl, _⟩ := h; rfl) | (obtain ⟨_, _, _, _, _, rfl, _⟩ := h; rfl) | (obtain ⟨_, _, _, _, _, _, rfl, _⟩ := h; rfl) | (obtain ⟨_, _, _, _, _, _, _, rfl, _⟩ := h; rfl) | (obtain ⟨_, _, _, _, _, _, _, _, rfl, _⟩ := h; rfl) | (obtain ⟨_, _, _, _, _, _, _, _, _, rfl, _⟩ := h; rfl) | (obtain ⟨_, _, _, _, _, _, _, _, _, _, rfl, _⟩ := h; rfl) | (obtain ⟨_, _, _, _, _, _, _, _, _, _, _, rfl, _⟩ := h; rfl) | (obtain ⟨_, _, _, _, _, _, _, _, _, _, _, _, rfl, _⟩ := h; rfl) | (obtain ⟨_, _, _, _, _, _, _, _, _, _, _, _, _, rfl, _⟩ := h; rfl) | (obtain ⟨_, _, _, _, _, _, _, _, _, _, _, _, _, _, rfl, _⟩ := h; rfl) | (obtain ⟨_, _, _, _, _, _, _, _, _, _, _, _, _, _, _, rfl, _⟩ := h; rfl) | (obtain ⟨_, _, _, _, _, _, _, _, _, _, _, _, _, _, _, _, rfl, _⟩ := h; rfl) | (obtain ⟨_, _, _, _, _, _, _, _, _, _, _, _, _, _, _, _, _, rfl, _⟩ := h; rfl) | (obtain ⟨_, _, _, _, _, _, _, _, _, _, _, _, _, _, _, _, _, _, rfl, _⟩ := h; rfl) | (obtain ⟨_, _, _, _, _, _, _, _, _, _, _, _, _, _, _, _, _, _, _, rfl, _⟩ := h; rfl) | (obtain ⟨_, _, _, _, _, _, _, _, _, _, _, _, _, _, _, _, _, _, _, _, rfl, _⟩ := h; rfl) | (obtain ⟨_, _, _, _, _, _, _, _, _, _, _, _, _, _, _, _, _, _, _, _, _, rfl, _⟩ := h; rfl) | (obtain ⟨_, _, _, _, _, _, _, _, _, _, _, _, _, _, _, _, _, _, _, _, _, _, rfl, _⟩ := h; rfl) | (obtain ⟨_, _, _, _, _, _, _, _, _, _, _, _, _, _, _, _, _, _, _, _, _, _, _, rfl, _⟩ := h; rfl)
  · obtain ⟨x, ns, rfl, ⟨dx, t, hx, ht⟩, q⟩ := h
    refine ⟨_, (pss_one (ps_if (pt_not (pt_val (pe_callB call_isi (by rfl) T.b_isinstance (by decide +kernel) (pa_cons (pv 0) (pa_cons (pe_glob (v := .ref C_Form) (by rfl) T.g_Form rfl) pa_nil)))))
      pss_never
      pss_nil)), ?_⟩
    refine ⟨_, rfl, _, _, _, _, true, rfl, .own _, ty_ins T.ty_Form T.cl_Form hx, kit_self, _, rfl, ?_⟩
    exact iteF q
end
end K52
namespace K52
open PySem PySem.Spec PyProof.Rows L2 Fr
theorem ex_two {H : Hp} {x dx : Addr} {o1 o2 : HO} (nx : H x = none) (ndx : H dx = none) : Ex0 H (upd (upd H dx o1) x o2) := Ex0.of fun b o e => by
  rw [upd_ne (ne_of_none e nx), upd_ne (ne_of_none e ndx)]
  exact e
theorem fo_made {C : Addr} {H H' : Hp} {x dx t : Addr} {ns : List Int} {o1 o2 : HO} (nx : H x = none) (ndx : H dx = none) (ht : Ti H t ns) (e1 : ∀ b o, b ≠ x → (upd (upd H dx o1) x o2) b = some o → H' b = some o)
    (e2 : H' x = some (.ins C dx [(("_coefficients" : Str), .ref t)])) : Ex0 H H' ∧ FormAt C H' x ns :=
  ⟨made_ex nx ndx e1, dx, t, e2, Ex0.ti (made_ex nx ndx e1) ht⟩
theorem ri_made {C C_R : Addr} {H H' : Hp} {x dx f : Addr} {ns : List Int} {o1 o2 : HO} (nx : H x = none) (ndx : H dx = none) (hf : FormAt C H f ns) (e1 : ∀ b o, b ≠ x → (upd (upd H dx o1) x o2) b = some o → H' b = some o)
    (e2 : H' x = some (.ins C_R dx [(("_form" : Str), .ref f)])) : Ex0 H H' ∧ RingAt C C_R H' x ns :=
  ⟨made_ex nx ndx e1, dx, f, e2, Ex0.fo (made_ex nx ndx e1) hf⟩
theorem fo_fv {C c : Addr} {H H' : Hp} {x : Addr} {ns : List Int} (hc : Vat c H) (f : Fv c H H') (h : FormAt C H x ns) : FormAt C H' x ns := by
  obtain ⟨dx, t, h1, h2⟩ := h
  refine ⟨dx, t, f.2 x _ (fun e => ?_) h1, fv_tup hc f h2⟩
  obtain ⟨u, v, z, q⟩ := hc
  unfold Sv at e
  rw [e, q] at h1
  cases h1
theorem ri_fv {C C_R c : Addr} {H H' : Hp} {x : Addr} {ns : List Int} (hc : Vat c H) (f : Fv c H H') (h : RingAt C C_R H x ns) : RingAt C C_R H' x ns := by
  obtain ⟨dx, t, h1, h2⟩ := h
  refine ⟨dx, t, f.2 x _ (fun e => ?_) h1, fo_fv hc f h2⟩
  obtain ⟨u, v, z, q⟩ := hc
  unfold Sv at e
  rw [e, q] at h1
  cases h1
theorem lst_fv {c a : Addr} {H H' : Hp} {t1 t2 t3 : Addr} (hc : Vat c H) (f : Fv c H H') (h : H a = some (.lst [.ref t1, .ref t2, .ref t3])) : H' a = some (.lst [.ref t1, .ref t2, .ref t3]) := f.2 a _ (fun e => by
  obtain ⟨x, y, z, q⟩ := hc
  unfold Sv at e
  subst e
  rw [q] at h
  cases h) h
theorem l33_fv {c : Addr} {H H' : Hp} {a : Addr} {r1 r2 r3 : List Int} (hc : Vat c H) (f : Fv c H H') (h : L33 H a r1 r2 r3) : L33 H' a r1 r2 r3 := by
  obtain ⟨t1, t2, t3, h0, h1, h2, h3⟩ := h
  exact ⟨t1, t2, t3, lst_fv hc f h0, fv_tup hc f h1, fv_tup hc f h2, fv_tup hc f h3⟩
theorem el_fv {C C_R C_E c : Addr} {H H' : Hp} {x : Addr} {ns : List Int} {u y z b : Int} (hc : Vat c H) (f : Fv c H H') (h : ElAt C C_R C_E H x ns u y z b) : ElAt C C_R C_E H' x ns u y z b := by
  obtain ⟨dx, r, t, h1, h2, h3⟩ := h
  refine ⟨dx, r, t, f.2 x _ (fun e => ?_) h1, ri_fv hc f h2, fv_tup hc f h3⟩
  obtain ⟨u, v, z, q⟩ := hc
  unfold Sv at e
  rw [e, q] at h1
  cases h1
end K52
namespace K52
open PySem PySem.Spec PyProof.Rows L2 Fr
open K05M (fv fl2 fl3 fdisc)
theorem ab_nat (z : Int) : (if z < 0 then -z else z) = (z.natAbs : Int) := by
  by_cases h : z < 0
  · rw [if_pos h]; omega
  · rw [if_neg h]; omega
section
def sp_are_any_integers (_ : PySem.W.Frag) (C : Addr) : Sp := fun vs H Q _ => ∃ (a : Addr) (ns : List Int), vs = [.ref a, .int (ns.length : Int)] ∧ Ti H a ns ∧ ns.length ≤ 1000 ∧ ∀ H', Ex0 H H' → Q (.bl true) H'
def sp_determinant_of (_ : PySem.W.Frag) (C : Addr) : Sp := fun vs H Q _ => ∃ (a : Addr) (p q r s : Int), vs = [.ref a] ∧ T4 H a p q r s ∧ B 200 p ∧ B 200 q ∧ B 200 r ∧ B 200 s ∧ Q (.int (p * s - q * r)) H
def sp_is_change (_ : PySem.W.Frag) (C : Addr) : Sp := fun vs H Q _ => ∃ (a : Addr) (p q r s : Int), vs = [.ref a] ∧ T4 H a p q r s ∧ ChOk p q r s ∧ ∀ H', Ex0 H H' → Q (.bl true) H'
def sp_is_short_change (_ : PySem.W.Frag) (C : Addr) : Sp := fun vs H Q _ => ∃ (a : Addr) (p q r s : Int), vs = [.ref a] ∧ T4 H a p q r s ∧ ChOk p q r s ∧ ∀ H', Ex0 H H' → Q (.bl true) H'
def sp_check_change (_ : PySem.W.Frag) (C : Addr) : Sp := fun vs H Q _ => ∃ (a : Addr) (p q r s : Int), vs = [.ref a] ∧ T4 H a p q r s ∧ ChOk p q r s ∧ ∀ H', Ex0 H H' → Q .non H'
def sp_form_led (_ : PySem.W.Frag) (C : Addr) : Sp := fun vs H Q _ => ∃ (t u : Addr) (a b c d p q r s : Int), vs = [.ref t, .ref u] ∧ Ti H t [a, b, c, d] ∧ T4 H u p q r s ∧ B 1000 a ∧ B 1000 b ∧ B 1000 c ∧ B 1000 d ∧ B 200 p ∧ B 200 q ∧ B 200 r ∧ B 200 s ∧ ∀ x H', Ex0 H H' → Ti H' x (fled a b c d p q r s) → Q (.ref x) H'
def sp_form_of (_ : PySem.W.Frag) (C : Addr) : Sp := fun vs H Q _ => ∃ (t : Addr) (ns : List Int), vs = [.ref t] ∧ Ti H t ns ∧ ∀ x H', Ex0 H H' → FormAt C H' x ns → Q (.ref x) H'
def sp_Form_led (_ : PySem.W.Frag) (C : Addr) : Sp := fun vs H Q _ => ∃ (z u : Addr) (a b c d p q r s : Int), vs = [.ref z, .ref u] ∧ FormAt C H z [a, b, c, d] ∧ T4 H u p q r s ∧ B 1000 a ∧ B 1000 b ∧ B 1000 c ∧ B 1000 d ∧ ChOk p q r s ∧ ∀ x H', Ex0 H H' → FormAt C H' x (fled a b c d p q r s) → Q (.ref x) H'
def sp_Form___call__ (_ : PySem.W.Frag) (C : Addr) : Sp := fun vs H Q _ => ∃ (z : Addr) (a b c d x y : Int), vs = [.ref z, .int x, .int y] ∧ FormAt C H z [a, b, c, d] ∧ B 1000 a ∧ B 1000 b ∧ B 1000 c ∧ B 1000 d ∧ Short x ∧ Short y ∧ Q (.int (fv a b c d x y)) H
def sp_is_between (_ : PySem.W.Frag) (C : Addr) : Sp := fun vs H Q _ => ∃ i lo hi : Int, vs = [.int i, .int lo, .int hi] ∧ Short i ∧ lo ≤ i ∧ i ≤ hi ∧ Q (.bl true) H
def sp_check_between (_ : PySem.W.Frag) (C : Addr) : Sp := fun vs H Q _ => ∃ i lo hi : Int, vs = [.int i, .int lo, .int hi] ∧ Short i ∧ lo ≤ i ∧ i ≤ hi ∧ Q .non H
def sp_form_value (_ : PySem.W.Frag) (C : Addr) : Sp := fun vs H Q _ => ∃ (t : Addr) (a b c d x y : Int), vs = [.ref t, .int x, .int y] ∧ Ti H t [a, b, c, d] ∧ B 1000 a ∧ B 1000 b ∧ B 1000 c ∧ B 1000 d ∧ B 200 x ∧ B 200 y ∧ Q (.int (fv a b c d x y)) H
end
section
variable {P : Program} {w : World} {K : PySem.W.Frag} {mg : Str → Option Value} {base : Heap} {C_Form : Addr}
theorem ok_is_between (T : Txt K mg C_Form) : Def P w K mg base 3 "is_between" ["value", "low", "high"] (sp_is_between K C_Form) := by
  obtain ⟨f_, fd_, g_, F_⟩ := T.d_is_between
  obtain ⟨f_is_short_integer, fd_is_short_integer, g_is_short_integer, k_is_short_integer, b_is_short_integer, G_is_short_integer⟩ := (ok_is_short_integer (P := P) (w := w) (base := base) T)
  refine ⟨f_, fd_, g_, F_.kp, F_.binds (ps := ["value", "low", "high"]) (fun _ _ _ _ _ _ us hl => match us, hl with | [_, _, _], _ => rfl), ?_⟩
  refine F_.ok sc_is_between (fun vs H Q E h => ?_) (fun cdv A outer s H vs Q E hr h => ?_)
  · first | (obtain ⟨rfl, _⟩ := h; rfl) | (obtain ⟨_, rfl, _⟩ := h; rfl) | (obtain ⟨_, _, rfl, _⟩ := h; rfl) | (obtain ⟨_, _, _, rfl, _⟩ := h; rfl) | (obtain ⟨_, _, _, _, rfl, _⟩ := h; rfl) | (obtain ⟨_, _, _, _, _, rfl, _⟩ := h; rfl) | (obtain ⟨_, _, _, _, _, _, rfl, _⟩ := h; rfl) | (obtain ⟨_, _, _, _, _, _, _, rfl, _⟩ := h; rfl) | (obtain ⟨_, _, _, _, _, _, _, _, rfl, _⟩ := h; rfl) | (obtain ⟨_, _, _, _, _, _, _, _, _, rfl, _⟩ := h; rfl) | (obtain ⟨_, _, _, _, _, _, _, _, _, _, rfl, _⟩ := h; rfl) | (obtain ⟨_, _, _, _, _, _, _, _, _, _, _, rfl, _⟩ := h; rfl) | (obtain ⟨_, _, _, _, _, _, _, _, _, _, _, _, rfl, _⟩ := h; rfl) | (obtain ⟨_, _, _, _, _, _, _, _, _, _, _, _, _, rfl, _⟩ := h; rfl) | (obtain ⟨_, _, _, _, _, _, _, _, _, _, _, _, _, _, rfl, _⟩ := h; rfl) | (obtain ⟨_, _, _, _, _, _, _, _, _, _, _, _, _, _, _, rfl, _⟩ := h; rfl) | (obtain ⟨_, _, _, _, _, _, _, _, _, _, _, _, _, _, _, _, rfl, _⟩ := h; rfl) | (obtain ⟨_, _, _, _, _, _, _, _, _, _, _, _, _, _, _, _, _, rfl, _⟩ := h; rfl) | (obtain ⟨_, _, _, _, _, _, _, _, _, _, _, _, _, _, _, _, _, _, rfl, _⟩ := h; rfl) | (obtain ⟨_, _, _, _, _, _, _, _, _, _, _, _, _, _, _, _, _, _, _, rfl, _⟩ := h; rfl) | (obtain ⟨_, _, _, _, _, _, _, _, _, _, _, _, _, _, _, _, _, _, _, _, rfl, _⟩ := h; rfl) | (obtain ⟨_, _, _, _, _, _, _, _, _, _, _, _, _, _, _, _, _, _, _, _, _, rfl, _⟩ := h; rfl) | (obtain ⟨_, _, _, _, _, _, _, _, _, _, _, _, _, _, _, _, _, _, _, _, _, _, rfl, _⟩ := h; rfl) | (obtain ⟨_, _, _, _, _, _, _, _, _, _, _, _, _, _, _, _, _, _, _, _, _, _, _, rfl, _⟩ := h; rfl)
  · obtain ⟨i, lo, hi, rfl, hs, h1, h2, q⟩ := h
    refine ⟨_, (pss_one (ps_ret (pe_and (pe_call G_is_short_integer (hr.mono (by decide)) (by rfl) g_is_short_integer k_is_short_integer b_is_short_integer .nil pass0 (pa_cons (pv 0) pa_nil)) (pe_one (pe_chain op_le op_le (pv 1) (pv 0) (pv 2)))))), ?_⟩
    refine ⟨_, rfl, i, rfl, hs, _, rfl, iteT ?_⟩
    refine ⟨_, rfl, _, rfl, _, _, rfl, rfl, _, rfl, dT h1 ⟨_, rfl, _, _, rfl, rfl, ?_⟩⟩
    show Q (.bl (decide (i ≤ hi))) H
    rw [decide_eq_true h2]
    exact q
theorem ok_check_between (T : Txt K mg C_Form) : Def P w K mg base 4 "check_between" ["value", "low", "high"] (sp_check_between K C_Form) := by
  obtain ⟨f_, fd_, g_, F_⟩ := T.d_check_between
  obtain ⟨f_is_between, fd_is_between, g_is_between, k_is_between, b_is_between, G_is_between⟩ := (ok_is_between (P := P) (w := w) (base := base) T)
  refine ⟨f_, fd_, g_, F_.kp, F_.binds (ps := ["value", "low", "high"]) (fun _ _ _ _ _ _ us hl => match us, hl with | [_, _, _], _ => rfl), ?_⟩
  refine F_.ok sc_check_between (fun vs H Q E h => ?_) (fun cdv A outer s H vs Q E hr h => ?_)
  · first | (obtain ⟨rfl, _⟩ := h; rfl) | (obtain ⟨_, rfl, _⟩ := h; rfl) | (obtain ⟨_, _, rfl, _⟩ := h; rfl) | (obtain ⟨_, _, _, rfl, _⟩ := h; rfl) | (obtain ⟨_, _, _, _, rfl, _⟩ := h; rfl) | (obtain ⟨_, _, _, _, _, rfl, _⟩ := h; rfl) | (obtain ⟨_, _, _, _, _, _, rfl, _⟩ := h; rfl) | (obtain ⟨_, _, _, _, _, _, _, rfl, _⟩ := h; rfl) | (obtain ⟨_, _, _, _, _, _, _, _, rfl, _⟩ := h; rfl) | (obtain ⟨_, _, _, _, _, _, _, _, _, rfl, _⟩ := h; rfl) | (obtain ⟨_, _, _, _, _, _, _, _, _, _, rfl, _⟩ := h; rfl) | (obtain ⟨_, _, _, _, _, _, _, _, _, _, _, rfl, _⟩ := h; rfl) | (obtain ⟨_, _, _, _, _, _, _, _, _, _, _, _, rfl, _⟩ := h; rfl) | (obtain ⟨_, _, _, _, _, _, _, _, _, _, _, _, _, rfl, _⟩ := h; rfl) | (obtain ⟨_, _, _, _, _, _, _, _, _, _, _, _, _, _, rfl, _⟩ := h; rfl) | (obtain ⟨_, _, _, _, _, _, _, _, _, _, _, _, _, _, _, rfl, _⟩ := h; rfl) | (obtain ⟨_, _, _, _, _, _, _, _, _, _, _, _, _, _, _, _, rfl, _⟩ := h; rfl) | (obtain ⟨_, _, _, _, _, _, _, _, _, _, _, _, _, _, _, _, _, rfl, _⟩ := h; rfl) | (obtain ⟨_, _, _, _, _, _, _, _, _, _, _, _, _, _, _, _, _, _, rfl, _⟩ := h; rfl) | (obtain ⟨_, _, _, _, _, _, _, _, _, _, _, _, _, _, _, _, _, _, _, rfl, _⟩ := h; rfl) | (obtain ⟨_, _, _, _, _, _, _, _, _, _, _, _, _, _, _, _, _, _, _, _, rfl, _⟩ := h; rfl) | (obtain ⟨_, _, _, _, _, _, _, _, _, _, _, _, _, _, _, _, _, _, _, _, _, rfl, _⟩ := h; rfl) | (obtain ⟨_, _, _, _, _, _, _, _, _, _, _, _, _, _, _, _, _, _, _, _, _, _, rfl, _⟩ := h; rfl) | (obtain ⟨_, _, _, _, _, _, _, _, _, _, _, _, _, _, _, _, _, _, _, _, _, _, _, rfl, _⟩ := h; rfl)
  · obtain ⟨i, lo, hi, rfl, hs, h1, h2, q⟩ := h
    refine ⟨_, (pss_one (ps_if (pt_not (pt_val (pe_call G_is_between (hr.mono (by decide)) (by rfl) g_is_between k_is_between b_is_between .nil pass0 (pa_cons (pv 0) (pa_cons (pv 1) (pa_cons (pv 2) pa_nil))))))
      pss_never
      pss_nil)), ?_⟩
    refine ⟨_, rfl, _, rfl, _, rfl, i, lo, hi, rfl, hs, h1, h2, _, rfl, ?_⟩
    exact iteF q
theorem ok_form_value (T : Txt K mg C_Form) : Def P w K mg base 1 "form_value" ["coefficients", "x", "y"] (sp_form_value K C_Form) := by
  obtain ⟨f_, fd_, g_, F_⟩ := T.d_form_value
  refine ⟨f_, fd_, g_, F_.kp, F_.binds (ps := ["coefficients", "x", "y"]) (fun _ _ _ _ _ _ us hl => match us, hl with | [_, _, _], _ => rfl), ?_⟩
  refine F_.ok sc_form_value (fun vs H Q E h => ?_) (fun cdv A outer s H vs Q E hr h => ?_)
  · first | (obtain ⟨rfl, _⟩ := h; rfl) | (obtain ⟨_, rfl, _⟩ := h; rfl) | (obtain ⟨_, _, rfl, _⟩ := h; rfl) | (obtain ⟨_, _, _, rfl, _⟩ := h; rfl) | (obtain ⟨_, _, _, _, rfl, _⟩ := h; rfl) | (obtain ⟨_, _, _, _, _, rfl, _⟩ := h; rfl) | (obtain ⟨_, _, _, _, _, _, rfl, _⟩ := h; rfl) | (obtain ⟨_, _, _, _, _, _, _, rfl, _⟩ := h; rfl) | (obtain ⟨_, _, _, _, _, _, _, _, rfl, _⟩ := h; rfl) | (obtain ⟨_, _, _, _, _, _, _, _, _, rfl, _⟩ := h; rfl) | (obtain ⟨_, _, _, _, _, _, _, _, _, _, rfl, _⟩ := h; rfl) | (obtain ⟨_, _, _, _, _, _, _, _, _, _, _, rfl, _⟩ := h; rfl) | (obtain ⟨_, _, _, _, _, _, _, _, _, _, _, _, rfl, _⟩ := h; rfl) | (obtain ⟨_, _, _, _, _, _, _, _, _, _, _, _, _, rfl, _⟩ := h; rfl) | (obtain ⟨_, _, _, _, _, _, _, _, _, _, _, _, _, _, rfl, _⟩ := h; rfl) | (obtain ⟨_, _, _, _, _, _, _, _, _, _, _, _, _, _, _, rfl, _⟩ := h; rfl) | (obtain ⟨_, _, _, _, _, _, _, _, _, _, _, _, _, _, _, _, rfl, _⟩ := h; rfl) | (obtain ⟨_, _, _, _, _, _, _, _, _, _, _, _, _, _, _, _, _, rfl, _⟩ := h; rfl) | (obtain ⟨_, _, _, _, _, _, _, _, _, _, _, _, _, _, _, _, _, _, rfl, _⟩ := h; rfl) | (obtain ⟨_, _, _, _, _, _, _, _, _, _, _, _, _, _, _, _, _, _, _, rfl, _⟩ := h; rfl) | (obtain ⟨_, _, _, _, _, _, _, _, _, _, _, _, _, _, _, _, _, _, _, _, rfl, _⟩ := h; rfl) | (obtain ⟨_, _, _, _, _, _, _, _, _, _, _, _, _, _, _, _, _, _, _, _, _, rfl, _⟩ := h; rfl) | (obtain ⟨_, _, _, _, _, _, _, _, _, _, _, _, _, _, _, _, _, _, _, _, _, _, rfl, _⟩ := h; rfl) | (obtain ⟨_, _, _, _, _, _, _, _, _, _, _, _, _, _, _, _, _, _, _, _, _, _, _, rfl, _⟩ := h; rfl)
  · obtain ⟨t, a, b, c, d, x, y, rfl, ht, ba, bb, bc, bd, bx, by', q⟩ := h
    refine ⟨_, (pss_cons (ps_asg (pv 0) (pg_tup (by rfl) (pgs_cons (pg_name (i := 3) sc_form_value.nd rfl (.inl rfl)) (pgs_cons (pg_name (i := 4) sc_form_value.nd rfl (.inl rfl)) (pgs_cons (pg_name (i := 5) sc_form_value.nd rfl (.inl rfl)) (pgs_cons (pg_name (i := 6) sc_form_value.nd rfl (.inl rfl)) pgs_nil))))))
    (pss_one (ps_ret (pe_op op_add (pe_op op_add (pe_op op_add (pe_op op_mulW (pe_op op_mulW (pe_op op_mulW (pv 3) (pv 1)) (pv 1)) (pv 1)) (pe_op op_mulW (pe_op op_mulW (pe_op op_mulW (pv 4) (pv 1)) (pv 1)) (pv 2))) (pe_op op_mulW (pe_op op_mulW (pe_op op_mulW (pv 5) (pv 1)) (pv 2)) (pv 2))) (pe_op op_mulW (pe_op op_mulW (pe_op op_mulW (pv 6) (pv 2)) (pv 2)) (pv 2)))))), ?_⟩
    refine ⟨_, rfl, unI4 ht ?_⟩
    exact ⟨_, rfl, _, rfl, _, _, rfl, rfl, mulB (by with_reducible assumption) (by with_reducible assumption) (by decide), _, rfl, _, _, rfl, rfl, mulB (B.mul (by with_reducible assumption) (by with_reducible assumption)) (by with_reducible assumption) (by decide), _, rfl, _, _, rfl, rfl, mulB (B.mul (B.mul (by with_reducible assumption) (by with_reducible assumption)) (by with_reducible assumption)) (by with_reducible assumption) (by decide), _, rfl, _, rfl, _, _, rfl, rfl, mulB (by with_reducible assumption) (by with_reducible assumption) (by decide), _, rfl, _, _, rfl, rfl, mulB (B.mul (by with_reducible assumption) (by with_reducible assumption)) (by with_reducible assumption) (by decide), _, rfl, _, _, rfl, rfl, mulB (B.mul (B.mul (by with_reducible assumption) (by with_reducible assumption)) (by with_reducible assumption)) (by with_reducible assumption) (by decide), _, _, rfl, rfl, _, rfl, _, rfl, _, _, rfl, rfl, mulB (by with_reducible assumption) (by with_reducible assumption) (by decide), _, rfl, _, _, rfl, rfl, mulB (B.mul (by with_reducible assumption) (by with_reducible assumption)) (by with_reducible assumption) (by decide), _, rfl, _, _, rfl, rfl, mulB (B.mul (B.mul (by with_reducible assumption) (by with_reducible assumption)) (by with_reducible assumption)) (by with_reducible assumption) (by decide), _, _, rfl, rfl, _, rfl, _, rfl, _, _, rfl, rfl, mulB (by with_reducible assumption) (by with_reducible assumption) (by decide), _, rfl, _, _, rfl, rfl, mulB (B.mul (by with_reducible assumption) (by with_reducible assumption)) (by with_reducible assumption) (by decide), _, rfl, _, _, rfl, rfl, mulB (B.mul (B.mul (by with_reducible assumption) (by with_reducible assumption)) (by with_reducible assumption)) (by with_reducible assumption) (by decide), _, _, rfl, rfl, q⟩
theorem ok_form_of (T : Txt K mg C_Form) : Def P w K mg base 7 "form_of" ["coefficients"] (sp_form_of K C_Form) := by
  obtain ⟨f_, fd_, g_, F_⟩ := T.d_form_of
  obtain ⟨p_Form___init__, f_Form___init__, fd_Form___init__, R_Form___init__, b_Form___init__, G_Form___init__⟩ := (ok_Form___init__ (P := P) (w := w) (base := base) T)
  refine ⟨f_, fd_, g_, F_.kp, F_.binds (ps := ["coefficients"]) (fun _ _ _ _ _ _ us hl => match us, hl with | [_], _ => rfl), ?_⟩
  refine F_.ok sc_form_of (fun vs H Q E h => ?_) (fun cdv A outer s H vs Q E hr h => ?_)
  · first | (obtain ⟨rfl, _⟩ := h; rfl) | (obtain ⟨_, rfl, _⟩ := h; rfl) | (obtain ⟨_, _, rfl, _⟩ := h; rfl) | (obtain ⟨_, _, _, rfl, _⟩ := h; rfl) | (obtain ⟨_, _, _, _, rfl, _⟩ := h; rfl) | (obtain ⟨_, _, _, _, _, rfl, _⟩ := h; rfl) | (obtain ⟨_, _, _, _, _, _, rfl, _⟩ := h; rfl) | (obtain ⟨_, _, _, _, _, _, _, rfl, _⟩ := h; rfl) | (obtain ⟨_, _, _, _, _, _, _, _, rfl, _⟩ := h; rfl) | (obtain ⟨_, _, _, _, _, _, _, _, _, rfl, _⟩ := h; rfl) | (obtain ⟨_, _, _, _, _, _, _, _, _, _, rfl, _⟩ := h; rfl) | (obtain ⟨_, _, _, _, _, _, _, _, _, _, _, rfl, _⟩ := h; rfl) | (obtain ⟨_, _, _, _, _, _, _, _, _, _, _, _, rfl, _⟩ := h; rfl) | (obtain ⟨_, _, _, _, _, _, _, _, _, _, _, _, _, rfl, _⟩ := h; rfl) | (obtain ⟨_, _, _, _, _, _, _, _, _, _, _, _, _, _, rfl, _⟩ := h; rfl) | (obtain ⟨_, _, _, _, _, _, _, _, _, _, _, _, _, _, _, rfl, _⟩ := h; rfl) | (obtain ⟨_, _, _, _, _, _, _, _, _, _, _, _, _, _, _, _, rfl, _⟩ := h; rfl) | (obtain ⟨_, _, _, _, _, _, _, _, _, _, _, _, _, _, _, _, _, rfl, _⟩ := h; rfl) | (obtain ⟨_, _, _, _, _, _, _, _, _, _, _, _, _, _, _, _, _, _, rfl, _⟩ := h; rfl) | (obtain ⟨_, _, _, _, _, _, _, _, _, _, _, _, _, _, _, _, _, _, _, rfl, _⟩ := h; rfl) | (obtain ⟨_, _, _, _, _, _, _, _, _, _, _, _, _, _, _, _, _, _, _, _, rfl, _⟩ := h; rfl) | (obtain ⟨_, _, _, _, _, _, _, _, _, _, _, _, _, _, _, _, _, _, _, _, _, rfl, _⟩ := h; rfl) | (obtain ⟨_, _, _, _, _, _, _, _, _, _, _, _, _, _, _, _, _, _, _, _, _, _, rfl, _⟩ := h; rfl) | (obtain ⟨_, _, _, _, _, _, _, _, _, _, _, _, _, _, _, _, _, _, _, _, _, _, _, rfl, _⟩ := h; rfl)
  · obtain ⟨t, ns, rfl, ht, q⟩ := h
    refine ⟨_, (pss_cons (ps_set (i := 1) sc_form_of.nd rfl (.inl rfl) (pe_make R_Form___init__ G_Form___init__ (hr.mono (by decide)) (by rfl) T.g_Form b_Form___init__ .nil pass0 (pa_cons (pe_tup (pa_cons pe_int (pa_cons pe_int (pa_cons pe_int (pa_cons pe_int pa_nil))))) pa_nil)))
    (pss_cons (ps_fld (pv 1) (pv 0) (by rfl))
    (pss_one (ps_ret (pv 1))))), ?_⟩
    refine ⟨sl4, fun t0 n0 => ?_⟩
    intro x dx nx ndx ne
    have e0 : Ex0 H (upd H t0 (.tup [.int 0, .int 0, .int 0, .int 0])) := Ex0.new n0
    have hx0 : H x = none := Fx.free e0 (fun z => z) nx
    have hd0 : H dx = none := Fx.free e0 (fun z => z) ndx
    have nt : t0 ≠ x := ne_of_none (show upd H t0 (.tup [.int 0, .int 0, .int 0, .int 0]) t0 = some _ from upd_same) nx
    have nd : t0 ≠ dx := ne_of_none (show upd H t0 (.tup [.int 0, .int 0, .int 0, .int 0]) t0 = some _ from upd_same) ndx
    refine ⟨x, dx, t0, [0, 0, 0, 0], rfl, upd_same, ?_, rfl, fun n hn => ?_, fun H' e1 e2 => ⟨rfl, ?_⟩⟩
    · show (upd (upd (upd H t0 _) dx _) x _) t0 = _
      rw [upd_ne nt, upd_ne nd]
      exact upd_same
    · have : n = 0 := by simpa using hn
      rw [this]
      exact ⟨by decide, by decide⟩
    refine ⟨_, rfl, _, rfl, x, C_Form, dx, _, rfl, e2, T.cl_Form, T.na_Form_coefficients, (by decide : (1:Nat) < 1000), ?_⟩
    refine ⟨_, rfl, ?_⟩
    have ex : ∀ b o, H b = some o → b ≠ x ∧ H' b = some o := fun b o e => by
      have n1 : b ≠ x := ne_of_none e hx0
      have n2 : b ≠ dx := ne_of_none e hd0
      refine ⟨n1, e1 b o n1 ?_⟩
      rw [upd_ne n1, upd_ne n2]
      exact e0.ap e
    refine q x _ (Ex0.of fun b o e => ?_) ⟨dx, t, ?_, ?_⟩
    · rw [upd_ne (ex b o e).1]
      exact (ex b o e).2
    · rw [upd_same, putF_same]
    · show (upd H' x _) t = _
      rw [upd_ne (ex _ _ ht).1]
      exact (ex _ _ ht).2
theorem ok_Form___call__ (T : Txt K mg C_Form) : MDef (fun p f => StX.CallO K C_Form f) P w K mg base 4 ["self", "x", "y"] (sp_Form___call__ K C_Form) := by
  obtain ⟨p_, f_, fd_, R_, F_⟩ := T.e_Form___call__
  obtain ⟨f_check_integer, fd_check_integer, g_check_integer, k_check_integer, b_check_integer, G_check_integer⟩ := (ok_check_integer (P := P) (w := w) (base := base) T)
  obtain ⟨f_form_value, fd_form_value, g_form_value, k_form_value, b_form_value, G_form_value⟩ := (ok_form_value (P := P) (w := w) (base := base) T)
  refine ⟨p_, f_, fd_, R_, F_.binds (ps := ["self", "x", "y"]) (fun _ _ _ _ _ _ us hl => match us, hl with | [_, _, _], _ => rfl), ?_⟩
  refine F_.ok sc_Form___call__ (fun vs H Q E h => ?_) (fun cdv A outer s H vs Q E hr h => ?_)
  · first | (obtain ⟨rfl, _⟩ := h; rfl) | (obtain ⟨_, rfl, _⟩ := h; rfl) | (obtain ⟨_, _, rfl, _⟩ := h; rfl) | (obtain ⟨_, _, _, rfl, _⟩ := h; rfl) | (obtain ⟨_, _, _, _, rfl, _⟩ := h; rfl) | (obtain ⟨_, _, _, _, _, rfl, _⟩ := h; rfl) | (obtain ⟨_, _, _, _, _, _, rfl, _⟩ := h; rfl) | (obtain ⟨_, _, _, _, _, _, _, rfl, _⟩ := h; rfl) | (obtain ⟨_, _, _, _, _, _, _, _, rfl, _⟩ := h; rfl) | (obtain ⟨_, _, _, _, _, _, _, _, _, rfl, _⟩ := h; rfl) | (obtain ⟨_, _, _, _, _, _, _, _, _, _, rfl, _⟩ := h; rfl) | (obtain ⟨_, _, _, _, _, _, _, _, _, _, _, rfl, _⟩ := h; rfl) | (obtain ⟨_, _, _, _, _, _, _, _, _, _, _, _, rfl, _⟩ := h; rfl) | (obtain ⟨_, _, _, _, _, _, _, _, _, _, _, _, _, rfl, _⟩ := h; rfl) | (obtain ⟨_, _, _, _, _, _, _, _, _, _, _, _, _, _, rfl, _⟩ := h; rfl) | (obtain ⟨_, _, _, _, _, _, _, _, _, _, _, _, _, _, _, rfl, _⟩ := h; rfl) | (obtain ⟨_, _, _, _, _, _, _, _, _, _, _, _, _, _, _, _, rfl, _⟩ := h; rfl) | (obtain ⟨_, _, _, _, _, _, _, _, _, _, _, _, _, _, _, _, _, rfl, _⟩ := h; rfl) | (obtain ⟨_, _, _, _, _, _, _, _, _, _, _, _, _, _, _, _, _, _, rfl, _⟩ := h; rfl) | (obtain ⟨_, _, _, _, _, _, _, _, _, _, _, _, _, _, _, _, _, _, _, rfl, _⟩ := h; rfl) | (obtain ⟨_, _, _, _, _, _, _, _, _, _, _, _, _, _, _, _, _, _, _, _, rfl, _⟩ := h; rfl) | (obtain ⟨_, _, _, _, _, _, _, _, _, _, _, _, _, _, _, _, _, _, _, _, _, rfl, _⟩ := h; rfl) | (obtain ⟨_, _, _, _, _, _, _, _, _, _, _, _, _, _, _, _, _, _, _, _, _, _, rfl, _⟩ := h; rfl) | (obtain ⟨_, _, _, _, _, _, _, _, _, _, _, _, _, _, _, _, _, _, _, _, _, _, _, rfl, _⟩ := h; rfl)
  · obtain ⟨z, a, b, c, d, x, y, rfl, ⟨dx, t, hx, ht⟩, ba, bb, bc, bd, sx, sy, q⟩ := h
    refine ⟨_, (pss_cons (ps_expr (pe_call G_check_integer (hr.mono (by decide)) (by rfl) g_check_integer k_check_integer b_check_integer .nil pass0 (pa_cons (pv 1) pa_nil)))
    (pss_cons (ps_expr (pe_call G_check_integer (hr.mono (by decide)) (by rfl) g_check_integer k_check_integer b_check_integer .nil pass0 (pa_cons (pv 2) pa_nil)))
    (pss_one (ps_ret (pe_call G_form_value (hr.mono (by decide)) (by rfl) g_form_value k_form_value b_form_value .nil pass0 (pa_cons (pe_fld (pv 0) (by rfl)) (pa_cons (pv 1) (pa_cons (pv 2) pa_nil)))))))), ?_⟩
    refine ⟨_, rfl, x, rfl, sx, _, rfl, y, rfl, sy, ?_⟩
    exact ⟨_, rfl, z, C_Form, dx, _, .ref t, rfl, hx, T.cl_Form, T.na_Form_coefficients, lk_same, _, rfl, _, rfl, t, a, b, c, d, x, y, rfl, ht, ba, bb, bc, bd, sx.b, sy.b, q⟩
end
end K52
namespace MapM
def Inv1 (P : Int) : Prop := ∀ l : Int, ¬ P ∣ l → ∃ m k : Int, l * m = 1 + P * k
theorem pdvd {P : Int} (h : Inv1 P) {a b : Int} (hd : P ∣ a * b) : P ∣ a ∨ P ∣ b := by
  rcases Classical.em (P ∣ a) with ha | ha
  · exact .inl ha
  · obtain ⟨m, k, e⟩ := h a ha
    obtain ⟨j, hj⟩ := hd
    refine .inr ⟨m * j - k * b, ?_⟩
    have : b * (a * m) = b + P * k * b := by rw [e]; grind
    grind
theorem tab : ∀ p ∈ [2, 3, 5, 7, 11, 13, 17, 19, 23, 29, 31], ∀ r : Fin 31, r.val < p → r.val ≠ 0 → ∃ m : Fin 31, r.val * m.val % p = 1 := by decide +kernel
theorem inv31 {p : Nat} (hm : p ∈ [2, 3, 5, 7, 11, 13, 17, 19, 23, 29, 31]) : Inv1 p := by
  intro l h
  have pp : 2 ≤ p ∧ p ≤ 31 := by
    simp only [List.mem_cons, List.mem_nil_iff, or_false] at hm
    omega
  have n0 := Int.emod_nonneg l (show (p : Int) ≠ 0 by omega)
  have n1 := Int.emod_lt_of_pos l (show (0 : Int) < (p : Int) by omega)
  obtain ⟨r, hr⟩ : ∃ r : Nat, l % (p : Int) = (r : Int) := ⟨(l % (p : Int)).toNat, by omega⟩
  have r0 : r ≠ 0 := fun z => h (Int.dvd_of_emod_eq_zero (by rw [hr, z]; rfl))
  obtain ⟨m, hm0⟩ := tab p hm ⟨r, by omega⟩ (by show r < p; omega) r0
  have hm1 : r * m.val % p = 1 := hm0
  clear hm0
  have e1 := Int.emod_add_mul_ediv l (p : Int)
  have e2 := Nat.mod_add_div (r * m.val) p
  rw [hm1] at e2
  have e3 : (r : Int) * (m.val : Int) = 1 + (p : Int) * ((r * m.val / p : Nat) : Int) := by
    have := congrArg (fun n : Nat => (n : Int)) e2
    simp only [Int.natCast_add, Int.natCast_mul] at this
    exact this.symm
  refine ⟨(m.val : Int), l / (p : Int) * (m.val : Int) + ((r * m.val / p : Nat) : Int), ?_⟩
  rw [hr] at e1
  generalize ((r * m.val / p : Nat) : Int) = k at *
  generalize l / (p : Int) = j at *
  generalize (m.val : Int) = m' at *
  generalize (r : Int) = r' at *
  generalize (p : Int) = P at *
  rw [← e1, Int.add_mul, e3]
  grind
def Rst (P a b c d u v : Int) : Prop := P ∣ u * v + a * d ∧ P ∣ u * u + a * c - b * u + a * v ∧ P ∣ v * v + b * d - d * u + c * v
def f3 (a b c d x : Int) : Int := ((a * x + b) * x + c) * x + d
theorem of_root {P a b c d x : Int} (h : P ∣ f3 a b c d x) : Rst P a b c d (-a * x) (-(a * x * x + b * x + c)) := by
  obtain ⟨k, hk⟩ := h
  unfold f3 at hk
  refine ⟨⟨a * k, ?_⟩, ⟨0, ?_⟩, ⟨(a * x + b) * k, ?_⟩⟩
  · have : a * _ = a * (P * k) := congrArg (fun z => a * z) hk
    grind
  · grind
  · have : (a * x + b) * _ = (a * x + b) * (P * k) := congrArg (fun z => (a * x + b) * z) hk
    grind
theorem of_end {P a b c d : Int} (h : P ∣ a) : Rst P a b c d b 0 := by
  obtain ⟨k, rfl⟩ := h
  exact ⟨⟨k * d, by grind⟩, ⟨k * c, by grind⟩, ⟨0, by grind⟩⟩
def Eqv (P x y : Int) : Prop := P ∣ x - y
theorem only {P a b c d u v : Int} (hI : Inv1 P) (h : Rst P a b c d u v) : (P ∣ a ∧ Eqv P u b ∧ P ∣ v) ∨ ∃ x, P ∣ f3 a b c d x ∧ Eqv P u (-a * x) ∧ Eqv P v (-(a * x * x + b * x + c)) := by
  obtain ⟨h1, h2, h3⟩ := h
  rcases Classical.em (P ∣ a) with ha | ha
  · obtain ⟨i, rfl⟩ := ha
    have g1 : P ∣ u * v := by
      obtain ⟨k, hk⟩ := h1
      exact ⟨k - i * d, by grind⟩
    have g2 : P ∣ u * (u - b) := by
      obtain ⟨k, hk⟩ := h2
      exact ⟨k - i * c - i * v, by grind⟩
    have case0 : P ∣ u → (P ∣ P * i ∧ Eqv P u b ∧ P ∣ v) ∨ ∃ x, P ∣ f3 (P * i) b c d x ∧ Eqv P u (-(P * i) * x) ∧ Eqv P v (-((P * i) * x * x + b * x + c)) := by
      intro hu
      obtain ⟨j, rfl⟩ := hu
      have g3 : P ∣ v * v + c * v + b * d := by
        obtain ⟨k, hk⟩ := h3
        exact ⟨k + d * j, by grind⟩
      rcases Classical.em (P ∣ b) with hb | hb
      · obtain ⟨b', rfl⟩ := hb
        have g4 : P ∣ v * (v + c) := by
          obtain ⟨k, hk⟩ := g3
          exact ⟨k - b' * d, by grind⟩
        rcases pdvd hI g4 with hv | hv
        · exact .inl ⟨⟨i, rfl⟩, ⟨j - b', by grind⟩, hv⟩
        · rcases Classical.em (P ∣ c) with hc | hc
          · obtain ⟨c', rfl⟩ := hc
            obtain ⟨k, hk⟩ := hv
            exact .inl ⟨⟨i, rfl⟩, ⟨j - b', by grind⟩, ⟨k - c', by grind⟩⟩
          · obtain ⟨m, k, e⟩ := hI c hc
            obtain ⟨w, hw⟩ := hv
            refine .inr ⟨-(d * m), ?_, ⟨j + i * -(d * m), by grind⟩, ?_⟩
            · have : f3 (P * i) (P * b') c d (-(d * m)) = P * (i * -(d * m) * -(d * m) * -(d * m) + b' * -(d * m) * -(d * m)) + d - d * (c * m) := by unfold f3; grind
              rw [this, e]
              exact ⟨i * -(d * m) * -(d * m) * -(d * m) + b' * -(d * m) * -(d * m) - d * k, by grind⟩
            · exact ⟨w + i * -(d * m) * -(d * m) + b' * -(d * m), by grind⟩
      · obtain ⟨m, k, e⟩ := hI b hb
        obtain ⟨w, hw⟩ := g3
        refine .inr ⟨-(v + c) * m, ?_, ⟨j + i * (-(v + c) * m), by grind⟩, ?_⟩
        · have hbf : P ∣ b * f3 (P * i) b c d (-(v + c) * m) := by
            have e2 : b * f3 (P * i) b c d (-(v + c) * m) = P * (b * i * (-(v + c) * m) * (-(v + c) * m) * (-(v + c) * m)) + (b * m) * (b * m) * ((v + c) * (v + c)) - (b * m) * (c * (v + c)) + b * d := by unfold f3; grind
            rw [e2, e]
            have e3 : (v + c) * (v + c) - c * (v + c) + b * d = P * w := by grind
            refine ⟨b * i * (-(v + c) * m) * (-(v + c) * m) * (-(v + c) * m) + (2 * k + P * k * k) * ((v + c) * (v + c)) - k * (c * (v + c)) + w, ?_⟩
            grind
          rcases pdvd hI hbf with z | z
          · exact absurd z hb
          · exact z
        · refine ⟨i * (-(v + c) * m) * (-(v + c) * m) - k * (v + c), ?_⟩
          have : v - -(P * i * (-(v + c) * m) * (-(v + c) * m) + b * (-(v + c) * m) + c) = P * (i * (-(v + c) * m) * (-(v + c) * m)) + (v + c) - (b * m) * (v + c) := by grind
          rw [this, e]
          grind
    rcases pdvd hI g2 with hu | hu
    · exact case0 hu
    · rcases pdvd hI g1 with hu0 | hv
      · exact case0 hu0
      · exact .inl ⟨⟨i, rfl⟩, hu, hv⟩
  · obtain ⟨m, k, e⟩ := hI a ha
    obtain ⟨w, hw⟩ := h2
    obtain ⟨w1, hw1⟩ := h1
    have hu : Eqv P u (-a * (-u * m)) := ⟨-(k * u), by
      have : -a * (-u * m) = (a * m) * u := by grind
      rw [this, e]
      grind⟩
    have hv : Eqv P v (-(a * (-u * m) * (-u * m) + b * (-u * m) + c)) := by
      have ha2 : P ∣ a * (v - -(a * (-u * m) * (-u * m) + b * (-u * m) + c)) := by
        have : a * (v - -(a * (-u * m) * (-u * m) + b * (-u * m) + c)) = a * v + (a * m) * (a * m) * (u * u) - (a * m) * (b * u) + a * c := by grind
        rw [this, e]
        exact ⟨w + (2 * k + P * k * k) * (u * u) - k * (b * u), by grind⟩
      rcases pdvd hI ha2 with z | z
      · exact absurd z ha
      · exact z
    refine .inr ⟨-u * m, ?_, hu, hv⟩
    obtain ⟨i, hi⟩ := hu
    obtain ⟨j, hj⟩ := hv
    generalize hx : -u * m = x at *
    have hf : P ∣ a * f3 a b c d x := by
      refine ⟨w1 - i * v - (-a * x) * j, ?_⟩
      unfold f3
      have e1 : u = P * i + -a * x := by omega
      have e2 : v = P * j + -(a * x * x + b * x + c) := by omega
      have e3 : u * v + a * d = (P * i) * v + (-a * x) * (P * j) + a * (((a * x + b) * x + c) * x + d) := by
        have : u * v = (P * i) * v + (-a * x) * v := by rw [e1]; grind
        rw [this]
        have : (-a * x) * v = (-a * x) * (P * j) + (-a * x) * -(a * x * x + b * x + c) := by rw [e2]; grind
        rw [this]
        grind
      rw [hw1] at e3
      have e4 : a * (((a * x + b) * x + c) * x + d) = P * w1 - (P * i) * v - (-a * x) * (P * j) := by omega
      rw [e4]
      clear e4 e3 e2 e1 hi hj hw hw1 e h3
      grind
    rcases pdvd hI hf with z | z
    · exact absurd z ha
    · exact z
end MapM
namespace MapM
def lexQ (p q : Int × Int) : Prop := p.1 < q.1 ∨ (p.1 = q.1 ∧ p.2 < q.2)
def mp (a b c p : Int) (z : Int × Int) : Int × Int := if z = (1, 0) then (b % p, 0) else (-a * z.1 % p, -(a * z.1 * z.1 + b * z.1 + c) % p)
def rootsG (a b c d : Int) (p : Nat) : List (Int × Int) := (((List.range p).filter fun (x : Nat) => decide (f3 a b c d x % (p : Int) = 0)).map fun (x : Nat) => ((x : Int), (1 : Int))) ++ (if a % (p : Int) = 0 then [((1 : Int), (0 : Int))] else [])
def rstB (a b c d p u v : Int) : Bool := decide ((u * v + a * d) % p = 0) && decide ((u * u + a * c - b * u + a * v) % p = 0) && decide ((v * v + b * d - d * u + c * v) % p = 0)
def mapsTo (a b c d : Int) (p n : Nat) : List (Int × Int) := (List.range n).flatMap fun (u : Nat) => ((List.range p).filter fun (v : Nat) => rstB a b c d p u v).map fun (v : Nat) => ((u : Int), (v : Int))
def mapsL (a b c d : Int) (p : Nat) : List (Int × Int) := mapsTo a b c d p p
theorem mem_roots {a b c d : Int} {p : Nat} {z : Int × Int} : z ∈ rootsG a b c d p ↔ (z = (1, 0) ∧ (p : Int) ∣ a) ∨ ∃ x : Int, 0 ≤ x ∧ x < p ∧ z = (x, 1) ∧ (p : Int) ∣ f3 a b c d x := by
  unfold rootsG
  rw [List.mem_append, List.mem_map]
  constructor
  · rintro (⟨x, hx, rfl⟩ | h)
    · rw [List.mem_filter, List.mem_range] at hx
      exact .inr ⟨x, by omega, by omega, rfl, Int.dvd_of_emod_eq_zero (of_decide_eq_true hx.2)⟩
    · by_cases g : a % (p : Int) = 0
      · rw [if_pos g] at h
        exact .inl ⟨List.mem_singleton.mp h, Int.dvd_of_emod_eq_zero g⟩
      · rw [if_neg g] at h
        cases h
  · rintro (⟨rfl, h⟩ | ⟨x, x0, x1, rfl, h⟩)
    · right
      rw [if_pos (Int.emod_eq_zero_of_dvd h)]
      exact List.mem_singleton.mpr rfl
    · left
      refine ⟨x.toNat, ?_, ?_⟩
      · rw [List.mem_filter, List.mem_range]
        refine ⟨by omega, decide_eq_true ?_⟩
        rw [Int.toNat_of_nonneg x0]
        exact Int.emod_eq_zero_of_dvd h
      · rw [Int.toNat_of_nonneg x0]
theorem eqv_mod {P u w : Int} (h : Eqv P u w) (h0 : 0 ≤ u) (h1 : u < P) : w % P = u := by
  obtain ⟨k, hk⟩ := h
  have : w = u + P * (-k) := by rw [Int.mul_neg]; omega
  rw [this, Int.add_mul_emod_self_left, Int.emod_eq_of_lt h0 h1]
theorem mod_eqv (P w : Int) : Eqv P (w % P) w := by
  have := Int.emod_add_mul_ediv w P
  exact ⟨-(w / P), by rw [Int.mul_neg]; omega⟩
theorem Eqv.symm {P x y : Int} (h : Eqv P x y) : Eqv P y x := by
  obtain ⟨k, hk⟩ := h
  exact ⟨-k, by rw [Int.mul_neg]; omega⟩
theorem Eqv.refl (P x : Int) : Eqv P x x := ⟨0, by omega⟩
theorem eqv_eq {P x y : Int} (hP : 0 < P) (h : Eqv P x y) : x % P = y % P :=
  (eqv_mod (show Eqv P (x % P) y from by
    obtain ⟨k, hk⟩ := h
    obtain ⟨j, hj⟩ := mod_eqv P x
    exact ⟨k + j, by rw [Int.mul_add]; omega⟩) (Int.emod_nonneg _ (by omega)) (Int.emod_lt_of_pos _ hP)).symm
theorem eq_eqv {P x y : Int} (h : x % P = y % P) : Eqv P x y := by
  obtain ⟨i, hi⟩ := mod_eqv P x
  obtain ⟨j, hj⟩ := mod_eqv P y
  exact ⟨j - i, by rw [Int.mul_sub]; omega⟩
theorem Rst.congr {P a b c d u v a' b' c' d' u' v' : Int} (h : Rst P a b c d u v) (ha : Eqv P a' a) (hb : Eqv P b' b) (hc : Eqv P c' c) (hd : Eqv P d' d) (hu : Eqv P u' u) (hv : Eqv P v' v) : Rst P a' b' c' d' u' v' := by
  obtain ⟨i, hi⟩ := ha
  obtain ⟨j, hj⟩ := hb
  obtain ⟨k, hk⟩ := hc
  obtain ⟨l, hl⟩ := hd
  obtain ⟨m, hm⟩ := hu
  obtain ⟨n, hn⟩ := hv
  obtain ⟨⟨x, hx⟩, ⟨y, hy⟩, ⟨z, hz⟩⟩ := h
  obtain rfl : a' = a + P * i := by omega
  obtain rfl : b' = b + P * j := by omega
  obtain rfl : c' = c + P * k := by omega
  obtain rfl : d' = d + P * l := by omega
  obtain rfl : u' = u + P * m := by omega
  obtain rfl : v' = v + P * n := by omega
  clear hi hj hk hl hm hn
  refine ⟨⟨x + u * n + m * (v + P * n) + a * l + i * (d + P * l), ?_⟩, ⟨y + u * m + m * (u + P * m) + a * k + i * (c + P * k) - b * m - j * (u + P * m) + a * n + i * (v + P * n), ?_⟩, ⟨z + v * n + n * (v + P * n) + b * l + j * (d + P * l) - d * m - l * (u + P * m) + c * n + k * (v + P * n), ?_⟩⟩
  · have : (u + P * m) * (v + P * n) + (a + P * i) * (d + P * l) = (u * v + a * d) + P * (u * n + m * (v + P * n) + a * l + i * (d + P * l)) := by grind
    rw [this, hx]; grind
  · have : (u + P * m) * (u + P * m) + (a + P * i) * (c + P * k) - (b + P * j) * (u + P * m) + (a + P * i) * (v + P * n) = (u * u + a * c - b * u + a * v) + P * (u * m + m * (u + P * m) + a * k + i * (c + P * k) - b * m - j * (u + P * m) + a * n + i * (v + P * n)) := by grind
    rw [this, hy]; grind
  · have : (v + P * n) * (v + P * n) + (b + P * j) * (d + P * l) - (d + P * l) * (u + P * m) + (c + P * k) * (v + P * n) = (v * v + b * d - d * u + c * v) + P * (v * n + n * (v + P * n) + b * l + j * (d + P * l) - d * m - l * (u + P * m) + c * n + k * (v + P * n)) := by grind
    rw [this, hz]; grind
theorem f3_congr {P a b c d x a' b' c' d' x' : Int} (h : P ∣ f3 a b c d x) (ha : Eqv P a' a) (hb : Eqv P b' b) (hc : Eqv P c' c) (hd : Eqv P d' d) (hx : Eqv P x' x) : P ∣ f3 a' b' c' d' x' := by
  obtain ⟨i, hi⟩ := ha
  obtain ⟨j, hj⟩ := hb
  obtain ⟨k, hk⟩ := hc
  obtain ⟨l, hl⟩ := hd
  obtain ⟨m, hm⟩ := hx
  obtain ⟨y, hy⟩ := h
  obtain rfl : a' = a + P * i := by omega
  obtain rfl : b' = b + P * j := by omega
  obtain rfl : c' = c + P * k := by omega
  obtain rfl : d' = d + P * l := by omega
  obtain rfl : x' = x + P * m := by omega
  clear hi hj hk hl hm
  unfold f3 at *
  have e1 : (a + P * i) * (x + P * m) + (b + P * j) = (a * x + b) + P * (a * m + i * (x + P * m) + j) := by grind
  generalize a * m + i * (x + P * m) + j = s at *
  have e2 : ((a * x + b) + P * s) * (x + P * m) + (c + P * k) = ((a * x + b) * x + c) + P * ((a * x + b) * m + s * (x + P * m) + k) := by grind
  generalize (a * x + b) * m + s * (x + P * m) + k = t at *
  have e3 : (((a * x + b) * x + c) + P * t) * (x + P * m) + (d + P * l) = (((a * x + b) * x + c) * x + d) + P * (((a * x + b) * x + c) * m + t * (x + P * m) + l) := by grind
  rw [e1, e2, e3, hy]
  exact ⟨y + (((a * x + b) * x + c) * m + t * (x + P * m) + l), by rw [Int.mul_add P y]⟩
theorem rst_iff {a b c d p u v : Int} : rstB a b c d p u v = true ↔ Rst p a b c d u v := by
  unfold rstB Rst
  rw [Bool.and_eq_true, Bool.and_eq_true, decide_eq_true_iff, decide_eq_true_iff, decide_eq_true_iff]
  constructor
  · rintro ⟨⟨h1, h2⟩, h3⟩
    exact ⟨Int.dvd_of_emod_eq_zero h1, Int.dvd_of_emod_eq_zero h2, Int.dvd_of_emod_eq_zero h3⟩
  · rintro ⟨h1, h2, h3⟩
    exact ⟨⟨Int.emod_eq_zero_of_dvd h1, Int.emod_eq_zero_of_dvd h2⟩, Int.emod_eq_zero_of_dvd h3⟩
theorem mem_mapsTo {a b c d : Int} {p n : Nat} {u v : Int} : (u, v) ∈ mapsTo a b c d p n ↔ 0 ≤ u ∧ u < n ∧ 0 ≤ v ∧ v < p ∧ Rst p a b c d u v := by
  unfold mapsTo
  rw [List.mem_flatMap]
  constructor
  · rintro ⟨i, hi, h⟩
    rw [List.mem_map] at h
    obtain ⟨j, hj, e⟩ := h
    rw [List.mem_filter, List.mem_range] at hj
    rw [List.mem_range] at hi
    obtain ⟨rfl, rfl⟩ := Prod.mk.inj e
    exact ⟨by omega, by omega, by omega, by omega, rst_iff.mp hj.2⟩
  · rintro ⟨u0, u1, v0, v1, h⟩
    refine ⟨u.toNat, List.mem_range.mpr (by omega), List.mem_map.mpr ⟨v.toNat, List.mem_filter.mpr ⟨List.mem_range.mpr (by omega), ?_⟩, ?_⟩⟩
    · rw [Int.toNat_of_nonneg u0, Int.toNat_of_nonneg v0]
      exact rst_iff.mpr h
    · rw [Int.toNat_of_nonneg u0, Int.toNat_of_nonneg v0]
theorem pw_range (n : Nat) : (List.range n).Pairwise (· < ·) := by
  induction n with
  | zero => exact .nil
  | succ n ih =>
    rw [List.range_succ, List.pairwise_append]
    refine ⟨ih, List.pairwise_singleton _ _, fun a ha b hb => ?_⟩
    rw [List.mem_singleton] at hb
    rw [hb]
    exact List.mem_range.mp ha
theorem mapsTo_sorted (a b c d : Int) (p n : Nat) : (mapsTo a b c d p n).Pairwise lexQ := by
  induction n with
  | zero => exact .nil
  | succ n ih =>
    unfold mapsTo
    rw [List.range_succ, List.flatMap_append, List.pairwise_append]
    refine ⟨ih, ?_, ?_⟩
    · rw [List.flatMap_cons, List.flatMap_nil, List.append_nil, List.pairwise_map]
      refine ((pw_range p).filter _).imp fun h => .inr ⟨rfl, ?_⟩
      show (_ : Int) < _
      omega
    · rintro ⟨u, v⟩ h ⟨u', v'⟩ h'
      rw [List.flatMap_cons, List.flatMap_nil, List.append_nil, List.mem_map] at h'
      obtain ⟨j, hj, e⟩ := h'
      obtain ⟨rfl, rfl⟩ := Prod.mk.inj e
      have := mem_mapsTo.mp h
      exact .inl this.2.1
theorem aux {p i b c d x y l m : Int} (hl : ((p * i * x + p * b) * x + c) * x + d = p * l) (hm : ((p * i * y + p * b) * y + c) * y + d = p * m) : c * (x - y) = p * (l - m - i * x * x * x - b * x * x + i * y * y * y + b * y * y) := by
  have e1 : p * (l - m - i * x * x * x - b * x * x + i * y * y * y + b * y * y) = p * l - p * m - p * (i * x * x * x + b * x * x) + p * (i * y * y * y + b * y * y) := by grind
  rw [e1, ← hl, ← hm]
  grind
theorem aux2 {p i b c d x l : Int} (hl : ((p * i * x + p * b) * x + p * c) * x + d = p * l) : d = p * (l - i * x * x * x - b * x * x - c * x) := by
  have e1 : p * (l - i * x * x * x - b * x * x - c * x) = p * l - p * (i * x * x * x + b * x * x + c * x) := by grind
  rw [e1, ← hl]
  grind
theorem mp_inj {a b c d : Int} {p : Nat} (hI : Inv1 p) (h2 : 2 ≤ p) (hn : ¬ ((p : Int) ∣ a ∧ (p : Int) ∣ b ∧ (p : Int) ∣ c ∧ (p : Int) ∣ d)) {z w : Int × Int} (hz : z ∈ rootsG a b c d p) (hw : w ∈ rootsG a b c d p) (e : mp a b c p z = mp a b c p w) : z = w := by
  have p0 : (0 : Int) < (p : Int) := by omega
  have key : ∀ x : Int, (p : Int) ∣ a → (p : Int) ∣ f3 a b c d x → mp a b c p (1, 0) = mp a b c p (x, 1) → False := by
    intro x ha hf e
    have e0 : mp a b c p (1, 0) = (b % p, 0) := if_pos rfl
    have e1 : mp a b c p (x, 1) = (-a * x % p, -(a * x * x + b * x + c) % p) := if_neg (by simp)
    rw [e0, e1] at e
    obtain ⟨f1, f2⟩ := Prod.mk.inj e
    obtain ⟨i, rfl⟩ := ha
    obtain ⟨j, hj⟩ := eq_eqv f1
    have hb : (p : Int) ∣ b := ⟨j - i * x, by grind⟩
    obtain ⟨b', rfl⟩ := hb
    obtain ⟨k, hk⟩ := Int.dvd_of_emod_eq_zero f2.symm
    have hc : (p : Int) ∣ c := ⟨-k - i * x * x - b' * x, by grind⟩
    obtain ⟨c', rfl⟩ := hc
    obtain ⟨l, hl⟩ := hf
    have hd : (p : Int) ∣ d := ⟨l - i * x * x * x - b' * x * x - c' * x, by unfold f3 at hl; grind⟩
    exact hn ⟨⟨i, rfl⟩, ⟨b', rfl⟩, ⟨c', rfl⟩, hd⟩
  rcases mem_roots.mp hz with ⟨rfl, ha⟩ | ⟨x, x0, x1, rfl, hx⟩
  · rcases mem_roots.mp hw with ⟨rfl, _⟩ | ⟨y, y0, y1, rfl, hy⟩
    · rfl
    · exact (key y ha hy e).elim
  · rcases mem_roots.mp hw with ⟨rfl, ha⟩ | ⟨y, y0, y1, rfl, hy⟩
    · exact (key x ha hx e.symm).elim
    · have e0 : mp a b c p (x, 1) = (-a * x % p, -(a * x * x + b * x + c) % p) := if_neg (by simp)
      have e1 : mp a b c p (y, 1) = (-a * y % p, -(a * y * y + b * y + c) % p) := if_neg (by simp)
      rw [e0, e1] at e
      obtain ⟨f1, f2⟩ := Prod.mk.inj e
      have close : (p : Int) ∣ x - y → x = y := by
        intro h
        have g := eqv_mod (P := p) (u := x) (w := y) h x0 x1
        rw [Int.emod_eq_of_lt y0 y1] at g
        exact g.symm
      have h : x = y := by
        apply close
        obtain ⟨j, hj⟩ := eq_eqv f1
        have g1 : (p : Int) ∣ a * (x - y) := ⟨-j, by grind⟩
        rcases pdvd hI g1 with ha | h
        · obtain ⟨i, rfl⟩ := ha
          obtain ⟨k, hk⟩ := eq_eqv f2
          have g2 : (p : Int) ∣ b * (x - y) := ⟨-k - i * x * x + i * y * y, by grind⟩
          rcases pdvd hI g2 with hb | h
          · obtain ⟨b', rfl⟩ := hb
            obtain ⟨l, hl⟩ := hx
            obtain ⟨m, hm⟩ := hy
            unfold f3 at hl hm
            have g3 : (p : Int) ∣ c * (x - y) := ⟨l - m - i * x * x * x - b' * x * x + i * y * y * y + b' * y * y, aux hl hm⟩
            rcases pdvd hI g3 with hc | h
            · obtain ⟨c', rfl⟩ := hc
              exact (hn ⟨⟨i, rfl⟩, ⟨b', rfl⟩, ⟨c', rfl⟩, ⟨l - i * x * x * x - b' * x * x - c' * x, aux2 hl⟩⟩).elim
            · exact h
          · exact h
        · exact h
      rw [h]
theorem mem_maps {a b c d : Int} {p : Nat} (hI : Inv1 p) (h2 : 2 ≤ p) (q : Int × Int) : q ∈ (rootsG a b c d p).map (mp a b c p) ↔ q ∈ mapsL a b c d p := by
  obtain ⟨u, v⟩ := q
  have p0 : (0 : Int) < (p : Int) := by omega
  have p1 : (p : Int) ≠ 0 := by omega
  unfold mapsL
  rw [mem_mapsTo, List.mem_map]
  constructor
  · rintro ⟨z, hz, e⟩
    rcases mem_roots.mp hz with ⟨rfl, ha⟩ | ⟨x, x0, x1, rfl, hx⟩
    · have e0 : mp a b c p (1, 0) = (b % p, 0) := if_pos rfl
      rw [e0] at e
      obtain ⟨rfl, rfl⟩ := Prod.mk.inj e
      exact ⟨Int.emod_nonneg _ p1, Int.emod_lt_of_pos _ p0, by omega, by omega, (of_end ha).congr (.refl _ _) (.refl _ _) (.refl _ _) (.refl _ _) (mod_eqv _ _) (.refl _ _)⟩
    · have e0 : mp a b c p (x, 1) = (-a * x % p, -(a * x * x + b * x + c) % p) := if_neg (by simp)
      rw [e0] at e
      obtain ⟨rfl, rfl⟩ := Prod.mk.inj e
      exact ⟨Int.emod_nonneg _ p1, Int.emod_lt_of_pos _ p0, Int.emod_nonneg _ p1, Int.emod_lt_of_pos _ p0, (of_root hx).congr (.refl _ _) (.refl _ _) (.refl _ _) (.refl _ _) (mod_eqv _ _) (mod_eqv _ _)⟩
  · rintro ⟨u0, u1, v0, v1, h⟩
    rcases only hI h with ⟨ha, hu, hv⟩ | ⟨x, hx, hu, hv⟩
    · refine ⟨(1, 0), mem_roots.mpr (.inl ⟨rfl, ha⟩), ?_⟩
      have e0 : mp a b c p (1, 0) = (b % p, 0) := if_pos rfl
      rw [e0, eqv_mod hu u0 u1]
      have : v % (p : Int) = 0 := Int.emod_eq_zero_of_dvd hv
      rw [Int.emod_eq_of_lt v0 v1] at this
      rw [this]
    · refine ⟨(x % p, 1), mem_roots.mpr (.inr ⟨x % p, Int.emod_nonneg _ p1, Int.emod_lt_of_pos _ p0, rfl, f3_congr hx (.refl _ _) (.refl _ _) (.refl _ _) (.refl _ _) (mod_eqv _ _)⟩), ?_⟩
      have e0 : mp a b c p (x % p, 1) = (-a * (x % p) % p, -(a * (x % p) * (x % p) + b * (x % p) + c) % p) := if_neg (by simp)
      obtain ⟨k, hk⟩ := mod_eqv p x
      generalize x % (p : Int) = y at *
      obtain rfl : y = x + p * k := by omega
      rw [e0]
      congr 1
      · refine eqv_mod ?_ u0 u1
        obtain ⟨m, hm⟩ := hu
        exact ⟨m + a * k, by grind⟩
      · refine eqv_mod ?_ v0 v1
        obtain ⟨m, hm⟩ := hv
        exact ⟨m + (a * (x + p * k) * k + a * k * x + b * k), by grind⟩
theorem lexQ_ne {z w : Int × Int} (h : lexQ z w) : z ≠ w := by
  rintro rfl
  rcases h with h | ⟨_, h⟩ <;> omega
theorem maps_nodup (a b c d : Int) (p : Nat) : (mapsL a b c d p).Nodup := (mapsTo_sorted a b c d p p).imp lexQ_ne
theorem roots_nodup (a b c d : Int) (p : Nat) : (rootsG a b c d p).Nodup := by
  unfold rootsG
  refine List.pairwise_append.mpr ⟨?_, ?_, ?_⟩
  · rw [List.pairwise_map]
    refine ((pw_range p).filter _).imp fun {x y} h e => ?_
    have := (Prod.mk.inj e).1
    omega
  · by_cases g : a % (p : Int) = 0
    · rw [if_pos g]; exact List.pairwise_singleton _ _
    · rw [if_neg g]; exact .nil
  · intro z hz w hw e
    rw [List.mem_map] at hz
    obtain ⟨x, _, rfl⟩ := hz
    by_cases g : a % (p : Int) = 0
    · rw [if_pos g, List.mem_singleton] at hw
      rw [hw] at e
      exact absurd (Prod.mk.inj e).2 (by decide)
    · rw [if_neg g] at hw
      cases hw
theorem mp_nodup {a b c d : Int} {p : Nat} (hI : Inv1 p) (h2 : 2 ≤ p) (hn : ¬ ((p : Int) ∣ a ∧ (p : Int) ∣ b ∧ (p : Int) ∣ c ∧ (p : Int) ∣ d)) : ((rootsG a b c d p).map (mp a b c p)).Nodup := by
  refine List.pairwise_map.mpr ?_
  have := roots_nodup a b c d p
  refine List.Pairwise.imp_of_mem ?_ this
  intro z w hz hw ne e
  exact ne (mp_inj hI h2 hn hz hw e)
theorem full_maps {a b c d : Int} {p : Nat} (hI : Inv1 p) (h2 : 2 ≤ p) (ha : (p : Int) ∣ a) (hb : (p : Int) ∣ b) (hc : (p : Int) ∣ c) (hd : (p : Int) ∣ d) (q : Int × Int) : q ∈ [((0 : Int), (0 : Int))] ↔ q ∈ mapsL a b c d p := by
  obtain ⟨u, v⟩ := q
  unfold mapsL
  rw [mem_mapsTo, List.mem_singleton]
  obtain ⟨i, rfl⟩ := ha
  obtain ⟨j, rfl⟩ := hb
  obtain ⟨k, rfl⟩ := hc
  obtain ⟨l, rfl⟩ := hd
  constructor
  · intro e
    obtain ⟨rfl, rfl⟩ := Prod.mk.inj e
    exact ⟨by omega, by omega, by omega, by omega, ⟨i * (p * l), by grind⟩, ⟨i * (p * k), by grind⟩, ⟨j * (p * l), by grind⟩⟩
  · rintro ⟨u0, u1, v0, v1, _, ⟨x, hx⟩, ⟨y, hy⟩⟩
    have hu : (p : Int) ∣ u * u := ⟨x - i * (p * k) + j * u - i * v, by grind⟩
    have hv : (p : Int) ∣ v * v := ⟨y - j * (p * l) + l * u - k * v, by grind⟩
    have hu' : (p : Int) ∣ u := (pdvd hI hu).elim id id
    have hv' : (p : Int) ∣ v := (pdvd hI hv).elim id id
    have e1 := Int.emod_eq_zero_of_dvd hu'
    have e2 := Int.emod_eq_zero_of_dvd hv'
    rw [Int.emod_eq_of_lt u0 u1] at e1
    rw [Int.emod_eq_of_lt v0 v1] at e2
    rw [e1, e2]
theorem rstB_red (a b c d : Int) {p : Int} (hp : 0 < p) (u v : Int) : rstB (a % p) (b % p) (c % p) (d % p) p u v = rstB a b c d p u v := by
  rw [Bool.eq_iff_iff, rst_iff, rst_iff]
  exact ⟨fun h => h.congr (mod_eqv _ _).symm (mod_eqv _ _).symm (mod_eqv _ _).symm (mod_eqv _ _).symm (.refl _ _) (.refl _ _), fun h => h.congr (mod_eqv _ _) (mod_eqv _ _) (mod_eqv _ _) (mod_eqv _ _) (.refl _ _) (.refl _ _)⟩
theorem mapsL_red (a b c d : Int) {p : Nat} (hp : 0 < p) : mapsL (a % p) (b % p) (c % p) (d % p) p = mapsL a b c d p := by
  unfold mapsL mapsTo
  congr 1
  funext u
  congr 1
  congr 1
  funext v
  exact rstB_red a b c d (by omega) u v
theorem rootsG_red (a b c d : Int) {p : Nat} (hp : 0 < p) : rootsG (a % p) (b % p) (c % p) (d % p) p = rootsG a b c d p := by
  unfold rootsG
  congr 1
  · congr 1
    congr 1
    funext x
    refine decide_eq_decide.mpr ⟨fun h => ?_, fun h => ?_⟩
    · exact Int.emod_eq_zero_of_dvd (f3_congr (Int.dvd_of_emod_eq_zero h) (mod_eqv _ _).symm (mod_eqv _ _).symm (mod_eqv _ _).symm (mod_eqv _ _).symm (.refl _ _))
    · exact Int.emod_eq_zero_of_dvd (f3_congr (Int.dvd_of_emod_eq_zero h) (mod_eqv _ _) (mod_eqv _ _) (mod_eqv _ _) (mod_eqv _ _) (.refl _ _))
  · rw [Int.emod_emod_of_dvd _ (Int.dvd_refl _)]
theorem mp_red (a b c : Int) {p : Int} (hp : 0 < p) (z : Int × Int) : mp (a % p) (b % p) (c % p) p z = mp a b c p z := by
  unfold mp
  obtain ⟨i, hi⟩ := mod_eqv p a
  obtain ⟨j, hj⟩ := mod_eqv p b
  obtain ⟨k, hk⟩ := mod_eqv p c
  by_cases h : z = (1, 0)
  · rw [if_pos h, if_pos h, Int.emod_emod_of_dvd _ (Int.dvd_refl _)]
  · rw [if_neg h, if_neg h]
    generalize a % p = a' at *
    generalize b % p = b' at *
    generalize c % p = c' at *
    obtain rfl : a' = a + p * i := by omega
    obtain rfl : b' = b + p * j := by omega
    obtain rfl : c' = c + p * k := by omega
    congr 1
    · exact eqv_eq hp ⟨-i * z.1, by grind⟩
    · exact eqv_eq hp ⟨-(i * z.1 * z.1 + j * z.1 + k), by grind⟩
end MapM
namespace KindM
def valN (p x : Nat) (row : List Nat) : Nat := row.foldl (fun r n => (r * x + n) % p) 0
def lessG (p x : Nat) : Nat → List Nat → List Nat
  | _, [] => []
  | _, [_] => []
  | last, n :: m :: r => ((last * x + n) % p) :: lessG p x ((last * x + n) % p) (m :: r)
def lessN (p x : Nat) (row : List Nat) : List Nat := lessG p x 0 row
def strip (p x : Nat) : Nat → List Nat → Option (List Nat)
  | 0, _ => none
  | f + 1, row => if valN p x row = 0 then (if row.length ≤ 1 then none else strip p x f (lessN p x row)) else some row
def ahead : List Nat → Option (List Nat)
  | [] => none
  | 0 :: r => ahead r
  | n :: r => some (n :: r)
def rootN (p x : Nat) (row : List Nat) : Bool := valN p x row = 0
def places (p : Nat) (row : List Nat) : List (Nat × Nat) := (((List.range p).filter fun x => rootN p x row).map fun x => (x, 1)) ++ (if row.head? = some 0 then [(1, 0)] else [])
def go (p : Nat) : List (Nat × Nat) → List Nat → Option (List Nat)
  | [], row => some row
  | (x, 0) :: r, row => (ahead row).bind (go p r)
  | (x, _) :: r, row => (strip p x 5 row).bind (go p r)
def sorted (p : Nat) (row : List Nat) : List (Nat × Nat) := ((places p row).filter fun z => z.1 = 0) ++ ((places p row).filter fun z => z.1 = 1 && z.2 = 0) ++ ((places p row).filter fun z => z.1 = 1 && z.2 = 1) ++ ((places p row).filter fun z => decide (1 < z.1))
def fine (p : Nat) (row : List Nat) : Bool := match go p (sorted p row) row with
  | none => false
  | some rest => decide (1 < rest.length) || (decide (1 ≤ (places p row).length) && decide ((places p row).length ≤ 3))
def all4 (p : Nat) : List (List Nat) := (List.range p).flatMap fun a => (List.range p).flatMap fun b => (List.range p).flatMap fun c => (List.range p).map fun d => [a, b, c, d]
theorem fine2 : ∀ row ∈ all4 2, row ≠ [0, 0, 0, 0] → fine 2 row = true := by decide +kernel
theorem fine3 : ∀ row ∈ all4 3, row ≠ [0, 0, 0, 0] → fine 3 row = true := by decide +kernel
theorem mem4 {p a b c d : Nat} (ha : a < p) (hb : b < p) (hc : c < p) (hd : d < p) : [a, b, c, d] ∈ all4 p := by
  unfold all4
  simp only [List.mem_flatMap, List.mem_map, List.mem_range]
  exact ⟨a, ha, b, hb, c, hc, d, hd, rfl⟩
theorem lessG_length (p x : Nat) : ∀ (last : Nat) (row : List Nat), (lessG p x last row).length = row.length - 1
  | _, [] => rfl
  | _, [_] => rfl
  | last, n :: m :: r => by
    show (lessG p x _ (m :: r)).length + 1 = _
    rw [lessG_length p x _ (m :: r)]
    simp
end KindM
namespace KindM
open MapM (f3 rootsG)
def zI (z : Nat × Nat) : Int × Int := ((z.1 : Int), (z.2 : Int))
theorem valN_lt {p x : Nat} (hp : 0 < p) (row : List Nat) : valN p x row < p := by
  have : ∀ (row : List Nat) (r : Nat), r < p → row.foldl (fun r n => (r * x + n) % p) r < p := by
    intro row
    induction row with
    | nil => exact fun r h => h
    | cons n row ih => exact fun r h => ih _ (Nat.mod_lt _ hp)
  exact this row 0 hp
theorem valN_take {p x i n : Nat} {row : List Nat} (h : row[i]? = some n) : valN p x (row.take (i + 1)) = (valN p x (row.take i) * x + n) % p := by
  rw [List.take_add_one, h]
  unfold valN
  rw [List.foldl_append]
  rfl
theorem lessG_lt {p x : Nat} (hp : 0 < p) : ∀ (row : List Nat) (last : Nat), ∀ n ∈ lessG p x last row, n < p
  | [], _ => fun n h => by cases h
  | [_], _ => fun n h => by cases h
  | n :: m :: r, last => fun k h => by
    rcases List.mem_cons.mp h with rfl | h
    · exact Nat.mod_lt _ hp
    · exact lessG_lt hp (m :: r) _ k h
theorem lessG_gen (p x : Nat) : ∀ (row : List Nat) (last : Nat), lessG p x last row = (List.range (row.length - 1)).map fun j => (row.take (j + 1)).foldl (fun r n => (r * x + n) % p) last
  | [], _ => rfl
  | [_], _ => rfl
  | n :: m :: r, last => by
    show (last * x + n) % p :: lessG p x ((last * x + n) % p) (m :: r) = _
    rw [lessG_gen p x (m :: r), show (n :: m :: r).length - 1 = (m :: r).length - 1 + 1 from rfl, List.range_succ_eq_map, List.map_cons, List.map_map]
    rfl
theorem lessG_eq (p x : Nat) (row : List Nat) : lessG p x 0 row = (List.range (row.length - 1)).map fun j => valN p x (row.take (j + 1)) := lessG_gen p x row 0
theorem ahead_drop : ∀ {row rest : List Nat}, ahead row = some rest → ∃ k, row.drop k = rest ∧ k ≤ row.length
  | [], _, h => by cases h
  | 0 :: r, rest, h => by
    obtain ⟨k, h1, h2⟩ := ahead_drop (row := r) (rest := rest) h
    exact ⟨k + 1, h1, by rw [List.length_cons]; omega⟩
  | (n + 1) :: r, rest, h => ⟨0, Option.some.inj h, Nat.zero_le _⟩
theorem ahead_zero {r : List Nat} : ahead (0 :: r) = ahead r := rfl
theorem ahead_pos {n : Nat} {r : List Nat} (h : n ≠ 0) : ahead (n :: r) = some (n :: r) := by
  cases n with
  | zero => exact absurd rfl h
  | succ n => rfl
theorem strip_zero {p x f : Nat} {row r : List Nat} (h : strip p x f row = some r) (hv : valN p x row = 0) : ∃ g, f = g + 1 ∧ 1 < row.length ∧ strip p x g (lessN p x row) = some r := by
  cases f with
  | zero => cases h
  | succ g =>
    unfold strip at h
    rw [if_pos hv] at h
    by_cases hl : row.length ≤ 1
    · rw [if_pos hl] at h
      cases h
    · rw [if_neg hl] at h
      exact ⟨g, rfl, by omega, h⟩
theorem strip_pos {p x f : Nat} {row r : List Nat} (h : strip p x f row = some r) (hv : valN p x row ≠ 0) : row = r := by
  cases f with
  | zero => cases h
  | succ g =>
    unfold strip at h
    rw [if_neg hv] at h
    exact Option.some.inj h
theorem go_end {p x : Nat} {r : List (Nat × Nat)} {row rest : List Nat} (h : go p ((x, 0) :: r) row = some rest) : ∃ row', ahead row = some row' ∧ go p r row' = some rest := by
  have h : (ahead row).bind (go p r) = some rest := h
  cases e : ahead row with
  | none => rw [e] at h; cases h
  | some row' => rw [e] at h; exact ⟨row', rfl, h⟩
theorem go_one {p x : Nat} {r : List (Nat × Nat)} {row rest : List Nat} (h : go p ((x, 1) :: r) row = some rest) : ∃ row', strip p x 5 row = some row' ∧ go p r row' = some rest := by
  have h : (strip p x 5 row).bind (go p r) = some rest := h
  cases e : strip p x 5 row with
  | none => rw [e] at h; cases h
  | some row' => rw [e] at h; exact ⟨row', rfl, h⟩
def okS (p : Nat) (row : List Nat) : Bool := decide ((sorted p row).Pairwise fun z w => z.1 < w.1 ∨ (z.1 = w.1 ∧ z.2 < w.2)) && (sorted p row).all (fun z => (places p row).contains z) && (places p row).all (fun z => (sorted p row).contains z) && decide ((sorted p row).length = (places p row).length)
theorem okS2 : ∀ row ∈ all4 2, okS 2 row = true := by decide +kernel
theorem okS3 : ∀ row ∈ all4 3, okS 3 row = true := by decide +kernel
theorem root_iff {p a b c d x : Nat} (hp : 0 < p) : rootN p x [a, b, c, d] = decide (f3 a b c d x % (p : Int) = 0) := by
  unfold rootN
  refine decide_eq_decide.mpr ?_
  have e : valN p x [a, b, c, d] = (((a * x + b) * x + c) * x + d) % p := by
    show ((((0 * x + a) % p * x + b) % p * x + c) % p * x + d) % p = _
    simp only [Nat.zero_mul, Nat.zero_add, Nat.add_mod, Nat.mul_mod, Nat.mod_mod]
  rw [e]
  unfold f3
  constructor
  · intro h
    have := congrArg (fun n : Nat => (n : Int)) h
    simpa [Int.natCast_emod, Int.natCast_add, Int.natCast_mul] using this
  · intro h
    have g : (((((a * x + b) * x + c) * x + d) % p : Nat) : Int) = 0 := by
      rw [Int.natCast_emod]
      simpa [Int.natCast_add, Int.natCast_mul] using h
    exact Int.ofNat.inj g
theorem places_eq {p a b c d : Nat} (hp : 0 < p) (ha : a < p) : (places p [a, b, c, d]).map zI = rootsG a b c d p := by
  unfold places rootsG
  rw [List.map_append, List.map_map]
  congr 1
  · rw [show (fun x => rootN p x [a, b, c, d]) = fun (x : Nat) => decide (f3 a b c d x % (p : Int) = 0) from funext fun x => root_iff hp]
    rfl
  · by_cases h : a = 0
    · subst h
      rw [if_pos (show ([0, b, c, d] : List Nat).head? = some 0 from rfl), if_pos (show ((0 : Nat) : Int) % (p : Int) = 0 from Int.zero_emod _)]
      rfl
    · rw [if_neg (show ¬ ([a, b, c, d].head? = some 0) from fun z => h (Option.some.inj z)), if_neg]
      · rfl
      · rw [Int.emod_eq_of_lt (by omega) (by omega)]
        omega
theorem okS_all {p a b c d : Nat} (hp : p = 2 ∨ p = 3) (ha : a < p) (hb : b < p) (hc : c < p) (hd : d < p) : okS p [a, b, c, d] = true := by
  rcases hp with rfl | rfl
  · exact okS2 _ (mem4 ha hb hc hd)
  · exact okS3 _ (mem4 ha hb hc hd)
theorem fine_all {p a b c d : Nat} (hp : p = 2 ∨ p = 3) (ha : a < p) (hb : b < p) (hc : c < p) (hd : d < p) (h0 : ¬ (a = 0 ∧ b = 0 ∧ c = 0 ∧ d = 0)) : fine p [a, b, c, d] = true := by
  have ne : [a, b, c, d] ≠ [0, 0, 0, 0] := fun e => h0 (by
    injection e with e1 e
    injection e with e2 e
    injection e with e3 e
    injection e with e4 e
    exact ⟨e1, e2, e3, e4⟩)
  rcases hp with rfl | rfl
  · exact fine2 _ (mem4 ha hb hc hd) ne
  · exact fine3 _ (mem4 ha hb hc hd) ne
theorem sorted_eq {p a b c d : Nat} {qs : List (Int × Int)} (hp : p = 2 ∨ p = 3) (ha : a < p) (hb : b < p) (hc : c < p) (hd : d < p) (pm : qs.Perm (rootsG a b c d p)) (srt : qs.Pairwise Fr.lexP) : qs = (sorted p [a, b, c, d]).map zI := by
  have p0 : 0 < p := by omega
  have h := okS_all hp ha hb hc hd
  unfold okS at h
  rw [Bool.and_eq_true, Bool.and_eq_true, Bool.and_eq_true] at h
  obtain ⟨⟨⟨h1, h2⟩, h3⟩, _⟩ := h
  have h1 := of_decide_eq_true h1
  have pw : ((sorted p [a, b, c, d]).map zI).Pairwise MapM.lexQ := by
    rw [List.pairwise_map]
    refine h1.imp fun {z w} h => ?_
    rcases h with h | ⟨h, g⟩
    · exact .inl (by show (z.1 : Int) < (w.1 : Int); omega)
    · exact .inr ⟨by show (z.1 : Int) = (w.1 : Int); omega, by show (z.2 : Int) < (w.2 : Int); omega⟩
  refine Fr.eq_sorted srt (pm.nodup_iff.mpr (MapM.roots_nodup _ _ _ _ _)) (pw.imp fun {z w} h => ?_) (pw.imp MapM.lexQ_ne) fun z => ?_
  · rcases h with h | ⟨h, g⟩
    · exact .inl h
    · exact .inr ⟨h, by omega⟩
  · rw [pm.mem_iff, ← places_eq p0 ha, List.mem_map, List.mem_map]
    constructor
    · rintro ⟨w, hw, e⟩
      have := List.all_eq_true.mp h3 w hw
      exact ⟨w, by simpa using this, e⟩
    · rintro ⟨w, hw, e⟩
      have := List.all_eq_true.mp h2 w hw
      exact ⟨w, by simpa using this, e⟩
theorem sorted_mem {p a b c d : Nat} {z : Nat × Nat} (hp : p = 2 ∨ p = 3) (ha : a < p) (hb : b < p) (hc : c < p) (hd : d < p) (h : z ∈ sorted p [a, b, c, d]) : (z.2 = 1 ∧ z.1 < p) ∨ z = (1, 0) := by
  have g := okS_all hp ha hb hc hd
  unfold okS at g
  rw [Bool.and_eq_true, Bool.and_eq_true, Bool.and_eq_true] at g
  have := List.all_eq_true.mp g.1.1.2 z h
  have h : z ∈ places p [a, b, c, d] := by simpa using this
  unfold places at h
  rw [List.mem_append, List.mem_map] at h
  rcases h with ⟨x, hx, rfl⟩ | h
  · exact .inl ⟨rfl, List.mem_range.mp (List.mem_filter.mp hx).1⟩
  · by_cases e : [a, b, c, d].head? = some 0
    · rw [if_pos e] at h
      exact .inr (List.mem_singleton.mp h)
    · rw [if_neg e] at h
      cases h
theorem fine_out {p a b c d : Nat} (hp : p = 2 ∨ p = 3) (ha : a < p) (hb : b < p) (hc : c < p) (hd : d < p) (h0 : ¬ (a = 0 ∧ b = 0 ∧ c = 0 ∧ d = 0)) : ∃ rest, go p (sorted p [a, b, c, d]) [a, b, c, d] = some rest ∧ (1 < rest.length ∨ (1 ≤ (sorted p [a, b, c, d]).length ∧ (sorted p [a, b, c, d]).length ≤ 3)) := by
  have h := fine_all hp ha hb hc hd h0
  have g := okS_all hp ha hb hc hd
  unfold okS at g
  rw [Bool.and_eq_true, Bool.and_eq_true, Bool.and_eq_true] at g
  have g := of_decide_eq_true g.2
  unfold fine at h
  cases e : go p (sorted p [a, b, c, d]) [a, b, c, d] with
  | none => rw [e] at h; cases h
  | some rest =>
    rw [e] at h
    refine ⟨rest, rfl, ?_⟩
    simp only [Bool.or_eq_true, Bool.and_eq_true, decide_eq_true_iff] at h
    rw [g]
    exact h
end KindM
namespace Fr
open PySem PySem.Spec PyProof.Rows L2
def Dk (kvs : List (Key × V)) (ks : List Int) : Prop := kvs.map (·.1) = ks.map Sum.inl
theorem Dk.nil : Dk [] [] := rfl
theorem Dk.put {kvs : List (Key × V)} {ks : List Int} (h : Dk kvs ks) (k : Int) (v : V) : Dk (putK kvs (Sum.inl k : Key) v) (if k ∈ ks then ks else ks ++ [k]) := by
  unfold Dk at *
  have hany : (kvs.any fun kv => decide (kv.1 = (Sum.inl k : Key))) = decide (k ∈ ks) := by
    rw [Bool.eq_iff_iff, List.any_eq_true, decide_eq_true_iff]
    constructor
    · rintro ⟨kv, h1, h2⟩
      have : kv.1 ∈ kvs.map (·.1) := List.mem_map_of_mem h1
      rw [h, List.mem_map] at this
      obtain ⟨i, h3, h4⟩ := this
      rw [of_decide_eq_true h2] at h4
      rw [← Sum.inl.inj h4]
      exact h3
    · intro hk
      have : (Sum.inl k : Key) ∈ kvs.map (·.1) := by
        rw [h]
        exact List.mem_map_of_mem hk
      rw [List.mem_map] at this
      obtain ⟨kv, h1, h2⟩ := this
      exact ⟨kv, h1, decide_eq_true h2⟩
  unfold putK
  rw [hany]
  by_cases hk : k ∈ ks
  · rw [decide_eq_true hk, if_pos rfl, if_pos hk, List.map_map, ← h]
    apply List.map_congr_left
    intro kv _
    show (if kv.1 = Sum.inl k then (kv.1, v) else kv).1 = kv.1
    split <;> rfl
  · rw [decide_eq_false hk, if_neg Bool.false_ne_true, if_neg hk, List.map_append, List.map_append, h]
    rfl
theorem put_len (kvs : List (Key × V)) (k : Key) (v : V) : (putK kvs k v).length ≤ kvs.length + 1 := by
  unfold putK
  split
  · rw [List.length_map]; exact Nat.le_succ _
  · rw [List.length_append]; exact Nat.le_refl _
theorem Dk.some {kvs : List (Key × V)} {ks : List Int} (h : Dk kvs ks) (k : Int) : (valV kvs (Sum.inl k : Key)).isSome = decide (k ∈ ks) := by
  unfold valV
  rw [Option.isSome_map, Bool.eq_iff_iff, decide_eq_true_iff, List.find?_isSome]
  unfold Dk at h
  constructor
  · rintro ⟨kv, h1, h2⟩
    have : kv.1 ∈ kvs.map (·.1) := List.mem_map_of_mem h1
    rw [h, List.mem_map] at this
    obtain ⟨i, h3, h4⟩ := this
    rw [of_decide_eq_true h2] at h4
    rw [← Sum.inl.inj h4]
    exact h3
  · intro hk
    have : (Sum.inl k : Key) ∈ kvs.map (·.1) := by
      rw [h]
      exact List.mem_map_of_mem hk
    rw [List.mem_map] at this
    obtain ⟨kv, h1, h2⟩ := this
    exact ⟨kv, h1, decide_eq_true h2⟩
def Ds (H : Hp) (P : Nat → List (Key × V) → Hp → Prop) (D : Addr) (i : Nat) (H' : Hp) : Prop := Ex0 H H' ∧ ∃ kvs, H' D = some (.dK kvs) ∧ kvs.length ≤ i ∧ P i kvs H'
section
variable {σ : L2.St} {H : Hp} {Q : Addr → Hp → Prop} {tk tv : TE} {vs : List Nat} {g : TG} {tt : TT} {P : Nat → List (Key × V) → Hp → Prop}
theorem ds_yes {D : Addr} {i : Nat} {kvs : List (Key × V)} {H' H4 : Hp} {y z : V} {k : Key} (hD : H D = none) (p1 : Ex0 H H') (p2 : H' D = some (.dK kvs)) (p3 : kvs.length ≤ i) (hi : i < 1000000) (e : Ex0 H' H4) (hy : y = kV k) (h : P (i + 1) (putK kvs k z) (upd H4 D (.dK (putK kvs k z)))) :
    ∃ kvs k, y = kV k ∧ H4 D = some (.dK kvs) ∧ kvs.length < sizeLine ∧ Ds H P D (i + 1) (upd H4 D (.dK (putK kvs k z))) :=
  ⟨kvs, k, hy, Ex0.ap e p2, Nat.lt_of_le_of_lt p3 (Nat.lt_of_lt_of_le hi (by decide)), Fx.mut fm0 (p1.trans e) trivial hD, _, upd_same, Nat.le_trans (put_len _ _ _) (Nat.add_le_add_right p3 1), h⟩
theorem ds_no {D : Addr} {i : Nat} {kvs : List (Key × V)} {H' H4 : Hp} (p1 : Ex0 H H') (p2 : H' D = some (.dK kvs)) (p3 : kvs.length ≤ i) (e : Ex0 H' H4) (h : P (i + 1) kvs H4) : Ds H P D (i + 1) H4 :=
  ⟨p1.trans e, kvs, Ex0.ap e p2, Nat.le_succ_of_le p3, h⟩
theorem dcR {lo : Int} {n : Nat} (P : Nat → List (Key × V) → Hp → Prop) (p0 : ∀ D, H D = none → P 0 [] (upd H D (.dK [])))
    (hs : ∀ D i kvs H', H D = none → i < n → Ex0 H H' → H' D = some (.dK kvs) → kvs.length ≤ i → P i kvs H' → g (.int (lo + i)) (wipe σ vs) H' fun σ2 H2 => wipe σ2 vs = wipe σ vs ∧ tt σ2 H2 fun b H3 =>
      if b = true then tk σ2 H3 fun y H4 => tv σ2 H4 fun z H5 => ∃ kvs k, y = kV k ∧ H5 D = some (.dK kvs) ∧ kvs.length < sizeLine ∧ Ds H P D (i + 1) (upd H5 D (.dK (putK kvs k z))) else Ds H P D (i + 1) H3)
    (q : ∀ D H' kvs, H D = none → Ex0 H H' → H' D = some (.dK kvs) → kvs.length ≤ n → P n kvs H' → Q D H') :
    ∀ D, H D = none → ∃ W : Nat → Nat → Hp → Prop, (∃ m, W 0 m (upd H D (.dK []))) ∧ ∀ i m H, W i m H →
      ((Itr lo n).stop i H ∧ Q D H) ∨ ((Itr lo n).go i H ∧ ∃ Nx : Hp → Prop, (∀ H', Nx H' → ∃ m', m' < m ∧ W (i + 1) m' H') ∧ ∀ x H', (Itr lo n).yld i H x H' → g x (wipe σ vs) H' fun σ2 H2 => wipe σ2 vs = wipe σ vs ∧ tt σ2 H2 fun b H3 =>
        if b = true then tk σ2 H3 fun y H4 => tv σ2 H4 fun z H5 => ∃ kvs k, y = kV k ∧ H5 D = some (.dK kvs) ∧ kvs.length < sizeLine ∧ Nx (upd H5 D (.dK (putK kvs k z))) else Nx H3) := by
  intro D hD
  refine ⟨fun i m H' => Ds H P D i H' ∧ i ≤ n ∧ m = n - i, ⟨n, ⟨Ex0.new hD, [], upd_same, Nat.le_refl _, p0 D hD⟩, Nat.zero_le _, rfl⟩, ?_⟩
  rintro i m H1 ⟨⟨p1, kvs, p2, p3, p4⟩, h1, rfl⟩
  by_cases h : i < n
  · refine .inr ⟨h, fun H' => Ds H P D (i + 1) H', fun H' d => ⟨n - (i + 1), by omega, d, h, rfl⟩, ?_⟩
    rintro x H' ⟨rfl, rfl⟩
    exact hs D i kvs H' hD h p1 p2 p3 p4
  · have : i = n := by omega
    subst this
    exact .inl ⟨Nat.le_refl _, q D H1 kvs hD p1 p2 p3 p4⟩
end
def tCallOK (C : Addr) (sp : Sp) (E : XK) (tf : TE) (t : TA) : TE := fun σ H Q => tf σ H fun y H1 => ∃ a, y = V.ref a ∧ t σ H1 fun vs H2 => ((∃ dx vs, SlX.Slt H2 a C dx vs) ∨ ∃ dx fs, H2 a = some (HO.ins C dx fs)) ∧ sp (V.ref a :: vs) H2 Q E
theorem pe_callOK {X : Cx} {CX : CXT} {k : Nat} {C : Addr} {sp : Sp} {E : XK} {e fe : Expr} {es : List Expr} {tf : TE} {t : TA} {pos : Pos} {g : Addr} {K : PySem.W.Frag} (hK : X.K = K) (hf : PE X fe tf) (c : StX.CallO K C g) (F : FnR X.prog X.w K X.mg X.base CX k g sp) (hr : Room k X.A) (hx : Passes CX X E) (ha : PA X (e :: es) t)
    (h1 : eval (fe.Call (e :: es) [] pos) X.env = (do
      let v ← eval fe X.env
      callWith pos v [] (backTo pos (starEach (e :: es) X.env)) (backToKw pos (keywordEach [] X.env))))
    (h2 : starEach (e :: es) X.env = (false, eval e X.env) :: starEach es X.env)
    (h3 : ((backTo pos (starEach es X.env)).any fun x => x.1) = false) : PE X (fe.Call (e :: es) [] pos) (tCallOK C sp E tf t) := by
  subst hK
  show PE X (fe.Call (e :: es) [] pos) (StX.tCallO X C sp E tf t)
  exact StX.pe_callO hf c F hr hx ha h1 h2 h3
end Fr
namespace Stick
def PL : List Nat := [5, 7, 11, 13, 17, 19, 23, 29, 59, 101, 499]
def rt (p u v : Nat) : Bool := (List.range p).any fun x => (x * x * x + u * x + v) % p == 0
def eul (p n : Nat) : Bool := n ^ ((p - 1) / 2) % p == 1
def sq (p u : Nat) : Bool := (List.range p).any fun v => v * v % p == u
def tS (p : Nat) : Bool := (List.range p).all fun u => u == 0 || (eul p u == sq p u)
def tT (p : Nat) : Bool := (List.range p).all fun t => t == 0 || rt p t t || eul p ((4 * (p - 1) * (t * t * t) + 27 * (p - 1) * (t * t)) % p)
def tQ (p : Nat) : Bool := (List.range p).all fun q => q == 0 || rt p 0 q || eul p (27 * (p - 1) * (q * q) % p)
theorem allS : ∀ p ∈ PL, tS p = true := by decide +kernel
theorem allT : ∀ p ∈ PL, tT p = true := by decide +kernel
theorem allQ : ∀ p ∈ PL, tQ p = true := by decide +kernel
theorem inv_tab : ∀ p ∈ PL, ∀ r ∈ List.range p, r ≠ 0 → ∃ m ∈ List.range p, r * m % p = 1 := by decide +kernel
theorem zero_tab : ∀ p ∈ PL, eul p 0 = false := by decide +kernel
end Stick
namespace Stick
structure Fld (p : Nat) [NeZero p] (E : Fin p → Bool) : Prop where
  z : ∀ x y : Fin p, x * y = 0 → x = 0 ∨ y = 0
  i : ∀ x : Fin p, x ≠ 0 → ∃ m, x * m = 1
  two : (2 : Fin p) ≠ 0
  three : (3 : Fin p) ≠ 0
  e0 : E 0 = false
  s : ∀ u : Fin p, u ≠ 0 → (E u = true ↔ ∃ v, v * v = u)
  t : ∀ t : Fin p, t ≠ 0 → (∃ x, x * x * x + t * x + t = 0) ∨ E (-(4 * t * t * t) - 27 * t * t) = true
  q : ∀ q : Fin p, q ≠ 0 → (∃ x, x * x * x + q = 0) ∨ E (-(27 * q * q)) = true
section
variable {p : Nat} [NeZero p] {E : Fin p → Bool}
def ff (a b c d x : Fin p) : Fin p := ((a * x + b) * x + c) * x + d
def dv (a b c x : Fin p) : Fin p := 3 * a * x * x + 2 * b * x + c
def ds (a b c d : Fin p) : Fin p := b * b * c * c - 4 * a * c * c * c - 4 * b * b * b * d - 27 * a * a * d * d + 18 * a * b * c * d
def h0 (a b c d : Fin p) : Fin p := b * b - 3 * a * c
def h1 (a b c d : Fin p) : Fin p := b * c - 9 * a * d
def h2 (a b c d : Fin p) : Fin p := c * c - 3 * b * d
def R (a b c d : Fin p) : List (Fin p) := (List.finRange p).filter fun x => decide (ff a b c d x = 0)
def kG (n : Nat) (m : Prop) [Decidable m] : Nat := if n = 0 then 0 else if m then (if n = 2 then 3 else 4) else (if n = 3 then 2 else 1)
def kL (a b c d : Fin p) : Nat := kG ((R a b c d).length + (if a = 0 then 1 else 0)) ((∃ x ∈ R a b c d, dv a b c x = 0) ∨ (a = 0 ∧ b = 0))
def kP (E : Fin p → Bool) (a b c d : Fin p) : Nat := if ds a b c d = 0 then (if h0 a b c d ≠ 0 ∨ h1 a b c d ≠ 0 ∨ h2 a b c d ≠ 0 then 3 else 4) else if E (ds a b c d) = false then 1 else if 0 < (R a b c d).length + (if a = 0 then 1 else 0) then 2 else 0
theorem mem_R {a b c d x : Fin p} : x ∈ R a b c d ↔ ff a b c d x = 0 := by
  unfold R
  rw [List.mem_filter, decide_eq_true_iff]
  exact ⟨fun h => h.2, fun h => ⟨List.mem_finRange x, h⟩⟩
theorem len_R {a b c d : Fin p} {L : List (Fin p)} (nd : L.Nodup) (h : ∀ x, ff a b c d x = 0 ↔ x ∈ L) : (R a b c d).length = L.length := by
  refine List.Perm.length_eq ((List.perm_ext_iff_of_nodup ?_ nd).mpr fun x => ?_)
  · exact (List.nodup_finRange p).filter _
  · rw [mem_R]; exact h x
theorem kG_iff {n : Nat} {m m' : Prop} [Decidable m] [Decidable m'] (h : m ↔ m') : kG n m = kG n m' := by
  unfold kG
  by_cases g : m
  · rw [if_pos g, if_pos (h.mp g)]
  · rw [if_neg g, if_neg fun z => g (h.mpr z)]
theorem ex_R {a b c d : Fin p} {L : List (Fin p)} (h : ∀ x, ff a b c d x = 0 ↔ x ∈ L) : (∃ x ∈ R a b c d, dv a b c x = 0) ↔ ∃ x ∈ L, dv a b c x = 0 :=
  ⟨fun ⟨x, h1, h2⟩ => ⟨x, (h x).mp (mem_R.mp h1), h2⟩, fun ⟨x, h1, h2⟩ => ⟨x, mem_R.mpr ((h x).mpr h1), h2⟩⟩
theorem kL_of {a b c d : Fin p} {L : List (Fin p)} (nd : L.Nodup) (h : ∀ x, ff a b c d x = 0 ↔ x ∈ L) (n : Nat) (hn : L.length + (if a = 0 then 1 else 0) = n) (m : Prop) [Decidable m] (hm : ((∃ x ∈ L, dv a b c x = 0) ∨ (a = 0 ∧ b = 0)) ↔ m) : kL a b c d = kG n m := by
  unfold kL
  rw [len_R nd h, hn]
  exact kG_iff (by rw [ex_R h]; exact hm)
theorem quad0 (F : Fld p E) {a b c u : Fin p} (hu : 2 * a * u = 1) (hd : b * b - 4 * a * c = 0) (x : Fin p) : a * x * x + b * x + c = 0 ↔ x = -b * u := by
  constructor
  · intro h
    have h2 : (2 * a * x + b) * (2 * a * x + b) = 0 := by grind
    have h3 : 2 * a * x + b = 0 := (F.z _ _ h2).elim id id
    grind
  · rintro rfl
    have h2 : (2 * a) * (2 * (a * (-b * u) * (-b * u) + b * (-b * u) + c)) = 0 := by grind
    have h3 : u * ((2 * a) * (2 * (a * (-b * u) * (-b * u) + b * (-b * u) + c))) = 0 := by rw [h2]; grind
    have h4 : 2 * (a * (-b * u) * (-b * u) + b * (-b * u) + c) = 0 := by grind
    exact (F.z _ _ h4).elim (fun z => absurd z F.two) id
theorem quad2 (F : Fld p E) {a b c u v : Fin p} (hu : 2 * a * u = 1) (hv : v ≠ 0) (hd : b * b - 4 * a * c = v * v) (x : Fin p) : a * x * x + b * x + c = 0 ↔ (x = (-b + v) * u ∨ x = (-b - v) * u) := by
  constructor
  · intro h
    have h2 : (2 * a * x + b - v) * (2 * a * x + b + v) = 0 := by grind
    rcases F.z _ _ h2 with h3 | h3
    · left; grind
    · right; grind
  · intro h
    have h1 : (2 * a * x + b - v) * (2 * a * x + b + v) = 0 := by
      rcases h with rfl | rfl
      · have : 2 * a * ((-b + v) * u) + b - v = 0 := by grind
        rw [this]; grind
      · have : 2 * a * ((-b - v) * u) + b + v = 0 := by grind
        rw [this]; grind
    have h3 : u * ((2 * a) * (2 * (a * x * x + b * x + c))) = 0 := by grind
    have h4 : 2 * (a * x * x + b * x + c) = 0 := by grind
    exact (F.z _ _ h4).elim (fun z => absurd z F.two) id
theorem quad_ne (F : Fld p E) {a b u v : Fin p} (hu : 2 * a * u = 1) (hv : v ≠ 0) : (-b + v) * u ≠ (-b - v) * u := by
  intro h
  have h1 : 2 * v = 0 := by
    have : (2 * a) * ((-b + v) * u) = (2 * a) * ((-b - v) * u) := by rw [h]
    grind
  exact (F.z _ _ h1).elim (fun z => F.two z) hv
theorem quad1 (F : Fld p E) {a b c : Fin p} (hd : ¬ ∃ v, v * v = b * b - 4 * a * c) (x : Fin p) : a * x * x + b * x + c ≠ 0 := fun h => hd ⟨2 * a * x + b, by grind⟩
theorem inv2 (F : Fld p E) {a : Fin p} (ha : a ≠ 0) : ∃ u, 2 * a * u = 1 := by
  have : 2 * a ≠ 0 := fun h => (F.z _ _ h).elim F.two ha
  exact F.i _ this
theorem sq_of (F : Fld p E) {u : Fin p} (h : u ≠ 0) (hv : ∃ v, v * v = u) : E u = true := (F.s u h).mpr hv
theorem nsq (F : Fld p E) {u w : Fin p} (hw : w ≠ 0) (h : ¬ ∃ v, v * v = u) : ¬ ∃ v, v * v = w * w * u := by
  rintro ⟨v, hv⟩
  obtain ⟨m, hm⟩ := F.i w hw
  exact h ⟨v * m, by grind⟩
theorem E_no (F : Fld p E) {u : Fin p} (h : ¬ ∃ v, v * v = u) : E u = false ∧ u ≠ 0 := by
  have hu : u ≠ 0 := fun z => h ⟨0, by rw [z]; grind⟩
  refine ⟨?_, hu⟩
  cases e : E u with
  | false => rfl
  | true => exact absurd ((F.s u hu).mp e) h
theorem sq_dec (u : Fin p) : (∃ v : Fin p, v * v = u) ∨ ¬ ∃ v : Fin p, v * v = u := Classical.em _
theorem kP0 {a b c d : Fin p} (hd : ds a b c d = 0) (hh : h0 a b c d ≠ 0 ∨ h1 a b c d ≠ 0 ∨ h2 a b c d ≠ 0) : kP E a b c d = 3 := by
  unfold kP
  rw [if_pos hd, if_pos hh]
theorem kP4 {a b c d : Fin p} (hd : ds a b c d = 0) (g0 : h0 a b c d = 0) (g1 : h1 a b c d = 0) (g2 : h2 a b c d = 0) : kP E a b c d = 4 := by
  unfold kP
  rw [if_pos hd, if_neg]
  rintro (h | h | h)
  · exact h g0
  · exact h g1
  · exact h g2
theorem kP1 {a b c d : Fin p} (hd : ds a b c d ≠ 0) (he : E (ds a b c d) = false) : kP E a b c d = 1 := by
  unfold kP
  rw [if_neg hd, if_pos he]
theorem kP2 {a b c d : Fin p} (hd : ds a b c d ≠ 0) (he : E (ds a b c d) = true) (hr : 0 < (R a b c d).length + (if a = 0 then 1 else 0)) : kP E a b c d = 2 := by
  unfold kP
  rw [if_neg hd, if_neg (by rw [he]; decide), if_pos hr]
theorem kP3 {a b c d : Fin p} (hd : ds a b c d ≠ 0) (he : E (ds a b c d) = true) (hr : ¬ 0 < (R a b c d).length + (if a = 0 then 1 else 0)) : kP E a b c d = 0 := by
  unfold kP
  rw [if_neg hd, if_neg (by rw [he]; decide), if_neg hr]
theorem nd2 {x y : Fin p} (h : x ≠ y) : [x, y].Nodup := List.nodup_cons.mpr ⟨fun z => h (List.mem_singleton.mp z), List.nodup_cons.mpr ⟨List.not_mem_nil, List.nodup_nil⟩⟩
theorem nd1 (x : Fin p) : [x].Nodup := List.nodup_cons.mpr ⟨List.not_mem_nil, List.nodup_nil⟩
theorem nd3 {x y z : Fin p} (h1 : x ≠ y) (h2 : x ≠ z) (h3 : y ≠ z) : [x, y, z].Nodup := List.nodup_cons.mpr ⟨fun w => by
  rcases List.mem_cons.mp w with w | w
  · exact h1 w
  · exact h2 (List.mem_singleton.mp w), nd2 h3⟩
theorem caseA (F : Fld p E) {b c d : Fin p} (hn : ¬ (b = 0 ∧ c = 0 ∧ d = 0)) : kP E 0 b c d = kL 0 b c d := by
  have pos : 0 < (R 0 b c d).length + (if (0 : Fin p) = 0 then 1 else 0) := by rw [if_pos rfl]; omega
  by_cases hb : b = 0
  · subst hb
    have hds : ds 0 0 c d = 0 := by unfold ds; grind
    by_cases hc : c = 0
    · subst hc
      have hd : d ≠ 0 := fun z => hn ⟨rfl, rfl, z⟩
      rw [kP4 hds (by unfold h0; grind) (by unfold h1; grind) (by unfold h2; grind), kL_of (L := []) List.nodup_nil (fun x => ⟨fun h => absurd (show d = 0 by unfold ff at h; grind) hd, fun h => by cases h⟩) 1 (by rw [if_pos rfl]; rfl) True ⟨fun _ => trivial, fun _ => .inr ⟨rfl, rfl⟩⟩]
      rfl
    · obtain ⟨m, hm⟩ := F.i c hc
      rw [kP0 hds (.inr (.inr (by
        unfold h2
        intro z
        have : c * c = 0 := by grind
        exact (F.z _ _ this).elim hc hc))), kL_of (L := [-d * m]) (nd1 _) (fun x => by
          rw [List.mem_singleton]
          unfold ff
          constructor
          · intro h; grind
          · rintro rfl; grind) 2 (by rw [if_pos rfl]; rfl) True ⟨fun _ => trivial, fun _ => .inr ⟨rfl, rfl⟩⟩]
      rfl
  · obtain ⟨u, hu⟩ := inv2 F hb
    have hds : ds 0 b c d = b * b * (c * c - 4 * b * d) := by unfold ds; grind
    have hff : ∀ x, ff 0 b c d x = b * x * x + c * x + d := fun x => by unfold ff; grind
    have hbb : b * b ≠ 0 := fun z => (F.z _ _ z).elim hb hb
    by_cases hδ : c * c - 4 * b * d = 0
    · rw [kP0 (by rw [hds, hδ]; grind) (.inl (by unfold h0; intro z; exact hbb (by grind))), kL_of (L := [-c * u]) (nd1 _) (fun x => by
        rw [List.mem_singleton, hff]
        exact quad0 F hu hδ x) 2 (by rw [if_pos rfl]; rfl) True ⟨fun _ => trivial, fun _ => .inl ⟨-c * u, List.mem_singleton.mpr rfl, by unfold dv; grind⟩⟩]
      rfl
    · rcases sq_dec (c * c - 4 * b * d) with ⟨v, hv⟩ | hns
      · have hv0 : v ≠ 0 := fun z => hδ (by rw [← hv, z]; grind)
        have hD : ds 0 b c d ≠ 0 := by
          rw [hds]
          exact fun z => (F.z _ _ z).elim hbb hδ
        have hE : E (ds 0 b c d) = true := sq_of F hD ⟨b * v, by rw [hds]; grind⟩
        rw [kP2 hD hE pos, kL_of (L := [(-c + v) * u, (-c - v) * u]) (nd2 (quad_ne F hu hv0)) (fun x => by
          rw [hff, List.mem_cons, List.mem_singleton]
          exact quad2 F hu hv0 hv.symm x) 3 (by rw [if_pos rfl]; rfl) False ⟨fun h => by
            rcases h with ⟨x, hx, hd⟩ | ⟨_, h⟩
            · rw [List.mem_cons, List.mem_singleton] at hx
              unfold dv at hd
              rcases hx with rfl | rfl
              · exact hv0 (by grind)
              · exact hv0 (by grind)
            · exact hb h, fun h => h.elim⟩]
        rfl
      · have hq := quad1 F hns
        have hne := nsq F hb hns
        have e2 := E_no F hne
        rw [kP1 (by rw [hds]; exact e2.2) (by rw [hds]; exact e2.1), kL_of (L := []) List.nodup_nil (fun x => ⟨fun h => absurd (by rw [← hff]; exact h) (hq x), fun h => by cases h⟩) 1 (by rw [if_pos rfl]; rfl) False ⟨fun h => by
          rcases h with ⟨x, hx, _⟩ | ⟨_, h⟩
          · cases hx
          · exact hb h, fun h => h.elim⟩]
        rfl
theorem caseB (F : Fld p E) {a b c d r : Fin p} (ha : a ≠ 0) (hr : ff a b c d r = 0) : kP E a b c d = kL a b c d := by
  have hr' : ((a * r + b) * r + c) * r + d = 0 := hr
  obtain ⟨u, hu⟩ := inv2 F ha
  have hff : ∀ x, ff a b c d x = (x - r) * (a * x * x + (a * r + b) * x + (a * r * r + b * r + c)) := fun x => by unfold ff; grind
  have hds : ds a b c d = ((a * r + b) * (a * r + b) - 4 * a * (a * r * r + b * r + c)) * ((3 * a * r * r + 2 * b * r + c) * (3 * a * r * r + 2 * b * r + c)) := by unfold ds; grind
  have e0 : (if a = 0 then 1 else 0) = 0 := if_neg ha
  have pos : 0 < (R a b c d).length + (if a = 0 then 1 else 0) := by
    have : 0 < (R a b c d).length := List.length_pos_of_mem (mem_R.mpr hr)
    omega
  have root : ∀ x, ff a b c d x = 0 ↔ x = r ∨ a * x * x + (a * r + b) * x + (a * r * r + b * r + c) = 0 := fun x => by
    rw [hff]
    constructor
    · intro h
      rcases F.z _ _ h with z | z
      · left; grind
      · right; exact z
    · rintro (rfl | z)
      · grind
      · rw [z]; grind
  have hdvr : dv a b c r = 3 * a * r * r + 2 * b * r + c := rfl
  generalize hw : 3 * a * r * r + 2 * b * r + c = w at *
  generalize hβ : a * r + b = β at *
  generalize hγ : a * r * r + b * r + c = γ at *
  have qr : a * r * r + β * r + γ = w := by grind
  have na : ¬ (a = 0 ∧ b = 0) := fun h => ha h.1
  have hsq : ∀ y : Fin p, y * y = 0 → y = 0 := fun y h => (F.z _ _ h).elim id id
  by_cases hδ : β * β - 4 * a * γ = 0
  · have hq0 := quad0 F hu hδ
    by_cases hw0 : w = 0
    · have hrs : r = -β * u := (hq0 r).mp (by rw [qr]; exact hw0)
      have hb : b = -(3 * a * r) := by grind
      have hc : c = 3 * a * r * r := by grind
      have hd : d = -(a * r * r * r) := by grind
      rw [kP4 (by rw [hds, hδ]; grind) (by unfold h0; grind) (by unfold h1; grind) (by unfold h2; grind), kL_of (L := [r]) (nd1 _) (fun x => by
        rw [root, hq0, List.mem_singleton, ← hrs]
        exact ⟨fun h => h.elim id id, .inl⟩) 1 (by rw [e0]; rfl) True ⟨fun _ => trivial, fun _ => .inl ⟨r, List.mem_singleton.mpr rfl, by rw [hdvr]; exact hw0⟩⟩]
      rfl
    · have hrs : r ≠ -β * u := fun h => hw0 (by rw [← qr]; exact (hq0 r).mpr h)
      have h0' : h0 a b c d = a * a * ((r - -β * u) * (r - -β * u)) := by unfold h0; grind
      rw [kP0 (by rw [hds, hδ]; grind) (.inl (by
        rw [h0']
        intro z
        rcases F.z _ _ z with z | z
        · exact ha (hsq _ z)
        · exact hrs (by have := hsq _ z; grind))), kL_of (L := [r, -β * u]) (nd2 hrs) (fun x => by
        rw [root, hq0, List.mem_cons, List.mem_singleton]) 2 (by rw [e0]; rfl) True ⟨fun _ => trivial, fun _ => .inl ⟨-β * u, by simp, by unfold dv; grind⟩⟩]
      rfl
  · rcases sq_dec (β * β - 4 * a * γ) with ⟨v, hv⟩ | hns
    · have hv0 : v ≠ 0 := fun z => hδ (by rw [← hv, z]; grind)
      have hq2 := quad2 F hu hv0 hv.symm
      have hne := quad_ne (b := β) F hu hv0
      by_cases hw0 : w = 0
      · have hrr := (hq2 r).mp (by rw [qr]; exact hw0)
        have h0' : h0 a b c d = v * v := by unfold h0; grind
        rw [kP0 (by rw [hds, hw0]; grind) (.inl (by rw [h0']; exact fun z => hv0 (hsq _ z))), kL_of (L := [(-β + v) * u, (-β - v) * u]) (nd2 hne) (fun x => by
          rw [root, hq2, List.mem_cons, List.mem_singleton]
          constructor
          · rintro (rfl | h)
            · exact hrr
            · exact h
          · exact .inr) 2 (by rw [e0]; rfl) True ⟨fun _ => trivial, fun _ => .inl ⟨r, by rw [List.mem_cons, List.mem_singleton]; exact hrr, by rw [hdvr]; exact hw0⟩⟩]
        rfl
      · have hD : ds a b c d ≠ 0 := by
          rw [hds]
          exact fun z => (F.z _ _ z).elim hδ (fun z => hw0 (hsq _ z))
        have hE : E (ds a b c d) = true := sq_of F hD ⟨v * w, by rw [hds, ← hv]; grind⟩
        have n1 : r ≠ (-β + v) * u := fun h => hw0 (by rw [← qr]; exact (hq2 r).mpr (.inl h))
        have n2 : r ≠ (-β - v) * u := fun h => hw0 (by rw [← qr]; exact (hq2 r).mpr (.inr h))
        rw [kP2 hD hE pos, kL_of (L := [r, (-β + v) * u, (-β - v) * u]) (nd3 n1 n2 hne) (fun x => by
          rw [root, hq2, List.mem_cons, List.mem_cons, List.mem_singleton]) 3 (by rw [e0]; rfl) False ⟨fun h => by
            rcases h with ⟨x, hx, hd⟩ | h
            · rw [List.mem_cons, List.mem_cons, List.mem_singleton] at hx
              rcases hx with rfl | hx
              · exact hw0 (by rw [← hdvr]; exact hd)
              · have hq : a * x * x + β * x + γ = 0 := (hq2 x).mpr hx
                have hd' : (x - r) * (2 * a * x + β) = 0 := by
                  unfold dv at hd
                  grind
                rcases F.z _ _ hd' with z | z
                · have : x = r := by grind
                  rcases hx with hx | hx
                  · exact n1 (this ▸ hx)
                  · exact n2 (this ▸ hx)
                · rcases hx with rfl | rfl
                  · exact hv0 (by grind)
                  · exact hv0 (by grind)
            · exact na h, fun h => h.elim⟩]
        rfl
    · have hq := quad1 F hns
      have hw0 : w ≠ 0 := fun z => hq r (by rw [qr]; exact z)
      have hne : ¬ ∃ v, v * v = w * w * (β * β - 4 * a * γ) := nsq F hw0 hns
      have e2 := E_no F hne
      have hds' : ds a b c d = w * w * (β * β - 4 * a * γ) := by rw [hds]; grind
      rw [kP1 (by rw [hds']; exact e2.2) (by rw [hds']; exact e2.1), kL_of (L := [r]) (nd1 _) (fun x => by
        rw [root, List.mem_singleton]
        exact ⟨fun h => h.elim id fun z => absurd z (hq x), .inl⟩) 1 (by rw [e0]; rfl) False ⟨fun h => by
          rcases h with ⟨x, hx, hd⟩ | h
          · rw [List.mem_singleton] at hx
            subst hx
            exact hw0 (by rw [← hdvr]; exact hd)
          · exact na h, fun h => h.elim⟩]
      rfl
theorem hC1 {P Q k l y : Fin p} (hk : P * k = 1) (hl : Q * l = 1) : P * P * P * (Q * k * y * (Q * k * y) * (Q * k * y) + P * (Q * k * y) + Q) = Q * Q * Q * (y * y * y + P * P * P * l * l * y + P * P * P * l * l) := by
  have e1 : P * P * P * (Q * k * y * (Q * k * y) * (Q * k * y) + P * (Q * k * y) + Q) = (P * k) * (P * k) * (P * k) * (Q * Q * Q * y * y * y) + P * P * P * (P * k) * Q * y + P * P * P * Q := by grind
  have e2 : Q * Q * Q * (y * y * y + P * P * P * l * l * y + P * P * P * l * l) = Q * Q * Q * y * y * y + P * P * P * Q * (Q * l) * (Q * l) * y + P * P * P * Q * (Q * l) * (Q * l) := by grind
  rw [e1, e2, hk, hl]
  grind
theorem hC2 {P Q k l y : Fin p} (hk : P * k = 1) (h : P * P * P * y = 0) : y = 0 := by
  have : (P * k) * (P * k) * (P * k) * y = k * k * k * (P * P * P * y) := by grind
  rw [h, hk] at this
  grind
theorem hC3 {P Q k l : Fin p} (hk : P * k = 1) (hl : Q * l = 1) : (-(4 * (P * P * P * l * l) * (P * P * P * l * l) * (P * P * P * l * l)) - 27 * (P * P * P * l * l) * (P * P * P * l * l)) * ((Q * Q * Q * k * k * k) * (Q * Q * Q * k * k * k)) = -(4 * P * P * P) - 27 * Q * Q := by
  have e1 : (-(4 * (P * P * P * l * l) * (P * P * P * l * l) * (P * P * P * l * l)) - 27 * (P * P * P * l * l) * (P * P * P * l * l)) * ((Q * Q * Q * k * k * k) * (Q * Q * Q * k * k * k)) = -(4 * P * P * P * ((P * k) * (P * k) * (P * k) * (P * k) * (P * k) * (P * k)) * ((Q * l) * (Q * l) * (Q * l) * (Q * l) * (Q * l) * (Q * l))) - 27 * Q * Q * ((P * k) * (P * k) * (P * k) * (P * k) * (P * k) * (P * k)) * ((Q * l) * (Q * l) * (Q * l) * (Q * l)) := by grind
  rw [e1, hk, hl]
  grind
theorem hC4 {P Q k l w : Fin p} (hk : P * k = 1) (hl : Q * l = 1) (h : w * (Q * Q * Q * k * k * k) = 0) : w = 0 := by
  have e : (w * (Q * Q * Q * k * k * k)) * (P * P * P * l * l * l) = w * ((P * k) * (P * k) * (P * k)) * ((Q * l) * (Q * l) * (Q * l)) := by grind
  rw [h, hk, hl] at e
  grind
theorem hC5 {A n D : Fin p} (h : A * n = 1) : n * n * (A * A * D) = D := by
  have e : n * n * (A * A * D) = (A * n) * (A * n) * D := by grind
  rw [e, h]
  grind
theorem hC6 {A n D w : Fin p} (h : A * n = 1) (hw : w * w = A * A * D) : w * n * (w * n) = D := by
  have e : w * n * (w * n) = n * n * (w * w) := by grind
  rw [e, hw, hC5 h]
theorem caseC (F : Fld p E) {a b c d : Fin p} (ha : a ≠ 0) (hr : ∀ x, ff a b c d x ≠ 0) : kP E a b c d = kL a b c d := by
  have e0 : (if a = 0 then 1 else 0) = 0 := if_neg ha
  have h3a : 3 * a ≠ 0 := fun z => (F.z _ _ z).elim F.three ha
  obtain ⟨m, hm⟩ := F.i _ h3a
  have root : ∀ y : Fin p, y * y * y + -(3 * (b * b - 3 * a * c)) * y + (2 * b * b * b - 9 * a * b * c + 27 * a * a * d) ≠ 0 := by
    intro y hy
    refine hr ((y - b) * m) ?_
    have h1 : 27 * a * a * ff a b c d ((y - b) * m) = 0 := by
      unfold ff
      have : 3 * a * ((y - b) * m) + b = y := by grind
      generalize (y - b) * m = x at *
      subst this
      grind
    have h27 : 27 * a * a ≠ 0 := by
      intro z
      have : (3 * a) * ((3 * a) * 3) = 0 := by grind
      rcases F.z _ _ this with z | z
      · exact h3a z
      · exact (F.z _ _ z).elim h3a F.three
    exact (F.z _ _ h1).elim (fun z => absurd z h27) id
  have hD : (27 * a) * (27 * a) * ds a b c d = -(4 * (-(3 * (b * b - 3 * a * c))) * (-(3 * (b * b - 3 * a * c))) * (-(3 * (b * b - 3 * a * c)))) - 27 * (2 * b * b * b - 9 * a * b * c + 27 * a * a * d) * (2 * b * b * b - 9 * a * b * c + 27 * a * a * d) := by
    unfold ds
    grind
  generalize hP : -(3 * (b * b - 3 * a * c)) = P at *
  generalize hQ : 2 * b * b * b - 9 * a * b * c + 27 * a * a * d = Q at *
  have hQ0 : Q ≠ 0 := fun z => root 0 (by rw [z]; grind)
  have h27a : 27 * a ≠ 0 := by
    intro z
    have : (3 * a) * (3 * 3) = 0 := by grind
    rcases F.z _ _ this with z | z
    · exact h3a z
    · exact (F.z _ _ z).elim F.three F.three
  obtain ⟨n, hn⟩ := F.i _ h27a
  have hsq : ∃ w, w ≠ 0 ∧ w * w = (27 * a) * (27 * a) * ds a b c d := by
    rw [hD]
    by_cases hP0 : P = 0
    · rcases F.q Q hQ0 with ⟨y, hy⟩ | he
      · exact absurd (show y * y * y + P * y + Q = 0 by rw [hP0]; grind) (root y)
      · have hne : -(27 * Q * Q) ≠ 0 := fun z => by rw [z, F.e0] at he; cases he
        obtain ⟨w, hw⟩ := (F.s _ hne).mp he
        refine ⟨w, fun z => hne (by rw [← hw, z]; grind), ?_⟩
        rw [hw, hP0]
        grind
    · obtain ⟨k, hk⟩ := F.i P hP0
      obtain ⟨l, hl⟩ := F.i Q hQ0
      have ht0 : P * P * P * l * l ≠ 0 := by
        intro z
        have : P * P * P = 0 := by grind
        rcases F.z _ _ this with z | z
        · exact (F.z _ _ z).elim hP0 hP0
        · exact hP0 z
      rcases F.t _ ht0 with ⟨y, hy⟩ | he
      · refine absurd ?_ (root (Q * k * y))
        have h1 := hC1 (y := y) hk hl
        rw [hy] at h1
        exact hC2 (Q := Q) (l := l) hk (by rw [h1]; grind)
      · have hne : -(4 * (P * P * P * l * l) * (P * P * P * l * l) * (P * P * P * l * l)) - 27 * (P * P * P * l * l) * (P * P * P * l * l) ≠ 0 := fun z => by rw [z, F.e0] at he; cases he
        obtain ⟨w, hw⟩ := (F.s _ hne).mp he
        have hres : w * (Q * Q * Q * k * k * k) * (w * (Q * Q * Q * k * k * k)) = -(4 * P * P * P) - 27 * Q * Q := by
          have : w * (Q * Q * Q * k * k * k) * (w * (Q * Q * Q * k * k * k)) = (w * w) * ((Q * Q * Q * k * k * k) * (Q * Q * Q * k * k * k)) := by grind
          rw [this, hw]
          exact hC3 hk hl
        refine ⟨w * (Q * Q * Q * k * k * k), fun z => hne ?_, hres⟩
        have this := hC4 hk hl z
        rw [← hw, this]
        grind
  obtain ⟨w, hw0, hw⟩ := hsq
  have hds : ds a b c d ≠ 0 := by
    intro z
    rw [z] at hw
    have : w * w = 0 := by rw [hw]; grind
    exact (F.z _ _ this).elim hw0 hw0
  have hE : E (ds a b c d) = true := sq_of F hds ⟨w * n, hC6 hn hw⟩
  have hR0 : (R a b c d).length = 0 := len_R (L := []) List.nodup_nil fun x => ⟨fun h => absurd h (hr x), fun h => by cases h⟩
  rw [kP3 hds hE (by rw [hR0, e0]; decide), kL_of (L := []) List.nodup_nil (fun x => ⟨fun h => absurd h (hr x), fun h => by cases h⟩) 0 (by rw [e0]; rfl) False ⟨fun h => by
    rcases h with ⟨x, hx, _⟩ | h
    · cases hx
    · exact ha h.1, fun h => h.elim⟩]
  rfl
theorem kinds (F : Fld p E) {a b c d : Fin p} (hn : ¬ (a = 0 ∧ b = 0 ∧ c = 0 ∧ d = 0)) : kP E a b c d = kL a b c d := by
  by_cases ha : a = 0
  · subst ha
    exact caseA F fun h => hn ⟨rfl, h⟩
  · by_cases hr : ∃ r, ff a b c d r = 0
    · obtain ⟨r, hr⟩ := hr
      exact caseB F ha hr
    · exact caseC F ha fun x h => hr ⟨x, h⟩
end
end Stick
namespace Stick
section
variable {p : Nat} [NeZero p]
theorem fz {x : Fin p} : x = 0 ↔ x.val = 0 := by
  rw [Fin.ext_iff]
  rfl
theorem pl (hp : p ∈ PL) : 5 ≤ p ∧ p ≤ 499 ∧ p % 2 = 1 ∧ p % 3 ≠ 0 := by
  have : ∀ p ∈ PL, 5 ≤ p ∧ p ≤ 499 ∧ p % 2 = 1 ∧ p % 3 ≠ 0 := by decide
  exact this p hp
theorem small_ne {k : Nat} (h : 0 < k) (hk : k < p) : (OfNat.ofNat k : Fin p) ≠ 0 := by
  intro z
  have := fz.mp z
  rw [show (OfNat.ofNat k : Fin p).val = k % p from rfl, Nat.mod_eq_of_lt hk] at this
  omega
theorem fin_inv (hp : p ∈ PL) (x : Fin p) (hx : x ≠ 0) : ∃ m : Fin p, x * m = 1 := by
  have h5 := pl hp
  obtain ⟨m, hm, e⟩ := inv_tab p hp x.val (List.mem_range.mpr x.isLt) (fun z => hx (fz.mpr z))
  refine ⟨⟨m, List.mem_range.mp hm⟩, ?_⟩
  rw [Fin.ext_iff, Fin.val_mul]
  show x.val * m % p = 1 % p
  rw [e, Nat.mod_eq_of_lt (by omega)]
theorem fin_zero (hp : p ∈ PL) (x y : Fin p) (h : x * y = 0) : x = 0 ∨ y = 0 := by
  by_cases hx : x = 0
  · exact .inl hx
  · obtain ⟨m, hm⟩ := fin_inv hp x hx
    right
    have : y = (x * m) * y := by rw [hm]; grind
    rw [this]
    have : (x * m) * y = m * (x * y) := by grind
    rw [this, h]
    grind
def EF (p : Nat) (u : Fin p) : Bool := eul p u.val
theorem sq_fin (u : Fin p) : sq p u.val = true ↔ ∃ v : Fin p, v * v = u := by
  unfold sq
  rw [List.any_eq_true]
  constructor
  · rintro ⟨v, hv, e⟩
    refine ⟨⟨v, List.mem_range.mp hv⟩, ?_⟩
    rw [Fin.ext_iff, Fin.val_mul]
    exact eq_of_beq e
  · rintro ⟨v, rfl⟩
    refine ⟨v.val, List.mem_range.mpr v.isLt, ?_⟩
    rw [Fin.val_mul]
    exact beq_self_eq_true _
theorem rt_fin (u w : Fin p) (h : rt p u.val w.val = true) : ∃ x : Fin p, x * x * x + u * x + w = 0 := by
  unfold rt at h
  rw [List.any_eq_true] at h
  obtain ⟨x, hx, e⟩ := h
  refine ⟨⟨x, List.mem_range.mp hx⟩, fz.mpr ?_⟩
  have e := eq_of_beq e
  simp only [Fin.val_add, Fin.val_mul]
  rw [← e]
  simp only [Nat.add_mod, Nat.mul_mod, Nat.mod_mod]
theorem neg_val (k : Nat) : (((p - 1 : Nat) * k : Nat) + k) % p = 0 := by
  have hp : 0 < p := Nat.pos_of_ne_zero (NeZero.ne p)
  have : (p - 1) * k + k = p * k := by
    rw [← Nat.succ_mul, Nat.succ_eq_add_one]
    congr 1
    omega
  rw [this]
  exact Nat.mul_mod_right _ _
theorem ofNat_eq (k : Nat) : ((Fin.ofNat p k : Fin p)).val = k % p := rfl
theorem val_eq {x : Fin p} {n : Nat} (h : x = Fin.ofNat p n) : x.val = n % p := by rw [h]; rfl
theorem of_mul (m n : Nat) : (Fin.ofNat p (m * n) : Fin p) = Fin.ofNat p m * Fin.ofNat p n := by
  rw [Fin.ext_iff, Fin.val_mul]
  show m * n % p = (m % p) * (n % p) % p
  rw [← Nat.mul_mod]
theorem of_add (m n : Nat) : (Fin.ofNat p (m + n) : Fin p) = Fin.ofNat p m + Fin.ofNat p n := by
  rw [Fin.ext_iff, Fin.val_add]
  show (m + n) % p = ((m % p) + (n % p)) % p
  rw [← Nat.add_mod]
theorem of_val (x : Fin p) : (Fin.ofNat p x.val : Fin p) = x := by
  rw [Fin.ext_iff]
  exact Nat.mod_eq_of_lt x.isLt
theorem of_pred : (Fin.ofNat p (p - 1) : Fin p) = -1 := by
  have h : (Fin.ofNat p (p - 1) : Fin p) + 1 = 0 := by
    have hp : 0 < p := Nat.pos_of_ne_zero (NeZero.ne p)
    have : (1 : Fin p) = Fin.ofNat p 1 := rfl
    rw [this, ← of_add, show p - 1 + 1 = p by omega, Fin.ext_iff]
    show p % p = 0 % p
    rw [Nat.mod_self, Nat.zero_mod]
  have : (Fin.ofNat p (p - 1) : Fin p) = (Fin.ofNat p (p - 1) + 1) - 1 := by grind
  rw [this, h]
  grind
theorem fld (hp : p ∈ PL) : Fld p (EF p) where
  z := fin_zero hp
  i := fin_inv hp
  two := small_ne (k := 2) (by decide) (Nat.lt_of_lt_of_le (by decide) (pl hp).1)
  three := small_ne (k := 3) (by decide) (Nat.lt_of_lt_of_le (by decide) (pl hp).1)
  e0 := zero_tab p hp
  s := fun u hu => by
    have h := allS p hp
    unfold tS at h
    have := List.all_eq_true.mp h u.val (List.mem_range.mpr u.isLt)
    rw [Bool.or_eq_true] at this
    rcases this with g | g
    · exact absurd (fz.mpr (eq_of_beq g)) hu
    · have e : eul p u.val = sq p u.val := eq_of_beq g
      rw [show EF p u = eul p u.val from rfl, e]
      exact sq_fin u
  t := fun t ht => by
    have h := allT p hp
    unfold tT at h
    have := List.all_eq_true.mp h t.val (List.mem_range.mpr t.isLt)
    rw [Bool.or_eq_true, Bool.or_eq_true] at this
    rcases this with (g | g) | g
    · exact absurd (fz.mpr (eq_of_beq g)) ht
    · exact .inl (rt_fin t t g)
    · right
      have e : (-(4 * t * t * t) - 27 * t * t).val = (4 * (p - 1) * (t.val * t.val * t.val) + 27 * (p - 1) * (t.val * t.val)) % p := by
        refine val_eq ?_
        rw [of_add, of_mul, of_mul, of_mul, of_mul, of_mul, of_mul, of_mul, of_pred, of_val]
        show _ = (4 : Fin p) * -1 * (t * t * t) + (27 : Fin p) * -1 * (t * t)
        grind
      show eul p _ = true
      rw [e]
      exact g
  q := fun q hq => by
    have h := allQ p hp
    unfold tQ at h
    have := List.all_eq_true.mp h q.val (List.mem_range.mpr q.isLt)
    rw [Bool.or_eq_true, Bool.or_eq_true] at this
    rcases this with (g | g) | g
    · exact absurd (fz.mpr (eq_of_beq g)) hq
    · left
      obtain ⟨x, hx⟩ := rt_fin (0 : Fin p) q (by rw [show (0 : Fin p).val = 0 from rfl]; exact g)
      exact ⟨x, by grind⟩
    · right
      have e : (-(27 * q * q)).val = 27 * (p - 1) * (q.val * q.val) % p := by
        refine val_eq ?_
        rw [of_mul, of_mul, of_mul, of_pred, of_val]
        show _ = (27 : Fin p) * -1 * (q * q)
        grind
      show eul p _ = true
      rw [e]
      exact g
end
end Stick
namespace Stick
open MapM (f3 rootsG)
def ph (p : Nat) [NeZero p] (z : Int) : Fin p := Fin.ofNat p (z % (p : Int)).toNat
section
variable {p : Nat} [NeZero p]
theorem p0 : (p : Int) ≠ 0 := by
  have := NeZero.ne p
  omega
theorem ph_val (z : Int) : (((ph p z).val : Nat) : Int) = z % (p : Int) := by
  have hp : 0 < p := Nat.pos_of_ne_zero (NeZero.ne p)
  have h0 := Int.emod_nonneg z (p0 (p := p))
  have h1 := Int.emod_lt_of_pos z (show (0 : Int) < (p : Int) by omega)
  show ((((z % (p : Int)).toNat % p : Nat)) : Int) = _
  rw [Nat.mod_eq_of_lt (by omega)]
  omega
theorem ph_ext {x : Fin p} {z : Int} (h : ((x.val : Nat) : Int) % (p : Int) = z % (p : Int)) : x = ph p z := by
  rw [Fin.ext_iff]
  have := ph_val (p := p) z
  have hx := x.isLt
  have : ((x.val : Nat) : Int) % (p : Int) = (x.val : Int) := Int.emod_eq_of_lt (by omega) (by omega)
  omega
theorem ph_add (x y : Int) : ph p (x + y) = ph p x + ph p y := by
  symm
  apply ph_ext
  rw [Fin.val_add, Int.natCast_emod, Int.natCast_add, ph_val, ph_val, Int.emod_emod_of_dvd _ (Int.dvd_refl _), ← Int.add_emod]
theorem ph_mul (x y : Int) : ph p (x * y) = ph p x * ph p y := by
  symm
  apply ph_ext
  rw [Fin.val_mul, Int.natCast_emod, Int.natCast_mul, ph_val, ph_val, Int.emod_emod_of_dvd _ (Int.dvd_refl _), ← Int.mul_emod]
theorem ph_nat (k : Nat) : ph p (k : Int) = Fin.ofNat p k := by
  symm
  apply ph_ext
  show (((k % p : Nat)) : Int) % (p : Int) = _
  rw [Int.natCast_emod, Int.emod_emod_of_dvd _ (Int.dvd_refl _)]
theorem ph_neg (x : Int) : ph p (-x) = -ph p x := by
  have h : ph p (-x) + ph p x = 0 := by
    rw [← ph_add, show -x + x = ((0 : Nat) : Int) by omega, ph_nat]
    rfl
  have : ph p (-x) = (ph p (-x) + ph p x) - ph p x := by grind
  rw [this, h]
  grind
theorem ph_sub (x y : Int) : ph p (x - y) = ph p x - ph p y := by
  rw [Int.sub_eq_add_neg, ph_add, ph_neg]
  grind
theorem ph_zero {z : Int} : ph p z = 0 ↔ z % (p : Int) = 0 := by
  rw [fz]
  have := ph_val (p := p) z
  omega
theorem ph_of (k : Nat) : ph p (OfNat.ofNat k : Int) = Fin.ofNat p k := ph_nat k
theorem n2 : ph p 2 = 2 := ph_nat 2
theorem n3 : ph p 3 = 3 := ph_nat 3
theorem n4 : ph p 4 = 4 := ph_nat 4
theorem n9 : ph p 9 = 9 := ph_nat 9
theorem n18 : ph p 18 = 18 := ph_nat 18
theorem n27 : ph p 27 = 27 := ph_nat 27
theorem ph_f3 (a b c d x : Int) : ph p (f3 a b c d x) = ff (ph p a) (ph p b) (ph p c) (ph p d) (ph p x) := by
  unfold f3 ff
  simp only [ph_add, ph_mul]
def dI (a b c x : Int) : Int := 3 * a * x * x + 2 * b * x + c
theorem ph_dI (a b c x : Int) : ph p (dI a b c x) = dv (ph p a) (ph p b) (ph p c) (ph p x) := by
  unfold dI dv
  simp only [ph_add, ph_mul, n2, n3]
def discI (a b c d : Int) : Int := b * b * c * c - 4 * a * c * c * c - 4 * b * b * b * d - 27 * a * a * d * d + 18 * a * b * c * d
theorem ph_disc (a b c d : Int) : ph p (discI a b c d) = ds (ph p a) (ph p b) (ph p c) (ph p d) := by
  unfold discI ds
  simp only [ph_add, ph_sub, ph_mul, n4, n18, n27]
theorem ph_h0 (a b c d : Int) : ph p (b * b - 3 * a * c) = h0 (ph p a) (ph p b) (ph p c) (ph p d) := by
  unfold h0
  simp only [ph_sub, ph_mul, n3]
theorem ph_h1 (a b c d : Int) : ph p (b * c - 9 * a * d) = h1 (ph p a) (ph p b) (ph p c) (ph p d) := by
  unfold h1
  simp only [ph_sub, ph_mul, n9]
theorem ph_h2 (a b c d : Int) : ph p (c * c - 3 * b * d) = h2 (ph p a) (ph p b) (ph p c) (ph p d) := by
  unfold h2
  simp only [ph_sub, ph_mul, n3]
end
def rI (a b c d : Int) (p : Nat) : List Nat := (List.range p).filter fun (x : Nat) => decide (f3 a b c d x % (p : Int) = 0)
def kI (a b c d : Int) (p : Nat) : Nat := kG ((rI a b c d p).length + (if a % (p : Int) = 0 then 1 else 0)) ((∃ x ∈ rI a b c d p, dI a b c x % (p : Int) = 0) ∨ (a % (p : Int) = 0 ∧ b % (p : Int) = 0))
def kJ (a b c d : Int) (p : Nat) : Nat := if discI a b c d % (p : Int) = 0 then (if (b * b - 3 * a * c) % (p : Int) ≠ 0 ∨ (b * c - 9 * a * d) % (p : Int) ≠ 0 ∨ (c * c - 3 * b * d) % (p : Int) ≠ 0 then 3 else 4) else if eul p (discI a b c d % (p : Int)).toNat = false then 1 else if 0 < (rI a b c d p).length + (if a % (p : Int) = 0 then 1 else 0) then 2 else 0
theorem roots_len (a b c d : Int) (p : Nat) : (rootsG a b c d p).length = (rI a b c d p).length + (if a % (p : Int) = 0 then 1 else 0) := by
  unfold rootsG rI
  rw [List.length_append, List.length_map]
  split <;> rfl
section
variable {p : Nat} [NeZero p]
theorem R_len (a b c d : Int) : (R (ph p a) (ph p b) (ph p c) (ph p d)).length = (rI a b c d p).length := by
  have hp : 0 < p := Nat.pos_of_ne_zero (NeZero.ne p)
  have e : (rI a b c d p).length = ((rI a b c d p).map fun x => Fin.ofNat p x).length := by rw [List.length_map]
  rw [e]
  have hlt : ∀ x ∈ rI a b c d p, x < p := fun x hx => List.mem_range.mp (List.mem_filter.mp hx).1
  refine len_R ?_ fun x => ?_
  · rw [List.Nodup, List.pairwise_map]
    refine List.Pairwise.imp_of_mem ?_ ((List.nodup_range (n := p)).filter _)
    intro x y hx hy ne e
    rw [Fin.ext_iff] at e
    have e : x % p = y % p := e
    rw [Nat.mod_eq_of_lt (hlt x hx), Nat.mod_eq_of_lt (hlt y hy)] at e
    exact ne e
  · rw [List.mem_map]
    have hx : x = ph p (x.val : Int) := by rw [ph_nat, of_val]
    constructor
    · intro h
      refine ⟨x.val, ?_, of_val x⟩
      unfold rI
      rw [List.mem_filter, List.mem_range, decide_eq_true_iff]
      refine ⟨x.isLt, ?_⟩
      rw [hx, ← ph_f3, ph_zero] at h
      exact h
    · rintro ⟨y, hy, rfl⟩
      unfold rI at hy
      rw [List.mem_filter, decide_eq_true_iff] at hy
      rw [← ph_nat, ← ph_f3, ph_zero]
      exact hy.2
theorem kL_eq (a b c d : Int) : kL (ph p a) (ph p b) (ph p c) (ph p d) = kI a b c d p := by
  unfold kL kI
  have e0 : (if ph p a = 0 then 1 else 0) = (if a % (p : Int) = 0 then 1 else 0) := by
    by_cases h : a % (p : Int) = 0
    · rw [if_pos h, if_pos (ph_zero.mpr h)]
    · rw [if_neg h, if_neg fun z => h (ph_zero.mp z)]
  rw [R_len, e0]
  refine kG_iff ?_
  rw [ph_zero, ph_zero]
  refine or_congr ?_ Iff.rfl
  constructor
  · rintro ⟨x, hx, hd⟩
    have hx' : x = ph p (x.val : Int) := by rw [ph_nat, of_val]
    rw [mem_R, hx', ← ph_f3, ph_zero] at hx
    rw [hx', ← ph_dI, ph_zero] at hd
    refine ⟨x.val, ?_, hd⟩
    unfold rI
    rw [List.mem_filter, List.mem_range, decide_eq_true_iff]
    exact ⟨x.isLt, hx⟩
  · rintro ⟨y, hy, hd⟩
    unfold rI at hy
    rw [List.mem_filter, decide_eq_true_iff] at hy
    refine ⟨ph p (y : Int), ?_, ?_⟩
    · rw [mem_R, ← ph_f3, ph_zero]
      exact hy.2
    · rw [← ph_dI, ph_zero]
      exact hd
theorem kP_eq (a b c d : Int) : kP (EF p) (ph p a) (ph p b) (ph p c) (ph p d) = kJ a b c d p := by
  unfold kP kJ
  have e0 : (if ph p a = 0 then 1 else 0) = (if a % (p : Int) = 0 then 1 else 0) := by
    by_cases h : a % (p : Int) = 0
    · rw [if_pos h, if_pos (ph_zero.mpr h)]
    · rw [if_neg h, if_neg fun z => h (ph_zero.mp z)]
  have eE : EF p (ds (ph p a) (ph p b) (ph p c) (ph p d)) = eul p (discI a b c d % (p : Int)).toNat := by
    unfold EF
    rw [← ph_disc]
    have := ph_val (p := p) (discI a b c d)
    congr 1
    omega
  rw [R_len, e0, eE, ← ph_disc, ← ph_h0, ← ph_h1, ← ph_h2]
  simp only [ph_zero, ne_eq]
end
theorem kJ_eq {p : Nat} (hp : p ∈ PL) {a b c d : Int} (hn : ¬ (a % (p : Int) = 0 ∧ b % (p : Int) = 0 ∧ c % (p : Int) = 0 ∧ d % (p : Int) = 0)) : kJ a b c d p = kI a b c d p := by
  have inst : NeZero p := ⟨fun z => by subst z; exact absurd hp (by decide)⟩
  rw [← kP_eq (p := p), ← kL_eq (p := p)]
  exact kinds (fld hp) fun ⟨h1, h2, h3, h4⟩ => hn ⟨ph_zero.mp h1, ph_zero.mp h2, ph_zero.mp h3, ph_zero.mp h4⟩
end Stick
namespace Stick
open MapM (f3)
def kN (p : Nat) (row : List Nat) : Nat := match KindM.go p (KindM.sorted p row) row with
  | none => 9
  | some rest => if 1 < rest.length then (if (KindM.sorted p row).length = 0 then 0 else 1) else (match (KindM.sorted p row).length with
    | 1 => 4
    | 2 => 3
    | 3 => 2
    | _ => 9)
def al4 (p : Nat) (P : Nat → Nat → Nat → Nat → Bool) : Bool := (List.range p).all fun a => (List.range p).all fun b => (List.range p).all fun c => (List.range p).all fun d => P a b c d
theorem al4_ap {p : Nat} {P : Nat → Nat → Nat → Nat → Bool} (h : al4 p P = true) {a b c d : Nat} (ha : a < p) (hb : b < p) (hc : c < p) (hd : d < p) : P a b c d = true := by
  unfold al4 at h
  have h := List.all_eq_true.mp h a (List.mem_range.mpr ha)
  have h := List.all_eq_true.mp h b (List.mem_range.mpr hb)
  have h := List.all_eq_true.mp h c (List.mem_range.mpr hc)
  exact List.all_eq_true.mp h d (List.mem_range.mpr hd)
def rM (a b c d p : Nat) : List Nat := (List.range p).filter fun x => (((a * x + b) * x + c) * x + d) % p == 0
def kM (a b c d p : Nat) : Nat := let l := rM a b c d p
  let n := l.length + (if a == 0 then 1 else 0)
  if n == 0 then 0 else if (l.any fun x => (3 * a * x * x + 2 * b * x + c) % p == 0) || (a == 0 && b == 0) then (if n == 2 then 3 else 4) else (if n == 3 then 2 else 1)
def z4 (a b c d : Nat) : Bool := a == 0 && b == 0 && c == 0 && d == 0
theorem kN2 : al4 2 (fun a b c d => z4 a b c d || kN 2 [a, b, c, d] == kM a b c d 2) = true := by decide +kernel
theorem kN3 : al4 3 (fun a b c d => z4 a b c d || kN 3 [a, b, c, d] == kM a b c d 3) = true := by decide +kernel
def dM (a b c d p : Nat) : Nat := (b * b * c * c + 4 * (p - 1) * (a * c * c * c) + 4 * (p - 1) * (b * b * b * d) + 27 * (p - 1) * (a * a * d * d) + 18 * (a * b * c * d)) % p
theorem d2 : al4 2 (fun a b c d => (dM a b c d 2 == 0) == (z4 a b c d || decide (3 ≤ kM a b c d 2))) = true := by decide +kernel
theorem d3 : al4 3 (fun a b c d => (dM a b c d 3 == 0) == (z4 a b c d || decide (3 ≤ kM a b c d 3))) = true := by decide +kernel
def ledM (p a b c d i j k m : Nat) : List Nat :=
  [(a * i * i * i + b * i * i * j + c * i * j * j + d * j * j * j) % p,
   (3 * a * i * i * k + b * i * (i * m + 2 * j * k) + c * j * (2 * i * m + j * k) + 3 * d * j * j * m) % p,
   (3 * a * i * k * k + b * k * (2 * i * m + j * k) + c * m * (i * m + 2 * j * k) + 3 * d * j * m * m) % p,
   (a * k * k * k + b * k * k * m + c * k * m * m + d * m * m * m) % p]
def sM (p e : Nat) (l : List Nat) : Nat := match l with
  | [a, b, c, d] => if z4 a b c d then 5 else kM (e * a % p) (e * b % p) (e * c % p) (e * d % p) p
  | _ => 9
def oM (p a b c d : Nat) : Nat := if z4 a b c d then 5 else kM a b c d p
theorem l2 : al4 2 (fun a b c d => al4 2 fun i j k m => ((i * m + j * k) % 2 == 0) || sM 2 1 (ledM 2 a b c d i j k m) == oM 2 a b c d) = true := by decide +kernel
theorem l3 : al4 3 (fun a b c d => al4 3 fun i j k m => ((i * m + 2 * (j * k)) % 3 == 0) || (sM 3 1 (ledM 3 a b c d i j k m) == oM 3 a b c d && sM 3 2 (ledM 3 a b c d i j k m) == oM 3 a b c d)) = true := by decide +kernel
def cM (a b c d p : Nat) : Nat × Nat := (List.range p).foldl (fun r x => (List.range p).foldl (fun r y => (List.range p).foldl (fun (r : Nat × Nat) u =>
  let s0 := (u * u + (p - 1) * (a * c * x * x) + 2 * (p - 1) * (a * d * x * y) + (p - 1) * (b * d * y * y)) % p
  let s1 := (2 * u * x + (b * x * x + d * y * y)) % p
  let s2 := (2 * u * y + (p - 1) * (a * x * x + c * y * y)) % p
  (r.1 + (if s0 == u && s1 == x && s2 == y then 1 else 0), r.2 + (if s0 == 0 && s1 == 0 && s2 == 0 then 1 else 0))) r) r) (0, 0)
def sz (p k : Nat) : Nat × Nat := match k with
  | 0 => (2, 1)
  | 1 => (4, 1)
  | 2 => (8, 1)
  | 3 => (4, p)
  | 4 => (2, p)
  | _ => (2, p * p)
theorem c2 : al4 2 (fun a b c d => cM a b c d 2 == sz 2 (oM 2 a b c d)) = true := by decide +kernel
theorem c3 : al4 3 (fun a b c d => cM a b c d 3 == sz 3 (oM 3 a b c d)) = true := by decide +kernel
theorem c5 : al4 5 (fun a b c d => cM a b c d 5 == sz 5 (oM 5 a b c d)) = true := by decide +kernel
end Stick
set_option Elab.async false
set_option linter.all false
namespace K06M
open K05M
def h0 (a b c d : Int) : Int := b * b - 3 * a * c
def h1 (a b c d : Int) : Int := b * c - 9 * a * d
def h2 (a b c d : Int) : Int := c * c - 3 * b * d
def g0 (a b c d : Int) : Int := 2 * b * b * b - 9 * a * b * c + 27 * a * a * d
def g1 (a b c d : Int) : Int := 3 * b * b * c - 18 * a * c * c + 27 * a * b * d
def g2 (a b c d : Int) : Int := -3 * b * c * c + 18 * b * b * d - 27 * a * c * d
def g3 (a b c d : Int) : Int := -2 * c * c * c + 9 * b * c * d - 27 * a * d * d
def dv (a b c x y : Int) : Int := a * x * x + b * x * y + c * y * y
def ddisc (a b c : Int) : Int := b * b - 4 * a * c
def dl (a b c p q r s : Int) : Int := 2 * a * p * r + b * (p * s + q * r) + 2 * c * q * s
theorem hdisc (a b c d : Int) : ddisc (h0 a b c d) (h1 a b c d) (h2 a b c d) = -3 * fdisc a b c d := by
  unfold ddisc h0 h1 h2 fdisc; grind
theorem gh0 (a b c d : Int) : h0 (g0 a b c d) (g1 a b c d) (g2 a b c d) (g3 a b c d) = 27 * fdisc a b c d * h0 a b c d := by
  unfold h0 g0 g1 g2 fdisc; grind
theorem gh1 (a b c d : Int) : h1 (g0 a b c d) (g1 a b c d) (g2 a b c d) (g3 a b c d) = 27 * fdisc a b c d * h1 a b c d := by
  unfold h1 g0 g1 g2 g3 fdisc; grind
theorem gh2 (a b c d : Int) : h2 (g0 a b c d) (g1 a b c d) (g2 a b c d) (g3 a b c d) = 27 * fdisc a b c d * h2 a b c d := by
  unfold h2 g1 g2 g3 fdisc; grind
theorem led0 (a b c d p q r s : Int) : h0 (fv a b c d p q) (fl2 a b c d p q r s) (fl3 a b c d p q r s) (fv a b c d r s) = (p * s - q * r) * (p * s - q * r) * dv (h0 a b c d) (h1 a b c d) (h2 a b c d) p q := by
  unfold h0 h1 h2 fv fl2 fl3 dv; grind
theorem led1 (a b c d p q r s : Int) : h1 (fv a b c d p q) (fl2 a b c d p q r s) (fl3 a b c d p q r s) (fv a b c d r s) = (p * s - q * r) * (p * s - q * r) * dl (h0 a b c d) (h1 a b c d) (h2 a b c d) p q r s := by
  unfold h0 h1 h2 fv fl2 fl3 dl; grind
theorem led2 (a b c d p q r s : Int) : h2 (fv a b c d p q) (fl2 a b c d p q r s) (fl3 a b c d p q r s) (fv a b c d r s) = (p * s - q * r) * (p * s - q * r) * dv (h0 a b c d) (h1 a b c d) (h2 a b c d) r s := by
  unfold h0 h1 h2 fv fl2 fl3 dv; grind
theorem syz (a b c d x y : Int) : 4 * dv (h0 a b c d) (h1 a b c d) (h2 a b c d) x y * dv (h0 a b c d) (h1 a b c d) (h2 a b c d) x y * dv (h0 a b c d) (h1 a b c d) (h2 a b c d) x y = fv (g0 a b c d) (g1 a b c d) (g2 a b c d) (g3 a b c d) x y * fv (g0 a b c d) (g1 a b c d) (g2 a b c d) (g3 a b c d) x y + 27 * fdisc a b c d * fv a b c d x y * fv a b c d x y := by
  unfold dv h0 h1 h2 g0 g1 g2 g3 fdisc fv; grind
theorem gdisc (a b c d : Int) : fdisc (g0 a b c d) (g1 a b c d) (g2 a b c d) (g3 a b c d) = 729 * fdisc a b c d * fdisc a b c d * fdisc a b c d := by
  unfold g0 g1 g2 g3 fdisc; grind
theorem gled0 (a b c d p q r s : Int) : g0 (fv a b c d p q) (fl2 a b c d p q r s) (fl3 a b c d p q r s) (fv a b c d r s) = (p * s - q * r) * (p * s - q * r) * (p * s - q * r) * fv (g0 a b c d) (g1 a b c d) (g2 a b c d) (g3 a b c d) p q := by
  unfold g0 g1 g2 g3 fv fl2 fl3; grind
theorem gled1 (a b c d p q r s : Int) : g1 (fv a b c d p q) (fl2 a b c d p q r s) (fl3 a b c d p q r s) (fv a b c d r s) = (p * s - q * r) * (p * s - q * r) * (p * s - q * r) * fl2 (g0 a b c d) (g1 a b c d) (g2 a b c d) (g3 a b c d) p q r s := by
  unfold g0 g1 g2 g3 fv fl2 fl3; grind
theorem gled2 (a b c d p q r s : Int) : g2 (fv a b c d p q) (fl2 a b c d p q r s) (fl3 a b c d p q r s) (fv a b c d r s) = (p * s - q * r) * (p * s - q * r) * (p * s - q * r) * fl3 (g0 a b c d) (g1 a b c d) (g2 a b c d) (g3 a b c d) p q r s := by
  unfold g0 g1 g2 g3 fv fl2 fl3; grind
theorem gled3 (a b c d p q r s : Int) : g3 (fv a b c d p q) (fl2 a b c d p q r s) (fl3 a b c d p q r s) (fv a b c d r s) = (p * s - q * r) * (p * s - q * r) * (p * s - q * r) * fv (g0 a b c d) (g1 a b c d) (g2 a b c d) (g3 a b c d) r s := by
  unfold g0 g1 g2 g3 fv fl2 fl3; grind
theorem h_mul (e a b c d : Int) : h0 (e * a) (e * b) (e * c) (e * d) = e * e * h0 a b c d ∧ h1 (e * a) (e * b) (e * c) (e * d) = e * e * h1 a b c d ∧ h2 (e * a) (e * b) (e * c) (e * d) = e * e * h2 a b c d := by
  unfold h0 h1 h2
  refine ⟨?_, ?_, ?_⟩ <;> grind
theorem g_mul (e a b c d : Int) : g0 (e * a) (e * b) (e * c) (e * d) = e * e * e * g0 a b c d ∧ g1 (e * a) (e * b) (e * c) (e * d) = e * e * e * g1 a b c d ∧ g2 (e * a) (e * b) (e * c) (e * d) = e * e * e * g2 a b c d ∧ g3 (e * a) (e * b) (e * c) (e * d) = e * e * e * g3 a b c d := by
  unfold g0 g1 g2 g3
  refine ⟨?_, ?_, ?_, ?_⟩ <;> grind
end K06M
namespace Stick
open MapM (f3)
open K05M (fv fl2 fl3 fdisc)
def nr (p : Nat) (z : Int) : Nat := (z % (p : Int)).toNat
section
variable {p : Nat} [NeZero p]
theorem nr_val (z : Int) : nr p z = (ph p z).val := by
  have := ph_val (p := p) z
  unfold nr
  omega
theorem nr_lt (z : Int) : nr p z < p := by rw [nr_val]; exact (ph p z).isLt
theorem nr_ph (z : Int) : ph p ((nr p z : Nat) : Int) = ph p z := by
  rw [nr_val, ph_nat, of_val]
theorem nr_zero {z : Int} : nr p z = 0 ↔ z % (p : Int) = 0 := by
  rw [nr_val, ← fz, ph_zero]
theorem ph_natmod (k : Nat) : k % p = (ph p (k : Int)).val := by rw [ph_nat]; rfl
theorem same {k : Nat} {z : Int} (h : ph p (k : Int) = ph p z) : k % p = nr p z := by
  rw [ph_natmod, nr_val, h]
theorem same0 {k : Nat} {z : Int} (h : ph p (k : Int) = ph p z) : k % p = 0 ↔ z % (p : Int) = 0 := by
  rw [same h, nr_zero]
theorem ph_pred : ph p ((p - 1 : Nat) : Int) = ph p (-1) := by
  rw [ph_nat, of_pred, ph_neg, show ph p 1 = 1 from ph_nat 1]
end
section
variable {p : Nat} [NeZero p]
theorem f3_nr (a b c d : Int) (x : Nat) : (((nr p a * x + nr p b) * x + nr p c) * x + nr p d) % p = 0 ↔ f3 a b c d x % (p : Int) = 0 := by
  refine same0 ?_
  unfold f3
  simp only [Int.natCast_add, Int.natCast_mul, ph_add, ph_mul, ph_sub, ph_neg, nr_ph, ph_pred]
theorem dI_nr (a b c : Int) (x : Nat) : (3 * nr p a * x * x + 2 * nr p b * x + nr p c) % p = 0 ↔ dI a b c x % (p : Int) = 0 := by
  refine same0 ?_
  unfold dI
  simp only [Int.natCast_add, Int.natCast_mul, ph_add, ph_mul, ph_sub, ph_neg, nr_ph, ph_pred]
  rfl
theorem rM_eq (a b c d : Int) : rM (nr p a) (nr p b) (nr p c) (nr p d) p = rI a b c d p := by
  unfold rM rI
  refine List.filter_congr fun x _ => ?_
  rw [Bool.eq_iff_iff, beq_iff_eq, decide_eq_true_iff]
  exact f3_nr a b c d x
theorem kM_eq (a b c d : Int) : kM (nr p a) (nr p b) (nr p c) (nr p d) p = kI a b c d p := by
  unfold kM kI kG
  rw [rM_eq]
  have e0 : (if (nr p a == 0) = true then 1 else 0) = (if a % (p : Int) = 0 then 1 else 0) := by
    by_cases h : a % (p : Int) = 0
    · rw [if_pos h, if_pos (by rw [beq_iff_eq]; exact nr_zero.mpr h)]
    · rw [if_neg h, if_neg (by rw [beq_iff_eq]; exact fun z => h (nr_zero.mp z))]
  have em : (((rI a b c d p).any fun x => (3 * nr p a * x * x + 2 * nr p b * x + nr p c) % p == 0) || (nr p a == 0 && nr p b == 0)) = true ↔ ((∃ x ∈ rI a b c d p, dI a b c x % (p : Int) = 0) ∨ (a % (p : Int) = 0 ∧ b % (p : Int) = 0)) := by
    rw [Bool.or_eq_true, Bool.and_eq_true, beq_iff_eq, beq_iff_eq, nr_zero, nr_zero, List.any_eq_true]
    refine or_congr ?_ Iff.rfl
    simp only [beq_iff_eq, dI_nr]
  rw [← e0]
  simp only [em, beq_iff_eq]
theorem nr_nr (z : Int) : nr p ((nr p z : Nat) : Int) = nr p z := by
  rw [nr_val, nr_ph, nr_val]
theorem nr_emod (z : Int) : nr p (z % (p : Int)) = nr p z := by
  unfold nr
  rw [Int.emod_emod_of_dvd _ (Int.dvd_refl _)]
theorem kI_red (a b c d : Int) : kI (a % (p : Int)) (b % (p : Int)) (c % (p : Int)) (d % (p : Int)) p = kI a b c d p := by
  rw [← kM_eq, ← kM_eq, nr_emod, nr_emod, nr_emod, nr_emod]
def kn (a b c d : Int) (p : Nat) : Nat := if a % (p : Int) = 0 ∧ b % (p : Int) = 0 ∧ c % (p : Int) = 0 ∧ d % (p : Int) = 0 then 5 else kI a b c d p
theorem kn_oM (a b c d : Int) : oM p (nr p a) (nr p b) (nr p c) (nr p d) = kn a b c d p := by
  unfold oM kn z4
  rw [kM_eq]
  simp only [Bool.and_eq_true, beq_iff_eq, nr_zero, and_assoc]
theorem kn_red (a b c d : Int) : kn (a % (p : Int)) (b % (p : Int)) (c % (p : Int)) (d % (p : Int)) p = kn a b c d p := by
  rw [← kn_oM, ← kn_oM, nr_emod, nr_emod, nr_emod, nr_emod]
theorem dM_eq (a b c d : Int) : dM (nr p a) (nr p b) (nr p c) (nr p d) p = nr p (discI a b c d) := by
  unfold dM
  refine same ?_
  unfold discI
  simp only [Int.natCast_add, Int.natCast_mul, ph_add, ph_mul, ph_sub, ph_neg, nr_ph, ph_pred]
  have e : ph p (-1) = -1 := by rw [ph_neg, show ph p 1 = 1 from ph_nat 1]
  have e4 : ph p ((4 : Nat) : Int) = ph p 4 := rfl
  have e27 : ph p ((27 : Nat) : Int) = ph p 27 := rfl
  have e18 : ph p ((18 : Nat) : Int) = ph p 18 := rfl
  rw [e4, e27, e18, show ph p 1 = 1 from ph_nat 1]
  grind
end
theorem disc_kn {p : Nat} (hp : p = 2 ∨ p = 3 ∨ p ∈ PL) (a b c d : Int) : discI a b c d % (p : Int) = 0 ↔ 3 ≤ kn a b c d p := by
  have inst : NeZero p := ⟨fun z => by subst z; exact absurd hp (by decide)⟩
  rcases hp with rfl | rfl | hp
  · have h := al4_ap d2 (nr_lt (p := 2) a) (nr_lt (p := 2) b) (nr_lt (p := 2) c) (nr_lt (p := 2) d)
    rw [beq_iff_eq, Bool.eq_iff_iff, dM_eq, beq_iff_eq, nr_zero] at h
    rw [h, ← kn_oM]
    unfold oM
    by_cases z : z4 (nr 2 a) (nr 2 b) (nr 2 c) (nr 2 d) = true
    · rw [z, if_pos rfl]; exact ⟨fun _ => by omega, fun _ => rfl⟩
    · rw [if_neg z, Bool.or_eq_true, decide_eq_true_iff]
      exact ⟨fun h => h.resolve_left z, fun h => .inr h⟩
  · have h := al4_ap d3 (nr_lt (p := 3) a) (nr_lt (p := 3) b) (nr_lt (p := 3) c) (nr_lt (p := 3) d)
    rw [beq_iff_eq, Bool.eq_iff_iff, dM_eq, beq_iff_eq, nr_zero] at h
    rw [h, ← kn_oM]
    unfold oM
    by_cases z : z4 (nr 3 a) (nr 3 b) (nr 3 c) (nr 3 d) = true
    · rw [z, if_pos rfl]; exact ⟨fun _ => by omega, fun _ => rfl⟩
    · rw [if_neg z, Bool.or_eq_true, decide_eq_true_iff]
      exact ⟨fun h => h.resolve_left z, fun h => .inr h⟩
  · unfold kn
    by_cases z : a % (p : Int) = 0 ∧ b % (p : Int) = 0 ∧ c % (p : Int) = 0 ∧ d % (p : Int) = 0
    · rw [if_pos z]
      refine ⟨fun _ => by omega, fun _ => ?_⟩
      obtain ⟨z1, z2, z3, z4⟩ := z
      rw [← ph_zero] at *
      rw [ph_disc, z1, z2, z3, z4]
      unfold ds
      grind
    · rw [if_neg z, ← kJ_eq hp z]
      unfold kJ
      by_cases h : discI a b c d % (p : Int) = 0
      · rw [if_pos h]
        refine ⟨fun _ => ?_, fun _ => h⟩
        split <;> omega
      · rw [if_neg h]
        refine ⟨fun z => absurd z h, fun z => ?_⟩
        exfalso
        by_cases g : eul p (discI a b c d % (p : Int)).toNat = false
        · rw [if_pos g] at z; omega
        · rw [if_neg g] at z
          by_cases g2 : 0 < (rI a b c d p).length + (if a % (p : Int) = 0 then 1 else 0)
          · rw [if_pos g2] at z; omega
          · rw [if_neg g2] at z; omega
theorem kN_kn {p : Nat} (hp : p = 2 ∨ p = 3) {a b c d : Nat} (ha : a < p) (hb : b < p) (hc : c < p) (hd : d < p) (h0 : ¬ (a = 0 ∧ b = 0 ∧ c = 0 ∧ d = 0)) : kN p [a, b, c, d] = kn a b c d p := by
  have inst : NeZero p := ⟨fun z => by subst z; exact absurd hp (by decide)⟩
  have e : ∀ x : Nat, x < p → nr p (x : Int) = x := fun x hx => by
    unfold nr
    rw [Int.emod_eq_of_lt (by omega) (by omega)]
    rfl
  rw [← kn_oM, e a ha, e b hb, e c hc, e d hd]
  unfold oM
  have hz : z4 a b c d ≠ true := by
    unfold z4
    simp only [Bool.and_eq_true, beq_iff_eq, ne_eq]
    exact fun h => h0 ⟨h.1.1.1, h.1.1.2, h.1.2, h.2⟩
  rw [if_neg hz]
  rcases hp with rfl | rfl
  · have h := al4_ap kN2 ha hb hc hd
    rw [Bool.or_eq_true] at h
    exact beq_iff_eq.mp (h.resolve_left hz)
  · have h := al4_ap kN3 ha hb hc hd
    rw [Bool.or_eq_true] at h
    exact beq_iff_eq.mp (h.resolve_left hz)
theorem cM_kn {p : Nat} (hp : p = 2 ∨ p = 3 ∨ p = 5) (a b c d : Int) : cM (nr p a) (nr p b) (nr p c) (nr p d) p = sz p (kn a b c d p) := by
  have inst : NeZero p := ⟨fun z => by subst z; exact absurd hp (by decide)⟩
  rw [← kn_oM]
  rcases hp with rfl | rfl | rfl
  · exact beq_iff_eq.mp (al4_ap c2 (nr_lt (p := 2) a) (nr_lt (p := 2) b) (nr_lt (p := 2) c) (nr_lt (p := 2) d))
  · exact beq_iff_eq.mp (al4_ap c3 (nr_lt (p := 3) a) (nr_lt (p := 3) b) (nr_lt (p := 3) c) (nr_lt (p := 3) d))
  · exact beq_iff_eq.mp (al4_ap c5 (nr_lt (p := 5) a) (nr_lt (p := 5) b) (nr_lt (p := 5) c) (nr_lt (p := 5) d))
def fnd (a b c d : Int) (p : Nat) : List Int := (rI a b c d p).map (fun x : Nat => if dI a b c x % (p : Int) = 0 then (2 : Int) else 1) ++ (if a % (p : Int) = 0 then [if b % (p : Int) = 0 then (2 : Int) else 1] else [])
theorem fnd_len (a b c d : Int) (p : Nat) : (fnd a b c d p).length = (rI a b c d p).length + (if a % (p : Int) = 0 then 1 else 0) := by
  unfold fnd
  rw [List.length_append, List.length_map]
  split <;> rfl
theorem fnd_mem {a b c d : Int} {p : Nat} {z : Int} (h : z ∈ fnd a b c d p) : z = 1 ∨ z = 2 := by
  unfold fnd at h
  rcases List.mem_append.mp h with h | h
  · obtain ⟨x, _, rfl⟩ := List.mem_map.mp h
    split
    · exact .inr rfl
    · exact .inl rfl
  · split at h
    · rw [List.mem_singleton] at h
      subst h
      split
      · exact .inr rfl
      · exact .inl rfl
    · cases h
theorem fnd_two {a b c d : Int} {p : Nat} : (2 : Int) ∈ fnd a b c d p ↔ ((∃ x ∈ rI a b c d p, dI a b c x % (p : Int) = 0) ∨ (a % (p : Int) = 0 ∧ b % (p : Int) = 0)) := by
  unfold fnd
  rw [List.mem_append, List.mem_map]
  refine or_congr ⟨?_, ?_⟩ ⟨?_, ?_⟩
  · rintro ⟨x, hx, e⟩
    refine ⟨x, hx, ?_⟩
    split at e
    · assumption
    · cases e
  · rintro ⟨x, hx, e⟩
    exact ⟨x, hx, if_pos e⟩
  · intro h
    split at h
    · rw [List.mem_singleton] at h
      split at h
      · exact ⟨by assumption, by assumption⟩
      · cases h
    · cases h
  · rintro ⟨h1, h2⟩
    rw [if_pos h1, if_pos h2]
    exact List.mem_singleton.mpr rfl
theorem kI_fnd (a b c d : Int) (p : Nat) : kI a b c d p = if (fnd a b c d p).length = 0 then 0 else if (2 : Int) ∈ fnd a b c d p then (if (fnd a b c d p).length = 2 then 3 else 4) else (if (fnd a b c d p).length = 3 then 2 else 1) := by
  unfold kI kG
  rw [fnd_len]
  simp only [fnd_two]
end Stick
namespace Stick
open MapM (f3 Inv1 pdvd)
open K05M (fv fl2 fl3 fdisc)
def PR (P a b c d : Int) : Prop := ∃ x y : Int, P ∣ fv a b c d x y ∧ ¬ (P ∣ x ∧ P ∣ y)
theorem led_back {e a b c d p q r s : Int} (he : e = p * s - q * r) (h1 : e = 1 ∨ e = -1) :
    e * fv (e * fv a b c d p q) (e * fl2 a b c d p q r s) (e * fl3 a b c d p q r s) (e * fv a b c d r s) (e * s) (-e * q) = a ∧
    e * fl2 (e * fv a b c d p q) (e * fl2 a b c d p q r s) (e * fl3 a b c d p q r s) (e * fv a b c d r s) (e * s) (-e * q) (-e * r) (e * p) = b ∧
    e * fl3 (e * fv a b c d p q) (e * fl2 a b c d p q r s) (e * fl3 a b c d p q r s) (e * fv a b c d r s) (e * s) (-e * q) (-e * r) (e * p) = c ∧
    e * fv (e * fv a b c d p q) (e * fl2 a b c d p q r s) (e * fl3 a b c d p q r s) (e * fv a b c d r s) (-e * r) (e * p) = d := by
  have ee : e * e = 1 := by rcases h1 with rfl | rfl <;> decide
  obtain ⟨u1, u2, u3, u4⟩ := K05M.und p q r s e he h1
  obtain ⟨o1, o2, o3, o4⟩ := K05M.fv_one a b c d
  have k : ∀ z : Int, e * (e * z) = z := fun z => by rw [← Int.mul_assoc, ee, Int.one_mul]
  refine ⟨?_, ?_, ?_, ?_⟩
  · rw [K05M.fv_mul, K05M.put1, u1, u2, o1, k]
  · rw [K05M.fl2_mul, K05M.put2, u1, u2, u3, u4, o3, k]
  · rw [K05M.fl3_mul, K05M.put3, u1, u2, u3, u4, o4, k]
  · rw [K05M.fv_mul, K05M.put1, u3, u4, o2, k]
theorem led_both {Q : Int → Int → Int → Int → Prop} (h : ∀ e a b c d p q r s : Int, e = p * s - q * r → (e = 1 ∨ e = -1) → Q a b c d → Q (e * fv a b c d p q) (e * fl2 a b c d p q r s) (e * fl3 a b c d p q r s) (e * fv a b c d r s))
    {e a b c d p q r s : Int} (he : e = p * s - q * r) (h1 : e = 1 ∨ e = -1) : Q (e * fv a b c d p q) (e * fl2 a b c d p q r s) (e * fl3 a b c d p q r s) (e * fv a b c d r s) ↔ Q a b c d := by
  refine ⟨fun g => ?_, h e a b c d p q r s he h1⟩
  have ee : e * e = 1 := by rcases h1 with rfl | rfl <;> decide
  have g' := h e _ _ _ _ (e * s) (-e * q) (-e * r) (e * p) (by
    have : (e * s) * (e * p) - (-e * q) * (-e * r) = e * e * (p * s - q * r) := by grind
    rw [this, ee, ← he, Int.one_mul]) h1 g
  obtain ⟨b1, b2, b3, b4⟩ := led_back (a := a) (b := b) (c := c) (d := d) he h1
  rw [b1, b2, b3, b4] at g'
  exact g'
def Z4 (P a b c d : Int) : Prop := a % P = 0 ∧ b % P = 0 ∧ c % P = 0 ∧ d % P = 0
def ZH (P a b c d : Int) : Prop := (b * b - 3 * a * c) % P = 0 ∧ (b * c - 9 * a * d) % P = 0 ∧ (c * c - 3 * b * d) % P = 0
theorem md {P z k : Int} (h : z = P * k) : z % P = 0 := by rw [h]; exact Int.mul_emod_right P k
theorem dm {P z : Int} (h : z % P = 0) : ∃ k, z = P * k := Int.dvd_of_emod_eq_zero h
theorem led_Z4 {P e a b c d p q r s : Int} (he : e = p * s - q * r) (h1 : e = 1 ∨ e = -1) : Z4 P (e * fv a b c d p q) (e * fl2 a b c d p q r s) (e * fl3 a b c d p q r s) (e * fv a b c d r s) ↔ Z4 P a b c d := by
  refine led_both (Q := Z4 P) (fun e a b c d p q r s he h1 h => ?_) he h1
  obtain ⟨h1, h2, h3, h4⟩ := h
  obtain ⟨i, rfl⟩ := dm h1
  obtain ⟨j, rfl⟩ := dm h2
  obtain ⟨k, rfl⟩ := dm h3
  obtain ⟨l, rfl⟩ := dm h4
  rw [K05M.fv_mul, K05M.fl2_mul, K05M.fl3_mul, K05M.fv_mul]
  have k : ∀ z : Int, (e * (P * z)) % P = 0 := fun z => md (k := e * z) (by rw [Int.mul_left_comm])
  exact ⟨k _, k _, k _, k _⟩
theorem led_ZH {P e a b c d p q r s : Int} (he : e = p * s - q * r) (h1 : e = 1 ∨ e = -1) : ZH P (e * fv a b c d p q) (e * fl2 a b c d p q r s) (e * fl3 a b c d p q r s) (e * fv a b c d r s) ↔ ZH P a b c d := by
  refine led_both (Q := ZH P) (fun e a b c d p q r s he h1 h => ?_) he h1
  obtain ⟨h1, h2, h3⟩ := h
  obtain ⟨i, hi⟩ := dm h1
  obtain ⟨j, hj⟩ := dm h2
  obtain ⟨k, hk⟩ := dm h3
  have e0 : K06M.h0 a b c d = P * i := hi
  have e1 : K06M.h1 a b c d = P * j := hj
  have e2 : K06M.h2 a b c d = P * k := hk
  have l0 := K06M.led0 a b c d p q r s
  have l1 := K06M.led1 a b c d p q r s
  have l2 := K06M.led2 a b c d p q r s
  rw [e0, e1, e2] at l0 l1 l2
  have m0 : ∀ A B C D : Int, e * B * (e * B) - 3 * (e * A) * (e * C) = e * e * K06M.h0 A B C D := fun A B C D => by unfold K06M.h0; grind
  have m1 : ∀ A B C D : Int, e * B * (e * C) - 9 * (e * A) * (e * D) = e * e * K06M.h1 A B C D := fun A B C D => by unfold K06M.h1; grind
  have m2 : ∀ A B C D : Int, e * C * (e * C) - 3 * (e * B) * (e * D) = e * e * K06M.h2 A B C D := fun A B C D => by unfold K06M.h2; grind
  have d0 : ∀ x y : Int, K06M.dv (P * i) (P * j) (P * k) x y = P * K06M.dv i j k x y := fun x y => by unfold K06M.dv; grind
  have d1 : K06M.dl (P * i) (P * j) (P * k) p q r s = P * K06M.dl i j k p q r s := by unfold K06M.dl; grind
  have kk : ∀ u v z : Int, (u * (v * (P * z))) % P = 0 := fun u v z => md (k := u * (v * z)) (by rw [Int.mul_left_comm v P z, Int.mul_left_comm u P])
  refine ⟨?_, ?_, ?_⟩
  · rw [m0 _ _ _ (fv a b c d r s), l0, d0]; exact kk _ _ _
  · rw [m1, l1, d1]; exact kk _ _ _
  · rw [m2 (fv a b c d p q), l2, d0]; exact kk _ _ _
theorem led_PR {P e a b c d p q r s : Int} (he : e = p * s - q * r) (h1 : e = 1 ∨ e = -1) : PR P (e * fv a b c d p q) (e * fl2 a b c d p q r s) (e * fl3 a b c d p q r s) (e * fv a b c d r s) ↔ PR P a b c d := by
  refine led_both (Q := PR P) (fun e a b c d p q r s he h1 h => ?_) he h1
  obtain ⟨x, y, hr, hn⟩ := h
  have ee : e * e = 1 := by rcases h1 with rfl | rfl <;> decide
  have i1 : (s * x - r * y) * p + (-q * x + p * y) * r = e * x := by rw [he]; grind
  have i2 : (s * x - r * y) * q + (-q * x + p * y) * s = e * y := by rw [he]; grind
  refine ⟨s * x - r * y, -q * x + p * y, ?_, fun ⟨g1, g2⟩ => hn ?_⟩
  · rw [K05M.fv_mul, K05M.put1, i1, i2]
    have : fv a b c d (e * x) (e * y) = e * e * e * fv a b c d x y := by unfold fv; grind
    rw [this]
    exact Int.dvd_trans hr ⟨e * (e * e * e), by grind⟩
  · obtain ⟨m, hm⟩ := g1
    obtain ⟨n, hn⟩ := g2
    refine ⟨⟨e * (m * p + n * r), ?_⟩, ⟨e * (m * q + n * s), ?_⟩⟩
    · have : e * x = P * (m * p + n * r) := by rw [← i1, hm, hn]; grind
      have g : e * e * x = e * (P * (m * p + n * r)) := by rw [← this, Int.mul_assoc]
      rw [ee, Int.one_mul] at g
      rw [g, Int.mul_left_comm]
    · have : e * y = P * (m * q + n * s) := by rw [← i2, hm, hn]; grind
      have g : e * e * y = e * (P * (m * q + n * s)) := by rw [← this, Int.mul_assoc]
      rw [ee, Int.one_mul] at g
      rw [g, Int.mul_left_comm]
theorem led_disc {e a b c d p q r s : Int} (he : e = p * s - q * r) (h1 : e = 1 ∨ e = -1) : discI (e * fv a b c d p q) (e * fl2 a b c d p q r s) (e * fl3 a b c d p q r s) (e * fv a b c d r s) = discI a b c d := by
  have k := K05M.disc a b c d p q r s
  rw [← he] at k
  have e4 : ∀ A B C D : Int, discI (e * A) (e * B) (e * C) (e * D) = e * e * (e * e) * discI A B C D := fun A B C D => by unfold discI; grind
  have k : discI (fv a b c d p q) (fl2 a b c d p q r s) (fl3 a b c d p q r s) (fv a b c d r s) = e * e * e * e * e * e * discI a b c d := k
  rw [e4, k]
  rcases h1 with rfl | rfl
  · show (1 : Int) * (1 * discI a b c d) = _; rw [Int.one_mul, Int.one_mul]
  · show (1 : Int) * (1 * discI a b c d) = _; rw [Int.one_mul, Int.one_mul]
theorem pl_inv {p : Nat} (hp : p ∈ PL) : Inv1 p := by
  intro l h
  have inst : NeZero p := ⟨fun z => by subst z; exact absurd hp (by decide)⟩
  have p5 := pl hp
  have hp0 : (p : Int) ≠ 0 := by omega
  have h0 := Int.emod_nonneg l hp0
  have h1 := Int.emod_lt_of_pos l (show (0 : Int) < (p : Int) by omega)
  have hne : (l % (p : Int)).toNat ≠ 0 := fun z => h (Int.dvd_of_emod_eq_zero (by omega))
  obtain ⟨m, _, hm⟩ := inv_tab p hp (l % (p : Int)).toNat (List.mem_range.mpr (by omega)) hne
  refine ⟨(m : Int), ?_⟩
  have e1 : (((l % (p : Int)).toNat * m : Nat) : Int) % (p : Int) = 1 := by
    have := congrArg (fun z : Nat => (z : Int)) hm
    simpa using this
  rw [Int.natCast_mul, Int.toNat_of_nonneg h0] at e1
  have e2 := Int.emod_add_mul_ediv l p
  have e3 := Int.emod_add_mul_ediv (l % (p : Int) * (m : Int)) p
  rw [e1] at e3
  refine ⟨l % (p : Int) * m / p + l / p * m, ?_⟩
  rw [Int.mul_add, ← Int.add_assoc, e3, ← Int.mul_assoc, ← Int.add_mul, e2]
theorem PR_iff {p : Nat} (hI : Inv1 p) (p2 : 2 ≤ p) (a b c d : Int) : PR p a b c d ↔ 0 < (rI a b c d p).length + (if a % (p : Int) = 0 then 1 else 0) := by
  constructor
  · rintro ⟨x, y, h, hn⟩
    by_cases hy : (p : Int) ∣ y
    · have hx : ¬ (p : Int) ∣ x := fun g => hn ⟨g, hy⟩
      have ha : (p : Int) ∣ a := by
        obtain ⟨k, rfl⟩ := hy
        obtain ⟨j, hj⟩ := h
        have g : (p : Int) ∣ a * x * x * x := ⟨j - (b * x * x * k + c * x * k * (p * k) + d * (p * k) * (p * k) * k), by
          unfold fv at hj
          grind⟩
        rcases pdvd hI g with g | g
        · rcases pdvd hI g with g | g
          · rcases pdvd hI g with g | g
            · exact g
            · exact absurd g hx
          · exact absurd g hx
        · exact absurd g hx
      rw [if_pos (Int.emod_eq_zero_of_dvd ha)]
      omega
    · obtain ⟨m, k, e⟩ := hI y hy
      have g : (p : Int) ∣ f3 a b c d (x * m) := by
        obtain ⟨j, hj⟩ := h
        have e2 : f3 a b c d (x * m) + (b * x * m * x * m * (y * m - 1) + c * x * m * (y * m * (y * m) - 1) + d * (y * m * (y * m) * (y * m) - 1)) = m * m * m * fv a b c d x y := by
          unfold f3 fv
          grind
        rw [hj, e] at e2
        refine ⟨m * m * m * j - (b * x * m * x * m * k + c * x * m * (2 * k + p * k * k) + d * (3 * k + 3 * p * k * k + p * k * (p * k) * k)), ?_⟩
        grind
      have hp0 : (p : Int) ≠ 0 := by omega
      have h0 := Int.emod_nonneg (x * m) hp0
      have h1 := Int.emod_lt_of_pos (x * m) (show (0 : Int) < (p : Int) by omega)
      have g2 : (p : Int) ∣ f3 a b c d (x * m % (p : Int)) := MapM.f3_congr g (MapM.Eqv.refl _ _) (MapM.Eqv.refl _ _) (MapM.Eqv.refl _ _) (MapM.Eqv.refl _ _) (MapM.mod_eqv _ _)
      have hm : (x * m % (p : Int)).toNat ∈ rI a b c d p := by
        unfold rI
        rw [List.mem_filter, List.mem_range, decide_eq_true_iff, Int.toNat_of_nonneg h0]
        exact ⟨by omega, Int.emod_eq_zero_of_dvd g2⟩
      have := List.length_pos_of_mem hm
      omega
  · intro h
    by_cases ha : a % (p : Int) = 0
    · refine ⟨1, 0, ?_, fun ⟨g, _⟩ => ?_⟩
      · rw [(K05M.fv_one a b c d).1]
        exact Int.dvd_of_emod_eq_zero ha
      · have := Int.le_of_dvd (by decide) g
        omega
    · rw [if_neg ha] at h
      obtain ⟨x, hx⟩ := List.exists_mem_of_length_pos (show 0 < (rI a b c d p).length by omega)
      unfold rI at hx
      rw [List.mem_filter, decide_eq_true_iff] at hx
      refine ⟨(x : Int), 1, ?_, fun ⟨_, g⟩ => ?_⟩
      · have : fv a b c d (x : Int) 1 = f3 a b c d (x : Int) := by unfold fv f3; grind
        rw [this]
        exact Int.dvd_of_emod_eq_zero hx.2
      · have := Int.le_of_dvd (by decide) g
        omega
theorem kJ_led {p' : Nat} (hp : p' ∈ PL) {e a b c d p q r s : Int} (he : e = p * s - q * r) (h1 : e = 1 ∨ e = -1) : kJ (e * fv a b c d p q) (e * fl2 a b c d p q r s) (e * fl3 a b c d p q r s) (e * fv a b c d r s) p' = kJ a b c d p' := by
  have inst : NeZero p' := ⟨fun z => by subst z; exact absurd hp (by decide)⟩
  have p5 := pl hp
  have hI := pl_inv hp
  have hH := led_ZH (P := p') (a := a) (b := b) (c := c) (d := d) he h1
  have hR := led_PR (P := p') (a := a) (b := b) (c := c) (d := d) he h1
  rw [PR_iff hI (by omega), PR_iff hI (by omega)] at hR
  have nz : ∀ x y z : Int, (x ≠ 0 ∨ y ≠ 0 ∨ z ≠ 0) ↔ ¬ (x = 0 ∧ y = 0 ∧ z = 0) := fun x y z => by
    by_cases h1 : x = 0 <;> by_cases h2 : y = 0 <;> by_cases h3 : z = 0 <;> simp [h1, h2, h3]
  have nH := (nz _ _ _).trans ((not_congr hH).trans (nz _ _ _).symm)
  unfold kJ
  rw [led_disc he h1]
  have ei : ∀ {u v : Nat} {m n : Prop} [Decidable m] [Decidable n], (m ↔ n) → (if m then u else v) = (if n then u else v) := by
    intro u v m n _ _ h
    by_cases g : m
    · rw [if_pos g, if_pos (h.mp g)]
    · rw [if_neg g, if_neg fun z => g (h.mpr z)]
  rw [ei nH, ei hR]
theorem kn_led_PL {p' : Nat} (hp : p' ∈ PL) {e a b c d p q r s : Int} (he : e = p * s - q * r) (h1 : e = 1 ∨ e = -1) : kn (e * fv a b c d p q) (e * fl2 a b c d p q r s) (e * fl3 a b c d p q r s) (e * fv a b c d r s) p' = kn a b c d p' := by
  have hz := led_Z4 (P := p') (a := a) (b := b) (c := c) (d := d) he h1
  unfold Z4 at hz
  unfold kn
  by_cases g : a % (p' : Int) = 0 ∧ b % (p' : Int) = 0 ∧ c % (p' : Int) = 0 ∧ d % (p' : Int) = 0
  · rw [if_pos (hz.mpr g), if_pos g]
  · rw [if_neg fun z => g (hz.mp z), if_neg g, ← kJ_eq hp (fun z => g (hz.mp z)), ← kJ_eq hp g, kJ_led hp he h1]
section
variable {p' : Nat} [NeZero p']
theorem ledM_eq {p' : Nat} [NeZero p'] (a b c d p q r s : Int) : ledM p' (nr p' a) (nr p' b) (nr p' c) (nr p' d) (nr p' p) (nr p' q) (nr p' r) (nr p' s) = [nr p' (fv a b c d p q), nr p' (fl2 a b c d p q r s), nr p' (fl3 a b c d p q r s), nr p' (fv a b c d r s)] := by
  have c2 : ph p' ((2 : Nat) : Int) = ph p' 2 := rfl
  have c3 : ph p' ((3 : Nat) : Int) = ph p' 3 := rfl
  have e1 : (nr p' a * nr p' p * nr p' p * nr p' p + nr p' b * nr p' p * nr p' p * nr p' q + nr p' c * nr p' p * nr p' q * nr p' q + nr p' d * nr p' q * nr p' q * nr p' q) % p' = nr p' (fv a b c d p q) := same (by
    unfold fv
    simp only [Int.natCast_add, Int.natCast_mul, ph_add, ph_mul, nr_ph])
  have e2 : (3 * nr p' a * nr p' p * nr p' p * nr p' r + nr p' b * nr p' p * (nr p' p * nr p' s + 2 * nr p' q * nr p' r) + nr p' c * nr p' q * (2 * nr p' p * nr p' s + nr p' q * nr p' r) + 3 * nr p' d * nr p' q * nr p' q * nr p' s) % p' = nr p' (fl2 a b c d p q r s) := same (by
    unfold fl2
    simp only [Int.natCast_add, Int.natCast_mul, ph_add, ph_mul, nr_ph, c2, c3])
  have e3 : (3 * nr p' a * nr p' p * nr p' r * nr p' r + nr p' b * nr p' r * (2 * nr p' p * nr p' s + nr p' q * nr p' r) + nr p' c * nr p' s * (nr p' p * nr p' s + 2 * nr p' q * nr p' r) + 3 * nr p' d * nr p' q * nr p' s * nr p' s) % p' = nr p' (fl3 a b c d p q r s) := same (by
    unfold fl3
    simp only [Int.natCast_add, Int.natCast_mul, ph_add, ph_mul, nr_ph, c2, c3])
  have e4 : (nr p' a * nr p' r * nr p' r * nr p' r + nr p' b * nr p' r * nr p' r * nr p' s + nr p' c * nr p' r * nr p' s * nr p' s + nr p' d * nr p' s * nr p' s * nr p' s) % p' = nr p' (fv a b c d r s) := same (by
    unfold fv
    simp only [Int.natCast_add, Int.natCast_mul, ph_add, ph_mul, nr_ph])
  unfold ledM
  rw [e1, e2, e3, e4]
theorem sM_eq {e A B C D : Int} {n : Nat} (h1 : e = 1 ∨ e = -1) (hn : ph p' (n : Int) = ph p' e) : sM p' n [nr p' A, nr p' B, nr p' C, nr p' D] = oM p' (nr p' (e * A)) (nr p' (e * B)) (nr p' (e * C)) (nr p' (e * D)) := by
  have k : ∀ z : Int, n * nr p' z % p' = nr p' (e * z) := fun z => same (by
    simp only [Int.natCast_mul, ph_mul, nr_ph, hn])
  have kz : ∀ z : Int, nr p' (e * z) = 0 ↔ nr p' z = 0 := fun z => by
    rw [nr_zero, nr_zero]
    rcases h1 with rfl | rfl
    · rw [Int.one_mul]
    · rw [← Int.dvd_iff_emod_eq_zero, ← Int.dvd_iff_emod_eq_zero, Int.neg_mul, Int.one_mul, Int.dvd_neg]
  show (if z4 (nr p' A) (nr p' B) (nr p' C) (nr p' D) = true then 5 else kM (n * nr p' A % p') (n * nr p' B % p') (n * nr p' C % p') (n * nr p' D % p') p') = _
  rw [k, k, k, k]
  unfold oM z4
  simp only [Bool.and_eq_true, beq_iff_eq, kz]
end
theorem det_ne {p' : Nat} [NeZero p'] (hp : 2 ≤ p') {e : Int} (h1 : e = 1 ∨ e = -1) : nr p' e ≠ 0 := by
  rw [ne_eq, nr_zero, ← Int.dvd_iff_emod_eq_zero]
  intro g
  have g2 : (p' : Int) ∣ 1 := by
    rcases h1 with rfl | rfl
    · exact g
    · exact Int.dvd_neg.mp g
  have := Int.le_of_dvd (by decide) g2
  omega
theorem kn_led_2 {e a b c d p q r s : Int} (he : e = p * s - q * r) (h1 : e = 1 ∨ e = -1) : kn (e * fv a b c d p q) (e * fl2 a b c d p q r s) (e * fl3 a b c d p q r s) (e * fv a b c d r s) 2 = kn a b c d 2 := by
  have h := al4_ap (al4_ap l2 (nr_lt (p := 2) a) (nr_lt (p := 2) b) (nr_lt (p := 2) c) (nr_lt (p := 2) d)) (nr_lt (p := 2) p) (nr_lt (p := 2) q) (nr_lt (p := 2) r) (nr_lt (p := 2) s)
  have hd : (nr 2 p * nr 2 s + nr 2 q * nr 2 r) % 2 = nr 2 e := same (by
    rw [he]
    simp only [Int.natCast_add, Int.natCast_mul, ph_add, ph_mul, ph_sub, nr_ph]
    have : ∀ x y : Fin 2, x + y = x - y := by decide
    exact this _ _)
  rw [hd, Bool.or_eq_true] at h
  have h := beq_iff_eq.mp (h.resolve_left fun z => det_ne (p' := 2) (by decide) h1 (beq_iff_eq.mp z))
  rw [ledM_eq, sM_eq h1 (by rcases h1 with rfl | rfl <;> rfl), kn_oM, kn_oM] at h
  exact h
theorem kn_led_3 {e a b c d p q r s : Int} (he : e = p * s - q * r) (h1 : e = 1 ∨ e = -1) : kn (e * fv a b c d p q) (e * fl2 a b c d p q r s) (e * fl3 a b c d p q r s) (e * fv a b c d r s) 3 = kn a b c d 3 := by
  have h := al4_ap (al4_ap l3 (nr_lt (p := 3) a) (nr_lt (p := 3) b) (nr_lt (p := 3) c) (nr_lt (p := 3) d)) (nr_lt (p := 3) p) (nr_lt (p := 3) q) (nr_lt (p := 3) r) (nr_lt (p := 3) s)
  have hd : (nr 3 p * nr 3 s + 2 * (nr 3 q * nr 3 r)) % 3 = nr 3 e := same (by
    rw [he]
    simp only [Int.natCast_add, Int.natCast_mul, ph_add, ph_mul, ph_sub, nr_ph]
    have : ∀ x y : Fin 3, x + ph 3 ((2 : Nat) : Int) * y = x - y := by decide
    exact this _ _)
  rw [hd, Bool.or_eq_true] at h
  have g := h.resolve_left fun z => det_ne (p' := 3) (by decide) h1 (beq_iff_eq.mp z)
  clear h
  rw [Bool.and_eq_true, beq_iff_eq, beq_iff_eq] at g
  rcases h1 with rfl | rfl
  · have g := g.1
    rw [ledM_eq, sM_eq (e := 1) (.inl rfl) rfl, kn_oM, kn_oM] at g
    exact g
  · have g := g.2
    rw [ledM_eq, sM_eq (e := -1) (.inr rfl) rfl, kn_oM, kn_oM] at g
    exact g
theorem kn_led {p' : Nat} (hp : p' = 2 ∨ p' = 3 ∨ p' ∈ PL) {e a b c d p q r s : Int} (he : e = p * s - q * r) (h1 : e = 1 ∨ e = -1) : kn (e * fv a b c d p q) (e * fl2 a b c d p q r s) (e * fl3 a b c d p q r s) (e * fv a b c d r s) p' = kn a b c d p' := by
  rcases hp with rfl | rfl | hp
  · exact kn_led_2 he h1
  · exact kn_led_3 he h1
  · exact kn_led_PL hp he h1
theorem sq_ent {p' : Nat} [NeZero p'] (a b c d : Int) (u x y : Nat) :
    ((u : Int) * u + (0 - a * c * x * x - 2 * a * d * x * y - b * d * y * y)) % (p' : Int) = ((u * u + (p' - 1) * (nr p' a * nr p' c * x * x) + 2 * (p' - 1) * (nr p' a * nr p' d * x * y) + (p' - 1) * (nr p' b * nr p' d * y * y)) % p' : Nat) ∧
    (2 * (u : Int) * x + (b * x * x + d * y * y)) % (p' : Int) = ((2 * u * x + (nr p' b * x * x + nr p' d * y * y)) % p' : Nat) ∧
    (2 * (u : Int) * y + (0 - a * x * x - c * y * y)) % (p' : Int) = ((2 * u * y + (p' - 1) * (nr p' a * x * x + nr p' c * y * y)) % p' : Nat) := by
  have e1 : ph p' (-1) = -1 := by rw [ph_neg, show ph p' 1 = 1 from ph_nat 1]
  have c2 : ph p' ((2 : Nat) : Int) = ph p' 2 := rfl
  have z0 : ph p' 0 = 0 := ph_nat 0
  have k : ∀ (n : Nat) (z : Int), ph p' (n : Int) = ph p' z → z % (p' : Int) = ((n % p' : Nat) : Int) := fun n z h => by
    rw [same h, nr_val, ph_val]
  refine ⟨k _ _ ?_, k _ _ ?_, k _ _ ?_⟩
  · simp only [Int.natCast_add, Int.natCast_mul, ph_add, ph_mul, ph_sub, ph_pred, nr_ph, c2, e1, z0]
    grind
  · simp only [Int.natCast_add, Int.natCast_mul, ph_add, ph_mul, ph_sub, ph_pred, nr_ph, c2, e1, z0]
  · simp only [Int.natCast_add, Int.natCast_mul, ph_add, ph_mul, ph_sub, ph_pred, nr_ph, c2, e1, z0]
    grind
end Stick
namespace Stick
def su (a b c d p x y : Nat) (r : Nat × Nat) (u : Nat) : Nat × Nat :=
  let s0 := (u * u + (p - 1) * (a * c * x * x) + 2 * (p - 1) * (a * d * x * y) + (p - 1) * (b * d * y * y)) % p
  let s1 := (2 * u * x + (b * x * x + d * y * y)) % p
  let s2 := (2 * u * y + (p - 1) * (a * x * x + c * y * y)) % p
  (r.1 + (if s0 == u && s1 == x && s2 == y then 1 else 0), r.2 + (if s0 == 0 && s1 == 0 && s2 == 0 then 1 else 0))
def rU (a b c d p x y : Nat) (r : Nat × Nat) (n : Nat) : Nat × Nat := (List.range n).foldl (su a b c d p x y) r
def rY (a b c d p x : Nat) (r : Nat × Nat) (n : Nat) : Nat × Nat := (List.range n).foldl (fun r y => rU a b c d p x y r p) r
def rX (a b c d p n : Nat) : Nat × Nat := (List.range n).foldl (fun r x => rY a b c d p x r p) (0, 0)
theorem cM_loops (a b c d p : Nat) : cM a b c d p = rX a b c d p p := rfl
theorem rU_succ (a b c d p x y : Nat) (r : Nat × Nat) (n : Nat) : rU a b c d p x y r (n + 1) = su a b c d p x y (rU a b c d p x y r n) n := by
  unfold rU
  rw [List.range_succ, List.foldl_append]
  rfl
theorem rY_succ (a b c d p x : Nat) (r : Nat × Nat) (n : Nat) : rY a b c d p x r (n + 1) = rU a b c d p x n (rY a b c d p x r n) p := by
  unfold rY
  rw [List.range_succ, List.foldl_append]
  rfl
theorem rX_succ (a b c d p n : Nat) : rX a b c d p (n + 1) = rY a b c d p n (rX a b c d p n) p := by
  unfold rX
  rw [List.range_succ, List.foldl_append]
  rfl
theorem nr_nat {p x : Nat} (h : x < p) : nr p (x : Int) = x := by
  unfold nr
  rw [Int.emod_eq_of_lt (by omega) (by omega)]
  rfl
theorem su_int {a b c d p x y u : Nat} (ha : a < p) (hb : b < p) (hc : c < p) (hd : d < p) (r : Nat × Nat) (i0 i1 i2 : Int)
    (h0 : i0 = ((u : Int) * u + (0 - (a : Int) * c * x * x - 2 * a * d * x * y - b * d * y * y)) % (p : Int)) (h1 : i1 = (2 * (u : Int) * x + ((b : Int) * x * x + d * y * y)) % (p : Int)) (h2 : i2 = (2 * (u : Int) * y + (0 - (a : Int) * x * x - c * y * y)) % (p : Int)) :
    (((su a b c d p x y r u).1 : Nat) : Int) = (r.1 : Int) + (if decide ([i0, i1, i2] = [(u : Int), (x : Int), (y : Int)]) = true then 1 else 0) ∧ (((su a b c d p x y r u).2 : Nat) : Int) = (r.2 : Int) + (if decide ([i0, i1, i2] = [(0 : Int), 0, 0]) = true then 1 else 0) := by
  have inst : NeZero p := ⟨by omega⟩
  obtain ⟨k0, k1, k2⟩ := sq_ent (p' := p) (a : Int) b c d u x y
  rw [nr_nat ha, nr_nat hc, nr_nat hd, nr_nat hb] at k0
  rw [nr_nat hb, nr_nat hd] at k1
  rw [nr_nat ha, nr_nat hc] at k2
  rw [k0] at h0
  rw [k1] at h1
  rw [k2] at h2
  unfold su
  subst h0
  subst h1
  subst h2
  generalize (u * u + (p - 1) * (a * c * x * x) + 2 * (p - 1) * (a * d * x * y) + (p - 1) * (b * d * y * y)) % p = s0
  generalize (2 * u * x + (b * x * x + d * y * y)) % p = s1
  generalize (2 * u * y + (p - 1) * (a * x * x + c * y * y)) % p = s2
  have e1 : decide ([(s0 : Int), (s1 : Int), (s2 : Int)] = [(u : Int), (x : Int), (y : Int)]) = (s0 == u && s1 == x && s2 == y) := by
    rw [Bool.eq_iff_iff, decide_eq_true_iff, Bool.and_eq_true, Bool.and_eq_true, beq_iff_eq, beq_iff_eq, beq_iff_eq]
    simp only [List.cons.injEq, and_true]
    constructor
    · rintro ⟨h1, h2, h3⟩; exact ⟨⟨by omega, by omega⟩, by omega⟩
    · rintro ⟨⟨h1, h2⟩, h3⟩; exact ⟨by omega, by omega, by omega⟩
  have e2 : decide ([(s0 : Int), (s1 : Int), (s2 : Int)] = [(0 : Int), 0, 0]) = (s0 == 0 && s1 == 0 && s2 == 0) := by
    rw [Bool.eq_iff_iff, decide_eq_true_iff, Bool.and_eq_true, Bool.and_eq_true, beq_iff_eq, beq_iff_eq, beq_iff_eq]
    simp only [List.cons.injEq, and_true]
    constructor
    · rintro ⟨h1, h2, h3⟩; exact ⟨⟨by omega, by omega⟩, by omega⟩
    · rintro ⟨⟨h1, h2⟩, h3⟩; exact ⟨by omega, by omega, by omega⟩
  rw [e1, e2]
  refine ⟨?_, ?_⟩
  · show ((_ + (if (s0 == u && s1 == x && s2 == y) = true then 1 else 0) : Nat) : Int) = _
    rw [Int.natCast_add]
    congr 1
    split <;> rfl
  · show ((_ + (if (s0 == 0 && s1 == 0 && s2 == 0) = true then 1 else 0) : Nat) : Int) = _
    rw [Int.natCast_add]
    congr 1
    split <;> rfl
end Stick
namespace Fr
open PySem PySem.Spec PyProof.Rows L2
theorem put_new {kvs : List (Key × V)} {ks : List Int} (h : Dk kvs ks) (k : Int) (v : V) (hk : k ∉ ks) : putK kvs (Sum.inl k : Key) v = kvs ++ [((Sum.inl k : Key), v)] := by
  have hany : (kvs.any fun kv => decide (kv.1 = (Sum.inl k : Key))) = false := by
    rw [Bool.eq_false_iff]
    intro h2
    rw [List.any_eq_true] at h2
    obtain ⟨kv, h1, h2⟩ := h2
    have : kv.1 ∈ kvs.map (·.1) := List.mem_map_of_mem h1
    rw [h, List.mem_map] at this
    obtain ⟨i, h3, h4⟩ := this
    rw [of_decide_eq_true h2] at h4
    exact hk (Sum.inl.inj h4 ▸ h3)
  unfold putK
  rw [hany, if_neg Bool.false_ne_true]
theorem srt_eq {ys ks : List Int} (h : ys.Perm ks) (h1 : ys.Pairwise (· ≤ ·)) (h2 : ks.Pairwise (· ≤ ·)) : ys = ks :=
  List.Perm.eq_of_pairwise (fun _ _ _ _ h3 h4 => Int.le_antisymm h3 h4) h1 h2 h
theorem paired_ex {H H' : Hp} (e : Ex0 H H') : ∀ {ps : List Addr} {kvs : List (Key × V)}, PySem.Paired (fun p kv => H p = some (.tup [kV kv.1, kv.2])) ps kvs → PySem.Paired (fun p kv => H' p = some (.tup [kV kv.1, kv.2])) ps kvs
  | _, _, .nil => .nil
  | _, _, .cons h t => .cons (Ex0.ap e h) (paired_ex e t)
theorem paired_put {H : Hp} {D : Addr} {xs : List V} {o : HO} (hD : H D = some (.lst xs)) : ∀ {ps : List Addr} {kvs : List (Key × V)}, PySem.Paired (fun p kv => H p = some (.tup [kV kv.1, kv.2])) ps kvs → PySem.Paired (fun p kv => upd H D o p = some (.tup [kV kv.1, kv.2])) ps kvs
  | _, _, .nil => .nil
  | _, _, .cons h t => .cons ((upd_ne (fun z => by rw [z, hD] at h; cases h)).trans h) (paired_put hD t)
theorem paired_q {K : PySem.W.Frag} {H : Hp} : ∀ {ps : List Addr} {kvs : List (Key × V)}, PySem.Paired (fun p kv => H p = some (.tup [kV kv.1, kv.2])) ps kvs → PySem.Paired (fun p kv => SqT K H p [kV kv.1, kv.2]) ps kvs
  | _, _, .nil => .nil
  | _, _, .cons h t => .cons (SqT.of h) (paired_q t)
end Fr
namespace K52
open PySem PySem.Spec PyProof.Rows L2 Fr
open K05M (fv fl2 fl3 fdisc)
section
def Plc (p x y : Int) : Prop := (y = 1 ∧ 0 ≤ x ∧ x < p) ∨ (x = 1 ∧ y = 0)
def Pr (n : Nat) : Prop := 2 ≤ n ∧ ∀ c, 2 ≤ c → c * c ≤ n → n % c ≠ 0
theorem modN {n i : Nat} : ((n : Int) % (2 + (i : Int)) = 0) ↔ n % (2 + i) = 0 := by
  rw [show (2 : Int) + (i : Int) = ((2 + i : Nat) : Int) by omega, ← Int.natCast_emod]
  omega
def rootB (a b c d p x y : Int) : Bool := decide (fv a b c d x y % p = 0)
def within (a b c d p x y : Int) : List Int := if y = 1 then [a * p * p, (3 * a * x + b) * p, (3 * a * x + 2 * b) * x + c, fv a b c d x 1 / p] else [a / p, b, c * p, d * p * p]
def rootsL (a b c d : Int) (p : Nat) : List (Int × Int) := (((List.range p).filter fun (x : Nat) => rootB a b c d p x 1).map fun (x : Nat) => ((x : Int), (1 : Int))) ++ (if a % (p : Int) = 0 then [((1 : Int), (0 : Int))] else [])
theorem horner (a b c d x p : Int) : (((a % p * x + b % p) * x + c % p) * x + d % p) % p = fv a b c d x 1 % p := by
  have ha := Int.emod_add_mul_ediv a p
  have hb := Int.emod_add_mul_ediv b p
  have hc := Int.emod_add_mul_ediv c p
  have hd := Int.emod_add_mul_ediv d p
  generalize a % p = a0 at *
  generalize b % p = b0 at *
  generalize c % p = c0 at *
  generalize d % p = d0 at *
  generalize a / p = a1 at *
  generalize b / p = b1 at *
  generalize c / p = c1 at *
  generalize d / p = d1 at *
  have e : fv a b c d x 1 = (((a0 * x + b0) * x + c0) * x + d0) + p * (a1 * x * x * x + b1 * x * x + c1 * x + d1) := by
    rw [← ha, ← hb, ← hc, ← hd]
    unfold fv
    grind
  rw [e, Int.add_mul_emod_self_left]
def sp_is_prime (_ : PySem.W.Frag) (C : Addr) : Sp := fun vs H Q _ => ∃ n : Nat, vs = [.int (n : Int)] ∧ n ≤ 10000 ∧ 2 ≤ n ∧ ∀ b : Bool, (b = true ↔ Pr n) → Q (.bl b) H
def sp_check_prime (_ : PySem.W.Frag) (C : Addr) : Sp := fun vs H Q _ => ∃ n : Nat, vs = [.int (n : Int)] ∧ n ≤ 10000 ∧ Pr n ∧ Q .non H
def sp_places_of_roots (K : PySem.W.Frag) (C : Addr) : Sp := fun vs H Q _ => ∃ (t : Addr) (a b c d : Int) (p : Nat), vs = [.ref t, .int (p : Int)] ∧ Ti H t [a, b, c, d] ∧ 0 < p ∧ p < 1000 ∧ ∀ l H' ys qs, Ex0 H H' → H l = none → H' l = some (.lst ys) → PrT K H' ys qs → qs.Perm (rootsL a b c d p) → qs.Pairwise lexP → Q (.ref l) H'
def sp_power_at (_ : PySem.W.Frag) (C : Addr) : Sp := fun vs H Q _ => ∃ a e n : Nat, vs = [.int (a : Int), .int (e : Int), .int (n : Int)] ∧ 2 ≤ n ∧ n ≤ 1000000000000 ∧ a ≤ 1000 ∧ e ≤ 1000000000000 ∧ Q (.int ((a ^ e % n : Nat) : Int)) H
def sp_is_full (_ : PySem.W.Frag) (C : Addr) : Sp := fun vs H Q _ => ∃ (t : Addr) (ns : List Int) (p : Int), vs = [.ref t, .int p] ∧ Ti H t ns ∧ 0 < p ∧ Q (.bl (decide (((gcdL ns : Nat) : Int) % p = 0))) H
end
section
variable {P : Program} {w : World} {K : PySem.W.Frag} {mg : Str → Option Value} {base : Heap} {C_Form : Addr}
theorem ok_is_prime (T : Txt K mg C_Form) : Def P w K mg base 5 "is_prime" ["number"] (sp_is_prime K C_Form) := by
  obtain ⟨f_, fd_, g_, F_⟩ := T.d_is_prime
  obtain ⟨f_check_between, fd_check_between, g_check_between, k_check_between, b_check_between, G_check_between⟩ := (ok_check_between (P := P) (w := w) (base := base) T)
  refine ⟨f_, fd_, g_, F_.kp, F_.binds (ps := ["number"]) (fun _ _ _ _ _ _ us hl => match us, hl with | [_], _ => rfl), ?_⟩
  refine F_.ok sc_is_prime (fun vs H Q E h => ?_) (fun cdv A outer s H vs Q E hr h => ?_)
  · first | (obtain ⟨rfl, _⟩ := h; rfl) | (obtain ⟨_, rfl, _⟩ := h; rfl) | (obtain ⟨_, _, rfl, _⟩ := h; rfl) | (obtain ⟨_, _, _, rfl, _⟩ := h; rfl) | (obtain ⟨_, _, _, _, rfl, _⟩ := h; rfl) | (obtain ⟨_, _, _, _, _, rfl, _⟩ := h; rfl) | (obtain ⟨_, _, _, _, _, _, rfl, _⟩ := h; rfl) | (obtain ⟨_, _, _, _, _, _, _, rfl, _⟩ := h; rfl) | (obtain ⟨_, _, _, _, _, _, _, _, rfl, _⟩ := h; rfl) | (obtain ⟨_, _, _, _, _, _, _, _, _, rfl, _⟩ := h; rfl) | (obtain ⟨_, _, _, _, _, _, _, _, _, _, rfl, _⟩ := h; rfl) | (obtain ⟨_, _, _, _, _, _, _, _, _, _, _, rfl, _⟩ := h; rfl) | (obtain ⟨_, _, _, _, _, _, _, _, _, _, _, _, rfl, _⟩ := h; rfl) | (obtain ⟨_, _, _, _, _, _, _, _, _, _, _, _, _, rfl, _⟩ := h; rfl) | (obtain ⟨_, _, _, _, _, _, _, _, _, _, _, _, _, _, rfl, _⟩ := h; rfl) | (obtain ⟨_, _, _, _, _, _, _, _, _, _, _, _, _, _, _, rfl, _⟩ := h; rfl) | (obtain ⟨_, _, _, _, _, _, _, _, _, _, _, _, _, _, _, _, rfl, _⟩ := h; rfl) | (obtain ⟨_, _, _, _, _, _, _, _, _, _, _, _, _, _, _, _, _, rfl, _⟩ := h; rfl) | (obtain ⟨_, _, _, _, _, _, _, _, _, _, _, _, _, _, _, _, _, _, rfl, _⟩ := h; rfl) | (obtain ⟨_, _, _, _, _, _, _, _, _, _, _, _, _, _, _, _, _, _, _, rfl, _⟩ := h; rfl) | (obtain ⟨_, _, _, _, _, _, _, _, _, _, _, _, _, _, _, _, _, _, _, _, rfl, _⟩ := h; rfl) | (obtain ⟨_, _, _, _, _, _, _, _, _, _, _, _, _, _, _, _, _, _, _, _, _, rfl, _⟩ := h; rfl) | (obtain ⟨_, _, _, _, _, _, _, _, _, _, _, _, _, _, _, _, _, _, _, _, _, _, rfl, _⟩ := h; rfl) | (obtain ⟨_, _, _, _, _, _, _, _, _, _, _, _, _, _, _, _, _, _, _, _, _, _, _, rfl, _⟩ := h; rfl)
  · obtain ⟨n, rfl, hn, n2, q⟩ := h
    obtain ⟨t_MAX_PRIME, h_MAX_PRIME⟩ := T.x_MAX_PRIME
    refine ⟨_, (pss_cons (ps_expr (pe_call G_check_between (hr.mono (by decide)) (by rfl) g_check_between k_check_between b_check_between .nil pass0 (pa_cons (pv 0) (pa_cons pe_int (pa_cons (pe_glob (v := .int 1000000) (by rfl) h_MAX_PRIME ⟨_, rfl⟩) pa_nil)))))
    (pss_cons (ps_if (pt_cmpR op_lt (pv 0) pe_int (nomark _))
      (pss_one (ps_ret pe_bl))
      pss_nil)
    (pss_cons (ps_for PassesOwn.never rfl (pi_range2 (by rfl) T.b_range (pa_cons pe_int (pa_cons (pe_op op_add (pe_callBfun cr_isqrt (by rfl) T.m_isqrt (pa_cons (pv 0) pa_nil)) pe_int) pa_nil))) (pg_name (i := 1) sc_is_prime.nd rfl (.inl rfl))
      (pss_one (ps_if (pt_cmpR op_eq (pe_op op_mod (pv 0) (pv 1)) pe_int (nomark _))
      (pss_one (ps_ret pe_bl))
      pss_nil)))
    (pss_one (ps_ret pe_bl))))), ?_⟩
    refine ⟨_, rfl, _, _, _, rfl, ⟨by omega, by omega⟩, by omega, by omega, ?_⟩
    refine ⟨_, rfl, _, _, rfl, rfl, _, rfl, iteD (fun g => ?_) (fun g => ?_)⟩
    · omega
    · refine ⟨_, rfl, _, rfl, by omega, by omega, fun r r0 r1 r2 => ?_⟩
      have r3 : r < 2 ^ 60 := by
        rcases Int.lt_or_le r (2 ^ 60) with h | h
        · exact h
        · have := Int.mul_le_mul h h (by decide) (by omega)
          omega
      refine ⟨_, _, rfl, rfl, _, _, rfl, ⟨by decide, by decide, by omega, by omega⟩, ?_⟩
      refine for_range (lo := 2) (n := (r + 1 - 2).toNat) (fun i σ H' => ∃ y1, σ = [some (.int (n : Int)), y1] ∧ H = H' ∧ ∀ c, 2 ≤ c → c < 2 + i → n % c ≠ 0) ⟨none, rfl, rfl, fun c h1 h2 => by omega⟩ ?_ ?_
      · rintro i σ H' hi ⟨y1, rfl, rfl, hno⟩
        refine ⟨_, rfl, _, rfl, (n : Int), 2 + (i : Int), rfl, rfl, (show (0 : Int) < 2 + (i : Int) by omega), rfl, _, rfl, ?_⟩
        have e : decide (V.int ((n : Int) % (2 + (i : Int))) = V.int 0) = decide ((n : Int) % (2 + (i : Int)) = 0) := by rw [dec_int]; rfl
        show if decide (V.int ((n : Int) % (2 + (i : Int))) = V.int 0) = true then _ else _
        rw [e]
        have hsq : (2 + i) * (2 + i) ≤ n := by
          have : (2 + (i : Int)) ≤ r := by omega
          have := Int.mul_le_mul this this (by omega) (by omega)
          have : ((2 + i : Nat) : Int) * ((2 + i : Nat) : Int) ≤ (n : Int) := by
            rw [show ((2 + i : Nat) : Int) = 2 + (i : Int) by omega]
            omega
          exact Int.ofNat_le.mp (by rw [Int.natCast_mul]; exact this)
        refine iteD (fun z => ?_) (fun z => ⟨_, rfl, rfl, fun c h1 h2 => ?_⟩)
        · exact q false ⟨(fun h => by cases h), fun h => absurd (modN.mp z) (h.2 (2 + i) (by omega) hsq)⟩
        · by_cases hc : c = 2 + i
          · rw [hc]
            exact fun w => z (modN.mpr w)
          · exact hno c h1 (by omega)
      · rintro σ H' ⟨y1, rfl, rfl, hno⟩
        refine q true ⟨fun _ => ⟨n2, fun c h1 h2 => hno c h1 ?_⟩, fun _ => rfl⟩
        have hcr : (c : Int) ≤ r := by
          rcases Int.lt_or_le r (c : Int) with h | h
          · have := Int.mul_le_mul (show r + 1 ≤ (c : Int) by omega) (show r + 1 ≤ (c : Int) by omega) (by omega) (by omega)
            have h3 : (c : Int) * (c : Int) ≤ (n : Int) := by exact_mod_cast h2
            omega
          · exact h
        omega
theorem ok_check_prime (T : Txt K mg C_Form) : Def P w K mg base 6 "check_prime" ["number"] (sp_check_prime K C_Form) := by
  obtain ⟨f_, fd_, g_, F_⟩ := T.d_check_prime
  obtain ⟨f_check_between, fd_check_between, g_check_between, k_check_between, b_check_between, G_check_between⟩ := (ok_check_between (P := P) (w := w) (base := base) T)
  obtain ⟨f_is_prime, fd_is_prime, g_is_prime, k_is_prime, b_is_prime, G_is_prime⟩ := (ok_is_prime (P := P) (w := w) (base := base) T)
  refine ⟨f_, fd_, g_, F_.kp, F_.binds (ps := ["number"]) (fun _ _ _ _ _ _ us hl => match us, hl with | [_], _ => rfl), ?_⟩
  refine F_.ok sc_check_prime (fun vs H Q E h => ?_) (fun cdv A outer s H vs Q E hr h => ?_)
  · first | (obtain ⟨rfl, _⟩ := h; rfl) | (obtain ⟨_, rfl, _⟩ := h; rfl) | (obtain ⟨_, _, rfl, _⟩ := h; rfl) | (obtain ⟨_, _, _, rfl, _⟩ := h; rfl) | (obtain ⟨_, _, _, _, rfl, _⟩ := h; rfl) | (obtain ⟨_, _, _, _, _, rfl, _⟩ := h; rfl) | (obtain ⟨_, _, _, _, _, _, rfl, _⟩ := h; rfl) | (obtain ⟨_, _, _, _, _, _, _, rfl, _⟩ := h; rfl) | (obtain ⟨_, _, _, _, _, _, _, _, rfl, _⟩ := h; rfl) | (obtain ⟨_, _, _, _, _, _, _, _, _, rfl, _⟩ := h; rfl) | (obtain ⟨_, _, _, _, _, _, _, _, _, _, rfl, _⟩ := h; rfl) | (obtain ⟨_, _, _, _, _, _, _, _, _, _, _, rfl, _⟩ := h; rfl) | (obtain ⟨_, _, _, _, _, _, _, _, _, _, _, _, rfl, _⟩ := h; rfl) | (obtain ⟨_, _, _, _, _, _, _, _, _, _, _, _, _, rfl, _⟩ := h; rfl) | (obtain ⟨_, _, _, _, _, _, _, _, _, _, _, _, _, _, rfl, _⟩ := h; rfl) | (obtain ⟨_, _, _, _, _, _, _, _, _, _, _, _, _, _, _, rfl, _⟩ := h; rfl) | (obtain ⟨_, _, _, _, _, _, _, _, _, _, _, _, _, _, _, _, rfl, _⟩ := h; rfl) | (obtain ⟨_, _, _, _, _, _, _, _, _, _, _, _, _, _, _, _, _, rfl, _⟩ := h; rfl) | (obtain ⟨_, _, _, _, _, _, _, _, _, _, _, _, _, _, _, _, _, _, rfl, _⟩ := h; rfl) | (obtain ⟨_, _, _, _, _, _, _, _, _, _, _, _, _, _, _, _, _, _, _, rfl, _⟩ := h; rfl) | (obtain ⟨_, _, _, _, _, _, _, _, _, _, _, _, _, _, _, _, _, _, _, _, rfl, _⟩ := h; rfl) | (obtain ⟨_, _, _, _, _, _, _, _, _, _, _, _, _, _, _, _, _, _, _, _, _, rfl, _⟩ := h; rfl) | (obtain ⟨_, _, _, _, _, _, _, _, _, _, _, _, _, _, _, _, _, _, _, _, _, _, rfl, _⟩ := h; rfl) | (obtain ⟨_, _, _, _, _, _, _, _, _, _, _, _, _, _, _, _, _, _, _, _, _, _, _, rfl, _⟩ := h; rfl)
  · obtain ⟨n, rfl, hn, hp, q⟩ := h
    obtain ⟨t_GREATEST_PRIME, h_GREATEST_PRIME⟩ := T.x_GREATEST_PRIME
    refine ⟨_, (pss_cons (ps_expr (pe_call G_check_between (hr.mono (by decide)) (by rfl) g_check_between k_check_between b_check_between .nil pass0 (pa_cons (pv 0) (pa_cons pe_int (pa_cons (pe_glob (v := .int 10000) (by rfl) h_GREATEST_PRIME ⟨_, rfl⟩) pa_nil)))))
    (pss_one (ps_if (pt_not (pt_val (pe_call G_is_prime (hr.mono (by decide)) (by rfl) g_is_prime k_is_prime b_is_prime .nil pass0 (pa_cons (pv 0) pa_nil))))
      pss_never
      pss_nil))), ?_⟩
    have := hp.1
    refine ⟨_, rfl, _, _, _, rfl, ⟨by omega, by omega⟩, by omega, by omega, ?_⟩
    refine ⟨_, rfl, n, rfl, hn, hp.1, fun b hb => ⟨_, rfl, ?_⟩⟩
    rw [hb.mpr hp]
    exact iteF q
theorem ok_places_of_roots (T : Txt K mg C_Form) : Def P w K mg base 1 "places_of_roots" ["coefficients", "prime"] (sp_places_of_roots K C_Form) := by
  obtain ⟨f_, fd_, g_, F_⟩ := T.d_places_of_roots
  refine ⟨f_, fd_, g_, F_.kp, F_.binds (ps := ["coefficients", "prime"]) (fun _ _ _ _ _ _ us hl => match us, hl with | [_, _], _ => rfl), ?_⟩
  refine F_.ok sc_places_of_roots (fun vs H Q E h => ?_) (fun cdv A outer s H vs Q E hr h => ?_)
  · first | (obtain ⟨rfl, _⟩ := h; rfl) | (obtain ⟨_, rfl, _⟩ := h; rfl) | (obtain ⟨_, _, rfl, _⟩ := h; rfl) | (obtain ⟨_, _, _, rfl, _⟩ := h; rfl) | (obtain ⟨_, _, _, _, rfl, _⟩ := h; rfl) | (obtain ⟨_, _, _, _, _, rfl, _⟩ := h; rfl) | (obtain ⟨_, _, _, _, _, _, rfl, _⟩ := h; rfl) | (obtain ⟨_, _, _, _, _, _, _, rfl, _⟩ := h; rfl) | (obtain ⟨_, _, _, _, _, _, _, _, rfl, _⟩ := h; rfl) | (obtain ⟨_, _, _, _, _, _, _, _, _, rfl, _⟩ := h; rfl) | (obtain ⟨_, _, _, _, _, _, _, _, _, _, rfl, _⟩ := h; rfl) | (obtain ⟨_, _, _, _, _, _, _, _, _, _, _, rfl, _⟩ := h; rfl) | (obtain ⟨_, _, _, _, _, _, _, _, _, _, _, _, rfl, _⟩ := h; rfl) | (obtain ⟨_, _, _, _, _, _, _, _, _, _, _, _, _, rfl, _⟩ := h; rfl) | (obtain ⟨_, _, _, _, _, _, _, _, _, _, _, _, _, _, rfl, _⟩ := h; rfl) | (obtain ⟨_, _, _, _, _, _, _, _, _, _, _, _, _, _, _, rfl, _⟩ := h; rfl) | (obtain ⟨_, _, _, _, _, _, _, _, _, _, _, _, _, _, _, _, rfl, _⟩ := h; rfl) | (obtain ⟨_, _, _, _, _, _, _, _, _, _, _, _, _, _, _, _, _, rfl, _⟩ := h; rfl) | (obtain ⟨_, _, _, _, _, _, _, _, _, _, _, _, _, _, _, _, _, _, rfl, _⟩ := h; rfl) | (obtain ⟨_, _, _, _, _, _, _, _, _, _, _, _, _, _, _, _, _, _, _, rfl, _⟩ := h; rfl) | (obtain ⟨_, _, _, _, _, _, _, _, _, _, _, _, _, _, _, _, _, _, _, _, rfl, _⟩ := h; rfl) | (obtain ⟨_, _, _, _, _, _, _, _, _, _, _, _, _, _, _, _, _, _, _, _, _, rfl, _⟩ := h; rfl) | (obtain ⟨_, _, _, _, _, _, _, _, _, _, _, _, _, _, _, _, _, _, _, _, _, _, rfl, _⟩ := h; rfl) | (obtain ⟨_, _, _, _, _, _, _, _, _, _, _, _, _, _, _, _, _, _, _, _, _, _, _, rfl, _⟩ := h; rfl)
  · obtain ⟨t, a, b, c, d, p, rfl, ht, p0, p1, q⟩ := h
    obtain ⟨A_END, h_END, i_END⟩ := T.k_END
    obtain ⟨t_GREAT, h_GREAT⟩ := T.x_GREAT
    refine ⟨_, (pss_cons (ps_asg (pe_lc (own := [("number", 7)]) (g := (gName 7)) rfl sc_places_of_roots.nd (pi_tup (pv 0)) (blkOk_by (N := N_places_of_roots) (sc := defScope s_places_of_roots) (by decide +kernel)) (fun _ _ _ _ _ => (pg_name (i := 7) sc_places_of_roots.nd rfl (.inl rfl))) (fun _ _ _ _ _ => pts_nil) (fun _ _ _ _ _ => (pe_op op_mod (pv 7) (pv 1)))) (pg_lst (by rfl) (pgs_cons (pg_name (i := 2) sc_places_of_roots.nd rfl (.inr rfl)) (pgs_cons (pg_name (i := 3) sc_places_of_roots.nd rfl (.inr rfl)) (pgs_cons (pg_name (i := 4) sc_places_of_roots.nd rfl (.inr rfl)) (pgs_cons (pg_name (i := 5) sc_places_of_roots.nd rfl (.inr rfl)) pgs_nil))))))
    (Evl.pss_cut (ps_if (PW.pt (pw_or (pt_cmpR op_lt (pv 1) (pe_glob (v := .int 1000) (by rfl) h_GREAT ⟨_, rfl⟩) (nomark _)) (pw_or1 (pt_not (pt_val (pe_callB (cr_any rfl) (by rfl) T.b_any (by decide +kernel) (pa_cons (pe_lst (pa_cons (pv 2) (pa_cons (pv 3) (pa_cons (pv 4) (pa_cons (pv 5) pa_nil))))) pa_nil)))))))
      (pss_one (ps_setLc (i := 6) (own := [("x", 8)]) (g := (gName 8)) rfl sc_places_of_roots.nd rfl rfl (sw_true rfl rfl rfl (by decide +kernel)) (pi_range1 (by rfl) T.b_range (pa_cons (pv 1) pa_nil)) (blkOk_by (N := N_places_of_roots) (sc := defScope s_places_of_roots) (by decide +kernel)) (fun _ _ _ _ _ => (pg_name (i := 8) sc_places_of_roots.nd rfl (.inl rfl))) (fun _ _ _ _ _ => (pts_one (pt_cmpR op_eq (pe_op op_mod (pe_op op_add (pe_op op_mulW (pe_op op_add (pe_op op_mulW (pe_op op_add (pe_op op_mulW (pv 2) (pv 8)) (pv 3)) (pv 8)) (pv 4)) (pv 8)) (pv 5)) (pv 1)) pe_int (nomark _)))) (fun _ _ _ _ _ => (pe_tup (pa_cons (pv 8) (pa_cons pe_int pa_nil))))))
      pss_never)
    (pss_one (ps_ret (pe_callB cr_sortedPT (by rfl) T.b_sorted (by decide +kernel) (pa_cons (pe_ifExp (pt_cmpR op_eq (pv 2) pe_int (nomark _)) (pe_op op_cat (pv 6) (pe_lst (pa_cons (pe_glob (v := .ref A_END) (by rfl) h_END rfl) pa_nil))) (pv 6)) pa_nil)))))), ?_⟩
    refine ⟨_, rfl, t, rfl, ⟨_, SqT.of ht⟩, ?_⟩
    refine lcT fm0 trivial (SqT.of ht) (fun z => z) (fun i acc _ => acc = (([a % (p : Int), b % (p : Int), c % (p : Int), d % (p : Int)] : List Int).take i).map V.int) (fun _ _ => rfl) (fun D i v acc H' hD hv e hA hlen hp => ?_) (fun D H1 acc hD e hA hp => ?_)
    · obtain ⟨n, hn, rfl⟩ := get_int hv
      have hi : i < 4 := (List.getElem?_eq_some_iff.mp hn).1
      refine ⟨rfl, ?_⟩
      refine ⟨_, rfl, _, rfl, _, _, rfl, rfl, (show (0 : Int) < (p : Int) by omega), ?_⟩
      refine cs_yes fm0 trivial hD e hA hlen (by omega) (Fx.refl trivial) ?_
      show acc ++ [V.int (n % (p : Int))] = _
      rw [hp]
      match i, hn with
      | 0, hn => rw [← Option.some.inj hn]; rfl
      | 1, hn => rw [← Option.some.inj hn]; rfl
      | 2, hn => rw [← Option.some.inj hn]; rfl
      | 3, hn => rw [← Option.some.inj hn]; rfl
    have hp' : acc = ([a % (p : Int), b % (p : Int), c % (p : Int), d % (p : Int)] : List Int).map V.int := hp
    subst hp'
    refine ⟨D, _, rfl, SqL.of hA, rfl, _, _, rfl, _, _, rfl, _, _, rfl, _, _, rfl, rfl, ?_⟩
    have bm : ∀ z : Int, B 10 (z % (p : Int)) := fun z => by
      have h1 := Int.emod_nonneg z (show (p : Int) ≠ 0 by omega)
      have h2 := Int.emod_lt_of_pos z (show (0 : Int) < (p : Int) by omega)
      exact ⟨by show _ < 1024; omega, by decide⟩
    refine ⟨fun σ H2 => ∃ (l : Addr) (xs : List V), σ = [some (.ref t), some (.int (p : Int)), some (.int (a % (p : Int))), some (.int (b % (p : Int))), some (.int (c % (p : Int))), some (.int (d % (p : Int))), some (.ref l), none, none] ∧ Ex0 H H2 ∧ H2 l = some (.lst xs) ∧ PrT K H2 xs (((List.range p).filter fun (x : Nat) => rootB a b c d p x 1).map fun (x : Nat) => ((x : Int), (1 : Int))), ?_, ?_⟩
    · refine ⟨_, rfl, _, _, rfl, rfl, _, rfl, dT (by show (p : Int) < 1000; omega) ?_⟩
      refine ⟨_, rfl, _, rfl, by omega, by omega, ?_⟩
      refine lcR fm0 trivial (fun i acc H' => PrT K H' acc (((List.range i).filter fun (x : Nat) => rootB a b c d p x 1).map fun (x : Nat) => ((x : Int), (1 : Int)))) (fun _ _ => .nil) (fun D2 i acc H2 hD2 hi e2 hA2 hlen hp => ?_) (fun D2 H2 acc hD2 e2 hA2 hp => ?_)
      · have hi' : i < p := by simpa using hi
        have bx : B 10 (i : Int) := ⟨by show _ < 1024; omega, by decide⟩
        have s1 := B.add (B.mul (bm a) bx) (bm b)
        have s2 := B.add (B.mul s1 bx) (bm c)
        refine ⟨rfl, ?_⟩
        rw [show (0 : Int) + (i : Int) = (i : Int) by omega]
        refine ⟨_, rfl, _, rfl, _, _, rfl, rfl, mulB (bm a) bx (by decide), _, rfl, _, _, rfl, rfl, _, rfl, _, _, rfl, rfl, mulB s1 bx (by decide), _, rfl, _, _, rfl, rfl, _, rfl, _, _, rfl, rfl, mulB s2 bx (by decide), _, rfl, _, _, rfl, rfl, _, rfl, _, _, rfl, rfl, (show (0 : Int) < (p : Int) by omega), rfl, _, rfl, ?_⟩
        have e1 : decide (V.int ((((a % (p : Int) * (i : Int) + b % (p : Int)) * (i : Int) + c % (p : Int)) * (i : Int) + d % (p : Int)) % (p : Int)) = V.int 0) = rootB a b c d p i 1 := by
          rw [horner]
          exact decide_eq_decide.mpr ⟨fun z => V.int.inj z, fun z => congrArg V.int z⟩
        show if decide (V.int ((((a % (p : Int) * (i : Int) + b % (p : Int)) * (i : Int) + c % (p : Int)) * (i : Int) + d % (p : Int)) % (p : Int)) = V.int 0) = true then _ else _
        rw [e1]
        refine iteB (fun hk => ?_) (fun hk => ?_)
        · refine ⟨_, rfl, sl2, fun t2 n2 => ?_⟩
          have f2 := Ex0.new (o := .tup [.int (i : Int), .int 1]) n2
          refine cs_yes fm0 trivial hD2 e2 hA2 hlen (by omega) f2 ?_
          have hA3 := Ex0.ap f2 hA2
          rw [List.range_succ, List.filter_append, List.map_append, List.filter_cons, if_pos hk]
          exact ((hp.ex f2).upd hA3).snoc (sqT_upd hA3 (SqT.of upd_same))
        · refine cs_no fm0 trivial hD2 e2 hA2 hlen (Fx.refl trivial) ?_
          rw [List.range_succ, List.filter_append, List.map_append, List.filter_cons, if_neg (by rw [hk]; decide)]
          simpa using hp
      · have hn : (p : Int).toNat = p := by omega
        rw [hn] at hp
        exact ⟨D2, acc, rfl, Fx.trans e e2, hA2, hp⟩
    rintro σ H2 ⟨l, xs, rfl, e2, hl, hP⟩
    have len : (((List.range p).filter fun (x : Nat) => rootB a b c d p x 1).map fun (x : Nat) => ((x : Int), (1 : Int))).length ≤ 1000 := by
      rw [List.length_map]
      refine Nat.le_trans (List.length_filter_le _ _) ?_
      rw [List.length_range]
      omega
    refine ⟨_, rfl, rfl, _, rfl, iteE (fun h => ?_) (fun h => ?_)⟩
    · refine ⟨_, rfl, sl1, fun l1 n1 => ?_⟩
      have f1 := Ex0.new (o := .lst [.ref A_END]) n1
      have hP1 := hP.ex f1
      refine ⟨l, l1, xs, _, rfl, rfl, Ex0.ap f1 hl, upd_same, by rw [hP.len, sizeLine_eq]; show _ + 1 ≤ _; omega, fun l2 n2 => ?_⟩
      have f2 := Ex0.new (o := .lst (xs ++ [.ref A_END])) n2
      refine ⟨l2, _, _, rfl, SqL.of upd_same, (hP1.ex f2).snoc (i_END _), fun ys qs l3 pm srt hy n3 => ?_⟩
      have f3 := Ex0.new (o := .lst ys) n3
      refine q l3 _ ys qs (e2.trans (f1.trans (f2.trans f3))) (Fx.free (e2.trans (f1.trans f2)) (fun z => z) n3) upd_same (hy.ex f3) ?_ srt
      unfold rootsL
      rw [if_pos h]
      exact pm
    · refine ⟨_, rfl, l, xs, _, rfl, SqL.of hl, hP, fun ys qs l3 pm srt hy n3 => ?_⟩
      have f3 := Ex0.new (o := .lst ys) n3
      refine q l3 _ ys qs (e2.trans f3) (Fx.free e2 (fun z => z) n3) upd_same (hy.ex f3) ?_ srt
      unfold rootsL
      rw [if_neg h, List.append_nil]
      exact pm
theorem ok_power_at (T : Txt K mg C_Form) : Def P w K mg base 1 "power_at" ["base", "exponent", "prime"] (sp_power_at K C_Form) := by
  obtain ⟨f_, fd_, g_, F_⟩ := T.d_power_at
  refine ⟨f_, fd_, g_, F_.kp, F_.binds (ps := ["base", "exponent", "prime"]) (fun _ _ _ _ _ _ us hl => match us, hl with | [_, _, _], _ => rfl), ?_⟩
  refine F_.ok sc_power_at (fun vs H Q E h => ?_) (fun cdv A outer s H vs Q E hr h => ?_)
  · first | (obtain ⟨rfl, _⟩ := h; rfl) | (obtain ⟨_, rfl, _⟩ := h; rfl) | (obtain ⟨_, _, rfl, _⟩ := h; rfl) | (obtain ⟨_, _, _, rfl, _⟩ := h; rfl) | (obtain ⟨_, _, _, _, rfl, _⟩ := h; rfl) | (obtain ⟨_, _, _, _, _, rfl, _⟩ := h; rfl) | (obtain ⟨_, _, _, _, _, _, rfl, _⟩ := h; rfl) | (obtain ⟨_, _, _, _, _, _, _, rfl, _⟩ := h; rfl) | (obtain ⟨_, _, _, _, _, _, _, _, rfl, _⟩ := h; rfl) | (obtain ⟨_, _, _, _, _, _, _, _, _, rfl, _⟩ := h; rfl) | (obtain ⟨_, _, _, _, _, _, _, _, _, _, rfl, _⟩ := h; rfl) | (obtain ⟨_, _, _, _, _, _, _, _, _, _, _, rfl, _⟩ := h; rfl) | (obtain ⟨_, _, _, _, _, _, _, _, _, _, _, _, rfl, _⟩ := h; rfl) | (obtain ⟨_, _, _, _, _, _, _, _, _, _, _, _, _, rfl, _⟩ := h; rfl) | (obtain ⟨_, _, _, _, _, _, _, _, _, _, _, _, _, _, rfl, _⟩ := h; rfl) | (obtain ⟨_, _, _, _, _, _, _, _, _, _, _, _, _, _, _, rfl, _⟩ := h; rfl) | (obtain ⟨_, _, _, _, _, _, _, _, _, _, _, _, _, _, _, _, rfl, _⟩ := h; rfl) | (obtain ⟨_, _, _, _, _, _, _, _, _, _, _, _, _, _, _, _, _, rfl, _⟩ := h; rfl) | (obtain ⟨_, _, _, _, _, _, _, _, _, _, _, _, _, _, _, _, _, _, rfl, _⟩ := h; rfl) | (obtain ⟨_, _, _, _, _, _, _, _, _, _, _, _, _, _, _, _, _, _, _, rfl, _⟩ := h; rfl) | (obtain ⟨_, _, _, _, _, _, _, _, _, _, _, _, _, _, _, _, _, _, _, _, rfl, _⟩ := h; rfl) | (obtain ⟨_, _, _, _, _, _, _, _, _, _, _, _, _, _, _, _, _, _, _, _, _, rfl, _⟩ := h; rfl) | (obtain ⟨_, _, _, _, _, _, _, _, _, _, _, _, _, _, _, _, _, _, _, _, _, _, rfl, _⟩ := h; rfl) | (obtain ⟨_, _, _, _, _, _, _, _, _, _, _, _, _, _, _, _, _, _, _, _, _, _, _, rfl, _⟩ := h; rfl)
  · obtain ⟨a, e, n, rfl, n2, n1, a1, e1, q⟩ := h
    refine ⟨_, (pss_cons (ps_set (i := 3) sc_power_at.nd rfl (.inl rfl) pe_int)
    (pss_cons (ps_set (i := 4) sc_power_at.nd rfl (.inl rfl) (pe_op op_mod (pv 0) (pv 2)))
    (pss_cons (ps_set (i := 5) sc_power_at.nd rfl (.inl rfl) (pv 1))
    (pss_cons (ps_while PassesOwn.never (pt_cmpR op_gt (pv 5) pe_int (nomark _))
      (Evl.pss_cut (ps_if (pt_cmpR op_eq (pe_op op_odd (pv 5) pe_int) pe_int (nomark _))
      (pss_one (ps_set (i := 3) sc_power_at.nd rfl (.inl rfl) (pe_op op_mod (pe_op op_mul (pv 3) (pv 4)) (pv 2))))
      pss_nil)
    (pss_cons (ps_set (i := 4) sc_power_at.nd rfl (.inl rfl) (pe_op op_mod (pe_op op_mul (pv 4) (pv 4)) (pv 2)))
    (pss_one (ps_set (i := 5) sc_power_at.nd rfl (.inl rfl) (pe_op op_halfN (pv 5) pe_int))))))
    (pss_one (ps_ret (pv 3))))))), ?_⟩
    refine ⟨_, rfl, _, rfl, (a : Int), (n : Int), rfl, rfl, (show (0 : Int) < n by omega), ?_⟩
    refine ⟨_, rfl, ?_⟩
    have m0 : (a : Int) % (n : Int) = ((a % n : Nat) : Int) := (Int.natCast_emod a n).symm
    refine ⟨fun m σ H' => ∃ r s l : Nat, σ = [some (.int (a : Int)), some (.int (e : Int)), some (.int (n : Int)), some (.int (r : Int)), some (.int (s : Int)), some (.int (l : Int))] ∧ H = H' ∧ r < n ∧ s < n ∧ l ≤ e ∧ r * s ^ l % n = a ^ e % n ∧ m = l, ⟨_, 1, a % n, e, by rw [← m0]; rfl, rfl, by omega, Nat.mod_lt _ (by omega), Nat.le_refl _, ?_, rfl⟩, ?_⟩
    · rw [Nat.one_mul, ← Nat.pow_mod]
    rintro m σ H' ⟨r, s, l, rfl, rfl, r1, s1, l1, hh, rfl⟩
    refine ⟨_, rfl, _, _, rfl, rfl, _, rfl, iteD (fun g => ?_) (fun g => ?_)⟩
    · have g' : 0 < m := by omega
      refine ⟨fun σ' H'' => ∃ r s l : Nat, σ' = [some (.int (a : Int)), some (.int (e : Int)), some (.int (n : Int)), some (.int (r : Int)), some (.int (s : Int)), some (.int (l : Int))] ∧ H = H'' ∧ r < n ∧ s < n ∧ l ≤ e ∧ r * s ^ l % n = a ^ e % n ∧ l < m, fun σ' H'' ⟨r, s, l, b1, b2, b3, b4, b5, b6, b7⟩ => ⟨l, b7, r, s, l, b1, b2, b3, b4, b5, b6, rfl⟩, ?_⟩
      have sq : s ^ (2 * (m / 2)) = (s * s) ^ (m / 2) := by rw [Nat.pow_mul, Nat.pow_two]
      refine ⟨fun σ' H'' => ∃ r' : Nat, σ' = [some (.int (a : Int)), some (.int (e : Int)), some (.int (n : Int)), some (.int (r' : Int)), some (.int (s : Int)), some (.int (m : Int))] ∧ H = H'' ∧ r' < n ∧ r' * (s * s) ^ (m / 2) % n = a ^ e % n, ?_, ?_⟩
      · refine ⟨_, rfl, m, rfl, rfl, rfl, _, rfl, iteE (fun z => ?_) (fun z => ?_)⟩
        · have z' : m % 2 = 1 := by omega
          have mr : ((r : Int) * (s : Int)) % (n : Int) = ((r * s % n : Nat) : Int) := by rw [← Int.natCast_mul, ← Int.natCast_emod]
          refine ⟨_, rfl, _, rfl, _, _, rfl, rfl, .inl ⟨by omega, by omega⟩, _, rfl, (r : Int) * (s : Int), (n : Int), rfl, rfl, (show (0 : Int) < n by omega), ?_⟩
          refine ⟨r * s % n, by rw [← mr]; rfl, rfl, Nat.mod_lt _ (by omega), ?_⟩
          rw [← hh]
          conv => rhs; rw [show m = 2 * (m / 2) + 1 by omega, Nat.pow_succ, sq, Nat.mul_comm ((s * s) ^ (m / 2)) s, ← Nat.mul_assoc]
          rw [Nat.mul_mod, Nat.mod_mod, ← Nat.mul_mod]
        · refine ⟨r, rfl, rfl, r1, ?_⟩
          rw [← hh]
          conv => rhs; rw [show m = 2 * (m / 2) by omega, sq]
      rintro σ' H'' ⟨r', rfl, rfl, r1', hh'⟩
      have ms : ((s : Int) * (s : Int)) % (n : Int) = ((s * s % n : Nat) : Int) := by rw [← Int.natCast_mul, ← Int.natCast_emod]
      refine ⟨_, rfl, _, rfl, _, _, rfl, rfl, .inl ⟨by omega, by omega⟩, _, rfl, (s : Int) * (s : Int), (n : Int), rfl, rfl, (show (0 : Int) < n by omega), ?_⟩
      refine ⟨_, rfl, m, rfl, rfl, ?_⟩
      refine ⟨r', s * s % n, m / 2, by rw [← ms]; rfl, rfl, r1', Nat.mod_lt _ (by omega), by omega, ?_, by omega⟩
      rw [← hh', Nat.mul_mod, ← Nat.pow_mod, ← Nat.mul_mod]
    · have : m = 0 := by omega
      subst this
      rw [Nat.pow_zero, Nat.mul_one, Nat.mod_eq_of_lt r1] at hh
      refine ⟨_, rfl, ?_⟩
      rw [hh]
      exact q
end
end K52
namespace K52
set_option pp.maxSteps 3000
open PySem PySem.Spec PyProof.Rows L2 Fr
open K05M (fv fl2 fl3 fdisc)
section
def RwN (H : Hp) (l : Addr) (row : List Nat) : Prop := H l = some (.lst (row.map fun (n : Nat) => V.int (n : Int)))
def Full (a b c d p : Int) : Prop := p ∣ a ∧ p ∣ b ∧ p ∣ c ∧ p ∣ d
def wd (k : Nat) : Str := match k with
  | 0 => "none"
  | 1 => "pair"
  | 2 => "three"
  | 3 => "twice"
  | 4 => "thrice"
  | _ => "all"
def Pk (p : Nat) : Prop := p = 2 ∨ p = 3 ∨ p ∈ Stick.PL
theorem Pk.lt {p : Nat} (h : Pk p) : p < 1000 := by
  rcases h with rfl | rfl | h
  · decide
  · decide
  · have inst : NeZero p := ⟨fun z => by subst z; exact absurd h (by decide)⟩
    have := Stick.pl h
    omega
def sp_form_discriminant (_ : PySem.W.Frag) (C : Addr) : Sp := fun vs H Q _ => ∃ (t : Addr) (a b c d : Int), vs = [.ref t] ∧ Ti H t [a, b, c, d] ∧ B 1000 a ∧ B 1000 b ∧ B 1000 c ∧ B 1000 d ∧ Q (.int (fdisc a b c d)) H
def sp_form_hessian (_ : PySem.W.Frag) (C : Addr) : Sp := fun vs H Q _ => ∃ (t : Addr) (a b c d : Int), vs = [.ref t] ∧ Ti H t [a, b, c, d] ∧ B 1000 a ∧ B 1000 b ∧ B 1000 c ∧ B 1000 d ∧ ∀ (x : Addr) (H' : Hp), Ex0 H H' → Ti H' x [b * b - 3 * a * c, b * c - 9 * a * d, c * c - 3 * b * d] → Q (.ref x) H'
def sp_value_at (_ : PySem.W.Frag) (C : Addr) : Sp := fun vs H Q _ => ∃ (l : Addr) (row : List Nat) (x p : Nat), vs = [.ref l, .int (x : Int), .int (p : Int)] ∧ RwN H l row ∧ 0 < p ∧ p < 10 ∧ x < 10 ∧ (∀ n ∈ row, n < 10) ∧ row.length ≤ 4 ∧ Q (.int ((KindM.valN p x row : Nat) : Int)) H
def sp_less_root (_ : PySem.W.Frag) (C : Addr) : Sp := fun vs H Q _ => ∃ (l : Addr) (row : List Nat) (x p : Nat), vs = [.ref l, .int (x : Int), .int (p : Int)] ∧ RwN H l row ∧ 0 < p ∧ p < 10 ∧ x < 10 ∧ (∀ n ∈ row, n < 10) ∧ 1 ≤ row.length ∧ row.length ≤ 4 ∧ ∀ r H', Ex0 H H' → H r = none → RwN H' r (KindM.lessN p x row) → Q (.ref r) H'
def sp_times_at_end (_ : PySem.W.Frag) (C : Addr) : Sp := fun vs H Q _ => ∃ (l : Addr) (row rest : List Nat), vs = [.ref l] ∧ RwN H l row ∧ KindM.ahead row = some rest ∧ row.length ≤ 4 ∧ ∀ k : Nat, row.drop k = rest → k ≤ row.length → Q (.int (k : Int)) H
def sp_root_times (_ : PySem.W.Frag) (C : Addr) : Sp := fun vs H Q _ => ∃ (t : Addr) (a b c d p : Nat), vs = [.ref t, .int (p : Int)] ∧ Ti H t [(a : Int), (b : Int), (c : Int), (d : Int)] ∧ (p = 2 ∨ p = 3) ∧ a < p ∧ b < p ∧ c < p ∧ d < p ∧ ¬ (a = 0 ∧ b = 0 ∧ c = 0 ∧ d = 0) ∧ ∀ (x l1 l2 : Addr) (xs : List V) (rest : List Nat) (H' : Hp), Ex0 H H' → H' x = some (.tup [.ref l1, .ref l2]) → H' l1 = some (.lst xs) → RwN H' l2 rest → rest.length ≤ 4 → xs.length ≤ 10 → (1 < rest.length ∨ (1 ≤ xs.length ∧ xs.length ≤ 3)) → KindM.go p (KindM.sorted p [a, b, c, d]) [a, b, c, d] = some rest → xs.length = (KindM.sorted p [a, b, c, d]).length → Q (.ref x) H'
def sp_kind_by_roots (_ : PySem.W.Frag) (C : Addr) : Sp := fun vs H Q _ => ∃ (t : Addr) (a b c d p : Nat), vs = [.ref t, .int (p : Int)] ∧ Ti H t [(a : Int), (b : Int), (c : Int), (d : Int)] ∧ (p = 2 ∨ p = 3) ∧ a < p ∧ b < p ∧ c < p ∧ d < p ∧ ¬ (a = 0 ∧ b = 0 ∧ c = 0 ∧ d = 0) ∧ ∀ H', Ex0 H H' → Q (.str (wd (Stick.kN p [a, b, c, d]))) H'
def sp_kind_of (_ : PySem.W.Frag) (C : Addr) : Sp := fun vs H Q _ => ∃ (t : Addr) (a b c d : Int) (p : Nat), vs = [.ref t, .int (p : Int)] ∧ Ti H t [a, b, c, d] ∧ Pr p ∧ Pk p ∧ ∀ H', Ex0 H H' → Q (.str (wd (Stick.kn a b c d p))) H'
def sp_check_both (_ : PySem.W.Frag) (C : Addr) : Sp := fun vs H Q _ => ∃ (x : Addr) (ns : List Int) (p : Nat), vs = [.ref x, .int (p : Int)] ∧ FormAt C H x ns ∧ Pr p ∧ p < 1000 ∧ Q .non H
def sp_map_of (K : PySem.W.Frag) (C : Addr) : Sp := fun vs H Q _ => ∃ (t z : Addr) (a b c d x y p : Int), vs = [.ref t, .int p, .ref z] ∧ Ti H t [a, b, c, d] ∧ SqT K H z [.int x, .int y] ∧ 0 < p ∧ p < 1000 ∧ B 900 a ∧ B 900 b ∧ B 900 c ∧ B 900 d ∧ Plc p x y ∧ ∀ u H', Ex0 H H' → H' u = some (.tup [.int (MapM.mp a b c p (x, y)).1, .int (MapM.mp a b c p (x, y)).2]) → Q (.ref u) H'
def sp_kind_at (_ : PySem.W.Frag) (C : Addr) : Sp := fun vs H Q _ => ∃ (x : Addr) (a b c d : Int) (p : Nat), vs = [.ref x, .int (p : Int)] ∧ FormAt C H x [a, b, c, d] ∧ Pr p ∧ Pk p ∧ ∀ H', Ex0 H H' → Q (.str (wd (Stick.kn a b c d p))) H'
def sp_maps_at (K : PySem.W.Frag) (C : Addr) : Sp := fun vs H Q _ => ∃ (x : Addr) (a b c d : Int) (p : Nat), vs = [.ref x, .int (p : Int)] ∧ FormAt C H x [a, b, c, d] ∧ Pr p ∧ p < 1000 ∧ B 900 a ∧ B 900 b ∧ B 900 c ∧ B 900 d ∧ ∀ (t : Addr) (ys : List V) (qs : List (Int × Int)) (H' : Hp), Ex0 H H' → H' t = some (.tup ys) → PrT K H' ys qs → (Full a b c d p → qs = [(0, 0)]) → (¬ Full a b c d p → qs.Perm ((MapM.rootsG a b c d p).map (MapM.mp a b c p)) ∧ qs.Pairwise lexP) → qs.length ≤ 1001 → Q (.ref t) H'
theorem cut_lastV {xs : List V} (h : xs ≠ []) : cutV xs none (some (-1)) = xs.take (xs.length - 1) := by
  have := List.length_pos_iff.mpr h
  unfold cutV
  have e1 : HT.sIx xs.length 0 none = 0 := rfl
  have e2 : HT.sIx xs.length xs.length (some (-1)) = xs.length - 1 := by
    show (if (-1 : Int) < 0 then ((-1 : Int) + (xs.length : Int)).toNat else min (-1 : Int).toNat xs.length) = _
    rw [if_pos (by decide)]
    omega
  rw [e1, e2, List.drop_zero, Nat.sub_zero]
theorem cut_from {xs : List V} {k : Nat} (h : k ≤ xs.length) : cutV xs (some (k : Int)) none = xs.drop k := by
  unfold cutV
  rw [HT.sIx_nat, HT.sIx_none, Nat.min_eq_left h, List.take_of_length_le (by rw [List.length_drop]; omega)]
theorem full_iff (a b c d : Int) (p : Nat) : (((gcdL [a, b, c, d] : Nat) : Int) % (p : Int) = 0) ↔ Full a b c d p := by
  have e : gcdL [a, b, c, d] = Nat.gcd (Nat.gcd (Nat.gcd (Nat.gcd 0 a.natAbs) b.natAbs) c.natAbs) d.natAbs := rfl
  unfold Full
  rw [← Int.dvd_iff_emod_eq_zero, Int.ofNat_dvd, e, Nat.dvd_gcd_iff, Nat.dvd_gcd_iff, Nat.dvd_gcd_iff, Nat.gcd_zero_left, Int.ofNat_dvd_left, Int.ofNat_dvd_left, Int.ofNat_dvd_left, Int.ofNat_dvd_left, and_assoc, and_assoc]
theorem rootsL_eq (a b c d : Int) (p : Nat) : rootsL a b c d p = MapM.rootsG a b c d p := by
  unfold rootsL MapM.rootsG
  congr 1
  congr 1
  congr 1
  funext x
  unfold rootB
  rw [show fv a b c d (x : Int) 1 = MapM.f3 a b c d x from by unfold fv MapM.f3; grind]
theorem rootsL_plc {a b c d : Int} {p : Nat} {y z : Int} (h : (y, z) ∈ rootsL a b c d p) : Plc (p : Int) y z := by
  rw [rootsL_eq] at h
  rcases MapM.mem_roots.mp h with ⟨e, _⟩ | ⟨x, x0, x1, e, _⟩
  · obtain ⟨rfl, rfl⟩ := Prod.mk.inj e
    exact .inr ⟨rfl, rfl⟩
  · obtain ⟨rfl, rfl⟩ := Prod.mk.inj e
    exact .inl ⟨rfl, x0, x1⟩
theorem roots_len (a b c d : Int) (p : Nat) (h : p ≤ 1000) : (rootsL a b c d p).length ≤ 1001 := by
  unfold rootsL
  rw [List.length_append, List.length_map]
  have h1 := List.length_filter_le (fun (x : Nat) => rootB a b c d p x 1) (List.range p)
  rw [List.length_range] at h1
  by_cases g : a % (p : Int) = 0
  · rw [if_pos g, List.length_singleton]; omega
  · rw [if_neg g, List.length_nil]; omega
end
section
variable {P : Program} {w : World} {K : PySem.W.Frag} {mg : Str → Option Value} {base : Heap} {C_Form : Addr}
theorem ok_form_discriminant (T : Txt K mg C_Form) : Def P w K mg base 1 "form_discriminant" ["coefficients"] (sp_form_discriminant K C_Form) := by
  obtain ⟨f_, fd_, g_, F_⟩ := T.d_form_discriminant
  refine ⟨f_, fd_, g_, F_.kp, F_.binds (ps := ["coefficients"]) (fun _ _ _ _ _ _ us hl => match us, hl with | [_], _ => rfl), ?_⟩
  refine F_.ok sc_form_discriminant (fun vs H Q E h => ?_) (fun cdv A outer s H vs Q E hr h => ?_)
  · first | (obtain ⟨rfl, _⟩ := h; rfl) | (obtain ⟨_, rfl, _⟩ := h; rfl) | (obtain ⟨_, _, rfl, _⟩ := h; rfl) | (obtain ⟨_, _, _, rfl, _⟩ := h; rfl) | (obtain ⟨_, _, _, _, rfl, _⟩ := h; rfl) | (obtain ⟨_, _, _, _, _, rfl, _⟩ := h; rfl) | (obtain ⟨_, _, _, _, _, _, rfl, _⟩ := h; rfl) | (obtain ⟨_, _, _, _, _, _, _, rfl, _⟩ := h; rfl) | (obtain ⟨_, _, _, _, _, _, _, _, rfl, _⟩ := h; rfl) | (obtain ⟨_, _, _, _, _, _, _, _, _, rfl, _⟩ := h; rfl) | (obtain ⟨_, _, _, _, _, _, _, _, _, _, rfl, _⟩ := h; rfl) | (obtain ⟨_, _, _, _, _, _, _, _, _, _, _, rfl, _⟩ := h; rfl) | (obtain ⟨_, _, _, _, _, _, _, _, _, _, _, _, rfl, _⟩ := h; rfl) | (obtain ⟨_, _, _, _, _, _, _, _, _, _, _, _, _, rfl, _⟩ := h; rfl) | (obtain ⟨_, _, _, _, _, _, _, _, _, _, _, _, _, _, rfl, _⟩ := h; rfl) | (obtain ⟨_, _, _, _, _, _, _, _, _, _, _, _, _, _, _, rfl, _⟩ := h; rfl) | (obtain ⟨_, _, _, _, _, _, _, _, _, _, _, _, _, _, _, _, rfl, _⟩ := h; rfl) | (obtain ⟨_, _, _, _, _, _, _, _, _, _, _, _, _, _, _, _, _, rfl, _⟩ := h; rfl) | (obtain ⟨_, _, _, _, _, _, _, _, _, _, _, _, _, _, _, _, _, _, rfl, _⟩ := h; rfl) | (obtain ⟨_, _, _, _, _, _, _, _, _, _, _, _, _, _, _, _, _, _, _, rfl, _⟩ := h; rfl) | (obtain ⟨_, _, _, _, _, _, _, _, _, _, _, _, _, _, _, _, _, _, _, _, rfl, _⟩ := h; rfl) | (obtain ⟨_, _, _, _, _, _, _, _, _, _, _, _, _, _, _, _, _, _, _, _, _, rfl, _⟩ := h; rfl) | (obtain ⟨_, _, _, _, _, _, _, _, _, _, _, _, _, _, _, _, _, _, _, _, _, _, rfl, _⟩ := h; rfl) | (obtain ⟨_, _, _, _, _, _, _, _, _, _, _, _, _, _, _, _, _, _, _, _, _, _, _, rfl, _⟩ := h; rfl)
  · obtain ⟨t, a, b, c, d, rfl, ht, ba, bb, bc, bd, q⟩ := h
    refine ⟨_, (pss_cons (ps_asg (pv 0) (pg_tup (by rfl) (pgs_cons (pg_name (i := 1) sc_form_discriminant.nd rfl (.inl rfl)) (pgs_cons (pg_name (i := 2) sc_form_discriminant.nd rfl (.inl rfl)) (pgs_cons (pg_name (i := 3) sc_form_discriminant.nd rfl (.inl rfl)) (pgs_cons (pg_name (i := 4) sc_form_discriminant.nd rfl (.inl rfl)) pgs_nil))))))
    (pss_one (ps_ret (pe_op op_add (pe_op op_sub (pe_op op_sub (pe_op op_sub (pe_op op_mulW (pe_op op_mulW (pe_op op_mulW (pv 2) (pv 2)) (pv 3)) (pv 3)) (pe_op op_mulW (pe_op op_mulW (pe_op op_mulW (pe_op op_mulW pe_int (pv 1)) (pv 3)) (pv 3)) (pv 3))) (pe_op op_mulW (pe_op op_mulW (pe_op op_mulW (pe_op op_mulW pe_int (pv 2)) (pv 2)) (pv 2)) (pv 4))) (pe_op op_mulW (pe_op op_mulW (pe_op op_mulW (pe_op op_mulW pe_int (pv 1)) (pv 1)) (pv 4)) (pv 4))) (pe_op op_mulW (pe_op op_mulW (pe_op op_mulW (pe_op op_mulW pe_int (pv 1)) (pv 2)) (pv 3)) (pv 4)))))), ?_⟩
    refine ⟨_, rfl, unI4 ht ?_⟩
    exact ⟨_, rfl, _, rfl, _, _, rfl, rfl, mulB (by with_reducible assumption) (by with_reducible assumption) (by decide), _, rfl, _, _, rfl, rfl, mulB (B.mul (by with_reducible assumption) (by with_reducible assumption)) (by with_reducible assumption) (by decide), _, rfl, _, _, rfl, rfl, mulB (B.mul (B.mul (by with_reducible assumption) (by with_reducible assumption)) (by with_reducible assumption)) (by with_reducible assumption) (by decide), _, rfl, _, _, rfl, rfl, mulB (B.lit (by decide)) (by with_reducible assumption) (by decide), _, rfl, _, _, rfl, rfl, mulB (B.mul (B.lit (by decide)) (by with_reducible assumption)) (by with_reducible assumption) (by decide), _, rfl, _, _, rfl, rfl, mulB (B.mul (B.mul (B.lit (by decide)) (by with_reducible assumption)) (by with_reducible assumption)) (by with_reducible assumption) (by decide), _, rfl, _, _, rfl, rfl, mulB (B.mul (B.mul (B.mul (B.lit (by decide)) (by with_reducible assumption)) (by with_reducible assumption)) (by with_reducible assumption)) (by with_reducible assumption) (by decide), _, _, rfl, rfl, _, rfl, _, _, rfl, rfl, mulB (B.lit (by decide)) (by with_reducible assumption) (by decide), _, rfl, _, _, rfl, rfl, mulB (B.mul (B.lit (by decide)) (by with_reducible assumption)) (by with_reducible assumption) (by decide), _, rfl, _, _, rfl, rfl, mulB (B.mul (B.mul (B.lit (by decide)) (by with_reducible assumption)) (by with_reducible assumption)) (by with_reducible assumption) (by decide), _, rfl, _, _, rfl, rfl, mulB (B.mul (B.mul (B.mul (B.lit (by decide)) (by with_reducible assumption)) (by with_reducible assumption)) (by with_reducible assumption)) (by with_reducible assumption) (by decide), _, _, rfl, rfl, _, rfl, _, _, rfl, rfl, mulB (B.lit (by decide)) (by with_reducible assumption) (by decide), _, rfl, _, _, rfl, rfl, mulB (B.mul (B.lit (by decide)) (by with_reducible assumption)) (by with_reducible assumption) (by decide), _, rfl, _, _, rfl, rfl, mulB (B.mul (B.mul (B.lit (by decide)) (by with_reducible assumption)) (by with_reducible assumption)) (by with_reducible assumption) (by decide), _, rfl, _, _, rfl, rfl, mulB (B.mul (B.mul (B.mul (B.lit (by decide)) (by with_reducible assumption)) (by with_reducible assumption)) (by with_reducible assumption)) (by with_reducible assumption) (by decide), _, _, rfl, rfl, _, rfl, _, _, rfl, rfl, mulB (B.lit (by decide)) (by with_reducible assumption) (by decide), _, rfl, _, _, rfl, rfl, mulB (B.mul (B.lit (by decide)) (by with_reducible assumption)) (by with_reducible assumption) (by decide), _, rfl, _, _, rfl, rfl, mulB (B.mul (B.mul (B.lit (by decide)) (by with_reducible assumption)) (by with_reducible assumption)) (by with_reducible assumption) (by decide), _, rfl, _, _, rfl, rfl, mulB (B.mul (B.mul (B.mul (B.lit (by decide)) (by with_reducible assumption)) (by with_reducible assumption)) (by with_reducible assumption)) (by with_reducible assumption) (by decide), _, _, rfl, rfl, q⟩
theorem ok_form_hessian (T : Txt K mg C_Form) : Def P w K mg base 1 "form_hessian" ["coefficients"] (sp_form_hessian K C_Form) := by
  obtain ⟨f_, fd_, g_, F_⟩ := T.d_form_hessian
  refine ⟨f_, fd_, g_, F_.kp, F_.binds (ps := ["coefficients"]) (fun _ _ _ _ _ _ us hl => match us, hl with | [_], _ => rfl), ?_⟩
  refine F_.ok sc_form_hessian (fun vs H Q E h => ?_) (fun cdv A outer s H vs Q E hr h => ?_)
  · first | (obtain ⟨rfl, _⟩ := h; rfl) | (obtain ⟨_, rfl, _⟩ := h; rfl) | (obtain ⟨_, _, rfl, _⟩ := h; rfl) | (obtain ⟨_, _, _, rfl, _⟩ := h; rfl) | (obtain ⟨_, _, _, _, rfl, _⟩ := h; rfl) | (obtain ⟨_, _, _, _, _, rfl, _⟩ := h; rfl) | (obtain ⟨_, _, _, _, _, _, rfl, _⟩ := h; rfl) | (obtain ⟨_, _, _, _, _, _, _, rfl, _⟩ := h; rfl) | (obtain ⟨_, _, _, _, _, _, _, _, rfl, _⟩ := h; rfl) | (obtain ⟨_, _, _, _, _, _, _, _, _, rfl, _⟩ := h; rfl) | (obtain ⟨_, _, _, _, _, _, _, _, _, _, rfl, _⟩ := h; rfl) | (obtain ⟨_, _, _, _, _, _, _, _, _, _, _, rfl, _⟩ := h; rfl) | (obtain ⟨_, _, _, _, _, _, _, _, _, _, _, _, rfl, _⟩ := h; rfl) | (obtain ⟨_, _, _, _, _, _, _, _, _, _, _, _, _, rfl, _⟩ := h; rfl) | (obtain ⟨_, _, _, _, _, _, _, _, _, _, _, _, _, _, rfl, _⟩ := h; rfl) | (obtain ⟨_, _, _, _, _, _, _, _, _, _, _, _, _, _, _, rfl, _⟩ := h; rfl) | (obtain ⟨_, _, _, _, _, _, _, _, _, _, _, _, _, _, _, _, rfl, _⟩ := h; rfl) | (obtain ⟨_, _, _, _, _, _, _, _, _, _, _, _, _, _, _, _, _, rfl, _⟩ := h; rfl) | (obtain ⟨_, _, _, _, _, _, _, _, _, _, _, _, _, _, _, _, _, _, rfl, _⟩ := h; rfl) | (obtain ⟨_, _, _, _, _, _, _, _, _, _, _, _, _, _, _, _, _, _, _, rfl, _⟩ := h; rfl) | (obtain ⟨_, _, _, _, _, _, _, _, _, _, _, _, _, _, _, _, _, _, _, _, rfl, _⟩ := h; rfl) | (obtain ⟨_, _, _, _, _, _, _, _, _, _, _, _, _, _, _, _, _, _, _, _, _, rfl, _⟩ := h; rfl) | (obtain ⟨_, _, _, _, _, _, _, _, _, _, _, _, _, _, _, _, _, _, _, _, _, _, rfl, _⟩ := h; rfl) | (obtain ⟨_, _, _, _, _, _, _, _, _, _, _, _, _, _, _, _, _, _, _, _, _, _, _, rfl, _⟩ := h; rfl)
  · obtain ⟨t, a, b, c, d, rfl, ht, ba, bb, bc, bd, q⟩ := h
    refine ⟨_, (pss_cons (ps_asg (pv 0) (pg_tup (by rfl) (pgs_cons (pg_name (i := 1) sc_form_hessian.nd rfl (.inl rfl)) (pgs_cons (pg_name (i := 2) sc_form_hessian.nd rfl (.inl rfl)) (pgs_cons (pg_name (i := 3) sc_form_hessian.nd rfl (.inl rfl)) (pgs_cons (pg_name (i := 4) sc_form_hessian.nd rfl (.inl rfl)) pgs_nil))))))
    (pss_one (ps_ret (pe_tup (pa_cons (pe_op op_sub (pe_op op_mulW (pv 2) (pv 2)) (pe_op op_mulW (pe_op op_mulW pe_int (pv 1)) (pv 3))) (pa_cons (pe_op op_sub (pe_op op_mulW (pv 2) (pv 3)) (pe_op op_mulW (pe_op op_mulW pe_int (pv 1)) (pv 4))) (pa_cons (pe_op op_sub (pe_op op_mulW (pv 3) (pv 3)) (pe_op op_mulW (pe_op op_mulW pe_int (pv 2)) (pv 4))) pa_nil))))))), ?_⟩
    refine ⟨_, rfl, unI4 ht ?_⟩
    exact ⟨_, rfl, _, rfl, _, _, rfl, rfl, mulB (by with_reducible assumption) (by with_reducible assumption) (by decide), _, rfl, _, _, rfl, rfl, mulB (B.lit (by decide)) (by with_reducible assumption) (by decide), _, rfl, _, _, rfl, rfl, mulB (B.mul (B.lit (by decide)) (by with_reducible assumption)) (by with_reducible assumption) (by decide), _, _, rfl, rfl, _, rfl, _, rfl, _, _, rfl, rfl, mulB (by with_reducible assumption) (by with_reducible assumption) (by decide), _, rfl, _, _, rfl, rfl, mulB (B.lit (by decide)) (by with_reducible assumption) (by decide), _, rfl, _, _, rfl, rfl, mulB (B.mul (B.lit (by decide)) (by with_reducible assumption)) (by with_reducible assumption) (by decide), _, _, rfl, rfl, _, rfl, _, rfl, _, _, rfl, rfl, mulB (by with_reducible assumption) (by with_reducible assumption) (by decide), _, rfl, _, _, rfl, rfl, mulB (B.lit (by decide)) (by with_reducible assumption) (by decide), _, rfl, _, _, rfl, rfl, mulB (B.mul (B.lit (by decide)) (by with_reducible assumption)) (by with_reducible assumption) (by decide), _, _, rfl, rfl, sl3, fun x nx => q x _ (Ex0.new nx) upd_same⟩
theorem ok_value_at (T : Txt K mg C_Form) : Def P w K mg base 1 "value_at" ["row", "x", "prime"] (sp_value_at K C_Form) := by
  obtain ⟨f_, fd_, g_, F_⟩ := T.d_value_at
  refine ⟨f_, fd_, g_, F_.kp, F_.binds (ps := ["row", "x", "prime"]) (fun _ _ _ _ _ _ us hl => match us, hl with | [_, _, _], _ => rfl), ?_⟩
  refine F_.ok sc_value_at (fun vs H Q E h => ?_) (fun cdv A outer s H vs Q E hr h => ?_)
  · first | (obtain ⟨rfl, _⟩ := h; rfl) | (obtain ⟨_, rfl, _⟩ := h; rfl) | (obtain ⟨_, _, rfl, _⟩ := h; rfl) | (obtain ⟨_, _, _, rfl, _⟩ := h; rfl) | (obtain ⟨_, _, _, _, rfl, _⟩ := h; rfl) | (obtain ⟨_, _, _, _, _, rfl, _⟩ := h; rfl) | (obtain ⟨_, _, _, _, _, _, rfl, _⟩ := h; rfl) | (obtain ⟨_, _, _, _, _, _, _, rfl, _⟩ := h; rfl) | (obtain ⟨_, _, _, _, _, _, _, _, rfl, _⟩ := h; rfl) | (obtain ⟨_, _, _, _, _, _, _, _, _, rfl, _⟩ := h; rfl) | (obtain ⟨_, _, _, _, _, _, _, _, _, _, rfl, _⟩ := h; rfl) | (obtain ⟨_, _, _, _, _, _, _, _, _, _, _, rfl, _⟩ := h; rfl) | (obtain ⟨_, _, _, _, _, _, _, _, _, _, _, _, rfl, _⟩ := h; rfl) | (obtain ⟨_, _, _, _, _, _, _, _, _, _, _, _, _, rfl, _⟩ := h; rfl) | (obtain ⟨_, _, _, _, _, _, _, _, _, _, _, _, _, _, rfl, _⟩ := h; rfl) | (obtain ⟨_, _, _, _, _, _, _, _, _, _, _, _, _, _, _, rfl, _⟩ := h; rfl) | (obtain ⟨_, _, _, _, _, _, _, _, _, _, _, _, _, _, _, _, rfl, _⟩ := h; rfl) | (obtain ⟨_, _, _, _, _, _, _, _, _, _, _, _, _, _, _, _, _, rfl, _⟩ := h; rfl) | (obtain ⟨_, _, _, _, _, _, _, _, _, _, _, _, _, _, _, _, _, _, rfl, _⟩ := h; rfl) | (obtain ⟨_, _, _, _, _, _, _, _, _, _, _, _, _, _, _, _, _, _, _, rfl, _⟩ := h; rfl) | (obtain ⟨_, _, _, _, _, _, _, _, _, _, _, _, _, _, _, _, _, _, _, _, rfl, _⟩ := h; rfl) | (obtain ⟨_, _, _, _, _, _, _, _, _, _, _, _, _, _, _, _, _, _, _, _, _, rfl, _⟩ := h; rfl) | (obtain ⟨_, _, _, _, _, _, _, _, _, _, _, _, _, _, _, _, _, _, _, _, _, _, rfl, _⟩ := h; rfl) | (obtain ⟨_, _, _, _, _, _, _, _, _, _, _, _, _, _, _, _, _, _, _, _, _, _, _, rfl, _⟩ := h; rfl)
  · obtain ⟨l, row, x, p, rfl, hl, p0, p1, x1, hn, hlen, q⟩ := h
    refine ⟨_, (pss_cons (ps_set (i := 3) sc_value_at.nd rfl (.inl rfl) pe_int)
    (pss_cons (ps_for PassesOwn.never rfl (pi_list (pv 0)) (pg_name (i := 4) sc_value_at.nd rfl (.inl rfl))
      (pss_one (ps_set (i := 3) sc_value_at.nd rfl (.inl rfl) (pe_op op_mod (pe_op op_add (pe_op op_mulW (pv 3) (pv 1)) (pv 4)) (pv 2)))))
    (pss_one (ps_ret (pv 3))))), ?_⟩
    refine ⟨_, rfl, l, rfl, ⟨_, SqL.of hl⟩, ?_⟩
    have hl' : H l = some (.lst (row.map fun (n : Nat) => V.int (n : Int))) := hl
    refine for_list (xs := row.map fun (n : Nat) => V.int (n : Int)) (fun i σ H' => ∃ y4 : Option V, σ = [some (.ref l), some (.int (x : Int)), some (.int (p : Int)), some (.int ((KindM.valN p x (row.take i) : Nat) : Int)), y4] ∧ H' = H) ⟨none, rfl, rfl⟩ (fun i σ H' _ ⟨_, _, e⟩ => by subst e; exact SqL.of hl') ?_ ?_
    · rintro i v σ H' hv ⟨y4, rfl, rfl⟩
      rw [List.getElem?_map] at hv
      obtain ⟨n, hn', rfl⟩ := Option.map_eq_some_iff.mp hv
      have b1 : B 10 ((KindM.valN p x (row.take i) : Nat) : Int) := ⟨by have := KindM.valN_lt p0 (x := x) (row.take i); show _ < 1024; omega, by decide⟩
      have bx : B 10 (x : Int) := ⟨by show _ < 1024; omega, by decide⟩
      refine ⟨_, rfl, _, rfl, _, _, rfl, rfl, mulB b1 bx (by decide), _, rfl, _, _, rfl, rfl, _, rfl, _, _, rfl, rfl, (show (0 : Int) < (p : Int) by omega), ?_⟩
      refine ⟨some (.int (n : Int)), ?_, rfl⟩
      rw [KindM.valN_take hn', Int.natCast_emod, Int.natCast_add, Int.natCast_mul]
      rfl
    · rintro σ H' ⟨y4, rfl, rfl⟩
      rw [List.length_map, List.take_length]
      exact ⟨_, rfl, q⟩
theorem ok_less_root (T : Txt K mg C_Form) : Def P w K mg base 1 "less_root" ["row", "x", "prime"] (sp_less_root K C_Form) := by
  obtain ⟨f_, fd_, g_, F_⟩ := T.d_less_root
  refine ⟨f_, fd_, g_, F_.kp, F_.binds (ps := ["row", "x", "prime"]) (fun _ _ _ _ _ _ us hl => match us, hl with | [_, _, _], _ => rfl), ?_⟩
  refine F_.ok sc_less_root (fun vs H Q E h => ?_) (fun cdv A outer s H vs Q E hr h => ?_)
  · first | (obtain ⟨rfl, _⟩ := h; rfl) | (obtain ⟨_, rfl, _⟩ := h; rfl) | (obtain ⟨_, _, rfl, _⟩ := h; rfl) | (obtain ⟨_, _, _, rfl, _⟩ := h; rfl) | (obtain ⟨_, _, _, _, rfl, _⟩ := h; rfl) | (obtain ⟨_, _, _, _, _, rfl, _⟩ := h; rfl) | (obtain ⟨_, _, _, _, _, _, rfl, _⟩ := h; rfl) | (obtain ⟨_, _, _, _, _, _, _, rfl, _⟩ := h; rfl) | (obtain ⟨_, _, _, _, _, _, _, _, rfl, _⟩ := h; rfl) | (obtain ⟨_, _, _, _, _, _, _, _, _, rfl, _⟩ := h; rfl) | (obtain ⟨_, _, _, _, _, _, _, _, _, _, rfl, _⟩ := h; rfl) | (obtain ⟨_, _, _, _, _, _, _, _, _, _, _, rfl, _⟩ := h; rfl) | (obtain ⟨_, _, _, _, _, _, _, _, _, _, _, _, rfl, _⟩ := h; rfl) | (obtain ⟨_, _, _, _, _, _, _, _, _, _, _, _, _, rfl, _⟩ := h; rfl) | (obtain ⟨_, _, _, _, _, _, _, _, _, _, _, _, _, _, rfl, _⟩ := h; rfl) | (obtain ⟨_, _, _, _, _, _, _, _, _, _, _, _, _, _, _, rfl, _⟩ := h; rfl) | (obtain ⟨_, _, _, _, _, _, _, _, _, _, _, _, _, _, _, _, rfl, _⟩ := h; rfl) | (obtain ⟨_, _, _, _, _, _, _, _, _, _, _, _, _, _, _, _, _, rfl, _⟩ := h; rfl) | (obtain ⟨_, _, _, _, _, _, _, _, _, _, _, _, _, _, _, _, _, _, rfl, _⟩ := h; rfl) | (obtain ⟨_, _, _, _, _, _, _, _, _, _, _, _, _, _, _, _, _, _, _, rfl, _⟩ := h; rfl) | (obtain ⟨_, _, _, _, _, _, _, _, _, _, _, _, _, _, _, _, _, _, _, _, rfl, _⟩ := h; rfl) | (obtain ⟨_, _, _, _, _, _, _, _, _, _, _, _, _, _, _, _, _, _, _, _, _, rfl, _⟩ := h; rfl) | (obtain ⟨_, _, _, _, _, _, _, _, _, _, _, _, _, _, _, _, _, _, _, _, _, _, rfl, _⟩ := h; rfl) | (obtain ⟨_, _, _, _, _, _, _, _, _, _, _, _, _, _, _, _, _, _, _, _, _, _, _, rfl, _⟩ := h; rfl)
  · obtain ⟨l, row, x, p, rfl, hl, p0, p1, x1, hn, hl1, hlen, q⟩ := h
    refine ⟨_, (pss_cons (ps_set (i := 3) sc_less_root.nd rfl (.inl rfl) (pe_lst pa_nil))
    (pss_cons (ps_set (i := 4) sc_less_root.nd rfl (.inl rfl) pe_int)
    (pss_cons (ps_for PassesOwn.never rfl (pi_list (pe_slice sl_list (pv 0) po_none (po_some (pe_un un_neg pe_int)))) (pg_name (i := 5) sc_less_root.nd rfl (.inl rfl))
      (pss_cons (ps_set (i := 4) sc_less_root.nd rfl (.inl rfl) (pe_op op_mod (pe_op op_add (pe_op op_mulW (pv 4) (pv 1)) (pv 5)) (pv 2)))
    (pss_one (ps_expr (pe_bm PySem.F.plainAttrs_list PySem.F.slot_list_append PySem.F.type_list_append mt_append (pv 3) (pa_cons (pv 4) pa_nil))))))
    (pss_one (ps_ret (pv 3)))))), ?_⟩
    refine ⟨Nat.zero_le _, fun f nf => ?_⟩
    have ef := Ex0.new (o := .lst []) nf
    have hl' : H l = some (.lst (row.map fun (n : Nat) => V.int (n : Int))) := hl
    have hlf := Ex0.ap ef hl'
    have e1 : row ≠ [] := by
      rintro rfl
      exact absurd hl1 (by decide)
    refine ⟨_, rfl, _, rfl, _, rfl, l, _, rfl, SqL.of hlf, fun sl nsl => ?_⟩
    rw [cut_lastV (show (row.map fun (n : Nat) => V.int (n : Int)) ≠ [] by simpa using e1), List.length_map]
    have es := Ex0.new (o := .lst ((row.map fun (n : Nat) => V.int (n : Int)).take (row.length - 1))) nsl
    refine ⟨sl, rfl, ⟨_, SqL.of upd_same⟩, ?_⟩
    have nfs : f ≠ sl := by
      rintro rfl
      rw [upd_same] at nsl
      cases nsl
    have hf2 := Ex0.ap es (show upd H f (.lst []) f = some (.lst []) from upd_same)
    have ff : Ex0 H (upd (upd H f (.lst [])) sl (.lst ((row.map fun (n : Nat) => V.int (n : Int)).take (row.length - 1)))) := ef.trans es
    have hsl : (upd (upd H f (.lst [])) sl (.lst ((row.map fun (n : Nat) => V.int (n : Int)).take (row.length - 1)))) sl = some (.lst ((row.map fun (n : Nat) => V.int (n : Int)).take (row.length - 1))) := upd_same
    generalize upd (upd H f (.lst [])) sl (.lst ((row.map fun (n : Nat) => V.int (n : Int)).take (row.length - 1))) = H2 at *
    refine for_list (xs := (row.map fun (n : Nat) => V.int (n : Int)).take (row.length - 1)) (fun i σ H' => ∃ y5 : Option V, σ = [some (.ref l), some (.int (x : Int)), some (.int (p : Int)), some (.ref f), some (.int ((KindM.valN p x (row.take i) : Nat) : Int)), y5] ∧ Ex0 H H' ∧ H' sl = some (.lst ((row.map fun (n : Nat) => V.int (n : Int)).take (row.length - 1))) ∧ RwN H' f ((List.range i).map fun j => KindM.valN p x (row.take (j + 1)))) ⟨none, rfl, ff, hsl, hf2⟩ (fun i σ H' _ ⟨_, _, _, e, _⟩ => SqL.of e) ?_ ?_
    · rintro i v σ H3 hv ⟨y5, rfl, e3, hsl3, hf3⟩
      have hv2 : i < row.length - 1 ∧ (row.map fun (n : Nat) => V.int (n : Int))[i]? = some v := by
        rw [List.getElem?_take] at hv
        split at hv
        · exact ⟨by assumption, hv⟩
        · cases hv
      obtain ⟨hi, hv3⟩ := hv2
      rw [List.getElem?_map] at hv3
      obtain ⟨n, hn', rfl⟩ := Option.map_eq_some_iff.mp hv3
      have b1 : B 10 ((KindM.valN p x (row.take i) : Nat) : Int) := ⟨by have := KindM.valN_lt p0 (x := x) (row.take i); show _ < 1024; omega, by decide⟩
      have bx : B 10 (x : Int) := ⟨by show _ < 1024; omega, by decide⟩
      have hf3' : H3 f = some (.lst (((List.range i).map fun j => KindM.valN p x (row.take (j + 1))).map fun (n : Nat) => V.int (n : Int))) := hf3
      refine ⟨_, rfl, _, rfl, _, _, rfl, rfl, mulB b1 bx (by decide), _, rfl, _, _, rfl, rfl, _, rfl, _, _, rfl, rfl, (show (0 : Int) < (p : Int) by omega), ?_⟩
      have ev : ((KindM.valN p x (row.take i) : Nat) : Int) * (x : Int) + (n : Int) = ((KindM.valN p x (row.take i) * x + n : Nat) : Int) := by
        rw [Int.natCast_add, Int.natCast_mul]
      have ev2 : (((KindM.valN p x (row.take i) : Nat) : Int) * (x : Int) + (n : Int)) % (p : Int) = ((KindM.valN p x (row.take (i + 1)) : Nat) : Int) := by
        rw [KindM.valN_take hn', Int.natCast_emod, ev]
      refine ⟨_, rfl, .inl ⟨rfl, _, SqL.of hf3'⟩, _, rfl, f, _, _, rfl, rfl, hf3', by rw [List.length_map, List.length_map, List.length_range]; exact Nat.lt_of_lt_of_le hi (Nat.le_trans (Nat.sub_le _ _) (Nat.le_trans hlen (by decide))), ?_⟩
      refine ⟨some (.int (n : Int)), ?_, Fx.mut fm0 e3 trivial nf, ?_, ?_⟩
      · rw [← ev2]
        rfl
      · rw [upd_ne (Ne.symm nfs)]
        exact hsl3
      · unfold RwN
        rw [upd_same, List.range_succ, List.map_append, List.map_append]
        exact congrArg (fun z => some (HO.lst (_ ++ [z]))) (congrArg V.int ev2)
    · rintro σ H3 ⟨y5, rfl, e3, hsl3, hf3⟩
      refine ⟨_, rfl, q f H3 e3 nf ?_⟩
      rw [List.length_take, List.length_map, Nat.min_eq_left (Nat.sub_le _ _)] at hf3
      unfold KindM.lessN
      rw [KindM.lessG_eq]
      exact hf3
theorem ok_times_at_end (T : Txt K mg C_Form) : Def P w K mg base 1 "times_at_end" ["row"] (sp_times_at_end K C_Form) := by
  obtain ⟨f_, fd_, g_, F_⟩ := T.d_times_at_end
  refine ⟨f_, fd_, g_, F_.kp, F_.binds (ps := ["row"]) (fun _ _ _ _ _ _ us hl => match us, hl with | [_], _ => rfl), ?_⟩
  refine F_.ok sc_times_at_end (fun vs H Q E h => ?_) (fun cdv A outer s H vs Q E hr h => ?_)
  · first | (obtain ⟨rfl, _⟩ := h; rfl) | (obtain ⟨_, rfl, _⟩ := h; rfl) | (obtain ⟨_, _, rfl, _⟩ := h; rfl) | (obtain ⟨_, _, _, rfl, _⟩ := h; rfl) | (obtain ⟨_, _, _, _, rfl, _⟩ := h; rfl) | (obtain ⟨_, _, _, _, _, rfl, _⟩ := h; rfl) | (obtain ⟨_, _, _, _, _, _, rfl, _⟩ := h; rfl) | (obtain ⟨_, _, _, _, _, _, _, rfl, _⟩ := h; rfl) | (obtain ⟨_, _, _, _, _, _, _, _, rfl, _⟩ := h; rfl) | (obtain ⟨_, _, _, _, _, _, _, _, _, rfl, _⟩ := h; rfl) | (obtain ⟨_, _, _, _, _, _, _, _, _, _, rfl, _⟩ := h; rfl) | (obtain ⟨_, _, _, _, _, _, _, _, _, _, _, rfl, _⟩ := h; rfl) | (obtain ⟨_, _, _, _, _, _, _, _, _, _, _, _, rfl, _⟩ := h; rfl) | (obtain ⟨_, _, _, _, _, _, _, _, _, _, _, _, _, rfl, _⟩ := h; rfl) | (obtain ⟨_, _, _, _, _, _, _, _, _, _, _, _, _, _, rfl, _⟩ := h; rfl) | (obtain ⟨_, _, _, _, _, _, _, _, _, _, _, _, _, _, _, rfl, _⟩ := h; rfl) | (obtain ⟨_, _, _, _, _, _, _, _, _, _, _, _, _, _, _, _, rfl, _⟩ := h; rfl) | (obtain ⟨_, _, _, _, _, _, _, _, _, _, _, _, _, _, _, _, _, rfl, _⟩ := h; rfl) | (obtain ⟨_, _, _, _, _, _, _, _, _, _, _, _, _, _, _, _, _, _, rfl, _⟩ := h; rfl) | (obtain ⟨_, _, _, _, _, _, _, _, _, _, _, _, _, _, _, _, _, _, _, rfl, _⟩ := h; rfl) | (obtain ⟨_, _, _, _, _, _, _, _, _, _, _, _, _, _, _, _, _, _, _, _, rfl, _⟩ := h; rfl) | (obtain ⟨_, _, _, _, _, _, _, _, _, _, _, _, _, _, _, _, _, _, _, _, _, rfl, _⟩ := h; rfl) | (obtain ⟨_, _, _, _, _, _, _, _, _, _, _, _, _, _, _, _, _, _, _, _, _, _, rfl, _⟩ := h; rfl) | (obtain ⟨_, _, _, _, _, _, _, _, _, _, _, _, _, _, _, _, _, _, _, _, _, _, _, rfl, _⟩ := h; rfl)
  · obtain ⟨l, row, rest, rfl, hl, ha, hlen, q⟩ := h
    refine ⟨_, (pss_cons (ps_set (i := 1) sc_times_at_end.nd rfl (.inl rfl) pe_int)
    (pss_cons (ps_while PassesOwn.never (pt_cmpR op_eq (pe_ix ix_list (pv 0) (pv 1) (fun _ _ => rfl)) pe_int (nomark _))
      (pss_one (ps_aug (i := 1) sc_times_at_end.nd rfl (.inl rfl) pe_int ip_add)))
    (pss_one (ps_ret (pv 1))))), ?_⟩
    have hl' : H l = some (.lst (row.map fun (n : Nat) => V.int (n : Int))) := hl
    refine ⟨fun m σ H' => ∃ k : Nat, σ = [some (.ref l), some (.int (k : Int))] ∧ H' = H ∧ k ≤ row.length ∧ KindM.ahead (row.drop k) = some rest ∧ m = row.length - k, ⟨_, 0, rfl, rfl, Nat.zero_le _, ha, rfl⟩, ?_⟩
    rintro m σ H' ⟨k, rfl, rfl, k1, k2, rfl⟩
    have kl : k < row.length := by
      rcases Nat.lt_or_ge k row.length with h | h
      · exact h
      · rw [List.drop_eq_nil_of_le h] at k2
        cases k2
    have e1 : row.drop k = row[k] :: row.drop (k + 1) := (List.drop_eq_getElem_cons kl)
    refine ⟨_, rfl, _, rfl, l, _, (k : Int), .int (row[k] : Nat), rfl, rfl, SqL.of hl', atI_nat (by rw [List.getElem?_map, List.getElem?_eq_getElem kl]; rfl), rfl, _, rfl, iteE (fun g => ?_) (fun g => ?_)⟩
    · refine ⟨fun σ' H'' => ∃ k' : Nat, σ' = [some (.ref l), some (.int (k' : Int))] ∧ H'' = H' ∧ k' ≤ row.length ∧ KindM.ahead (row.drop k') = some rest ∧ row.length - k' < row.length - k, fun σ' H'' ⟨k', b1, b2, b3, b4, b5⟩ => ⟨_, b5, k', b1, b2, b3, b4, rfl⟩, ?_⟩
      have g0 : row[k] = 0 := by omega
      rw [e1, g0] at k2
      exact ⟨_, rfl, _, _, rfl, rfl, k + 1, rfl, rfl, by omega, k2, by omega⟩
    · have g0 : row[k] ≠ 0 := by omega
      rw [e1, KindM.ahead_pos g0] at k2
      exact ⟨_, rfl, q k (by rw [e1]; exact Option.some.inj k2) k1⟩
theorem ok_root_times (T : Txt K mg C_Form) : Def P w K mg base 2 "root_times" ["coefficients", "prime"] (sp_root_times K C_Form) := by
  obtain ⟨f_, fd_, g_, F_⟩ := T.d_root_times
  obtain ⟨f_less_root, fd_less_root, g_less_root, k_less_root, b_less_root, G_less_root⟩ := (ok_less_root (P := P) (w := w) (base := base) T)
  obtain ⟨f_places_of_roots, fd_places_of_roots, g_places_of_roots, k_places_of_roots, b_places_of_roots, G_places_of_roots⟩ := (ok_places_of_roots (P := P) (w := w) (base := base) T)
  obtain ⟨f_times_at_end, fd_times_at_end, g_times_at_end, k_times_at_end, b_times_at_end, G_times_at_end⟩ := (ok_times_at_end (P := P) (w := w) (base := base) T)
  obtain ⟨f_value_at, fd_value_at, g_value_at, k_value_at, b_value_at, G_value_at⟩ := (ok_value_at (P := P) (w := w) (base := base) T)
  refine ⟨f_, fd_, g_, F_.kp, F_.binds (ps := ["coefficients", "prime"]) (fun _ _ _ _ _ _ us hl => match us, hl with | [_, _], _ => rfl), ?_⟩
  refine F_.ok sc_root_times (fun vs H Q E h => ?_) (fun cdv A outer s H vs Q E hr h => ?_)
  · first | (obtain ⟨rfl, _⟩ := h; rfl) | (obtain ⟨_, rfl, _⟩ := h; rfl) | (obtain ⟨_, _, rfl, _⟩ := h; rfl) | (obtain ⟨_, _, _, rfl, _⟩ := h; rfl) | (obtain ⟨_, _, _, _, rfl, _⟩ := h; rfl) | (obtain ⟨_, _, _, _, _, rfl, _⟩ := h; rfl) | (obtain ⟨_, _, _, _, _, _, rfl, _⟩ := h; rfl) | (obtain ⟨_, _, _, _, _, _, _, rfl, _⟩ := h; rfl) | (obtain ⟨_, _, _, _, _, _, _, _, rfl, _⟩ := h; rfl) | (obtain ⟨_, _, _, _, _, _, _, _, _, rfl, _⟩ := h; rfl) | (obtain ⟨_, _, _, _, _, _, _, _, _, _, rfl, _⟩ := h; rfl) | (obtain ⟨_, _, _, _, _, _, _, _, _, _, _, rfl, _⟩ := h; rfl) | (obtain ⟨_, _, _, _, _, _, _, _, _, _, _, _, rfl, _⟩ := h; rfl) | (obtain ⟨_, _, _, _, _, _, _, _, _, _, _, _, _, rfl, _⟩ := h; rfl) | (obtain ⟨_, _, _, _, _, _, _, _, _, _, _, _, _, _, rfl, _⟩ := h; rfl) | (obtain ⟨_, _, _, _, _, _, _, _, _, _, _, _, _, _, _, rfl, _⟩ := h; rfl) | (obtain ⟨_, _, _, _, _, _, _, _, _, _, _, _, _, _, _, _, rfl, _⟩ := h; rfl) | (obtain ⟨_, _, _, _, _, _, _, _, _, _, _, _, _, _, _, _, _, rfl, _⟩ := h; rfl) | (obtain ⟨_, _, _, _, _, _, _, _, _, _, _, _, _, _, _, _, _, _, rfl, _⟩ := h; rfl) | (obtain ⟨_, _, _, _, _, _, _, _, _, _, _, _, _, _, _, _, _, _, _, rfl, _⟩ := h; rfl) | (obtain ⟨_, _, _, _, _, _, _, _, _, _, _, _, _, _, _, _, _, _, _, _, rfl, _⟩ := h; rfl) | (obtain ⟨_, _, _, _, _, _, _, _, _, _, _, _, _, _, _, _, _, _, _, _, _, rfl, _⟩ := h; rfl) | (obtain ⟨_, _, _, _, _, _, _, _, _, _, _, _, _, _, _, _, _, _, _, _, _, _, rfl, _⟩ := h; rfl) | (obtain ⟨_, _, _, _, _, _, _, _, _, _, _, _, _, _, _, _, _, _, _, _, _, _, _, rfl, _⟩ := h; rfl)
  · obtain ⟨t, a, b, c, d, p, rfl, ht, hp, ha, hb, hc, hd, h0, q⟩ := h
    obtain ⟨A_END, h_END, i_END⟩ := T.k_END
    refine ⟨_, (pss_cons (ps_setLc (i := 2) (own := [("number", 6)]) (g := (gName 6)) rfl sc_root_times.nd rfl rfl (sw_true rfl rfl rfl (by decide +kernel)) (pi_tup (pv 0)) (blkOk_by (N := N_root_times) (sc := defScope s_root_times) (by decide +kernel)) (fun _ _ _ _ _ => (pg_name (i := 6) sc_root_times.nd rfl (.inl rfl))) (fun _ _ _ _ _ => pts_nil) (fun _ _ _ _ _ => (pe_op op_mod (pv 6) (pv 1))))
    (pss_cons (ps_set (i := 3) sc_root_times.nd rfl (.inl rfl) (pe_lst pa_nil))
    (pss_cons (ps_for PassesOwn.never rfl (pi_list (pe_call G_places_of_roots (hr.mono (by decide)) (by rfl) g_places_of_roots k_places_of_roots b_places_of_roots .nil pass0 (pa_cons (pv 0) (pa_cons (pv 1) pa_nil)))) (pg_name (i := 4) sc_root_times.nd rfl (.inl rfl))
      (pss_cons (ps_set (i := 5) sc_root_times.nd rfl (.inl rfl) pe_int)
    (Evl.pss_cut (ps_if (pt_cmpR (op_eqD hr.units) (pv 4) (pe_glob (v := .ref A_END) (by rfl) h_END rfl) (nomark _))
      (pss_cons (ps_set (i := 5) sc_root_times.nd rfl (.inl rfl) (pe_call G_times_at_end (hr.mono (by decide)) (by rfl) g_times_at_end k_times_at_end b_times_at_end .nil pass0 (pa_cons (pv 2) pa_nil)))
    (pss_one (ps_set (i := 2) sc_root_times.nd rfl (.inl rfl) (pe_slice sl_list (pv 2) (po_some (pv 5)) po_none))))
      pss_nil)
    (pss_cons (ps_while PassesOwn.never (PW.pt (pw_and (pt_cmpR op_eq (pe_call G_value_at (hr.mono (by decide)) (by rfl) g_value_at k_value_at b_value_at .nil pass0 (pa_cons (pv 2) (pa_cons (pe_ix ix_tup (pv 4) pe_int (fun _ _ => rfl)) (pa_cons (pv 1) pa_nil)))) pe_int (nomark _)) (pw_and1 (pt_cmpR (op_neD hr.units) (pv 4) (pe_glob (v := .ref A_END) (by rfl) h_END rfl) (nomark _)))))
      (pss_cons (ps_set (i := 2) sc_root_times.nd rfl (.inl rfl) (pe_call G_less_root (hr.mono (by decide)) (by rfl) g_less_root k_less_root b_less_root .nil pass0 (pa_cons (pv 2) (pa_cons (pe_ix ix_tup (pv 4) pe_int (fun _ _ => rfl)) (pa_cons (pv 1) pa_nil)))))
    (pss_one (ps_aug (i := 5) sc_root_times.nd rfl (.inl rfl) pe_int ip_add))))
    (pss_one (ps_expr (pe_bm PySem.F.plainAttrs_list PySem.F.slot_list_append PySem.F.type_list_append mt_append (pv 3) (pa_cons (pe_tup (pa_cons (pv 4) (pa_cons (pv 5) pa_nil))) pa_nil))))))))
    (pss_one (ps_ret (pe_tup (pa_cons (pv 3) (pa_cons (pv 2) pa_nil)))))))), ?_⟩
    have p0 : (0 : Int) < (p : Int) := by omega
    have pN : 0 < p := by omega
    obtain ⟨rest, hgo, hfin⟩ := KindM.fine_out hp ha hb hc hd h0
    have sm : ∀ z ∈ KindM.sorted p [a, b, c, d], (z.2 = 1 ∧ z.1 < p) ∨ z = (1, 0) := fun z hz => KindM.sorted_mem hp ha hb hc hd hz
    have eqq : ∀ qs : List (Int × Int), qs.Perm (rootsL a b c d p) → qs.Pairwise lexP → qs = (KindM.sorted p [a, b, c, d]).map KindM.zI := fun qs pm srt => KindM.sorted_eq hp ha hb hc hd (by rw [← rootsL_eq]; exact pm) srt
    generalize hS : KindM.sorted p [a, b, c, d] = S at *
    refine ⟨_, rfl, t, rfl, ⟨_, SqT.of ht⟩, ?_⟩
    refine lcT fm0 trivial (SqT.of ht) (fun z => z) (fun i acc _ => acc = ((([a, b, c, d] : List Nat).map fun (n : Nat) => V.int (n : Int)).take i)) (fun _ _ => rfl) (fun D i v acc H' hD hv e hA hlen hp => ?_) (fun D H1 acc hD e1 hA hp' => ?_)
    · obtain ⟨n, hn, rfl⟩ := get_int hv
      have hi : i < 4 := (List.getElem?_eq_some_iff.mp hn).1
      refine ⟨rfl, ?_⟩
      refine ⟨_, rfl, _, rfl, _, _, rfl, rfl, p0, ?_⟩
      refine cs_yes fm0 trivial hD e hA hlen (by omega) (Fx.refl trivial) ?_
      show acc ++ [V.int (n % (p : Int))] = _
      rw [hp]
      match i, hn with
      | 0, hn => rw [← Option.some.inj hn, Int.emod_eq_of_lt (by omega) (by omega)]; rfl
      | 1, hn => rw [← Option.some.inj hn, Int.emod_eq_of_lt (by omega) (by omega)]; rfl
      | 2, hn => rw [← Option.some.inj hn, Int.emod_eq_of_lt (by omega) (by omega)]; rfl
      | 3, hn => rw [← Option.some.inj hn, Int.emod_eq_of_lt (by omega) (by omega)]; rfl
    have hp2 : acc = ([a, b, c, d] : List Nat).map fun (n : Nat) => V.int (n : Int) := hp'
    subst hp2
    have hD1 : RwN H1 D [a, b, c, d] := hA
    refine ⟨Nat.zero_le _, fun f nf => ?_⟩
    have ef := Ex0.new (o := .lst []) nf
    have hf0 : upd H1 f (.lst []) f = some (.lst []) := upd_same
    generalize hH2 : upd H1 f (.lst []) = H2 at *
    have ht2 := Ex0.ti (Fx.trans e1 ef) ht
    refine ⟨_, rfl, _, rfl, t, a, b, c, d, p, rfl, ht2, by omega, by omega, fun l H3 ys qs e3 nl hl hP pm srt => ?_⟩
    have hq := eqq qs pm srt
    subst hq
    have hlenY : ys.length = S.length := by rw [hP.len, List.length_map]
    have nlf : l ≠ f := by
      rintro rfl
      rw [hf0] at nl
      cases nl
    refine ⟨l, rfl, ⟨_, SqL.of hl⟩, ?_⟩
    have hf3 := Ex0.ap e3 hf0
    have nDf : D ≠ f := by
      rintro rfl
      rw [hA] at nf
      cases nf
    have hD3 : RwN H3 D [a, b, c, d] := Ex0.ap (ef.trans e3) hD1
    have e13 : Ex0 H1 H3 := ef.trans e3
    have sl4S : S.length ≤ 4 := by
      have h1 := pm.length_eq
      have h2 := roots_len a b c d p (by omega)
      rw [List.length_map] at h1
      have h3 : (rootsL a b c d p).length ≤ p + 1 := by
        unfold rootsL
        rw [List.length_append, List.length_map]
        have h1 := List.length_filter_le (fun (x : Nat) => rootB a b c d p x 1) (List.range p)
        rw [List.length_range] at h1
        by_cases g : (a : Int) % (p : Int) = 0
        · rw [if_pos g, List.length_singleton]; omega
        · rw [if_neg g, List.length_nil]; omega
      omega
    clear hH2
    refine for_list (xs := ys) (fun i σ H' => ∃ (r : Addr) (row : List Nat) (fs : List V) (y4 y5 : Option V), σ = [some (.ref t), some (.int (p : Int)), some (.ref r), some (.ref f), y4, y5, none] ∧ Ex0 H1 H' ∧ RwN H' r row ∧ (∀ n ∈ row, n < 10) ∧ row.length ≤ 4 ∧ r ≠ f ∧ H' f = some (.lst fs) ∧ fs.length = i ∧ H' l = some (.lst ys) ∧ PrT K H' ys (S.map KindM.zI) ∧ KindM.go p (S.drop i) row = some rest) ⟨D, [a, b, c, d], [], none, none, rfl, e13, hD3, fun n hn => by simp only [List.mem_cons, List.mem_nil_iff, or_false] at hn; omega, Nat.le_refl 4, nDf, hf3, rfl, hl, hP, hgo⟩ (fun i σ H' _ ⟨_, _, _, _, _, _, _, _, _, _, _, _, _, h, _⟩ => SqL.of h) ?_ ?_
    · rintro i v σ H4 hv ⟨r, row, fs, y4, y5, rfl, e4, hr4, hrow, hrl, nrf, hf4, hfl, hl4, hP4, hgo4⟩
      obtain ⟨u, x, y, rfl, hxy, hu⟩ := hP4.get hv
      rw [List.getElem?_map] at hxy
      obtain ⟨⟨x', y'⟩, hz, e⟩ := Option.map_eq_some_iff.mp hxy
      obtain ⟨rfl, rfl⟩ := Prod.mk.inj e
      have hiS : i < S.length := (List.getElem?_eq_some_iff.mp hz).1
      have hdrop : S.drop i = (x', y') :: S.drop (i + 1) := by
        rw [List.drop_eq_getElem_cons hiS]
        congr 1
        exact (List.getElem?_eq_some_iff.mp hz).2
      rw [hdrop] at hgo4
      have hmem := sm (x', y') (List.mem_of_getElem? hz)
      have hx3 : x' < 10 := by
        rcases hmem with ⟨_, h⟩ | h
        · have : x' < p := h
          omega
        · have : x' = 1 := (Prod.mk.inj h).1
          omega
      have ne1 : ∀ (z : Nat), (decide (([(z : Int), ((1 : Nat) : Int)] : List Int) = [1, 0])) = false := fun z => decide_eq_false (fun z => by injection z with _ z; injection z with z; cases z)
      refine ⟨fun σ H' => ∃ (r : Addr) (row : List Nat) (k : Int), σ = [some (.ref t), some (.int (p : Int)), some (.ref r), some (.ref f), some (.ref u), some (.int k), none] ∧ Ex0 H4 H' ∧ RwN H' r row ∧ (∀ n ∈ row, n < 10) ∧ row.length ≤ 4 ∧ r ≠ f ∧ (((x', y') = (1, 0) ∧ KindM.go p (S.drop (i + 1)) row = some rest) ∨ (y' = 1 ∧ ∃ row'', KindM.strip p x' 5 row = some row'' ∧ KindM.go p (S.drop (i + 1)) row'' = some rest)), ?_, ?_⟩
      · refine ⟨_, rfl, .tuple (([(x' : Int), (y' : Int)] : List Int).map .int), .tuple (([1, 0] : List Int).map .int), .tup hu (dp_ints [(x' : Int), (y' : Int)]), .tup (i_END H4) (dp_ints [1, 0]), shaped_tints _, shaped_tints _, _, rfl, ?_⟩
        rw [PyData.eqv, eqv_ints]
        rcases hmem with ⟨h1, h2⟩ | h
        · have hy : y' = 1 := h1
          subst hy
          rw [ne1]
          refine iteF ?_
          obtain ⟨row'', g1, g2⟩ := KindM.go_one hgo4
          exact ⟨r, row, 0, rfl, Ex0.refl H4, hr4, hrow, hrl, nrf, .inr ⟨rfl, row'', g1, g2⟩⟩
        · obtain ⟨rfl, rfl⟩ := Prod.mk.inj h
          rw [show decide (([((1 : Nat) : Int), ((0 : Nat) : Int)] : List Int) = [1, 0]) = true from by decide]
          refine iteT ?_
          obtain ⟨row', g1, g2⟩ := KindM.go_end hgo4
          refine ⟨_, rfl, r, row, row', rfl, hr4, g1, hrl, fun k hk kle => ?_⟩
          have hr4' : H4 r = some (.lst (row.map fun (n : Nat) => V.int (n : Int))) := hr4
          refine ⟨_, rfl, _, rfl, _, rfl, r, _, rfl, SqL.of hr4', fun sl nsl => ?_⟩
          rw [cut_from (show k ≤ (row.map fun (n : Nat) => V.int (n : Int)).length by rw [List.length_map]; exact kle), ← List.map_drop, hk]
          have es := Ex0.new (o := .lst (row'.map fun (n : Nat) => V.int (n : Int))) nsl
          refine ⟨sl, row', k, rfl, es, upd_same, fun n hn => hrow n (List.mem_of_mem_drop (hk ▸ hn)), by rw [← hk, List.length_drop]; omega, ?_, .inl ⟨rfl, g2⟩⟩
          rintro rfl
          rw [hf4] at nsl
          cases nsl
      rintro σ H5 ⟨r5, row5, k5, rfl, e5, hr5, hrow5, hrl5, nrf5, hcase⟩
      have hu5 := Fx.sqT e5 (fun z => z) hu
      refine ⟨fun m σ H' => ∃ (r : Addr) (row : List Nat) (k : Int), σ = [some (.ref t), some (.int (p : Int)), some (.ref r), some (.ref f), some (.ref u), some (.int k), none] ∧ Ex0 H5 H' ∧ RwN H' r row ∧ (∀ n ∈ row, n < 10) ∧ row.length ≤ 4 ∧ r ≠ f ∧ (((x', y') = (1, 0) ∧ KindM.go p (S.drop (i + 1)) row = some rest) ∨ (y' = 1 ∧ ∃ row'', KindM.strip p x' m row = some row'' ∧ KindM.go p (S.drop (i + 1)) row'' = some rest)), ⟨5, r5, row5, k5, rfl, Ex0.refl H5, hr5, hrow5, hrl5, nrf5, hcase⟩, ?_⟩
      rintro m σ H6 ⟨r6, row6, k6, rfl, e6, hr6, hrow6, hrl6, nrf6, hcase6⟩
      have hu6 := Fx.sqT e6 (fun z => z) hu5
      refine ⟨_, rfl, _, rfl, u, _, 0, .int (x' : Int), rfl, rfl, hu6, rfl, _, rfl, r6, row6, x', p, rfl, hr6, pN, by omega, hx3, hrow6, hrl6, rfl, _, rfl, iteE (fun g => ?_) (fun g => ?_)⟩
      · refine ⟨_, rfl, .tuple (([(x' : Int), (y' : Int)] : List Int).map .int), .tuple (([1, 0] : List Int).map .int), .tup hu6 (dp_ints [(x' : Int), (y' : Int)]), .tup (i_END H6) (dp_ints [1, 0]), shaped_tints _, shaped_tints _, _, rfl, ?_⟩
        rw [PyData.eqv, eqv_ints]
        rcases hcase6 with ⟨h, g2⟩ | ⟨rfl, row'', g1, g2⟩
        · obtain ⟨rfl, rfl⟩ := Prod.mk.inj h
          rw [show decide (([((1 : Nat) : Int), ((0 : Nat) : Int)] : List Int) = [1, 0]) = true from by decide]
          refine iteF ?_
          have e46 := e5.trans e6
          have hf6 := Ex0.ap e46 hf4
          refine ⟨_, rfl, .inl ⟨rfl, _, SqL.of hf6⟩, _, rfl, _, rfl, sl2, fun z nz => ?_⟩
          have ez := Ex0.new (o := .tup [.ref u, .int k6]) nz
          refine ⟨f, fs, _, rfl, rfl, Ex0.ap ez hf6, Nat.lt_of_le_of_lt (show fs.length ≤ 4 by omega) (by decide), ?_⟩
          have e4z := e46.trans ez
          refine ⟨r6, row6, fs ++ [.ref z], _, _, rfl, Fx.mut fm0 (e4.trans e4z) trivial nf, ?_, hrow6, hrl6, nrf6, upd_same, by rw [List.length_append]; show fs.length + 1 = i + 1; rw [hfl], ?_, (hP4.ex e4z).upd (Ex0.ap e4z hf4), g2⟩
          · unfold RwN
            rw [upd_ne nrf6]
            exact Ex0.ap ez hr6
          · rw [upd_ne nlf]
            exact Ex0.ap e4z hl4
        · rw [ne1]
          refine iteT ?_
          obtain ⟨m', rfl, g3, g4⟩ := KindM.strip_zero g1 (by omega)
          refine ⟨fun σ' H'' => ∃ (r : Addr) (row : List Nat) (k : Int), σ' = [some (.ref t), some (.int (p : Int)), some (.ref r), some (.ref f), some (.ref u), some (.int k), none] ∧ Ex0 H5 H'' ∧ RwN H'' r row ∧ (∀ n ∈ row, n < 10) ∧ row.length ≤ 4 ∧ r ≠ f ∧ KindM.strip p x' m' row = some row'', fun σ' H'' ⟨r, row, k, b1, b2, b3, b4, b5, b6, b7⟩ => ⟨m', Nat.lt_succ_self _, r, row, k, b1, b2, b3, b4, b5, b6, .inr ⟨rfl, row'', b7, g2⟩⟩, ?_⟩
          refine ⟨_, rfl, _, rfl, u, _, 0, .int (x' : Int), rfl, rfl, hu6, rfl, _, rfl, r6, row6, x', p, rfl, hr6, pN, by omega, hx3, hrow6, by omega, hrl6, fun r7 H7 e7 nr7 hr7 => ?_⟩
          refine ⟨_, rfl, _, _, rfl, rfl, r7, KindM.lessN p x' row6, k6 + 1, rfl, e6.trans e7, hr7, fun n hn => Nat.lt_trans (KindM.lessG_lt pN row6 0 n hn) (by omega), ?_, ?_, g4⟩
          · show (KindM.lessG p x' 0 row6).length ≤ 4
            rw [KindM.lessG_length]
            omega
          · rintro rfl
            rw [Ex0.ap (e5.trans e6) hf4] at nr7
            cases nr7
      · refine iteF ?_
        have g9 : KindM.go p (S.drop (i + 1)) row6 = some rest := by
          rcases hcase6 with ⟨_, g2⟩ | ⟨_, row'', g1, g2⟩
          · exact g2
          · rw [KindM.strip_pos g1 (by omega)]
            exact g2
        have e46 := e5.trans e6
        have hf6 := Ex0.ap e46 hf4
        refine ⟨_, rfl, .inl ⟨rfl, _, SqL.of hf6⟩, _, rfl, _, rfl, sl2, fun z nz => ?_⟩
        have ez := Ex0.new (o := .tup [.ref u, .int k6]) nz
        refine ⟨f, fs, _, rfl, rfl, Ex0.ap ez hf6, Nat.lt_of_le_of_lt (show fs.length ≤ 4 by omega) (by decide), ?_⟩
        have e4z := e46.trans ez
        refine ⟨r6, row6, fs ++ [.ref z], _, _, rfl, Fx.mut fm0 (e4.trans e4z) trivial nf, ?_, hrow6, hrl6, nrf6, upd_same, by rw [List.length_append]; show fs.length + 1 = i + 1; rw [hfl], ?_, (hP4.ex e4z).upd (Ex0.ap e4z hf4), g9⟩
        · unfold RwN
          rw [upd_ne nrf6]
          exact Ex0.ap ez hr6
        · rw [upd_ne nlf]
          exact Ex0.ap e4z hl4
    · rintro σ H4 ⟨r, row, fs, y4, y5, rfl, e4, hr4, hrow, hrl, nrf, hf4, hfl, hl4, hP4, hgo4⟩
      rw [hlenY, List.drop_length] at hgo4
      have hgo4 := Option.some.inj hgo4
      subst hgo4
      refine ⟨_, rfl, _, rfl, sl2, fun o no => ?_⟩
      have eo := Ex0.new (o := .tup [.ref f, .ref r]) no
      refine q o f r fs row _ ((Fx.trans e1 e4).trans eo) upd_same (Ex0.ap eo hf4) (Ex0.ap eo hr4) hrl (by omega) ?_ hgo (hfl.trans hlenY)
      rw [hfl, hlenY]
      exact hfin
theorem ok_kind_by_roots (T : Txt K mg C_Form) : Def P w K mg base 3 "kind_by_roots" ["coefficients", "prime"] (sp_kind_by_roots K C_Form) := by
  obtain ⟨f_, fd_, g_, F_⟩ := T.d_kind_by_roots
  obtain ⟨f_root_times, fd_root_times, g_root_times, k_root_times, b_root_times, G_root_times⟩ := (ok_root_times (P := P) (w := w) (base := base) T)
  refine ⟨f_, fd_, g_, F_.kp, F_.binds (ps := ["coefficients", "prime"]) (fun _ _ _ _ _ _ us hl => match us, hl with | [_, _], _ => rfl), ?_⟩
  refine F_.ok sc_kind_by_roots (fun vs H Q E h => ?_) (fun cdv A outer s H vs Q E hr h => ?_)
  · first | (obtain ⟨rfl, _⟩ := h; rfl) | (obtain ⟨_, rfl, _⟩ := h; rfl) | (obtain ⟨_, _, rfl, _⟩ := h; rfl) | (obtain ⟨_, _, _, rfl, _⟩ := h; rfl) | (obtain ⟨_, _, _, _, rfl, _⟩ := h; rfl) | (obtain ⟨_, _, _, _, _, rfl, _⟩ := h; rfl) | (obtain ⟨_, _, _, _, _, _, rfl, _⟩ := h; rfl) | (obtain ⟨_, _, _, _, _, _, _, rfl, _⟩ := h; rfl) | (obtain ⟨_, _, _, _, _, _, _, _, rfl, _⟩ := h; rfl) | (obtain ⟨_, _, _, _, _, _, _, _, _, rfl, _⟩ := h; rfl) | (obtain ⟨_, _, _, _, _, _, _, _, _, _, rfl, _⟩ := h; rfl) | (obtain ⟨_, _, _, _, _, _, _, _, _, _, _, rfl, _⟩ := h; rfl) | (obtain ⟨_, _, _, _, _, _, _, _, _, _, _, _, rfl, _⟩ := h; rfl) | (obtain ⟨_, _, _, _, _, _, _, _, _, _, _, _, _, rfl, _⟩ := h; rfl) | (obtain ⟨_, _, _, _, _, _, _, _, _, _, _, _, _, _, rfl, _⟩ := h; rfl) | (obtain ⟨_, _, _, _, _, _, _, _, _, _, _, _, _, _, _, rfl, _⟩ := h; rfl) | (obtain ⟨_, _, _, _, _, _, _, _, _, _, _, _, _, _, _, _, rfl, _⟩ := h; rfl) | (obtain ⟨_, _, _, _, _, _, _, _, _, _, _, _, _, _, _, _, _, rfl, _⟩ := h; rfl) | (obtain ⟨_, _, _, _, _, _, _, _, _, _, _, _, _, _, _, _, _, _, rfl, _⟩ := h; rfl) | (obtain ⟨_, _, _, _, _, _, _, _, _, _, _, _, _, _, _, _, _, _, _, rfl, _⟩ := h; rfl) | (obtain ⟨_, _, _, _, _, _, _, _, _, _, _, _, _, _, _, _, _, _, _, _, rfl, _⟩ := h; rfl) | (obtain ⟨_, _, _, _, _, _, _, _, _, _, _, _, _, _, _, _, _, _, _, _, _, rfl, _⟩ := h; rfl) | (obtain ⟨_, _, _, _, _, _, _, _, _, _, _, _, _, _, _, _, _, _, _, _, _, _, rfl, _⟩ := h; rfl) | (obtain ⟨_, _, _, _, _, _, _, _, _, _, _, _, _, _, _, _, _, _, _, _, _, _, _, rfl, _⟩ := h; rfl)
  · obtain ⟨t, a, b, c, d, p, rfl, ht, hp, ha, hb, hc, hd, h0, q⟩ := h
    refine ⟨_, (pss_cons (ps_asg (pe_call G_root_times (hr.mono (by decide)) (by rfl) g_root_times k_root_times b_root_times .nil pass0 (pa_cons (pv 0) (pa_cons (pv 1) pa_nil))) (pg_tup (by rfl) (pgs_cons (pg_name (i := 2) sc_kind_by_roots.nd rfl (.inl rfl)) (pgs_cons (pg_name (i := 3) sc_kind_by_roots.nd rfl (.inl rfl)) pgs_nil))))
    (pss_cons (ps_if (pt_cmpR op_gt (pe_callB call_len_seq (by rfl) T.b_len PySem.boot_len (pa_cons (pv 3) pa_nil)) pe_int (nomark _))
      (pss_one (ps_ret (pe_ifExp (pt_cmpR op_eq (pe_callB call_len_seq (by rfl) T.b_len PySem.boot_len (pa_cons (pv 2) pa_nil)) pe_int (nomark _)) pe_str pe_str)))
      pss_nil)
    (pss_one (ps_ret (pe_ix ix_tup (pe_tup (pa_cons pe_str (pa_cons pe_str (pa_cons pe_str pa_nil)))) (pe_op op_sub (pe_callB call_len_seq (by rfl) T.b_len PySem.boot_len (pa_cons (pv 2) pa_nil)) pe_int) (fun _ _ => rfl)))))), ?_⟩
    refine ⟨_, rfl, _, rfl, t, a, b, c, d, p, rfl, ht, hp, ha, hb, hc, hd, h0, fun x l1 l2 xs rest H' e hx h1 h2 b1 b2 hfin hgo hlen => ?_⟩
    refine ⟨x, _, rfl, SqT.of hx, rfl, _, _, rfl, _, _, rfl, rfl, ?_⟩
    have h2' : H' l2 = some (.lst (rest.map fun (n : Nat) => V.int (n : Int))) := h2
    refine ⟨_, rfl, l2, _, rfl, .inl (SqL.of h2'), _, _, rfl, rfl, _, rfl, ?_⟩
    rw [List.length_map]
    have hk : ∀ s : Str, wd (if 1 < rest.length then (if xs.length = 0 then 0 else 1) else (match xs.length with | 1 => 4 | 2 => 3 | 3 => 2 | _ => 9)) = s → ∀ H', Ex0 H H' → Q (.str s) H' := by
      intro s hs H' e'
      have := q H' e'
      unfold Stick.kN at this
      rw [hgo, ← hlen] at this
      have h2 := congrArg V.str hs
      exact h2 ▸ this
    refine iteD (fun g => ?_) (fun g => ?_)
    · rw [if_pos (by omega)] at hk
      refine ⟨_, rfl, l1, xs, rfl, .inl (SqL.of h1), rfl, _, rfl, iteE (fun g => ?_) (fun g => ?_)⟩
      · rw [if_pos (by omega)] at hk
        exact hk _ rfl H' e
      · rw [if_neg (by omega)] at hk
        exact hk _ rfl H' e
    · rw [if_neg (by omega)] at hk
      have hx3 : 1 ≤ xs.length ∧ xs.length ≤ 3 := by
        rcases hfin with h | h
        · omega
        · exact h
      refine ⟨sl3, fun o no => ?_⟩
      have e2 := Ex0.new (o := .tup [.str "thrice", .str "twice", .str "three"]) no
      refine ⟨_, rfl, l1, xs, rfl, .inl (SqL.of (Ex0.ap e2 h1)), _, _, rfl, rfl, ?_⟩
      have h : xs.length = 1 ∨ xs.length = 2 ∨ xs.length = 3 := by omega
      rcases h with h | h | h
      · exact ⟨o, _, 0, .str "thrice", rfl, by rw [h]; rfl, SqT.of upd_same, rfl, hk _ (by rw [h]; rfl) _ (e.trans e2)⟩
      · exact ⟨o, _, 1, .str "twice", rfl, by rw [h]; rfl, SqT.of upd_same, rfl, hk _ (by rw [h]; rfl) _ (e.trans e2)⟩
      · exact ⟨o, _, 2, .str "three", rfl, by rw [h]; rfl, SqT.of upd_same, rfl, hk _ (by rw [h]; rfl) _ (e.trans e2)⟩
theorem ok_kind_of (T : Txt K mg C_Form) : Def P w K mg base 4 "kind_of" ["coefficients", "prime"] (sp_kind_of K C_Form) := by
  obtain ⟨f_, fd_, g_, F_⟩ := T.d_kind_of
  obtain ⟨f_form_discriminant, fd_form_discriminant, g_form_discriminant, k_form_discriminant, b_form_discriminant, G_form_discriminant⟩ := (ok_form_discriminant (P := P) (w := w) (base := base) T)
  obtain ⟨f_form_hessian, fd_form_hessian, g_form_hessian, k_form_hessian, b_form_hessian, G_form_hessian⟩ := (ok_form_hessian (P := P) (w := w) (base := base) T)
  obtain ⟨f_kind_by_roots, fd_kind_by_roots, g_kind_by_roots, k_kind_by_roots, b_kind_by_roots, G_kind_by_roots⟩ := (ok_kind_by_roots (P := P) (w := w) (base := base) T)
  obtain ⟨f_places_of_roots, fd_places_of_roots, g_places_of_roots, k_places_of_roots, b_places_of_roots, G_places_of_roots⟩ := (ok_places_of_roots (P := P) (w := w) (base := base) T)
  obtain ⟨f_power_at, fd_power_at, g_power_at, k_power_at, b_power_at, G_power_at⟩ := (ok_power_at (P := P) (w := w) (base := base) T)
  refine ⟨f_, fd_, g_, F_.kp, F_.binds (ps := ["coefficients", "prime"]) (fun _ _ _ _ _ _ us hl => match us, hl with | [_, _], _ => rfl), ?_⟩
  refine F_.ok sc_kind_of (fun vs H Q E h => ?_) (fun cdv A outer s H vs Q E hr h => ?_)
  · first | (obtain ⟨rfl, _⟩ := h; rfl) | (obtain ⟨_, rfl, _⟩ := h; rfl) | (obtain ⟨_, _, rfl, _⟩ := h; rfl) | (obtain ⟨_, _, _, rfl, _⟩ := h; rfl) | (obtain ⟨_, _, _, _, rfl, _⟩ := h; rfl) | (obtain ⟨_, _, _, _, _, rfl, _⟩ := h; rfl) | (obtain ⟨_, _, _, _, _, _, rfl, _⟩ := h; rfl) | (obtain ⟨_, _, _, _, _, _, _, rfl, _⟩ := h; rfl) | (obtain ⟨_, _, _, _, _, _, _, _, rfl, _⟩ := h; rfl) | (obtain ⟨_, _, _, _, _, _, _, _, _, rfl, _⟩ := h; rfl) | (obtain ⟨_, _, _, _, _, _, _, _, _, _, rfl, _⟩ := h; rfl) | (obtain ⟨_, _, _, _, _, _, _, _, _, _, _, rfl, _⟩ := h; rfl) | (obtain ⟨_, _, _, _, _, _, _, _, _, _, _, _, rfl, _⟩ := h; rfl) | (obtain ⟨_, _, _, _, _, _, _, _, _, _, _, _, _, rfl, _⟩ := h; rfl) | (obtain ⟨_, _, _, _, _, _, _, _, _, _, _, _, _, _, rfl, _⟩ := h; rfl) | (obtain ⟨_, _, _, _, _, _, _, _, _, _, _, _, _, _, _, rfl, _⟩ := h; rfl) | (obtain ⟨_, _, _, _, _, _, _, _, _, _, _, _, _, _, _, _, rfl, _⟩ := h; rfl) | (obtain ⟨_, _, _, _, _, _, _, _, _, _, _, _, _, _, _, _, _, rfl, _⟩ := h; rfl) | (obtain ⟨_, _, _, _, _, _, _, _, _, _, _, _, _, _, _, _, _, _, rfl, _⟩ := h; rfl) | (obtain ⟨_, _, _, _, _, _, _, _, _, _, _, _, _, _, _, _, _, _, _, rfl, _⟩ := h; rfl) | (obtain ⟨_, _, _, _, _, _, _, _, _, _, _, _, _, _, _, _, _, _, _, _, rfl, _⟩ := h; rfl) | (obtain ⟨_, _, _, _, _, _, _, _, _, _, _, _, _, _, _, _, _, _, _, _, _, rfl, _⟩ := h; rfl) | (obtain ⟨_, _, _, _, _, _, _, _, _, _, _, _, _, _, _, _, _, _, _, _, _, _, rfl, _⟩ := h; rfl) | (obtain ⟨_, _, _, _, _, _, _, _, _, _, _, _, _, _, _, _, _, _, _, _, _, _, _, rfl, _⟩ := h; rfl)
  · obtain ⟨t, a, b, c, d, p, rfl, ht, hp, pk, q⟩ := h
    refine ⟨_, (pss_cons (ps_set (i := 2) sc_kind_of.nd rfl (.inl rfl) (pe_callTy call_tuple_of (by rfl) T.b_tuple (by decide +kernel) (pa_cons (pe_lc (own := [("number", 3)]) (g := (gName 3)) rfl sc_kind_of.nd (pi_tup (pv 0)) (blkOk_by (N := N_kind_of) (sc := defScope s_kind_of) (by decide +kernel)) (fun _ _ _ _ _ => (pg_name (i := 3) sc_kind_of.nd rfl (.inl rfl))) (fun _ _ _ _ _ => pts_nil) (fun _ _ _ _ _ => (pe_op op_mod (pv 3) (pv 1)))) pa_nil)))
    (pss_cons (ps_if (pt_not (pt_val (pe_callB (cr_anyT rfl) (by rfl) T.b_any (by decide +kernel) (pa_cons (pv 2) pa_nil))))
      (pss_one (ps_ret pe_str))
      pss_nil)
    (pss_cons (ps_if (pt_cmpR op_lt (pv 1) pe_int (nomark _))
      (pss_one (ps_ret (pe_call G_kind_by_roots (hr.mono (by decide)) (by rfl) g_kind_by_roots k_kind_by_roots b_kind_by_roots .nil pass0 (pa_cons (pv 2) (pa_cons (pv 1) pa_nil)))))
      pss_nil)
    (pss_cons (ps_set (i := 3) sc_kind_of.nd rfl (.inl rfl) (pe_op op_mod (pe_call G_form_discriminant (hr.mono (by decide)) (by rfl) g_form_discriminant k_form_discriminant b_form_discriminant .nil pass0 (pa_cons (pv 2) pa_nil)) (pv 1)))
    (pss_cons (ps_if (pt_cmpR op_eq (pv 3) pe_int (nomark _))
      (pss_one (ps_ret (pe_ifExp (pt_val (pe_callB (cr_any rfl) (by rfl) T.b_any (by decide +kernel) (pa_cons (pe_lc (own := [("entry", 4)]) (g := (gName 4)) rfl sc_kind_of.nd (pi_tup (pe_call G_form_hessian (hr.mono (by decide)) (by rfl) g_form_hessian k_form_hessian b_form_hessian .nil pass0 (pa_cons (pv 2) pa_nil))) (blkOk_by (N := N_kind_of) (sc := defScope s_kind_of) (by decide +kernel)) (fun _ _ _ _ _ => (pg_name (i := 4) sc_kind_of.nd rfl (.inl rfl))) (fun _ _ _ _ _ => pts_nil) (fun _ _ _ _ _ => (pe_cmpR op_ne (pe_op op_mod (pv 4) (pv 1)) pe_int (nomark _)))) pa_nil))) pe_str pe_str)))
      pss_nil)
    (pss_cons (ps_if (pt_cmpR op_ne (pe_call G_power_at (hr.mono (by decide)) (by rfl) g_power_at k_power_at b_power_at .nil pass0 (pa_cons (pv 3) (pa_cons (pe_op op_fdivW (pe_op op_sub (pv 1) pe_int) pe_int) (pa_cons (pv 1) pa_nil)))) pe_int (nomark _))
      (pss_one (ps_ret pe_str))
      pss_nil)
    (pss_one (ps_ret (pe_ifExp (pt_cmpR op_gt (pe_callB call_len_seq (by rfl) T.b_len PySem.boot_len (pa_cons (pe_call G_places_of_roots (hr.mono (by decide)) (by rfl) g_places_of_roots k_places_of_roots b_places_of_roots .nil pass0 (pa_cons (pv 2) (pa_cons (pv 1) pa_nil))) pa_nil)) pe_int (nomark _)) pe_str pe_str))))))))), ?_⟩
    have p1 := pk.lt
    have p2 := hp.1
    have p0 : (0 : Int) < (p : Int) := by omega
    have pn : (p : Int) ≠ 0 := by omega
    refine ⟨_, rfl, t, rfl, ⟨_, SqT.of ht⟩, ?_⟩
    refine lcT fm0 trivial (SqT.of ht) (fun z => z) (fun i acc _ => acc = (([a % (p : Int), b % (p : Int), c % (p : Int), d % (p : Int)] : List Int).take i).map V.int) (fun _ _ => rfl) (fun D i v acc H' hD hv e hA hlen hp => ?_) (fun D H1 acc hD e hA hp' => ?_)
    · obtain ⟨n, hn, rfl⟩ := get_int hv
      have hi : i < 4 := (List.getElem?_eq_some_iff.mp hn).1
      refine ⟨rfl, ?_⟩
      refine ⟨_, rfl, _, rfl, _, _, rfl, rfl, p0, ?_⟩
      refine cs_yes fm0 trivial hD e hA hlen (by omega) (Fx.refl trivial) ?_
      show acc ++ [V.int (n % (p : Int))] = _
      rw [hp]
      match i, hn with
      | 0, hn => rw [← Option.some.inj hn]; rfl
      | 1, hn => rw [← Option.some.inj hn]; rfl
      | 2, hn => rw [← Option.some.inj hn]; rfl
      | 3, hn => rw [← Option.some.inj hn]; rfl
    have hp2 : acc = ([a % (p : Int), b % (p : Int), c % (p : Int), d % (p : Int)] : List Int).map V.int := hp'
    subst hp2
    refine ⟨D, _, rfl, .inl ⟨SqL.of hA, fun o no => ?_⟩⟩
    have e1 : Ex0 H (upd H1 o (.tup (([a % (p : Int), b % (p : Int), c % (p : Int), d % (p : Int)] : List Int).map V.int))) := e.trans (Ex0.new no)
    have hu : Ti (upd H1 o (.tup (([a % (p : Int), b % (p : Int), c % (p : Int), d % (p : Int)] : List Int).map V.int))) o [a % (p : Int), b % (p : Int), c % (p : Int), d % (p : Int)] := upd_same
    generalize upd H1 o (.tup (([a % (p : Int), b % (p : Int), c % (p : Int), d % (p : Int)] : List Int).map V.int)) = H2 at *
    have inst : NeZero p := ⟨by omega⟩
    rw [← Stick.kn_red] at q
    obtain ⟨A, hA'⟩ : ∃ n : Nat, a % (p : Int) = n := ⟨(a % (p : Int)).toNat, (Int.toNat_of_nonneg (Int.emod_nonneg a pn)).symm⟩
    obtain ⟨B', hB'⟩ : ∃ n : Nat, b % (p : Int) = n := ⟨(b % (p : Int)).toNat, (Int.toNat_of_nonneg (Int.emod_nonneg b pn)).symm⟩
    obtain ⟨C', hC'⟩ : ∃ n : Nat, c % (p : Int) = n := ⟨(c % (p : Int)).toNat, (Int.toNat_of_nonneg (Int.emod_nonneg c pn)).symm⟩
    obtain ⟨D', hD'⟩ : ∃ n : Nat, d % (p : Int) = n := ⟨(d % (p : Int)).toNat, (Int.toNat_of_nonneg (Int.emod_nonneg d pn)).symm⟩
    have la := Int.emod_lt_of_pos a p0
    have lb := Int.emod_lt_of_pos b p0
    have lc := Int.emod_lt_of_pos c p0
    have ld := Int.emod_lt_of_pos d p0
    rw [hA', hB', hC', hD'] at hu
    rw [hA', hB', hC', hD'] at q
    rw [hA'] at la
    rw [hB'] at lb
    rw [hC'] at lc
    rw [hD'] at ld
    clear hA' hB' hC' hD' hA
    have bA : B 1000 (A : Int) := B.mono (show B 10 (A : Int) from ⟨by show _ < 1024; omega, by decide⟩) (by decide)
    have bB : B 1000 (B' : Int) := B.mono (show B 10 (B' : Int) from ⟨by show _ < 1024; omega, by decide⟩) (by decide)
    have bC : B 1000 (C' : Int) := B.mono (show B 10 (C' : Int) from ⟨by show _ < 1024; omega, by decide⟩) (by decide)
    have bD : B 1000 (D' : Int) := B.mono (show B 10 (D' : Int) from ⟨by show _ < 1024; omega, by decide⟩) (by decide)
    refine ⟨_, rfl, o, [(A : Int), (B' : Int), (C' : Int), (D' : Int)], rfl, SqT.of hu, _, rfl, ?_⟩
    by_cases hz : (A : Int) = 0 ∧ (B' : Int) = 0 ∧ (C' : Int) = 0 ∧ (D' : Int) = 0
    · have hany : ([(A : Int), (B' : Int), (C' : Int), (D' : Int)] : List Int).any (fun n => n != 0) = false := by
        obtain ⟨z1, z2, z3, z4⟩ := hz
        rw [z1, z2, z3, z4]
        rfl
      rw [hany]
      have q5 := q H2 e1
      have e5 : Stick.kn (A : Int) (B' : Int) (C' : Int) (D' : Int) p = 5 := by
        obtain ⟨z1, z2, z3, z4⟩ := hz
        rw [z1, z2, z3, z4]
        exact if_pos ⟨Int.zero_emod _, Int.zero_emod _, Int.zero_emod _, Int.zero_emod _⟩
      rw [e5] at q5
      exact iteT q5
    have em : ∀ n : Nat, (n : Int) < (p : Int) → (n : Int) % (p : Int) = (n : Int) := fun n hn => Int.emod_eq_of_lt (by omega) hn
    have hnz : ¬ ((A : Int) % (p : Int) = 0 ∧ (B' : Int) % (p : Int) = 0 ∧ (C' : Int) % (p : Int) = 0 ∧ (D' : Int) % (p : Int) = 0) := by
      rw [em A la, em B' lb, em C' lc, em D' ld]
      exact hz
    have hany : ([(A : Int), (B' : Int), (C' : Int), (D' : Int)] : List Int).any (fun n => n != 0) = true := by
      rw [List.any_eq_true]
      refine Classical.byContradiction fun h => hz ?_
      have all0 : ∀ n ∈ ([(A : Int), (B' : Int), (C' : Int), (D' : Int)] : List Int), n = 0 := fun n hn => Classical.byContradiction fun g => h ⟨n, hn, by simpa using g⟩
      exact ⟨all0 _ (by simp), all0 _ (by simp), all0 _ (by simp), all0 _ (by simp)⟩
    rw [hany]
    refine iteF ?_
    refine ⟨_, rfl, _, _, rfl, rfl, _, rfl, iteD (fun g => ?_) (fun g => ?_)⟩
    · have p23 : p = 2 ∨ p = 3 := by
        have : p ≠ 4 := by
          rintro rfl
          exact absurd rfl (hp.2 2 (by decide) (by decide))
        omega
      exact ⟨_, rfl, _, rfl, o, A, B', C', D', p, rfl, hu, p23, by omega, by omega, by omega, by omega, fun ⟨h1, h2, h3, h4⟩ => hz ⟨by omega, by omega, by omega, by omega⟩, fun H' e' => by rw [Stick.kN_kn p23 (by omega) (by omega) (by omega) (by omega) fun ⟨h1, h2, h3, h4⟩ => hz ⟨by omega, by omega, by omega, by omega⟩]; exact q H' (e1.trans e')⟩
    have pl : p ∈ Stick.PL := by
      rcases pk with h | h | h
      · omega
      · omega
      · exact h
    have hq : ∀ n : Nat, Stick.kJ (A : Int) (B' : Int) (C' : Int) (D' : Int) p = n → ∀ H', Ex0 H H' → Q (.str (wd n)) H' := by
      intro n hn H' e'
      have := q H' e'
      unfold Stick.kn at this
      rw [if_neg hnz, ← Stick.kJ_eq pl hnz, hn] at this
      exact this
    unfold Stick.kJ at hq
    refine ⟨_, rfl, o, A, B', C', D', rfl, hu, bA, bB, bC, bD, _, rfl, _, _, rfl, rfl, p0, ?_⟩
    refine ⟨_, rfl, rfl, _, rfl, iteE (fun g => ?_) (fun g => ?_)⟩
    · rw [if_pos (show Stick.discI (A : Int) (B' : Int) (C' : Int) (D' : Int) % (p : Int) = 0 from g)] at hq
      refine ⟨_, rfl, o, A, B', C', D', rfl, hu, bA, bB, bC, bD, fun x H3 e3 hx => ?_⟩
      generalize hns : ([(B' : Int) * B' - 3 * A * C', (B' : Int) * C' - 9 * A * D', (C' : Int) * C' - 3 * B' * D'] : List Int) = ns at hx
      have len3 : ns.length = 3 := by rw [← hns]; rfl
      refine ⟨x, rfl, ⟨_, SqT.of hx⟩, ?_⟩
      refine lcT fm0 trivial (SqT.of hx) (fun z => z) (fun i acc _ => acc = ((ns.take i).map fun n => !decide (n % (p : Int) = 0)).map V.bl) (fun _ _ => rfl) (fun D i v acc H' hD hv e hA hlen hp => ?_) (fun D H4 acc hD e4 hA hp' => ?_)
      · obtain ⟨n, hn, rfl⟩ := get_int hv
        have hi : i < ns.length := (List.getElem?_eq_some_iff.mp hn).1
        refine ⟨rfl, ?_⟩
        refine ⟨_, rfl, _, rfl, _, _, rfl, rfl, p0, rfl, ?_⟩
        refine cs_yes fm0 trivial hD e hA hlen (by omega) (Fx.refl trivial) ?_
        have ed : decide (V.int (n % (p : Int)) = V.int 0) = decide (n % (p : Int) = 0) := decide_eq_decide.mpr ⟨fun z => V.int.inj z, fun z => congrArg V.int z⟩
        rw [hp, List.take_add_one, hn, List.map_append, List.map_append]
        show _ ++ [V.bl !decide (V.int (n % (p : Int)) = V.int 0)] = _
        rw [ed]
        rfl
      · rw [List.length_map, List.take_length] at hp'
        subst hp'
        have g2 : ((ns.map fun n => !decide (n % (p : Int) = 0)).any id = true) ↔ (((B' : Int) * B' - 3 * A * C') % (p : Int) ≠ 0 ∨ ((B' : Int) * C' - 9 * A * D') % (p : Int) ≠ 0 ∨ ((C' : Int) * C' - 3 * B' * D') % (p : Int) ≠ 0) := by
          rw [← hns]
          simp only [List.map_cons, List.map_nil, List.any_cons, List.any_nil, id, Bool.or_false, Bool.or_eq_true, Bool.not_eq_true', decide_eq_false_iff_not, ne_eq]
        refine ⟨D, _, rfl, SqL.of hA, _, rfl, iteB (fun g => ?_) (fun g => ?_)⟩
        · rw [if_pos (g2.mp g)] at hq
          exact hq _ rfl H4 (e1.trans (Fx.trans e3 e4))
        · rw [if_neg (fun z => by rw [g2.mpr z] at g; cases g)] at hq
          exact hq _ rfl H4 (e1.trans (Fx.trans e3 e4))
    obtain ⟨k, hk⟩ : ∃ n : Nat, fdisc A B' C' D' % (p : Int) = n := ⟨(fdisc A B' C' D' % (p : Int)).toNat, (Int.toNat_of_nonneg (Int.emod_nonneg _ pn)).symm⟩
    have lk := Int.emod_lt_of_pos (fdisc A B' C' D') p0
    rw [hk] at lk
    refine ⟨_, rfl, _, rfl, _, _, rfl, rfl, _, _, rfl, rfl, dw (by decide) (by decide), _, rfl, k, (p - 1) / 2, p, ?_, p2, by omega, by omega, by omega, rfl, _, rfl, ?_⟩
    · have e2 : ((p : Int) - 1) / 2 = (((p - 1) / 2 : Nat) : Int) := by omega
      rw [← hk, ← e2]
      rfl
    · have edk : Stick.discI (A : Int) (B' : Int) (C' : Int) (D' : Int) % (p : Int) = (k : Int) := hk
      rw [if_neg (show ¬ Stick.discI (A : Int) (B' : Int) (C' : Int) (D' : Int) % (p : Int) = 0 from g), edk] at hq
      have eeu : Stick.eul p ((k : Int)).toNat = (k ^ ((p - 1) / 2) % p == 1) := rfl
      rw [eeu] at hq
      refine iteEn (fun g => ?_) (fun g => ?_)
      · rw [if_pos (by rw [beq_eq_false_iff_ne]; intro z; exact g (by rw [z]; rfl))] at hq
        exact hq _ rfl H2 e1
      · rw [if_neg (by rw [beq_eq_false_iff_ne]; intro z; exact z (by omega))] at hq
        refine ⟨_, rfl, _, rfl, o, A, B', C', D', p, rfl, hu, by omega, p1, fun l H3 ys qs e3 _ hl hP pm srt => ?_⟩
        have elen : ys.length = (Stick.rI (A : Int) (B' : Int) (C' : Int) (D' : Int) p).length + (if (A : Int) % (p : Int) = 0 then 1 else 0) := by
          rw [hP.len, pm.length_eq, rootsL_eq, Stick.roots_len]
        rw [← elen] at hq
        refine ⟨l, ys, rfl, .inl (SqL.of hl), _, _, rfl, rfl, _, rfl, iteD (fun g => ?_) (fun g => ?_)⟩
        · rw [if_pos (by omega)] at hq
          exact hq _ rfl H3 (e1.trans e3)
        · rw [if_neg (by omega)] at hq
          exact hq _ rfl H3 (e1.trans e3)
theorem ok_check_both (T : Txt K mg C_Form) : Def P w K mg base 7 "check_both" ["form", "prime"] (sp_check_both K C_Form) := by
  obtain ⟨f_, fd_, g_, F_⟩ := T.d_check_both
  obtain ⟨f_check_form, fd_check_form, g_check_form, k_check_form, b_check_form, G_check_form⟩ := (ok_check_form (P := P) (w := w) (base := base) T)
  obtain ⟨f_check_prime, fd_check_prime, g_check_prime, k_check_prime, b_check_prime, G_check_prime⟩ := (ok_check_prime (P := P) (w := w) (base := base) T)
  refine ⟨f_, fd_, g_, F_.kp, F_.binds (ps := ["form", "prime"]) (fun _ _ _ _ _ _ us hl => match us, hl with | [_, _], _ => rfl), ?_⟩
  refine F_.ok sc_check_both (fun vs H Q E h => ?_) (fun cdv A outer s H vs Q E hr h => ?_)
  · first | (obtain ⟨rfl, _⟩ := h; rfl) | (obtain ⟨_, rfl, _⟩ := h; rfl) | (obtain ⟨_, _, rfl, _⟩ := h; rfl) | (obtain ⟨_, _, _, rfl, _⟩ := h; rfl) | (obtain ⟨_, _, _, _, rfl, _⟩ := h; rfl) | (obtain ⟨_, _, _, _, _, rfl, _⟩ := h; rfl) | (obtain ⟨_, _, _, _, _, _, rfl, _⟩ := h; rfl) | (obtain ⟨_, _, _, _, _, _, _, rfl, _⟩ := h; rfl) | (obtain ⟨_, _, _, _, _, _, _, _, rfl, _⟩ := h; rfl) | (obtain ⟨_, _, _, _, _, _, _, _, _, rfl, _⟩ := h; rfl) | (obtain ⟨_, _, _, _, _, _, _, _, _, _, rfl, _⟩ := h; rfl) | (obtain ⟨_, _, _, _, _, _, _, _, _, _, _, rfl, _⟩ := h; rfl) | (obtain ⟨_, _, _, _, _, _, _, _, _, _, _, _, rfl, _⟩ := h; rfl) | (obtain ⟨_, _, _, _, _, _, _, _, _, _, _, _, _, rfl, _⟩ := h; rfl) | (obtain ⟨_, _, _, _, _, _, _, _, _, _, _, _, _, _, rfl, _⟩ := h; rfl) | (obtain ⟨_, _, _, _, _, _, _, _, _, _, _, _, _, _, _, rfl, _⟩ := h; rfl) | (obtain ⟨_, _, _, _, _, _, _, _, _, _, _, _, _, _, _, _, rfl, _⟩ := h; rfl) | (obtain ⟨_, _, _, _, _, _, _, _, _, _, _, _, _, _, _, _, _, rfl, _⟩ := h; rfl) | (obtain ⟨_, _, _, _, _, _, _, _, _, _, _, _, _, _, _, _, _, _, rfl, _⟩ := h; rfl) | (obtain ⟨_, _, _, _, _, _, _, _, _, _, _, _, _, _, _, _, _, _, _, rfl, _⟩ := h; rfl) | (obtain ⟨_, _, _, _, _, _, _, _, _, _, _, _, _, _, _, _, _, _, _, _, rfl, _⟩ := h; rfl) | (obtain ⟨_, _, _, _, _, _, _, _, _, _, _, _, _, _, _, _, _, _, _, _, _, rfl, _⟩ := h; rfl) | (obtain ⟨_, _, _, _, _, _, _, _, _, _, _, _, _, _, _, _, _, _, _, _, _, _, rfl, _⟩ := h; rfl) | (obtain ⟨_, _, _, _, _, _, _, _, _, _, _, _, _, _, _, _, _, _, _, _, _, _, _, rfl, _⟩ := h; rfl)
  · obtain ⟨x, ns, p, rfl, hx, hp, p1, q⟩ := h
    refine ⟨_, (pss_cons (ps_expr (pe_call G_check_form (hr.mono (by decide)) (by rfl) g_check_form k_check_form b_check_form .nil pass0 (pa_cons (pv 0) pa_nil)))
    (pss_one (ps_expr (pe_call G_check_prime (hr.mono (by decide)) (by rfl) g_check_prime k_check_prime b_check_prime .nil pass0 (pa_cons (pv 1) pa_nil))))), ?_⟩
    refine ⟨_, rfl, x, ns, rfl, hx, ?_⟩
    exact ⟨_, rfl, p, rfl, by omega, hp, q⟩
theorem ok_kind_at (T : Txt K mg C_Form) : Def P w K mg base 8 "kind_at" ["form", "prime"] (sp_kind_at K C_Form) := by
  obtain ⟨f_, fd_, g_, F_⟩ := T.d_kind_at
  obtain ⟨p_Form_coefficients, f_Form_coefficients, fd_Form_coefficients, R_Form_coefficients, b_Form_coefficients, G_Form_coefficients⟩ := (ok_Form_coefficients (P := P) (w := w) (base := base) T)
  obtain ⟨f_check_both, fd_check_both, g_check_both, k_check_both, b_check_both, G_check_both⟩ := (ok_check_both (P := P) (w := w) (base := base) T)
  obtain ⟨f_kind_of, fd_kind_of, g_kind_of, k_kind_of, b_kind_of, G_kind_of⟩ := (ok_kind_of (P := P) (w := w) (base := base) T)
  refine ⟨f_, fd_, g_, F_.kp, F_.binds (ps := ["form", "prime"]) (fun _ _ _ _ _ _ us hl => match us, hl with | [_, _], _ => rfl), ?_⟩
  refine F_.ok sc_kind_at (fun vs H Q E h => ?_) (fun cdv A outer s H vs Q E hr h => ?_)
  · first | (obtain ⟨rfl, _⟩ := h; rfl) | (obtain ⟨_, rfl, _⟩ := h; rfl) | (obtain ⟨_, _, rfl, _⟩ := h; rfl) | (obtain ⟨_, _, _, rfl, _⟩ := h; rfl) | (obtain ⟨_, _, _, _, rfl, _⟩ := h; rfl) | (obtain ⟨_, _, _, _, _, rfl, _⟩ := h; rfl) | (obtain ⟨_, _, _, _, _, _, rfl, _⟩ := h; rfl) | (obtain ⟨_, _, _, _, _, _, _, rfl, _⟩ := h; rfl) | (obtain ⟨_, _, _, _, _, _, _, _, rfl, _⟩ := h; rfl) | (obtain ⟨_, _, _, _, _, _, _, _, _, rfl, _⟩ := h; rfl) | (obtain ⟨_, _, _, _, _, _, _, _, _, _, rfl, _⟩ := h; rfl) | (obtain ⟨_, _, _, _, _, _, _, _, _, _, _, rfl, _⟩ := h; rfl) | (obtain ⟨_, _, _, _, _, _, _, _, _, _, _, _, rfl, _⟩ := h; rfl) | (obtain ⟨_, _, _, _, _, _, _, _, _, _, _, _, _, rfl, _⟩ := h; rfl) | (obtain ⟨_, _, _, _, _, _, _, _, _, _, _, _, _, _, rfl, _⟩ := h; rfl) | (obtain ⟨_, _, _, _, _, _, _, _, _, _, _, _, _, _, _, rfl, _⟩ := h; rfl) | (obtain ⟨_, _, _, _, _, _, _, _, _, _, _, _, _, _, _, _, rfl, _⟩ := h; rfl) | (obtain ⟨_, _, _, _, _, _, _, _, _, _, _, _, _, _, _, _, _, rfl, _⟩ := h; rfl) | (obtain ⟨_, _, _, _, _, _, _, _, _, _, _, _, _, _, _, _, _, _, rfl, _⟩ := h; rfl) | (obtain ⟨_, _, _, _, _, _, _, _, _, _, _, _, _, _, _, _, _, _, _, rfl, _⟩ := h; rfl) | (obtain ⟨_, _, _, _, _, _, _, _, _, _, _, _, _, _, _, _, _, _, _, _, rfl, _⟩ := h; rfl) | (obtain ⟨_, _, _, _, _, _, _, _, _, _, _, _, _, _, _, _, _, _, _, _, _, rfl, _⟩ := h; rfl) | (obtain ⟨_, _, _, _, _, _, _, _, _, _, _, _, _, _, _, _, _, _, _, _, _, _, rfl, _⟩ := h; rfl) | (obtain ⟨_, _, _, _, _, _, _, _, _, _, _, _, _, _, _, _, _, _, _, _, _, _, _, rfl, _⟩ := h; rfl)
  · obtain ⟨x, a, b, c, d, p, rfl, hx, hp, pk, q⟩ := h
    refine ⟨_, (pss_cons (ps_expr (pe_call G_check_both (hr.mono (by decide)) (by rfl) g_check_both k_check_both b_check_both .nil pass0 (pa_cons (pv 0) (pa_cons (pv 1) pa_nil))))
    (pss_one (ps_ret (pe_call G_kind_of (hr.mono (by decide)) (by rfl) g_kind_of k_kind_of b_kind_of .nil pass0 (pa_cons (pe_prop (pv 0) T.cl_Form R_Form_coefficients G_Form_coefficients (hr.mono (by decide)) b_Form_coefficients .nil pass0 (by rfl)) (pa_cons (pv 1) pa_nil)))))), ?_⟩
    obtain ⟨dx, t0, hx1, hx2⟩ := id hx
    refine ⟨_, rfl, _, rfl, x, _, p, rfl, hx, hp, pk.lt, ?_⟩
    refine ⟨_, rfl, x, dx, _, rfl, hx1, x, _, rfl, hx, fun t ht => ?_⟩
    exact ⟨_, rfl, t, a, b, c, d, p, rfl, ht, hp, pk, q⟩
end
end K52
namespace K52
open PySem PySem.Spec PyProof.Rows L2 Fr
open LedM
open K05M (fv fl2 fl3 fdisc)
section
def sp_l_crock (K : PySem.W.Frag) (_ : Addr) : Sp := fun vs H Q _ => ∃ (a : Addr) (ns : List Int) (i : Nat), vs = [.ref a, .int (i : Int)] ∧ SqL K H a (ns.map V.int) ∧ ∀ p H', H p = none → Ex0 H H' → Vat p H' → Q (.ref p) H'
def sp_l_scoop (_ : PySem.W.Frag) (_ : Addr) : Sp := fun vs H Q _ => ∃ (c : Addr) (t : Int), vs = [.ref c, .int t] ∧ Vat c H ∧ 0 < t ∧ t < 2 ^ 250 ∧ ∀ (r : Int) H', 0 ≤ r → r < t → Fv c H H' → Q (.int r) H'
def sp_l_choose (K : PySem.W.Frag) (_ : Addr) : Sp := fun vs H Q _ => ∃ (c l : Addr) (xs : List V), vs = [.ref c, .ref l] ∧ Vat c H ∧ H l = some (.lst xs) ∧ l ≠ c ∧ xs ≠ [] ∧ xs.length ≤ 1000 ∧ ∀ v H', v ∈ xs → Fv c H H' → Q v H'
def Two (H : Hp) (u : Addr) (x y : Int) : Prop := H u = some (.lst [.int x, .int y]) ∨ H u = some (.tup [.int x, .int y])
theorem Two.ex {H H' : Hp} {u : Addr} {x y : Int} (e : Ex0 H H') (h : Two H u x y) : Two H' u x y := by
  rcases h with h | h
  · exact .inl (Ex0.ap e h)
  · exact .inr (Ex0.ap e h)
def sp_l_lines (K : PySem.W.Frag) (_ : Addr) : Sp := fun vs H Q _ => ∃ (l l1 l2 l3 : Addr) (x1 y1 x2 y2 x3 y3 : Int), vs = [.ref l] ∧ H l = some (.lst [.ref l1, .ref l2, .ref l3]) ∧ Two H l1 x1 y1 ∧ Two H l2 x2 y2 ∧ Two H l3 x3 y3 ∧ (∀ z ∈ [(x1, y1), (x2, y2), (x3, y3)], z.1.natAbs ≤ 100000000 ∧ z.2.natAbs ≤ 100000000) ∧ ∀ (r : Addr) H', Ex0 H H' → H r = none → H' r = some (.lst ((lnP [(x1, y1), (x2, y2), (x3, y3)]).map V.int)) → Q (.ref r) H'
end
section
variable {P : Program} {w : World} {K : PySem.W.Frag} {mg : Str → Option Value} {base : Heap} {C_Form : Addr}
theorem ok_l_crock (T : Txt K mg C_Form) : Def P w K mg base 1 "_law_crock" ["_law_script", "_law_turn"] (sp_l_crock K C_Form) := by
  obtain ⟨f_, fd_, g_, F_⟩ := T.d_l_crock
  refine ⟨f_, fd_, g_, F_.kp, F_.binds (ps := ["_law_script", "_law_turn"]) (fun _ _ _ _ _ _ us hl => match us, hl with | [_, _], _ => rfl), ?_⟩
  refine F_.ok sc_l_crock (fun vs H Q E h => ?_) (fun cdv A outer s H vs Q E hr h => ?_)
  · first | (obtain ⟨rfl, _⟩ := h; rfl) | (obtain ⟨_, rfl, _⟩ := h; rfl) | (obtain ⟨_, _, rfl, _⟩ := h; rfl) | (obtain ⟨_, _, _, rfl, _⟩ := h; rfl) | (obtain ⟨_, _, _, _, rfl, _⟩ := h; rfl) | (obtain ⟨_, _, _, _, _, rfl, _⟩ := h; rfl) | (obtain ⟨_, _, _, _, _, _, rfl, _⟩ := h; rfl) | (obtain ⟨_, _, _, _, _, _, _, rfl, _⟩ := h; rfl) | (obtain ⟨_, _, _, _, _, _, _, _, rfl, _⟩ := h; rfl) | (obtain ⟨_, _, _, _, _, _, _, _, _, rfl, _⟩ := h; rfl) | (obtain ⟨_, _, _, _, _, _, _, _, _, _, rfl, _⟩ := h; rfl) | (obtain ⟨_, _, _, _, _, _, _, _, _, _, _, rfl, _⟩ := h; rfl) | (obtain ⟨_, _, _, _, _, _, _, _, _, _, _, _, rfl, _⟩ := h; rfl) | (obtain ⟨_, _, _, _, _, _, _, _, _, _, _, _, _, rfl, _⟩ := h; rfl) | (obtain ⟨_, _, _, _, _, _, _, _, _, _, _, _, _, _, rfl, _⟩ := h; rfl) | (obtain ⟨_, _, _, _, _, _, _, _, _, _, _, _, _, _, _, rfl, _⟩ := h; rfl) | (obtain ⟨_, _, _, _, _, _, _, _, _, _, _, _, _, _, _, _, rfl, _⟩ := h; rfl) | (obtain ⟨_, _, _, _, _, _, _, _, _, _, _, _, _, _, _, _, _, rfl, _⟩ := h; rfl) | (obtain ⟨_, _, _, _, _, _, _, _, _, _, _, _, _, _, _, _, _, _, rfl, _⟩ := h; rfl) | (obtain ⟨_, _, _, _, _, _, _, _, _, _, _, _, _, _, _, _, _, _, _, rfl, _⟩ := h; rfl) | (obtain ⟨_, _, _, _, _, _, _, _, _, _, _, _, _, _, _, _, _, _, _, _, rfl, _⟩ := h; rfl) | (obtain ⟨_, _, _, _, _, _, _, _, _, _, _, _, _, _, _, _, _, _, _, _, _, rfl, _⟩ := h; rfl) | (obtain ⟨_, _, _, _, _, _, _, _, _, _, _, _, _, _, _, _, _, _, _, _, _, _, rfl, _⟩ := h; rfl) | (obtain ⟨_, _, _, _, _, _, _, _, _, _, _, _, _, _, _, _, _, _, _, _, _, _, _, rfl, _⟩ := h; rfl)
  · obtain ⟨a, ns, i, rfl, ha, q⟩ := h
    refine ⟨_, (Evl.pss_cut (ps_set (i := 2) sc_l_crock.nd rfl (.inl rfl) (pe_ifExp (pt_cmpR op_lt (pv 1) (pe_callB call_len_seq (by rfl) T.b_len PySem.boot_len (pa_cons (pv 0) pa_nil)) (nomark _)) (pe_callTy call_int1 (by rfl) T.b_int (by decide +kernel) (pa_cons (pe_ix ix_list (pv 0) (pv 1) (fun _ _ => rfl)) pa_nil)) (pe_op op_add (pe_op op_add (pe_op op_mul pe_int (pv 1)) pe_int) (pe_op op_mod (pe_callTy call_int1 (by rfl) T.b_int (by decide +kernel) (pa_cons (pe_callB (cr_sum rfl) (by rfl) T.b_sum (by decide +kernel) (pa_cons (pe_slice sl_list (pv 0) po_none (po_some pe_int)) pa_nil)) pa_nil)) pe_int))))
    (pss_cons (ps_set (i := 3) sc_l_crock.nd rfl (.inl rfl) (pe_op op_mod (pe_callB call_abs (by rfl) T.b_abs (by decide +kernel) (pa_cons (pv 2) pa_nil)) (pe_op op_powC (pe_op op_pow pe_int pe_int) pe_int)))
    (pss_one (ps_ret (pe_lst (pa_cons (pe_callB (call_max2 rfl) (by rfl) T.b_max (by decide +kernel) (pa_cons pe_int (pa_cons (pe_op op_sub (pv 3) (pe_op op_pow pe_int pe_int)) pa_nil))) (pa_cons (pe_op op_add (pe_op op_add (pe_op op_add (pe_op op_mul (pe_op op_mod (pv 3) pe_int) pe_int) (pe_op op_mul pe_int (pv 1))) (pe_op op_mul pe_int (pe_callTy call_int1 (by rfl) T.b_int (by decide +kernel) (pa_cons (pe_cmpR op_lt (pv 2) pe_int (nomark _)) pa_nil)))) pe_int) (pa_cons pe_int pa_nil)))))))), ?_⟩
    refine ⟨fun σ H' => ∃ cell : Int, σ = [some (.ref a), some (.int (i : Int)), some (.int cell), none] ∧ Ex0 H H', ?_, ?_⟩
    · refine ⟨_, rfl, _, rfl, a, _, rfl, .inl ha, _, _, rfl, rfl, _, rfl, iteD (fun g => ?_) (fun g => ?_)⟩
      · have hi : i < ns.length := by rw [List.length_map] at g; omega
        refine ⟨_, rfl, _, rfl, a, _, (i : Int), .int ns[i], rfl, rfl, ha, atI_nat (by rw [List.getElem?_map, List.getElem?_eq_getElem hi]; rfl), .inl ⟨_, rfl, ?_⟩⟩
        exact ⟨_, rfl, Ex0.refl H⟩
      · refine ⟨_, rfl, _, _, rfl, rfl, .inl ⟨by decide, by decide⟩, _, _, rfl, rfl, ?_⟩
        refine ⟨_, rfl, _, rfl, a, _, rfl, ha, fun p np => ?_⟩
        refine ⟨p, _, rfl, SqL.of (by rw [upd_same, cut_map]), .inl ⟨_, rfl, ?_⟩⟩
        refine ⟨_, _, rfl, rfl, (show (0 : Int) < 1000033 by decide), _, _, rfl, rfl, ?_⟩
        exact ⟨_, rfl, Ex0.new np⟩
    · rintro σ H' ⟨cell, rfl, e⟩
      refine ⟨_, rfl, cell, rfl, _, _, rfl, rfl, ⟨by decide, by decide, by decide⟩, _, _, rfl, rfl, ⟨by decide, by decide +kernel⟩, _, _, rfl, rfl, by show (0 : Int) < (10 ^ 57) ^ 6; decide +kernel, ?_⟩
      refine ⟨_, rfl, _, _, rfl, rfl, ⟨by decide, by decide, by decide⟩, _, _, rfl, rfl, _, _, rfl, ?_⟩
      refine ⟨_, rfl, _, _, rfl, rfl, (show (0 : Int) < 1000000000177 by decide), _, _, rfl, rfl, .inr ⟨by decide, by decide⟩, _, rfl, _, _, rfl, rfl, .inl ⟨by decide, by decide⟩, _, _, rfl, rfl, ?_⟩
      refine ⟨_, rfl, _, _, rfl, rfl, .inr ⟨_, rfl, _, _, rfl, rfl, .inl ⟨by decide, by decide⟩, _, _, rfl, rfl, _, _, rfl, rfl, sl3, fun p hp => ?_⟩⟩
      exact q p _ (Fx.free e (fun z => z) hp) (e.trans (Ex0.new hp)) ⟨_, _, _, upd_same⟩
theorem ok_l_scoop (T : Txt K mg C_Form) : Def P w K mg base 1 "_law_scoop" ["_law_crock_here", "_law_many"] (sp_l_scoop K C_Form) := by
  obtain ⟨f_, fd_, g_, F_⟩ := T.d_l_scoop
  refine ⟨f_, fd_, g_, F_.kp, F_.binds (ps := ["_law_crock_here", "_law_many"]) (fun _ _ _ _ _ _ us hl => match us, hl with | [_, _], _ => rfl), ?_⟩
  refine F_.ok sc_l_scoop (fun vs H Q E h => ?_) (fun cdv A outer s H vs Q E hr h => ?_)
  · first | (obtain ⟨rfl, _⟩ := h; rfl) | (obtain ⟨_, rfl, _⟩ := h; rfl) | (obtain ⟨_, _, rfl, _⟩ := h; rfl) | (obtain ⟨_, _, _, rfl, _⟩ := h; rfl) | (obtain ⟨_, _, _, _, rfl, _⟩ := h; rfl) | (obtain ⟨_, _, _, _, _, rfl, _⟩ := h; rfl) | (obtain ⟨_, _, _, _, _, _, rfl, _⟩ := h; rfl) | (obtain ⟨_, _, _, _, _, _, _, rfl, _⟩ := h; rfl) | (obtain ⟨_, _, _, _, _, _, _, _, rfl, _⟩ := h; rfl) | (obtain ⟨_, _, _, _, _, _, _, _, _, rfl, _⟩ := h; rfl) | (obtain ⟨_, _, _, _, _, _, _, _, _, _, rfl, _⟩ := h; rfl) | (obtain ⟨_, _, _, _, _, _, _, _, _, _, _, rfl, _⟩ := h; rfl) | (obtain ⟨_, _, _, _, _, _, _, _, _, _, _, _, rfl, _⟩ := h; rfl) | (obtain ⟨_, _, _, _, _, _, _, _, _, _, _, _, _, rfl, _⟩ := h; rfl) | (obtain ⟨_, _, _, _, _, _, _, _, _, _, _, _, _, _, rfl, _⟩ := h; rfl) | (obtain ⟨_, _, _, _, _, _, _, _, _, _, _, _, _, _, _, rfl, _⟩ := h; rfl) | (obtain ⟨_, _, _, _, _, _, _, _, _, _, _, _, _, _, _, _, rfl, _⟩ := h; rfl) | (obtain ⟨_, _, _, _, _, _, _, _, _, _, _, _, _, _, _, _, _, rfl, _⟩ := h; rfl) | (obtain ⟨_, _, _, _, _, _, _, _, _, _, _, _, _, _, _, _, _, _, rfl, _⟩ := h; rfl) | (obtain ⟨_, _, _, _, _, _, _, _, _, _, _, _, _, _, _, _, _, _, _, rfl, _⟩ := h; rfl) | (obtain ⟨_, _, _, _, _, _, _, _, _, _, _, _, _, _, _, _, _, _, _, _, rfl, _⟩ := h; rfl) | (obtain ⟨_, _, _, _, _, _, _, _, _, _, _, _, _, _, _, _, _, _, _, _, _, rfl, _⟩ := h; rfl) | (obtain ⟨_, _, _, _, _, _, _, _, _, _, _, _, _, _, _, _, _, _, _, _, _, _, rfl, _⟩ := h; rfl) | (obtain ⟨_, _, _, _, _, _, _, _, _, _, _, _, _, _, _, _, _, _, _, _, _, _, _, rfl, _⟩ := h; rfl)
  · obtain ⟨c, t, rfl, ⟨x, y, z, hv⟩, h0, h1, q⟩ := h
    refine ⟨_, (pss_cons (ps_if (pt_cmpR op_gt (pe_ix ix_list (pv 0) pe_int (fun _ _ => rfl)) pe_int (nomark _))
      (pss_cons (ps_set (i := 2) sc_l_scoop.nd rfl (.inl rfl) (pe_op op_mod (pe_callTy call_int1 (by rfl) T.b_int (by decide +kernel) (pa_cons (pe_ix ix_list (pv 0) pe_int (fun _ _ => rfl)) pa_nil)) (pv 1)))
    (pss_cons (ps_asg (pe_op op_fdivW (pe_callTy call_int1 (by rfl) T.b_int (by decide +kernel) (pa_cons (pe_ix ix_list (pv 0) pe_int (fun _ _ => rfl)) pa_nil)) (pv 1)) (pg_sub (pv 0) pe_int set_list))
    (pss_one (ps_ret (pv 2)))))
      pss_nil)
    (pss_cons (ps_asg (pe_op op_add (pe_ix ix_list (pv 0) pe_int (fun _ _ => rfl)) pe_int) (pg_sub (pv 0) pe_int set_list))
    (pss_cons (ps_set (i := 3) sc_l_scoop.nd rfl (.inl rfl) (pe_op op_mod (pe_callTy call_int1 (by rfl) T.b_int (by decide +kernel) (pa_cons (pe_op op_add (pe_ix ix_list (pv 0) pe_int (fun _ _ => rfl)) (pe_op op_mul pe_int (pe_ix ix_list (pv 0) pe_int (fun _ _ => rfl)))) pa_nil)) pe_int))
    (pss_cons (ps_set (i := 4) sc_l_scoop.nd rfl (.inl rfl) (pe_op op_mod (pe_callTy call_int1 (by rfl) T.b_int (by decide +kernel) (pa_cons (pe_op op_add (pe_op op_add (pe_op op_mul (pv 3) (pv 3)) (pe_op op_mul pe_int (pe_ix ix_list (pv 0) pe_int (fun _ _ => rfl)))) pe_int) pa_nil)) pe_int))
    (pss_one (ps_ret (pe_op op_mod (pe_callTy call_int1 (by rfl) T.b_int (by decide +kernel) (pa_cons (pe_op op_fdivW (pe_op op_mul (pv 4) (pe_op op_add (pe_op op_mod (pv 3) pe_int) pe_int)) pe_int) pa_nil)) (pv 1)))))))), ?_⟩
    have fv : ∀ (H' : Hp) (x' y' z' : Int), (∀ b o, b ≠ c → H b = some o → H' b = some o) → H' c = some (.lst [.int x', .int y', .int z']) → Fv c H H' := fun H' x' y' z' a b => ⟨⟨x', y', z', b⟩, a⟩
    refine ⟨_, rfl, c, _, 0, .int x, rfl, rfl, SqL.of hv, rfl, x, 0, rfl, rfl, _, rfl, iteD (fun g => ?_) (fun g => ?_)⟩
    · refine ⟨_, rfl, c, _, 0, .int x, rfl, rfl, SqL.of hv, rfl, .inl ⟨x, rfl, _, rfl, x, t, rfl, rfl, h0, ?_⟩⟩
      refine ⟨_, rfl, c, _, 0, .int x, rfl, rfl, SqL.of hv, rfl, .inl ⟨x, rfl, _, rfl, x, t, rfl, rfl, dw h0 h1, ?_⟩⟩
      refine ⟨_, rfl, c, _, 0, 0, rfl, rfl, hv, rfl, ?_⟩
      refine ⟨_, rfl, ?_⟩
      exact q _ _ (Int.emod_nonneg _ (by omega)) (Int.emod_lt_of_pos _ h0) (fv _ _ _ _ (fun b o n e => by rw [upd_ne n]; exact e) upd_same)
    · refine ⟨_, rfl, c, _, 2, .int z, rfl, rfl, SqL.of hv, rfl, _, 1, rfl, rfl, ?_⟩
      refine ⟨_, rfl, c, _, 2, 2, rfl, rfl, hv, rfl, ?_⟩
      have hv2 : upd H c (.lst [.int x, .int y, .int (z + 1)]) c = some (.lst [.int x, .int y, .int (z + 1)]) := upd_same
      refine ⟨_, rfl, c, _, 1, .int y, rfl, rfl, SqL.of hv2, rfl, _, rfl, c, _, 2, .int (z + 1), rfl, rfl, SqL.of hv2, rfl, _, _, rfl, rfl, .inl ⟨by decide, by decide⟩, _, _, rfl, rfl, .inl ⟨_, rfl, ?_⟩⟩
      refine ⟨_, _, rfl, rfl, (show (0 : Int) < 2305843009213693951 by decide), ?_⟩
      refine ⟨_, rfl, _, rfl, _, _, rfl, rfl, .inl ⟨by omega, by omega⟩, _, rfl, c, _, 2, .int (z + 1), rfl, rfl, SqL.of hv2, rfl, _, _, rfl, rfl, .inl ⟨by decide, by decide⟩, _, _, rfl, rfl, _, _, rfl, rfl, .inl ⟨_, rfl, ?_⟩⟩
      refine ⟨_, _, rfl, rfl, (show (0 : Int) < 1152921504606846883 by decide), ?_⟩
      refine ⟨_, rfl, _, rfl, _, _, rfl, rfl, (show (0 : Int) < 1019 by decide), _, _, rfl, rfl, _, _, rfl, rfl, .inl ⟨by omega, by omega⟩, _, _, rfl, rfl, dw (by decide) (by decide), .inl ⟨_, rfl, _, rfl, _, _, rfl, rfl, h0, ?_⟩⟩
      exact q _ _ (Int.emod_nonneg _ (by omega)) (Int.emod_lt_of_pos _ h0) (fv _ _ _ _ (fun b o n e => by rw [upd_ne n]; exact e) hv2)
theorem ok_l_choose (T : Txt K mg C_Form) : Def P w K mg base 2 "_law_choose" ["_law_crock_here", "_law_items"] (sp_l_choose K C_Form) := by
  obtain ⟨f_, fd_, g_, F_⟩ := T.d_l_choose
  obtain ⟨f_l_scoop, fd_l_scoop, g_l_scoop, k_l_scoop, b_l_scoop, G_l_scoop⟩ := (ok_l_scoop (P := P) (w := w) (base := base) T)
  refine ⟨f_, fd_, g_, F_.kp, F_.binds (ps := ["_law_crock_here", "_law_items"]) (fun _ _ _ _ _ _ us hl => match us, hl with | [_, _], _ => rfl), ?_⟩
  refine F_.ok sc_l_choose (fun vs H Q E h => ?_) (fun cdv A outer s H vs Q E hr h => ?_)
  · first | (obtain ⟨rfl, _⟩ := h; rfl) | (obtain ⟨_, rfl, _⟩ := h; rfl) | (obtain ⟨_, _, rfl, _⟩ := h; rfl) | (obtain ⟨_, _, _, rfl, _⟩ := h; rfl) | (obtain ⟨_, _, _, _, rfl, _⟩ := h; rfl) | (obtain ⟨_, _, _, _, _, rfl, _⟩ := h; rfl) | (obtain ⟨_, _, _, _, _, _, rfl, _⟩ := h; rfl) | (obtain ⟨_, _, _, _, _, _, _, rfl, _⟩ := h; rfl) | (obtain ⟨_, _, _, _, _, _, _, _, rfl, _⟩ := h; rfl) | (obtain ⟨_, _, _, _, _, _, _, _, _, rfl, _⟩ := h; rfl) | (obtain ⟨_, _, _, _, _, _, _, _, _, _, rfl, _⟩ := h; rfl) | (obtain ⟨_, _, _, _, _, _, _, _, _, _, _, rfl, _⟩ := h; rfl) | (obtain ⟨_, _, _, _, _, _, _, _, _, _, _, _, rfl, _⟩ := h; rfl) | (obtain ⟨_, _, _, _, _, _, _, _, _, _, _, _, _, rfl, _⟩ := h; rfl) | (obtain ⟨_, _, _, _, _, _, _, _, _, _, _, _, _, _, rfl, _⟩ := h; rfl) | (obtain ⟨_, _, _, _, _, _, _, _, _, _, _, _, _, _, _, rfl, _⟩ := h; rfl) | (obtain ⟨_, _, _, _, _, _, _, _, _, _, _, _, _, _, _, _, rfl, _⟩ := h; rfl) | (obtain ⟨_, _, _, _, _, _, _, _, _, _, _, _, _, _, _, _, _, rfl, _⟩ := h; rfl) | (obtain ⟨_, _, _, _, _, _, _, _, _, _, _, _, _, _, _, _, _, _, rfl, _⟩ := h; rfl) | (obtain ⟨_, _, _, _, _, _, _, _, _, _, _, _, _, _, _, _, _, _, _, rfl, _⟩ := h; rfl) | (obtain ⟨_, _, _, _, _, _, _, _, _, _, _, _, _, _, _, _, _, _, _, _, rfl, _⟩ := h; rfl) | (obtain ⟨_, _, _, _, _, _, _, _, _, _, _, _, _, _, _, _, _, _, _, _, _, rfl, _⟩ := h; rfl) | (obtain ⟨_, _, _, _, _, _, _, _, _, _, _, _, _, _, _, _, _, _, _, _, _, _, rfl, _⟩ := h; rfl) | (obtain ⟨_, _, _, _, _, _, _, _, _, _, _, _, _, _, _, _, _, _, _, _, _, _, _, rfl, _⟩ := h; rfl)
  · obtain ⟨c, l, xs, rfl, hc, hl, ne, hx, hz, q⟩ := h
    refine ⟨_, (pss_one (ps_ret (pe_ix ix_list (pv 1) (pe_call G_l_scoop (hr.mono (by decide)) (by rfl) g_l_scoop k_l_scoop b_l_scoop .nil pass0 (pa_cons (pv 0) (pa_cons (pe_callB call_len_seq (by rfl) T.b_len PySem.boot_len (pa_cons (pv 1) pa_nil)) pa_nil))) (fun _ _ => rfl)))), ?_⟩
    have h0 : 0 < xs.length := List.length_pos_iff.mpr hx
    refine ⟨_, rfl, _, rfl, _, rfl, l, xs, rfl, .inl (SqL.of hl), c, _, rfl, hc, by omega, by omega, fun r H' r0 r1 e => ?_⟩
    obtain ⟨j, rfl⟩ : ∃ j : Nat, r = (j : Int) := ⟨r.toNat, by omega⟩
    have hj : j < xs.length := by omega
    exact ⟨l, xs, _, xs[j], rfl, rfl, SqL.of (e.2 _ _ ne hl), atI_nat (List.getElem?_eq_getElem hj), q _ _ (List.getElem_mem hj) e⟩
theorem ok_l_lines (T : Txt K mg C_Form) : Def P w K mg base 1 "_law_lines" ["_law_lines_here"] (sp_l_lines K C_Form) := by
  obtain ⟨f_, fd_, g_, F_⟩ := T.d_l_lines
  refine ⟨f_, fd_, g_, F_.kp, F_.binds (ps := ["_law_lines_here"]) (fun _ _ _ _ _ _ us hl => match us, hl with | [_], _ => rfl), ?_⟩
  refine F_.ok sc_l_lines (fun vs H Q E h => ?_) (fun cdv A outer s H vs Q E hr h => ?_)
  · first | (obtain ⟨rfl, _⟩ := h; rfl) | (obtain ⟨_, rfl, _⟩ := h; rfl) | (obtain ⟨_, _, rfl, _⟩ := h; rfl) | (obtain ⟨_, _, _, rfl, _⟩ := h; rfl) | (obtain ⟨_, _, _, _, rfl, _⟩ := h; rfl) | (obtain ⟨_, _, _, _, _, rfl, _⟩ := h; rfl) | (obtain ⟨_, _, _, _, _, _, rfl, _⟩ := h; rfl) | (obtain ⟨_, _, _, _, _, _, _, rfl, _⟩ := h; rfl) | (obtain ⟨_, _, _, _, _, _, _, _, rfl, _⟩ := h; rfl) | (obtain ⟨_, _, _, _, _, _, _, _, _, rfl, _⟩ := h; rfl) | (obtain ⟨_, _, _, _, _, _, _, _, _, _, rfl, _⟩ := h; rfl) | (obtain ⟨_, _, _, _, _, _, _, _, _, _, _, rfl, _⟩ := h; rfl) | (obtain ⟨_, _, _, _, _, _, _, _, _, _, _, _, rfl, _⟩ := h; rfl) | (obtain ⟨_, _, _, _, _, _, _, _, _, _, _, _, _, rfl, _⟩ := h; rfl) | (obtain ⟨_, _, _, _, _, _, _, _, _, _, _, _, _, _, rfl, _⟩ := h; rfl) | (obtain ⟨_, _, _, _, _, _, _, _, _, _, _, _, _, _, _, rfl, _⟩ := h; rfl) | (obtain ⟨_, _, _, _, _, _, _, _, _, _, _, _, _, _, _, _, rfl, _⟩ := h; rfl) | (obtain ⟨_, _, _, _, _, _, _, _, _, _, _, _, _, _, _, _, _, rfl, _⟩ := h; rfl) | (obtain ⟨_, _, _, _, _, _, _, _, _, _, _, _, _, _, _, _, _, _, rfl, _⟩ := h; rfl) | (obtain ⟨_, _, _, _, _, _, _, _, _, _, _, _, _, _, _, _, _, _, _, rfl, _⟩ := h; rfl) | (obtain ⟨_, _, _, _, _, _, _, _, _, _, _, _, _, _, _, _, _, _, _, _, rfl, _⟩ := h; rfl) | (obtain ⟨_, _, _, _, _, _, _, _, _, _, _, _, _, _, _, _, _, _, _, _, _, rfl, _⟩ := h; rfl) | (obtain ⟨_, _, _, _, _, _, _, _, _, _, _, _, _, _, _, _, _, _, _, _, _, _, rfl, _⟩ := h; rfl) | (obtain ⟨_, _, _, _, _, _, _, _, _, _, _, _, _, _, _, _, _, _, _, _, _, _, _, rfl, _⟩ := h; rfl)
  · obtain ⟨l, l1, l2, l3, x1, y1, x2, y2', x3, y3', rfl, hl, h1, h2, h3, hb, q⟩ := h
    refine ⟨_, (pss_cons (ps_set (i := 1) sc_l_lines.nd rfl (.inl rfl) (pe_lst (pa_cons pe_int pa_nil)))
    (pss_cons (ps_for PassesOwn.never rfl (pi_list (pv 0)) (pg_or (pg_lst (by rfl) (pgs_cons (pg_name (i := 2) sc_l_lines.nd rfl (.inr rfl)) (pgs_cons (pg_name (i := 3) sc_l_lines.nd rfl (.inr rfl)) pgs_nil))) (pg_tup (by rfl) (pgs_cons (pg_name (i := 2) sc_l_lines.nd rfl (.inr rfl)) (pgs_cons (pg_name (i := 3) sc_l_lines.nd rfl (.inr rfl)) pgs_nil))))
      (pss_one (ps_setLc (i := 1) (own := [("_law_left", 4), ("_law_right_here", 5)]) (g := (gTup K 2 (gCons (gName 4) (gCons (gName 5) gNil)))) rfl sc_l_lines.nd rfl rfl (sw_true rfl rfl rfl (by decide +kernel)) (pi_zip (by rfl) T.b_zip (pa_cons (pe_op op_cat (pv 1) (pe_lst (pa_cons pe_int pa_nil))) (pa_cons (pe_op op_cat (pe_lst (pa_cons pe_int pa_nil)) (pv 1)) pa_nil))) (blkOk_by (N := N_l_lines) (sc := defScope s_l_lines) (by decide +kernel)) (fun _ _ _ _ _ => (pg_tup (by rfl) (pgs_cons (pg_name (i := 4) sc_l_lines.nd rfl (.inl rfl)) (pgs_cons (pg_name (i := 5) sc_l_lines.nd rfl (.inl rfl)) pgs_nil)))) (fun _ _ _ _ _ => pts_nil) (fun _ _ _ _ _ => (pe_op op_add (pe_op op_mulW (pv 2) (pv 4)) (pe_op op_mulW (pv 3) (pv 5)))))))
    (pss_one (ps_ret (pv 1))))), ?_⟩
    refine ⟨sl1, fun f0 nf0 => ?_⟩
    have e0 := Ex0.new (o := .lst [.int 1]) nf0
    refine ⟨_, rfl, l, rfl, ⟨_, SqL.of (Ex0.ap e0 hl)⟩, ?_⟩
    generalize hps : [(x1, y1), (x2, y2'), (x3, y3')] = ps at *
    have hpl : ps.length = 3 := by rw [← hps]; rfl
    refine for_list (xs := [.ref l1, .ref l2, .ref l3]) (fun i σ H' => ∃ (f : Addr) (y2 y3 : Option V), σ = [some (.ref l), some (.ref f), y2, y3, none, none] ∧ Ex0 H H' ∧ H f = none ∧ H' f = some (.lst ((lnP (ps.take i)).map V.int))) ⟨f0, none, none, rfl, e0, nf0, upd_same⟩ (fun i σ H' _ ⟨_, _, _, _, e, _⟩ => SqL.of (Ex0.ap e hl)) ?_ ?_
    · rintro i v σ H1 hv ⟨f, y2, y3, rfl, e1, nf, hf⟩
      have hi3 : i < 3 := (List.getElem?_eq_some_iff.mp hv).1
      have hline : ∃ (u : Addr) (x y : Int), v = .ref u ∧ ps[i]? = some (x, y) ∧ Two H1 u x y := by
        rw [← hps]
        match i, hv with
        | 0, hv => exact ⟨l1, x1, y1, (Option.some.inj hv).symm, rfl, h1.ex e1⟩
        | 1, hv => exact ⟨l2, x2, y2', (Option.some.inj hv).symm, rfl, h2.ex e1⟩
        | 2, hv => exact ⟨l3, x3, y3', (Option.some.inj hv).symm, rfl, h3.ex e1⟩
      obtain ⟨u, x, y, rfl, hpi, hu⟩ := hline
      have hm := hb (x, y) (List.mem_of_getElem? hpi)
      have bx := hm.1
      have by' := hm.2
      have hlen := lnP_len ps i (by omega)
      have hbd := lnP_le hb i (by omega)
      have hnext := lnP_take hpi
      generalize lnP (ps.take i) = ns at *
      have hun : ∀ G : L2.St → Hp → Prop, G [some (.ref l), some (.ref f), some (.int x), some (.int y), none, none] H1 → (gOr (gLst K 2 (gCons (gName 2) (gCons (gName 3) gNil))) (gTup K 2 (gCons (gName 2) (gCons (gName 3) gNil)))) (.ref u) [some (.ref l), some (.ref f), y2, y3, none, none] H1 G := by
        intro G hG
        rcases hu with hu | hu
        · exact .inl ⟨u, _, rfl, SqL.of hu, rfl, _, _, rfl, _, _, rfl, rfl, hG⟩
        · exact .inr ⟨u, _, rfl, SqT.of hu, rfl, _, _, rfl, _, _, rfl, rfl, hG⟩
      refine hun _ ?_
      refine ⟨_, rfl, sl1, fun o1 n1 => ?_⟩
      have g1 := Ex0.new (o := .lst [.int 0]) n1
      refine ⟨f, o1, _, _, rfl, rfl, Ex0.ap g1 hf, upd_same, ?_, fun o2 n2 => ?_⟩
      · rw [List.length_map, hlen, sizeLine_eq]; show i + 1 + 1 ≤ _; omega
      have g2 := Ex0.new (o := .lst (ns.map V.int ++ [.int 0])) n2
      refine ⟨sl1, fun o3 n3 => ?_⟩
      have g3 := Ex0.new (o := .lst [.int 0]) n3
      refine ⟨_, rfl, o3, f, _, _, rfl, rfl, upd_same, Ex0.ap (g1.trans (g2.trans g3)) hf, ?_, fun o4 n4 => ?_⟩
      · rw [List.length_map, hlen, sizeLine_eq]; show 1 + (i + 1) ≤ _; omega
      have g4 := Ex0.new (o := .lst ([.int 0] ++ ns.map V.int)) n4
      have ho2 := Ex0.ap (g3.trans g4) (show (upd (upd H1 o1 (.lst [.int 0])) o2 (.lst (ns.map V.int ++ [.int 0]))) o2 = some (.lst (ns.map V.int ++ [.int 0])) from upd_same)
      have g14 := g1.trans (g2.trans (g3.trans g4))
      have ex2 : ns.map V.int ++ [.int 0] = (ns ++ [0]).map V.int := by rw [List.map_append]; rfl
      have ex4 : [V.int 0] ++ ns.map V.int = ([0] ++ ns).map V.int := rfl
      have ho2 := ho2.trans (congrArg (fun z => some (HO.lst z)) ex2)
      have ho4 : (upd (upd (upd (upd H1 o1 (.lst [.int 0])) o2 (.lst (ns.map V.int ++ [.int 0]))) o3 (.lst [.int 0])) o4 (.lst ([.int 0] ++ ns.map V.int))) o4 = some (.lst (([0] ++ ns).map V.int)) := by rw [← ex4]; exact upd_same
      refine ⟨o2, o4, _, _, rfl, SqL.of ho2, SqL.of ho4, ?_⟩
      generalize upd (upd (upd (upd H1 o1 (.lst [.int 0])) o2 (.lst (ns.map V.int ++ [.int 0]))) o3 (.lst [.int 0])) o4 (.lst ([.int 0] ++ ns.map V.int)) = H5 at *
      have l1' : (ns ++ [0]).length = i + 2 := by rw [List.length_append, hlen]; rfl
      have l2' : ([0] ++ ns).length = i + 2 := by rw [List.length_append, hlen]; show 1 + (i + 1) = _; omega
      have b1' : ∀ z ∈ ns ++ [0], z.natAbs ≤ 200000000 ^ i := fun z hz => by
        rcases List.mem_append.mp hz with h | h
        · exact hbd z h
        · rw [List.mem_singleton] at h; rw [h]; exact Nat.zero_le _
      have b2' : ∀ z ∈ [0] ++ ns, z.natAbs ≤ 200000000 ^ i := fun z hz => by
        rcases List.mem_append.mp hz with h | h
        · rw [List.mem_singleton] at h; rw [h]; exact Nat.zero_le _
        · exact hbd z h
      have hnx : lnl x y ns = (List.range (i + 2)).map fun k => x * (ns ++ [0]).getD k 0 + y * ([0] ++ ns).getD k 0 := by
        unfold lnl
        rw [hlen]
      rw [show lnl (x, y).1 (x, y).2 ns = lnl x y ns from rfl, hnx] at hnext
      generalize hns1 : ns ++ [0] = N1 at *
      generalize hns2 : [0] ++ ns = N2 at *
      have M : 200000000 ^ i < 2 ^ 100 := Nat.lt_of_le_of_lt (Nat.pow_le_pow_right (by decide) (show i ≤ 2 by omega)) (by decide)
      have bx' : B 30 x := ⟨Nat.lt_of_le_of_lt bx (by decide), by decide⟩
      have by'' : B 30 y := ⟨Nat.lt_of_le_of_lt by' (by decide), by decide⟩
      refine lcP (walk_zipL (K := K) (xs := N1.map V.int) (ys := N2.map V.int) (by rw [List.length_map, List.length_map, l1', l2'])) fm0 trivial (fun H' e => ⟨SqL.of (Ex0.ap e ho2), SqL.of (Ex0.ap e ho4)⟩) (fun j acc _ => acc = ((List.range j).map fun k => x * N1.getD k 0 + y * N2.getD k 0).map V.int) (fun _ _ => rfl) (fun D j T z1 z2 acc H' hD hj fx fy e3 hA hlen' hp hT => ?_) (fun D H' acc hD e3 hA hp => ?_)
      · obtain ⟨rfl, hj1⟩ := get_D fx
        obtain ⟨rfl, hj2⟩ := get_D fy
        have m1 : N1.getD j 0 ∈ N1 := by rw [List.getD_eq_getElem?_getD, List.getElem?_eq_getElem hj1]; exact List.getElem_mem hj1
        have m2 : N2.getD j 0 ∈ N2 := by rw [List.getD_eq_getElem?_getD, List.getElem?_eq_getElem hj2]; exact List.getElem_mem hj2
        have c1 : B 100 (N1.getD j 0) := ⟨Nat.lt_of_le_of_lt (b1' _ m1) M, by decide⟩
        have c2 : B 100 (N2.getD j 0) := ⟨Nat.lt_of_le_of_lt (b2' _ m2) M, by decide⟩
        refine ⟨T, _, rfl, SqT.of upd_same, rfl, _, _, rfl, _, _, rfl, rfl, ⟨rfl, ?_⟩⟩
        refine ⟨_, rfl, _, rfl, _, _, rfl, rfl, mulB bx' c1 (by decide), _, rfl, _, rfl, _, _, rfl, rfl, mulB by'' c2 (by decide), _, _, rfl, rfl, ?_⟩
        refine cs_yes fm0 trivial hD e3 hA hlen' (by omega) (Ex0.new hT) ?_
        rw [hp, List.range_succ, List.map_append, List.map_append]
        rfl
      · rw [List.length_map, l1'] at hp
        refine ⟨D, _, _, rfl, e1.trans (g14.trans e3), Ex0.none e1 (Ex0.none g14 hD), ?_⟩
        rw [hA, hp, hnext]
    · rintro σ H1 ⟨f, y2, y3, rfl, e1, nf, hf⟩
      refine ⟨_, rfl, q f H1 e1 nf ?_⟩
      rw [hf]
      have : ps.take 3 = ps := List.take_of_length_le (by omega)
      show some (HO.lst ((lnP (ps.take 3)).map V.int)) = _
      rw [this]
end
end K52
namespace K52
open PySem PySem.Spec PyProof.Rows L2 Fr
open LedM
set_option pp.maxSteps 3000
section
def sp_l_led (_ : PySem.W.Frag) (C : Addr) : Sp := fun vs H Q _ => ∃ (t u : Addr) (a b c d p q r s : Int), vs = [.ref t, .ref u] ∧ Ti H t [a, b, c, d] ∧ T4 H u p q r s ∧ (∀ z ∈ [a, b, c, d], z.natAbs ≤ 8000000000000000000000000) ∧ Gn p q r s 100000000 ∧ ∀ x H', Ex0 H H' → Ti H' x (fled a b c d p q r s) → Q (.ref x) H'
def sp_l_discriminant (_ : PySem.W.Frag) (C : Addr) : Sp := fun vs H Q _ => ∃ (t : Addr) (a b c d : Int), vs = [.ref t] ∧ Ti H t [a, b, c, d] ∧ B 1000 a ∧ B 1000 b ∧ B 1000 c ∧ B 1000 d ∧ Q (.int (fdisc a b c d)) H
def sp_l_at (_ : PySem.W.Frag) (C : Addr) : Sp := fun vs H Q _ => ∃ (t : Addr) (a b c d x y : Int), vs = [.ref t, .int x, .int y] ∧ H t = some (.lst (([a, b, c, d] : List Int).map V.int)) ∧ B 1000 a ∧ B 1000 b ∧ B 1000 c ∧ B 1000 d ∧ B 200 x ∧ B 200 y ∧ Q (.int (fv a b c d x y)) H
def sp_l_change (_ : PySem.W.Frag) (_ : Addr) : Sp := fun vs H Q _ => ∃ (c : Addr), vs = [.ref c, .int 9, .int 4] ∧ Vat c H ∧ ∀ x p q r s H', Fv c H H' → T4 H' x p q r s → Gn p q r s 100000000 → Q (.ref x) H'
end
section
variable {P : Program} {w : World} {K : PySem.W.Frag} {mg : Str → Option Value} {base : Heap} {C_Form : Addr}
theorem ok_l_led (T : Txt K mg C_Form) : Def P w K mg base 2 "_law_led" ["_law_form", "_law_change_here"] (sp_l_led K C_Form) := by
  obtain ⟨f_, fd_, g_, F_⟩ := T.d_l_led
  obtain ⟨f_l_lines, fd_l_lines, g_l_lines, k_l_lines, b_l_lines, G_l_lines⟩ := (ok_l_lines (P := P) (w := w) (base := base) T)
  refine ⟨f_, fd_, g_, F_.kp, F_.binds (ps := ["_law_form", "_law_change_here"]) (fun _ _ _ _ _ _ us hl => match us, hl with | [_, _], _ => rfl), ?_⟩
  refine F_.ok sc_l_led (fun vs H Q E h => ?_) (fun cdv A outer s H vs Q E hr h => ?_)
  · first | (obtain ⟨rfl, _⟩ := h; rfl) | (obtain ⟨_, rfl, _⟩ := h; rfl) | (obtain ⟨_, _, rfl, _⟩ := h; rfl) | (obtain ⟨_, _, _, rfl, _⟩ := h; rfl) | (obtain ⟨_, _, _, _, rfl, _⟩ := h; rfl) | (obtain ⟨_, _, _, _, _, rfl, _⟩ := h; rfl) | (obtain ⟨_, _, _, _, _, _, rfl, _⟩ := h; rfl) | (obtain ⟨_, _, _, _, _, _, _, rfl, _⟩ := h; rfl) | (obtain ⟨_, _, _, _, _, _, _, _, rfl, _⟩ := h; rfl) | (obtain ⟨_, _, _, _, _, _, _, _, _, rfl, _⟩ := h; rfl) | (obtain ⟨_, _, _, _, _, _, _, _, _, _, rfl, _⟩ := h; rfl) | (obtain ⟨_, _, _, _, _, _, _, _, _, _, _, rfl, _⟩ := h; rfl) | (obtain ⟨_, _, _, _, _, _, _, _, _, _, _, _, rfl, _⟩ := h; rfl) | (obtain ⟨_, _, _, _, _, _, _, _, _, _, _, _, _, rfl, _⟩ := h; rfl) | (obtain ⟨_, _, _, _, _, _, _, _, _, _, _, _, _, _, rfl, _⟩ := h; rfl) | (obtain ⟨_, _, _, _, _, _, _, _, _, _, _, _, _, _, _, rfl, _⟩ := h; rfl) | (obtain ⟨_, _, _, _, _, _, _, _, _, _, _, _, _, _, _, _, rfl, _⟩ := h; rfl) | (obtain ⟨_, _, _, _, _, _, _, _, _, _, _, _, _, _, _, _, _, rfl, _⟩ := h; rfl) | (obtain ⟨_, _, _, _, _, _, _, _, _, _, _, _, _, _, _, _, _, _, rfl, _⟩ := h; rfl) | (obtain ⟨_, _, _, _, _, _, _, _, _, _, _, _, _, _, _, _, _, _, _, rfl, _⟩ := h; rfl) | (obtain ⟨_, _, _, _, _, _, _, _, _, _, _, _, _, _, _, _, _, _, _, _, rfl, _⟩ := h; rfl) | (obtain ⟨_, _, _, _, _, _, _, _, _, _, _, _, _, _, _, _, _, _, _, _, _, rfl, _⟩ := h; rfl) | (obtain ⟨_, _, _, _, _, _, _, _, _, _, _, _, _, _, _, _, _, _, _, _, _, _, rfl, _⟩ := h; rfl) | (obtain ⟨_, _, _, _, _, _, _, _, _, _, _, _, _, _, _, _, _, _, _, _, _, _, _, rfl, _⟩ := h; rfl)
  · obtain ⟨t, u, a, b, c, d, p, q', r, s', rfl, ht, h4, hz, hg, q⟩ := h
    refine ⟨_, (pss_cons (ps_asg (pv 1) (pg_tup (by rfl) (pgs_cons (pg_tup (by rfl) (pgs_cons (pg_name (i := 2) sc_l_led.nd rfl (.inl rfl)) (pgs_cons (pg_name (i := 3) sc_l_led.nd rfl (.inl rfl)) pgs_nil))) (pgs_cons (pg_tup (by rfl) (pgs_cons (pg_name (i := 4) sc_l_led.nd rfl (.inl rfl)) (pgs_cons (pg_name (i := 5) sc_l_led.nd rfl (.inl rfl)) pgs_nil))) pgs_nil))))
    (Evl.pss_cut (ps_par3 (i := 6) (j := 7) (l := 8) (by rfl) sc_l_led.nd rfl rfl rfl (by decide) (by decide) (by decide) rfl rfl rfl (pa_cons (pe_tup (pa_cons (pv 2) (pa_cons (pv 4) pa_nil))) (pa_cons (pe_tup (pa_cons (pv 3) (pa_cons (pv 5) pa_nil))) (pa_cons (pe_lst (pa_cons pe_int (pa_cons pe_int (pa_cons pe_int (pa_cons pe_int pa_nil))))) pa_nil))) (by rfl))
    (pss_cons (ps_for PassesOwn.never rfl (pi_enumT (by rfl) T.b_enumerate (pa_cons (pv 0) pa_nil)) (pg_tup (by rfl) (pgs_cons (pg_name (i := 9) sc_l_led.nd rfl (.inl rfl)) (pgs_cons (pg_name (i := 10) sc_l_led.nd rfl (.inr rfl)) pgs_nil)))
      (pss_cons (ps_set (i := 11) sc_l_led.nd rfl (.inl rfl) (pe_call G_l_lines (hr.mono (by decide)) (by rfl) g_l_lines k_l_lines b_l_lines .nil pass0 (pa_cons (pe_op op_cat (pe_op op_rep (pe_lst (pa_cons (pv 6) pa_nil)) (pe_op op_sub pe_int (pv 9))) (pe_op op_rep (pe_lst (pa_cons (pv 7) pa_nil)) (pv 9))) pa_nil)))
    (pss_one (ps_setLc (i := 8) (own := [("_law_one", 13), ("_law_more", 14)]) (g := (gTup K 2 (gCons (gName 13) (gCons (gName 14) gNil)))) rfl sc_l_led.nd rfl rfl (sw_true rfl rfl rfl (by decide +kernel)) (pi_zip (by rfl) T.b_zip (pa_cons (pv 8) (pa_cons (pv 11) pa_nil))) (blkOk_by (N := N_l_led) (sc := defScope s_l_led) (by decide +kernel)) (fun _ _ _ _ _ => (pg_tup (by rfl) (pgs_cons (pg_name (i := 13) sc_l_led.nd rfl (.inl rfl)) (pgs_cons (pg_name (i := 14) sc_l_led.nd rfl (.inl rfl)) pgs_nil)))) (fun _ _ _ _ _ => pts_nil) (fun _ _ _ _ _ => (pe_op op_add (pv 13) (pe_op op_mulW (pv 10) (pv 14))))))))
    (pss_cons (ps_set (i := 12) sc_l_led.nd rfl (.inr rfl) (pe_op op_sub (pe_op op_mulW (pv 2) (pv 5)) (pe_op op_mulW (pv 3) (pv 4))))
    (pss_one (ps_ret (pe_callTy call_tuple_of (by rfl) T.b_tuple (by decide +kernel) (pa_cons (pe_lc (own := [("_law_one", 13)]) (g := (gName 13)) rfl sc_l_led.nd (pi_list (pv 8)) (blkOk_by (N := N_l_led) (sc := defScope s_l_led) (by decide +kernel)) (fun _ _ _ _ _ => (pg_name (i := 13) sc_l_led.nd rfl (.inl rfl))) (fun _ _ _ _ _ => pts_nil) (fun _ _ _ _ _ => (pe_op op_mulW (pv 12) (pv 13)))) pa_nil)))))))), ?_⟩
    obtain ⟨t1, t2, hu, hu1, hu2⟩ := h4
    obtain ⟨g1, g2, g3, g4, g5⟩ := hg
    have bl : ∀ {z : Int}, z.natAbs ≤ 100000000 → B 30 z := fun h => ⟨Nat.lt_of_le_of_lt h (by decide), by decide⟩
    have bz : ∀ {z : Int}, z.natAbs ≤ 8000000000000000000000000 → B 83 z := fun h => ⟨Nat.lt_of_le_of_lt h (by decide), by decide⟩
    refine ⟨_, rfl, u, _, rfl, SqT.of hu, rfl, _, _, rfl, t1, _, rfl, SqT.of hu1, rfl, _, _, rfl, _, _, rfl, rfl, _, _, rfl, t2, _, rfl, SqT.of hu2, rfl, _, _, rfl, _, _, rfl, rfl, rfl, ?_⟩
    refine ⟨fun σ H' => ∃ f1 f2 f0, σ = [some (.ref t), some (.ref u), some (.int p), some (.int q'), some (.int r), some (.int s'), some (.ref f1), some (.ref f2), some (.ref f0), none, none, none, none, none, none] ∧ Ex0 H H' ∧ H' f1 = some (.tup [.int p, .int r]) ∧ H' f2 = some (.tup [.int q', .int s']) ∧ H' f0 = some (.lst ((FN [a, b, c, d] p q' r s' 0).map V.int)), ?_, ?_⟩
    · refine ⟨_, rfl, _, rfl, sl2, fun f1 n1 => ⟨_, rfl, _, rfl, sl2, fun f2 n2 => ⟨sl4, fun f0 n0 => ?_⟩⟩⟩
      have x1 := Ex0.new (o := .tup [.int p, .int r]) n1
      have x2 := Ex0.new (o := .tup [.int q', .int s']) n2
      have x3 := Ex0.new (o := .lst [.int 0, .int 0, .int 0, .int 0]) n0
      have hf1 := Ex0.ap (x2.trans x3) (show upd H f1 (.tup [.int p, .int r]) f1 = some (.tup [.int p, .int r]) from upd_same)
      have hf2 := Ex0.ap x3 (show upd (upd H f1 (.tup [.int p, .int r])) f2 (.tup [.int q', .int s']) f2 = some (.tup [.int q', .int s']) from upd_same)
      have hf0 : upd (upd (upd H f1 (.tup [.int p, .int r])) f2 (.tup [.int q', .int s'])) f0 (.lst [.int 0, .int 0, .int 0, .int 0]) f0 = some (.lst ((FN [a, b, c, d] p q' r s' 0).map V.int)) := upd_same
      exact ⟨_, _, _, rfl, f1, f2, f0, rfl, x1.trans (x2.trans x3), hf1, hf2, hf0⟩
    rintro σ H0 ⟨f1, f2, f0, rfl, e0, hf1, hf2, hf0⟩
    have ht0 := Ex0.ti e0 ht
    have hln := lnP_le3 g1 g2 g3 g4
    have hFN := FN_le (cf := [a, b, c, d]) hz rfl hln
    refine ⟨_, rfl, t, _, rfl, SqT.of ht0, for_P walk_enumT (fun i σ H' => ∃ f y9 y10 y11, σ = [some (.ref t), some (.ref u), some (.int p), some (.int q'), some (.int r), some (.int s'), some (.ref f1), some (.ref f2), some (.ref f), y9, y10, y11, none, none, none] ∧ Ex0 H0 H' ∧ H' f = some (.lst ((FN [a, b, c, d] p q' r s' i).map V.int))) ⟨f0, none, none, none, rfl, Ex0.refl _, hf0⟩ (fun i σ H' _ ⟨_, _, _, _, _, e, _⟩ => SqT.of (Ex0.ti e ht0)) ?_ ?_⟩
    · rintro i T x y σ H1 hi fx fy ⟨f, y9, y10, y11, rfl, e1, hf⟩ hT
      have hx := Option.some.inj fx
      subst hx
      obtain ⟨rfl, hi4⟩ := get_D fy
      have hi : i < 4 := hi4
      have eT := Ex0.new (o := .tup [.int (i : Nat), .int (([a, b, c, d] : List Int).getD i 0)]) hT
      have hf1T := Ex0.ap (e1.trans eT) hf1
      have hf2T := Ex0.ap (e1.trans eT) hf2
      have hfT := Ex0.ap eT hf
      refine ⟨T, _, rfl, SqT.of upd_same, rfl, _, _, rfl, _, _, rfl, rfl, ?_⟩
      have e1T := e1.trans eT
      have hfn := FN_len [a, b, c, d] p q' r s' i
      have hbx : B 83 (([a, b, c, d] : List Int).getD i 0) := bz (hz _ (getD_mem hi4))
      have hnx : FN [a, b, c, d] p q' r s' (i + 1) = (List.range 4).map fun k => (FN [a, b, c, d] p q' r s' i).getD k 0 + ([a, b, c, d] : List Int).getD i 0 * (lnP (LN p q' r s' i)).getD k 0 := rfl
      generalize ([a, b, c, d] : List Int).getD i 0 = x at *
      generalize upd H1 T _ = H2 at *
      refine ⟨_, rfl, sl1, fun o1 k1 => ⟨_, rfl, _, _, rfl, rfl, o1, _, [.ref f1], rfl, rfl, upd_same, by omega, by omega, ?_, fun o2 k2 => ?_⟩⟩
      · rw [sizeLine_eq]; show 1 * _ ≤ _; omega
      refine ⟨_, rfl, sl1, fun o3 k3 => ⟨_, rfl, o3, _, [.ref f2], rfl, rfl, upd_same, by omega, by omega, ?_, fun o4 k4 => ?_⟩⟩
      · rw [sizeLine_eq]; show 1 * _ ≤ _; omega
      have shape : ∃ l1 l2 l3 x1 y1 x2 y2 x3 y3, (List.replicate (3 - (i : Int)).toNat [V.ref f1]).flatten ++ (List.replicate (i : Int).toNat [V.ref f2]).flatten = [.ref l1, .ref l2, .ref l3] ∧ Two H2 l1 x1 y1 ∧ Two H2 l2 x2 y2 ∧ Two H2 l3 x3 y3 ∧ LN p q' r s' i = [(x1, y1), (x2, y2), (x3, y3)] ∧ (List.replicate (3 - (i : Int)).toNat [V.ref f1]).flatten.length + (List.replicate (i : Int).toNat [V.ref f2]).flatten.length = 3 := by
        have T1 : Two H2 f1 p r := .inr hf1T
        have T2 : Two H2 f2 q' s' := .inr hf2T
        clear hnx hfn
        match i, hi with
        | 0, _ => exact ⟨f1, f1, f1, p, r, p, r, p, r, rfl, T1, T1, T1, rfl, rfl⟩
        | 1, _ => exact ⟨f1, f1, f2, p, r, p, r, q', s', rfl, T1, T1, T2, rfl, rfl⟩
        | 2, _ => exact ⟨f1, f2, f2, p, r, q', s', q', s', rfl, T1, T2, T2, rfl, rfl⟩
        | 3, _ => exact ⟨f2, f2, f2, q', s', q', s', q', s', rfl, T2, T2, T2, rfl, rfl⟩
      obtain ⟨l1, l2, l3, x1, y1, x2, y2, x3, y3, hsh, T1, T2, T3, hLN, hlen3⟩ := shape
      have hLNb := LN_le g1 g2 g3 g4 i
      have hlb := hln i
      have hll := lnP_len3 p q' r s' i
      rw [hLN] at hLNb
      rw [hLN] at hlb hll hnx
      have v1 := Ex0.new (o := .lst [V.ref f1]) k1
      have v2 := Ex0.new (o := .lst (List.replicate (3 - (i : Int)).toNat [V.ref f1]).flatten) k2
      have v3 := Ex0.new (o := .lst [V.ref f2]) k3
      have v4 := Ex0.new (o := .lst (List.replicate (i : Int).toNat [V.ref f2]).flatten) k4
      refine ⟨o2, o4, _, _, rfl, rfl, Ex0.ap (v3.trans v4) upd_same, upd_same, by rw [hlen3]; exact sl3, fun o5 k5 => ?_⟩
      rw [hsh]
      have v5 := Ex0.new (o := .lst [.ref l1, .ref l2, .ref l3]) k5
      have vv := v1.trans (v2.trans (v3.trans (v4.trans v5)))
      refine ⟨o5, l1, l2, l3, x1, y1, x2, y2, x3, y3, rfl, upd_same, T1.ex vv, T2.ex vv, T3.ex vv, hLNb, fun ln H5 e5 _ hln5 => ?_⟩
      have e25 := vv.trans e5
      have hf5 := Ex0.ap e25 hfT
      generalize hL : lnP [(x1, y1), (x2, y2), (x3, y3)] = L at *
      generalize FN [a, b, c, d] p q' r s' i = F at *
      refine ⟨_, rfl, _, rfl, f, ln, _, _, rfl, SqL.of hf5, SqL.of hln5, ?_⟩
      refine lcP (walk_zipL (K := K) (xs := F.map V.int) (ys := L.map V.int) (by rw [List.length_map, List.length_map, hfn, hll])) fm0 trivial (fun H' e => ⟨SqL.of (Ex0.ap e hf5), SqL.of (Ex0.ap e hln5)⟩) (fun j acc _ => acc = ((List.range j).map fun k => F.getD k 0 + x * L.getD k 0).map V.int) (fun _ _ => rfl) (fun D j T' z1 z2 acc H' hD hj fx' fy' e6 hA hlen' hp hT' => ?_) (fun D H' acc hD e6 hA hp => ?_)
      · obtain ⟨rfl, hj1⟩ := get_D fx'
        obtain ⟨rfl, hj2⟩ := get_D fy'
        have c2 : B 83 (L.getD j 0) := bz (hlb _ (getD_mem hj2))
        refine ⟨T', _, rfl, SqT.of upd_same, rfl, _, _, rfl, _, _, rfl, rfl, ⟨rfl, ?_⟩⟩
        refine ⟨_, rfl, _, rfl, _, rfl, _, _, rfl, rfl, mulB hbx c2 (by decide), _, _, rfl, rfl, ?_⟩
        refine cs_yes fm0 trivial hD e6 hA hlen' (by omega) (Ex0.new hT') ?_
        rw [hp, List.range_succ, List.map_append, List.map_append]
        rfl
      · rw [List.length_map, hfn] at hp
        refine ⟨D, _, _, _, rfl, e1T.trans (e25.trans e6), ?_⟩
        rw [hA, hp, hnx]
    · rintro σ H1 ⟨f, y9, y10, y11, rfl, e1, hf⟩
      have hf : H1 f = some (.lst ((FN [a, b, c, d] p q' r s' 4).map V.int)) := hf
      have hb4 := hFN 4 (Nat.le_refl 4)
      rw [FN4] at hf hb4
      obtain ⟨R, hR⟩ : ∃ R, R = [K05M.fv a b c d p q', K05M.fl2 a b c d p q' r s', K05M.fl3 a b c d p q' r s', K05M.fv a b c d r s'] := ⟨_, rfl⟩
      rw [← hR] at hf hb4
      have hRl : R.length = 4 := by rw [hR]; rfl
      refine ⟨_, rfl, _, rfl, _, _, rfl, rfl, mulB (bl g1) (bl g4) (by decide), _, rfl, _, rfl, _, _, rfl, rfl, mulB (bl g2) (bl g3) (by decide), _, _, rfl, rfl, ?_⟩
      have be : B 62 (p * s' - q' * r) := by
        rcases g5 with h | h <;> rw [h] <;> exact ⟨by decide, by decide⟩
      have hf' := SqL.of hf (K := K)
      refine ⟨_, rfl, f, rfl, ⟨_, hf'⟩, ?_⟩
      refine lcL fm0 trivial hf' (fun z => z) (fun i acc _ => acc = ((R.take i).map fun n => (p * s' - q' * r) * n).map V.int) (fun _ _ => rfl) (fun D i v acc H' hD hv e hA hlen hp => ?_) (fun D H3 acc hD e3 hA hp => ?_)
      · obtain ⟨n, hn, rfl⟩ := get_int hv
        have hi : i < R.length := (List.getElem?_eq_some_iff.mp hn).1
        have bn : B 190 n := ⟨Nat.lt_of_le_of_lt (hb4 n (List.mem_of_getElem? hn)) (by decide), by decide⟩
        refine ⟨rfl, ?_⟩
        refine ⟨_, rfl, _, rfl, _, _, rfl, rfl, mulB be bn (by decide), ?_⟩
        refine cs_yes fm0 trivial hD e hA hlen (by omega) (Fx.refl trivial) ?_
        rw [hp, List.take_add_one, hn, List.map_append, List.map_append]
        rfl
      · rw [List.length_map, List.take_length] at hp
        subst hp
        refine ⟨D, _, rfl, .inl ⟨SqL.of hA, fun o no => ?_⟩⟩
        refine q o _ (e0.trans (e1.trans (Fx.trans e3 (Ex0.new no)))) ?_
        rw [hR]
        exact upd_same
theorem ok_l_discriminant (T : Txt K mg C_Form) : Def P w K mg base 1 "_law_discriminant" ["_law_form"] (sp_l_discriminant K C_Form) := by
  obtain ⟨f_, fd_, g_, F_⟩ := T.d_l_discriminant
  refine ⟨f_, fd_, g_, F_.kp, F_.binds (ps := ["_law_form"]) (fun _ _ _ _ _ _ us hl => match us, hl with | [_], _ => rfl), ?_⟩
  refine F_.ok sc_l_discriminant (fun vs H Q E h => ?_) (fun cdv A outer s H vs Q E hr h => ?_)
  · first | (obtain ⟨rfl, _⟩ := h; rfl) | (obtain ⟨_, rfl, _⟩ := h; rfl) | (obtain ⟨_, _, rfl, _⟩ := h; rfl) | (obtain ⟨_, _, _, rfl, _⟩ := h; rfl) | (obtain ⟨_, _, _, _, rfl, _⟩ := h; rfl) | (obtain ⟨_, _, _, _, _, rfl, _⟩ := h; rfl) | (obtain ⟨_, _, _, _, _, _, rfl, _⟩ := h; rfl) | (obtain ⟨_, _, _, _, _, _, _, rfl, _⟩ := h; rfl) | (obtain ⟨_, _, _, _, _, _, _, _, rfl, _⟩ := h; rfl) | (obtain ⟨_, _, _, _, _, _, _, _, _, rfl, _⟩ := h; rfl) | (obtain ⟨_, _, _, _, _, _, _, _, _, _, rfl, _⟩ := h; rfl) | (obtain ⟨_, _, _, _, _, _, _, _, _, _, _, rfl, _⟩ := h; rfl) | (obtain ⟨_, _, _, _, _, _, _, _, _, _, _, _, rfl, _⟩ := h; rfl) | (obtain ⟨_, _, _, _, _, _, _, _, _, _, _, _, _, rfl, _⟩ := h; rfl) | (obtain ⟨_, _, _, _, _, _, _, _, _, _, _, _, _, _, rfl, _⟩ := h; rfl) | (obtain ⟨_, _, _, _, _, _, _, _, _, _, _, _, _, _, _, rfl, _⟩ := h; rfl) | (obtain ⟨_, _, _, _, _, _, _, _, _, _, _, _, _, _, _, _, rfl, _⟩ := h; rfl) | (obtain ⟨_, _, _, _, _, _, _, _, _, _, _, _, _, _, _, _, _, rfl, _⟩ := h; rfl) | (obtain ⟨_, _, _, _, _, _, _, _, _, _, _, _, _, _, _, _, _, _, rfl, _⟩ := h; rfl) | (obtain ⟨_, _, _, _, _, _, _, _, _, _, _, _, _, _, _, _, _, _, _, rfl, _⟩ := h; rfl) | (obtain ⟨_, _, _, _, _, _, _, _, _, _, _, _, _, _, _, _, _, _, _, _, rfl, _⟩ := h; rfl) | (obtain ⟨_, _, _, _, _, _, _, _, _, _, _, _, _, _, _, _, _, _, _, _, _, rfl, _⟩ := h; rfl) | (obtain ⟨_, _, _, _, _, _, _, _, _, _, _, _, _, _, _, _, _, _, _, _, _, _, rfl, _⟩ := h; rfl) | (obtain ⟨_, _, _, _, _, _, _, _, _, _, _, _, _, _, _, _, _, _, _, _, _, _, _, rfl, _⟩ := h; rfl)
  · obtain ⟨t, a, b, c, d, rfl, ht, ba, bb, bc, bd, q⟩ := h
    refine ⟨_, (pss_cons (ps_asg (pv 0) (pg_tup (by rfl) (pgs_cons (pg_name (i := 1) sc_l_discriminant.nd rfl (.inl rfl)) (pgs_cons (pg_name (i := 2) sc_l_discriminant.nd rfl (.inl rfl)) (pgs_cons (pg_name (i := 3) sc_l_discriminant.nd rfl (.inl rfl)) (pgs_cons (pg_name (i := 4) sc_l_discriminant.nd rfl (.inl rfl)) pgs_nil))))))
    (pss_cons (ps_set (i := 5) sc_l_discriminant.nd rfl (.inl rfl) (pe_op op_sub (pe_op op_sub (pe_op op_mulW (pe_op op_mulW (pe_op op_mulW (pv 2) (pv 2)) (pv 3)) (pv 3)) (pe_op op_mulW (pe_op op_mulW (pe_op op_mulW (pe_op op_mulW pe_int (pv 1)) (pv 3)) (pv 3)) (pv 3))) (pe_op op_mulW (pe_op op_mulW (pe_op op_mulW (pe_op op_mulW pe_int (pv 2)) (pv 2)) (pv 2)) (pv 4))))
    (pss_one (ps_ret (pe_op op_add (pe_op op_sub (pv 5) (pe_op op_mulW (pe_op op_mulW (pe_op op_mulW (pe_op op_mulW pe_int (pv 1)) (pv 1)) (pv 4)) (pv 4))) (pe_op op_mulW (pe_op op_mulW (pe_op op_mulW (pe_op op_mulW pe_int (pv 1)) (pv 2)) (pv 3)) (pv 4))))))), ?_⟩
    refine ⟨_, rfl, unI4 ht ?_⟩
    exact ⟨_, rfl, _, rfl, _, _, rfl, rfl, mulB (by with_reducible assumption) (by with_reducible assumption) (by decide), _, rfl, _, _, rfl, rfl, mulB (B.mul (by with_reducible assumption) (by with_reducible assumption)) (by with_reducible assumption) (by decide), _, rfl, _, _, rfl, rfl, mulB (B.mul (B.mul (by with_reducible assumption) (by with_reducible assumption)) (by with_reducible assumption)) (by with_reducible assumption) (by decide), _, rfl, _, _, rfl, rfl, mulB (B.lit (by decide)) (by with_reducible assumption) (by decide), _, rfl, _, _, rfl, rfl, mulB (B.mul (B.lit (by decide)) (by with_reducible assumption)) (by with_reducible assumption) (by decide), _, rfl, _, _, rfl, rfl, mulB (B.mul (B.mul (B.lit (by decide)) (by with_reducible assumption)) (by with_reducible assumption)) (by with_reducible assumption) (by decide), _, rfl, _, _, rfl, rfl, mulB (B.mul (B.mul (B.mul (B.lit (by decide)) (by with_reducible assumption)) (by with_reducible assumption)) (by with_reducible assumption)) (by with_reducible assumption) (by decide), _, _, rfl, rfl, _, rfl, _, _, rfl, rfl, mulB (B.lit (by decide)) (by with_reducible assumption) (by decide), _, rfl, _, _, rfl, rfl, mulB (B.mul (B.lit (by decide)) (by with_reducible assumption)) (by with_reducible assumption) (by decide), _, rfl, _, _, rfl, rfl, mulB (B.mul (B.mul (B.lit (by decide)) (by with_reducible assumption)) (by with_reducible assumption)) (by with_reducible assumption) (by decide), _, rfl, _, _, rfl, rfl, mulB (B.mul (B.mul (B.mul (B.lit (by decide)) (by with_reducible assumption)) (by with_reducible assumption)) (by with_reducible assumption)) (by with_reducible assumption) (by decide), _, _, rfl, rfl, _, rfl, _, rfl, _, _, rfl, rfl, mulB (B.lit (by decide)) (by with_reducible assumption) (by decide), _, rfl, _, _, rfl, rfl, mulB (B.mul (B.lit (by decide)) (by with_reducible assumption)) (by with_reducible assumption) (by decide), _, rfl, _, _, rfl, rfl, mulB (B.mul (B.mul (B.lit (by decide)) (by with_reducible assumption)) (by with_reducible assumption)) (by with_reducible assumption) (by decide), _, rfl, _, _, rfl, rfl, mulB (B.mul (B.mul (B.mul (B.lit (by decide)) (by with_reducible assumption)) (by with_reducible assumption)) (by with_reducible assumption)) (by with_reducible assumption) (by decide), _, _, rfl, rfl, _, rfl, _, _, rfl, rfl, mulB (B.lit (by decide)) (by with_reducible assumption) (by decide), _, rfl, _, _, rfl, rfl, mulB (B.mul (B.lit (by decide)) (by with_reducible assumption)) (by with_reducible assumption) (by decide), _, rfl, _, _, rfl, rfl, mulB (B.mul (B.mul (B.lit (by decide)) (by with_reducible assumption)) (by with_reducible assumption)) (by with_reducible assumption) (by decide), _, rfl, _, _, rfl, rfl, mulB (B.mul (B.mul (B.mul (B.lit (by decide)) (by with_reducible assumption)) (by with_reducible assumption)) (by with_reducible assumption)) (by with_reducible assumption) (by decide), _, _, rfl, rfl, q⟩
theorem ok_l_at (T : Txt K mg C_Form) : Def P w K mg base 1 "_law_at" ["_law_form", "_law_x", "_law_y"] (sp_l_at K C_Form) := by
  obtain ⟨f_, fd_, g_, F_⟩ := T.d_l_at
  refine ⟨f_, fd_, g_, F_.kp, F_.binds (ps := ["_law_form", "_law_x", "_law_y"]) (fun _ _ _ _ _ _ us hl => match us, hl with | [_, _, _], _ => rfl), ?_⟩
  refine F_.ok sc_l_at (fun vs H Q E h => ?_) (fun cdv A outer s H vs Q E hr h => ?_)
  · first | (obtain ⟨rfl, _⟩ := h; rfl) | (obtain ⟨_, rfl, _⟩ := h; rfl) | (obtain ⟨_, _, rfl, _⟩ := h; rfl) | (obtain ⟨_, _, _, rfl, _⟩ := h; rfl) | (obtain ⟨_, _, _, _, rfl, _⟩ := h; rfl) | (obtain ⟨_, _, _, _, _, rfl, _⟩ := h; rfl) | (obtain ⟨_, _, _, _, _, _, rfl, _⟩ := h; rfl) | (obtain ⟨_, _, _, _, _, _, _, rfl, _⟩ := h; rfl) | (obtain ⟨_, _, _, _, _, _, _, _, rfl, _⟩ := h; rfl) | (obtain ⟨_, _, _, _, _, _, _, _, _, rfl, _⟩ := h; rfl) | (obtain ⟨_, _, _, _, _, _, _, _, _, _, rfl, _⟩ := h; rfl) | (obtain ⟨_, _, _, _, _, _, _, _, _, _, _, rfl, _⟩ := h; rfl) | (obtain ⟨_, _, _, _, _, _, _, _, _, _, _, _, rfl, _⟩ := h; rfl) | (obtain ⟨_, _, _, _, _, _, _, _, _, _, _, _, _, rfl, _⟩ := h; rfl) | (obtain ⟨_, _, _, _, _, _, _, _, _, _, _, _, _, _, rfl, _⟩ := h; rfl) | (obtain ⟨_, _, _, _, _, _, _, _, _, _, _, _, _, _, _, rfl, _⟩ := h; rfl) | (obtain ⟨_, _, _, _, _, _, _, _, _, _, _, _, _, _, _, _, rfl, _⟩ := h; rfl) | (obtain ⟨_, _, _, _, _, _, _, _, _, _, _, _, _, _, _, _, _, rfl, _⟩ := h; rfl) | (obtain ⟨_, _, _, _, _, _, _, _, _, _, _, _, _, _, _, _, _, _, rfl, _⟩ := h; rfl) | (obtain ⟨_, _, _, _, _, _, _, _, _, _, _, _, _, _, _, _, _, _, _, rfl, _⟩ := h; rfl) | (obtain ⟨_, _, _, _, _, _, _, _, _, _, _, _, _, _, _, _, _, _, _, _, rfl, _⟩ := h; rfl) | (obtain ⟨_, _, _, _, _, _, _, _, _, _, _, _, _, _, _, _, _, _, _, _, _, rfl, _⟩ := h; rfl) | (obtain ⟨_, _, _, _, _, _, _, _, _, _, _, _, _, _, _, _, _, _, _, _, _, _, rfl, _⟩ := h; rfl) | (obtain ⟨_, _, _, _, _, _, _, _, _, _, _, _, _, _, _, _, _, _, _, _, _, _, _, rfl, _⟩ := h; rfl)
  · obtain ⟨t, a, b, c, d, x, y, rfl, ht, ba, bb, bc, bd, bx, by', q⟩ := h
    refine ⟨_, (pss_cons (ps_asg (pv 0) (pg_lst (by rfl) (pgs_cons (pg_name (i := 3) sc_l_at.nd rfl (.inl rfl)) (pgs_cons (pg_name (i := 4) sc_l_at.nd rfl (.inl rfl)) (pgs_cons (pg_name (i := 5) sc_l_at.nd rfl (.inl rfl)) (pgs_cons (pg_name (i := 6) sc_l_at.nd rfl (.inl rfl)) pgs_nil))))))
    (pss_one (ps_ret (pe_op op_add (pe_op op_add (pe_op op_add (pe_op op_mulW (pe_op op_mulW (pe_op op_mulW (pv 3) (pv 1)) (pv 1)) (pv 1)) (pe_op op_mulW (pe_op op_mulW (pe_op op_mulW (pv 4) (pv 1)) (pv 1)) (pv 2))) (pe_op op_mulW (pe_op op_mulW (pe_op op_mulW (pv 5) (pv 1)) (pv 2)) (pv 2))) (pe_op op_mulW (pe_op op_mulW (pe_op op_mulW (pv 6) (pv 2)) (pv 2)) (pv 2)))))), ?_⟩
    refine ⟨_, rfl, t, _, rfl, SqL.of ht, rfl, _, _, rfl, _, _, rfl, _, _, rfl, _, _, rfl, rfl, ?_⟩
    exact ⟨_, rfl, _, rfl, _, _, rfl, rfl, mulB (by with_reducible assumption) (by with_reducible assumption) (by decide), _, rfl, _, _, rfl, rfl, mulB (B.mul (by with_reducible assumption) (by with_reducible assumption)) (by with_reducible assumption) (by decide), _, rfl, _, _, rfl, rfl, mulB (B.mul (B.mul (by with_reducible assumption) (by with_reducible assumption)) (by with_reducible assumption)) (by with_reducible assumption) (by decide), _, rfl, _, rfl, _, _, rfl, rfl, mulB (by with_reducible assumption) (by with_reducible assumption) (by decide), _, rfl, _, _, rfl, rfl, mulB (B.mul (by with_reducible assumption) (by with_reducible assumption)) (by with_reducible assumption) (by decide), _, rfl, _, _, rfl, rfl, mulB (B.mul (B.mul (by with_reducible assumption) (by with_reducible assumption)) (by with_reducible assumption)) (by with_reducible assumption) (by decide), _, _, rfl, rfl, _, rfl, _, rfl, _, _, rfl, rfl, mulB (by with_reducible assumption) (by with_reducible assumption) (by decide), _, rfl, _, _, rfl, rfl, mulB (B.mul (by with_reducible assumption) (by with_reducible assumption)) (by with_reducible assumption) (by decide), _, rfl, _, _, rfl, rfl, mulB (B.mul (B.mul (by with_reducible assumption) (by with_reducible assumption)) (by with_reducible assumption)) (by with_reducible assumption) (by decide), _, _, rfl, rfl, _, rfl, _, rfl, _, _, rfl, rfl, mulB (by with_reducible assumption) (by with_reducible assumption) (by decide), _, rfl, _, _, rfl, rfl, mulB (B.mul (by with_reducible assumption) (by with_reducible assumption)) (by with_reducible assumption) (by decide), _, rfl, _, _, rfl, rfl, mulB (B.mul (B.mul (by with_reducible assumption) (by with_reducible assumption)) (by with_reducible assumption)) (by with_reducible assumption) (by decide), _, _, rfl, rfl, q⟩
theorem ok_l_change (T : Txt K mg C_Form) : Def P w K mg base 2 "_law_change" ["_law_crock_here", "_law_most", "_law_times"] (sp_l_change K C_Form) := by
  obtain ⟨f_, fd_, g_, F_⟩ := T.d_l_change
  obtain ⟨f_l_scoop, fd_l_scoop, g_l_scoop, k_l_scoop, b_l_scoop, G_l_scoop⟩ := (ok_l_scoop (P := P) (w := w) (base := base) T)
  refine ⟨f_, fd_, g_, F_.kp, F_.binds (ps := ["_law_crock_here", "_law_most", "_law_times"]) (fun _ _ _ _ _ _ us hl => match us, hl with | [_, _, _], _ => rfl), ?_⟩
  refine F_.ok sc_l_change (fun vs H Q E h => ?_) (fun cdv A outer s H vs Q E hr h => ?_)
  · first | (obtain ⟨rfl, _⟩ := h; rfl) | (obtain ⟨_, rfl, _⟩ := h; rfl) | (obtain ⟨_, _, rfl, _⟩ := h; rfl) | (obtain ⟨_, _, _, rfl, _⟩ := h; rfl) | (obtain ⟨_, _, _, _, rfl, _⟩ := h; rfl) | (obtain ⟨_, _, _, _, _, rfl, _⟩ := h; rfl) | (obtain ⟨_, _, _, _, _, _, rfl, _⟩ := h; rfl) | (obtain ⟨_, _, _, _, _, _, _, rfl, _⟩ := h; rfl) | (obtain ⟨_, _, _, _, _, _, _, _, rfl, _⟩ := h; rfl) | (obtain ⟨_, _, _, _, _, _, _, _, _, rfl, _⟩ := h; rfl) | (obtain ⟨_, _, _, _, _, _, _, _, _, _, rfl, _⟩ := h; rfl) | (obtain ⟨_, _, _, _, _, _, _, _, _, _, _, rfl, _⟩ := h; rfl) | (obtain ⟨_, _, _, _, _, _, _, _, _, _, _, _, rfl, _⟩ := h; rfl) | (obtain ⟨_, _, _, _, _, _, _, _, _, _, _, _, _, rfl, _⟩ := h; rfl) | (obtain ⟨_, _, _, _, _, _, _, _, _, _, _, _, _, _, rfl, _⟩ := h; rfl) | (obtain ⟨_, _, _, _, _, _, _, _, _, _, _, _, _, _, _, rfl, _⟩ := h; rfl) | (obtain ⟨_, _, _, _, _, _, _, _, _, _, _, _, _, _, _, _, rfl, _⟩ := h; rfl) | (obtain ⟨_, _, _, _, _, _, _, _, _, _, _, _, _, _, _, _, _, rfl, _⟩ := h; rfl) | (obtain ⟨_, _, _, _, _, _, _, _, _, _, _, _, _, _, _, _, _, _, rfl, _⟩ := h; rfl) | (obtain ⟨_, _, _, _, _, _, _, _, _, _, _, _, _, _, _, _, _, _, _, rfl, _⟩ := h; rfl) | (obtain ⟨_, _, _, _, _, _, _, _, _, _, _, _, _, _, _, _, _, _, _, _, rfl, _⟩ := h; rfl) | (obtain ⟨_, _, _, _, _, _, _, _, _, _, _, _, _, _, _, _, _, _, _, _, _, rfl, _⟩ := h; rfl) | (obtain ⟨_, _, _, _, _, _, _, _, _, _, _, _, _, _, _, _, _, _, _, _, _, _, rfl, _⟩ := h; rfl) | (obtain ⟨_, _, _, _, _, _, _, _, _, _, _, _, _, _, _, _, _, _, _, _, _, _, _, rfl, _⟩ := h; rfl)
  · obtain ⟨cr, rfl, hv, q⟩ := h
    refine ⟨_, (pss_cons (ps_set (i := 3) sc_l_change.nd rfl (.inl rfl) (pe_tup (pa_cons (pe_tup (pa_cons pe_int (pa_cons pe_int pa_nil))) (pa_cons (pe_tup (pa_cons pe_int (pa_cons pe_int pa_nil))) pa_nil))))
    (pss_cons (ps_for PassesOwn.never rfl (pi_range1 (by rfl) T.b_range (pa_cons (pe_call G_l_scoop (hr.mono (by decide)) (by rfl) g_l_scoop k_l_scoop b_l_scoop .nil pass0 (pa_cons (pv 0) (pa_cons (pe_op op_add (pv 2) pe_int) pa_nil))) pa_nil)) (pg_name (i := 4) sc_l_change.nd rfl (.inl rfl))
      (pss_cons (ps_par (i := 5) (j := 6) (by rfl) sc_l_change.nd rfl rfl (by decide) rfl rfl (pa_cons (pe_call G_l_scoop (hr.mono (by decide)) (by rfl) g_l_scoop k_l_scoop b_l_scoop .nil pass0 (pa_cons (pv 0) (pa_cons pe_int pa_nil))) (pa_cons (pe_op op_sub (pe_call G_l_scoop (hr.mono (by decide)) (by rfl) g_l_scoop k_l_scoop b_l_scoop .nil pass0 (pa_cons (pv 0) (pa_cons (pe_op op_add (pe_op op_mulW pe_int (pv 1)) pe_int) pa_nil))) (pv 1)) pa_nil)) (by rfl))
    (Evl.pss_cut (ps_set (i := 7) sc_l_change.nd rfl (.inl rfl) (pe_ix ix_list (pe_lst (pa_cons (pe_tup (pa_cons (pe_tup (pa_cons pe_int (pa_cons (pv 6) pa_nil))) (pa_cons (pe_tup (pa_cons pe_int (pa_cons pe_int pa_nil))) pa_nil))) (pa_cons (pe_tup (pa_cons (pe_tup (pa_cons pe_int (pa_cons pe_int pa_nil))) (pa_cons (pe_tup (pa_cons (pv 6) (pa_cons pe_int pa_nil))) pa_nil))) (pa_cons (pe_tup (pa_cons (pe_tup (pa_cons pe_int (pa_cons pe_int pa_nil))) (pa_cons (pe_tup (pa_cons pe_int (pa_cons pe_int pa_nil))) pa_nil))) (pa_cons (pe_tup (pa_cons (pe_tup (pa_cons (pe_un un_neg pe_int) (pa_cons pe_int pa_nil))) (pa_cons (pe_tup (pa_cons pe_int (pa_cons pe_int pa_nil))) pa_nil))) pa_nil))))) (pv 5) (fun _ _ => rfl)))
    (pss_cons (ps_asg (pv 3) (pg_tup (by rfl) (pgs_cons (pg_tup (by rfl) (pgs_cons (pg_name (i := 8) sc_l_change.nd rfl (.inl rfl)) (pgs_cons (pg_name (i := 9) sc_l_change.nd rfl (.inl rfl)) pgs_nil))) (pgs_cons (pg_tup (by rfl) (pgs_cons (pg_name (i := 10) sc_l_change.nd rfl (.inl rfl)) (pgs_cons (pg_name (i := 11) sc_l_change.nd rfl (.inl rfl)) pgs_nil))) pgs_nil))))
    (Evl.pss_cut (ps_asg (pv 7) (pg_tup (by rfl) (pgs_cons (pg_tup (by rfl) (pgs_cons (pg_name (i := 12) sc_l_change.nd rfl (.inl rfl)) (pgs_cons (pg_name (i := 13) sc_l_change.nd rfl (.inl rfl)) pgs_nil))) (pgs_cons (pg_tup (by rfl) (pgs_cons (pg_name (i := 14) sc_l_change.nd rfl (.inl rfl)) (pgs_cons (pg_name (i := 15) sc_l_change.nd rfl (.inl rfl)) pgs_nil))) pgs_nil))))
    (pss_cons (ps_set (i := 16) sc_l_change.nd rfl (.inl rfl) (pe_tup (pa_cons (pe_op op_add (pe_op op_mulW (pv 12) (pv 8)) (pe_op op_mulW (pv 13) (pv 10))) (pa_cons (pe_op op_add (pe_op op_mulW (pv 12) (pv 9)) (pe_op op_mulW (pv 13) (pv 11))) pa_nil))))
    (pss_one (ps_set (i := 3) sc_l_change.nd rfl (.inl rfl) (pe_tup (pa_cons (pv 16) (pa_cons (pe_tup (pa_cons (pe_op op_add (pe_op op_mulW (pv 14) (pv 8)) (pe_op op_mulW (pv 15) (pv 10))) (pa_cons (pe_op op_add (pe_op op_mulW (pv 14) (pv 9)) (pe_op op_mulW (pv 15) (pv 11))) pa_nil))) pa_nil)))))))))))
    (pss_one (ps_ret (pv 3))))), ?_⟩
    refine ⟨sl2, fun t1 n1 => ⟨sl2, fun t2 n2 => ⟨sl2, fun x0 n0 => ?_⟩⟩⟩
    have z0 := t4_new n1 n2 n0
    have f0 : Fv cr H _ := fv_ex hv z0.1
    have i00 := z0.2
    generalize upd _ x0 _ = H2 at f0 i00 ⊢
    refine ⟨_, rfl, _, rfl, _, _, rfl, rfl, cr, 5, rfl, f0.1, by decide, by decide, fun u H1 u0 u1 e1 => ?_⟩
    refine ⟨_, rfl, by omega, by omega, ?_⟩
    have i0 : T4 H1 x0 1 0 0 1 := i00.ex fun b xs z => fv_tup f0.1 e1 z
    refine for_range (lo := 0) (n := u.toNat) (fun i σ H' => ∃ x p q r s y4 y5 y6 y7 y8 y9 y10 y11 y12 y13 y14 y15 y16, σ = [some (.ref cr), some (.int 9), some (.int 4), some (.ref x), y4, y5, y6, y7, y8, y9, y10, y11, y12, y13, y14, y15, y16] ∧ Fv cr H H' ∧ T4 H' x p q r s ∧ Gn p q r s (10 ^ i)) ⟨x0, 1, 0, 0, 1, none, none, none, none, none, none, none, none, none, none, none, none, none, rfl, f0.trans e1, i0, ⟨by decide, by decide, by decide, by decide, .inl (by decide)⟩⟩ ?_ ?_
    · rintro i σ H' hi ⟨x, p, q', r, s', y4, y5, y6, y7, y8, y9, y10, y11, y12, y13, y14, y15, y16, rfl, e2, h4, hg⟩
      have hi5 : i < 4 := by omega
      refine ⟨_, rfl, cr, 4, rfl, e2.1, by decide, by decide, fun w H3 w0 w1 e3 => ?_⟩
      refine ⟨_, rfl, _, rfl, _, _, rfl, rfl, mulB (a := 3) (b := 5) ⟨by decide, by decide⟩ ⟨by decide, by decide⟩ (by decide), _, _, rfl, rfl, cr, 19, rfl, e3.1, by decide, by decide, fun v H4 v0 v1 e4 => ⟨_, rfl, _, _, rfl, rfl, ?_⟩⟩
      have f4 : Fv cr H' H4 := e3.trans e4
      obtain ⟨z, hz, hz2⟩ : ∃ z : Int, z = v - 9 ∧ z.natAbs ≤ 9 := ⟨_, rfl, by omega⟩
      refine ⟨_, _, rfl, ?_⟩
      refine ⟨fun σ H5 => ∃ x2 i' j k m y4 y5 y6, σ = [some (.ref cr), some (.int 9), some (.int 4), some (.ref x), y4, y5, y6, some (.ref x2), y8, y9, y10, y11, y12, y13, y14, y15, y16] ∧ Fv cr H' H5 ∧ T4 H5 x2 i' j k m ∧ Ei i' j k m z, ?_, ?_⟩
      · refine ⟨_, rfl, sl2, fun a1 m1 => ⟨sl2, fun a2 m2 => ⟨sl2, fun a3 m3 => ?_⟩⟩⟩
        have w1 := t4_new m1 m2 m3
        refine ⟨sl2, fun c1 k1 => ⟨_, rfl, sl2, fun c2 k2 => ⟨sl2, fun b3 k3 => ?_⟩⟩⟩
        have w2 := t4_new k1 k2 k3
        refine ⟨sl2, fun d1 l1 => ⟨sl2, fun d2 l2 => ⟨sl2, fun c3 l3 => ?_⟩⟩⟩
        have w3 := t4_new l1 l2 l3
        refine ⟨_, rfl, sl2, fun g1 o1 => ⟨sl2, fun g2 o2 => ⟨sl2, fun d3 o3 => ?_⟩⟩⟩
        have w4 := t4_new o1 o2 o3
        refine ⟨sl4, fun L nL => ?_⟩
        have wL := Ex0.new (o := .lst [.ref a3, .ref b3, .ref c3, .ref d3]) nL
        have eg := (((w1.1.trans w2.1).trans w3.1).trans w4.1).trans wL
        have t1' := Ex0.t4 (((w2.1.trans w3.1).trans w4.1).trans wL) w1.2
        have t2' := Ex0.t4 ((w3.1.trans w4.1).trans wL) w2.2
        have t3' := Ex0.t4 (w4.1.trans wL) w3.2
        have t4' := Ex0.t4 wL w4.2
        have f5 : Fv cr H' _ := f4.trans (fv_ex f4.1 eg)
        have hw : w = 0 ∨ w = 1 ∨ w = 2 ∨ w = 3 := by omega
        have ez : (fun i j => V.int (i - j)) v 9 = V.int z := by rw [hz]
        rcases hw with rfl | rfl | rfl | rfl
        · exact ⟨_, rfl, L, _, 0, .ref a3, rfl, rfl, SqL.of upd_same, rfl, a3, 1, z, 0, 1, _, _, _, rfl, f5, by rw [hz]; exact t1', .inl ⟨rfl, rfl, rfl, rfl⟩⟩
        · exact ⟨_, rfl, L, _, 1, .ref b3, rfl, rfl, SqL.of upd_same, rfl, b3, 1, 0, z, 1, _, _, _, rfl, f5, by rw [hz]; exact t2', .inr (.inl ⟨rfl, rfl, rfl, rfl⟩)⟩
        · exact ⟨_, rfl, L, _, 2, .ref c3, rfl, rfl, SqL.of upd_same, rfl, c3, 0, 1, 1, 0, _, _, _, rfl, f5, t3', .inr (.inr (.inl ⟨rfl, rfl, rfl, rfl⟩))⟩
        · exact ⟨_, rfl, L, _, 3, .ref d3, rfl, rfl, SqL.of upd_same, rfl, d3, -1, 0, 0, 1, _, _, _, rfl, f5, t4', .inr (.inr (.inr ⟨rfl, rfl, rfl, rfl⟩))⟩
      clear y4 y5 y6
      rintro σ H5 ⟨x2, i', j, k, m, y4, y5, y6, rfl, f5, h42, hE⟩
      have h45 : T4 H5 x p q' r s' := h4.ex fun b xs z => fv_tup e2.1 f5 z
      obtain ⟨t3, t4, hu, hu1, hu2⟩ := h45
      refine ⟨_, rfl, x, _, rfl, SqT.of hu, rfl, _, _, rfl, t3, _, rfl, SqT.of hu1, rfl, _, _, rfl, _, _, rfl, rfl, _, _, rfl, t4, _, rfl, SqT.of hu2, rfl, _, _, rfl, _, _, rfl, rfl, rfl, ?_⟩
      refine ⟨fun σ H6 => ∃ y4 y5 y6 y7, σ = [some (.ref cr), some (.int 9), some (.int 4), some (.ref x), y4, y5, y6, y7, some (.int p), some (.int q'), some (.int r), some (.int s'), some (.int i'), some (.int j), some (.int k), some (.int m), y16] ∧ H6 = H5, ?_, ?_⟩
      · obtain ⟨t5, t6, hv0, hv1, hv2⟩ := h42
        exact ⟨_, rfl, x2, _, rfl, SqT.of hv0, rfl, _, _, rfl, t5, _, rfl, SqT.of hv1, rfl, _, _, rfl, _, _, rfl, rfl, _, _, rfl, t6, _, rfl, SqT.of hv2, rfl, _, _, rfl, _, _, rfl, rfl, rfl, _, _, _, _, rfl, rfl⟩
      clear y4 y5 y6 y7
      rintro σ H6 ⟨y4, y5, y6, y7, rfl, rfl⟩
      have gn := hg.step hE hz2
      have m5 : (10 : Nat) ^ i ≤ 1000 := Nat.le_trans (Nat.pow_le_pow_right (by decide) (show i ≤ 3 by omega)) (by decide)
      have bM : ∀ {y : Int}, y.natAbs ≤ 10 ^ i → B 30 y := fun h => ⟨Nat.lt_of_le_of_lt (Nat.le_trans h m5) (by decide), by decide⟩
      have bp := bM hg.1
      have bq := bM hg.2.1
      have br := bM hg.2.2.1
      have bs := bM hg.2.2.2.1
      have bE : B 10 i' ∧ B 10 j ∧ B 10 k ∧ B 10 m := by
        have bz : B 10 z := ⟨Nat.lt_of_le_of_lt hz2 (by decide), by decide⟩
        have b0 : B 10 (0 : Int) := ⟨by decide, by decide⟩
        have b1 : B 10 (1 : Int) := ⟨by decide, by decide⟩
        have bn1 : B 10 (-1 : Int) := ⟨by decide, by decide⟩
        rcases hE with ⟨rfl, rfl, rfl, rfl⟩ | ⟨rfl, rfl, rfl, rfl⟩ | ⟨rfl, rfl, rfl, rfl⟩ | ⟨rfl, rfl, rfl, rfl⟩
        · exact ⟨b1, bz, b0, b1⟩
        · exact ⟨b1, b0, bz, b1⟩
        · exact ⟨b0, b1, b1, b0⟩
        · exact ⟨bn1, b0, b0, b1⟩
      obtain ⟨bi, bj, bk, bm⟩ := bE
      refine ⟨_, rfl, _, rfl, _, _, rfl, rfl, mulB bi bp (by decide), _, rfl, _, rfl, _, _, rfl, rfl, mulB bj br (by decide), _, _, rfl, rfl, ?_⟩
      refine ⟨_, rfl, _, rfl, _, _, rfl, rfl, mulB bi bq (by decide), _, rfl, _, rfl, _, _, rfl, rfl, mulB bj bs (by decide), _, _, rfl, rfl, sl2, fun o1 n1 => ?_⟩
      have x1 := Ex0.new (o := .tup [.int (i' * p + j * r), .int (i' * q' + j * s')]) n1
      refine ⟨_, rfl, _, rfl, _, rfl, _, _, rfl, rfl, mulB bk bp (by decide), _, rfl, _, rfl, _, _, rfl, rfl, mulB bm br (by decide), _, _, rfl, rfl, ?_⟩
      refine ⟨_, rfl, _, rfl, _, _, rfl, rfl, mulB bk bq (by decide), _, rfl, _, rfl, _, _, rfl, rfl, mulB bm bs (by decide), _, _, rfl, rfl, sl2, fun o2 n2 => ?_⟩
      have x2' := Ex0.new (o := .tup [.int (k * p + m * r), .int (k * q' + m * s')]) n2
      refine ⟨sl2, fun o3 n3 => ?_⟩
      have x3 := Ex0.new (o := .tup [.ref o1, .ref o2]) n3
      refine ⟨o3, _, _, _, _, _, _, _, _, _, _, _, _, _, _, _, _, _, rfl, e2.trans (f5.trans (fv_ex f5.1 ((x1.trans x2').trans x3))), ⟨o1, o2, upd_same, Ex0.ap (x2'.trans x3) upd_same, Ex0.ap x3 upd_same⟩, ?_⟩
      rw [Nat.pow_succ, Nat.mul_comm]
      exact gn
    · rintro σ H' ⟨x, p, q', r, s', y4, y5, y6, y7, y8, y9, y10, y11, y12, y13, y14, y15, y16, rfl, e2, h4, hg⟩
      exact ⟨_, rfl, q x p q' r s' H' e2 h4 (hg.mono (Nat.le_trans (Nat.pow_le_pow_right (by decide) (show u.toNat ≤ 4 by omega)) (by decide)))⟩
end
end K52
namespace K52
open PySem PySem.Spec PyProof.Rows L2 Fr
open LedM
set_option pp.maxSteps 3000
section
def sp_l_kind (_ : PySem.W.Frag) (_ : Addr) : Sp := fun vs H Q _ => ∃ (t : Addr) (a b c d : Int) (p : Nat), vs = [.ref t, .int (p : Int)] ∧ Ti H t [a, b, c, d] ∧ 2 ≤ p ∧ p < 500 ∧ ∀ H', Ex0 H H' → Q (.str (wd (Stick.kn a b c d p))) H'
def sp_l_counts (_ : PySem.W.Frag) (_ : Addr) : Sp := fun vs H Q _ => ∃ (t : Addr) (a b c d : Int) (p : Nat), vs = [.ref t, .int (p : Int)] ∧ Ti H t [a, b, c, d] ∧ (p = 2 ∨ p = 3 ∨ p = 5) ∧ ∀ o H', Ex0 H H' → Ti H' o [((Stick.sz p (Stick.kn a b c d p)).1 : Int), ((Stick.sz p (Stick.kn a b c d p)).2 : Int)] → Q (.ref o) H'
def sp_l_drawn (_ : PySem.W.Frag) (_ : Addr) : Sp := fun vs H Q _ => ∃ cr : Addr, vs = [.ref cr] ∧ Vat cr H ∧ ∀ t a b c d H', Fv cr H H' → Ti H' t [a, b, c, d] → (∀ z ∈ [a, b, c, d], z.natAbs ≤ 8000000000000000000000000) → Q (.ref t) H'
end
section
variable {P : Program} {w : World} {K : PySem.W.Frag} {mg : Str → Option Value} {base : Heap} {C_Form : Addr}
theorem ok_l_kind (T : Txt K mg C_Form) : Def P w K mg base 2 "_law_kind" ["_law_form", "_law_prime"] (sp_l_kind K C_Form) := by
  obtain ⟨f_, fd_, g_, F_⟩ := T.d_l_kind
  obtain ⟨f_l_at, fd_l_at, g_l_at, k_l_at, b_l_at, G_l_at⟩ := (ok_l_at (P := P) (w := w) (base := base) T)
  refine ⟨f_, fd_, g_, F_.kp, F_.binds (ps := ["_law_form", "_law_prime"]) (fun _ _ _ _ _ _ us hl => match us, hl with | [_, _], _ => rfl), ?_⟩
  refine F_.ok sc_l_kind (fun vs H Q E h => ?_) (fun cdv A outer s H vs Q E hr h => ?_)
  · first | (obtain ⟨rfl, _⟩ := h; rfl) | (obtain ⟨_, rfl, _⟩ := h; rfl) | (obtain ⟨_, _, rfl, _⟩ := h; rfl) | (obtain ⟨_, _, _, rfl, _⟩ := h; rfl) | (obtain ⟨_, _, _, _, rfl, _⟩ := h; rfl) | (obtain ⟨_, _, _, _, _, rfl, _⟩ := h; rfl) | (obtain ⟨_, _, _, _, _, _, rfl, _⟩ := h; rfl) | (obtain ⟨_, _, _, _, _, _, _, rfl, _⟩ := h; rfl) | (obtain ⟨_, _, _, _, _, _, _, _, rfl, _⟩ := h; rfl) | (obtain ⟨_, _, _, _, _, _, _, _, _, rfl, _⟩ := h; rfl) | (obtain ⟨_, _, _, _, _, _, _, _, _, _, rfl, _⟩ := h; rfl) | (obtain ⟨_, _, _, _, _, _, _, _, _, _, _, rfl, _⟩ := h; rfl) | (obtain ⟨_, _, _, _, _, _, _, _, _, _, _, _, rfl, _⟩ := h; rfl) | (obtain ⟨_, _, _, _, _, _, _, _, _, _, _, _, _, rfl, _⟩ := h; rfl) | (obtain ⟨_, _, _, _, _, _, _, _, _, _, _, _, _, _, rfl, _⟩ := h; rfl) | (obtain ⟨_, _, _, _, _, _, _, _, _, _, _, _, _, _, _, rfl, _⟩ := h; rfl) | (obtain ⟨_, _, _, _, _, _, _, _, _, _, _, _, _, _, _, _, rfl, _⟩ := h; rfl) | (obtain ⟨_, _, _, _, _, _, _, _, _, _, _, _, _, _, _, _, _, rfl, _⟩ := h; rfl) | (obtain ⟨_, _, _, _, _, _, _, _, _, _, _, _, _, _, _, _, _, _, rfl, _⟩ := h; rfl) | (obtain ⟨_, _, _, _, _, _, _, _, _, _, _, _, _, _, _, _, _, _, _, rfl, _⟩ := h; rfl) | (obtain ⟨_, _, _, _, _, _, _, _, _, _, _, _, _, _, _, _, _, _, _, _, rfl, _⟩ := h; rfl) | (obtain ⟨_, _, _, _, _, _, _, _, _, _, _, _, _, _, _, _, _, _, _, _, _, rfl, _⟩ := h; rfl) | (obtain ⟨_, _, _, _, _, _, _, _, _, _, _, _, _, _, _, _, _, _, _, _, _, _, rfl, _⟩ := h; rfl) | (obtain ⟨_, _, _, _, _, _, _, _, _, _, _, _, _, _, _, _, _, _, _, _, _, _, _, rfl, _⟩ := h; rfl)
  · obtain ⟨t, a, b, c, d, p, rfl, ht, p2, p1, q⟩ := h
    refine ⟨_, (pss_cons (ps_set (i := 2) sc_l_kind.nd rfl (.inr rfl) (pe_lc (own := [("_law_one", 8)]) (g := (gName 8)) rfl sc_l_kind.nd (pi_tup (pv 0)) (blkOk_by (N := N_l_kind) (sc := defScope s_l_kind) (by decide +kernel)) (fun _ _ _ _ _ => (pg_name (i := 8) sc_l_kind.nd rfl (.inl rfl))) (fun _ _ _ _ _ => pts_nil) (fun _ _ _ _ _ => (pe_op op_mod (pe_callTy call_int1 (by rfl) T.b_int (by decide +kernel) (pa_cons (pv 8) pa_nil)) (pv 1)))))
    (pss_cons (ps_if (pt_cmpR (op_eqD hr.units) (pv 2) (pe_lst (pa_cons pe_int (pa_cons pe_int (pa_cons pe_int (pa_cons pe_int pa_nil))))) (nomark _))
      (pss_one (ps_ret pe_str))
      pss_nil)
    (pss_cons (ps_asg (pv 2) (pg_lst (by rfl) (pgs_cons (pg_name (i := 3) sc_l_kind.nd rfl (.inr rfl)) (pgs_cons (pg_name (i := 4) sc_l_kind.nd rfl (.inr rfl)) (pgs_cons (pg_name (i := 5) sc_l_kind.nd rfl (.inr rfl)) (pgs_cons (pg_name (i := 6) sc_l_kind.nd rfl (.inl rfl)) pgs_nil))))))
    (Evl.pss_cut (ps_setLc (i := 7) (own := [("_law_x", 9)]) (g := (gName 9)) rfl sc_l_kind.nd rfl rfl (sw_true rfl rfl rfl (by decide +kernel)) (pi_range1 (by rfl) T.b_range (pa_cons (pv 1) pa_nil)) (blkOk_by (N := N_l_kind) (sc := defScope s_l_kind) (by decide +kernel)) (fun _ _ _ _ _ => (pg_name (i := 9) sc_l_kind.nd rfl (.inl rfl))) (fun _ _ _ _ _ => (pts_one (pt_cmpR op_eq (pe_op op_mod (pe_callTy call_int1 (by rfl) T.b_int (by decide +kernel) (pa_cons (pe_call G_l_at (hr.mono (by decide)) (by rfl) g_l_at k_l_at b_l_at .nil pass0 (pa_cons (pv 2) (pa_cons (pv 9) (pa_cons pe_int pa_nil)))) pa_nil)) (pv 1)) pe_int (nomark _)))) (fun _ _ _ _ _ => (pe_ifExp (pt_cmpR op_eq (pe_op op_mod (pe_callTy call_int1 (by rfl) T.b_int (by decide +kernel) (pa_cons (pe_op op_add (pe_op op_add (pe_op op_mulW (pe_op op_mulW (pe_op op_mulW pe_int (pv 3)) (pv 9)) (pv 9)) (pe_op op_mulW (pe_op op_mulW pe_int (pv 4)) (pv 9))) (pv 5)) pa_nil)) (pv 1)) pe_int (nomark _)) pe_int pe_int)))
    (Evl.pss_cut (ps_set (i := 7) sc_l_kind.nd rfl (.inl rfl) (pe_op op_cat (pv 7) (pe_op op_rep (pe_lst (pa_cons (pe_ifExp (pt_cmpR op_gt (pv 4) pe_int (nomark _)) pe_int pe_int) pa_nil)) (pe_callTy call_int1 (by rfl) T.b_int (by decide +kernel) (pa_cons (pe_cmpR op_eq (pv 3) pe_int (nomark _)) pa_nil)))))
    (pss_cons (ps_if (pt_cmpR (op_eqD hr.units) (pv 7) (pe_lst pa_nil) (nomark _))
      (pss_one (ps_ret pe_str))
      pss_nil)
    (pss_cons (ps_if (pt_cmpR op_eq (pe_callB (cr_max rfl) (by rfl) T.b_max (by decide +kernel) (pa_cons (pv 7) pa_nil)) pe_int (nomark _))
      (pss_one (ps_ret (pe_ifExp (pt_cmpR op_eq (pe_callB call_len_seq (by rfl) T.b_len PySem.boot_len (pa_cons (pv 7) pa_nil)) pe_int (nomark _)) pe_str pe_str)))
      pss_nil)
    (pss_one (ps_ret (pe_ifExp (pt_cmpR op_eq (pe_callB call_len_seq (by rfl) T.b_len PySem.boot_len (pa_cons (pv 7) pa_nil)) pe_int (nomark _)) pe_str pe_str)))))))))), ?_⟩
    have p0 : (0 : Int) < (p : Int) := by omega
    have pn : (p : Int) ≠ 0 := by omega
    refine ⟨_, rfl, t, rfl, ⟨_, SqT.of ht⟩, ?_⟩
    refine lcT fm0 trivial (SqT.of ht) (fun z => z) (fun i acc _ => acc = (([a % (p : Int), b % (p : Int), c % (p : Int), d % (p : Int)] : List Int).take i).map V.int) (fun _ _ => rfl) (fun D i v acc H' hD hv e hA hlen hp => ?_) (fun D H1 acc hD e hA hp' => ?_)
    · obtain ⟨n, hn, rfl⟩ := get_int hv
      have hi : i < 4 := (List.getElem?_eq_some_iff.mp hn).1
      refine ⟨rfl, ?_⟩
      refine ⟨_, rfl, .inl ⟨_, rfl, _, rfl, _, _, rfl, rfl, p0, ?_⟩⟩
      refine cs_yes fm0 trivial hD e hA hlen (by omega) (Fx.refl trivial) ?_
      show acc ++ [V.int (n % (p : Int))] = _
      rw [hp]
      match i, hn with
      | 0, hn => rw [← Option.some.inj hn]; rfl
      | 1, hn => rw [← Option.some.inj hn]; rfl
      | 2, hn => rw [← Option.some.inj hn]; rfl
      | 3, hn => rw [← Option.some.inj hn]; rfl
    have hp2 : acc = ([a % (p : Int), b % (p : Int), c % (p : Int), d % (p : Int)] : List Int).map V.int := hp'
    subst hp2
    have inst : NeZero p := ⟨by omega⟩
    rw [← Stick.kn_red] at q
    obtain ⟨A, hA'⟩ : ∃ n : Nat, a % (p : Int) = n := ⟨(a % (p : Int)).toNat, (Int.toNat_of_nonneg (Int.emod_nonneg a pn)).symm⟩
    obtain ⟨B', hB'⟩ : ∃ n : Nat, b % (p : Int) = n := ⟨(b % (p : Int)).toNat, (Int.toNat_of_nonneg (Int.emod_nonneg b pn)).symm⟩
    obtain ⟨C', hC'⟩ : ∃ n : Nat, c % (p : Int) = n := ⟨(c % (p : Int)).toNat, (Int.toNat_of_nonneg (Int.emod_nonneg c pn)).symm⟩
    obtain ⟨D', hD'⟩ : ∃ n : Nat, d % (p : Int) = n := ⟨(d % (p : Int)).toNat, (Int.toNat_of_nonneg (Int.emod_nonneg d pn)).symm⟩
    have la := Int.emod_lt_of_pos a p0
    have lb := Int.emod_lt_of_pos b p0
    have lc := Int.emod_lt_of_pos c p0
    have ld := Int.emod_lt_of_pos d p0
    rw [hA', hB', hC', hD'] at hA q
    rw [hA'] at la
    rw [hB'] at lb
    rw [hC'] at lc
    rw [hD'] at ld
    clear hA' hB' hC' hD' ht
    have em : ∀ n : Nat, (n : Int) < (p : Int) → (n : Int) % (p : Int) = (n : Int) := fun n hn => Int.emod_eq_of_lt (by omega) hn
    refine ⟨_, rfl, sl4, fun o no => ?_⟩
    have e1 := Ex0.new (o := .lst [.int 0, .int 0, .int 0, .int 0]) no
    have hA1 := Ex0.ap e1 hA
    refine ⟨.list (([(A : Int), (B' : Int), (C' : Int), (D' : Int)] : List Int).map .int), .list (([0, 0, 0, 0] : List Int).map .int), .lst (SqL.of hA1) (dp_ints _), .lst (SqL.of upd_same) (dp_ints [0, 0, 0, 0]), shaped_ints _, shaped_ints [0, 0, 0, 0], _, rfl, ?_⟩
    rw [PyData.eqv, eqv_ints]
    have e01 := e.trans e1
    generalize upd H1 o _ = H2 at *
    refine iteD (fun g => ?_) (fun g => ?_)
    · injection g with g1 g
      injection g with g2 g
      injection g with g3 g
      injection g with g4 g
      have q5 := q H2 e01
      have e5 : Stick.kn (A : Int) (B' : Int) (C' : Int) (D' : Int) p = 5 := by
        rw [g1, g2, g3, g4]
        exact if_pos ⟨Int.zero_emod _, Int.zero_emod _, Int.zero_emod _, Int.zero_emod _⟩
      rw [e5] at q5
      exact q5
    have hnz : ¬ ((A : Int) % (p : Int) = 0 ∧ (B' : Int) % (p : Int) = 0 ∧ (C' : Int) % (p : Int) = 0 ∧ (D' : Int) % (p : Int) = 0) := by
      rw [em A la, em B' lb, em C' lc, em D' ld]
      rintro ⟨h1, h2, h3, h4⟩
      exact g (by rw [h1, h2, h3, h4])
    have hq : ∀ n : Nat, Stick.kI (A : Int) (B' : Int) (C' : Int) (D' : Int) p = n → ∀ H', Ex0 H H' → Q (.str (wd n)) H' := by
      intro n hn H' e'
      have := q H' e'
      unfold Stick.kn at this
      rw [if_neg hnz, hn] at this
      exact this
    rw [Stick.kI_fnd] at hq
    refine ⟨_, rfl, D, _, rfl, SqL.of hA1, rfl, _, _, rfl, _, _, rfl, _, _, rfl, _, _, rfl, rfl, ?_⟩
    have bs : ∀ n : Nat, (n : Int) < (p : Int) → B 900 (n : Int) := fun n hn => B.mono (show B 10 (n : Int) from ⟨by show _ < 1024; omega, by decide⟩) (by decide)
    have bA := bs A la
    have bB := bs B' lb
    have bC := bs C' lc
    have bD := bs D' ld
    have b10 : ∀ n : Nat, (n : Int) < (p : Int) → B 10 (n : Int) := fun n hn => ⟨by show _ < 1024; omega, by decide⟩
    refine ⟨fun σ H' => ∃ f, σ = [some (.ref t), some (.int (p : Int)), some (.ref D), some (.int A), some (.int B'), some (.int C'), some (.int D'), some (.ref f), none, none] ∧ Ex0 H2 H' ∧ H' f = some (.lst (((Stick.rI A B' C' D' p).map (fun x : Nat => if Stick.dI A B' C' x % (p : Int) = 0 then (2 : Int) else 1)).map V.int)), ?_, ?_⟩
    · refine ⟨_, rfl, _, rfl, by omega, by omega, ?_⟩
      refine lcR fm0 trivial (fun i acc _ => acc = (((List.range i).filter fun (x : Nat) => decide (MapM.f3 A B' C' D' x % (p : Int) = 0)).map (fun x : Nat => if Stick.dI A B' C' x % (p : Int) = 0 then (2 : Int) else 1)).map V.int) (fun _ _ => rfl) (fun F i acc H' hF hi e3 hAc hlen hp => ?_) (fun F H' acc hF e3 hAc hp => ?_)
      · have hip : i < p := by omega
        have bi : B 10 (0 + (i : Int)) := by rw [Int.zero_add]; exact b10 i (by omega)
        refine ⟨rfl, ?_⟩
        refine ⟨_, rfl, _, rfl, D, A, B', C', D', 0 + (i : Int), 1, rfl, Ex0.ap e3 hA1, B.mono bA (by decide), B.mono bB (by decide), B.mono bC (by decide), B.mono bD (by decide), B.mono bi (by decide), ⟨by decide, by decide⟩, .inl ⟨_, rfl, _, rfl, _, _, rfl, rfl, p0, rfl, _, rfl, ?_⟩⟩
        rw [show fv (A : Int) B' C' D' (0 + (i : Int)) 1 = MapM.f3 A B' C' D' i from by unfold fv MapM.f3; grind]
        have hd : ∀ z : Int, Stick.dI A B' C' i % (p : Int) = z → z = Stick.dI A B' C' i % (p : Int) := fun z h => h.symm
        have hfl : (List.range (i + 1)).filter (fun (x : Nat) => decide (MapM.f3 A B' C' D' x % (p : Int) = 0)) = (List.range i).filter (fun (x : Nat) => decide (MapM.f3 A B' C' D' x % (p : Int) = 0)) ++ (if MapM.f3 A B' C' D' i % (p : Int) = 0 then [i] else []) := by
          rw [List.range_succ, List.filter_append]
          congr 1
          by_cases g : MapM.f3 (A : Int) B' C' D' i % (p : Int) = 0
          · rw [if_pos g]; simp [g]
          · rw [if_neg g]; simp [g]
        refine iteE (fun g0 => ?_) (fun g => ?_)
        · have b3 : B 3 (3 : Int) := ⟨by decide, by decide⟩
          have b2 : B 3 (2 : Int) := ⟨by decide, by decide⟩
          have m1 := B.mul b3 bA
          have m2 := B.mul m1 bi
          have m3 := B.mul b2 bB
          have hz : 3 * (A : Int) * (0 + (i : Int)) * (0 + (i : Int)) + 2 * (B' : Int) * (0 + (i : Int)) + (C' : Int) = Stick.dI A B' C' i := by rw [Int.zero_add]; rfl
          refine ⟨_, rfl, _, _, rfl, rfl, mulB b3 bA (by decide), _, rfl, _, _, rfl, rfl, mulB m1 bi (by decide), _, rfl, _, _, rfl, rfl, mulB m2 bi (by decide), _, rfl, _, _, rfl, rfl, mulB b2 bB (by decide), _, rfl, _, _, rfl, rfl, mulB m3 bi (by decide), _, _, rfl, rfl, _, rfl, _, _, rfl, rfl, .inl ⟨_, rfl, _, rfl, _, _, rfl, rfl, p0, rfl, _, rfl, ?_⟩⟩
          rw [hz]
          refine iteE (fun g => ?_) (fun g => ?_)
          · refine cs_yes fm0 trivial hF e3 hAc hlen (by omega) (Fx.refl trivial) ?_
            rw [hp, hfl, if_pos g0, List.map_append, List.map_append]
            show _ ++ [V.int 2] = _ ++ [V.int (if Stick.dI A B' C' i % (p : Int) = 0 then (2 : Int) else 1)]
            rw [if_pos g]
          · refine cs_yes fm0 trivial hF e3 hAc hlen (by omega) (Fx.refl trivial) ?_
            rw [hp, hfl, if_pos g0, List.map_append, List.map_append]
            show _ ++ [V.int 1] = _ ++ [V.int (if Stick.dI A B' C' i % (p : Int) = 0 then (2 : Int) else 1)]
            rw [if_neg g]
        · refine cs_no fm0 trivial hF e3 hAc hlen (Fx.refl trivial) ?_
          rw [hp, hfl, if_neg g, List.append_nil]
      · refine ⟨F, rfl, e3, ?_⟩
        rw [hAc, hp]
        rfl
    rintro σ H3 ⟨f, rfl, e3, hf⟩
    refine ⟨fun σ H' => ∃ f, σ = [some (.ref t), some (.int (p : Int)), some (.ref D), some (.int A), some (.int B'), some (.int C'), some (.int D'), some (.ref f), none, none] ∧ Ex0 H2 H' ∧ H' f = some (.lst ((Stick.fnd A B' C' D' p).map V.int)), ?_, ?_⟩
    · have hrl : (Stick.rI (A : Int) B' C' D' p).length ≤ 500 := by
        have h1 := List.length_filter_le (fun (x : Nat) => decide (MapM.f3 A B' C' D' x % (p : Int) = 0)) (List.range p)
        rw [List.length_range] at h1
        unfold Stick.rI
        omega
      have hk : (if decide (V.int (A : Int) = V.int 0) = true then (1 : Int) else 0) = if (A : Int) = 0 then 1 else 0 := by
        by_cases g : (A : Int) = 0
        · rw [if_pos g, g]; rfl
        · rw [if_neg g, if_neg (fun z => g (V.int.inj (of_decide_eq_true z)))]
      refine ⟨_, rfl, _, rfl, _, _, rfl, rfl, _, rfl, iteD (fun g => ?_) (fun g => ?_)⟩
      all_goals
        refine ⟨sl1, fun o1 n1 => ⟨_, rfl, rfl, .inr ⟨_, rfl, ?_⟩⟩⟩
        rw [hk]
        refine ⟨o1, _, _, rfl, rfl, upd_same, ?_, ?_, ?_, fun o2 n2 => ⟨f, o2, _, _, rfl, rfl, Ex0.ap ((Ex0.new n1).trans (Ex0.new n2)) hf, upd_same, ?_, fun o3 n3 => ⟨o3, rfl, e3.trans ((Ex0.new n1).trans ((Ex0.new n2).trans (Ex0.new n3))), ?_⟩⟩⟩
        · split <;> omega
        · split <;> omega
        · rw [sizeLine_eq]; split <;> decide
        · rw [sizeLine_eq, List.length_map, List.length_map]
          by_cases g : (A : Int) = 0
          · rw [if_pos g]; show _ + 1 ≤ _; omega
          · rw [if_neg g]; show _ + 0 ≤ _; omega
      · rw [upd_same]
        unfold Stick.fnd
        rw [List.map_append, em A la, em B' lb]
        by_cases gA : (A : Int) = 0
        · rw [if_pos gA, if_pos gA, if_neg (by omega)]; rfl
        · rw [if_neg gA, if_neg gA]; rfl
      · rw [upd_same]
        unfold Stick.fnd
        rw [List.map_append, em A la, em B' lb]
        by_cases gA : (A : Int) = 0
        · rw [if_pos gA, if_pos gA, if_pos (by omega)]; rfl
        · rw [if_neg gA, if_neg gA]; rfl
    rintro σ H4 ⟨f4, rfl, e4, hf4⟩
    have hflen : (Stick.fnd A B' C' D' p).length ≤ 501 := by
      rw [Stick.fnd_len]
      have h1 := List.length_filter_le (fun (x : Nat) => decide (MapM.f3 A B' C' D' x % (p : Int) = 0)) (List.range p)
      rw [List.length_range] at h1
      unfold Stick.rI
      split <;> omega
    have hmem := fun z => Stick.fnd_mem (a := A) (b := B') (c := C') (d := D') (p := p) (z := z)
    generalize Stick.fnd A B' C' D' p = F at *
    refine ⟨_, rfl, Nat.zero_le _, fun o2 no2 => ?_⟩
    have e5 := Ex0.new (o := .lst []) no2
    have hf5 := Ex0.ap e5 hf4
    refine ⟨.list (F.map .int), .list (([] : List Int).map .int), .lst (SqL.of hf5) (dp_ints _), .lst (SqL.of upd_same) .nil, shaped_ints _, shaped_ints [], _, rfl, ?_⟩
    rw [PyData.eqv, show PyData.eqvAll (F.map PyData.int) (([] : List Int).map PyData.int) = decide (F = []) from eqv_ints F []]
    have e45 := e01.trans (e4.trans e5)
    generalize upd H4 o2 _ = H5 at *
    refine iteD (fun g => ?_) (fun g => ?_)
    · rw [if_pos (by rw [g]; rfl)] at hq
      exact hq _ rfl H5 e45
    have hl0 : F.length ≠ 0 := fun z => g (List.eq_nil_of_length_eq_zero z)
    rw [if_neg hl0] at hq
    refine ⟨_, rfl, f4, F, rfl, SqL.of hf5, Nat.pos_of_ne_zero hl0, fun m hm hle => ?_⟩
    refine ⟨rfl, _, rfl, iteE (fun g => ?_) (fun g => ?_)⟩
    · rw [if_neg (fun z => by have := hle 2 z; omega)] at hq
      refine ⟨_, rfl, f4, _, rfl, .inl (SqL.of hf5), rfl, _, rfl, iteE (fun g3 => ?_) (fun g3 => ?_)⟩
      · rw [List.length_map] at g3
        rw [if_pos (by omega)] at hq
        exact hq _ rfl H5 e45
      · rw [List.length_map] at g3
        rw [if_neg (by omega)] at hq
        exact hq _ rfl H5 e45
    · rw [if_pos (by rcases hmem m hm with h | h; exact absurd h g; rw [← h]; exact hm)] at hq
      refine ⟨_, rfl, f4, _, rfl, .inl (SqL.of hf5), rfl, _, rfl, iteE (fun g3 => ?_) (fun g3 => ?_)⟩
      · rw [List.length_map] at g3
        rw [if_pos (by omega)] at hq
        exact hq _ rfl H5 e45
      · rw [List.length_map] at g3
        rw [if_neg (by omega)] at hq
        exact hq _ rfl H5 e45
theorem ok_l_counts (T : Txt K mg C_Form) : Def P w K mg base 1 "_law_counts" ["_law_form", "_law_prime"] (sp_l_counts K C_Form) := by
  obtain ⟨f_, fd_, g_, F_⟩ := T.d_l_counts
  refine ⟨f_, fd_, g_, F_.kp, F_.binds (ps := ["_law_form", "_law_prime"]) (fun _ _ _ _ _ _ us hl => match us, hl with | [_, _], _ => rfl), ?_⟩
  refine F_.ok sc_l_counts (fun vs H Q E h => ?_) (fun cdv A outer s H vs Q E hr h => ?_)
  · first | (obtain ⟨rfl, _⟩ := h; rfl) | (obtain ⟨_, rfl, _⟩ := h; rfl) | (obtain ⟨_, _, rfl, _⟩ := h; rfl) | (obtain ⟨_, _, _, rfl, _⟩ := h; rfl) | (obtain ⟨_, _, _, _, rfl, _⟩ := h; rfl) | (obtain ⟨_, _, _, _, _, rfl, _⟩ := h; rfl) | (obtain ⟨_, _, _, _, _, _, rfl, _⟩ := h; rfl) | (obtain ⟨_, _, _, _, _, _, _, rfl, _⟩ := h; rfl) | (obtain ⟨_, _, _, _, _, _, _, _, rfl, _⟩ := h; rfl) | (obtain ⟨_, _, _, _, _, _, _, _, _, rfl, _⟩ := h; rfl) | (obtain ⟨_, _, _, _, _, _, _, _, _, _, rfl, _⟩ := h; rfl) | (obtain ⟨_, _, _, _, _, _, _, _, _, _, _, rfl, _⟩ := h; rfl) | (obtain ⟨_, _, _, _, _, _, _, _, _, _, _, _, rfl, _⟩ := h; rfl) | (obtain ⟨_, _, _, _, _, _, _, _, _, _, _, _, _, rfl, _⟩ := h; rfl) | (obtain ⟨_, _, _, _, _, _, _, _, _, _, _, _, _, _, rfl, _⟩ := h; rfl) | (obtain ⟨_, _, _, _, _, _, _, _, _, _, _, _, _, _, _, rfl, _⟩ := h; rfl) | (obtain ⟨_, _, _, _, _, _, _, _, _, _, _, _, _, _, _, _, rfl, _⟩ := h; rfl) | (obtain ⟨_, _, _, _, _, _, _, _, _, _, _, _, _, _, _, _, _, rfl, _⟩ := h; rfl) | (obtain ⟨_, _, _, _, _, _, _, _, _, _, _, _, _, _, _, _, _, _, rfl, _⟩ := h; rfl) | (obtain ⟨_, _, _, _, _, _, _, _, _, _, _, _, _, _, _, _, _, _, _, rfl, _⟩ := h; rfl) | (obtain ⟨_, _, _, _, _, _, _, _, _, _, _, _, _, _, _, _, _, _, _, _, rfl, _⟩ := h; rfl) | (obtain ⟨_, _, _, _, _, _, _, _, _, _, _, _, _, _, _, _, _, _, _, _, _, rfl, _⟩ := h; rfl) | (obtain ⟨_, _, _, _, _, _, _, _, _, _, _, _, _, _, _, _, _, _, _, _, _, _, rfl, _⟩ := h; rfl) | (obtain ⟨_, _, _, _, _, _, _, _, _, _, _, _, _, _, _, _, _, _, _, _, _, _, _, rfl, _⟩ := h; rfl)
  · obtain ⟨t, a, b, c, d, p, rfl, ht, hp, q⟩ := h
    refine ⟨_, (Evl.pss_cut (ps_asg (pe_lc (own := [("_law_one", 15)]) (g := (gName 15)) rfl sc_l_counts.nd (pi_tup (pv 0)) (blkOk_by (N := N_l_counts) (sc := defScope s_l_counts) (by decide +kernel)) (fun _ _ _ _ _ => (pg_name (i := 15) sc_l_counts.nd rfl (.inl rfl))) (fun _ _ _ _ _ => pts_nil) (fun _ _ _ _ _ => (pe_op op_mod (pe_callTy call_int1 (by rfl) T.b_int (by decide +kernel) (pa_cons (pv 15) pa_nil)) (pv 1)))) (pg_lst (by rfl) (pgs_cons (pg_name (i := 2) sc_l_counts.nd rfl (.inl rfl)) (pgs_cons (pg_name (i := 3) sc_l_counts.nd rfl (.inl rfl)) (pgs_cons (pg_name (i := 4) sc_l_counts.nd rfl (.inl rfl)) (pgs_cons (pg_name (i := 5) sc_l_counts.nd rfl (.inl rfl)) pgs_nil))))))
    (pss_cons (ps_asg (pe_tup (pa_cons pe_int (pa_cons pe_int pa_nil))) (pg_tup (by rfl) (pgs_cons (pg_name (i := 6) sc_l_counts.nd rfl (.inl rfl)) (pgs_cons (pg_name (i := 7) sc_l_counts.nd rfl (.inl rfl)) pgs_nil))))
    (pss_cons (ps_for PassesOwn.never rfl (pi_range1 (by rfl) T.b_range (pa_cons (pv 1) pa_nil)) (pg_name (i := 8) sc_l_counts.nd rfl (.inl rfl))
      (pss_one (ps_for PassesOwn.never rfl (pi_range1 (by rfl) T.b_range (pa_cons (pv 1) pa_nil)) (pg_name (i := 9) sc_l_counts.nd rfl (.inl rfl))
      (Evl.pss_cut (ps_par (i := 10) (j := 11) (by rfl) sc_l_counts.nd rfl rfl (by decide) rfl rfl (pa_cons (pe_op op_add (pe_op op_mulW (pe_op op_mulW (pv 3) (pv 8)) (pv 8)) (pe_op op_mulW (pe_op op_mulW (pv 5) (pv 9)) (pv 9))) (pa_cons (pe_op op_sub (pe_op op_sub pe_int (pe_op op_mulW (pe_op op_mulW (pv 2) (pv 8)) (pv 8))) (pe_op op_mulW (pe_op op_mulW (pv 4) (pv 9)) (pv 9))) pa_nil)) (by rfl))
    (Evl.pss_cut (ps_set (i := 12) sc_l_counts.nd rfl (.inl rfl) (pe_op op_sub (pe_op op_sub (pe_op op_sub pe_int (pe_op op_mulW (pe_op op_mulW (pe_op op_mulW (pv 2) (pv 4)) (pv 8)) (pv 8))) (pe_op op_mulW (pe_op op_mulW (pe_op op_mulW (pe_op op_mulW pe_int (pv 2)) (pv 5)) (pv 8)) (pv 9))) (pe_op op_mulW (pe_op op_mulW (pe_op op_mulW (pv 3) (pv 5)) (pv 9)) (pv 9))))
    (pss_one (ps_for PassesOwn.never rfl (pi_range1 (by rfl) T.b_range (pa_cons (pv 1) pa_nil)) (pg_name (i := 13) sc_l_counts.nd rfl (.inl rfl))
      (Evl.pss_cut (ps_set (i := 14) sc_l_counts.nd rfl (.inl rfl) (pe_lst (pa_cons (pe_op op_mod (pe_callTy call_int1 (by rfl) T.b_int (by decide +kernel) (pa_cons (pe_op op_add (pe_op op_mulW (pv 13) (pv 13)) (pv 12)) pa_nil)) (pv 1)) (pa_cons (pe_op op_mod (pe_callTy call_int1 (by rfl) T.b_int (by decide +kernel) (pa_cons (pe_op op_add (pe_op op_mulW (pe_op op_mulW pe_int (pv 13)) (pv 8)) (pv 10)) pa_nil)) (pv 1)) (pa_cons (pe_op op_mod (pe_callTy call_int1 (by rfl) T.b_int (by decide +kernel) (pa_cons (pe_op op_add (pe_op op_mulW (pe_op op_mulW pe_int (pv 13)) (pv 9)) (pv 11)) pa_nil)) (pv 1)) pa_nil)))))
    (pss_one (ps_par (i := 6) (j := 7) (by rfl) sc_l_counts.nd rfl rfl (by decide) rfl rfl (pa_cons (pe_op op_add (pv 6) (pe_callTy call_int1 (by rfl) T.b_int (by decide +kernel) (pa_cons (pe_cmpR (op_eqD hr.units) (pv 14) (pe_lst (pa_cons (pv 13) (pa_cons (pv 8) (pa_cons (pv 9) pa_nil)))) (nomark _)) pa_nil))) (pa_cons (pe_op op_add (pv 7) (pe_callTy call_int1 (by rfl) T.b_int (by decide +kernel) (pa_cons (pe_cmpR (op_eqD hr.units) (pv 14) (pe_lst (pa_cons pe_int (pa_cons pe_int (pa_cons pe_int pa_nil)))) (nomark _)) pa_nil))) pa_nil)) (by rfl)))))))))))
    (pss_one (ps_ret (pe_tup (pa_cons (pv 6) (pa_cons (pv 7) pa_nil)))))))), ?_⟩
    have p0 : (0 : Int) < (p : Int) := by omega
    have pn : (p : Int) ≠ 0 := by omega
    have inst : NeZero p := ⟨by omega⟩
    obtain ⟨A, hA'⟩ : ∃ n : Nat, n = Stick.nr p a := ⟨_, rfl⟩
    obtain ⟨B', hB'⟩ : ∃ n : Nat, n = Stick.nr p b := ⟨_, rfl⟩
    obtain ⟨C', hC'⟩ : ∃ n : Nat, n = Stick.nr p c := ⟨_, rfl⟩
    obtain ⟨D', hD'⟩ : ∃ n : Nat, n = Stick.nr p d := ⟨_, rfl⟩
    have hmod : ∀ z : Int, z % (p : Int) = ((Stick.nr p z : Nat) : Int) := fun z => (Int.toNat_of_nonneg (Int.emod_nonneg z pn)).symm
    have la : A < p := by rw [hA']; exact Stick.nr_lt a
    have lb : B' < p := by rw [hB']; exact Stick.nr_lt b
    have lc : C' < p := by rw [hC']; exact Stick.nr_lt c
    have ld : D' < p := by rw [hD']; exact Stick.nr_lt d
    have hcM := Stick.cM_kn hp a b c d
    rw [← hA', ← hB', ← hC', ← hD', Stick.cM_loops] at hcM
    rw [← hcM] at q
    have bs : ∀ n : Nat, n < p → B 10 (n : Int) := fun n hn => ⟨by show _ < 1024; omega, by decide⟩
    have bA := bs A la
    have bB := bs B' lb
    have bC := bs C' lc
    have bD := bs D' ld
    refine ⟨fun σ H' => σ = [some (.ref t), some (.int (p : Int)), some (.int (A : Int)), some (.int (B' : Int)), some (.int (C' : Int)), some (.int (D' : Int)), none, none, none, none, none, none, none, none, none, none] ∧ Ex0 H H', ?_, ?_⟩
    · refine ⟨_, rfl, t, rfl, ⟨_, SqT.of ht⟩, ?_⟩
      refine lcT fm0 trivial (SqT.of ht) (fun z => z) (fun i acc _ => acc = (([(A : Int), (B' : Int), (C' : Int), (D' : Int)] : List Int).take i).map V.int) (fun _ _ => rfl) (fun D i v acc H' hD hv e hA hlen hp => ?_) (fun D H1 acc hD e hA hp' => ?_)
      · obtain ⟨n, hn, rfl⟩ := get_int hv
        have hi : i < 4 := (List.getElem?_eq_some_iff.mp hn).1
        refine ⟨rfl, ?_⟩
        refine ⟨_, rfl, .inl ⟨_, rfl, _, rfl, _, _, rfl, rfl, p0, ?_⟩⟩
        refine cs_yes fm0 trivial hD e hA hlen (by omega) (Fx.refl trivial) ?_
        show acc ++ [V.int (n % (p : Int))] = _
        rw [hp, hmod]
        match i, hn with
        | 0, hn => rw [← Option.some.inj hn, ← hA']; rfl
        | 1, hn => rw [← Option.some.inj hn, ← hB']; rfl
        | 2, hn => rw [← Option.some.inj hn, ← hC']; rfl
        | 3, hn => rw [← Option.some.inj hn, ← hD']; rfl
      have hp2 : acc = ([(A : Int), (B' : Int), (C' : Int), (D' : Int)] : List Int).map V.int := hp'
      subst hp2
      exact ⟨D, _, rfl, SqL.of hA, rfl, _, _, rfl, _, _, rfl, _, _, rfl, _, _, rfl, rfl, rfl, e⟩
    rintro σ H1 ⟨rfl, e1⟩
    refine ⟨sl2, fun o1 n1 => ⟨o1, _, rfl, SqT.of upd_same, rfl, _, _, rfl, _, _, rfl, rfl, ?_⟩⟩
    have e2 := e1.trans (Ex0.new (o := .tup [.int 0, .int 0]) n1)
    generalize upd H1 o1 _ = H2 at *
    refine ⟨_, rfl, _, rfl, by omega, by omega, ?_⟩
    refine for_range (lo := 0) (n := (p : Int).toNat) (fun i σ H' => ∃ y8 y9 y10 y11 y12 y13 y14, σ = [some (.ref t), some (.int (p : Int)), some (.int (A : Int)), some (.int (B' : Int)), some (.int (C' : Int)), some (.int (D' : Int)), some (.int (((Stick.rX A B' C' D' p i).1 : Nat) : Int)), some (.int (((Stick.rX A B' C' D' p i).2 : Nat) : Int)), y8, y9, y10, y11, y12, y13, y14, none] ∧ Ex0 H H') ⟨none, none, none, none, none, none, none, rfl, e2⟩ ?_ ?_
    · rintro x σ H3 hx ⟨y8, y9, y10, y11, y12, y13, y14, rfl, e3⟩
      have hxp : x < p := by omega
      rw [Int.zero_add]
      refine ⟨_, rfl, _, rfl, by omega, by omega, ?_⟩
      refine for_range (lo := 0) (n := (p : Int).toNat) (fun i σ H' => ∃ y9 y10 y11 y12 y13 y14, σ = [some (.ref t), some (.int (p : Int)), some (.int (A : Int)), some (.int (B' : Int)), some (.int (C' : Int)), some (.int (D' : Int)), some (.int (((Stick.rY A B' C' D' p x (Stick.rX A B' C' D' p x) i).1 : Nat) : Int)), some (.int (((Stick.rY A B' C' D' p x (Stick.rX A B' C' D' p x) i).2 : Nat) : Int)), some (.int (x : Int)), y9, y10, y11, y12, y13, y14, none] ∧ Ex0 H H') ⟨y9, y10, y11, y12, y13, y14, rfl, e3⟩ ?_ ?_
      · rintro y σ H4 hy ⟨y9', y10', y11', y12', y13', y14', rfl, e4⟩
        have hyp : y < p := by omega
        have bx := bs x hxp
        have by' := bs y hyp
        generalize hR : Stick.rY A B' C' D' p x (Stick.rX A B' C' D' p x) y = R at *
        rw [Int.zero_add]
        have hi0 : ∀ z : Int, z = (B' : Int) * x * x + D' * y * y → z = (B' : Int) * x * x + D' * y * y := fun z h => h
        refine ⟨fun σ H' => σ = [some (.ref t), some (.int (p : Int)), some (.int (A : Int)), some (.int (B' : Int)), some (.int (C' : Int)), some (.int (D' : Int)), some (.int (R.1 : Nat)), some (.int (R.2 : Nat)), some (.int (x : Int)), some (.int (y : Int)), some (.int ((B' : Int) * x * x + D' * y * y)), some (.int (0 - (A : Int) * x * x - C' * y * y)), y12', y13', y14', none] ∧ H' = H4, ?_, ?_⟩
        · exact ⟨_, rfl, _, rfl, _, _, rfl, rfl, mulB (by with_reducible assumption) (by with_reducible assumption) (by decide), _, rfl, _, _, rfl, rfl, mulB (B.mul (by with_reducible assumption) (by with_reducible assumption)) (by with_reducible assumption) (by decide), _, rfl, _, rfl, _, _, rfl, rfl, mulB (by with_reducible assumption) (by with_reducible assumption) (by decide), _, rfl, _, _, rfl, rfl, mulB (B.mul (by with_reducible assumption) (by with_reducible assumption)) (by with_reducible assumption) (by decide), _, _, rfl, rfl, _, rfl, _, rfl, _, _, rfl, rfl, mulB (by with_reducible assumption) (by with_reducible assumption) (by decide), _, rfl, _, _, rfl, rfl, mulB (B.mul (by with_reducible assumption) (by with_reducible assumption)) (by with_reducible assumption) (by decide), _, _, rfl, rfl, _, rfl, _, rfl, _, _, rfl, rfl, mulB (by with_reducible assumption) (by with_reducible assumption) (by decide), _, rfl, _, _, rfl, rfl, mulB (B.mul (by with_reducible assumption) (by with_reducible assumption)) (by with_reducible assumption) (by decide), _, _, rfl, rfl, _, _, rfl, rfl, rfl⟩
        rintro σ H5 ⟨rfl, rfl⟩
        refine ⟨fun σ H' => σ = [some (.ref t), some (.int (p : Int)), some (.int (A : Int)), some (.int (B' : Int)), some (.int (C' : Int)), some (.int (D' : Int)), some (.int (R.1 : Nat)), some (.int (R.2 : Nat)), some (.int (x : Int)), some (.int (y : Int)), some (.int ((B' : Int) * x * x + D' * y * y)), some (.int (0 - (A : Int) * x * x - C' * y * y)), some (.int (0 - (A : Int) * C' * x * x - 2 * A * D' * x * y - B' * D' * y * y)), y13', y14', none] ∧ H' = H5, ?_, ?_⟩
        · exact ⟨_, rfl, _, rfl, _, _, rfl, rfl, mulB (by with_reducible assumption) (by with_reducible assumption) (by decide), _, rfl, _, _, rfl, rfl, mulB (B.mul (by with_reducible assumption) (by with_reducible assumption)) (by with_reducible assumption) (by decide), _, rfl, _, _, rfl, rfl, mulB (B.mul (B.mul (by with_reducible assumption) (by with_reducible assumption)) (by with_reducible assumption)) (by with_reducible assumption) (by decide), _, _, rfl, rfl, _, rfl, _, _, rfl, rfl, mulB (B.lit (by decide)) (by with_reducible assumption) (by decide), _, rfl, _, _, rfl, rfl, mulB (B.mul (B.lit (by decide)) (by with_reducible assumption)) (by with_reducible assumption) (by decide), _, rfl, _, _, rfl, rfl, mulB (B.mul (B.mul (B.lit (by decide)) (by with_reducible assumption)) (by with_reducible assumption)) (by with_reducible assumption) (by decide), _, rfl, _, _, rfl, rfl, mulB (B.mul (B.mul (B.mul (B.lit (by decide)) (by with_reducible assumption)) (by with_reducible assumption)) (by with_reducible assumption)) (by with_reducible assumption) (by decide), _, _, rfl, rfl, _, rfl, _, rfl, _, _, rfl, rfl, mulB (by with_reducible assumption) (by with_reducible assumption) (by decide), _, rfl, _, _, rfl, rfl, mulB (B.mul (by with_reducible assumption) (by with_reducible assumption)) (by with_reducible assumption) (by decide), _, rfl, _, _, rfl, rfl, mulB (B.mul (B.mul (by with_reducible assumption) (by with_reducible assumption)) (by with_reducible assumption)) (by with_reducible assumption) (by decide), _, _, rfl, rfl, rfl, rfl⟩
        rintro σ H6 ⟨rfl, rfl⟩
        obtain ⟨hgh, ehgh⟩ : ∃ z : Int, z = (B' : Int) * x * x + D' * y * y := ⟨_, rfl⟩
        obtain ⟨low, elow⟩ : ∃ z : Int, z = 0 - (A : Int) * x * x - C' * y * y := ⟨_, rfl⟩
        obtain ⟨pln, epln⟩ : ∃ z : Int, z = 0 - (A : Int) * C' * x * x - 2 * A * D' * x * y - B' * D' * y * y := ⟨_, rfl⟩
        rw [← ehgh, ← elow, ← epln]
        refine ⟨_, rfl, _, rfl, by omega, by omega, ?_⟩
        refine for_range (lo := 0) (n := (p : Int).toNat) (fun i σ H' => ∃ y13 y14, σ = [some (.ref t), some (.int (p : Int)), some (.int (A : Int)), some (.int (B' : Int)), some (.int (C' : Int)), some (.int (D' : Int)), some (.int (((Stick.rU A B' C' D' p x y R i).1 : Nat) : Int)), some (.int (((Stick.rU A B' C' D' p x y R i).2 : Nat) : Int)), some (.int (x : Int)), some (.int (y : Int)), some (.int hgh), some (.int low), some (.int pln), y13, y14, none] ∧ Ex0 H H') ⟨y13', y14', rfl, e4⟩ ?_ ?_
        · rintro u σ H6 hu ⟨y13, y14, rfl, e6⟩
          have hup : u < p := by omega
          rw [Int.zero_add]
          have bu := bs u hup
          have b2 : B 3 (2 : Int) := ⟨by decide, by decide⟩
          have b2u := B.mul b2 bu
          obtain ⟨s1, s2⟩ := Stick.su_int (x := x) (y := y) (u := u) la lb lc ld (Stick.rU A B' C' D' p x y R u) (((u : Int) * u + pln) % (p : Int)) ((2 * (u : Int) * x + hgh) % (p : Int)) ((2 * (u : Int) * y + low) % (p : Int)) (by rw [epln]) (by rw [ehgh]) (by rw [elow])
          have hnext := Stick.rU_succ A B' C' D' p x y R u
          generalize Stick.rU A B' C' D' p x y R u = R2 at *
          generalize hi0 : ((u : Int) * u + pln) % (p : Int) = i0 at *
          generalize hi1 : (2 * (u : Int) * x + hgh) % (p : Int) = i1 at *
          generalize hi2 : (2 * (u : Int) * y + low) % (p : Int) = i2 at *
          refine ⟨fun σ H' => ∃ sq, σ = [some (.ref t), some (.int (p : Int)), some (.int (A : Int)), some (.int (B' : Int)), some (.int (C' : Int)), some (.int (D' : Int)), some (.int (R2.1 : Nat)), some (.int (R2.2 : Nat)), some (.int (x : Int)), some (.int (y : Int)), some (.int hgh), some (.int low), some (.int pln), some (.int (u : Int)), some (.ref sq), none] ∧ Ex0 H H' ∧ H' sq = some (.lst (([i0, i1, i2] : List Int).map V.int)), ?_, ?_⟩
          · refine ⟨_, rfl, _, rfl, _, _, rfl, rfl, mulB bu bu (by decide), _, rfl, _, _, rfl, rfl, .inl ⟨_, rfl, _, rfl, _, _, rfl, rfl, p0, ?_⟩⟩
            refine ⟨_, rfl, _, _, rfl, rfl, mulB b2 bu (by decide), _, rfl, _, _, rfl, rfl, mulB b2u bx (by decide), _, rfl, _, _, rfl, rfl, .inl ⟨_, rfl, _, rfl, _, _, rfl, rfl, p0, ?_⟩⟩
            refine ⟨_, rfl, _, _, rfl, rfl, mulB b2 bu (by decide), _, rfl, _, _, rfl, rfl, mulB b2u by' (by decide), _, rfl, _, _, rfl, rfl, .inl ⟨_, rfl, _, rfl, _, _, rfl, rfl, p0, sl3, fun o no => ?_⟩⟩
            exact ⟨o, rfl, e6.trans (Ex0.new no), by rw [← hi0, ← hi1, ← hi2]; exact upd_same⟩
          rintro σ H7 ⟨sq, rfl, e7, hsq⟩
          have hb1 : PyData.eqv (.list (([i0, i1, i2] : List Int).map PyData.int)) (.list (([(u : Int), (x : Int), (y : Int)] : List Int).map PyData.int)) = decide ([i0, i1, i2] = [(u : Int), (x : Int), (y : Int)]) := by rw [PyData.eqv, eqv_ints]
          have hb2 : PyData.eqv (.list (([i0, i1, i2] : List Int).map PyData.int)) (.list (([0, 0, 0] : List Int).map PyData.int)) = decide ([i0, i1, i2] = [(0 : Int), 0, 0]) := by rw [PyData.eqv, eqv_ints]
          rw [← hb1] at s1
          rw [← hb2] at s2
          refine ⟨_, rfl, _, rfl, _, rfl, _, rfl, _, rfl, sl3, fun o1 n1 => ?_⟩
          have x1 := Ex0.new (o := .lst [.int (u : Int), .int (x : Int), .int (y : Int)]) n1
          refine ⟨.list (([i0, i1, i2] : List Int).map .int), .list (([(u : Int), (x : Int), (y : Int)] : List Int).map .int), .lst (SqL.of (Ex0.ap x1 hsq)) (dp_ints [i0, i1, i2]), .lst (SqL.of upd_same) (dp_ints [(u : Int), (x : Int), (y : Int)]), shaped_ints _, shaped_ints [(u : Int), (x : Int), (y : Int)], .inr ⟨_, rfl, _, _, rfl, rfl, ?_⟩⟩
          refine ⟨_, rfl, _, rfl, sl3, fun o2 n2 => ?_⟩
          have x2 := Ex0.new (o := .lst [.int 0, .int 0, .int 0]) n2
          refine ⟨.list (([i0, i1, i2] : List Int).map .int), .list (([0, 0, 0] : List Int).map .int), .lst (SqL.of (Ex0.ap (x1.trans x2) hsq)) (dp_ints [i0, i1, i2]), .lst (SqL.of upd_same) (dp_ints [0, 0, 0]), shaped_ints _, shaped_ints [0, 0, 0], .inr ⟨_, rfl, _, _, rfl, rfl, ?_⟩⟩
          refine ⟨_, _, rfl, some (.int (u : Int)), some (.ref sq), ?_, e7.trans (x1.trans x2)⟩
          rw [hnext, s1, s2]
          rfl
        · rintro σ H6 ⟨y13, y14, rfl, e6⟩
          refine ⟨some (.int (y : Int)), some (.int hgh), some (.int low), some (.int pln), y13, y14, ?_, e6⟩
          rw [Stick.rY_succ, hR]
          rfl
      · rintro σ H4 ⟨y9', y10', y11', y12', y13', y14', rfl, e4⟩
        refine ⟨some (.int (x : Int)), y9', y10', y11', y12', y13', y14', ?_, e4⟩
        rw [Stick.rX_succ]
        rfl
    · rintro σ H4 ⟨y8, y9', y10', y11', y12', y13', y14', rfl, e4⟩
      refine ⟨_, rfl, _, rfl, sl2, fun o no => ?_⟩
      exact q o _ (e4.trans (Ex0.new no)) upd_same
theorem ok_l_drawn (T : Txt K mg C_Form) : Def P w K mg base 3 "_law_drawn" ["_law_crock_here"] (sp_l_drawn K C_Form) := by
  obtain ⟨f_, fd_, g_, F_⟩ := T.d_l_drawn
  obtain ⟨f_l_choose, fd_l_choose, g_l_choose, k_l_choose, b_l_choose, G_l_choose⟩ := (ok_l_choose (P := P) (w := w) (base := base) T)
  obtain ⟨f_l_lines, fd_l_lines, g_l_lines, k_l_lines, b_l_lines, G_l_lines⟩ := (ok_l_lines (P := P) (w := w) (base := base) T)
  obtain ⟨f_l_scoop, fd_l_scoop, g_l_scoop, k_l_scoop, b_l_scoop, G_l_scoop⟩ := (ok_l_scoop (P := P) (w := w) (base := base) T)
  refine ⟨f_, fd_, g_, F_.kp, F_.binds (ps := ["_law_crock_here"]) (fun _ _ _ _ _ _ us hl => match us, hl with | [_], _ => rfl), ?_⟩
  refine F_.ok sc_l_drawn (fun vs H Q E h => ?_) (fun cdv A outer s H vs Q E hr h => ?_)
  · first | (obtain ⟨rfl, _⟩ := h; rfl) | (obtain ⟨_, rfl, _⟩ := h; rfl) | (obtain ⟨_, _, rfl, _⟩ := h; rfl) | (obtain ⟨_, _, _, rfl, _⟩ := h; rfl) | (obtain ⟨_, _, _, _, rfl, _⟩ := h; rfl) | (obtain ⟨_, _, _, _, _, rfl, _⟩ := h; rfl) | (obtain ⟨_, _, _, _, _, _, rfl, _⟩ := h; rfl) | (obtain ⟨_, _, _, _, _, _, _, rfl, _⟩ := h; rfl) | (obtain ⟨_, _, _, _, _, _, _, _, rfl, _⟩ := h; rfl) | (obtain ⟨_, _, _, _, _, _, _, _, _, rfl, _⟩ := h; rfl) | (obtain ⟨_, _, _, _, _, _, _, _, _, _, rfl, _⟩ := h; rfl) | (obtain ⟨_, _, _, _, _, _, _, _, _, _, _, rfl, _⟩ := h; rfl) | (obtain ⟨_, _, _, _, _, _, _, _, _, _, _, _, rfl, _⟩ := h; rfl) | (obtain ⟨_, _, _, _, _, _, _, _, _, _, _, _, _, rfl, _⟩ := h; rfl) | (obtain ⟨_, _, _, _, _, _, _, _, _, _, _, _, _, _, rfl, _⟩ := h; rfl) | (obtain ⟨_, _, _, _, _, _, _, _, _, _, _, _, _, _, _, rfl, _⟩ := h; rfl) | (obtain ⟨_, _, _, _, _, _, _, _, _, _, _, _, _, _, _, _, rfl, _⟩ := h; rfl) | (obtain ⟨_, _, _, _, _, _, _, _, _, _, _, _, _, _, _, _, _, rfl, _⟩ := h; rfl) | (obtain ⟨_, _, _, _, _, _, _, _, _, _, _, _, _, _, _, _, _, _, rfl, _⟩ := h; rfl) | (obtain ⟨_, _, _, _, _, _, _, _, _, _, _, _, _, _, _, _, _, _, _, rfl, _⟩ := h; rfl) | (obtain ⟨_, _, _, _, _, _, _, _, _, _, _, _, _, _, _, _, _, _, _, _, rfl, _⟩ := h; rfl) | (obtain ⟨_, _, _, _, _, _, _, _, _, _, _, _, _, _, _, _, _, _, _, _, _, rfl, _⟩ := h; rfl) | (obtain ⟨_, _, _, _, _, _, _, _, _, _, _, _, _, _, _, _, _, _, _, _, _, _, rfl, _⟩ := h; rfl) | (obtain ⟨_, _, _, _, _, _, _, _, _, _, _, _, _, _, _, _, _, _, _, _, _, _, _, rfl, _⟩ := h; rfl)
  · obtain ⟨cr, rfl, hv, q⟩ := h
    refine ⟨_, (Evl.pss_cut (ps_asg (pe_tup (pa_cons (pe_call G_l_choose (hr.mono (by decide)) (by rfl) g_l_choose k_l_choose b_l_choose .nil pass0 (pa_cons (pv 0) (pa_cons (pe_lst (pa_cons pe_int (pa_cons pe_int (pa_cons (pe_op op_pow pe_int pe_int) pa_nil)))) pa_nil))) (pa_cons (pe_call G_l_scoop (hr.mono (by decide)) (by rfl) g_l_scoop k_l_scoop b_l_scoop .nil pass0 (pa_cons (pv 0) (pa_cons pe_int pa_nil))) pa_nil))) (pg_tup (by rfl) (pgs_cons (pg_name (i := 1) sc_l_drawn.nd rfl (.inr rfl)) (pgs_cons (pg_name (i := 2) sc_l_drawn.nd rfl (.inr rfl)) pgs_nil))))
    (Evl.pss_cut (ps_setLc (i := 3) (own := [("_law_at_here", 4)]) (g := (gName 4)) rfl sc_l_drawn.nd rfl rfl (sw_true rfl rfl rfl (by decide +kernel)) (pi_range1 (by rfl) T.b_range (pa_cons pe_int pa_nil)) (blkOk_by (N := N_l_drawn) (sc := defScope s_l_drawn) (by decide +kernel)) (fun _ _ _ _ _ => (pg_name (i := 4) sc_l_drawn.nd rfl (.inl rfl))) (fun _ _ _ _ _ => pts_nil) (fun _ _ _ _ _ => (pe_op op_sub (pe_call G_l_scoop (hr.mono (by decide)) (by rfl) g_l_scoop k_l_scoop b_l_scoop .nil pass0 (pa_cons (pv 0) (pa_cons (pe_op op_add (pe_op op_mulW pe_int (pv 1)) pe_int) pa_nil))) (pv 1))))
    (pss_cons (ps_if (pt_cmpR op_eq (pv 2) pe_int (nomark _))
      (pss_one (ps_ret (pe_callTy call_tuple_of (by rfl) T.b_tuple (by decide +kernel) (pa_cons (pe_call G_l_lines (hr.mono (by decide)) (by rfl) g_l_lines k_l_lines b_l_lines .nil pass0 (pa_cons (pe_lst (pa_cons (pe_slice sl_list (pv 3) po_none (po_some pe_int)) (pa_cons (pe_slice sl_list (pv 3) (po_some pe_int) (po_some pe_int)) (pa_cons (pe_slice sl_list (pv 3) (po_some pe_int) po_none) pa_nil)))) pa_nil)) pa_nil))))
      pss_nil)
    (pss_cons (ps_if (pt_cmpR op_eq (pv 2) pe_int (nomark _))
      (pss_one (ps_ret (pe_callTy call_tuple_of (by rfl) T.b_tuple (by decide +kernel) (pa_cons (pe_call G_l_lines (hr.mono (by decide)) (by rfl) g_l_lines k_l_lines b_l_lines .nil pass0 (pa_cons (pe_lst (pa_cons (pe_slice sl_list (pv 3) po_none (po_some pe_int)) (pa_cons (pe_slice sl_list (pv 3) po_none (po_some pe_int)) (pa_cons (pe_slice sl_list (pv 3) (po_some pe_int) po_none) pa_nil)))) pa_nil)) pa_nil))))
      pss_nil)
    (pss_one (ps_ret (pe_callTy call_tuple_of (by rfl) T.b_tuple (by decide +kernel) (pa_cons (pe_lc (own := [("_law_one", 5)]) (g := (gName 5)) rfl sc_l_drawn.nd (pi_list (pe_slice sl_list (pv 3) po_none (po_some pe_int))) (blkOk_by (N := N_l_drawn) (sc := defScope s_l_drawn) (by decide +kernel)) (fun _ _ _ _ _ => (pg_name (i := 5) sc_l_drawn.nd rfl (.inl rfl))) (fun _ _ _ _ _ => pts_nil) (fun _ _ _ _ _ => (pe_op op_mulW (pv 5) (pe_ifExp (PW.pt (pw_and (pt_cmpR op_eq (pv 2) pe_int (nomark _)) (pw_and1 (pt_cmpR op_eq (pv 1) pe_int (nomark _))))) pe_int pe_int)))) pa_nil)))))))), ?_⟩
    refine ⟨fun σ H' => ∃ m w : Int, σ = [some (.ref cr), some (.int m), some (.int w), none, none, none] ∧ Fv cr H H' ∧ (m = 2 ∨ m = 9 ∨ m = 100000000), ?_, ?_⟩
    · refine ⟨_, rfl, _, _, rfl, rfl, ⟨by decide, by decide, by decide⟩, sl3, fun l nl => ?_⟩
      have f1 := fv_new (o := .lst [.int 2, .int 9, .int (10 ^ (8 : Int).toNat)]) hv nl
      refine ⟨cr, l, [.int 2, .int 9, .int (10 ^ (8 : Int).toNat)], rfl, f1.1, upd_same, fv_ne hv nl, by simp, by show 3 ≤ 1000; decide, fun y H1 hy e1 => ?_⟩
      refine ⟨_, rfl, cr, 4, rfl, e1.1, by decide, by decide, fun w H2 w0 w1 e2 => ⟨sl2, fun o no => ?_⟩⟩
      have f2 := f1.trans (e1.trans e2)
      have f3 := f2.trans (fv_new (o := .tup [y, .int w]) f2.1 no)
      simp only [List.mem_cons, List.mem_nil_iff, or_false] at hy
      rcases hy with rfl | rfl | rfl
      · exact ⟨o, _, rfl, SqT.of upd_same, rfl, _, _, rfl, _, _, rfl, rfl, 2, w, rfl, f3, .inl rfl⟩
      · exact ⟨o, _, rfl, SqT.of upd_same, rfl, _, _, rfl, _, _, rfl, rfl, 9, w, rfl, f3, .inr (.inl rfl)⟩
      · exact ⟨o, _, rfl, SqT.of upd_same, rfl, _, _, rfl, _, _, rfl, rfl, 100000000, w, rfl, f3, .inr (.inr rfl)⟩
    rintro σ H1 ⟨m, w, rfl, f1, hm⟩
    have hmb : 2 ≤ m ∧ m ≤ 100000000 := by omega
    refine ⟨fun σ H' => ∃ (l : Addr) (n1 n2 n3 n4 n5 n6 : Int), σ = [some (.ref cr), some (.int m), some (.int w), some (.ref l), none, none] ∧ Fv cr H H' ∧ l ≠ cr ∧ H' l = some (.lst (([n1, n2, n3, n4, n5, n6] : List Int).map V.int)) ∧ ∀ z ∈ [n1, n2, n3, n4, n5, n6], z.natAbs ≤ 100000000, ?_, ?_⟩
    · refine ⟨_, rfl, by decide, by decide, ?_⟩
      refine lcR (fmV cr) f1.1 (fun i acc _ => ∃ ns : List Int, acc = ns.map V.int ∧ ns.length = i ∧ ∀ n ∈ ns, n.natAbs ≤ 100000000) (fun _ _ => ⟨[], rfl, rfl, fun _ h => by cases h⟩) (fun D i acc H3 hD hi e3 hA hlen hp => ?_) (fun D H3 acc hD e3 hA hp => ?_)
      · have hi6 : i < 6 := hi
        obtain ⟨ns, rfl, hl, hb⟩ := hp
        refine ⟨rfl, _, rfl, _, rfl, _, _, rfl, rfl, mulB (a := 2) (b := 30) ⟨by decide, by decide⟩ ⟨Nat.lt_of_le_of_lt (show m.natAbs ≤ 100000000 by omega) (by decide), by decide⟩ (by decide), _, _, rfl, rfl, cr, 2 * m + 1, rfl, e3.1, by omega, ?_, fun v H4 v0 v1 e4 => ⟨_, rfl, _, _, rfl, rfl, ?_⟩⟩
        · have : (2 * m + 1) < 1000000000 := by omega
          exact Int.lt_trans this (by decide)
        refine cs_yes (fmV cr) f1.1 hD e3 hA hlen (by omega) e4 ⟨ns ++ [v - m], by rw [List.map_append]; rfl, by rw [List.length_append, hl]; rfl, fun n hn => ?_⟩
        rcases List.mem_append.mp hn with h | h
        · exact hb n h
        · rw [List.mem_singleton] at h
          omega
      · obtain ⟨ns, rfl, hl, hb⟩ := hp
        have hl6 : ns.length = 6 := hl
        match ns, hl6 with
        | [n1, n2, n3, n4, n5, n6], _ => exact ⟨D, n1, n2, n3, n4, n5, n6, rfl, f1.trans e3, (fmV cr).fresh f1.1 hD, hA, hb⟩
    rintro σ H2 ⟨l, n1, n2, n3, n4, n5, n6, rfl, f2, hlc, hl, hb⟩
    have c1 : cutV (([n1, n2, n3, n4, n5, n6] : List Int).map V.int) none (some 2) = [.int n1, .int n2] := rfl
    have c2 : cutV (([n1, n2, n3, n4, n5, n6] : List Int).map V.int) (some 2) (some 4) = [.int n3, .int n4] := rfl
    have c3 : cutV (([n1, n2, n3, n4, n5, n6] : List Int).map V.int) (some 4) none = [.int n5, .int n6] := rfl
    have c4 : cutV (([n1, n2, n3, n4, n5, n6] : List Int).map V.int) none (some 4) = [.int n1, .int n2, .int n3, .int n4] := rfl
    have fin : ∀ (x1 y1 x2 y2 x3 y3 : Int), (∀ z ∈ [(x1, y1), (x2, y2), (x3, y3)], z.1.natAbs ≤ 100000000 ∧ z.2.natAbs ≤ 100000000) → ∃ a b c d, lnP [(x1, y1), (x2, y2), (x3, y3)] = [a, b, c, d] ∧ ∀ z ∈ [a, b, c, d], z.natAbs ≤ 8000000000000000000000000 := by
      intro x1 y1 x2 y2 x3 y3 h
      have h1 := lnP_len [(x1, y1), (x2, y2), (x3, y3)] 3 (Nat.le_refl 3)
      have h2 := lnP_le h 3 (Nat.le_refl 3)
      have e : ([(x1, y1), (x2, y2), (x3, y3)] : List (Int × Int)).take 3 = [(x1, y1), (x2, y2), (x3, y3)] := rfl
      rw [e] at h1 h2
      generalize lnP [(x1, y1), (x2, y2), (x3, y3)] = L at *
      match L, h1 with
      | [a, b, c, d], _ => exact ⟨a, b, c, d, rfl, h2⟩
    have hn := fun z hz => hb z hz
    have b1 := hb n1 (by simp)
    have b2 := hb n2 (by simp)
    have b3 := hb n3 (by simp)
    have b4 := hb n4 (by simp)
    have b5 := hb n5 (by simp)
    have b6 := hb n6 (by simp)
    refine ⟨_, rfl, rfl, _, rfl, iteE (fun g => ?_) (fun g => ?_)⟩
    · refine ⟨_, rfl, _, rfl, l, _, rfl, SqL.of hl, fun s1 k1 => ?_⟩
      rw [c1] at *
      have x1 := Ex0.new (o := .lst [.int n1, .int n2]) k1
      refine ⟨_, rfl, _, rfl, _, rfl, l, _, rfl, SqL.of (Ex0.ap x1 hl), fun s2 k2 => ?_⟩
      rw [c2] at *
      have x2 := Ex0.new (o := .lst [.int n3, .int n4]) k2
      refine ⟨_, rfl, _, rfl, l, _, rfl, SqL.of (Ex0.ap (x1.trans x2) hl), fun s3 k3 => ?_⟩
      rw [c3] at *
      have x3 := Ex0.new (o := .lst [.int n5, .int n6]) k3
      refine ⟨sl3, fun o no => ?_⟩
      have x4 := Ex0.new (o := .lst [.ref s1, .ref s2, .ref s3]) no
      have hbz : ∀ z ∈ [(n1, n2), (n3, n4), (n5, n6)], z.1.natAbs ≤ 100000000 ∧ z.2.natAbs ≤ 100000000 := by
        intro z hz
        simp only [List.mem_cons, List.mem_nil_iff, or_false] at hz
        rcases hz with rfl | rfl | rfl
        · exact ⟨b1, b2⟩
        · exact ⟨b3, b4⟩
        · exact ⟨b5, b6⟩
      refine ⟨o, s1, s2, s3, n1, n2, n3, n4, n5, n6, rfl, upd_same, .inl (Ex0.ap (x2.trans (x3.trans x4)) upd_same), .inl (Ex0.ap (x3.trans x4) upd_same), .inl (Ex0.ap x4 upd_same), hbz, fun r H6 e6 _ hr => ?_⟩
      obtain ⟨a, b, c, d, eL, hL⟩ := fin _ _ _ _ _ _ hbz
      rw [eL] at hr
      refine ⟨r, _, rfl, .inl ⟨SqL.of hr, fun t nt => ?_⟩⟩
      exact q t a b c d _ (f2.trans (fv_ex f2.1 ((x1.trans (x2.trans (x3.trans (x4.trans e6)))).trans (Ex0.new nt)))) upd_same hL
    refine ⟨_, rfl, rfl, _, rfl, iteE (fun g2 => ?_) (fun g2 => ?_)⟩
    · refine ⟨_, rfl, _, rfl, l, _, rfl, SqL.of hl, fun s1 k1 => ?_⟩
      rw [c1] at *
      have x1 := Ex0.new (o := .lst [.int n1, .int n2]) k1
      refine ⟨_, rfl, _, rfl, l, _, rfl, SqL.of (Ex0.ap x1 hl), fun s2 k2 => ?_⟩
      rw [c1] at *
      have x2 := Ex0.new (o := .lst [.int n1, .int n2]) k2
      refine ⟨_, rfl, _, rfl, l, _, rfl, SqL.of (Ex0.ap (x1.trans x2) hl), fun s3 k3 => ?_⟩
      rw [c3] at *
      have x3 := Ex0.new (o := .lst [.int n5, .int n6]) k3
      refine ⟨sl3, fun o no => ?_⟩
      have x4 := Ex0.new (o := .lst [.ref s1, .ref s2, .ref s3]) no
      have hbz : ∀ z ∈ [(n1, n2), (n1, n2), (n5, n6)], z.1.natAbs ≤ 100000000 ∧ z.2.natAbs ≤ 100000000 := by
        intro z hz
        simp only [List.mem_cons, List.mem_nil_iff, or_false] at hz
        rcases hz with rfl | rfl | rfl
        · exact ⟨b1, b2⟩
        · exact ⟨b1, b2⟩
        · exact ⟨b5, b6⟩
      refine ⟨o, s1, s2, s3, n1, n2, n1, n2, n5, n6, rfl, upd_same, .inl (Ex0.ap (x2.trans (x3.trans x4)) upd_same), .inl (Ex0.ap (x3.trans x4) upd_same), .inl (Ex0.ap x4 upd_same), hbz, fun r H6 e6 _ hr => ?_⟩
      obtain ⟨a, b, c, d, eL, hL⟩ := fin _ _ _ _ _ _ hbz
      rw [eL] at hr
      refine ⟨r, _, rfl, .inl ⟨SqL.of hr, fun t nt => ?_⟩⟩
      exact q t a b c d _ (f2.trans (fv_ex f2.1 ((x1.trans (x2.trans (x3.trans (x4.trans e6)))).trans (Ex0.new nt)))) upd_same hL
    refine ⟨_, rfl, _, rfl, l, _, rfl, SqL.of hl, fun s1 k1 => ?_⟩
    rw [c4] at *
    have x1 := Ex0.new (o := .lst (([n1, n2, n3, n4] : List Int).map V.int)) k1
    have hs1 : upd H2 s1 (.lst (([n1, n2, n3, n4] : List Int).map V.int)) s1 = some (.lst (([n1, n2, n3, n4] : List Int).map V.int)) := upd_same
    refine ⟨s1, rfl, ⟨_, SqL.of hs1⟩, ?_⟩
    refine lcL fm0 trivial (SqL.of hs1) (fun z => z) (fun i acc _ => ∃ ns : List Int, acc = ns.map V.int ∧ ns.length = i ∧ ∀ n ∈ ns, n.natAbs ≤ 500000000) (fun _ _ => ⟨[], rfl, rfl, fun _ h => by cases h⟩) (fun D i v acc H3 hD hv e3 hA hlen hp => ?_) (fun D H3 acc hD e3 hA hp => ?_)
    · obtain ⟨n, hn, rfl⟩ := get_int hv
      obtain ⟨ns, rfl, hl', hb'⟩ := hp
      have bn : n.natAbs ≤ 100000000 := by
        have hm := List.mem_of_getElem? hn
        simp only [List.mem_cons, List.mem_nil_iff, or_false] at hm
        rcases hm with rfl | rfl | rfl | rfl <;> assumption
      have hi : i < 4 := (List.getElem?_eq_some_iff.mp hn).1
      refine ⟨rfl, ?_⟩
      have bn30 : B 30 n := ⟨Nat.lt_of_le_of_lt bn (by decide), by decide⟩
      have b55 : B 4 (5 : Int) := ⟨by decide, by decide⟩
      have b11 : B 4 (1 : Int) := ⟨by decide, by decide⟩
      have end5 : ∀ n' ∈ ns ++ [n * 5], n'.natAbs ≤ 500000000 := fun n' hn' => by
        rcases List.mem_append.mp hn' with h | h
        · exact hb' n' h
        · rw [List.mem_singleton] at h
          omega
      have end1 : ∀ n' ∈ ns ++ [n * 1], n'.natAbs ≤ 500000000 := fun n' hn' => by
        rcases List.mem_append.mp hn' with h | h
        · exact hb' n' h
        · rw [List.mem_singleton] at h
          omega
      refine ⟨_, rfl, _, rfl, rfl, _, rfl, iteE (fun g3 => ⟨_, rfl, rfl, _, rfl, iteE (fun g4 => ?_) (fun g4 => ?_)⟩) (fun g3 => ?_)⟩
      · refine ⟨_, _, rfl, rfl, mulB bn30 b55 (by decide), ?_⟩
        exact cs_yes fm0 trivial hD e3 hA hlen (by omega) (Fx.refl trivial) ⟨ns ++ [n * 5], by rw [List.map_append]; rfl, by rw [List.length_append, hl']; rfl, end5⟩
      · refine ⟨_, _, rfl, rfl, mulB bn30 b11 (by decide), ?_⟩
        exact cs_yes fm0 trivial hD e3 hA hlen (by omega) (Fx.refl trivial) ⟨ns ++ [n * 1], by rw [List.map_append]; rfl, by rw [List.length_append, hl']; rfl, end1⟩
      · refine iteF ⟨_, _, rfl, rfl, mulB bn30 b11 (by decide), ?_⟩
        exact cs_yes fm0 trivial hD e3 hA hlen (by omega) (Fx.refl trivial) ⟨ns ++ [n * 1], by rw [List.map_append]; rfl, by rw [List.length_append, hl']; rfl, end1⟩
    · obtain ⟨ns, rfl, hl', hb'⟩ := hp
      have hl4 : ns.length = 4 := hl'
      match ns, hl4 with
      | [a, b, c, d], _ =>
        refine ⟨D, _, rfl, .inl ⟨SqL.of hA, fun t nt => ?_⟩⟩
        exact q t a b c d _ (f2.trans (fv_ex f2.1 (x1.trans (Fx.trans e3 (Ex0.new nt))))) upd_same (fun z hz => Nat.le_trans (hb' z hz) (by decide))
end
end K52
namespace K52
open PySem PySem.Spec PyProof.Rows L2 Fr
def KP : List Nat := [2, 3, 5, 7, 11, 13, 17, 19, 23, 29]
def kdL (a b c d : Int) (ps : List Nat) : List (Key × V) := ps.map fun p : Nat => ((Sum.inl (p : Int) : Key), V.str (wd (Stick.kn a b c d p)))
theorem kdL_dk (a b c d : Int) (ps : List Nat) : Dk (kdL a b c d ps) (ps.map fun p : Nat => (p : Int)) := by
  unfold Dk kdL
  rw [List.map_map, List.map_map]
  rfl
def prB (n : Nat) : Bool := decide (2 ≤ n) && (List.range 23).all fun c => decide (c < 2) || decide (n < c * c) || n % c != 0
theorem prB_iff {n : Nat} (hn : n < 529) : Pr n ↔ prB n = true := by
  unfold prB Pr
  rw [Bool.and_eq_true, decide_eq_true_iff, List.all_eq_true]
  refine and_congr_right fun _ => ⟨fun h c hc => ?_, fun h c h2 hc => ?_⟩
  · rw [Bool.or_eq_true, Bool.or_eq_true, decide_eq_true_iff, decide_eq_true_iff, bne_iff_ne]
    by_cases h2 : c < 2
    · exact .inl (.inl h2)
    by_cases h3 : n < c * c
    · exact .inl (.inr h3)
    exact .inr (h c (Nat.le_of_not_lt h2) (Nat.le_of_not_lt h3))
  · have hc23 : c < 23 := by
      rcases Nat.lt_or_ge c 23 with g | g
      · exact g
      · have := Nat.mul_le_mul g g
        exact absurd (Nat.lt_of_le_of_lt (Nat.le_trans this hc) hn) (by decide)
    have := h c (List.mem_range.mpr hc23)
    rw [Bool.or_eq_true, Bool.or_eq_true, decide_eq_true_iff, decide_eq_true_iff, bne_iff_ne] at this
    rcases this with (g | g) | g
    · exact absurd h2 (Nat.not_le_of_lt g)
    · exact absurd hc (Nat.not_le_of_lt g)
    · exact g
def kk (i : Nat) : List Nat := ((List.range i).map (2 + ·)).filter prB
theorem kk_end : kk 29 = KP := by decide
theorem kk_succ (i : Nat) : kk (i + 1) = kk i ++ if prB (2 + i) = true then [2 + i] else [] := by
  unfold kk
  rw [List.range_succ, List.map_append, List.filter_append]
  congr 1
  show List.filter prB [2 + i] = _
  cases h : prB (2 + i) <;> simp [List.filter, h]
theorem kk_mem {i n : Nat} (h : n ∈ kk i) : n < 2 + i := by
  unfold kk at h
  obtain ⟨j, hj, rfl⟩ := List.mem_map.mp (List.mem_filter.mp h).1
  rw [List.mem_range] at hj
  omega
theorem pk_small : ∀ i < 29, prB (2 + i) = true → (2 + i = 2 ∨ 2 + i = 3 ∨ 2 + i ∈ Stick.PL) := by decide
def LP : List Nat := [2, 3, 5, 7, 11, 13, 23, 59, 101, 499]
theorem lp_pk : ∀ p ∈ LP, (p = 2 ∨ p = 3 ∨ p ∈ Stick.PL) ∧ prB p = true ∧ 2 ≤ p ∧ p < 500 ∧ (p < 6 → p = 2 ∨ p = 3 ∨ p = 5) := by decide
theorem kp_pk : ∀ p ∈ KP, 2 ≤ p ∧ p < 500 := by decide
theorem wd_in (n : Nat) : inV (V.str (wd n)) [V.str "twice", V.str "thrice", V.str "all"] = decide (3 ≤ n) := by
  match n with
  | 0 => rfl
  | 1 => rfl
  | 2 => rfl
  | 3 => rfl
  | 4 => rfl
  | n + 5 =>
    rw [decide_eq_true (show 3 ≤ n + 5 by omega)]
    rfl
theorem at_new {H : Hp} {a : Addr} {o : HO} (_ : Ex0 H (upd H a o)) : upd H a o a = some o := upd_same
def zf (n : Nat) (u1 u2 u3 u4 u5 u6 : Addr) : Addr := match n with
  | 0 => u3
  | 1 => u2
  | 2 => u1
  | 3 => u4
  | 4 => u5
  | _ => u6
theorem pick (n : Nat) (u1 u2 u3 u4 u5 u6 : Addr) : valV (mergeK [] [((Sum.inr "three" : Key), V.ref u1), (Sum.inr "pair", .ref u2), (Sum.inr "none", .ref u3), (Sum.inr "twice", .ref u4), (Sum.inr "thrice", .ref u5), (Sum.inr "all", .ref u6)]) (Sum.inr (wd n) : Key) = some (.ref (zf n u1 u2 u3 u4 u5 u6)) := by
  match n with
  | 0 => rfl
  | 1 => rfl
  | 2 => rfl
  | 3 => rfl
  | 4 => rfl
  | n + 5 => rfl
theorem kd_app (a b c d : Int) : ∀ (ps qs : List Nat), (qs ++ ps).Nodup → mergeK (kdL a b c d qs) (kdL a b c d ps) = kdL a b c d (qs ++ ps)
  | [], qs, _ => by rw [List.append_nil]; rfl
  | p :: ps, qs, h => by
    have hp : (p : Int) ∉ qs.map fun n : Nat => (n : Int) := fun z => by
      obtain ⟨n, hn, e⟩ := List.mem_map.mp z
      have e' : n = p := Int.ofNat.inj e
      subst e'
      exact (List.nodup_append.mp h).2.2 n hn n (List.mem_cons_self ..) rfl
    have h1 : putK (kdL a b c d qs) (Sum.inl (p : Int) : Key) (V.str (wd (Stick.kn a b c d p))) = kdL a b c d (qs ++ [p]) := by
      rw [put_new (kdL_dk a b c d qs) _ _ hp]
      unfold kdL
      rw [List.map_append]
      rfl
    have h2 := kd_app a b c d ps (qs ++ [p]) (by rw [List.append_assoc]; exact h)
    rw [List.append_assoc] at h2
    rw [← h1] at h2
    exact h2
theorem kd_merge (a b c d : Int) : mergeK [] (kdL a b c d KP) = kdL a b c d KP := kd_app a b c d KP [] (by decide)
theorem kd_val (a b c d : Int) : ∀ p ∈ kdL a b c d KP, valV (kdL a b c d KP) p.1 = some p.2 ∧ flatB p.2 = true := by
  intro p hp
  obtain ⟨n, hn, rfl⟩ := List.mem_map.mp hp
  simp only [KP, List.mem_cons, List.mem_nil_iff, or_false] at hn
  rcases hn with rfl | rfl | rfl | rfl | rfl | rfl | rfl | rfl | rfl | rfl <;> exact ⟨rfl, rfl⟩
theorem fv_ls {c a : Addr} {H H' : Hp} {o : HO} (f : Fv c H H') (n : a ≠ c) (h : H a = some o) : H' a = some o := f.2 a _ n h
theorem short_mul {e y : Int} (h : e = 1 ∨ e = -1) (hy : y.natAbs ≤ 4 * (8000000000000000000000000 * 8000000000000000000000000)) : Short (e * y) := by
  have h1 : (e * y).natAbs = y.natAbs := by
    rw [Int.natAbs_mul]
    rcases h with rfl | rfl <;> exact Nat.one_mul _
  generalize e * y = z at h1 ⊢
  rw [← h1] at hy
  clear h1 h
  have hy : z.natAbs ≤ 256000000000000000000000000000000000000000000000000 := Nat.le_trans hy (by decide)
  unfold Short
  omega
theorem fled_short {a b c d p q r s : Int} (hz : ∀ z ∈ [a, b, c, d], z.natAbs ≤ 8000000000000000000000000) (hg : LedM.Gn p q r s 100000000) : ∀ z ∈ fled a b c d p q r s, Short z := by
  obtain ⟨g1, g2, g3, g4, g5⟩ := hg
  have h := LedM.FN_le (cf := [a, b, c, d]) hz rfl (LedM.lnP_le3 g1 g2 g3 g4) 4 (Nat.le_refl 4)
  rw [LedM.FN4] at h
  have key : ∀ y : Int, y.natAbs ≤ 4 * (8000000000000000000000000 * 8000000000000000000000000) → Short ((p * s - q * r) * y) := fun y hy => short_mul g5 hy
  intro z hz'
  unfold fled at hz'
  simp only [List.mem_cons, List.mem_nil_iff, or_false] at hz'
  rcases hz' with rfl | rfl | rfl | rfl
  · exact key _ (h _ (List.mem_cons_self ..))
  · exact key _ (h _ (List.mem_cons_of_mem _ (List.mem_cons_self ..)))
  · exact key _ (h _ (List.mem_cons_of_mem _ (List.mem_cons_of_mem _ (List.mem_cons_self ..))))
  · exact key _ (h _ (List.mem_cons_of_mem _ (List.mem_cons_of_mem _ (List.mem_cons_of_mem _ (List.mem_cons_self ..)))))
end K52
namespace K52
open PySem PySem.Spec PyProof.Rows L2 Fr
set_option pp.maxSteps 3000
section
def sp_kinds_to (_ : PySem.W.Frag) (C : Addr) : Sp := fun vs H Q _ => ∃ (x : Addr) (a b c d : Int), vs = [.ref x, .int 30] ∧ FormAt C H x [a, b, c, d] ∧ ∀ D H', Ex0 H H' → H' D = some (.dK (kdL a b c d KP)) → Q (.ref D) H'
def sp_l_right (_ : PySem.W.Frag) (_ : Addr) : Sp := fun vs H Q _ => ∃ cr : Addr, vs = [.ref cr] ∧ Vat cr H ∧ ∀ H', Fv cr H H' → Q (.bl true) H'
end
section
variable {P : Program} {w : World} {K : PySem.W.Frag} {mg : Str → Option Value} {base : Heap} {C_Form : Addr}
theorem ok_kinds_to (T : Txt K mg C_Form) : Def P w K mg base 6 "kinds_to" ["form", "most"] (sp_kinds_to K C_Form) := by
  obtain ⟨f_, fd_, g_, F_⟩ := T.d_kinds_to
  obtain ⟨p_Form_coefficients, f_Form_coefficients, fd_Form_coefficients, R_Form_coefficients, b_Form_coefficients, G_Form_coefficients⟩ := (ok_Form_coefficients (P := P) (w := w) (base := base) T)
  obtain ⟨f_check_between, fd_check_between, g_check_between, k_check_between, b_check_between, G_check_between⟩ := (ok_check_between (P := P) (w := w) (base := base) T)
  obtain ⟨f_check_form, fd_check_form, g_check_form, k_check_form, b_check_form, G_check_form⟩ := (ok_check_form (P := P) (w := w) (base := base) T)
  obtain ⟨f_is_prime, fd_is_prime, g_is_prime, k_is_prime, b_is_prime, G_is_prime⟩ := (ok_is_prime (P := P) (w := w) (base := base) T)
  obtain ⟨f_kind_of, fd_kind_of, g_kind_of, k_kind_of, b_kind_of, G_kind_of⟩ := (ok_kind_of (P := P) (w := w) (base := base) T)
  refine ⟨f_, fd_, g_, F_.kp, F_.binds (ps := ["form", "most"]) (fun _ _ _ _ _ _ us hl => match us, hl with | [_, _], _ => rfl), ?_⟩
  refine F_.ok sc_kinds_to (fun vs H Q E h => ?_) (fun cdv A outer s H vs Q E hr h => ?_)
  · first | (obtain ⟨rfl, _⟩ := h; rfl) | (obtain ⟨_, rfl, _⟩ := h; rfl) | (obtain ⟨_, _, rfl, _⟩ := h; rfl) | (obtain ⟨_, _, _, rfl, _⟩ := h; rfl) | (obtain ⟨_, _, _, _, rfl, _⟩ := h; rfl) | (obtain ⟨_, _, _, _, _, rfl, _⟩ := h; rfl) | (obtain ⟨_, _, _, _, _, _, rfl, _⟩ := h; rfl) | (obtain ⟨_, _, _, _, _, _, _, rfl, _⟩ := h; rfl) | (obtain ⟨_, _, _, _, _, _, _, _, rfl, _⟩ := h; rfl) | (obtain ⟨_, _, _, _, _, _, _, _, _, rfl, _⟩ := h; rfl) | (obtain ⟨_, _, _, _, _, _, _, _, _, _, rfl, _⟩ := h; rfl) | (obtain ⟨_, _, _, _, _, _, _, _, _, _, _, rfl, _⟩ := h; rfl) | (obtain ⟨_, _, _, _, _, _, _, _, _, _, _, _, rfl, _⟩ := h; rfl) | (obtain ⟨_, _, _, _, _, _, _, _, _, _, _, _, _, rfl, _⟩ := h; rfl) | (obtain ⟨_, _, _, _, _, _, _, _, _, _, _, _, _, _, rfl, _⟩ := h; rfl) | (obtain ⟨_, _, _, _, _, _, _, _, _, _, _, _, _, _, _, rfl, _⟩ := h; rfl) | (obtain ⟨_, _, _, _, _, _, _, _, _, _, _, _, _, _, _, _, rfl, _⟩ := h; rfl) | (obtain ⟨_, _, _, _, _, _, _, _, _, _, _, _, _, _, _, _, _, rfl, _⟩ := h; rfl) | (obtain ⟨_, _, _, _, _, _, _, _, _, _, _, _, _, _, _, _, _, _, rfl, _⟩ := h; rfl) | (obtain ⟨_, _, _, _, _, _, _, _, _, _, _, _, _, _, _, _, _, _, _, rfl, _⟩ := h; rfl) | (obtain ⟨_, _, _, _, _, _, _, _, _, _, _, _, _, _, _, _, _, _, _, _, rfl, _⟩ := h; rfl) | (obtain ⟨_, _, _, _, _, _, _, _, _, _, _, _, _, _, _, _, _, _, _, _, _, rfl, _⟩ := h; rfl) | (obtain ⟨_, _, _, _, _, _, _, _, _, _, _, _, _, _, _, _, _, _, _, _, _, _, rfl, _⟩ := h; rfl) | (obtain ⟨_, _, _, _, _, _, _, _, _, _, _, _, _, _, _, _, _, _, _, _, _, _, _, rfl, _⟩ := h; rfl)
  · obtain ⟨x, a, b, c, d, rfl, hx, q⟩ := h
    obtain ⟨t_MAX_KINDS, h_MAX_KINDS⟩ := T.x_MAX_KINDS
    refine ⟨_, (pss_cons (ps_expr (pe_call G_check_form (hr.mono (by decide)) (by rfl) g_check_form k_check_form b_check_form .nil pass0 (pa_cons (pv 0) pa_nil)))
    (pss_cons (ps_expr (pe_call G_check_between (hr.mono (by decide)) (by rfl) g_check_between k_check_between b_check_between .nil pass0 (pa_cons (pv 1) (pa_cons pe_int (pa_cons (pe_glob (v := .int 1000) (by rfl) h_MAX_KINDS ⟨_, rfl⟩) pa_nil)))))
    (pss_one (ps_ret (pe_dc (own := [("prime", 2)]) (g := (gName 2)) rfl sc_kinds_to.nd (pi_range2 (by rfl) T.b_range (pa_cons pe_int (pa_cons (pe_op op_add (pv 1) pe_int) pa_nil))) (blkOk_by (N := N_kinds_to) (sc := defScope s_kinds_to) (by decide +kernel)) (fun _ _ _ _ _ => (pg_name (i := 2) sc_kinds_to.nd rfl (.inl rfl))) (fun _ _ _ _ _ => (pts_one (pt_val (pe_call G_is_prime (hr.mono (by decide)) (by rfl) g_is_prime k_is_prime b_is_prime .nil pass0 (pa_cons (pv 2) pa_nil))))) (fun _ _ _ _ _ => (pv 2)) (fun _ _ _ _ _ => (pe_call G_kind_of (hr.mono (by decide)) (by rfl) g_kind_of k_kind_of b_kind_of .nil pass0 (pa_cons (pe_prop (pv 0) T.cl_Form R_Form_coefficients G_Form_coefficients (hr.mono (by decide)) b_Form_coefficients .nil pass0 (by rfl)) (pa_cons (pv 2) pa_nil))))))))), ?_⟩
    refine ⟨_, rfl, x, [a, b, c, d], rfl, hx, ?_⟩
    refine ⟨_, rfl, 30, 2, 1000, rfl, ⟨by decide, by decide⟩, by decide, by decide, ?_⟩
    refine ⟨_, rfl, _, _, rfl, rfl, _, _, rfl, ⟨by decide, by decide, by decide, by decide⟩, ?_⟩
    refine dcR (fun i kvs _ => kvs = kdL a b c d (kk i)) (fun _ _ => rfl) (fun D i kvs H1 hD hi e hA hlen hp => ?_) (fun D H1 kvs hD e hA hlen hp => ?_)
    · have hi' : i < 29 := by simpa using hi
      refine ⟨rfl, ?_⟩
      rw [show (2 : Int) + (i : Int) = ((2 + i : Nat) : Int) by omega]
      refine ⟨_, rfl, 2 + i, rfl, by omega, by omega, fun bb hb => ?_⟩
      have hb' := hb.trans (prB_iff (by omega))
      refine ⟨_, rfl, iteB (fun g => ?_) (fun g => ?_)⟩
      · have hxe := Ex0.fo e hx
        obtain ⟨dx, t0, hx1, ht0⟩ := Ex0.fo e hx
        refine ⟨_, rfl, _, rfl, x, dx, _, rfl, hx1, x, _, rfl, hxe, fun t ht => ⟨_, rfl, t, a, b, c, d, 2 + i, rfl, ht, hb.mp g, pk_small i hi' (hb'.mp g), fun H2 e2 => ?_⟩⟩
        refine ds_yes (k := (Sum.inl ((2 + i : Nat) : Int) : Key)) hD e hA hlen (by omega) e2 rfl ?_
        rw [hp, put_new (kdL_dk ..) _ _ (fun hm => ?_), kk_succ, if_pos (hb'.mp g)]
        · unfold kdL
          rw [List.map_append]
          rfl
        · obtain ⟨n, hn, h3⟩ := List.mem_map.mp hm
          have := kk_mem hn
          omega
      · refine ds_no e hA hlen (Ex0.refl _) ?_
        rw [hp, kk_succ, if_neg (fun z => by rw [hb'.mpr z] at g; cases g), List.append_nil]
    · refine q D H1 e ?_
      rw [hA, hp]
      exact congrArg (fun l => some (HO.dK (kdL a b c d l))) kk_end
theorem ok_l_right (T : Txt K mg C_Form) : Def P w K mg base 9 "_law_right" ["_law_crock_here"] (sp_l_right K C_Form) := by
  obtain ⟨f_, fd_, g_, F_⟩ := T.d_l_right
  obtain ⟨p_Form___init__, f_Form___init__, fd_Form___init__, R_Form___init__, b_Form___init__, G_Form___init__⟩ := (ok_Form___init__ (P := P) (w := w) (base := base) T)
  obtain ⟨f_l_change, fd_l_change, g_l_change, k_l_change, b_l_change, G_l_change⟩ := (ok_l_change (P := P) (w := w) (base := base) T)
  obtain ⟨f_l_choose, fd_l_choose, g_l_choose, k_l_choose, b_l_choose, G_l_choose⟩ := (ok_l_choose (P := P) (w := w) (base := base) T)
  obtain ⟨f_l_counts, fd_l_counts, g_l_counts, k_l_counts, b_l_counts, G_l_counts⟩ := (ok_l_counts (P := P) (w := w) (base := base) T)
  obtain ⟨f_l_discriminant, fd_l_discriminant, g_l_discriminant, k_l_discriminant, b_l_discriminant, G_l_discriminant⟩ := (ok_l_discriminant (P := P) (w := w) (base := base) T)
  obtain ⟨f_l_drawn, fd_l_drawn, g_l_drawn, k_l_drawn, b_l_drawn, G_l_drawn⟩ := (ok_l_drawn (P := P) (w := w) (base := base) T)
  obtain ⟨f_l_kind, fd_l_kind, g_l_kind, k_l_kind, b_l_kind, G_l_kind⟩ := (ok_l_kind (P := P) (w := w) (base := base) T)
  obtain ⟨f_l_led, fd_l_led, g_l_led, k_l_led, b_l_led, G_l_led⟩ := (ok_l_led (P := P) (w := w) (base := base) T)
  obtain ⟨f_kind_at, fd_kind_at, g_kind_at, k_kind_at, b_kind_at, G_kind_at⟩ := (ok_kind_at (P := P) (w := w) (base := base) T)
  obtain ⟨f_kinds_to, fd_kinds_to, g_kinds_to, k_kinds_to, b_kinds_to, G_kinds_to⟩ := (ok_kinds_to (P := P) (w := w) (base := base) T)
  refine ⟨f_, fd_, g_, F_.kp, F_.binds (ps := ["_law_crock_here"]) (fun _ _ _ _ _ _ us hl => match us, hl with | [_], _ => rfl), ?_⟩
  refine F_.ok sc_l_right (fun vs H Q E h => ?_) (fun cdv A outer s H vs Q E hr h => ?_)
  · first | (obtain ⟨rfl, _⟩ := h; rfl) | (obtain ⟨_, rfl, _⟩ := h; rfl) | (obtain ⟨_, _, rfl, _⟩ := h; rfl) | (obtain ⟨_, _, _, rfl, _⟩ := h; rfl) | (obtain ⟨_, _, _, _, rfl, _⟩ := h; rfl) | (obtain ⟨_, _, _, _, _, rfl, _⟩ := h; rfl) | (obtain ⟨_, _, _, _, _, _, rfl, _⟩ := h; rfl) | (obtain ⟨_, _, _, _, _, _, _, rfl, _⟩ := h; rfl) | (obtain ⟨_, _, _, _, _, _, _, _, rfl, _⟩ := h; rfl) | (obtain ⟨_, _, _, _, _, _, _, _, _, rfl, _⟩ := h; rfl) | (obtain ⟨_, _, _, _, _, _, _, _, _, _, rfl, _⟩ := h; rfl) | (obtain ⟨_, _, _, _, _, _, _, _, _, _, _, rfl, _⟩ := h; rfl) | (obtain ⟨_, _, _, _, _, _, _, _, _, _, _, _, rfl, _⟩ := h; rfl) | (obtain ⟨_, _, _, _, _, _, _, _, _, _, _, _, _, rfl, _⟩ := h; rfl) | (obtain ⟨_, _, _, _, _, _, _, _, _, _, _, _, _, _, rfl, _⟩ := h; rfl) | (obtain ⟨_, _, _, _, _, _, _, _, _, _, _, _, _, _, _, rfl, _⟩ := h; rfl) | (obtain ⟨_, _, _, _, _, _, _, _, _, _, _, _, _, _, _, _, rfl, _⟩ := h; rfl) | (obtain ⟨_, _, _, _, _, _, _, _, _, _, _, _, _, _, _, _, _, rfl, _⟩ := h; rfl) | (obtain ⟨_, _, _, _, _, _, _, _, _, _, _, _, _, _, _, _, _, _, rfl, _⟩ := h; rfl) | (obtain ⟨_, _, _, _, _, _, _, _, _, _, _, _, _, _, _, _, _, _, _, rfl, _⟩ := h; rfl) | (obtain ⟨_, _, _, _, _, _, _, _, _, _, _, _, _, _, _, _, _, _, _, _, rfl, _⟩ := h; rfl) | (obtain ⟨_, _, _, _, _, _, _, _, _, _, _, _, _, _, _, _, _, _, _, _, _, rfl, _⟩ := h; rfl) | (obtain ⟨_, _, _, _, _, _, _, _, _, _, _, _, _, _, _, _, _, _, _, _, _, _, rfl, _⟩ := h; rfl) | (obtain ⟨_, _, _, _, _, _, _, _, _, _, _, _, _, _, _, _, _, _, _, _, _, _, _, rfl, _⟩ := h; rfl)
  · obtain ⟨cr, rfl, hv, q⟩ := h
    refine ⟨_, (pss_cons (ps_set (i := 1) sc_l_right.nd rfl (.inr rfl) (pe_call G_l_drawn (hr.mono (by decide)) (by rfl) g_l_drawn k_l_drawn b_l_drawn .nil pass0 (pa_cons (pv 0) pa_nil)))
    (pss_cons (ps_set (i := 2) sc_l_right.nd rfl (.inl rfl) (pe_call G_l_led (hr.mono (by decide)) (by rfl) g_l_led k_l_led b_l_led .nil pass0 (pa_cons (pv 1) (pa_cons (pe_call G_l_change (hr.mono (by decide)) (by rfl) g_l_change k_l_change b_l_change .nil pass0 (pa_cons (pv 0) (pa_cons pe_int (pa_cons pe_int pa_nil)))) pa_nil))))
    (pss_cons (ps_for PassesOwn.never rfl (pi_list (pe_lst (pa_cons pe_int (pa_cons pe_int (pa_cons pe_int (pa_cons pe_int (pa_cons (pe_call G_l_choose (hr.mono (by decide)) (by rfl) g_l_choose k_l_choose b_l_choose .nil pass0 (pa_cons (pv 0) (pa_cons (pe_lst (pa_cons pe_int (pa_cons pe_int (pa_cons pe_int (pa_cons pe_int (pa_cons pe_int (pa_cons pe_int pa_nil))))))) pa_nil))) pa_nil))))))) (pg_name (i := 3) sc_l_right.nd rfl (.inl rfl))
      (Evl.pss_cut (ps_set (i := 4) sc_l_right.nd rfl (.inl rfl) (pe_call G_l_kind (hr.mono (by decide)) (by rfl) g_l_kind k_l_kind b_l_kind .nil pass0 (pa_cons (pv 1) (pa_cons (pv 3) pa_nil))))
    (Evl.pss_cut (ps_if (PW.pt (pw_or (pt_cmpR op_ne (pe_call G_kind_at (hr.mono (by decide)) (by rfl) g_kind_at k_kind_at b_kind_at .nil pass0 (pa_cons (pe_make R_Form___init__ G_Form___init__ (hr.mono (by decide)) (by rfl) T.g_Form b_Form___init__ .nil pass0 (pa_cons (pv 1) pa_nil)) (pa_cons (pv 3) pa_nil))) (pv 4) (nomark _)) (pw_or1 (pt_cmpR op_ne (pe_call G_kind_at (hr.mono (by decide)) (by rfl) g_kind_at k_kind_at b_kind_at .nil pass0 (pa_cons (pe_make R_Form___init__ G_Form___init__ (hr.mono (by decide)) (by rfl) T.g_Form b_Form___init__ .nil pass0 (pa_cons (pv 2) pa_nil)) (pa_cons (pv 3) pa_nil))) (pv 4) (nomark _)))))
      (pss_one (ps_ret pe_bl))
      pss_nil)
    (Evl.pss_cut (ps_if (pt_cmpR op_ne (pe_cmpR op_eq (pe_op op_mod (pe_callTy call_int1 (by rfl) T.b_int (by decide +kernel) (pa_cons (pe_call G_l_discriminant (hr.mono (by decide)) (by rfl) g_l_discriminant k_l_discriminant b_l_discriminant .nil pass0 (pa_cons (pv 1) pa_nil)) pa_nil)) (pv 3)) pe_int (nomark _)) (pe_cmpR op_in_seq (pv 4) (pe_tup (pa_cons pe_str (pa_cons pe_str (pa_cons pe_str pa_nil)))) (by with_unfolding_all rfl)) (nomark _))
      (pss_one (ps_ret pe_bl))
      pss_nil)
    (pss_one (ps_if (pt_cmpR op_lt (pv 3) pe_int (nomark _))
      (Evl.pss_cut (ps_set (i := 5) sc_l_right.nd rfl (.inl rfl) (pe_disp (pps_cons pe_str (pe_tup (pa_cons pe_int (pa_cons pe_int pa_nil)))
      (pps_cons pe_str (pe_tup (pa_cons pe_int (pa_cons pe_int pa_nil)))
      (pps_cons pe_str (pe_tup (pa_cons pe_int (pa_cons pe_int pa_nil)))
      (pps_cons pe_str (pe_tup (pa_cons pe_int (pa_cons (pv 3) pa_nil)))
      (pps_cons pe_str (pe_tup (pa_cons pe_int (pa_cons (pv 3) pa_nil)))
      (pps_cons pe_str (pe_tup (pa_cons pe_int (pa_cons (pe_op op_mulW (pv 3) (pv 3)) pa_nil)))
      pps_nil)))))) (by rfl) (by rfl) (fun z => by cases z) (by decide)))
    (pss_one (ps_if (pt_cmpR (op_neD hr.units) (pe_call G_l_counts (hr.mono (by decide)) (by rfl) g_l_counts k_l_counts b_l_counts .nil pass0 (pa_cons (pv 1) (pa_cons (pv 3) pa_nil))) (pe_dget (Nat.lt_of_le_of_lt (Nat.add_le_add_left (by decide) _) hr.units) (pv 5) (pv 4) (fun _ _ => rfl)) (nomark _))
      (pss_one (ps_ret pe_bl))
      pss_nil)))
      pss_nil))))))
    (Evl.pss_cut (ps_set (i := 6) sc_l_right.nd rfl (.inl rfl) (pe_call G_kinds_to (hr.mono (by decide)) (by rfl) g_kinds_to k_kinds_to b_kinds_to .nil pass0 (pa_cons (pe_make R_Form___init__ G_Form___init__ (hr.mono (by decide)) (by rfl) T.g_Form b_Form___init__ .nil pass0 (pa_cons (pv 1) pa_nil)) (pa_cons pe_int pa_nil))))
    (pss_one (ps_ret (pe_and (pe_cmpR (op_eq_dictA (Nat.lt_of_le_of_lt (Nat.le_add_right _ _) hr.units)) (pv 6) (pe_callTy (call_dictP rfl) (by rfl) T.b_dict (by decide +kernel) (pa_cons (pe_lc (own := [("_law_prime", 3)]) (g := (gName 3)) rfl sc_l_right.nd (pi_tup (pe_tup (pa_cons pe_int (pa_cons pe_int (pa_cons pe_int (pa_cons pe_int (pa_cons pe_int (pa_cons pe_int (pa_cons pe_int (pa_cons pe_int (pa_cons pe_int (pa_cons pe_int pa_nil)))))))))))) (blkOk_by (N := N_l_right) (sc := defScope s_l_right) (by decide +kernel)) (fun _ _ _ _ _ => (pg_name (i := 3) sc_l_right.nd rfl (.inl rfl))) (fun _ _ _ _ _ => pts_nil) (fun _ _ _ _ _ => (pe_tup (pa_cons (pv 3) (pa_cons (pe_call G_l_kind (hr.mono (by decide)) (by rfl) g_l_kind k_l_kind b_l_kind .nil pass0 (pa_cons (pv 1) (pa_cons (pv 3) pa_nil))) pa_nil))))) pa_nil)) (nomark _)) (pe_one (pe_cmpR (op_eqD hr.units) (pe_callTy (call_listD rfl) (by rfl) T.b_list (by decide +kernel) (pa_cons (pv 6) pa_nil)) (pe_callB (call_sortedDI rfl) (by rfl) T.b_sorted (by decide +kernel) (pa_cons (pv 6) pa_nil)) (nomark _)))))))))), ?_⟩
    refine ⟨_, rfl, cr, rfl, hv, fun t a b c d H1 v1 ht hz => ?_⟩
    refine ⟨_, rfl, _, rfl, cr, rfl, v1.1, fun u p0 q0 r0 s0 H2 v2 h4 hg => ?_⟩
    have ht2 := fv_tup v1.1 v2 ht
    refine ⟨t, u, a, b, c, d, p0, q0, r0, s0, rfl, ht2, h4, hz, hg, fun o H3 e3 ho => ?_⟩
    have hs : ∀ n ∈ [a, b, c, d], Short n := fun n h => by have := hz n h; exact ⟨by omega, by omega⟩
    have hso := fled_short hz hg
    have v3 := (v1.trans v2).trans (fv_ex v2.1 e3)
    have ht3 := Ex0.ti e3 ht2
    have bb : ∀ z ∈ [a, b, c, d], B 1000 z := fun z h => B.mono (show B 90 z from ⟨Nat.lt_of_le_of_lt (hz z h) (by decide), by decide⟩) (by decide)
    refine ⟨_, rfl, slN (by decide), fun s1 n1 => ?_⟩
    have f1 := fv_new (o := .lst [.int 11, .int 13, .int 23, .int 59, .int 101, .int 499]) v3.1 n1
    refine ⟨cr, s1, _, rfl, f1.1, upd_same, fv_ne v3.1 n1, by simp, by show 6 ≤ 1000; decide, fun v H5 hm e5 => ?_⟩
    obtain ⟨q', rfl, hq'⟩ : ∃ q' : Nat, v = .int (q' : Int) ∧ q' ∈ [11, 13, 23, 59, 101, 499] := by
      simp only [List.mem_cons, List.mem_nil_iff, or_false] at hm
      rcases hm with rfl | rfl | rfl | rfl | rfl | rfl
      · exact ⟨11, rfl, by decide⟩
      · exact ⟨13, rfl, by decide⟩
      · exact ⟨23, rfl, by decide⟩
      · exact ⟨59, rfl, by decide⟩
      · exact ⟨101, rfl, by decide⟩
      · exact ⟨499, rfl, by decide⟩
    refine ⟨sl5, fun L nL => ?_⟩
    have v5 := (v3.trans f1).trans e5
    have fL := fv_new (o := .lst [.int 2, .int 3, .int 5, .int 7, .int (q' : Int)]) v5.1 nL
    have nLc := fv_ne v5.1 nL
    have v6 := v5.trans fL
    have ht6 := fv_tup v3.1 ((f1.trans e5).trans fL) ht3
    have ho6 := fv_tup v3.1 ((f1.trans e5).trans fL) ho
    refine ⟨L, rfl, ⟨_, SqL.of upd_same⟩, ?_⟩
    have hL : upd H5 L (.lst [.int 2, .int 3, .int 5, .int 7, .int (q' : Int)]) L = some (.lst [.int 2, .int 3, .int 5, .int 7, .int (q' : Int)]) := upd_same
    generalize upd H5 L (.lst [.int 2, .int 3, .int 5, .int 7, .int (q' : Int)]) = H6 at *
    refine for_list (xs := [.int 2, .int 3, .int 5, .int 7, .int (q' : Int)]) (fun i σ H' => ∃ (y3 y4 y5 : Option V), σ = [some (.ref cr), some (.ref t), some (.ref o), y3, y4, y5, none] ∧ Ex0 H6 H') ⟨none, none, none, rfl, Ex0.refl _⟩ (fun i σ H' _ ⟨_, _, _, _, e⟩ => SqL.of (Ex0.ap e hL)) ?_ ?_
    · rintro i v σ H7 hv ⟨y3, y4, y5, rfl, e7⟩
      obtain ⟨p, rfl, hp⟩ : ∃ p : Nat, v = .int (p : Int) ∧ p ∈ LP := by
        have hm := List.mem_of_getElem? hv
        simp only [List.mem_cons, List.mem_nil_iff, or_false] at hm hq'
        rcases hm with rfl | rfl | rfl | rfl | rfl
        · exact ⟨2, rfl, by decide⟩
        · exact ⟨3, rfl, by decide⟩
        · exact ⟨5, rfl, by decide⟩
        · exact ⟨7, rfl, by decide⟩
        · exact ⟨q', rfl, by unfold LP; simp only [List.mem_cons, List.mem_nil_iff, or_false]; omega⟩
      obtain ⟨hpk, hpb, p2, p500, h235⟩ := lp_pk p hp
      have hpr := (prB_iff (by omega)).mpr hpb
      have ht7 := Ex0.ti e7 ht6
      have ho7 := Ex0.ti e7 ho6
      refine ⟨fun σ H' => σ = [some (.ref cr), some (.ref t), some (.ref o), some (.int (p : Int)), some (.str (wd (Stick.kn a b c d p))), y5, none] ∧ Ex0 H7 H', ?_, ?_⟩
      · exact ⟨_, rfl, _, rfl, t, a, b, c, d, p, rfl, ht7, p2, p500, fun H8 e8 => ⟨rfl, e8⟩⟩
      rintro σ H8 ⟨rfl, e8⟩
      have ht8 := Ex0.ti e8 ht7
      have ho8 := Ex0.ti e8 ho7
      refine ⟨fun σ H' => σ = [some (.ref cr), some (.ref t), some (.ref o), some (.int (p : Int)), some (.str (wd (Stick.kn a b c d p))), y5, none] ∧ Ex0 H8 H', ?_, ?_⟩
      · refine ⟨_, rfl, fun x dx nx ndx _ => ?_⟩
        refine ⟨x, dx, t, [a, b, c, d], rfl, upd_same, made_at nx ndx ht8, rfl, hs, fun H9 e9 h9 => ⟨rfl, ?_⟩⟩
        obtain ⟨e9, hx⟩ := fo_made nx ndx ht8 e9 h9
        refine ⟨_, rfl, x, a, b, c, d, p, rfl, hx, hpr, hpk, fun H10 e10 => ⟨_, rfl, rfl, _, rfl, ndF rfl ?_⟩⟩
        have ho10 := Ex0.ti (e9.trans e10) ho8
        refine ⟨_, rfl, fun x' dx' nx' ndx' _ => ?_⟩
        refine ⟨x', dx', o, fled a b c d p0 q0 r0 s0, rfl, upd_same, made_at nx' ndx' ho10, rfl, hso, fun H11 e11 h11 => ⟨rfl, ?_⟩⟩
        obtain ⟨e11, hx'⟩ := fo_made nx' ndx' ho10 e11 h11
        have hkn := Stick.kn_led hpk (a := a) (b := b) (c := c) (d := d) (p := p0) (q := q0) (r := r0) (s := s0) rfl hg.2.2.2.2
        exact ⟨_, rfl, x', _, _, _, _, p, rfl, hx', hpr, hpk, fun H12 e12 => ⟨_, rfl, rfl, _, rfl, ndF (congrArg (fun n => V.str (wd n)) hkn) ⟨rfl, e9.trans (e10.trans (e11.trans e12))⟩⟩⟩
      rintro σ H9 ⟨rfl, e9⟩
      have ht9 := Ex0.ti e9 ht8
      refine ⟨fun σ H' => σ = [some (.ref cr), some (.ref t), some (.ref o), some (.int (p : Int)), some (.str (wd (Stick.kn a b c d p))), y5, none] ∧ Ex0 H9 H', ?_, ?_⟩
      · have pp : (0 : Int) < (p : Int) := by omega
        have hEq : decide (V.int (fdisc a b c d % (p : Int)) = V.int 0) = inV (V.str (wd (Stick.kn a b c d p))) [V.str "twice", V.str "thrice", V.str "all"] := by
          rw [wd_in, Bool.eq_iff_iff, decide_eq_true_iff, decide_eq_true_iff]
          exact ⟨fun h => (Stick.disc_kn hpk a b c d).mp (V.int.inj h), fun h => congrArg V.int ((Stick.disc_kn hpk a b c d).mpr h)⟩
        refine ⟨_, rfl, t, a, b, c, d, rfl, ht9, bb a (by simp), bb b (by simp), bb c (by simp), bb d (by simp), .inl ⟨_, rfl, _, rfl, _, _, rfl, rfl, pp, rfl, _, rfl, sl3, fun o1 n1 => ?_⟩⟩
        refine ⟨o1, _, rfl, .inr (SqT.of upd_same), rfl, rfl, rfl, _, rfl, ndF (congrArg V.bl hEq) ⟨rfl, Ex0.new n1⟩⟩
      rintro σ H10 ⟨rfl, e10⟩
      have ht10 := Ex0.ti e10 ht9
      have e610 := e7.trans (e8.trans (e9.trans e10))
      refine ⟨_, rfl, _, _, rfl, rfl, _, rfl, iteD (fun g => ?_) (fun g => ⟨_, _, _, rfl, e610⟩)⟩
      have g' : p < 6 := by omega
      have hp3 := h235 g'
      refine ⟨fun σ H' => ∃ (D : Addr) (kv : List (Key × V)) (z : Addr), σ = [some (.ref cr), some (.ref t), some (.ref o), some (.int (p : Int)), some (.str (wd (Stick.kn a b c d p))), some (.ref D), none] ∧ Ex0 H10 H' ∧ H' D = some (.dK kv) ∧ valV kv (Sum.inr (wd (Stick.kn a b c d p)) : Key) = some (.ref z) ∧ Ti H' z [((Stick.sz p (Stick.kn a b c d p)).1 : Int), ((Stick.sz p (Stick.kn a b c d p)).2 : Int)], ?_, ?_⟩
      · have bp : B 10 (p : Int) := ⟨by show _ < 1024; omega, by decide⟩
        refine fun D nD => ?_
        refine ⟨sl2, fun u1 m1 => ⟨sl2, fun u2 m2 => ⟨sl2, fun u3 m3 => ⟨_, rfl, sl2, fun u4 m4 => ⟨_, rfl, sl2, fun u5 m5 => ⟨_, rfl, _, rfl, _, _, rfl, rfl, mulB bp bp (by decide), sl2, fun u6 m6 => ?_⟩⟩⟩⟩⟩⟩
        have x0 := Ex0.new (o := .dK []) nD
        have x1 := Ex0.new (o := .tup [.int 8, .int 1]) m1
        have x2 := Ex0.new (o := .tup [.int 4, .int 1]) m2
        have x3 := Ex0.new (o := .tup [.int 2, .int 1]) m3
        have x4 := Ex0.new (o := .tup [.int 4, .int (p : Int)]) m4
        have x5 := Ex0.new (o := .tup [.int 2, .int (p : Int)]) m5
        have x6 := Ex0.new (o := .tup [.int 2, .int ((p : Int) * (p : Int))]) m6
        have d0 : upd H10 D (.dK []) D = some (.dK []) := upd_same
        have d1 := Ex0.ap x1 d0
        have d2 := Ex0.ap x2 d1
        have d3 := Ex0.ap x3 d2
        have d4 := Ex0.ap x4 d3
        have d5 := Ex0.ap x5 d4
        have d6 := Ex0.ap x6 d5
        have w1 := ne_of_none d0 m1
        have w2 := ne_of_none d1 m2
        have w3 := ne_of_none d2 m3
        have w4 := ne_of_none d3 m4
        have w5 := ne_of_none d4 m5
        have w6 := ne_of_none d5 m6
        have k1 := Ex0.ap (x2.trans (x3.trans (x4.trans (x5.trans x6)))) upd_same
        have k2 := Ex0.ap (x3.trans (x4.trans (x5.trans x6))) upd_same
        have k3 := Ex0.ap (x4.trans (x5.trans x6)) upd_same
        have k4 := Ex0.ap (x5.trans x6) upd_same
        have k5 := Ex0.ap x6 upd_same
        have k6 := at_new x6
        have x06 := x0.trans (x1.trans (x2.trans (x3.trans (x4.trans (x5.trans x6)))))
        clear x0 x1 x2 x3 x4 x5 x6 d0 d1 d2 d3 d4 d5
        generalize upd _ u6 _ = H11 at *
        refine ⟨d6, [(Sum.inr "three", .ref u1), (Sum.inr "pair", .ref u2), (Sum.inr "none", .ref u3), (Sum.inr "twice", .ref u4), (Sum.inr "thrice", .ref u5), (Sum.inr "all", .ref u6)], rfl, by show 6 ≤ 15; decide, ?_⟩
        refine ⟨D, _, zf (Stick.kn a b c d p) u1 u2 u3 u4 u5 u6, rfl, Fx.mut fm0 x06 trivial nD, upd_same, pick _ _ _ _ _ _ _, ?_⟩
        generalize Stick.kn a b c d p = n
        generalize (HO.dK (mergeK [] _)) = o6
        match n with
        | 0 => exact (upd_ne (Ne.symm w3)).trans k3
        | 1 => exact (upd_ne (Ne.symm w2)).trans k2
        | 2 => exact (upd_ne (Ne.symm w1)).trans k1
        | 3 => exact (upd_ne (Ne.symm w4)).trans k4
        | 4 => exact (upd_ne (Ne.symm w5)).trans k5
        | n + 5 =>
          have h := (upd_ne (o := o6) (Ne.symm w6)).trans k6
          rw [← Int.natCast_mul] at h
          exact h
      rintro σ H11 ⟨D, kv, z, rfl, e11, hD, hval, hz'⟩
      refine ⟨_, rfl, _, rfl, t, a, b, c, d, p, rfl, Ex0.ti e11 ht10, hp3, fun o2 H12 e12 ho2 => ?_⟩
      refine ⟨_, rfl, _, rfl, D, .ref z, rfl, .inl ⟨kv, Sum.inr (wd (Stick.kn a b c d p)), Rd.of (Ex0.ap e12 hD), rfl, hval.symm⟩, ?_⟩
      refine ⟨.tuple (([((Stick.sz p (Stick.kn a b c d p)).1 : Int), ((Stick.sz p (Stick.kn a b c d p)).2 : Int)] : List Int).map .int), .tuple (([((Stick.sz p (Stick.kn a b c d p)).1 : Int), ((Stick.sz p (Stick.kn a b c d p)).2 : Int)] : List Int).map .int), .tup (SqT.of ho2) (dp_ints _), .tup (SqT.of (Ex0.ti e12 hz')) (dp_ints _), shaped_tints _, shaped_tints _, _, rfl, ?_⟩
      rw [PyData.eqv, eqv_ints, decide_eq_true rfl]
      exact iteF ⟨_, _, _, rfl, e610.trans (e11.trans e12)⟩
    · rintro σ H7 ⟨y3, y4, y5, rfl, e7⟩
      have ht7 := Ex0.ti e7 ht6
      refine ⟨fun σ H' => ∃ D, σ = [some (.ref cr), some (.ref t), some (.ref o), y3, y4, y5, some (.ref D)] ∧ Ex0 H7 H' ∧ H' D = some (.dK (kdL a b c d KP)), ?_, ?_⟩
      · refine ⟨_, rfl, fun x dx nx ndx _ => ?_⟩
        refine ⟨x, dx, t, [a, b, c, d], rfl, upd_same, made_at nx ndx ht7, rfl, hs, fun H8 e8 h8 => ⟨rfl, ?_⟩⟩
        obtain ⟨e8, hx⟩ := fo_made nx ndx ht7 e8 h8
        exact ⟨x, a, b, c, d, rfl, hx, fun D H9 e9 hD => ⟨D, rfl, e8.trans e9, hD⟩⟩
      rintro σ H8 ⟨D, rfl, e8, hD⟩
      have ht8 := Ex0.ti e8 ht7
      have v8 := v6.trans (fv_ex v6.1 (e7.trans e8))
      refine ⟨_, rfl, slN (by decide), fun T nT => ⟨T, rfl, ⟨_, SqT.of upd_same⟩, ?_⟩⟩
      have eT := Ex0.new (o := .tup (([2, 3, 5, 7, 11, 13, 17, 19, 23, 29] : List Int).map V.int)) nT
      have hT : upd H8 T (.tup (([2, 3, 5, 7, 11, 13, 17, 19, 23, 29] : List Int).map V.int)) T = some (.tup (([2, 3, 5, 7, 11, 13, 17, 19, 23, 29] : List Int).map V.int)) := upd_same
      refine lcT fm0 trivial (SqT.of hT) (fun z => z) (fun i acc H' => ∃ ps : List Addr, acc = ps.map V.ref ∧ PySem.Paired (fun p kv => H' p = some (.tup [kV kv.1, kv.2])) ps (kdL a b c d (KP.take i))) (fun _ _ => ⟨[], rfl, .nil⟩) (fun D' i v acc H' hD' hv e hA hlen hp => ?_) (fun L' H' acc hL' e hA hp => ?_)
      · obtain ⟨ps, rfl, hps⟩ := hp
        obtain ⟨n, hn, rfl⟩ : ∃ n : Nat, KP[i]? = some n ∧ v = .int (n : Int) := by
          rw [show ([2, 3, 5, 7, 11, 13, 17, 19, 23, 29] : List Int).map V.int = KP.map (fun n : Nat => V.int (n : Int)) from rfl, List.getElem?_map] at hv
          rcases hk : KP[i]? with _ | n
          · rw [hk] at hv; cases hv
          · rw [hk] at hv; exact ⟨n, rfl, (Option.some.inj hv).symm⟩
        have hi : i < 10 := (List.getElem?_eq_some_iff.mp hn).1
        obtain ⟨n2, n500⟩ := kp_pk n (List.mem_of_getElem? hn)
        refine ⟨rfl, ?_⟩
        refine ⟨_, rfl, _, rfl, _, rfl, t, a, b, c, d, n, rfl, Ex0.ti (eT.trans e) ht8, n2, n500, fun H2 e2 => ⟨sl2, fun y ny => ?_⟩⟩
        have ey := Ex0.new (o := .tup [.int (n : Int), .str (wd (Stick.kn a b c d n))]) ny
        have hy : upd H2 y (.tup [.int (n : Int), .str (wd (Stick.kn a b c d n))]) y = some (.tup [.int (n : Int), .str (wd (Stick.kn a b c d n))]) := upd_same
        have hps2 := (paired_ex (e2.trans ey) hps).snoc (b := ((Sum.inl (n : Int) : Key), V.str (wd (Stick.kn a b c d n)))) hy
        refine cs_yes fm0 trivial hD' e hA hlen (by omega) (e2.trans ey) ⟨ps ++ [y], by rw [List.map_append]; rfl, ?_⟩
        rw [List.take_add_one, hn]
        unfold kdL at hps2 ⊢
        rw [List.map_append]
        exact paired_put (Ex0.ap (e2.trans ey) hA) hps2
      · obtain ⟨ps, rfl, hps⟩ := hp
        have e8' := eT.trans e
        refine ⟨L', ps, kdL a b c d KP, rfl, SqL.of hA, paired_q hps, fun y ny => ?_⟩
        have ey := Ex0.new (o := .dK (mergeK [] (kdL a b c d KP))) ny
        rw [kd_merge] at ey ⊢
        refine ⟨D, y, _, _, rfl, rfl, Ex0.ap (e8'.trans ey) hD, upd_same, rfl, kd_val a b c d, true, rfl, iteT ?_⟩
        refine ⟨_, rfl, D, _, rfl, Rd.of (Ex0.ap (e8'.trans ey) hD), fun z nz => ?_⟩
        have ez := Ex0.new (o := .lst ((kdL a b c d KP).map fun kv => kV kv.1)) nz
        have hkk : (kdL a b c d KP).map (fun kv => kV kv.1) = (KP.map fun n : Nat => (n : Int)).map V.int := by
          unfold kdL
          rw [List.map_map, List.map_map]
          rfl
        rw [hkk] at ez ⊢
        refine ⟨_, rfl, D, _, KP.map (fun n : Nat => (n : Int)), rfl, Rd.of (Ex0.ap (e8'.trans (ey.trans ez)) hD), kdL_dk a b c d KP, by decide, fun ys z2 hys hso nz2 => ?_⟩
        have ez2 := Ex0.new (o := .lst (ys.map V.int)) nz2
        have hye := srt_eq hys hso (by decide)
        subst hye
        refine ⟨.list ((KP.map (fun n : Nat => (n : Int))).map .int), .list ((KP.map (fun n : Nat => (n : Int))).map .int), .lst (SqL.of (Ex0.ap ez2 upd_same)) (dp_ints _), .lst (SqL.of upd_same) (dp_ints _), shaped_ints _, shaped_ints _, ?_⟩
        rw [PyData.eqv, eqv_ints, decide_eq_true rfl]
        exact q _ (v8.trans (fv_ex v8.1 (e8'.trans (ey.trans (ez.trans ez2)))))
end
end K52
set_option Elab.async false
set_option linter.all false
set_option maxRecDepth 100000
namespace K52
open PySem PySem.Spec PyProof.Rows L2 Fr
set_option pp.maxSteps 3000
def sp_lawW (K : PySem.W.Frag) : Sp := fun vs H Q _ => ∃ (a : Addr) (ns : List Int), vs = [.ref a] ∧ SqL K H a (ns.map V.int) ∧ ns.length ≤ 63 ∧ ∀ H', Q (.bl true) H'
abbrev sp_law (K : PySem.W.Frag) (_ : Addr) : Sp := sp_lawW K
def ES : List Nat := [0, 1, 3, 2, 4, 5]
section
variable {P : Program} {w : World} {K : PySem.W.Frag} {mg : Str → Option Value} {base : Heap} {C_Form : Addr}
theorem ok_law0 (T : Txt K mg C_Form) {f_ : Addr} {fd_ : FuncData} (F_ : Fun K "law" "law" s_law f_ fd_) : FnOk P w K mg base CX0 10 f_ fd_ ["_law_script"] (sp_law K C_Form) := by
  obtain ⟨p_Form___init__, f_Form___init__, fd_Form___init__, R_Form___init__, b_Form___init__, G_Form___init__⟩ := (ok_Form___init__ (P := P) (w := w) (base := base) T)
  obtain ⟨f_l_crock, fd_l_crock, g_l_crock, k_l_crock, b_l_crock, G_l_crock⟩ := (ok_l_crock (P := P) (w := w) (base := base) T)
  obtain ⟨f_l_right, fd_l_right, g_l_right, k_l_right, b_l_right, G_l_right⟩ := (ok_l_right (P := P) (w := w) (base := base) T)
  obtain ⟨f_kind_at, fd_kind_at, g_kind_at, k_kind_at, b_kind_at, G_kind_at⟩ := (ok_kind_at (P := P) (w := w) (base := base) T)
  refine F_.ok sc_law (fun vs H Q E h => ?_) (fun cdv A outer s H vs Q E hr h => ?_)
  · first | (obtain ⟨rfl, _⟩ := h; rfl) | (obtain ⟨_, rfl, _⟩ := h; rfl) | (obtain ⟨_, _, rfl, _⟩ := h; rfl) | (obtain ⟨_, _, _, rfl, _⟩ := h; rfl) | (obtain ⟨_, _, _, _, rfl, _⟩ := h; rfl) | (obtain ⟨_, _, _, _, _, rfl, _⟩ := h; rfl) | (obtain ⟨_, _, _, _, _, _, rfl, _⟩ := h; rfl) | (obtain ⟨_, _, _, _, _, _, _, rfl, _⟩ := h; rfl) | (obtain ⟨_, _, _, _, _, _, _, _, rfl, _⟩ := h; rfl) | (obtain ⟨_, _, _, _, _, _, _, _, _, rfl, _⟩ := h; rfl) | (obtain ⟨_, _, _, _, _, _, _, _, _, _, rfl, _⟩ := h; rfl) | (obtain ⟨_, _, _, _, _, _, _, _, _, _, _, rfl, _⟩ := h; rfl) | (obtain ⟨_, _, _, _, _, _, _, _, _, _, _, _, rfl, _⟩ := h; rfl) | (obtain ⟨_, _, _, _, _, _, _, _, _, _, _, _, _, rfl, _⟩ := h; rfl) | (obtain ⟨_, _, _, _, _, _, _, _, _, _, _, _, _, _, rfl, _⟩ := h; rfl) | (obtain ⟨_, _, _, _, _, _, _, _, _, _, _, _, _, _, _, rfl, _⟩ := h; rfl) | (obtain ⟨_, _, _, _, _, _, _, _, _, _, _, _, _, _, _, _, rfl, _⟩ := h; rfl) | (obtain ⟨_, _, _, _, _, _, _, _, _, _, _, _, _, _, _, _, _, rfl, _⟩ := h; rfl) | (obtain ⟨_, _, _, _, _, _, _, _, _, _, _, _, _, _, _, _, _, _, rfl, _⟩ := h; rfl) | (obtain ⟨_, _, _, _, _, _, _, _, _, _, _, _, _, _, _, _, _, _, _, rfl, _⟩ := h; rfl) | (obtain ⟨_, _, _, _, _, _, _, _, _, _, _, _, _, _, _, _, _, _, _, _, rfl, _⟩ := h; rfl) | (obtain ⟨_, _, _, _, _, _, _, _, _, _, _, _, _, _, _, _, _, _, _, _, _, rfl, _⟩ := h; rfl) | (obtain ⟨_, _, _, _, _, _, _, _, _, _, _, _, _, _, _, _, _, _, _, _, _, _, rfl, _⟩ := h; rfl) | (obtain ⟨_, _, _, _, _, _, _, _, _, _, _, _, _, _, _, _, _, _, _, _, _, _, _, rfl, _⟩ := h; rfl)
  · obtain ⟨a, ns, rfl, hS, hn, q⟩ := h
    refine ⟨_, (pss_cons (ps_for PassesOwn.never rfl (pi_range1 (by rfl) T.b_range (pa_cons (pe_callB (call_max2 rfl) (by rfl) T.b_max (by decide +kernel) (pa_cons pe_int (pa_cons (pe_callB (call_min2 rfl) (by rfl) T.b_min (by decide +kernel) (pa_cons pe_int (pa_cons (pe_callB call_len_seq (by rfl) T.b_len PySem.boot_len (pa_cons (pv 0) pa_nil)) pa_nil))) pa_nil))) pa_nil)) (pg_name (i := 1) sc_law.nd rfl (.inl rfl))
      (pss_cons (ps_set (i := 2) sc_law.nd rfl (.inl rfl) (pe_call G_l_crock (hr.mono (by decide)) (by rfl) g_l_crock k_l_crock b_l_crock .nil pass0 (pa_cons (pv 0) (pa_cons (pv 1) pa_nil))))
    (pss_one (ps_if (PW.pt (pw_or (pt_not (pt_val (pe_call G_l_right (hr.mono (by decide)) (by rfl) g_l_right k_l_right b_l_right .nil pass0 (pa_cons (pv 2) pa_nil)))) (pw_or1 (pt_not (pt_val (pe_call G_l_right (hr.mono (by decide)) (by rfl) g_l_right k_l_right b_l_right .nil pass0 (pa_cons (pv 2) pa_nil)))))))
      (pss_one (ps_ret pe_bl))
      pss_nil))))
    (pss_cons (ps_set (i := 3) sc_law.nd rfl (.inl rfl) (pe_lst (pa_cons (pe_tup (pa_cons (pe_tup (pa_cons pe_int (pa_cons pe_int (pa_cons pe_int (pa_cons pe_int pa_nil))))) (pa_cons pe_int pa_nil))) (pa_cons (pe_tup (pa_cons (pe_tup (pa_cons pe_int (pa_cons pe_int (pa_cons pe_int (pa_cons pe_int pa_nil))))) (pa_cons pe_int pa_nil))) (pa_cons (pe_tup (pa_cons (pe_tup (pa_cons pe_int (pa_cons pe_int (pa_cons pe_int (pa_cons pe_int pa_nil))))) (pa_cons pe_int pa_nil))) (pa_cons (pe_tup (pa_cons (pe_tup (pa_cons pe_int (pa_cons pe_int (pa_cons pe_int (pa_cons pe_int pa_nil))))) (pa_cons pe_int pa_nil))) (pa_cons (pe_tup (pa_cons (pe_tup (pa_cons pe_int (pa_cons pe_int (pa_cons pe_int (pa_cons (pe_un un_neg pe_int) pa_nil))))) (pa_cons pe_int pa_nil))) (pa_cons (pe_tup (pa_cons (pe_tup (pa_cons pe_int (pa_cons pe_int (pa_cons pe_int (pa_cons pe_int pa_nil))))) (pa_cons pe_int pa_nil))) pa_nil))))))))
    (pss_one (ps_ret (pe_cmpR (op_eqD hr.units) (pe_lc (own := [("_law_row", 4), ("_law_prime", 5)]) (g := (gTup K 2 (gCons (gName 4) (gCons (gName 5) gNil)))) rfl sc_law.nd (pi_list (pv 3)) (blkOk_by (N := N_law) (sc := defScope s_law) (by decide +kernel)) (fun _ _ _ _ _ => (pg_tup (by rfl) (pgs_cons (pg_name (i := 4) sc_law.nd rfl (.inl rfl)) (pgs_cons (pg_name (i := 5) sc_law.nd rfl (.inl rfl)) pgs_nil)))) (fun _ _ _ _ _ => pts_nil) (fun _ _ _ _ _ => (pe_call G_kind_at (hr.mono (by decide)) (by rfl) g_kind_at k_kind_at b_kind_at .nil pass0 (pa_cons (pe_make R_Form___init__ G_Form___init__ (hr.mono (by decide)) (by rfl) T.g_Form b_Form___init__ .nil pass0 (pa_cons (pv 4) pa_nil)) (pa_cons (pv 5) pa_nil))))) (pe_lst (pa_cons pe_str (pa_cons pe_str (pa_cons pe_str (pa_cons pe_str (pa_cons pe_str (pa_cons pe_str pa_nil))))))) (nomark _)))))), ?_⟩
    have hm : ∀ z : Int, z ≤ 63 → -(2 ^ 62) ≤ (if (if z < 3 then z else 3) > 1 then (if z < 3 then z else 3) else 1) ∧ (if (if z < 3 then z else 3) > 1 then (if z < 3 then z else 3) else 1) < 2 ^ 62 := fun z hz => by
      split <;> split <;> omega
    have hm2 := hm (((ns.map V.int).length : Nat) : Int) (by rw [List.length_map]; omega)
    refine ⟨_, rfl, a, _, rfl, .inl hS, _, _, rfl, _, _, rfl, _, rfl, hm2.1, hm2.2, ?_⟩
    refine for_range (lo := 0) (fun i σ H' => ∃ y1 y2, σ = [some (.ref a), y1, y2, none, none, none] ∧ Ex0 H H') ⟨none, none, rfl, Ex0.refl H⟩ ?_ ?_
    · rintro i σ H' hi ⟨y1, y2, rfl, e⟩
      refine ⟨_, rfl, _, rfl, a, ns, i, by show [V.ref a, V.int (0 + (i : Int))] = _; rw [Int.zero_add], e.sqL (fun z => z) hS, fun p H1 np e1 hv => ?_⟩
      have hp0 : H p = none := Fx.free e (fun z => z) np
      have e01 : Ex0 H H1 := e.trans e1
      refine ⟨_, rfl, p, rfl, hv, fun H2 e2 => ⟨_, rfl, iteF ⟨_, rfl, p, rfl, e2.1, fun H3 e3 => ⟨_, rfl, iteF ?_⟩⟩⟩⟩
      exact ⟨_, _, rfl, ex_fv e01 hp0 (e2.trans e3)⟩
    · rintro σ H' ⟨y1, y2, rfl, e⟩
      have sh : ∀ {x y z v : Int}, x.natAbs ≤ 9 → y.natAbs ≤ 9 → z.natAbs ≤ 9 → v.natAbs ≤ 9 → ∀ n ∈ [x, y, z, v], Short n := fun h1 h2 h3 h4 n h => by
        simp only [List.mem_cons, List.mem_nil_iff, or_false] at h
        rcases h with rfl | rfl | rfl | rfl <;> exact ⟨by omega, by omega⟩
      refine ⟨sl4, fun t1 n1 => ⟨sl2, fun r1 m1 => ⟨sl4, fun t2 n2 => ⟨sl2, fun r2 m2 => ⟨sl4, fun t3 n3 => ⟨sl2, fun r3 m3 => ⟨sl4, fun t4 n4 => ⟨sl2, fun r4 m4 => ⟨_, rfl, sl4, fun t5 n5 => ⟨sl2, fun r5 m5 => ⟨sl4, fun t6 n6 => ⟨sl2, fun r6 m6 => ⟨sl6, fun R nR => ?_⟩⟩⟩⟩⟩⟩⟩⟩⟩⟩⟩⟩⟩
      have c1 := Ex0.new (o := .tup [.int 1, .int 1, .int 2, .int 1]) n1
      have d1 := Ex0.new (o := .tup [.ref t1, .int 2]) m1
      have c2 := Ex0.new (o := .tup [.int 1, .int 1, .int 2, .int 1]) n2
      have d2 := Ex0.new (o := .tup [.ref t2, .int 5]) m2
      have c3 := Ex0.new (o := .tup [.int 1, .int 1, .int 2, .int 1]) n3
      have d3 := Ex0.new (o := .tup [.ref t3, .int 23]) m3
      have c4 := Ex0.new (o := .tup [.int 0, .int 1, .int 1, .int 0]) n4
      have d4 := Ex0.new (o := .tup [.ref t4, .int 2]) m4
      have c5 := Ex0.new (o := .tup [.int 1, .int 0, .int 0, .int (-2)]) n5
      have d5 := Ex0.new (o := .tup [.ref t5, .int 3]) m5
      have c6 := Ex0.new (o := .tup [.int 2, .int 0, .int 4, .int 2]) n6
      have d6 := Ex0.new (o := .tup [.ref t6, .int 2]) m6
      have cR := Ex0.new (o := .lst [.ref r1, .ref r2, .ref r3, .ref r4, .ref r5, .ref r6]) nR
      have g13 := cR
      have g12 := d6.trans g13
      have g11 := c6.trans g12
      have g10 := d5.trans g11
      have g9 := c5.trans g10
      have g8 := d4.trans g9
      have g7 := c4.trans g8
      have g6 := d3.trans g7
      have g5 := c3.trans g6
      have g4 := d2.trans g5
      have g3 := c2.trans g4
      have g2 := d1.trans g3
      have g1 := c1.trans g2
      have ht1 := Ex0.ti g2 (show Ti _ t1 [1, 1, 2, 1] from upd_same)
      have hr1 := Ex0.ap g3 (show (upd _ r1 (.tup [.ref t1, .int 2])) r1 = _ from upd_same)
      have ht2 := Ex0.ti g4 (show Ti _ t2 [1, 1, 2, 1] from upd_same)
      have hr2 := Ex0.ap g5 (show (upd _ r2 (.tup [.ref t2, .int 5])) r2 = _ from upd_same)
      have ht3 := Ex0.ti g6 (show Ti _ t3 [1, 1, 2, 1] from upd_same)
      have hr3 := Ex0.ap g7 (show (upd _ r3 (.tup [.ref t3, .int 23])) r3 = _ from upd_same)
      have ht4 := Ex0.ti g8 (show Ti _ t4 [0, 1, 1, 0] from upd_same)
      have hr4 := Ex0.ap g9 (show (upd _ r4 (.tup [.ref t4, .int 2])) r4 = _ from upd_same)
      have ht5 := Ex0.ti g10 (show Ti _ t5 [1, 0, 0, -2] from upd_same)
      have hr5 := Ex0.ap g11 (show (upd _ r5 (.tup [.ref t5, .int 3])) r5 = _ from upd_same)
      have ht6 := Ex0.ti g12 (show Ti _ t6 [2, 0, 4, 2] from upd_same)
      have hr6 := Ex0.ap g13 (show (upd _ r6 (.tup [.ref t6, .int 2])) r6 = _ from upd_same)
      have hR : upd _ R (.lst [.ref r1, .ref r2, .ref r3, .ref r4, .ref r5, .ref r6]) R = some (.lst [.ref r1, .ref r2, .ref r3, .ref r4, .ref r5, .ref r6]) := at_new cR
      refine ⟨_, rfl, R, rfl, ⟨_, SqL.of hR⟩, ?_⟩
      refine lcL fm0 trivial (SqL.of hR) (fun z => z) (fun i acc _ => acc = ((ES.take i).map fun n => V.str (wd n))) (fun _ _ => rfl) (fun D i v acc H2 hD hv e2 hA hlen hp' => ?_) (fun D H2 acc hD e2 hA hp' => ?_)
      · obtain ⟨r, t, a', b, c, d, p, x, rfl, hr, ht, h1, h2, h3, h4, hpm, hx, hE⟩ : ∃ (r t : Addr) (a b c d : Int) (p x : Nat), v = .ref r ∧ H2 r = some (.tup [.ref t, .int (p : Int)]) ∧ Ti H2 t [a, b, c, d] ∧ a.natAbs ≤ 9 ∧ b.natAbs ≤ 9 ∧ c.natAbs ≤ 9 ∧ d.natAbs ≤ 9 ∧ p ∈ LP ∧ Stick.kn a b c d p = x ∧ ES.take (i + 1) = ES.take i ++ [x] := by
          match i, hv with
          | 0, hv => exact ⟨r1, t1, 1, 1, 2, 1, 2, 0, (Option.some.inj hv).symm, Ex0.ap e2 hr1, Ex0.ti e2 ht1, by decide, by decide, by decide, by decide, by decide, by decide +kernel, rfl⟩
          | 1, hv => exact ⟨r2, t2, 1, 1, 2, 1, 5, 1, (Option.some.inj hv).symm, Ex0.ap e2 hr2, Ex0.ti e2 ht2, by decide, by decide, by decide, by decide, by decide, by decide +kernel, rfl⟩
          | 2, hv => exact ⟨r3, t3, 1, 1, 2, 1, 23, 3, (Option.some.inj hv).symm, Ex0.ap e2 hr3, Ex0.ti e2 ht3, by decide, by decide, by decide, by decide, by decide, by decide +kernel, rfl⟩
          | 3, hv => exact ⟨r4, t4, 0, 1, 1, 0, 2, 2, (Option.some.inj hv).symm, Ex0.ap e2 hr4, Ex0.ti e2 ht4, by decide, by decide, by decide, by decide, by decide, by decide +kernel, rfl⟩
          | 4, hv => exact ⟨r5, t5, 1, 0, 0, -2, 3, 4, (Option.some.inj hv).symm, Ex0.ap e2 hr5, Ex0.ti e2 ht5, by decide, by decide, by decide, by decide, by decide, by decide +kernel, rfl⟩
          | 5, hv => exact ⟨r6, t6, 2, 0, 4, 2, 2, 5, (Option.some.inj hv).symm, Ex0.ap e2 hr6, Ex0.ti e2 ht6, by decide, by decide, by decide, by decide, by decide, by decide +kernel, rfl⟩
        have hi : i < 6 := (List.getElem?_eq_some_iff.mp hv).1
        obtain ⟨hpk, hpb, p2, p500, _⟩ := lp_pk p hpm
        have hpr := (prB_iff (by omega)).mpr hpb
        refine ⟨r, _, rfl, SqT.of hr, rfl, _, _, rfl, _, _, rfl, rfl, ⟨rfl, ?_⟩⟩
        refine ⟨_, rfl, fun x0 dx nx ndx _ => ?_⟩
        refine ⟨x0, dx, t, [a', b, c, d], rfl, upd_same, made_at nx ndx ht, rfl, sh h1 h2 h3 h4, fun H3 e3 h8 => ⟨rfl, ?_⟩⟩
        obtain ⟨e3, hx0⟩ := fo_made nx ndx ht e3 h8
        refine ⟨_, rfl, x0, a', b, c, d, p, rfl, hx0, hpr, hpk, fun H4 e4 => ?_⟩
        refine cs_yes fm0 trivial hD e2 hA hlen (by omega) (e3.trans e4) ?_
        rw [hp', hE, List.map_append, hx]
        rfl
      · have hp2 : acc = [V.str "none", V.str "pair", V.str "twice", V.str "three", V.str "thrice", V.str "all"] := hp'
        refine ⟨sl6, fun l nl => ?_⟩
        have w1 := Ex0.new (o := .lst [V.str "none", V.str "pair", V.str "twice", V.str "three", V.str "thrice", V.str "all"]) nl
        rw [hp2] at hA
        have hdp : ∀ H3, DpAll K H3 [V.str "none", V.str "pair", V.str "twice", V.str "three", V.str "thrice", V.str "all"] [PyData.str "none", PyData.str "pair", PyData.str "twice", PyData.str "three", PyData.str "thrice", PyData.str "all"] := fun H3 => .cons (.str _) (.cons (.str _) (.cons (.str _) (.cons (.str _) (.cons (.str _) (.cons (.str _) .nil)))))
        refine ⟨.list [PyData.str "none", PyData.str "pair", PyData.str "twice", PyData.str "three", PyData.str "thrice", PyData.str "all"], .list [PyData.str "none", PyData.str "pair", PyData.str "twice", PyData.str "three", PyData.str "thrice", PyData.str "all"], .lst (SqL.of (Ex0.ap w1 hA)) (hdp _), .lst (SqL.of upd_same) (hdp _), by decide +kernel, by decide +kernel, ?_⟩
        rw [show PyData.eqv (.list [PyData.str "none", PyData.str "pair", PyData.str "twice", PyData.str "three", PyData.str "thrice", PyData.str "all"]) (.list [PyData.str "none", PyData.str "pair", PyData.str "twice", PyData.str "three", PyData.str "thrice", PyData.str "all"]) = true by decide +kernel]
        exact q _
end
theorem facts {P : Program} {w : World} {K : PySem.W.Frag} {h : Heap} {mg : Str → Option Value} {f : Addr} (X : K.In h) (G : h.Ns mainGlobals mg) (hfa : mg ("law" : Str) = some (.ref f)) (c : Hd.SaysM fa dd K) :
    ∃ fd : FuncData, (∀ (s : Shared) (v : Value), BindsTo s fd ⟨[v], []⟩ [("_law_script", v)]) ∧ ∀ base : Heap, K.In base → base.Ns mainGlobals mg → FnOk P w K mg base CX0 10 f fd ["_law_script"] (sp_lawW K) := by
  obtain ⟨fd0, F0⟩ := c.def_ 0 (d := e0) rfl
  obtain ⟨fd1, F1⟩ := c.def_ 1 (d := e1) rfl
  obtain ⟨fd2, F2⟩ := c.def_ 2 (d := e2) rfl
  obtain ⟨fd3, F3⟩ := c.def_ 3 (d := e3) rfl
  obtain ⟨fd4, F4⟩ := c.def_ 4 (d := e4) rfl
  obtain ⟨fd5, F5⟩ := c.def_ 5 (d := e5) rfl
  obtain ⟨fd6, F6⟩ := c.def_ 6 (d := e6) rfl
  obtain ⟨fd7, F7⟩ := c.def_ 7 (d := e7) rfl
  obtain ⟨fd8, F8⟩ := c.def_ 8 (d := e8) rfl
  obtain ⟨fd9, F9⟩ := c.def_ 9 (d := e9) rfl
  obtain ⟨fd10, F10⟩ := c.def_ 10 (d := e10) rfl
  obtain ⟨fd11, F11⟩ := c.def_ 11 (d := e11) rfl
  obtain ⟨fd12, F12⟩ := c.def_ 12 (d := e12) rfl
  obtain ⟨fd13, F13⟩ := c.def_ 13 (d := e13) rfl
  obtain ⟨fd14, F14⟩ := c.def_ 14 (d := e14) rfl
  obtain ⟨fd15, F15⟩ := c.def_ 15 (d := e15) rfl
  obtain ⟨fd16, F16⟩ := c.def_ 16 (d := e16) rfl
  obtain ⟨fd17, F17⟩ := c.def_ 17 (d := e17) rfl
  obtain ⟨fd18, F18⟩ := c.def_ 18 (d := e18) rfl
  obtain ⟨fd19, F19⟩ := c.def_ 19 (d := e19) rfl
  obtain ⟨fd20, F20⟩ := c.def_ 20 (d := e20) rfl
  obtain ⟨fd21, F21⟩ := c.def_ 21 (d := e21) rfl
  obtain ⟨fd22, F22⟩ := c.def_ 22 (d := e22) rfl
  obtain ⟨fd23, F23⟩ := c.def_ 23 (d := e23) rfl
  obtain ⟨fd24, F24⟩ := c.def_ 24 (d := e24) rfl
  obtain ⟨fd25, F25⟩ := c.def_ 25 (d := e25) rfl
  obtain ⟨fd26, F26⟩ := c.def_ 26 (d := e26) rfl
  obtain ⟨fd27, F27⟩ := c.def_ 27 (d := e27) rfl
  obtain ⟨fd28, F28⟩ := c.def_ 28 (d := e28) rfl
  obtain ⟨fd29, F29⟩ := c.def_ 29 (d := e29) rfl
  obtain ⟨fd30, F30⟩ := c.def_ 30 (d := e30) rfl
  obtain ⟨fd31, F31⟩ := c.def_ 31 (d := e31) rfl
  obtain ⟨fd32, F32⟩ := c.def_ 32 (d := e32) rfl
  obtain ⟨fd33, F33⟩ := c.def_ 33 (d := e33) rfl
  obtain ⟨fd34, F34⟩ := c.def_ 34 (d := e34) rfl
  obtain ⟨fd35, F35⟩ := c.def_ 35 (d := e35) rfl
  obtain ⟨fd36, F36⟩ := c.def_ 36 (d := e36) rfl
  obtain ⟨fd37, F37⟩ := c.def_ 37 (d := e37) rfl
  obtain ⟨fd38, F38⟩ := c.def_ 38 (d := e38) rfl
  obtain ⟨fd39, F39⟩ := c.def_ 39 (d := e39) rfl
  obtain ⟨fd40, F40⟩ := c.def_ 40 (d := e40) rfl
  obtain ⟨fd41, F41⟩ := c.def_ 41 (d := e41) rfl
  have T : Txt K mg (He.ga K "Form") := ⟨He.glo_ok X G (c.fact 0 (f := g0) rfl),
    He.cls_ok (c.fact 1 (f := g1) rfl),
    Hd.ty_ok (c.fact 2 (f := g2) rfl),
    He.noat_ok (c.fact 3 (f := g3) rfl),
    ⟨_, _, He.glo_ok X G (c.fact 4 (f := g4) rfl), Hd.fun_of F0⟩,
    ⟨_, _, He.glo_ok X G (c.fact 5 (f := g5) rfl), Hd.fun_of F1⟩,
    ⟨_, _, He.glo_ok X G (c.fact 6 (f := g6) rfl), Hd.fun_of F2⟩,
    ⟨_, _, He.glo_ok X G (c.fact 7 (f := g7) rfl), Hd.fun_of F3⟩,
    ⟨_, _, He.glo_ok X G (c.fact 8 (f := g8) rfl), Hd.fun_of F4⟩,
    ⟨_, _, He.glo_ok X G (c.fact 9 (f := g9) rfl), Hd.fun_of F5⟩,
    ⟨_, _, He.glo_ok X G (c.fact 10 (f := g10) rfl), Hd.fun_of F6⟩,
    ⟨_, _, He.glo_ok X G (c.fact 11 (f := g11) rfl), Hd.fun_of F7⟩,
    ⟨_, _, He.glo_ok X G (c.fact 12 (f := g12) rfl), Hd.fun_of F8⟩,
    ⟨_, _, He.glo_ok X G (c.fact 13 (f := g13) rfl), Hd.fun_of F9⟩,
    ⟨_, _, He.glo_ok X G (c.fact 14 (f := g14) rfl), Hd.fun_of F10⟩,
    ⟨_, _, He.glo_ok X G (c.fact 15 (f := g15) rfl), Hd.fun_of F11⟩,
    ⟨_, _, He.glo_ok X G (c.fact 16 (f := g16) rfl), Hd.fun_of F12⟩,
    ⟨_, _, He.glo_ok X G (c.fact 17 (f := g17) rfl), Hd.fun_of F13⟩,
    ⟨_, _, He.glo_ok X G (c.fact 18 (f := g18) rfl), Hd.fun_of F14⟩,
    ⟨He.ga K "Form", _, _, He.mkr_ok (c.fact 19 (f := g19) rfl), Hd.fun_of F15⟩,
    ⟨_, _, _, Hd.prop_ok (c.fact 20 (f := g20) rfl), Hd.fun_of F16⟩,
    ⟨He.ga K "Form", _, _, Hd.call_ok (c.fact 21 (f := g21) rfl), Hd.fun_of F17⟩,
    ⟨He.ga K "Form", _, _, Hd.eq_ok (c.fact 22 (f := g22) rfl), Hd.fun_of F18⟩,
    ⟨_, _, He.glo_ok X G (c.fact 23 (f := g23) rfl), Hd.fun_of F19⟩,
    ⟨_, _, He.glo_ok X G (c.fact 24 (f := g24) rfl), Hd.fun_of F20⟩,
    ⟨_, _, He.glo_ok X G (c.fact 25 (f := g25) rfl), Hd.fun_of F21⟩,
    ⟨_, _, He.glo_ok X G (c.fact 26 (f := g26) rfl), Hd.fun_of F22⟩,
    ⟨_, _, He.glo_ok X G (c.fact 27 (f := g27) rfl), Hd.fun_of F23⟩,
    ⟨_, _, He.glo_ok X G (c.fact 28 (f := g28) rfl), Hd.fun_of F24⟩,
    ⟨_, _, He.glo_ok X G (c.fact 29 (f := g29) rfl), Hd.fun_of F25⟩,
    ⟨_, _, He.glo_ok X G (c.fact 30 (f := g30) rfl), Hd.fun_of F26⟩,
    ⟨_, _, He.glo_ok X G (c.fact 31 (f := g31) rfl), Hd.fun_of F27⟩,
    ⟨_, _, He.glo_ok X G (c.fact 32 (f := g32) rfl), Hd.fun_of F28⟩,
    ⟨_, _, He.glo_ok X G (c.fact 33 (f := g33) rfl), Hd.fun_of F29⟩,
    ⟨_, _, He.glo_ok X G (c.fact 34 (f := g34) rfl), Hd.fun_of F30⟩,
    ⟨_, _, He.glo_ok X G (c.fact 35 (f := g35) rfl), Hd.fun_of F31⟩,
    ⟨_, _, He.glo_ok X G (c.fact 36 (f := g36) rfl), Hd.fun_of F32⟩,
    ⟨_, _, He.glo_ok X G (c.fact 37 (f := g37) rfl), Hd.fun_of F33⟩,
    ⟨_, _, He.glo_ok X G (c.fact 38 (f := g38) rfl), Hd.fun_of F34⟩,
    ⟨_, _, He.glo_ok X G (c.fact 39 (f := g39) rfl), Hd.fun_of F35⟩,
    ⟨_, _, He.glo_ok X G (c.fact 40 (f := g40) rfl), Hd.fun_of F36⟩,
    ⟨_, _, He.glo_ok X G (c.fact 41 (f := g41) rfl), Hd.fun_of F37⟩,
    ⟨_, _, He.glo_ok X G (c.fact 42 (f := g42) rfl), Hd.fun_of F38⟩,
    ⟨_, _, He.glo_ok X G (c.fact 43 (f := g43) rfl), Hd.fun_of F39⟩,
    ⟨_, _, He.glo_ok X G (c.fact 44 (f := g44) rfl), Hd.fun_of F40⟩,
    ⟨_, _, He.glo_ok X G (c.fact 45 (f := g45) rfl), Hd.fun_of F41⟩,
    He.free_ok X G (c.fact 46 (f := g46) rfl),
    He.free_ok X G (c.fact 47 (f := g47) rfl),
    He.free_ok X G (c.fact 48 (f := g48) rfl),
    He.free_ok X G (c.fact 49 (f := g49) rfl),
    He.free_ok X G (c.fact 50 (f := g50) rfl),
    He.free_ok X G (c.fact 51 (f := g51) rfl),
    He.free_ok X G (c.fact 52 (f := g52) rfl),
    He.free_ok X G (c.fact 53 (f := g53) rfl),
    He.free_ok X G (c.fact 54 (f := g54) rfl),
    He.free_ok X G (c.fact 55 (f := g55) rfl),
    He.free_ok X G (c.fact 56 (f := g56) rfl),
    He.free_ok X G (c.fact 57 (f := g57) rfl),
    He.free_ok X G (c.fact 58 (f := g58) rfl),
    He.free_ok X G (c.fact 59 (f := g59) rfl),
    He.free_ok X G (c.fact 60 (f := g60) rfl),
    He.free_ok X G (c.fact 61 (f := g61) rfl),
    He.free_ok X G (c.fact 62 (f := g62) rfl),
    He.int_ok X G (c.fact 63 (f := g63) rfl),
    He.int_ok X G (c.fact 64 (f := g64) rfl),
    He.int_ok X G (c.fact 65 (f := g65) rfl),
    He.int_ok X G (c.fact 66 (f := g66) rfl),
    He.int_ok X G (c.fact 67 (f := g67) rfl),
    Hd.blt_ok X G (c.fact 68 (f := g68) rfl),
    Hd.blt_ok X G (c.fact 69 (f := g69) rfl),
    ⟨_, He.glo_ok X G (c.fact 70 (f := g70) rfl), fun H => Hd.ints_ok (c.fact 71 (f := g71) rfl) H⟩⟩
  have e := hfa.symm.trans (He.glo_ok X G (c.fact 45 (f := g45) rfl))
  cases e
  have b := FunD.bindsA (ps := ["_law_script"]) F41 fun _ _ _ _ _ _ us hl => match us, hl with | [_], _ => rfl
  exact ⟨fd41, fun s v => b s [v] rfl, fun base _ _ => ok_law0 (P := P) (w := w) (base := base) T (Hd.fun_of F41)⟩
end K52
open PySem PySem.W PySem.Calls PyProof.Rows
set_option maxHeartbeats 0 in
theorem PySem.Challenge.cw_formrings_k52_whole_kinds_by_roots_and_r_holds : PySem.Challenge.rw_formrings_k52_whole_kinds_by_roots_and_r.Holds := by
  w_on; o_law
  refine HandSHeadRun.head_imp (r := OpenLaw.row PySem.Challenge.rw_formrings_k52_whole_kinds_by_roots_and_r) (q := K52.vw) (H := K52.hk) (ob := K52.ob) (M := 12000) (loose := K52.names) (d := HandSHeadRun.topDef (OpenLaw.row PySem.Challenge.rw_formrings_k52_whole_kinds_by_roots_and_r).prog 91) (kwd := []) K52.ob_eq K52.run (by kernel_rfl) (by kernel_rfl) (by kernel_rfl) (by rfl) (by first | assumption | decide +kernel) (by decide +kernel) ⟨rfl, rfl, rfl, rfl, rfl, by decide +kernel⟩ ?hw ?hc
  case hw => w_witness2
  case hc =>
    refine L2.walk_ofE (l := PySem.Challenge.rw_formrings_k52_whole_kinds_by_roots_and_r) (n := 63) (k := 10) (x := "_law_script") (CX := L2.CX0) rfl (by decide) (by kernel_rfl) ⟨rfl, by decide, by decide⟩ ?F (fun _ _ _ _ z => z)
    intro w mg fa h Y G hmg0
    obtain ⟨K, KX, c⟩ := Y
    have hmg : mg ("law" : PySem.Str) = some (.ref fa) := by
      have e : (HandSHeadRun.topDef (OpenLaw.row PySem.Challenge.rw_formrings_k52_whole_kinds_by_roots_and_r).prog 91).name = ("law" : PySem.Str) := by kernel_rfl
      rw [← e]
      exact hmg0
    obtain ⟨fd, hb, hF⟩ := K52.facts (P := (PySem.Challenge.rw_formrings_k52_whole_kinds_by_roots_and_r).prog) (w := w) KX G hmg c
    exact ⟨K, fd, K52.sp_lawW K, KX, hb, fun H a ns hl _ hS => ⟨a, ns, rfl, hS, hl, fun _ => rfl⟩, hF⟩
