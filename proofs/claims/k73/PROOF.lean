import PyProof.Rows.All
import Wide.All
import OpenK.AllK
import Wide.FinOn
import HandS.ForMost
import HandS.Wide
import HandS.WideBits
import HandS.Gcd
import HandS.IsInst
import HandS.Style
import HandS.Evl
import Flt.RightSqrt
import HandS.More
import HandS.OwnEq
import HandS.Property
import HandS.Star
import KE.KOpsOwn
import HandS.ForExc
import HandS.HeadHook1
import OpenK.KMeth
import HandS.Walk
import HandS.Zip
import KE.GoesEnum
import OpenK.KOps
import PyProof.Rows.Range3
import PyProof.Conv_bool
import HandS.List
import PyProof.ConsumeWalk
import PyProof.TupleIter
import KE.GoesZip
import KE.GoesMore
import HandS.Defaults
import KE.IntBitsLaws
import HandS.TupMul
import HandS.TupAny
import HandS.TryOnly
import HandS.Text
import HandS.FStr
import HandS.RaiseMore
import HandS.Sort
import HandS.SortRule
import HandS.Dict
import KE.KStateDown
import HandS.Base
import HandS.Call
import HandS.Ends
import HandS.Words
import HandS.Head0
import HandS.Head1
import HandS.Head2
import HandS.Head3
import HandS.HeadEnd
import HandS.HeadHook2
import PySem.Challenge.RW_formrings_k73_whole_ways_from_makers
set_option Elab.async false
set_option linter.all false
set_option maxRecDepth 100000
set_option maxHeartbeats 4000000
namespace Fr
open PySem PySem.Spec PyProof.Rows L2
open Evl (Ex)
def Def (P : Program) (w : World) (K : PySem.W.Frag) (mg : Str → Option Value) (base : Heap) (k : Nat) (x : Str) (ps : List Str) (sp : Sp) : Prop :=
  ∃ f fd, mg x = some (.ref f) ∧ PySem.W.keepIn K (.ref f) = true ∧ Binds K fd ps [] ∧ FnOk P w K mg base CX0 k f fd ps sp
structure Fm (S : Addr → Prop) (I : Hp → Prop) : Prop where
  fresh : ∀ {H D}, I H → H D = none → ¬ S D
  stay : ∀ {H D o}, ¬ S D → I H → I (upd H D o)
def Fx (S : Addr → Prop) (I : Hp → Prop) (H H' : Hp) : Prop := I H' ∧ ∀ b o, ¬ S b → H b = some o → H' b = some o
section
variable {S : Addr → Prop} {I : Hp → Prop} {H H1 H2 : Hp}
theorem Fx.refl (i : I H) : Fx S I H H := ⟨i, fun _ _ _ h => h⟩
theorem Fx.trans (a : Fx S I H H1) (b : Fx S I H1 H2) : Fx S I H H2 := ⟨b.1, fun x o n h => b.2 x o n (a.2 x o n h)⟩
theorem Fx.new (m : Fm S I) (i : I H) {p : Addr} {o : HO} (h : H p = none) : Fx S I H (upd H p o) := ⟨m.stay (m.fresh i h) i, fun b u _ e => by
  rw [upd_ne (ne_of_none e h)]
  exact e⟩
theorem Fx.mut (m : Fm S I) (a : Fx S I H H1) (i : I H) {p : Addr} {o : HO} (h : H p = none) : Fx S I H (upd H1 p o) := ⟨m.stay (m.fresh i h) a.1, fun b u n e => by
  rw [upd_ne (ne_of_none e h)]
  exact a.2 b u n e⟩
theorem Fx.at (a : Fx S I H H1) {p : Addr} {o : HO} (n : ¬ S p) (h : H p = some o) : H1 p = some o := a.2 p o n h
theorem Fx.sqT {K : PySem.W.Frag} (a : Fx S I H H1) {p : Addr} {xs : List V} (n : ¬ S p) (h : SqT K H p xs) : SqT K H1 p xs := by
  rcases h with (h | ⟨o, h⟩) | h
  · exact .inl (.inl (a.2 _ _ n h))
  · exact .inl (.inr ⟨o, a.2 _ _ n h⟩)
  · exact .inr h
theorem Fx.sqL {K : PySem.W.Frag} (a : Fx S I H H1) {p : Addr} {xs : List V} (n : ¬ S p) (h : SqL K H p xs) : SqL K H1 p xs := by
  rcases h with (h | ⟨o, h⟩) | h
  · exact .inl (.inl (a.2 _ _ n h))
  · exact .inl (.inr ⟨o, a.2 _ _ n h⟩)
  · exact .inr h
theorem Fx.free (a : Fx S I H H1) {p : Addr} (n : ¬ S p) (h : H1 p = none) : H p = none := by
  cases e : H p with
  | none => rfl
  | some o => rw [a.2 p o n e] at h; cases h
theorem Fx.free' (m : Fm S I) (a : Fx S I H H1) {p : Addr} (h : H1 p = none) : H p = none := a.free (m.fresh a.1 h) h
end
abbrev S0 : Addr → Prop := fun _ => False
abbrev I0 : Hp → Prop := fun _ => True
theorem fm0 : Fm S0 I0 := ⟨fun _ _ h => h, fun _ _ => trivial⟩
abbrev Ex0 : Hp → Hp → Prop := Fx S0 I0
theorem Ex0.of {H H' : Hp} (h : ∀ b o, H b = some o → H' b = some o) : Ex0 H H' := ⟨trivial, fun b o _ e => h b o e⟩
theorem Ex0.ap {H H' : Hp} (h : Ex0 H H') {b : Addr} {o : HO} (e : H b = some o) : H' b = some o := h.2 b o (fun z => z) e
theorem Ex0.refl (H : Hp) : Ex0 H H := Fx.refl trivial
theorem Ex0.new {H : Hp} {p : Addr} {o : HO} (h : H p = none) : Ex0 H (upd H p o) := Fx.new fm0 trivial h
def Cs (S : Addr → Prop) (I : Hp → Prop) (H : Hp) (P : Nat → List V → Hp → Prop) (D : Addr) (i : Nat) (H' : Hp) : Prop := Fx S I H H' ∧ ∃ acc, H' D = some (.lst acc) ∧ acc.length ≤ i ∧ P i acc H'
section
variable {K : PySem.W.Frag} {S : Addr → Prop} {I : Hp → Prop} {σ : L2.St} {H : Hp} {Q : Addr → Hp → Prop} {te : TE} {vs : List Nat} {g : TG} {tt : TT} {P : Nat → List V → Hp → Prop}
theorem cs_yes (m : Fm S I) (i0 : I H) {D : Addr} {i : Nat} {acc : List V} {H' H4 : Hp} {y : V} (hD : H D = none) (p1 : Fx S I H H') (p2 : H' D = some (.lst acc)) (p3 : acc.length ≤ i) (hi : i < 1000000) (e : Fx S I H' H4) (h : P (i + 1) (acc ++ [y]) (upd H4 D (.lst (acc ++ [y])))) :
    ∃ acc', H4 D = some (.lst acc') ∧ acc'.length < sizeLine ∧ Cs S I H P D (i + 1) (upd H4 D (.lst (acc' ++ [y]))) :=
  ⟨acc, e.2 _ _ (m.fresh i0 hD) p2, Nat.lt_of_le_of_lt p3 (Nat.lt_of_lt_of_le hi (by decide)), Fx.mut m (p1.trans e) i0 hD, _, upd_same, by rw [List.length_append]; exact Nat.add_le_add_right p3 1, h⟩
theorem cs_no (m : Fm S I) (i0 : I H) {D : Addr} {i : Nat} {acc : List V} {H' H4 : Hp} (hD : H D = none) (p1 : Fx S I H H') (p2 : H' D = some (.lst acc)) (p3 : acc.length ≤ i) (e : Fx S I H' H4) (h : P (i + 1) acc H4) : Cs S I H P D (i + 1) H4 :=
  ⟨p1.trans e, acc, e.2 _ _ (m.fresh i0 hD) p2, Nat.le_succ_of_le p3, h⟩
theorem lcT (m : Fm S I) (i0 : I H) {a : Addr} {xs : List V} (hx : SqT K H a xs) (ha : ¬ S a) (P : Nat → List V → Hp → Prop) (p0 : ∀ D, H D = none → P 0 [] (upd H D (.lst [])))
    (hs : ∀ D i x acc H', H D = none → xs[i]? = some x → Fx S I H H' → H' D = some (.lst acc) → acc.length ≤ i → P i acc H' → g x (wipe σ vs) H' fun σ2 H2 => wipe σ2 vs = wipe σ vs ∧ tt σ2 H2 fun b H3 =>
      if b = true then te σ2 H3 fun y H4 => ∃ acc, H4 D = some (.lst acc) ∧ acc.length < sizeLine ∧ Cs S I H P D (i + 1) (upd H4 D (.lst (acc ++ [y]))) else Cs S I H P D (i + 1) H3)
    (q : ∀ D H' acc, H D = none → Fx S I H H' → H' D = some (.lst acc) → P xs.length acc H' → Q D H') :
    ∀ D, H D = none → ∃ W : Nat → Nat → Hp → Prop, (∃ m, W 0 m (upd H D (.lst []))) ∧ ∀ i m H, W i m H →
      ((Itt K a).stop i H ∧ Q D H) ∨ ((Itt K a).go i H ∧ ∃ Nx : Hp → Prop, (∀ H', Nx H' → ∃ m', m' < m ∧ W (i + 1) m' H') ∧ ∀ x H', (Itt K a).yld i H x H' → g x (wipe σ vs) H' fun σ2 H2 => wipe σ2 vs = wipe σ vs ∧ tt σ2 H2 fun b H3 =>
        if b = true then te σ2 H3 fun y H4 => ∃ acc, H4 D = some (.lst acc) ∧ acc.length < sizeLine ∧ Nx (upd H4 D (.lst (acc ++ [y]))) else Nx H3) := fun D hD =>
  lc_tup (xs := xs) (Cs S I H P D) ⟨Fx.new m i0 hD, [], upd_same, Nat.le_refl _, p0 D hD⟩ (fun i H' _ p => p.1.sqT ha hx)
    (fun i x H' hi p => by
      obtain ⟨p1, acc, p2, p3, p4⟩ := p
      exact hs D i x acc H' hD hi p1 p2 p3 p4)
    (fun H' p => by
      obtain ⟨p1, acc, p2, p3, p4⟩ := p
      exact q D H' acc hD p1 p2 p4)
theorem lcL (m : Fm S I) (i0 : I H) {a : Addr} {xs : List V} (hx : SqL K H a xs) (ha : ¬ S a) (P : Nat → List V → Hp → Prop) (p0 : ∀ D, H D = none → P 0 [] (upd H D (.lst [])))
    (hs : ∀ D i x acc H', H D = none → xs[i]? = some x → Fx S I H H' → H' D = some (.lst acc) → acc.length ≤ i → P i acc H' → g x (wipe σ vs) H' fun σ2 H2 => wipe σ2 vs = wipe σ vs ∧ tt σ2 H2 fun b H3 =>
      if b = true then te σ2 H3 fun y H4 => ∃ acc, H4 D = some (.lst acc) ∧ acc.length < sizeLine ∧ Cs S I H P D (i + 1) (upd H4 D (.lst (acc ++ [y]))) else Cs S I H P D (i + 1) H3)
    (q : ∀ D H' acc, H D = none → Fx S I H H' → H' D = some (.lst acc) → P xs.length acc H' → Q D H') :
    ∀ D, H D = none → ∃ W : Nat → Nat → Hp → Prop, (∃ m, W 0 m (upd H D (.lst []))) ∧ ∀ i m H, W i m H →
      ((Itl K a).stop i H ∧ Q D H) ∨ ((Itl K a).go i H ∧ ∃ Nx : Hp → Prop, (∀ H', Nx H' → ∃ m', m' < m ∧ W (i + 1) m' H') ∧ ∀ x H', (Itl K a).yld i H x H' → g x (wipe σ vs) H' fun σ2 H2 => wipe σ2 vs = wipe σ vs ∧ tt σ2 H2 fun b H3 =>
        if b = true then te σ2 H3 fun y H4 => ∃ acc, H4 D = some (.lst acc) ∧ acc.length < sizeLine ∧ Nx (upd H4 D (.lst (acc ++ [y]))) else Nx H3) := fun D hD =>
  lc_list (xs := xs) (Cs S I H P D) ⟨Fx.new m i0 hD, [], upd_same, Nat.le_refl _, p0 D hD⟩ (fun i H' _ p => p.1.sqL ha hx)
    (fun i x H' hi p => by
      obtain ⟨p1, acc, p2, p3, p4⟩ := p
      exact hs D i x acc H' hD hi p1 p2 p3 p4)
    (fun H' p => by
      obtain ⟨p1, acc, p2, p3, p4⟩ := p
      exact q D H' acc hD p1 p2 p4)
theorem lcR (m : Fm S I) (i0 : I H) {lo : Int} {n : Nat} (P : Nat → List V → Hp → Prop) (p0 : ∀ D, H D = none → P 0 [] (upd H D (.lst [])))
    (hs : ∀ D i acc H', H D = none → i < n → Fx S I H H' → H' D = some (.lst acc) → acc.length ≤ i → P i acc H' → g (.int (lo + i)) (wipe σ vs) H' fun σ2 H2 => wipe σ2 vs = wipe σ vs ∧ tt σ2 H2 fun b H3 =>
      if b = true then te σ2 H3 fun y H4 => ∃ acc, H4 D = some (.lst acc) ∧ acc.length < sizeLine ∧ Cs S I H P D (i + 1) (upd H4 D (.lst (acc ++ [y]))) else Cs S I H P D (i + 1) H3)
    (q : ∀ D H' acc, H D = none → Fx S I H H' → H' D = some (.lst acc) → P n acc H' → Q D H') :
    ∀ D, H D = none → ∃ W : Nat → Nat → Hp → Prop, (∃ m, W 0 m (upd H D (.lst []))) ∧ ∀ i m H, W i m H →
      ((Itr lo n).stop i H ∧ Q D H) ∨ ((Itr lo n).go i H ∧ ∃ Nx : Hp → Prop, (∀ H', Nx H' → ∃ m', m' < m ∧ W (i + 1) m' H') ∧ ∀ x H', (Itr lo n).yld i H x H' → g x (wipe σ vs) H' fun σ2 H2 => wipe σ2 vs = wipe σ vs ∧ tt σ2 H2 fun b H3 =>
        if b = true then te σ2 H3 fun y H4 => ∃ acc, H4 D = some (.lst acc) ∧ acc.length < sizeLine ∧ Nx (upd H4 D (.lst (acc ++ [y]))) else Nx H3) := fun D hD =>
  lc_range (lo := lo) (n := n) (Cs S I H P D) ⟨Fx.new m i0 hD, [], upd_same, Nat.le_refl _, p0 D hD⟩
    (fun i H' hi p => by
      obtain ⟨p1, acc, p2, p3, p4⟩ := p
      exact hs D i acc H' hD hi p1 p2 p3 p4)
    (fun H' p => by
      obtain ⟨p1, acc, p2, p3, p4⟩ := p
      exact q D H' acc hD p1 p2 p4)
end
theorem log_lt {i : Int} {a : Nat} (h : i.natAbs < 2 ^ a) (h0 : 0 < a) : i.natAbs.log2 < a := by
  by_cases z : i.natAbs = 0
  · rw [z]
    exact h0
  · exact (Nat.log2_lt z).mpr h
theorem mw {i j : Int} (h1 : -(2 ^ 250) < i) (h2 : i < 2 ^ 250) (h3 : -(2 ^ 250) < j) (h4 : j < 2 ^ 250) : CMulW i j :=
  wide_mul (a := 250) (b := 250) (by omega) (by omega) (by decide) (by decide) (by decide)
theorem dw {i j : Int} (h : 0 < j) (h4 : j < 2 ^ 250) : CDivW i j := wide_div (b := 250) h (by omega) (by decide) (by decide)
theorem iteB {b : Bool} {A B : Prop} (h1 : b = true → A) (h2 : b = false → B) : if b = true then A else B := by
  cases b with
  | true => rw [if_pos rfl]; exact h1 rfl
  | false => rw [if_neg Bool.false_ne_true]; exact h2 rfl
theorem iteD {c : Prop} [Decidable c] {A B : Prop} (h1 : c → A) (h2 : ¬ c → B) : if decide c = true then A else B :=
  iteB (fun h => h1 (of_decide_eq_true h)) (fun h => h2 (of_decide_eq_false h))
theorem iteN {c : Prop} [Decidable c] {A B : Prop} (h1 : ¬ c → A) (h2 : c → B) : if (!decide c) = true then A else B := by
  by_cases h : c
  · rw [decide_eq_true h]; exact iteF (h2 h)
  · rw [decide_eq_false h]; exact iteT (h1 h)
theorem dT {c : Prop} [Decidable c] {A B : Prop} (h : c) (a : A) : if decide c = true then A else B := by rw [decide_eq_true h, if_pos rfl]; exact a
theorem dF {c : Prop} [Decidable c] {A B : Prop} (h : ¬ c) (a : B) : if decide c = true then A else B := by rw [decide_eq_false h, if_neg Bool.false_ne_true]; exact a
theorem ndT {c : Prop} [Decidable c] {A B : Prop} (h : ¬ c) (a : A) : if (!decide c) = true then A else B := by rw [decide_eq_false h]; exact iteT a
theorem ndF {c : Prop} [Decidable c] {A B : Prop} (h : c) (a : B) : if (!decide c) = true then A else B := by rw [decide_eq_true h]; exact iteF a
theorem sl1 : 1 ≤ sizeLine := by decide
theorem sl2 : 2 ≤ sizeLine := by decide
theorem sl3 : 3 ≤ sizeLine := by decide
theorem sl4 : 4 ≤ sizeLine := by decide
theorem sl5 : 5 ≤ sizeLine := by decide
theorem sl6 : 6 ≤ sizeLine := by decide
theorem sl8 : 8 ≤ sizeLine := by decide
theorem slN {n : Nat} (h : n ≤ 1000000) : n ≤ sizeLine := Nat.le_trans h (by decide)
section
variable {X : Cx}
def rIsqrt : List V → Hp → VK → Prop := fun vs H Q => ∃ a : Int, vs = [.int a] ∧ 0 ≤ a ∧ a < 2 ^ 64 ∧ ∀ r : Int, 0 ≤ r → r * r ≤ a → a < (r + 1) * (r + 1) → Q (.int r) H
theorem cr_isqrt : CallR X (.builtin "math.isqrt") rIsqrt := by
  intro pins s σ H vs us Q I r h
  obtain ⟨a, rfl, h0, h1, q⟩ := h
  obtain ⟨u, rfl, ru⟩ := Vals.one r
  obtain ⟨t, rfl⟩ := ru
  have sp := PySem.Float64.isqrt_spec a.toNat
  refine PySem.W.mg_isqrt h0 h1 ⟨.int _, H, I.tok _, ⟨_, rfl⟩, q _ (Int.natCast_nonneg _) ?_ ?_⟩
  · have := sp.1
    have e : ((Float64.isqrt a.toNat * Float64.isqrt a.toNat : Nat) : Int) ≤ (a.toNat : Int) := Int.ofNat_le.mpr this
    rw [Int.toNat_of_nonneg h0] at e
    simpa using e
  · have := sp.2
    have e : (a.toNat : Int) < (((Float64.isqrt a.toNat + 1) * (Float64.isqrt a.toNat + 1) : Nat) : Int) := Int.ofNat_lt.mpr this
    rw [Int.toNat_of_nonneg h0] at e
    simpa using e
end
end Fr
namespace Fr
open PySem PySem.Spec PyProof.Rows L2
section
variable {X : Cx}
def CPowC (i j : Int) : Prop := 0 ≤ j ∧ (Builtin.Int.intBits i : Int) * j ≤ 2 ^ 27
theorem op_powC : OpR X (binaryOp .Pow) (rI CPowC fun i j => .int (i ^ j.toNat)) := opI fun _ _ _ _ _ _ _ hc q => PyProof.Rows.pow_int hc.1 hc.2 q
end
end Fr
namespace Fr
open PySem PySem.Spec PyProof.Rows L2
theorem deI {i j : Int} : decide (V.int i = V.int j) = decide (i = j) := by
  rw [dec_int]
  rfl
theorem iteE {i j : Int} {A B : Prop} (h1 : i = j → A) (h2 : i ≠ j → B) : if decide (V.int i = V.int j) = true then A else B := by
  rw [deI]
  exact iteD h1 h2
theorem iteEn {i j : Int} {A B : Prop} (h1 : i ≠ j → A) (h2 : i = j → B) : if (!decide (V.int i = V.int j)) = true then A else B := by
  rw [deI]
  exact iteN h1 h2
end Fr
namespace Fr
open PySem PySem.Spec PyProof.Rows L2
def inb (lo hi : Int) : V → Bool
  | .int i => decide (lo ≤ i) && decide (i ≤ hi)
  | _ => false
theorem in_b {lo hi : Int} {xs : List V} {v : V} (hv : v ∈ xs) (h : xs.all (inb lo hi) = true) : ∃ f : Int, v = .int f ∧ lo ≤ f ∧ f ≤ hi := by
  have := List.all_eq_true.mp h v hv
  cases v with
  | int i =>
    unfold inb at this
    rw [Bool.and_eq_true, decide_eq_true_iff, decide_eq_true_iff] at this
    exact ⟨i, rfl, this.1, this.2⟩
  | _ => cases this
theorem shaped_ints (ns : List Int) : SeqAt.shaped (.list (ns.map .int)) = true := by
  have h : PyData.canLayAll0 (ns.map PyData.int) = true ∧ PyData.depthAll (ns.map PyData.int) ≤ 1 := by
    induction ns with
    | nil => exact ⟨rfl, by simp [PyData.depthAll]⟩
    | cons n r ih =>
      refine ⟨?_, ?_⟩
      · rw [List.map_cons, PyData.canLayAll0, PyData.canLay0, ih.1]; rfl
      · rw [List.map_cons, PyData.depthAll, PyData.depth]; exact Nat.max_le.mpr ⟨by decide, ih.2⟩
  unfold SeqAt.shaped
  rw [PyData.canLay0, PyData.depth, h.1]
  simp
  omega
theorem dp_ints {K : PySem.W.Frag} {H : Hp} : ∀ ns : List Int, DpAll K H (ns.map V.int) (ns.map PyData.int)
  | [] => .nil
  | n :: r => .cons (.int n) (dp_ints r)
theorem eqv_ints : ∀ ns ms : List Int, PyData.eqvAll (ns.map PyData.int) (ms.map PyData.int) = decide (ns = ms)
  | [], [] => rfl
  | [], m :: ms => rfl
  | n :: ns, [] => rfl
  | n :: ns, m :: ms => by
    rw [List.map_cons, List.map_cons, PyData.eqvAll, PyData.eqv, eqv_ints ns ms]
    apply Bool.eq_iff_iff.mpr
    simp
def pr2 (q : Nat × Nat) : PyData := .tuple [.int (q.1 : Int), .int (q.2 : Int)]
theorem shaped_prs (fs : List (Nat × Nat)) : SeqAt.shaped (.tuple (fs.map pr2)) = true := by
  have h : PyData.canLayAll0 (fs.map pr2) = true ∧ PyData.depthAll (fs.map pr2) ≤ 2 := by
    induction fs with
    | nil => exact ⟨rfl, by simp [PyData.depthAll]⟩
    | cons n r ih =>
      refine ⟨?_, ?_⟩
      · rw [List.map_cons, PyData.canLayAll0, ih.1]; simp [pr2, PyData.canLay0, PyData.canLayAll0]
      · rw [List.map_cons, PyData.depthAll]; exact Nat.max_le.mpr ⟨by simp [pr2, PyData.depth, PyData.depthAll], ih.2⟩
  unfold SeqAt.shaped
  rw [PyData.canLay0, PyData.depth, h.1]
  simp
  omega
theorem eqv_prs : ∀ fs gs : List (Nat × Nat), PyData.eqvAll (fs.map pr2) (gs.map pr2) = decide (fs = gs)
  | [], [] => rfl
  | [], m :: ms => rfl
  | n :: ns, [] => rfl
  | (a, b) :: ns, (c, d) :: ms => by
    rw [List.map_cons, List.map_cons, PyData.eqvAll, eqv_prs ns ms]
    apply Bool.eq_iff_iff.mpr
    simp [pr2, PyData.eqv, PyData.eqvAll]
    omega
end Fr
namespace Fr
open PySem PySem.Spec PyProof.Rows L2
def B (a : Nat) (i : Int) : Prop := i.natAbs < 2 ^ a ∧ 0 < a
theorem two_pow_two {a : Nat} (h : 0 < a) : 2 ≤ 2 ^ a := by
  obtain ⟨k, rfl⟩ : ∃ k, a = k + 1 := ⟨a - 1, by omega⟩
  rw [Nat.pow_succ]
  have := Nat.two_pow_pos k
  omega
theorem pow_sum {a b : Nat} (ha : 0 < a) (hb : 0 < b) : 2 ^ a + 2 ^ b ≤ 2 ^ (a + b) := by
  rw [Nat.pow_add]
  have h1 := two_pow_two ha
  have h2 := two_pow_two hb
  generalize 2 ^ a = x at *
  generalize 2 ^ b = y at *
  have := Nat.mul_le_mul h1 (Nat.le_refl y)
  have := Nat.mul_le_mul (Nat.le_refl x) h2
  rcases Nat.le_total x y with h | h <;> omega
theorem B.mul {a b : Nat} {i j : Int} (h1 : B a i) (h2 : B b j) : B (a + b) (i * j) := ⟨wide_lt h1.1 h2.1, Nat.add_pos_left h1.2 _⟩
theorem B.add {a b : Nat} {i j : Int} (h1 : B a i) (h2 : B b j) : B (a + b) (i + j) :=
  ⟨Nat.lt_of_lt_of_le (by have := h1.1; have := h2.1; omega : (i + j).natAbs < 2 ^ a + 2 ^ b) (pow_sum h1.2 h2.2), Nat.add_pos_left h1.2 _⟩
theorem B.sub {a b : Nat} {i j : Int} (h1 : B a i) (h2 : B b j) : B (a + b) (i - j) :=
  ⟨Nat.lt_of_lt_of_le (by have := h1.1; have := h2.1; omega : (i - j).natAbs < 2 ^ a + 2 ^ b) (pow_sum h1.2 h2.2), Nat.add_pos_left h1.2 _⟩
theorem B.neg {a : Nat} {i : Int} (h1 : B a i) : B a (-i) := ⟨by rw [Int.natAbs_neg]; exact h1.1, h1.2⟩
theorem B.lit {i : Int} (h : i.natAbs < 2 ^ 64) : B 64 i := ⟨h, by decide⟩
theorem B.mono {a b : Nat} {i : Int} (h : B a i) (hab : a ≤ b) : B b i := ⟨Nat.lt_of_lt_of_le h.1 (Nat.pow_le_pow_right (by decide) hab), Nat.lt_of_lt_of_le h.2 hab⟩
theorem mulB {a b : Nat} {i j : Int} (h1 : B a i) (h2 : B b j) (h : a + b ≤ 1000000) : CMulW i j := wide_mul h1.1 h2.1 h1.2 h2.2 h
end Fr
namespace Fr
open PySem PySem.Spec PyProof.Rows L2
theorem shaped_tints (ns : List Int) : SeqAt.shaped (.tuple (ns.map .int)) = true := by
  have h : PyData.canLayAll0 (ns.map .int) = true ∧ PyData.depthAll (ns.map .int) ≤ 1 := by
    induction ns with
    | nil => exact ⟨rfl, by simp [PyData.depthAll]⟩
    | cons n r ih =>
      refine ⟨?_, ?_⟩
      · rw [List.map_cons, PyData.canLayAll0, ih.1]; simp [PyData.canLay0]
      · rw [List.map_cons, PyData.depthAll]; exact Nat.max_le.mpr ⟨by simp [PyData.depth], ih.2⟩
  unfold SeqAt.shaped
  rw [PyData.canLay0, PyData.depth, h.1]
  simp
  omega
end Fr
namespace Fr
open PySem PySem.Spec PyProof.Rows L2
section
variable {M : Model} {prog : Program} {w : World} {A : Around} {E : Value → Shared → Prop} {s : Shared} {K : PySem.W.Frag} {x C f : Addr} {ox : Obj} {od : Option Obj}
theorem ifBound_ne {args : List Value} {Q : Option Value → Shared → Prop} (X : K.In s.heap) (I : PySem.W.InstAt s.heap x ox C od) (hs : PySem.W.findIn K (.ref C) "__ne__" = some (some (.builtin "object.__ne__")))
    (h : wpAny M A (call (.builtin "object.__ne__") (.ref x :: args)) (fun v => Q (some v)) E s) : wpAny M A (callSpecialIfBound? (.ref x) "__ne__" args) Q E s := by
  simp only [callSpecialIfBound?, bindSpecialIfBound?]
  refine wpAny_holding (wpAny_bind (wpAny_bind (wpAny_bind (I.type.here ((PySem.W.looks_findIn X hs).here ?_)))))
  refine wpAny_bind (wpAny_askSetting (wpAny_ite ?_))
  have fin : wpAny M A (call (.builtin "object.__ne__") ([.ref x] ++ args) >>= fun v => pure (some v)) Q E s := wpAny_bind (wpAny_mono h (fun v s' h' => wpAny_pure h') fun _ _ h' => h')
  split
  · exact wpAny_bind (wpAny_of_eq (F.cmp_object.ne.bind _) (wpAny_pure (by exact fin)))
  · exact wpAny_tryCatch (wpAny_bind (wpAny_of_eq (F.cmp_object.ne.bind _) (wpAny_pure (by exact fin))))
def NeB (Q : Value → Shared → Prop) (v : Value) (s' : Shared) : Prop := ∃ b, v = .bool b ∧ Q (.bool (!b)) s'
theorem entry_ne {b : Value} {Q : Fin → Shared → Prop} (hu : A.units < cLine) (X : K.In s.heap) (I : PySem.W.InstAt s.heap x ox C od) (hs : PySem.W.findIn K (.ref C) "__eq__" = some (some (.ref f))) (hf : PySem.W.isFn K (.ref f) = true)
    (h : wpAny (model prog w) A (call (.ref f) [.ref x, b]) (NeB fun v s' => Q (.done (.ret v)) s') E s) : wpAny (model prog w) A (Builtin.«object.__ne__» ⟨[.ref x, b], []⟩) Q E s := by
  unfold Builtin.«object.__ne__»
  repeat (first | with_reducible refine wpAny_cRoomFor hu ?_ | (refine wpAny_bind (PySem.W.ifBound_K X I hs hf (wpAny_mono h (fun v s' hv => ?_) fun _ _ e => e))) | wp_step)
  all_goals (obtain ⟨b', rfl, q⟩ := hv)
  all_goals (repeat (first | wp_step))
  all_goals exact q
theorem ne_K {h₀ : Heap} {L : Addr} {m : Str → Option Value} {b tb : Value} {Q : Value → Shared → Prop} (hu : A.units + 1 < cLine) (F : Fr h₀ L s.heap m) (X₀ : K.In h₀) (I : PySem.W.InstAt s.heap x ox C od) (hb : PySem.W.Looks (model prog w) s.heap (typeOf b) tb) (hn : PySem.W.notFirst K C tb = true)
    (hne : PySem.W.findIn K (.ref C) "__ne__" = some (some (.builtin "object.__ne__"))) (hs : PySem.W.findIn K (.ref C) "__eq__" = some (some (.ref f))) (hf : PySem.W.isFn K (.ref f) = true) (hm : PySem.W.mroIn K C (.type "object") = some true)
    (h : wpAny (model prog w) A.in1 (call (.ref f) [.ref x, b]) (NeB Q) E s) : wpAny (model prog w) A (richCompare .NotEq (.ref x) b) Q E s := by
  have X := X₀.keeps F.keep
  have one : wpAny (model prog w) A (tryCompare (.ref x) "__ne__" b) (fun r s' => ∃ v, r = some v ∧ Q v s') E s := by
    unfold tryCompare
    refine wpAny_bind (ifBound_ne X I hne (wpAny_call (codeAny_call_builtin PySem.F.cmp_object.ne.plain PySem.F.cmpEntry_ne (PySem.W.check_slot PySem.F.cmpKind_ne PySem.F.cmpSplit_ne (I.type.andThen (PySem.W.looks_mroIn X hm)) (PySem.F.cmpArgs_ne _ _) ?_))))
    refine entry_ne (A := A.in1) hu X I hs hf (wpAny_mono h (fun v s' hv => ?_) fun _ _ e => e)
    obtain ⟨b', rfl, q⟩ := hv
    exact ⟨b', rfl, wpAny_pure ⟨_, rfl, q⟩⟩
  unfold richCompare
  simp only [oneThing_ref]
  refine wpAny_holding (wpAny_bind (wpAny_cRoomFor (Nat.lt_of_succ_lt hu) ?_))
  refine wpAny_bind (I.type.here (wpAny_bind (hb.here ?_)))
  split
  · rename_i q
    have e : PySem.W.subIn K tb (.ref C) = some false := by
      rcases Bool.or_eq_true_iff.mp hn with e | e
      · rw [beq_iff_eq.mp e] at q; simp at q
      · exact beq_iff_eq.mp e
    refine wpAny_bind ((PySem.W.looks_subIn X e).here ?_)
    simp only [Bool.false_eq_true, if_false]
    refine wpAny_bind (wpAny_mono one (fun r s' z => ?_) fun _ _ e => e)
    obtain ⟨v, rfl, hq⟩ := z
    exact wpAny_pure hq
  · refine wpAny_bind (wpAny_pure ?_)
    simp only [Bool.false_eq_true, if_false]
    refine wpAny_bind (wpAny_mono one (fun r s' z => ?_) fun _ _ e => e)
    obtain ⟨v, rfl, hq⟩ := z
    exact wpAny_pure hq
end
section
variable {X : Cx} {CX : CXT} {C f : Addr} {fd : FuncData} {ps : List Str} {k : Nat} {sp : Sp} {E : XK}
structure EqC (K : PySem.W.Frag) (C f : Addr) : Prop where
  eq : PySem.W.findIn K (.ref C) "__eq__" = some (some (.ref f))
  fn : PySem.W.isFn K (.ref f) = true
  ne : PySem.W.findIn K (.ref C) "__ne__" = some (some (.builtin "object.__ne__"))
  mo : PySem.W.mroIn K C (.type "object") = some true
def rEqI (K : PySem.W.Frag) (C : Addr) (sp : Sp) (E : XK) (neg : Bool) : R2 := fun x y H Q => ∃ a dx fs tb, x = .ref a ∧ H a = some (.ins C dx fs) ∧ TyX K H y tb ∧ PySem.W.notFirst K C tb = true ∧ sp [x, y] H (fun v H' => ∃ b, v = .bl b ∧ Q (.bl (if neg = true then !b else b)) H') E
theorem op_eqI (c : EqC X.K C f) (F : FnOk X.prog X.w X.K X.mg X.base CX k f fd ps sp) (hb : Binds X.K fd ps []) (hr : Room k X.A) (hx : Passes CX X E) : OpR X (compareOp .Eq) (rEqI X.K C sp E false) := by
  intro pins s σ H x y v u Q I rx ry h
  obtain ⟨a, dx, fs, tb, rfl, ha, ty, hn, q⟩ := h
  cases (show v = Value.ref a from rx)
  obtain ⟨mA, J, _⟩ := ins_get I.hok ha
  obtain ⟨od, J, _⟩ := J.look
  obtain ⟨m, hF⟩ := I.fr
  obtain ⟨P, kt, hP, _⟩ := kit_of I ry ty
  refine PySem.W.cmp_K (op := .Eq) hr.units0 hF I.ok.mod.kin J (kt.ty _ _ I.kIn hP) hn c.eq c.fn ?_
  refine wpAny_mono (run_fn (us := [.ref a, u]) (vs := [.ref a, y]) F hr hb .nil hx I (.cons rfl (.cons ry .nil)) q) (fun w s' z => ?_) fun _ _ x => x
  obtain ⟨z', H', I', rz, b, rfl, qz⟩ := z
  cases (show w = Value.bool b from rz)
  exact ⟨.bl b, H', I', rfl, qz⟩
theorem op_neI (c : EqC X.K C f) (F : FnOk X.prog X.w X.K X.mg X.base CX k f fd ps sp) (hb : Binds X.K fd ps []) (hr : Room (k + 1) X.A) (hx : Passes CX X E) : OpR X (compareOp .NotEq) (rEqI X.K C sp E true) := by
  intro pins s σ H x y v u Q I rx ry h
  obtain ⟨a, dx, fs, tb, rfl, ha, ty, hn, q⟩ := h
  cases (show v = Value.ref a from rx)
  obtain ⟨mA, J, _⟩ := ins_get I.hok ha
  obtain ⟨od, J, _⟩ := J.look
  obtain ⟨m, hF⟩ := I.fr
  obtain ⟨P, kt, hP, _⟩ := kit_of I ry ty
  refine ne_K (Nat.lt_of_le_of_lt (Nat.add_le_add_left (by decide : 1 ≤ 64) _) hr.units) hF I.ok.mod.kin J (kt.ty _ _ I.kIn hP) hn c.ne c.eq c.fn c.mo ?_
  refine wpAny_call (codeAny_mono ((F.raw hb .nil) X.A.in1 X.stack s H [.ref a, u] [.ref a, y] _ E hr.in1 I.env0.in1 (.cons rfl (.cons ry .nil)) q) fun r s' hq => ?_)
  cases r with
  | error e => exact hx pins σ H s e s' I hq
  | ok fl =>
    cases fl with
    | ret w =>
      obtain ⟨z', H', I', rz, b, rfl, qz⟩ := I.after hq
      cases (show w = Value.bool b from rz)
      exact ⟨b, rfl, .bl (!b), H', I', rfl, qz⟩
    | next => exact False.elim hq
    | brk => exact False.elim hq
    | cont => exact False.elim hq
structure TyI (K : PySem.W.Frag) (C : Addr) : Prop where
  ca : PySem.W.findIn K (.ref C) "__class__" = some (some (.builtin "object.__class__"))
  cn : PySem.W.specialIn K (.builtin "object.__class__") "__get__" = some (some (.builtin "getset_descriptor.__get__"))
  ct : PySem.W.takesIn K (.builtin "object.__class__") = some true
  cm : PySem.W.mroIn K C (.type "object") = some true
theorem ty_ins {K : PySem.W.Frag} {C a dx : Addr} {H : Hp} {fs : List (Str × V)} (t : TyI K C) (cl : Cls K C) (e : H a = some (.ins C dx fs)) : TyX K H (.ref a) (.ref C) := .base (.ins e cl t.ca t.cn t.ct t.cm)
theorem first_self {K : PySem.W.Frag} {C : Addr} : PySem.W.notFirst K C (.ref C) = true := by simp [PySem.W.notFirst]
theorem kit_self {K : PySem.W.Frag} {C : Addr} : PySem.W.kitOne K (.ref C) (.ref C) = some true := by simp [PySem.W.kitOne]
theorem un_negI (c : Meth X.K C "__neg__" f) (F : FnOk X.prog X.w X.K X.mg X.base CX k f fd ps sp) (hb : Binds X.K fd ps []) (hr : Room k X.A) (hx : Passes CX X E) :
    UnR X (unaryOp .USub) (fun x H Q => ∃ a dx fs, x = .ref a ∧ H a = some (.ins C dx fs) ∧ sp [x] H Q E) := by
  intro pins s σ H x v Q I rx h
  obtain ⟨a, dx, fs, rfl, ha, q⟩ := h
  cases (show v = Value.ref a from rx)
  obtain ⟨mA, J, _⟩ := ins_get I.hok ha
  obtain ⟨od, J, _⟩ := J.look
  obtain ⟨m, hF⟩ := I.fr
  exact PySem.W.ksp_neg hF I.ok.mod.kin J c.at_ c.fn (run_fn (us := [.ref a]) (vs := [.ref a]) F hr hb .nil hx I (.cons rfl .nil) q)
def MDef (R : Addr → Addr → Prop) (P : Program) (w : World) (K : PySem.W.Frag) (mg : Str → Option Value) (base : Heap) (k : Nat) (ps : List Str) (sp : Sp) : Prop :=
  ∃ p f fd, R p f ∧ Binds K fd ps [] ∧ FnOk P w K mg base CX0 k f fd ps sp
end
section
variable {X : Cx} {K : PySem.W.Frag}
theorem call_isiKK (hK : X.K = K) : CallR X (.builtin "isinstance") (rIsi K) := hK ▸ call_isi
end
section
variable {X : Cx}
theorem pi_or {tg l : Expr} {wa wb : TI} (a : PI X tg l wa) (b : PI X tg l wb) : PI X tg l (fun σ H R => wa σ H R ∨ wb σ H R) := ⟨fun pins s σ H R I h => h.elim (fun z => a.run pins s σ H R I z) (fun z => b.run pins s σ H R I z)⟩
end
abbrev XA (K : PySem.W.Frag) (x : Str) : Addr := He.ga K x
structure Xc (K : PySem.W.Frag) (mg : Str → Option Value) (x : Str) (bm : List Value) (newId : String) : Prop where
  g : mg x = some (.ref (XA K x))
  ex : PySem.W.excIn K (XA K x) bm newId = true
  kp : PySem.W.keepIn K (.ref (XA K x)) = true
  sb : PySem.W.subIn K (.ref (XA K x)) (.type "BaseException") = some true
  ty : PySem.W.typeIn K (.ref (XA K x)) = some (.type "type")
  te : PySem.W.exmOne K (.ref (XA K x)) (.ref (XA K x)) = some true
def DefX (P : Program) (w : World) (K : PySem.W.Frag) (mg : Str → Option Value) (base : Heap) (k : Nat) (x : Str) (ps : List Str) (sp : Sp) : Prop :=
  ∃ f fd, mg x = some (.ref f) ∧ PySem.W.keepIn K (.ref f) = true ∧ Binds K fd ps [] ∧ FnOk P w K mg base (L2.CX P w) k f fd ps sp
end Fr
set_option Elab.async false
set_option linter.all false
set_option maxRecDepth 100000
namespace Fr
open PySem PySem.Spec PyProof.Rows L2
section
variable {X : Cx} {CX : CXT} {C f : Addr} {fd : FuncData} {ps : List Str} {k : Nat} {sp : Sp} {E : XK}
structure BinC (K : PySem.W.Frag) (C : Addr) (m : Str) (f : Addr) : Prop where
  at_ : PySem.W.findIn K (.ref C) m = some (some (.ref f))
  fn : PySem.W.isFn K (.ref f) = true
  sf : PySem.W.selfFirst K C = true
def rBinI (C : Addr) (sp : Sp) (E : XK) : R2 := fun x y H Q => ∃ a b dx dy fx fy, x = .ref a ∧ y = .ref b ∧ H a = some (.ins C dx fx) ∧ H b = some (.ins C dy fy) ∧ sp [x, y] H (fun v H' => (∃ r, v = .ref r) ∧ Q v H') E
theorem op_binI {op : Operator} (c : BinC X.K C (PySem.dunder op.info.2) f) (F : FnOk X.prog X.w X.K X.mg X.base CX k f fd ps sp) (hb : Binds X.K fd ps []) (hr : Room k X.A) (hx : Passes CX X E) : OpR X (binaryOp op) (rBinI C sp E) := by
  intro pins s σ H x y v u Q I rx ry h
  obtain ⟨a, b, dx, dy, fx, fy, rfl, rfl, ha, hbb, q⟩ := h
  cases (show v = Value.ref a from rx)
  cases (show u = Value.ref b from ry)
  obtain ⟨mA, J, _⟩ := ins_get I.hok ha
  obtain ⟨od, J, _⟩ := J.look
  obtain ⟨mB, J2, _⟩ := ins_get I.hok hbb
  obtain ⟨od2, J2, _⟩ := J2.look
  obtain ⟨m, hF⟩ := I.fr
  refine PySem.W.binop_K hF I.ok.mod.kin J J2.type c.sf c.at_ c.fn ?_
  refine wpAny_mono (run_fn (us := [.ref a, .ref b]) (vs := [.ref a, .ref b]) F hr hb .nil hx I (.cons rfl (.cons rfl .nil)) q) (fun w s' z => ?_) fun _ _ x => x
  obtain ⟨z', H', I', rz, ⟨r, rfl⟩, qz⟩ := z
  cases (show w = Value.ref r from rz)
  exact ⟨.ref r, H', I', rfl, qz⟩
def MDefD (R : Addr → Addr → Prop) (P : Program) (w : World) (K : PySem.W.Frag) (mg : Str → Option Value) (base : Heap) (k : Nat) (ps : List Str) (dvs : List V) (sp : Sp) : Prop :=
  ∃ p f fd ds, R p f ∧ Binds K fd ps [] ∧ Vals dvs ds ∧ Binds K fd ps ds ∧ FnOk P w K mg base CX0 k f fd ps sp
variable {K : PySem.W.Frag}
theorem pi_tupK (hK : X.K = K) {tg l : Expr} {tl : TE} (hl : PE X l tl) : PI X tg l (iTup K tl) := hK ▸ pi_tup hl
theorem pi_listK (hK : X.K = K) {tg l : Expr} {tl : TE} (hl : PE X l tl) : PI X tg l (iList K tl) := hK ▸ pi_list hl
theorem ix_tupK (hK : X.K = K) : IxR X (rIxT K) := hK ▸ ix_tup
theorem ix_listK (hK : X.K = K) : IxR X (rIxL K) := hK ▸ ix_list
def rTupOf (K : PySem.W.Frag) : List V → Hp → VK → Prop := fun xs H Q => ∃ p ys, xs = [.ref p] ∧ ((SqL K H p ys ∧ ∀ l, H l = none → Q (.ref l) (upd H l (.tup ys))) ∨ (SqT K H p ys ∧ Q (.ref p) H))
theorem call_tuple_ofK (hK : X.K = K) : CallR X (.type "tuple") (rTupOf K) := hK ▸ call_tuple_of
theorem cr_sumK (hK : X.K = K) (hc : X.calm = true) : CallR X (.builtin "sum") (rSum K) := hK ▸ cr_sum hc
theorem cr_allK (hK : X.K = K) (hc : X.calm = true) : CallR X (.builtin "all") (rAll K) := hK ▸ cr_all hc
end
end Fr
set_option Elab.async false
set_option linter.all false
set_option maxRecDepth 100000
namespace Fr
open PySem PySem.Spec PyProof.Rows L2
set_option maxHeartbeats 1000000 in
theorem meets_en1 {v : Value} {o : Obj} {H : Heap → Prop} (B : Begins v o H) :
    Meets (Builtin.«enumerate.__new__» ⟨[.type "enumerate", v], []⟩) (fun _ R s => H s.heap ∧
      R (.ok (.ret (.ref (s.heap.push o).objs.size))) { s with heap := (s.heap.push o).push { cls := .type "enumerate", data := .fields #[.none, .bool false, .ref s.heap.objs.size, rawInt 0, .none, .none] } }) :=
  .of_wp fun prog w A R s h => by
    obtain ⟨hp, g, d, tk, os⟩ := s; obtain ⟨h1, h⟩ := h
    have hsub := sub_enumerate
    have q1 : ∀ {A' : Around} {E : Value → Shared → Prop} {Q : Value → Shared → Prop}, Q (.ref hp.objs.size) ⟨hp.push o, g, d, tk, os⟩ → wpAny (model prog w) A' (pyIter v) Q E ⟨hp, g, d, tk, os⟩ :=
      fun q => B.iter prog w _ _ ⟨hp, g, d, tk, os⟩ _ h1 q
    wp_walk using q1
    refine wpAny_stack_any fun st => wpAny_pure ?_
    split
    · rename_i c _ _ _ _ _
      cases (c == Value.type "enumerate")
      · wp_walk using q1
        exact ⟨_, rfl, h⟩
      · wp_walk using q1
        exact ⟨_, rfl, h⟩
    · wp_walk using q1
      exact ⟨_, rfl, h⟩
theorem call_en1 {prog : Program} {w : World} {A : Around} {E : Value → Shared → Prop} {s : Shared} {v : Value} {o : Obj} {H : Heap → Prop} {Q : Value → Shared → Prop} (B : Begins v o H) (h1 : H s.heap)
    (h : ∀ h', IsEnum h' (s.heap.objs.size + 1) s.heap.objs.size 0 .none → h'.get? s.heap.objs.size = some o → h'.objs.size = s.heap.objs.size + 2 →
      (∀ b o, s.heap.get? b = some o → h'.get? b = some o) → Q (.ref (s.heap.objs.size + 1)) { s with heap := h' }) :
    wpAny (model prog w) A (call (.type "enumerate") [v]) Q E s := by
  refine callType_new F.called_enumerate (by decide) (F.typeCall_enumerate_1 _) (F.newCall_enumerate_1 _) (fun obj => F.args_object_init_2 obj _) F.entry_enumerate_new (meets_en1 B) ⟨h1, ?_⟩
  have hz : (s.heap.push o).objs.size = s.heap.objs.size + 1 := Heap.size_push ..
  show _ ∧ _
  rw [hz]
  have he : IsEnum ((s.heap.push o).push { cls := .type "enumerate", data := .fields #[.none, .bool false, .ref s.heap.objs.size, rawInt 0, .none, .none] }) (s.heap.objs.size + 1) s.heap.objs.size 0 .none := by
    have := Heap.get?_push_size (s.heap.push o) (o := { cls := .type "enumerate", data := .fields #[.none, .bool false, .ref s.heap.objs.size, rawInt 0, .none, .none] }) rfl
    rw [hz] at this; exact this
  exact ⟨⟨_, he, rfl⟩, h _ he (Heap.get?_push_of_some _ (Heap.get?_push_size _ B.free)) (by rw [Heap.size_push, hz]) fun b o x => Heap.get?_push_of_some _ (Heap.get?_push_of_some _ x)⟩
def IteT (K : PySem.W.Frag) (a : Addr) : It :=
  ⟨fun i H => ∃ (xs : List V) (x : V), SqT K H a xs ∧ xs[i]? = some x, fun i H v H' => ∃ T x, v = .ref T ∧ H T = none ∧ H' = upd H T (.tup [.int (i : Nat), x]) ∧ ∀ xs, SqT K H a xs → xs[i]? = some x, fun i H => ∃ xs : List V, SqT K H a xs ∧ xs.length = i⟩
theorem turn_enumT {P : Program} {w : World} {K : PySem.W.Frag} {elts : List Expr} {kk : Nat} {tpos : Pos} (a e it : Addr) (hae : a ≠ it) :
    Turn P w K (.Tuple elts kk tpos) (IteT K a) [e, it] e (fun i h => (∃ old, IsEnum h e it ((i : Nat) : Int) old) ∧ h.IsTupleIter it a i ∧ e ≠ it) where
  mem := by simp
  obj := fun i h st b hb => by
    obtain ⟨⟨old, he⟩, ⟨o, ho, hc, hd⟩, _⟩ := st
    have e' : b = e ∨ b = it := by simpa using hb
    rcases e' with z | z
    · rw [z]; exact ⟨_, he, fun v q => nomatch q⟩
    · rw [z]; exact ⟨o, ho, fun v q => by rw [hd] at q; cases q⟩
  keep := fun i h h' st k => let ⟨⟨old, he⟩, hi, hne⟩ := st; ⟨⟨old, k e (by simp) _ he⟩, hi.at fun o q => k it (by simp) o q, hne⟩
  item := by
    intro X hP hw hK hc i pins s σ H E I hf st hg
    subst hP hw hK
    obtain ⟨⟨old, he⟩, hit, hne⟩ := st
    obtain ⟨xs, x, hq, hx⟩ := hg
    obtain ⟨its, rv, p, hz⟩ := I.tuple hq
    obtain ⟨u, hu, ru⟩ := rv.get hx
    have hel : e < s.heap.objs.size := Heap.lt_size he
    have hi : i < its.toArray.size := by
      have := (List.getElem?_eq_some_iff.mp hu).1
      simpa using this
    have hea : e ∉ [it, a] := fun z => by
      have z' : e = it ∨ e = a := by simpa using z
      rcases z' with z | z
      · exact hne z
      · obtain ⟨o, ho, hc', _⟩ := id p
        rw [← z, he] at ho
        cases ho
        injection hc' with z2
        exact absurd z2 (by decide)
    have D := Draws.tuple (prog := X.prog) (w := X.w) (A := X.A.in1) (I.ok.hd hc) it a hae its.toArray
    refine wpAny_pyNext_enum_itemC D he ⟨hit, p⟩ hi hne hea fun y h' tk hy ho hit' hT hsz hk => ?_
    obtain rfl : u = y := by
      have hu' : its.toArray[i]? = some u := by simpa using hu
      have hy' : its.toArray[i]? = some y := hy
      rw [hu'] at hy'
      exact Option.some.inj hy'
    refine ⟨_, rfl, wpAny_letOwnedTupleGo_enum (s := { s with heap := h', toks := tk + 1 }) ho fun h'' he' sb => ?_⟩
    have hT2 : h''.get? s.heap.objs.size = some { cls := .type "tuple", data := .seq #[.int i tk, u] } := (sb.2 _ (Nat.ne_of_gt hel)).trans hT
    have new : ObjOk X.prog X.w (upd H s.heap.objs.size (.tup [.int (i : Nat), x])) h'' s.heap.objs.size (.tup [.int (i : Nat), x]) :=
      ⟨by show 2 ≤ sizeLine; decide, [.int i tk, u], .cons ⟨_, rfl⟩ (.cons ru .nil), ⟨_, hT2, rfl, _, rfl⟩⟩
    have I1 : Inv X pins σ (upd H s.heap.objs.size (.tup [.int (i : Nat), x])) { s with heap := h'', toks := tk + 1 } :=
      I.turnedNew (ch := [e, it]) (fun b ob hb q => (sb.2 b (fun z => hb (by simp [z]))).trans (hk b ob (fun z => hb (by simp [z])) (fun z => hb (by simp [z])) q)) hf (Nat.le_refl _) new
    refine ⟨.ref s.heap.objs.size, _, I1, rfl, ⟨_, x, rfl, I.hok.fresh (Nat.le_refl _), rfl, fun ys hy => by rw [I.tuple_inj hy hq]; exact hx⟩, ⟨⟨u, ?_⟩, hit'.1.at fun o q => (sb.2 it (Ne.symm hne)).trans q, hne⟩, fun b hb => ?_⟩
    · have e1 : ((i + 1 : Nat) : Int) = (i : Int) + 1 := by omega
      rw [e1]; exact he'
    · have hb' : b < s.heap.objs.size := by
        have e' : b = e ∨ b = it := by simpa using hb
        rcases e' with z | z
        · rw [z]; exact hel
        · rw [z]; obtain ⟨_, q, _⟩ := hit; exact Heap.lt_size q
      rw [upd_ne (Nat.ne_of_lt hb')]
      exact (hf b hb).1
  done := by
    intro X hP hw hK hc i pins s σ H E I hf st hg
    subst hP hw hK
    obtain ⟨⟨old, he⟩, hit, hne⟩ := st
    obtain ⟨xs, hq, hx⟩ := hg
    obtain ⟨its, rv, p, hz⟩ := I.tuple hq
    obtain ⟨f0, f1, f2, f3, f4, f5⟩ := hf it (by simp)
    have hl := rv.length
    have D := Draws.tuple (prog := X.prog) (w := X.w) (A := X.A.in1) (I.ok.hd hc) it a hae its.toArray
    have hi : its.toArray.size = i := by simp; omega
    exact wpAny_pyNext_enum_endD D he (by rw [hi]; exact ⟨hit, p⟩) fun h' eb => ⟨rfl, I.turned (t' := s.toks) (fun b o hb q => eb b o hb q) f0 f1 f3 f4 f5⟩
  self := fun A i s Q E st h => let ⟨⟨_, he⟩, _⟩ := st; wpAny_pyIter_enum he h
def iEnumT (K : PySem.W.Frag) (ta : TA) : TI := fun σ H R => ta σ H fun vs H1 => ∃ a xs, vs = [.ref a] ∧ SqT K H1 a xs ∧ R (IteT K a) H1
theorem pi_enumT {X : Cx} {e : Expr} {ta : TA} {p pos tpos : Pos} {elts : List Expr} {kk : Nat} (hg : Gl X "enumerate") (hm : X.mg "enumerate" = none) (ha : PA X [e] ta) (hs : starEach [e] X.env = [(false, eval e X.env)] := by rfl) :
    PI X (.Tuple elts kk tpos) (.Call (.Name "enumerate" p) [e] [] pos) (iEnumT X.K ta) := by
  refine ⟨fun pins s σ H R I h => ?_⟩
  refine Call_ (ld_blt I hg hm boot_enumerate (PyProof.Rows.callWith_type1 (thn (ha.run pos pins s σ H _ I h) fun us s1 ⟨vs, H1, I1, r1, q1⟩ => ?_) hs rfl))
  obtain ⟨a, xs, ex, hq, q⟩ := q1
  subst ex
  cases r1 with
  | cons r rr =>
    cases rr
    cases r
    obtain ⟨its, rv, p', hz⟩ := I1.tuple hq
    have hal : a < s1.heap.objs.size := by obtain ⟨o, ho, _⟩ := id p'; exact Heap.lt_size ho
    refine call_en1 (begins_tuple a its.toArray) p' fun h' he hit hsz hk => wpAny_pyIter_enum he ?_
    have I2 : Inv X pins σ H1 { s1 with heap := h' } := I1.kept (t' := s1.toks) hk
    refine ⟨s1.heap.objs.size + 1, [s1.heap.objs.size + 1, s1.heap.objs.size], _, _, H1, rfl, I2, turn_enumT a (s1.heap.objs.size + 1) s1.heap.objs.size (Nat.ne_of_lt hal), ⟨⟨.none, he⟩, ⟨_, hit, rfl, rfl⟩, Nat.succ_ne_self _⟩, fun b hb => ?_, q⟩
    have e' : b = s1.heap.objs.size + 1 ∨ b = s1.heap.objs.size := by simpa using hb
    have hle : s1.heap.objs.size ≤ b := by
      rcases e' with z | z
      · rw [z]; exact Nat.le_add_right _ _
      · rw [z]; exact Nat.le_refl _
    exact I1.fpOk hle (I1.hok.fresh hle)
section
variable {K : PySem.W.Frag} {a b : Addr} {xs ys : List V}
theorem walk_enumT : Walk (IteT K a) xs.length (fun H => SqT K H a xs) (YPair (fun i => some (.int (i : Nat))) fun i => xs[i]?) :=
  ⟨fun i _ hi q => ⟨xs, xs[i], q, by simp [hi]⟩, fun _ q => ⟨xs, q, rfl⟩, fun i H v H' _ q y => by
    obtain ⟨T, x, rfl, hT, rfl, f⟩ := y
    exact ⟨T, _, x, rfl, hT, rfl, rfl, f xs q⟩⟩
theorem walk_zipT (hl : xs.length = ys.length) : Walk (RZ.ItzT K a b) xs.length (fun H => SqT K H a xs ∧ SqT K H b ys) (YPair (fun i => xs[i]?) fun i => ys[i]?) :=
  ⟨fun i _ hi q => ⟨xs, ys, xs[i], ys[i], q.1, q.2, by simp [hi], by simp [← hl, hi]⟩, fun _ q => ⟨xs, ys, q.1, q.2, .inl (Nat.le_refl _)⟩, fun i H v H' _ q y => by
    obtain ⟨T, x, y, rfl, hT, rfl, f1, f2⟩ := y
    exact ⟨T, x, y, rfl, hT, rfl, f1 xs q.1, f2 ys q.2⟩⟩
theorem walk_zipL (hl : xs.length = ys.length) : Walk (Itz K a b) xs.length (fun H => SqL K H a xs ∧ SqL K H b ys) (YPair (fun i => xs[i]?) fun i => ys[i]?) :=
  ⟨fun i _ hi q => ⟨xs, ys, xs[i], ys[i], q.1, q.2, by simp [hi], by simp [← hl, hi]⟩, fun _ q => ⟨xs, ys, q.1, q.2, .inl (Nat.le_refl _)⟩, fun i H v H' _ q y => by
    obtain ⟨T, x, y, rfl, hT, rfl, f1, f2⟩ := y
    exact ⟨T, x, y, rfl, hT, rfl, f1 xs q.1, f2 ys q.2⟩⟩
end
section
variable {S : Addr → Prop} {I : Hp → Prop} {H : Hp} {J : It} {n : Nat} {G : Hp → Prop} {fx fy : Nat → Option V} {g : TG} {tt : TT} {te : TE} {vs : List Nat} {σ : L2.St} {Q : Addr → Hp → Prop}
theorem lcP (w : Walk J n G (YPair fx fy)) (m : Fm S I) (i0 : I H) (hG : ∀ H', Fx S I H H' → G H') (P : Nat → List V → Hp → Prop) (p0 : ∀ D, H D = none → P 0 [] (upd H D (.lst [])))
    (hs : ∀ D i T x y acc H', H D = none → i < n → fx i = some x → fy i = some y → Fx S I H H' → H' D = some (.lst acc) → acc.length ≤ i → P i acc H' → H' T = none → g (.ref T) (wipe σ vs) (upd H' T (.tup [x, y])) fun σ2 H2 => wipe σ2 vs = wipe σ vs ∧ tt σ2 H2 fun b H3 =>
      if b = true then te σ2 H3 fun y H4 => ∃ acc, H4 D = some (.lst acc) ∧ acc.length < sizeLine ∧ Cs S I H P D (i + 1) (upd H4 D (.lst (acc ++ [y]))) else Cs S I H P D (i + 1) H3)
    (q : ∀ D H' acc, H D = none → Fx S I H H' → H' D = some (.lst acc) → P n acc H' → Q D H') :
    ∀ D, H D = none → ∃ W : Nat → Nat → Hp → Prop, (∃ m, W 0 m (upd H D (.lst []))) ∧ ∀ i m H, W i m H →
      (J.stop i H ∧ Q D H) ∨ (J.go i H ∧ ∃ Nx : Hp → Prop, (∀ H', Nx H' → ∃ m', m' < m ∧ W (i + 1) m' H') ∧ ∀ x H', J.yld i H x H' → g x (wipe σ vs) H' fun σ2 H2 => wipe σ2 vs = wipe σ vs ∧ tt σ2 H2 fun b H3 =>
        if b = true then te σ2 H3 fun y H4 => ∃ acc, H4 D = some (.lst acc) ∧ acc.length < sizeLine ∧ Nx (upd H4 D (.lst (acc ++ [y]))) else Nx H3) := fun D hD =>
  lc_it w (Cs S I H P D) ⟨Fx.new m i0 hD, [], upd_same, Nat.le_refl _, p0 D hD⟩ (fun i H' _ p => hG H' p.1)
    (fun i x H' H'' hi p y => by
      obtain ⟨p1, acc, p2, p3, p4⟩ := p
      obtain ⟨T, x, y, rfl, hT, rfl, f1, f2⟩ := y
      exact hs D i T x y acc H' hD hi f1 f2 p1 p2 p3 p4 hT)
    (fun H' p => by
      obtain ⟨p1, acc, p2, p3, p4⟩ := p
      exact q D H' acc hD p1 p2 p4)
theorem for_P (w : Walk J n G (YPair fx fy)) {g : TG} {tb : TS} {D : Ends} {σ : L2.St} {H : Hp} (Pv : Nat → L2.St → Hp → Prop) (h0 : Pv 0 σ H) (hG : ∀ i σ H, i ≤ n → Pv i σ H → G H)
    (hs : ∀ i T x y σ H, i < n → fx i = some x → fy i = some y → Pv i σ H → H T = none → g (.ref T) σ (upd H T (.tup [x, y])) fun σ2 H2 => tb { D with nx := Pv (i + 1), ct := Pv (i + 1), bk := D.nx } σ2 H2) (hd : ∀ σ H, Pv n σ H → D.nx σ H) :
    ∃ W : Nat → Nat → L2.St → Hp → Prop, (∃ m, W 0 m σ H) ∧ ∀ i m σ H, W i m σ H →
      (J.stop i H ∧ D.nx σ H) ∨ (J.go i H ∧ ∃ N : L2.St → Hp → Prop, (∀ σ' H', N σ' H' → ∃ m', m' < m ∧ W (i + 1) m' σ' H') ∧ ∀ x H', J.yld i H x H' → g x σ H' fun σ2 H2 => tb { D with nx := N, ct := N, bk := D.nx } σ2 H2) :=
  for_it w Pv h0 hG (fun i v σ H H' hi p y => by
    obtain ⟨T, x, y, rfl, hT, rfl, f1, f2⟩ := y
    exact hs i T x y σ H hi f1 f2 p hT) hd
end
end Fr
set_option Elab.async false
set_option linter.all false
set_option maxRecDepth 100000
namespace Fr
open PySem PySem.Spec PyProof.Rows L2
section
variable {prog : Program} {w : World}
theorem meets_bool_own {a : Addr} : MeetsIn prog w (Builtin.«bool.__new__» ⟨[.type "bool", .ref a], []⟩) (fun A R s => wpAny (model prog w) A.in1 (truthy (.ref a)) (fun b s' => R (.ok (.ret (.bool b))) s') (fun e s' => R (.error e) s') s) :=
  fun A R s h => by
    have f1 := F.conv_sub_bool
    repeat (any_goals (first | assumption | (refine wpAny_bind (m := truthy (.ref a)) (wpAny_mono h (fun b s' hb => ?_) fun _ _ y => y)) | wp_step))
theorem call_bool_ref {A : Around} {E : Value → Shared → Prop} {s : Shared} {a : Addr} {Q : Value → Shared → Prop} (h : wpAny (model prog w) A.in1.in1 (truthy (.ref a)) (fun b s' => Q (.bool b) s') E s) :
    wpAny (model prog w) A (call (.type "bool") [.ref a]) Q E s :=
  callType_newIn F.called_bool F.newNe_bool (F.typeCall_bool_1 _) (F.newCall_bool_1 _) (fun obj => F.args_object_init_2 obj _) F.entry_bool_new meets_bool_own
    (wpAny_mono h (fun b s' q => ⟨rfl, q⟩) fun _ _ y => y)
end
section
variable {X : Cx} {CX : CXT} {C f : Addr} {fd : FuncData} {ps : List Str} {k : Nat} {sp : Sp} {E : XK}
theorem call_boolI (c : Meth X.K C "__bool__" f) (F : FnOk X.prog X.w X.K X.mg X.base CX k f fd ps sp) (hb : Binds X.K fd ps []) (hr : Room (k + 2) X.A) (hx : Passes CX X E) :
    CallR X (.type "bool") (fun xs H Q => ∃ a dx fs, xs = [.ref a] ∧ H a = some (.ins C dx fs) ∧ sp [.ref a] H (fun v H' => ∃ b, v = .bl b ∧ Q (.bl b) H') E) := by
  intro pins s σ H xs us Q I r h
  obtain ⟨a, dx, fs, rfl, ha, q⟩ := h
  obtain rfl := Vals.ref1 r
  obtain ⟨mA, J, _⟩ := ins_get I.hok ha
  obtain ⟨od, J, _⟩ := J.look
  obtain ⟨m, hF⟩ := I.fr
  have hl : [Value.ref a].length = ps.length := (F.len _ _ _ _ q)
  refine call_bool_ref (PySem.W.truthy_K hF I.ok.mod.kin J c.at_ c.fn ?_)
  refine wpAny_call (codeAny_mono (F.run X.A.in1.in1 X.stack s H ⟨[.ref a], []⟩ [.ref a] [.ref a] _ E hr.in1.in1 I.env0.in1.in1 (hb s [.ref a] I.kIn hl) (.cons rfl .nil) q) fun r s' hq => ?_)
  cases r with
  | error e => exact hx pins σ H s e s' I hq
  | ok fl =>
    cases fl with
    | ret u =>
      obtain ⟨v, H', I3, rv, b, rfl, q3⟩ := I.after hq
      cases (show u = Value.bool b from rv)
      exact ⟨.bl b, H', I3, rfl, q3⟩
    | next => exact False.elim hq
    | brk => exact False.elim hq
    | cont => exact False.elim hq
end
end Fr
set_option Elab.async false
set_option linter.all false
set_option maxRecDepth 100000
namespace Fr
open PySem PySem.Spec PyProof.Rows L2
theorem iter_anyT {prog : Program} {w : World} {A : Around} {E : Value → Shared → Prop} {s : Shared} {l : Addr} {items : Array Value} {Q : Value → Shared → Prop} (hl : s.heap.IsTuple l items)
    (h : ∀ s₂ : Shared, s₂ = { s with heap := s.heap.push { cls := .type "tuple_iterator", data := .fields #[.ref l, .int 0 0] } } →
      (s₂.heap.IsTupleIter s.heap.objs.size l 0 ∧ s₂.heap.IsTuple l items) → l ≠ s.heap.objs.size → Q (.ref s.heap.objs.size) s₂) : wpAny (model prog w) A (pyIter (.ref l)) Q E s := by
  have hlt : l < s.heap.objs.size := by obtain ⟨_, e, _⟩ := hl; exact Heap.lt_size e
  exact wpAny_pyIter_tuple hl (h _ rfl ⟨⟨_, Heap.get?_push_size _ rfl, rfl, rfl⟩, hl.push _⟩ (Nat.ne_of_lt hlt))
theorem ints_at : ∀ {us : List Value} {ns : List Int}, IntsAre us ns → ∀ (i : Nat) (v : Value), us[i]? = some v → ∃ n t, v = .int n t ∧ ns[i]? = some n
  | _, _, .nil, i, v, h => by simp at h
  | _, _, .cons n t r, 0, v, h => ⟨n, t, (Option.some.inj h).symm, rfl⟩
  | _, _, .cons n t r, i + 1, v, h => ints_at r i v h
theorem truth_ints {prog : Program} {w : World} {A : Around} {ns : List Int} {its : List Value} (e : IntsAre its ns) :
    TruthOf prog w A (fun i v => its.toArray[i]? = some v) (fun i => (ns.map (fun n => n != 0)).getD i false) := fun i v s Q E hv hq => by
  have hv' : its[i]? = some v := by simpa using hv
  obtain ⟨n, t, rfl, hn⟩ := ints_at e i v hv'
  have hg : (ns.map (fun n => n != 0)).getD i false = (n != 0) := by rw [List.getD_eq_getElem?_getD, List.getElem?_map, hn] <;> rfl
  have hq' : Q ((ns.map (fun n => n != 0)).getD i false) s := hq
  rw [hg] at hq'
  exact P.truthy_int hq'
section
variable {X : Cx}
def rAnyT (K : PySem.W.Frag) : List V → Hp → VK → Prop := fun vs H Q => ∃ (a : Addr) (ns : List Int), vs = [V.ref a] ∧ SqT K H a (ns.map V.int) ∧ Q (.bl (ns.any (fun n => n != 0))) H
theorem cr_anyT (hc : X.calm = true) : CallR X (.builtin "any") (rAnyT X.K) := by
  intro pins s σ H vs us Q I r h
  obtain ⟨a, ns, rfl, hs, q⟩ := h
  obtain ⟨its, rv, hl, _⟩ := I.tuple hs
  rw [Vals.ref1 r]
  have hb := Vals.ints rv
  have hl' : s.heap.IsTuple a its.toArray := by
    obtain ⟨o, e1, e2, n, e3⟩ := hl
    exact ⟨o, e1, e2, n, e3⟩
  have hlen : its.length = ns.length := by rw [← rv.length, List.length_map]
  refine call_any_walk (iter_anyT hl' fun s₂ e2 st hne => ?_)
  subst e2
  refine ⟨_, _, _, _, _, _, _, rfl, Walks.tuple (A := X.A.in1) (I.ok.hd hc) _ a hne its.toArray, st, truth_ints hb, fun h' tk hk => ?_⟩
  refine ⟨.bl _, H, I.kept fun b o eo => hk b o (fun hmem => ?_) (Heap.get?_push_of_some _ eo), ?_, q⟩
  · rcases List.mem_cons.mp hmem with e1 | hmem
    · exact absurd (e1 ▸ Heap.lt_size eo) (Nat.lt_irrefl _)
    · cases hmem
  · show Value.bool _ = Value.bool _
    have := any_range (ns.map (fun n => n != 0))
    rw [List.length_map] at this
    rw [List.size_toArray, hlen, this, List.any_map]
    rfl
end
end Fr
set_option Elab.async false
set_option linter.all false
set_option maxRecDepth 100000
namespace Fr
open PySem PySem.Spec PyProof.Rows L2
def Vat (c : Addr) (H : Hp) : Prop := ∃ x y z : Int, H c = some (.lst [.int x, .int y, .int z])
def Sv (c : Addr) : Addr → Prop := fun b => b = c
theorem fmV (c : Addr) : Fm (Sv c) (Vat c) := by
  constructor
  · intro H D i h e
    obtain ⟨x, y, z, q⟩ := i
    unfold Sv at e
    rw [e, q] at h
    cases h
  · intro H D o n i
    obtain ⟨x, y, z, q⟩ := i
    exact ⟨x, y, z, by rw [upd_ne (fun e => n e.symm)]; exact q⟩
abbrev Fv (c : Addr) : Hp → Hp → Prop := Fx (Sv c) (Vat c)
theorem vat_new {c l : Addr} {H : Hp} {o : HO} (hc : Vat c H) (hl : H l = none) : Vat c (upd H l o) := (fmV c).stay ((fmV c).fresh hc hl) hc
theorem fv_new {c l : Addr} {H : Hp} {o : HO} (hc : Vat c H) (hl : H l = none) : Fv c H (upd H l o) := Fx.new (fmV c) hc hl
theorem fv_ne {c l : Addr} {H : Hp} (hc : Vat c H) (hl : H l = none) : l ≠ c := (fmV c).fresh hc hl
theorem vat_ex {c : Addr} {H H' : Hp} (hc : Vat c H) (e : Ex0 H H') : Vat c H' := by
  obtain ⟨x, y, z, q⟩ := hc
  exact ⟨x, y, z, Ex0.ap e q⟩
theorem fv_ex {c : Addr} {H H' : Hp} (hc : Vat c H) (e : Ex0 H H') : Fv c H H' := ⟨vat_ex hc e, fun b o _ h => Ex0.ap e h⟩
theorem fv_tup {c a : Addr} {H H' : Hp} {xs : List V} (hc : Vat c H) (f : Fv c H H') (h : H a = some (.tup xs)) : H' a = some (.tup xs) := f.2 a _ (fun e => by
  obtain ⟨x, y, z, q⟩ := hc
  unfold Sv at e
  rw [e, q] at h
  cases h) h
theorem ex_fv {p : Addr} {H H1 H2 : Hp} (e : Ex0 H H1) (hp : H p = none) (f : Fv p H1 H2) : Ex0 H H2 := ⟨trivial, fun b o _ h => f.2 b o (fun z => by unfold Sv at z; rw [z, hp] at h; cases h) (Ex0.ap e h)⟩
theorem cut_map (ns : List Int) (lo hi : Option Int) : cutV (ns.map V.int) lo hi = ((ns.drop (HT.sIx (ns.map V.int).length 0 lo)).take (HT.sIx (ns.map V.int).length (ns.map V.int).length hi - HT.sIx (ns.map V.int).length 0 lo)).map V.int := by
  unfold cutV
  rw [← List.map_drop, ← List.map_take]
end Fr
set_option Elab.async false
set_option linter.all false
set_option maxRecDepth 100000
namespace Fr
open PySem PySem.Spec PyProof.Rows L2
@[reducible] def SqK (k : Bool) (K : PySem.W.Frag) (H : Hp) (a : Addr) (xs : List V) : Prop := match k with
  | true => SqT K H a xs
  | false => SqL K H a xs
@[reducible] def IterK (k : Bool) (h : Heap) (it l : Addr) (i : Nat) : Prop := match k with
  | true => h.IsTupleIter it l i
  | false => h.IsListIter it l i
@[reducible] def HasK (k : Bool) (h : Heap) (l : Addr) (items : Array Value) : Prop := match k with
  | true => h.IsTuple l items
  | false => h.IsList l items
theorem IterK.cell {k : Bool} {h : Heap} {it l : Addr} {i : Nat} (q : IterK k h it l i) : ∃ o, h.get? it = some o ∧ ∀ v, o.data ≠ .cell v := by
  cases k <;> obtain ⟨o, e, _, d⟩ := q <;> exact ⟨o, e, fun v z => by rw [d] at z; cases z⟩
theorem IterK.look {k : Bool} {h h' : Heap} {it l : Addr} {i : Nat} (q : IterK k h it l i) (e : ∀ o, h.get? it = some o → h'.get? it = some o) : IterK k h' it l i := by
  cases k
  · exact Heap.IsListIter.at q fun o z => e o z
  · exact Heap.IsTupleIter.at q fun o z => e o z
theorem drawsK {k : Bool} {prog : Program} {w : World} {A : Around} (hh : A.handled = none) (it l : Addr) (hne : l ≠ it) (items : Array Value) :
    Draws prog w A it [it, l] items.size (fun i v => items[i]? = some v) (fun i h => IterK k h it l i ∧ HasK k h l items) := by
  cases k
  · exact Draws.list hh it l hne items
  · exact Draws.tuple hh it l hne items
section
variable {X : Cx} {pins : List (Addr × Obj)} {σ : L2.St} {H : Hp} {s : Shared}
theorem hasK (I : Inv X pins σ H s) {k : Bool} {a : Addr} {xs : List V} (q : SqK k X.K H a xs) : ∃ its : List Value, Vals xs its ∧ HasK k s.heap a its.toArray ∧ a < s.heap.objs.size := by
  cases k
  · obtain ⟨its, rv, p, _⟩ := I.list q
    exact ⟨its, rv, p.isList, p.lt⟩
  · obtain ⟨its, rv, p, _⟩ := I.tuple q
    exact ⟨its, rv, p, by obtain ⟨o, e, _⟩ := id p; exact Heap.lt_size e⟩
theorem sqK_inj (I : Inv X pins σ H s) {k : Bool} {a : Addr} {xs ys : List V} (q : SqK k X.K H a xs) (r : SqK k X.K H a ys) : xs = ys := by
  cases k
  · exact I.list_inj q r
  · exact I.tuple_inj q r
end
def ItzK (K : PySem.W.Frag) (k1 k2 : Bool) (a b : Addr) : It where
  go := fun i H => ∃ (xs ys : List V) (x y : V), SqK k1 K H a xs ∧ SqK k2 K H b ys ∧ xs[i]? = some x ∧ ys[i]? = some y
  yld := fun i H v H' => ∃ T x y, v = .ref T ∧ H T = none ∧ H' = upd H T (.tup [x, y]) ∧ (∀ xs, SqK k1 K H a xs → xs[i]? = some x) ∧ ∀ ys, SqK k2 K H b ys → ys[i]? = some y
  stop := fun i H => ∃ xs ys : List V, SqK k1 K H a xs ∧ SqK k2 K H b ys ∧ xs.length = i ∧ ys.length = i
theorem in5 {c z TI TO i1 i2 : Addr} (h : c ∈ [z, TI, TO, i1, i2]) : c = z ∨ c = TI ∨ c = TO ∨ c = i1 ∨ c = i2 := by simpa using h
theorem turn_zipK {P : Program} {w : World} {K : PySem.W.Frag} {elts : List Expr} {kk : Nat} {tpos : Pos} {k1 k2 : Bool} {a b z TI TO i1 i2 : Addr} (S : ZipSep2 z TI TO i1 i2 [i1, a] [i2, b]) (na : a ≠ i1) (nb : b ≠ i2) :
    Turn P w K (.Tuple elts kk tpos) (ItzK K k1 k2 a b) [z, TI, TO, i1, i2] z (fun i h => IsZip h z TI TO .none ∧ IsTupOf2 h TI (.ref i1) (.ref i2) ∧ (∃ x y, IsTupOf2 h TO x y) ∧ IterK k1 h i1 a i ∧ IterK k2 h i2 b i) where
  mem := by simp
  obj := fun i h st c hc => by
    obtain ⟨hz, hTI, ⟨x, y, hTO⟩, q1, q2⟩ := st
    rcases in5 hc with q | q | q | q | q <;> rw [q]
    · exact ⟨_, hz, fun v q => nomatch q⟩
    · exact ⟨_, hTI, fun v q => nomatch q⟩
    · exact ⟨_, hTO, fun v q => nomatch q⟩
    · exact q1.cell
    · exact q2.cell
  keep := fun i h h' st kp => by
    obtain ⟨hz, hTI, ⟨x, y, hTO⟩, q1, q2⟩ := st
    exact ⟨kp z (by simp) _ hz, kp TI (by simp) _ hTI, ⟨x, y, kp TO (by simp) _ hTO⟩, q1.look fun o q => kp i1 (by simp) o q, q2.look fun o q => kp i2 (by simp) o q⟩
  item := by
    intro X hP hw hK hc i pins s σ H E I hf st hg
    subst hP hw hK
    obtain ⟨hz, hTI, ⟨x0, y0, hTO⟩, q1, q2⟩ := st
    obtain ⟨xs, ys, x, y, hqx, hqy, hx, hy⟩ := hg
    obtain ⟨its1, rv1, p1, _⟩ := hasK I hqx
    obtain ⟨its2, rv2, p2, _⟩ := hasK I hqy
    obtain ⟨u1, hu1, ru1⟩ := rv1.get hx
    obtain ⟨u2, hu2, ru2⟩ := rv2.get hy
    have hzl : z < s.heap.objs.size := Heap.lt_size hz
    have D1 := drawsK (k := k1) (prog := X.prog) (w := X.w) (A := X.A.in1) (I.ok.hd hc) i1 a na its1.toArray
    have D2 := drawsK (k := k2) (prog := X.prog) (w := X.w) (A := X.A.in1) (I.ok.hd hc) i2 b nb its2.toArray
    have l1 : i < its1.toArray.size := by
      have := (List.getElem?_eq_some_iff.mp hu1).1
      simpa using this
    have l2 : i < its2.toArray.size := by
      have := (List.getElem?_eq_some_iff.mp hu2).1
      simpa using this
    refine wpAny_pyNext_zipD2_item S D1 D2 hz hTI hTO ⟨q1, p1⟩ ⟨q2, p2⟩ l1 l2 fun y1 y2 h' tk e1 e2 z' TO' st1 st2 hT hsz hk => ?_
    obtain rfl : u1 = y1 := by
      have a1 : its1.toArray[i]? = some u1 := by simpa using hu1
      have a2 : its1.toArray[i]? = some y1 := e1
      rw [a1] at a2
      exact Option.some.inj a2
    obtain rfl : u2 = y2 := by
      have a1 : its2.toArray[i]? = some u2 := by simpa using hu2
      have a2 : its2.toArray[i]? = some y2 := e2
      rw [a1] at a2
      exact Option.some.inj a2
    refine ⟨_, rfl, wpAny_letOwnedTupleGo_zip (s := { s with heap := h', toks := tk }) z' fun h'' z'' sb => ?_⟩
    have hT2 : h''.get? s.heap.objs.size = some { cls := .type "tuple", data := .seq #[u1, u2] } := (sb.2 _ (Nat.ne_of_gt hzl)).trans hT
    have new : ObjOk X.prog X.w (upd H s.heap.objs.size (.tup [x, y])) h'' s.heap.objs.size (.tup [x, y]) :=
      ⟨by show 2 ≤ sizeLine; decide, [u1, u2], .cons ru1 (.cons ru2 .nil), ⟨_, hT2, rfl, _, rfl⟩⟩
    have I1 : Inv X pins σ (upd H s.heap.objs.size (.tup [x, y])) { s with heap := h'', toks := tk } :=
      I.turnedNew (ch := [z, TI, TO, i1, i2]) (fun c o hb q => (sb.2 c (fun e => hb (by simp [e]))).trans (hk c o (fun e => hb (by simp [e])) (fun e => hb (by simp [e])) (fun e => hb (by simp [e])) (fun e => hb (by simp [e])) q)) hf (Nat.le_refl _) new
    refine ⟨.ref s.heap.objs.size, _, I1, rfl, ⟨_, x, y, rfl, I.hok.fresh (Nat.le_refl _), rfl, fun l hl => by rw [sqK_inj I hl hqx]; exact hx, fun l hl => by rw [sqK_inj I hl hqy]; exact hy⟩, ⟨z'', ?_, ⟨u1, u2, ?_⟩, ?_, ?_⟩, fun c hcm => ?_⟩
    · exact (sb.2 _ S.TIz).trans (hk _ _ S.TIz S.TITO S.TIi1 S.TIi2 hTI)
    · exact (sb.2 _ S.TOz).trans TO'
    · exact st1.1.look fun o q => (sb.2 _ (Ne.symm S.zi1)).trans q
    · exact st2.1.look fun o q => (sb.2 _ (Ne.symm S.zi2)).trans q
    · have hlt : c < s.heap.objs.size := by
        rcases in5 hcm with q | q | q | q | q <;> rw [q]
        · exact hzl
        · exact Heap.lt_size hTI
        · exact Heap.lt_size hTO
        · obtain ⟨_, e, _⟩ := q1.cell; exact Heap.lt_size e
        · obtain ⟨_, e, _⟩ := q2.cell; exact Heap.lt_size e
      rw [upd_ne (Nat.ne_of_lt hlt)]
      exact (hf c hcm).1
  done := by
    intro X hP hw hK hc i pins s σ H E I hf st hg
    subst hP hw hK
    obtain ⟨hz, hTI, ⟨x0, y0, hTO⟩, q1, q2⟩ := st
    obtain ⟨xs, ys, hqx, hqy, ex, ey⟩ := hg
    obtain ⟨its1, rv1, p1, _⟩ := hasK I hqx
    obtain ⟨its2, rv2, p2, _⟩ := hasK I hqy
    have D1 := drawsK (k := k1) (prog := X.prog) (w := X.w) (A := X.A.in1) (I.ok.hd hc) i1 a na its1.toArray
    have D2 := drawsK (k := k2) (prog := X.prog) (w := X.w) (A := X.A.in1) (I.ok.hd hc) i2 b nb its2.toArray
    have l1 : its1.toArray.size = i := by have := rv1.length; simp; omega
    have l2 : its2.toArray.size = i := by have := rv2.length; simp; omega
    exact wpAny_pyNext_zipD2_end S D1 D2 hz hTI hTO ⟨q1, p1⟩ ⟨q2, p2⟩ (by omega) (by omega) (.inl (by omega)) fun h' tk hk => ⟨rfl, I.turnedL (ch := [z, TI, TO, i1, i2]) (fun c o hb q =>
      hk c o (fun e => hb (by simp [e])) (fun e => hb (by simp [e])) (fun e => hb (by simp [e])) (fun e => hb (by simp [e])) q) hf⟩
  self := fun A i s Q E st h => wpAny_pyIter_zip st.1 h
def iZipK (K : PySem.W.Frag) (k1 k2 : Bool) (ta : TA) : TI := fun σ H R => ta σ H fun vs H1 => ∃ a b xs ys, vs = [.ref a, .ref b] ∧ SqK k1 K H1 a xs ∧ SqK k2 K H1 b ys ∧ R (ItzK K k1 k2 a b) H1
theorem pi_zipK (k1 k2 : Bool) {X : Cx} {e e2 : Expr} {ta : TA} {p pos tpos : Pos} {elts : List Expr} {kk : Nat} (hg : Gl X "zip") (hm : X.mg "zip" = none) (ha : PA X [e, e2] ta)
    (hs : starEach [e, e2] X.env = (false, eval e X.env) :: starEach [e2] X.env := by rfl) (hpl : (backTo pos (starEach [e2] X.env)).any (·.1) = false := by rfl) :
    PI X (.Tuple elts kk tpos) (.Call (.Name "zip" p) [e, e2] [] pos) (iZipK X.K k1 k2 ta) := by
  refine ⟨fun pins s σ H R I h => Call_ (ld_blt I hg hm PyProof.Rows.boot_zip (PyProof.Rows.callWith_type1 (thn (ha.run pos pins s σ H _ I h) fun us s1 ⟨vs, H1, I1, r1, a, b, xs, ys, ex, hqx, hqy, q⟩ => ?_) hs hpl))⟩
  subst ex
  cases r1 with
  | cons r rr =>
    cases rr with
    | cons r' rr =>
      cases rr
      cases r
      cases r'
      obtain ⟨its1, rv1, p1, b1⟩ := hasK I1 hqx
      obtain ⟨its2, rv2, p2, b2⟩ := hasK I1 hqy
      generalize hn : s1.heap.objs.size = n at b1 b2
      have fin : ∀ h', IsZip h' (n + 4) (n + 2) (n + 3) .none → IsTupOf2 h' (n + 2) (.ref n) (.ref (n + 1)) → IsTupOf2 h' (n + 3) .none .none → IterK k1 h' n a 0 → IterK k2 h' (n + 1) b 0 →
          (∀ c o, s1.heap.get? c = some o → h'.get? c = some o) → wpAny (model X.prog X.w) X.A (pyIter (.ref (n + 4))) (PIE X pins σ (.Tuple elts kk tpos) R) X.xe { s1 with heap := h' } := fun h' hz hTI hTO h1 h2 hk => by
        refine wpAny_pyIter_zip hz ?_
        have I2 : Inv X pins σ H1 { s1 with heap := h' } := I1.kept (t' := s1.toks) hk
        have S : ZipSep2 (n + 4) (n + 2) (n + 3) n (n + 1) [n, a] [n + 1, b] := by
          have a1 : ∀ j : Nat, (n + j : Nat) ≠ a := fun j e => Nat.lt_irrefl n (Nat.lt_of_le_of_lt (Nat.le_add_right n j) (by rw [e]; exact b1))
          have a2 : ∀ j : Nat, (n + j : Nat) ≠ b := fun j e => Nat.lt_irrefl n (Nat.lt_of_le_of_lt (Nat.le_add_right n j) (by rw [e]; exact b2))
          have q : ∀ i j : Nat, i ≠ j → (n + i : Nat) ≠ n + j := fun i j h e => h (by omega)
          have o2 : ∀ {x y z : Addr}, x ≠ y → x ≠ z → x ∉ [y, z] := fun h1 h2 h => by simp [h1, h2] at h
          exact ⟨q 2 4 (by decide), q 3 4 (by decide), q 2 3 (by decide), q 2 0 (by decide), by simp, o2 (q 4 0 (by decide)) (a1 4), o2 (q 3 0 (by decide)) (a1 3), q 2 1 (by decide), by simp, o2 (q 4 1 (by decide)) (a2 4), o2 (q 3 1 (by decide)) (a2 3), o2 (q 0 1 (by decide)) (a2 0), o2 (q 1 0 (by decide)) (a1 1)⟩
        refine ⟨n + 4, [n + 4, n + 2, n + 3, n, n + 1], _, ItzK X.K k1 k2 a b, H1, rfl, I2, turn_zipK S (Nat.ne_of_lt b1) (Nat.ne_of_lt (Nat.lt_succ_of_lt b2)), ⟨hz, hTI, ⟨_, _, hTO⟩, h1, h2⟩, fun c hcm => ?_, q⟩
        have hle : s1.heap.objs.size ≤ c := by
          rcases in5 hcm with z | z | z | z | z <;> rw [z] <;> omega
        exact I1.fpOk hle (I1.hok.fresh hle)
      subst hn
      cases k1 <;> cases k2
      · exact zip_begins2 (begins_list a its1.toArray) (begins_list b its2.toArray) p1 p2 fun h' hz hTI hTO h1 h2 _ hk => fin h' hz hTI hTO ⟨_, h1, rfl, rfl⟩ ⟨_, h2, rfl, rfl⟩ hk
      · exact zip_begins2 (begins_list a its1.toArray) (begins_tuple b its2.toArray) p1 p2 fun h' hz hTI hTO h1 h2 _ hk => fin h' hz hTI hTO ⟨_, h1, rfl, rfl⟩ ⟨_, h2, rfl, rfl⟩ hk
      · exact zip_begins2 (begins_tuple a its1.toArray) (begins_list b its2.toArray) p1 p2 fun h' hz hTI hTO h1 h2 _ hk => fin h' hz hTI hTO ⟨_, h1, rfl, rfl⟩ ⟨_, h2, rfl, rfl⟩ hk
      · exact zip_begins2 (begins_tuple a its1.toArray) (begins_tuple b its2.toArray) p1 p2 fun h' hz hTI hTO h1 h2 _ hk => fin h' hz hTI hTO ⟨_, h1, rfl, rfl⟩ ⟨_, h2, rfl, rfl⟩ hk
theorem walk_zipK {K : PySem.W.Frag} {k1 k2 : Bool} {a b : Addr} {xs ys : List V} (hl : xs.length = ys.length) : Walk (ItzK K k1 k2 a b) xs.length (fun H => SqK k1 K H a xs ∧ SqK k2 K H b ys) (YPair (fun i => xs[i]?) fun i => ys[i]?) :=
  ⟨fun i _ hi q => ⟨xs, ys, xs[i], ys[i], q.1, q.2, by simp [hi], by simp [← hl, hi]⟩, fun _ q => ⟨xs, ys, q.1, q.2, rfl, hl.symm⟩, fun i H v H' _ q y => by
    obtain ⟨T, x, y, rfl, hT, rfl, f1, f2⟩ := y
    exact ⟨T, x, y, rfl, hT, rfl, f1 xs q.1, f2 ys q.2⟩⟩
end Fr
set_option Elab.async false
set_option linter.all false
set_option maxRecDepth 100000
namespace Fr
open PySem PySem.Spec PyProof.Rows L2
def addAt (l : List Int) (k : Nat) (v : Int) : List Int := l.set k (l.getD k 0 + v)
def rowN (l : List Int) (k : Nat) (x : Int) (ys : List Int) : Nat → List Int
  | 0 => l
  | j + 1 => addAt (rowN l k x ys j) (k + j) (x * ys.getD j 0)
def prodN (xs ys : List Int) : Nat → List Int
  | 0 => List.replicate (xs.length + ys.length - 1) 0
  | i + 1 => rowN (prodN xs ys i) i (xs.getD i 0) ys ys.length
def prodL (xs ys : List Int) : List Int := prodN xs ys xs.length
theorem addAt_len (l : List Int) (k : Nat) (v : Int) : (addAt l k v).length = l.length := by unfold addAt; rw [List.length_set]
theorem rowN_len (l : List Int) (k : Nat) (x : Int) (ys : List Int) : ∀ j, (rowN l k x ys j).length = l.length
  | 0 => rfl
  | j + 1 => by rw [rowN, addAt_len, rowN_len l k x ys j]
theorem prodN_len (xs ys : List Int) : ∀ i, (prodN xs ys i).length = xs.length + ys.length - 1
  | 0 => by rw [prodN, List.length_replicate]
  | i + 1 => by rw [prodN, rowN_len, prodN_len xs ys i]
theorem prodL_len (xs ys : List Int) : (prodL xs ys).length = xs.length + ys.length - 1 := prodN_len xs ys _
theorem gD_mem {l : List Int} {k : Nat} (h : k < l.length) : l.getD k 0 ∈ l := by
  rw [List.getD_eq_getElem?_getD, List.getElem?_eq_getElem h]
  exact List.getElem_mem h
theorem getD_le {l : List Int} {m : Nat} (h : ∀ z ∈ l, z.natAbs ≤ m) (k : Nat) : (l.getD k 0).natAbs ≤ m := by
  by_cases hk : k < l.length
  · exact h _ (gD_mem hk)
  · rw [List.getD_eq_getElem?_getD, List.getElem?_eq_none (by omega)]
    exact Nat.zero_le _
theorem rowN_le {l : List Int} {k : Nat} {x : Int} {ys : List Int} {m M : Nat} (h : ∀ z ∈ l, z.natAbs ≤ m) (hy : ∀ y ∈ ys, (x * y).natAbs ≤ M) : ∀ j, j ≤ ys.length → ∀ z ∈ rowN l k x ys j, z.natAbs ≤ m + j * M
  | 0, _ => fun z hz => by have := h z hz; omega
  | j + 1, hj => fun z hz => by
    have ih := rowN_le (k := k) h hy j (by omega)
    have e : (j + 1) * M = j * M + M := by rw [Nat.add_mul, Nat.one_mul]
    rw [rowN] at hz
    unfold addAt at hz
    rcases List.mem_or_eq_of_mem_set hz with q | rfl
    · have := ih z q
      omega
    · have h1 := getD_le ih (k + j)
      have h2 := hy _ (gD_mem (show j < ys.length by omega))
      omega
theorem prodN_le {xs ys : List Int} {M : Nat} (h : ∀ x ∈ xs, ∀ y ∈ ys, (x * y).natAbs ≤ M) : ∀ i, i ≤ xs.length → ∀ z ∈ prodN xs ys i, z.natAbs ≤ i * (ys.length * M)
  | 0, _ => fun z hz => by
    rw [prodN] at hz
    rw [List.eq_of_mem_replicate hz]
    exact Nat.zero_le _
  | i + 1, hi => fun z hz => by
    have ih := prodN_le h i (by omega)
    have e : (i + 1) * (ys.length * M) = i * (ys.length * M) + ys.length * M := by rw [Nat.add_mul, Nat.one_mul]
    rw [prodN] at hz
    rw [e]
    exact rowN_le ih (fun y hy => h _ (gD_mem (by omega)) y hy) _ (Nat.le_refl _) z hz
theorem prodL_B {xs ys : List Int} {a b : Nat} (ha : ∀ x ∈ xs, B a x) (hb : ∀ y ∈ ys, B b y) (hp : 0 < a) : ∀ z ∈ prodL xs ys, B (a + b + xs.length * ys.length) z := fun z hz => by
  have h1 := prodN_le (M := 2 ^ (a + b)) (fun x hx y hy => Nat.le_of_lt (B.mul (ha x hx) (hb y hy)).1) xs.length (Nat.le_refl _) z hz
  refine ⟨?_, by omega⟩
  rw [← Nat.mul_assoc] at h1
  rw [Nat.pow_add 2 (a + b), Nat.mul_comm]
  exact Nat.lt_of_le_of_lt h1 (Nat.mul_lt_mul_of_pos_right Nat.lt_two_pow_self (Nat.two_pow_pos _))
theorem get_map {l : List Int} {k : Nat} (h : k < l.length) : (l.map V.int)[k]? = some (V.int (l.getD k 0)) := by
  rw [List.getElem?_map, List.getElem?_eq_getElem h, List.getD_eq_getElem?_getD, List.getElem?_eq_getElem h]
  rfl
theorem get_D {l : List Int} {k : Nat} {y : V} (h : (l.map V.int)[k]? = some y) : y = V.int (l.getD k 0) ∧ k < l.length := by
  have hk : k < l.length := by
    have := (List.getElem?_eq_some_iff.mp h).1
    rwa [List.length_map] at this
  rw [get_map hk] at h
  exact ⟨(Option.some.inj h).symm, hk⟩
theorem zeros (m : Nat) : (List.replicate m [V.int 0]).flatten = (List.replicate m (0 : Int)).map V.int := by
  induction m with
  | zero => rfl
  | succ m ih => rw [List.replicate_succ, List.replicate_succ, List.flatten_cons, ih]; rfl
def valN (xs : List Int) (x y : Int) : Nat → Int × Int
  | 0 => (0, 1)
  | i + 1 => ((valN xs x y i).1 * x + xs.getD i 0 * (valN xs x y i).2, (valN xs x y i).2 * y)
theorem valN_B {xs : List Int} {x y : Int} (hx : B 200 x) (hy : B 200 y) (h : ∀ z ∈ xs, B 200 z) : ∀ i, i ≤ 8 → B (1 + 3000 * i) (valN xs x y i).1 ∧ B (1 + 200 * i) (valN xs x y i).2
  | 0, _ => ⟨⟨by show (0 : Int).natAbs < 2 ^ 1; decide, by decide⟩, ⟨by show (1 : Int).natAbs < 2 ^ 1; decide, by decide⟩⟩
  | i + 1, hi => by
    obtain ⟨h1, h2⟩ := valN_B hx hy h i (by omega)
    have h3 : B 200 (xs.getD i 0) := ⟨Nat.lt_of_le_of_lt (getD_le (m := 2 ^ 200 - 1) (fun z hz => Nat.le_sub_one_of_lt (h z hz).1) i) (by decide), by decide⟩
    rw [valN]
    exact ⟨(B.add (B.mul h1 hx) (B.mul h3 h2)).mono (by omega), (B.mul h2 hy).mono (by omega)⟩
def partN (n : Nat) (e p q r s : Int) (i : Nat) : Nat → List Int
  | 0 => [e]
  | t + 1 => prodL (partN n e p q r s i t) (if (0 : Int) + (t : Int) < ((n : Int) - 1) - (i : Int) then [p, r] else [q, s])
def putN (row : List Int) (p q r s : Int) : Nat → List Int
  | 0 => List.replicate row.length 0
  | i + 1 => List.zipWith (· + ·) (putN row p q r s i) (partN row.length (row.getD i 0) p q r s i (row.length - 1))
theorem partN_len (n : Nat) (e p q r s : Int) (i : Nat) : ∀ t, (partN n e p q r s i t).length = t + 1
  | 0 => rfl
  | t + 1 => by
    rw [partN, prodL_len, partN_len n e p q r s i t]
    split <;> rfl
theorem partN_B {n : Nat} {e p q r s : Int} {i : Nat} (he : B 400 e) (hp : B 400 p) (hq : B 400 q) (hr : B 400 r) (hs : B 400 s) : ∀ t, t ≤ 10 → ∀ z ∈ partN n e p q r s i t, B (400 + 500 * t) z
  | 0, _ => fun z hz => by
    rw [partN] at hz
    have : z = e := by simpa using hz
    rw [this]
    exact he
  | t + 1, ht => fun z hz => by
    have ih := partN_B (n := n) (i := i) he hp hq hr hs t (by omega)
    rw [partN] at hz
    refine B.mono (prodL_B (a := 400 + 500 * t) (b := 400) ih (fun y hy => ?_) (by omega) z hz) ?_
    · split at hy <;> simp only [List.mem_cons, List.mem_nil_iff, or_false] at hy <;> rcases hy with rfl | rfl <;> assumption
    · rw [partN_len]
      split <;> simp <;> omega
theorem putN_len (row : List Int) (p q r s : Int) (h : row ≠ []) : ∀ i, (putN row p q r s i).length = row.length
  | 0 => by rw [putN, List.length_replicate]
  | i + 1 => by
    have := List.length_pos_iff.mpr h
    rw [putN, List.length_zipWith, putN_len row p q r s h i, partN_len]
    omega
theorem mem_zip {xs ys : List Int} {z : Int} (h : z ∈ List.zipWith (· + ·) xs ys) : ∃ x ∈ xs, ∃ y ∈ ys, z = x + y := by
  obtain ⟨k, hk, e⟩ := List.getElem_of_mem h
  rw [List.getElem_zipWith] at e
  rw [List.length_zipWith] at hk
  exact ⟨_, List.getElem_mem (by omega), _, List.getElem_mem (by omega), e.symm⟩
theorem putN_B {row : List Int} {p q r s : Int} (h : ∀ e ∈ row, B 400 e) (hl : row.length ≤ 11) (hp : B 400 p) (hq : B 400 q) (hr : B 400 r) (hs : B 400 s) : ∀ i, i ≤ row.length → ∀ z ∈ putN row p q r s i, B (1 + 6000 * i) z
  | 0, _ => fun z hz => by
    rw [putN] at hz
    rw [List.eq_of_mem_replicate hz]
    exact ⟨by decide, by decide⟩
  | i + 1, hi => fun z hz => by
    rw [putN] at hz
    obtain ⟨u, hu, v, hv, rfl⟩ := mem_zip hz
    exact (B.add (putN_B h hl hp hq hr hs i (by omega) u hu) (partN_B (h _ (gD_mem (by omega))) hp hq hr hs _ (by omega) v hv)).mono (by omega)
end Fr
set_option Elab.async false
set_option linter.all false
set_option maxRecDepth 100000
namespace Fr
open PySem PySem.Spec PyProof.Rows L2
def CDivNW (_ j : Int) : Prop := j ≠ 0 ∧ j.natAbs.log2 < 9000
theorem op_fdivNW {X : Cx} : OpR X (binaryOp .FloorDiv) (rI CDivNW fun i j => .int (i.fdiv j)) := opI fun _ _ _ _ _ _ _ hc q => floordiv_int hc.1 q (.inl (PyProof.noPylong_of_log2 hc.2))
structure Bz (M : Nat) (p q one other u v u' v' : Int) : Prop where
  o : 0 ≤ other
  pos : 0 ≤ one ∨ (u = 1 ∧ u' = 0)
  e1 : u * p + v * q = one
  e2 : u' * p + v' * q = other
  d : one * u' - other * u = q ∨ one * u' - other * u = -q
  s : (0 ≤ u ∧ u' ≤ 0) ∨ (u ≤ 0 ∧ 0 ≤ u')
  bu : u.natAbs ≤ q.natAbs + 1
  bu' : u'.natAbs ≤ q.natAbs + 1
  g : Nat.gcd one.natAbs other.natAbs = 1
  b1 : one.natAbs ≤ M
  b2 : other.natAbs ≤ M
  z : q = 0 → other = 0 ∧ v = 0
theorem Bz.init {M : Nat} {p q : Int} (hq : 0 ≤ q) (g : Nat.gcd p.natAbs q.natAbs = 1) (h1 : p.natAbs ≤ M) (h2 : q.natAbs ≤ M) : Bz M p q p q 1 0 0 1 :=
  ⟨hq, .inr ⟨rfl, rfl⟩, by simp, by simp, .inr (by simp), .inl ⟨by decide, by decide⟩, by show 1 ≤ _; omega, by show 0 ≤ _; omega, g, h1, h2, fun h => ⟨h, rfl⟩⟩
theorem Bz.step {M : Nat} {p q one other u v u' v' : Int} (h : Bz M p q one other u v u' v') (ho : other ≠ 0) :
    Bz M p q other (one - one / other * other) u' v' (u - one / other * u') (v - one / other * v') ∧ (one - one / other * other).toNat < other.toNat := by
  have o0 : 0 < other := by have := h.o; omega
  have hr : one - one / other * other = one % other := by
    have := Int.emod_add_mul_ediv one other
    rw [Int.mul_comm other] at this
    omega
  have r0 := Int.emod_nonneg one ho
  have r1 := Int.emod_lt_of_pos one o0
  have s' : (0 ≤ u' ∧ u - one / other * u' ≤ 0) ∨ (u' ≤ 0 ∧ 0 ≤ u - one / other * u') := by
    rcases h.pos with hp | ⟨rfl, rfl⟩
    · have t0 : 0 ≤ one / other := Int.ediv_nonneg hp h.o
      rcases h.s with ⟨a, b⟩ | ⟨a, b⟩
      · right
        have := Int.mul_nonneg t0 (show 0 ≤ -u' by omega)
        rw [Int.mul_neg] at this
        exact ⟨b, by omega⟩
      · left
        have := Int.mul_nonneg t0 b
        exact ⟨b, by omega⟩
    · right
      simp
  have dd : other * (u - one / other * u') - (one - one / other * other) * u' = -(one * u' - other * u) := by grind
  have d' : other * (u - one / other * u') - (one - one / other * other) * u' = q ∨ other * (u - one / other * u') - (one - one / other * other) * u' = -q := by
    rw [dd]
    rcases h.d with e | e <;> rw [e]
    · exact .inr rfl
    · exact .inl (by omega)
  have bu'' : (u - one / other * u').natAbs ≤ q.natAbs + 1 := by
    rw [hr] at d'
    generalize u - one / other * u' = w at *
    have k1 : other * w - (one % other) * u' = q ∨ other * w - (one % other) * u' = -q := d'
    rcases s' with ⟨a, b⟩ | ⟨a, b⟩
    · have m1 := Int.mul_nonneg r0 a
      have m2 := Int.mul_le_mul_of_nonneg_right (show (1 : Int) ≤ other by omega) (show 0 ≤ -w by omega)
      rw [Int.one_mul, Int.mul_neg] at m2
      omega
    · have m1 := Int.mul_nonneg r0 (show 0 ≤ -u' by omega)
      have m2 := Int.mul_le_mul_of_nonneg_right (show (1 : Int) ≤ other by omega) b
      rw [Int.one_mul] at m2
      rw [Int.mul_neg] at m1
      omega
  have gg : Nat.gcd other.natAbs (one - one / other * other).natAbs = 1 := by
    have h1 : Nat.gcd other.natAbs (one - one / other * other).natAbs ∣ other.natAbs := Nat.gcd_dvd_left _ _
    have h2 : Nat.gcd other.natAbs (one - one / other * other).natAbs ∣ (one - one / other * other).natAbs := Nat.gcd_dvd_right _ _
    generalize Nat.gcd other.natAbs (one - one / other * other).natAbs = k at *
    have i1 := Int.ofNat_dvd_left.mpr h1
    have i2 := Int.ofNat_dvd_left.mpr h2
    have i3 : (k : Int) ∣ one := by
      have := Int.dvd_add i2 (Int.dvd_mul_of_dvd_right i1 (b := one / other))
      rwa [show one - one / other * other + one / other * other = one by omega] at this
    have i4 : k ∣ Nat.gcd one.natAbs other.natAbs := Nat.dvd_gcd (Int.ofNat_dvd_left.mp i3) h1
    rw [h.g] at i4
    exact Nat.dvd_one.mp i4
  refine ⟨⟨by rw [hr]; exact r0, .inl h.o, h.e2, ?_, d', s', h.bu', bu'', gg, h.b2, ?_, fun z => absurd (h.z z).1 ho⟩, ?_⟩
  · have a := h.e1
    have b := h.e2
    generalize one / other = t at *
    rw [← a, ← b]
    grind
  · rw [hr]
    have := h.b2
    omega
  · rw [hr]
    omega
theorem Bz.fin {M : Nat} {p q one u v u' v' : Int} (h : Bz M p q one 0 u v u' v') (hp : p.natAbs ≤ M) : (p * u - q * (0 - v) = 1 ∨ p * u - q * (0 - v) = -1) ∧ u.natAbs ≤ q.natAbs + 1 ∧ v.natAbs ≤ M + (q.natAbs + 1) * M := by
  have g := h.g
  rw [show (0 : Int).natAbs = 0 from rfl, Nat.gcd_zero_right] at g
  have e := h.e1
  refine ⟨?_, h.bu, ?_⟩
  · have : p * u - q * (0 - v) = one := by rw [← e]; grind
    rw [this]
    omega
  · by_cases hq : q = 0
    · rw [(h.z hq).2]
      exact Nat.zero_le _
    · have h1 : v.natAbs ≤ (v * q).natAbs := by
        rw [Int.natAbs_mul]
        exact Nat.le_mul_of_pos_right _ (by omega)
      have h2 : v * q = one - u * p := by omega
      have h3 : (u * p).natAbs ≤ (q.natAbs + 1) * M := by
        rw [Int.natAbs_mul]
        exact Nat.mul_le_mul h.bu hp
      have h4 := h.b1
      rw [h2] at h1
      omega
theorem Bz.bv {M : Nat} {p q one other u v u' v' : Int} (h : Bz M p q one other u v u' v') (ho : other ≠ 0) (hp : p.natAbs ≤ M) : v'.natAbs ≤ M + (q.natAbs + 1) * M := by
  have hq : q ≠ 0 := fun z => ho (h.z z).1
  have e := h.e2
  have h1 : v'.natAbs ≤ (v' * q).natAbs := by
    rw [Int.natAbs_mul]
    exact Nat.le_mul_of_pos_right _ (by omega)
  have h2 : v' * q = other - u' * p := by omega
  have h3 : (u' * p).natAbs ≤ (q.natAbs + 1) * M := by
    rw [Int.natAbs_mul]
    exact Nat.mul_le_mul h.bu' hp
  have h4 := h.b2
  rw [h2] at h1
  omega
end Fr
set_option Elab.async false
set_option linter.all false
set_option maxRecDepth 100000
namespace Fr
open PySem PySem.Spec PyProof.Rows L2
@[reducible] def Itk (K : PySem.W.Frag) (k : Bool) (a : Addr) : It := match k with
  | true => Itt K a
  | false => Itl K a
theorem or_slot {K : PySem.W.Frag} {k : Bool} {a : Addr} {xs : List V} {i : Nat} {σ : L2.St} {H : Hp} {R : It → Hp → Prop} (e : σ[i]? = some (some (.ref a))) (h : SqK k K H a xs) (z : R (Itk K k a) H) :
    iList K (tVar i) σ H R ∨ iTup K (tVar i) σ H R := by
  cases k
  · exact .inl ⟨_, e, a, rfl, ⟨xs, h⟩, z⟩
  · exact .inr ⟨_, e, a, rfl, ⟨xs, h⟩, z⟩
section
variable {K : PySem.W.Frag} {k : Bool} {a : Addr} {xs : List V} {g : TG} {tb : TS} {D : Ends} {σ : L2.St} {H : Hp}
theorem for_K (J : Nat → L2.St → Hp → Prop) (start : J 0 σ H) (stays : ∀ i σ H, i ≤ xs.length → J i σ H → SqK k K H a xs)
    (turn : ∀ i x σ H, xs[i]? = some x → J i σ H → g x σ H fun σ2 H2 => tb { D with nx := J (i + 1), ct := J (i + 1), bk := D.nx } σ2 H2)
    (after : ∀ σ H, J xs.length σ H → D.nx σ H) :
    ∃ V : Nat → Nat → L2.St → Hp → Prop, (∃ n, V 0 n σ H) ∧ ∀ i n σ H, V i n σ H → ((Itk K k a).stop i H ∧ D.nx σ H) ∨
      ((Itk K k a).go i H ∧ ∃ N : L2.St → Hp → Prop, (∀ σ1 H1, N σ1 H1 → ∃ n1, n1 < n ∧ V (i + 1) n1 σ1 H1) ∧
        ∀ x H1, (Itk K k a).yld i H x H1 → g x σ H1 fun σ2 H2 => tb { D with nx := N, ct := N, bk := D.nx } σ2 H2) := by
  cases k
  · exact for_list J start stays turn after
  · exact for_tup J start stays turn after
end
section
variable {K : PySem.W.Frag} {S : Addr → Prop} {I : Hp → Prop} {σ : L2.St} {H : Hp} {Q : Addr → Hp → Prop} {te : TE} {vs : List Nat} {g : TG} {tt : TT}
theorem lcK {k : Bool} (m : Fm S I) (i0 : I H) {a : Addr} {xs : List V} (hx : SqK k K H a xs) (ha : ¬ S a) (P : Nat → List V → Hp → Prop) (p0 : ∀ D, H D = none → P 0 [] (upd H D (.lst [])))
    (hs : ∀ D i x acc H', H D = none → xs[i]? = some x → Fx S I H H' → H' D = some (.lst acc) → acc.length ≤ i → P i acc H' → g x (wipe σ vs) H' fun σ2 H2 => wipe σ2 vs = wipe σ vs ∧ tt σ2 H2 fun b H3 =>
      if b = true then te σ2 H3 fun y H4 => ∃ acc, H4 D = some (.lst acc) ∧ acc.length < sizeLine ∧ Cs S I H P D (i + 1) (upd H4 D (.lst (acc ++ [y]))) else Cs S I H P D (i + 1) H3)
    (q : ∀ D H' acc, H D = none → Fx S I H H' → H' D = some (.lst acc) → P xs.length acc H' → Q D H') :
    ∀ D, H D = none → ∃ V : Nat → Nat → Hp → Prop, (∃ n, V 0 n (upd H D (.lst []))) ∧ ∀ i n H, V i n H →
      ((Itk K k a).stop i H ∧ Q D H) ∨ ((Itk K k a).go i H ∧ ∃ N : Hp → Prop, (∀ H1, N H1 → ∃ n1, n1 < n ∧ V (i + 1) n1 H1) ∧ ∀ x H1, (Itk K k a).yld i H x H1 → g x (wipe σ vs) H1 fun σ2 H2 => wipe σ2 vs = wipe σ vs ∧ tt σ2 H2 fun b H3 =>
        if b = true then te σ2 H3 fun y H4 => ∃ acc, H4 D = some (.lst acc) ∧ acc.length < sizeLine ∧ N (upd H4 D (.lst (acc ++ [y]))) else N H3) := by
  cases k
  · exact lcL m i0 hx ha P p0 hs q
  · exact lcT m i0 hx ha P p0 hs q
end
end Fr
set_option Elab.async false
set_option linter.all false
set_option maxRecDepth 100000
namespace K05M
def fv (a b c d x y : Int) : Int := a * x * x * x + b * x * x * y + c * x * y * y + d * y * y * y
def fdisc (a b c d : Int) : Int := b * b * c * c - 4 * a * c * c * c - 4 * b * b * b * d - 27 * a * a * d * d + 18 * a * b * c * d
def fl2 (a b c d p q r s : Int) : Int := 3 * a * p * p * r + b * p * (p * s + 2 * q * r) + c * q * (2 * p * s + q * r) + 3 * d * q * q * s
def fl3 (a b c d p q r s : Int) : Int := 3 * a * p * r * r + b * r * (2 * p * s + q * r) + c * s * (p * s + 2 * q * r) + 3 * d * q * s * s
theorem put1 (a b c d p q r s i j : Int) : fv (fv a b c d p q) (fl2 a b c d p q r s) (fl3 a b c d p q r s) (fv a b c d r s) i j = fv a b c d (i * p + j * r) (i * q + j * s) := by
  unfold fv fl2 fl3
  grind
theorem put2 (a b c d p q r s i j k m : Int) : fl2 (fv a b c d p q) (fl2 a b c d p q r s) (fl3 a b c d p q r s) (fv a b c d r s) i j k m = fl2 a b c d (i * p + j * r) (i * q + j * s) (k * p + m * r) (k * q + m * s) := by
  unfold fv fl2 fl3
  grind
theorem put3 (a b c d p q r s i j k m : Int) : fl3 (fv a b c d p q) (fl2 a b c d p q r s) (fl3 a b c d p q r s) (fv a b c d r s) i j k m = fl3 a b c d (i * p + j * r) (i * q + j * s) (k * p + m * r) (k * q + m * s) := by
  unfold fv fl2 fl3
  grind
theorem disc (a b c d p q r s : Int) : fdisc (fv a b c d p q) (fl2 a b c d p q r s) (fl3 a b c d p q r s) (fv a b c d r s) = (p * s - q * r) * (p * s - q * r) * (p * s - q * r) * (p * s - q * r) * (p * s - q * r) * (p * s - q * r) * fdisc a b c d := by
  unfold fdisc fv fl2 fl3
  grind
theorem fv_mul (e a b c d x y : Int) : fv (e * a) (e * b) (e * c) (e * d) x y = e * fv a b c d x y := by unfold fv; grind
theorem fl2_mul (e a b c d p q r s : Int) : fl2 (e * a) (e * b) (e * c) (e * d) p q r s = e * fl2 a b c d p q r s := by unfold fl2; grind
theorem fl3_mul (e a b c d p q r s : Int) : fl3 (e * a) (e * b) (e * c) (e * d) p q r s = e * fl3 a b c d p q r s := by unfold fl3; grind
theorem disc_neg (a b c d : Int) : fdisc (-1 * a) (-1 * b) (-1 * c) (-1 * d) = fdisc a b c d := by unfold fdisc; grind
theorem det_mul (p q r s i j k m : Int) : (i * p + j * r) * (k * q + m * s) - (i * q + j * s) * (k * p + m * r) = (i * m - j * k) * (p * s - q * r) := by grind
theorem fv_one (a b c d : Int) : fv a b c d 1 0 = a ∧ fv a b c d 0 1 = d ∧ fl2 a b c d 1 0 0 1 = b ∧ fl3 a b c d 1 0 0 1 = c := by
  unfold fv fl2 fl3
  refine ⟨?_, ?_, ?_, ?_⟩ <;> grind
theorem und (p q r s e : Int) (he : e = p * s - q * r) (h : e = 1 ∨ e = -1) : (e * s) * p + (-e * q) * r = 1 ∧ (e * s) * q + (-e * q) * s = 0 ∧ (-e * r) * p + (e * p) * r = 0 ∧ (-e * r) * q + (e * p) * s = 1 := by
  have h1 : e * e = 1 := by rcases h with rfl | rfl <;> decide
  refine ⟨?_, ?_, ?_, ?_⟩ <;> grind
end K05M
namespace Fr
open PySem PySem.Spec PyProof.Rows L2
theorem op_in_seqK {X : Cx} {K : PySem.W.Frag} (hK : X.K = K) : OpR X (compareOp .In) (rIn K false) := hK ▸ op_in_seq
theorem op_notIn_seqK {X : Cx} {K : PySem.W.Frag} (hK : X.K = K) : OpR X (compareOp .NotIn) (rIn K true) := hK ▸ op_notIn_seq
end Fr
set_option Elab.async false
set_option linter.all false
set_option maxRecDepth 100000
namespace Fr
open PySem PySem.Spec PyProof.Rows L2
inductive Od (H : Hp) : V → Prop where
  | non : Od H .non
  | tt : Od H (.bl true)
  | str (z : Str) (h : PyData.strOk z = true) : Od H (.str z)
def El (H : Hp) (x : V) (b : Bool) : Prop := (∃ i, x = .int i ∧ b = true) ∨ (Od H x ∧ b = false)
inductive RowV (H : Hp) : V → Option (Int × Int) → Prop where
  | yes {a : Addr} {p q : Int} (h : H a = some (.tup [.int p, .int q])) : RowV H (.ref a) (some (p, q))
  | odd {v : V} (h : Od H v) : RowV H v none
  | int (n : Int) : RowV H (.int n) none
  | lst {a : Addr} {xs : List V} (h : H a = some (.lst xs)) : RowV H (.ref a) none
  | snd {a : Addr} {n : Int} {v : V} (h : H a = some (.tup [.int n, v])) (o : Od H v) : RowV H (.ref a) none
  | fst {a : Addr} {n : Int} {v : V} (h : H a = some (.tup [v, .int n])) (o : Od H v) : RowV H (.ref a) none
def two4 (o1 o2 : Option (Int × Int)) : Option (Int × Int × Int × Int) := match o1, o2 with
  | some (p, q), some (r, s) => some (p, q, r, s)
  | _, _ => none
inductive ChV (H : Hp) : V → Option (Int × Int × Int × Int) → Prop where
  | two {a : Addr} {x y : V} {o1 o2 : Option (Int × Int)} (h : H a = some (.tup [x, y])) (h1 : RowV H x o1) (h2 : RowV H y o2) : ChV H (.ref a) (two4 o1 o2)
  | odd {v : V} (h : Od H v) : ChV H v none
  | int (n : Int) : ChV H (.int n) none
  | lst {a : Addr} {xs : List V} (h : H a = some (.lst xs)) : ChV H (.ref a) none
  | len {a : Addr} {xs : List V} (h : H a = some (.tup xs)) (l : xs.length ≠ 2) : ChV H (.ref a) none
  | dct {a : Addr} (h : H a = some (.dK [])) : ChV H (.ref a) none
theorem Od.ex {H H' : Hp} {v : V} (e : Ex0 H H') (h : Od H v) : Od H' v := by
  cases h with
  | non => exact .non
  | tt => exact .tt
  | str z h => exact .str z h
theorem El.ex {H H' : Hp} {x : V} {b : Bool} (e : Ex0 H H') (h : El H x b) : El H' x b := by
  rcases h with h | ⟨h, z⟩
  · exact .inl h
  · exact .inr ⟨h.ex e, z⟩
theorem RowV.ex {H H' : Hp} {v : V} {o : Option (Int × Int)} (e : Ex0 H H') (h : RowV H v o) : RowV H' v o := by
  cases h with
  | yes h => exact .yes (Ex0.ap e h)
  | odd h => exact .odd (h.ex e)
  | int n => exact .int n
  | lst h => exact .lst (Ex0.ap e h)
  | snd h o => exact .snd (Ex0.ap e h) (o.ex e)
  | fst h o => exact .fst (Ex0.ap e h) (o.ex e)
theorem ChV.ex {H H' : Hp} {v : V} {o : Option (Int × Int × Int × Int)} (e : Ex0 H H') (h : ChV H v o) : ChV H' v o := by
  cases h with
  | two h h1 h2 => exact .two (Ex0.ap e h) (h1.ex e) (h2.ex e)
  | odd h => exact .odd (h.ex e)
  | int n => exact .int n
  | lst h => exact .lst (Ex0.ap e h)
  | len h l => exact .len (Ex0.ap e h) l
  | dct h => exact .dct (Ex0.ap e h)
theorem Od.ty {K : PySem.W.Frag} {H : Hp} {v : V} (h : Od H v) : ∃ t, TyX K H v t ∧ PySem.W.kitOne K t (.type "tuple") = some false ∧ ((PySem.W.kitOne K t (.type "int") = some true ∧ PySem.W.kitOne K t (.type "bool") = some true) ∨ PySem.W.kitOne K t (.type "int") = some false) := by
  cases h with
  | non => exact ⟨_, .base .non, kit_ty (by decide +kernel), .inr (kit_ty (by decide +kernel))⟩
  | tt => exact ⟨_, .base (.bl true), kit_ty (by decide +kernel), .inl ⟨kit_ty (by decide +kernel), kit_ty (by decide +kernel)⟩⟩
  | str z _ => exact ⟨_, .base (.str _), kit_ty (by decide +kernel), .inr (kit_ty (by decide +kernel))⟩
theorem RowV.cls {K : PySem.W.Frag} {H : Hp} {v : V} {o : Option (Int × Int)} (h : RowV H v o) : (∃ (a : Addr) (x y : V) (b1 b2 : Bool), v = .ref a ∧ H a = some (.tup [x, y]) ∧ El H x b1 ∧ El H y b2 ∧ o.isSome = (b1 && b2)) ∨ (∃ t, TyX K H v t ∧ PySem.W.kitOne K t (.type "tuple") = some false ∧ o = none) := by
  cases h with
  | yes h => exact .inl ⟨_, _, _, true, true, rfl, h, .inl ⟨_, rfl, rfl⟩, .inl ⟨_, rfl, rfl⟩, rfl⟩
  | odd h =>
    obtain ⟨t, h1, h2, _⟩ := h.ty (K := K)
    exact .inr ⟨t, h1, h2, rfl⟩
  | int n => exact .inr ⟨_, .base (.int n), kit_ty (by decide +kernel), rfl⟩
  | lst h => exact .inr ⟨_, .base (.lst h), kit_ty (by decide +kernel), rfl⟩
  | snd h o => exact .inl ⟨_, _, _, true, false, rfl, h, .inl ⟨_, rfl, rfl⟩, .inr ⟨o, rfl⟩, rfl⟩
  | fst h o => exact .inl ⟨_, _, _, false, true, rfl, h, .inr ⟨o, rfl⟩, .inl ⟨_, rfl, rfl⟩, rfl⟩
theorem ChV.cls {K : PySem.W.Frag} {H : Hp} {v : V} {o : Option (Int × Int × Int × Int)} (h : ChV H v o) : (∃ (a : Addr) (x y : V) (o1 o2 : Option (Int × Int)), v = .ref a ∧ H a = some (.tup [x, y]) ∧ RowV H x o1 ∧ RowV H y o2 ∧ o = two4 o1 o2) ∨ (∃ t, TyX K H v t ∧ PySem.W.kitOne K t (.type "tuple") = some false ∧ o = none) ∨ (∃ a xs, v = .ref a ∧ H a = some (.tup xs) ∧ xs.length ≠ 2 ∧ o = none) := by
  cases h with
  | two h h1 h2 => exact .inl ⟨_, _, _, _, _, rfl, h, h1, h2, rfl⟩
  | odd h =>
    obtain ⟨t, h1, h2, _⟩ := h.ty (K := K)
    exact .inr (.inl ⟨t, h1, h2, rfl⟩)
  | int n => exact .inr (.inl ⟨_, .base (.int n), kit_ty (by decide +kernel), rfl⟩)
  | lst h => exact .inr (.inl ⟨_, .base (.lst h), kit_ty (by decide +kernel), rfl⟩)
  | len h l => exact .inr (.inr ⟨_, _, rfl, h, l, rfl⟩)
  | dct h => exact .inr (.inl ⟨_, .base (.dK h), kit_ty (by decide +kernel), rfl⟩)
theorem ChV.t4 {H : Hp} {v : V} {p q r s : Int} (h : ChV H v (some (p, q, r, s))) : ∃ a t1 t2, v = .ref a ∧ H a = some (.tup [.ref t1, .ref t2]) ∧ H t1 = some (.tup [.int p, .int q]) ∧ H t2 = some (.tup [.int r, .int s]) := by
  generalize ho : (some (p, q, r, s)) = o at h
  cases h with
  | @two a x y o1 o2 h h1 h2 =>
    cases o1 with
    | none => cases ho
    | some o1 =>
      cases o2 with
      | none => cases ho
      | some o2 =>
        cases h1 with
        | yes g1 =>
          cases h2 with
          | yes g2 =>
            have := Option.some.inj ho
            obtain ⟨rfl, rfl, rfl, rfl⟩ : p = _ ∧ q = _ ∧ r = _ ∧ s = _ := by simpa using this
            exact ⟨a, _, _, rfl, h, g1, g2⟩
  | odd => cases ho
  | int => cases ho
  | lst => cases ho
  | len => cases ho
  | dct => cases ho
theorem strOk_of (s : String) : PyData.strOk (s : Str) = true := by
  rw [show ((s : Str)) = ⟨(s.toList.map Char.toNat).toArray⟩ from Str.ofString_eq_toList s]
  unfold PyData.strOk
  rw [Array.all_eq_true]
  intro i hi
  simp only [List.getElem_toArray, List.getElem_map, decide_eq_true_iff]
  have := (s.toList[i]'(by simpa using hi)).valid
  show Char.toNat _ < _
  unfold Char.toNat
  rcases this with h | h
  · have : (s.toList[i]'(by simpa using hi)).val.toNat < 0xd800 := h
    omega
  · exact h.2
theorem Od.dp {K : PySem.W.Frag} {H : Hp} {v : V} (h : Od H v) : ∃ d, Dp K H v d ∧ SeqAt.shaped (.list [d]) = true ∧ PyData.eqv (.list [d]) (.list []) = false := by
  cases h with
  | non => exact ⟨_, .non, by decide +kernel, by decide +kernel⟩
  | tt => exact ⟨_, .bl true, by decide +kernel, by decide +kernel⟩
  | str z hz => exact ⟨_, .str z, by simp [SeqAt.shaped, PyData.canLay0, PyData.canLayAll0, PyData.depth, PyData.depthAll, hz], by simp [PyData.eqv, PyData.eqvAll]⟩
theorem RowV.cls2 {K : PySem.W.Frag} {H : Hp} {v : V} {o : Option (Int × Int)} (h : RowV H v o) : (∃ (a : Addr) (p q : Int), v = .ref a ∧ H a = some (.tup [.int p, .int q]) ∧ o = some (p, q)) ∨ (∃ (a : Addr) (x y : V) (n : Int) (z : V), v = .ref a ∧ H a = some (.tup [x, y]) ∧ Od H z ∧ ((x = .int n ∧ y = z) ∨ (x = z ∧ y = .int n)) ∧ o = none) ∨ (∃ t, TyX K H v t ∧ PySem.W.kitOne K t (.type "tuple") = some false ∧ o = none) := by
  cases h with
  | yes h => exact .inl ⟨_, _, _, rfl, h, rfl⟩
  | odd h =>
    obtain ⟨t, h1, h2, _⟩ := h.ty (K := K)
    exact .inr (.inr ⟨t, h1, h2, rfl⟩)
  | int n => exact .inr (.inr ⟨_, .base (.int n), kit_ty (by decide +kernel), rfl⟩)
  | lst h => exact .inr (.inr ⟨_, .base (.lst h), kit_ty (by decide +kernel), rfl⟩)
  | snd h o => exact .inr (.inl ⟨_, _, _, _, _, rfl, h, o, .inl ⟨rfl, rfl⟩, rfl⟩)
  | fst h o => exact .inr (.inl ⟨_, _, _, _, _, rfl, h, o, .inr ⟨rfl, rfl⟩, rfl⟩)
end Fr
set_option Elab.async false
set_option linter.all false
set_option maxRecDepth 100000
namespace Fr
open PySem PySem.Spec PyProof.Rows L2
def Bs (M : Nat) (p q one other u v u' v' : Int) : Prop := ∃ s : Int, (s = 1 ∨ s = -1) ∧ Bz M (s * p) (s * q) (s * one) (s * other) u v u' v'
theorem sgn_abs {s x : Int} (h : s = 1 ∨ s = -1) : (s * x).natAbs = x.natAbs := by
  rcases h with rfl | rfl <;> omega
theorem Bs.init {M : Nat} {p q : Int} (g : Nat.gcd p.natAbs q.natAbs = 1) (h1 : p.natAbs ≤ M) (h2 : q.natAbs ≤ M) : Bs M p q p q 1 0 0 1 := by
  rcases Int.le_total 0 q with h | h
  · exact ⟨1, .inl rfl, Bz.init (by omega) (by rw [sgn_abs (.inl rfl), sgn_abs (.inl rfl)]; exact g) (by rw [sgn_abs (.inl rfl)]; exact h1) (by rw [sgn_abs (.inl rfl)]; exact h2)⟩
  · exact ⟨-1, .inr rfl, Bz.init (by omega) (by rw [sgn_abs (.inr rfl), sgn_abs (.inr rfl)]; exact g) (by rw [sgn_abs (.inr rfl)]; exact h1) (by rw [sgn_abs (.inr rfl)]; exact h2)⟩
theorem Bs.fd {s one other : Int} (hs : s = 1 ∨ s = -1) (h : 0 ≤ s * other) : one.fdiv other = (s * one) / (s * other) := by
  rcases hs with rfl | rfl
  · rw [Int.one_mul, Int.one_mul] at *
    exact Int.fdiv_eq_ediv_of_nonneg _ h
  · rw [← Int.fdiv_eq_ediv_of_nonneg _ h, Int.neg_one_mul, Int.neg_one_mul, Int.neg_fdiv_neg]
theorem Bs.step {M : Nat} {p q one other u v u' v' : Int} (h : Bs M p q one other u v u' v') (ho : other ≠ 0) :
    Bs M p q other (one - one.fdiv other * other) u' v' (u - one.fdiv other * u') (v - one.fdiv other * v') ∧ (one - one.fdiv other * other).natAbs < other.natAbs := by
  obtain ⟨s, hs, hz⟩ := h
  have ho' : s * other ≠ 0 := by rcases hs with rfl | rfl <;> omega
  obtain ⟨h1, h2⟩ := hz.step ho'
  rw [← Bs.fd hs hz.o] at h1 h2
  have e : s * one - one.fdiv other * (s * other) = s * (one - one.fdiv other * other) := by rw [Int.mul_sub, Int.mul_left_comm]
  rw [e] at h1 h2
  have o' := h1.o
  refine ⟨⟨s, hs, h1⟩, ?_⟩
  rw [← sgn_abs (x := one - one.fdiv other * other) hs, ← sgn_abs (x := other) hs]
  have := hz.o
  omega
theorem Bs.fin {M : Nat} {p q one u v u' v' : Int} (h : Bs M p q one 0 u v u' v') (hp : p.natAbs ≤ M) : (one = 1 ∨ one = -1) ∧ u * p + v * q = one ∧ u.natAbs ≤ q.natAbs + 1 ∧ v.natAbs ≤ M + (q.natAbs + 1) * M := by
  obtain ⟨s, hs, hz⟩ := h
  rw [Int.mul_zero] at hz
  obtain ⟨_, h2, h3⟩ := hz.fin (by rw [sgn_abs hs]; exact hp)
  rw [sgn_abs hs] at h2 h3
  have g := hz.g
  rw [sgn_abs hs, show (0 : Int).natAbs = 0 from rfl, Nat.gcd_zero_right] at g
  refine ⟨by omega, ?_, h2, h3⟩
  have e := hz.e1
  rcases hs with rfl | rfl
  · grind
  · grind
theorem Bs.b {M : Nat} {p q one other u v u' v' : Int} (h : Bs M p q one other u v u' v') (ho : other ≠ 0) (hp : p.natAbs ≤ M) : one.natAbs ≤ M ∧ other.natAbs ≤ M ∧ (one.fdiv other).natAbs ≤ M ∧ u.natAbs ≤ q.natAbs + 1 ∧ u'.natAbs ≤ q.natAbs + 1 ∧ v'.natAbs ≤ M + (q.natAbs + 1) * M := by
  obtain ⟨s, hs, hz⟩ := h
  have ho' : s * other ≠ 0 := by rcases hs with rfl | rfl <;> omega
  have b1 := hz.b1
  have b2 := hz.b2
  have bu := hz.bu
  have bu' := hz.bu'
  have bv := hz.bv ho' (by rw [sgn_abs hs]; exact hp)
  have bt := Int.natAbs_ediv_le_natAbs (s * one) (s * other)
  rw [← Bs.fd hs hz.o] at bt
  rw [sgn_abs hs] at b1 b2 bu bu' bv bt
  exact ⟨b1, b2, Nat.le_trans bt b1, bu, bu', bv⟩
end Fr
namespace RG
open PySem PySem.Spec PyProof.Rows L2 Fr
def Un (K : PySem.W.Frag) (H : Hp) (A : Addr) : Prop := ∃ a b c, SqT K H A [.ref a, .ref b, .ref c] ∧ SqT K H a [.int 1, .int 0, .int 0] ∧ SqT K H b [.int 0, .int 1, .int 0] ∧ SqT K H c [.int 0, .int 0, .int 1]
theorem un_k {K : PySem.W.Frag} {H : Hp} {A a b c : Addr} {o0 o1 o2 o3 : Option Addr} {s0 s1 s2 s3 : Array (Option Value)} {n0 n1 n2 n3 : Nat} {t0 t1 t2 t3 t4 t5 t6 t7 t8 : Tok}
    (h0 : K.lookup A = some ⟨.type "tuple", o0, .seq #[.ref a, .ref b, .ref c] n0, s0⟩) (h1 : K.lookup a = some ⟨.type "tuple", o1, .seq #[.int 1 t0, .int 0 t1, .int 0 t2] n1, s1⟩)
    (h2 : K.lookup b = some ⟨.type "tuple", o2, .seq #[.int 0 t3, .int 1 t4, .int 0 t5] n2, s2⟩) (h3 : K.lookup c = some ⟨.type "tuple", o3, .seq #[.int 0 t6, .int 0 t7, .int 1 t8] n3, s3⟩) : Un K H A :=
  ⟨a, b, c, .inr ⟨_, _, _, h0, rfl, rfl, by show 3 ≤ sizeLine; decide, .cons rfl (.cons rfl (.cons rfl .nil))⟩, .inr ⟨_, _, _, h1, rfl, rfl, by show 3 ≤ sizeLine; decide, .cons ⟨_, rfl⟩ (.cons ⟨_, rfl⟩ (.cons ⟨_, rfl⟩ .nil))⟩,
    .inr ⟨_, _, _, h2, rfl, rfl, by show 3 ≤ sizeLine; decide, .cons ⟨_, rfl⟩ (.cons ⟨_, rfl⟩ (.cons ⟨_, rfl⟩ .nil))⟩, .inr ⟨_, _, _, h3, rfl, rfl, by show 3 ≤ sizeLine; decide, .cons ⟨_, rfl⟩ (.cons ⟨_, rfl⟩ (.cons ⟨_, rfl⟩ .nil))⟩⟩
def topS (i : Nat) : Stmt := PySem.Challenge.pw_formrings_k73_whole_ways_from_makers.main.body.getD i (.Pass ⟨0, 0, 0, 0⟩)
abbrev s_is_any_integer : Stmt := topS 15
abbrev N_is_any_integer : List Str := ["value"]
theorem sc_is_any_integer : FnScope N_is_any_integer ["value"] (defScope s_is_any_integer) := ⟨rfl, rfl, rfl, by decide +kernel, rfl, by decide +kernel, by decide +kernel⟩
abbrev s_is_short_integer : Stmt := topS 16
abbrev N_is_short_integer : List Str := ["value"]
theorem sc_is_short_integer : FnScope N_is_short_integer ["value"] (defScope s_is_short_integer) := ⟨rfl, rfl, rfl, by decide +kernel, rfl, by decide +kernel, by decide +kernel⟩
abbrev s_is_between : Stmt := topS 17
abbrev N_is_between : List Str := ["value", "low", "high"]
theorem sc_is_between : FnScope N_is_between ["value", "low", "high"] (defScope s_is_between) := ⟨rfl, rfl, rfl, by decide +kernel, rfl, by decide +kernel, by decide +kernel⟩
abbrev s_are_any_integers : Stmt := topS 18
abbrev N_are_any_integers : List Str := ["value", "many", "number"]
theorem sc_are_any_integers : FnScope N_are_any_integers ["value", "many"] (defScope s_are_any_integers) := ⟨rfl, rfl, rfl, by decide +kernel, rfl, by decide +kernel, by decide +kernel⟩
abbrev s_are_short_integers : Stmt := topS 19
abbrev N_are_short_integers : List Str := ["value", "many", "n"]
theorem sc_are_short_integers : FnScope N_are_short_integers ["value", "many"] (defScope s_are_short_integers) := ⟨rfl, rfl, rfl, by decide +kernel, rfl, by decide +kernel, by decide +kernel⟩
abbrev s_check_integer : Stmt := topS 21
abbrev N_check_integer : List Str := ["value"]
theorem sc_check_integer : FnScope N_check_integer ["value"] (defScope s_check_integer) := ⟨rfl, rfl, rfl, by decide +kernel, rfl, by decide +kernel, by decide +kernel⟩
abbrev s_check_between : Stmt := topS 22
abbrev N_check_between : List Str := ["value", "low", "high"]
theorem sc_check_between : FnScope N_check_between ["value", "low", "high"] (defScope s_check_between) := ⟨rfl, rfl, rfl, by decide +kernel, rfl, by decide +kernel, by decide +kernel⟩
abbrev s_determinant_of : Stmt := topS 24
abbrev N_determinant_of : List Str := ["change", "p", "q", "r", "s"]
theorem sc_determinant_of : FnScope N_determinant_of ["change"] (defScope s_determinant_of) := ⟨rfl, rfl, rfl, by decide +kernel, rfl, by decide +kernel, by decide +kernel⟩
abbrev s_is_change : Stmt := topS 25
abbrev N_is_change : List Str := ["value", "row"]
theorem sc_is_change : FnScope N_is_change ["value"] (defScope s_is_change) := ⟨rfl, rfl, rfl, by decide +kernel, rfl, by decide +kernel, by decide +kernel⟩
abbrev s_is_short_change : Stmt := topS 26
abbrev N_is_short_change : List Str := ["value", "row"]
theorem sc_is_short_change : FnScope N_is_short_change ["value"] (defScope s_is_short_change) := ⟨rfl, rfl, rfl, by decide +kernel, rfl, by decide +kernel, by decide +kernel⟩
abbrev s_check_change : Stmt := topS 27
abbrev N_check_change : List Str := ["value"]
theorem sc_check_change : FnScope N_check_change ["value"] (defScope s_check_change) := ⟨rfl, rfl, rfl, by decide +kernel, rfl, by decide +kernel, by decide +kernel⟩
abbrev s_shared_divisor : Stmt := topS 29
abbrev N_shared_divisor : List Str := ["numbers", "shared", "number"]
theorem sc_shared_divisor : FnScope N_shared_divisor ["numbers"] (defScope s_shared_divisor) := ⟨rfl, rfl, rfl, by decide +kernel, rfl, by decide +kernel, by decide +kernel⟩
abbrev s_fraction : Stmt := topS 30
abbrev N_fraction : List Str := ["top", "bottom", "shared"]
theorem sc_fraction : FnScope N_fraction ["top", "bottom"] (defScope s_fraction) := ⟨rfl, rfl, rfl, by decide +kernel, rfl, by decide +kernel, by decide +kernel⟩
abbrev s_cofactors : Stmt := topS 31
abbrev N_cofactors : List Str := ["first", "second", "left", "right", "times", "sign", "i", "j", "one", "other"]
theorem sc_cofactors : FnScope N_cofactors ["first", "second"] (defScope s_cofactors) := ⟨rfl, rfl, rfl, by decide +kernel, rfl, by decide +kernel, by decide +kernel⟩
abbrev s_form_value : Stmt := topS 41
abbrev N_form_value : List Str := ["coefficients", "x", "y", "a", "b", "c", "d"]
theorem sc_form_value : FnScope N_form_value ["coefficients", "x", "y"] (defScope s_form_value) := ⟨rfl, rfl, rfl, by decide +kernel, rfl, by decide +kernel, by decide +kernel⟩
abbrev s_form_led : Stmt := topS 42
abbrev N_form_led : List Str := ["coefficients", "change", "a", "b", "c", "d", "p", "q", "r", "s", "e", "second", "third"]
theorem sc_form_led : FnScope N_form_led ["coefficients", "change"] (defScope s_form_led) := ⟨rfl, rfl, rfl, by decide +kernel, rfl, by decide +kernel, by decide +kernel⟩
abbrev s_check_form : Stmt := topS 44
abbrev N_check_form : List Str := ["value"]
theorem sc_check_form : FnScope N_check_form ["value"] (defScope s_check_form) := ⟨rfl, rfl, rfl, by decide +kernel, rfl, by decide +kernel, by decide +kernel⟩
abbrev s_form_of : Stmt := topS 45
abbrev N_form_of : List Str := ["coefficients", "form"]
theorem sc_form_of : FnScope N_form_of ["coefficients"] (defScope s_form_of) := ⟨rfl, rfl, rfl, by decide +kernel, rfl, by decide +kernel, by decide +kernel⟩
abbrev s_Form___init__ : Stmt := inClass (topS 46) 0
abbrev N_Form___init__ : List Str := ["self", "coefficients"]
theorem sc_Form___init__ : FnScope N_Form___init__ ["self", "coefficients"] (defScope s_Form___init__) := ⟨rfl, rfl, rfl, by decide +kernel, rfl, by decide +kernel, by decide +kernel⟩
abbrev s_Form_coefficients : Stmt := inClass (topS 46) 2
abbrev N_Form_coefficients : List Str := ["self"]
theorem sc_Form_coefficients : FnScope N_Form_coefficients ["self"] (defScope s_Form_coefficients) := ⟨rfl, rfl, rfl, by decide +kernel, rfl, by decide +kernel, by decide +kernel⟩
abbrev s_Form___call__ : Stmt := inClass (topS 46) 7
abbrev N_Form___call__ : List Str := ["self", "x", "y"]
theorem sc_Form___call__ : FnScope N_Form___call__ ["self", "x", "y"] (defScope s_Form___call__) := ⟨rfl, rfl, rfl, by decide +kernel, rfl, by decide +kernel, by decide +kernel⟩
abbrev s_Form_led : Stmt := inClass (topS 46) 8
abbrev N_Form_led : List Str := ["self", "change"]
theorem sc_Form_led : FnScope N_Form_led ["self", "change"] (defScope s_Form_led) := ⟨rfl, rfl, rfl, by decide +kernel, rfl, by decide +kernel, by decide +kernel⟩
abbrev s_Form___eq__ : Stmt := inClass (topS 46) 17
abbrev N_Form___eq__ : List Str := ["self", "other"]
theorem sc_Form___eq__ : FnScope N_Form___eq__ ["self", "other"] (defScope s_Form___eq__) := ⟨rfl, rfl, rfl, by decide +kernel, rfl, by decide +kernel, by decide +kernel⟩
abbrev s_table_of : Stmt := topS 49
abbrev N_table_of : List Str := ["coefficients", "a", "b", "c", "d"]
theorem sc_table_of : FnScope N_table_of ["coefficients"] (defScope s_table_of) := ⟨rfl, rfl, rfl, by decide +kernel, rfl, by decide +kernel, by decide +kernel⟩
abbrev s_product_by : Stmt := topS 50
abbrev N_product_by : List Str := ["table", "first", "second", "a", "b", "c", "d", "e", "f", "g", "h", "i", "u", "x", "y", "v", "z", "s", "left", "middle", "right"]
theorem sc_product_by : FnScope N_product_by ["table", "first", "second"] (defScope s_product_by) := ⟨rfl, rfl, rfl, by decide +kernel, rfl, by decide +kernel, by decide +kernel⟩
abbrev s_determinant_by : Stmt := topS 51
abbrev N_determinant_by : List Str := ["rows", "a", "b", "c", "d", "e", "f", "g", "h", "i"]
theorem sc_determinant_by : FnScope N_determinant_by ["rows"] (defScope s_determinant_by) := ⟨rfl, rfl, rfl, by decide +kernel, rfl, by decide +kernel, by decide +kernel⟩
abbrev s_map_by : Stmt := topS 52
abbrev N_map_by : List Str := ["table", "entries", "a", "b", "c", "d", "e", "f", "g", "h", "i", "u", "x", "y"]
theorem sc_map_by : FnScope N_map_by ["table", "entries"] (defScope s_map_by) := ⟨rfl, rfl, rfl, by decide +kernel, rfl, by decide +kernel, by decide +kernel⟩
abbrev s_polynomial_by : Stmt := topS 53
abbrev N_polynomial_by : List Str := ["table", "entries", "a", "b", "c", "d", "e", "f", "g", "h", "i", "minors"]
theorem sc_polynomial_by : FnScope N_polynomial_by ["table", "entries"] (defScope s_polynomial_by) := ⟨rfl, rfl, rfl, by decide +kernel, rfl, by decide +kernel, by decide +kernel⟩
abbrev s_check_bottom : Stmt := topS 55
abbrev N_check_bottom : List Str := ["bottom"]
theorem sc_check_bottom : FnScope N_check_bottom ["bottom"] (defScope s_check_bottom) := ⟨rfl, rfl, rfl, by decide +kernel, rfl, by decide +kernel, by decide +kernel⟩
abbrev s_table_for : Stmt := topS 56
abbrev N_table_for : List Str := ["ring"]
theorem sc_table_for : FnScope N_table_for ["ring"] (defScope s_table_for) := ⟨rfl, rfl, rfl, by decide +kernel, rfl, by decide +kernel, by decide +kernel⟩
abbrev s_Ring___init__ : Stmt := inClass (topS 57) 0
abbrev N_Ring___init__ : List Str := ["self", "form"]
theorem sc_Ring___init__ : FnScope N_Ring___init__ ["self", "form"] (defScope s_Ring___init__) := ⟨rfl, rfl, rfl, by decide +kernel, rfl, by decide +kernel, by decide +kernel⟩
abbrev s_Ring_form : Stmt := inClass (topS 57) 1
abbrev N_Ring_form : List Str := ["self"]
theorem sc_Ring_form : FnScope N_Ring_form ["self"] (defScope s_Ring_form) := ⟨rfl, rfl, rfl, by decide +kernel, rfl, by decide +kernel, by decide +kernel⟩
abbrev s_Ring_one : Stmt := inClass (topS 57) 3
abbrev N_Ring_one : List Str := ["self"]
theorem sc_Ring_one : FnScope N_Ring_one ["self"] (defScope s_Ring_one) := ⟨rfl, rfl, rfl, by decide +kernel, rfl, by decide +kernel, by decide +kernel⟩
abbrev s_Ring_w : Stmt := inClass (topS 57) 4
abbrev N_Ring_w : List Str := ["self"]
theorem sc_Ring_w : FnScope N_Ring_w ["self"] (defScope s_Ring_w) := ⟨rfl, rfl, rfl, by decide +kernel, rfl, by decide +kernel, by decide +kernel⟩
abbrev s_Ring_t : Stmt := inClass (topS 57) 5
abbrev N_Ring_t : List Str := ["self"]
theorem sc_Ring_t : FnScope N_Ring_t ["self"] (defScope s_Ring_t) := ⟨rfl, rfl, rfl, by decide +kernel, rfl, by decide +kernel, by decide +kernel⟩
abbrev s_Ring_element : Stmt := inClass (topS 57) 6
abbrev N_Ring_element : List Str := ["self", "entries", "bottom"]
theorem sc_Ring_element : FnScope N_Ring_element ["self", "entries", "bottom"] (defScope s_Ring_element) := ⟨rfl, rfl, rfl, by decide +kernel, rfl, by decide +kernel, by decide +kernel⟩
abbrev s_Ring___eq__ : Stmt := inClass (topS 57) 7
abbrev N_Ring___eq__ : List Str := ["self", "other"]
theorem sc_Ring___eq__ : FnScope N_Ring___eq__ ["self", "other"] (defScope s_Ring___eq__) := ⟨rfl, rfl, rfl, by decide +kernel, rfl, by decide +kernel, by decide +kernel⟩
abbrev s_check_one_ring : Stmt := topS 58
abbrev N_check_one_ring : List Str := ["first", "second"]
theorem sc_check_one_ring : FnScope N_check_one_ring ["first", "second"] (defScope s_check_one_ring) := ⟨rfl, rfl, rfl, by decide +kernel, rfl, by decide +kernel, by decide +kernel⟩
abbrev s_mixed : Stmt := topS 59
abbrev N_mixed : List Str := ["first", "second", "sign", "top", "bottom", "entries", "one", "other"]
theorem sc_mixed : FnScope N_mixed ["first", "second", "sign"] (defScope s_mixed) := ⟨rfl, rfl, rfl, by decide +kernel, rfl, by decide +kernel, by decide +kernel⟩
abbrev s_Element___init__ : Stmt := inClass (topS 62) 0
abbrev N_Element___init__ : List Str := ["self", "ring", "entries", "bottom", "shared", "number"]
theorem sc_Element___init__ : FnScope N_Element___init__ ["self", "ring", "entries", "bottom"] (defScope s_Element___init__) := ⟨rfl, rfl, rfl, by decide +kernel, rfl, by decide +kernel, by decide +kernel⟩
abbrev s_Element_ring : Stmt := inClass (topS 62) 1
abbrev N_Element_ring : List Str := ["self"]
theorem sc_Element_ring : FnScope N_Element_ring ["self"] (defScope s_Element_ring) := ⟨rfl, rfl, rfl, by decide +kernel, rfl, by decide +kernel, by decide +kernel⟩
abbrev s_Element_entries : Stmt := inClass (topS 62) 2
abbrev N_Element_entries : List Str := ["self"]
theorem sc_Element_entries : FnScope N_Element_entries ["self"] (defScope s_Element_entries) := ⟨rfl, rfl, rfl, by decide +kernel, rfl, by decide +kernel, by decide +kernel⟩
abbrev s_Element_bottom : Stmt := inClass (topS 62) 3
abbrev N_Element_bottom : List Str := ["self"]
theorem sc_Element_bottom : FnScope N_Element_bottom ["self"] (defScope s_Element_bottom) := ⟨rfl, rfl, rfl, by decide +kernel, rfl, by decide +kernel, by decide +kernel⟩
abbrev s_Element_polynomial : Stmt := inClass (topS 62) 6
abbrev N_Element_polynomial : List Str := ["self", "r", "s", "v"]
theorem sc_Element_polynomial : FnScope N_Element_polynomial ["self"] (defScope s_Element_polynomial) := ⟨rfl, rfl, rfl, by decide +kernel, rfl, by decide +kernel, by decide +kernel⟩
abbrev s_Element___add__ : Stmt := inClass (topS 62) 8
abbrev N_Element___add__ : List Str := ["self", "other"]
theorem sc_Element___add__ : FnScope N_Element___add__ ["self", "other"] (defScope s_Element___add__) := ⟨rfl, rfl, rfl, by decide +kernel, rfl, by decide +kernel, by decide +kernel⟩
abbrev s_Element___sub__ : Stmt := inClass (topS 62) 9
abbrev N_Element___sub__ : List Str := ["self", "other"]
theorem sc_Element___sub__ : FnScope N_Element___sub__ ["self", "other"] (defScope s_Element___sub__) := ⟨rfl, rfl, rfl, by decide +kernel, rfl, by decide +kernel, by decide +kernel⟩
abbrev s_Element___mul__ : Stmt := inClass (topS 62) 10
abbrev N_Element___mul__ : List Str := ["self", "other", "entries"]
theorem sc_Element___mul__ : FnScope N_Element___mul__ ["self", "other"] (defScope s_Element___mul__) := ⟨rfl, rfl, rfl, by decide +kernel, rfl, by decide +kernel, by decide +kernel⟩
abbrev s_Element___neg__ : Stmt := inClass (topS 62) 11
abbrev N_Element___neg__ : List Str := ["self", "number"]
theorem sc_Element___neg__ : FnScope N_Element___neg__ ["self"] (defScope s_Element___neg__) := ⟨rfl, rfl, rfl, by decide +kernel, rfl, by decide +kernel, by decide +kernel⟩
abbrev s_Element___bool__ : Stmt := inClass (topS 62) 15
abbrev N_Element___bool__ : List Str := ["self"]
theorem sc_Element___bool__ : FnScope N_Element___bool__ ["self"] (defScope s_Element___bool__) := ⟨rfl, rfl, rfl, by decide +kernel, rfl, by decide +kernel, by decide +kernel⟩
abbrev s_Element___eq__ : Stmt := inClass (topS 62) 16
abbrev N_Element___eq__ : List Str := ["self", "other"]
theorem sc_Element___eq__ : FnScope N_Element___eq__ ["self", "other"] (defScope s_Element___eq__) := ⟨rfl, rfl, rfl, by decide +kernel, rfl, by decide +kernel, by decide +kernel⟩
abbrev s_with_opposites : Stmt := topS 65
abbrev N_with_opposites : List Str := ["pairs", "x", "y"]
theorem sc_with_opposites : FnScope N_with_opposites ["pairs"] (defScope s_with_opposites) := ⟨rfl, rfl, rfl, by decide +kernel, rfl, by decide +kernel, by decide +kernel⟩
abbrev s_row_makers : Stmt := topS 66
abbrev N_row_makers : List Str := ["coefficients", "most", "y", "a", "b", "c", "d", "second", "third", "last", "x"]
theorem sc_row_makers : FnScope N_row_makers ["coefficients", "most", "y"] (defScope s_row_makers) := ⟨rfl, rfl, rfl, by decide +kernel, rfl, by decide +kernel, by decide +kernel⟩
abbrev s_is_maker : Stmt := topS 67
abbrev N_is_maker : List Str := ["coefficients", "value"]
theorem sc_is_maker : FnScope N_is_maker ["coefficients", "value"] (defScope s_is_maker) := ⟨rfl, rfl, rfl, by decide +kernel, rfl, by decide +kernel, by decide +kernel⟩
abbrev s_check_maker : Stmt := topS 68
abbrev N_check_maker : List Str := ["form", "pair"]
theorem sc_check_maker : FnScope N_check_maker ["form", "pair"] (defScope s_check_maker) := ⟨rfl, rfl, rfl, by decide +kernel, rfl, by decide +kernel, by decide +kernel⟩
abbrev s_makers : Stmt := topS 69
abbrev N_makers : List Str := ["form", "most", "found", "y"]
theorem sc_makers : FnScope N_makers ["form", "most"] (defScope s_makers) := ⟨rfl, rfl, rfl, by decide +kernel, rfl, by decide +kernel, by decide +kernel⟩
abbrev s_maker_way : Stmt := topS 70
abbrev N_maker_way : List Str := ["form", "pair", "p", "q", "e", "i", "j"]
theorem sc_maker_way : FnScope N_maker_way ["form", "pair"] (defScope s_maker_way) := ⟨rfl, rfl, rfl, by decide +kernel, rfl, by decide +kernel, by decide +kernel⟩
abbrev s_is_maker_way : Stmt := topS 71
abbrev N_is_maker_way : List Str := ["form", "pair", "value"]
theorem sc_is_maker_way : FnScope N_is_maker_way ["form", "pair", "value"] (defScope s_is_maker_way) := ⟨rfl, rfl, rfl, by decide +kernel, rfl, by decide +kernel, by decide +kernel⟩
abbrev s_ring_made : Stmt := topS 72
abbrev N_ring_made : List Str := ["polynomial", "b", "c", "d"]
theorem sc_ring_made : FnScope N_ring_made ["polynomial"] (defScope s_ring_made) := ⟨rfl, rfl, rfl, by decide +kernel, rfl, by decide +kernel, by decide +kernel⟩
abbrev s_l_vat : Stmt := topS 74
abbrev N_l_vat : List Str := ["_law_script", "_law_at", "_law_cell", "_law_great", "_law_seed"]
theorem sc_l_vat : FnScope N_l_vat ["_law_script", "_law_at"] (defScope s_l_vat) := ⟨rfl, rfl, rfl, by decide +kernel, rfl, by decide +kernel, by decide +kernel⟩
abbrev s_l_scoop : Stmt := topS 75
abbrev N_l_scoop : List Str := ["_law_vat_here", "_law_total", "_law_found", "_law_one", "_law_two"]
theorem sc_l_scoop : FnScope N_l_scoop ["_law_vat_here", "_law_total"] (defScope s_l_scoop) := ⟨rfl, rfl, rfl, by decide +kernel, rfl, by decide +kernel, by decide +kernel⟩
abbrev s_l_from : Stmt := topS 76
abbrev N_l_from : List Str := ["_law_vat_here", "_law_items"]
theorem sc_l_from : FnScope N_l_from ["_law_vat_here", "_law_items"] (defScope s_l_from) := ⟨rfl, rfl, rfl, by decide +kernel, rfl, by decide +kernel, by decide +kernel⟩
abbrev s_l_size : Stmt := topS 77
abbrev N_l_size : List Str := ["_law_vat_here", "_law_most"]
theorem sc_l_size : FnScope N_l_size ["_law_vat_here", "_law_most"] (defScope s_l_size) := ⟨rfl, rfl, rfl, by decide +kernel, rfl, by decide +kernel, by decide +kernel⟩
abbrev s_l_change : Stmt := topS 78
abbrev N_l_change : List Str := ["_law_vat_here", "_law_many", "_law_steps", "_law_found", "_law_turn"]
theorem sc_l_change : FnScope N_l_change ["_law_vat_here", "_law_many"] (defScope s_l_change) := ⟨rfl, rfl, rfl, by decide +kernel, rfl, by decide +kernel, by decide +kernel⟩
abbrev s_l_joined : Stmt := topS 79
abbrev N_l_joined : List Str := ["_law_one", "_law_other", "_law_rows", "_law_row"]
theorem sc_l_joined : FnScope N_l_joined ["_law_one", "_law_other"] (defScope s_l_joined) := ⟨rfl, rfl, rfl, by decide +kernel, rfl, by decide +kernel, by decide +kernel⟩
abbrev s_l_value : Stmt := topS 80
abbrev N_l_value : List Str := ["_law_numbers", "_law_x", "_law_y", "_law_powers", "_law_number", "_law_power"]
theorem sc_l_value : FnScope N_l_value ["_law_numbers", "_law_x", "_law_y"] (defScope s_l_value) := ⟨rfl, rfl, rfl, by decide +kernel, rfl, by decide +kernel, by decide +kernel⟩
abbrev s_l_led : Stmt := topS 81
abbrev N_l_led : List Str := ["_law_numbers", "_law_change_here", "_law_p", "_law_q", "_law_r", "_law_s", "_law_sense", "_law_first", "_law_last", "_law_both", "_law_apart", "_law_second", "_law_third"]
theorem sc_l_led : FnScope N_l_led ["_law_numbers", "_law_change_here"] (defScope s_l_led) := ⟨rfl, rfl, rfl, by decide +kernel, rfl, by decide +kernel, by decide +kernel⟩
abbrev s_l_drawn_form : Stmt := topS 82
abbrev N_l_drawn_form : List Str := ["_law_vat_here", "_law_row", "_law_turn"]
theorem sc_l_drawn_form : FnScope N_l_drawn_form ["_law_vat_here"] (defScope s_l_drawn_form) := ⟨rfl, rfl, rfl, by decide +kernel, rfl, by decide +kernel, by decide +kernel⟩
abbrev s_l_is_way : Stmt := topS 83
abbrev N_l_is_way : List Str := ["_law_numbers", "_law_pair", "_law_value_here", "_law_row", "_law_p", "_law_q", "_law_r", "_law_s", "_law_entry"]
theorem sc_l_is_way : FnScope N_l_is_way ["_law_numbers", "_law_pair", "_law_value_here"] (defScope s_l_is_way) := ⟨rfl, rfl, rfl, by decide +kernel, rfl, by decide +kernel, by decide +kernel⟩
abbrev s_l_short_way : Stmt := topS 84
abbrev N_l_short_way : List Str := ["_law_numbers", "_law_pair", "_law_one", "_law_other", "_law_many", "_law_sense", "_law_first", "_law_second"]
theorem sc_l_short_way : FnScope N_l_short_way ["_law_numbers", "_law_pair"] (defScope s_l_short_way) := ⟨rfl, rfl, rfl, by decide +kernel, rfl, by decide +kernel, by decide +kernel⟩
abbrev s_l_near : Stmt := topS 85
abbrev N_l_near : List Str := ["_law_vat_here", "_law_way", "_law_p", "_law_q", "_law_r", "_law_s", "_law_many", "_law_found"]
theorem sc_l_near : FnScope N_l_near ["_law_vat_here", "_law_way"] (defScope s_l_near) := ⟨rfl, rfl, rfl, by decide +kernel, rfl, by decide +kernel, by decide +kernel⟩
abbrev s_l_way_right : Stmt := topS 86
abbrev N_l_way_right : List Str := ["_law_vat_here", "_law_numbers", "_law_form", "_law_some", "_law_pair", "_law_way", "_law_value_here", "_law_short", "_law_ring", "_law_made", "_law_element", "_law_square"]
theorem sc_l_way_right : FnScope N_l_way_right ["_law_vat_here"] (defScope s_l_way_right) := ⟨rfl, rfl, rfl, by decide +kernel, rfl, by decide +kernel, by decide +kernel⟩
abbrev s_law : Stmt := topS 87
abbrev N_law : List Str := ["_law_script", "_law_at", "_law_vat_here", "_law_turn", "_law_cubic", "_law_told"]
theorem sc_law : FnScope N_law ["_law_script"] (defScope s_law) := ⟨rfl, rfl, rfl, by decide +kernel, rfl, by decide +kernel, by decide +kernel⟩
structure Txt (K : PySem.W.Frag) (mg : Str → Option Value) (C_Form : Addr) (C_Ring : Addr) (C_Element : Addr) : Prop where
  g_Form : mg "Form" = some (.ref C_Form)
  cl_Form : Cls K C_Form
  ty_Form : TyI K C_Form
  na_Form_coefficients : NoAttr K C_Form "_coefficients"
  g_Ring : mg "Ring" = some (.ref C_Ring)
  cl_Ring : Cls K C_Ring
  ty_Ring : TyI K C_Ring
  na_Ring_form : NoAttr K C_Ring "_form"
  g_Element : mg "Element" = some (.ref C_Element)
  cl_Element : Cls K C_Element
  ty_Element : TyI K C_Element
  na_Element_ring : NoAttr K C_Element "_ring"
  na_Element_entries : NoAttr K C_Element "_entries"
  na_Element_bottom : NoAttr K C_Element "_bottom"
  fo_Element_tuple : PySem.W.kitOne K (.type "tuple") (.ref C_Element) = some false ∧ PySem.W.notFirst K C_Element (.type "tuple") = true
  fo_Element_NoneType : PySem.W.kitOne K (.type "NoneType") (.ref C_Element) = some false ∧ PySem.W.notFirst K C_Element (.type "NoneType") = true
  d_is_any_integer : ∃ f fd, mg "is_any_integer" = some (.ref f) ∧ Fun K "is_any_integer" "is_any_integer" s_is_any_integer f fd
  d_is_short_integer : ∃ f fd, mg "is_short_integer" = some (.ref f) ∧ Fun K "is_short_integer" "is_short_integer" s_is_short_integer f fd
  d_is_between : ∃ f fd, mg "is_between" = some (.ref f) ∧ Fun K "is_between" "is_between" s_is_between f fd
  d_are_any_integers : ∃ f fd, mg "are_any_integers" = some (.ref f) ∧ Fun K "are_any_integers" "are_any_integers" s_are_any_integers f fd
  d_are_short_integers : ∃ f fd, mg "are_short_integers" = some (.ref f) ∧ Fun K "are_short_integers" "are_short_integers" s_are_short_integers f fd
  d_check_integer : ∃ f fd, mg "check_integer" = some (.ref f) ∧ Fun K "check_integer" "check_integer" s_check_integer f fd
  d_check_between : ∃ f fd, mg "check_between" = some (.ref f) ∧ Fun K "check_between" "check_between" s_check_between f fd
  d_determinant_of : ∃ f fd, mg "determinant_of" = some (.ref f) ∧ Fun K "determinant_of" "determinant_of" s_determinant_of f fd
  d_is_change : ∃ f fd, mg "is_change" = some (.ref f) ∧ Fun K "is_change" "is_change" s_is_change f fd
  d_is_short_change : ∃ f fd, mg "is_short_change" = some (.ref f) ∧ Fun K "is_short_change" "is_short_change" s_is_short_change f fd
  d_check_change : ∃ f fd, mg "check_change" = some (.ref f) ∧ Fun K "check_change" "check_change" s_check_change f fd
  d_shared_divisor : ∃ f fd, mg "shared_divisor" = some (.ref f) ∧ Fun K "shared_divisor" "shared_divisor" s_shared_divisor f fd
  d_fraction : ∃ f fd, mg "fraction" = some (.ref f) ∧ Fun K "fraction" "fraction" s_fraction f fd
  d_cofactors : ∃ f fd, mg "cofactors" = some (.ref f) ∧ Fun K "cofactors" "cofactors" s_cofactors f fd
  d_form_value : ∃ f fd, mg "form_value" = some (.ref f) ∧ Fun K "form_value" "form_value" s_form_value f fd
  d_form_led : ∃ f fd, mg "form_led" = some (.ref f) ∧ Fun K "form_led" "form_led" s_form_led f fd
  d_check_form : ∃ f fd, mg "check_form" = some (.ref f) ∧ Fun K "check_form" "check_form" s_check_form f fd
  d_form_of : ∃ f fd, mg "form_of" = some (.ref f) ∧ Fun K "form_of" "form_of" s_form_of f fd
  e_Form___init__ : ∃ (p f : Addr) (fd : FuncData), Mk K C_Form f ∧ Fun K "__init__" "Form.__init__" s_Form___init__ f fd
  e_Form_coefficients : ∃ (p f : Addr) (fd : FuncData), PropOf K C_Form "coefficients" p f ∧ Fun K "coefficients" "Form.coefficients" s_Form_coefficients f fd
  e_Form___call__ : ∃ (p f : Addr) (fd : FuncData), StX.CallO K C_Form f ∧ Fun K "__call__" "Form.__call__" s_Form___call__ f fd
  e_Form_led : ∃ (p f : Addr) (fd : FuncData), Meth K C_Form "led" f ∧ Fun K "led" "Form.led" s_Form_led f fd
  e_Form___eq__ : ∃ (p f : Addr) (fd : FuncData), EqC K C_Form f ∧ Fun K "__eq__" "Form.__eq__" s_Form___eq__ f fd
  d_table_of : ∃ f fd, mg "table_of" = some (.ref f) ∧ Fun K "table_of" "table_of" s_table_of f fd
  d_product_by : ∃ f fd, mg "product_by" = some (.ref f) ∧ Fun K "product_by" "product_by" s_product_by f fd
  d_determinant_by : ∃ f fd, mg "determinant_by" = some (.ref f) ∧ Fun K "determinant_by" "determinant_by" s_determinant_by f fd
  d_map_by : ∃ f fd, mg "map_by" = some (.ref f) ∧ Fun K "map_by" "map_by" s_map_by f fd
  d_polynomial_by : ∃ f fd, mg "polynomial_by" = some (.ref f) ∧ Fun K "polynomial_by" "polynomial_by" s_polynomial_by f fd
  d_check_bottom : ∃ f fd, mg "check_bottom" = some (.ref f) ∧ Fun K "check_bottom" "check_bottom" s_check_bottom f fd
  d_table_for : ∃ f fd, mg "table_for" = some (.ref f) ∧ Fun K "table_for" "table_for" s_table_for f fd
  e_Ring___init__ : ∃ (p f : Addr) (fd : FuncData), Mk K C_Ring f ∧ Fun K "__init__" "Ring.__init__" s_Ring___init__ f fd
  e_Ring_form : ∃ (p f : Addr) (fd : FuncData), PropOf K C_Ring "form" p f ∧ Fun K "form" "Ring.form" s_Ring_form f fd
  e_Ring_one : ∃ (p f : Addr) (fd : FuncData), Meth K C_Ring "one" f ∧ Fun K "one" "Ring.one" s_Ring_one f fd
  e_Ring_w : ∃ (p f : Addr) (fd : FuncData), Meth K C_Ring "w" f ∧ Fun K "w" "Ring.w" s_Ring_w f fd
  e_Ring_t : ∃ (p f : Addr) (fd : FuncData), Meth K C_Ring "t" f ∧ Fun K "t" "Ring.t" s_Ring_t f fd
  e_Ring_element : ∃ (p f : Addr) (fd : FuncData), Meth K C_Ring "element" f ∧ FunD K "element" "Ring.element" (defArgs s_Ring_element) (defBody s_Ring_element) (defScope s_Ring_element) [.int 1] [] f fd
  e_Ring___eq__ : ∃ (p f : Addr) (fd : FuncData), EqC K C_Ring f ∧ Fun K "__eq__" "Ring.__eq__" s_Ring___eq__ f fd
  d_check_one_ring : ∃ f fd, mg "check_one_ring" = some (.ref f) ∧ Fun K "check_one_ring" "check_one_ring" s_check_one_ring f fd
  d_mixed : ∃ f fd, mg "mixed" = some (.ref f) ∧ Fun K "mixed" "mixed" s_mixed f fd
  e_Element___init__ : ∃ (p f : Addr) (fd : FuncData), Mk K C_Element f ∧ Fun K "__init__" "Element.__init__" s_Element___init__ f fd
  e_Element_ring : ∃ (p f : Addr) (fd : FuncData), PropOf K C_Element "ring" p f ∧ Fun K "ring" "Element.ring" s_Element_ring f fd
  e_Element_entries : ∃ (p f : Addr) (fd : FuncData), PropOf K C_Element "entries" p f ∧ Fun K "entries" "Element.entries" s_Element_entries f fd
  e_Element_bottom : ∃ (p f : Addr) (fd : FuncData), PropOf K C_Element "bottom" p f ∧ Fun K "bottom" "Element.bottom" s_Element_bottom f fd
  e_Element_polynomial : ∃ (p f : Addr) (fd : FuncData), PropOf K C_Element "polynomial" p f ∧ Fun K "polynomial" "Element.polynomial" s_Element_polynomial f fd
  e_Element___add__ : ∃ (p f : Addr) (fd : FuncData), BinC K C_Element "__add__" f ∧ Fun K "__add__" "Element.__add__" s_Element___add__ f fd
  e_Element___sub__ : ∃ (p f : Addr) (fd : FuncData), BinC K C_Element "__sub__" f ∧ Fun K "__sub__" "Element.__sub__" s_Element___sub__ f fd
  e_Element___mul__ : ∃ (p f : Addr) (fd : FuncData), BinC K C_Element "__mul__" f ∧ Fun K "__mul__" "Element.__mul__" s_Element___mul__ f fd
  e_Element___neg__ : ∃ (p f : Addr) (fd : FuncData), Meth K C_Element "__neg__" f ∧ Fun K "__neg__" "Element.__neg__" s_Element___neg__ f fd
  e_Element___bool__ : ∃ (p f : Addr) (fd : FuncData), Meth K C_Element "__bool__" f ∧ Fun K "__bool__" "Element.__bool__" s_Element___bool__ f fd
  e_Element___eq__ : ∃ (p f : Addr) (fd : FuncData), EqC K C_Element f ∧ Fun K "__eq__" "Element.__eq__" s_Element___eq__ f fd
  d_with_opposites : ∃ f fd, mg "with_opposites" = some (.ref f) ∧ Fun K "with_opposites" "with_opposites" s_with_opposites f fd
  d_row_makers : ∃ f fd, mg "row_makers" = some (.ref f) ∧ Fun K "row_makers" "row_makers" s_row_makers f fd
  d_is_maker : ∃ f fd, mg "is_maker" = some (.ref f) ∧ Fun K "is_maker" "is_maker" s_is_maker f fd
  d_check_maker : ∃ f fd, mg "check_maker" = some (.ref f) ∧ Fun K "check_maker" "check_maker" s_check_maker f fd
  d_makers : ∃ f fd, mg "makers" = some (.ref f) ∧ Fun K "makers" "makers" s_makers f fd
  d_maker_way : ∃ f fd, mg "maker_way" = some (.ref f) ∧ Fun K "maker_way" "maker_way" s_maker_way f fd
  d_is_maker_way : ∃ f fd, mg "is_maker_way" = some (.ref f) ∧ Fun K "is_maker_way" "is_maker_way" s_is_maker_way f fd
  d_ring_made : ∃ f fd, mg "ring_made" = some (.ref f) ∧ Fun K "ring_made" "ring_made" s_ring_made f fd
  d_l_vat : ∃ f fd, mg "_law_vat" = some (.ref f) ∧ Fun K "_law_vat" "_law_vat" s_l_vat f fd
  d_l_scoop : ∃ f fd, mg "_law_scoop" = some (.ref f) ∧ Fun K "_law_scoop" "_law_scoop" s_l_scoop f fd
  d_l_from : ∃ f fd, mg "_law_from" = some (.ref f) ∧ Fun K "_law_from" "_law_from" s_l_from f fd
  d_l_size : ∃ f fd, mg "_law_size" = some (.ref f) ∧ Fun K "_law_size" "_law_size" s_l_size f fd
  d_l_change : ∃ f fd, mg "_law_change" = some (.ref f) ∧ Fun K "_law_change" "_law_change" s_l_change f fd
  d_l_joined : ∃ f fd, mg "_law_joined" = some (.ref f) ∧ Fun K "_law_joined" "_law_joined" s_l_joined f fd
  d_l_value : ∃ f fd, mg "_law_value" = some (.ref f) ∧ Fun K "_law_value" "_law_value" s_l_value f fd
  d_l_led : ∃ f fd, mg "_law_led" = some (.ref f) ∧ Fun K "_law_led" "_law_led" s_l_led f fd
  d_l_drawn_form : ∃ f fd, mg "_law_drawn_form" = some (.ref f) ∧ Fun K "_law_drawn_form" "_law_drawn_form" s_l_drawn_form f fd
  d_l_is_way : ∃ f fd, mg "_law_is_way" = some (.ref f) ∧ Fun K "_law_is_way" "_law_is_way" s_l_is_way f fd
  d_l_short_way : ∃ f fd, mg "_law_short_way" = some (.ref f) ∧ Fun K "_law_short_way" "_law_short_way" s_l_short_way f fd
  d_l_near : ∃ f fd, mg "_law_near" = some (.ref f) ∧ Fun K "_law_near" "_law_near" s_l_near f fd
  d_l_way_right : ∃ f fd, mg "_law_way_right" = some (.ref f) ∧ Fun K "_law_way_right" "_law_way_right" s_l_way_right f fd
  d_law : ∃ f fd, mg "law" = some (.ref f) ∧ Fun K "law" "law" s_law f fd
  b_abs : mg "abs" = none
  b_all : mg "all" = none
  b_any : mg "any" = none
  b_bool : mg "bool" = none
  b_int : mg "int" = none
  b_isinstance : mg "isinstance" = none
  b_len : mg "len" = none
  b_list : mg "list" = none
  b_max : mg "max" = none
  b_min : mg "min" = none
  b_range : mg "range" = none
  b_sorted : mg "sorted" = none
  b_str : mg "str" = none
  b_sum : mg "sum" = none
  b_tuple : mg "tuple" = none
  b_zip : mg "zip" = none
  x_LIMIT : ∃ t, mg "LIMIT" = some (.int (1000000000000000000000000000000000000000000000000000000000000) t)
  x_MAX_MAKERS : ∃ t, mg "MAX_MAKERS" = some (.int (50) t)
  m_gcd : mg "gcd" = some (.builtin "math.gcd")
  k_UNITS : ∃ A, mg "UNITS" = some (.ref A) ∧ ∀ H, Un K H A
def Short (i : Int) : Prop := -1000000000000000000000000000000000000000000000000000000000000 < i ∧ i < 1000000000000000000000000000000000000000000000000000000000000
theorem Short.b {i : Int} (h : Short i) : B 200 i := ⟨by have := h.1; have := h.2; omega, by decide⟩
def Ti (H : Hp) (a : Addr) (ns : List Int) : Prop := H a = some (.tup (ns.map V.int))
def T4 (H : Hp) (a : Addr) (p q r s : Int) : Prop := ∃ t1 t2, H a = some (.tup [.ref t1, .ref t2]) ∧ H t1 = some (.tup [.int p, .int q]) ∧ H t2 = some (.tup [.int r, .int s])
def Tq (K : PySem.W.Frag) (H : Hp) (a : Addr) (ns : List Int) : Prop := SqT K H a (ns.map V.int)
theorem Ti.q {K : PySem.W.Frag} {H : Hp} {a : Addr} {ns : List Int} (h : Ti H a ns) : Tq K H a ns := SqT.of h
def T33 (H : Hp) (a : Addr) (r1 r2 r3 : List Int) : Prop := ∃ t1 t2 t3, H a = some (.tup [.ref t1, .ref t2, .ref t3]) ∧ Ti H t1 r1 ∧ Ti H t2 r2 ∧ Ti H t3 r3
def L33 (H : Hp) (a : Addr) (r1 r2 r3 : List Int) : Prop := ∃ t1 t2 t3, H a = some (.lst [.ref t1, .ref t2, .ref t3]) ∧ Ti H t1 r1 ∧ Ti H t2 r2 ∧ Ti H t3 r3
def M33 (K : PySem.W.Frag) (H : Hp) (a : Addr) (r1 r2 r3 : List Int) : Prop := ∃ t1 t2 t3, H a = some (.lst [.ref t1, .ref t2, .ref t3]) ∧ Tq K H t1 r1 ∧ Tq K H t2 r2 ∧ Tq K H t3 r3
def FormAt (C : Addr) (H : Hp) (x : Addr) (ns : List Int) : Prop := ∃ dx t, H x = some (.ins C dx [(("_coefficients" : Str), .ref t)]) ∧ Ti H t ns
def ChOk (p q r s : Int) : Prop := Short p ∧ Short q ∧ Short r ∧ Short s ∧ (p * s - q * r = 1 ∨ p * s - q * r = -1)
theorem Ti.ex {H H' : Hp} {a : Addr} {ns : List Int} (h : Ti H a ns) (e : ∀ b xs, H b = some (.tup xs) → H' b = some (.tup xs)) : Ti H' a ns := e _ _ h
theorem T4.ex {H H' : Hp} {a : Addr} {p q r s : Int} (h : T4 H a p q r s) (e : ∀ b xs, H b = some (.tup xs) → H' b = some (.tup xs)) : T4 H' a p q r s := by
  obtain ⟨t1, t2, h0, h1, h2⟩ := h
  exact ⟨t1, t2, e _ _ h0, e _ _ h1, e _ _ h2⟩
theorem get_int {ns : List Int} {i : Nat} {x : V} (hx : (ns.map V.int)[i]? = some x) : ∃ n, ns[i]? = some n ∧ x = V.int n := by
  rw [List.getElem?_map] at hx
  cases e : ns[i]? with
  | none => rw [e] at hx; cases hx
  | some z => rw [e] at hx; exact ⟨z, rfl, (Option.some.inj hx).symm⟩
def gcdL (ns : List Int) : Nat := ns.foldl (fun g n => Nat.gcd g n.natAbs) 0
theorem gcdL_take {ns : List Int} {i : Nat} {n : Int} (h : ns[i]? = some n) : gcdL (ns.take (i + 1)) = Nat.gcd (gcdL (ns.take i)) n.natAbs := by
  unfold gcdL
  rw [List.take_add_one, h, List.foldl_append]
  rfl
def fv (a b c d x y : Int) : Int := a * x * x * x + b * x * x * y + c * x * y * y + d * y * y * y
def fdisc (a b c d : Int) : Int := b * b * c * c - 4 * a * c * c * c - 4 * b * b * b * d - 27 * a * a * d * d + 18 * a * b * c * d
def fl2 (a b c d p q r s : Int) : Int := 3 * a * p * p * r + b * p * (p * s + 2 * q * r) + c * q * (2 * p * s + q * r) + 3 * d * q * q * s
def fl3 (a b c d p q r s : Int) : Int := 3 * a * p * r * r + b * r * (2 * p * s + q * r) + c * s * (p * s + 2 * q * r) + 3 * d * q * s * s
def fled (a b c d p q r s : Int) : List Int := [(p * s - q * r) * fv a b c d p q, (p * s - q * r) * fl2 a b c d p q r s, (p * s - q * r) * fl3 a b c d p q r s, (p * s - q * r) * fv a b c d r s]
theorem un4 {K : PySem.W.Frag} {i j k l : Nat} {σ : L2.St} {H : Hp} {a : Addr} {p q r s : Int} {Q : L2.St → Hp → Prop} (h : T4 H a p q r s)
    (z : Q ((((σ.set i (some (.int p))).set j (some (.int q))).set k (some (.int r))).set l (some (.int s))) H) :
    gTup K 2 (gCons (gTup K 2 (gCons (gName i) (gCons (gName j) gNil))) (gCons (gTup K 2 (gCons (gName k) (gCons (gName l) gNil))) gNil)) (.ref a) σ H Q := by
  obtain ⟨t1, t2, h0, h1, h2⟩ := h
  refine ⟨a, _, rfl, SqT.of h0, rfl, _, _, rfl, ?_⟩
  refine ⟨t1, _, rfl, SqT.of h1, rfl, _, _, rfl, ?_⟩
  refine ⟨_, _, rfl, ⟨rfl, ?_⟩⟩
  refine ⟨_, _, rfl, ?_⟩
  refine ⟨t2, _, rfl, SqT.of h2, rfl, _, _, rfl, ?_⟩
  exact ⟨_, _, rfl, ⟨rfl, ⟨rfl, z⟩⟩⟩
theorem unI4 {K : PySem.W.Frag} {i j k l : Nat} {σ : L2.St} {H : Hp} {t : Addr} {a b c d : Int} {Q : L2.St → Hp → Prop} (h : Ti H t [a, b, c, d])
    (z : Q ((((σ.set i (some (.int a))).set j (some (.int b))).set k (some (.int c))).set l (some (.int d))) H) :
    gTup K 4 (gCons (gName i) (gCons (gName j) (gCons (gName k) (gCons (gName l) gNil)))) (.ref t) σ H Q :=
  ⟨t, _, rfl, SqT.of h, rfl, _, _, rfl, _, _, rfl, _, _, rfl, _, _, rfl, rfl, z⟩
theorem t4_new {H : Hp} {t1 t2 x : Addr} {p q r s : Int} (n1 : H t1 = none) (n2 : upd H t1 (.tup [.int p, .int q]) t2 = none) (n3 : upd (upd H t1 (.tup [.int p, .int q])) t2 (.tup [.int r, .int s]) x = none) :
    Ex0 H (upd (upd (upd H t1 (.tup [.int p, .int q])) t2 (.tup [.int r, .int s])) x (.tup [.ref t1, .ref t2])) ∧ T4 (upd (upd (upd H t1 (.tup [.int p, .int q])) t2 (.tup [.int r, .int s])) x (.tup [.ref t1, .ref t2])) x p q r s :=
  ⟨((Ex0.new n1).trans (Ex0.new n2)).trans (Ex0.new n3), t1, t2, upd_same, Ex0.ap (Ex0.new n3) (Ex0.ap (Ex0.new n2) upd_same), Ex0.ap (Ex0.new n3) upd_same⟩
theorem Ex0.t4 {H H' : Hp} {a : Addr} {p q r s : Int} (e : Ex0 H H') (h : T4 H a p q r s) : T4 H' a p q r s := h.ex fun _ _ z => Ex0.ap e z
theorem Ex0.ti {H H' : Hp} {a : Addr} {ns : List Int} (e : Ex0 H H') (h : Ti H a ns) : Ti H' a ns := Ex0.ap e h
theorem Ex0.fo {C : Addr} {H H' : Hp} {x : Addr} {ns : List Int} (e : Ex0 H H') (h : FormAt C H x ns) : FormAt C H' x ns := by
  obtain ⟨dx, t, h1, h2⟩ := h
  exact ⟨dx, t, Ex0.ap e h1, Ex0.ap e h2⟩
def RingAt (C C_R : Addr) (H : Hp) (r : Addr) (ns : List Int) : Prop := ∃ dr x, H r = some (.ins C_R dr [(("_form" : Str), .ref x)]) ∧ FormAt C H x ns
def ElAt (C C_R C_E : Addr) (H : Hp) (e : Addr) (ns : List Int) (u y z b : Int) : Prop := ∃ de r t, H e = some (.ins C_E de [(("_ring" : Str), .ref r), (("_entries" : Str), .ref t), (("_bottom" : Str), .int b)]) ∧ RingAt C C_R H r ns ∧ Ti H t [u, y, z]
theorem Ex0.tq {K : PySem.W.Frag} {H H' : Hp} {a : Addr} {ns : List Int} (e : Ex0 H H') (h : Tq K H a ns) : Tq K H' a ns := e.sqT (fun z => z) h
theorem Ex0.t33 {H H' : Hp} {a : Addr} {r1 r2 r3 : List Int} (e : Ex0 H H') (h : T33 H a r1 r2 r3) : T33 H' a r1 r2 r3 := by
  obtain ⟨t1, t2, t3, h0, h1, h2, h3⟩ := h
  exact ⟨t1, t2, t3, Ex0.ap e h0, Ex0.ap e h1, Ex0.ap e h2, Ex0.ap e h3⟩
theorem Ex0.l33 {H H' : Hp} {a : Addr} {r1 r2 r3 : List Int} (e : Ex0 H H') (h : L33 H a r1 r2 r3) : L33 H' a r1 r2 r3 := by
  obtain ⟨t1, t2, t3, h0, h1, h2, h3⟩ := h
  exact ⟨t1, t2, t3, Ex0.ap e h0, Ex0.ap e h1, Ex0.ap e h2, Ex0.ap e h3⟩
theorem Ex0.ri {C C_R : Addr} {H H' : Hp} {r : Addr} {ns : List Int} (e : Ex0 H H') (h : RingAt C C_R H r ns) : RingAt C C_R H' r ns := by
  obtain ⟨dr, x, h1, h2⟩ := h
  exact ⟨dr, x, Ex0.ap e h1, Ex0.fo e h2⟩
theorem Ex0.el {C C_R C_E : Addr} {H H' : Hp} {x : Addr} {ns : List Int} {u y z b : Int} (e : Ex0 H H') (h : ElAt C C_R C_E H x ns u y z b) : ElAt C C_R C_E H' x ns u y z b := by
  obtain ⟨de, r, t, h1, h2, h3⟩ := h
  exact ⟨de, r, t, Ex0.ap e h1, Ex0.ri e h2, Ex0.ti e h3⟩
theorem unq3 {K : PySem.W.Frag} {i j k : Nat} {σ : L2.St} {H : Hp} {t : Addr} {a b c : Int} {Q : L2.St → Hp → Prop} (h : Tq K H t [a, b, c])
    (z : Q (((σ.set i (some (.int a))).set j (some (.int b))).set k (some (.int c))) H) :
    gTup K 3 (gCons (gName i) (gCons (gName j) (gCons (gName k) gNil))) (.ref t) σ H Q :=
  ⟨t, _, rfl, h, rfl, _, _, rfl, _, _, rfl, _, _, rfl, rfl, z⟩
def w1 (a b c d : Int) : List Int := [-a * c, b, -a]
def w2 (a b c d : Int) : List Int := [-a * d, 0, 0]
def w3 (a b c d : Int) : List Int := [-b * d, d, -c]
def m0 (a d g u y z v s r : Int) : Int := u * v + y * s * a + (y * r + z * s) * d + z * r * g
def m1 (b e h u y z v s r : Int) : Int := u * s + y * v + y * s * b + (y * r + z * s) * e + z * r * h
def m2 (c f i u y z v s r : Int) : Int := u * r + z * v + y * s * c + (y * r + z * s) * f + z * r * i
def pr (a b c d u y z v s r : Int) : List Int := [m0 (-a * c) (-a * d) (-b * d) u y z v s r, m1 b 0 d u y z v s r, m2 (-a) 0 (-c) u y z v s r]
def tr (a b c d u y z : Int) : Int := 3 * u + b * y - c * z
section
def sp_is_any_integer (_ : PySem.W.Frag) (C C_R C_E : Addr) : Sp := fun vs H Q _ => ∃ (v : V) (b : Bool), vs = [v] ∧ El H v b ∧ Q (.bl b) H
def sp_is_short_integer (_ : PySem.W.Frag) (C C_R C_E : Addr) : Sp := fun vs H Q _ => ∃ i : Int, vs = [.int i] ∧ Short i ∧ Q (.bl true) H
def sp_are_short_integers (_ : PySem.W.Frag) (C C_R C_E : Addr) : Sp := fun vs H Q _ => ∃ (a : Addr) (ns : List Int), vs = [.ref a, .int (ns.length : Int)] ∧ Ti H a ns ∧ ns.length ≤ 1000 ∧ (∀ n ∈ ns, Short n) ∧ ∀ H', Ex0 H H' → Q (.bl true) H'
def sp_check_integer (_ : PySem.W.Frag) (C C_R C_E : Addr) : Sp := fun vs H Q _ => ∃ i : Int, vs = [.int i] ∧ Short i ∧ Q .non H
def sp_shared_divisor (K : PySem.W.Frag) (C C_R C_E : Addr) : Sp := fun vs H Q _ => ∃ (a : Addr) (ns : List Int), vs = [.ref a] ∧ Tq K H a ns ∧ Q (.int (gcdL ns : Nat)) H
def sp_Form___init__ (_ : PySem.W.Frag) (C C_R C_E : Addr) : Sp := fun vs H Q _ => ∃ (x dx t : Addr) (ns : List Int), vs = [.ref x, .ref t] ∧ H x = some (.ins C dx []) ∧ Ti H t ns ∧ ns.length = 4 ∧ (∀ n ∈ ns, Short n) ∧ ∀ H', (∀ b o, b ≠ x → H b = some o → H' b = some o) → H' x = some (.ins C dx [(("_coefficients" : Str), .ref t)]) → Q .non H'
def sp_Form_coefficients (_ : PySem.W.Frag) (C C_R C_E : Addr) : Sp := fun vs H Q _ => ∃ (x : Addr) (ns : List Int), vs = [.ref x] ∧ FormAt C H x ns ∧ ∀ t, Ti H t ns → Q (.ref t) H
def sp_Form___eq__ (_ : PySem.W.Frag) (C C_R C_E : Addr) : Sp := fun vs H Q _ => ∃ (x y : Addr) (ns ms : List Int), vs = [.ref x, .ref y] ∧ FormAt C H x ns ∧ FormAt C H y ms ∧ Q (.bl (decide (ns = ms))) H
end
section
variable {P : Program} {w : World} {K : PySem.W.Frag} {mg : Str → Option Value} {base : Heap} {C_Form C_Ring C_Element : Addr}
theorem ok_is_any_integer (T : Txt K mg C_Form C_Ring C_Element) : Def P w K mg base 1 "is_any_integer" ["value"] (sp_is_any_integer K C_Form C_Ring C_Element) := by
  obtain ⟨f_, fd_, g_, F_⟩ := T.d_is_any_integer
  refine ⟨f_, fd_, g_, F_.kp, F_.binds (ps := ["value"]) (fun _ _ _ _ _ _ us hl => match us, hl with | [_], _ => rfl), ?_⟩
  refine F_.ok sc_is_any_integer (fun vs H Q E h => ?_) (fun cdv A outer s H vs Q E hr h => ?_)
  · first | (obtain ⟨rfl, _⟩ := h; rfl) | (obtain ⟨_, rfl, _⟩ := h; rfl) | (obtain ⟨_, _, rfl, _⟩ := h; rfl) | (obtain ⟨_, _, _, rfl, _⟩ := h; rfl) | (obtain ⟨_, _, _, _, rfl, _⟩ := h; rfl) | (obtain ⟨_, _, _, _, _, rfl, _⟩ := h; rfl) | (obtain ⟨_, _, _, _, _, _, rfl, _⟩ := h; rfl) | (obtain ⟨_, _, _, _, _, _, _, rfl, _⟩ := h; rfl) | (obtain ⟨_, _, _, _, _, _, _, _, rfl, _⟩ := h; rfl) | (obtain ⟨_, _, _, _, _, _, _, _, _, rfl, _⟩ := h; rfl) | (obtain ⟨_, _, _, _, _, _, _, _, _, _, rfl, _⟩ := h; rfl) | (obtain ⟨_, _, _, _, _, _, _, _, _, _, _, rfl, _⟩ := h; rfl) | (obtain ⟨_, _, _, _, _, _, _, _, _, _, _, _, rfl, _⟩ := h; rfl) | (obtain ⟨_, _, _, _, _, _, _, _, _, _, _, _, _, rfl, _⟩ := h; rfl) | (obtain ⟨_, _, _, _, _, _, _, _, _, _, _, _, _, _, rfl, _⟩ := h; rfl) | (obtain ⟨_, _, _, _, _, _, _, _, _, _, _, _, _, _, _, rfl, _⟩ := h; rfl) | (obtain ⟨_, _, _, _, _, _, _, _, _, _, _, _, _, _, _, _, rfl, _⟩ := h; rfl) | (obtain ⟨_, _, _, _, _, _, _, _, _, _, _, _, _, _, _, _, _, rfl, _⟩ := h; rfl) | (obtain ⟨_, _, _, _, _, _, _, _, _, _, _, _, _, _, _, _, _, _, rfl, _⟩ := h; rfl) | (obtain ⟨_, _, _, _, _, _, _, _, _, _, _, _, _, _, _, _, _, _, _, rfl, _⟩ := h; rfl) | (obtain ⟨_, _, _, _, _, _, _, _, _, _, _, _, _, _, _, _, _, _, _, _, rfl, _⟩ := h; rfl) | (obtain ⟨_, _, _, _, _, _, _, _, _, _, _, _, _, _, _, _, _, _, _, _, _, rfl, _⟩ := h; rfl) | (obtain ⟨_, _, _, _, _, _, _, _, _, _, _, _, _, _, _, _, _, _, _, _, _, _, rfl, _⟩ := h; rfl) | (obtain ⟨_, _, _, _, _, _, _, _, _, _, _, _, _, _, _, _, _, _, _, _, _, _, _, rfl, _⟩ := h; rfl)
  · obtain ⟨v, b, rfl, hv, q⟩ := h
    refine ⟨_, (pss_one (ps_ret (pe_and (pe_callB call_isi (by rfl) T.b_isinstance (by decide +kernel) (pa_cons (pv 0) (pa_cons (pe_bltn (v := .ty "int") (by rfl) T.b_int (by decide +kernel) rfl) pa_nil))) (pe_one (pe_not (pe_callB call_isi (by rfl) T.b_isinstance (by decide +kernel) (pa_cons (pv 0) (pa_cons (pe_bltn (v := .ty "bool") (by rfl) T.b_bool (by decide +kernel) rfl) pa_nil)))))))), ?_⟩
    rcases hv with ⟨i, rfl, rfl⟩ | ⟨od, rfl⟩
    · refine ⟨_, rfl, _, _, _, _, true, rfl, .ty _, .base (.int i), kit_ty (by decide +kernel), _, rfl, iteT ?_⟩
      exact ⟨_, rfl, _, _, _, _, false, rfl, .ty _, .base (.int i), kit_ty (by decide +kernel), _, rfl, q⟩
    · obtain ⟨t, ty, _, ⟨k1, k2⟩ | k1⟩ := od.ty (K := K)
      · refine ⟨_, rfl, _, _, _, _, true, rfl, .ty _, ty, k1, _, rfl, iteT ?_⟩
        exact ⟨_, rfl, _, _, _, _, true, rfl, .ty _, ty, k2, _, rfl, q⟩
      · exact ⟨_, rfl, _, _, _, _, false, rfl, .ty _, ty, k1, _, rfl, iteF q⟩
theorem ok_is_short_integer (T : Txt K mg C_Form C_Ring C_Element) : Def P w K mg base 2 "is_short_integer" ["value"] (sp_is_short_integer K C_Form C_Ring C_Element) := by
  obtain ⟨f_, fd_, g_, F_⟩ := T.d_is_short_integer
  obtain ⟨f_is_any_integer, fd_is_any_integer, g_is_any_integer, k_is_any_integer, b_is_any_integer, G_is_any_integer⟩ := (ok_is_any_integer (P := P) (w := w) (base := base) T)
  refine ⟨f_, fd_, g_, F_.kp, F_.binds (ps := ["value"]) (fun _ _ _ _ _ _ us hl => match us, hl with | [_], _ => rfl), ?_⟩
  refine F_.ok sc_is_short_integer (fun vs H Q E h => ?_) (fun cdv A outer s H vs Q E hr h => ?_)
  · first | (obtain ⟨rfl, _⟩ := h; rfl) | (obtain ⟨_, rfl, _⟩ := h; rfl) | (obtain ⟨_, _, rfl, _⟩ := h; rfl) | (obtain ⟨_, _, _, rfl, _⟩ := h; rfl) | (obtain ⟨_, _, _, _, rfl, _⟩ := h; rfl) | (obtain ⟨_, _, _, _, _, rfl, _⟩ := h; rfl) | (obtain ⟨_, _, _, _, _, _, rfl, _⟩ := h; rfl) | (obtain ⟨_, _, _, _, _, _, _, rfl, _⟩ := h; rfl) | (obtain ⟨_, _, _, _, _, _, _, _, rfl, _⟩ := h; rfl) | (obtain ⟨_, _, _, _, _, _, _, _, _, rfl, _⟩ := h; rfl) | (obtain ⟨_, _, _, _, _, _, _, _, _, _, rfl, _⟩ := h; rfl) | (obtain ⟨_, _, _, _, _, _, _, _, _, _, _, rfl, _⟩ := h; rfl) | (obtain ⟨_, _, _, _, _, _, _, _, _, _, _, _, rfl, _⟩ := h; rfl) | (obtain ⟨_, _, _, _, _, _, _, _, _, _, _, _, _, rfl, _⟩ := h; rfl) | (obtain ⟨_, _, _, _, _, _, _, _, _, _, _, _, _, _, rfl, _⟩ := h; rfl) | (obtain ⟨_, _, _, _, _, _, _, _, _, _, _, _, _, _, _, rfl, _⟩ := h; rfl) | (obtain ⟨_, _, _, _, _, _, _, _, _, _, _, _, _, _, _, _, rfl, _⟩ := h; rfl) | (obtain ⟨_, _, _, _, _, _, _, _, _, _, _, _, _, _, _, _, _, rfl, _⟩ := h; rfl) | (obtain ⟨_, _, _, _, _, _, _, _, _, _, _, _, _, _, _, _, _, _, rfl, _⟩ := h; rfl) | (obtain ⟨_, _, _, _, _, _, _, _, _, _, _, _, _, _, _, _, _, _, _, rfl, _⟩ := h; rfl) | (obtain ⟨_, _, _, _, _, _, _, _, _, _, _, _, _, _, _, _, _, _, _, _, rfl, _⟩ := h; rfl) | (obtain ⟨_, _, _, _, _, _, _, _, _, _, _, _, _, _, _, _, _, _, _, _, _, rfl, _⟩ := h; rfl) | (obtain ⟨_, _, _, _, _, _, _, _, _, _, _, _, _, _, _, _, _, _, _, _, _, _, rfl, _⟩ := h; rfl) | (obtain ⟨_, _, _, _, _, _, _, _, _, _, _, _, _, _, _, _, _, _, _, _, _, _, _, rfl, _⟩ := h; rfl)
  · obtain ⟨i, rfl, hs, q⟩ := h
    obtain ⟨t_LIMIT, h_LIMIT⟩ := T.x_LIMIT
    refine ⟨_, (pss_one (ps_ret (pe_and (pe_call G_is_any_integer (hr.mono (by decide)) (by rfl) g_is_any_integer k_is_any_integer b_is_any_integer .nil pass0 (pa_cons (pv 0) pa_nil)) (pe_one (pe_chain op_lt op_lt (pe_un un_neg (pe_glob (v := .int 1000000000000000000000000000000000000000000000000000000000000) (by rfl) h_LIMIT ⟨_, rfl⟩)) (pv 0) (pe_glob (v := .int 1000000000000000000000000000000000000000000000000000000000000) (by rfl) h_LIMIT ⟨_, rfl⟩)))))), ?_⟩
    refine ⟨_, rfl, _, true, rfl, .inl ⟨i, rfl, rfl⟩, _, rfl, iteT ?_⟩
    refine ⟨_, rfl, _, rfl, _, _, rfl, rfl, _, rfl, dT hs.1 ⟨_, _, rfl, rfl, ?_⟩⟩
    show Q (.bl (decide (i < 1000000000000000000000000000000000000000000000000000000000000))) H
    rw [decide_eq_true hs.2]
    exact q
theorem ok_check_integer (T : Txt K mg C_Form C_Ring C_Element) : Def P w K mg base 3 "check_integer" ["value"] (sp_check_integer K C_Form C_Ring C_Element) := by
  obtain ⟨f_, fd_, g_, F_⟩ := T.d_check_integer
  obtain ⟨f_is_short_integer, fd_is_short_integer, g_is_short_integer, k_is_short_integer, b_is_short_integer, G_is_short_integer⟩ := (ok_is_short_integer (P := P) (w := w) (base := base) T)
  refine ⟨f_, fd_, g_, F_.kp, F_.binds (ps := ["value"]) (fun _ _ _ _ _ _ us hl => match us, hl with | [_], _ => rfl), ?_⟩
  refine F_.ok sc_check_integer (fun vs H Q E h => ?_) (fun cdv A outer s H vs Q E hr h => ?_)
  · first | (obtain ⟨rfl, _⟩ := h; rfl) | (obtain ⟨_, rfl, _⟩ := h; rfl) | (obtain ⟨_, _, rfl, _⟩ := h; rfl) | (obtain ⟨_, _, _, rfl, _⟩ := h; rfl) | (obtain ⟨_, _, _, _, rfl, _⟩ := h; rfl) | (obtain ⟨_, _, _, _, _, rfl, _⟩ := h; rfl) | (obtain ⟨_, _, _, _, _, _, rfl, _⟩ := h; rfl) | (obtain ⟨_, _, _, _, _, _, _, rfl, _⟩ := h; rfl) | (obtain ⟨_, _, _, _, _, _, _, _, rfl, _⟩ := h; rfl) | (obtain ⟨_, _, _, _, _, _, _, _, _, rfl, _⟩ := h; rfl) | (obtain ⟨_, _, _, _, _, _, _, _, _, _, rfl, _⟩ := h; rfl) | (obtain ⟨_, _, _, _, _, _, _, _, _, _, _, rfl, _⟩ := h; rfl) | (obtain ⟨_, _, _, _, _, _, _, _, _, _, _, _, rfl, _⟩ := h; rfl) | (obtain ⟨_, _, _, _, _, _, _, _, _, _, _, _, _, rfl, _⟩ := h; rfl) | (obtain ⟨_, _, _, _, _, _, _, _, _, _, _, _, _, _, rfl, _⟩ := h; rfl) | (obtain ⟨_, _, _, _, _, _, _, _, _, _, _, _, _, _, _, rfl, _⟩ := h; rfl) | (obtain ⟨_, _, _, _, _, _, _, _, _, _, _, _, _, _, _, _, rfl, _⟩ := h; rfl) | (obtain ⟨_, _, _, _, _, _, _, _, _, _, _, _, _, _, _, _, _, rfl, _⟩ := h; rfl) | (obtain ⟨_, _, _, _, _, _, _, _, _, _, _, _, _, _, _, _, _, _, rfl, _⟩ := h; rfl) | (obtain ⟨_, _, _, _, _, _, _, _, _, _, _, _, _, _, _, _, _, _, _, rfl, _⟩ := h; rfl) | (obtain ⟨_, _, _, _, _, _, _, _, _, _, _, _, _, _, _, _, _, _, _, _, rfl, _⟩ := h; rfl) | (obtain ⟨_, _, _, _, _, _, _, _, _, _, _, _, _, _, _, _, _, _, _, _, _, rfl, _⟩ := h; rfl) | (obtain ⟨_, _, _, _, _, _, _, _, _, _, _, _, _, _, _, _, _, _, _, _, _, _, rfl, _⟩ := h; rfl) | (obtain ⟨_, _, _, _, _, _, _, _, _, _, _, _, _, _, _, _, _, _, _, _, _, _, _, rfl, _⟩ := h; rfl)
  · obtain ⟨i, rfl, hs, q⟩ := h
    refine ⟨_, (pss_one (ps_if (pt_not (pt_val (pe_call G_is_short_integer (hr.mono (by decide)) (by rfl) g_is_short_integer k_is_short_integer b_is_short_integer .nil pass0 (pa_cons (pv 0) pa_nil))))
      pss_never
      pss_nil)), ?_⟩
    refine ⟨_, rfl, i, rfl, hs, _, rfl, ?_⟩
    exact iteF q
theorem ok_are_short_integers (T : Txt K mg C_Form C_Ring C_Element) : Def P w K mg base 3 "are_short_integers" ["value", "many"] (sp_are_short_integers K C_Form C_Ring C_Element) := by
  obtain ⟨f_, fd_, g_, F_⟩ := T.d_are_short_integers
  refine ⟨f_, fd_, g_, F_.kp, F_.binds (ps := ["value", "many"]) (fun _ _ _ _ _ _ us hl => match us, hl with | [_, _], _ => rfl), ?_⟩
  refine F_.ok sc_are_short_integers (fun vs H Q E h => ?_) (fun cdv A outer s H vs Q E hr h => ?_)
  · first | (obtain ⟨rfl, _⟩ := h; rfl) | (obtain ⟨_, rfl, _⟩ := h; rfl) | (obtain ⟨_, _, rfl, _⟩ := h; rfl) | (obtain ⟨_, _, _, rfl, _⟩ := h; rfl) | (obtain ⟨_, _, _, _, rfl, _⟩ := h; rfl) | (obtain ⟨_, _, _, _, _, rfl, _⟩ := h; rfl) | (obtain ⟨_, _, _, _, _, _, rfl, _⟩ := h; rfl) | (obtain ⟨_, _, _, _, _, _, _, rfl, _⟩ := h; rfl) | (obtain ⟨_, _, _, _, _, _, _, _, rfl, _⟩ := h; rfl) | (obtain ⟨_, _, _, _, _, _, _, _, _, rfl, _⟩ := h; rfl) | (obtain ⟨_, _, _, _, _, _, _, _, _, _, rfl, _⟩ := h; rfl) | (obtain ⟨_, _, _, _, _, _, _, _, _, _, _, rfl, _⟩ := h; rfl) | (obtain ⟨_, _, _, _, _, _, _, _, _, _, _, _, rfl, _⟩ := h; rfl) | (obtain ⟨_, _, _, _, _, _, _, _, _, _, _, _, _, rfl, _⟩ := h; rfl) | (obtain ⟨_, _, _, _, _, _, _, _, _, _, _, _, _, _, rfl, _⟩ := h; rfl) | (obtain ⟨_, _, _, _, _, _, _, _, _, _, _, _, _, _, _, rfl, _⟩ := h; rfl) | (obtain ⟨_, _, _, _, _, _, _, _, _, _, _, _, _, _, _, _, rfl, _⟩ := h; rfl) | (obtain ⟨_, _, _, _, _, _, _, _, _, _, _, _, _, _, _, _, _, rfl, _⟩ := h; rfl) | (obtain ⟨_, _, _, _, _, _, _, _, _, _, _, _, _, _, _, _, _, _, rfl, _⟩ := h; rfl) | (obtain ⟨_, _, _, _, _, _, _, _, _, _, _, _, _, _, _, _, _, _, _, rfl, _⟩ := h; rfl) | (obtain ⟨_, _, _, _, _, _, _, _, _, _, _, _, _, _, _, _, _, _, _, _, rfl, _⟩ := h; rfl) | (obtain ⟨_, _, _, _, _, _, _, _, _, _, _, _, _, _, _, _, _, _, _, _, _, rfl, _⟩ := h; rfl) | (obtain ⟨_, _, _, _, _, _, _, _, _, _, _, _, _, _, _, _, _, _, _, _, _, _, rfl, _⟩ := h; rfl) | (obtain ⟨_, _, _, _, _, _, _, _, _, _, _, _, _, _, _, _, _, _, _, _, _, _, _, rfl, _⟩ := h; rfl)
  · obtain ⟨a, ns, rfl, ha, hl, hs, q⟩ := h
    obtain ⟨t_LIMIT, h_LIMIT⟩ := T.x_LIMIT
    refine ⟨_, (pss_cons (ps_if (PW.pt (pw_or (pt_not (pt_val (pe_callB call_isi (by rfl) T.b_isinstance (by decide +kernel) (pa_cons (pv 0) (pa_cons (pe_bltn (v := .ty "tuple") (by rfl) T.b_tuple (by decide +kernel) rfl) pa_nil))))) (pw_or1 (pt_cmpR op_ne (pe_callB call_len_seq (by rfl) T.b_len PySem.boot_len (pa_cons (pv 0) pa_nil)) (pv 1) (nomark _)))))
      (pss_one (ps_ret pe_bl))
      pss_nil)
    (pss_one (ps_ret (pe_callB (cr_all rfl) (by rfl) T.b_all (by decide +kernel) (pa_cons (pe_lc (own := [("n", 2)]) (g := (gName 2)) rfl sc_are_short_integers.nd (pi_tup (pv 0)) (blkOk_by (N := N_are_short_integers) (sc := defScope s_are_short_integers) (by decide +kernel)) (fun _ _ _ _ _ => (pg_name (i := 2) sc_are_short_integers.nd rfl (.inl rfl))) (fun _ _ _ _ _ => pts_nil) (fun _ _ _ _ _ => (pe_and (pe_callB (call_isiKK (K := K) rfl) (by rfl) T.b_isinstance (by decide +kernel) (pa_cons (pv 2) (pa_cons (pe_bltn (v := .ty "int") (by rfl) T.b_int (by decide +kernel) rfl) pa_nil))) (pe_and (pe_not (pe_callB (call_isiKK (K := K) rfl) (by rfl) T.b_isinstance (by decide +kernel) (pa_cons (pv 2) (pa_cons (pe_bltn (v := .ty "bool") (by rfl) T.b_bool (by decide +kernel) rfl) pa_nil)))) (pe_one (pe_chain op_lt op_lt (pe_un un_neg (pe_glob (v := .int 1000000000000000000000000000000000000000000000000000000000000) (by rfl) h_LIMIT ⟨_, rfl⟩)) (pv 2) (pe_glob (v := .int 1000000000000000000000000000000000000000000000000000000000000) (by rfl) h_LIMIT ⟨_, rfl⟩))))))) pa_nil))))), ?_⟩
    refine ⟨_, rfl, _, _, _, _, true, rfl, .ty _, .base (.tup ha), kit_ty (by decide +kernel), _, rfl, ?_⟩
    refine iteF ⟨_, rfl, a, _, rfl, .inr (SqT.of ha), _, rfl, rfl, _, rfl, ?_⟩
    refine ndF (by rw [List.length_map]) ?_
    refine ⟨_, rfl, a, rfl, ⟨_, SqT.of ha⟩, ?_⟩
    refine lcT fm0 trivial (SqT.of ha) (fun z => z) (fun i acc _ => acc = (List.replicate i true).map V.bl) (fun _ _ => rfl) (fun D i x acc H' hD hx e hA hlen hp => ?_) (fun D H' acc hD e hA hp => ?_)
    · obtain ⟨n, hn, rfl⟩ := get_int hx
      have hi := (List.getElem?_eq_some_iff.mp hn).1
      refine ⟨rfl, ?_⟩
      have hn2 := hs n (List.mem_of_getElem? hn)
      refine ⟨_, rfl, _, _, _, _, true, rfl, .ty _, .base (.int n), kit_ty (by decide +kernel), _, rfl, iteT ?_⟩
      refine ⟨_, rfl, _, _, _, _, false, rfl, .ty _, .base (.int n), kit_ty (by decide +kernel), _, rfl, _, rfl, iteT ?_⟩
      refine ⟨_, rfl, _, rfl, _, _, rfl, rfl, _, rfl, dT hn2.1 ⟨_, _, rfl, rfl, ?_⟩⟩
      simp only [decide_eq_true hn2.2]
      refine cs_yes fm0 trivial hD e hA hlen (by omega) (Fx.refl trivial) ?_
      show acc ++ [V.bl true] = _
      rw [hp, List.replicate_succ', List.map_append]
      rfl
    · rw [List.length_map] at hp
      subst hp
      refine ⟨D, _, rfl, SqL.of hA, ?_⟩
      rw [show ((List.replicate ns.length true).all id) = true by simp]
      exact q H' e
theorem ok_shared_divisor (T : Txt K mg C_Form C_Ring C_Element) : Def P w K mg base 1 "shared_divisor" ["numbers"] (sp_shared_divisor K C_Form C_Ring C_Element) := by
  obtain ⟨f_, fd_, g_, F_⟩ := T.d_shared_divisor
  refine ⟨f_, fd_, g_, F_.kp, F_.binds (ps := ["numbers"]) (fun _ _ _ _ _ _ us hl => match us, hl with | [_], _ => rfl), ?_⟩
  refine F_.ok sc_shared_divisor (fun vs H Q E h => ?_) (fun cdv A outer s H vs Q E hr h => ?_)
  · first | (obtain ⟨rfl, _⟩ := h; rfl) | (obtain ⟨_, rfl, _⟩ := h; rfl) | (obtain ⟨_, _, rfl, _⟩ := h; rfl) | (obtain ⟨_, _, _, rfl, _⟩ := h; rfl) | (obtain ⟨_, _, _, _, rfl, _⟩ := h; rfl) | (obtain ⟨_, _, _, _, _, rfl, _⟩ := h; rfl) | (obtain ⟨_, _, _, _, _, _, rfl, _⟩ := h; rfl) | (obtain ⟨_, _, _, _, _, _, _, rfl, _⟩ := h; rfl) | (obtain ⟨_, _, _, _, _, _, _, _, rfl, _⟩ := h; rfl) | (obtain ⟨_, _, _, _, _, _, _, _, _, rfl, _⟩ := h; rfl) | (obtain ⟨_, _, _, _, _, _, _, _, _, _, rfl, _⟩ := h; rfl) | (obtain ⟨_, _, _, _, _, _, _, _, _, _, _, rfl, _⟩ := h; rfl) | (obtain ⟨_, _, _, _, _, _, _, _, _, _, _, _, rfl, _⟩ := h; rfl) | (obtain ⟨_, _, _, _, _, _, _, _, _, _, _, _, _, rfl, _⟩ := h; rfl) | (obtain ⟨_, _, _, _, _, _, _, _, _, _, _, _, _, _, rfl, _⟩ := h; rfl) | (obtain ⟨_, _, _, _, _, _, _, _, _, _, _, _, _, _, _, rfl, _⟩ := h; rfl) | (obtain ⟨_, _, _, _, _, _, _, _, _, _, _, _, _, _, _, _, rfl, _⟩ := h; rfl) | (obtain ⟨_, _, _, _, _, _, _, _, _, _, _, _, _, _, _, _, _, rfl, _⟩ := h; rfl) | (obtain ⟨_, _, _, _, _, _, _, _, _, _, _, _, _, _, _, _, _, _, rfl, _⟩ := h; rfl) | (obtain ⟨_, _, _, _, _, _, _, _, _, _, _, _, _, _, _, _, _, _, _, rfl, _⟩ := h; rfl) | (obtain ⟨_, _, _, _, _, _, _, _, _, _, _, _, _, _, _, _, _, _, _, _, rfl, _⟩ := h; rfl) | (obtain ⟨_, _, _, _, _, _, _, _, _, _, _, _, _, _, _, _, _, _, _, _, _, rfl, _⟩ := h; rfl) | (obtain ⟨_, _, _, _, _, _, _, _, _, _, _, _, _, _, _, _, _, _, _, _, _, _, rfl, _⟩ := h; rfl) | (obtain ⟨_, _, _, _, _, _, _, _, _, _, _, _, _, _, _, _, _, _, _, _, _, _, _, rfl, _⟩ := h; rfl)
  · obtain ⟨a, ns, rfl, ha, q⟩ := h
    refine ⟨_, (pss_cons (ps_set (i := 1) sc_shared_divisor.nd rfl (.inl rfl) pe_int)
    (pss_cons (ps_for PassesOwn.never rfl (pi_tup (pv 0)) (pg_name (i := 2) sc_shared_divisor.nd rfl (.inl rfl))
      (pss_one (ps_set (i := 1) sc_shared_divisor.nd rfl (.inl rfl) (pe_callBfun cr_gcd (by rfl) T.m_gcd (pa_cons (pv 1) (pa_cons (pv 2) pa_nil))))))
    (pss_one (ps_ret (pv 1))))), ?_⟩
    refine ⟨_, rfl, a, rfl, ⟨_, ha⟩, for_tup (xs := ns.map V.int) (fun i σ H' => ∃ y2, σ = [some (.ref a), some (.int (gcdL (ns.take i) : Nat)), y2] ∧ H = H') ⟨none, rfl, rfl⟩ (fun i σ H' _ ⟨_, _, e⟩ => e ▸ ha) ?_ ?_⟩
    · rintro i x σ H' hx ⟨y2, rfl, rfl⟩
      obtain ⟨n, hn, rfl⟩ := get_int hx
      refine ⟨_, rfl, _, rfl, _, _, rfl, ?_⟩
      refine ⟨some (.int n), ?_, rfl⟩
      rw [gcdL_take hn]
      rfl
    · rintro σ H' ⟨y2, rfl, rfl⟩
      refine ⟨_, rfl, ?_⟩
      rw [List.length_map, List.take_length]
      exact q
end
end RG
namespace Hd
open PySem PySem.Spec PyProof.Rows L2 Fr
open He (ga ma eqO eqO_ok ba)
def pa (K : PySem.W.Frag) (C : Addr) (m : Str) : Addr := match PySem.W.recIn K (ma K C m) "property" with
  | some (.ref g :: _) => g
  | _ => 0
def itA (K : PySem.W.Frag) (a : Addr) (i : Nat) : Addr := match K.lookup a with
  | some ⟨_, _, .seq its _, _⟩ => (match its[i]? with
    | some (.ref b) => b
    | _ => 0)
  | _ => 0
structure Dd where
  at_ : PySem.W.Frag → Addr
  name : Str
  qual : Str
  st : Stmt
  dfl : List V := []
def fnA (K : PySem.W.Frag) (a : Addr) : He.FnW := match K.lookup a with
  | some ⟨_, _, .func fd, _⟩ => some (fd.name, fd.qualname, fd.params, fd.body, fd.scope, fd.globals, fd.closure, fd.builtins)
  | _ => none
def Dd.val (d : Dd) : He.FnW := some (d.name, d.qual, defArgs d.st, .stmts (defBody d.st), defScope d.st, mainGlobals, [], builtinsNs)
def Dd.ok (K : PySem.W.Frag) (d : Dd) : Bool := PySem.W.keepIn K (.ref (d.at_ K)) && (match K.lookup (d.at_ K) with
  | some ⟨_, _, .func fd, _⟩ => PySem.W.codeIn K fd.code d.qual && He.dflB K fd.defaults d.dfl
  | _ => false)
theorem Dd.funD {K : PySem.W.Frag} {d : Dd} (e : fnA K (d.at_ K) = d.val) (c : d.ok K = true) : ∃ fd, FunD K d.name d.qual (defArgs d.st) (defBody d.st) (defScope d.st) d.dfl [] (d.at_ K) fd := by
  obtain ⟨kp, c2⟩ := ba c
  unfold fnA at e
  cases hk : K.lookup (d.at_ K) with
  | none => rw [hk] at c2; cases c2
  | some o =>
    obtain ⟨oc, od, dt, osl⟩ := o
    rw [hk] at c2 e
    cases dt with
    | func fd =>
      obtain ⟨n1, n2, n3, n4, n5, n6, n7, n8, n9, n10, n11, n12, n13, n14, n15⟩ := fd
      have e0 : (some (n1, n2, n3, n4, n5, n6, n7, n15) : He.FnW) = some (d.name, d.qual, defArgs d.st, .stmts (defBody d.st), defScope d.st, mainGlobals, [], builtinsNs) := e
      simp only [Option.some.injEq, Prod.mk.injEq] at e0
      obtain ⟨h1, h2, h3, h4, h5, h6, h7, h8⟩ := e0
      subst h1 h2 h3 h4 h5 h6 h7 h8
      obtain ⟨k1, k2⟩ := ba (show (PySem.W.codeIn K n13 d.qual && He.dflB K n8 d.dfl) = true from c2)
      exact ⟨_, ⟨oc, od, n8, n9, n10, n11, n12, n13, n14, osl, rfl, hk, k1, He.dflB_ok k2, .inl rfl⟩, kp⟩
    | _ => cases c2
theorem fun_of {K : PySem.W.Frag} {x q : Str} {st : Stmt} {f : Addr} {fd : FuncData} (F : FunD K x q (defArgs st) (defBody st) (defScope st) [] [] f fd) : Fun K x q st f fd := by
  obtain ⟨⟨oc, od, dV, kV, doc, pm, an, cdv, ct, osl, e1, e2, e3, e4, e5⟩, kp⟩ := F
  rcases e4 with ⟨_, rfl⟩ | ⟨h, _⟩
  · exact ⟨⟨oc, od, kV, doc, pm, an, cdv, ct, osl, e1, e2, e3⟩, kp⟩
  · exact absurd rfl h
def refsP (o : Obj) : List Addr := match o.data with
  | .seq its _ => its.toList.flatMap He.refV
  | .dict es _ => es.toList.flatMap fun e => He.refV e.val
  | .func fd => He.refV fd.code ++ He.refV fd.defaults
  | .cls cd => [cd.ns]
  | .fields vs => (match o.cls with
    | .type c => (match c == "property" with
      | true => vs.toList.flatMap He.refV
      | false => [])
    | _ => [])
  | _ => []
def nxt (g : Addr → Option Obj) (as : List Addr) : List Addr := as.flatMap fun a => match g a with
  | some o => refsP o
  | none => []
def asM (g : Addr → Option Obj) : Nat → List Addr → List Addr
  | 0, as => as
  | n + 1, as => as ++ asM g n (nxt g as)
abbrev Fb : Type := PySem.W.Frag → Bool
abbrev AlM : Type := Bool × List He.FnW
def obsM (fa : List Fb) (fn : List Dd) (K : PySem.W.Frag) : AlM := ((fa.all fun f => f K) && fn.all fun d => d.ok K, fn.map fun d => fnA K (d.at_ K))
def valM (fn : List Dd) : AlM := (true, fn.map Dd.val)
def SaysM (fa : List Fb) (fn : List Dd) (K : PySem.W.Frag) : Prop := obsM fa fn K = valM fn
def obsMG (n : Nat) (fa : List Fb) (fn : List Dd) (g : Addr → Option Obj) : AlM := obsM fa fn (He.frG g (asM g n [mainGlobals]))
def hookM (n : Nat) (fa : List Fb) (fn : List Dd) : PySem.W.Hook where
  α := AlM
  obs := fun s => obsMG n fa fn s.heap.get?
  val := fun _ => valM fn
  says := fun _ h => ∃ K : PySem.W.Frag, K.In h ∧ SaysM fa fn K
  of := fun _ _ e => ⟨_, He.frG_in, e⟩
  keeps := fun _ _ _ ⟨K, hK, c⟩ k => ⟨K, PySem.W.Frag.In.keeps hK k, c⟩
theorem obsMG_eq {n : Nat} {fa : List Fb} {fn : List Dd} {g : Addr → Option Obj} {s : Shared} (h : ∀ a, g a = s.heap.get? a) : obsMG n fa fn g = (hookM n fa fn).obs s := by
  have e : g = s.heap.get? := funext h
  rw [e] <;> rfl
section
variable {fa : List Fb} {fn : List Dd} {K : PySem.W.Frag}
theorem SaysM.fact (c : SaysM fa fn K) (i : Nat) {f : Fb} (h : fa[i]? = some f := by rfl) : f K = true := by
  have c1 : ((fa.all fun f => f K) && fn.all fun d => d.ok K) = true := congrArg (fun z : AlM => z.1) c
  exact List.all_eq_true.mp (ba c1).1 f (List.mem_of_getElem? h)
theorem SaysM.def_ (c : SaysM fa fn K) (i : Nat) {d : Dd} (h : fn[i]? = some d := by rfl) : ∃ fd, FunD K d.name d.qual (defArgs d.st) (defBody d.st) (defScope d.st) d.dfl [] (d.at_ K) fd := by
  have c1 : ((fa.all fun f => f K) && fn.all fun d => d.ok K) = true := congrArg (fun z : AlM => z.1) c
  have c2 : fn.map (fun d => fnA K (d.at_ K)) = fn.map Dd.val := congrArg (fun z : AlM => z.2) c
  have c3 : (fn.map fun d => fnA K (d.at_ K))[i]? = (fn.map Dd.val)[i]? := by rw [c2]
  rw [List.getElem?_map, List.getElem?_map, h] at c3
  exact Dd.funD (Option.some.inj c3) (List.all_eq_true.mp (ba c1).2 d (List.mem_of_getElem? h))
end
def decO (a b : Option Bool) : Bool := decide (a = b)
theorem decO_ok {a b : Option Bool} (h : decO a b = true) : a = b := of_decide_eq_true h
def bltB (x : Str) (id : String) : Fb := fun K => eqO (PySem.W.nsIn K mainGlobals x) (some (some (.builtin id)))
theorem blt_ok {K : PySem.W.Frag} {h : Heap} {mg : Str → Option Value} (X : K.In h) (G : h.Ns mainGlobals mg) {x : Str} {id : String} (c : bltB x id K = true) : mg x = some (.builtin id) := PySem.W.mg_of X G (eqO_ok c)
def tyB (C : Str) : Fb := fun K => eqO (PySem.W.findIn K (.ref (ga K C)) "__class__") (some (some (.builtin "object.__class__"))) && (eqO (PySem.W.specialIn K (.builtin "object.__class__") "__get__") (some (some (.builtin "getset_descriptor.__get__"))) && (decO (PySem.W.takesIn K (.builtin "object.__class__")) (some true) && decO (PySem.W.mroIn K (ga K C) (.type "object")) (some true)))
theorem ty_ok {K : PySem.W.Frag} {C : Str} (c : tyB C K = true) : TyI K (ga K C) := by
  obtain ⟨c1, c⟩ := ba c
  obtain ⟨c2, c⟩ := ba c
  obtain ⟨c3, c4⟩ := ba c
  exact ⟨eqO_ok c1, eqO_ok c2, decO_ok c3, decO_ok c4⟩
def propB (C m : Str) : Fb := fun K => eqO (PySem.W.findIn K (.ref (ga K C)) m) (some (some (.ref (ma K (ga K C) m)))) && (eqO (PySem.W.specialIn K (.ref (ma K (ga K C) m)) "__get__") (some (some (.builtin "property.__get__"))) && (decO (PySem.W.takesIn K (.ref (ma K (ga K C) m))) (some true) && (match PySem.W.recIn K (ma K (ga K C) m) "property" with
  | some (.ref _ :: _) => true
  | _ => false)))
theorem prop_ok {K : PySem.W.Frag} {C m : Str} (c : propB C m K = true) : PropOf K (ga K C) m (ma K (ga K C) m) (pa K (ga K C) m) := by
  obtain ⟨c1, c⟩ := ba c
  obtain ⟨c2, c⟩ := ba c
  obtain ⟨c3, c4⟩ := ba c
  refine ⟨eqO_ok c1, eqO_ok c2, decO_ok c3, ?_⟩
  unfold pa
  cases hr : PySem.W.recIn K (ma K (ga K C) m) "property" with
  | none => rw [hr] at c4; cases c4
  | some l =>
    rw [hr] at c4
    cases l with
    | nil => cases c4
    | cons v rest =>
      cases v with
      | ref g => exact ⟨rest, rfl⟩
      | _ => cases c4
def eqB (C : Str) : Fb := fun K => eqO (PySem.W.findIn K (.ref (ga K C)) "__eq__") (some (some (.ref (ma K (ga K C) "__eq__")))) && (PySem.W.isFn K (.ref (ma K (ga K C) "__eq__")) && (eqO (PySem.W.findIn K (.ref (ga K C)) "__ne__") (some (some (.builtin "object.__ne__"))) && decO (PySem.W.mroIn K (ga K C) (.type "object")) (some true)))
theorem eq_ok {K : PySem.W.Frag} {C : Str} (c : eqB C K = true) : EqC K (ga K C) (ma K (ga K C) "__eq__") := by
  obtain ⟨c1, c⟩ := ba c
  obtain ⟨c2, c⟩ := ba c
  obtain ⟨c3, c4⟩ := ba c
  exact ⟨eqO_ok c1, c2, eqO_ok c3, decO_ok c4⟩
def callB (C : Str) : Fb := fun K => eqO (PySem.W.findIn K (.ref (ga K C)) "__call__") (some (some (.ref (ma K (ga K C) "__call__")))) && (PySem.W.isFn K (.ref (ma K (ga K C) "__call__")) && PySem.W.fnIn K (ma K (ga K C) "__call__"))
theorem call_ok {K : PySem.W.Frag} {C : Str} (c : callB C K = true) : StX.CallO K (ga K C) (ma K (ga K C) "__call__") := by
  obtain ⟨c1, c⟩ := ba c
  obtain ⟨c2, c3⟩ := ba c
  exact ⟨eqO_ok c1, c2, c3⟩
def binB (C m : Str) : Fb := fun K => eqO (PySem.W.findIn K (.ref (ga K C)) m) (some (some (.ref (ma K (ga K C) m)))) && (PySem.W.isFn K (.ref (ma K (ga K C) m)) && PySem.W.selfFirst K (ga K C))
theorem bin_ok {K : PySem.W.Frag} {C m : Str} (c : binB C m K = true) : PySem.W.findIn K (.ref (ga K C)) m = some (some (.ref (ma K (ga K C) m))) ∧ PySem.W.isFn K (.ref (ma K (ga K C) m)) = true ∧ PySem.W.selfFirst K (ga K C) = true := by
  obtain ⟨c1, c⟩ := ba c
  obtain ⟨c2, c3⟩ := ba c
  exact ⟨eqO_ok c1, c2, c3⟩
def intsB (a : PySem.W.Frag → Addr) (ns : List Int) : Fb := fun K => match K.lookup (a K) with
  | some ⟨.type c, _, .seq its _, _⟩ => decide (c = "tuple") && (decide (its.size ≤ sizeLine) && He.relAll (ns.map V.int) its.toList)
  | _ => false
theorem ints_ok {K : PySem.W.Frag} {a : PySem.W.Frag → Addr} {ns : List Int} (c : intsB a ns K = true) (H : Hp) : SqT K H (a K) (ns.map V.int) := by
  unfold intsB at c
  cases hk : K.lookup (a K) with
  | none => rw [hk] at c; cases c
  | some o =>
    obtain ⟨oc, od, dt, sl⟩ := o
    rw [hk] at c
    cases oc with
    | type t =>
      cases dt with
      | seq its m =>
        obtain ⟨c1, c⟩ := ba c
        obtain ⟨c2, c3⟩ := ba c
        exact .inr ⟨_, its, m, hk, congrArg Value.type (of_decide_eq_true c1), rfl, of_decide_eq_true c2, He.relAll_ok c3⟩
      | _ => cases c
    | _ => cases dt <;> cases c
def refsB (a : PySem.W.Frag → Addr) (n : Nat) : Fb := fun K => match K.lookup (a K) with
  | some ⟨.type c, _, .seq its _, _⟩ => decide (c = "tuple") && (decide (its.size ≤ sizeLine) && He.relAll ((List.range n).map fun i => V.ref (itA K (a K) i)) its.toList)
  | _ => false
theorem refs_ok {K : PySem.W.Frag} {a : PySem.W.Frag → Addr} {n : Nat} (c : refsB a n K = true) (H : Hp) : SqT K H (a K) ((List.range n).map fun i => V.ref (itA K (a K) i)) := by
  unfold refsB at c
  generalize hl : (List.range n).map (fun i => V.ref (itA K (a K) i)) = l at c ⊢
  cases hk : K.lookup (a K) with
  | none => rw [hk] at c; cases c
  | some o =>
    obtain ⟨oc, od, dt, sl⟩ := o
    rw [hk] at c
    cases oc with
    | type t =>
      cases dt with
      | seq its m =>
        obtain ⟨c1, c⟩ := ba c
        obtain ⟨c2, c3⟩ := ba c
        exact .inr ⟨_, its, m, hk, congrArg Value.type (of_decide_eq_true c1), rfl, of_decide_eq_true c2, He.relAll_ok c3⟩
      | _ => cases c
    | _ => cases dt <;> cases c
def foreB (C : Str) (t : String) : Fb := fun K => decO (PySem.W.kitOne K (.type t) (.ref (ga K C))) (some false) && PySem.W.notFirst K (ga K C) (.type t)
theorem fore_ok {K : PySem.W.Frag} {C : Str} {t : String} (c : foreB C t K = true) : PySem.W.kitOne K (.type t) (.ref (ga K C)) = some false ∧ PySem.W.notFirst K (ga K C) (.type t) = true := by
  obtain ⟨c1, c2⟩ := ba c
  exact ⟨decO_ok c1, c2⟩
def foreCB (C D : Str) : Fb := fun K => decO (PySem.W.kitOne K (.ref (ga K D)) (.ref (ga K C))) (some false) && PySem.W.notFirst K (ga K C) (.ref (ga K D))
theorem foreC_ok {K : PySem.W.Frag} {C D : Str} (c : foreCB C D K = true) : PySem.W.kitOne K (.ref (ga K D)) (.ref (ga K C)) = some false ∧ PySem.W.notFirst K (ga K C) (.ref (ga K D)) = true := by
  obtain ⟨c1, c2⟩ := ba c
  exact ⟨decO_ok c1, c2⟩
def fmtB (C : Str) : Fb := fun K => eqO (PySem.W.findIn K (.ref (ga K C)) "__format__") (some (some (.builtin "object.__format__"))) && decO (PySem.W.mroIn K (ga K C) (.type "object")) (some true)
theorem fmt_ok {K : PySem.W.Frag} {C : Str} (c : fmtB C K = true) : PySem.W.findIn K (.ref (ga K C)) "__format__" = some (some (.builtin "object.__format__")) ∧ PySem.W.mroIn K (ga K C) (.type "object") = some true := by
  obtain ⟨c1, c2⟩ := ba c
  exact ⟨eqO_ok c1, decO_ok c2⟩
def xcB (x : Str) (bm : List Value) (newId : String) : Fb := fun K => He.Fa.ok K (.glo x) && (PySem.W.excIn K (ga K x) bm newId && (PySem.W.keepIn K (.ref (ga K x)) && (decO (PySem.W.subIn K (.ref (ga K x)) (.type "BaseException")) (some true) && (decide (PySem.W.typeIn K (.ref (ga K x)) = some (.type "type")) && decO (PySem.W.exmOne K (.ref (ga K x)) (.ref (ga K x))) (some true)))))
theorem xc_ok {K : PySem.W.Frag} {h : Heap} {mg : Str → Option Value} (X : K.In h) (G : h.Ns mainGlobals mg) {x : Str} {bm : List Value} {newId : String} (c : xcB x bm newId K = true) : Xc K mg x bm newId := by
  obtain ⟨c1, c⟩ := ba c
  obtain ⟨c2, c⟩ := ba c
  obtain ⟨c3, c⟩ := ba c
  obtain ⟨c4, c⟩ := ba c
  obtain ⟨c5, c6⟩ := ba c
  exact ⟨He.glo_ok X G c1, c2, c3, decO_ok c4, of_decide_eq_true c5, decO_ok c6⟩
end Hd
namespace RG
open PySem PySem.Spec PyProof.Rows L2 Fr
def e0 : Hd.Dd := ⟨fun K => He.ga K "is_any_integer", "is_any_integer", "is_any_integer", s_is_any_integer, []⟩
def e1 : Hd.Dd := ⟨fun K => He.ga K "is_short_integer", "is_short_integer", "is_short_integer", s_is_short_integer, []⟩
def e2 : Hd.Dd := ⟨fun K => He.ga K "is_between", "is_between", "is_between", s_is_between, []⟩
def e3 : Hd.Dd := ⟨fun K => He.ga K "are_any_integers", "are_any_integers", "are_any_integers", s_are_any_integers, []⟩
def e4 : Hd.Dd := ⟨fun K => He.ga K "are_short_integers", "are_short_integers", "are_short_integers", s_are_short_integers, []⟩
def e5 : Hd.Dd := ⟨fun K => He.ga K "check_integer", "check_integer", "check_integer", s_check_integer, []⟩
def e6 : Hd.Dd := ⟨fun K => He.ga K "check_between", "check_between", "check_between", s_check_between, []⟩
def e7 : Hd.Dd := ⟨fun K => He.ga K "determinant_of", "determinant_of", "determinant_of", s_determinant_of, []⟩
def e8 : Hd.Dd := ⟨fun K => He.ga K "is_change", "is_change", "is_change", s_is_change, []⟩
def e9 : Hd.Dd := ⟨fun K => He.ga K "is_short_change", "is_short_change", "is_short_change", s_is_short_change, []⟩
def e10 : Hd.Dd := ⟨fun K => He.ga K "check_change", "check_change", "check_change", s_check_change, []⟩
def e11 : Hd.Dd := ⟨fun K => He.ga K "shared_divisor", "shared_divisor", "shared_divisor", s_shared_divisor, []⟩
def e12 : Hd.Dd := ⟨fun K => He.ga K "fraction", "fraction", "fraction", s_fraction, []⟩
def e13 : Hd.Dd := ⟨fun K => He.ga K "cofactors", "cofactors", "cofactors", s_cofactors, []⟩
def e14 : Hd.Dd := ⟨fun K => He.ga K "form_value", "form_value", "form_value", s_form_value, []⟩
def e15 : Hd.Dd := ⟨fun K => He.ga K "form_led", "form_led", "form_led", s_form_led, []⟩
def e16 : Hd.Dd := ⟨fun K => He.ga K "check_form", "check_form", "check_form", s_check_form, []⟩
def e17 : Hd.Dd := ⟨fun K => He.ga K "form_of", "form_of", "form_of", s_form_of, []⟩
def e18 : Hd.Dd := ⟨fun K => He.ma K (He.ga K "Form") "__init__", "__init__", "Form.__init__", s_Form___init__, []⟩
def e19 : Hd.Dd := ⟨fun K => Hd.pa K (He.ga K "Form") "coefficients", "coefficients", "Form.coefficients", s_Form_coefficients, []⟩
def e20 : Hd.Dd := ⟨fun K => He.ma K (He.ga K "Form") "__call__", "__call__", "Form.__call__", s_Form___call__, []⟩
def e21 : Hd.Dd := ⟨fun K => He.ma K (He.ga K "Form") "led", "led", "Form.led", s_Form_led, []⟩
def e22 : Hd.Dd := ⟨fun K => He.ma K (He.ga K "Form") "__eq__", "__eq__", "Form.__eq__", s_Form___eq__, []⟩
def e23 : Hd.Dd := ⟨fun K => He.ga K "table_of", "table_of", "table_of", s_table_of, []⟩
def e24 : Hd.Dd := ⟨fun K => He.ga K "product_by", "product_by", "product_by", s_product_by, []⟩
def e25 : Hd.Dd := ⟨fun K => He.ga K "determinant_by", "determinant_by", "determinant_by", s_determinant_by, []⟩
def e26 : Hd.Dd := ⟨fun K => He.ga K "map_by", "map_by", "map_by", s_map_by, []⟩
def e27 : Hd.Dd := ⟨fun K => He.ga K "polynomial_by", "polynomial_by", "polynomial_by", s_polynomial_by, []⟩
def e28 : Hd.Dd := ⟨fun K => He.ga K "check_bottom", "check_bottom", "check_bottom", s_check_bottom, []⟩
def e29 : Hd.Dd := ⟨fun K => He.ga K "table_for", "table_for", "table_for", s_table_for, []⟩
def e30 : Hd.Dd := ⟨fun K => He.ma K (He.ga K "Ring") "__init__", "__init__", "Ring.__init__", s_Ring___init__, []⟩
def e31 : Hd.Dd := ⟨fun K => Hd.pa K (He.ga K "Ring") "form", "form", "Ring.form", s_Ring_form, []⟩
def e32 : Hd.Dd := ⟨fun K => He.ma K (He.ga K "Ring") "one", "one", "Ring.one", s_Ring_one, []⟩
def e33 : Hd.Dd := ⟨fun K => He.ma K (He.ga K "Ring") "w", "w", "Ring.w", s_Ring_w, []⟩
def e34 : Hd.Dd := ⟨fun K => He.ma K (He.ga K "Ring") "t", "t", "Ring.t", s_Ring_t, []⟩
def e35 : Hd.Dd := ⟨fun K => He.ma K (He.ga K "Ring") "element", "element", "Ring.element", s_Ring_element, [.int 1]⟩
def e36 : Hd.Dd := ⟨fun K => He.ma K (He.ga K "Ring") "__eq__", "__eq__", "Ring.__eq__", s_Ring___eq__, []⟩
def e37 : Hd.Dd := ⟨fun K => He.ga K "check_one_ring", "check_one_ring", "check_one_ring", s_check_one_ring, []⟩
def e38 : Hd.Dd := ⟨fun K => He.ga K "mixed", "mixed", "mixed", s_mixed, []⟩
def e39 : Hd.Dd := ⟨fun K => He.ma K (He.ga K "Element") "__init__", "__init__", "Element.__init__", s_Element___init__, []⟩
def e40 : Hd.Dd := ⟨fun K => Hd.pa K (He.ga K "Element") "ring", "ring", "Element.ring", s_Element_ring, []⟩
def e41 : Hd.Dd := ⟨fun K => Hd.pa K (He.ga K "Element") "entries", "entries", "Element.entries", s_Element_entries, []⟩
def e42 : Hd.Dd := ⟨fun K => Hd.pa K (He.ga K "Element") "bottom", "bottom", "Element.bottom", s_Element_bottom, []⟩
def e43 : Hd.Dd := ⟨fun K => Hd.pa K (He.ga K "Element") "polynomial", "polynomial", "Element.polynomial", s_Element_polynomial, []⟩
def e44 : Hd.Dd := ⟨fun K => He.ma K (He.ga K "Element") "__add__", "__add__", "Element.__add__", s_Element___add__, []⟩
def e45 : Hd.Dd := ⟨fun K => He.ma K (He.ga K "Element") "__sub__", "__sub__", "Element.__sub__", s_Element___sub__, []⟩
def e46 : Hd.Dd := ⟨fun K => He.ma K (He.ga K "Element") "__mul__", "__mul__", "Element.__mul__", s_Element___mul__, []⟩
def e47 : Hd.Dd := ⟨fun K => He.ma K (He.ga K "Element") "__neg__", "__neg__", "Element.__neg__", s_Element___neg__, []⟩
def e48 : Hd.Dd := ⟨fun K => He.ma K (He.ga K "Element") "__bool__", "__bool__", "Element.__bool__", s_Element___bool__, []⟩
def e49 : Hd.Dd := ⟨fun K => He.ma K (He.ga K "Element") "__eq__", "__eq__", "Element.__eq__", s_Element___eq__, []⟩
def e50 : Hd.Dd := ⟨fun K => He.ga K "with_opposites", "with_opposites", "with_opposites", s_with_opposites, []⟩
def e51 : Hd.Dd := ⟨fun K => He.ga K "row_makers", "row_makers", "row_makers", s_row_makers, []⟩
def e52 : Hd.Dd := ⟨fun K => He.ga K "is_maker", "is_maker", "is_maker", s_is_maker, []⟩
def e53 : Hd.Dd := ⟨fun K => He.ga K "check_maker", "check_maker", "check_maker", s_check_maker, []⟩
def e54 : Hd.Dd := ⟨fun K => He.ga K "makers", "makers", "makers", s_makers, []⟩
def e55 : Hd.Dd := ⟨fun K => He.ga K "maker_way", "maker_way", "maker_way", s_maker_way, []⟩
def e56 : Hd.Dd := ⟨fun K => He.ga K "is_maker_way", "is_maker_way", "is_maker_way", s_is_maker_way, []⟩
def e57 : Hd.Dd := ⟨fun K => He.ga K "ring_made", "ring_made", "ring_made", s_ring_made, []⟩
def e58 : Hd.Dd := ⟨fun K => He.ga K "_law_vat", "_law_vat", "_law_vat", s_l_vat, []⟩
def e59 : Hd.Dd := ⟨fun K => He.ga K "_law_scoop", "_law_scoop", "_law_scoop", s_l_scoop, []⟩
def e60 : Hd.Dd := ⟨fun K => He.ga K "_law_from", "_law_from", "_law_from", s_l_from, []⟩
def e61 : Hd.Dd := ⟨fun K => He.ga K "_law_size", "_law_size", "_law_size", s_l_size, []⟩
def e62 : Hd.Dd := ⟨fun K => He.ga K "_law_change", "_law_change", "_law_change", s_l_change, []⟩
def e63 : Hd.Dd := ⟨fun K => He.ga K "_law_joined", "_law_joined", "_law_joined", s_l_joined, []⟩
def e64 : Hd.Dd := ⟨fun K => He.ga K "_law_value", "_law_value", "_law_value", s_l_value, []⟩
def e65 : Hd.Dd := ⟨fun K => He.ga K "_law_led", "_law_led", "_law_led", s_l_led, []⟩
def e66 : Hd.Dd := ⟨fun K => He.ga K "_law_drawn_form", "_law_drawn_form", "_law_drawn_form", s_l_drawn_form, []⟩
def e67 : Hd.Dd := ⟨fun K => He.ga K "_law_is_way", "_law_is_way", "_law_is_way", s_l_is_way, []⟩
def e68 : Hd.Dd := ⟨fun K => He.ga K "_law_short_way", "_law_short_way", "_law_short_way", s_l_short_way, []⟩
def e69 : Hd.Dd := ⟨fun K => He.ga K "_law_near", "_law_near", "_law_near", s_l_near, []⟩
def e70 : Hd.Dd := ⟨fun K => He.ga K "_law_way_right", "_law_way_right", "_law_way_right", s_l_way_right, []⟩
def e71 : Hd.Dd := ⟨fun K => He.ga K "law", "law", "law", s_law, []⟩
def dd0 : List Hd.Dd := [e0, e1, e2, e3, e4, e5, e6, e7, e8, e9, e10, e11, e12, e13, e14, e15, e16, e17, e18, e19]
def dd1 : List Hd.Dd := [e20, e21, e22, e23, e24, e25, e26, e27, e28, e29, e30, e31, e32, e33, e34, e35, e36, e37, e38, e39]
def dd2 : List Hd.Dd := [e40, e41, e42, e43, e44, e45, e46, e47, e48, e49, e50, e51, e52, e53, e54, e55, e56, e57, e58, e59]
def dd3 : List Hd.Dd := [e60, e61, e62, e63, e64, e65, e66, e67, e68, e69, e70, e71]
def dd : List Hd.Dd := dd0 ++ (dd1 ++ (dd2 ++ (dd3)))
def g0 : Hd.Fb := fun K => (fun K => (He.Fa.glo "Form").ok K) K
def g1 : Hd.Fb := fun K => (fun K => (He.Fa.cls "Form").ok K) K
def g2 : Hd.Fb := fun K => Hd.tyB "Form" K
def g3 : Hd.Fb := fun K => (fun K => (He.Fa.noat "Form" "_coefficients").ok K) K
def g4 : Hd.Fb := fun K => (fun K => (He.Fa.glo "Ring").ok K) K
def g5 : Hd.Fb := fun K => (fun K => (He.Fa.cls "Ring").ok K) K
def g6 : Hd.Fb := fun K => Hd.tyB "Ring" K
def g7 : Hd.Fb := fun K => (fun K => (He.Fa.noat "Ring" "_form").ok K) K
def g8 : Hd.Fb := fun K => (fun K => (He.Fa.glo "Element").ok K) K
def g9 : Hd.Fb := fun K => (fun K => (He.Fa.cls "Element").ok K) K
def g10 : Hd.Fb := fun K => Hd.tyB "Element" K
def g11 : Hd.Fb := fun K => (fun K => (He.Fa.noat "Element" "_ring").ok K) K
def g12 : Hd.Fb := fun K => (fun K => (He.Fa.noat "Element" "_entries").ok K) K
def g13 : Hd.Fb := fun K => (fun K => (He.Fa.noat "Element" "_bottom").ok K) K
def g14 : Hd.Fb := fun K => Hd.foreB "Element" "tuple" K
def g15 : Hd.Fb := fun K => Hd.foreB "Element" "NoneType" K
def g16 : Hd.Fb := fun K => (fun K => (He.Fa.glo "is_any_integer").ok K) K
def g17 : Hd.Fb := fun K => (fun K => (He.Fa.glo "is_short_integer").ok K) K
def g18 : Hd.Fb := fun K => (fun K => (He.Fa.glo "is_between").ok K) K
def g19 : Hd.Fb := fun K => (fun K => (He.Fa.glo "are_any_integers").ok K) K
def g20 : Hd.Fb := fun K => (fun K => (He.Fa.glo "are_short_integers").ok K) K
def g21 : Hd.Fb := fun K => (fun K => (He.Fa.glo "check_integer").ok K) K
def g22 : Hd.Fb := fun K => (fun K => (He.Fa.glo "check_between").ok K) K
def g23 : Hd.Fb := fun K => (fun K => (He.Fa.glo "determinant_of").ok K) K
def g24 : Hd.Fb := fun K => (fun K => (He.Fa.glo "is_change").ok K) K
def g25 : Hd.Fb := fun K => (fun K => (He.Fa.glo "is_short_change").ok K) K
def g26 : Hd.Fb := fun K => (fun K => (He.Fa.glo "check_change").ok K) K
def g27 : Hd.Fb := fun K => (fun K => (He.Fa.glo "shared_divisor").ok K) K
def g28 : Hd.Fb := fun K => (fun K => (He.Fa.glo "fraction").ok K) K
def g29 : Hd.Fb := fun K => (fun K => (He.Fa.glo "cofactors").ok K) K
def g30 : Hd.Fb := fun K => (fun K => (He.Fa.glo "form_value").ok K) K
def g31 : Hd.Fb := fun K => (fun K => (He.Fa.glo "form_led").ok K) K
def g32 : Hd.Fb := fun K => (fun K => (He.Fa.glo "check_form").ok K) K
def g33 : Hd.Fb := fun K => (fun K => (He.Fa.glo "form_of").ok K) K
def g34 : Hd.Fb := fun K => (fun K => (He.Fa.mkr "Form").ok K) K
def g35 : Hd.Fb := fun K => Hd.propB "Form" "coefficients" K
def g36 : Hd.Fb := fun K => Hd.callB "Form" K
def g37 : Hd.Fb := fun K => (fun K => (He.Fa.meth "Form" "led").ok K) K
def g38 : Hd.Fb := fun K => Hd.eqB "Form" K
def g39 : Hd.Fb := fun K => (fun K => (He.Fa.glo "table_of").ok K) K
def g40 : Hd.Fb := fun K => (fun K => (He.Fa.glo "product_by").ok K) K
def g41 : Hd.Fb := fun K => (fun K => (He.Fa.glo "determinant_by").ok K) K
def g42 : Hd.Fb := fun K => (fun K => (He.Fa.glo "map_by").ok K) K
def g43 : Hd.Fb := fun K => (fun K => (He.Fa.glo "polynomial_by").ok K) K
def g44 : Hd.Fb := fun K => (fun K => (He.Fa.glo "check_bottom").ok K) K
def g45 : Hd.Fb := fun K => (fun K => (He.Fa.glo "table_for").ok K) K
def g46 : Hd.Fb := fun K => (fun K => (He.Fa.mkr "Ring").ok K) K
def g47 : Hd.Fb := fun K => Hd.propB "Ring" "form" K
def g48 : Hd.Fb := fun K => (fun K => (He.Fa.meth "Ring" "one").ok K) K
def g49 : Hd.Fb := fun K => (fun K => (He.Fa.meth "Ring" "w").ok K) K
def g50 : Hd.Fb := fun K => (fun K => (He.Fa.meth "Ring" "t").ok K) K
def g51 : Hd.Fb := fun K => (fun K => (He.Fa.meth "Ring" "element").ok K) K
def g52 : Hd.Fb := fun K => Hd.eqB "Ring" K
def g53 : Hd.Fb := fun K => (fun K => (He.Fa.glo "check_one_ring").ok K) K
def g54 : Hd.Fb := fun K => (fun K => (He.Fa.glo "mixed").ok K) K
def g55 : Hd.Fb := fun K => (fun K => (He.Fa.mkr "Element").ok K) K
def g56 : Hd.Fb := fun K => Hd.propB "Element" "ring" K
def g57 : Hd.Fb := fun K => Hd.propB "Element" "entries" K
def g58 : Hd.Fb := fun K => Hd.propB "Element" "bottom" K
def g59 : Hd.Fb := fun K => Hd.propB "Element" "polynomial" K
def g60 : Hd.Fb := fun K => Hd.binB "Element" "__add__" K
def g61 : Hd.Fb := fun K => Hd.binB "Element" "__sub__" K
def g62 : Hd.Fb := fun K => Hd.binB "Element" "__mul__" K
def g63 : Hd.Fb := fun K => (fun K => (He.Fa.meth "Element" "__neg__").ok K) K
def g64 : Hd.Fb := fun K => (fun K => (He.Fa.meth "Element" "__bool__").ok K) K
def g65 : Hd.Fb := fun K => Hd.eqB "Element" K
def g66 : Hd.Fb := fun K => (fun K => (He.Fa.glo "with_opposites").ok K) K
def g67 : Hd.Fb := fun K => (fun K => (He.Fa.glo "row_makers").ok K) K
def g68 : Hd.Fb := fun K => (fun K => (He.Fa.glo "is_maker").ok K) K
def g69 : Hd.Fb := fun K => (fun K => (He.Fa.glo "check_maker").ok K) K
def g70 : Hd.Fb := fun K => (fun K => (He.Fa.glo "makers").ok K) K
def g71 : Hd.Fb := fun K => (fun K => (He.Fa.glo "maker_way").ok K) K
def g72 : Hd.Fb := fun K => (fun K => (He.Fa.glo "is_maker_way").ok K) K
def g73 : Hd.Fb := fun K => (fun K => (He.Fa.glo "ring_made").ok K) K
def g74 : Hd.Fb := fun K => (fun K => (He.Fa.glo "_law_vat").ok K) K
def g75 : Hd.Fb := fun K => (fun K => (He.Fa.glo "_law_scoop").ok K) K
def g76 : Hd.Fb := fun K => (fun K => (He.Fa.glo "_law_from").ok K) K
def g77 : Hd.Fb := fun K => (fun K => (He.Fa.glo "_law_size").ok K) K
def g78 : Hd.Fb := fun K => (fun K => (He.Fa.glo "_law_change").ok K) K
def g79 : Hd.Fb := fun K => (fun K => (He.Fa.glo "_law_joined").ok K) K
def g80 : Hd.Fb := fun K => (fun K => (He.Fa.glo "_law_value").ok K) K
def g81 : Hd.Fb := fun K => (fun K => (He.Fa.glo "_law_led").ok K) K
def g82 : Hd.Fb := fun K => (fun K => (He.Fa.glo "_law_drawn_form").ok K) K
def g83 : Hd.Fb := fun K => (fun K => (He.Fa.glo "_law_is_way").ok K) K
def g84 : Hd.Fb := fun K => (fun K => (He.Fa.glo "_law_short_way").ok K) K
def g85 : Hd.Fb := fun K => (fun K => (He.Fa.glo "_law_near").ok K) K
def g86 : Hd.Fb := fun K => (fun K => (He.Fa.glo "_law_way_right").ok K) K
def g87 : Hd.Fb := fun K => (fun K => (He.Fa.glo "law").ok K) K
def g88 : Hd.Fb := fun K => (fun K => (He.Fa.free "abs").ok K) K
def g89 : Hd.Fb := fun K => (fun K => (He.Fa.free "all").ok K) K
def g90 : Hd.Fb := fun K => (fun K => (He.Fa.free "any").ok K) K
def g91 : Hd.Fb := fun K => (fun K => (He.Fa.free "bool").ok K) K
def g92 : Hd.Fb := fun K => (fun K => (He.Fa.free "int").ok K) K
def g93 : Hd.Fb := fun K => (fun K => (He.Fa.free "isinstance").ok K) K
def g94 : Hd.Fb := fun K => (fun K => (He.Fa.free "len").ok K) K
def g95 : Hd.Fb := fun K => (fun K => (He.Fa.free "list").ok K) K
def g96 : Hd.Fb := fun K => (fun K => (He.Fa.free "max").ok K) K
def g97 : Hd.Fb := fun K => (fun K => (He.Fa.free "min").ok K) K
def g98 : Hd.Fb := fun K => (fun K => (He.Fa.free "range").ok K) K
def g99 : Hd.Fb := fun K => (fun K => (He.Fa.free "sorted").ok K) K
def g100 : Hd.Fb := fun K => (fun K => (He.Fa.free "str").ok K) K
def g101 : Hd.Fb := fun K => (fun K => (He.Fa.free "sum").ok K) K
def g102 : Hd.Fb := fun K => (fun K => (He.Fa.free "tuple").ok K) K
def g103 : Hd.Fb := fun K => (fun K => (He.Fa.free "zip").ok K) K
def g104 : Hd.Fb := fun K => (fun K => (He.Fa.int "LIMIT" (1000000000000000000000000000000000000000000000000000000000000)).ok K) K
def g105 : Hd.Fb := fun K => (fun K => (He.Fa.int "MAX_MAKERS" (50)).ok K) K
def g106 : Hd.Fb := fun K => Hd.bltB "gcd" "math.gcd" K
def g107 : Hd.Fb := fun K => Hd.refsB (fun K => He.ga K "UNITS") 3 K
def g108 : Hd.Fb := fun K => Hd.intsB (fun K => Hd.itA K (He.ga K "UNITS") 0) [1, 0, 0] K
def g109 : Hd.Fb := fun K => Hd.intsB (fun K => Hd.itA K (He.ga K "UNITS") 1) [0, 1, 0] K
def g110 : Hd.Fb := fun K => Hd.intsB (fun K => Hd.itA K (He.ga K "UNITS") 2) [0, 0, 1] K
def g111 : Hd.Fb := fun K => (fun K => (He.Fa.glo "UNITS").ok K) K
def fa0 : List Hd.Fb := [g0, g1, g2, g3, g4, g5, g6, g7, g8, g9, g10, g11, g12, g13, g14, g15, g16, g17, g18, g19]
def fa1 : List Hd.Fb := [g20, g21, g22, g23, g24, g25, g26, g27, g28, g29, g30, g31, g32, g33, g34, g35, g36, g37, g38, g39]
def fa2 : List Hd.Fb := [g40, g41, g42, g43, g44, g45, g46, g47, g48, g49, g50, g51, g52, g53, g54, g55, g56, g57, g58, g59]
def fa3 : List Hd.Fb := [g60, g61, g62, g63, g64, g65, g66, g67, g68, g69, g70, g71, g72, g73, g74, g75, g76, g77, g78, g79]
def fa4 : List Hd.Fb := [g80, g81, g82, g83, g84, g85, g86, g87, g88, g89, g90, g91, g92, g93, g94, g95, g96, g97, g98, g99]
def fa5 : List Hd.Fb := [g100, g101, g102, g103, g104, g105, g106, g107, g108, g109, g110, g111]
def fa : List Hd.Fb := fa0 ++ (fa1 ++ (fa2 ++ (fa3 ++ (fa4 ++ (fa5)))))
def names0 : List Str := ["_wall", "__name__", "RingError", "InvalidForm", "InvalidChange", "InvalidDouble", "InvalidElement", "InvalidOperation", "ParseError", "InvalidNumber", "Refused", "DIGITS", "LIMIT", "is_any_integer", "is_short_integer", "is_between", "are_any_integers", "are_short_integers", "is_written_integer", "check_integer", "check_between", "determinant_of", "is_change", "is_short_change", "check_change", "shared_divisor", "fraction", "cofactors", "double_value", "double_led"]
def names1 : List Str := ["double_of", "Double", "plain_root", "rest_of", "form_value", "form_led", "is_root_of", "check_form", "form_of", "Form", "UNITS", "table_of", "product_by", "determinant_by", "map_by", "polynomial_by", "check_bottom", "table_for", "Ring", "check_one_ring", "mixed", "term", "sum_text", "Element", "MAX_MAKERS", "with_opposites", "row_makers", "is_maker", "check_maker", "makers"]
def names2 : List Str := ["maker_way", "is_maker_way", "ring_made", "_law_vat", "_law_scoop", "_law_from", "_law_size", "_law_change", "_law_joined", "_law_value", "_law_led", "_law_drawn_form", "_law_is_way", "_law_short_way", "_law_near", "_law_way_right"]
def names : List Str := names0 ++ (names1 ++ (names2))
abbrev RR : PySem.W.OpenRow := PySem.W.OpenLaw.row PySem.Challenge.rw_formrings_k73_whole_ways_from_makers
abbrev vw : Program := PySem.W.view RR.prog [0, 87]
abbrev hk : PySem.W.Hook := Hd.hookM 5 fa dd
def ob (s : PySem.W.SharedT) : Hd.AlM := Hd.obsMG 5 fa dd (HandSHeadRun.getT s)
theorem ob_eq (s : PySem.W.SharedT) : ob s = hk.obs s.abs := Hd.obsMG_eq (HandSHeadRun.getT_eq s)
theorem run (w : World) : HandSHeadRun.RunEqI RR vw hk ob 12000 names w := by
  unfold HandSHeadRun.RunEqI
  kernel_rfl
end RG
namespace RG
open PySem PySem.Spec PyProof.Rows L2 Fr
theorem putF_same {u v : V} : putF ("_coefficients" : Str) v [(("_coefficients" : Str), u)] = [(("_coefficients" : Str), v)] := by simp [putF]
theorem lk_same {x : Str} {u : V} : List.lookup x [(x, u)] = some u := by simp [List.lookup]
section
variable {P : Program} {w : World} {K : PySem.W.Frag} {mg : Str → Option Value} {base : Heap} {C_Form C_Ring C_Element : Addr}
theorem ok_Form___init__ (T : Txt K mg C_Form C_Ring C_Element) : MDef (fun p f => Mk K C_Form f) P w K mg base 4 ["self", "coefficients"] (sp_Form___init__ K C_Form C_Ring C_Element) := by
  obtain ⟨p_, f_, fd_, R_, F_⟩ := T.e_Form___init__
  obtain ⟨f_are_short_integers, fd_are_short_integers, g_are_short_integers, k_are_short_integers, b_are_short_integers, G_are_short_integers⟩ := (ok_are_short_integers (P := P) (w := w) (base := base) T)
  refine ⟨p_, f_, fd_, R_, F_.binds (ps := ["self", "coefficients"]) (fun _ _ _ _ _ _ us hl => match us, hl with | [_, _], _ => rfl), ?_⟩
  refine F_.ok sc_Form___init__ (fun vs H Q E h => ?_) (fun cdv A outer s H vs Q E hr h => ?_)
  · first | (obtain ⟨rfl, _⟩ := h; rfl) | (obtain ⟨_, rfl, _⟩ := h; rfl) | (obtain ⟨_, _, rfl, _⟩ := h; rfl) | (obtain ⟨_, _, _, rfl, _⟩ := h; rfl) | (obtain ⟨_, _, _, _, rfl, _⟩ := h; rfl) | (obtain ⟨_, _, _, _, _, rfl, _⟩ := h; rfl) | (obtain ⟨_, _, _, _, _, _, rfl, _⟩ := h; rfl) | (obtain ⟨_, _, _, _, _, _, _, rfl, _⟩ := h; rfl) | (obtain ⟨_, _, _, _, _, _, _, _, rfl, _⟩ := h; rfl) | (obtain ⟨_, _, _, _, _, _, _, _, _, rfl, _⟩ := h; rfl) | (obtain ⟨_, _, _, _, _, _, _, _, _, _, rfl, _⟩ := h; rfl) | (obtain ⟨_, _, _, _, _, _, _, _, _, _, _, rfl, _⟩ := h; rfl) | (obtain ⟨_, _, _, _, _, _, _, _, _, _, _, _, rfl, _⟩ := h; rfl) | (obtain ⟨_, _, _, _, _, _, _, _, _, _, _, _, _, rfl, _⟩ := h; rfl) | (obtain ⟨_, _, _, _, _, _, _, _, _, _, _, _, _, _, rfl, _⟩ := h; rfl) | (obtain ⟨_, _, _, _, _, _, _, _, _, _, _, _, _, _, _, rfl, _⟩ := h; rfl) | (obtain ⟨_, _, _, _, _, _, _, _, _, _, _, _, _, _, _, _, rfl, _⟩ := h; rfl) | (obtain ⟨_, _, _, _, _, _, _, _, _, _, _, _, _, _, _, _, _, rfl, _⟩ := h; rfl) | (obtain ⟨_, _, _, _, _, _, _, _, _, _, _, _, _, _, _, _, _, _, rfl, _⟩ := h; rfl) | (obtain ⟨_, _, _, _, _, _, _, _, _, _, _, _, _, _, _, _, _, _, _, rfl, _⟩ := h; rfl) | (obtain ⟨_, _, _, _, _, _, _, _, _, _, _, _, _, _, _, _, _, _, _, _, rfl, _⟩ := h; rfl) | (obtain ⟨_, _, _, _, _, _, _, _, _, _, _, _, _, _, _, _, _, _, _, _, _, rfl, _⟩ := h; rfl) | (obtain ⟨_, _, _, _, _, _, _, _, _, _, _, _, _, _, _, _, _, _, _, _, _, _, rfl, _⟩ := h; rfl) | (obtain ⟨_, _, _, _, _, _, _, _, _, _, _, _, _, _, _, _, _, _, _, _, _, _, _, rfl, _⟩ := h; rfl)
  · obtain ⟨x, dx, t, ns, rfl, hx, ht, hl, hs, q⟩ := h
    refine ⟨_, (pss_cons (ps_if (pt_not (pt_val (pe_call G_are_short_integers (hr.mono (by decide)) (by rfl) g_are_short_integers k_are_short_integers b_are_short_integers .nil pass0 (pa_cons (pv 1) (pa_cons pe_int pa_nil)))))
      pss_never
      pss_nil)
    (pss_one (ps_fld (pv 0) (pe_callTy call_tuple_of (by rfl) T.b_tuple (by decide +kernel) (pa_cons (pv 1) pa_nil)) (by rfl)))), ?_⟩
    refine ⟨_, rfl, t, ns, by rw [hl]; rfl, ht, by omega, hs, fun H1 e1 => ⟨_, rfl, ?_⟩⟩
    refine iteF ⟨_, rfl, t, _, rfl, .inr ⟨SqT.of (Ex0.ti e1 ht), ?_⟩⟩
    refine ⟨_, rfl, x, C_Form, dx, _, rfl, e1.ap hx, T.cl_Form, T.na_Form_coefficients, (by decide : (0:Nat) < 1000), ?_⟩
    exact q _ (fun b o n e => by rw [upd_ne n]; exact e1.ap e) upd_same
theorem ok_Form_coefficients (T : Txt K mg C_Form C_Ring C_Element) : MDef (fun p f => PropOf K C_Form "coefficients" p f) P w K mg base 1 ["self"] (sp_Form_coefficients K C_Form C_Ring C_Element) := by
  obtain ⟨p_, f_, fd_, R_, F_⟩ := T.e_Form_coefficients
  refine ⟨p_, f_, fd_, R_, F_.binds (ps := ["self"]) (fun _ _ _ _ _ _ us hl => match us, hl with | [_], _ => rfl), ?_⟩
  refine F_.ok sc_Form_coefficients (fun vs H Q E h => ?_) (fun cdv A outer s H vs Q E hr h => ?_)
  · first | (obtain ⟨rfl, _⟩ := h; rfl) | (obtain ⟨_, rfl, _⟩ := h; rfl) | (obtain ⟨_, _, rfl, _⟩ := h; rfl) | (obtain ⟨_, _, _, rfl, _⟩ := h; rfl) | (obtain ⟨_, _, _, _, rfl, _⟩ := h; rfl) | (obtain ⟨_, _, _, _, _, rfl, _⟩ := h; rfl) | (obtain ⟨_, _, _, _, _, _, rfl, _⟩ := h; rfl) | (obtain ⟨_, _, _, _, _, _, _, rfl, _⟩ := h; rfl) | (obtain ⟨_, _, _, _, _, _, _, _, rfl, _⟩ := h; rfl) | (obtain ⟨_, _, _, _, _, _, _, _, _, rfl, _⟩ := h; rfl) | (obtain ⟨_, _, _, _, _, _, _, _, _, _, rfl, _⟩ := h; rfl) | (obtain ⟨_, _, _, _, _, _, _, _, _, _, _, rfl, _⟩ := h; rfl) | (obtain ⟨_, _, _, _, _, _, _, _, _, _, _, _, rfl, _⟩ := h; rfl) | (obtain ⟨_, _, _, _, _, _, _, _, _, _, _, _, _, rfl, _⟩ := h; rfl) | (obtain ⟨_, _, _, _, _, _, _, _, _, _, _, _, _, _, rfl, _⟩ := h; rfl) | (obtain ⟨_, _, _, _, _, _, _, _, _, _, _, _, _, _, _, rfl, _⟩ := h; rfl) | (obtain ⟨_, _, _, _, _, _, _, _, _, _, _, _, _, _, _, _, rfl, _⟩ := h; rfl) | (obtain ⟨_, _, _, _, _, _, _, _, _, _, _, _, _, _, _, _, _, rfl, _⟩ := h; rfl) | (obtain ⟨_, _, _, _, _, _, _, _, _, _, _, _, _, _, _, _, _, _, rfl, _⟩ := h; rfl) | (obtain ⟨_, _, _, _, _, _, _, _, _, _, _, _, _, _, _, _, _, _, _, rfl, _⟩ := h; rfl) | (obtain ⟨_, _, _, _, _, _, _, _, _, _, _, _, _, _, _, _, _, _, _, _, rfl, _⟩ := h; rfl) | (obtain ⟨_, _, _, _, _, _, _, _, _, _, _, _, _, _, _, _, _, _, _, _, _, rfl, _⟩ := h; rfl) | (obtain ⟨_, _, _, _, _, _, _, _, _, _, _, _, _, _, _, _, _, _, _, _, _, _, rfl, _⟩ := h; rfl) | (obtain ⟨_, _, _, _, _, _, _, _, _, _, _, _, _, _, _, _, _, _, _, _, _, _, _, rfl, _⟩ := h; rfl)
  · obtain ⟨x, ns, rfl, ⟨dx, t, hx, ht⟩, q⟩ := h
    refine ⟨_, (pss_one (ps_ret (pe_fld (pv 0) (by rfl)))), ?_⟩
    exact ⟨_, rfl, x, C_Form, dx, _, .ref t, rfl, hx, T.cl_Form, T.na_Form_coefficients, lk_same, q t ht⟩
theorem ok_Form___eq__ (T : Txt K mg C_Form C_Ring C_Element) : MDef (fun p f => EqC K C_Form f) P w K mg base 1 ["self", "other"] (sp_Form___eq__ K C_Form C_Ring C_Element) := by
  obtain ⟨p_, f_, fd_, R_, F_⟩ := T.e_Form___eq__
  refine ⟨p_, f_, fd_, R_, F_.binds (ps := ["self", "other"]) (fun _ _ _ _ _ _ us hl => match us, hl with | [_, _], _ => rfl), ?_⟩
  refine F_.ok sc_Form___eq__ (fun vs H Q E h => ?_) (fun cdv A outer s H vs Q E hr h => ?_)
  · first | (obtain ⟨rfl, _⟩ := h; rfl) | (obtain ⟨_, rfl, _⟩ := h; rfl) | (obtain ⟨_, _, rfl, _⟩ := h; rfl) | (obtain ⟨_, _, _, rfl, _⟩ := h; rfl) | (obtain ⟨_, _, _, _, rfl, _⟩ := h; rfl) | (obtain ⟨_, _, _, _, _, rfl, _⟩ := h; rfl) | (obtain ⟨_, _, _, _, _, _, rfl, _⟩ := h; rfl) | (obtain ⟨_, _, _, _, _, _, _, rfl, _⟩ := h; rfl) | (obtain ⟨_, _, _, _, _, _, _, _, rfl, _⟩ := h; rfl) | (obtain ⟨_, _, _, _, _, _, _, _, _, rfl, _⟩ := h; rfl) | (obtain ⟨_, _, _, _, _, _, _, _, _, _, rfl, _⟩ := h; rfl) | (obtain ⟨_, _, _, _, _, _, _, _, _, _, _, rfl, _⟩ := h; rfl) | (obtain ⟨_, _, _, _, _, _, _, _, _, _, _, _, rfl, _⟩ := h; rfl) | (obtain ⟨_, _, _, _, _, _, _, _, _, _, _, _, _, rfl, _⟩ := h; rfl) | (obtain ⟨_, _, _, _, _, _, _, _, _, _, _, _, _, _, rfl, _⟩ := h; rfl) | (obtain ⟨_, _, _, _, _, _, _, _, _, _, _, _, _, _, _, rfl, _⟩ := h; rfl) | (obtain ⟨_, _, _, _, _, _, _, _, _, _, _, _, _, _, _, _, rfl, _⟩ := h; rfl) | (obtain ⟨_, _, _, _, _, _, _, _, _, _, _, _, _, _, _, _, _, rfl, _⟩ := h; rfl) | (obtain ⟨_, _, _, _, _, _, _, _, _, _, _, _, _, _, _, _, _, _, rfl, _⟩ := h; rfl) | (obtain ⟨_, _, _, _, _, _, _, _, _, _, _, _, _, _, _, _, _, _, _, rfl, _⟩ := h; rfl) | (obtain ⟨_, _, _, _, _, _, _, _, _, _, _, _, _, _, _, _, _, _, _, _, rfl, _⟩ := h; rfl) | (obtain ⟨_, _, _, _, _, _, _, _, _, _, _, _, _, _, _, _, _, _, _, _, _, rfl, _⟩ := h; rfl) | (obtain ⟨_, _, _, _, _, _, _, _, _, _, _, _, _, _, _, _, _, _, _, _, _, _, rfl, _⟩ := h; rfl) | (obtain ⟨_, _, _, _, _, _, _, _, _, _, _, _, _, _, _, _, _, _, _, _, _, _, _, rfl, _⟩ := h; rfl)
  · obtain ⟨x, y, ns, ms, rfl, ⟨dx, t, hx, ht⟩, ⟨dy, u, hy, hu⟩, q⟩ := h
    refine ⟨_, (pss_one (ps_ret (pe_and (pe_callB call_isi (by rfl) T.b_isinstance (by decide +kernel) (pa_cons (pv 1) (pa_cons (pe_glob (v := .ref C_Form) (by rfl) T.g_Form rfl) pa_nil))) (pe_one (pe_cmpR (op_eqD hr.units) (pe_fld (pv 0) (by rfl)) (pe_fld (pv 1) (by rfl)) (nomark _)))))), ?_⟩
    refine ⟨_, rfl, _, _, _, _, true, rfl, .own _, ty_ins T.ty_Form T.cl_Form hy, kit_self, _, rfl, ?_⟩
    refine ⟨_, rfl, x, C_Form, dx, _, .ref t, rfl, hx, T.cl_Form, T.na_Form_coefficients, lk_same, _, rfl, y, C_Form, dy, _, .ref u, rfl, hy, T.cl_Form, T.na_Form_coefficients, lk_same, ?_⟩
    refine ⟨.tuple (ns.map .int), .tuple (ms.map .int), .tup (SqT.of ht) (dp_ints _), .tup (SqT.of hu) (dp_ints _), shaped_tints _, shaped_tints _, ?_⟩
    rw [PyData.eqv, eqv_ints]
    exact q
end
end RG
namespace RG
open PySem PySem.Spec PyProof.Rows L2 Fr
def Low (u y z b u' y' z' b' : Int) : Prop := ∃ g : Int, u = g * u' ∧ y = g * y' ∧ z = g * z' ∧ b = g * b' ∧ 0 < b' ∧ Nat.gcd (gcdL [u', y', z']) b'.natAbs = 1
def B4 (n : Nat) (a b c d : Int) : Prop := B n a ∧ B n b ∧ B n c ∧ B n d
def B3 (n : Nat) (a b c : Int) : Prop := B n a ∧ B n b ∧ B n c
section
def sp_fraction (_ : PySem.W.Frag) (C C_R C_E : Addr) : Sp := fun vs H Q _ => ∃ a b : Int, vs = [.int a, .int b] ∧ 0 < b ∧ b < 2 ^ 3000 ∧ ∀ x H' p q g, 0 < g → a = g * p → b = g * q → Nat.gcd p.natAbs q.natAbs = 1 → Ex0 H H' → Ti H' x [p, q] → Q (.ref x) H'
def sp_check_form (_ : PySem.W.Frag) (C C_R C_E : Addr) : Sp := fun vs H Q _ => ∃ (x : Addr) (ns : List Int), vs = [.ref x] ∧ FormAt C H x ns ∧ Q .non H
def sp_check_bottom (_ : PySem.W.Frag) (C C_R C_E : Addr) : Sp := fun vs H Q _ => ∃ i : Int, vs = [.int i] ∧ Short i ∧ i ≠ 0 ∧ Q .non H
def sp_table_of (_ : PySem.W.Frag) (C C_R C_E : Addr) : Sp := fun vs H Q _ => ∃ (t : Addr) (a b c d : Int), vs = [.ref t] ∧ Ti H t [a, b, c, d] ∧ B4 1000 a b c d ∧ ∀ x H', Ex0 H H' → T33 H' x (w1 a b c d) (w2 a b c d) (w3 a b c d) → Q (.ref x) H'
def sp_product_by (K : PySem.W.Frag) (C C_R C_E : Addr) : Sp := fun vs H Q _ => ∃ (t l r : Addr) (a b c d e f g h i u x y v z s : Int), vs = [.ref t, .ref l, .ref r] ∧ T33 H t [a, b, c] [d, e, f] [g, h, i] ∧ Tq K H l [u, x, y] ∧ Tq K H r [v, z, s] ∧ B3 2100 a b c ∧ B3 2100 d e f ∧ B3 2100 g h i ∧ B3 9000 u x y ∧ B3 1000 v z s ∧ ∀ o H', Ex0 H H' → Ti H' o [m0 a d g u x y v z s, m1 b e h u x y v z s, m2 c f i u x y v z s] → Q (.ref o) H'
def sp_map_by (K : PySem.W.Frag) (C C_R C_E : Addr) : Sp := fun vs H Q _ => ∃ (t l : Addr) (a b c d e f g h i u x y : Int), vs = [.ref t, .ref l] ∧ T33 H t [a, b, c] [d, e, f] [g, h, i] ∧ Tq K H l [u, x, y] ∧ B3 2100 a b c ∧ B3 2100 d e f ∧ B3 2100 g h i ∧ B3 9000 u x y ∧ ∀ o H', Ex0 H H' → M33 K H' o [m0 a d g u x y 1 0 0, m1 b e h u x y 1 0 0, m2 c f i u x y 1 0 0] [m0 a d g u x y 0 1 0, m1 b e h u x y 0 1 0, m2 c f i u x y 0 1 0] [m0 a d g u x y 0 0 1, m1 b e h u x y 0 0 1, m2 c f i u x y 0 0 1] → Q (.ref o) H'
def sp_trace_by (K : PySem.W.Frag) (C C_R C_E : Addr) : Sp := fun vs H Q _ => ∃ (t l : Addr) (a b c d e f g h i u x y : Int), vs = [.ref t, .ref l] ∧ T33 H t [a, b, c] [d, e, f] [g, h, i] ∧ Tq K H l [u, x, y] ∧ B3 2100 a b c ∧ B3 2100 d e f ∧ B3 2100 g h i ∧ B3 9000 u x y ∧ ∀ H', Ex0 H H' → Q (.int (m0 a d g u x y 1 0 0 + m1 b e h u x y 0 1 0 + m2 c f i u x y 0 0 1)) H'
def sp_table_for (_ : PySem.W.Frag) (C C_R C_E : Addr) : Sp := fun vs H Q _ => ∃ (r : Addr) (a b c d : Int), vs = [.ref r] ∧ RingAt C C_R H r [a, b, c, d] ∧ B4 1000 a b c d ∧ ∀ x H', Ex0 H H' → T33 H' x (w1 a b c d) (w2 a b c d) (w3 a b c d) → Q (.ref x) H'
def sp_Ring___init__ (_ : PySem.W.Frag) (C C_R C_E : Addr) : Sp := fun vs H Q _ => ∃ (x dx f : Addr) (ns : List Int), vs = [.ref x, .ref f] ∧ H x = some (.ins C_R dx []) ∧ FormAt C H f ns ∧ ∀ H', (∀ b o, b ≠ x → H b = some o → H' b = some o) → H' x = some (.ins C_R dx [(("_form" : Str), .ref f)]) → Q .non H'
def sp_Ring_form (_ : PySem.W.Frag) (C C_R C_E : Addr) : Sp := fun vs H Q _ => ∃ (r : Addr) (ns : List Int), vs = [.ref r] ∧ RingAt C C_R H r ns ∧ ∀ f, FormAt C H f ns → Q (.ref f) H
def sp_Ring___eq__ (K : PySem.W.Frag) (C C_R C_E : Addr) : Sp := fun vs H Q _ => ∃ (x : Addr) (w : V) (ns : List Int), vs = [.ref x, w] ∧ RingAt C C_R H x ns ∧ ((∃ (y : Addr) (ms : List Int), w = .ref y ∧ RingAt C C_R H y ms ∧ Q (.bl (decide (ns = ms))) H) ∨ (∃ t, PySem.W.kitOne K t (.ref C_R) = some false ∧ TyX K H w t ∧ Q (.bl false) H))
def sp_Ring_element (K : PySem.W.Frag) (C C_R C_E : Addr) : Sp := fun vs H Q _ => ∃ (r t : Addr) (ns : List Int) (u y z b : Int), vs = [.ref r, .ref t, .int b] ∧ RingAt C C_R H r ns ∧ Ti H t [u, y, z] ∧ Short u ∧ Short y ∧ Short z ∧ Short b ∧ b ≠ 0 ∧ ∀ x H' u' y' z' b', Low u y z b u' y' z' b' → Ex0 H H' → ElAt C C_R C_E H' x ns u' y' z' b' → Q (.ref x) H'
def sp_check_one_ring (_ : PySem.W.Frag) (C C_R C_E : Addr) : Sp := fun vs H Q _ => ∃ (x x' : Addr) (ns : List Int) (u y z b v s r e : Int), vs = [.ref x, .ref x'] ∧ ElAt C C_R C_E H x ns u y z b ∧ ElAt C C_R C_E H x' ns v s r e ∧ Q .non H
def sp_Element___init__ (K : PySem.W.Frag) (C C_R C_E : Addr) : Sp := fun vs H Q _ => ∃ (x dx r t : Addr) (u y z b : Int), vs = [.ref x, .ref r, .ref t, .int b] ∧ H x = some (.ins C_E dx []) ∧ Tq K H t [u, y, z] ∧ b ≠ 0 ∧ B 3000 b ∧ ∀ H' t' u' y' z' b', Low u y z b u' y' z' b' → (∀ c o, c ≠ x → H c = some o → H' c = some o) → t' ≠ x → H' x = some (.ins C_E dx [(("_ring" : Str), .ref r), (("_entries" : Str), .ref t'), (("_bottom" : Str), .int b')]) → Ti H' t' [u', y', z'] → Q .non H'
def sp_Element_ring (_ : PySem.W.Frag) (C C_R C_E : Addr) : Sp := fun vs H Q _ => ∃ (x : Addr) (ns : List Int) (u y z b : Int), vs = [.ref x] ∧ ElAt C C_R C_E H x ns u y z b ∧ ∀ r, RingAt C C_R H r ns → Q (.ref r) H
def sp_Element_trace (_ : PySem.W.Frag) (C C_R C_E : Addr) : Sp := fun vs H Q _ => ∃ (x : Addr) (a b c d u y z e : Int), vs = [.ref x] ∧ ElAt C C_R C_E H x [a, b, c, d] u y z e ∧ B4 1000 a b c d ∧ B3 9000 u y z ∧ 0 < e ∧ e < 2 ^ 3000 ∧ ∀ o H' p q g, 0 < g → tr a b c d u y z = g * p → e = g * q → Nat.gcd p.natAbs q.natAbs = 1 → Ex0 H H' → Ti H' o [p, q] → Q (.ref o) H'
def sp_Element___mul__ (_ : PySem.W.Frag) (C C_R C_E : Addr) : Sp := fun vs H Q _ => ∃ (x x' : Addr) (a b c d u y z e v s r f : Int), vs = [.ref x, .ref x'] ∧ ElAt C C_R C_E H x [a, b, c, d] u y z e ∧ ElAt C C_R C_E H x' [a, b, c, d] v s r f ∧ B4 1000 a b c d ∧ B3 9000 u y z ∧ B3 1000 v s r ∧ B 1000 e ∧ B 1000 f ∧ e * f ≠ 0 ∧ ∀ o H' u' y' z' b', Low (m0 (-a * c) (-a * d) (-b * d) u y z v s r) (m1 b 0 d u y z v s r) (m2 (-a) 0 (-c) u y z v s r) (e * f) u' y' z' b' → Ex0 H H' → ElAt C C_R C_E H' o [a, b, c, d] u' y' z' b' → Q (.ref o) H'
end
theorem un33 {K : PySem.W.Frag} {i1 i2 i3 i4 i5 i6 i7 i8 i9 : Nat} {σ : L2.St} {H : Hp} {t : Addr} {a b c d e f g h i : Int} {Q : L2.St → Hp → Prop} (q : T33 H t [a, b, c] [d, e, f] [g, h, i])
    (z : Q (((((((((σ.set i1 (some (.int a))).set i2 (some (.int b))).set i3 (some (.int c))).set i4 (some (.int d))).set i5 (some (.int e))).set i6 (some (.int f))).set i7 (some (.int g))).set i8 (some (.int h))).set i9 (some (.int i))) H) :
    gTup K 3 (gCons (gTup K 3 (gCons (gName i1) (gCons (gName i2) (gCons (gName i3) gNil)))) (gCons (gTup K 3 (gCons (gName i4) (gCons (gName i5) (gCons (gName i6) gNil)))) (gCons (gTup K 3 (gCons (gName i7) (gCons (gName i8) (gCons (gName i9) gNil)))) gNil))) (.ref t) σ H Q := by
  obtain ⟨t1, t2, t3, h0, h1, h2, h3⟩ := q
  refine ⟨t, _, rfl, SqT.of h0, rfl, _, _, rfl, ?_⟩
  refine ⟨t1, _, rfl, SqT.of h1, rfl, _, _, rfl, _, _, rfl, _, _, rfl, ⟨rfl, ?_⟩⟩
  refine ⟨_, _, rfl, ?_⟩
  refine ⟨t2, _, rfl, SqT.of h2, rfl, _, _, rfl, _, _, rfl, _, _, rfl, ⟨rfl, ?_⟩⟩
  refine ⟨_, _, rfl, ?_⟩
  exact ⟨t3, _, rfl, SqT.of h3, rfl, _, _, rfl, _, _, rfl, _, _, rfl, ⟨rfl, ⟨rfl, z⟩⟩⟩
theorem t33_new {H : Hp} {t1 t2 t3 x : Addr} {r1 r2 r3 : List Int} (n1 : H t1 = none) (n2 : upd H t1 (.tup (r1.map V.int)) t2 = none) (n3 : upd (upd H t1 (.tup (r1.map V.int))) t2 (.tup (r2.map V.int)) t3 = none)
    (n4 : upd (upd (upd H t1 (.tup (r1.map V.int))) t2 (.tup (r2.map V.int))) t3 (.tup (r3.map V.int)) x = none) :
    Ex0 H (upd (upd (upd (upd H t1 (.tup (r1.map V.int))) t2 (.tup (r2.map V.int))) t3 (.tup (r3.map V.int))) x (.tup [.ref t1, .ref t2, .ref t3])) ∧
      T33 (upd (upd (upd (upd H t1 (.tup (r1.map V.int))) t2 (.tup (r2.map V.int))) t3 (.tup (r3.map V.int))) x (.tup [.ref t1, .ref t2, .ref t3])) x r1 r2 r3 :=
  ⟨(((Ex0.new n1).trans (Ex0.new n2)).trans (Ex0.new n3)).trans (Ex0.new n4), t1, t2, t3, upd_same, Ex0.ap (Ex0.new n4) (Ex0.ap (Ex0.new n3) (Ex0.ap (Ex0.new n2) upd_same)), Ex0.ap (Ex0.new n4) (Ex0.ap (Ex0.new n3) upd_same), Ex0.ap (Ex0.new n4) upd_same⟩
inductive Tis (H : Hp) : List V → List (List Int) → Prop where
  | nil : Tis H [] []
  | cons {t : Addr} {r : List Int} {xs : List V} {rs : List (List Int)} (h : Ti H t r) (q : Tis H xs rs) : Tis H (.ref t :: xs) (r :: rs)
theorem Tis.mono {H H' : Hp} {xs : List V} {rs : List (List Int)} (r : Tis H xs rs) (e : ∀ t zs, H t = some (.tup zs) → H' t = some (.tup zs)) : Tis H' xs rs := by
  induction r with
  | nil => exact .nil
  | cons h _ ih => exact .cons (e _ _ h) ih
theorem Tis.snoc {H : Hp} {xs : List V} {rs : List (List Int)} (r : Tis H xs rs) {t : Addr} {r1 : List Int} (h : Ti H t r1) : Tis H (xs ++ [.ref t]) (rs ++ [r1]) := by
  induction r with
  | nil => exact .cons h .nil
  | cons h' _ ih => exact .cons h' ih
theorem Tis.len {H : Hp} {xs : List V} {rs : List (List Int)} (r : Tis H xs rs) : xs.length = rs.length := by
  induction r with
  | nil => rfl
  | cons _ _ ih => rw [List.length_cons, List.length_cons, ih]
theorem Tis.three {H : Hp} {xs : List V} {r1 r2 r3 : List Int} (r : Tis H xs [r1, r2, r3]) : ∃ t1 t2 t3, xs = [.ref t1, .ref t2, .ref t3] ∧ Ti H t1 r1 ∧ Ti H t2 r2 ∧ Ti H t3 r3 := by
  cases r with
  | cons h1 r =>
    cases r with
    | cons h2 r =>
      cases r with
      | cons h3 r =>
        cases r
        exact ⟨_, _, _, rfl, h1, h2, h3⟩
def Uv (i : Nat) (v z s : Int) : Prop := (i = 0 ∧ v = 1 ∧ z = 0 ∧ s = 0) ∨ (i = 1 ∧ v = 0 ∧ z = 1 ∧ s = 0) ∨ (i = 2 ∧ v = 0 ∧ z = 0 ∧ s = 1)
theorem Uv.b {i : Nat} {v z s : Int} (h : Uv i v z s) : i < 3 ∧ B3 1000 v z s := by
  have b0 : B 1000 0 := ⟨by decide, by decide⟩
  have b1 : B 1000 1 := ⟨by decide, by decide⟩
  rcases h with ⟨rfl, rfl, rfl, rfl⟩ | ⟨rfl, rfl, rfl, rfl⟩ | ⟨rfl, rfl, rfl, rfl⟩
  · exact ⟨by decide, b1, b0, b0⟩
  · exact ⟨by decide, b0, b1, b0⟩
  · exact ⟨by decide, b0, b0, b1⟩
theorem unit_at {K : PySem.W.Frag} {H H' : Hp} {a b c : Addr} {i : Nat} {x : V} (h1 : SqT K H a [.int 1, .int 0, .int 0]) (h2 : SqT K H b [.int 0, .int 1, .int 0]) (h3 : SqT K H c [.int 0, .int 0, .int 1]) (e : Ex0 H H')
    (hx : [V.ref a, .ref b, .ref c][i]? = some x) : ∃ t v z s, x = .ref t ∧ Tq K H' t [v, z, s] ∧ Uv i v z s := by
  match i, hx with
  | 0, hx => exact ⟨a, 1, 0, 0, (Option.some.inj hx).symm, Ex0.tq e h1, .inl ⟨rfl, rfl, rfl, rfl⟩⟩
  | 1, hx => exact ⟨b, 0, 1, 0, (Option.some.inj hx).symm, Ex0.tq e h2, .inr (.inl ⟨rfl, rfl, rfl, rfl⟩)⟩
  | 2, hx => exact ⟨c, 0, 0, 1, (Option.some.inj hx).symm, Ex0.tq e h3, .inr (.inr ⟨rfl, rfl, rfl, rfl⟩)⟩
theorem B.pl {n : Nat} {i j : Int} (h1 : B n i) (h2 : B n j) : B (n + 1) (i + j) := ⟨by
  have a := h1.1
  have b := h2.1
  rw [Nat.pow_succ]
  omega, by omega⟩
theorem m_B {n m k : Nat} {A D G u x y v z s : Int} (ha : B k A) (hd : B k D) (hg : B k G) (hu : B3 n u x y) (hv : B3 m v z s) : B (n + m + k + 4) (m0 A D G u x y v z s) ∧ B (n + m + k + 4) (m1 A D G u x y v z s) ∧ B (n + m + k + 4) (m2 A D G u x y v z s) := by
  obtain ⟨h1, h2, h3⟩ := hu
  obtain ⟨k1, k2, k3⟩ := hv
  have k0 := ha.2
  have pl : ∀ {i j l : Nat} {p q : Int}, B i p → B j q → i < l → j < l → B l (p + q) := fun {i j l p q} h g hi hj => (B.pl (n := l - 1) (h.mono (by omega)) (g.mono (by omega))).mono (by omega)
  unfold m0 m1 m2
  have mid := pl (l := n + m + 1) (B.mul h2 k3) (B.mul h3 k2) (by omega) (by omega)
  have lA := B.mul (B.mul h2 k2) ha
  have lD := B.mul mid hd
  have lG := B.mul (B.mul h3 k3) hg
  refine ⟨?_, ?_, ?_⟩
  · exact pl (pl (l := n + m + k + 3) (pl (l := n + m + k + 2) (B.mul h1 k1) lA (by omega) (by omega)) lD (by omega) (by omega)) lG (by omega) (by omega)
  · exact pl (pl (l := n + m + k + 3) (pl (l := n + m + k + 2) (pl (l := n + m + 1) (B.mul h1 k2) (B.mul h2 k1) (by omega) (by omega)) lA (by omega) (by omega)) lD (by omega) (by omega)) lG (by omega) (by omega)
  · exact pl (pl (l := n + m + k + 3) (pl (l := n + m + k + 2) (pl (l := n + m + 1) (B.mul h1 k3) (B.mul h3 k1) (by omega) (by omega)) lA (by omega) (by omega)) lD (by omega) (by omega)) lG (by omega) (by omega)
theorem out_g {g : Nat} {n : Int} (h : (g : Int) ∣ n) : n = (g : Int) * (n / (g : Int)) := (Int.mul_ediv_cancel' h).symm
theorem gcd_out {a b : Int} (h : b ≠ 0) : ∃ p q : Int, 0 < Nat.gcd a.natAbs b.natAbs ∧ a = (Nat.gcd a.natAbs b.natAbs : Int) * p ∧ b = (Nat.gcd a.natAbs b.natAbs : Int) * q ∧ Nat.gcd p.natAbs q.natAbs = 1 := by
  have g0 : 0 < Nat.gcd a.natAbs b.natAbs := Nat.gcd_pos_of_pos_right _ (by omega)
  have d1 : ((Nat.gcd a.natAbs b.natAbs : Nat) : Int) ∣ a := Int.ofNat_dvd_left.mpr (Nat.gcd_dvd_left _ _)
  have d2 : ((Nat.gcd a.natAbs b.natAbs : Nat) : Int) ∣ b := Int.ofNat_dvd_left.mpr (Nat.gcd_dvd_right _ _)
  refine ⟨a / (Nat.gcd a.natAbs b.natAbs : Int), b / (Nat.gcd a.natAbs b.natAbs : Int), g0, out_g d1, out_g d2, ?_⟩
  rw [Int.natAbs_ediv_of_dvd d1, Int.natAbs_ediv_of_dvd d2]
  show Nat.gcd (a.natAbs / Nat.gcd a.natAbs b.natAbs) (b.natAbs / Nat.gcd a.natAbs b.natAbs) = 1
  rw [Nat.gcd_div (Nat.gcd_dvd_left _ _) (Nat.gcd_dvd_right _ _), Nat.div_self g0]
end RG
namespace RG
open PySem PySem.Spec PyProof.Rows L2 Fr
theorem dw3 {i j : Int} (h : 0 < j) (h4 : j < 2 ^ 3000) : CDivW i j := wide_div (b := 3000) h (by omega) (by decide) (by decide)
theorem lkR {a b c : V} : List.lookup ("_ring" : Str) [(("_ring" : Str), a), (("_entries" : Str), b), (("_bottom" : Str), c)] = some a := rfl
theorem lkE {a b c : V} : List.lookup ("_entries" : Str) [(("_ring" : Str), a), (("_entries" : Str), b), (("_bottom" : Str), c)] = some b := rfl
theorem lkB {a b c : V} : List.lookup ("_bottom" : Str) [(("_ring" : Str), a), (("_entries" : Str), b), (("_bottom" : Str), c)] = some c := rfl
theorem made_ex {H H' : Hp} {x dx : Addr} {o1 o2 : HO} (nx : H x = none) (ndx : H dx = none) (e1 : ∀ b o, b ≠ x → (upd (upd H dx o1) x o2) b = some o → H' b = some o) : Ex0 H H' := Ex0.of fun b o e => by
  have n1 : b ≠ x := ne_of_none e nx
  have n2 : b ≠ dx := ne_of_none e ndx
  refine e1 b o n1 ?_
  rw [upd_ne n1, upd_ne n2]
  exact e
theorem made_at {H : Hp} {x dx t : Addr} {o1 o2 : HO} {xs : List V} (nx : H x = none) (ndx : H dx = none) (h : H t = some (.tup xs)) : upd (upd H dx o1) x o2 t = some (.tup xs) := by
  rw [upd_ne (ne_of_none h nx), upd_ne (ne_of_none h ndx)]
  exact h
theorem gcd_dvd {g : Nat} : ∀ (ns : List Int) (x : Nat), g ∣ ns.foldl (fun g n => Nat.gcd g n.natAbs) x ↔ g ∣ x ∧ ∀ n ∈ ns, (g : Int) ∣ n
  | [], x => by simp
  | n :: ns, x => by
    rw [List.foldl_cons, gcd_dvd ns, Nat.dvd_gcd_iff, List.forall_mem_cons, Int.ofNat_dvd_left]
    constructor
    · rintro ⟨⟨h1, h2⟩, h3⟩; exact ⟨h1, h2, h3⟩
    · rintro ⟨h1, h2, h3⟩; exact ⟨⟨h1, h2⟩, h3⟩
theorem gcdL_dvd {g : Nat} {ns : List Int} : g ∣ gcdL ns ↔ ∀ n ∈ ns, (g : Int) ∣ n := by
  unfold gcdL
  rw [gcd_dvd]
  simp
theorem gcd3 {g : Nat} {u y z : Int} : g ∣ gcdL [u, y, z] ↔ (g : Int) ∣ u ∧ (g : Int) ∣ y ∧ (g : Int) ∣ z := by
  rw [gcdL_dvd]
  simp
theorem low_of (u y z b : Int) (h : b ≠ 0) (hb : B 3000 b) : ∃ (g u' y' z' b' : Int), g = (if b < 0 then -((gcdL [(gcdL [u, y, z] : Int), b] : Nat) : Int) else ((gcdL [(gcdL [u, y, z] : Int), b] : Nat) : Int)) ∧ g ≠ 0 ∧ B 3000 g ∧ u = g * u' ∧ y = g * y' ∧ z = g * z' ∧ b = g * b' ∧ 0 < b' ∧ Nat.gcd (gcdL [u', y', z']) b'.natAbs = 1 := by
  have hG : ∀ d : Nat, d ∣ gcdL [(gcdL [u, y, z] : Int), b] ↔ ((d : Int) ∣ u ∧ (d : Int) ∣ y ∧ (d : Int) ∣ z) ∧ (d : Int) ∣ b := fun d => by
    rw [gcdL_dvd, List.forall_mem_cons, Int.natCast_dvd_natCast, gcd3]
    simp
  generalize gcdL [(gcdL [u, y, z] : Int), b] = G at hG ⊢
  obtain ⟨⟨d1, d2, d3⟩, d4⟩ := (hG G).mp (Nat.dvd_refl _)
  have G0 : 0 < G := by
    rcases Nat.eq_zero_or_pos G with e | e
    · rw [e] at d4
      exact absurd (Int.zero_dvd.mp d4) h
    · exact e
  have Gb : G ≤ b.natAbs := Nat.le_of_dvd (by omega) (Int.ofNat_dvd_left.mp d4)
  have bG : B 3000 (G : Int) := ⟨Nat.lt_of_le_of_lt Gb hb.1, by decide⟩
  obtain ⟨u0, rfl⟩ := d1
  obtain ⟨y0, rfl⟩ := d2
  obtain ⟨z0, rfl⟩ := d3
  obtain ⟨b0, rfl⟩ := d4
  have one : ∀ d : Nat, (d : Int) ∣ u0 → (d : Int) ∣ y0 → (d : Int) ∣ z0 → (d : Int) ∣ b0 → d = 1 := fun d e1 e2 e3 e4 => by
    have m : ∀ x : Int, (d : Int) ∣ x → ((G * d : Nat) : Int) ∣ (G : Int) * x := fun x hx => by rw [Int.natCast_mul]; exact Int.mul_dvd_mul_left _ hx
    have k : G * d ∣ G * 1 := by rw [Nat.mul_one]; exact (hG (G * d)).mpr ⟨⟨m _ e1, m _ e2, m _ e3⟩, m _ e4⟩
    exact Nat.dvd_one.mp (Nat.dvd_of_mul_dvd_mul_left G0 k)
  have fin : ∀ u' y' z' b' : Int, (∀ d : Nat, (d : Int) ∣ u' → (d : Int) ∣ u0) → (∀ d : Nat, (d : Int) ∣ y' → (d : Int) ∣ y0) → (∀ d : Nat, (d : Int) ∣ z' → (d : Int) ∣ z0) → (∀ d : Nat, (d : Int) ∣ b' → (d : Int) ∣ b0) → Nat.gcd (gcdL [u', y', z']) b'.natAbs = 1 := fun u' y' z' b' e1 e2 e3 e4 => by
    obtain ⟨f1, f2, f3⟩ := gcd3.mp (Nat.gcd_dvd_left (gcdL [u', y', z']) b'.natAbs)
    exact one _ (e1 _ f1) (e2 _ f2) (e3 _ f3) (e4 _ (Int.ofNat_dvd_left.mpr (Nat.gcd_dvd_right (gcdL [u', y', z']) b'.natAbs)))
  by_cases n : (G : Int) * b0 < 0
  · rw [if_pos n]
    have b1 : b0 < 0 := by
      rcases Int.lt_or_le b0 0 with e | e
      · exact e
      · have := Int.mul_nonneg (show (0 : Int) ≤ G by omega) e
        omega
    exact ⟨_, -u0, -y0, -z0, -b0, rfl, by omega, bG.neg, by rw [Int.neg_mul_neg], by rw [Int.neg_mul_neg], by rw [Int.neg_mul_neg], by rw [Int.neg_mul_neg], by omega, fin _ _ _ _ (fun d => Int.dvd_neg.mp) (fun d => Int.dvd_neg.mp) (fun d => Int.dvd_neg.mp) (fun d => Int.dvd_neg.mp)⟩
  · rw [if_neg n]
    have b1 : 0 < b0 := by
      rcases Int.lt_or_le 0 b0 with e | e
      · exact e
      · have := Int.mul_nonneg (show (0 : Int) ≤ G by omega) (show 0 ≤ -b0 by omega)
        rw [Int.mul_neg] at this
        omega
    exact ⟨_, u0, y0, z0, b0, rfl, by omega, bG, rfl, rfl, rfl, rfl, b1, fin _ _ _ _ (fun d => id) (fun d => id) (fun d => id) (fun d => id)⟩
section
variable {P : Program} {w : World} {K : PySem.W.Frag} {mg : Str → Option Value} {base : Heap} {C_Form C_Ring C_Element : Addr}
theorem ok_fraction (T : Txt K mg C_Form C_Ring C_Element) : Def P w K mg base 1 "fraction" ["top", "bottom"] (sp_fraction K C_Form C_Ring C_Element) := by
  obtain ⟨f_, fd_, g_, F_⟩ := T.d_fraction
  refine ⟨f_, fd_, g_, F_.kp, F_.binds (ps := ["top", "bottom"]) (fun _ _ _ _ _ _ us hl => match us, hl with | [_, _], _ => rfl), ?_⟩
  refine F_.ok sc_fraction (fun vs H Q E h => ?_) (fun cdv A outer s H vs Q E hr h => ?_)
  · first | (obtain ⟨rfl, _⟩ := h; rfl) | (obtain ⟨_, rfl, _⟩ := h; rfl) | (obtain ⟨_, _, rfl, _⟩ := h; rfl) | (obtain ⟨_, _, _, rfl, _⟩ := h; rfl) | (obtain ⟨_, _, _, _, rfl, _⟩ := h; rfl) | (obtain ⟨_, _, _, _, _, rfl, _⟩ := h; rfl) | (obtain ⟨_, _, _, _, _, _, rfl, _⟩ := h; rfl) | (obtain ⟨_, _, _, _, _, _, _, rfl, _⟩ := h; rfl) | (obtain ⟨_, _, _, _, _, _, _, _, rfl, _⟩ := h; rfl) | (obtain ⟨_, _, _, _, _, _, _, _, _, rfl, _⟩ := h; rfl) | (obtain ⟨_, _, _, _, _, _, _, _, _, _, rfl, _⟩ := h; rfl) | (obtain ⟨_, _, _, _, _, _, _, _, _, _, _, rfl, _⟩ := h; rfl) | (obtain ⟨_, _, _, _, _, _, _, _, _, _, _, _, rfl, _⟩ := h; rfl) | (obtain ⟨_, _, _, _, _, _, _, _, _, _, _, _, _, rfl, _⟩ := h; rfl) | (obtain ⟨_, _, _, _, _, _, _, _, _, _, _, _, _, _, rfl, _⟩ := h; rfl) | (obtain ⟨_, _, _, _, _, _, _, _, _, _, _, _, _, _, _, rfl, _⟩ := h; rfl) | (obtain ⟨_, _, _, _, _, _, _, _, _, _, _, _, _, _, _, _, rfl, _⟩ := h; rfl) | (obtain ⟨_, _, _, _, _, _, _, _, _, _, _, _, _, _, _, _, _, rfl, _⟩ := h; rfl) | (obtain ⟨_, _, _, _, _, _, _, _, _, _, _, _, _, _, _, _, _, _, rfl, _⟩ := h; rfl) | (obtain ⟨_, _, _, _, _, _, _, _, _, _, _, _, _, _, _, _, _, _, _, rfl, _⟩ := h; rfl) | (obtain ⟨_, _, _, _, _, _, _, _, _, _, _, _, _, _, _, _, _, _, _, _, rfl, _⟩ := h; rfl) | (obtain ⟨_, _, _, _, _, _, _, _, _, _, _, _, _, _, _, _, _, _, _, _, _, rfl, _⟩ := h; rfl) | (obtain ⟨_, _, _, _, _, _, _, _, _, _, _, _, _, _, _, _, _, _, _, _, _, _, rfl, _⟩ := h; rfl) | (obtain ⟨_, _, _, _, _, _, _, _, _, _, _, _, _, _, _, _, _, _, _, _, _, _, _, rfl, _⟩ := h; rfl)
  · obtain ⟨a, b, rfl, b0, b1, q⟩ := h
    refine ⟨_, (pss_cons (ps_set (i := 2) sc_fraction.nd rfl (.inl rfl) (pe_callBfun cr_gcd (by rfl) T.m_gcd (pa_cons (pv 0) (pa_cons (pv 1) pa_nil))))
    (pss_one (ps_ret (pe_tup (pa_cons (pe_op op_fdivW (pv 0) (pv 2)) (pa_cons (pe_op op_fdivW (pv 1) (pv 2)) pa_nil)))))), ?_⟩
    obtain ⟨p, r, g0, e1, e2, e3⟩ := gcd_out (a := a) (b := b) (by omega)
    have gl : Nat.gcd a.natAbs b.natAbs ≤ b.natAbs := Nat.gcd_le_right _ (by omega)
    have gi : (0 : Int) < (Nat.gcd a.natAbs b.natAbs : Nat) := by omega
    have gb : ((Nat.gcd a.natAbs b.natAbs : Nat) : Int) < 2 ^ 3000 := by omega
    refine ⟨_, rfl, _, rfl, _, _, rfl, ?_⟩
    refine ⟨_, rfl, _, rfl, _, _, rfl, rfl, dw3 gi gb, _, rfl, _, rfl, _, _, rfl, rfl, dw3 gi gb, sl2, fun x nx => ?_⟩
    refine q x _ p r _ gi e1 e2 e3 (Ex0.new nx) ?_
    have h1 : a / ((Nat.gcd a.natAbs b.natAbs : Nat) : Int) = p := Int.ediv_eq_of_eq_mul_right (by omega) e1
    have h2 : b / ((Nat.gcd a.natAbs b.natAbs : Nat) : Int) = r := Int.ediv_eq_of_eq_mul_right (by omega) e2
    show upd H x (.tup [.int (a / ((Nat.gcd a.natAbs b.natAbs : Nat) : Int)), .int (b / ((Nat.gcd a.natAbs b.natAbs : Nat) : Int))]) x = some (.tup ([p, r].map V.int))
    rw [h1, h2]
    exact upd_same
theorem ok_check_form (T : Txt K mg C_Form C_Ring C_Element) : Def P w K mg base 1 "check_form" ["value"] (sp_check_form K C_Form C_Ring C_Element) := by
  obtain ⟨f_, fd_, g_, F_⟩ := T.d_check_form
  refine ⟨f_, fd_, g_, F_.kp, F_.binds (ps := ["value"]) (fun _ _ _ _ _ _ us hl => match us, hl with | [_], _ => rfl), ?_⟩
  refine F_.ok sc_check_form (fun vs H Q E h => ?_) (fun cdv A outer s H vs Q E hr h => ?_)
  · first | (obtain ⟨rfl, _⟩ := h; rfl) | (obtain ⟨_, rfl, _⟩ := h; rfl) | (obtain ⟨_, _, rfl, _⟩ := h; rfl) | (obtain ⟨_, _, _, rfl, _⟩ := h; rfl) | (obtain ⟨_, _, _, _, rfl, _⟩ := h; rfl) | (obtain ⟨_, _, _, _, _, rfl, _⟩ := h; rfl) | (obtain ⟨_, _, _, _, _, _, rfl, _⟩ := h; rfl) | (obtain ⟨_, _, _, _, _, _, _, rfl, _⟩ := h; rfl) | (obtain ⟨_, _, _, _, _, _, _, _, rfl, _⟩ := h; rfl) | (obtain ⟨_, _, _, _, _, _, _, _, _, rfl, _⟩ := h; rfl) | (obtain ⟨_, _, _, _, _, _, _, _, _, _, rfl, _⟩ := h; rfl) | (obtain ⟨_, _, _, _, _, _, _, _, _, _, _, rfl, _⟩ := h; rfl) | (obtain ⟨_, _, _, _, _, _, _, _, _, _, _, _, rfl, _⟩ := h; rfl) | (obtain ⟨_, _, _, _, _, _, _, _, _, _, _, _, _, rfl, _⟩ := h; rfl) | (obtain ⟨_, _, _, _, _, _, _, _, _, _, _, _, _, _, rfl, _⟩ := h; rfl) | (obtain ⟨_, _, _, _, _, _, _, _, _, _, _, _, _, _, _, rfl, _⟩ := h; rfl) | (obtain ⟨_, _, _, _, _, _, _, _, _, _, _, _, _, _, _, _, rfl, _⟩ := h; rfl) | (obtain ⟨_, _, _, _, _, _, _, _, _, _, _, _, _, _, _, _, _, rfl, _⟩ := h; rfl) | (obtain ⟨_, _, _, _, _, _, _, _, _, _, _, _, _, _, _, _, _, _, rfl, _⟩ := h; rfl) | (obtain ⟨_, _, _, _, _, _, _, _, _, _, _, _, _, _, _, _, _, _, _, rfl, _⟩ := h; rfl) | (obtain ⟨_, _, _, _, _, _, _, _, _, _, _, _, _, _, _, _, _, _, _, _, rfl, _⟩ := h; rfl) | (obtain ⟨_, _, _, _, _, _, _, _, _, _, _, _, _, _, _, _, _, _, _, _, _, rfl, _⟩ := h; rfl) | (obtain ⟨_, _, _, _, _, _, _, _, _, _, _, _, _, _, _, _, _, _, _, _, _, _, rfl, _⟩ := h; rfl) | (obtain ⟨_, _, _, _, _, _, _, _, _, _, _, _, _, _, _, _, _, _, _, _, _, _, _, rfl, _⟩ := h; rfl)
  · obtain ⟨x, ns, rfl, ⟨dx, t, hx, ht⟩, q⟩ := h
    refine ⟨_, (pss_one (ps_if (pt_not (pt_val (pe_callB call_isi (by rfl) T.b_isinstance (by decide +kernel) (pa_cons (pv 0) (pa_cons (pe_glob (v := .ref C_Form) (by rfl) T.g_Form rfl) pa_nil)))))
      pss_never
      pss_nil)), ?_⟩
    refine ⟨_, rfl, _, _, _, _, true, rfl, .own _, ty_ins T.ty_Form T.cl_Form hx, kit_self, _, rfl, ?_⟩
    exact iteF q
theorem ok_check_bottom (T : Txt K mg C_Form C_Ring C_Element) : Def P w K mg base 4 "check_bottom" ["bottom"] (sp_check_bottom K C_Form C_Ring C_Element) := by
  obtain ⟨f_, fd_, g_, F_⟩ := T.d_check_bottom
  obtain ⟨f_check_integer, fd_check_integer, g_check_integer, k_check_integer, b_check_integer, G_check_integer⟩ := (ok_check_integer (P := P) (w := w) (base := base) T)
  refine ⟨f_, fd_, g_, F_.kp, F_.binds (ps := ["bottom"]) (fun _ _ _ _ _ _ us hl => match us, hl with | [_], _ => rfl), ?_⟩
  refine F_.ok sc_check_bottom (fun vs H Q E h => ?_) (fun cdv A outer s H vs Q E hr h => ?_)
  · first | (obtain ⟨rfl, _⟩ := h; rfl) | (obtain ⟨_, rfl, _⟩ := h; rfl) | (obtain ⟨_, _, rfl, _⟩ := h; rfl) | (obtain ⟨_, _, _, rfl, _⟩ := h; rfl) | (obtain ⟨_, _, _, _, rfl, _⟩ := h; rfl) | (obtain ⟨_, _, _, _, _, rfl, _⟩ := h; rfl) | (obtain ⟨_, _, _, _, _, _, rfl, _⟩ := h; rfl) | (obtain ⟨_, _, _, _, _, _, _, rfl, _⟩ := h; rfl) | (obtain ⟨_, _, _, _, _, _, _, _, rfl, _⟩ := h; rfl) | (obtain ⟨_, _, _, _, _, _, _, _, _, rfl, _⟩ := h; rfl) | (obtain ⟨_, _, _, _, _, _, _, _, _, _, rfl, _⟩ := h; rfl) | (obtain ⟨_, _, _, _, _, _, _, _, _, _, _, rfl, _⟩ := h; rfl) | (obtain ⟨_, _, _, _, _, _, _, _, _, _, _, _, rfl, _⟩ := h; rfl) | (obtain ⟨_, _, _, _, _, _, _, _, _, _, _, _, _, rfl, _⟩ := h; rfl) | (obtain ⟨_, _, _, _, _, _, _, _, _, _, _, _, _, _, rfl, _⟩ := h; rfl) | (obtain ⟨_, _, _, _, _, _, _, _, _, _, _, _, _, _, _, rfl, _⟩ := h; rfl) | (obtain ⟨_, _, _, _, _, _, _, _, _, _, _, _, _, _, _, _, rfl, _⟩ := h; rfl) | (obtain ⟨_, _, _, _, _, _, _, _, _, _, _, _, _, _, _, _, _, rfl, _⟩ := h; rfl) | (obtain ⟨_, _, _, _, _, _, _, _, _, _, _, _, _, _, _, _, _, _, rfl, _⟩ := h; rfl) | (obtain ⟨_, _, _, _, _, _, _, _, _, _, _, _, _, _, _, _, _, _, _, rfl, _⟩ := h; rfl) | (obtain ⟨_, _, _, _, _, _, _, _, _, _, _, _, _, _, _, _, _, _, _, _, rfl, _⟩ := h; rfl) | (obtain ⟨_, _, _, _, _, _, _, _, _, _, _, _, _, _, _, _, _, _, _, _, _, rfl, _⟩ := h; rfl) | (obtain ⟨_, _, _, _, _, _, _, _, _, _, _, _, _, _, _, _, _, _, _, _, _, _, rfl, _⟩ := h; rfl) | (obtain ⟨_, _, _, _, _, _, _, _, _, _, _, _, _, _, _, _, _, _, _, _, _, _, _, rfl, _⟩ := h; rfl)
  · obtain ⟨i, rfl, hs, h0, q⟩ := h
    refine ⟨_, (pss_cons (ps_expr (pe_call G_check_integer (hr.mono (by decide)) (by rfl) g_check_integer k_check_integer b_check_integer .nil pass0 (pa_cons (pv 0) pa_nil)))
    (pss_one (ps_if (pt_cmpR op_eq (pv 0) pe_int (nomark _))
      pss_never
      pss_nil))), ?_⟩
    refine ⟨_, rfl, i, rfl, hs, ?_⟩
    refine ⟨_, rfl, rfl, _, rfl, iteE (fun e => absurd e h0) (fun _ => q)⟩
theorem ok_table_of (T : Txt K mg C_Form C_Ring C_Element) : Def P w K mg base 1 "table_of" ["coefficients"] (sp_table_of K C_Form C_Ring C_Element) := by
  obtain ⟨f_, fd_, g_, F_⟩ := T.d_table_of
  refine ⟨f_, fd_, g_, F_.kp, F_.binds (ps := ["coefficients"]) (fun _ _ _ _ _ _ us hl => match us, hl with | [_], _ => rfl), ?_⟩
  refine F_.ok sc_table_of (fun vs H Q E h => ?_) (fun cdv A outer s H vs Q E hr h => ?_)
  · first | (obtain ⟨rfl, _⟩ := h; rfl) | (obtain ⟨_, rfl, _⟩ := h; rfl) | (obtain ⟨_, _, rfl, _⟩ := h; rfl) | (obtain ⟨_, _, _, rfl, _⟩ := h; rfl) | (obtain ⟨_, _, _, _, rfl, _⟩ := h; rfl) | (obtain ⟨_, _, _, _, _, rfl, _⟩ := h; rfl) | (obtain ⟨_, _, _, _, _, _, rfl, _⟩ := h; rfl) | (obtain ⟨_, _, _, _, _, _, _, rfl, _⟩ := h; rfl) | (obtain ⟨_, _, _, _, _, _, _, _, rfl, _⟩ := h; rfl) | (obtain ⟨_, _, _, _, _, _, _, _, _, rfl, _⟩ := h; rfl) | (obtain ⟨_, _, _, _, _, _, _, _, _, _, rfl, _⟩ := h; rfl) | (obtain ⟨_, _, _, _, _, _, _, _, _, _, _, rfl, _⟩ := h; rfl) | (obtain ⟨_, _, _, _, _, _, _, _, _, _, _, _, rfl, _⟩ := h; rfl) | (obtain ⟨_, _, _, _, _, _, _, _, _, _, _, _, _, rfl, _⟩ := h; rfl) | (obtain ⟨_, _, _, _, _, _, _, _, _, _, _, _, _, _, rfl, _⟩ := h; rfl) | (obtain ⟨_, _, _, _, _, _, _, _, _, _, _, _, _, _, _, rfl, _⟩ := h; rfl) | (obtain ⟨_, _, _, _, _, _, _, _, _, _, _, _, _, _, _, _, rfl, _⟩ := h; rfl) | (obtain ⟨_, _, _, _, _, _, _, _, _, _, _, _, _, _, _, _, _, rfl, _⟩ := h; rfl) | (obtain ⟨_, _, _, _, _, _, _, _, _, _, _, _, _, _, _, _, _, _, rfl, _⟩ := h; rfl) | (obtain ⟨_, _, _, _, _, _, _, _, _, _, _, _, _, _, _, _, _, _, _, rfl, _⟩ := h; rfl) | (obtain ⟨_, _, _, _, _, _, _, _, _, _, _, _, _, _, _, _, _, _, _, _, rfl, _⟩ := h; rfl) | (obtain ⟨_, _, _, _, _, _, _, _, _, _, _, _, _, _, _, _, _, _, _, _, _, rfl, _⟩ := h; rfl) | (obtain ⟨_, _, _, _, _, _, _, _, _, _, _, _, _, _, _, _, _, _, _, _, _, _, rfl, _⟩ := h; rfl) | (obtain ⟨_, _, _, _, _, _, _, _, _, _, _, _, _, _, _, _, _, _, _, _, _, _, _, rfl, _⟩ := h; rfl)
  · obtain ⟨t, a, b, c, d, rfl, ht, ⟨ba, bb, bc, bd⟩, q⟩ := h
    refine ⟨_, (pss_cons (ps_asg (pv 0) (pg_tup (by rfl) (pgs_cons (pg_name (i := 1) sc_table_of.nd rfl (.inl rfl)) (pgs_cons (pg_name (i := 2) sc_table_of.nd rfl (.inl rfl)) (pgs_cons (pg_name (i := 3) sc_table_of.nd rfl (.inl rfl)) (pgs_cons (pg_name (i := 4) sc_table_of.nd rfl (.inl rfl)) pgs_nil))))))
    (pss_one (ps_ret (pe_tup (pa_cons (pe_tup (pa_cons (pe_op op_mulW (pe_un un_neg (pv 1)) (pv 3)) (pa_cons (pv 2) (pa_cons (pe_un un_neg (pv 1)) pa_nil)))) (pa_cons (pe_tup (pa_cons (pe_op op_mulW (pe_un un_neg (pv 1)) (pv 4)) (pa_cons pe_int (pa_cons pe_int pa_nil)))) (pa_cons (pe_tup (pa_cons (pe_op op_mulW (pe_un un_neg (pv 2)) (pv 4)) (pa_cons (pv 4) (pa_cons (pe_un un_neg (pv 3)) pa_nil)))) pa_nil))))))), ?_⟩
    refine ⟨_, rfl, unI4 ht ?_⟩
    refine ⟨_, rfl, _, rfl, _, rfl, _, _, rfl, rfl, mulB (B.neg (by with_reducible assumption)) (by with_reducible assumption) (by decide), _, rfl, _, rfl, _, rfl, sl3, fun t1 n1 => ⟨_, rfl, _, rfl, _, rfl, _, _, rfl, rfl, mulB (B.neg (by with_reducible assumption)) (by with_reducible assumption) (by decide), sl3, fun t2 n2 => ⟨_, rfl, _, rfl, _, rfl, _, _, rfl, rfl, mulB (B.neg (by with_reducible assumption)) (by with_reducible assumption) (by decide), _, rfl, _, rfl, _, rfl, sl3, fun t3 n3 => ⟨sl3, fun x nx => ?_⟩⟩⟩⟩
    have z := t33_new (r1 := w1 a b c d) (r2 := w2 a b c d) (r3 := w3 a b c d) n1 n2 n3 nx
    exact q x _ z.1 z.2
theorem ok_product_by (T : Txt K mg C_Form C_Ring C_Element) : Def P w K mg base 1 "product_by" ["table", "first", "second"] (sp_product_by K C_Form C_Ring C_Element) := by
  obtain ⟨f_, fd_, g_, F_⟩ := T.d_product_by
  refine ⟨f_, fd_, g_, F_.kp, F_.binds (ps := ["table", "first", "second"]) (fun _ _ _ _ _ _ us hl => match us, hl with | [_, _, _], _ => rfl), ?_⟩
  refine F_.ok sc_product_by (fun vs H Q E h => ?_) (fun cdv A outer s H vs Q E hr h => ?_)
  · first | (obtain ⟨rfl, _⟩ := h; rfl) | (obtain ⟨_, rfl, _⟩ := h; rfl) | (obtain ⟨_, _, rfl, _⟩ := h; rfl) | (obtain ⟨_, _, _, rfl, _⟩ := h; rfl) | (obtain ⟨_, _, _, _, rfl, _⟩ := h; rfl) | (obtain ⟨_, _, _, _, _, rfl, _⟩ := h; rfl) | (obtain ⟨_, _, _, _, _, _, rfl, _⟩ := h; rfl) | (obtain ⟨_, _, _, _, _, _, _, rfl, _⟩ := h; rfl) | (obtain ⟨_, _, _, _, _, _, _, _, rfl, _⟩ := h; rfl) | (obtain ⟨_, _, _, _, _, _, _, _, _, rfl, _⟩ := h; rfl) | (obtain ⟨_, _, _, _, _, _, _, _, _, _, rfl, _⟩ := h; rfl) | (obtain ⟨_, _, _, _, _, _, _, _, _, _, _, rfl, _⟩ := h; rfl) | (obtain ⟨_, _, _, _, _, _, _, _, _, _, _, _, rfl, _⟩ := h; rfl) | (obtain ⟨_, _, _, _, _, _, _, _, _, _, _, _, _, rfl, _⟩ := h; rfl) | (obtain ⟨_, _, _, _, _, _, _, _, _, _, _, _, _, _, rfl, _⟩ := h; rfl) | (obtain ⟨_, _, _, _, _, _, _, _, _, _, _, _, _, _, _, rfl, _⟩ := h; rfl) | (obtain ⟨_, _, _, _, _, _, _, _, _, _, _, _, _, _, _, _, rfl, _⟩ := h; rfl) | (obtain ⟨_, _, _, _, _, _, _, _, _, _, _, _, _, _, _, _, _, rfl, _⟩ := h; rfl) | (obtain ⟨_, _, _, _, _, _, _, _, _, _, _, _, _, _, _, _, _, _, rfl, _⟩ := h; rfl) | (obtain ⟨_, _, _, _, _, _, _, _, _, _, _, _, _, _, _, _, _, _, _, rfl, _⟩ := h; rfl) | (obtain ⟨_, _, _, _, _, _, _, _, _, _, _, _, _, _, _, _, _, _, _, _, rfl, _⟩ := h; rfl) | (obtain ⟨_, _, _, _, _, _, _, _, _, _, _, _, _, _, _, _, _, _, _, _, _, rfl, _⟩ := h; rfl) | (obtain ⟨_, _, _, _, _, _, _, _, _, _, _, _, _, _, _, _, _, _, _, _, _, _, rfl, _⟩ := h; rfl) | (obtain ⟨_, _, _, _, _, _, _, _, _, _, _, _, _, _, _, _, _, _, _, _, _, _, _, rfl, _⟩ := h; rfl)
  · obtain ⟨t, l, r, a, b, c, d, e, f, g, h', i, u, x, y, v, z, s', rfl, ht, hl, hr, ⟨ba, bb, bc⟩, ⟨bd, be, bf⟩, ⟨bg, bh, bi⟩, ⟨bu, bx, by'⟩, ⟨bv, bz, bs⟩, q⟩ := h
    refine ⟨_, (Evl.pss_cut (ps_asg (pv 0) (pg_tup (by rfl) (pgs_cons (pg_tup (by rfl) (pgs_cons (pg_name (i := 3) sc_product_by.nd rfl (.inl rfl)) (pgs_cons (pg_name (i := 4) sc_product_by.nd rfl (.inl rfl)) (pgs_cons (pg_name (i := 5) sc_product_by.nd rfl (.inl rfl)) pgs_nil)))) (pgs_cons (pg_tup (by rfl) (pgs_cons (pg_name (i := 6) sc_product_by.nd rfl (.inl rfl)) (pgs_cons (pg_name (i := 7) sc_product_by.nd rfl (.inl rfl)) (pgs_cons (pg_name (i := 8) sc_product_by.nd rfl (.inl rfl)) pgs_nil)))) (pgs_cons (pg_tup (by rfl) (pgs_cons (pg_name (i := 9) sc_product_by.nd rfl (.inl rfl)) (pgs_cons (pg_name (i := 10) sc_product_by.nd rfl (.inl rfl)) (pgs_cons (pg_name (i := 11) sc_product_by.nd rfl (.inl rfl)) pgs_nil)))) pgs_nil)))))
    (Evl.pss_cut (ps_asg (pv 1) (pg_tup (by rfl) (pgs_cons (pg_name (i := 12) sc_product_by.nd rfl (.inl rfl)) (pgs_cons (pg_name (i := 13) sc_product_by.nd rfl (.inl rfl)) (pgs_cons (pg_name (i := 14) sc_product_by.nd rfl (.inl rfl)) pgs_nil)))))
    (Evl.pss_cut (ps_asg (pv 2) (pg_tup (by rfl) (pgs_cons (pg_name (i := 15) sc_product_by.nd rfl (.inl rfl)) (pgs_cons (pg_name (i := 16) sc_product_by.nd rfl (.inl rfl)) (pgs_cons (pg_name (i := 17) sc_product_by.nd rfl (.inl rfl)) pgs_nil)))))
    (pss_cons (ps_par3 (i := 18) (j := 19) (l := 20) (by rfl) sc_product_by.nd rfl rfl rfl (by decide) (by decide) (by decide) rfl rfl rfl (pa_cons (pe_op op_mulW (pv 13) (pv 16)) (pa_cons (pe_op op_add (pe_op op_mulW (pv 13) (pv 17)) (pe_op op_mulW (pv 14) (pv 16))) (pa_cons (pe_op op_mulW (pv 14) (pv 17)) pa_nil))) (by rfl))
    (pss_one (ps_ret (pe_tup (pa_cons (pe_op op_add (pe_op op_add (pe_op op_add (pe_op op_mulW (pv 12) (pv 15)) (pe_op op_mulW (pv 18) (pv 3))) (pe_op op_mulW (pv 19) (pv 6))) (pe_op op_mulW (pv 20) (pv 9))) (pa_cons (pe_op op_add (pe_op op_add (pe_op op_add (pe_op op_add (pe_op op_mulW (pv 12) (pv 16)) (pe_op op_mulW (pv 13) (pv 15))) (pe_op op_mulW (pv 18) (pv 4))) (pe_op op_mulW (pv 19) (pv 7))) (pe_op op_mulW (pv 20) (pv 10))) (pa_cons (pe_op op_add (pe_op op_add (pe_op op_add (pe_op op_add (pe_op op_mulW (pv 12) (pv 17)) (pe_op op_mulW (pv 14) (pv 15))) (pe_op op_mulW (pv 18) (pv 5))) (pe_op op_mulW (pv 19) (pv 8))) (pe_op op_mulW (pv 20) (pv 11))) pa_nil)))))))))), ?_⟩
    refine ⟨fun σ H' => σ = [some (.ref t), some (.ref l), some (.ref r), some (.int a), some (.int b), some (.int c), some (.int d), some (.int e), some (.int f), some (.int g), some (.int h'), some (.int i), none, none, none, none, none, none, none, none, none] ∧ H' = H, ⟨_, rfl, un33 ht ⟨rfl, rfl⟩⟩, ?_⟩
    rintro σ H' ⟨rfl, rfl⟩
    refine ⟨fun σ H'' => σ = [some (.ref t), some (.ref l), some (.ref r), some (.int a), some (.int b), some (.int c), some (.int d), some (.int e), some (.int f), some (.int g), some (.int h'), some (.int i), some (.int u), some (.int x), some (.int y), none, none, none, none, none, none] ∧ H'' = H', ⟨_, rfl, unq3 hl ⟨rfl, rfl⟩⟩, ?_⟩
    rintro σ H'' ⟨rfl, rfl⟩
    refine ⟨fun σ H' => σ = [some (.ref t), some (.ref l), some (.ref r), some (.int a), some (.int b), some (.int c), some (.int d), some (.int e), some (.int f), some (.int g), some (.int h'), some (.int i), some (.int u), some (.int x), some (.int y), some (.int v), some (.int z), some (.int s'), none, none, none] ∧ H' = H'', ⟨_, rfl, unq3 hr ⟨rfl, rfl⟩⟩, ?_⟩
    rintro σ H' ⟨rfl, rfl⟩
    refine ⟨_, rfl, _, rfl, _, _, rfl, rfl, mulB (by with_reducible assumption) (by with_reducible assumption) (by decide), _, rfl, _, rfl, _, _, rfl, rfl, mulB (by with_reducible assumption) (by with_reducible assumption) (by decide), _, rfl, _, rfl, _, _, rfl, rfl, mulB (by with_reducible assumption) (by with_reducible assumption) (by decide), _, _, rfl, rfl, _, rfl, _, rfl, _, _, rfl, rfl, mulB (by with_reducible assumption) (by with_reducible assumption) (by decide), ?_⟩
    have bL : B 10000 (x * z) := B.mul bx bz
    have bM : B 10001 (x * s' + y * z) := B.pl (B.mul bx bs) (B.mul by' bz)
    have bR : B 10000 (y * s') := B.mul by' bs
    refine ⟨_, _, _, rfl, ?_⟩
    refine ⟨_, rfl, _, rfl, _, _, rfl, rfl, mulB (by with_reducible assumption) (by with_reducible assumption) (by decide), _, rfl, _, rfl, _, _, rfl, rfl, mulB (by with_reducible assumption) (by with_reducible assumption) (by decide), _, _, rfl, rfl, _, rfl, _, rfl, _, _, rfl, rfl, mulB (by with_reducible assumption) (by with_reducible assumption) (by decide), _, _, rfl, rfl, _, rfl, _, rfl, _, _, rfl, rfl, mulB (by with_reducible assumption) (by with_reducible assumption) (by decide), _, _, rfl, rfl, _, rfl, _, rfl, _, _, rfl, rfl, mulB (by with_reducible assumption) (by with_reducible assumption) (by decide), _, rfl, _, rfl, _, _, rfl, rfl, mulB (by with_reducible assumption) (by with_reducible assumption) (by decide), _, _, rfl, rfl, _, rfl, _, rfl, _, _, rfl, rfl, mulB (by with_reducible assumption) (by with_reducible assumption) (by decide), _, _, rfl, rfl, _, rfl, _, rfl, _, _, rfl, rfl, mulB (by with_reducible assumption) (by with_reducible assumption) (by decide), _, _, rfl, rfl, _, rfl, _, rfl, _, _, rfl, rfl, mulB (by with_reducible assumption) (by with_reducible assumption) (by decide), _, _, rfl, rfl, _, rfl, _, rfl, _, _, rfl, rfl, mulB (by with_reducible assumption) (by with_reducible assumption) (by decide), _, rfl, _, rfl, _, _, rfl, rfl, mulB (by with_reducible assumption) (by with_reducible assumption) (by decide), _, _, rfl, rfl, _, rfl, _, rfl, _, _, rfl, rfl, mulB (by with_reducible assumption) (by with_reducible assumption) (by decide), _, _, rfl, rfl, _, rfl, _, rfl, _, _, rfl, rfl, mulB (by with_reducible assumption) (by with_reducible assumption) (by decide), _, _, rfl, rfl, _, rfl, _, rfl, _, _, rfl, rfl, mulB (by with_reducible assumption) (by with_reducible assumption) (by decide), _, _, rfl, rfl, sl3, fun o no => ?_⟩
    exact q o _ (Ex0.new no) upd_same
end
end RG
namespace RG
open PySem PySem.Spec PyProof.Rows L2 Fr
theorem tq_upd {K : PySem.W.Frag} {H : Hp} {t x C dx : Addr} {ns : List Int} {fs fs' : List (Str × V)} (h : Tq K H t ns) (hx : H x = some (.ins C dx fs)) : Tq K (upd H x (.ins C dx fs')) t ns := by
  rcases h with h | h
  · left
    rcases h with h | ⟨o, h⟩
    · left
      rw [upd_ne (ne_of h hx (by intro z; cases z))]
      exact h
    · right
      refine ⟨o, ?_⟩
      rw [upd_ne (ne_of h hx (by intro z; cases z))]
      exact h
  · exact .inr h
theorem B0 {n : Nat} (h : 0 < n) : B n 0 := ⟨by show (0 : Int).natAbs < 2 ^ n; exact Nat.two_pow_pos n, h⟩
theorem Tis.upd {H : Hp} {D : Addr} {acc : List V} {o : HO} {xs : List V} {rs : List (List Int)} (hD : H D = some (.lst acc)) (r : Tis H xs rs) : Tis (upd H D o) xs rs := r.mono fun t zs h => by
  rw [upd_ne (ne_of h hD (by intro z; cases z))]
  exact h
section
variable {P : Program} {w : World} {K : PySem.W.Frag} {mg : Str → Option Value} {base : Heap} {C_Form C_Ring C_Element : Addr}
theorem ok_map_by (T : Txt K mg C_Form C_Ring C_Element) : Def P w K mg base 1 "map_by" ["table", "entries"] (sp_map_by K C_Form C_Ring C_Element) := by
  obtain ⟨f_, fd_, g_, F_⟩ := T.d_map_by
  refine ⟨f_, fd_, g_, F_.kp, F_.binds (ps := ["table", "entries"]) (fun _ _ _ _ _ _ us hl => match us, hl with | [_, _], _ => rfl), ?_⟩
  refine F_.ok sc_map_by (fun vs H Q E h => ?_) (fun cdv A outer s H vs Q E hr h => ?_)
  · first | (obtain ⟨rfl, _⟩ := h; rfl) | (obtain ⟨_, rfl, _⟩ := h; rfl) | (obtain ⟨_, _, rfl, _⟩ := h; rfl) | (obtain ⟨_, _, _, rfl, _⟩ := h; rfl) | (obtain ⟨_, _, _, _, rfl, _⟩ := h; rfl) | (obtain ⟨_, _, _, _, _, rfl, _⟩ := h; rfl) | (obtain ⟨_, _, _, _, _, _, rfl, _⟩ := h; rfl) | (obtain ⟨_, _, _, _, _, _, _, rfl, _⟩ := h; rfl) | (obtain ⟨_, _, _, _, _, _, _, _, rfl, _⟩ := h; rfl) | (obtain ⟨_, _, _, _, _, _, _, _, _, rfl, _⟩ := h; rfl) | (obtain ⟨_, _, _, _, _, _, _, _, _, _, rfl, _⟩ := h; rfl) | (obtain ⟨_, _, _, _, _, _, _, _, _, _, _, rfl, _⟩ := h; rfl) | (obtain ⟨_, _, _, _, _, _, _, _, _, _, _, _, rfl, _⟩ := h; rfl) | (obtain ⟨_, _, _, _, _, _, _, _, _, _, _, _, _, rfl, _⟩ := h; rfl) | (obtain ⟨_, _, _, _, _, _, _, _, _, _, _, _, _, _, rfl, _⟩ := h; rfl) | (obtain ⟨_, _, _, _, _, _, _, _, _, _, _, _, _, _, _, rfl, _⟩ := h; rfl) | (obtain ⟨_, _, _, _, _, _, _, _, _, _, _, _, _, _, _, _, rfl, _⟩ := h; rfl) | (obtain ⟨_, _, _, _, _, _, _, _, _, _, _, _, _, _, _, _, _, rfl, _⟩ := h; rfl) | (obtain ⟨_, _, _, _, _, _, _, _, _, _, _, _, _, _, _, _, _, _, rfl, _⟩ := h; rfl) | (obtain ⟨_, _, _, _, _, _, _, _, _, _, _, _, _, _, _, _, _, _, _, rfl, _⟩ := h; rfl) | (obtain ⟨_, _, _, _, _, _, _, _, _, _, _, _, _, _, _, _, _, _, _, _, rfl, _⟩ := h; rfl) | (obtain ⟨_, _, _, _, _, _, _, _, _, _, _, _, _, _, _, _, _, _, _, _, _, rfl, _⟩ := h; rfl) | (obtain ⟨_, _, _, _, _, _, _, _, _, _, _, _, _, _, _, _, _, _, _, _, _, _, rfl, _⟩ := h; rfl) | (obtain ⟨_, _, _, _, _, _, _, _, _, _, _, _, _, _, _, _, _, _, _, _, _, _, _, rfl, _⟩ := h; rfl)
  · obtain ⟨t, l, a, b, c, d, e, f, g, h', i, u, x, y, rfl, ht, hl, ⟨ba, bb, bc⟩, ⟨bd, be, bf⟩, ⟨bg, bh, bi⟩, ⟨bu, bx, by'⟩, q⟩ := h
    refine ⟨_, (Evl.pss_cut (ps_asg (pv 0) (pg_tup (by rfl) (pgs_cons (pg_tup (by rfl) (pgs_cons (pg_name (i := 2) sc_map_by.nd rfl (.inl rfl)) (pgs_cons (pg_name (i := 3) sc_map_by.nd rfl (.inl rfl)) (pgs_cons (pg_name (i := 4) sc_map_by.nd rfl (.inl rfl)) pgs_nil)))) (pgs_cons (pg_tup (by rfl) (pgs_cons (pg_name (i := 5) sc_map_by.nd rfl (.inl rfl)) (pgs_cons (pg_name (i := 6) sc_map_by.nd rfl (.inl rfl)) (pgs_cons (pg_name (i := 7) sc_map_by.nd rfl (.inl rfl)) pgs_nil)))) (pgs_cons (pg_tup (by rfl) (pgs_cons (pg_name (i := 8) sc_map_by.nd rfl (.inl rfl)) (pgs_cons (pg_name (i := 9) sc_map_by.nd rfl (.inl rfl)) (pgs_cons (pg_name (i := 10) sc_map_by.nd rfl (.inl rfl)) pgs_nil)))) pgs_nil)))))
    (Evl.pss_cut (ps_asg (pv 1) (pg_tup (by rfl) (pgs_cons (pg_name (i := 11) sc_map_by.nd rfl (.inl rfl)) (pgs_cons (pg_name (i := 12) sc_map_by.nd rfl (.inl rfl)) (pgs_cons (pg_name (i := 13) sc_map_by.nd rfl (.inl rfl)) pgs_nil)))))
    (pss_one (ps_ret (pe_lst (pa_cons (pv 1) (pa_cons (pe_tup (pa_cons (pe_op op_add (pe_op op_mulW (pv 12) (pv 2)) (pe_op op_mulW (pv 13) (pv 5))) (pa_cons (pe_op op_add (pe_op op_add (pv 11) (pe_op op_mulW (pv 12) (pv 3))) (pe_op op_mulW (pv 13) (pv 6))) (pa_cons (pe_op op_add (pe_op op_mulW (pv 12) (pv 4)) (pe_op op_mulW (pv 13) (pv 7))) pa_nil)))) (pa_cons (pe_tup (pa_cons (pe_op op_add (pe_op op_mulW (pv 12) (pv 5)) (pe_op op_mulW (pv 13) (pv 8))) (pa_cons (pe_op op_add (pe_op op_mulW (pv 12) (pv 6)) (pe_op op_mulW (pv 13) (pv 9))) (pa_cons (pe_op op_add (pe_op op_add (pv 11) (pe_op op_mulW (pv 12) (pv 7))) (pe_op op_mulW (pv 13) (pv 10))) pa_nil)))) pa_nil)))))))), ?_⟩
    refine ⟨fun σ H' => σ = [some (.ref t), some (.ref l), some (.int a), some (.int b), some (.int c), some (.int d), some (.int e), some (.int f), some (.int g), some (.int h'), some (.int i), none, none, none] ∧ H' = H, ⟨_, rfl, un33 ht ⟨rfl, rfl⟩⟩, ?_⟩
    rintro σ H' ⟨rfl, rfl⟩
    refine ⟨fun σ H'' => σ = [some (.ref t), some (.ref l), some (.int a), some (.int b), some (.int c), some (.int d), some (.int e), some (.int f), some (.int g), some (.int h'), some (.int i), some (.int u), some (.int x), some (.int y)] ∧ H'' = H', ⟨_, rfl, unq3 hl ⟨rfl, rfl⟩⟩, ?_⟩
    rintro σ H'' ⟨rfl, rfl⟩
    refine ⟨_, rfl, _, rfl, _, rfl, _, _, rfl, rfl, mulB (by with_reducible assumption) (by with_reducible assumption) (by decide), _, rfl, _, rfl, _, _, rfl, rfl, mulB (by with_reducible assumption) (by with_reducible assumption) (by decide), _, _, rfl, rfl, _, rfl, _, rfl, _, rfl, _, _, rfl, rfl, mulB (by with_reducible assumption) (by with_reducible assumption) (by decide), _, _, rfl, rfl, _, rfl, _, rfl, _, _, rfl, rfl, mulB (by with_reducible assumption) (by with_reducible assumption) (by decide), _, _, rfl, rfl, _, rfl, _, rfl, _, _, rfl, rfl, mulB (by with_reducible assumption) (by with_reducible assumption) (by decide), _, rfl, _, rfl, _, _, rfl, rfl, mulB (by with_reducible assumption) (by with_reducible assumption) (by decide), _, _, rfl, rfl, sl3, fun t1 n1 => ⟨_, rfl, _, rfl, _, _, rfl, rfl, mulB (by with_reducible assumption) (by with_reducible assumption) (by decide), _, rfl, _, rfl, _, _, rfl, rfl, mulB (by with_reducible assumption) (by with_reducible assumption) (by decide), _, _, rfl, rfl, _, rfl, _, rfl, _, _, rfl, rfl, mulB (by with_reducible assumption) (by with_reducible assumption) (by decide), _, rfl, _, rfl, _, _, rfl, rfl, mulB (by with_reducible assumption) (by with_reducible assumption) (by decide), _, _, rfl, rfl, _, rfl, _, rfl, _, rfl, _, _, rfl, rfl, mulB (by with_reducible assumption) (by with_reducible assumption) (by decide), _, _, rfl, rfl, _, rfl, _, rfl, _, _, rfl, rfl, mulB (by with_reducible assumption) (by with_reducible assumption) (by decide), _, _, rfl, rfl, sl3, fun t2 n2 => ⟨sl3, fun o no => ?_⟩⟩⟩
    refine q o _ (((Ex0.new n1).trans (Ex0.new n2)).trans (Ex0.new no)) ⟨l, t1, t2, upd_same, ?_, ?_, ?_⟩
    · have ez := fun (H4 : Hp) (z : Ex0 H'' H4) => Ex0.tq z hl
      rw [show m0 a d g u x y 1 0 0 = u by simp [m0], show m1 b e h' u x y 1 0 0 = x by simp [m1], show m2 c f i u x y 1 0 0 = y by simp [m2]]
      exact ez _ (((Ex0.new n1).trans (Ex0.new n2)).trans (Ex0.new no))
    · rw [show m0 a d g u x y 0 1 0 = x * a + y * d by simp [m0], show m1 b e h' u x y 0 1 0 = u + x * b + y * e by simp [m1], show m2 c f i u x y 0 1 0 = x * c + y * f by simp [m2]]
      exact SqT.of (Ex0.ap (Ex0.new no) (Ex0.ap (Ex0.new n2) upd_same))
    · rw [show m0 a d g u x y 0 0 1 = x * d + y * g by simp [m0], show m1 b e h' u x y 0 0 1 = x * e + y * h' by simp [m1], show m2 c f i u x y 0 0 1 = u + x * f + y * i by simp [m2]]
      exact SqT.of (Ex0.ap (Ex0.new no) upd_same)
theorem ok_Ring___init__ (T : Txt K mg C_Form C_Ring C_Element) : MDef (fun p f => Mk K C_Ring f) P w K mg base 2 ["self", "form"] (sp_Ring___init__ K C_Form C_Ring C_Element) := by
  obtain ⟨p_, f_, fd_, R_, F_⟩ := T.e_Ring___init__
  obtain ⟨f_check_form, fd_check_form, g_check_form, k_check_form, b_check_form, G_check_form⟩ := (ok_check_form (P := P) (w := w) (base := base) T)
  refine ⟨p_, f_, fd_, R_, F_.binds (ps := ["self", "form"]) (fun _ _ _ _ _ _ us hl => match us, hl with | [_, _], _ => rfl), ?_⟩
  refine F_.ok sc_Ring___init__ (fun vs H Q E h => ?_) (fun cdv A outer s H vs Q E hr h => ?_)
  · first | (obtain ⟨rfl, _⟩ := h; rfl) | (obtain ⟨_, rfl, _⟩ := h; rfl) | (obtain ⟨_, _, rfl, _⟩ := h; rfl) | (obtain ⟨_, _, _, rfl, _⟩ := h; rfl) | (obtain ⟨_, _, _, _, rfl, _⟩ := h; rfl) | (obtain ⟨_, _, _, _, _, rfl, _⟩ := h; rfl) | (obtain ⟨_, _, _, _, _, _, rfl, _⟩ := h; rfl) | (obtain ⟨_, _, _, _, _, _, _, rfl, _⟩ := h; rfl) | (obtain ⟨_, _, _, _, _, _, _, _, rfl, _⟩ := h; rfl) | (obtain ⟨_, _, _, _, _, _, _, _, _, rfl, _⟩ := h; rfl) | (obtain ⟨_, _, _, _, _, _, _, _, _, _, rfl, _⟩ := h; rfl) | (obtain ⟨_, _, _, _, _, _, _, _, _, _, _, rfl, _⟩ := h; rfl) | (obtain ⟨_, _, _, _, _, _, _, _, _, _, _, _, rfl, _⟩ := h; rfl) | (obtain ⟨_, _, _, _, _, _, _, _, _, _, _, _, _, rfl, _⟩ := h; rfl) | (obtain ⟨_, _, _, _, _, _, _, _, _, _, _, _, _, _, rfl, _⟩ := h; rfl) | (obtain ⟨_, _, _, _, _, _, _, _, _, _, _, _, _, _, _, rfl, _⟩ := h; rfl) | (obtain ⟨_, _, _, _, _, _, _, _, _, _, _, _, _, _, _, _, rfl, _⟩ := h; rfl) | (obtain ⟨_, _, _, _, _, _, _, _, _, _, _, _, _, _, _, _, _, rfl, _⟩ := h; rfl) | (obtain ⟨_, _, _, _, _, _, _, _, _, _, _, _, _, _, _, _, _, _, rfl, _⟩ := h; rfl) | (obtain ⟨_, _, _, _, _, _, _, _, _, _, _, _, _, _, _, _, _, _, _, rfl, _⟩ := h; rfl) | (obtain ⟨_, _, _, _, _, _, _, _, _, _, _, _, _, _, _, _, _, _, _, _, rfl, _⟩ := h; rfl) | (obtain ⟨_, _, _, _, _, _, _, _, _, _, _, _, _, _, _, _, _, _, _, _, _, rfl, _⟩ := h; rfl) | (obtain ⟨_, _, _, _, _, _, _, _, _, _, _, _, _, _, _, _, _, _, _, _, _, _, rfl, _⟩ := h; rfl) | (obtain ⟨_, _, _, _, _, _, _, _, _, _, _, _, _, _, _, _, _, _, _, _, _, _, _, rfl, _⟩ := h; rfl)
  · obtain ⟨x, dx, f, ns, rfl, hx, hf, q⟩ := h
    refine ⟨_, (pss_cons (ps_expr (pe_call G_check_form (hr.mono (by decide)) (by rfl) g_check_form k_check_form b_check_form .nil pass0 (pa_cons (pv 1) pa_nil)))
    (pss_one (ps_fld (pv 0) (pv 1) (by rfl)))), ?_⟩
    refine ⟨_, rfl, f, ns, rfl, hf, ?_⟩
    refine ⟨_, rfl, _, rfl, x, C_Ring, dx, _, rfl, hx, T.cl_Ring, T.na_Ring_form, (by decide : (0:Nat) < 1000), ?_⟩
    exact q _ (fun b o n e => by rw [upd_ne n]; exact e) upd_same
theorem ok_Ring_form (T : Txt K mg C_Form C_Ring C_Element) : MDef (fun p f => PropOf K C_Ring "form" p f) P w K mg base 1 ["self"] (sp_Ring_form K C_Form C_Ring C_Element) := by
  obtain ⟨p_, f_, fd_, R_, F_⟩ := T.e_Ring_form
  refine ⟨p_, f_, fd_, R_, F_.binds (ps := ["self"]) (fun _ _ _ _ _ _ us hl => match us, hl with | [_], _ => rfl), ?_⟩
  refine F_.ok sc_Ring_form (fun vs H Q E h => ?_) (fun cdv A outer s H vs Q E hr h => ?_)
  · first | (obtain ⟨rfl, _⟩ := h; rfl) | (obtain ⟨_, rfl, _⟩ := h; rfl) | (obtain ⟨_, _, rfl, _⟩ := h; rfl) | (obtain ⟨_, _, _, rfl, _⟩ := h; rfl) | (obtain ⟨_, _, _, _, rfl, _⟩ := h; rfl) | (obtain ⟨_, _, _, _, _, rfl, _⟩ := h; rfl) | (obtain ⟨_, _, _, _, _, _, rfl, _⟩ := h; rfl) | (obtain ⟨_, _, _, _, _, _, _, rfl, _⟩ := h; rfl) | (obtain ⟨_, _, _, _, _, _, _, _, rfl, _⟩ := h; rfl) | (obtain ⟨_, _, _, _, _, _, _, _, _, rfl, _⟩ := h; rfl) | (obtain ⟨_, _, _, _, _, _, _, _, _, _, rfl, _⟩ := h; rfl) | (obtain ⟨_, _, _, _, _, _, _, _, _, _, _, rfl, _⟩ := h; rfl) | (obtain ⟨_, _, _, _, _, _, _, _, _, _, _, _, rfl, _⟩ := h; rfl) | (obtain ⟨_, _, _, _, _, _, _, _, _, _, _, _, _, rfl, _⟩ := h; rfl) | (obtain ⟨_, _, _, _, _, _, _, _, _, _, _, _, _, _, rfl, _⟩ := h; rfl) | (obtain ⟨_, _, _, _, _, _, _, _, _, _, _, _, _, _, _, rfl, _⟩ := h; rfl) | (obtain ⟨_, _, _, _, _, _, _, _, _, _, _, _, _, _, _, _, rfl, _⟩ := h; rfl) | (obtain ⟨_, _, _, _, _, _, _, _, _, _, _, _, _, _, _, _, _, rfl, _⟩ := h; rfl) | (obtain ⟨_, _, _, _, _, _, _, _, _, _, _, _, _, _, _, _, _, _, rfl, _⟩ := h; rfl) | (obtain ⟨_, _, _, _, _, _, _, _, _, _, _, _, _, _, _, _, _, _, _, rfl, _⟩ := h; rfl) | (obtain ⟨_, _, _, _, _, _, _, _, _, _, _, _, _, _, _, _, _, _, _, _, rfl, _⟩ := h; rfl) | (obtain ⟨_, _, _, _, _, _, _, _, _, _, _, _, _, _, _, _, _, _, _, _, _, rfl, _⟩ := h; rfl) | (obtain ⟨_, _, _, _, _, _, _, _, _, _, _, _, _, _, _, _, _, _, _, _, _, _, rfl, _⟩ := h; rfl) | (obtain ⟨_, _, _, _, _, _, _, _, _, _, _, _, _, _, _, _, _, _, _, _, _, _, _, rfl, _⟩ := h; rfl)
  · obtain ⟨r, ns, rfl, ⟨dr, x, hrr, hx⟩, q⟩ := h
    refine ⟨_, (pss_one (ps_ret (pe_fld (pv 0) (by rfl)))), ?_⟩
    exact ⟨_, rfl, r, C_Ring, dr, _, .ref x, rfl, hrr, T.cl_Ring, T.na_Ring_form, lk_same, q x hx⟩
theorem ok_Ring___eq__ (T : Txt K mg C_Form C_Ring C_Element) : MDef (fun p f => EqC K C_Ring f) P w K mg base 2 ["self", "other"] (sp_Ring___eq__ K C_Form C_Ring C_Element) := by
  obtain ⟨p_, f_, fd_, R_, F_⟩ := T.e_Ring___eq__
  obtain ⟨p_Form___eq__, f_Form___eq__, fd_Form___eq__, R_Form___eq__, b_Form___eq__, G_Form___eq__⟩ := (ok_Form___eq__ (P := P) (w := w) (base := base) T)
  refine ⟨p_, f_, fd_, R_, F_.binds (ps := ["self", "other"]) (fun _ _ _ _ _ _ us hl => match us, hl with | [_, _], _ => rfl), ?_⟩
  refine F_.ok sc_Ring___eq__ (fun vs H Q E h => ?_) (fun cdv A outer s H vs Q E hr h => ?_)
  · first | (obtain ⟨rfl, _⟩ := h; rfl) | (obtain ⟨_, rfl, _⟩ := h; rfl) | (obtain ⟨_, _, rfl, _⟩ := h; rfl) | (obtain ⟨_, _, _, rfl, _⟩ := h; rfl) | (obtain ⟨_, _, _, _, rfl, _⟩ := h; rfl) | (obtain ⟨_, _, _, _, _, rfl, _⟩ := h; rfl) | (obtain ⟨_, _, _, _, _, _, rfl, _⟩ := h; rfl) | (obtain ⟨_, _, _, _, _, _, _, rfl, _⟩ := h; rfl) | (obtain ⟨_, _, _, _, _, _, _, _, rfl, _⟩ := h; rfl) | (obtain ⟨_, _, _, _, _, _, _, _, _, rfl, _⟩ := h; rfl) | (obtain ⟨_, _, _, _, _, _, _, _, _, _, rfl, _⟩ := h; rfl) | (obtain ⟨_, _, _, _, _, _, _, _, _, _, _, rfl, _⟩ := h; rfl) | (obtain ⟨_, _, _, _, _, _, _, _, _, _, _, _, rfl, _⟩ := h; rfl) | (obtain ⟨_, _, _, _, _, _, _, _, _, _, _, _, _, rfl, _⟩ := h; rfl) | (obtain ⟨_, _, _, _, _, _, _, _, _, _, _, _, _, _, rfl, _⟩ := h; rfl) | (obtain ⟨_, _, _, _, _, _, _, _, _, _, _, _, _, _, _, rfl, _⟩ := h; rfl) | (obtain ⟨_, _, _, _, _, _, _, _, _, _, _, _, _, _, _, _, rfl, _⟩ := h; rfl) | (obtain ⟨_, _, _, _, _, _, _, _, _, _, _, _, _, _, _, _, _, rfl, _⟩ := h; rfl) | (obtain ⟨_, _, _, _, _, _, _, _, _, _, _, _, _, _, _, _, _, _, rfl, _⟩ := h; rfl) | (obtain ⟨_, _, _, _, _, _, _, _, _, _, _, _, _, _, _, _, _, _, _, rfl, _⟩ := h; rfl) | (obtain ⟨_, _, _, _, _, _, _, _, _, _, _, _, _, _, _, _, _, _, _, _, rfl, _⟩ := h; rfl) | (obtain ⟨_, _, _, _, _, _, _, _, _, _, _, _, _, _, _, _, _, _, _, _, _, rfl, _⟩ := h; rfl) | (obtain ⟨_, _, _, _, _, _, _, _, _, _, _, _, _, _, _, _, _, _, _, _, _, _, rfl, _⟩ := h; rfl) | (obtain ⟨_, _, _, _, _, _, _, _, _, _, _, _, _, _, _, _, _, _, _, _, _, _, _, rfl, _⟩ := h; rfl)
  · obtain ⟨x, w, ns, rfl, ⟨dx, f, hx, hf⟩, h2⟩ := h
    obtain ⟨df, t, hf1, hf2⟩ := id hf
    refine ⟨_, (pss_one (ps_ret (pe_and (pe_callB call_isi (by rfl) T.b_isinstance (by decide +kernel) (pa_cons (pv 1) (pa_cons (pe_glob (v := .ref C_Ring) (by rfl) T.g_Ring rfl) pa_nil))) (pe_one (pe_cmpR (op_eqI R_Form___eq__ G_Form___eq__ b_Form___eq__ (hr.mono (by decide)) pass0) (pe_fld (pv 0) (by rfl)) (pe_fld (pv 1) (by rfl)) (nomark _)))))), ?_⟩
    rcases h2 with ⟨y, ms, rfl, ⟨dy, f', hy, hf'⟩, q⟩ | ⟨t, kt, ty, q⟩
    case inr => exact ⟨_, rfl, _, _, _, _, false, rfl, .own _, ty, kt, _, rfl, q⟩
    obtain ⟨df', t', hf3, hf4⟩ := id hf'
    refine ⟨_, rfl, _, _, _, _, true, rfl, .own _, ty_ins T.ty_Ring T.cl_Ring hy, kit_self, _, rfl, ?_⟩
    refine ⟨_, rfl, x, C_Ring, dx, _, .ref f, rfl, hx, T.cl_Ring, T.na_Ring_form, lk_same, _, rfl, y, C_Ring, dy, _, .ref f', rfl, hy, T.cl_Ring, T.na_Ring_form, lk_same, ?_⟩
    exact ⟨f, df, _, _, rfl, hf1, ty_ins T.ty_Form T.cl_Form hf3, first_self, f, f', ns, ms, rfl, hf, hf', _, rfl, q⟩
theorem ok_table_for (T : Txt K mg C_Form C_Ring C_Element) : Def P w K mg base 3 "table_for" ["ring"] (sp_table_for K C_Form C_Ring C_Element) := by
  obtain ⟨f_, fd_, g_, F_⟩ := T.d_table_for
  obtain ⟨p_Form_coefficients, f_Form_coefficients, fd_Form_coefficients, R_Form_coefficients, b_Form_coefficients, G_Form_coefficients⟩ := (ok_Form_coefficients (P := P) (w := w) (base := base) T)
  obtain ⟨p_Ring_form, f_Ring_form, fd_Ring_form, R_Ring_form, b_Ring_form, G_Ring_form⟩ := (ok_Ring_form (P := P) (w := w) (base := base) T)
  obtain ⟨f_table_of, fd_table_of, g_table_of, k_table_of, b_table_of, G_table_of⟩ := (ok_table_of (P := P) (w := w) (base := base) T)
  refine ⟨f_, fd_, g_, F_.kp, F_.binds (ps := ["ring"]) (fun _ _ _ _ _ _ us hl => match us, hl with | [_], _ => rfl), ?_⟩
  refine F_.ok sc_table_for (fun vs H Q E h => ?_) (fun cdv A outer s H vs Q E hr h => ?_)
  · first | (obtain ⟨rfl, _⟩ := h; rfl) | (obtain ⟨_, rfl, _⟩ := h; rfl) | (obtain ⟨_, _, rfl, _⟩ := h; rfl) | (obtain ⟨_, _, _, rfl, _⟩ := h; rfl) | (obtain ⟨_, _, _, _, rfl, _⟩ := h; rfl) | (obtain ⟨_, _, _, _, _, rfl, _⟩ := h; rfl) | (obtain ⟨_, _, _, _, _, _, rfl, _⟩ := h; rfl) | (obtain ⟨_, _, _, _, _, _, _, rfl, _⟩ := h; rfl) | (obtain ⟨_, _, _, _, _, _, _, _, rfl, _⟩ := h; rfl) | (obtain ⟨_, _, _, _, _, _, _, _, _, rfl, _⟩ := h; rfl) | (obtain ⟨_, _, _, _, _, _, _, _, _, _, rfl, _⟩ := h; rfl) | (obtain ⟨_, _, _, _, _, _, _, _, _, _, _, rfl, _⟩ := h; rfl) | (obtain ⟨_, _, _, _, _, _, _, _, _, _, _, _, rfl, _⟩ := h; rfl) | (obtain ⟨_, _, _, _, _, _, _, _, _, _, _, _, _, rfl, _⟩ := h; rfl) | (obtain ⟨_, _, _, _, _, _, _, _, _, _, _, _, _, _, rfl, _⟩ := h; rfl) | (obtain ⟨_, _, _, _, _, _, _, _, _, _, _, _, _, _, _, rfl, _⟩ := h; rfl) | (obtain ⟨_, _, _, _, _, _, _, _, _, _, _, _, _, _, _, _, rfl, _⟩ := h; rfl) | (obtain ⟨_, _, _, _, _, _, _, _, _, _, _, _, _, _, _, _, _, rfl, _⟩ := h; rfl) | (obtain ⟨_, _, _, _, _, _, _, _, _, _, _, _, _, _, _, _, _, _, rfl, _⟩ := h; rfl) | (obtain ⟨_, _, _, _, _, _, _, _, _, _, _, _, _, _, _, _, _, _, _, rfl, _⟩ := h; rfl) | (obtain ⟨_, _, _, _, _, _, _, _, _, _, _, _, _, _, _, _, _, _, _, _, rfl, _⟩ := h; rfl) | (obtain ⟨_, _, _, _, _, _, _, _, _, _, _, _, _, _, _, _, _, _, _, _, _, rfl, _⟩ := h; rfl) | (obtain ⟨_, _, _, _, _, _, _, _, _, _, _, _, _, _, _, _, _, _, _, _, _, _, rfl, _⟩ := h; rfl) | (obtain ⟨_, _, _, _, _, _, _, _, _, _, _, _, _, _, _, _, _, _, _, _, _, _, _, rfl, _⟩ := h; rfl)
  · obtain ⟨r, a, b, c, d, rfl, hR, bz, q⟩ := h
    obtain ⟨dr, x, hrr, hx⟩ := id hR
    refine ⟨_, (pss_one (ps_ret (pe_call G_table_of (hr.mono (by decide)) (by rfl) g_table_of k_table_of b_table_of .nil pass0 (pa_cons (pe_prop (pe_prop (pv 0) T.cl_Ring R_Ring_form G_Ring_form (hr.mono (by decide)) b_Ring_form .nil pass0 (by rfl)) T.cl_Form R_Form_coefficients G_Form_coefficients (hr.mono (by decide)) b_Form_coefficients .nil pass0 (by rfl)) pa_nil)))), ?_⟩
    refine ⟨_, rfl, r, dr, _, rfl, hrr, r, _, rfl, hR, fun f hf => ?_⟩
    obtain ⟨df, tf, hf1, hf2⟩ := id hf
    refine ⟨f, df, _, rfl, hf1, f, _, rfl, hf, fun t ht => ?_⟩
    exact ⟨t, a, b, c, d, rfl, ht, bz, fun o H1 e1 ho => q o H1 e1 ho⟩
theorem ok_Element_ring (T : Txt K mg C_Form C_Ring C_Element) : MDef (fun p f => PropOf K C_Element "ring" p f) P w K mg base 1 ["self"] (sp_Element_ring K C_Form C_Ring C_Element) := by
  obtain ⟨p_, f_, fd_, R_, F_⟩ := T.e_Element_ring
  refine ⟨p_, f_, fd_, R_, F_.binds (ps := ["self"]) (fun _ _ _ _ _ _ us hl => match us, hl with | [_], _ => rfl), ?_⟩
  refine F_.ok sc_Element_ring (fun vs H Q E h => ?_) (fun cdv A outer s H vs Q E hr h => ?_)
  · first | (obtain ⟨rfl, _⟩ := h; rfl) | (obtain ⟨_, rfl, _⟩ := h; rfl) | (obtain ⟨_, _, rfl, _⟩ := h; rfl) | (obtain ⟨_, _, _, rfl, _⟩ := h; rfl) | (obtain ⟨_, _, _, _, rfl, _⟩ := h; rfl) | (obtain ⟨_, _, _, _, _, rfl, _⟩ := h; rfl) | (obtain ⟨_, _, _, _, _, _, rfl, _⟩ := h; rfl) | (obtain ⟨_, _, _, _, _, _, _, rfl, _⟩ := h; rfl) | (obtain ⟨_, _, _, _, _, _, _, _, rfl, _⟩ := h; rfl) | (obtain ⟨_, _, _, _, _, _, _, _, _, rfl, _⟩ := h; rfl) | (obtain ⟨_, _, _, _, _, _, _, _, _, _, rfl, _⟩ := h; rfl) | (obtain ⟨_, _, _, _, _, _, _, _, _, _, _, rfl, _⟩ := h; rfl) | (obtain ⟨_, _, _, _, _, _, _, _, _, _, _, _, rfl, _⟩ := h; rfl) | (obtain ⟨_, _, _, _, _, _, _, _, _, _, _, _, _, rfl, _⟩ := h; rfl) | (obtain ⟨_, _, _, _, _, _, _, _, _, _, _, _, _, _, rfl, _⟩ := h; rfl) | (obtain ⟨_, _, _, _, _, _, _, _, _, _, _, _, _, _, _, rfl, _⟩ := h; rfl) | (obtain ⟨_, _, _, _, _, _, _, _, _, _, _, _, _, _, _, _, rfl, _⟩ := h; rfl) | (obtain ⟨_, _, _, _, _, _, _, _, _, _, _, _, _, _, _, _, _, rfl, _⟩ := h; rfl) | (obtain ⟨_, _, _, _, _, _, _, _, _, _, _, _, _, _, _, _, _, _, rfl, _⟩ := h; rfl) | (obtain ⟨_, _, _, _, _, _, _, _, _, _, _, _, _, _, _, _, _, _, _, rfl, _⟩ := h; rfl) | (obtain ⟨_, _, _, _, _, _, _, _, _, _, _, _, _, _, _, _, _, _, _, _, rfl, _⟩ := h; rfl) | (obtain ⟨_, _, _, _, _, _, _, _, _, _, _, _, _, _, _, _, _, _, _, _, _, rfl, _⟩ := h; rfl) | (obtain ⟨_, _, _, _, _, _, _, _, _, _, _, _, _, _, _, _, _, _, _, _, _, _, rfl, _⟩ := h; rfl) | (obtain ⟨_, _, _, _, _, _, _, _, _, _, _, _, _, _, _, _, _, _, _, _, _, _, _, rfl, _⟩ := h; rfl)
  · obtain ⟨x, ns, u, y, z, b, rfl, ⟨de, r, t, he, hr, ht⟩, q⟩ := h
    refine ⟨_, (pss_one (ps_ret (pe_fld (pv 0) (by rfl)))), ?_⟩
    exact ⟨_, rfl, x, C_Element, de, _, .ref r, rfl, he, T.cl_Element, T.na_Element_ring, lkR, q r hr⟩
theorem ok_check_one_ring (T : Txt K mg C_Form C_Ring C_Element) : Def P w K mg base 4 "check_one_ring" ["first", "second"] (sp_check_one_ring K C_Form C_Ring C_Element) := by
  obtain ⟨f_, fd_, g_, F_⟩ := T.d_check_one_ring
  obtain ⟨p_Element_ring, f_Element_ring, fd_Element_ring, R_Element_ring, b_Element_ring, G_Element_ring⟩ := (ok_Element_ring (P := P) (w := w) (base := base) T)
  obtain ⟨p_Ring___eq__, f_Ring___eq__, fd_Ring___eq__, R_Ring___eq__, b_Ring___eq__, G_Ring___eq__⟩ := (ok_Ring___eq__ (P := P) (w := w) (base := base) T)
  refine ⟨f_, fd_, g_, F_.kp, F_.binds (ps := ["first", "second"]) (fun _ _ _ _ _ _ us hl => match us, hl with | [_, _], _ => rfl), ?_⟩
  refine F_.ok sc_check_one_ring (fun vs H Q E h => ?_) (fun cdv A outer s H vs Q E hr h => ?_)
  · first | (obtain ⟨rfl, _⟩ := h; rfl) | (obtain ⟨_, rfl, _⟩ := h; rfl) | (obtain ⟨_, _, rfl, _⟩ := h; rfl) | (obtain ⟨_, _, _, rfl, _⟩ := h; rfl) | (obtain ⟨_, _, _, _, rfl, _⟩ := h; rfl) | (obtain ⟨_, _, _, _, _, rfl, _⟩ := h; rfl) | (obtain ⟨_, _, _, _, _, _, rfl, _⟩ := h; rfl) | (obtain ⟨_, _, _, _, _, _, _, rfl, _⟩ := h; rfl) | (obtain ⟨_, _, _, _, _, _, _, _, rfl, _⟩ := h; rfl) | (obtain ⟨_, _, _, _, _, _, _, _, _, rfl, _⟩ := h; rfl) | (obtain ⟨_, _, _, _, _, _, _, _, _, _, rfl, _⟩ := h; rfl) | (obtain ⟨_, _, _, _, _, _, _, _, _, _, _, rfl, _⟩ := h; rfl) | (obtain ⟨_, _, _, _, _, _, _, _, _, _, _, _, rfl, _⟩ := h; rfl) | (obtain ⟨_, _, _, _, _, _, _, _, _, _, _, _, _, rfl, _⟩ := h; rfl) | (obtain ⟨_, _, _, _, _, _, _, _, _, _, _, _, _, _, rfl, _⟩ := h; rfl) | (obtain ⟨_, _, _, _, _, _, _, _, _, _, _, _, _, _, _, rfl, _⟩ := h; rfl) | (obtain ⟨_, _, _, _, _, _, _, _, _, _, _, _, _, _, _, _, rfl, _⟩ := h; rfl) | (obtain ⟨_, _, _, _, _, _, _, _, _, _, _, _, _, _, _, _, _, rfl, _⟩ := h; rfl) | (obtain ⟨_, _, _, _, _, _, _, _, _, _, _, _, _, _, _, _, _, _, rfl, _⟩ := h; rfl) | (obtain ⟨_, _, _, _, _, _, _, _, _, _, _, _, _, _, _, _, _, _, _, rfl, _⟩ := h; rfl) | (obtain ⟨_, _, _, _, _, _, _, _, _, _, _, _, _, _, _, _, _, _, _, _, rfl, _⟩ := h; rfl) | (obtain ⟨_, _, _, _, _, _, _, _, _, _, _, _, _, _, _, _, _, _, _, _, _, rfl, _⟩ := h; rfl) | (obtain ⟨_, _, _, _, _, _, _, _, _, _, _, _, _, _, _, _, _, _, _, _, _, _, rfl, _⟩ := h; rfl) | (obtain ⟨_, _, _, _, _, _, _, _, _, _, _, _, _, _, _, _, _, _, _, _, _, _, _, rfl, _⟩ := h; rfl)
  · obtain ⟨x, x', ns, u, y, z, b, v, s', r', e, rfl, h1, h2, q⟩ := h
    obtain ⟨d1, r1, t1, g1, g2, g3⟩ := id h1
    obtain ⟨d2, r2, t2, k1, k2, k3⟩ := id h2
    refine ⟨_, (pss_one (ps_if (pt_cmpR (op_neI R_Ring___eq__ G_Ring___eq__ b_Ring___eq__ (hr.mono (by decide)) pass0) (pe_prop (pv 0) T.cl_Element R_Element_ring G_Element_ring (hr.mono (by decide)) b_Element_ring .nil pass0 (by rfl)) (pe_prop (pv 1) T.cl_Element R_Element_ring G_Element_ring (hr.mono (by decide)) b_Element_ring .nil pass0 (by rfl)) (nomark _))
      pss_never
      pss_nil)), ?_⟩
    refine ⟨_, rfl, x, d1, _, rfl, g1, x, ns, u, y, z, b, rfl, h1, fun q1 hq1 => ?_⟩
    refine ⟨_, rfl, x', d2, _, rfl, k1, x', ns, v, s', r', e, rfl, h2, fun q2 hq2 => ?_⟩
    obtain ⟨d3, f3, m1, m2⟩ := id hq1
    obtain ⟨d4, f4, n1, n2⟩ := id hq2
    refine ⟨q1, d3, _, _, rfl, m1, ty_ins T.ty_Ring T.cl_Ring n1, first_self, q1, .ref q2, ns, rfl, hq1, .inl ⟨q2, ns, rfl, hq2, _, rfl, _, rfl, ?_⟩⟩
    rw [decide_eq_true rfl]
    exact iteF q
theorem ok_Element___init__ (T : Txt K mg C_Form C_Ring C_Element) : MDef (fun p f => Mk K C_Element f) P w K mg base 2 ["self", "ring", "entries", "bottom"] (sp_Element___init__ K C_Form C_Ring C_Element) := by
  obtain ⟨p_, f_, fd_, R_, F_⟩ := T.e_Element___init__
  obtain ⟨f_shared_divisor, fd_shared_divisor, g_shared_divisor, k_shared_divisor, b_shared_divisor, G_shared_divisor⟩ := (ok_shared_divisor (P := P) (w := w) (base := base) T)
  refine ⟨p_, f_, fd_, R_, F_.binds (ps := ["self", "ring", "entries", "bottom"]) (fun _ _ _ _ _ _ us hl => match us, hl with | [_, _, _, _], _ => rfl), ?_⟩
  refine F_.ok sc_Element___init__ (fun vs H Q E h => ?_) (fun cdv A outer s H vs Q E hr h => ?_)
  · first | (obtain ⟨rfl, _⟩ := h; rfl) | (obtain ⟨_, rfl, _⟩ := h; rfl) | (obtain ⟨_, _, rfl, _⟩ := h; rfl) | (obtain ⟨_, _, _, rfl, _⟩ := h; rfl) | (obtain ⟨_, _, _, _, rfl, _⟩ := h; rfl) | (obtain ⟨_, _, _, _, _, rfl, _⟩ := h; rfl) | (obtain ⟨_, _, _, _, _, _, rfl, _⟩ := h; rfl) | (obtain ⟨_, _, _, _, _, _, _, rfl, _⟩ := h; rfl) | (obtain ⟨_, _, _, _, _, _, _, _, rfl, _⟩ := h; rfl) | (obtain ⟨_, _, _, _, _, _, _, _, _, rfl, _⟩ := h; rfl) | (obtain ⟨_, _, _, _, _, _, _, _, _, _, rfl, _⟩ := h; rfl) | (obtain ⟨_, _, _, _, _, _, _, _, _, _, _, rfl, _⟩ := h; rfl) | (obtain ⟨_, _, _, _, _, _, _, _, _, _, _, _, rfl, _⟩ := h; rfl) | (obtain ⟨_, _, _, _, _, _, _, _, _, _, _, _, _, rfl, _⟩ := h; rfl) | (obtain ⟨_, _, _, _, _, _, _, _, _, _, _, _, _, _, rfl, _⟩ := h; rfl) | (obtain ⟨_, _, _, _, _, _, _, _, _, _, _, _, _, _, _, rfl, _⟩ := h; rfl) | (obtain ⟨_, _, _, _, _, _, _, _, _, _, _, _, _, _, _, _, rfl, _⟩ := h; rfl) | (obtain ⟨_, _, _, _, _, _, _, _, _, _, _, _, _, _, _, _, _, rfl, _⟩ := h; rfl) | (obtain ⟨_, _, _, _, _, _, _, _, _, _, _, _, _, _, _, _, _, _, rfl, _⟩ := h; rfl) | (obtain ⟨_, _, _, _, _, _, _, _, _, _, _, _, _, _, _, _, _, _, _, rfl, _⟩ := h; rfl) | (obtain ⟨_, _, _, _, _, _, _, _, _, _, _, _, _, _, _, _, _, _, _, _, rfl, _⟩ := h; rfl) | (obtain ⟨_, _, _, _, _, _, _, _, _, _, _, _, _, _, _, _, _, _, _, _, _, rfl, _⟩ := h; rfl) | (obtain ⟨_, _, _, _, _, _, _, _, _, _, _, _, _, _, _, _, _, _, _, _, _, _, rfl, _⟩ := h; rfl) | (obtain ⟨_, _, _, _, _, _, _, _, _, _, _, _, _, _, _, _, _, _, _, _, _, _, _, rfl, _⟩ := h; rfl)
  · obtain ⟨x, dx, r, t, u, y, z, b, rfl, hx, ht, hb, bb, q⟩ := h
    refine ⟨_, (pss_cons (ps_set (i := 4) sc_Element___init__.nd rfl (.inr rfl) (pe_call G_shared_divisor (hr.mono (by decide)) (by rfl) g_shared_divisor k_shared_divisor b_shared_divisor .nil pass0 (pa_cons (pe_tup (pa_cons (pe_call G_shared_divisor (hr.mono (by decide)) (by rfl) g_shared_divisor k_shared_divisor b_shared_divisor .nil pass0 (pa_cons (pv 2) pa_nil)) (pa_cons (pv 3) pa_nil))) pa_nil)))
    (Evl.pss_cut (ps_if (pt_cmpR op_lt (pv 3) pe_int (nomark _))
      (pss_one (ps_set (i := 4) sc_Element___init__.nd rfl (.inr rfl) (pe_un un_neg (pv 4))))
      pss_nil)
    (pss_cons (ps_fld (pv 0) (pv 1) (by rfl))
    (pss_cons (ps_fld (pv 0) (pe_callTy call_tuple_of (by rfl) T.b_tuple (by decide +kernel) (pa_cons (pe_lc (own := [("number", 5)]) (g := (gName 5)) rfl sc_Element___init__.nd (pi_tup (pv 2)) (blkOk_by (N := N_Element___init__) (sc := defScope s_Element___init__) (by decide +kernel)) (fun _ _ _ _ _ => (pg_name (i := 5) sc_Element___init__.nd rfl (.inl rfl))) (fun _ _ _ _ _ => pts_nil) (fun _ _ _ _ _ => (pe_op op_fdivNW (pv 5) (pv 4)))) pa_nil)) (by rfl))
    (pss_one (ps_fld (pv 0) (pe_op op_fdivNW (pv 3) (pv 4)) (by rfl))))))), ?_⟩
    obtain ⟨g, u', y', z', b', eg, g0, bg, eu, ey, ez, eb, b0, hg⟩ := low_of u y z b hb bb
    refine ⟨_, rfl, t, [u, y, z], rfl, ht, _, rfl, sl2, fun T0 nT => ?_⟩
    refine ⟨T0, [(gcdL [u, y, z] : Int), b], rfl, SqT.of upd_same, ?_⟩
    refine ⟨fun σ H' => σ = [some (.ref x), some (.ref r), some (.ref t), some (.int b), some (.int g), none] ∧ Ex0 H H' ∧ H' x = some (.ins C_Element dx []), ?_, ?_⟩
    · have ex : Ex0 H (upd H T0 (.tup [.int (gcdL [u, y, z] : Int), .int b])) := Ex0.new nT
      refine ⟨_, rfl, _, _, rfl, rfl, _, rfl, iteD (fun n => ?_) (fun n => ?_)⟩
      · rw [if_pos n] at eg
        subst eg
        exact ⟨_, rfl, _, rfl, rfl, ex, ex.ap hx⟩
      · rw [if_neg n] at eg
        subst eg
        exact ⟨rfl, ex, ex.ap hx⟩
    rintro σ H1 ⟨rfl, e1, hx1⟩
    have ht1 := Ex0.tq e1 ht
    have dv : ∀ n m : Int, n = g * m → n.fdiv g = m := fun n m h => by rw [h]; exact Int.mul_fdiv_cancel_left m g0
    have cd : ∀ n : Int, CDivNW n g := fun n => ⟨g0, by have := log_lt bg.1 bg.2; omega⟩
    refine ⟨_, rfl, _, rfl, x, C_Element, dx, _, rfl, hx1, T.cl_Element, T.na_Element_ring, (by decide : (0:Nat) < 1000), ?_⟩
    have hxr : upd H1 x (.ins C_Element dx (putF ("_ring" : Str) (.ref r) [])) x = some (.ins C_Element dx (putF ("_ring" : Str) (.ref r) [])) := upd_same
    have ht2 : Tq K (upd H1 x (.ins C_Element dx (putF ("_ring" : Str) (.ref r) []))) t [u, y, z] := tq_upd ht1 hx1
    generalize hH2 : upd H1 x (.ins C_Element dx (putF ("_ring" : Str) (.ref r) [])) = H2 at hxr ht2 ⊢
    refine ⟨_, rfl, t, rfl, ⟨_, ht2⟩, ?_⟩
    refine lcT fm0 trivial ht2 (fun z => z) (fun i acc _ => acc = (([u', y', z'] : List Int).take i).map V.int) (fun _ _ => rfl) (fun D i n acc H' hD hn e hA hlen hp => ?_) (fun D H' acc hD e hA hp => ?_)
    · obtain ⟨m, hm, rfl⟩ := get_int hn
      refine ⟨rfl, ?_⟩
      refine ⟨_, rfl, _, rfl, m, g, rfl, rfl, cd m, ?_⟩
      have hi : i < 3 := (List.getElem?_eq_some_iff.mp hm).1
      refine cs_yes fm0 trivial hD e hA hlen (by omega) (Fx.refl trivial) ?_
      have hh : m.fdiv g = ([u', y', z'] : List Int).getD i 0 := by
        match i, hm with
        | 0, hm => exact dv m u' ((Option.some.inj hm).symm.trans eu)
        | 1, hm => exact dv m y' ((Option.some.inj hm).symm.trans ey)
        | 2, hm => exact dv m z' ((Option.some.inj hm).symm.trans ez)
      show acc ++ [V.int (m.fdiv g)] = _
      rw [hp, hh]
      match i, hi with
      | 0, _ => rfl
      | 1, _ => rfl
      | 2, _ => rfl
    · refine ⟨D, _, rfl, .inl ⟨SqL.of hA, fun p np => ?_⟩⟩
      have hp' : acc = [.int u', .int y', .int z'] := hp
      subst hp'
      have hx3 := Ex0.ap (Fx.trans e (Ex0.new (o := .tup [.int u', .int y', .int z']) np)) hxr
      refine ⟨_, rfl, x, C_Element, dx, _, rfl, hx3, T.cl_Element, T.na_Element_entries, (by decide : (1:Nat) < 1000), ?_⟩
      refine ⟨_, rfl, _, rfl, b, g, rfl, rfl, cd b, _, rfl, x, C_Element, dx, _, rfl, upd_same, T.cl_Element, T.na_Element_bottom, (by decide : (2:Nat) < 1000), ?_⟩
      have npx : p ≠ x := (ne_of_none (Ex0.ap e hxr) np).symm
      refine q _ p u' y' z' b' ⟨g, eu, ey, ez, eb, b0, hg⟩ (fun c o n ec => ?_) npx ?_ ?_
      · rw [upd_ne n, upd_ne n]
        refine Ex0.ap (Ex0.new np) (Ex0.ap e ?_)
        rw [← hH2, upd_ne n]
        exact Ex0.ap e1 ec
      · rw [upd_same]
        show some (HO.ins C_Element dx (putF ("_bottom" : Str) (.int (b.fdiv g)) _)) = _
        rw [dv b b' eb]
        rfl
      · show upd (upd _ x _) x _ p = _
        rw [upd_ne npx, upd_ne npx]
        exact upd_same
end
end RG
namespace RG
open PySem PySem.Spec PyProof.Rows L2 Fr
theorem w_B {a b c d : Int} (h : B4 1000 a b c d) : B3 2100 (-a * c) b (-a) ∧ B3 2100 (-a * d) 0 0 ∧ B3 2100 (-b * d) d (-c) := by
  obtain ⟨ba, bb, bc, bd⟩ := h
  have z : B 2100 0 := B0 (by decide)
  exact ⟨⟨(B.mul ba.neg bc).mono (by decide), bb.mono (by decide), ba.neg.mono (by decide)⟩, ⟨(B.mul ba.neg bd).mono (by decide), z, z⟩, ⟨(B.mul bb.neg bd).mono (by decide), bd.mono (by decide), bc.neg.mono (by decide)⟩⟩
theorem B3.mono {n m : Nat} {a b c : Int} (h : B3 n a b c) (k : n ≤ m) : B3 m a b c := ⟨h.1.mono k, h.2.1.mono k, h.2.2.mono k⟩
theorem B4.mono {n m : Nat} {a b c d : Int} (h : B4 n a b c d) (k : n ≤ m) : B4 m a b c d := ⟨h.1.mono k, h.2.1.mono k, h.2.2.1.mono k, h.2.2.2.mono k⟩
theorem tr_eq (a b c d u y z : Int) : m0 (-a * c) (-a * d) (-b * d) u y z 1 0 0 + m1 b 0 d u y z 0 1 0 + m2 (-a) 0 (-c) u y z 0 0 1 = tr a b c d u y z := by
  unfold m0 m1 m2 tr
  grind
theorem el_made {C C_R C_E : Addr} {H H' : Hp} {x dx r t t' : Addr} {ns : List Int} {u y z b : Int} {o1 o2 : HO} (nx : H x = none) (ndx : H dx = none) (hr : RingAt C C_R H r ns) (e1 : ∀ c o, c ≠ x → (upd (upd H dx o1) x o2) c = some o → H' c = some o)
    (e2 : H' x = some (.ins C_E dx [(("_ring" : Str), .ref r), (("_entries" : Str), .ref t'), (("_bottom" : Str), .int b)])) (e3 : Ti H' t' [u, y, z]) : Ex0 H H' ∧ ElAt C C_R C_E H' x ns u y z b := by
  have ex := made_ex nx ndx e1
  exact ⟨ex, dx, r, t', e2, Ex0.ri ex hr, e3⟩
section
variable {P : Program} {w : World} {K : PySem.W.Frag} {mg : Str → Option Value} {base : Heap} {C_Form C_Ring C_Element : Addr}
theorem ok_Ring_element (T : Txt K mg C_Form C_Ring C_Element) : MDefD (fun p f => Meth K C_Ring "element" f) P w K mg base 6 ["self", "entries", "bottom"] [.int 1] (sp_Ring_element K C_Form C_Ring C_Element) := by
  obtain ⟨p_, f_, fd_, R_, F_⟩ := T.e_Ring_element
  obtain ⟨p_Element___init__, f_Element___init__, fd_Element___init__, R_Element___init__, b_Element___init__, G_Element___init__⟩ := (ok_Element___init__ (P := P) (w := w) (base := base) T)
  obtain ⟨f_are_short_integers, fd_are_short_integers, g_are_short_integers, k_are_short_integers, b_are_short_integers, G_are_short_integers⟩ := (ok_are_short_integers (P := P) (w := w) (base := base) T)
  obtain ⟨f_check_bottom, fd_check_bottom, g_check_bottom, k_check_bottom, b_check_bottom, G_check_bottom⟩ := (ok_check_bottom (P := P) (w := w) (base := base) T)
  obtain ⟨ds_, v_, d_⟩ := F_.binds1 (ps := ["self", "entries", "bottom"]) 2 0 (by simp) (by rfl) (fun _ _ _ _ _ _ _ us its l1 l2 => match us, its, l1, l2 with | [_, _], [_], _, _ => ⟨_, rfl, rfl⟩)
  obtain ⟨dz_, w_, b_⟩ := F_.binds1 (ps := ["self", "entries", "bottom"]) 3 1 (by simp) (by rfl) (fun _ _ _ _ _ _ _ us its l1 l2 => match us, its, l1, l2 with | [_, _, _], [_], _, _ => ⟨_, rfl, rfl⟩)
  cases w_
  refine ⟨p_, f_, fd_, ds_, R_, b_, v_, d_, ?_⟩
  refine FunD.ok F_ sc_Ring_element (fun vs H Q E h => ?_) (fun cdv A outer s H vs Q E hr h => ?_)
  · first | (obtain ⟨rfl, _⟩ := h; rfl) | (obtain ⟨_, rfl, _⟩ := h; rfl) | (obtain ⟨_, _, rfl, _⟩ := h; rfl) | (obtain ⟨_, _, _, rfl, _⟩ := h; rfl) | (obtain ⟨_, _, _, _, rfl, _⟩ := h; rfl) | (obtain ⟨_, _, _, _, _, rfl, _⟩ := h; rfl) | (obtain ⟨_, _, _, _, _, _, rfl, _⟩ := h; rfl) | (obtain ⟨_, _, _, _, _, _, _, rfl, _⟩ := h; rfl) | (obtain ⟨_, _, _, _, _, _, _, _, rfl, _⟩ := h; rfl) | (obtain ⟨_, _, _, _, _, _, _, _, _, rfl, _⟩ := h; rfl) | (obtain ⟨_, _, _, _, _, _, _, _, _, _, rfl, _⟩ := h; rfl) | (obtain ⟨_, _, _, _, _, _, _, _, _, _, _, rfl, _⟩ := h; rfl) | (obtain ⟨_, _, _, _, _, _, _, _, _, _, _, _, rfl, _⟩ := h; rfl) | (obtain ⟨_, _, _, _, _, _, _, _, _, _, _, _, _, rfl, _⟩ := h; rfl) | (obtain ⟨_, _, _, _, _, _, _, _, _, _, _, _, _, _, rfl, _⟩ := h; rfl) | (obtain ⟨_, _, _, _, _, _, _, _, _, _, _, _, _, _, _, rfl, _⟩ := h; rfl) | (obtain ⟨_, _, _, _, _, _, _, _, _, _, _, _, _, _, _, _, rfl, _⟩ := h; rfl) | (obtain ⟨_, _, _, _, _, _, _, _, _, _, _, _, _, _, _, _, _, rfl, _⟩ := h; rfl) | (obtain ⟨_, _, _, _, _, _, _, _, _, _, _, _, _, _, _, _, _, _, rfl, _⟩ := h; rfl) | (obtain ⟨_, _, _, _, _, _, _, _, _, _, _, _, _, _, _, _, _, _, _, rfl, _⟩ := h; rfl) | (obtain ⟨_, _, _, _, _, _, _, _, _, _, _, _, _, _, _, _, _, _, _, _, rfl, _⟩ := h; rfl) | (obtain ⟨_, _, _, _, _, _, _, _, _, _, _, _, _, _, _, _, _, _, _, _, _, rfl, _⟩ := h; rfl) | (obtain ⟨_, _, _, _, _, _, _, _, _, _, _, _, _, _, _, _, _, _, _, _, _, _, rfl, _⟩ := h; rfl) | (obtain ⟨_, _, _, _, _, _, _, _, _, _, _, _, _, _, _, _, _, _, _, _, _, _, _, rfl, _⟩ := h; rfl)
  · obtain ⟨r, t, ns, u, y, z, b, rfl, hR, ht, su, sy, sz, sb, hb, q⟩ := h
    refine ⟨_, (pss_cons (ps_if (pt_not (pt_val (pe_call G_are_short_integers (hr.mono (by decide)) (by rfl) g_are_short_integers k_are_short_integers b_are_short_integers .nil pass0 (pa_cons (pv 1) (pa_cons pe_int pa_nil)))))
      pss_never
      pss_nil)
    (pss_cons (ps_expr (pe_call G_check_bottom (hr.mono (by decide)) (by rfl) g_check_bottom k_check_bottom b_check_bottom .nil pass0 (pa_cons (pv 2) pa_nil)))
    (pss_one (ps_ret (pe_make R_Element___init__ G_Element___init__ (hr.mono (by decide)) (by rfl) T.g_Element b_Element___init__ .nil pass0 (pa_cons (pv 0) (pa_cons (pv 1) (pa_cons (pv 2) pa_nil)))))))), ?_⟩
    refine ⟨_, rfl, t, [u, y, z], rfl, ht, by show 3 ≤ 1000; decide, fun n hn => ?_, fun H1 e1 => ⟨_, rfl, ?_⟩⟩
    · simp only [List.mem_cons, List.mem_nil_iff, or_false] at hn
      rcases hn with rfl | rfl | rfl <;> assumption
    refine iteF ⟨_, rfl, b, rfl, sb, hb, ?_⟩
    refine ⟨_, rfl, _, rfl, _, rfl, fun x dx nx ndx _ => ?_⟩
    have ht1 := Ex0.ti e1 ht
    refine ⟨x, dx, r, t, u, y, z, b, rfl, upd_same, SqT.of (made_at nx ndx ht1), hb, sb.b.mono (by decide), fun H2 t' u' y' z' b' low e2 nt e3 ht' => ⟨rfl, ?_⟩⟩
    obtain ⟨f1, f2⟩ := el_made (t := t) nx ndx (Ex0.ri e1 hR) e2 e3 ht'
    exact q x H2 u' y' z' b' low (e1.trans f1) f2
theorem ok_Element___mul__ (T : Txt K mg C_Form C_Ring C_Element) : MDef (fun p f => BinC K C_Element "__mul__" f) P w K mg base 5 ["self", "other"] (sp_Element___mul__ K C_Form C_Ring C_Element) := by
  obtain ⟨p_, f_, fd_, R_, F_⟩ := T.e_Element___mul__
  obtain ⟨p_Element___init__, f_Element___init__, fd_Element___init__, R_Element___init__, b_Element___init__, G_Element___init__⟩ := (ok_Element___init__ (P := P) (w := w) (base := base) T)
  obtain ⟨f_check_one_ring, fd_check_one_ring, g_check_one_ring, k_check_one_ring, b_check_one_ring, G_check_one_ring⟩ := (ok_check_one_ring (P := P) (w := w) (base := base) T)
  obtain ⟨f_product_by, fd_product_by, g_product_by, k_product_by, b_product_by, G_product_by⟩ := (ok_product_by (P := P) (w := w) (base := base) T)
  obtain ⟨f_table_for, fd_table_for, g_table_for, k_table_for, b_table_for, G_table_for⟩ := (ok_table_for (P := P) (w := w) (base := base) T)
  refine ⟨p_, f_, fd_, R_, F_.binds (ps := ["self", "other"]) (fun _ _ _ _ _ _ us hl => match us, hl with | [_, _], _ => rfl), ?_⟩
  refine F_.ok sc_Element___mul__ (fun vs H Q E h => ?_) (fun cdv A outer s H vs Q E hr h => ?_)
  · first | (obtain ⟨rfl, _⟩ := h; rfl) | (obtain ⟨_, rfl, _⟩ := h; rfl) | (obtain ⟨_, _, rfl, _⟩ := h; rfl) | (obtain ⟨_, _, _, rfl, _⟩ := h; rfl) | (obtain ⟨_, _, _, _, rfl, _⟩ := h; rfl) | (obtain ⟨_, _, _, _, _, rfl, _⟩ := h; rfl) | (obtain ⟨_, _, _, _, _, _, rfl, _⟩ := h; rfl) | (obtain ⟨_, _, _, _, _, _, _, rfl, _⟩ := h; rfl) | (obtain ⟨_, _, _, _, _, _, _, _, rfl, _⟩ := h; rfl) | (obtain ⟨_, _, _, _, _, _, _, _, _, rfl, _⟩ := h; rfl) | (obtain ⟨_, _, _, _, _, _, _, _, _, _, rfl, _⟩ := h; rfl) | (obtain ⟨_, _, _, _, _, _, _, _, _, _, _, rfl, _⟩ := h; rfl) | (obtain ⟨_, _, _, _, _, _, _, _, _, _, _, _, rfl, _⟩ := h; rfl) | (obtain ⟨_, _, _, _, _, _, _, _, _, _, _, _, _, rfl, _⟩ := h; rfl) | (obtain ⟨_, _, _, _, _, _, _, _, _, _, _, _, _, _, rfl, _⟩ := h; rfl) | (obtain ⟨_, _, _, _, _, _, _, _, _, _, _, _, _, _, _, rfl, _⟩ := h; rfl) | (obtain ⟨_, _, _, _, _, _, _, _, _, _, _, _, _, _, _, _, rfl, _⟩ := h; rfl) | (obtain ⟨_, _, _, _, _, _, _, _, _, _, _, _, _, _, _, _, _, rfl, _⟩ := h; rfl) | (obtain ⟨_, _, _, _, _, _, _, _, _, _, _, _, _, _, _, _, _, _, rfl, _⟩ := h; rfl) | (obtain ⟨_, _, _, _, _, _, _, _, _, _, _, _, _, _, _, _, _, _, _, rfl, _⟩ := h; rfl) | (obtain ⟨_, _, _, _, _, _, _, _, _, _, _, _, _, _, _, _, _, _, _, _, rfl, _⟩ := h; rfl) | (obtain ⟨_, _, _, _, _, _, _, _, _, _, _, _, _, _, _, _, _, _, _, _, _, rfl, _⟩ := h; rfl) | (obtain ⟨_, _, _, _, _, _, _, _, _, _, _, _, _, _, _, _, _, _, _, _, _, _, rfl, _⟩ := h; rfl) | (obtain ⟨_, _, _, _, _, _, _, _, _, _, _, _, _, _, _, _, _, _, _, _, _, _, _, rfl, _⟩ := h; rfl)
  · obtain ⟨x, x', a, b, c, d, u, y, z, e, v, s', r', f, rfl, h1, h2, bz, bu, bv, be, bf, hne, q⟩ := h
    obtain ⟨dx, r, t, hx, hR, ht⟩ := id h1
    obtain ⟨dx2, r2, t2, hx2, hR2, ht2⟩ := id h2
    obtain ⟨v1, v2, v3⟩ := w_B bz
    refine ⟨_, (pss_cons (ps_if (pt_not (pt_val (pe_callB call_isi (by rfl) T.b_isinstance (by decide +kernel) (pa_cons (pv 1) (pa_cons (pe_glob (v := .ref C_Element) (by rfl) T.g_Element rfl) pa_nil)))))
      (pss_one ps_never)
      pss_nil)
    (pss_cons (ps_expr (pe_call G_check_one_ring (hr.mono (by decide)) (by rfl) g_check_one_ring k_check_one_ring b_check_one_ring .nil pass0 (pa_cons (pv 0) (pa_cons (pv 1) pa_nil))))
    (pss_cons (ps_set (i := 2) sc_Element___mul__.nd rfl (.inl rfl) (pe_call G_product_by (hr.mono (by decide)) (by rfl) g_product_by k_product_by b_product_by .nil pass0 (pa_cons (pe_call G_table_for (hr.mono (by decide)) (by rfl) g_table_for k_table_for b_table_for .nil pass0 (pa_cons (pe_fld (pv 0) (by rfl)) pa_nil)) (pa_cons (pe_fld (pv 0) (by rfl)) (pa_cons (pe_fld (pv 1) (by rfl)) pa_nil)))))
    (pss_one (ps_ret (pe_make R_Element___init__ G_Element___init__ (hr.mono (by decide)) (by rfl) T.g_Element b_Element___init__ .nil pass0 (pa_cons (pe_fld (pv 0) (by rfl)) (pa_cons (pv 2) (pa_cons (pe_op op_mulW (pe_fld (pv 0) (by rfl)) (pe_fld (pv 1) (by rfl))) pa_nil))))))))), ?_⟩
    refine ⟨_, rfl, _, _, _, _, true, rfl, .own _, ty_ins T.ty_Element T.cl_Element hx2, kit_self, _, rfl, ?_⟩
    refine iteF ⟨_, rfl, _, rfl, x, x', _, u, y, z, e, v, s', r', f, rfl, h1, h2, ?_⟩
    refine ⟨_, rfl, x, C_Element, dx, _, .ref r, rfl, hx, T.cl_Element, T.na_Element_ring, lkR, r, a, b, c, d, rfl, hR, bz, fun T1 H1 e1 hT => ?_⟩
    refine ⟨_, rfl, x, C_Element, dx, _, .ref t, rfl, e1.ap hx, T.cl_Element, T.na_Element_entries, lkE, ?_⟩
    refine ⟨_, rfl, x', C_Element, dx2, _, .ref t2, rfl, e1.ap hx2, T.cl_Element, T.na_Element_entries, lkE, ?_⟩
    refine ⟨T1, t, t2, _, _, _, _, _, _, _, _, _, u, y, z, v, s', r', rfl, hT, (Ex0.ti e1 ht).q, (Ex0.ti e1 ht2).q, v1, v2, v3, bu, bv, fun o H2 e2 ho => ?_⟩
    have e12 := e1.trans e2
    refine ⟨_, rfl, x, C_Element, dx, _, .ref r, rfl, Ex0.ap e12 hx, T.cl_Element, T.na_Element_ring, lkR, _, rfl, ?_⟩
    refine ⟨_, rfl, x, C_Element, dx, _, .int e, rfl, Ex0.ap e12 hx, T.cl_Element, T.na_Element_bottom, lkB, ?_⟩
    refine ⟨_, rfl, x', C_Element, dx2, _, .int f, rfl, Ex0.ap e12 hx2, T.cl_Element, T.na_Element_bottom, lkB, e, f, rfl, rfl, mulB be bf (by decide), fun y0 dy nx ndx _ => ?_⟩
    refine ⟨y0, dy, r, o, _, _, _, e * f, rfl, upd_same, SqT.of (made_at nx ndx ho), hne, (B.mul be bf).mono (by decide), fun H3 t' u' y' z' b' low e3 nt e4 ht' => ⟨rfl, ?_⟩⟩
    obtain ⟨f1, f2⟩ := el_made (t := o) nx ndx (Ex0.ri e12 hR) e3 e4 ht'
    exact q y0 H3 u' y' z' b' low (e12.trans f1) f2
end
end RG
namespace RG
open PySem PySem.Spec PyProof.Rows L2 Fr
theorem l33_new {H : Hp} {t1 t2 t3 x : Addr} {r1 r2 r3 : List Int} (n1 : H t1 = none) (n2 : upd H t1 (.tup (r1.map V.int)) t2 = none) (n3 : upd (upd H t1 (.tup (r1.map V.int))) t2 (.tup (r2.map V.int)) t3 = none)
    (n4 : upd (upd (upd H t1 (.tup (r1.map V.int))) t2 (.tup (r2.map V.int))) t3 (.tup (r3.map V.int)) x = none) :
    Ex0 H (upd (upd (upd (upd H t1 (.tup (r1.map V.int))) t2 (.tup (r2.map V.int))) t3 (.tup (r3.map V.int))) x (.lst [.ref t1, .ref t2, .ref t3])) ∧
      L33 (upd (upd (upd (upd H t1 (.tup (r1.map V.int))) t2 (.tup (r2.map V.int))) t3 (.tup (r3.map V.int))) x (.lst [.ref t1, .ref t2, .ref t3])) x r1 r2 r3 :=
  ⟨(((Ex0.new n1).trans (Ex0.new n2)).trans (Ex0.new n3)).trans (Ex0.new n4), t1, t2, t3, upd_same, Ex0.ap (Ex0.new n4) (Ex0.ap (Ex0.new n3) (Ex0.ap (Ex0.new n2) upd_same)), Ex0.ap (Ex0.new n4) (Ex0.ap (Ex0.new n3) upd_same), Ex0.ap (Ex0.new n4) upd_same⟩
theorem unL33 {K : PySem.W.Frag} {i1 i2 i3 i4 i5 i6 i7 i8 i9 : Nat} {σ : L2.St} {H : Hp} {t : Addr} {a b c d e f g h i : Int} {Q : L2.St → Hp → Prop} (q : L33 H t [a, b, c] [d, e, f] [g, h, i])
    (z : Q (((((((((σ.set i1 (some (.int a))).set i2 (some (.int b))).set i3 (some (.int c))).set i4 (some (.int d))).set i5 (some (.int e))).set i6 (some (.int f))).set i7 (some (.int g))).set i8 (some (.int h))).set i9 (some (.int i))) H) :
    gLst K 3 (gCons (gTup K 3 (gCons (gName i1) (gCons (gName i2) (gCons (gName i3) gNil)))) (gCons (gTup K 3 (gCons (gName i4) (gCons (gName i5) (gCons (gName i6) gNil)))) (gCons (gTup K 3 (gCons (gName i7) (gCons (gName i8) (gCons (gName i9) gNil)))) gNil))) (.ref t) σ H Q := by
  obtain ⟨t1, t2, t3, h0, h1, h2, h3⟩ := q
  refine ⟨t, _, rfl, SqL.of h0, rfl, _, _, rfl, ?_⟩
  refine ⟨t1, _, rfl, SqT.of h1, rfl, _, _, rfl, _, _, rfl, _, _, rfl, ⟨rfl, ?_⟩⟩
  refine ⟨_, _, rfl, ?_⟩
  refine ⟨t2, _, rfl, SqT.of h2, rfl, _, _, rfl, _, _, rfl, _, _, rfl, ⟨rfl, ?_⟩⟩
  refine ⟨_, _, rfl, ?_⟩
  exact ⟨t3, _, rfl, SqT.of h3, rfl, _, _, rfl, _, _, rfl, _, _, rfl, ⟨rfl, ⟨rfl, z⟩⟩⟩
theorem unM33 {K : PySem.W.Frag} {i1 i2 i3 i4 i5 i6 i7 i8 i9 : Nat} {σ : L2.St} {H : Hp} {t : Addr} {a b c d e f g h i : Int} {Q : L2.St → Hp → Prop} (q : M33 K H t [a, b, c] [d, e, f] [g, h, i])
    (z : Q (((((((((σ.set i1 (some (.int a))).set i2 (some (.int b))).set i3 (some (.int c))).set i4 (some (.int d))).set i5 (some (.int e))).set i6 (some (.int f))).set i7 (some (.int g))).set i8 (some (.int h))).set i9 (some (.int i))) H) :
    gLst K 3 (gCons (gTup K 3 (gCons (gName i1) (gCons (gName i2) (gCons (gName i3) gNil)))) (gCons (gTup K 3 (gCons (gName i4) (gCons (gName i5) (gCons (gName i6) gNil)))) (gCons (gTup K 3 (gCons (gName i7) (gCons (gName i8) (gCons (gName i9) gNil)))) gNil))) (.ref t) σ H Q := by
  obtain ⟨t1, t2, t3, h0, h1, h2, h3⟩ := q
  refine ⟨t, _, rfl, SqL.of h0, rfl, _, _, rfl, ?_⟩
  refine ⟨t1, _, rfl, h1, rfl, _, _, rfl, _, _, rfl, _, _, rfl, ⟨rfl, ?_⟩⟩
  refine ⟨_, _, rfl, ?_⟩
  refine ⟨t2, _, rfl, h2, rfl, _, _, rfl, _, _, rfl, _, _, rfl, ⟨rfl, ?_⟩⟩
  refine ⟨_, _, rfl, ?_⟩
  exact ⟨t3, _, rfl, h3, rfl, _, _, rfl, _, _, rfl, _, _, rfl, ⟨rfl, ⟨rfl, z⟩⟩⟩
def det3 (a b c d e f g h i : Int) : Int := a * (e * i - f * h) - b * (d * i - f * g) + c * (d * h - e * g)
def mn (a b c d e f g h i : Int) : Int := a * e - b * d + a * i - c * g + e * i - f * h
def Fq (a b p q : Int) : Prop := ∃ g : Int, 0 < g ∧ a = g * p ∧ b = g * q ∧ Nat.gcd p.natAbs q.natAbs = 1
section
def sp_determinant_by (_ : PySem.W.Frag) (C C_R C_E : Addr) : Sp := fun vs H Q _ => ∃ (t : Addr) (a b c d e f g h i : Int), vs = [.ref t] ∧ T33 H t [a, b, c] [d, e, f] [g, h, i] ∧ B3 20000 a b c ∧ B3 20000 d e f ∧ B3 20000 g h i ∧ Q (.int (det3 a b c d e f g h i)) H
def plA (a b c d e f g h i u x y : Int) : Int := m0 a d g u x y 1 0 0 + m1 b e h u x y 0 1 0 + m2 c f i u x y 0 0 1
def plB (a b c d e f g h i u x y : Int) : Int := mn (m0 a d g u x y 1 0 0) (m1 b e h u x y 1 0 0) (m2 c f i u x y 1 0 0) (m0 a d g u x y 0 1 0) (m1 b e h u x y 0 1 0) (m2 c f i u x y 0 1 0) (m0 a d g u x y 0 0 1) (m1 b e h u x y 0 0 1) (m2 c f i u x y 0 0 1)
def plC (a b c d e f g h i u x y : Int) : Int := det3 (m0 a d g u x y 1 0 0) (m1 b e h u x y 1 0 0) (m2 c f i u x y 1 0 0) (m0 a d g u x y 0 1 0) (m1 b e h u x y 0 1 0) (m2 c f i u x y 0 1 0) (m0 a d g u x y 0 0 1) (m1 b e h u x y 0 0 1) (m2 c f i u x y 0 0 1)
def sp_polynomial_by (K : PySem.W.Frag) (C C_R C_E : Addr) : Sp := fun vs H Q _ => ∃ (t l : Addr) (a b c d e f g h i u x y : Int), vs = [.ref t, .ref l] ∧ T33 H t [a, b, c] [d, e, f] [g, h, i] ∧ Tq K H l [u, x, y] ∧ B3 2100 a b c ∧ B3 2100 d e f ∧ B3 2100 g h i ∧ B3 9000 u x y ∧ ∀ o H', Ex0 H H' → Ti H' o [-plA a b c d e f g h i u x y, plB a b c d e f g h i u x y, -plC a b c d e f g h i u x y] → Q (.ref o) H'
def sp_Element_entries (_ : PySem.W.Frag) (C C_R C_E : Addr) : Sp := fun vs H Q _ => ∃ (x : Addr) (ns : List Int) (u y z b : Int), vs = [.ref x] ∧ ElAt C C_R C_E H x ns u y z b ∧ ∀ t, Ti H t [u, y, z] → Q (.ref t) H
def sp_Element_bottom (_ : PySem.W.Frag) (C C_R C_E : Addr) : Sp := fun vs H Q _ => ∃ (x : Addr) (ns : List Int) (u y z b : Int), vs = [.ref x] ∧ ElAt C C_R C_E H x ns u y z b ∧ Q (.int b) H
def qA (a b c d u y z : Int) : Int := plA (-a * c) b (-a) (-a * d) 0 0 (-b * d) d (-c) u y z
def qB (a b c d u y z : Int) : Int := plB (-a * c) b (-a) (-a * d) 0 0 (-b * d) d (-c) u y z
def qC (a b c d u y z : Int) : Int := plC (-a * c) b (-a) (-a * d) 0 0 (-b * d) d (-c) u y z
def sp_Element_norm (_ : PySem.W.Frag) (C C_R C_E : Addr) : Sp := fun vs H Q _ => ∃ (x : Addr) (a b c d u y z e : Int), vs = [.ref x] ∧ ElAt C C_R C_E H x [a, b, c, d] u y z e ∧ B4 1000 a b c d ∧ B3 9000 u y z ∧ 0 < e ∧ e < 2 ^ 900 ∧ ∀ o H' p q, Fq (qC a b c d u y z) (e * e * e) p q → Ex0 H H' → Ti H' o [p, q] → Q (.ref o) H'
def sp_Element_polynomial (_ : PySem.W.Frag) (C C_R C_E : Addr) : Sp := fun vs H Q _ => ∃ (x : Addr) (a b c d u y z e : Int), vs = [.ref x] ∧ ElAt C C_R C_E H x [a, b, c, d] u y z e ∧ B4 1000 a b c d ∧ B3 9000 u y z ∧ 0 < e ∧ e < 2 ^ 900 ∧ ∀ o H' p1 q1 p2 q2 p3 q3, Fq (-qA a b c d u y z) e p1 q1 → Fq (qB a b c d u y z) (e * e) p2 q2 → Fq (-qC a b c d u y z) (e * e * e) p3 q3 → Ex0 H H' → T33 H' o [p1, q1] [p2, q2] [p3, q3] → Q (.ref o) H'
def sp_Ring_one (_ : PySem.W.Frag) (C C_R C_E : Addr) : Sp := fun vs H Q _ => ∃ (r : Addr) (ns : List Int), vs = [.ref r] ∧ RingAt C C_R H r ns ∧ ∀ x H', Ex0 H H' → ElAt C C_R C_E H' x ns 1 0 0 1 → Q (.ref x) H'
def sp_Ring_w (_ : PySem.W.Frag) (C C_R C_E : Addr) : Sp := fun vs H Q _ => ∃ (r : Addr) (ns : List Int), vs = [.ref r] ∧ RingAt C C_R H r ns ∧ ∀ x H', Ex0 H H' → ElAt C C_R C_E H' x ns 0 1 0 1 → Q (.ref x) H'
def sp_Ring_t (_ : PySem.W.Frag) (C C_R C_E : Addr) : Sp := fun vs H Q _ => ∃ (r : Addr) (ns : List Int), vs = [.ref r] ∧ RingAt C C_R H r ns ∧ ∀ x H', Ex0 H H' → ElAt C C_R C_E H' x ns 0 0 1 1 → Q (.ref x) H'
def sp_mixed (_ : PySem.W.Frag) (C C_R C_E : Addr) : Sp := fun vs H Q _ => ∃ (x x' : Addr) (ns ms : List Int) (u y z e v s r f n : Int), vs = [.ref x, .ref x', .int n] ∧ ElAt C C_R C_E H x ns u y z e ∧ ElAt C C_R C_E H x' ms v s r f ∧ B3 9000 u y z ∧ B3 9000 v s r ∧ B 1000 e ∧ B 1000 f ∧ e * f ≠ 0 ∧ (n = 1 ∨ n = -1) ∧ ∀ o H' u' y' z' b', Low (u * f + v * (n * e)) (y * f + s * (n * e)) (z * f + r * (n * e)) (e * f) u' y' z' b' → Ex0 H H' → ElAt C C_R C_E H' o ns u' y' z' b' → Q (.ref o) H'
def sp_Element___add__ (_ : PySem.W.Frag) (C C_R C_E : Addr) : Sp := fun vs H Q _ => ∃ (x x' : Addr) (ns : List Int) (u y z e v s r f : Int), vs = [.ref x, .ref x'] ∧ ElAt C C_R C_E H x ns u y z e ∧ ElAt C C_R C_E H x' ns v s r f ∧ B3 9000 u y z ∧ B3 9000 v s r ∧ B 1000 e ∧ B 1000 f ∧ e * f ≠ 0 ∧ ∀ o H' u' y' z' b', Low (u * f + v * (1 * e)) (y * f + s * (1 * e)) (z * f + r * (1 * e)) (e * f) u' y' z' b' → Ex0 H H' → ElAt C C_R C_E H' o ns u' y' z' b' → Q (.ref o) H'
def sp_Element_scaled (_ : PySem.W.Frag) (C C_R C_E : Addr) : Sp := fun vs H Q _ => ∃ (x : Addr) (ns : List Int) (u y z e n m : Int), vs = [.ref x, .int n, .int m] ∧ ElAt C C_R C_E H x ns u y z e ∧ B3 9000 u y z ∧ B 1000 e ∧ e ≠ 0 ∧ Short n ∧ Short m ∧ m ≠ 0 ∧ ∀ o H' u' y' z' b', Low (u * n) (y * n) (z * n) (e * m) u' y' z' b' → Ex0 H H' → ElAt C C_R C_E H' o ns u' y' z' b' → Q (.ref o) H'
def sp_Element___bool__ (_ : PySem.W.Frag) (C C_R C_E : Addr) : Sp := fun vs H Q _ => ∃ (x : Addr) (ns : List Int) (u y z b : Int), vs = [.ref x] ∧ ElAt C C_R C_E H x ns u y z b ∧ Q (.bl ([u, y, z].any (fun n => n != 0))) H
end
section
variable {P : Program} {w : World} {K : PySem.W.Frag} {mg : Str → Option Value} {base : Heap} {C_Form C_Ring C_Element : Addr}
theorem ok_determinant_by (T : Txt K mg C_Form C_Ring C_Element) : Def P w K mg base 1 "determinant_by" ["rows"] (sp_determinant_by K C_Form C_Ring C_Element) := by
  obtain ⟨f_, fd_, g_, F_⟩ := T.d_determinant_by
  refine ⟨f_, fd_, g_, F_.kp, F_.binds (ps := ["rows"]) (fun _ _ _ _ _ _ us hl => match us, hl with | [_], _ => rfl), ?_⟩
  refine F_.ok sc_determinant_by (fun vs H Q E h => ?_) (fun cdv A outer s H vs Q E hr h => ?_)
  · first | (obtain ⟨rfl, _⟩ := h; rfl) | (obtain ⟨_, rfl, _⟩ := h; rfl) | (obtain ⟨_, _, rfl, _⟩ := h; rfl) | (obtain ⟨_, _, _, rfl, _⟩ := h; rfl) | (obtain ⟨_, _, _, _, rfl, _⟩ := h; rfl) | (obtain ⟨_, _, _, _, _, rfl, _⟩ := h; rfl) | (obtain ⟨_, _, _, _, _, _, rfl, _⟩ := h; rfl) | (obtain ⟨_, _, _, _, _, _, _, rfl, _⟩ := h; rfl) | (obtain ⟨_, _, _, _, _, _, _, _, rfl, _⟩ := h; rfl) | (obtain ⟨_, _, _, _, _, _, _, _, _, rfl, _⟩ := h; rfl) | (obtain ⟨_, _, _, _, _, _, _, _, _, _, rfl, _⟩ := h; rfl) | (obtain ⟨_, _, _, _, _, _, _, _, _, _, _, rfl, _⟩ := h; rfl) | (obtain ⟨_, _, _, _, _, _, _, _, _, _, _, _, rfl, _⟩ := h; rfl) | (obtain ⟨_, _, _, _, _, _, _, _, _, _, _, _, _, rfl, _⟩ := h; rfl) | (obtain ⟨_, _, _, _, _, _, _, _, _, _, _, _, _, _, rfl, _⟩ := h; rfl) | (obtain ⟨_, _, _, _, _, _, _, _, _, _, _, _, _, _, _, rfl, _⟩ := h; rfl) | (obtain ⟨_, _, _, _, _, _, _, _, _, _, _, _, _, _, _, _, rfl, _⟩ := h; rfl) | (obtain ⟨_, _, _, _, _, _, _, _, _, _, _, _, _, _, _, _, _, rfl, _⟩ := h; rfl) | (obtain ⟨_, _, _, _, _, _, _, _, _, _, _, _, _, _, _, _, _, _, rfl, _⟩ := h; rfl) | (obtain ⟨_, _, _, _, _, _, _, _, _, _, _, _, _, _, _, _, _, _, _, rfl, _⟩ := h; rfl) | (obtain ⟨_, _, _, _, _, _, _, _, _, _, _, _, _, _, _, _, _, _, _, _, rfl, _⟩ := h; rfl) | (obtain ⟨_, _, _, _, _, _, _, _, _, _, _, _, _, _, _, _, _, _, _, _, _, rfl, _⟩ := h; rfl) | (obtain ⟨_, _, _, _, _, _, _, _, _, _, _, _, _, _, _, _, _, _, _, _, _, _, rfl, _⟩ := h; rfl) | (obtain ⟨_, _, _, _, _, _, _, _, _, _, _, _, _, _, _, _, _, _, _, _, _, _, _, rfl, _⟩ := h; rfl)
  · obtain ⟨t, a, b, c, d, e, f, g, h', i, rfl, ht, ⟨ba, bb, bc⟩, ⟨bd, be, bf⟩, ⟨bg, bh, bi⟩, q⟩ := h
    refine ⟨_, (Evl.pss_cut (ps_asg (pv 0) (pg_tup (by rfl) (pgs_cons (pg_tup (by rfl) (pgs_cons (pg_name (i := 1) sc_determinant_by.nd rfl (.inl rfl)) (pgs_cons (pg_name (i := 2) sc_determinant_by.nd rfl (.inl rfl)) (pgs_cons (pg_name (i := 3) sc_determinant_by.nd rfl (.inl rfl)) pgs_nil)))) (pgs_cons (pg_tup (by rfl) (pgs_cons (pg_name (i := 4) sc_determinant_by.nd rfl (.inl rfl)) (pgs_cons (pg_name (i := 5) sc_determinant_by.nd rfl (.inl rfl)) (pgs_cons (pg_name (i := 6) sc_determinant_by.nd rfl (.inl rfl)) pgs_nil)))) (pgs_cons (pg_tup (by rfl) (pgs_cons (pg_name (i := 7) sc_determinant_by.nd rfl (.inl rfl)) (pgs_cons (pg_name (i := 8) sc_determinant_by.nd rfl (.inl rfl)) (pgs_cons (pg_name (i := 9) sc_determinant_by.nd rfl (.inl rfl)) pgs_nil)))) pgs_nil)))))
    (pss_one (ps_ret (pe_op op_add (pe_op op_sub (pe_op op_mulW (pv 1) (pe_op op_sub (pe_op op_mulW (pv 5) (pv 9)) (pe_op op_mulW (pv 6) (pv 8)))) (pe_op op_mulW (pv 2) (pe_op op_sub (pe_op op_mulW (pv 4) (pv 9)) (pe_op op_mulW (pv 6) (pv 7))))) (pe_op op_mulW (pv 3) (pe_op op_sub (pe_op op_mulW (pv 4) (pv 8)) (pe_op op_mulW (pv 5) (pv 7)))))))), ?_⟩
    refine ⟨fun σ H' => σ = [some (.ref t), some (.int a), some (.int b), some (.int c), some (.int d), some (.int e), some (.int f), some (.int g), some (.int h'), some (.int i)] ∧ H' = H, ⟨_, rfl, un33 ht ⟨rfl, rfl⟩⟩, ?_⟩
    rintro σ H' ⟨rfl, rfl⟩
    exact ⟨_, rfl, _, rfl, _, rfl, _, _, rfl, rfl, mulB (by with_reducible assumption) (by with_reducible assumption) (by decide), _, rfl, _, rfl, _, _, rfl, rfl, mulB (by with_reducible assumption) (by with_reducible assumption) (by decide), _, _, rfl, rfl, _, _, rfl, rfl, mulB (by with_reducible assumption) (B.sub (B.mul (by with_reducible assumption) (by with_reducible assumption)) (B.mul (by with_reducible assumption) (by with_reducible assumption))) (by decide), _, rfl, _, rfl, _, rfl, _, _, rfl, rfl, mulB (by with_reducible assumption) (by with_reducible assumption) (by decide), _, rfl, _, rfl, _, _, rfl, rfl, mulB (by with_reducible assumption) (by with_reducible assumption) (by decide), _, _, rfl, rfl, _, _, rfl, rfl, mulB (by with_reducible assumption) (B.sub (B.mul (by with_reducible assumption) (by with_reducible assumption)) (B.mul (by with_reducible assumption) (by with_reducible assumption))) (by decide), _, _, rfl, rfl, _, rfl, _, rfl, _, rfl, _, _, rfl, rfl, mulB (by with_reducible assumption) (by with_reducible assumption) (by decide), _, rfl, _, rfl, _, _, rfl, rfl, mulB (by with_reducible assumption) (by with_reducible assumption) (by decide), _, _, rfl, rfl, _, _, rfl, rfl, mulB (by with_reducible assumption) (B.sub (B.mul (by with_reducible assumption) (by with_reducible assumption)) (B.mul (by with_reducible assumption) (by with_reducible assumption))) (by decide), _, _, rfl, rfl, q⟩
theorem ok_polynomial_by (T : Txt K mg C_Form C_Ring C_Element) : Def P w K mg base 3 "polynomial_by" ["table", "entries"] (sp_polynomial_by K C_Form C_Ring C_Element) := by
  obtain ⟨f_, fd_, g_, F_⟩ := T.d_polynomial_by
  obtain ⟨f_determinant_by, fd_determinant_by, g_determinant_by, k_determinant_by, b_determinant_by, G_determinant_by⟩ := (ok_determinant_by (P := P) (w := w) (base := base) T)
  obtain ⟨f_map_by, fd_map_by, g_map_by, k_map_by, b_map_by, G_map_by⟩ := (ok_map_by (P := P) (w := w) (base := base) T)
  refine ⟨f_, fd_, g_, F_.kp, F_.binds (ps := ["table", "entries"]) (fun _ _ _ _ _ _ us hl => match us, hl with | [_, _], _ => rfl), ?_⟩
  refine F_.ok sc_polynomial_by (fun vs H Q E h => ?_) (fun cdv A outer s H vs Q E hr h => ?_)
  · first | (obtain ⟨rfl, _⟩ := h; rfl) | (obtain ⟨_, rfl, _⟩ := h; rfl) | (obtain ⟨_, _, rfl, _⟩ := h; rfl) | (obtain ⟨_, _, _, rfl, _⟩ := h; rfl) | (obtain ⟨_, _, _, _, rfl, _⟩ := h; rfl) | (obtain ⟨_, _, _, _, _, rfl, _⟩ := h; rfl) | (obtain ⟨_, _, _, _, _, _, rfl, _⟩ := h; rfl) | (obtain ⟨_, _, _, _, _, _, _, rfl, _⟩ := h; rfl) | (obtain ⟨_, _, _, _, _, _, _, _, rfl, _⟩ := h; rfl) | (obtain ⟨_, _, _, _, _, _, _, _, _, rfl, _⟩ := h; rfl) | (obtain ⟨_, _, _, _, _, _, _, _, _, _, rfl, _⟩ := h; rfl) | (obtain ⟨_, _, _, _, _, _, _, _, _, _, _, rfl, _⟩ := h; rfl) | (obtain ⟨_, _, _, _, _, _, _, _, _, _, _, _, rfl, _⟩ := h; rfl) | (obtain ⟨_, _, _, _, _, _, _, _, _, _, _, _, _, rfl, _⟩ := h; rfl) | (obtain ⟨_, _, _, _, _, _, _, _, _, _, _, _, _, _, rfl, _⟩ := h; rfl) | (obtain ⟨_, _, _, _, _, _, _, _, _, _, _, _, _, _, _, rfl, _⟩ := h; rfl) | (obtain ⟨_, _, _, _, _, _, _, _, _, _, _, _, _, _, _, _, rfl, _⟩ := h; rfl) | (obtain ⟨_, _, _, _, _, _, _, _, _, _, _, _, _, _, _, _, _, rfl, _⟩ := h; rfl) | (obtain ⟨_, _, _, _, _, _, _, _, _, _, _, _, _, _, _, _, _, _, rfl, _⟩ := h; rfl) | (obtain ⟨_, _, _, _, _, _, _, _, _, _, _, _, _, _, _, _, _, _, _, rfl, _⟩ := h; rfl) | (obtain ⟨_, _, _, _, _, _, _, _, _, _, _, _, _, _, _, _, _, _, _, _, rfl, _⟩ := h; rfl) | (obtain ⟨_, _, _, _, _, _, _, _, _, _, _, _, _, _, _, _, _, _, _, _, _, rfl, _⟩ := h; rfl) | (obtain ⟨_, _, _, _, _, _, _, _, _, _, _, _, _, _, _, _, _, _, _, _, _, _, rfl, _⟩ := h; rfl) | (obtain ⟨_, _, _, _, _, _, _, _, _, _, _, _, _, _, _, _, _, _, _, _, _, _, _, rfl, _⟩ := h; rfl)
  · obtain ⟨t, l, a, b, c, d, e, f, g, h', i, u, x, y, rfl, ht, hl, b1, b2, b3, bu, q⟩ := h
    refine ⟨_, (Evl.pss_cut (ps_asg (pe_call G_map_by (hr.mono (by decide)) (by rfl) g_map_by k_map_by b_map_by .nil pass0 (pa_cons (pv 0) (pa_cons (pv 1) pa_nil))) (pg_lst (by rfl) (pgs_cons (pg_tup (by rfl) (pgs_cons (pg_name (i := 2) sc_polynomial_by.nd rfl (.inl rfl)) (pgs_cons (pg_name (i := 3) sc_polynomial_by.nd rfl (.inl rfl)) (pgs_cons (pg_name (i := 4) sc_polynomial_by.nd rfl (.inl rfl)) pgs_nil)))) (pgs_cons (pg_tup (by rfl) (pgs_cons (pg_name (i := 5) sc_polynomial_by.nd rfl (.inl rfl)) (pgs_cons (pg_name (i := 6) sc_polynomial_by.nd rfl (.inl rfl)) (pgs_cons (pg_name (i := 7) sc_polynomial_by.nd rfl (.inl rfl)) pgs_nil)))) (pgs_cons (pg_tup (by rfl) (pgs_cons (pg_name (i := 8) sc_polynomial_by.nd rfl (.inl rfl)) (pgs_cons (pg_name (i := 9) sc_polynomial_by.nd rfl (.inl rfl)) (pgs_cons (pg_name (i := 10) sc_polynomial_by.nd rfl (.inl rfl)) pgs_nil)))) pgs_nil)))))
    (pss_cons (ps_set (i := 11) sc_polynomial_by.nd rfl (.inl rfl) (pe_op op_sub (pe_op op_add (pe_op op_sub (pe_op op_add (pe_op op_sub (pe_op op_mulW (pv 2) (pv 6)) (pe_op op_mulW (pv 3) (pv 5))) (pe_op op_mulW (pv 2) (pv 10))) (pe_op op_mulW (pv 4) (pv 8))) (pe_op op_mulW (pv 6) (pv 10))) (pe_op op_mulW (pv 7) (pv 9))))
    (pss_one (ps_ret (pe_tup (pa_cons (pe_un un_neg (pe_op op_add (pe_op op_add (pv 2) (pv 6)) (pv 10))) (pa_cons (pv 11) (pa_cons (pe_un un_neg (pe_call G_determinant_by (hr.mono (by decide)) (by rfl) g_determinant_by k_determinant_by b_determinant_by .nil pass0 (pa_cons (pe_tup (pa_cons (pe_tup (pa_cons (pv 2) (pa_cons (pv 3) (pa_cons (pv 4) pa_nil)))) (pa_cons (pe_tup (pa_cons (pv 5) (pa_cons (pv 6) (pa_cons (pv 7) pa_nil)))) (pa_cons (pe_tup (pa_cons (pv 8) (pa_cons (pv 9) (pa_cons (pv 10) pa_nil)))) pa_nil)))) pa_nil))) pa_nil)))))))), ?_⟩
    have k0 : B3 1000 1 0 0 := ⟨⟨by decide, by decide⟩, ⟨by decide, by decide⟩, ⟨by decide, by decide⟩⟩
    have k1 : B3 1000 0 1 0 := ⟨⟨by decide, by decide⟩, ⟨by decide, by decide⟩, ⟨by decide, by decide⟩⟩
    have k2 : B3 1000 0 0 1 := ⟨⟨by decide, by decide⟩, ⟨by decide, by decide⟩, ⟨by decide, by decide⟩⟩
    have bA := (m_B b1.1 b2.1 b3.1 bu k0).1.mono (show 9000 + 1000 + 2100 + 4 ≤ 20000 by decide)
    have bB := (m_B b1.2.1 b2.2.1 b3.2.1 bu k0).2.1.mono (show 9000 + 1000 + 2100 + 4 ≤ 20000 by decide)
    have bC := (m_B b1.2.2 b2.2.2 b3.2.2 bu k0).2.2.mono (show 9000 + 1000 + 2100 + 4 ≤ 20000 by decide)
    have bD := (m_B b1.1 b2.1 b3.1 bu k1).1.mono (show 9000 + 1000 + 2100 + 4 ≤ 20000 by decide)
    have bE := (m_B b1.2.1 b2.2.1 b3.2.1 bu k1).2.1.mono (show 9000 + 1000 + 2100 + 4 ≤ 20000 by decide)
    have bF := (m_B b1.2.2 b2.2.2 b3.2.2 bu k1).2.2.mono (show 9000 + 1000 + 2100 + 4 ≤ 20000 by decide)
    have bG := (m_B b1.1 b2.1 b3.1 bu k2).1.mono (show 9000 + 1000 + 2100 + 4 ≤ 20000 by decide)
    have bH := (m_B b1.2.1 b2.2.1 b3.2.1 bu k2).2.1.mono (show 9000 + 1000 + 2100 + 4 ≤ 20000 by decide)
    have bI := (m_B b1.2.2 b2.2.2 b3.2.2 bu k2).2.2.mono (show 9000 + 1000 + 2100 + 4 ≤ 20000 by decide)
    unfold plA plB plC at q
    refine ⟨fun σ H' => σ = [some (.ref t), some (.ref l), some (.int (m0 a d g u x y 1 0 0)), some (.int (m1 b e h' u x y 1 0 0)), some (.int (m2 c f i u x y 1 0 0)), some (.int (m0 a d g u x y 0 1 0)), some (.int (m1 b e h' u x y 0 1 0)), some (.int (m2 c f i u x y 0 1 0)), some (.int (m0 a d g u x y 0 0 1)), some (.int (m1 b e h' u x y 0 0 1)), some (.int (m2 c f i u x y 0 0 1)), none] ∧ Ex0 H H', ?_, ?_⟩
    · refine ⟨_, rfl, _, rfl, t, l, a, b, c, d, e, f, g, h', i, u, x, y, rfl, ht, hl, b1, b2, b3, bu, fun o H1 e1 ho => ?_⟩
      exact unM33 ho ⟨rfl, e1⟩
    rintro σ H1 ⟨rfl, e1⟩
    generalize m0 a d g u x y 1 0 0 = A at q bA ⊢
    generalize m1 b e h' u x y 1 0 0 = A1 at q bB ⊢
    generalize m2 c f i u x y 1 0 0 = A2 at q bC ⊢
    generalize m0 a d g u x y 0 1 0 = A3 at q bD ⊢
    generalize m1 b e h' u x y 0 1 0 = A4 at q bE ⊢
    generalize m2 c f i u x y 0 1 0 = A5 at q bF ⊢
    generalize m0 a d g u x y 0 0 1 = A6 at q bG ⊢
    generalize m1 b e h' u x y 0 0 1 = A7 at q bH ⊢
    generalize m2 c f i u x y 0 0 1 = A8 at q bI ⊢
    refine ⟨_, rfl, _, rfl, _, _, rfl, rfl, mulB (by with_reducible assumption) (by with_reducible assumption) (by decide), _, rfl, _, rfl, _, _, rfl, rfl, mulB (by with_reducible assumption) (by with_reducible assumption) (by decide), _, _, rfl, rfl, _, rfl, _, rfl, _, _, rfl, rfl, mulB (by with_reducible assumption) (by with_reducible assumption) (by decide), _, _, rfl, rfl, _, rfl, _, rfl, _, _, rfl, rfl, mulB (by with_reducible assumption) (by with_reducible assumption) (by decide), _, _, rfl, rfl, _, rfl, _, rfl, _, _, rfl, rfl, mulB (by with_reducible assumption) (by with_reducible assumption) (by decide), _, _, rfl, rfl, _, rfl, _, rfl, _, _, rfl, rfl, mulB (by with_reducible assumption) (by with_reducible assumption) (by decide), _, _, rfl, rfl, ?_⟩
    refine ⟨_, rfl, _, rfl, _, _, rfl, rfl, _, rfl, _, _, rfl, rfl, _, rfl, ?_⟩
    refine ⟨_, rfl, ?_⟩
    refine ⟨_, rfl, _, rfl, _, rfl, sl3, fun t1 n1 => ⟨_, rfl, _, rfl, _, rfl, sl3, fun t2 n2 => ⟨_, rfl, _, rfl, _, rfl, sl3, fun t3 n3 => ⟨sl3, fun x nx => ?_⟩⟩⟩⟩
    have z := t33_new (r1 := [A, A1, A2]) (r2 := [A3, A4, A5]) (r3 := [A6, A7, A8]) n1 n2 n3 nx
    refine ⟨x, A, A1, A2, A3, A4, A5, A6, A7, A8, rfl, z.2, ⟨bA, bB, bC⟩, ⟨bD, bE, bF⟩, ⟨bG, bH, bI⟩, _, rfl, sl3, fun o no => ?_⟩
    exact q o _ ((e1.trans z.1).trans (Ex0.new no)) upd_same
theorem ok_Element_entries (T : Txt K mg C_Form C_Ring C_Element) : MDef (fun p f => PropOf K C_Element "entries" p f) P w K mg base 1 ["self"] (sp_Element_entries K C_Form C_Ring C_Element) := by
  obtain ⟨p_, f_, fd_, R_, F_⟩ := T.e_Element_entries
  refine ⟨p_, f_, fd_, R_, F_.binds (ps := ["self"]) (fun _ _ _ _ _ _ us hl => match us, hl with | [_], _ => rfl), ?_⟩
  refine F_.ok sc_Element_entries (fun vs H Q E h => ?_) (fun cdv A outer s H vs Q E hr h => ?_)
  · first | (obtain ⟨rfl, _⟩ := h; rfl) | (obtain ⟨_, rfl, _⟩ := h; rfl) | (obtain ⟨_, _, rfl, _⟩ := h; rfl) | (obtain ⟨_, _, _, rfl, _⟩ := h; rfl) | (obtain ⟨_, _, _, _, rfl, _⟩ := h; rfl) | (obtain ⟨_, _, _, _, _, rfl, _⟩ := h; rfl) | (obtain ⟨_, _, _, _, _, _, rfl, _⟩ := h; rfl) | (obtain ⟨_, _, _, _, _, _, _, rfl, _⟩ := h; rfl) | (obtain ⟨_, _, _, _, _, _, _, _, rfl, _⟩ := h; rfl) | (obtain ⟨_, _, _, _, _, _, _, _, _, rfl, _⟩ := h; rfl) | (obtain ⟨_, _, _, _, _, _, _, _, _, _, rfl, _⟩ := h; rfl) | (obtain ⟨_, _, _, _, _, _, _, _, _, _, _, rfl, _⟩ := h; rfl) | (obtain ⟨_, _, _, _, _, _, _, _, _, _, _, _, rfl, _⟩ := h; rfl) | (obtain ⟨_, _, _, _, _, _, _, _, _, _, _, _, _, rfl, _⟩ := h; rfl) | (obtain ⟨_, _, _, _, _, _, _, _, _, _, _, _, _, _, rfl, _⟩ := h; rfl) | (obtain ⟨_, _, _, _, _, _, _, _, _, _, _, _, _, _, _, rfl, _⟩ := h; rfl) | (obtain ⟨_, _, _, _, _, _, _, _, _, _, _, _, _, _, _, _, rfl, _⟩ := h; rfl) | (obtain ⟨_, _, _, _, _, _, _, _, _, _, _, _, _, _, _, _, _, rfl, _⟩ := h; rfl) | (obtain ⟨_, _, _, _, _, _, _, _, _, _, _, _, _, _, _, _, _, _, rfl, _⟩ := h; rfl) | (obtain ⟨_, _, _, _, _, _, _, _, _, _, _, _, _, _, _, _, _, _, _, rfl, _⟩ := h; rfl) | (obtain ⟨_, _, _, _, _, _, _, _, _, _, _, _, _, _, _, _, _, _, _, _, rfl, _⟩ := h; rfl) | (obtain ⟨_, _, _, _, _, _, _, _, _, _, _, _, _, _, _, _, _, _, _, _, _, rfl, _⟩ := h; rfl) | (obtain ⟨_, _, _, _, _, _, _, _, _, _, _, _, _, _, _, _, _, _, _, _, _, _, rfl, _⟩ := h; rfl) | (obtain ⟨_, _, _, _, _, _, _, _, _, _, _, _, _, _, _, _, _, _, _, _, _, _, _, rfl, _⟩ := h; rfl)
  · obtain ⟨x, ns, u, y, z, b, rfl, ⟨de, r, t, he, hr, ht⟩, q⟩ := h
    refine ⟨_, (pss_one (ps_ret (pe_fld (pv 0) (by rfl)))), ?_⟩
    exact ⟨_, rfl, x, C_Element, de, _, .ref t, rfl, he, T.cl_Element, T.na_Element_entries, lkE, q t ht⟩
theorem ok_Element_bottom (T : Txt K mg C_Form C_Ring C_Element) : MDef (fun p f => PropOf K C_Element "bottom" p f) P w K mg base 1 ["self"] (sp_Element_bottom K C_Form C_Ring C_Element) := by
  obtain ⟨p_, f_, fd_, R_, F_⟩ := T.e_Element_bottom
  refine ⟨p_, f_, fd_, R_, F_.binds (ps := ["self"]) (fun _ _ _ _ _ _ us hl => match us, hl with | [_], _ => rfl), ?_⟩
  refine F_.ok sc_Element_bottom (fun vs H Q E h => ?_) (fun cdv A outer s H vs Q E hr h => ?_)
  · first | (obtain ⟨rfl, _⟩ := h; rfl) | (obtain ⟨_, rfl, _⟩ := h; rfl) | (obtain ⟨_, _, rfl, _⟩ := h; rfl) | (obtain ⟨_, _, _, rfl, _⟩ := h; rfl) | (obtain ⟨_, _, _, _, rfl, _⟩ := h; rfl) | (obtain ⟨_, _, _, _, _, rfl, _⟩ := h; rfl) | (obtain ⟨_, _, _, _, _, _, rfl, _⟩ := h; rfl) | (obtain ⟨_, _, _, _, _, _, _, rfl, _⟩ := h; rfl) | (obtain ⟨_, _, _, _, _, _, _, _, rfl, _⟩ := h; rfl) | (obtain ⟨_, _, _, _, _, _, _, _, _, rfl, _⟩ := h; rfl) | (obtain ⟨_, _, _, _, _, _, _, _, _, _, rfl, _⟩ := h; rfl) | (obtain ⟨_, _, _, _, _, _, _, _, _, _, _, rfl, _⟩ := h; rfl) | (obtain ⟨_, _, _, _, _, _, _, _, _, _, _, _, rfl, _⟩ := h; rfl) | (obtain ⟨_, _, _, _, _, _, _, _, _, _, _, _, _, rfl, _⟩ := h; rfl) | (obtain ⟨_, _, _, _, _, _, _, _, _, _, _, _, _, _, rfl, _⟩ := h; rfl) | (obtain ⟨_, _, _, _, _, _, _, _, _, _, _, _, _, _, _, rfl, _⟩ := h; rfl) | (obtain ⟨_, _, _, _, _, _, _, _, _, _, _, _, _, _, _, _, rfl, _⟩ := h; rfl) | (obtain ⟨_, _, _, _, _, _, _, _, _, _, _, _, _, _, _, _, _, rfl, _⟩ := h; rfl) | (obtain ⟨_, _, _, _, _, _, _, _, _, _, _, _, _, _, _, _, _, _, rfl, _⟩ := h; rfl) | (obtain ⟨_, _, _, _, _, _, _, _, _, _, _, _, _, _, _, _, _, _, _, rfl, _⟩ := h; rfl) | (obtain ⟨_, _, _, _, _, _, _, _, _, _, _, _, _, _, _, _, _, _, _, _, rfl, _⟩ := h; rfl) | (obtain ⟨_, _, _, _, _, _, _, _, _, _, _, _, _, _, _, _, _, _, _, _, _, rfl, _⟩ := h; rfl) | (obtain ⟨_, _, _, _, _, _, _, _, _, _, _, _, _, _, _, _, _, _, _, _, _, _, rfl, _⟩ := h; rfl) | (obtain ⟨_, _, _, _, _, _, _, _, _, _, _, _, _, _, _, _, _, _, _, _, _, _, _, rfl, _⟩ := h; rfl)
  · obtain ⟨x, ns, u, y, z, b, rfl, ⟨de, r, t, he, hr, ht⟩, q⟩ := h
    refine ⟨_, (pss_one (ps_ret (pe_fld (pv 0) (by rfl)))), ?_⟩
    exact ⟨_, rfl, x, C_Element, de, _, .int b, rfl, he, T.cl_Element, T.na_Element_bottom, lkB, q⟩
theorem ok_Element___bool__ (T : Txt K mg C_Form C_Ring C_Element) : MDef (fun p f => Meth K C_Element "__bool__" f) P w K mg base 1 ["self"] (sp_Element___bool__ K C_Form C_Ring C_Element) := by
  obtain ⟨p_, f_, fd_, R_, F_⟩ := T.e_Element___bool__
  refine ⟨p_, f_, fd_, R_, F_.binds (ps := ["self"]) (fun _ _ _ _ _ _ us hl => match us, hl with | [_], _ => rfl), ?_⟩
  refine F_.ok sc_Element___bool__ (fun vs H Q E h => ?_) (fun cdv A outer s H vs Q E hr h => ?_)
  · first | (obtain ⟨rfl, _⟩ := h; rfl) | (obtain ⟨_, rfl, _⟩ := h; rfl) | (obtain ⟨_, _, rfl, _⟩ := h; rfl) | (obtain ⟨_, _, _, rfl, _⟩ := h; rfl) | (obtain ⟨_, _, _, _, rfl, _⟩ := h; rfl) | (obtain ⟨_, _, _, _, _, rfl, _⟩ := h; rfl) | (obtain ⟨_, _, _, _, _, _, rfl, _⟩ := h; rfl) | (obtain ⟨_, _, _, _, _, _, _, rfl, _⟩ := h; rfl) | (obtain ⟨_, _, _, _, _, _, _, _, rfl, _⟩ := h; rfl) | (obtain ⟨_, _, _, _, _, _, _, _, _, rfl, _⟩ := h; rfl) | (obtain ⟨_, _, _, _, _, _, _, _, _, _, rfl, _⟩ := h; rfl) | (obtain ⟨_, _, _, _, _, _, _, _, _, _, _, rfl, _⟩ := h; rfl) | (obtain ⟨_, _, _, _, _, _, _, _, _, _, _, _, rfl, _⟩ := h; rfl) | (obtain ⟨_, _, _, _, _, _, _, _, _, _, _, _, _, rfl, _⟩ := h; rfl) | (obtain ⟨_, _, _, _, _, _, _, _, _, _, _, _, _, _, rfl, _⟩ := h; rfl) | (obtain ⟨_, _, _, _, _, _, _, _, _, _, _, _, _, _, _, rfl, _⟩ := h; rfl) | (obtain ⟨_, _, _, _, _, _, _, _, _, _, _, _, _, _, _, _, rfl, _⟩ := h; rfl) | (obtain ⟨_, _, _, _, _, _, _, _, _, _, _, _, _, _, _, _, _, rfl, _⟩ := h; rfl) | (obtain ⟨_, _, _, _, _, _, _, _, _, _, _, _, _, _, _, _, _, _, rfl, _⟩ := h; rfl) | (obtain ⟨_, _, _, _, _, _, _, _, _, _, _, _, _, _, _, _, _, _, _, rfl, _⟩ := h; rfl) | (obtain ⟨_, _, _, _, _, _, _, _, _, _, _, _, _, _, _, _, _, _, _, _, rfl, _⟩ := h; rfl) | (obtain ⟨_, _, _, _, _, _, _, _, _, _, _, _, _, _, _, _, _, _, _, _, _, rfl, _⟩ := h; rfl) | (obtain ⟨_, _, _, _, _, _, _, _, _, _, _, _, _, _, _, _, _, _, _, _, _, _, rfl, _⟩ := h; rfl) | (obtain ⟨_, _, _, _, _, _, _, _, _, _, _, _, _, _, _, _, _, _, _, _, _, _, _, rfl, _⟩ := h; rfl)
  · obtain ⟨x, ns, u, y, z, b, rfl, ⟨de, r, t, he, hr, ht⟩, q⟩ := h
    refine ⟨_, (pss_one (ps_ret (pe_callB (cr_anyT rfl) (by rfl) T.b_any (by decide +kernel) (pa_cons (pe_fld (pv 0) (by rfl)) pa_nil)))), ?_⟩
    exact ⟨_, rfl, x, C_Element, de, _, .ref t, rfl, he, T.cl_Element, T.na_Element_entries, lkE, t, [u, y, z], rfl, SqT.of ht, q⟩
end
end RG
namespace RG
open PySem PySem.Spec PyProof.Rows L2 Fr
theorem pow2 (e : Int) : e ^ (2 : Int).toNat = e * e := by
  show e ^ 2 = _
  rw [Int.pow_succ, Int.pow_succ, Int.pow_zero, Int.one_mul]
theorem pow3 (e : Int) : e ^ (3 : Int).toNat = e * e * e := by
  show e ^ 3 = _
  rw [Int.pow_succ, Int.pow_succ, Int.pow_succ, Int.pow_zero, Int.one_mul]
theorem cpow {e : Int} {k : Int} (h0 : 0 < e) (h1 : e < 2 ^ 900) (hk : 0 ≤ k ∧ k ≤ 3) : CPowC e k := by
  refine ⟨hk.1, ?_⟩
  have : Builtin.Int.intBits e ≤ 900 := intBits_le_iff.mpr (by
    have : ((e.natAbs : Nat) : Int) < ((2 ^ 900 : Nat) : Int) := by
      rw [Int.natAbs_of_nonneg (by omega)]
      exact_mod_cast h1
    exact Int.ofNat_lt.mp this)
  have h3 : (Builtin.Int.intBits e : Int) * k ≤ 900 * 3 := Int.mul_le_mul (by omega) hk.2 hk.1 (by decide)
  omega
theorem cube_lt {e : Int} (h0 : 0 < e) (h1 : e < 2 ^ 900) : e * e * e < 2 ^ 3000 := by
  have a1 : e * e ≤ 2 ^ 900 * 2 ^ 900 := Int.mul_le_mul (by omega) (by omega) (by omega) (by decide)
  have a2 : e * e * e ≤ (2 ^ 900 * 2 ^ 900) * 2 ^ 900 := Int.mul_le_mul a1 (by omega) (by omega) (by decide)
  exact Int.lt_of_le_of_lt a2 (by decide)
theorem sq_lt {e : Int} (h0 : 0 < e) (h1 : e < 2 ^ 900) : e * e < 2 ^ 3000 := by
  have a1 : e * e ≤ 2 ^ 900 * 2 ^ 900 := Int.mul_le_mul (by omega) (by omega) (by omega) (by decide)
  exact Int.lt_of_le_of_lt a1 (by decide)
theorem low1 {u y z u' y' z' b' : Int} (h : Low u y z 1 u' y' z' b') : u' = u ∧ y' = y ∧ z' = z ∧ b' = 1 := by
  obtain ⟨g, h1, h2, h3, h4, h5, _⟩ := h
  have g0 : 0 < g := by
    rcases Int.lt_or_le 0 g with k | k
    · exact k
    · have := Int.mul_nonneg (show 0 ≤ -g by omega) (show 0 ≤ b' by omega)
      rw [Int.neg_mul] at this
      omega
  have g1 : g = 1 := by
    rcases Int.lt_or_le 1 g with k | k
    · have := Int.mul_le_mul_of_nonneg_left (show 1 ≤ b' by omega) (show 0 ≤ g by omega)
      omega
    · omega
  subst g1
  omega
theorem tq_made {K : PySem.W.Frag} {H : Hp} {x dx t : Addr} {o1 o2 : HO} {ns : List Int} (nx : H x = none) (ndx : H dx = none) (h : Tq K H t ns) : Tq K (upd (upd H dx o1) x o2) t ns := by
  rcases h with h | h
  · left
    rcases h with h | ⟨o, h⟩
    · left
      rw [upd_ne (ne_of_none h nx), upd_ne (ne_of_none h ndx)]
      exact h
    · right
      refine ⟨o, ?_⟩
      rw [upd_ne (ne_of_none h nx), upd_ne (ne_of_none h ndx)]
      exact h
  · exact .inr h
section
variable {P : Program} {w : World} {K : PySem.W.Frag} {mg : Str → Option Value} {base : Heap} {C_Form C_Ring C_Element : Addr}
theorem ok_Ring_one (T : Txt K mg C_Form C_Ring C_Element) : MDef (fun p f => Meth K C_Ring "one" f) P w K mg base 4 ["self"] (sp_Ring_one K C_Form C_Ring C_Element) := by
  obtain ⟨p_, f_, fd_, R_, F_⟩ := T.e_Ring_one
  obtain ⟨p_Element___init__, f_Element___init__, fd_Element___init__, R_Element___init__, b_Element___init__, G_Element___init__⟩ := (ok_Element___init__ (P := P) (w := w) (base := base) T)
  refine ⟨p_, f_, fd_, R_, F_.binds (ps := ["self"]) (fun _ _ _ _ _ _ us hl => match us, hl with | [_], _ => rfl), ?_⟩
  refine F_.ok sc_Ring_one (fun vs H Q E h => ?_) (fun cdv A outer s H vs Q E hr h => ?_)
  · first | (obtain ⟨rfl, _⟩ := h; rfl) | (obtain ⟨_, rfl, _⟩ := h; rfl) | (obtain ⟨_, _, rfl, _⟩ := h; rfl) | (obtain ⟨_, _, _, rfl, _⟩ := h; rfl) | (obtain ⟨_, _, _, _, rfl, _⟩ := h; rfl) | (obtain ⟨_, _, _, _, _, rfl, _⟩ := h; rfl) | (obtain ⟨_, _, _, _, _, _, rfl, _⟩ := h; rfl) | (obtain ⟨_, _, _, _, _, _, _, rfl, _⟩ := h; rfl) | (obtain ⟨_, _, _, _, _, _, _, _, rfl, _⟩ := h; rfl) | (obtain ⟨_, _, _, _, _, _, _, _, _, rfl, _⟩ := h; rfl) | (obtain ⟨_, _, _, _, _, _, _, _, _, _, rfl, _⟩ := h; rfl) | (obtain ⟨_, _, _, _, _, _, _, _, _, _, _, rfl, _⟩ := h; rfl) | (obtain ⟨_, _, _, _, _, _, _, _, _, _, _, _, rfl, _⟩ := h; rfl) | (obtain ⟨_, _, _, _, _, _, _, _, _, _, _, _, _, rfl, _⟩ := h; rfl) | (obtain ⟨_, _, _, _, _, _, _, _, _, _, _, _, _, _, rfl, _⟩ := h; rfl) | (obtain ⟨_, _, _, _, _, _, _, _, _, _, _, _, _, _, _, rfl, _⟩ := h; rfl) | (obtain ⟨_, _, _, _, _, _, _, _, _, _, _, _, _, _, _, _, rfl, _⟩ := h; rfl) | (obtain ⟨_, _, _, _, _, _, _, _, _, _, _, _, _, _, _, _, _, rfl, _⟩ := h; rfl) | (obtain ⟨_, _, _, _, _, _, _, _, _, _, _, _, _, _, _, _, _, _, rfl, _⟩ := h; rfl) | (obtain ⟨_, _, _, _, _, _, _, _, _, _, _, _, _, _, _, _, _, _, _, rfl, _⟩ := h; rfl) | (obtain ⟨_, _, _, _, _, _, _, _, _, _, _, _, _, _, _, _, _, _, _, _, rfl, _⟩ := h; rfl) | (obtain ⟨_, _, _, _, _, _, _, _, _, _, _, _, _, _, _, _, _, _, _, _, _, rfl, _⟩ := h; rfl) | (obtain ⟨_, _, _, _, _, _, _, _, _, _, _, _, _, _, _, _, _, _, _, _, _, _, rfl, _⟩ := h; rfl) | (obtain ⟨_, _, _, _, _, _, _, _, _, _, _, _, _, _, _, _, _, _, _, _, _, _, _, rfl, _⟩ := h; rfl)
  · obtain ⟨r, ns, rfl, hR, q⟩ := h
    obtain ⟨A_UNITS, h_UNITS, i_UNITS⟩ := T.k_UNITS
    refine ⟨_, (pss_one (ps_ret (pe_make R_Element___init__ G_Element___init__ (hr.mono (by decide)) (by rfl) T.g_Element b_Element___init__ .nil pass0 (pa_cons (pv 0) (pa_cons (pe_ix ix_tup (pe_glob (v := .ref A_UNITS) (by rfl) h_UNITS rfl) pe_int (fun _ _ => rfl)) (pa_cons pe_int pa_nil)))))), ?_⟩
    obtain ⟨U1, U2, U3, hU, k1, k2, k3⟩ := i_UNITS H
    refine ⟨_, rfl, A_UNITS, _, 0, .ref U1, rfl, rfl, hU, rfl, fun x dx nx ndx _ => ?_⟩
    refine ⟨x, dx, r, U1, 1, 0, 0, 1, rfl, upd_same, tq_made nx ndx k1, by decide, ⟨by decide, by decide⟩, fun H2 t' u' y' z' b' low e2 nt e3 ht' => ⟨rfl, ?_⟩⟩
    obtain ⟨rfl, rfl, rfl, rfl⟩ := low1 low
    obtain ⟨f1, f2⟩ := el_made (t := U1) nx ndx hR e2 e3 ht'
    exact q x H2 f1 f2
theorem ok_mixed (T : Txt K mg C_Form C_Ring C_Element) : Def P w K mg base 4 "mixed" ["first", "second", "sign"] (sp_mixed K C_Form C_Ring C_Element) := by
  obtain ⟨f_, fd_, g_, F_⟩ := T.d_mixed
  obtain ⟨p_Element___init__, f_Element___init__, fd_Element___init__, R_Element___init__, b_Element___init__, G_Element___init__⟩ := (ok_Element___init__ (P := P) (w := w) (base := base) T)
  obtain ⟨p_Element_bottom, f_Element_bottom, fd_Element_bottom, R_Element_bottom, b_Element_bottom, G_Element_bottom⟩ := (ok_Element_bottom (P := P) (w := w) (base := base) T)
  obtain ⟨p_Element_entries, f_Element_entries, fd_Element_entries, R_Element_entries, b_Element_entries, G_Element_entries⟩ := (ok_Element_entries (P := P) (w := w) (base := base) T)
  obtain ⟨p_Element_ring, f_Element_ring, fd_Element_ring, R_Element_ring, b_Element_ring, G_Element_ring⟩ := (ok_Element_ring (P := P) (w := w) (base := base) T)
  refine ⟨f_, fd_, g_, F_.kp, F_.binds (ps := ["first", "second", "sign"]) (fun _ _ _ _ _ _ us hl => match us, hl with | [_, _, _], _ => rfl), ?_⟩
  refine F_.ok sc_mixed (fun vs H Q E h => ?_) (fun cdv A outer s H vs Q E hr h => ?_)
  · first | (obtain ⟨rfl, _⟩ := h; rfl) | (obtain ⟨_, rfl, _⟩ := h; rfl) | (obtain ⟨_, _, rfl, _⟩ := h; rfl) | (obtain ⟨_, _, _, rfl, _⟩ := h; rfl) | (obtain ⟨_, _, _, _, rfl, _⟩ := h; rfl) | (obtain ⟨_, _, _, _, _, rfl, _⟩ := h; rfl) | (obtain ⟨_, _, _, _, _, _, rfl, _⟩ := h; rfl) | (obtain ⟨_, _, _, _, _, _, _, rfl, _⟩ := h; rfl) | (obtain ⟨_, _, _, _, _, _, _, _, rfl, _⟩ := h; rfl) | (obtain ⟨_, _, _, _, _, _, _, _, _, rfl, _⟩ := h; rfl) | (obtain ⟨_, _, _, _, _, _, _, _, _, _, rfl, _⟩ := h; rfl) | (obtain ⟨_, _, _, _, _, _, _, _, _, _, _, rfl, _⟩ := h; rfl) | (obtain ⟨_, _, _, _, _, _, _, _, _, _, _, _, rfl, _⟩ := h; rfl) | (obtain ⟨_, _, _, _, _, _, _, _, _, _, _, _, _, rfl, _⟩ := h; rfl) | (obtain ⟨_, _, _, _, _, _, _, _, _, _, _, _, _, _, rfl, _⟩ := h; rfl) | (obtain ⟨_, _, _, _, _, _, _, _, _, _, _, _, _, _, _, rfl, _⟩ := h; rfl) | (obtain ⟨_, _, _, _, _, _, _, _, _, _, _, _, _, _, _, _, rfl, _⟩ := h; rfl) | (obtain ⟨_, _, _, _, _, _, _, _, _, _, _, _, _, _, _, _, _, rfl, _⟩ := h; rfl) | (obtain ⟨_, _, _, _, _, _, _, _, _, _, _, _, _, _, _, _, _, _, rfl, _⟩ := h; rfl) | (obtain ⟨_, _, _, _, _, _, _, _, _, _, _, _, _, _, _, _, _, _, _, rfl, _⟩ := h; rfl) | (obtain ⟨_, _, _, _, _, _, _, _, _, _, _, _, _, _, _, _, _, _, _, _, rfl, _⟩ := h; rfl) | (obtain ⟨_, _, _, _, _, _, _, _, _, _, _, _, _, _, _, _, _, _, _, _, _, rfl, _⟩ := h; rfl) | (obtain ⟨_, _, _, _, _, _, _, _, _, _, _, _, _, _, _, _, _, _, _, _, _, _, rfl, _⟩ := h; rfl) | (obtain ⟨_, _, _, _, _, _, _, _, _, _, _, _, _, _, _, _, _, _, _, _, _, _, _, rfl, _⟩ := h; rfl)
  · obtain ⟨x, x', ns, ms, u, y, z, e, v, s', r, f, n, rfl, h1, h2, bu, bv, be, bf, hne, hn, q⟩ := h
    obtain ⟨d1, r1, t1, g1, g2, g3⟩ := id h1
    obtain ⟨d2, r2, t2, k1, k2, k3⟩ := id h2
    refine ⟨_, (pss_cons (ps_asg (pe_tup (pa_cons (pe_op op_mulW (pv 2) (pe_prop (pv 0) T.cl_Element R_Element_bottom G_Element_bottom (hr.mono (by decide)) b_Element_bottom .nil pass0 (by rfl))) (pa_cons (pe_prop (pv 1) T.cl_Element R_Element_bottom G_Element_bottom (hr.mono (by decide)) b_Element_bottom .nil pass0 (by rfl)) pa_nil))) (pg_tup (by rfl) (pgs_cons (pg_name (i := 3) sc_mixed.nd rfl (.inr rfl)) (pgs_cons (pg_name (i := 4) sc_mixed.nd rfl (.inr rfl)) pgs_nil))))
    (pss_cons (ps_set (i := 5) sc_mixed.nd rfl (.inl rfl) (pe_callTy call_tuple_of (by rfl) T.b_tuple (by decide +kernel) (pa_cons (pe_lc (own := [("one", 6), ("other", 7)]) (g := (gTup K 2 (gCons (gName 6) (gCons (gName 7) gNil)))) rfl sc_mixed.nd (RZ.pi_zipA (by rfl) T.b_zip (pa_cons (pe_prop (pv 0) T.cl_Element R_Element_entries G_Element_entries (hr.mono (by decide)) b_Element_entries .nil pass0 (by rfl)) (pa_cons (pe_prop (pv 1) T.cl_Element R_Element_entries G_Element_entries (hr.mono (by decide)) b_Element_entries .nil pass0 (by rfl)) pa_nil))) (blkOk_by (N := N_mixed) (sc := defScope s_mixed) (by decide +kernel)) (fun _ _ _ _ _ => (pg_tup (by rfl) (pgs_cons (pg_name (i := 6) sc_mixed.nd rfl (.inl rfl)) (pgs_cons (pg_name (i := 7) sc_mixed.nd rfl (.inl rfl)) pgs_nil)))) (fun _ _ _ _ _ => pts_nil) (fun _ _ _ _ _ => (pe_op op_add (pe_op op_mulW (pv 6) (pv 4)) (pe_op op_mulW (pv 7) (pv 3))))) pa_nil)))
    (pss_one (ps_ret (pe_make R_Element___init__ G_Element___init__ (hr.mono (by decide)) (by rfl) T.g_Element b_Element___init__ .nil pass0 (pa_cons (pe_prop (pv 0) T.cl_Element R_Element_ring G_Element_ring (hr.mono (by decide)) b_Element_ring .nil pass0 (by rfl)) (pa_cons (pv 5) (pa_cons (pe_op op_mulW (pe_prop (pv 0) T.cl_Element R_Element_bottom G_Element_bottom (hr.mono (by decide)) b_Element_bottom .nil pass0 (by rfl)) (pe_prop (pv 1) T.cl_Element R_Element_bottom G_Element_bottom (hr.mono (by decide)) b_Element_bottom .nil pass0 (by rfl))) pa_nil)))))))), ?_⟩
    have bn : B 2 n := by rcases hn with rfl | rfl <;> exact ⟨by decide, by decide⟩
    refine ⟨_, rfl, _, rfl, x, d1, _, rfl, g1, x, ns, u, y, z, e, rfl, h1, _, _, rfl, rfl, mulB bn be (by decide), ?_⟩
    refine ⟨_, rfl, x', d2, _, rfl, k1, x', ms, v, s', r, f, rfl, h2, sl2, fun p np => ?_⟩
    have e0 : Ex0 H (upd H p (.tup [.int (n * e), .int f])) := Ex0.new np
    refine ⟨p, _, rfl, SqT.of upd_same, rfl, _, _, rfl, _, _, rfl, rfl, ?_⟩
    have h1' := Ex0.el e0 h1
    have h2' := Ex0.el e0 h2
    have g1' := Ex0.ap e0 g1
    have k1' := Ex0.ap e0 k1
    generalize upd H p (.tup [.int (n * e), .int f]) = H1 at e0 h1' h2' g1' k1' ⊢
    refine ⟨_, rfl, x, d1, _, rfl, g1', x, ns, u, y, z, e, rfl, h1', fun t ht => ?_⟩
    refine ⟨_, rfl, x', d2, _, rfl, k1', x', ms, v, s', r, f, rfl, h2', fun t' ht' => ⟨t, t', _, _, rfl, .inr ⟨SqT.of ht, SqT.of ht', ?_⟩⟩⟩
    refine lcP (walk_zipT (K := K) (xs := ([u, y, z] : List Int).map V.int) (ys := ([v, s', r] : List Int).map V.int) rfl) fm0 trivial (fun H' e => ⟨SqT.of (Ex0.ti e ht), SqT.of (Ex0.ti e ht')⟩) (fun i acc _ => acc = (([u * f + v * (n * e), y * f + s' * (n * e), z * f + r * (n * e)] : List Int).take i).map V.int) (fun _ _ => rfl) (fun D i T x1 y1 acc H' hD hi fx fy e3 hA hlen hp hT => ?_) (fun D H' acc hD e3 hA hp => ?_)
    · obtain ⟨k, hk, rfl⟩ := get_int fx
      obtain ⟨l, hl, rfl⟩ := get_int fy
      have hi3 : i < 3 := hi
      have bk : B 9000 k := by
        match i, hk with
        | 0, hk => rw [← Option.some.inj hk]; exact bu.1
        | 1, hk => rw [← Option.some.inj hk]; exact bu.2.1
        | 2, hk => rw [← Option.some.inj hk]; exact bu.2.2
      have bl : B 9000 l := by
        match i, hl with
        | 0, hk => rw [← Option.some.inj hk]; exact bv.1
        | 1, hk => rw [← Option.some.inj hk]; exact bv.2.1
        | 2, hk => rw [← Option.some.inj hk]; exact bv.2.2
      refine ⟨T, _, rfl, SqT.of upd_same, rfl, _, _, rfl, _, _, rfl, rfl, ⟨rfl, ?_⟩⟩
      refine ⟨_, rfl, _, rfl, _, _, rfl, rfl, mulB bk bf (by decide), _, rfl, _, rfl, _, _, rfl, rfl, mulB bl (B.mul bn be) (by decide), _, _, rfl, rfl, ?_⟩
      refine cs_yes fm0 trivial hD e3 hA hlen (by omega) (Ex0.new hT) ?_
      show acc ++ [V.int (k * f + l * (n * e))] = _
      rw [hp]
      match i, hk, hl with
      | 0, hk, hl => rw [← Option.some.inj hk, ← Option.some.inj hl]; rfl
      | 1, hk, hl => rw [← Option.some.inj hk, ← Option.some.inj hl]; rfl
      | 2, hk, hl => rw [← Option.some.inj hk, ← Option.some.inj hl]; rfl
    · refine ⟨D, _, rfl, .inl ⟨SqL.of hA, fun p2 np2 => ?_⟩⟩
      have hp' : acc = [.int (u * f + v * (n * e)), .int (y * f + s' * (n * e)), .int (z * f + r * (n * e))] := hp
      subst hp'
      have e4 : Ex0 H1 (upd H' p2 (.tup [.int (u * f + v * (n * e)), .int (y * f + s' * (n * e)), .int (z * f + r * (n * e))])) := Fx.trans e3 (Ex0.new np2)
      have hT : Ti (upd H' p2 (.tup [.int (u * f + v * (n * e)), .int (y * f + s' * (n * e)), .int (z * f + r * (n * e))])) p2 [u * f + v * (n * e), y * f + s' * (n * e), z * f + r * (n * e)] := upd_same
      have g2' := Ex0.ap e4 g1'
      have k2' := Ex0.ap e4 k1'
      have h3 := Ex0.el e4 h1'
      have h4 := Ex0.el e4 h2'
      have e5 := e0.trans e4
      generalize upd H' p2 (.tup [.int (u * f + v * (n * e)), .int (y * f + s' * (n * e)), .int (z * f + r * (n * e))]) = H2 at hT g2' k2' h3 h4 e5 ⊢
      refine ⟨_, rfl, x, d1, _, rfl, g2', x, ns, u, y, z, e, rfl, h3, fun R hR => ⟨_, rfl, ?_⟩⟩
      refine ⟨_, rfl, x, d1, _, rfl, g2', x, ns, u, y, z, e, rfl, h3, ?_⟩
      refine ⟨_, rfl, x', d2, _, rfl, k2', x', ms, v, s', r, f, rfl, h4, _, _, rfl, rfl, mulB be bf (by decide), fun y0 dy nx ndx _ => ?_⟩
      refine ⟨y0, dy, R, p2, _, _, _, e * f, rfl, upd_same, SqT.of (made_at nx ndx hT), hne, (B.mul be bf).mono (by decide), fun H3 t3 u' y' z' b' low e6 nt e7 ht3 => ⟨rfl, ?_⟩⟩
      obtain ⟨f1, f2⟩ := el_made (t := p2) nx ndx hR e6 e7 ht3
      exact q y0 H3 u' y' z' b' low (e5.trans f1) f2
theorem ok_Element___add__ (T : Txt K mg C_Form C_Ring C_Element) : MDef (fun p f => BinC K C_Element "__add__" f) P w K mg base 5 ["self", "other"] (sp_Element___add__ K C_Form C_Ring C_Element) := by
  obtain ⟨p_, f_, fd_, R_, F_⟩ := T.e_Element___add__
  obtain ⟨f_check_one_ring, fd_check_one_ring, g_check_one_ring, k_check_one_ring, b_check_one_ring, G_check_one_ring⟩ := (ok_check_one_ring (P := P) (w := w) (base := base) T)
  obtain ⟨f_mixed, fd_mixed, g_mixed, k_mixed, b_mixed, G_mixed⟩ := (ok_mixed (P := P) (w := w) (base := base) T)
  refine ⟨p_, f_, fd_, R_, F_.binds (ps := ["self", "other"]) (fun _ _ _ _ _ _ us hl => match us, hl with | [_, _], _ => rfl), ?_⟩
  refine F_.ok sc_Element___add__ (fun vs H Q E h => ?_) (fun cdv A outer s H vs Q E hr h => ?_)
  · first | (obtain ⟨rfl, _⟩ := h; rfl) | (obtain ⟨_, rfl, _⟩ := h; rfl) | (obtain ⟨_, _, rfl, _⟩ := h; rfl) | (obtain ⟨_, _, _, rfl, _⟩ := h; rfl) | (obtain ⟨_, _, _, _, rfl, _⟩ := h; rfl) | (obtain ⟨_, _, _, _, _, rfl, _⟩ := h; rfl) | (obtain ⟨_, _, _, _, _, _, rfl, _⟩ := h; rfl) | (obtain ⟨_, _, _, _, _, _, _, rfl, _⟩ := h; rfl) | (obtain ⟨_, _, _, _, _, _, _, _, rfl, _⟩ := h; rfl) | (obtain ⟨_, _, _, _, _, _, _, _, _, rfl, _⟩ := h; rfl) | (obtain ⟨_, _, _, _, _, _, _, _, _, _, rfl, _⟩ := h; rfl) | (obtain ⟨_, _, _, _, _, _, _, _, _, _, _, rfl, _⟩ := h; rfl) | (obtain ⟨_, _, _, _, _, _, _, _, _, _, _, _, rfl, _⟩ := h; rfl) | (obtain ⟨_, _, _, _, _, _, _, _, _, _, _, _, _, rfl, _⟩ := h; rfl) | (obtain ⟨_, _, _, _, _, _, _, _, _, _, _, _, _, _, rfl, _⟩ := h; rfl) | (obtain ⟨_, _, _, _, _, _, _, _, _, _, _, _, _, _, _, rfl, _⟩ := h; rfl) | (obtain ⟨_, _, _, _, _, _, _, _, _, _, _, _, _, _, _, _, rfl, _⟩ := h; rfl) | (obtain ⟨_, _, _, _, _, _, _, _, _, _, _, _, _, _, _, _, _, rfl, _⟩ := h; rfl) | (obtain ⟨_, _, _, _, _, _, _, _, _, _, _, _, _, _, _, _, _, _, rfl, _⟩ := h; rfl) | (obtain ⟨_, _, _, _, _, _, _, _, _, _, _, _, _, _, _, _, _, _, _, rfl, _⟩ := h; rfl) | (obtain ⟨_, _, _, _, _, _, _, _, _, _, _, _, _, _, _, _, _, _, _, _, rfl, _⟩ := h; rfl) | (obtain ⟨_, _, _, _, _, _, _, _, _, _, _, _, _, _, _, _, _, _, _, _, _, rfl, _⟩ := h; rfl) | (obtain ⟨_, _, _, _, _, _, _, _, _, _, _, _, _, _, _, _, _, _, _, _, _, _, rfl, _⟩ := h; rfl) | (obtain ⟨_, _, _, _, _, _, _, _, _, _, _, _, _, _, _, _, _, _, _, _, _, _, _, rfl, _⟩ := h; rfl)
  · obtain ⟨x, x', ns, u, y, z, e, v, s', r', f, rfl, h1, h2, bu, bv, be, bf, hne, q⟩ := h
    obtain ⟨dx, r, t, hx, hR, ht⟩ := id h1
    obtain ⟨dx2, r2, t2, hx2, hR2, ht2⟩ := id h2
    refine ⟨_, (pss_cons (ps_if (pt_not (pt_val (pe_callB call_isi (by rfl) T.b_isinstance (by decide +kernel) (pa_cons (pv 1) (pa_cons (pe_glob (v := .ref C_Element) (by rfl) T.g_Element rfl) pa_nil)))))
      (pss_one ps_never)
      pss_nil)
    (pss_cons (ps_expr (pe_call G_check_one_ring (hr.mono (by decide)) (by rfl) g_check_one_ring k_check_one_ring b_check_one_ring .nil pass0 (pa_cons (pv 0) (pa_cons (pv 1) pa_nil))))
    (pss_one (ps_ret (pe_call G_mixed (hr.mono (by decide)) (by rfl) g_mixed k_mixed b_mixed .nil pass0 (pa_cons (pv 0) (pa_cons (pv 1) (pa_cons pe_int pa_nil)))))))), ?_⟩
    refine ⟨_, rfl, _, _, _, _, true, rfl, .own _, ty_ins T.ty_Element T.cl_Element hx2, kit_self, _, rfl, ?_⟩
    refine iteF ⟨_, rfl, _, rfl, x, x', _, u, y, z, e, v, s', r', f, rfl, h1, h2, ?_⟩
    exact ⟨_, rfl, _, rfl, x, x', ns, ns, u, y, z, e, v, s', r', f, 1, rfl, h1, h2, bu, bv, be, bf, hne, .inl rfl, fun o H' u' y' z' b' low e1 ho => q o H' u' y' z' b' low e1 ho⟩
theorem ok_Ring_w (T : Txt K mg C_Form C_Ring C_Element) : MDef (fun p f => Meth K C_Ring "w" f) P w K mg base 4 ["self"] (sp_Ring_w K C_Form C_Ring C_Element) := by
  obtain ⟨p_, f_, fd_, R_, F_⟩ := T.e_Ring_w
  obtain ⟨p_Element___init__, f_Element___init__, fd_Element___init__, R_Element___init__, b_Element___init__, G_Element___init__⟩ := (ok_Element___init__ (P := P) (w := w) (base := base) T)
  refine ⟨p_, f_, fd_, R_, F_.binds (ps := ["self"]) (fun _ _ _ _ _ _ us hl => match us, hl with | [_], _ => rfl), ?_⟩
  refine F_.ok sc_Ring_w (fun vs H Q E h => ?_) (fun cdv A outer s H vs Q E hr h => ?_)
  · first | (obtain ⟨rfl, _⟩ := h; rfl) | (obtain ⟨_, rfl, _⟩ := h; rfl) | (obtain ⟨_, _, rfl, _⟩ := h; rfl) | (obtain ⟨_, _, _, rfl, _⟩ := h; rfl) | (obtain ⟨_, _, _, _, rfl, _⟩ := h; rfl) | (obtain ⟨_, _, _, _, _, rfl, _⟩ := h; rfl) | (obtain ⟨_, _, _, _, _, _, rfl, _⟩ := h; rfl) | (obtain ⟨_, _, _, _, _, _, _, rfl, _⟩ := h; rfl) | (obtain ⟨_, _, _, _, _, _, _, _, rfl, _⟩ := h; rfl) | (obtain ⟨_, _, _, _, _, _, _, _, _, rfl, _⟩ := h; rfl) | (obtain ⟨_, _, _, _, _, _, _, _, _, _, rfl, _⟩ := h; rfl) | (obtain ⟨_, _, _, _, _, _, _, _, _, _, _, rfl, _⟩ := h; rfl) | (obtain ⟨_, _, _, _, _, _, _, _, _, _, _, _, rfl, _⟩ := h; rfl) | (obtain ⟨_, _, _, _, _, _, _, _, _, _, _, _, _, rfl, _⟩ := h; rfl) | (obtain ⟨_, _, _, _, _, _, _, _, _, _, _, _, _, _, rfl, _⟩ := h; rfl) | (obtain ⟨_, _, _, _, _, _, _, _, _, _, _, _, _, _, _, rfl, _⟩ := h; rfl) | (obtain ⟨_, _, _, _, _, _, _, _, _, _, _, _, _, _, _, _, rfl, _⟩ := h; rfl) | (obtain ⟨_, _, _, _, _, _, _, _, _, _, _, _, _, _, _, _, _, rfl, _⟩ := h; rfl) | (obtain ⟨_, _, _, _, _, _, _, _, _, _, _, _, _, _, _, _, _, _, rfl, _⟩ := h; rfl) | (obtain ⟨_, _, _, _, _, _, _, _, _, _, _, _, _, _, _, _, _, _, _, rfl, _⟩ := h; rfl) | (obtain ⟨_, _, _, _, _, _, _, _, _, _, _, _, _, _, _, _, _, _, _, _, rfl, _⟩ := h; rfl) | (obtain ⟨_, _, _, _, _, _, _, _, _, _, _, _, _, _, _, _, _, _, _, _, _, rfl, _⟩ := h; rfl) | (obtain ⟨_, _, _, _, _, _, _, _, _, _, _, _, _, _, _, _, _, _, _, _, _, _, rfl, _⟩ := h; rfl) | (obtain ⟨_, _, _, _, _, _, _, _, _, _, _, _, _, _, _, _, _, _, _, _, _, _, _, rfl, _⟩ := h; rfl)
  · obtain ⟨r, ns, rfl, hR, q⟩ := h
    obtain ⟨A_UNITS, h_UNITS, i_UNITS⟩ := T.k_UNITS
    refine ⟨_, (pss_one (ps_ret (pe_make R_Element___init__ G_Element___init__ (hr.mono (by decide)) (by rfl) T.g_Element b_Element___init__ .nil pass0 (pa_cons (pv 0) (pa_cons (pe_ix ix_tup (pe_glob (v := .ref A_UNITS) (by rfl) h_UNITS rfl) pe_int (fun _ _ => rfl)) (pa_cons pe_int pa_nil)))))), ?_⟩
    obtain ⟨U1, U2, U3, hU, k1, k2, k3⟩ := i_UNITS H
    refine ⟨_, rfl, A_UNITS, _, 1, .ref U2, rfl, rfl, hU, rfl, fun x dx nx ndx _ => ?_⟩
    refine ⟨x, dx, r, U2, 0, 1, 0, 1, rfl, upd_same, tq_made nx ndx k2, by decide, ⟨by decide, by decide⟩, fun H2 t' u' y' z' b' low e2 nt e3 ht' => ⟨rfl, ?_⟩⟩
    obtain ⟨rfl, rfl, rfl, rfl⟩ := low1 low
    obtain ⟨f1, f2⟩ := el_made (t := U2) nx ndx hR e2 e3 ht'
    exact q x H2 f1 f2
theorem ok_Ring_t (T : Txt K mg C_Form C_Ring C_Element) : MDef (fun p f => Meth K C_Ring "t" f) P w K mg base 4 ["self"] (sp_Ring_t K C_Form C_Ring C_Element) := by
  obtain ⟨p_, f_, fd_, R_, F_⟩ := T.e_Ring_t
  obtain ⟨p_Element___init__, f_Element___init__, fd_Element___init__, R_Element___init__, b_Element___init__, G_Element___init__⟩ := (ok_Element___init__ (P := P) (w := w) (base := base) T)
  refine ⟨p_, f_, fd_, R_, F_.binds (ps := ["self"]) (fun _ _ _ _ _ _ us hl => match us, hl with | [_], _ => rfl), ?_⟩
  refine F_.ok sc_Ring_t (fun vs H Q E h => ?_) (fun cdv A outer s H vs Q E hr h => ?_)
  · first | (obtain ⟨rfl, _⟩ := h; rfl) | (obtain ⟨_, rfl, _⟩ := h; rfl) | (obtain ⟨_, _, rfl, _⟩ := h; rfl) | (obtain ⟨_, _, _, rfl, _⟩ := h; rfl) | (obtain ⟨_, _, _, _, rfl, _⟩ := h; rfl) | (obtain ⟨_, _, _, _, _, rfl, _⟩ := h; rfl) | (obtain ⟨_, _, _, _, _, _, rfl, _⟩ := h; rfl) | (obtain ⟨_, _, _, _, _, _, _, rfl, _⟩ := h; rfl) | (obtain ⟨_, _, _, _, _, _, _, _, rfl, _⟩ := h; rfl) | (obtain ⟨_, _, _, _, _, _, _, _, _, rfl, _⟩ := h; rfl) | (obtain ⟨_, _, _, _, _, _, _, _, _, _, rfl, _⟩ := h; rfl) | (obtain ⟨_, _, _, _, _, _, _, _, _, _, _, rfl, _⟩ := h; rfl) | (obtain ⟨_, _, _, _, _, _, _, _, _, _, _, _, rfl, _⟩ := h; rfl) | (obtain ⟨_, _, _, _, _, _, _, _, _, _, _, _, _, rfl, _⟩ := h; rfl) | (obtain ⟨_, _, _, _, _, _, _, _, _, _, _, _, _, _, rfl, _⟩ := h; rfl) | (obtain ⟨_, _, _, _, _, _, _, _, _, _, _, _, _, _, _, rfl, _⟩ := h; rfl) | (obtain ⟨_, _, _, _, _, _, _, _, _, _, _, _, _, _, _, _, rfl, _⟩ := h; rfl) | (obtain ⟨_, _, _, _, _, _, _, _, _, _, _, _, _, _, _, _, _, rfl, _⟩ := h; rfl) | (obtain ⟨_, _, _, _, _, _, _, _, _, _, _, _, _, _, _, _, _, _, rfl, _⟩ := h; rfl) | (obtain ⟨_, _, _, _, _, _, _, _, _, _, _, _, _, _, _, _, _, _, _, rfl, _⟩ := h; rfl) | (obtain ⟨_, _, _, _, _, _, _, _, _, _, _, _, _, _, _, _, _, _, _, _, rfl, _⟩ := h; rfl) | (obtain ⟨_, _, _, _, _, _, _, _, _, _, _, _, _, _, _, _, _, _, _, _, _, rfl, _⟩ := h; rfl) | (obtain ⟨_, _, _, _, _, _, _, _, _, _, _, _, _, _, _, _, _, _, _, _, _, _, rfl, _⟩ := h; rfl) | (obtain ⟨_, _, _, _, _, _, _, _, _, _, _, _, _, _, _, _, _, _, _, _, _, _, _, rfl, _⟩ := h; rfl)
  · obtain ⟨r, ns, rfl, hR, q⟩ := h
    obtain ⟨A_UNITS, h_UNITS, i_UNITS⟩ := T.k_UNITS
    refine ⟨_, (pss_one (ps_ret (pe_make R_Element___init__ G_Element___init__ (hr.mono (by decide)) (by rfl) T.g_Element b_Element___init__ .nil pass0 (pa_cons (pv 0) (pa_cons (pe_ix ix_tup (pe_glob (v := .ref A_UNITS) (by rfl) h_UNITS rfl) pe_int (fun _ _ => rfl)) (pa_cons pe_int pa_nil)))))), ?_⟩
    obtain ⟨U1, U2, U3, hU, k1, k2, k3⟩ := i_UNITS H
    refine ⟨_, rfl, A_UNITS, _, 2, .ref U3, rfl, rfl, hU, rfl, fun x dx nx ndx _ => ?_⟩
    refine ⟨x, dx, r, U3, 0, 0, 1, 1, rfl, upd_same, tq_made nx ndx k3, by decide, ⟨by decide, by decide⟩, fun H2 t' u' y' z' b' low e2 nt e3 ht' => ⟨rfl, ?_⟩⟩
    obtain ⟨rfl, rfl, rfl, rfl⟩ := low1 low
    obtain ⟨f1, f2⟩ := el_made (t := U3) nx ndx hR e2 e3 ht'
    exact q x H2 f1 f2
theorem ok_Element_polynomial (T : Txt K mg C_Form C_Ring C_Element) : MDef (fun p f => PropOf K C_Element "polynomial" p f) P w K mg base 4 ["self"] (sp_Element_polynomial K C_Form C_Ring C_Element) := by
  obtain ⟨p_, f_, fd_, R_, F_⟩ := T.e_Element_polynomial
  obtain ⟨f_fraction, fd_fraction, g_fraction, k_fraction, b_fraction, G_fraction⟩ := (ok_fraction (P := P) (w := w) (base := base) T)
  obtain ⟨f_polynomial_by, fd_polynomial_by, g_polynomial_by, k_polynomial_by, b_polynomial_by, G_polynomial_by⟩ := (ok_polynomial_by (P := P) (w := w) (base := base) T)
  obtain ⟨f_table_for, fd_table_for, g_table_for, k_table_for, b_table_for, G_table_for⟩ := (ok_table_for (P := P) (w := w) (base := base) T)
  refine ⟨p_, f_, fd_, R_, F_.binds (ps := ["self"]) (fun _ _ _ _ _ _ us hl => match us, hl with | [_], _ => rfl), ?_⟩
  refine F_.ok sc_Element_polynomial (fun vs H Q E h => ?_) (fun cdv A outer s H vs Q E hr h => ?_)
  · first | (obtain ⟨rfl, _⟩ := h; rfl) | (obtain ⟨_, rfl, _⟩ := h; rfl) | (obtain ⟨_, _, rfl, _⟩ := h; rfl) | (obtain ⟨_, _, _, rfl, _⟩ := h; rfl) | (obtain ⟨_, _, _, _, rfl, _⟩ := h; rfl) | (obtain ⟨_, _, _, _, _, rfl, _⟩ := h; rfl) | (obtain ⟨_, _, _, _, _, _, rfl, _⟩ := h; rfl) | (obtain ⟨_, _, _, _, _, _, _, rfl, _⟩ := h; rfl) | (obtain ⟨_, _, _, _, _, _, _, _, rfl, _⟩ := h; rfl) | (obtain ⟨_, _, _, _, _, _, _, _, _, rfl, _⟩ := h; rfl) | (obtain ⟨_, _, _, _, _, _, _, _, _, _, rfl, _⟩ := h; rfl) | (obtain ⟨_, _, _, _, _, _, _, _, _, _, _, rfl, _⟩ := h; rfl) | (obtain ⟨_, _, _, _, _, _, _, _, _, _, _, _, rfl, _⟩ := h; rfl) | (obtain ⟨_, _, _, _, _, _, _, _, _, _, _, _, _, rfl, _⟩ := h; rfl) | (obtain ⟨_, _, _, _, _, _, _, _, _, _, _, _, _, _, rfl, _⟩ := h; rfl) | (obtain ⟨_, _, _, _, _, _, _, _, _, _, _, _, _, _, _, rfl, _⟩ := h; rfl) | (obtain ⟨_, _, _, _, _, _, _, _, _, _, _, _, _, _, _, _, rfl, _⟩ := h; rfl) | (obtain ⟨_, _, _, _, _, _, _, _, _, _, _, _, _, _, _, _, _, rfl, _⟩ := h; rfl) | (obtain ⟨_, _, _, _, _, _, _, _, _, _, _, _, _, _, _, _, _, _, rfl, _⟩ := h; rfl) | (obtain ⟨_, _, _, _, _, _, _, _, _, _, _, _, _, _, _, _, _, _, _, rfl, _⟩ := h; rfl) | (obtain ⟨_, _, _, _, _, _, _, _, _, _, _, _, _, _, _, _, _, _, _, _, rfl, _⟩ := h; rfl) | (obtain ⟨_, _, _, _, _, _, _, _, _, _, _, _, _, _, _, _, _, _, _, _, _, rfl, _⟩ := h; rfl) | (obtain ⟨_, _, _, _, _, _, _, _, _, _, _, _, _, _, _, _, _, _, _, _, _, _, rfl, _⟩ := h; rfl) | (obtain ⟨_, _, _, _, _, _, _, _, _, _, _, _, _, _, _, _, _, _, _, _, _, _, _, rfl, _⟩ := h; rfl)
  · obtain ⟨x, a, b, c, d, u, y, z, e, rfl, ⟨dx, r, t, hx, hR, ht⟩, bz, bu, e0, e1, q⟩ := h
    obtain ⟨v1, v2, v3⟩ := w_B bz
    refine ⟨_, (pss_cons (ps_asg (pe_call G_polynomial_by (hr.mono (by decide)) (by rfl) g_polynomial_by k_polynomial_by b_polynomial_by .nil pass0 (pa_cons (pe_call G_table_for (hr.mono (by decide)) (by rfl) g_table_for k_table_for b_table_for .nil pass0 (pa_cons (pe_fld (pv 0) (by rfl)) pa_nil)) (pa_cons (pe_fld (pv 0) (by rfl)) pa_nil))) (pg_tup (by rfl) (pgs_cons (pg_name (i := 1) sc_Element_polynomial.nd rfl (.inl rfl)) (pgs_cons (pg_name (i := 2) sc_Element_polynomial.nd rfl (.inl rfl)) (pgs_cons (pg_name (i := 3) sc_Element_polynomial.nd rfl (.inl rfl)) pgs_nil)))))
    (pss_one (ps_ret (pe_tup (pa_cons (pe_call G_fraction (hr.mono (by decide)) (by rfl) g_fraction k_fraction b_fraction .nil pass0 (pa_cons (pv 1) (pa_cons (pe_fld (pv 0) (by rfl)) pa_nil))) (pa_cons (pe_call G_fraction (hr.mono (by decide)) (by rfl) g_fraction k_fraction b_fraction .nil pass0 (pa_cons (pv 2) (pa_cons (pe_op op_powC (pe_fld (pv 0) (by rfl)) pe_int) pa_nil))) (pa_cons (pe_call G_fraction (hr.mono (by decide)) (by rfl) g_fraction k_fraction b_fraction .nil pass0 (pa_cons (pv 3) (pa_cons (pe_op op_powC (pe_fld (pv 0) (by rfl)) pe_int) pa_nil))) pa_nil))))))), ?_⟩
    refine ⟨_, rfl, x, C_Element, dx, _, .ref r, rfl, hx, T.cl_Element, T.na_Element_ring, lkR, r, a, b, c, d, rfl, hR, bz, fun T1 H1 e1' hT => ?_⟩
    refine ⟨_, rfl, x, C_Element, dx, _, .ref t, rfl, e1'.ap hx, T.cl_Element, T.na_Element_entries, lkE, T1, t, _, _, _, _, _, _, _, _, _, u, y, z, rfl, hT, (Ex0.ti e1' ht).q, v1, v2, v3, bu, fun o H2 e2 ho => ?_⟩
    refine unq3 ho.q ?_
    have e12 := e1'.trans e2
    refine ⟨_, rfl, _, rfl, x, C_Element, dx, _, .int e, rfl, Ex0.ap e12 hx, T.cl_Element, T.na_Element_bottom, lkB, _, _, rfl, e0, Int.lt_trans e1 (by decide), fun o1 H3 p1 q1 g1 g10 w1 w2 w3 e3 ho1 => ?_⟩
    have e13 := e12.trans e3
    refine ⟨_, rfl, _, rfl, x, C_Element, dx, _, .int e, rfl, Ex0.ap e13 hx, T.cl_Element, T.na_Element_bottom, lkB, _, _, rfl, rfl, cpow e0 e1 (by decide), _, _, rfl, ?_, ?_, fun o2 H4 p2 q2 g2 g20 w4 w5 w6 e4 ho2 => ?_⟩
    · rw [pow2]
      exact Int.mul_pos e0 e0
    · rw [pow2]
      exact sq_lt e0 e1
    have e14 := e13.trans e4
    refine ⟨_, rfl, _, rfl, x, C_Element, dx, _, .int e, rfl, Ex0.ap e14 hx, T.cl_Element, T.na_Element_bottom, lkB, _, _, rfl, rfl, cpow e0 e1 (by decide), _, _, rfl, ?_, ?_, fun o3 H5 p3 q3 g3 g30 w7 w8 w9 e5 ho3 => ?_⟩
    · rw [pow3]
      exact Int.mul_pos (Int.mul_pos e0 e0) e0
    · rw [pow3]
      exact cube_lt e0 e1
    refine ⟨sl3, fun X nX => ?_⟩
    refine q X _ p1 q1 p2 q2 p3 q3 ⟨g1, g10, w1, w2, w3⟩ ⟨g2, g20, w4, by rw [← w5, pow2], w6⟩ ⟨g3, g30, w7, by rw [← w8, pow3], w9⟩ ((e14.trans e5).trans (Ex0.new nX)) ⟨o1, o2, o3, upd_same, ?_, ?_, ?_⟩
    · exact Ex0.ti ((e4.trans e5).trans (Ex0.new nX)) ho1
    · exact Ex0.ti (e5.trans (Ex0.new nX)) ho2
    · exact Ex0.ti (Ex0.new nX) ho3
end
end RG
namespace RG
open PySem PySem.Spec PyProof.Rows L2 Fr
def sp_Element___eq__ (K : PySem.W.Frag) (C C_R C_E : Addr) : Sp := fun vs H Q _ => ∃ (x : Addr) (w : V) (ns : List Int) (u y z b : Int), vs = [.ref x, w] ∧ ElAt C C_R C_E H x ns u y z b ∧
  ((∃ (x' : Addr) (ms : List Int) (v s r e : Int), w = .ref x' ∧ ElAt C C_R C_E H x' ms v s r e ∧ Q (.bl (decide (ns = ms ∧ u = v ∧ y = s ∧ z = r ∧ b = e))) H) ∨ (∃ t, PySem.W.kitOne K t (.ref C_E) = some false ∧ TyX K H w t ∧ Q (.bl false) H))
def sp_Element_is_whole (_ : PySem.W.Frag) (C C_R C_E : Addr) : Sp := fun vs H Q _ => ∃ (x : Addr) (ns : List Int) (u y z b : Int), vs = [.ref x] ∧ ElAt C C_R C_E H x ns u y z b ∧ Q (.bl (decide (b = 1))) H
def sp_Element___neg__ (_ : PySem.W.Frag) (C C_R C_E : Addr) : Sp := fun vs H Q _ => ∃ (x : Addr) (ns : List Int) (u y z e : Int), vs = [.ref x] ∧ ElAt C C_R C_E H x ns u y z e ∧ e ≠ 0 ∧ B 1000 e ∧ ∀ o H' u' y' z' b', Low (-u) (-y) (-z) e u' y' z' b' → Ex0 H H' → ElAt C C_R C_E H' o ns u' y' z' b' → Q (.ref o) H'
def sp_Element___sub__ (_ : PySem.W.Frag) (C C_R C_E : Addr) : Sp := fun vs H Q _ => ∃ (x x' : Addr) (ns : List Int) (u y z e v s r f : Int), vs = [.ref x, .ref x'] ∧ ElAt C C_R C_E H x ns u y z e ∧ ElAt C C_R C_E H x' ns v s r f ∧ B3 9000 u y z ∧ B3 9000 v s r ∧ B 1000 e ∧ B 1000 f ∧ e * f ≠ 0 ∧ ∀ o H' u' y' z' b', Low (u * f + v * (-1 * e)) (y * f + s * (-1 * e)) (z * f + r * (-1 * e)) (e * f) u' y' z' b' → Ex0 H H' → ElAt C C_R C_E H' o ns u' y' z' b' → Q (.ref o) H'
section
variable {P : Program} {w : World} {K : PySem.W.Frag} {mg : Str → Option Value} {base : Heap} {C_Form C_Ring C_Element : Addr}
theorem ok_Element___eq__ (T : Txt K mg C_Form C_Ring C_Element) : MDef (fun p f => EqC K C_Element f) P w K mg base 4 ["self", "other"] (sp_Element___eq__ K C_Form C_Ring C_Element) := by
  obtain ⟨p_, f_, fd_, R_, F_⟩ := T.e_Element___eq__
  obtain ⟨p_Ring___eq__, f_Ring___eq__, fd_Ring___eq__, R_Ring___eq__, b_Ring___eq__, G_Ring___eq__⟩ := (ok_Ring___eq__ (P := P) (w := w) (base := base) T)
  refine ⟨p_, f_, fd_, R_, F_.binds (ps := ["self", "other"]) (fun _ _ _ _ _ _ us hl => match us, hl with | [_, _], _ => rfl), ?_⟩
  refine F_.ok sc_Element___eq__ (fun vs H Q E h => ?_) (fun cdv A outer s H vs Q E hr h => ?_)
  · first | (obtain ⟨rfl, _⟩ := h; rfl) | (obtain ⟨_, rfl, _⟩ := h; rfl) | (obtain ⟨_, _, rfl, _⟩ := h; rfl) | (obtain ⟨_, _, _, rfl, _⟩ := h; rfl) | (obtain ⟨_, _, _, _, rfl, _⟩ := h; rfl) | (obtain ⟨_, _, _, _, _, rfl, _⟩ := h; rfl) | (obtain ⟨_, _, _, _, _, _, rfl, _⟩ := h; rfl) | (obtain ⟨_, _, _, _, _, _, _, rfl, _⟩ := h; rfl) | (obtain ⟨_, _, _, _, _, _, _, _, rfl, _⟩ := h; rfl) | (obtain ⟨_, _, _, _, _, _, _, _, _, rfl, _⟩ := h; rfl) | (obtain ⟨_, _, _, _, _, _, _, _, _, _, rfl, _⟩ := h; rfl) | (obtain ⟨_, _, _, _, _, _, _, _, _, _, _, rfl, _⟩ := h; rfl) | (obtain ⟨_, _, _, _, _, _, _, _, _, _, _, _, rfl, _⟩ := h; rfl) | (obtain ⟨_, _, _, _, _, _, _, _, _, _, _, _, _, rfl, _⟩ := h; rfl) | (obtain ⟨_, _, _, _, _, _, _, _, _, _, _, _, _, _, rfl, _⟩ := h; rfl) | (obtain ⟨_, _, _, _, _, _, _, _, _, _, _, _, _, _, _, rfl, _⟩ := h; rfl) | (obtain ⟨_, _, _, _, _, _, _, _, _, _, _, _, _, _, _, _, rfl, _⟩ := h; rfl) | (obtain ⟨_, _, _, _, _, _, _, _, _, _, _, _, _, _, _, _, _, rfl, _⟩ := h; rfl) | (obtain ⟨_, _, _, _, _, _, _, _, _, _, _, _, _, _, _, _, _, _, rfl, _⟩ := h; rfl) | (obtain ⟨_, _, _, _, _, _, _, _, _, _, _, _, _, _, _, _, _, _, _, rfl, _⟩ := h; rfl) | (obtain ⟨_, _, _, _, _, _, _, _, _, _, _, _, _, _, _, _, _, _, _, _, rfl, _⟩ := h; rfl) | (obtain ⟨_, _, _, _, _, _, _, _, _, _, _, _, _, _, _, _, _, _, _, _, _, rfl, _⟩ := h; rfl) | (obtain ⟨_, _, _, _, _, _, _, _, _, _, _, _, _, _, _, _, _, _, _, _, _, _, rfl, _⟩ := h; rfl) | (obtain ⟨_, _, _, _, _, _, _, _, _, _, _, _, _, _, _, _, _, _, _, _, _, _, _, rfl, _⟩ := h; rfl)
  · obtain ⟨x, w, ns, u, y, z, b, rfl, ⟨dx, r1, t1, hx, hR, ht⟩, h2⟩ := h
    refine ⟨_, (pss_cons (ps_if (PW.pt (pw_or (pt_not (pt_val (pe_callB call_isi (by rfl) T.b_isinstance (by decide +kernel) (pa_cons (pv 1) (pa_cons (pe_glob (v := .ref C_Element) (by rfl) T.g_Element rfl) pa_nil))))) (pw_or1 (pt_cmpR (op_neI R_Ring___eq__ G_Ring___eq__ b_Ring___eq__ (hr.mono (by decide)) pass0) (pe_fld (pv 0) (by rfl)) (pe_fld (pv 1) (by rfl)) (nomark _)))))
      (pss_one (ps_ret pe_bl))
      pss_nil)
    (pss_one (ps_ret (pe_and (pe_cmpR (op_eqD hr.units) (pe_fld (pv 0) (by rfl)) (pe_fld (pv 1) (by rfl)) (nomark _)) (pe_one (pe_cmpR op_eq (pe_fld (pv 0) (by rfl)) (pe_fld (pv 1) (by rfl)) (nomark _))))))), ?_⟩
    rcases h2 with ⟨x', ms, v, s', r, e, rfl, ⟨dx', r2, t2, hx', hR', ht'⟩, q⟩ | ⟨t, kt, ty, q⟩
    · refine ⟨_, rfl, _, _, _, _, true, rfl, .own _, ty_ins T.ty_Element T.cl_Element hx', kit_self, _, rfl, iteF ?_⟩
      obtain ⟨d3, f3, m1, m2⟩ := id hR
      obtain ⟨d4, f4, n1, n2⟩ := id hR'
      refine ⟨_, rfl, x, C_Element, dx, _, .ref r1, rfl, hx, T.cl_Element, T.na_Element_ring, lkR, _, rfl, x', C_Element, dx', _, .ref r2, rfl, hx', T.cl_Element, T.na_Element_ring, lkR, ?_⟩
      refine ⟨r1, d3, _, _, rfl, m1, ty_ins T.ty_Ring T.cl_Ring n1, first_self, r1, .ref r2, ns, rfl, hR, .inl ⟨r2, ms, rfl, hR', _, rfl, _, rfl, iteN (fun hn => ?_) (fun hn => ?_)⟩⟩
      · rw [decide_eq_false (fun h => hn h.1)] at q
        exact q
      · refine ⟨_, rfl, x, C_Element, dx, _, .ref t1, rfl, hx, T.cl_Element, T.na_Element_entries, lkE, _, rfl, x', C_Element, dx', _, .ref t2, rfl, hx', T.cl_Element, T.na_Element_entries, lkE, .tuple ([u, y, z].map .int), .tuple ([v, s', r].map .int), .tup (SqT.of ht) (dp_ints _), .tup (SqT.of ht') (dp_ints _), shaped_tints _, shaped_tints _, ?_⟩
        rw [PyData.eqv, eqv_ints]
        refine ⟨_, rfl, iteD (fun k => ?_) (fun k => ?_)⟩
        · refine ⟨_, rfl, x, C_Element, dx, _, .int b, rfl, hx, T.cl_Element, T.na_Element_bottom, lkB, _, rfl, x', C_Element, dx', _, .int e, rfl, hx', T.cl_Element, T.na_Element_bottom, lkB, rfl, ?_⟩
          have : decide (V.int b = V.int e) = decide (ns = ms ∧ u = v ∧ y = s' ∧ z = r ∧ b = e) := by
            rw [deI]
            simp only [List.cons.injEq, and_true] at k
            simp [hn, k]
          rw [this]
          exact q
        · have : decide (ns = ms ∧ u = v ∧ y = s' ∧ z = r ∧ b = e) = false := decide_eq_false fun h => k (by rw [h.2.1, h.2.2.1, h.2.2.2.1])
          rw [this] at q
          exact q
    · exact ⟨_, rfl, _, _, _, _, false, rfl, .own _, ty, kt, _, rfl, iteT q⟩
theorem ok_Element___neg__ (T : Txt K mg C_Form C_Ring C_Element) : MDef (fun p f => Meth K C_Element "__neg__" f) P w K mg base 4 ["self"] (sp_Element___neg__ K C_Form C_Ring C_Element) := by
  obtain ⟨p_, f_, fd_, R_, F_⟩ := T.e_Element___neg__
  obtain ⟨p_Element___init__, f_Element___init__, fd_Element___init__, R_Element___init__, b_Element___init__, G_Element___init__⟩ := (ok_Element___init__ (P := P) (w := w) (base := base) T)
  refine ⟨p_, f_, fd_, R_, F_.binds (ps := ["self"]) (fun _ _ _ _ _ _ us hl => match us, hl with | [_], _ => rfl), ?_⟩
  refine F_.ok sc_Element___neg__ (fun vs H Q E h => ?_) (fun cdv A outer s H vs Q E hr h => ?_)
  · first | (obtain ⟨rfl, _⟩ := h; rfl) | (obtain ⟨_, rfl, _⟩ := h; rfl) | (obtain ⟨_, _, rfl, _⟩ := h; rfl) | (obtain ⟨_, _, _, rfl, _⟩ := h; rfl) | (obtain ⟨_, _, _, _, rfl, _⟩ := h; rfl) | (obtain ⟨_, _, _, _, _, rfl, _⟩ := h; rfl) | (obtain ⟨_, _, _, _, _, _, rfl, _⟩ := h; rfl) | (obtain ⟨_, _, _, _, _, _, _, rfl, _⟩ := h; rfl) | (obtain ⟨_, _, _, _, _, _, _, _, rfl, _⟩ := h; rfl) | (obtain ⟨_, _, _, _, _, _, _, _, _, rfl, _⟩ := h; rfl) | (obtain ⟨_, _, _, _, _, _, _, _, _, _, rfl, _⟩ := h; rfl) | (obtain ⟨_, _, _, _, _, _, _, _, _, _, _, rfl, _⟩ := h; rfl) | (obtain ⟨_, _, _, _, _, _, _, _, _, _, _, _, rfl, _⟩ := h; rfl) | (obtain ⟨_, _, _, _, _, _, _, _, _, _, _, _, _, rfl, _⟩ := h; rfl) | (obtain ⟨_, _, _, _, _, _, _, _, _, _, _, _, _, _, rfl, _⟩ := h; rfl) | (obtain ⟨_, _, _, _, _, _, _, _, _, _, _, _, _, _, _, rfl, _⟩ := h; rfl) | (obtain ⟨_, _, _, _, _, _, _, _, _, _, _, _, _, _, _, _, rfl, _⟩ := h; rfl) | (obtain ⟨_, _, _, _, _, _, _, _, _, _, _, _, _, _, _, _, _, rfl, _⟩ := h; rfl) | (obtain ⟨_, _, _, _, _, _, _, _, _, _, _, _, _, _, _, _, _, _, rfl, _⟩ := h; rfl) | (obtain ⟨_, _, _, _, _, _, _, _, _, _, _, _, _, _, _, _, _, _, _, rfl, _⟩ := h; rfl) | (obtain ⟨_, _, _, _, _, _, _, _, _, _, _, _, _, _, _, _, _, _, _, _, rfl, _⟩ := h; rfl) | (obtain ⟨_, _, _, _, _, _, _, _, _, _, _, _, _, _, _, _, _, _, _, _, _, rfl, _⟩ := h; rfl) | (obtain ⟨_, _, _, _, _, _, _, _, _, _, _, _, _, _, _, _, _, _, _, _, _, _, rfl, _⟩ := h; rfl) | (obtain ⟨_, _, _, _, _, _, _, _, _, _, _, _, _, _, _, _, _, _, _, _, _, _, _, rfl, _⟩ := h; rfl)
  · obtain ⟨x, ns, u, y, z, e, rfl, ⟨d1, r1, t1, g1, g2, g3⟩, he, be, q⟩ := h
    refine ⟨_, (pss_one (ps_ret (pe_make R_Element___init__ G_Element___init__ (hr.mono (by decide)) (by rfl) T.g_Element b_Element___init__ .nil pass0 (pa_cons (pe_fld (pv 0) (by rfl)) (pa_cons (pe_callTy call_tuple_of (by rfl) T.b_tuple (by decide +kernel) (pa_cons (pe_lc (own := [("number", 1)]) (g := (gName 1)) rfl sc_Element___neg__.nd (pi_tup (pe_fld (pv 0) (by rfl))) (blkOk_by (N := N_Element___neg__) (sc := defScope s_Element___neg__) (by decide +kernel)) (fun _ _ _ _ _ => (pg_name (i := 1) sc_Element___neg__.nd rfl (.inl rfl))) (fun _ _ _ _ _ => pts_nil) (fun _ _ _ _ _ => (pe_un un_neg (pv 1)))) pa_nil)) (pa_cons (pe_fld (pv 0) (by rfl)) pa_nil)))))), ?_⟩
    refine ⟨_, rfl, x, C_Element, d1, _, .ref r1, rfl, g1, T.cl_Element, T.na_Element_ring, lkR, ?_⟩
    refine ⟨_, rfl, x, C_Element, d1, _, .ref t1, rfl, g1, T.cl_Element, T.na_Element_entries, lkE, t1, rfl, ⟨_, SqT.of g3⟩, ?_⟩
    refine lcT fm0 trivial (SqT.of g3) (fun z => z) (fun i acc _ => acc = (([-u, -y, -z] : List Int).take i).map V.int) (fun _ _ => rfl) (fun D i k acc H' hD hk e1 hA hlen hp => ?_) (fun D H' acc hD e1 hA hp => ?_)
    · obtain ⟨m', hm', rfl⟩ := get_int hk
      have hi : i < 3 := (List.getElem?_eq_some_iff.mp hm').1
      refine ⟨rfl, ?_⟩
      refine ⟨_, rfl, _, rfl, ?_⟩
      refine cs_yes fm0 trivial hD e1 hA hlen (by omega) (Fx.refl trivial) ?_
      show acc ++ [V.int (-m')] = _
      rw [hp]
      match i, hm' with
      | 0, hm => rw [← Option.some.inj hm]; rfl
      | 1, hm => rw [← Option.some.inj hm]; rfl
      | 2, hm => rw [← Option.some.inj hm]; rfl
    · refine ⟨D, _, rfl, .inl ⟨SqL.of hA, fun p np => ?_⟩⟩
      have hp' : acc = [.int (-u), .int (-y), .int (-z)] := hp
      subst hp'
      have e2 : Ex0 H (upd H' p (.tup [.int (-u), .int (-y), .int (-z)])) := Fx.trans e1 (Ex0.new np)
      refine ⟨_, rfl, x, C_Element, d1, _, .int e, rfl, Ex0.ap e2 g1, T.cl_Element, T.na_Element_bottom, lkB, fun y0 dy nx ndx _ => ?_⟩
      refine ⟨y0, dy, r1, p, _, _, _, e, rfl, upd_same, SqT.of (made_at nx ndx upd_same), he, be.mono (by decide), fun H3 t' u' y' z' b' low e3 nt e4 ht' => ⟨rfl, ?_⟩⟩
      obtain ⟨f1, f2⟩ := el_made (t := p) nx ndx (Ex0.ri e2 g2) e3 e4 ht'
      exact q y0 H3 u' y' z' b' low (e2.trans f1) f2
theorem ok_Element___sub__ (T : Txt K mg C_Form C_Ring C_Element) : MDef (fun p f => BinC K C_Element "__sub__" f) P w K mg base 5 ["self", "other"] (sp_Element___sub__ K C_Form C_Ring C_Element) := by
  obtain ⟨p_, f_, fd_, R_, F_⟩ := T.e_Element___sub__
  obtain ⟨f_check_one_ring, fd_check_one_ring, g_check_one_ring, k_check_one_ring, b_check_one_ring, G_check_one_ring⟩ := (ok_check_one_ring (P := P) (w := w) (base := base) T)
  obtain ⟨f_mixed, fd_mixed, g_mixed, k_mixed, b_mixed, G_mixed⟩ := (ok_mixed (P := P) (w := w) (base := base) T)
  refine ⟨p_, f_, fd_, R_, F_.binds (ps := ["self", "other"]) (fun _ _ _ _ _ _ us hl => match us, hl with | [_, _], _ => rfl), ?_⟩
  refine F_.ok sc_Element___sub__ (fun vs H Q E h => ?_) (fun cdv A outer s H vs Q E hr h => ?_)
  · first | (obtain ⟨rfl, _⟩ := h; rfl) | (obtain ⟨_, rfl, _⟩ := h; rfl) | (obtain ⟨_, _, rfl, _⟩ := h; rfl) | (obtain ⟨_, _, _, rfl, _⟩ := h; rfl) | (obtain ⟨_, _, _, _, rfl, _⟩ := h; rfl) | (obtain ⟨_, _, _, _, _, rfl, _⟩ := h; rfl) | (obtain ⟨_, _, _, _, _, _, rfl, _⟩ := h; rfl) | (obtain ⟨_, _, _, _, _, _, _, rfl, _⟩ := h; rfl) | (obtain ⟨_, _, _, _, _, _, _, _, rfl, _⟩ := h; rfl) | (obtain ⟨_, _, _, _, _, _, _, _, _, rfl, _⟩ := h; rfl) | (obtain ⟨_, _, _, _, _, _, _, _, _, _, rfl, _⟩ := h; rfl) | (obtain ⟨_, _, _, _, _, _, _, _, _, _, _, rfl, _⟩ := h; rfl) | (obtain ⟨_, _, _, _, _, _, _, _, _, _, _, _, rfl, _⟩ := h; rfl) | (obtain ⟨_, _, _, _, _, _, _, _, _, _, _, _, _, rfl, _⟩ := h; rfl) | (obtain ⟨_, _, _, _, _, _, _, _, _, _, _, _, _, _, rfl, _⟩ := h; rfl) | (obtain ⟨_, _, _, _, _, _, _, _, _, _, _, _, _, _, _, rfl, _⟩ := h; rfl) | (obtain ⟨_, _, _, _, _, _, _, _, _, _, _, _, _, _, _, _, rfl, _⟩ := h; rfl) | (obtain ⟨_, _, _, _, _, _, _, _, _, _, _, _, _, _, _, _, _, rfl, _⟩ := h; rfl) | (obtain ⟨_, _, _, _, _, _, _, _, _, _, _, _, _, _, _, _, _, _, rfl, _⟩ := h; rfl) | (obtain ⟨_, _, _, _, _, _, _, _, _, _, _, _, _, _, _, _, _, _, _, rfl, _⟩ := h; rfl) | (obtain ⟨_, _, _, _, _, _, _, _, _, _, _, _, _, _, _, _, _, _, _, _, rfl, _⟩ := h; rfl) | (obtain ⟨_, _, _, _, _, _, _, _, _, _, _, _, _, _, _, _, _, _, _, _, _, rfl, _⟩ := h; rfl) | (obtain ⟨_, _, _, _, _, _, _, _, _, _, _, _, _, _, _, _, _, _, _, _, _, _, rfl, _⟩ := h; rfl) | (obtain ⟨_, _, _, _, _, _, _, _, _, _, _, _, _, _, _, _, _, _, _, _, _, _, _, rfl, _⟩ := h; rfl)
  · obtain ⟨x, x', ns, u, y, z, e, v, s', r', f, rfl, h1, h2, bu, bv, be, bf, hne, q⟩ := h
    obtain ⟨dx, r, t, hx, hR, ht⟩ := id h1
    obtain ⟨dx2, r2, t2, hx2, hR2, ht2⟩ := id h2
    refine ⟨_, (pss_cons (ps_if (pt_not (pt_val (pe_callB call_isi (by rfl) T.b_isinstance (by decide +kernel) (pa_cons (pv 1) (pa_cons (pe_glob (v := .ref C_Element) (by rfl) T.g_Element rfl) pa_nil)))))
      (pss_one ps_never)
      pss_nil)
    (pss_cons (ps_expr (pe_call G_check_one_ring (hr.mono (by decide)) (by rfl) g_check_one_ring k_check_one_ring b_check_one_ring .nil pass0 (pa_cons (pv 0) (pa_cons (pv 1) pa_nil))))
    (pss_one (ps_ret (pe_call G_mixed (hr.mono (by decide)) (by rfl) g_mixed k_mixed b_mixed .nil pass0 (pa_cons (pv 0) (pa_cons (pv 1) (pa_cons (pe_un un_neg pe_int) pa_nil)))))))), ?_⟩
    refine ⟨_, rfl, _, _, _, _, true, rfl, .own _, ty_ins T.ty_Element T.cl_Element hx2, kit_self, _, rfl, ?_⟩
    refine iteF ⟨_, rfl, _, rfl, x, x', _, u, y, z, e, v, s', r', f, rfl, h1, h2, ?_⟩
    exact ⟨_, rfl, _, rfl, _, rfl, x, x', ns, ns, u, y, z, e, v, s', r', f, -1, rfl, h1, h2, bu, bv, be, bf, hne, .inr rfl, fun o H' u' y' z' b' low e1 ho => q o H' u' y' z' b' low e1 ho⟩
end
end RG
namespace RG
open PySem PySem.Spec PyProof.Rows L2 Fr
theorem dvd_low {d c a1 a2 a3 : Nat} (h1 : d ∣ c * a1) (h2 : d ∣ c * a2) (h3 : d ∣ c * a3) : d ∣ c * Nat.gcd (Nat.gcd a1 a2) a3 := by
  rw [← Nat.gcd_mul_left, ← Nat.gcd_mul_left]
  exact Nat.dvd_gcd (Nat.dvd_gcd h1 h2) h3
theorem gcdL3 (a b c : Int) : gcdL [a, b, c] = Nat.gcd (Nat.gcd a.natAbs b.natAbs) c.natAbs := by
  unfold gcdL
  simp only [List.foldl, Nat.gcd_zero_left]
theorem low_dvd {a1 a2 a3 a4 c1 c2 c3 c4 : Int} (hg : Nat.gcd (gcdL [a1, a2, a3]) a4.natAbs = 1) (k1 : a1 * c4 = c1 * a4) (k2 : a2 * c4 = c2 * a4) (k3 : a3 * c4 = c3 * a4) : a4.natAbs ∣ c4.natAbs := by
  have f : ∀ a c : Int, a * c4 = c * a4 → a4.natAbs ∣ c4.natAbs * a.natAbs := fun a c h => by
    rw [← Int.natAbs_mul, Int.mul_comm, h, Int.natAbs_mul]
    exact Nat.dvd_mul_left _ _
  have := dvd_low (f _ _ k1) (f _ _ k2) (f _ _ k3)
  rw [← gcdL3] at this
  exact Nat.Coprime.dvd_of_dvd_mul_right (Nat.Coprime.symm hg) this
theorem Low.uniq {u y z b v s r e a1 a2 a3 a4 c1 c2 c3 c4 : Int} (h : Low u y z b a1 a2 a3 a4) (h' : Low v s r e c1 c2 c3 c4) (hb : b ≠ 0) (he : e ≠ 0) (k1 : u * e = v * b) (k2 : y * e = s * b) (k3 : z * e = r * b) :
    a1 = c1 ∧ a2 = c2 ∧ a3 = c3 ∧ a4 = c4 := by
  obtain ⟨g, h1, h2, h3, h4, h5, h6⟩ := h
  obtain ⟨g', h1', h2', h3', h4', h5', h6'⟩ := h'
  have g0 : g ≠ 0 := fun z => hb (by rw [h4, z, Int.zero_mul])
  have g0' : g' ≠ 0 := fun z => he (by rw [h4', z, Int.zero_mul])
  have can : ∀ a c : Int, g * a * (g' * c4) = g' * c * (g * a4) → a * c4 = c * a4 := fun a c k => by
    refine Int.eq_of_mul_eq_mul_left (Int.mul_ne_zero g0 g0') (a := g * g') ?_
    rw [show g * g' * (a * c4) = g * a * (g' * c4) by grind, k]
    grind
  have m1 := can a1 c1 (by rw [← h1, ← h4', ← h1', ← h4]; exact k1)
  have m2 := can a2 c2 (by rw [← h2, ← h4', ← h2', ← h4]; exact k2)
  have m3 := can a3 c3 (by rw [← h3, ← h4', ← h3', ← h4]; exact k3)
  have d1 := low_dvd h6 m1 m2 m3
  have d2 := low_dvd h6' m1.symm m2.symm m3.symm
  have e4 : a4 = c4 := by
    have := Nat.dvd_antisymm d1 d2
    omega
  subst e4
  have ne : a4 ≠ 0 := by omega
  exact ⟨Int.eq_of_mul_eq_mul_right ne m1, Int.eq_of_mul_eq_mul_right ne m2, Int.eq_of_mul_eq_mul_right ne m3, rfl⟩
theorem Low.self {u y z b : Int} (hb : 0 < b) (h : Nat.gcd (gcdL [u, y, z]) b.natAbs = 1) : Low u y z b u y z b := ⟨1, by omega, by omega, by omega, by omega, hb, h⟩
theorem Low.low {u y z b a1 a2 a3 a4 : Int} (h : Low u y z b a1 a2 a3 a4) : Low a1 a2 a3 a4 a1 a2 a3 a4 := by
  obtain ⟨g, h1, h2, h3, h4, h5, h6⟩ := h
  exact Low.self h5 h6
theorem Low.pos {u y z b u' y' z' b' : Int} (h : Low u y z b u' y' z' b') : 0 < b' := by
  obtain ⟨_, _, _, _, _, h, _⟩ := h
  exact h
theorem Low.B {u y z b u' y' z' b' : Int} {n m : Nat} (h : Low u y z b u' y' z' b') (hb : b ≠ 0) (h1 : B3 n u y z) (h2 : B m b) : B3 n u' y' z' ∧ Fr.B m b' := by
  obtain ⟨g, e1, e2, e3, e4, _, _⟩ := h
  have g0 : g ≠ 0 := fun z => hb (by rw [e4, z, Int.zero_mul])
  have le : ∀ p q : Int, p = g * q → q.natAbs ≤ p.natAbs := fun p q e => by
    rw [e, Int.natAbs_mul]
    exact Nat.le_mul_of_pos_left _ (by omega)
  exact ⟨⟨⟨Nat.lt_of_le_of_lt (le _ _ e1) h1.1.1, h1.1.2⟩, ⟨Nat.lt_of_le_of_lt (le _ _ e2) h1.2.1.1, h1.2.1.2⟩, ⟨Nat.lt_of_le_of_lt (le _ _ e3) h1.2.2.1, h1.2.2.2⟩⟩, ⟨Nat.lt_of_le_of_lt (le _ _ e4) h2.1, h2.2⟩⟩
theorem Low.neg {u y z b a1 a2 a3 a4 : Int} (h : Low u y z b a1 a2 a3 a4) : Low (-u) (-y) (-z) b (-a1) (-a2) (-a3) a4 := by
  obtain ⟨g, h1, h2, h3, h4, h5, h6⟩ := h
  refine ⟨g, by rw [h1, Int.mul_neg], by rw [h2, Int.mul_neg], by rw [h3, Int.mul_neg], h4, h5, ?_⟩
  rw [gcdL3] at h6 ⊢
  simpa only [Int.natAbs_neg] using h6
end RG
namespace RG
open PySem PySem.Spec PyProof.Rows L2 Fr
theorem ex_two {H : Hp} {x dx : Addr} {o1 o2 : HO} (nx : H x = none) (ndx : H dx = none) : Ex0 H (upd (upd H dx o1) x o2) := Ex0.of fun b o e => by
  rw [upd_ne (ne_of_none e nx), upd_ne (ne_of_none e ndx)]
  exact e
theorem fo_made {C : Addr} {H H' : Hp} {x dx t : Addr} {ns : List Int} {o1 o2 : HO} (nx : H x = none) (ndx : H dx = none) (ht : Ti H t ns) (e1 : ∀ b o, b ≠ x → (upd (upd H dx o1) x o2) b = some o → H' b = some o)
    (e2 : H' x = some (.ins C dx [(("_coefficients" : Str), .ref t)])) : Ex0 H H' ∧ FormAt C H' x ns :=
  ⟨made_ex nx ndx e1, dx, t, e2, Ex0.ti (made_ex nx ndx e1) ht⟩
theorem ri_made {C C_R : Addr} {H H' : Hp} {x dx f : Addr} {ns : List Int} {o1 o2 : HO} (nx : H x = none) (ndx : H dx = none) (hf : FormAt C H f ns) (e1 : ∀ b o, b ≠ x → (upd (upd H dx o1) x o2) b = some o → H' b = some o)
    (e2 : H' x = some (.ins C_R dx [(("_form" : Str), .ref f)])) : Ex0 H H' ∧ RingAt C C_R H' x ns :=
  ⟨made_ex nx ndx e1, dx, f, e2, Ex0.fo (made_ex nx ndx e1) hf⟩
theorem fo_fv {C c : Addr} {H H' : Hp} {x : Addr} {ns : List Int} (hc : Vat c H) (f : Fv c H H') (h : FormAt C H x ns) : FormAt C H' x ns := by
  obtain ⟨dx, t, h1, h2⟩ := h
  refine ⟨dx, t, f.2 x _ (fun e => ?_) h1, fv_tup hc f h2⟩
  obtain ⟨u, v, z, q⟩ := hc
  unfold Sv at e
  rw [e, q] at h1
  cases h1
theorem ri_fv {C C_R c : Addr} {H H' : Hp} {x : Addr} {ns : List Int} (hc : Vat c H) (f : Fv c H H') (h : RingAt C C_R H x ns) : RingAt C C_R H' x ns := by
  obtain ⟨dx, t, h1, h2⟩ := h
  refine ⟨dx, t, f.2 x _ (fun e => ?_) h1, fo_fv hc f h2⟩
  obtain ⟨u, v, z, q⟩ := hc
  unfold Sv at e
  rw [e, q] at h1
  cases h1
theorem lst_fv {c a : Addr} {H H' : Hp} {t1 t2 t3 : Addr} (hc : Vat c H) (f : Fv c H H') (h : H a = some (.lst [.ref t1, .ref t2, .ref t3])) : H' a = some (.lst [.ref t1, .ref t2, .ref t3]) := f.2 a _ (fun e => by
  obtain ⟨x, y, z, q⟩ := hc
  unfold Sv at e
  subst e
  rw [q] at h
  cases h) h
theorem l33_fv {c : Addr} {H H' : Hp} {a : Addr} {r1 r2 r3 : List Int} (hc : Vat c H) (f : Fv c H H') (h : L33 H a r1 r2 r3) : L33 H' a r1 r2 r3 := by
  obtain ⟨t1, t2, t3, h0, h1, h2, h3⟩ := h
  exact ⟨t1, t2, t3, lst_fv hc f h0, fv_tup hc f h1, fv_tup hc f h2, fv_tup hc f h3⟩
theorem el_fv {C C_R C_E c : Addr} {H H' : Hp} {x : Addr} {ns : List Int} {u y z b : Int} (hc : Vat c H) (f : Fv c H H') (h : ElAt C C_R C_E H x ns u y z b) : ElAt C C_R C_E H' x ns u y z b := by
  obtain ⟨dx, r, t, h1, h2, h3⟩ := h
  refine ⟨dx, r, t, f.2 x _ (fun e => ?_) h1, ri_fv hc f h2, fv_tup hc f h3⟩
  obtain ⟨u, v, z, q⟩ := hc
  unfold Sv at e
  rw [e, q] at h1
  cases h1
end RG
namespace RG
open PySem PySem.Spec PyProof.Rows L2 Fr
open K05M (fv fl2 fl3 fdisc)
theorem ab_nat (z : Int) : (if z < 0 then -z else z) = (z.natAbs : Int) := by
  by_cases h : z < 0
  · rw [if_pos h]; omega
  · rw [if_neg h]; omega
section
def good (o : Option (Int × Int × Int × Int)) : Bool := match o with
  | some (p, q, r, s) => decide (p * s - q * r = 1 ∨ p * s - q * r = -1)
  | none => false
def OB (o : Option (Int × Int × Int × Int)) : Prop := ∀ p q r s, o = some (p, q, r, s) → B 300 p ∧ B 300 q ∧ B 300 r ∧ B 300 s
def sp_are_any_integers (_ : PySem.W.Frag) (C C_R C_E : Addr) : Sp := fun vs H Q _ => ∃ (v : V) (o : Option (Int × Int)), vs = [v, .int 2] ∧ RowV H v o ∧ ∀ H', Ex0 H H' → Q (.bl o.isSome) H'
def sp_determinant_of (_ : PySem.W.Frag) (C C_R C_E : Addr) : Sp := fun vs H Q _ => ∃ (a : Addr) (p q r s : Int), vs = [.ref a] ∧ T4 H a p q r s ∧ B 300 p ∧ B 300 q ∧ B 300 r ∧ B 300 s ∧ Q (.int (p * s - q * r)) H
def sp_is_change (_ : PySem.W.Frag) (C C_R C_E : Addr) : Sp := fun vs H Q _ => ∃ (v : V) (o : Option (Int × Int × Int × Int)), vs = [v] ∧ ChV H v o ∧ OB o ∧ ∀ H', Ex0 H H' → Q (.bl (good o)) H'
def sp_is_short_change (_ : PySem.W.Frag) (C C_R C_E : Addr) : Sp := fun vs H Q _ => ∃ (a : Addr) (p q r s : Int), vs = [.ref a] ∧ T4 H a p q r s ∧ ChOk p q r s ∧ ∀ H', Ex0 H H' → Q (.bl true) H'
def sp_check_change (_ : PySem.W.Frag) (C C_R C_E : Addr) : Sp := fun vs H Q _ => ∃ (a : Addr) (p q r s : Int), vs = [.ref a] ∧ T4 H a p q r s ∧ ChOk p q r s ∧ ∀ H', Ex0 H H' → Q .non H'
def sp_form_led (_ : PySem.W.Frag) (C C_R C_E : Addr) : Sp := fun vs H Q _ => ∃ (t u : Addr) (a b c d p q r s : Int), vs = [.ref t, .ref u] ∧ Ti H t [a, b, c, d] ∧ T4 H u p q r s ∧ B 1000 a ∧ B 1000 b ∧ B 1000 c ∧ B 1000 d ∧ B 200 p ∧ B 200 q ∧ B 200 r ∧ B 200 s ∧ ∀ x H', Ex0 H H' → Ti H' x (fled a b c d p q r s) → Q (.ref x) H'
def sp_form_of (_ : PySem.W.Frag) (C C_R C_E : Addr) : Sp := fun vs H Q _ => ∃ (t : Addr) (ns : List Int), vs = [.ref t] ∧ Ti H t ns ∧ ∀ x H', Ex0 H H' → FormAt C H' x ns → Q (.ref x) H'
def sp_Form_led (_ : PySem.W.Frag) (C C_R C_E : Addr) : Sp := fun vs H Q _ => ∃ (z u : Addr) (a b c d p q r s : Int), vs = [.ref z, .ref u] ∧ FormAt C H z [a, b, c, d] ∧ T4 H u p q r s ∧ B 1000 a ∧ B 1000 b ∧ B 1000 c ∧ B 1000 d ∧ ChOk p q r s ∧ ∀ x H', Ex0 H H' → FormAt C H' x (fled a b c d p q r s) → Q (.ref x) H'
def sp_Form___call__ (_ : PySem.W.Frag) (C C_R C_E : Addr) : Sp := fun vs H Q _ => ∃ (z : Addr) (a b c d x y : Int), vs = [.ref z, .int x, .int y] ∧ FormAt C H z [a, b, c, d] ∧ B 1000 a ∧ B 1000 b ∧ B 1000 c ∧ B 1000 d ∧ Short x ∧ Short y ∧ Q (.int (fv a b c d x y)) H
def sp_is_between (_ : PySem.W.Frag) (C C_R C_E : Addr) : Sp := fun vs H Q _ => ∃ i lo hi : Int, vs = [.int i, .int lo, .int hi] ∧ Short i ∧ lo ≤ i ∧ i ≤ hi ∧ Q (.bl true) H
def sp_check_between (_ : PySem.W.Frag) (C C_R C_E : Addr) : Sp := fun vs H Q _ => ∃ i lo hi : Int, vs = [.int i, .int lo, .int hi] ∧ Short i ∧ lo ≤ i ∧ i ≤ hi ∧ Q .non H
def sp_form_value (_ : PySem.W.Frag) (C C_R C_E : Addr) : Sp := fun vs H Q _ => ∃ (t : Addr) (a b c d x y : Int), vs = [.ref t, .int x, .int y] ∧ Ti H t [a, b, c, d] ∧ B 1000 a ∧ B 1000 b ∧ B 1000 c ∧ B 1000 d ∧ B 200 x ∧ B 200 y ∧ Q (.int (fv a b c d x y)) H
def sp_index_of (_ : PySem.W.Frag) (C C_R C_E : Addr) : Sp := fun vs H Q _ => ∃ (x : Addr) (a b c d u y z : Int), vs = [.ref x] ∧ ElAt C C_R C_E H x [a, b, c, d] u y z 1 ∧ B4 1000 a b c d ∧ B 200 y ∧ B 200 z ∧ Q (.int (fv a b c d y z).natAbs) H
end
section
variable {P : Program} {w : World} {K : PySem.W.Frag} {mg : Str → Option Value} {base : Heap} {C_Form C_Ring C_Element : Addr}
theorem ok_is_between (T : Txt K mg C_Form C_Ring C_Element) : Def P w K mg base 3 "is_between" ["value", "low", "high"] (sp_is_between K C_Form C_Ring C_Element) := by
  obtain ⟨f_, fd_, g_, F_⟩ := T.d_is_between
  obtain ⟨f_is_short_integer, fd_is_short_integer, g_is_short_integer, k_is_short_integer, b_is_short_integer, G_is_short_integer⟩ := (ok_is_short_integer (P := P) (w := w) (base := base) T)
  refine ⟨f_, fd_, g_, F_.kp, F_.binds (ps := ["value", "low", "high"]) (fun _ _ _ _ _ _ us hl => match us, hl with | [_, _, _], _ => rfl), ?_⟩
  refine F_.ok sc_is_between (fun vs H Q E h => ?_) (fun cdv A outer s H vs Q E hr h => ?_)
  · first | (obtain ⟨rfl, _⟩ := h; rfl) | (obtain ⟨_, rfl, _⟩ := h; rfl) | (obtain ⟨_, _, rfl, _⟩ := h; rfl) | (obtain ⟨_, _, _, rfl, _⟩ := h; rfl) | (obtain ⟨_, _, _, _, rfl, _⟩ := h; rfl) | (obtain ⟨_, _, _, _, _, rfl, _⟩ := h; rfl) | (obtain ⟨_, _, _, _, _, _, rfl, _⟩ := h; rfl) | (obtain ⟨_, _, _, _, _, _, _, rfl, _⟩ := h; rfl) | (obtain ⟨_, _, _, _, _, _, _, _, rfl, _⟩ := h; rfl) | (obtain ⟨_, _, _, _, _, _, _, _, _, rfl, _⟩ := h; rfl) | (obtain ⟨_, _, _, _, _, _, _, _, _, _, rfl, _⟩ := h; rfl) | (obtain ⟨_, _, _, _, _, _, _, _, _, _, _, rfl, _⟩ := h; rfl) | (obtain ⟨_, _, _, _, _, _, _, _, _, _, _, _, rfl, _⟩ := h; rfl) | (obtain ⟨_, _, _, _, _, _, _, _, _, _, _, _, _, rfl, _⟩ := h; rfl) | (obtain ⟨_, _, _, _, _, _, _, _, _, _, _, _, _, _, rfl, _⟩ := h; rfl) | (obtain ⟨_, _, _, _, _, _, _, _, _, _, _, _, _, _, _, rfl, _⟩ := h; rfl) | (obtain ⟨_, _, _, _, _, _, _, _, _, _, _, _, _, _, _, _, rfl, _⟩ := h; rfl) | (obtain ⟨_, _, _, _, _, _, _, _, _, _, _, _, _, _, _, _, _, rfl, _⟩ := h; rfl) | (obtain ⟨_, _, _, _, _, _, _, _, _, _, _, _, _, _, _, _, _, _, rfl, _⟩ := h; rfl) | (obtain ⟨_, _, _, _, _, _, _, _, _, _, _, _, _, _, _, _, _, _, _, rfl, _⟩ := h; rfl) | (obtain ⟨_, _, _, _, _, _, _, _, _, _, _, _, _, _, _, _, _, _, _, _, rfl, _⟩ := h; rfl) | (obtain ⟨_, _, _, _, _, _, _, _, _, _, _, _, _, _, _, _, _, _, _, _, _, rfl, _⟩ := h; rfl) | (obtain ⟨_, _, _, _, _, _, _, _, _, _, _, _, _, _, _, _, _, _, _, _, _, _, rfl, _⟩ := h; rfl) | (obtain ⟨_, _, _, _, _, _, _, _, _, _, _, _, _, _, _, _, _, _, _, _, _, _, _, rfl, _⟩ := h; rfl)
  · obtain ⟨i, lo, hi, rfl, hs, h1, h2, q⟩ := h
    refine ⟨_, (pss_one (ps_ret (pe_and (pe_call G_is_short_integer (hr.mono (by decide)) (by rfl) g_is_short_integer k_is_short_integer b_is_short_integer .nil pass0 (pa_cons (pv 0) pa_nil)) (pe_one (pe_chain op_le op_le (pv 1) (pv 0) (pv 2)))))), ?_⟩
    refine ⟨_, rfl, i, rfl, hs, _, rfl, iteT ?_⟩
    refine ⟨_, rfl, _, rfl, _, _, rfl, rfl, _, rfl, dT h1 ⟨_, rfl, _, _, rfl, rfl, ?_⟩⟩
    show Q (.bl (decide (i ≤ hi))) H
    rw [decide_eq_true h2]
    exact q
theorem ok_check_between (T : Txt K mg C_Form C_Ring C_Element) : Def P w K mg base 4 "check_between" ["value", "low", "high"] (sp_check_between K C_Form C_Ring C_Element) := by
  obtain ⟨f_, fd_, g_, F_⟩ := T.d_check_between
  obtain ⟨f_is_between, fd_is_between, g_is_between, k_is_between, b_is_between, G_is_between⟩ := (ok_is_between (P := P) (w := w) (base := base) T)
  refine ⟨f_, fd_, g_, F_.kp, F_.binds (ps := ["value", "low", "high"]) (fun _ _ _ _ _ _ us hl => match us, hl with | [_, _, _], _ => rfl), ?_⟩
  refine F_.ok sc_check_between (fun vs H Q E h => ?_) (fun cdv A outer s H vs Q E hr h => ?_)
  · first | (obtain ⟨rfl, _⟩ := h; rfl) | (obtain ⟨_, rfl, _⟩ := h; rfl) | (obtain ⟨_, _, rfl, _⟩ := h; rfl) | (obtain ⟨_, _, _, rfl, _⟩ := h; rfl) | (obtain ⟨_, _, _, _, rfl, _⟩ := h; rfl) | (obtain ⟨_, _, _, _, _, rfl, _⟩ := h; rfl) | (obtain ⟨_, _, _, _, _, _, rfl, _⟩ := h; rfl) | (obtain ⟨_, _, _, _, _, _, _, rfl, _⟩ := h; rfl) | (obtain ⟨_, _, _, _, _, _, _, _, rfl, _⟩ := h; rfl) | (obtain ⟨_, _, _, _, _, _, _, _, _, rfl, _⟩ := h; rfl) | (obtain ⟨_, _, _, _, _, _, _, _, _, _, rfl, _⟩ := h; rfl) | (obtain ⟨_, _, _, _, _, _, _, _, _, _, _, rfl, _⟩ := h; rfl) | (obtain ⟨_, _, _, _, _, _, _, _, _, _, _, _, rfl, _⟩ := h; rfl) | (obtain ⟨_, _, _, _, _, _, _, _, _, _, _, _, _, rfl, _⟩ := h; rfl) | (obtain ⟨_, _, _, _, _, _, _, _, _, _, _, _, _, _, rfl, _⟩ := h; rfl) | (obtain ⟨_, _, _, _, _, _, _, _, _, _, _, _, _, _, _, rfl, _⟩ := h; rfl) | (obtain ⟨_, _, _, _, _, _, _, _, _, _, _, _, _, _, _, _, rfl, _⟩ := h; rfl) | (obtain ⟨_, _, _, _, _, _, _, _, _, _, _, _, _, _, _, _, _, rfl, _⟩ := h; rfl) | (obtain ⟨_, _, _, _, _, _, _, _, _, _, _, _, _, _, _, _, _, _, rfl, _⟩ := h; rfl) | (obtain ⟨_, _, _, _, _, _, _, _, _, _, _, _, _, _, _, _, _, _, _, rfl, _⟩ := h; rfl) | (obtain ⟨_, _, _, _, _, _, _, _, _, _, _, _, _, _, _, _, _, _, _, _, rfl, _⟩ := h; rfl) | (obtain ⟨_, _, _, _, _, _, _, _, _, _, _, _, _, _, _, _, _, _, _, _, _, rfl, _⟩ := h; rfl) | (obtain ⟨_, _, _, _, _, _, _, _, _, _, _, _, _, _, _, _, _, _, _, _, _, _, rfl, _⟩ := h; rfl) | (obtain ⟨_, _, _, _, _, _, _, _, _, _, _, _, _, _, _, _, _, _, _, _, _, _, _, rfl, _⟩ := h; rfl)
  · obtain ⟨i, lo, hi, rfl, hs, h1, h2, q⟩ := h
    refine ⟨_, (pss_one (ps_if (pt_not (pt_val (pe_call G_is_between (hr.mono (by decide)) (by rfl) g_is_between k_is_between b_is_between .nil pass0 (pa_cons (pv 0) (pa_cons (pv 1) (pa_cons (pv 2) pa_nil))))))
      pss_never
      pss_nil)), ?_⟩
    refine ⟨_, rfl, _, rfl, _, rfl, i, lo, hi, rfl, hs, h1, h2, _, rfl, ?_⟩
    exact iteF q
theorem ok_are_any_integers (T : Txt K mg C_Form C_Ring C_Element) : Def P w K mg base 2 "are_any_integers" ["value", "many"] (sp_are_any_integers K C_Form C_Ring C_Element) := by
  obtain ⟨f_, fd_, g_, F_⟩ := T.d_are_any_integers
  obtain ⟨f_is_any_integer, fd_is_any_integer, g_is_any_integer, k_is_any_integer, b_is_any_integer, G_is_any_integer⟩ := (ok_is_any_integer (P := P) (w := w) (base := base) T)
  refine ⟨f_, fd_, g_, F_.kp, F_.binds (ps := ["value", "many"]) (fun _ _ _ _ _ _ us hl => match us, hl with | [_, _], _ => rfl), ?_⟩
  refine F_.ok sc_are_any_integers (fun vs H Q E h => ?_) (fun cdv A outer s H vs Q E hr h => ?_)
  · first | (obtain ⟨rfl, _⟩ := h; rfl) | (obtain ⟨_, rfl, _⟩ := h; rfl) | (obtain ⟨_, _, rfl, _⟩ := h; rfl) | (obtain ⟨_, _, _, rfl, _⟩ := h; rfl) | (obtain ⟨_, _, _, _, rfl, _⟩ := h; rfl) | (obtain ⟨_, _, _, _, _, rfl, _⟩ := h; rfl) | (obtain ⟨_, _, _, _, _, _, rfl, _⟩ := h; rfl) | (obtain ⟨_, _, _, _, _, _, _, rfl, _⟩ := h; rfl) | (obtain ⟨_, _, _, _, _, _, _, _, rfl, _⟩ := h; rfl) | (obtain ⟨_, _, _, _, _, _, _, _, _, rfl, _⟩ := h; rfl) | (obtain ⟨_, _, _, _, _, _, _, _, _, _, rfl, _⟩ := h; rfl) | (obtain ⟨_, _, _, _, _, _, _, _, _, _, _, rfl, _⟩ := h; rfl) | (obtain ⟨_, _, _, _, _, _, _, _, _, _, _, _, rfl, _⟩ := h; rfl) | (obtain ⟨_, _, _, _, _, _, _, _, _, _, _, _, _, rfl, _⟩ := h; rfl) | (obtain ⟨_, _, _, _, _, _, _, _, _, _, _, _, _, _, rfl, _⟩ := h; rfl) | (obtain ⟨_, _, _, _, _, _, _, _, _, _, _, _, _, _, _, rfl, _⟩ := h; rfl) | (obtain ⟨_, _, _, _, _, _, _, _, _, _, _, _, _, _, _, _, rfl, _⟩ := h; rfl) | (obtain ⟨_, _, _, _, _, _, _, _, _, _, _, _, _, _, _, _, _, rfl, _⟩ := h; rfl) | (obtain ⟨_, _, _, _, _, _, _, _, _, _, _, _, _, _, _, _, _, _, rfl, _⟩ := h; rfl) | (obtain ⟨_, _, _, _, _, _, _, _, _, _, _, _, _, _, _, _, _, _, _, rfl, _⟩ := h; rfl) | (obtain ⟨_, _, _, _, _, _, _, _, _, _, _, _, _, _, _, _, _, _, _, _, rfl, _⟩ := h; rfl) | (obtain ⟨_, _, _, _, _, _, _, _, _, _, _, _, _, _, _, _, _, _, _, _, _, rfl, _⟩ := h; rfl) | (obtain ⟨_, _, _, _, _, _, _, _, _, _, _, _, _, _, _, _, _, _, _, _, _, _, rfl, _⟩ := h; rfl) | (obtain ⟨_, _, _, _, _, _, _, _, _, _, _, _, _, _, _, _, _, _, _, _, _, _, _, rfl, _⟩ := h; rfl)
  · obtain ⟨v, o, rfl, hv, q⟩ := h
    refine ⟨_, (pss_cons (ps_if (PW.pt (pw_or (pt_not (pt_val (pe_callB call_isi (by rfl) T.b_isinstance (by decide +kernel) (pa_cons (pv 0) (pa_cons (pe_bltn (v := .ty "tuple") (by rfl) T.b_tuple (by decide +kernel) rfl) pa_nil))))) (pw_or1 (pt_cmpR op_ne (pe_callB call_len_seq (by rfl) T.b_len PySem.boot_len (pa_cons (pv 0) pa_nil)) (pv 1) (nomark _)))))
      (pss_one (ps_ret pe_bl))
      pss_nil)
    (pss_one (ps_ret (pe_callB (cr_all rfl) (by rfl) T.b_all (by decide +kernel) (pa_cons (pe_lc (own := [("number", 2)]) (g := (gName 2)) rfl sc_are_any_integers.nd (pi_tup (pv 0)) (blkOk_by (N := N_are_any_integers) (sc := defScope s_are_any_integers) (by decide +kernel)) (fun _ _ _ _ _ => (pg_name (i := 2) sc_are_any_integers.nd rfl (.inl rfl))) (fun _ _ _ _ _ => pts_nil) (fun _ _ _ _ _ => (pe_call G_is_any_integer (hr.mono (by decide)) (by rfl) g_is_any_integer k_is_any_integer b_is_any_integer .nil pass0 (pa_cons (pv 2) pa_nil)))) pa_nil))))), ?_⟩
    rcases hv.cls (K := K) with ⟨a, x, y, b1, b2, rfl, ha, hx, hy, ho⟩ | ⟨t, ty, kt, rfl⟩
    · rw [ho] at q
      refine ⟨_, rfl, _, _, _, _, true, rfl, .ty _, .base (.tup ha), kit_ty (by decide +kernel), _, rfl, ?_⟩
      refine iteF ⟨_, rfl, a, _, rfl, .inr (SqT.of ha), _, rfl, rfl, _, rfl, ?_⟩
      refine ndF rfl ?_
      refine ⟨_, rfl, a, rfl, ⟨_, SqT.of ha⟩, ?_⟩
      refine lcT fm0 trivial (SqT.of ha) (fun z => z) (fun i acc _ => acc = (([b1, b2] : List Bool).take i).map V.bl) (fun _ _ => rfl) (fun D i z acc H' hD hz e hA hlen hp => ?_) (fun D H' acc hD e hA hp => ?_)
      · have gz : ∃ b, El H z b ∧ ([b1, b2] : List Bool)[i]? = some b ∧ i < 2 := by
          match i, hz with
          | 0, hz => exact ⟨b1, (Option.some.inj hz) ▸ hx, rfl, by decide⟩
          | 1, hz => exact ⟨b2, (Option.some.inj hz) ▸ hy, rfl, by decide⟩
        obtain ⟨b, hb, hbi, hi⟩ := gz
        refine ⟨rfl, ?_⟩
        refine ⟨_, rfl, z, b, rfl, El.ex e hb, ?_⟩
        refine cs_yes fm0 trivial hD e hA hlen (by omega) (Fx.refl trivial) ?_
        rw [hp, List.take_add_one, hbi, List.map_append]
        rfl
      · subst hp
        refine ⟨D, [b1, b2], rfl, SqL.of hA, ?_⟩
        have e2 : ([b1, b2] : List Bool).all id = (b1 && b2) := by cases b1 <;> cases b2 <;> rfl
        rw [e2]
        exact q H' e
    · exact ⟨_, rfl, _, _, _, _, false, rfl, .ty _, ty, kt, _, rfl, iteT (q H (Ex0.refl H))⟩
theorem ok_determinant_of (T : Txt K mg C_Form C_Ring C_Element) : Def P w K mg base 1 "determinant_of" ["change"] (sp_determinant_of K C_Form C_Ring C_Element) := by
  obtain ⟨f_, fd_, g_, F_⟩ := T.d_determinant_of
  refine ⟨f_, fd_, g_, F_.kp, F_.binds (ps := ["change"]) (fun _ _ _ _ _ _ us hl => match us, hl with | [_], _ => rfl), ?_⟩
  refine F_.ok sc_determinant_of (fun vs H Q E h => ?_) (fun cdv A outer s H vs Q E hr h => ?_)
  · first | (obtain ⟨rfl, _⟩ := h; rfl) | (obtain ⟨_, rfl, _⟩ := h; rfl) | (obtain ⟨_, _, rfl, _⟩ := h; rfl) | (obtain ⟨_, _, _, rfl, _⟩ := h; rfl) | (obtain ⟨_, _, _, _, rfl, _⟩ := h; rfl) | (obtain ⟨_, _, _, _, _, rfl, _⟩ := h; rfl) | (obtain ⟨_, _, _, _, _, _, rfl, _⟩ := h; rfl) | (obtain ⟨_, _, _, _, _, _, _, rfl, _⟩ := h; rfl) | (obtain ⟨_, _, _, _, _, _, _, _, rfl, _⟩ := h; rfl) | (obtain ⟨_, _, _, _, _, _, _, _, _, rfl, _⟩ := h; rfl) | (obtain ⟨_, _, _, _, _, _, _, _, _, _, rfl, _⟩ := h; rfl) | (obtain ⟨_, _, _, _, _, _, _, _, _, _, _, rfl, _⟩ := h; rfl) | (obtain ⟨_, _, _, _, _, _, _, _, _, _, _, _, rfl, _⟩ := h; rfl) | (obtain ⟨_, _, _, _, _, _, _, _, _, _, _, _, _, rfl, _⟩ := h; rfl) | (obtain ⟨_, _, _, _, _, _, _, _, _, _, _, _, _, _, rfl, _⟩ := h; rfl) | (obtain ⟨_, _, _, _, _, _, _, _, _, _, _, _, _, _, _, rfl, _⟩ := h; rfl) | (obtain ⟨_, _, _, _, _, _, _, _, _, _, _, _, _, _, _, _, rfl, _⟩ := h; rfl) | (obtain ⟨_, _, _, _, _, _, _, _, _, _, _, _, _, _, _, _, _, rfl, _⟩ := h; rfl) | (obtain ⟨_, _, _, _, _, _, _, _, _, _, _, _, _, _, _, _, _, _, rfl, _⟩ := h; rfl) | (obtain ⟨_, _, _, _, _, _, _, _, _, _, _, _, _, _, _, _, _, _, _, rfl, _⟩ := h; rfl) | (obtain ⟨_, _, _, _, _, _, _, _, _, _, _, _, _, _, _, _, _, _, _, _, rfl, _⟩ := h; rfl) | (obtain ⟨_, _, _, _, _, _, _, _, _, _, _, _, _, _, _, _, _, _, _, _, _, rfl, _⟩ := h; rfl) | (obtain ⟨_, _, _, _, _, _, _, _, _, _, _, _, _, _, _, _, _, _, _, _, _, _, rfl, _⟩ := h; rfl) | (obtain ⟨_, _, _, _, _, _, _, _, _, _, _, _, _, _, _, _, _, _, _, _, _, _, _, rfl, _⟩ := h; rfl)
  · obtain ⟨a, p, q', r, s', rfl, ⟨t1, t2, h0, h1, h2⟩, bp, bq, br, bs, q⟩ := h
    refine ⟨_, (pss_cons (ps_asg (pv 0) (pg_tup (by rfl) (pgs_cons (pg_tup (by rfl) (pgs_cons (pg_name (i := 1) sc_determinant_of.nd rfl (.inl rfl)) (pgs_cons (pg_name (i := 2) sc_determinant_of.nd rfl (.inl rfl)) pgs_nil))) (pgs_cons (pg_tup (by rfl) (pgs_cons (pg_name (i := 3) sc_determinant_of.nd rfl (.inl rfl)) (pgs_cons (pg_name (i := 4) sc_determinant_of.nd rfl (.inl rfl)) pgs_nil))) pgs_nil))))
    (pss_one (ps_ret (pe_op op_sub (pe_op op_mulW (pv 1) (pv 4)) (pe_op op_mulW (pv 2) (pv 3)))))), ?_⟩
    refine ⟨_, rfl, a, _, rfl, SqT.of h0, rfl, _, _, rfl, ?_⟩
    refine ⟨t1, _, rfl, SqT.of h1, rfl, _, _, rfl, ?_⟩
    refine ⟨_, _, rfl, ⟨rfl, ?_⟩⟩
    refine ⟨_, _, rfl, ?_⟩
    refine ⟨t2, _, rfl, SqT.of h2, rfl, _, _, rfl, ?_⟩
    refine ⟨_, _, rfl, ⟨rfl, ?_⟩⟩
    refine ⟨rfl, ?_⟩
    exact ⟨_, rfl, _, rfl, _, _, rfl, rfl, mulB (by with_reducible assumption) (by with_reducible assumption) (by decide), _, rfl, _, rfl, _, _, rfl, rfl, mulB (by with_reducible assumption) (by with_reducible assumption) (by decide), _, _, rfl, rfl, q⟩
theorem ok_is_change (T : Txt K mg C_Form C_Ring C_Element) : Def P w K mg base 3 "is_change" ["value"] (sp_is_change K C_Form C_Ring C_Element) := by
  obtain ⟨f_, fd_, g_, F_⟩ := T.d_is_change
  obtain ⟨f_are_any_integers, fd_are_any_integers, g_are_any_integers, k_are_any_integers, b_are_any_integers, G_are_any_integers⟩ := (ok_are_any_integers (P := P) (w := w) (base := base) T)
  obtain ⟨f_determinant_of, fd_determinant_of, g_determinant_of, k_determinant_of, b_determinant_of, G_determinant_of⟩ := (ok_determinant_of (P := P) (w := w) (base := base) T)
  refine ⟨f_, fd_, g_, F_.kp, F_.binds (ps := ["value"]) (fun _ _ _ _ _ _ us hl => match us, hl with | [_], _ => rfl), ?_⟩
  refine F_.ok sc_is_change (fun vs H Q E h => ?_) (fun cdv A outer s H vs Q E hr h => ?_)
  · first | (obtain ⟨rfl, _⟩ := h; rfl) | (obtain ⟨_, rfl, _⟩ := h; rfl) | (obtain ⟨_, _, rfl, _⟩ := h; rfl) | (obtain ⟨_, _, _, rfl, _⟩ := h; rfl) | (obtain ⟨_, _, _, _, rfl, _⟩ := h; rfl) | (obtain ⟨_, _, _, _, _, rfl, _⟩ := h; rfl) | (obtain ⟨_, _, _, _, _, _, rfl, _⟩ := h; rfl) | (obtain ⟨_, _, _, _, _, _, _, rfl, _⟩ := h; rfl) | (obtain ⟨_, _, _, _, _, _, _, _, rfl, _⟩ := h; rfl) | (obtain ⟨_, _, _, _, _, _, _, _, _, rfl, _⟩ := h; rfl) | (obtain ⟨_, _, _, _, _, _, _, _, _, _, rfl, _⟩ := h; rfl) | (obtain ⟨_, _, _, _, _, _, _, _, _, _, _, rfl, _⟩ := h; rfl) | (obtain ⟨_, _, _, _, _, _, _, _, _, _, _, _, rfl, _⟩ := h; rfl) | (obtain ⟨_, _, _, _, _, _, _, _, _, _, _, _, _, rfl, _⟩ := h; rfl) | (obtain ⟨_, _, _, _, _, _, _, _, _, _, _, _, _, _, rfl, _⟩ := h; rfl) | (obtain ⟨_, _, _, _, _, _, _, _, _, _, _, _, _, _, _, rfl, _⟩ := h; rfl) | (obtain ⟨_, _, _, _, _, _, _, _, _, _, _, _, _, _, _, _, rfl, _⟩ := h; rfl) | (obtain ⟨_, _, _, _, _, _, _, _, _, _, _, _, _, _, _, _, _, rfl, _⟩ := h; rfl) | (obtain ⟨_, _, _, _, _, _, _, _, _, _, _, _, _, _, _, _, _, _, rfl, _⟩ := h; rfl) | (obtain ⟨_, _, _, _, _, _, _, _, _, _, _, _, _, _, _, _, _, _, _, rfl, _⟩ := h; rfl) | (obtain ⟨_, _, _, _, _, _, _, _, _, _, _, _, _, _, _, _, _, _, _, _, rfl, _⟩ := h; rfl) | (obtain ⟨_, _, _, _, _, _, _, _, _, _, _, _, _, _, _, _, _, _, _, _, _, rfl, _⟩ := h; rfl) | (obtain ⟨_, _, _, _, _, _, _, _, _, _, _, _, _, _, _, _, _, _, _, _, _, _, rfl, _⟩ := h; rfl) | (obtain ⟨_, _, _, _, _, _, _, _, _, _, _, _, _, _, _, _, _, _, _, _, _, _, _, rfl, _⟩ := h; rfl)
  · obtain ⟨v, o, rfl, hv, hB, q⟩ := h
    refine ⟨_, (pss_cons (ps_if (PW.pt (pw_or (pt_not (pt_val (pe_callB call_isi (by rfl) T.b_isinstance (by decide +kernel) (pa_cons (pv 0) (pa_cons (pe_bltn (v := .ty "tuple") (by rfl) T.b_tuple (by decide +kernel) rfl) pa_nil))))) (pw_or1 (pt_cmpR op_ne (pe_callB call_len_seq (by rfl) T.b_len PySem.boot_len (pa_cons (pv 0) pa_nil)) pe_int (nomark _)))))
      (pss_one (ps_ret pe_bl))
      pss_nil)
    (pss_cons (ps_if (pt_not (pt_val (pe_callB (cr_all rfl) (by rfl) T.b_all (by decide +kernel) (pa_cons (pe_lc (own := [("row", 1)]) (g := (gName 1)) rfl sc_is_change.nd (pi_tup (pv 0)) (blkOk_by (N := N_is_change) (sc := defScope s_is_change) (by decide +kernel)) (fun _ _ _ _ _ => (pg_name (i := 1) sc_is_change.nd rfl (.inl rfl))) (fun _ _ _ _ _ => pts_nil) (fun _ _ _ _ _ => (pe_call G_are_any_integers (hr.mono (by decide)) (by rfl) g_are_any_integers k_are_any_integers b_are_any_integers .nil pass0 (pa_cons (pv 1) (pa_cons pe_int pa_nil))))) pa_nil))))
      (pss_one (ps_ret pe_bl))
      pss_nil)
    (pss_one (ps_ret (pe_cmpR op_in_seq (pe_call G_determinant_of (hr.mono (by decide)) (by rfl) g_determinant_of k_determinant_of b_determinant_of .nil pass0 (pa_cons (pv 0) pa_nil)) (pe_tup (pa_cons pe_int (pa_cons (pe_un un_neg pe_int) pa_nil))) (by with_unfolding_all rfl)))))), ?_⟩
    rcases hv.cls (K := K) with ⟨a, x, y, o1, o2, rfl, ha, hx, hy, rfl⟩ | ⟨t, ty, kt, rfl⟩ | ⟨a, xs, rfl, ha, hl, rfl⟩
    · refine ⟨_, rfl, _, _, _, _, true, rfl, .ty _, .base (.tup ha), kit_ty (by decide +kernel), _, rfl, ?_⟩
      refine iteF ⟨_, rfl, a, _, rfl, .inr (SqT.of ha), rfl, _, rfl, ?_⟩
      refine ndF rfl ?_
      refine ⟨_, rfl, a, rfl, ⟨_, SqT.of ha⟩, ?_⟩
      refine lcT fm0 trivial (SqT.of ha) (fun z => z) (fun i acc _ => acc = (([o1.isSome, o2.isSome] : List Bool).take i).map V.bl) (fun _ _ => rfl) (fun D i z acc H' hD hz e hA hlen hp => ?_) (fun D H' acc hD e hA hp => ?_)
      · have gz : ∃ o, RowV H z o ∧ ([o1.isSome, o2.isSome] : List Bool)[i]? = some o.isSome ∧ i < 2 := by
          match i, hz with
          | 0, hz => exact ⟨o1, (Option.some.inj hz) ▸ hx, rfl, by decide⟩
          | 1, hz => exact ⟨o2, (Option.some.inj hz) ▸ hy, rfl, by decide⟩
        obtain ⟨oz, hb, hbi, hi⟩ := gz
        refine ⟨rfl, ?_⟩
        refine ⟨_, rfl, z, oz, rfl, hb.ex e, fun H'' e'' => ?_⟩
        refine cs_yes fm0 trivial hD e hA hlen (by omega) e'' ?_
        rw [hp, List.take_add_one, hbi, List.map_append]
        rfl
      · subst hp
        refine ⟨D, [o1.isSome, o2.isSome], rfl, SqL.of hA, _, rfl, ?_⟩
        cases o1 with
        | none => exact iteT (q H' e)
        | some u =>
          cases o2 with
          | none => exact iteT (q H' e)
          | some w =>
            obtain ⟨p, q'⟩ := u
            obtain ⟨r, s'⟩ := w
            refine iteF ?_
            have h4 : T4 H a p q' r s' := by
              obtain ⟨a', t1, t2, e1, k0, k1, k2⟩ := hv.t4
              cases e1
              exact ⟨t1, t2, k0, k1, k2⟩
            obtain ⟨bp, bq, br, bs⟩ := hB p q' r s' rfl
            refine ⟨_, rfl, a, p, q', r, s', rfl, Ex0.t4 e h4, bp, bq, br, bs, _, rfl, sl2, fun u nu => ?_⟩
            refine ⟨u, _, rfl, .inr (SqT.of upd_same), rfl, rfl, ?_⟩
            have e1 : inV (.int (p * s' - q' * r)) [.int 1, .int (-1)] = good (some (p, q', r, s')) := by
              show ((1 : Int) == p * s' - q' * r || ((-1 : Int) == p * s' - q' * r || false)) = decide (p * s' - q' * r = 1 ∨ p * s' - q' * r = -1)
              generalize p * s' - q' * r = v
              apply Bool.eq_iff_iff.mpr
              simp only [Bool.or_false, Bool.or_eq_true, beq_iff_eq, decide_eq_true_iff]
              omega
            show Q (.bl (inV (.int (p * s' - q' * r)) [.int 1, .int (-1)])) _
            rw [e1]
            exact q _ (e.trans (Ex0.new nu))
    · exact ⟨_, rfl, _, _, _, _, false, rfl, .ty _, ty, kt, _, rfl, iteT (q H (Ex0.refl H))⟩
    · refine ⟨_, rfl, _, _, _, _, true, rfl, .ty _, .base (.tup ha), kit_ty (by decide +kernel), _, rfl, ?_⟩
      refine iteF ⟨_, rfl, a, _, rfl, .inr (SqT.of ha), rfl, _, rfl, ?_⟩
      exact ndT (fun z => hl (by injection z with z; omega)) (q H (Ex0.refl H))
theorem ok_is_short_change (T : Txt K mg C_Form C_Ring C_Element) : Def P w K mg base 4 "is_short_change" ["value"] (sp_is_short_change K C_Form C_Ring C_Element) := by
  obtain ⟨f_, fd_, g_, F_⟩ := T.d_is_short_change
  obtain ⟨f_are_short_integers, fd_are_short_integers, g_are_short_integers, k_are_short_integers, b_are_short_integers, G_are_short_integers⟩ := (ok_are_short_integers (P := P) (w := w) (base := base) T)
  obtain ⟨f_is_change, fd_is_change, g_is_change, k_is_change, b_is_change, G_is_change⟩ := (ok_is_change (P := P) (w := w) (base := base) T)
  refine ⟨f_, fd_, g_, F_.kp, F_.binds (ps := ["value"]) (fun _ _ _ _ _ _ us hl => match us, hl with | [_], _ => rfl), ?_⟩
  refine F_.ok sc_is_short_change (fun vs H Q E h => ?_) (fun cdv A outer s H vs Q E hr h => ?_)
  · first | (obtain ⟨rfl, _⟩ := h; rfl) | (obtain ⟨_, rfl, _⟩ := h; rfl) | (obtain ⟨_, _, rfl, _⟩ := h; rfl) | (obtain ⟨_, _, _, rfl, _⟩ := h; rfl) | (obtain ⟨_, _, _, _, rfl, _⟩ := h; rfl) | (obtain ⟨_, _, _, _, _, rfl, _⟩ := h; rfl) | (obtain ⟨_, _, _, _, _, _, rfl, _⟩ := h; rfl) | (obtain ⟨_, _, _, _, _, _, _, rfl, _⟩ := h; rfl) | (obtain ⟨_, _, _, _, _, _, _, _, rfl, _⟩ := h; rfl) | (obtain ⟨_, _, _, _, _, _, _, _, _, rfl, _⟩ := h; rfl) | (obtain ⟨_, _, _, _, _, _, _, _, _, _, rfl, _⟩ := h; rfl) | (obtain ⟨_, _, _, _, _, _, _, _, _, _, _, rfl, _⟩ := h; rfl) | (obtain ⟨_, _, _, _, _, _, _, _, _, _, _, _, rfl, _⟩ := h; rfl) | (obtain ⟨_, _, _, _, _, _, _, _, _, _, _, _, _, rfl, _⟩ := h; rfl) | (obtain ⟨_, _, _, _, _, _, _, _, _, _, _, _, _, _, rfl, _⟩ := h; rfl) | (obtain ⟨_, _, _, _, _, _, _, _, _, _, _, _, _, _, _, rfl, _⟩ := h; rfl) | (obtain ⟨_, _, _, _, _, _, _, _, _, _, _, _, _, _, _, _, rfl, _⟩ := h; rfl) | (obtain ⟨_, _, _, _, _, _, _, _, _, _, _, _, _, _, _, _, _, rfl, _⟩ := h; rfl) | (obtain ⟨_, _, _, _, _, _, _, _, _, _, _, _, _, _, _, _, _, _, rfl, _⟩ := h; rfl) | (obtain ⟨_, _, _, _, _, _, _, _, _, _, _, _, _, _, _, _, _, _, _, rfl, _⟩ := h; rfl) | (obtain ⟨_, _, _, _, _, _, _, _, _, _, _, _, _, _, _, _, _, _, _, _, rfl, _⟩ := h; rfl) | (obtain ⟨_, _, _, _, _, _, _, _, _, _, _, _, _, _, _, _, _, _, _, _, _, rfl, _⟩ := h; rfl) | (obtain ⟨_, _, _, _, _, _, _, _, _, _, _, _, _, _, _, _, _, _, _, _, _, _, rfl, _⟩ := h; rfl) | (obtain ⟨_, _, _, _, _, _, _, _, _, _, _, _, _, _, _, _, _, _, _, _, _, _, _, rfl, _⟩ := h; rfl)
  · obtain ⟨a, p, q', r, s', rfl, h4, hc, q⟩ := h
    refine ⟨_, (pss_one (ps_ret (pe_and (pe_call G_is_change (hr.mono (by decide)) (by rfl) g_is_change k_is_change b_is_change .nil pass0 (pa_cons (pv 0) pa_nil)) (pe_one (pe_callB (cr_all rfl) (by rfl) T.b_all (by decide +kernel) (pa_cons (pe_lc (own := [("row", 1)]) (g := (gName 1)) rfl sc_is_short_change.nd (pi_tup (pv 0)) (blkOk_by (N := N_is_short_change) (sc := defScope s_is_short_change) (by decide +kernel)) (fun _ _ _ _ _ => (pg_name (i := 1) sc_is_short_change.nd rfl (.inl rfl))) (fun _ _ _ _ _ => pts_nil) (fun _ _ _ _ _ => (pe_call G_are_short_integers (hr.mono (by decide)) (by rfl) g_are_short_integers k_are_short_integers b_are_short_integers .nil pass0 (pa_cons (pv 1) (pa_cons pe_int pa_nil))))) pa_nil)))))), ?_⟩
    have hv : ChV H (.ref a) (some (p, q', r, s')) := by
      obtain ⟨t1, t2, h0, h1, h2⟩ := h4
      exact .two h0 (.yes h1) (.yes h2)
    have bb : ∀ {n : Int}, Short n → B 300 n := fun h => h.b.mono (by decide)
    refine ⟨_, rfl, _, _, rfl, hv, fun _ _ _ _ z => ?_, fun H1 e1 => ⟨_, rfl, ?_⟩⟩
    · have := Option.some.inj z
      obtain ⟨rfl, rfl, rfl, rfl⟩ : _ = _ ∧ _ = _ ∧ _ = _ ∧ _ = _ := by simpa using this
      exact ⟨bb hc.1, bb hc.2.1, bb hc.2.2.1, bb hc.2.2.2.1⟩
    rw [show good (some (p, q', r, s')) = true from decide_eq_true hc.2.2.2.2]
    refine iteT ?_
    obtain ⟨t1, t2, h0, h1, h2⟩ := Ex0.t4 e1 h4
    refine ⟨_, rfl, a, rfl, ⟨_, SqT.of h0⟩, ?_⟩
    refine lcT fm0 trivial (SqT.of h0) (fun z => z) (fun i acc _ => acc = (List.replicate i true).map V.bl) (fun _ _ => rfl) (fun D i x acc H' hD hx e hA hlen hp => ?_) (fun D H' acc hD e hA hp => ?_)
    · have fin : ∀ (t : Addr) (u v : Int), x = .ref t → H1 t = some (.tup [.int u, .int v]) → Short u → Short v → i < 2 → ∃ t, x = .ref t ∧ ∃ u v, H' t = some (.tup [.int u, .int v]) ∧ Short u ∧ Short v ∧ i < 2 := fun t u v e1 e2 e3 e4 e5 => ⟨t, e1, u, v, Ex0.ap e e2, e3, e4, e5⟩
      obtain ⟨t, rfl, u, v, ht, su, sv, hi⟩ : ∃ t, x = .ref t ∧ ∃ u v, H' t = some (.tup [.int u, .int v]) ∧ Short u ∧ Short v ∧ i < 2 := by
        match i, hx with
        | 0, hx => exact fin t1 p q' (Option.some.inj hx).symm h1 hc.1 hc.2.1 (by decide)
        | 1, hx => exact fin t2 r s' (Option.some.inj hx).symm h2 hc.2.2.1 hc.2.2.2.1 (by decide)
      refine ⟨rfl, ?_⟩
      refine ⟨_, rfl, t, [u, v], rfl, ht, by show 2 ≤ 1000; decide, fun n hn => ?_, fun H'' e'' => ?_⟩
      · simp only [List.mem_cons, List.mem_nil_iff, or_false] at hn
        rcases hn with rfl | rfl
        · exact su
        · exact sv
      · refine cs_yes fm0 trivial hD e hA hlen (by omega) e'' ?_
        rw [hp, List.replicate_succ', List.map_append]
        rfl
    · refine ⟨D, List.replicate 2 true, rfl, SqL.of (by rw [hA, hp]; rfl), ?_⟩
      exact q _ (e1.trans e)
theorem ok_check_change (T : Txt K mg C_Form C_Ring C_Element) : Def P w K mg base 5 "check_change" ["value"] (sp_check_change K C_Form C_Ring C_Element) := by
  obtain ⟨f_, fd_, g_, F_⟩ := T.d_check_change
  obtain ⟨f_is_short_change, fd_is_short_change, g_is_short_change, k_is_short_change, b_is_short_change, G_is_short_change⟩ := (ok_is_short_change (P := P) (w := w) (base := base) T)
  refine ⟨f_, fd_, g_, F_.kp, F_.binds (ps := ["value"]) (fun _ _ _ _ _ _ us hl => match us, hl with | [_], _ => rfl), ?_⟩
  refine F_.ok sc_check_change (fun vs H Q E h => ?_) (fun cdv A outer s H vs Q E hr h => ?_)
  · first | (obtain ⟨rfl, _⟩ := h; rfl) | (obtain ⟨_, rfl, _⟩ := h; rfl) | (obtain ⟨_, _, rfl, _⟩ := h; rfl) | (obtain ⟨_, _, _, rfl, _⟩ := h; rfl) | (obtain ⟨_, _, _, _, rfl, _⟩ := h; rfl) | (obtain ⟨_, _, _, _, _, rfl, _⟩ := h; rfl) | (obtain ⟨_, _, _, _, _, _, rfl, _⟩ := h; rfl) | (obtain ⟨_, _, _, _, _, _, _, rfl, _⟩ := h; rfl) | (obtain ⟨_, _, _, _, _, _, _, _, rfl, _⟩ := h; rfl) | (obtain ⟨_, _, _, _, _, _, _, _, _, rfl, _⟩ := h; rfl) | (obtain ⟨_, _, _, _, _, _, _, _, _, _, rfl, _⟩ := h; rfl) | (obtain ⟨_, _, _, _, _, _, _, _, _, _, _, rfl, _⟩ := h; rfl) | (obtain ⟨_, _, _, _, _, _, _, _, _, _, _, _, rfl, _⟩ := h; rfl) | (obtain ⟨_, _, _, _, _, _, _, _, _, _, _, _, _, rfl, _⟩ := h; rfl) | (obtain ⟨_, _, _, _, _, _, _, _, _, _, _, _, _, _, rfl, _⟩ := h; rfl) | (obtain ⟨_, _, _, _, _, _, _, _, _, _, _, _, _, _, _, rfl, _⟩ := h; rfl) | (obtain ⟨_, _, _, _, _, _, _, _, _, _, _, _, _, _, _, _, rfl, _⟩ := h; rfl) | (obtain ⟨_, _, _, _, _, _, _, _, _, _, _, _, _, _, _, _, _, rfl, _⟩ := h; rfl) | (obtain ⟨_, _, _, _, _, _, _, _, _, _, _, _, _, _, _, _, _, _, rfl, _⟩ := h; rfl) | (obtain ⟨_, _, _, _, _, _, _, _, _, _, _, _, _, _, _, _, _, _, _, rfl, _⟩ := h; rfl) | (obtain ⟨_, _, _, _, _, _, _, _, _, _, _, _, _, _, _, _, _, _, _, _, rfl, _⟩ := h; rfl) | (obtain ⟨_, _, _, _, _, _, _, _, _, _, _, _, _, _, _, _, _, _, _, _, _, rfl, _⟩ := h; rfl) | (obtain ⟨_, _, _, _, _, _, _, _, _, _, _, _, _, _, _, _, _, _, _, _, _, _, rfl, _⟩ := h; rfl) | (obtain ⟨_, _, _, _, _, _, _, _, _, _, _, _, _, _, _, _, _, _, _, _, _, _, _, rfl, _⟩ := h; rfl)
  · obtain ⟨a, p, q', r, s', rfl, h4, hc, q⟩ := h
    refine ⟨_, (pss_one (ps_if (pt_not (pt_val (pe_call G_is_short_change (hr.mono (by decide)) (by rfl) g_is_short_change k_is_short_change b_is_short_change .nil pass0 (pa_cons (pv 0) pa_nil))))
      pss_never
      pss_nil)), ?_⟩
    refine ⟨_, rfl, a, p, q', r, s', rfl, h4, hc, fun H1 e1 => ⟨_, rfl, ?_⟩⟩
    exact iteF (q _ e1)
theorem ok_form_value (T : Txt K mg C_Form C_Ring C_Element) : Def P w K mg base 1 "form_value" ["coefficients", "x", "y"] (sp_form_value K C_Form C_Ring C_Element) := by
  obtain ⟨f_, fd_, g_, F_⟩ := T.d_form_value
  refine ⟨f_, fd_, g_, F_.kp, F_.binds (ps := ["coefficients", "x", "y"]) (fun _ _ _ _ _ _ us hl => match us, hl with | [_, _, _], _ => rfl), ?_⟩
  refine F_.ok sc_form_value (fun vs H Q E h => ?_) (fun cdv A outer s H vs Q E hr h => ?_)
  · first | (obtain ⟨rfl, _⟩ := h; rfl) | (obtain ⟨_, rfl, _⟩ := h; rfl) | (obtain ⟨_, _, rfl, _⟩ := h; rfl) | (obtain ⟨_, _, _, rfl, _⟩ := h; rfl) | (obtain ⟨_, _, _, _, rfl, _⟩ := h; rfl) | (obtain ⟨_, _, _, _, _, rfl, _⟩ := h; rfl) | (obtain ⟨_, _, _, _, _, _, rfl, _⟩ := h; rfl) | (obtain ⟨_, _, _, _, _, _, _, rfl, _⟩ := h; rfl) | (obtain ⟨_, _, _, _, _, _, _, _, rfl, _⟩ := h; rfl) | (obtain ⟨_, _, _, _, _, _, _, _, _, rfl, _⟩ := h; rfl) | (obtain ⟨_, _, _, _, _, _, _, _, _, _, rfl, _⟩ := h; rfl) | (obtain ⟨_, _, _, _, _, _, _, _, _, _, _, rfl, _⟩ := h; rfl) | (obtain ⟨_, _, _, _, _, _, _, _, _, _, _, _, rfl, _⟩ := h; rfl) | (obtain ⟨_, _, _, _, _, _, _, _, _, _, _, _, _, rfl, _⟩ := h; rfl) | (obtain ⟨_, _, _, _, _, _, _, _, _, _, _, _, _, _, rfl, _⟩ := h; rfl) | (obtain ⟨_, _, _, _, _, _, _, _, _, _, _, _, _, _, _, rfl, _⟩ := h; rfl) | (obtain ⟨_, _, _, _, _, _, _, _, _, _, _, _, _, _, _, _, rfl, _⟩ := h; rfl) | (obtain ⟨_, _, _, _, _, _, _, _, _, _, _, _, _, _, _, _, _, rfl, _⟩ := h; rfl) | (obtain ⟨_, _, _, _, _, _, _, _, _, _, _, _, _, _, _, _, _, _, rfl, _⟩ := h; rfl) | (obtain ⟨_, _, _, _, _, _, _, _, _, _, _, _, _, _, _, _, _, _, _, rfl, _⟩ := h; rfl) | (obtain ⟨_, _, _, _, _, _, _, _, _, _, _, _, _, _, _, _, _, _, _, _, rfl, _⟩ := h; rfl) | (obtain ⟨_, _, _, _, _, _, _, _, _, _, _, _, _, _, _, _, _, _, _, _, _, rfl, _⟩ := h; rfl) | (obtain ⟨_, _, _, _, _, _, _, _, _, _, _, _, _, _, _, _, _, _, _, _, _, _, rfl, _⟩ := h; rfl) | (obtain ⟨_, _, _, _, _, _, _, _, _, _, _, _, _, _, _, _, _, _, _, _, _, _, _, rfl, _⟩ := h; rfl)
  · obtain ⟨t, a, b, c, d, x, y, rfl, ht, ba, bb, bc, bd, bx, by', q⟩ := h
    refine ⟨_, (pss_cons (ps_asg (pv 0) (pg_tup (by rfl) (pgs_cons (pg_name (i := 3) sc_form_value.nd rfl (.inl rfl)) (pgs_cons (pg_name (i := 4) sc_form_value.nd rfl (.inl rfl)) (pgs_cons (pg_name (i := 5) sc_form_value.nd rfl (.inl rfl)) (pgs_cons (pg_name (i := 6) sc_form_value.nd rfl (.inl rfl)) pgs_nil))))))
    (pss_one (ps_ret (pe_op op_add (pe_op op_add (pe_op op_add (pe_op op_mulW (pe_op op_mulW (pe_op op_mulW (pv 3) (pv 1)) (pv 1)) (pv 1)) (pe_op op_mulW (pe_op op_mulW (pe_op op_mulW (pv 4) (pv 1)) (pv 1)) (pv 2))) (pe_op op_mulW (pe_op op_mulW (pe_op op_mulW (pv 5) (pv 1)) (pv 2)) (pv 2))) (pe_op op_mulW (pe_op op_mulW (pe_op op_mulW (pv 6) (pv 2)) (pv 2)) (pv 2)))))), ?_⟩
    refine ⟨_, rfl, unI4 ht ?_⟩
    exact ⟨_, rfl, _, rfl, _, _, rfl, rfl, mulB (by with_reducible assumption) (by with_reducible assumption) (by decide), _, rfl, _, _, rfl, rfl, mulB (B.mul (by with_reducible assumption) (by with_reducible assumption)) (by with_reducible assumption) (by decide), _, rfl, _, _, rfl, rfl, mulB (B.mul (B.mul (by with_reducible assumption) (by with_reducible assumption)) (by with_reducible assumption)) (by with_reducible assumption) (by decide), _, rfl, _, rfl, _, _, rfl, rfl, mulB (by with_reducible assumption) (by with_reducible assumption) (by decide), _, rfl, _, _, rfl, rfl, mulB (B.mul (by with_reducible assumption) (by with_reducible assumption)) (by with_reducible assumption) (by decide), _, rfl, _, _, rfl, rfl, mulB (B.mul (B.mul (by with_reducible assumption) (by with_reducible assumption)) (by with_reducible assumption)) (by with_reducible assumption) (by decide), _, _, rfl, rfl, _, rfl, _, rfl, _, _, rfl, rfl, mulB (by with_reducible assumption) (by with_reducible assumption) (by decide), _, rfl, _, _, rfl, rfl, mulB (B.mul (by with_reducible assumption) (by with_reducible assumption)) (by with_reducible assumption) (by decide), _, rfl, _, _, rfl, rfl, mulB (B.mul (B.mul (by with_reducible assumption) (by with_reducible assumption)) (by with_reducible assumption)) (by with_reducible assumption) (by decide), _, _, rfl, rfl, _, rfl, _, rfl, _, _, rfl, rfl, mulB (by with_reducible assumption) (by with_reducible assumption) (by decide), _, rfl, _, _, rfl, rfl, mulB (B.mul (by with_reducible assumption) (by with_reducible assumption)) (by with_reducible assumption) (by decide), _, rfl, _, _, rfl, rfl, mulB (B.mul (B.mul (by with_reducible assumption) (by with_reducible assumption)) (by with_reducible assumption)) (by with_reducible assumption) (by decide), _, _, rfl, rfl, q⟩
theorem ok_form_led (T : Txt K mg C_Form C_Ring C_Element) : Def P w K mg base 2 "form_led" ["coefficients", "change"] (sp_form_led K C_Form C_Ring C_Element) := by
  obtain ⟨f_, fd_, g_, F_⟩ := T.d_form_led
  obtain ⟨f_determinant_of, fd_determinant_of, g_determinant_of, k_determinant_of, b_determinant_of, G_determinant_of⟩ := (ok_determinant_of (P := P) (w := w) (base := base) T)
  obtain ⟨f_form_value, fd_form_value, g_form_value, k_form_value, b_form_value, G_form_value⟩ := (ok_form_value (P := P) (w := w) (base := base) T)
  refine ⟨f_, fd_, g_, F_.kp, F_.binds (ps := ["coefficients", "change"]) (fun _ _ _ _ _ _ us hl => match us, hl with | [_, _], _ => rfl), ?_⟩
  refine F_.ok sc_form_led (fun vs H Q E h => ?_) (fun cdv A outer s H vs Q E hr h => ?_)
  · first | (obtain ⟨rfl, _⟩ := h; rfl) | (obtain ⟨_, rfl, _⟩ := h; rfl) | (obtain ⟨_, _, rfl, _⟩ := h; rfl) | (obtain ⟨_, _, _, rfl, _⟩ := h; rfl) | (obtain ⟨_, _, _, _, rfl, _⟩ := h; rfl) | (obtain ⟨_, _, _, _, _, rfl, _⟩ := h; rfl) | (obtain ⟨_, _, _, _, _, _, rfl, _⟩ := h; rfl) | (obtain ⟨_, _, _, _, _, _, _, rfl, _⟩ := h; rfl) | (obtain ⟨_, _, _, _, _, _, _, _, rfl, _⟩ := h; rfl) | (obtain ⟨_, _, _, _, _, _, _, _, _, rfl, _⟩ := h; rfl) | (obtain ⟨_, _, _, _, _, _, _, _, _, _, rfl, _⟩ := h; rfl) | (obtain ⟨_, _, _, _, _, _, _, _, _, _, _, rfl, _⟩ := h; rfl) | (obtain ⟨_, _, _, _, _, _, _, _, _, _, _, _, rfl, _⟩ := h; rfl) | (obtain ⟨_, _, _, _, _, _, _, _, _, _, _, _, _, rfl, _⟩ := h; rfl) | (obtain ⟨_, _, _, _, _, _, _, _, _, _, _, _, _, _, rfl, _⟩ := h; rfl) | (obtain ⟨_, _, _, _, _, _, _, _, _, _, _, _, _, _, _, rfl, _⟩ := h; rfl) | (obtain ⟨_, _, _, _, _, _, _, _, _, _, _, _, _, _, _, _, rfl, _⟩ := h; rfl) | (obtain ⟨_, _, _, _, _, _, _, _, _, _, _, _, _, _, _, _, _, rfl, _⟩ := h; rfl) | (obtain ⟨_, _, _, _, _, _, _, _, _, _, _, _, _, _, _, _, _, _, rfl, _⟩ := h; rfl) | (obtain ⟨_, _, _, _, _, _, _, _, _, _, _, _, _, _, _, _, _, _, _, rfl, _⟩ := h; rfl) | (obtain ⟨_, _, _, _, _, _, _, _, _, _, _, _, _, _, _, _, _, _, _, _, rfl, _⟩ := h; rfl) | (obtain ⟨_, _, _, _, _, _, _, _, _, _, _, _, _, _, _, _, _, _, _, _, _, rfl, _⟩ := h; rfl) | (obtain ⟨_, _, _, _, _, _, _, _, _, _, _, _, _, _, _, _, _, _, _, _, _, _, rfl, _⟩ := h; rfl) | (obtain ⟨_, _, _, _, _, _, _, _, _, _, _, _, _, _, _, _, _, _, _, _, _, _, _, rfl, _⟩ := h; rfl)
  · obtain ⟨t, u, a, b, c, d, p, q', r, s', rfl, ht, h4, ba, bb, bc, bd, bp, bq, br, bs, q⟩ := h
    refine ⟨_, (pss_cons (ps_asg (pv 0) (pg_tup (by rfl) (pgs_cons (pg_name (i := 2) sc_form_led.nd rfl (.inl rfl)) (pgs_cons (pg_name (i := 3) sc_form_led.nd rfl (.inl rfl)) (pgs_cons (pg_name (i := 4) sc_form_led.nd rfl (.inl rfl)) (pgs_cons (pg_name (i := 5) sc_form_led.nd rfl (.inl rfl)) pgs_nil))))))
    (pss_cons (ps_asg (pv 1) (pg_tup (by rfl) (pgs_cons (pg_tup (by rfl) (pgs_cons (pg_name (i := 6) sc_form_led.nd rfl (.inl rfl)) (pgs_cons (pg_name (i := 7) sc_form_led.nd rfl (.inl rfl)) pgs_nil))) (pgs_cons (pg_tup (by rfl) (pgs_cons (pg_name (i := 8) sc_form_led.nd rfl (.inl rfl)) (pgs_cons (pg_name (i := 9) sc_form_led.nd rfl (.inl rfl)) pgs_nil))) pgs_nil))))
    (pss_cons (ps_set (i := 10) sc_form_led.nd rfl (.inl rfl) (pe_call G_determinant_of (hr.mono (by decide)) (by rfl) g_determinant_of k_determinant_of b_determinant_of .nil pass0 (pa_cons (pv 1) pa_nil)))
    (pss_cons (ps_set (i := 11) sc_form_led.nd rfl (.inl rfl) (pe_op op_add (pe_op op_add (pe_op op_add (pe_op op_mulW (pe_op op_mulW (pe_op op_mulW (pe_op op_mulW pe_int (pv 2)) (pv 6)) (pv 6)) (pv 8)) (pe_op op_mulW (pe_op op_mulW (pv 3) (pv 6)) (pe_op op_add (pe_op op_mulW (pv 6) (pv 9)) (pe_op op_mulW (pe_op op_mulW pe_int (pv 7)) (pv 8))))) (pe_op op_mulW (pe_op op_mulW (pv 4) (pv 7)) (pe_op op_add (pe_op op_mulW (pe_op op_mulW pe_int (pv 6)) (pv 9)) (pe_op op_mulW (pv 7) (pv 8))))) (pe_op op_mulW (pe_op op_mulW (pe_op op_mulW (pe_op op_mulW pe_int (pv 5)) (pv 7)) (pv 7)) (pv 9))))
    (pss_cons (ps_set (i := 12) sc_form_led.nd rfl (.inl rfl) (pe_op op_add (pe_op op_add (pe_op op_add (pe_op op_mulW (pe_op op_mulW (pe_op op_mulW (pe_op op_mulW pe_int (pv 2)) (pv 6)) (pv 8)) (pv 8)) (pe_op op_mulW (pe_op op_mulW (pv 3) (pv 8)) (pe_op op_add (pe_op op_mulW (pe_op op_mulW pe_int (pv 6)) (pv 9)) (pe_op op_mulW (pv 7) (pv 8))))) (pe_op op_mulW (pe_op op_mulW (pv 4) (pv 9)) (pe_op op_add (pe_op op_mulW (pv 6) (pv 9)) (pe_op op_mulW (pe_op op_mulW pe_int (pv 7)) (pv 8))))) (pe_op op_mulW (pe_op op_mulW (pe_op op_mulW (pe_op op_mulW pe_int (pv 5)) (pv 7)) (pv 9)) (pv 9))))
    (pss_one (ps_ret (pe_tup (pa_cons (pe_op op_mulW (pv 10) (pe_call G_form_value (hr.mono (by decide)) (by rfl) g_form_value k_form_value b_form_value .nil pass0 (pa_cons (pv 0) (pa_cons (pv 6) (pa_cons (pv 7) pa_nil))))) (pa_cons (pe_op op_mulW (pv 10) (pv 11)) (pa_cons (pe_op op_mulW (pv 10) (pv 12)) (pa_cons (pe_op op_mulW (pv 10) (pe_call G_form_value (hr.mono (by decide)) (by rfl) g_form_value k_form_value b_form_value .nil pass0 (pa_cons (pv 0) (pa_cons (pv 8) (pa_cons (pv 9) pa_nil))))) pa_nil)))))))))))), ?_⟩
    refine ⟨_, rfl, unI4 ht ?_⟩
    refine ⟨_, rfl, un4 h4 ?_⟩
    refine ⟨_, rfl, u, p, q', r, s', rfl, h4, bp.mono (by decide), bq.mono (by decide), br.mono (by decide), bs.mono (by decide), ?_⟩
    refine ⟨_, rfl, _, _, rfl, rfl, mulB (B.lit (by decide)) (by with_reducible assumption) (by decide), _, rfl, _, _, rfl, rfl, mulB (B.mul (B.lit (by decide)) (by with_reducible assumption)) (by with_reducible assumption) (by decide), _, rfl, _, _, rfl, rfl, mulB (B.mul (B.mul (B.lit (by decide)) (by with_reducible assumption)) (by with_reducible assumption)) (by with_reducible assumption) (by decide), _, rfl, _, _, rfl, rfl, mulB (B.mul (B.mul (B.mul (B.lit (by decide)) (by with_reducible assumption)) (by with_reducible assumption)) (by with_reducible assumption)) (by with_reducible assumption) (by decide), _, rfl, _, rfl, _, _, rfl, rfl, mulB (by with_reducible assumption) (by with_reducible assumption) (by decide), _, rfl, _, rfl, _, _, rfl, rfl, mulB (by with_reducible assumption) (by with_reducible assumption) (by decide), _, rfl, _, _, rfl, rfl, mulB (B.lit (by decide)) (by with_reducible assumption) (by decide), _, rfl, _, _, rfl, rfl, mulB (B.mul (B.lit (by decide)) (by with_reducible assumption)) (by with_reducible assumption) (by decide), _, _, rfl, rfl, _, _, rfl, rfl, mulB (B.mul (by with_reducible assumption) (by with_reducible assumption)) (B.add (B.mul (by with_reducible assumption) (by with_reducible assumption)) (B.mul (B.mul (B.lit (by decide)) (by with_reducible assumption)) (by with_reducible assumption))) (by decide), _, _, rfl, rfl, _, rfl, _, rfl, _, _, rfl, rfl, mulB (by with_reducible assumption) (by with_reducible assumption) (by decide), _, rfl, _, _, rfl, rfl, mulB (B.lit (by decide)) (by with_reducible assumption) (by decide), _, rfl, _, _, rfl, rfl, mulB (B.mul (B.lit (by decide)) (by with_reducible assumption)) (by with_reducible assumption) (by decide), _, rfl, _, rfl, _, _, rfl, rfl, mulB (by with_reducible assumption) (by with_reducible assumption) (by decide), _, _, rfl, rfl, _, _, rfl, rfl, mulB (B.mul (by with_reducible assumption) (by with_reducible assumption)) (B.add (B.mul (B.mul (B.lit (by decide)) (by with_reducible assumption)) (by with_reducible assumption)) (B.mul (by with_reducible assumption) (by with_reducible assumption))) (by decide), _, _, rfl, rfl, _, rfl, _, _, rfl, rfl, mulB (B.lit (by decide)) (by with_reducible assumption) (by decide), _, rfl, _, _, rfl, rfl, mulB (B.mul (B.lit (by decide)) (by with_reducible assumption)) (by with_reducible assumption) (by decide), _, rfl, _, _, rfl, rfl, mulB (B.mul (B.mul (B.lit (by decide)) (by with_reducible assumption)) (by with_reducible assumption)) (by with_reducible assumption) (by decide), _, rfl, _, _, rfl, rfl, mulB (B.mul (B.mul (B.mul (B.lit (by decide)) (by with_reducible assumption)) (by with_reducible assumption)) (by with_reducible assumption)) (by with_reducible assumption) (by decide), _, _, rfl, rfl, ?_⟩
    refine ⟨_, rfl, _, _, rfl, rfl, mulB (B.lit (by decide)) (by with_reducible assumption) (by decide), _, rfl, _, _, rfl, rfl, mulB (B.mul (B.lit (by decide)) (by with_reducible assumption)) (by with_reducible assumption) (by decide), _, rfl, _, _, rfl, rfl, mulB (B.mul (B.mul (B.lit (by decide)) (by with_reducible assumption)) (by with_reducible assumption)) (by with_reducible assumption) (by decide), _, rfl, _, _, rfl, rfl, mulB (B.mul (B.mul (B.mul (B.lit (by decide)) (by with_reducible assumption)) (by with_reducible assumption)) (by with_reducible assumption)) (by with_reducible assumption) (by decide), _, rfl, _, rfl, _, _, rfl, rfl, mulB (by with_reducible assumption) (by with_reducible assumption) (by decide), _, rfl, _, _, rfl, rfl, mulB (B.lit (by decide)) (by with_reducible assumption) (by decide), _, rfl, _, _, rfl, rfl, mulB (B.mul (B.lit (by decide)) (by with_reducible assumption)) (by with_reducible assumption) (by decide), _, rfl, _, rfl, _, _, rfl, rfl, mulB (by with_reducible assumption) (by with_reducible assumption) (by decide), _, _, rfl, rfl, _, _, rfl, rfl, mulB (B.mul (by with_reducible assumption) (by with_reducible assumption)) (B.add (B.mul (B.mul (B.lit (by decide)) (by with_reducible assumption)) (by with_reducible assumption)) (B.mul (by with_reducible assumption) (by with_reducible assumption))) (by decide), _, _, rfl, rfl, _, rfl, _, rfl, _, _, rfl, rfl, mulB (by with_reducible assumption) (by with_reducible assumption) (by decide), _, rfl, _, rfl, _, _, rfl, rfl, mulB (by with_reducible assumption) (by with_reducible assumption) (by decide), _, rfl, _, _, rfl, rfl, mulB (B.lit (by decide)) (by with_reducible assumption) (by decide), _, rfl, _, _, rfl, rfl, mulB (B.mul (B.lit (by decide)) (by with_reducible assumption)) (by with_reducible assumption) (by decide), _, _, rfl, rfl, _, _, rfl, rfl, mulB (B.mul (by with_reducible assumption) (by with_reducible assumption)) (B.add (B.mul (by with_reducible assumption) (by with_reducible assumption)) (B.mul (B.mul (B.lit (by decide)) (by with_reducible assumption)) (by with_reducible assumption))) (by decide), _, _, rfl, rfl, _, rfl, _, _, rfl, rfl, mulB (B.lit (by decide)) (by with_reducible assumption) (by decide), _, rfl, _, _, rfl, rfl, mulB (B.mul (B.lit (by decide)) (by with_reducible assumption)) (by with_reducible assumption) (by decide), _, rfl, _, _, rfl, rfl, mulB (B.mul (B.mul (B.lit (by decide)) (by with_reducible assumption)) (by with_reducible assumption)) (by with_reducible assumption) (by decide), _, rfl, _, _, rfl, rfl, mulB (B.mul (B.mul (B.mul (B.lit (by decide)) (by with_reducible assumption)) (by with_reducible assumption)) (by with_reducible assumption)) (by with_reducible assumption) (by decide), _, _, rfl, rfl, ?_⟩
    have be : B 800 (p * s' - q' * r) := B.sub (B.mul bp bs) (B.mul bq br)
    have b2 : B _ (3 * a * p * p * r + b * p * (p * s' + 2 * q' * r) + c * q' * (2 * p * s' + q' * r) + 3 * d * q' * q' * s') := (B.add (B.add (B.add (B.mul (B.mul (B.mul (B.mul (B.lit (by decide)) (by with_reducible assumption)) (by with_reducible assumption)) (by with_reducible assumption)) (by with_reducible assumption)) (B.mul (B.mul (by with_reducible assumption) (by with_reducible assumption)) (B.add (B.mul (by with_reducible assumption) (by with_reducible assumption)) (B.mul (B.mul (B.lit (by decide)) (by with_reducible assumption)) (by with_reducible assumption))))) (B.mul (B.mul (by with_reducible assumption) (by with_reducible assumption)) (B.add (B.mul (B.mul (B.lit (by decide)) (by with_reducible assumption)) (by with_reducible assumption)) (B.mul (by with_reducible assumption) (by with_reducible assumption))))) (B.mul (B.mul (B.mul (B.mul (B.lit (by decide)) (by with_reducible assumption)) (by with_reducible assumption)) (by with_reducible assumption)) (by with_reducible assumption)))
    have b3 : B _ (3 * a * p * r * r + b * r * (2 * p * s' + q' * r) + c * s' * (p * s' + 2 * q' * r) + 3 * d * q' * s' * s') := (B.add (B.add (B.add (B.mul (B.mul (B.mul (B.mul (B.lit (by decide)) (by with_reducible assumption)) (by with_reducible assumption)) (by with_reducible assumption)) (by with_reducible assumption)) (B.mul (B.mul (by with_reducible assumption) (by with_reducible assumption)) (B.add (B.mul (B.mul (B.lit (by decide)) (by with_reducible assumption)) (by with_reducible assumption)) (B.mul (by with_reducible assumption) (by with_reducible assumption))))) (B.mul (B.mul (by with_reducible assumption) (by with_reducible assumption)) (B.add (B.mul (by with_reducible assumption) (by with_reducible assumption)) (B.mul (B.mul (B.lit (by decide)) (by with_reducible assumption)) (by with_reducible assumption))))) (B.mul (B.mul (B.mul (B.mul (B.lit (by decide)) (by with_reducible assumption)) (by with_reducible assumption)) (by with_reducible assumption)) (by with_reducible assumption)))
    have f1 : B 6400 (fv a b c d p q') := B.add (B.add (B.add (B.mul (B.mul (B.mul ba bp) bp) bp) (B.mul (B.mul (B.mul bb bp) bp) bq)) (B.mul (B.mul (B.mul bc bp) bq) bq)) (B.mul (B.mul (B.mul bd bq) bq) bq)
    have f2 : B 6400 (fv a b c d r s') := B.add (B.add (B.add (B.mul (B.mul (B.mul ba br) br) br) (B.mul (B.mul (B.mul bb br) br) bs)) (B.mul (B.mul (B.mul bc br) bs) bs)) (B.mul (B.mul (B.mul bd bs) bs) bs)
    refine ⟨_, rfl, _, rfl, _, rfl, _, rfl, t, a, b, c, d, p, q', rfl, ht, ba, bb, bc, bd, bp, bq, _, _, rfl, rfl, mulB be f1 (by decide), ?_⟩
    refine ⟨_, rfl, _, rfl, _, _, rfl, rfl, mulB be b2 (by decide), _, rfl, _, rfl, _, _, rfl, rfl, mulB be b3 (by decide), ?_⟩
    refine ⟨_, rfl, _, rfl, _, rfl, _, rfl, t, a, b, c, d, r, s', rfl, ht, ba, bb, bc, bd, br, bs, _, _, rfl, rfl, mulB be f2 (by decide), sl4, fun x nx => ?_⟩
    exact q x _ (Ex0.new nx) upd_same
theorem ok_form_of (T : Txt K mg C_Form C_Ring C_Element) : Def P w K mg base 7 "form_of" ["coefficients"] (sp_form_of K C_Form C_Ring C_Element) := by
  obtain ⟨f_, fd_, g_, F_⟩ := T.d_form_of
  obtain ⟨p_Form___init__, f_Form___init__, fd_Form___init__, R_Form___init__, b_Form___init__, G_Form___init__⟩ := (ok_Form___init__ (P := P) (w := w) (base := base) T)
  refine ⟨f_, fd_, g_, F_.kp, F_.binds (ps := ["coefficients"]) (fun _ _ _ _ _ _ us hl => match us, hl with | [_], _ => rfl), ?_⟩
  refine F_.ok sc_form_of (fun vs H Q E h => ?_) (fun cdv A outer s H vs Q E hr h => ?_)
  · first | (obtain ⟨rfl, _⟩ := h; rfl) | (obtain ⟨_, rfl, _⟩ := h; rfl) | (obtain ⟨_, _, rfl, _⟩ := h; rfl) | (obtain ⟨_, _, _, rfl, _⟩ := h; rfl) | (obtain ⟨_, _, _, _, rfl, _⟩ := h; rfl) | (obtain ⟨_, _, _, _, _, rfl, _⟩ := h; rfl) | (obtain ⟨_, _, _, _, _, _, rfl, _⟩ := h; rfl) | (obtain ⟨_, _, _, _, _, _, _, rfl, _⟩ := h; rfl) | (obtain ⟨_, _, _, _, _, _, _, _, rfl, _⟩ := h; rfl) | (obtain ⟨_, _, _, _, _, _, _, _, _, rfl, _⟩ := h; rfl) | (obtain ⟨_, _, _, _, _, _, _, _, _, _, rfl, _⟩ := h; rfl) | (obtain ⟨_, _, _, _, _, _, _, _, _, _, _, rfl, _⟩ := h; rfl) | (obtain ⟨_, _, _, _, _, _, _, _, _, _, _, _, rfl, _⟩ := h; rfl) | (obtain ⟨_, _, _, _, _, _, _, _, _, _, _, _, _, rfl, _⟩ := h; rfl) | (obtain ⟨_, _, _, _, _, _, _, _, _, _, _, _, _, _, rfl, _⟩ := h; rfl) | (obtain ⟨_, _, _, _, _, _, _, _, _, _, _, _, _, _, _, rfl, _⟩ := h; rfl) | (obtain ⟨_, _, _, _, _, _, _, _, _, _, _, _, _, _, _, _, rfl, _⟩ := h; rfl) | (obtain ⟨_, _, _, _, _, _, _, _, _, _, _, _, _, _, _, _, _, rfl, _⟩ := h; rfl) | (obtain ⟨_, _, _, _, _, _, _, _, _, _, _, _, _, _, _, _, _, _, rfl, _⟩ := h; rfl) | (obtain ⟨_, _, _, _, _, _, _, _, _, _, _, _, _, _, _, _, _, _, _, rfl, _⟩ := h; rfl) | (obtain ⟨_, _, _, _, _, _, _, _, _, _, _, _, _, _, _, _, _, _, _, _, rfl, _⟩ := h; rfl) | (obtain ⟨_, _, _, _, _, _, _, _, _, _, _, _, _, _, _, _, _, _, _, _, _, rfl, _⟩ := h; rfl) | (obtain ⟨_, _, _, _, _, _, _, _, _, _, _, _, _, _, _, _, _, _, _, _, _, _, rfl, _⟩ := h; rfl) | (obtain ⟨_, _, _, _, _, _, _, _, _, _, _, _, _, _, _, _, _, _, _, _, _, _, _, rfl, _⟩ := h; rfl)
  · obtain ⟨t, ns, rfl, ht, q⟩ := h
    refine ⟨_, (pss_cons (ps_set (i := 1) sc_form_of.nd rfl (.inl rfl) (pe_make R_Form___init__ G_Form___init__ (hr.mono (by decide)) (by rfl) T.g_Form b_Form___init__ .nil pass0 (pa_cons (pe_tup (pa_cons pe_int (pa_cons pe_int (pa_cons pe_int (pa_cons pe_int pa_nil))))) pa_nil)))
    (pss_cons (ps_fld (pv 1) (pv 0) (by rfl))
    (pss_one (ps_ret (pv 1))))), ?_⟩
    refine ⟨sl4, fun t0 n0 => ?_⟩
    intro x dx nx ndx ne
    have e0 : Ex0 H (upd H t0 (.tup [.int 0, .int 0, .int 0, .int 0])) := Ex0.new n0
    have hx0 : H x = none := Fx.free e0 (fun z => z) nx
    have hd0 : H dx = none := Fx.free e0 (fun z => z) ndx
    have nt : t0 ≠ x := ne_of_none (show upd H t0 (.tup [.int 0, .int 0, .int 0, .int 0]) t0 = some _ from upd_same) nx
    have nd : t0 ≠ dx := ne_of_none (show upd H t0 (.tup [.int 0, .int 0, .int 0, .int 0]) t0 = some _ from upd_same) ndx
    refine ⟨x, dx, t0, [0, 0, 0, 0], rfl, upd_same, ?_, rfl, fun n hn => ?_, fun H' e1 e2 => ⟨rfl, ?_⟩⟩
    · show (upd (upd (upd H t0 _) dx _) x _) t0 = _
      rw [upd_ne nt, upd_ne nd]
      exact upd_same
    · have : n = 0 := by simpa using hn
      rw [this]
      exact ⟨by decide, by decide⟩
    refine ⟨_, rfl, _, rfl, x, C_Form, dx, _, rfl, e2, T.cl_Form, T.na_Form_coefficients, (by decide : (1:Nat) < 1000), ?_⟩
    refine ⟨_, rfl, ?_⟩
    have ex : ∀ b o, H b = some o → b ≠ x ∧ H' b = some o := fun b o e => by
      have n1 : b ≠ x := ne_of_none e hx0
      have n2 : b ≠ dx := ne_of_none e hd0
      refine ⟨n1, e1 b o n1 ?_⟩
      rw [upd_ne n1, upd_ne n2]
      exact e0.ap e
    refine q x _ (Ex0.of fun b o e => ?_) ⟨dx, t, ?_, ?_⟩
    · rw [upd_ne (ex b o e).1]
      exact (ex b o e).2
    · rw [upd_same, putF_same]
    · show (upd H' x _) t = _
      rw [upd_ne (ex _ _ ht).1]
      exact (ex _ _ ht).2
theorem ok_Form_led (T : Txt K mg C_Form C_Ring C_Element) : MDef (fun p f => Meth K C_Form "led" f) P w K mg base 8 ["self", "change"] (sp_Form_led K C_Form C_Ring C_Element) := by
  obtain ⟨p_, f_, fd_, R_, F_⟩ := T.e_Form_led
  obtain ⟨f_check_change, fd_check_change, g_check_change, k_check_change, b_check_change, G_check_change⟩ := (ok_check_change (P := P) (w := w) (base := base) T)
  obtain ⟨f_form_led, fd_form_led, g_form_led, k_form_led, b_form_led, G_form_led⟩ := (ok_form_led (P := P) (w := w) (base := base) T)
  obtain ⟨f_form_of, fd_form_of, g_form_of, k_form_of, b_form_of, G_form_of⟩ := (ok_form_of (P := P) (w := w) (base := base) T)
  refine ⟨p_, f_, fd_, R_, F_.binds (ps := ["self", "change"]) (fun _ _ _ _ _ _ us hl => match us, hl with | [_, _], _ => rfl), ?_⟩
  refine F_.ok sc_Form_led (fun vs H Q E h => ?_) (fun cdv A outer s H vs Q E hr h => ?_)
  · first | (obtain ⟨rfl, _⟩ := h; rfl) | (obtain ⟨_, rfl, _⟩ := h; rfl) | (obtain ⟨_, _, rfl, _⟩ := h; rfl) | (obtain ⟨_, _, _, rfl, _⟩ := h; rfl) | (obtain ⟨_, _, _, _, rfl, _⟩ := h; rfl) | (obtain ⟨_, _, _, _, _, rfl, _⟩ := h; rfl) | (obtain ⟨_, _, _, _, _, _, rfl, _⟩ := h; rfl) | (obtain ⟨_, _, _, _, _, _, _, rfl, _⟩ := h; rfl) | (obtain ⟨_, _, _, _, _, _, _, _, rfl, _⟩ := h; rfl) | (obtain ⟨_, _, _, _, _, _, _, _, _, rfl, _⟩ := h; rfl) | (obtain ⟨_, _, _, _, _, _, _, _, _, _, rfl, _⟩ := h; rfl) | (obtain ⟨_, _, _, _, _, _, _, _, _, _, _, rfl, _⟩ := h; rfl) | (obtain ⟨_, _, _, _, _, _, _, _, _, _, _, _, rfl, _⟩ := h; rfl) | (obtain ⟨_, _, _, _, _, _, _, _, _, _, _, _, _, rfl, _⟩ := h; rfl) | (obtain ⟨_, _, _, _, _, _, _, _, _, _, _, _, _, _, rfl, _⟩ := h; rfl) | (obtain ⟨_, _, _, _, _, _, _, _, _, _, _, _, _, _, _, rfl, _⟩ := h; rfl) | (obtain ⟨_, _, _, _, _, _, _, _, _, _, _, _, _, _, _, _, rfl, _⟩ := h; rfl) | (obtain ⟨_, _, _, _, _, _, _, _, _, _, _, _, _, _, _, _, _, rfl, _⟩ := h; rfl) | (obtain ⟨_, _, _, _, _, _, _, _, _, _, _, _, _, _, _, _, _, _, rfl, _⟩ := h; rfl) | (obtain ⟨_, _, _, _, _, _, _, _, _, _, _, _, _, _, _, _, _, _, _, rfl, _⟩ := h; rfl) | (obtain ⟨_, _, _, _, _, _, _, _, _, _, _, _, _, _, _, _, _, _, _, _, rfl, _⟩ := h; rfl) | (obtain ⟨_, _, _, _, _, _, _, _, _, _, _, _, _, _, _, _, _, _, _, _, _, rfl, _⟩ := h; rfl) | (obtain ⟨_, _, _, _, _, _, _, _, _, _, _, _, _, _, _, _, _, _, _, _, _, _, rfl, _⟩ := h; rfl) | (obtain ⟨_, _, _, _, _, _, _, _, _, _, _, _, _, _, _, _, _, _, _, _, _, _, _, rfl, _⟩ := h; rfl)
  · obtain ⟨z, u, a, b, c, d, p, q', r, s', rfl, hz, h4, ba, bb, bc, bd, hc, q⟩ := h
    refine ⟨_, (pss_cons (ps_expr (pe_call G_check_change (hr.mono (by decide)) (by rfl) g_check_change k_check_change b_check_change .nil pass0 (pa_cons (pv 1) pa_nil)))
    (pss_one (ps_ret (pe_call G_form_of (hr.mono (by decide)) (by rfl) g_form_of k_form_of b_form_of .nil pass0 (pa_cons (pe_call G_form_led (hr.mono (by decide)) (by rfl) g_form_led k_form_led b_form_led .nil pass0 (pa_cons (pe_fld (pv 0) (by rfl)) (pa_cons (pv 1) pa_nil))) pa_nil))))), ?_⟩
    refine ⟨_, rfl, u, p, q', r, s', rfl, h4, hc, fun H1 e1 => ?_⟩
    obtain ⟨dx, t, hx, ht⟩ := Ex0.fo e1 hz
    refine ⟨_, rfl, z, C_Form, dx, _, .ref t, rfl, hx, T.cl_Form, T.na_Form_coefficients, lk_same, _, rfl, t, u, a, b, c, d, p, q', r, s', rfl, ht, Ex0.t4 e1 h4, ba, bb, bc, bd, hc.1.b, hc.2.1.b, hc.2.2.1.b, hc.2.2.2.1.b, fun x H2 e2 hx2 => ?_⟩
    exact ⟨x, _, rfl, hx2, fun y H3 e3 hy => q y H3 ((e1.trans e2).trans e3) hy⟩
theorem ok_Form___call__ (T : Txt K mg C_Form C_Ring C_Element) : MDef (fun p f => StX.CallO K C_Form f) P w K mg base 4 ["self", "x", "y"] (sp_Form___call__ K C_Form C_Ring C_Element) := by
  obtain ⟨p_, f_, fd_, R_, F_⟩ := T.e_Form___call__
  obtain ⟨f_check_integer, fd_check_integer, g_check_integer, k_check_integer, b_check_integer, G_check_integer⟩ := (ok_check_integer (P := P) (w := w) (base := base) T)
  obtain ⟨f_form_value, fd_form_value, g_form_value, k_form_value, b_form_value, G_form_value⟩ := (ok_form_value (P := P) (w := w) (base := base) T)
  refine ⟨p_, f_, fd_, R_, F_.binds (ps := ["self", "x", "y"]) (fun _ _ _ _ _ _ us hl => match us, hl with | [_, _, _], _ => rfl), ?_⟩
  refine F_.ok sc_Form___call__ (fun vs H Q E h => ?_) (fun cdv A outer s H vs Q E hr h => ?_)
  · first | (obtain ⟨rfl, _⟩ := h; rfl) | (obtain ⟨_, rfl, _⟩ := h; rfl) | (obtain ⟨_, _, rfl, _⟩ := h; rfl) | (obtain ⟨_, _, _, rfl, _⟩ := h; rfl) | (obtain ⟨_, _, _, _, rfl, _⟩ := h; rfl) | (obtain ⟨_, _, _, _, _, rfl, _⟩ := h; rfl) | (obtain ⟨_, _, _, _, _, _, rfl, _⟩ := h; rfl) | (obtain ⟨_, _, _, _, _, _, _, rfl, _⟩ := h; rfl) | (obtain ⟨_, _, _, _, _, _, _, _, rfl, _⟩ := h; rfl) | (obtain ⟨_, _, _, _, _, _, _, _, _, rfl, _⟩ := h; rfl) | (obtain ⟨_, _, _, _, _, _, _, _, _, _, rfl, _⟩ := h; rfl) | (obtain ⟨_, _, _, _, _, _, _, _, _, _, _, rfl, _⟩ := h; rfl) | (obtain ⟨_, _, _, _, _, _, _, _, _, _, _, _, rfl, _⟩ := h; rfl) | (obtain ⟨_, _, _, _, _, _, _, _, _, _, _, _, _, rfl, _⟩ := h; rfl) | (obtain ⟨_, _, _, _, _, _, _, _, _, _, _, _, _, _, rfl, _⟩ := h; rfl) | (obtain ⟨_, _, _, _, _, _, _, _, _, _, _, _, _, _, _, rfl, _⟩ := h; rfl) | (obtain ⟨_, _, _, _, _, _, _, _, _, _, _, _, _, _, _, _, rfl, _⟩ := h; rfl) | (obtain ⟨_, _, _, _, _, _, _, _, _, _, _, _, _, _, _, _, _, rfl, _⟩ := h; rfl) | (obtain ⟨_, _, _, _, _, _, _, _, _, _, _, _, _, _, _, _, _, _, rfl, _⟩ := h; rfl) | (obtain ⟨_, _, _, _, _, _, _, _, _, _, _, _, _, _, _, _, _, _, _, rfl, _⟩ := h; rfl) | (obtain ⟨_, _, _, _, _, _, _, _, _, _, _, _, _, _, _, _, _, _, _, _, rfl, _⟩ := h; rfl) | (obtain ⟨_, _, _, _, _, _, _, _, _, _, _, _, _, _, _, _, _, _, _, _, _, rfl, _⟩ := h; rfl) | (obtain ⟨_, _, _, _, _, _, _, _, _, _, _, _, _, _, _, _, _, _, _, _, _, _, rfl, _⟩ := h; rfl) | (obtain ⟨_, _, _, _, _, _, _, _, _, _, _, _, _, _, _, _, _, _, _, _, _, _, _, rfl, _⟩ := h; rfl)
  · obtain ⟨z, a, b, c, d, x, y, rfl, ⟨dx, t, hx, ht⟩, ba, bb, bc, bd, sx, sy, q⟩ := h
    refine ⟨_, (pss_cons (ps_expr (pe_call G_check_integer (hr.mono (by decide)) (by rfl) g_check_integer k_check_integer b_check_integer .nil pass0 (pa_cons (pv 1) pa_nil)))
    (pss_cons (ps_expr (pe_call G_check_integer (hr.mono (by decide)) (by rfl) g_check_integer k_check_integer b_check_integer .nil pass0 (pa_cons (pv 2) pa_nil)))
    (pss_one (ps_ret (pe_call G_form_value (hr.mono (by decide)) (by rfl) g_form_value k_form_value b_form_value .nil pass0 (pa_cons (pe_fld (pv 0) (by rfl)) (pa_cons (pv 1) (pa_cons (pv 2) pa_nil)))))))), ?_⟩
    refine ⟨_, rfl, x, rfl, sx, _, rfl, y, rfl, sy, ?_⟩
    exact ⟨_, rfl, z, C_Form, dx, _, .ref t, rfl, hx, T.cl_Form, T.na_Form_coefficients, lk_same, _, rfl, _, rfl, t, a, b, c, d, x, y, rfl, ht, ba, bb, bc, bd, sx.b, sy.b, q⟩
end
end RG
namespace RG
open PySem PySem.Spec PyProof.Rows L2 Fr
open K05M (fv fl2 fl3 fdisc)
inductive Prs (H : Hp) : List V → List (Int × Int) → Prop where
  | nil : Prs H [] []
  | cons {t : Addr} {x y : Int} {xs : List V} {ps : List (Int × Int)} (h : H t = some (.tup [.int x, .int y])) (r : Prs H xs ps) : Prs H (.ref t :: xs) ((x, y) :: ps)
theorem Prs.ex {H H' : Hp} (e : ∀ t xs, H t = some (.tup xs) → H' t = some (.tup xs)) {xs : List V} {ps : List (Int × Int)} (h : Prs H xs ps) : Prs H' xs ps := by
  induction h with
  | nil => exact .nil
  | cons h _ ih => exact .cons (e _ _ h) ih
theorem Prs.app {H : Hp} {xs ys : List V} {ps qs : List (Int × Int)} (h : Prs H xs ps) (g : Prs H ys qs) : Prs H (xs ++ ys) (ps ++ qs) := by
  induction h with
  | nil => exact g
  | cons h _ ih => exact .cons h ih
theorem Prs.snoc {H : Hp} {xs : List V} {ps : List (Int × Int)} (h : Prs H xs ps) {t : Addr} {x y : Int} (g : H t = some (.tup [.int x, .int y])) : Prs H (xs ++ [.ref t]) (ps ++ [(x, y)]) := h.app (.cons g .nil)
theorem Prs.len {H : Hp} {xs : List V} {ps : List (Int × Int)} (h : Prs H xs ps) : xs.length = ps.length := by
  induction h with
  | nil => rfl
  | cons _ _ ih => rw [List.length_cons, List.length_cons, ih]
theorem Prs.get {H : Hp} {xs : List V} {ps : List (Int × Int)} (h : Prs H xs ps) : ∀ {i : Nat} {v : V}, xs[i]? = some v → ∃ t x y, v = .ref t ∧ ps[i]? = some (x, y) ∧ H t = some (.tup [.int x, .int y]) := by
  induction h with
  | nil => intro i v hv; simp at hv
  | @cons t x y xs ps h _ ih =>
    intro i v hv
    cases i with
    | zero => exact ⟨t, x, y, (Option.some.inj hv).symm, rfl, h⟩
    | succ i => exact ih hv
def mk1 (a b c d : Int) (x y : Int) : Bool := decide (fv a b c d x y = 1 ∨ fv a b c d x y = -1)
def rowM (a b c d : Int) (m : Nat) (y : Int) : List (Int × Int) := ((List.range (2 * m + 1)).filter fun (i : Nat) => mk1 a b c d (-(m : Int) + (i : Int)) y).map fun (i : Nat) => (-(m : Int) + (i : Int), y)
def opp (ps : List (Int × Int)) : List (Int × Int) := ps ++ ps.map fun p => (-p.1, -p.2)
def lexP (p q : Int × Int) : Prop := p.1 < q.1 ∨ (p.1 = q.1 ∧ p.2 ≤ q.2)
def found0 (a b c d : Int) (m : Nat) : List (Int × Int) := (if a = 1 ∨ a = -1 then [((1 : Int), (0 : Int))] else []) ++ (List.range m).flatMap fun (i : Nat) => rowM a b c d m (1 + (i : Int))
noncomputable def kv (H : Hp) (v : V) : Int × Int := @dite _ (∃ p : Int × Int, ∃ t, v = .ref t ∧ H t = some (.tup [.int p.1, .int p.2])) (Classical.propDecidable _) (fun h => Classical.choose h) (fun _ => (0, 0))
theorem kv_eq {H : Hp} {t : Addr} {x y : Int} (h : H t = some (.tup [.int x, .int y])) : kv H (.ref t) = (x, y) := by
  have ex : ∃ p : Int × Int, ∃ t', V.ref t = .ref t' ∧ H t' = some (.tup [.int p.1, .int p.2]) := ⟨(x, y), t, rfl, h⟩
  unfold kv
  rw [dif_pos ex]
  obtain ⟨t', e1, e2⟩ := Classical.choose_spec ex
  cases e1
  rw [h] at e2
  have e3 := Option.some.inj e2
  injection e3 with e3
  injection e3 with e4 e5
  injection e5 with e5 e6
  injection e4 with e4
  injection e5 with e5
  exact Prod.ext e4.symm e5.symm
theorem Prs.map_k {H : Hp} {xs : List V} {ps : List (Int × Int)} (h : Prs H xs ps) : xs.map (kv H) = ps := by
  induction h with
  | nil => rfl
  | cons h _ ih => rw [List.map_cons, kv_eq h, ih]
theorem Prs.mem {H : Hp} {xs : List V} {ps : List (Int × Int)} (h : Prs H xs ps) : ∀ v ∈ xs, ∃ t x y, v = .ref t ∧ H t = some (.tup [.int x, .int y]) := by
  induction h with
  | nil => intro v hv; cases hv
  | @cons t x y xs ps h _ ih =>
    intro v hv
    rcases List.mem_cons.mp hv with z | z
    · exact ⟨t, x, y, z, h⟩
    · exact ih v z
theorem Prs.of_mem {H : Hp} : ∀ {ys : List V}, (∀ v ∈ ys, ∃ t x y, v = .ref t ∧ H t = some (.tup [.int x, .int y])) → Prs H ys (ys.map (kv H))
  | [], _ => .nil
  | v :: ys, h => by
    obtain ⟨t, x, y, rfl, ht⟩ := h v List.mem_cons_self
    rw [List.map_cons, kv_eq ht]
    exact .cons ht (Prs.of_mem fun v hv => h v (List.mem_cons_of_mem _ hv))
def sp_with_opposites (_ : PySem.W.Frag) (C C_R C_E : Addr) : Sp := fun vs H Q _ => ∃ (l : Addr) (xs : List V) (ps : List (Int × Int)), vs = [.ref l] ∧ H l = some (.lst xs) ∧ Prs H xs ps ∧ ps.length ≤ 10000 ∧ ∀ t H' ys qs, Ex0 H H' → H' t = some (.tup ys) → Prs H' ys qs → qs.Perm (opp ps) → qs.Pairwise lexP → Q (.ref t) H'
def sp_row_makers (_ : PySem.W.Frag) (C C_R C_E : Addr) : Sp := fun vs H Q _ => ∃ (t : Addr) (a b c d : Int) (m : Nat) (y : Int), vs = [.ref t, .int (m : Int), .int y] ∧ Ti H t [a, b, c, d] ∧ B4 1000 a b c d ∧ m ≤ 50 ∧ y.natAbs ≤ 50 ∧ ∀ l H' xs, Ex0 H H' → H' l = some (.lst xs) → Prs H' xs (rowM a b c d m y) → Q (.ref l) H'
def sp_makers (_ : PySem.W.Frag) (C C_R C_E : Addr) : Sp := fun vs H Q _ => ∃ (z : Addr) (a b c d : Int) (m : Nat), vs = [.ref z, .int (m : Int)] ∧ FormAt C H z [a, b, c, d] ∧ B4 1000 a b c d ∧ 1 ≤ m ∧ m ≤ 50 ∧ ∀ t H' ys qs, Ex0 H H' → H' t = some (.tup ys) → Prs H' ys qs → qs.Perm (opp (found0 a b c d m)) → qs.Pairwise lexP → Q (.ref t) H'
def sp_ring_made (_ : PySem.W.Frag) (C C_R C_E : Addr) : Sp := fun vs H Q _ => ∃ (t : Addr) (b c d : Int), vs = [.ref t] ∧ Ti H t [b, c, d] ∧ Short b ∧ Short c ∧ Short d ∧ ∀ r H', Ex0 H H' → RingAt C C_R H' r [1, b, c, d] → Q (.ref r) H'
section
variable {P : Program} {w : World} {K : PySem.W.Frag} {mg : Str → Option Value} {base : Heap} {C_Form C_Ring C_Element : Addr}
theorem ok_with_opposites (T : Txt K mg C_Form C_Ring C_Element) : Def P w K mg base 1 "with_opposites" ["pairs"] (sp_with_opposites K C_Form C_Ring C_Element) := by
  obtain ⟨f_, fd_, g_, F_⟩ := T.d_with_opposites
  refine ⟨f_, fd_, g_, F_.kp, F_.binds (ps := ["pairs"]) (fun _ _ _ _ _ _ us hl => match us, hl with | [_], _ => rfl), ?_⟩
  refine F_.ok sc_with_opposites (fun vs H Q E h => ?_) (fun cdv A outer s H vs Q E hr h => ?_)
  · first | (obtain ⟨rfl, _⟩ := h; rfl) | (obtain ⟨_, rfl, _⟩ := h; rfl) | (obtain ⟨_, _, rfl, _⟩ := h; rfl) | (obtain ⟨_, _, _, rfl, _⟩ := h; rfl) | (obtain ⟨_, _, _, _, rfl, _⟩ := h; rfl) | (obtain ⟨_, _, _, _, _, rfl, _⟩ := h; rfl) | (obtain ⟨_, _, _, _, _, _, rfl, _⟩ := h; rfl) | (obtain ⟨_, _, _, _, _, _, _, rfl, _⟩ := h; rfl) | (obtain ⟨_, _, _, _, _, _, _, _, rfl, _⟩ := h; rfl) | (obtain ⟨_, _, _, _, _, _, _, _, _, rfl, _⟩ := h; rfl) | (obtain ⟨_, _, _, _, _, _, _, _, _, _, rfl, _⟩ := h; rfl) | (obtain ⟨_, _, _, _, _, _, _, _, _, _, _, rfl, _⟩ := h; rfl) | (obtain ⟨_, _, _, _, _, _, _, _, _, _, _, _, rfl, _⟩ := h; rfl) | (obtain ⟨_, _, _, _, _, _, _, _, _, _, _, _, _, rfl, _⟩ := h; rfl) | (obtain ⟨_, _, _, _, _, _, _, _, _, _, _, _, _, _, rfl, _⟩ := h; rfl) | (obtain ⟨_, _, _, _, _, _, _, _, _, _, _, _, _, _, _, rfl, _⟩ := h; rfl) | (obtain ⟨_, _, _, _, _, _, _, _, _, _, _, _, _, _, _, _, rfl, _⟩ := h; rfl) | (obtain ⟨_, _, _, _, _, _, _, _, _, _, _, _, _, _, _, _, _, rfl, _⟩ := h; rfl) | (obtain ⟨_, _, _, _, _, _, _, _, _, _, _, _, _, _, _, _, _, _, rfl, _⟩ := h; rfl) | (obtain ⟨_, _, _, _, _, _, _, _, _, _, _, _, _, _, _, _, _, _, _, rfl, _⟩ := h; rfl) | (obtain ⟨_, _, _, _, _, _, _, _, _, _, _, _, _, _, _, _, _, _, _, _, rfl, _⟩ := h; rfl) | (obtain ⟨_, _, _, _, _, _, _, _, _, _, _, _, _, _, _, _, _, _, _, _, _, rfl, _⟩ := h; rfl) | (obtain ⟨_, _, _, _, _, _, _, _, _, _, _, _, _, _, _, _, _, _, _, _, _, _, rfl, _⟩ := h; rfl) | (obtain ⟨_, _, _, _, _, _, _, _, _, _, _, _, _, _, _, _, _, _, _, _, _, _, _, rfl, _⟩ := h; rfl)
  · obtain ⟨l, xs, ps, rfl, hl, hP, hz, q⟩ := h
    refine ⟨_, (pss_one (ps_ret (pe_callTy call_tuple_of (by rfl) T.b_tuple (by decide +kernel) (pa_cons (pe_callB cr_sortedPO (by rfl) T.b_sorted (by decide +kernel) (pa_cons (pe_op op_cat (pv 0) (pe_lc (own := [("x", 1), ("y", 2)]) (g := (gTup K 2 (gCons (gName 1) (gCons (gName 2) gNil)))) rfl sc_with_opposites.nd (pi_list (pv 0)) (blkOk_by (N := N_with_opposites) (sc := defScope s_with_opposites) (by decide +kernel)) (fun _ _ _ _ _ => (pg_tup (by rfl) (pgs_cons (pg_name (i := 1) sc_with_opposites.nd rfl (.inl rfl)) (pgs_cons (pg_name (i := 2) sc_with_opposites.nd rfl (.inl rfl)) pgs_nil)))) (fun _ _ _ _ _ => pts_nil) (fun _ _ _ _ _ => (pe_tup (pa_cons (pe_un un_neg (pv 1)) (pa_cons (pe_un un_neg (pv 2)) pa_nil)))))) pa_nil)) pa_nil)))), ?_⟩
    refine ⟨_, rfl, ?_⟩
    refine ⟨_, rfl, l, rfl, ⟨_, SqL.of hl⟩, ?_⟩
    refine lcL fm0 trivial (SqL.of hl) (fun z => z) (fun i acc H' => Prs H' acc ((ps.take i).map fun p => (-p.1, -p.2))) (fun _ _ => .nil) (fun D i v acc H' hD hv e hA hlen hp => ?_) (fun D H' acc hD e hA hp => ?_)
    · obtain ⟨t, x, y, rfl, hpi, ht⟩ := hP.get hv
      have hi : i < ps.length := (List.getElem?_eq_some_iff.mp hpi).1
      refine ⟨t, _, rfl, SqT.of (Ex0.ap e ht), rfl, _, _, rfl, _, _, rfl, rfl, ⟨rfl, ?_⟩⟩
      refine ⟨_, rfl, _, rfl, _, rfl, _, rfl, sl2, fun u nu => ?_⟩
      refine cs_yes fm0 trivial hD e hA hlen (by omega) (Ex0.new nu) ?_
      have hA2 := Ex0.ap (Ex0.new (o := .tup [.int (-x), .int (-y)]) nu) hA
      have up : ∀ b zs, upd H' u (.tup [.int (-x), .int (-y)]) b = some (.tup zs) → upd (upd H' u (.tup [.int (-x), .int (-y)])) D (.lst (acc ++ [.ref u])) b = some (.tup zs) := fun b zs h => by
        rw [upd_ne (ne_of h hA2 (by intro z; cases z))]
        exact h
      rw [List.take_add_one, hpi, List.map_append]
      exact ((hp.ex fun b zs h => Ex0.ap (Ex0.new nu) h).ex up).snoc (up _ _ upd_same)
    · rw [hP.len, List.take_length] at hp
      have hl2 := Ex0.ap e hl
      have hP2 := hP.ex fun b zs h => Ex0.ap e h
      have lo := hp.len
      rw [List.length_map] at lo
      have l1 := hP.len
      refine ⟨l, D, _, _, rfl, rfl, hl2, hA, ?_, fun p np => ?_⟩
      · rw [sizeLine_eq]
        omega
      · have ep := Ex0.new (o := .lst (xs ++ acc)) np
        have hPp : Prs (upd H' p (.lst (xs ++ acc))) (xs ++ acc) (opp ps) := (hP2.app hp).ex fun b zs h => Ex0.ap ep h
        refine ⟨p, xs ++ acc, kv (upd H' p (.lst (xs ++ acc))), rfl, SqL.of upd_same, fun v hv => ?_, fun ys p2 srtd stb np2 => ?_⟩
        · obtain ⟨t, x, y, rfl, ht⟩ := hPp.mem v hv
          refine ⟨t, rfl, ?_⟩
          rw [kv_eq ht]
          exact ht
        · refine ⟨p2, ys, rfl, .inl ⟨SqL.of upd_same, fun t nt => ?_⟩⟩
          have e2 := Ex0.new (o := .lst ys) np2
          have e3 := Ex0.new (o := .tup ys) nt
          have hy : Prs (upd H' p (.lst (xs ++ acc))) ys (ys.map (kv (upd H' p (.lst (xs ++ acc))))) := Prs.of_mem fun v hv => hPp.mem v (stb.perm.mem_iff.mp hv)
          refine q t _ ys _ (Fx.trans e (ep.trans (e2.trans e3))) upd_same (hy.ex fun b zs h => Ex0.ap (e2.trans e3) h) ?_ ?_
          · rw [← hPp.map_k]
            exact stb.perm.map _
          · rw [List.pairwise_map]
            refine List.Pairwise.imp (fun {u v} h => ?_) srtd
            rcases Int.lt_trichotomy (kv (upd H' p (.lst (xs ++ acc))) u).1 (kv (upd H' p (.lst (xs ++ acc))) v).1 with z | z | z
            · exact .inl z
            · refine .inr ⟨z, ?_⟩
              rcases Int.lt_or_le (kv (upd H' p (.lst (xs ++ acc))) v).2 (kv (upd H' p (.lst (xs ++ acc))) u).2 with w | w
              · have := SrtO.lexB_iff.mpr (Or.inr ⟨z.symm, w⟩)
                rw [show SrtO.lexB (kv (upd H' p (.lst (xs ++ acc))) v) (kv (upd H' p (.lst (xs ++ acc))) u) = false from h] at this
                cases this
              · exact w
            · have := SrtO.lexB_iff.mpr (Or.inl z)
              rw [show SrtO.lexB (kv (upd H' p (.lst (xs ++ acc))) v) (kv (upd H' p (.lst (xs ++ acc))) u) = false from h] at this
              cases this
theorem ok_row_makers (T : Txt K mg C_Form C_Ring C_Element) : Def P w K mg base 1 "row_makers" ["coefficients", "most", "y"] (sp_row_makers K C_Form C_Ring C_Element) := by
  obtain ⟨f_, fd_, g_, F_⟩ := T.d_row_makers
  refine ⟨f_, fd_, g_, F_.kp, F_.binds (ps := ["coefficients", "most", "y"]) (fun _ _ _ _ _ _ us hl => match us, hl with | [_, _, _], _ => rfl), ?_⟩
  refine F_.ok sc_row_makers (fun vs H Q E h => ?_) (fun cdv A outer s H vs Q E hr h => ?_)
  · first | (obtain ⟨rfl, _⟩ := h; rfl) | (obtain ⟨_, rfl, _⟩ := h; rfl) | (obtain ⟨_, _, rfl, _⟩ := h; rfl) | (obtain ⟨_, _, _, rfl, _⟩ := h; rfl) | (obtain ⟨_, _, _, _, rfl, _⟩ := h; rfl) | (obtain ⟨_, _, _, _, _, rfl, _⟩ := h; rfl) | (obtain ⟨_, _, _, _, _, _, rfl, _⟩ := h; rfl) | (obtain ⟨_, _, _, _, _, _, _, rfl, _⟩ := h; rfl) | (obtain ⟨_, _, _, _, _, _, _, _, rfl, _⟩ := h; rfl) | (obtain ⟨_, _, _, _, _, _, _, _, _, rfl, _⟩ := h; rfl) | (obtain ⟨_, _, _, _, _, _, _, _, _, _, rfl, _⟩ := h; rfl) | (obtain ⟨_, _, _, _, _, _, _, _, _, _, _, rfl, _⟩ := h; rfl) | (obtain ⟨_, _, _, _, _, _, _, _, _, _, _, _, rfl, _⟩ := h; rfl) | (obtain ⟨_, _, _, _, _, _, _, _, _, _, _, _, _, rfl, _⟩ := h; rfl) | (obtain ⟨_, _, _, _, _, _, _, _, _, _, _, _, _, _, rfl, _⟩ := h; rfl) | (obtain ⟨_, _, _, _, _, _, _, _, _, _, _, _, _, _, _, rfl, _⟩ := h; rfl) | (obtain ⟨_, _, _, _, _, _, _, _, _, _, _, _, _, _, _, _, rfl, _⟩ := h; rfl) | (obtain ⟨_, _, _, _, _, _, _, _, _, _, _, _, _, _, _, _, _, rfl, _⟩ := h; rfl) | (obtain ⟨_, _, _, _, _, _, _, _, _, _, _, _, _, _, _, _, _, _, rfl, _⟩ := h; rfl) | (obtain ⟨_, _, _, _, _, _, _, _, _, _, _, _, _, _, _, _, _, _, _, rfl, _⟩ := h; rfl) | (obtain ⟨_, _, _, _, _, _, _, _, _, _, _, _, _, _, _, _, _, _, _, _, rfl, _⟩ := h; rfl) | (obtain ⟨_, _, _, _, _, _, _, _, _, _, _, _, _, _, _, _, _, _, _, _, _, rfl, _⟩ := h; rfl) | (obtain ⟨_, _, _, _, _, _, _, _, _, _, _, _, _, _, _, _, _, _, _, _, _, _, rfl, _⟩ := h; rfl) | (obtain ⟨_, _, _, _, _, _, _, _, _, _, _, _, _, _, _, _, _, _, _, _, _, _, _, rfl, _⟩ := h; rfl)
  · obtain ⟨t, a, b, c, d, m, y, rfl, ht, ⟨ba, bb, bc, bd⟩, hm, hy, q⟩ := h
    refine ⟨_, (pss_cons (ps_asg (pv 0) (pg_tup (by rfl) (pgs_cons (pg_name (i := 3) sc_row_makers.nd rfl (.inr rfl)) (pgs_cons (pg_name (i := 4) sc_row_makers.nd rfl (.inl rfl)) (pgs_cons (pg_name (i := 5) sc_row_makers.nd rfl (.inl rfl)) (pgs_cons (pg_name (i := 6) sc_row_makers.nd rfl (.inl rfl)) pgs_nil))))))
    (pss_cons (ps_asg (pe_tup (pa_cons (pe_op op_mulW (pv 4) (pv 2)) (pa_cons (pe_op op_mulW (pe_op op_mulW (pv 5) (pv 2)) (pv 2)) (pa_cons (pe_op op_mulW (pe_op op_mulW (pe_op op_mulW (pv 6) (pv 2)) (pv 2)) (pv 2)) pa_nil)))) (pg_tup (by rfl) (pgs_cons (pg_name (i := 7) sc_row_makers.nd rfl (.inr rfl)) (pgs_cons (pg_name (i := 8) sc_row_makers.nd rfl (.inr rfl)) (pgs_cons (pg_name (i := 9) sc_row_makers.nd rfl (.inr rfl)) pgs_nil)))))
    (pss_one (ps_ret (pe_lc (own := [("x", 10)]) (g := (gName 10)) rfl sc_row_makers.nd (pi_range2 (by rfl) T.b_range (pa_cons (pe_un un_neg (pv 1)) (pa_cons (pe_op op_add (pv 1) pe_int) pa_nil))) (blkOk_by (N := N_row_makers) (sc := defScope s_row_makers) (by decide +kernel)) (fun _ _ _ _ _ => (pg_name (i := 10) sc_row_makers.nd rfl (.inl rfl))) (fun _ _ _ _ _ => (pts_one (pt_cmpR (op_in_seqK (K := K) rfl) (pe_op op_add (pe_op op_mulW (pe_op op_add (pe_op op_mulW (pe_op op_add (pe_op op_mulW (pv 3) (pv 10)) (pv 7)) (pv 10)) (pv 8)) (pv 10)) (pv 9)) (pe_tup (pa_cons pe_int (pa_cons (pe_un un_neg pe_int) pa_nil))) (by with_unfolding_all rfl)))) (fun _ _ _ _ _ => (pe_tup (pa_cons (pv 10) (pa_cons (pv 2) pa_nil))))))))), ?_⟩
    have by' : B 7 y := ⟨by omega, by decide⟩
    refine ⟨_, rfl, unI4 ht ?_⟩
    refine ⟨_, rfl, _, rfl, _, _, rfl, rfl, mulB bb by' (by decide), _, rfl, _, rfl, _, _, rfl, rfl, mulB bc by' (by decide), _, rfl, _, _, rfl, rfl, mulB (B.mul bc by') by' (by decide), _, rfl, _, rfl, _, _, rfl, rfl, mulB bd by' (by decide), _, rfl, _, _, rfl, rfl, mulB (B.mul bd by') by' (by decide), _, rfl, _, _, rfl, rfl, mulB (B.mul (B.mul bd by') by') by' (by decide), sl3, fun u nu => ?_⟩
    refine ⟨u, _, rfl, SqT.of upd_same, rfl, _, _, rfl, _, _, rfl, _, _, rfl, rfl, ?_⟩
    have e0 := Ex0.new (o := .tup [.int (b * y), .int (c * y * y), .int (d * y * y * y)]) nu
    refine ⟨_, rfl, _, rfl, _, rfl, _, _, rfl, rfl, _, _, rfl, ⟨by omega, by omega, by omega, by omega⟩, ?_⟩
    refine lcR fm0 trivial (fun i acc H' => Prs H' acc (((List.range i).filter fun (i : Nat) => mk1 a b c d (-(m : Int) + (i : Int)) y).map fun (i : Nat) => (-(m : Int) + (i : Int), y))) (fun _ _ => .nil) (fun D i acc H' hD hi e hA hlen hp => ?_) (fun D H' acc hD e hA hp => ?_)
    · refine ⟨rfl, ?_⟩
      have hi2 : i < 2 * m + 1 := by omega
      have bx : B 7 (-(m : Int) + (i : Int)) := ⟨by omega, by decide⟩
      have s1 := B.add (B.mul ba bx) (B.mul bb by')
      have s2 := B.add (B.mul s1 bx) (B.mul (B.mul bc by') by')
      refine ⟨_, rfl, _, rfl, _, _, rfl, rfl, mulB ba bx (by decide), _, rfl, _, _, rfl, rfl, _, rfl, _, _, rfl, rfl, mulB s1 bx (by decide), _, rfl, _, _, rfl, rfl, _, rfl, _, _, rfl, rfl, mulB s2 bx (by decide), _, rfl, _, _, rfl, rfl, _, rfl, sl2, fun z nz => ?_⟩
      refine ⟨z, _, rfl, .inr (SqT.of upd_same), rfl, rfl, _, rfl, ?_⟩
      have ez := Ex0.new (o := .tup [.int 1, .int (-1)]) nz
      have ev : ((a * (-(m : Int) + (i : Int)) + b * y) * (-(m : Int) + (i : Int)) + c * y * y) * (-(m : Int) + (i : Int)) + d * y * y * y = fv a b c d (-(m : Int) + (i : Int)) y := by unfold fv; grind
      have e1 : inV (.int (((a * (-(m : Int) + (i : Int)) + b * y) * (-(m : Int) + (i : Int)) + c * y * y) * (-(m : Int) + (i : Int)) + d * y * y * y)) [.int 1, .int (-1)] = mk1 a b c d (-(m : Int) + (i : Int)) y := by
        rw [ev]
        unfold mk1
        generalize fv a b c d (-(m : Int) + (i : Int)) y = v
        show ((1 : Int) == v || ((-1 : Int) == v || false)) = _
        apply Bool.eq_iff_iff.mpr
        simp only [Bool.or_false, Bool.or_eq_true, beq_iff_eq, decide_eq_true_iff]
        omega
      show if inV (.int (((a * (-(m : Int) + (i : Int)) + b * y) * (-(m : Int) + (i : Int)) + c * y * y) * (-(m : Int) + (i : Int)) + d * y * y * y)) [.int 1, .int (-1)] = true then _ else _
      rw [e1]
      have hpz := hp.ex fun b zs h => Ex0.ap ez h
      refine iteB (fun hk => ?_) (fun hk => ?_)
      · refine ⟨_, rfl, _, rfl, sl2, fun t2 n2 => ?_⟩
        have e2 := Ex0.new (o := .tup [.int (-(m : Int) + (i : Int)), .int y]) n2
        refine cs_yes fm0 trivial hD e hA hlen (by omega) (ez.trans e2) ?_
        have hA2 := Ex0.ap (ez.trans e2) hA
        have hp2 := hpz.ex fun b zs h => Ex0.ap e2 h
        have h2 : upd (upd H' z (.tup [.int 1, .int (-1)])) t2 (.tup [.int (-(m : Int) + (i : Int)), .int y]) t2 = some (.tup [.int (-(m : Int) + (i : Int)), .int y]) := upd_same
        rw [List.range_succ, List.filter_append, List.map_append, List.filter_cons, hk]
        refine (hp2.ex fun b zs h => ?_).snoc ?_
        · rw [upd_ne (ne_of h hA2 (by intro z; cases z))]
          exact h
        · rw [upd_ne (ne_of h2 hA2 (by intro z; cases z))]
          exact h2
      · refine cs_no fm0 trivial hD e hA hlen ez ?_
        rw [List.range_succ, List.filter_append, List.map_append, List.filter_cons, hk]
        simpa using hpz
    · have hn : ((m : Int) + 1 - -(m : Int)).toNat = 2 * m + 1 := by omega
      rw [hn] at hp
      exact q D H' acc (e0.trans e) hA hp
theorem ok_makers (T : Txt K mg C_Form C_Ring C_Element) : Def P w K mg base 5 "makers" ["form", "most"] (sp_makers K C_Form C_Ring C_Element) := by
  obtain ⟨f_, fd_, g_, F_⟩ := T.d_makers
  obtain ⟨p_Form_coefficients, f_Form_coefficients, fd_Form_coefficients, R_Form_coefficients, b_Form_coefficients, G_Form_coefficients⟩ := (ok_Form_coefficients (P := P) (w := w) (base := base) T)
  obtain ⟨f_check_between, fd_check_between, g_check_between, k_check_between, b_check_between, G_check_between⟩ := (ok_check_between (P := P) (w := w) (base := base) T)
  obtain ⟨f_check_form, fd_check_form, g_check_form, k_check_form, b_check_form, G_check_form⟩ := (ok_check_form (P := P) (w := w) (base := base) T)
  obtain ⟨f_row_makers, fd_row_makers, g_row_makers, k_row_makers, b_row_makers, G_row_makers⟩ := (ok_row_makers (P := P) (w := w) (base := base) T)
  obtain ⟨f_with_opposites, fd_with_opposites, g_with_opposites, k_with_opposites, b_with_opposites, G_with_opposites⟩ := (ok_with_opposites (P := P) (w := w) (base := base) T)
  refine ⟨f_, fd_, g_, F_.kp, F_.binds (ps := ["form", "most"]) (fun _ _ _ _ _ _ us hl => match us, hl with | [_, _], _ => rfl), ?_⟩
  refine F_.ok sc_makers (fun vs H Q E h => ?_) (fun cdv A outer s H vs Q E hr h => ?_)
  · first | (obtain ⟨rfl, _⟩ := h; rfl) | (obtain ⟨_, rfl, _⟩ := h; rfl) | (obtain ⟨_, _, rfl, _⟩ := h; rfl) | (obtain ⟨_, _, _, rfl, _⟩ := h; rfl) | (obtain ⟨_, _, _, _, rfl, _⟩ := h; rfl) | (obtain ⟨_, _, _, _, _, rfl, _⟩ := h; rfl) | (obtain ⟨_, _, _, _, _, _, rfl, _⟩ := h; rfl) | (obtain ⟨_, _, _, _, _, _, _, rfl, _⟩ := h; rfl) | (obtain ⟨_, _, _, _, _, _, _, _, rfl, _⟩ := h; rfl) | (obtain ⟨_, _, _, _, _, _, _, _, _, rfl, _⟩ := h; rfl) | (obtain ⟨_, _, _, _, _, _, _, _, _, _, rfl, _⟩ := h; rfl) | (obtain ⟨_, _, _, _, _, _, _, _, _, _, _, rfl, _⟩ := h; rfl) | (obtain ⟨_, _, _, _, _, _, _, _, _, _, _, _, rfl, _⟩ := h; rfl) | (obtain ⟨_, _, _, _, _, _, _, _, _, _, _, _, _, rfl, _⟩ := h; rfl) | (obtain ⟨_, _, _, _, _, _, _, _, _, _, _, _, _, _, rfl, _⟩ := h; rfl) | (obtain ⟨_, _, _, _, _, _, _, _, _, _, _, _, _, _, _, rfl, _⟩ := h; rfl) | (obtain ⟨_, _, _, _, _, _, _, _, _, _, _, _, _, _, _, _, rfl, _⟩ := h; rfl) | (obtain ⟨_, _, _, _, _, _, _, _, _, _, _, _, _, _, _, _, _, rfl, _⟩ := h; rfl) | (obtain ⟨_, _, _, _, _, _, _, _, _, _, _, _, _, _, _, _, _, _, rfl, _⟩ := h; rfl) | (obtain ⟨_, _, _, _, _, _, _, _, _, _, _, _, _, _, _, _, _, _, _, rfl, _⟩ := h; rfl) | (obtain ⟨_, _, _, _, _, _, _, _, _, _, _, _, _, _, _, _, _, _, _, _, rfl, _⟩ := h; rfl) | (obtain ⟨_, _, _, _, _, _, _, _, _, _, _, _, _, _, _, _, _, _, _, _, _, rfl, _⟩ := h; rfl) | (obtain ⟨_, _, _, _, _, _, _, _, _, _, _, _, _, _, _, _, _, _, _, _, _, _, rfl, _⟩ := h; rfl) | (obtain ⟨_, _, _, _, _, _, _, _, _, _, _, _, _, _, _, _, _, _, _, _, _, _, _, rfl, _⟩ := h; rfl)
  · obtain ⟨z, a, b, c, d, m, rfl, hz, bz, m1, m2, q⟩ := h
    obtain ⟨t_MAX_MAKERS, h_MAX_MAKERS⟩ := T.x_MAX_MAKERS
    refine ⟨_, (pss_cons (ps_expr (pe_call G_check_form (hr.mono (by decide)) (by rfl) g_check_form k_check_form b_check_form .nil pass0 (pa_cons (pv 0) pa_nil)))
    (pss_cons (ps_expr (pe_call G_check_between (hr.mono (by decide)) (by rfl) g_check_between k_check_between b_check_between .nil pass0 (pa_cons (pv 1) (pa_cons pe_int (pa_cons (pe_glob (v := .int 50) (by rfl) h_MAX_MAKERS ⟨_, rfl⟩) pa_nil)))))
    (Evl.pss_cut (ps_set (i := 2) sc_makers.nd rfl (.inl rfl) (pe_ifExp (pt_cmpR op_in_seq (pe_ix ix_tup (pe_prop (pv 0) T.cl_Form R_Form_coefficients G_Form_coefficients (hr.mono (by decide)) b_Form_coefficients .nil pass0 (by rfl)) pe_int (fun _ _ => rfl)) (pe_tup (pa_cons pe_int (pa_cons (pe_un un_neg pe_int) pa_nil))) (by with_unfolding_all rfl)) (pe_lst (pa_cons (pe_tup (pa_cons pe_int (pa_cons pe_int pa_nil))) pa_nil)) (pe_lst pa_nil)))
    (Evl.pss_cut (ps_for PassesOwn.never rfl (pi_range2 (by rfl) T.b_range (pa_cons pe_int (pa_cons (pe_op op_add (pv 1) pe_int) pa_nil))) (pg_name (i := 3) sc_makers.nd rfl (.inl rfl))
      (pss_one (ps_expr (pe_bm PySem.F.plainAttrs_list PySem.F.slot_list_extend PySem.F.type_list_extend mt_extend (pv 2) (pa_cons (pe_call G_row_makers (hr.mono (by decide)) (by rfl) g_row_makers k_row_makers b_row_makers .nil pass0 (pa_cons (pe_prop (pv 0) T.cl_Form R_Form_coefficients G_Form_coefficients (hr.mono (by decide)) b_Form_coefficients .nil pass0 (by rfl)) (pa_cons (pv 1) (pa_cons (pv 3) pa_nil)))) pa_nil)))))
    (pss_one (ps_ret (pe_call G_with_opposites (hr.mono (by decide)) (by rfl) g_with_opposites k_with_opposites b_with_opposites .nil pass0 (pa_cons (pv 2) pa_nil)))))))), ?_⟩
    obtain ⟨dz, tz, hz1, hz2⟩ := id hz
    refine ⟨_, rfl, z, _, rfl, hz, ?_⟩
    refine ⟨_, rfl, (m : Int), 1, 50, rfl, ⟨by omega, by omega⟩, by omega, by omega, ?_⟩
    refine ⟨fun σ H' => ∃ (l : Addr) (xs : List V), σ = [some (.ref z), some (.int (m : Int)), some (.ref l), none] ∧ H l = none ∧ Ex0 H H' ∧ H' l = some (.lst xs) ∧ Prs H' xs (if a = 1 ∨ a = -1 then [((1 : Int), (0 : Int))] else []), ?_, ?_⟩
    · refine ⟨_, rfl, z, dz, _, rfl, hz1, z, _, rfl, hz, fun t ht => ?_⟩
      refine ⟨t, _, 0, .int a, rfl, rfl, SqT.of ht, rfl, _, rfl, sl2, fun u nu => ?_⟩
      refine ⟨u, _, rfl, .inr (SqT.of upd_same), rfl, rfl, _, rfl, ?_⟩
      have eu := Ex0.new (o := .tup [.int 1, .int (-1)]) nu
      have e1 : inV (.int a) [.int 1, .int (-1)] = decide (a = 1 ∨ a = -1) := by
        show ((1 : Int) == a || ((-1 : Int) == a || false)) = _
        apply Bool.eq_iff_iff.mpr
        simp only [Bool.or_false, Bool.or_eq_true, beq_iff_eq, decide_eq_true_iff]
        omega
      show if inV (.int a) [.int 1, .int (-1)] = true then _ else _
      rw [e1]
      refine iteD (fun h => ?_) (fun h => ?_)
      · refine ⟨sl2, fun t2 n2 => ⟨sl1, fun l nl => ?_⟩⟩
        have e2 := Ex0.new (o := .tup [.int 1, .int 0]) n2
        have e3 := Ex0.new (o := .lst [.ref t2]) nl
        rw [if_pos h]
        exact ⟨l, _, rfl, Fx.free (eu.trans e2) (fun z => z) nl, eu.trans (e2.trans e3), upd_same, .cons (Ex0.ap e3 upd_same) .nil⟩
      · refine ⟨Nat.zero_le _, fun l nl => ?_⟩
        rw [if_neg h]
        exact ⟨l, _, rfl, Fx.free eu (fun z => z) nl, eu.trans (Ex0.new nl), upd_same, .nil⟩
    rintro σ H1 ⟨l, xs, rfl, nl, e1, hl, hP⟩
    have rl : ∀ y, (rowM a b c d m y).length ≤ 101 := fun y => by
      unfold rowM
      rw [List.length_map]
      refine Nat.le_trans (List.length_filter_le _ _) ?_
      rw [List.length_range]
      omega
    refine ⟨fun σ H' => ∃ (xs : List V) (y3 : Option V), σ = [some (.ref z), some (.int (m : Int)), some (.ref l), y3] ∧ Ex0 H H' ∧ H' l = some (.lst xs) ∧ Prs H' xs (found0 a b c d m) ∧ (found0 a b c d m).length ≤ 1 + 101 * m, ?_, ?_⟩
    · refine ⟨_, rfl, _, _, rfl, rfl, _, _, rfl, ⟨by decide, by decide, by omega, by omega⟩, ?_⟩
      refine for_range (lo := 1) (n := ((m : Int) + 1 - 1).toNat) (fun i σ H' => ∃ (xs : List V) (y3 : Option V) (ps : List (Int × Int)), σ = [some (.ref z), some (.int (m : Int)), some (.ref l), y3] ∧ Ex0 H H' ∧ H' l = some (.lst xs) ∧ Prs H' xs ps ∧ ps = (if a = 1 ∨ a = -1 then [((1 : Int), (0 : Int))] else []) ++ (List.range i).flatMap (fun (i : Nat) => rowM a b c d m (1 + (i : Int))) ∧ ps.length ≤ 1 + 101 * i) ⟨xs, none, _, rfl, e1, hl, hP, by simp, by split <;> simp⟩ ?_ ?_
      · rintro i σ H2 hi ⟨xs, y3, ps, rfl, e2, hl2, hP2, hps, hlen⟩
        have hz2' := Ex0.fo e2 hz
        refine ⟨_, rfl, .inl ⟨rfl, _, SqL.of hl2⟩, ?_⟩
        refine ⟨_, rfl, z, dz, _, rfl, Ex0.ap e2 hz1, z, _, rfl, hz2', fun t' ht' => ?_⟩
        refine ⟨_, rfl, _, rfl, t', a, b, c, d, m, 1 + (i : Int), rfl, ht', bz, m2, by omega, fun lb H3 zs e3 hb hPz => ?_⟩
        have hl3 := Ex0.ap e3 hl2
        have lz := hPz.len
        have lx := hP2.len
        have lr := rl (1 + (i : Int))
        refine ⟨l, lb, xs, zs, rfl, rfl, hl3, hb, by rw [sizeLine_eq]; omega, ?_⟩
        have hP3 := (hP2.ex fun b zs h => Ex0.ap e3 h).app hPz
        refine ⟨xs ++ zs, some (.int (1 + (i : Int))), ps ++ rowM a b c d m (1 + (i : Int)), rfl, Fx.mut fm0 (e2.trans e3) trivial nl, upd_same, hP3.ex fun b ws h => ?_, ?_, ?_⟩
        · rw [upd_ne (ne_of h hl3 (by intro z; cases z))]
          exact h
        · rw [hps, List.range_succ, List.flatMap_append, List.append_assoc]
          simp
        · rw [List.length_append]
          omega
      · rintro σ H2 ⟨xs, y3, ps, rfl, e2, hl2, hP2, hps, hlen⟩
        have hn : ((m : Int) + 1 - 1).toNat = m := by omega
        rw [hn] at hps hlen
        have : ps = found0 a b c d m := hps
        subst this
        exact ⟨xs, y3, rfl, e2, hl2, hP2, hlen⟩
    rintro σ H2 ⟨xs, y3, rfl, e2, hl2, hP2, hlen⟩
    refine ⟨_, rfl, l, xs, _, rfl, hl2, hP2, by omega, fun t H3 ys qs e3 ht hPq perm srt => ?_⟩
    exact q t H3 ys qs (e2.trans e3) ht hPq perm srt
theorem ok_ring_made (T : Txt K mg C_Form C_Ring C_Element) : Def P w K mg base 8 "ring_made" ["polynomial"] (sp_ring_made K C_Form C_Ring C_Element) := by
  obtain ⟨f_, fd_, g_, F_⟩ := T.d_ring_made
  obtain ⟨p_Ring___init__, f_Ring___init__, fd_Ring___init__, R_Ring___init__, b_Ring___init__, G_Ring___init__⟩ := (ok_Ring___init__ (P := P) (w := w) (base := base) T)
  obtain ⟨f_are_short_integers, fd_are_short_integers, g_are_short_integers, k_are_short_integers, b_are_short_integers, G_are_short_integers⟩ := (ok_are_short_integers (P := P) (w := w) (base := base) T)
  obtain ⟨f_form_of, fd_form_of, g_form_of, k_form_of, b_form_of, G_form_of⟩ := (ok_form_of (P := P) (w := w) (base := base) T)
  refine ⟨f_, fd_, g_, F_.kp, F_.binds (ps := ["polynomial"]) (fun _ _ _ _ _ _ us hl => match us, hl with | [_], _ => rfl), ?_⟩
  refine F_.ok sc_ring_made (fun vs H Q E h => ?_) (fun cdv A outer s H vs Q E hr h => ?_)
  · first | (obtain ⟨rfl, _⟩ := h; rfl) | (obtain ⟨_, rfl, _⟩ := h; rfl) | (obtain ⟨_, _, rfl, _⟩ := h; rfl) | (obtain ⟨_, _, _, rfl, _⟩ := h; rfl) | (obtain ⟨_, _, _, _, rfl, _⟩ := h; rfl) | (obtain ⟨_, _, _, _, _, rfl, _⟩ := h; rfl) | (obtain ⟨_, _, _, _, _, _, rfl, _⟩ := h; rfl) | (obtain ⟨_, _, _, _, _, _, _, rfl, _⟩ := h; rfl) | (obtain ⟨_, _, _, _, _, _, _, _, rfl, _⟩ := h; rfl) | (obtain ⟨_, _, _, _, _, _, _, _, _, rfl, _⟩ := h; rfl) | (obtain ⟨_, _, _, _, _, _, _, _, _, _, rfl, _⟩ := h; rfl) | (obtain ⟨_, _, _, _, _, _, _, _, _, _, _, rfl, _⟩ := h; rfl) | (obtain ⟨_, _, _, _, _, _, _, _, _, _, _, _, rfl, _⟩ := h; rfl) | (obtain ⟨_, _, _, _, _, _, _, _, _, _, _, _, _, rfl, _⟩ := h; rfl) | (obtain ⟨_, _, _, _, _, _, _, _, _, _, _, _, _, _, rfl, _⟩ := h; rfl) | (obtain ⟨_, _, _, _, _, _, _, _, _, _, _, _, _, _, _, rfl, _⟩ := h; rfl) | (obtain ⟨_, _, _, _, _, _, _, _, _, _, _, _, _, _, _, _, rfl, _⟩ := h; rfl) | (obtain ⟨_, _, _, _, _, _, _, _, _, _, _, _, _, _, _, _, _, rfl, _⟩ := h; rfl) | (obtain ⟨_, _, _, _, _, _, _, _, _, _, _, _, _, _, _, _, _, _, rfl, _⟩ := h; rfl) | (obtain ⟨_, _, _, _, _, _, _, _, _, _, _, _, _, _, _, _, _, _, _, rfl, _⟩ := h; rfl) | (obtain ⟨_, _, _, _, _, _, _, _, _, _, _, _, _, _, _, _, _, _, _, _, rfl, _⟩ := h; rfl) | (obtain ⟨_, _, _, _, _, _, _, _, _, _, _, _, _, _, _, _, _, _, _, _, _, rfl, _⟩ := h; rfl) | (obtain ⟨_, _, _, _, _, _, _, _, _, _, _, _, _, _, _, _, _, _, _, _, _, _, rfl, _⟩ := h; rfl) | (obtain ⟨_, _, _, _, _, _, _, _, _, _, _, _, _, _, _, _, _, _, _, _, _, _, _, rfl, _⟩ := h; rfl)
  · obtain ⟨t, b, c, d, rfl, ht, sb, sc, sd, q⟩ := h
    refine ⟨_, (pss_cons (ps_if (pt_not (pt_val (pe_call G_are_short_integers (hr.mono (by decide)) (by rfl) g_are_short_integers k_are_short_integers b_are_short_integers .nil pass0 (pa_cons (pv 0) (pa_cons pe_int pa_nil)))))
      pss_never
      pss_nil)
    (pss_cons (ps_asg (pv 0) (pg_tup (by rfl) (pgs_cons (pg_name (i := 1) sc_ring_made.nd rfl (.inl rfl)) (pgs_cons (pg_name (i := 2) sc_ring_made.nd rfl (.inl rfl)) (pgs_cons (pg_name (i := 3) sc_ring_made.nd rfl (.inl rfl)) pgs_nil)))))
    (pss_one (ps_ret (pe_make R_Ring___init__ G_Ring___init__ (hr.mono (by decide)) (by rfl) T.g_Ring b_Ring___init__ .nil pass0 (pa_cons (pe_call G_form_of (hr.mono (by decide)) (by rfl) g_form_of k_form_of b_form_of .nil pass0 (pa_cons (pe_tup (pa_cons pe_int (pa_cons (pv 1) (pa_cons (pv 2) (pa_cons (pv 3) pa_nil))))) pa_nil)) pa_nil)))))), ?_⟩
    refine ⟨_, rfl, t, [b, c, d], rfl, ht, by show 3 ≤ 1000; decide, fun n hn => ?_, fun H1 e1 => ⟨_, rfl, iteF ?_⟩⟩
    · simp only [List.mem_cons, List.mem_nil_iff, or_false] at hn
      rcases hn with rfl | rfl | rfl <;> assumption
    have ht1 := Ex0.ti e1 ht
    refine ⟨_, rfl, unq3 (Ti.q ht1) ?_⟩
    refine ⟨_, rfl, _, rfl, _, rfl, sl4, fun t2 n2 => ?_⟩
    refine ⟨t2, [1, b, c, d], rfl, upd_same, fun x H2 e2 hx => ?_⟩
    intro y dy ny ndy _
    refine ⟨y, dy, x, _, rfl, upd_same, Ex0.fo (ex_two ny ndy) hx, fun H3 e4 h4 => ⟨rfl, ?_⟩⟩
    obtain ⟨e5, hy⟩ := ri_made ny ndy hx e4 h4
    exact q y H3 (((e1.trans (Ex0.new n2)).trans e2).trans e5) hy
end
end RG
namespace RG
open PySem PySem.Spec PyProof.Rows L2 Fr
def sp_l_vat (K : PySem.W.Frag) (_ _ _ : Addr) : Sp := fun vs H Q _ => ∃ (a : Addr) (ns : List Int) (i : Nat), vs = [.ref a, .int (i : Int)] ∧ SqL K H a (ns.map V.int) ∧ ∀ p H', H p = none → Ex0 H H' → Vat p H' → Q (.ref p) H'
def sp_l_scoop (_ : PySem.W.Frag) (_ _ _ : Addr) : Sp := fun vs H Q _ => ∃ (c : Addr) (t : Int), vs = [.ref c, .int t] ∧ Vat c H ∧ 0 < t ∧ t < 2 ^ 250 ∧ ∀ (r : Int) H', 0 ≤ r → r < t → Fv c H H' → Q (.int r) H'
def sp_l_from (K : PySem.W.Frag) (_ _ _ : Addr) : Sp := fun vs H Q _ => ∃ (c l : Addr) (xs : List V), vs = [.ref c, .ref l] ∧ Vat c H ∧ H l = some (.lst xs) ∧ l ≠ c ∧ xs ≠ [] ∧ xs.length ≤ 100000 ∧ ∀ v H', v ∈ xs → Fv c H H' → Q v H'
def sp_l_size (_ : PySem.W.Frag) (_ _ _ : Addr) : Sp := fun vs H Q _ => ∃ (c : Addr) (t : Int), vs = [.ref c, .int t] ∧ Vat c H ∧ 0 ≤ t ∧ t < 2 ^ 240 ∧ ∀ (r : Int) H', -t ≤ r → r ≤ t → Fv c H H' → Q (.int r) H'
section
variable {P : Program} {w : World} {K : PySem.W.Frag} {mg : Str → Option Value} {base : Heap} {C_Form C_Ring C_Element : Addr}
theorem ok_l_vat (T : Txt K mg C_Form C_Ring C_Element) : Def P w K mg base 1 "_law_vat" ["_law_script", "_law_at"] (sp_l_vat K C_Form C_Ring C_Element) := by
  obtain ⟨f_, fd_, g_, F_⟩ := T.d_l_vat
  refine ⟨f_, fd_, g_, F_.kp, F_.binds (ps := ["_law_script", "_law_at"]) (fun _ _ _ _ _ _ us hl => match us, hl with | [_, _], _ => rfl), ?_⟩
  refine F_.ok sc_l_vat (fun vs H Q E h => ?_) (fun cdv A outer s H vs Q E hr h => ?_)
  · first | (obtain ⟨rfl, _⟩ := h; rfl) | (obtain ⟨_, rfl, _⟩ := h; rfl) | (obtain ⟨_, _, rfl, _⟩ := h; rfl) | (obtain ⟨_, _, _, rfl, _⟩ := h; rfl) | (obtain ⟨_, _, _, _, rfl, _⟩ := h; rfl) | (obtain ⟨_, _, _, _, _, rfl, _⟩ := h; rfl) | (obtain ⟨_, _, _, _, _, _, rfl, _⟩ := h; rfl) | (obtain ⟨_, _, _, _, _, _, _, rfl, _⟩ := h; rfl) | (obtain ⟨_, _, _, _, _, _, _, _, rfl, _⟩ := h; rfl) | (obtain ⟨_, _, _, _, _, _, _, _, _, rfl, _⟩ := h; rfl) | (obtain ⟨_, _, _, _, _, _, _, _, _, _, rfl, _⟩ := h; rfl) | (obtain ⟨_, _, _, _, _, _, _, _, _, _, _, rfl, _⟩ := h; rfl) | (obtain ⟨_, _, _, _, _, _, _, _, _, _, _, _, rfl, _⟩ := h; rfl) | (obtain ⟨_, _, _, _, _, _, _, _, _, _, _, _, _, rfl, _⟩ := h; rfl) | (obtain ⟨_, _, _, _, _, _, _, _, _, _, _, _, _, _, rfl, _⟩ := h; rfl) | (obtain ⟨_, _, _, _, _, _, _, _, _, _, _, _, _, _, _, rfl, _⟩ := h; rfl) | (obtain ⟨_, _, _, _, _, _, _, _, _, _, _, _, _, _, _, _, rfl, _⟩ := h; rfl) | (obtain ⟨_, _, _, _, _, _, _, _, _, _, _, _, _, _, _, _, _, rfl, _⟩ := h; rfl) | (obtain ⟨_, _, _, _, _, _, _, _, _, _, _, _, _, _, _, _, _, _, rfl, _⟩ := h; rfl) | (obtain ⟨_, _, _, _, _, _, _, _, _, _, _, _, _, _, _, _, _, _, _, rfl, _⟩ := h; rfl) | (obtain ⟨_, _, _, _, _, _, _, _, _, _, _, _, _, _, _, _, _, _, _, _, rfl, _⟩ := h; rfl) | (obtain ⟨_, _, _, _, _, _, _, _, _, _, _, _, _, _, _, _, _, _, _, _, _, rfl, _⟩ := h; rfl) | (obtain ⟨_, _, _, _, _, _, _, _, _, _, _, _, _, _, _, _, _, _, _, _, _, _, rfl, _⟩ := h; rfl) | (obtain ⟨_, _, _, _, _, _, _, _, _, _, _, _, _, _, _, _, _, _, _, _, _, _, _, rfl, _⟩ := h; rfl)
  · obtain ⟨a, ns, i, rfl, ha, q⟩ := h
    refine ⟨_, (Evl.pss_cut (ps_set (i := 2) sc_l_vat.nd rfl (.inl rfl) (pe_ifExp (pt_cmpR op_lt (pv 1) (pe_callB call_len_seq (by rfl) T.b_len PySem.boot_len (pa_cons (pv 0) pa_nil)) (nomark _)) (pe_callTy call_int1 (by rfl) T.b_int (by decide +kernel) (pa_cons (pe_ix ix_list (pv 0) (pv 1) (fun _ _ => rfl)) pa_nil)) (pe_op op_add (pe_op op_mul pe_int (pv 1)) pe_int)))
    (pss_cons (ps_set (i := 3) sc_l_vat.nd rfl (.inl rfl) (pe_op op_mod (pe_callB call_abs (by rfl) T.b_abs (by decide +kernel) (pa_cons (pv 2) pa_nil)) (pe_op op_powC (pe_op op_pow pe_int pe_int) pe_int)))
    (pss_cons (ps_set (i := 4) sc_l_vat.nd rfl (.inl rfl) (pe_op op_add (pe_op op_add (pe_op op_add (pe_op op_mul (pe_op op_mod (pv 3) pe_int) pe_int) (pe_op op_mul pe_int (pv 1))) (pe_op op_mul pe_int (pe_callTy call_int1 (by rfl) T.b_int (by decide +kernel) (pa_cons (pe_cmpR op_lt (pv 2) pe_int (nomark _)) pa_nil)))) pe_int))
    (pss_one (ps_ret (pe_lst (pa_cons (pe_callB (call_max2 rfl) (by rfl) T.b_max (by decide +kernel) (pa_cons pe_int (pa_cons (pe_op op_sub (pv 3) (pe_op op_pow pe_int pe_int)) pa_nil))) (pa_cons (pv 4) (pa_cons pe_int pa_nil))))))))), ?_⟩
    refine ⟨fun σ H' => ∃ cell : Int, σ = [some (.ref a), some (.int (i : Int)), some (.int cell), none, none] ∧ H' = H, ?_, ?_⟩
    · refine ⟨_, rfl, _, rfl, a, _, rfl, .inl ha, _, _, rfl, rfl, _, rfl, iteD (fun g => ?_) (fun g => ?_)⟩
      · have hi : i < ns.length := by rw [List.length_map] at g; omega
        refine ⟨_, rfl, _, rfl, a, _, (i : Int), .int ns[i], rfl, rfl, ha, atI_nat (by rw [List.getElem?_map, List.getElem?_eq_getElem hi]; rfl), .inl ⟨_, rfl, ?_⟩⟩
        exact ⟨_, rfl, rfl⟩
      · refine ⟨_, rfl, _, _, rfl, rfl, .inl ⟨by decide, by decide⟩, _, _, rfl, rfl, ?_⟩
        exact ⟨_, rfl, rfl⟩
    · rintro σ H' ⟨cell, rfl, rfl⟩
      refine ⟨_, rfl, cell, rfl, _, _, rfl, rfl, ⟨by decide, by decide, by decide⟩, _, _, rfl, rfl, ⟨by decide, by decide +kernel⟩, _, _, rfl, rfl, by show (0 : Int) < (10 ^ 54) ^ 4; decide +kernel, ?_⟩
      refine ⟨_, rfl, _, _, rfl, rfl, (show (0 : Int) < 4611686018427387733 by decide), _, _, rfl, rfl, .inr ⟨by decide, by decide⟩, _, rfl, _, _, rfl, rfl, .inl ⟨by decide, by decide⟩, _, _, rfl, rfl, ?_⟩
      refine ⟨_, rfl, _, _, rfl, rfl, .inr ⟨_, rfl, _, _, rfl, rfl, .inl ⟨by decide, by decide⟩, _, _, rfl, rfl, _, _, rfl, rfl, ?_⟩⟩
      refine ⟨_, rfl, _, _, rfl, rfl, ⟨by decide, by decide, by decide⟩, _, _, rfl, rfl, _, _, rfl, _, rfl, sl3, fun p hp => ?_⟩
      exact q p _ hp (Ex0.new hp) ⟨_, _, _, upd_same⟩
theorem ok_l_scoop (T : Txt K mg C_Form C_Ring C_Element) : Def P w K mg base 1 "_law_scoop" ["_law_vat_here", "_law_total"] (sp_l_scoop K C_Form C_Ring C_Element) := by
  obtain ⟨f_, fd_, g_, F_⟩ := T.d_l_scoop
  refine ⟨f_, fd_, g_, F_.kp, F_.binds (ps := ["_law_vat_here", "_law_total"]) (fun _ _ _ _ _ _ us hl => match us, hl with | [_, _], _ => rfl), ?_⟩
  refine F_.ok sc_l_scoop (fun vs H Q E h => ?_) (fun cdv A outer s H vs Q E hr h => ?_)
  · first | (obtain ⟨rfl, _⟩ := h; rfl) | (obtain ⟨_, rfl, _⟩ := h; rfl) | (obtain ⟨_, _, rfl, _⟩ := h; rfl) | (obtain ⟨_, _, _, rfl, _⟩ := h; rfl) | (obtain ⟨_, _, _, _, rfl, _⟩ := h; rfl) | (obtain ⟨_, _, _, _, _, rfl, _⟩ := h; rfl) | (obtain ⟨_, _, _, _, _, _, rfl, _⟩ := h; rfl) | (obtain ⟨_, _, _, _, _, _, _, rfl, _⟩ := h; rfl) | (obtain ⟨_, _, _, _, _, _, _, _, rfl, _⟩ := h; rfl) | (obtain ⟨_, _, _, _, _, _, _, _, _, rfl, _⟩ := h; rfl) | (obtain ⟨_, _, _, _, _, _, _, _, _, _, rfl, _⟩ := h; rfl) | (obtain ⟨_, _, _, _, _, _, _, _, _, _, _, rfl, _⟩ := h; rfl) | (obtain ⟨_, _, _, _, _, _, _, _, _, _, _, _, rfl, _⟩ := h; rfl) | (obtain ⟨_, _, _, _, _, _, _, _, _, _, _, _, _, rfl, _⟩ := h; rfl) | (obtain ⟨_, _, _, _, _, _, _, _, _, _, _, _, _, _, rfl, _⟩ := h; rfl) | (obtain ⟨_, _, _, _, _, _, _, _, _, _, _, _, _, _, _, rfl, _⟩ := h; rfl) | (obtain ⟨_, _, _, _, _, _, _, _, _, _, _, _, _, _, _, _, rfl, _⟩ := h; rfl) | (obtain ⟨_, _, _, _, _, _, _, _, _, _, _, _, _, _, _, _, _, rfl, _⟩ := h; rfl) | (obtain ⟨_, _, _, _, _, _, _, _, _, _, _, _, _, _, _, _, _, _, rfl, _⟩ := h; rfl) | (obtain ⟨_, _, _, _, _, _, _, _, _, _, _, _, _, _, _, _, _, _, _, rfl, _⟩ := h; rfl) | (obtain ⟨_, _, _, _, _, _, _, _, _, _, _, _, _, _, _, _, _, _, _, _, rfl, _⟩ := h; rfl) | (obtain ⟨_, _, _, _, _, _, _, _, _, _, _, _, _, _, _, _, _, _, _, _, _, rfl, _⟩ := h; rfl) | (obtain ⟨_, _, _, _, _, _, _, _, _, _, _, _, _, _, _, _, _, _, _, _, _, _, rfl, _⟩ := h; rfl) | (obtain ⟨_, _, _, _, _, _, _, _, _, _, _, _, _, _, _, _, _, _, _, _, _, _, _, rfl, _⟩ := h; rfl)
  · obtain ⟨c, t, rfl, ⟨x, y, z, hv⟩, h0, h1, q⟩ := h
    refine ⟨_, (pss_cons (ps_if (pt_cmpR op_gt (pe_ix ix_list (pv 0) pe_int (fun _ _ => rfl)) pe_int (nomark _))
      (pss_cons (ps_set (i := 2) sc_l_scoop.nd rfl (.inl rfl) (pe_op op_mod (pe_callTy call_int1 (by rfl) T.b_int (by decide +kernel) (pa_cons (pe_ix ix_list (pv 0) pe_int (fun _ _ => rfl)) pa_nil)) (pv 1)))
    (pss_cons (ps_asg (pe_op op_fdivW (pe_ix ix_list (pv 0) pe_int (fun _ _ => rfl)) (pv 1)) (pg_sub (pv 0) pe_int set_list))
    (pss_one (ps_ret (pv 2)))))
      pss_nil)
    (pss_cons (ps_asg (pe_op op_add (pe_ix ix_list (pv 0) pe_int (fun _ _ => rfl)) pe_int) (pg_sub (pv 0) pe_int set_list))
    (pss_cons (ps_set (i := 3) sc_l_scoop.nd rfl (.inl rfl) (pe_op op_mod (pe_callTy call_int1 (by rfl) T.b_int (by decide +kernel) (pa_cons (pe_op op_add (pe_ix ix_list (pv 0) pe_int (fun _ _ => rfl)) (pe_op op_mul pe_int (pe_ix ix_list (pv 0) pe_int (fun _ _ => rfl)))) pa_nil)) pe_int))
    (pss_cons (ps_set (i := 4) sc_l_scoop.nd rfl (.inl rfl) (pe_op op_mod (pe_callTy call_int1 (by rfl) T.b_int (by decide +kernel) (pa_cons (pe_op op_add (pe_op op_mul (pv 3) (pv 3)) (pe_op op_mul pe_int (pe_ix ix_list (pv 0) pe_int (fun _ _ => rfl)))) pa_nil)) pe_int))
    (pss_one (ps_ret (pe_op op_mod (pe_callTy call_int1 (by rfl) T.b_int (by decide +kernel) (pa_cons (pe_op op_fdivW (pe_callTy call_int1 (by rfl) T.b_int (by decide +kernel) (pa_cons (pe_op op_add (pe_op op_mul (pv 4) pe_int) (pv 3)) pa_nil)) pe_int) pa_nil)) (pv 1)))))))), ?_⟩
    have fv : ∀ (H' : Hp) (x' y' z' : Int), (∀ b o, b ≠ c → H b = some o → H' b = some o) → H' c = some (.lst [.int x', .int y', .int z']) → Fv c H H' := fun H' x' y' z' a b => ⟨⟨x', y', z', b⟩, a⟩
    refine ⟨_, rfl, c, _, 0, .int x, rfl, rfl, SqL.of hv, rfl, x, 0, rfl, rfl, _, rfl, iteD (fun g => ?_) (fun g => ?_)⟩
    · refine ⟨_, rfl, c, _, 0, .int x, rfl, rfl, SqL.of hv, rfl, .inl ⟨x, rfl, _, rfl, x, t, rfl, rfl, h0, ?_⟩⟩
      refine ⟨_, rfl, c, _, 0, .int x, rfl, rfl, SqL.of hv, rfl, _, rfl, x, t, rfl, rfl, dw h0 h1, ?_⟩
      refine ⟨_, rfl, c, _, 0, 0, rfl, rfl, hv, rfl, ?_⟩
      refine ⟨_, rfl, ?_⟩
      exact q _ _ (Int.emod_nonneg _ (by omega)) (Int.emod_lt_of_pos _ h0) (fv _ _ _ _ (fun b o n e => by rw [upd_ne n]; exact e) upd_same)
    · refine ⟨_, rfl, c, _, 2, .int z, rfl, rfl, SqL.of hv, rfl, _, 1, rfl, rfl, ?_⟩
      refine ⟨_, rfl, c, _, 2, 2, rfl, rfl, hv, rfl, ?_⟩
      have hv2 : upd H c (.lst [.int x, .int y, .int (z + 1)]) c = some (.lst [.int x, .int y, .int (z + 1)]) := upd_same
      refine ⟨_, rfl, c, _, 1, .int y, rfl, rfl, SqL.of hv2, rfl, _, rfl, c, _, 2, .int (z + 1), rfl, rfl, SqL.of hv2, rfl, _, _, rfl, rfl, .inl ⟨by decide, by decide⟩, _, _, rfl, rfl, .inl ⟨_, rfl, ?_⟩⟩
      refine ⟨_, _, rfl, rfl, (show (0 : Int) < 4611686018427387701 by decide), ?_⟩
      refine ⟨_, rfl, _, rfl, _, _, rfl, rfl, .inl ⟨by omega, by omega⟩, _, rfl, c, _, 2, .int (z + 1), rfl, rfl, SqL.of hv2, rfl, _, _, rfl, rfl, .inl ⟨by decide, by decide⟩, _, _, rfl, rfl, .inl ⟨_, rfl, ?_⟩⟩
      refine ⟨_, _, rfl, rfl, (show (0 : Int) < 4611686018427387617 by decide), ?_⟩
      refine ⟨_, rfl, _, _, rfl, rfl, .inl ⟨by omega, by omega⟩, _, rfl, _, _, rfl, rfl, .inl ⟨_, rfl, ?_⟩⟩
      refine ⟨_, _, rfl, rfl, dw (by decide) (by decide), .inl ⟨_, rfl, _, rfl, _, _, rfl, rfl, h0, ?_⟩⟩
      exact q _ _ (Int.emod_nonneg _ (by omega)) (Int.emod_lt_of_pos _ h0) (fv _ _ _ _ (fun b o n e => by rw [upd_ne n]; exact e) hv2)
theorem ok_l_from (T : Txt K mg C_Form C_Ring C_Element) : Def P w K mg base 2 "_law_from" ["_law_vat_here", "_law_items"] (sp_l_from K C_Form C_Ring C_Element) := by
  obtain ⟨f_, fd_, g_, F_⟩ := T.d_l_from
  obtain ⟨f_l_scoop, fd_l_scoop, g_l_scoop, k_l_scoop, b_l_scoop, G_l_scoop⟩ := (ok_l_scoop (P := P) (w := w) (base := base) T)
  refine ⟨f_, fd_, g_, F_.kp, F_.binds (ps := ["_law_vat_here", "_law_items"]) (fun _ _ _ _ _ _ us hl => match us, hl with | [_, _], _ => rfl), ?_⟩
  refine F_.ok sc_l_from (fun vs H Q E h => ?_) (fun cdv A outer s H vs Q E hr h => ?_)
  · first | (obtain ⟨rfl, _⟩ := h; rfl) | (obtain ⟨_, rfl, _⟩ := h; rfl) | (obtain ⟨_, _, rfl, _⟩ := h; rfl) | (obtain ⟨_, _, _, rfl, _⟩ := h; rfl) | (obtain ⟨_, _, _, _, rfl, _⟩ := h; rfl) | (obtain ⟨_, _, _, _, _, rfl, _⟩ := h; rfl) | (obtain ⟨_, _, _, _, _, _, rfl, _⟩ := h; rfl) | (obtain ⟨_, _, _, _, _, _, _, rfl, _⟩ := h; rfl) | (obtain ⟨_, _, _, _, _, _, _, _, rfl, _⟩ := h; rfl) | (obtain ⟨_, _, _, _, _, _, _, _, _, rfl, _⟩ := h; rfl) | (obtain ⟨_, _, _, _, _, _, _, _, _, _, rfl, _⟩ := h; rfl) | (obtain ⟨_, _, _, _, _, _, _, _, _, _, _, rfl, _⟩ := h; rfl) | (obtain ⟨_, _, _, _, _, _, _, _, _, _, _, _, rfl, _⟩ := h; rfl) | (obtain ⟨_, _, _, _, _, _, _, _, _, _, _, _, _, rfl, _⟩ := h; rfl) | (obtain ⟨_, _, _, _, _, _, _, _, _, _, _, _, _, _, rfl, _⟩ := h; rfl) | (obtain ⟨_, _, _, _, _, _, _, _, _, _, _, _, _, _, _, rfl, _⟩ := h; rfl) | (obtain ⟨_, _, _, _, _, _, _, _, _, _, _, _, _, _, _, _, rfl, _⟩ := h; rfl) | (obtain ⟨_, _, _, _, _, _, _, _, _, _, _, _, _, _, _, _, _, rfl, _⟩ := h; rfl) | (obtain ⟨_, _, _, _, _, _, _, _, _, _, _, _, _, _, _, _, _, _, rfl, _⟩ := h; rfl) | (obtain ⟨_, _, _, _, _, _, _, _, _, _, _, _, _, _, _, _, _, _, _, rfl, _⟩ := h; rfl) | (obtain ⟨_, _, _, _, _, _, _, _, _, _, _, _, _, _, _, _, _, _, _, _, rfl, _⟩ := h; rfl) | (obtain ⟨_, _, _, _, _, _, _, _, _, _, _, _, _, _, _, _, _, _, _, _, _, rfl, _⟩ := h; rfl) | (obtain ⟨_, _, _, _, _, _, _, _, _, _, _, _, _, _, _, _, _, _, _, _, _, _, rfl, _⟩ := h; rfl) | (obtain ⟨_, _, _, _, _, _, _, _, _, _, _, _, _, _, _, _, _, _, _, _, _, _, _, rfl, _⟩ := h; rfl)
  · obtain ⟨c, l, xs, rfl, hc, hl, ne, hx, hz, q⟩ := h
    refine ⟨_, (pss_one (ps_ret (pe_ix ix_list (pv 1) (pe_call G_l_scoop (hr.mono (by decide)) (by rfl) g_l_scoop k_l_scoop b_l_scoop .nil pass0 (pa_cons (pv 0) (pa_cons (pe_callB call_len_seq (by rfl) T.b_len PySem.boot_len (pa_cons (pv 1) pa_nil)) pa_nil))) (fun _ _ => rfl)))), ?_⟩
    have h0 : 0 < xs.length := List.length_pos_iff.mpr hx
    refine ⟨_, rfl, _, rfl, _, rfl, l, xs, rfl, .inl (SqL.of hl), c, _, rfl, hc, by omega, by omega, fun r H' r0 r1 e => ?_⟩
    obtain ⟨j, rfl⟩ : ∃ j : Nat, r = (j : Int) := ⟨r.toNat, by omega⟩
    have hj : j < xs.length := by omega
    exact ⟨l, xs, _, xs[j], rfl, rfl, SqL.of (e.2 _ _ ne hl), atI_nat (List.getElem?_eq_getElem hj), q _ _ (List.getElem_mem hj) e⟩
theorem ok_l_size (T : Txt K mg C_Form C_Ring C_Element) : Def P w K mg base 2 "_law_size" ["_law_vat_here", "_law_most"] (sp_l_size K C_Form C_Ring C_Element) := by
  obtain ⟨f_, fd_, g_, F_⟩ := T.d_l_size
  obtain ⟨f_l_scoop, fd_l_scoop, g_l_scoop, k_l_scoop, b_l_scoop, G_l_scoop⟩ := (ok_l_scoop (P := P) (w := w) (base := base) T)
  refine ⟨f_, fd_, g_, F_.kp, F_.binds (ps := ["_law_vat_here", "_law_most"]) (fun _ _ _ _ _ _ us hl => match us, hl with | [_, _], _ => rfl), ?_⟩
  refine F_.ok sc_l_size (fun vs H Q E h => ?_) (fun cdv A outer s H vs Q E hr h => ?_)
  · first | (obtain ⟨rfl, _⟩ := h; rfl) | (obtain ⟨_, rfl, _⟩ := h; rfl) | (obtain ⟨_, _, rfl, _⟩ := h; rfl) | (obtain ⟨_, _, _, rfl, _⟩ := h; rfl) | (obtain ⟨_, _, _, _, rfl, _⟩ := h; rfl) | (obtain ⟨_, _, _, _, _, rfl, _⟩ := h; rfl) | (obtain ⟨_, _, _, _, _, _, rfl, _⟩ := h; rfl) | (obtain ⟨_, _, _, _, _, _, _, rfl, _⟩ := h; rfl) | (obtain ⟨_, _, _, _, _, _, _, _, rfl, _⟩ := h; rfl) | (obtain ⟨_, _, _, _, _, _, _, _, _, rfl, _⟩ := h; rfl) | (obtain ⟨_, _, _, _, _, _, _, _, _, _, rfl, _⟩ := h; rfl) | (obtain ⟨_, _, _, _, _, _, _, _, _, _, _, rfl, _⟩ := h; rfl) | (obtain ⟨_, _, _, _, _, _, _, _, _, _, _, _, rfl, _⟩ := h; rfl) | (obtain ⟨_, _, _, _, _, _, _, _, _, _, _, _, _, rfl, _⟩ := h; rfl) | (obtain ⟨_, _, _, _, _, _, _, _, _, _, _, _, _, _, rfl, _⟩ := h; rfl) | (obtain ⟨_, _, _, _, _, _, _, _, _, _, _, _, _, _, _, rfl, _⟩ := h; rfl) | (obtain ⟨_, _, _, _, _, _, _, _, _, _, _, _, _, _, _, _, rfl, _⟩ := h; rfl) | (obtain ⟨_, _, _, _, _, _, _, _, _, _, _, _, _, _, _, _, _, rfl, _⟩ := h; rfl) | (obtain ⟨_, _, _, _, _, _, _, _, _, _, _, _, _, _, _, _, _, _, rfl, _⟩ := h; rfl) | (obtain ⟨_, _, _, _, _, _, _, _, _, _, _, _, _, _, _, _, _, _, _, rfl, _⟩ := h; rfl) | (obtain ⟨_, _, _, _, _, _, _, _, _, _, _, _, _, _, _, _, _, _, _, _, rfl, _⟩ := h; rfl) | (obtain ⟨_, _, _, _, _, _, _, _, _, _, _, _, _, _, _, _, _, _, _, _, _, rfl, _⟩ := h; rfl) | (obtain ⟨_, _, _, _, _, _, _, _, _, _, _, _, _, _, _, _, _, _, _, _, _, _, rfl, _⟩ := h; rfl) | (obtain ⟨_, _, _, _, _, _, _, _, _, _, _, _, _, _, _, _, _, _, _, _, _, _, _, rfl, _⟩ := h; rfl)
  · obtain ⟨c, t, rfl, hc, h0, h1, q⟩ := h
    refine ⟨_, (pss_one (ps_ret (pe_op op_sub (pe_call G_l_scoop (hr.mono (by decide)) (by rfl) g_l_scoop k_l_scoop b_l_scoop .nil pass0 (pa_cons (pv 0) (pa_cons (pe_op op_add (pe_op op_mul pe_int (pv 1)) pe_int) pa_nil))) (pv 1)))), ?_⟩
    refine ⟨_, rfl, _, rfl, _, _, rfl, rfl, .inl ⟨by decide, by decide⟩, _, _, rfl, rfl, c, _, rfl, hc, by omega, by omega, fun r H' r0 r1 e => ?_⟩
    exact ⟨_, rfl, _, _, rfl, rfl, q _ _ (by omega) (by omega) e⟩
end
end RG
namespace RG
open PySem PySem.Spec PyProof.Rows L2 Fr
open K05M (fv fl2 fl3 fdisc)
def Gc (p q r s : Int) (M : Nat) : Prop := p.natAbs ≤ M ∧ q.natAbs ≤ M ∧ r.natAbs ≤ M ∧ s.natAbs ≤ M ∧ (p * s - q * r = 1 ∨ p * s - q * r = -1)
def sp_l_value (_ : PySem.W.Frag) (_ _ _ : Addr) : Sp := fun vs H Q _ => ∃ (t : Addr) (a b c d x y : Int), vs = [.ref t, .int x, .int y] ∧ Ti H t [a, b, c, d] ∧ B4 400 a b c d ∧ B 310 x ∧ B 310 y ∧ ∀ H', Ex0 H H' → Q (.int (fv a b c d x y)) H'
def sp_l_joined (_ : PySem.W.Frag) (_ _ _ : Addr) : Sp := fun vs H Q _ => ∃ (a b : Addr) (p q r s i j k m : Int), vs = [.ref a, .ref b] ∧ T4 H a p q r s ∧ T4 H b i j k m ∧ B4 400 p q r s ∧ B4 400 i j k m ∧ ∀ x H', Ex0 H H' → T4 H' x (i * p + j * r) (i * q + j * s) (k * p + m * r) (k * q + m * s) → Q (.ref x) H'
def sp_l_change (_ : PySem.W.Frag) (_ _ _ : Addr) : Sp := fun vs H Q _ => ∃ (c : Addr) (m : Nat), vs = [.ref c, .int (m : Int)] ∧ Vat c H ∧ m ≤ 4 ∧ ∀ x p q r s H', Fv c H H' → T4 H' x p q r s → Gc p q r s 81 → Q (.ref x) H'
def sp_l_led (_ : PySem.W.Frag) (_ _ _ : Addr) : Sp := fun vs H Q _ => ∃ (t u : Addr) (a b c d p q r s : Int), vs = [.ref t, .ref u] ∧ Ti H t [a, b, c, d] ∧ T4 H u p q r s ∧ B4 400 a b c d ∧ B4 300 p q r s ∧ ∀ x H', Ex0 H H' → Ti H' x (fled a b c d p q r s) → Q (.ref x) H'
def madeR (a b c d : Int) (m : Nat) (x : Int) (n : Nat) : List (Int × Int) := ((List.range n).filter fun (j : Nat) => mk1 a b c d x (0 - (m : Int) + (j : Int))).map fun (j : Nat) => (x, 0 - (m : Int) + (j : Int))
def madeL (a b c d : Int) (m : Nat) (n : Nat) : List (Int × Int) := (List.range n).flatMap fun (i : Nat) => madeR a b c d m (0 - (m : Int) + (i : Int)) (2 * m + 1)
theorem fv_big {a b c d x y : Int} (ba : B 400 a) (bb : B 400 b) (bc : B 400 c) (bd : B 400 d) (bx : B 300 x) (by' : B 300 y) : B 5200 (fv a b c d x y) :=
  B.add (B.add (B.add (B.mul (B.mul (B.mul ba bx) bx) bx) (B.mul (B.mul (B.mul bb bx) bx) by')) (B.mul (B.mul (B.mul bc bx) by') by')) (B.mul (B.mul (B.mul bd by') by') by')
theorem fl_big {a b c d p q r s : Int} (ba : B 400 a) (bb : B 400 b) (bc : B 400 c) (bd : B 400 d) (bp : B 300 p) (bq : B 300 q) (br : B 300 r) (bs : B 300 s) : B 20000 (fl2 a b c d p q r s) ∧ B 20000 (fl3 a b c d p q r s) := by
  have b2 : B 300 2 := ⟨by decide, by decide⟩
  have b3 : B 300 3 := ⟨by decide, by decide⟩
  have m1 : B 1500 (p * s + 2 * q * r) := B.add (B.mul bp bs) (B.mul (B.mul b2 bq) br)
  have m2 : B 1500 (2 * p * s + q * r) := B.add (B.mul (B.mul b2 bp) bs) (B.mul bq br)
  unfold fl2 fl3
  constructor
  · exact (B.add (B.add (B.add (B.mul (B.mul (B.mul (B.mul b3 ba) bp) bp) br) (B.mul (B.mul bb bp) m1)) (B.mul (B.mul bc bq) m2)) (B.mul (B.mul (B.mul (B.mul b3 bd) bq) bq) bs)).mono (by decide)
  · exact (B.add (B.add (B.add (B.mul (B.mul (B.mul (B.mul b3 ba) bp) br) br) (B.mul (B.mul bb br) m2)) (B.mul (B.mul bc bs) m1)) (B.mul (B.mul (B.mul (B.mul b3 bd) bq) bs) bs)).mono (by decide)
theorem fl2_mid (a b c d p q r s : Int) : fv a b c d (p + r) (q + s) - fv a b c d (p - r) (q - s) = 2 * (fl2 a b c d p q r s + fv a b c d r s) := by unfold fv fl2; grind
theorem fl3_mid (a b c d p q r s : Int) : fv a b c d (p + r) (q + s) + fv a b c d (p - r) (q - s) = 2 * (fl3 a b c d p q r s + fv a b c d p q) := by unfold fv fl3; grind
section
variable {P : Program} {w : World} {K : PySem.W.Frag} {mg : Str → Option Value} {base : Heap} {C_Form C_Ring C_Element : Addr}
theorem ok_l_value (T : Txt K mg C_Form C_Ring C_Element) : Def P w K mg base 1 "_law_value" ["_law_numbers", "_law_x", "_law_y"] (sp_l_value K C_Form C_Ring C_Element) := by
  obtain ⟨f_, fd_, g_, F_⟩ := T.d_l_value
  refine ⟨f_, fd_, g_, F_.kp, F_.binds (ps := ["_law_numbers", "_law_x", "_law_y"]) (fun _ _ _ _ _ _ us hl => match us, hl with | [_, _, _], _ => rfl), ?_⟩
  refine F_.ok sc_l_value (fun vs H Q E h => ?_) (fun cdv A outer s H vs Q E hr h => ?_)
  · first | (obtain ⟨rfl, _⟩ := h; rfl) | (obtain ⟨_, rfl, _⟩ := h; rfl) | (obtain ⟨_, _, rfl, _⟩ := h; rfl) | (obtain ⟨_, _, _, rfl, _⟩ := h; rfl) | (obtain ⟨_, _, _, _, rfl, _⟩ := h; rfl) | (obtain ⟨_, _, _, _, _, rfl, _⟩ := h; rfl) | (obtain ⟨_, _, _, _, _, _, rfl, _⟩ := h; rfl) | (obtain ⟨_, _, _, _, _, _, _, rfl, _⟩ := h; rfl) | (obtain ⟨_, _, _, _, _, _, _, _, rfl, _⟩ := h; rfl) | (obtain ⟨_, _, _, _, _, _, _, _, _, rfl, _⟩ := h; rfl) | (obtain ⟨_, _, _, _, _, _, _, _, _, _, rfl, _⟩ := h; rfl) | (obtain ⟨_, _, _, _, _, _, _, _, _, _, _, rfl, _⟩ := h; rfl) | (obtain ⟨_, _, _, _, _, _, _, _, _, _, _, _, rfl, _⟩ := h; rfl) | (obtain ⟨_, _, _, _, _, _, _, _, _, _, _, _, _, rfl, _⟩ := h; rfl) | (obtain ⟨_, _, _, _, _, _, _, _, _, _, _, _, _, _, rfl, _⟩ := h; rfl) | (obtain ⟨_, _, _, _, _, _, _, _, _, _, _, _, _, _, _, rfl, _⟩ := h; rfl) | (obtain ⟨_, _, _, _, _, _, _, _, _, _, _, _, _, _, _, _, rfl, _⟩ := h; rfl) | (obtain ⟨_, _, _, _, _, _, _, _, _, _, _, _, _, _, _, _, _, rfl, _⟩ := h; rfl) | (obtain ⟨_, _, _, _, _, _, _, _, _, _, _, _, _, _, _, _, _, _, rfl, _⟩ := h; rfl) | (obtain ⟨_, _, _, _, _, _, _, _, _, _, _, _, _, _, _, _, _, _, _, rfl, _⟩ := h; rfl) | (obtain ⟨_, _, _, _, _, _, _, _, _, _, _, _, _, _, _, _, _, _, _, _, rfl, _⟩ := h; rfl) | (obtain ⟨_, _, _, _, _, _, _, _, _, _, _, _, _, _, _, _, _, _, _, _, _, rfl, _⟩ := h; rfl) | (obtain ⟨_, _, _, _, _, _, _, _, _, _, _, _, _, _, _, _, _, _, _, _, _, _, rfl, _⟩ := h; rfl) | (obtain ⟨_, _, _, _, _, _, _, _, _, _, _, _, _, _, _, _, _, _, _, _, _, _, _, rfl, _⟩ := h; rfl)
  · obtain ⟨t, a, b, c, d, x, y, rfl, ht, ⟨ba, bb, bc, bd⟩, bx, by', q⟩ := h
    refine ⟨_, (Evl.pss_cut (ps_set (i := 3) sc_l_value.nd rfl (.inl rfl) (pe_lst (pa_cons (pe_op op_mulW (pe_op op_mulW (pv 1) (pv 1)) (pv 1)) (pa_cons (pe_op op_mulW (pe_op op_mulW (pv 1) (pv 1)) (pv 2)) (pa_cons (pe_op op_mulW (pe_op op_mulW (pv 1) (pv 2)) (pv 2)) (pa_cons (pe_op op_mulW (pe_op op_mulW (pv 2) (pv 2)) (pv 2)) pa_nil))))))
    (pss_one (ps_ret (pe_callB (cr_sum rfl) (by rfl) T.b_sum (by decide +kernel) (pa_cons (pe_lc (own := [("_law_number", 4), ("_law_power", 5)]) (g := (gTup K 2 (gCons (gName 4) (gCons (gName 5) gNil)))) rfl sc_l_value.nd (pi_zipK true false (by rfl) T.b_zip (pa_cons (pv 0) (pa_cons (pv 3) pa_nil))) (blkOk_by (N := N_l_value) (sc := defScope s_l_value) (by decide +kernel)) (fun _ _ _ _ _ => (pg_tup (by rfl) (pgs_cons (pg_name (i := 4) sc_l_value.nd rfl (.inl rfl)) (pgs_cons (pg_name (i := 5) sc_l_value.nd rfl (.inl rfl)) pgs_nil)))) (fun _ _ _ _ _ => pts_nil) (fun _ _ _ _ _ => (pe_op op_mulW (pv 4) (pv 5)))) pa_nil))))), ?_⟩
    have b2 : ∀ {u v : Int}, B 310 u → B 310 v → B 620 (u * v) := fun h g => B.mul h g
    have b3 : ∀ {u v z : Int}, B 310 u → B 310 v → B 310 z → B 930 (u * v * z) := fun h g k => B.mul (B.mul h g) k
    refine ⟨fun σ H' => ∃ l : Addr, σ = [some (.ref t), some (.int x), some (.int y), some (.ref l), none, none] ∧ Ex0 H H' ∧ H' l = some (.lst (([x * x * x, x * x * y, x * y * y, y * y * y] : List Int).map V.int)), ?_, ?_⟩
    · refine ⟨_, rfl, _, rfl, _, _, rfl, rfl, mulB bx bx (by decide), _, rfl, _, _, rfl, rfl, mulB (b2 bx bx) bx (by decide), _, rfl, _, rfl, _, _, rfl, rfl, mulB bx bx (by decide), _, rfl, _, _, rfl, rfl, mulB (b2 bx bx) by' (by decide), _, rfl, _, rfl, _, _, rfl, rfl, mulB bx by' (by decide), _, rfl, _, _, rfl, rfl, mulB (b2 bx by') by' (by decide), _, rfl, _, rfl, _, _, rfl, rfl, mulB by' by' (by decide), _, rfl, _, _, rfl, rfl, mulB (b2 by' by') by' (by decide), sl4, fun l nl => ?_⟩
      exact ⟨l, rfl, Ex0.new nl, upd_same⟩
    rintro σ H1 ⟨l, rfl, e1, hl⟩
    refine ⟨_, rfl, _, rfl, t, l, _, _, rfl, SqT.of (Ex0.ti e1 ht), SqL.of hl, ?_⟩
    refine lcP (walk_zipK (K := K) (k1 := true) (k2 := false) (xs := ([a, b, c, d] : List Int).map V.int) (ys := ([x * x * x, x * x * y, x * y * y, y * y * y] : List Int).map V.int) rfl) fm0 trivial (fun H' e => ⟨SqT.of (Ex0.ti e (Ex0.ti e1 ht)), SqL.of (Ex0.ap e hl)⟩) (fun i acc _ => acc = (([a * (x * x * x), b * (x * x * y), c * (x * y * y), d * (y * y * y)] : List Int).take i).map V.int) (fun _ _ => rfl) (fun D i T x1 y1 acc H' hD hi fx fy e3 hA hlen hp hT => ?_) (fun D H' acc hD e3 hA hp => ?_)
    · obtain ⟨rfl, hi1⟩ := get_D fx
      obtain ⟨rfl, hi2⟩ := get_D fy
      have bz1 : B 400 (([a, b, c, d] : List Int).getD i 0) := by
        match i, hi1 with
        | 0, _ => exact ba
        | 1, _ => exact bb
        | 2, _ => exact bc
        | 3, _ => exact bd
      have bz2 : B 930 (([x * x * x, x * x * y, x * y * y, y * y * y] : List Int).getD i 0) := by
        match i, hi2 with
        | 0, _ => exact b3 bx bx bx
        | 1, _ => exact b3 bx bx by'
        | 2, _ => exact b3 bx by' by'
        | 3, _ => exact b3 by' by' by'
      refine ⟨T, _, rfl, SqT.of upd_same, rfl, _, _, rfl, _, _, rfl, rfl, ⟨rfl, ?_⟩⟩
      refine ⟨_, rfl, _, rfl, _, _, rfl, rfl, mulB bz1 bz2 (by decide), ?_⟩
      refine cs_yes fm0 trivial hD e3 hA hlen (by have : i < 4 := hi1; omega) (Ex0.new hT) ?_
      rw [hp]
      match i, hi1 with
      | 0, _ => rfl
      | 1, _ => rfl
      | 2, _ => rfl
      | 3, _ => rfl
    · refine ⟨D, [a * (x * x * x), b * (x * x * y), c * (x * y * y), d * (y * y * y)], rfl, SqL.of (by rw [hA, hp]; rfl), ?_⟩
      have ev : ([a * (x * x * x), b * (x * x * y), c * (x * y * y), d * (y * y * y)] : List Int).sum = fv a b c d x y := by
        simp only [List.sum_cons, List.sum_nil]
        unfold fv
        grind
      rw [ev]
      exact q _ (e1.trans e3)
theorem ok_l_joined (T : Txt K mg C_Form C_Ring C_Element) : Def P w K mg base 1 "_law_joined" ["_law_one", "_law_other"] (sp_l_joined K C_Form C_Ring C_Element) := by
  obtain ⟨f_, fd_, g_, F_⟩ := T.d_l_joined
  refine ⟨f_, fd_, g_, F_.kp, F_.binds (ps := ["_law_one", "_law_other"]) (fun _ _ _ _ _ _ us hl => match us, hl with | [_, _], _ => rfl), ?_⟩
  refine F_.ok sc_l_joined (fun vs H Q E h => ?_) (fun cdv A outer s H vs Q E hr h => ?_)
  · first | (obtain ⟨rfl, _⟩ := h; rfl) | (obtain ⟨_, rfl, _⟩ := h; rfl) | (obtain ⟨_, _, rfl, _⟩ := h; rfl) | (obtain ⟨_, _, _, rfl, _⟩ := h; rfl) | (obtain ⟨_, _, _, _, rfl, _⟩ := h; rfl) | (obtain ⟨_, _, _, _, _, rfl, _⟩ := h; rfl) | (obtain ⟨_, _, _, _, _, _, rfl, _⟩ := h; rfl) | (obtain ⟨_, _, _, _, _, _, _, rfl, _⟩ := h; rfl) | (obtain ⟨_, _, _, _, _, _, _, _, rfl, _⟩ := h; rfl) | (obtain ⟨_, _, _, _, _, _, _, _, _, rfl, _⟩ := h; rfl) | (obtain ⟨_, _, _, _, _, _, _, _, _, _, rfl, _⟩ := h; rfl) | (obtain ⟨_, _, _, _, _, _, _, _, _, _, _, rfl, _⟩ := h; rfl) | (obtain ⟨_, _, _, _, _, _, _, _, _, _, _, _, rfl, _⟩ := h; rfl) | (obtain ⟨_, _, _, _, _, _, _, _, _, _, _, _, _, rfl, _⟩ := h; rfl) | (obtain ⟨_, _, _, _, _, _, _, _, _, _, _, _, _, _, rfl, _⟩ := h; rfl) | (obtain ⟨_, _, _, _, _, _, _, _, _, _, _, _, _, _, _, rfl, _⟩ := h; rfl) | (obtain ⟨_, _, _, _, _, _, _, _, _, _, _, _, _, _, _, _, rfl, _⟩ := h; rfl) | (obtain ⟨_, _, _, _, _, _, _, _, _, _, _, _, _, _, _, _, _, rfl, _⟩ := h; rfl) | (obtain ⟨_, _, _, _, _, _, _, _, _, _, _, _, _, _, _, _, _, _, rfl, _⟩ := h; rfl) | (obtain ⟨_, _, _, _, _, _, _, _, _, _, _, _, _, _, _, _, _, _, _, rfl, _⟩ := h; rfl) | (obtain ⟨_, _, _, _, _, _, _, _, _, _, _, _, _, _, _, _, _, _, _, _, rfl, _⟩ := h; rfl) | (obtain ⟨_, _, _, _, _, _, _, _, _, _, _, _, _, _, _, _, _, _, _, _, _, rfl, _⟩ := h; rfl) | (obtain ⟨_, _, _, _, _, _, _, _, _, _, _, _, _, _, _, _, _, _, _, _, _, _, rfl, _⟩ := h; rfl) | (obtain ⟨_, _, _, _, _, _, _, _, _, _, _, _, _, _, _, _, _, _, _, _, _, _, _, rfl, _⟩ := h; rfl)
  · obtain ⟨a, b, p, q', r, s', i, j, k, m, rfl, h4, h4', ⟨bp, bq, br, bs⟩, ⟨bi, bj, bk, bm⟩, q⟩ := h
    refine ⟨_, (pss_cons (ps_set (i := 2) sc_l_joined.nd rfl (.inl rfl) (pe_lst pa_nil))
    (pss_cons (ps_for PassesOwn.never rfl (pi_tup (pv 1)) (pg_name (i := 3) sc_l_joined.nd rfl (.inl rfl))
      (pss_one (ps_expr (pe_bm PySem.F.plainAttrs_list PySem.F.slot_list_append PySem.F.type_list_append mt_append (pv 2) (pa_cons (pe_tup (pa_cons (pe_op op_add (pe_op op_mulW (pe_ix ix_tup (pv 3) pe_int (fun _ _ => rfl)) (pe_ix ix_tup (pe_ix ix_tup (pv 0) pe_int (fun _ _ => rfl)) pe_int (fun _ _ => rfl))) (pe_op op_mulW (pe_ix ix_tup (pv 3) pe_int (fun _ _ => rfl)) (pe_ix ix_tup (pe_ix ix_tup (pv 0) pe_int (fun _ _ => rfl)) pe_int (fun _ _ => rfl)))) (pa_cons (pe_op op_add (pe_op op_mulW (pe_ix ix_tup (pv 3) pe_int (fun _ _ => rfl)) (pe_ix ix_tup (pe_ix ix_tup (pv 0) pe_int (fun _ _ => rfl)) pe_int (fun _ _ => rfl))) (pe_op op_mulW (pe_ix ix_tup (pv 3) pe_int (fun _ _ => rfl)) (pe_ix ix_tup (pe_ix ix_tup (pv 0) pe_int (fun _ _ => rfl)) pe_int (fun _ _ => rfl)))) pa_nil))) pa_nil)))))
    (pss_one (ps_ret (pe_tup (pa_cons (pe_ix ix_list (pv 2) pe_int (fun _ _ => rfl)) (pa_cons (pe_ix ix_list (pv 2) pe_int (fun _ _ => rfl)) pa_nil))))))), ?_⟩
    obtain ⟨u1, u2, hb0, hb1, hb2⟩ := h4'
    obtain ⟨t1, t2, ha0, ha1, ha2⟩ := h4
    refine ⟨Nat.zero_le _, fun l nl => ?_⟩
    have e0 := Ex0.new (o := .lst []) nl
    refine ⟨_, rfl, b, rfl, ⟨_, SqT.of (Ex0.ap e0 hb0)⟩, for_tup (xs := [.ref u1, .ref u2]) (fun n σ H' => ∃ (y3 : Option V), σ = [some (.ref a), some (.ref b), some (.ref l), y3] ∧ Ex0 H H' ∧ ((n = 0 ∧ H' l = some (.lst [])) ∨ (n = 1 ∧ ∃ z1 : Addr, H' l = some (.lst [.ref z1]) ∧ H' z1 = some (.tup [.int (i * p + j * r), .int (i * q' + j * s')])) ∨ (n = 2 ∧ ∃ z1 z2 : Addr, H' l = some (.lst [.ref z1, .ref z2]) ∧ H' z1 = some (.tup [.int (i * p + j * r), .int (i * q' + j * s')]) ∧ H' z2 = some (.tup [.int (k * p + m * r), .int (k * q' + m * s')])))) ⟨none, rfl, e0, .inl ⟨rfl, upd_same⟩⟩ (fun n σ H' _ ⟨_, _, e, _⟩ => SqT.of (Ex0.ap e hb0)) ?_ ?_⟩
    · rintro n x σ H2 hx ⟨y3, rfl, e2, hl2⟩
      have hlist : ∃ xs, H2 l = some (.lst xs) ∧ xs.length ≤ 2 := by
        rcases hl2 with ⟨_, h⟩ | ⟨_, z1, h, _⟩ | ⟨_, z1, z2, h, _⟩
        · exact ⟨_, h, by show 0 ≤ 2; decide⟩
        · exact ⟨_, h, by show 1 ≤ 2; decide⟩
        · exact ⟨_, h, by show 2 ≤ 2; decide⟩
      obtain ⟨xs, hxs, lxs⟩ := hlist
      have q0 := SqT.of (K := K) (Ex0.ap e2 ha0)
      have q1 := SqT.of (K := K) (Ex0.ap e2 ha1)
      have q2 := SqT.of (K := K) (Ex0.ap e2 ha2)
      obtain ⟨u, c, d, rfl, hu, bc, bd, hcd⟩ : ∃ (u : Addr) (c d : Int), x = .ref u ∧ H2 u = some (.tup [.int c, .int d]) ∧ B 400 c ∧ B 400 d ∧ ((n = 0 ∧ c = i ∧ d = j) ∨ (n = 1 ∧ c = k ∧ d = m)) := by
        match n, hx with
        | 0, hx => exact ⟨u1, i, j, (Option.some.inj hx).symm, Ex0.ap e2 hb1, bi, bj, .inl ⟨rfl, rfl, rfl⟩⟩
        | 1, hx => exact ⟨u2, k, m, (Option.some.inj hx).symm, Ex0.ap e2 hb2, bk, bm, .inr ⟨rfl, rfl, rfl⟩⟩
      have qu := SqT.of (K := K) hu
      refine ⟨_, rfl, .inl ⟨rfl, _, SqL.of hxs⟩, ?_⟩
      refine ⟨_, rfl, u, _, 0, .int c, rfl, rfl, qu, rfl, _, rfl, a, _, 0, .ref t1, rfl, rfl, q0, rfl, t1, _, 0, .int p, rfl, rfl, q1, rfl, _, _, rfl, rfl, mulB bc bp (by decide), _, rfl, u, _, 1, .int d, rfl, rfl, qu, rfl, _, rfl, a, _, 1, .ref t2, rfl, rfl, q0, rfl, t2, _, 0, .int r, rfl, rfl, q2, rfl, _, _, rfl, rfl, mulB bd br (by decide), _, _, rfl, rfl, ?_⟩
      refine ⟨_, rfl, u, _, 0, .int c, rfl, rfl, qu, rfl, _, rfl, a, _, 0, .ref t1, rfl, rfl, q0, rfl, t1, _, 1, .int q', rfl, rfl, q1, rfl, _, _, rfl, rfl, mulB bc bq (by decide), _, rfl, u, _, 1, .int d, rfl, rfl, qu, rfl, _, rfl, a, _, 1, .ref t2, rfl, rfl, q0, rfl, t2, _, 1, .int s', rfl, rfl, q2, rfl, _, _, rfl, rfl, mulB bd bs (by decide), _, _, rfl, rfl, sl2, fun z nz => ?_⟩
      have ez := Ex0.new (o := .tup [.int (c * p + d * r), .int (c * q' + d * s')]) nz
      have hz : upd H2 z (.tup [.int (c * p + d * r), .int (c * q' + d * s')]) z = some (.tup [.int (c * p + d * r), .int (c * q' + d * s')]) := upd_same
      have hxs2 := Ex0.ap ez hxs
      refine ⟨l, xs, _, rfl, rfl, hxs2, Nat.lt_of_le_of_lt lxs (by decide), ?_⟩
      have up : ∀ b zs, upd H2 z (.tup [.int (c * p + d * r), .int (c * q' + d * s')]) b = some (.tup zs) → upd (upd H2 z (.tup [.int (c * p + d * r), .int (c * q' + d * s')])) l (.lst (xs ++ [.ref z])) b = some (.tup zs) := fun b zs h => by
        rw [upd_ne (ne_of h hxs2 (by intro z; cases z))]
        exact h
      refine ⟨_, rfl, Fx.mut fm0 (e2.trans ez) trivial nl, ?_⟩
      rcases hcd with ⟨rfl, rfl, rfl⟩ | ⟨rfl, rfl, rfl⟩
      · rcases hl2 with ⟨_, h⟩ | ⟨h, _⟩ | ⟨h, _⟩
        · obtain rfl : xs = [] := by
            rw [hxs] at h
            injection h with h
            injection h
          exact .inr (.inl ⟨rfl, z, upd_same, up _ _ hz⟩)
        · cases h
        · cases h
      · rcases hl2 with ⟨h, _⟩ | ⟨_, z1, h, h1⟩ | ⟨h, _⟩
        · cases h
        · obtain rfl : xs = [.ref z1] := by
            rw [hxs] at h
            injection h with h
            injection h
          exact .inr (.inr ⟨rfl, z1, z, upd_same, up _ _ (Ex0.ap ez h1), up _ _ hz⟩)
        · cases h
    · rintro σ H2 ⟨y3, rfl, e2, hl2⟩
      rcases hl2 with ⟨h, _⟩ | ⟨h, _⟩ | ⟨_, z1, z2, h, h1, h2⟩
      · cases h
      · cases h
      · refine ⟨_, rfl, l, _, 0, .ref z1, rfl, rfl, SqL.of h, rfl, _, rfl, l, _, 1, .ref z2, rfl, rfl, SqL.of h, rfl, sl2, fun x nx => ?_⟩
        have ex := Ex0.new (o := .tup [.ref z1, .ref z2]) nx
        exact q x _ (e2.trans ex) ⟨z1, z2, upd_same, Ex0.ap ex h1, Ex0.ap ex h2⟩
theorem ok_l_led (T : Txt K mg C_Form C_Ring C_Element) : Def P w K mg base 2 "_law_led" ["_law_numbers", "_law_change_here"] (sp_l_led K C_Form C_Ring C_Element) := by
  obtain ⟨f_, fd_, g_, F_⟩ := T.d_l_led
  obtain ⟨f_l_value, fd_l_value, g_l_value, k_l_value, b_l_value, G_l_value⟩ := (ok_l_value (P := P) (w := w) (base := base) T)
  refine ⟨f_, fd_, g_, F_.kp, F_.binds (ps := ["_law_numbers", "_law_change_here"]) (fun _ _ _ _ _ _ us hl => match us, hl with | [_, _], _ => rfl), ?_⟩
  refine F_.ok sc_l_led (fun vs H Q E h => ?_) (fun cdv A outer s H vs Q E hr h => ?_)
  · first | (obtain ⟨rfl, _⟩ := h; rfl) | (obtain ⟨_, rfl, _⟩ := h; rfl) | (obtain ⟨_, _, rfl, _⟩ := h; rfl) | (obtain ⟨_, _, _, rfl, _⟩ := h; rfl) | (obtain ⟨_, _, _, _, rfl, _⟩ := h; rfl) | (obtain ⟨_, _, _, _, _, rfl, _⟩ := h; rfl) | (obtain ⟨_, _, _, _, _, _, rfl, _⟩ := h; rfl) | (obtain ⟨_, _, _, _, _, _, _, rfl, _⟩ := h; rfl) | (obtain ⟨_, _, _, _, _, _, _, _, rfl, _⟩ := h; rfl) | (obtain ⟨_, _, _, _, _, _, _, _, _, rfl, _⟩ := h; rfl) | (obtain ⟨_, _, _, _, _, _, _, _, _, _, rfl, _⟩ := h; rfl) | (obtain ⟨_, _, _, _, _, _, _, _, _, _, _, rfl, _⟩ := h; rfl) | (obtain ⟨_, _, _, _, _, _, _, _, _, _, _, _, rfl, _⟩ := h; rfl) | (obtain ⟨_, _, _, _, _, _, _, _, _, _, _, _, _, rfl, _⟩ := h; rfl) | (obtain ⟨_, _, _, _, _, _, _, _, _, _, _, _, _, _, rfl, _⟩ := h; rfl) | (obtain ⟨_, _, _, _, _, _, _, _, _, _, _, _, _, _, _, rfl, _⟩ := h; rfl) | (obtain ⟨_, _, _, _, _, _, _, _, _, _, _, _, _, _, _, _, rfl, _⟩ := h; rfl) | (obtain ⟨_, _, _, _, _, _, _, _, _, _, _, _, _, _, _, _, _, rfl, _⟩ := h; rfl) | (obtain ⟨_, _, _, _, _, _, _, _, _, _, _, _, _, _, _, _, _, _, rfl, _⟩ := h; rfl) | (obtain ⟨_, _, _, _, _, _, _, _, _, _, _, _, _, _, _, _, _, _, _, rfl, _⟩ := h; rfl) | (obtain ⟨_, _, _, _, _, _, _, _, _, _, _, _, _, _, _, _, _, _, _, _, rfl, _⟩ := h; rfl) | (obtain ⟨_, _, _, _, _, _, _, _, _, _, _, _, _, _, _, _, _, _, _, _, _, rfl, _⟩ := h; rfl) | (obtain ⟨_, _, _, _, _, _, _, _, _, _, _, _, _, _, _, _, _, _, _, _, _, _, rfl, _⟩ := h; rfl) | (obtain ⟨_, _, _, _, _, _, _, _, _, _, _, _, _, _, _, _, _, _, _, _, _, _, _, rfl, _⟩ := h; rfl)
  · obtain ⟨t, u, a, b, c, d, p, q', r, s', rfl, ht, hu, ⟨ba, bb, bc, bd⟩, ⟨bp, bq, br, bs⟩, q⟩ := h
    refine ⟨_, (pss_cons (ps_asg (pv 1) (pg_tup (by rfl) (pgs_cons (pg_tup (by rfl) (pgs_cons (pg_name (i := 2) sc_l_led.nd rfl (.inl rfl)) (pgs_cons (pg_name (i := 3) sc_l_led.nd rfl (.inl rfl)) pgs_nil))) (pgs_cons (pg_tup (by rfl) (pgs_cons (pg_name (i := 4) sc_l_led.nd rfl (.inl rfl)) (pgs_cons (pg_name (i := 5) sc_l_led.nd rfl (.inl rfl)) pgs_nil))) pgs_nil))))
    (pss_cons (ps_set (i := 6) sc_l_led.nd rfl (.inl rfl) (pe_op op_sub (pe_op op_mulW (pv 2) (pv 5)) (pe_op op_mulW (pv 3) (pv 4))))
    (Evl.pss_cut (ps_par (i := 7) (j := 8) (by rfl) sc_l_led.nd rfl rfl (by decide) rfl rfl (pa_cons (pe_call G_l_value (hr.mono (by decide)) (by rfl) g_l_value k_l_value b_l_value .nil pass0 (pa_cons (pv 0) (pa_cons (pv 2) (pa_cons (pv 3) pa_nil)))) (pa_cons (pe_call G_l_value (hr.mono (by decide)) (by rfl) g_l_value k_l_value b_l_value .nil pass0 (pa_cons (pv 0) (pa_cons (pv 4) (pa_cons (pv 5) pa_nil)))) pa_nil)) (by rfl))
    (Evl.pss_cut (ps_par (i := 9) (j := 10) (by rfl) sc_l_led.nd rfl rfl (by decide) rfl rfl (pa_cons (pe_call G_l_value (hr.mono (by decide)) (by rfl) g_l_value k_l_value b_l_value .nil pass0 (pa_cons (pv 0) (pa_cons (pe_op op_add (pv 2) (pv 4)) (pa_cons (pe_op op_add (pv 3) (pv 5)) pa_nil)))) (pa_cons (pe_call G_l_value (hr.mono (by decide)) (by rfl) g_l_value k_l_value b_l_value .nil pass0 (pa_cons (pv 0) (pa_cons (pe_op op_sub (pv 2) (pv 4)) (pa_cons (pe_op op_sub (pv 3) (pv 5)) pa_nil)))) pa_nil)) (by rfl))
    (Evl.pss_cut (ps_par (i := 11) (j := 12) (by rfl) sc_l_led.nd rfl rfl (by decide) rfl rfl (pa_cons (pe_op op_sub (pe_op op_fdivW (pe_op op_sub (pv 9) (pv 10)) pe_int) (pv 8)) (pa_cons (pe_op op_sub (pe_op op_fdivW (pe_op op_add (pv 9) (pv 10)) pe_int) (pv 7)) pa_nil)) (by rfl))
    (pss_one (ps_ret (pe_callTy call_tuple_of (by rfl) T.b_tuple (by decide +kernel) (pa_cons (pe_lst (pa_cons (pe_op op_mulW (pv 6) (pv 7)) (pa_cons (pe_op op_mulW (pv 6) (pv 11)) (pa_cons (pe_op op_mulW (pv 6) (pv 12)) (pa_cons (pe_op op_mulW (pv 6) (pv 8)) pa_nil))))) pa_nil))))))))), ?_⟩
    refine ⟨_, rfl, un4 hu ?_⟩
    have p1 : ∀ {n : Int}, B 300 n → B 310 n := fun h => h.mono (by decide)
    have be : B 1200 (p * s' - q' * r) := B.sub (B.mul bp bs) (B.mul bq br)
    have f1 := fv_big ba bb bc bd bp bq
    have f4 := fv_big ba bb bc bd br bs
    have f2 := (fl_big ba bb bc bd bp bq br bs).1
    have f3 := (fl_big ba bb bc bd bp bq br bs).2
    have a1 : B 310 (p + r) := ⟨by have := bp.1; have := br.1; omega, by decide⟩
    have a2 : B 310 (q' + s') := ⟨by have := bq.1; have := bs.1; omega, by decide⟩
    have a3 : B 310 (p - r) := ⟨by have := bp.1; have := br.1; omega, by decide⟩
    have a4 : B 310 (q' - s') := ⟨by have := bq.1; have := bs.1; omega, by decide⟩
    have t3 : (fv a b c d (p + r) (q' + s') + fv a b c d (p - r) (q' - s')) / 2 - fv a b c d p q' = fl3 a b c d p q' r s' := by
      rw [fl3_mid, Int.mul_ediv_cancel_left _ (by decide)]
      omega
    have t2 : (fv a b c d (p + r) (q' + s') - fv a b c d (p - r) (q' - s')) / 2 - fv a b c d r s' = fl2 a b c d p q' r s' := by
      rw [fl2_mid, Int.mul_ediv_cancel_left _ (by decide)]
      omega
    refine ⟨_, rfl, _, rfl, _, _, rfl, rfl, mulB bp bs (by decide), _, rfl, _, rfl, _, _, rfl, rfl, mulB bq br (by decide), _, _, rfl, rfl, ?_⟩
    refine ⟨fun σ H' => σ = [some (.ref t), some (.ref u), some (.int p), some (.int q'), some (.int r), some (.int s'), some (.int (p * s' - q' * r)), some (.int (fv a b c d p q')), some (.int (fv a b c d r s')), none, none, none, none] ∧ Ex0 H H', ?_, ?_⟩
    · refine ⟨_, rfl, _, rfl, _, rfl, t, a, b, c, d, p, q', rfl, ht, ⟨ba, bb, bc, bd⟩, p1 bp, p1 bq, fun H1 e1 => ?_⟩
      refine ⟨_, rfl, _, rfl, _, rfl, t, a, b, c, d, r, s', rfl, Ex0.ti e1 ht, ⟨ba, bb, bc, bd⟩, p1 br, p1 bs, fun H2 e2 => ?_⟩
      exact ⟨_, _, rfl, rfl, e1.trans e2⟩
    rintro σ H1 ⟨rfl, e1⟩
    refine ⟨fun σ H' => σ = [some (.ref t), some (.ref u), some (.int p), some (.int q'), some (.int r), some (.int s'), some (.int (p * s' - q' * r)), some (.int (fv a b c d p q')), some (.int (fv a b c d r s')), some (.int (fv a b c d (p + r) (q' + s'))), some (.int (fv a b c d (p - r) (q' - s'))), none, none] ∧ Ex0 H H', ?_, ?_⟩
    · have ht1 := Ex0.ti e1 ht
      refine ⟨_, rfl, _, rfl, _, rfl, _, _, rfl, rfl, _, rfl, _, rfl, _, _, rfl, rfl, t, a, b, c, d, _, _, rfl, ht1, ⟨ba, bb, bc, bd⟩, a1, a2, fun H2 e2 => ?_⟩
      refine ⟨_, rfl, _, rfl, _, rfl, _, _, rfl, rfl, _, rfl, _, rfl, _, _, rfl, rfl, t, a, b, c, d, _, _, rfl, Ex0.ti e2 ht1, ⟨ba, bb, bc, bd⟩, a3, a4, fun H3 e3 => ?_⟩
      exact ⟨_, _, rfl, rfl, (e1.trans e2).trans e3⟩
    rintro σ H2 ⟨rfl, e2⟩
    refine ⟨fun σ H' => σ = [some (.ref t), some (.ref u), some (.int p), some (.int q'), some (.int r), some (.int s'), some (.int (p * s' - q' * r)), some (.int (fv a b c d p q')), some (.int (fv a b c d r s')), some (.int (fv a b c d (p + r) (q' + s'))), some (.int (fv a b c d (p - r) (q' - s'))), some (.int (fl2 a b c d p q' r s')), some (.int (fl3 a b c d p q' r s'))] ∧ Ex0 H H', ?_, ?_⟩
    · refine ⟨_, rfl, _, rfl, _, _, rfl, rfl, _, _, rfl, rfl, dw (by decide) (by decide), _, rfl, _, _, rfl, rfl, ?_⟩
      refine ⟨_, rfl, _, rfl, _, _, rfl, rfl, _, _, rfl, rfl, dw (by decide) (by decide), _, rfl, _, _, rfl, rfl, ?_⟩
      refine ⟨_, _, rfl, ?_, e2⟩
      rw [← t2, ← t3]
      rfl
    rintro σ H3 ⟨rfl, e3⟩
    refine ⟨_, rfl, _, rfl, _, _, rfl, rfl, mulB be f1 (by decide), _, rfl, _, rfl, _, _, rfl, rfl, mulB be f2 (by decide), _, rfl, _, rfl, _, _, rfl, rfl, mulB be f3 (by decide), _, rfl, _, rfl, _, _, rfl, rfl, mulB be f4 (by decide), sl4, fun x nx => ?_⟩
    refine ⟨x, _, rfl, .inl ⟨SqL.of upd_same, fun x2 nx2 => ?_⟩⟩
    exact q x2 _ ((e3.trans (Ex0.new nx)).trans (Ex0.new nx2)) upd_same
end
end RG
namespace RG
open PySem PySem.Spec PyProof.Rows L2 Fr
open K05M (fv fl2 fl3 fdisc)
def Pk (i j k m : Int) : Prop := (i = 0 ∧ j = 1 ∧ k = 1 ∧ m = 0) ∨ (i = 0 ∧ j = 1 ∧ k = -1 ∧ m = 0) ∨ (i = 1 ∧ j = 0 ∧ k = 0 ∧ m = -1) ∨ (i = 1 ∧ j = 1 ∧ k = 0 ∧ m = 1) ∨ (i = 1 ∧ j = 0 ∧ k = -2 ∧ m = 1) ∨ (i = 2 ∧ j = 1 ∧ k = 1 ∧ m = 1)
theorem Pk.b {i j k m : Int} (h : Pk i j k m) : B4 400 i j k m := by
  have b : ∀ {z : Int}, z.natAbs ≤ 2 → B 400 z := fun h => ⟨Nat.lt_of_le_of_lt h (by decide), by decide⟩
  rcases h with ⟨rfl, rfl, rfl, rfl⟩ | ⟨rfl, rfl, rfl, rfl⟩ | ⟨rfl, rfl, rfl, rfl⟩ | ⟨rfl, rfl, rfl, rfl⟩ | ⟨rfl, rfl, rfl, rfl⟩ | ⟨rfl, rfl, rfl, rfl⟩ <;> exact ⟨b (by decide), b (by decide), b (by decide), b (by decide)⟩
theorem Gc.step {M : Nat} {p q r s i j k m : Int} (h : Gc p q r s M) (g : Pk i j k m) : Gc (i * p + j * r) (i * q + j * s) (k * p + m * r) (k * q + m * s) (3 * M) := by
  obtain ⟨a, b, c, d, e⟩ := h
  have det : (i * p + j * r) * (k * q + m * s) - (i * q + j * s) * (k * p + m * r) = (i * m - j * k) * (p * s - q * r) := by grind
  have dd : (i * m - j * k = 1 ∨ i * m - j * k = -1) → ((i * p + j * r) * (k * q + m * s) - (i * q + j * s) * (k * p + m * r) = 1 ∨ (i * p + j * r) * (k * q + m * s) - (i * q + j * s) * (k * p + m * r) = -1) := fun hv => by
    rw [det]
    rcases hv with h | h <;> rcases e with e | e <;> rw [h, e] <;> decide
  rcases g with ⟨rfl, rfl, rfl, rfl⟩ | ⟨rfl, rfl, rfl, rfl⟩ | ⟨rfl, rfl, rfl, rfl⟩ | ⟨rfl, rfl, rfl, rfl⟩ | ⟨rfl, rfl, rfl, rfl⟩ | ⟨rfl, rfl, rfl, rfl⟩ <;> refine ⟨?_, ?_, ?_, ?_, dd (by decide)⟩ <;> omega
theorem Gc.b {M : Nat} {p q r s : Int} (h : Gc p q r s M) (hm : M ≤ 100000) : B4 300 p q r s := by
  obtain ⟨a, b, c, d, _⟩ := h
  have sm : ∀ {n : Int}, n.natAbs ≤ M → B 300 n := fun h => ⟨Nat.lt_of_le_of_lt (Nat.le_trans h hm) (by decide), by decide⟩
  exact ⟨sm a, sm b, sm c, sm d⟩
theorem Gc.mono {M N : Nat} {p q r s : Int} (h : Gc p q r s M) (hm : M ≤ N) : Gc p q r s N := by
  obtain ⟨a, b, c, d, e⟩ := h
  exact ⟨Nat.le_trans a hm, Nat.le_trans b hm, Nat.le_trans c hm, Nat.le_trans d hm, e⟩
def Steps (H : Hp) (vs : List V) : Prop := ∀ v ∈ vs, ∃ x i j k m, v = .ref x ∧ T4 H x i j k m ∧ Pk i j k m
theorem Steps.ex {H H' : Hp} {vs : List V} (h : Steps H vs) (e : ∀ b xs, H b = some (.tup xs) → H' b = some (.tup xs)) : Steps H' vs := fun v hv => by
  obtain ⟨x, i, j, k, m, h1, h2, h3⟩ := h v hv
  exact ⟨x, i, j, k, m, h1, h2.ex e, h3⟩
section
variable {P : Program} {w : World} {K : PySem.W.Frag} {mg : Str → Option Value} {base : Heap} {C_Form C_Ring C_Element : Addr}
theorem ok_l_change (T : Txt K mg C_Form C_Ring C_Element) : Def P w K mg base 3 "_law_change" ["_law_vat_here", "_law_many"] (sp_l_change K C_Form C_Ring C_Element) := by
  obtain ⟨f_, fd_, g_, F_⟩ := T.d_l_change
  obtain ⟨f_l_from, fd_l_from, g_l_from, k_l_from, b_l_from, G_l_from⟩ := (ok_l_from (P := P) (w := w) (base := base) T)
  obtain ⟨f_l_joined, fd_l_joined, g_l_joined, k_l_joined, b_l_joined, G_l_joined⟩ := (ok_l_joined (P := P) (w := w) (base := base) T)
  obtain ⟨f_l_scoop, fd_l_scoop, g_l_scoop, k_l_scoop, b_l_scoop, G_l_scoop⟩ := (ok_l_scoop (P := P) (w := w) (base := base) T)
  refine ⟨f_, fd_, g_, F_.kp, F_.binds (ps := ["_law_vat_here", "_law_many"]) (fun _ _ _ _ _ _ us hl => match us, hl with | [_, _], _ => rfl), ?_⟩
  refine F_.ok sc_l_change (fun vs H Q E h => ?_) (fun cdv A outer s H vs Q E hr h => ?_)
  · first | (obtain ⟨rfl, _⟩ := h; rfl) | (obtain ⟨_, rfl, _⟩ := h; rfl) | (obtain ⟨_, _, rfl, _⟩ := h; rfl) | (obtain ⟨_, _, _, rfl, _⟩ := h; rfl) | (obtain ⟨_, _, _, _, rfl, _⟩ := h; rfl) | (obtain ⟨_, _, _, _, _, rfl, _⟩ := h; rfl) | (obtain ⟨_, _, _, _, _, _, rfl, _⟩ := h; rfl) | (obtain ⟨_, _, _, _, _, _, _, rfl, _⟩ := h; rfl) | (obtain ⟨_, _, _, _, _, _, _, _, rfl, _⟩ := h; rfl) | (obtain ⟨_, _, _, _, _, _, _, _, _, rfl, _⟩ := h; rfl) | (obtain ⟨_, _, _, _, _, _, _, _, _, _, rfl, _⟩ := h; rfl) | (obtain ⟨_, _, _, _, _, _, _, _, _, _, _, rfl, _⟩ := h; rfl) | (obtain ⟨_, _, _, _, _, _, _, _, _, _, _, _, rfl, _⟩ := h; rfl) | (obtain ⟨_, _, _, _, _, _, _, _, _, _, _, _, _, rfl, _⟩ := h; rfl) | (obtain ⟨_, _, _, _, _, _, _, _, _, _, _, _, _, _, rfl, _⟩ := h; rfl) | (obtain ⟨_, _, _, _, _, _, _, _, _, _, _, _, _, _, _, rfl, _⟩ := h; rfl) | (obtain ⟨_, _, _, _, _, _, _, _, _, _, _, _, _, _, _, _, rfl, _⟩ := h; rfl) | (obtain ⟨_, _, _, _, _, _, _, _, _, _, _, _, _, _, _, _, _, rfl, _⟩ := h; rfl) | (obtain ⟨_, _, _, _, _, _, _, _, _, _, _, _, _, _, _, _, _, _, rfl, _⟩ := h; rfl) | (obtain ⟨_, _, _, _, _, _, _, _, _, _, _, _, _, _, _, _, _, _, _, rfl, _⟩ := h; rfl) | (obtain ⟨_, _, _, _, _, _, _, _, _, _, _, _, _, _, _, _, _, _, _, _, rfl, _⟩ := h; rfl) | (obtain ⟨_, _, _, _, _, _, _, _, _, _, _, _, _, _, _, _, _, _, _, _, _, rfl, _⟩ := h; rfl) | (obtain ⟨_, _, _, _, _, _, _, _, _, _, _, _, _, _, _, _, _, _, _, _, _, _, rfl, _⟩ := h; rfl) | (obtain ⟨_, _, _, _, _, _, _, _, _, _, _, _, _, _, _, _, _, _, _, _, _, _, _, rfl, _⟩ := h; rfl)
  · obtain ⟨c, m, rfl, hc, hm, q⟩ := h
    refine ⟨_, (Evl.pss_cut (ps_set (i := 2) sc_l_change.nd rfl (.inl rfl) (pe_lst (pa_cons (pe_tup (pa_cons (pe_tup (pa_cons pe_int (pa_cons pe_int pa_nil))) (pa_cons (pe_tup (pa_cons pe_int (pa_cons pe_int pa_nil))) pa_nil))) (pa_cons (pe_tup (pa_cons (pe_tup (pa_cons pe_int (pa_cons pe_int pa_nil))) (pa_cons (pe_tup (pa_cons (pe_un un_neg pe_int) (pa_cons pe_int pa_nil))) pa_nil))) (pa_cons (pe_tup (pa_cons (pe_tup (pa_cons pe_int (pa_cons pe_int pa_nil))) (pa_cons (pe_tup (pa_cons pe_int (pa_cons (pe_un un_neg pe_int) pa_nil))) pa_nil))) (pa_cons (pe_tup (pa_cons (pe_tup (pa_cons pe_int (pa_cons pe_int pa_nil))) (pa_cons (pe_tup (pa_cons pe_int (pa_cons pe_int pa_nil))) pa_nil))) (pa_cons (pe_tup (pa_cons (pe_tup (pa_cons pe_int (pa_cons pe_int pa_nil))) (pa_cons (pe_tup (pa_cons (pe_un un_neg pe_int) (pa_cons pe_int pa_nil))) pa_nil))) (pa_cons (pe_tup (pa_cons (pe_tup (pa_cons pe_int (pa_cons pe_int pa_nil))) (pa_cons (pe_tup (pa_cons pe_int (pa_cons pe_int pa_nil))) pa_nil))) pa_nil))))))))
    (pss_cons (ps_set (i := 3) sc_l_change.nd rfl (.inl rfl) (pe_tup (pa_cons (pe_tup (pa_cons pe_int (pa_cons pe_int pa_nil))) (pa_cons (pe_tup (pa_cons pe_int (pa_cons pe_int pa_nil))) pa_nil))))
    (pss_cons (ps_for PassesOwn.never rfl (pi_range1 (by rfl) T.b_range (pa_cons (pe_call G_l_scoop (hr.mono (by decide)) (by rfl) g_l_scoop k_l_scoop b_l_scoop .nil pass0 (pa_cons (pv 0) (pa_cons (pe_op op_add (pv 1) pe_int) pa_nil))) pa_nil)) (pg_name (i := 4) sc_l_change.nd rfl (.inl rfl))
      (pss_one (ps_set (i := 3) sc_l_change.nd rfl (.inl rfl) (pe_call G_l_joined (hr.mono (by decide)) (by rfl) g_l_joined k_l_joined b_l_joined .nil pass0 (pa_cons (pv 3) (pa_cons (pe_call G_l_from (hr.mono (by decide)) (by rfl) g_l_from k_l_from b_l_from .nil pass0 (pa_cons (pv 0) (pa_cons (pv 2) pa_nil))) pa_nil))))))
    (pss_one (ps_ret (pv 3)))))), ?_⟩
    refine ⟨fun σ H' => ∃ (L : Addr) (us : List V), σ = [some (.ref c), some (.int (m : Int)), some (.ref L), none, none] ∧ Ex0 H H' ∧ L ≠ c ∧ H' L = some (.lst us) ∧ us ≠ [] ∧ us.length ≤ 100000 ∧ Steps H' us, ?_, ?_⟩
    · refine ⟨sl2, fun a1 m1 => ⟨sl2, fun a2 m2 => ⟨sl2, fun a3 m3 => ?_⟩⟩⟩
      have w1 := t4_new m1 m2 m3
      refine ⟨sl2, fun c1 k1 => ⟨_, rfl, sl2, fun c2 k2 => ⟨sl2, fun b3 k3 => ?_⟩⟩⟩
      have w2 := t4_new k1 k2 k3
      refine ⟨sl2, fun d1 l1 => ⟨_, rfl, sl2, fun d2 l2 => ⟨sl2, fun c3 l3 => ?_⟩⟩⟩
      have w3 := t4_new l1 l2 l3
      refine ⟨sl2, fun g1 o1 => ⟨sl2, fun g2 o2 => ⟨sl2, fun d3 o3 => ?_⟩⟩⟩
      have w4 := t4_new o1 o2 o3
      refine ⟨sl2, fun h1' p1 => ⟨_, rfl, sl2, fun h2' p2 => ⟨sl2, fun g3 p3 => ?_⟩⟩⟩
      have w5 := t4_new p1 p2 p3
      refine ⟨sl2, fun h1' p1 => ⟨sl2, fun h2' p2 => ⟨sl2, fun h3 p3 => ?_⟩⟩⟩
      have w6 := t4_new p1 p2 p3
      refine ⟨sl6, fun L nL => ?_⟩
      have e7 := Ex0.new (o := .lst [.ref a3, .ref b3, .ref c3, .ref d3, .ref g3, .ref h3]) nL
      have eg := (((((w1.1.trans w2.1).trans w3.1).trans w4.1).trans w5.1).trans w6.1).trans e7
      have f5 := vat_ex hc ((((((w1.1.trans w2.1).trans w3.1).trans w4.1).trans w5.1).trans w6.1))
      refine ⟨L, _, rfl, eg, fv_ne f5 nL, upd_same, by simp, by show 6 ≤ 100000; decide, fun y hy => ?_⟩
      simp only [List.mem_cons, List.mem_nil_iff, or_false] at hy
      rcases hy with rfl | rfl | rfl | rfl | rfl | rfl
      · exact ⟨_, _, _, _, _, rfl, Ex0.t4 (((((w2.1.trans w3.1).trans w4.1).trans w5.1).trans w6.1).trans e7) w1.2, .inl ⟨rfl, rfl, rfl, rfl⟩⟩
      · exact ⟨_, _, _, _, _, rfl, Ex0.t4 ((((w3.1.trans w4.1).trans w5.1).trans w6.1).trans e7) w2.2, .inr (.inl ⟨rfl, rfl, rfl, rfl⟩)⟩
      · exact ⟨_, _, _, _, _, rfl, Ex0.t4 (((w4.1.trans w5.1).trans w6.1).trans e7) w3.2, .inr (.inr (.inl ⟨rfl, rfl, rfl, rfl⟩))⟩
      · exact ⟨_, _, _, _, _, rfl, Ex0.t4 ((w5.1.trans w6.1).trans e7) w4.2, .inr (.inr (.inr (.inl ⟨rfl, rfl, rfl, rfl⟩)))⟩
      · exact ⟨_, _, _, _, _, rfl, Ex0.t4 (w6.1.trans e7) w5.2, .inr (.inr (.inr (.inr (.inl ⟨rfl, rfl, rfl, rfl⟩))))⟩
      · exact ⟨_, _, _, _, _, rfl, Ex0.t4 e7 w6.2, .inr (.inr (.inr (.inr (.inr ⟨rfl, rfl, rfl, rfl⟩))))⟩
    rintro σ H1 ⟨L, us, rfl, e1, ne, hL, hu1, hu2, hS⟩
    refine ⟨sl2, fun t1 n1 => ⟨sl2, fun t2 n2 => ⟨sl2, fun x0 n0 => ?_⟩⟩⟩
    have z0 := t4_new n1 n2 n0
    have f0 := fv_ex hc (e1.trans z0.1)
    have hL0 := Ex0.ap z0.1 hL
    have hS0 := hS.ex fun b xs h => Ex0.ap z0.1 h
    have i0 := z0.2
    generalize upd _ x0 _ = H2 at f0 hL0 hS0 i0 ⊢
    refine ⟨_, rfl, _, rfl, _, _, rfl, rfl, c, (m : Int) + 1, rfl, f0.1, by omega, by omega, fun u H3 u0 u1 e3 => ?_⟩
    refine ⟨_, rfl, by omega, by omega, ?_⟩
    refine for_range (lo := 0) (n := u.toNat) (fun i σ H' => ∃ x p q r s y4, σ = [some (.ref c), some (.int (m : Int)), some (.ref L), some (.ref x), y4] ∧ Fv c H2 H' ∧ T4 H' x p q r s ∧ Gc p q r s (3 ^ i)) ⟨x0, 1, 0, 0, 1, none, rfl, e3, i0.ex fun b xs z => fv_tup f0.1 e3 z, ⟨by decide, by decide, by decide, by decide, .inl (by decide)⟩⟩ ?_ ?_
    · rintro i σ H' hi ⟨x, p, q', r, s', y4, rfl, e2, h4, hg⟩
      have hi5 : i < 4 := by omega
      have m5 : (3 : Nat) ^ i ≤ 100000 := Nat.le_trans (Nat.pow_le_pow_right (by decide) (show i ≤ 4 by omega)) (by decide)
      refine ⟨_, rfl, _, rfl, _, rfl, c, L, us, rfl, e2.1, e2.2 _ _ ne hL0, ne, hu1, hu2, fun y H6 hy e6 => ?_⟩
      have up : ∀ {t : Addr} {i j k m : Int}, T4 H2 t i j k m → T4 H6 t i j k m := fun h => h.ex fun b xs z => fv_tup f0.1 (e2.trans e6) z
      obtain ⟨x2, i', j, k, m', rfl, h2, g2⟩ := hS0 y hy
      have h1 : T4 H6 x p q' r s' := h4.ex fun b xs z => fv_tup e2.1 e6 z
      have gb := hg.b m5
      refine ⟨x, x2, p, q', r, s', i', j, k, m', rfl, h1, up h2, ⟨gb.1.mono (by decide), gb.2.1.mono (by decide), gb.2.2.1.mono (by decide), gb.2.2.2.mono (by decide)⟩, g2.b, fun x3 H7 e7 h7 => ?_⟩
      refine ⟨x3, _, _, _, _, _, rfl, e2.trans (e6.trans (fv_ex e6.1 e7)), h7, ?_⟩
      rw [Nat.pow_succ, Nat.mul_comm]
      exact hg.step g2
    · rintro σ H' ⟨x, p, q', r, s', y4, rfl, e2, h4, hg⟩
      exact ⟨_, rfl, q x p q' r s' H' (f0.trans e2) h4 (hg.mono (Nat.le_trans (Nat.pow_le_pow_right (by decide) (show u.toNat ≤ 4 by omega)) (by decide)))⟩
end
end RG
namespace RG
open PySem PySem.Spec PyProof.Rows L2 Fr
open K05M (fv fl2 fl3 fdisc)
theorem eq_sorted : ∀ {l1 l2 : List (Int × Int)}, l1.Pairwise lexP → l1.Nodup → l2.Pairwise lexP → l2.Nodup → (∀ a, a ∈ l1 ↔ a ∈ l2) → l1 = l2
  | [], [], _, _, _, _, _ => rfl
  | [], b :: l2, _, _, _, _, h => by have := (h b).mpr List.mem_cons_self; cases this
  | a :: l1, [], _, _, _, _, h => by have := (h a).mp List.mem_cons_self; cases this
  | a :: l1, b :: l2, p1, n1, p2, n2, h => by
    have p1' := List.pairwise_cons.mp p1
    have p2' := List.pairwise_cons.mp p2
    have n1' := List.nodup_cons.mp n1
    have n2' := List.nodup_cons.mp n2
    have e : a = b := by
      rcases List.mem_cons.mp ((h a).mp List.mem_cons_self) with z | z
      · exact z
      · rcases List.mem_cons.mp ((h b).mpr List.mem_cons_self) with y | y
        · exact y.symm
        · have q1 := p2'.1 a z
          have q2 := p1'.1 b y
          unfold lexP at q1 q2
          refine Prod.ext ?_ ?_ <;> omega
    subst e
    have t : l1 = l2 := eq_sorted p1'.2 n1'.2 p2'.2 n2'.2 fun x => by
      constructor
      · intro hx
        rcases List.mem_cons.mp ((h x).mp (List.mem_cons_of_mem _ hx)) with z | z
        · exact absurd (z ▸ hx) n1'.1
        · exact z
      · intro hx
        rcases List.mem_cons.mp ((h x).mpr (List.mem_cons_of_mem _ hx)) with z | z
        · exact absurd (z ▸ hx) n2'.1
        · exact z
    rw [t]
theorem fv_opp (a b c d x y : Int) : fv a b c d (-x) (-y) = -(fv a b c d x y) := by
  unfold fv
  grind
theorem mk1_opp (a b c d x y : Int) : mk1 a b c d (-x) (-y) = mk1 a b c d x y := by
  unfold mk1
  rw [fv_opp]
  apply Bool.eq_iff_iff.mpr
  simp only [decide_eq_true_iff]
  omega
theorem mem_row {a b c d : Int} {m : Nat} {y : Int} {p : Int × Int} : p ∈ rowM a b c d m y ↔ -(m : Int) ≤ p.1 ∧ p.1 ≤ m ∧ p.2 = y ∧ mk1 a b c d p.1 p.2 = true := by
  unfold rowM
  simp only [List.mem_map, List.mem_filter, List.mem_range]
  constructor
  · rintro ⟨i, ⟨h1, h2⟩, rfl⟩
    exact ⟨by simp only; omega, by simp only; omega, rfl, h2⟩
  · rintro ⟨h1, h2, h3, h4⟩
    have e : -(m : Int) + ((p.1 + m).toNat : Int) = p.1 := by omega
    refine ⟨(p.1 + m).toNat, ⟨by omega, ?_⟩, ?_⟩
    · rw [e, ← h3]
      exact h4
    · rw [e, ← h3]
theorem mem_madeR {a b c d : Int} {m : Nat} {x : Int} {p : Int × Int} : p ∈ madeR a b c d m x (2 * m + 1) ↔ -(m : Int) ≤ p.2 ∧ p.2 ≤ m ∧ p.1 = x ∧ mk1 a b c d p.1 p.2 = true := by
  unfold madeR
  simp only [List.mem_map, List.mem_filter, List.mem_range]
  constructor
  · rintro ⟨i, ⟨h1, h2⟩, rfl⟩
    exact ⟨by simp only; omega, by simp only; omega, rfl, h2⟩
  · rintro ⟨h1, h2, h3, h4⟩
    have e : 0 - (m : Int) + ((p.2 + m).toNat : Int) = p.2 := by omega
    refine ⟨(p.2 + m).toNat, ⟨by omega, ?_⟩, ?_⟩
    · rw [e, ← h3]
      exact h4
    · rw [e, ← h3]
theorem mem_madeL {a b c d : Int} {m : Nat} {p : Int × Int} : p ∈ madeL a b c d m (2 * m + 1) ↔ -(m : Int) ≤ p.1 ∧ p.1 ≤ m ∧ -(m : Int) ≤ p.2 ∧ p.2 ≤ m ∧ mk1 a b c d p.1 p.2 = true := by
  unfold madeL
  simp only [List.mem_flatMap, List.mem_range]
  constructor
  · rintro ⟨i, hi, h⟩
    obtain ⟨h1, h2, h3, h4⟩ := mem_madeR.mp h
    exact ⟨by omega, by omega, h1, h2, h4⟩
  · rintro ⟨h1, h2, h3, h4, h5⟩
    refine ⟨(p.1 + m).toNat, by omega, mem_madeR.mpr ⟨h3, h4, by omega, h5⟩⟩
theorem mem_found0 {a b c d : Int} {m : Nat} {p : Int × Int} : p ∈ found0 a b c d m ↔ (p.1 = 1 ∧ p.2 = 0 ∧ (a = 1 ∨ a = -1)) ∨ (1 ≤ p.2 ∧ p.2 ≤ m ∧ -(m : Int) ≤ p.1 ∧ p.1 ≤ m ∧ mk1 a b c d p.1 p.2 = true) := by
  unfold found0
  simp only [List.mem_append, List.mem_flatMap, List.mem_range]
  constructor
  · rintro (h | ⟨i, hi, h⟩)
    · split at h
      · next ha =>
        have : p = (1, 0) := by simpa using h
        subst this
        exact .inl ⟨rfl, rfl, ha⟩
      · cases h
    · obtain ⟨h1, h2, h3, h4⟩ := mem_row.mp h
      exact .inr ⟨by omega, by omega, h1, h2, h4⟩
  · rintro (⟨h1, h2, h3⟩ | ⟨h1, h2, h3, h4, h5⟩)
    · rw [if_pos h3]
      exact .inl (by rw [show p = (1, 0) from Prod.ext h1 h2]; exact List.mem_cons_self)
    · exact .inr ⟨(p.2 - 1).toNat, by omega, mem_row.mpr ⟨h3, h4, by omega, h5⟩⟩
theorem mem_opp {ps : List (Int × Int)} {p : Int × Int} : p ∈ opp ps ↔ p ∈ ps ∨ (-p.1, -p.2) ∈ ps := by
  unfold opp
  simp only [List.mem_append, List.mem_map]
  constructor
  · rintro (h | ⟨q, h, rfl⟩)
    · exact .inl h
    · refine .inr ?_
      rw [show (-(-q.1, -q.2).1, -(-q.1, -q.2).2) = q from Prod.ext (Int.neg_neg _) (Int.neg_neg _)]
      exact h
  · rintro (h | h)
    · exact .inl h
    · exact .inr ⟨_, h, Prod.ext (Int.neg_neg _) (Int.neg_neg _)⟩
theorem mk1_zero {a b c d x : Int} (h : mk1 a b c d x 0 = true) : (x = 1 ∨ x = -1) ∧ (a = 1 ∨ a = -1) := by
  unfold mk1 fv at h
  have h := of_decide_eq_true h
  have e : (a * x * x * x).natAbs = 1 := by
    have : a * x * x * x + b * x * x * 0 + c * x * 0 * 0 + d * 0 * 0 * 0 = a * x * x * x := by grind
    rw [this] at h
    omega
  rw [Int.natAbs_mul, Int.natAbs_mul, Int.natAbs_mul] at e
  have e1 := Nat.eq_one_of_mul_eq_one_left e
  have e2 := Nat.eq_one_of_mul_eq_one_right e
  have e3 := Nat.eq_one_of_mul_eq_one_right e2
  have e4 := Nat.eq_one_of_mul_eq_one_right e3
  omega
theorem mk1_one {a b c d : Int} (h : a = 1 ∨ a = -1) : mk1 a b c d 1 0 = true := by
  unfold mk1 fv
  rcases h with rfl | rfl <;> simp
theorem mem_both {a b c d : Int} {m : Nat} (hm : 1 ≤ m) (p : Int × Int) : p ∈ opp (found0 a b c d m) ↔ p ∈ madeL a b c d m (2 * m + 1) := by
  rw [mem_opp, mem_found0, mem_found0, mem_madeL]
  simp only [mk1_opp]
  constructor
  · rintro ((⟨h1, h2, h3⟩ | ⟨h1, h2, h3, h4, h5⟩) | (⟨h1, h2, h3⟩ | ⟨h1, h2, h3, h4, h5⟩))
    · refine ⟨by omega, by omega, by omega, by omega, ?_⟩
      rw [h1, h2]
      exact mk1_one h3
    · exact ⟨by omega, by omega, by omega, by omega, h5⟩
    · refine ⟨by omega, by omega, by omega, by omega, ?_⟩
      rw [← mk1_opp, h1, h2]
      exact mk1_one h3
    · exact ⟨by omega, by omega, by omega, by omega, h5⟩
  · rintro ⟨h1, h2, h3, h4, h5⟩
    rcases Int.lt_trichotomy p.2 0 with z | z | z
    · exact .inr (.inr ⟨by omega, by omega, by omega, by omega, h5⟩)
    · rw [z] at h5
      obtain ⟨h6, h7⟩ := mk1_zero h5
      rcases h6 with h6 | h6
      · exact .inl (.inl ⟨h6, z, h7⟩)
      · exact .inr (.inl ⟨by omega, by omega, h7⟩)
    · exact .inl (.inr ⟨by omega, by omega, by omega, by omega, h5⟩)
def ltP2 (p q : Int × Int) : Prop := p.1 < q.1 ∨ (p.1 = q.1 ∧ p.2 < q.2)
def ltQ2 (p q : Int × Int) : Prop := p.2 < q.2 ∨ (p.2 = q.2 ∧ p.1 < q.1)
theorem row_pw (a b c d : Int) (m : Nat) (y : Int) : (rowM a b c d m y).Pairwise ltQ2 := by
  unfold rowM
  rw [List.pairwise_map]
  refine List.Pairwise.imp (fun {i j} h => ?_) (List.Pairwise.filter _ List.pairwise_lt_range)
  exact .inr ⟨rfl, by show -(m : Int) + (i : Int) < -(m : Int) + (j : Int); omega⟩
theorem madeR_pw (a b c d : Int) (m : Nat) (x : Int) (n : Nat) : (madeR a b c d m x n).Pairwise ltP2 := by
  unfold madeR
  rw [List.pairwise_map]
  refine List.Pairwise.imp (fun {i j} h => ?_) (List.Pairwise.filter _ List.pairwise_lt_range)
  exact .inr ⟨rfl, by show 0 - (m : Int) + (i : Int) < 0 - (m : Int) + (j : Int); omega⟩
theorem madeL_pw (a b c d : Int) (m n : Nat) : (madeL a b c d m n).Pairwise ltP2 := by
  unfold madeL
  rw [List.pairwise_flatMap]
  refine ⟨fun i _ => madeR_pw _ _ _ _ _ _ _, List.Pairwise.imp (fun {i j} h p hp q hq => ?_) List.pairwise_lt_range⟩
  have h1 := (mem_madeR.mp hp).2.2.1
  have h2 := (mem_madeR.mp hq).2.2.1
  exact .inl (by omega)
theorem found_pw (a b c d : Int) (m : Nat) : (found0 a b c d m).Pairwise ltQ2 := by
  unfold found0
  rw [List.pairwise_append]
  refine ⟨by split <;> simp, ?_, fun p hp q hq => ?_⟩
  · rw [List.pairwise_flatMap]
    refine ⟨fun i _ => row_pw _ _ _ _ _ _, List.Pairwise.imp (fun {i j} h p hp q hq => ?_) List.pairwise_lt_range⟩
    have h1 := (mem_row.mp hp).2.2.1
    have h2 := (mem_row.mp hq).2.2.1
    exact .inl (by omega)
  · have e : p.2 = 0 := by
      split at hp
      · have : p = (1, 0) := by simpa using hp
        rw [this]
      · cases hp
    obtain ⟨i, _, h⟩ := List.mem_flatMap.mp hq
    have h2 := (mem_row.mp h).2.2.1
    exact .inl (by omega)
theorem nd_P {l : List (Int × Int)} (h : l.Pairwise ltP2) : l.Nodup := List.Pairwise.imp (fun {p q} h e => by subst e; unfold ltP2 at h; omega) h
theorem nd_Q {l : List (Int × Int)} (h : l.Pairwise ltQ2) : l.Nodup := List.Pairwise.imp (fun {p q} h e => by subst e; unfold ltQ2 at h; omega) h
theorem nd_neg {l : List (Int × Int)} (h : l.Nodup) : (l.map fun p => ((-p.1, -p.2) : Int × Int)).Nodup := by
  unfold List.Nodup
  rw [List.pairwise_map]
  refine List.Pairwise.imp (fun {p q} n e => n ?_) h
  injection e with e1 e2
  exact Prod.ext (by omega) (by omega)
theorem nd_opp (a b c d : Int) (m : Nat) : (opp (found0 a b c d m)).Nodup := by
  unfold opp
  rw [List.nodup_append]
  refine ⟨nd_Q (found_pw _ _ _ _ _), nd_neg (nd_Q (found_pw _ _ _ _ _)), fun p hp q hq e => ?_⟩
  subst e
  obtain ⟨q, hq, e⟩ := List.mem_map.mp hq
  have e1 : p.1 = -q.1 := by rw [← e]
  have e2 : p.2 = -q.2 := by rw [← e]
  rcases mem_found0.mp hp with h | h <;> rcases mem_found0.mp hq with g | g <;> omega
theorem told_eq {a b c d : Int} {m : Nat} (hm : 1 ≤ m) {qs : List (Int × Int)} (h1 : qs.Perm (opp (found0 a b c d m))) (h2 : qs.Pairwise lexP) : qs = madeL a b c d m (2 * m + 1) :=
  eq_sorted h2 (h1.symm.nodup (nd_opp _ _ _ _ _)) (List.Pairwise.imp (fun {p q} h => by unfold ltP2 at h; unfold lexP; omega) (madeL_pw _ _ _ _ _ _)) (nd_P (madeL_pw _ _ _ _ _ _)) fun p => by
    rw [h1.mem_iff]
    exact mem_both hm p
theorem neg_eq {a b c d : Int} {m : Nat} {qs : List (Int × Int)} (h1 : qs.Perm ((madeL a b c d m (2 * m + 1)).map fun p => ((-p.1, -p.2) : Int × Int))) (h2 : qs.Pairwise lexP) : qs = madeL a b c d m (2 * m + 1) :=
  eq_sorted h2 (h1.symm.nodup (nd_neg (nd_P (madeL_pw _ _ _ _ _ _)))) (List.Pairwise.imp (fun {p q} h => by unfold ltP2 at h; unfold lexP; omega) (madeL_pw _ _ _ _ _ _)) (nd_P (madeL_pw _ _ _ _ _ _)) fun p => by
    rw [h1.mem_iff, List.mem_map]
    constructor
    · rintro ⟨q, hq, rfl⟩
      obtain ⟨z1, z2, z3, z4, z5⟩ := mem_madeL.mp hq
      refine mem_madeL.mpr ⟨by simp only; omega, by simp only; omega, by simp only; omega, by simp only; omega, ?_⟩
      rw [mk1_opp]
      exact z5
    · intro hp
      obtain ⟨z1, z2, z3, z4, z5⟩ := mem_madeL.mp hp
      refine ⟨(-p.1, -p.2), mem_madeL.mpr ⟨by simp only; omega, by simp only; omega, by simp only; omega, by simp only; omega, ?_⟩, Prod.ext (Int.neg_neg _) (Int.neg_neg _)⟩
      rw [mk1_opp]
      exact z5
theorem srt_lex {k : V → Int × Int} {ys : List V} (h : SrtO.Srtd (ltP k) ys) : (ys.map k).Pairwise lexP := by
  rw [List.pairwise_map]
  refine List.Pairwise.imp (fun {u v} h => ?_) h
  rcases Int.lt_trichotomy (k u).1 (k v).1 with z | z | z
  · exact .inl z
  · refine .inr ⟨z, ?_⟩
    rcases Int.lt_or_le (k v).2 (k u).2 with w | w
    · have := SrtO.lexB_iff.mpr (Or.inr ⟨z.symm, w⟩)
      rw [show SrtO.lexB (k v) (k u) = false from h] at this
      cases this
    · exact w
  · have := SrtO.lexB_iff.mpr (Or.inl z)
    rw [show SrtO.lexB (k v) (k u) = false from h] at this
    cases this
def pi2 (q : Int × Int) : PyData := .tuple [.int q.1, .int q.2]
theorem shaped_pis (fs : List (Int × Int)) : SeqAt.shaped (.tuple (fs.map pi2)) = true := by
  have h : PyData.canLayAll0 (fs.map pi2) = true ∧ PyData.depthAll (fs.map pi2) ≤ 2 := by
    induction fs with
    | nil => exact ⟨rfl, by simp [PyData.depthAll]⟩
    | cons n r ih =>
      refine ⟨?_, ?_⟩
      · rw [List.map_cons, PyData.canLayAll0, ih.1]; simp [pi2, PyData.canLay0, PyData.canLayAll0]
      · rw [List.map_cons, PyData.depthAll]; exact Nat.max_le.mpr ⟨by simp [pi2, PyData.depth, PyData.depthAll], ih.2⟩
  unfold SeqAt.shaped
  rw [PyData.canLay0, PyData.depth, h.1]
  simp
  omega
theorem eqv_pis : ∀ fs gs : List (Int × Int), PyData.eqvAll (fs.map pi2) (gs.map pi2) = decide (fs = gs)
  | [], [] => rfl
  | [], m :: ms => rfl
  | n :: ns, [] => rfl
  | (a, b) :: ns, (c, d) :: ms => by
    rw [List.map_cons, List.map_cons, PyData.eqvAll, eqv_pis ns ms]
    apply Bool.eq_iff_iff.mpr
    simp [pi2, PyData.eqv, PyData.eqvAll]
theorem Prs.dp {K : PySem.W.Frag} {H : Hp} {xs : List V} {ps : List (Int × Int)} (h : Prs H xs ps) : DpAll K H xs (ps.map pi2) := by
  induction h with
  | nil => exact .nil
  | cons h _ ih => exact .cons (.tup (SqT.of h) (dp_ints [_, _])) ih
theorem dp_prs {K : PySem.W.Frag} {H : Hp} {t : Addr} {xs : List V} {ps : List (Int × Int)} (ht : H t = some (.tup xs)) (h : Prs H xs ps) : Dp K H (.ref t) (.tuple (ps.map pi2)) := .tup (SqT.of ht) h.dp
theorem eqv_tp (ps qs : List (Int × Int)) : PyData.eqv (.tuple (ps.map pi2)) (.tuple (qs.map pi2)) = decide (ps = qs) := by
  rw [PyData.eqv, eqv_pis]
end RG
namespace RG
open PySem PySem.Spec PyProof.Rows L2 Fr
open K05M (fv fl2 fl3 fdisc)
def Pq (H : Hp) (t : Addr) (x y : Int) : Prop := H t = some (.tup [.int x, .int y])
def sp_cofactors (_ : PySem.W.Frag) (C C_R C_E : Addr) : Sp := fun vs H Q _ => ∃ (p q : Int), vs = [.int p, .int q] ∧ p.natAbs ≤ 1000 ∧ q.natAbs ≤ 1000 ∧ Nat.gcd p.natAbs q.natAbs = 1 ∧ ∀ t H' i j, Ex0 H H' → Pq H' t i j → i * p + j * q = 1 → i.natAbs ≤ 2000000 → j.natAbs ≤ 2000000 → Q (.ref t) H'
def sp_is_maker (_ : PySem.W.Frag) (C C_R C_E : Addr) : Sp := fun vs H Q _ => ∃ (t u : Addr) (a b c d x y : Int), vs = [.ref t, .ref u] ∧ Ti H t [a, b, c, d] ∧ Pq H u x y ∧ B4 1000 a b c d ∧ Short x ∧ Short y ∧ mk1 a b c d x y = true ∧ ∀ H', Ex0 H H' → Q (.bl true) H'
def sp_check_maker (_ : PySem.W.Frag) (C C_R C_E : Addr) : Sp := fun vs H Q _ => ∃ (f u : Addr) (a b c d x y : Int), vs = [.ref f, .ref u] ∧ FormAt C H f [a, b, c, d] ∧ Pq H u x y ∧ B4 1000 a b c d ∧ Short x ∧ Short y ∧ mk1 a b c d x y = true ∧ ∀ H', Ex0 H H' → Q .non H'
def sp_maker_way (_ : PySem.W.Frag) (C C_R C_E : Addr) : Sp := fun vs H Q _ => ∃ (f u : Addr) (a b c d x y : Int), vs = [.ref f, .ref u] ∧ FormAt C H f [a, b, c, d] ∧ Pq H u x y ∧ B4 1000 a b c d ∧ x.natAbs ≤ 1000 ∧ y.natAbs ≤ 1000 ∧ mk1 a b c d x y = true ∧ ∀ w H' r s, Ex0 H H' → T4 H' w x y r s → x * s - y * r = fv a b c d x y → r.natAbs ≤ 2000000 → s.natAbs ≤ 2000000 → Q (.ref w) H'
def wayB (o : Option (Int × Int × Int × Int)) (x y n : Int) : Bool := match o with
  | some (p, q, r, s) => decide ((p * s - q * r = 1 ∨ p * s - q * r = -1) ∧ p = x ∧ q = y ∧ p * s - q * r = n)
  | none => false
def sp_is_maker_way (_ : PySem.W.Frag) (C C_R C_E : Addr) : Sp := fun vs H Q _ => ∃ (f u : Addr) (v : V) (a b c d x y : Int) (o : Option (Int × Int × Int × Int)), vs = [.ref f, .ref u, v] ∧ FormAt C H f [a, b, c, d] ∧ Pq H u x y ∧ B4 1000 a b c d ∧ Short x ∧ Short y ∧ mk1 a b c d x y = true ∧ ChV H v o ∧ OB o ∧ ∀ H', Ex0 H H' → Q (.bl (wayB o x y (fv a b c d x y))) H'
theorem mk1_gcd {a b c d x y : Int} (h : mk1 a b c d x y = true) : Nat.gcd x.natAbs y.natAbs = 1 := by
  have h := of_decide_eq_true h
  have h1 : Nat.gcd x.natAbs y.natAbs ∣ x.natAbs := Nat.gcd_dvd_left _ _
  have h2 : Nat.gcd x.natAbs y.natAbs ∣ y.natAbs := Nat.gcd_dvd_right _ _
  generalize Nat.gcd x.natAbs y.natAbs = k at *
  obtain ⟨r, hr⟩ := Int.ofNat_dvd_left.mpr h1
  obtain ⟨s, hs⟩ := Int.ofNat_dvd_left.mpr h2
  have e : fv a b c d x y = (k : Int) * ((k : Int) * ((k : Int) * fv a b c d r s)) := by
    subst hr
    subst hs
    unfold fv
    grind
  have g : (k : Int) ∣ fv a b c d x y := ⟨_, e⟩
  have g2 : k ∣ (fv a b c d x y).natAbs := Int.ofNat_dvd_left.mp g
  rw [show (fv a b c d x y).natAbs = 1 by omega] at g2
  exact Nat.dvd_one.mp g2
section
variable {P : Program} {w : World} {K : PySem.W.Frag} {mg : Str → Option Value} {base : Heap} {C_Form C_Ring C_Element : Addr}
theorem ok_cofactors (T : Txt K mg C_Form C_Ring C_Element) : Def P w K mg base 1 "cofactors" ["first", "second"] (sp_cofactors K C_Form C_Ring C_Element) := by
  obtain ⟨f_, fd_, g_, F_⟩ := T.d_cofactors
  refine ⟨f_, fd_, g_, F_.kp, F_.binds (ps := ["first", "second"]) (fun _ _ _ _ _ _ us hl => match us, hl with | [_, _], _ => rfl), ?_⟩
  refine F_.ok sc_cofactors (fun vs H Q E h => ?_) (fun cdv A outer s H vs Q E hr h => ?_)
  · first | (obtain ⟨rfl, _⟩ := h; rfl) | (obtain ⟨_, rfl, _⟩ := h; rfl) | (obtain ⟨_, _, rfl, _⟩ := h; rfl) | (obtain ⟨_, _, _, rfl, _⟩ := h; rfl) | (obtain ⟨_, _, _, _, rfl, _⟩ := h; rfl) | (obtain ⟨_, _, _, _, _, rfl, _⟩ := h; rfl) | (obtain ⟨_, _, _, _, _, _, rfl, _⟩ := h; rfl) | (obtain ⟨_, _, _, _, _, _, _, rfl, _⟩ := h; rfl) | (obtain ⟨_, _, _, _, _, _, _, _, rfl, _⟩ := h; rfl) | (obtain ⟨_, _, _, _, _, _, _, _, _, rfl, _⟩ := h; rfl) | (obtain ⟨_, _, _, _, _, _, _, _, _, _, rfl, _⟩ := h; rfl) | (obtain ⟨_, _, _, _, _, _, _, _, _, _, _, rfl, _⟩ := h; rfl) | (obtain ⟨_, _, _, _, _, _, _, _, _, _, _, _, rfl, _⟩ := h; rfl) | (obtain ⟨_, _, _, _, _, _, _, _, _, _, _, _, _, rfl, _⟩ := h; rfl) | (obtain ⟨_, _, _, _, _, _, _, _, _, _, _, _, _, _, rfl, _⟩ := h; rfl) | (obtain ⟨_, _, _, _, _, _, _, _, _, _, _, _, _, _, _, rfl, _⟩ := h; rfl) | (obtain ⟨_, _, _, _, _, _, _, _, _, _, _, _, _, _, _, _, rfl, _⟩ := h; rfl) | (obtain ⟨_, _, _, _, _, _, _, _, _, _, _, _, _, _, _, _, _, rfl, _⟩ := h; rfl) | (obtain ⟨_, _, _, _, _, _, _, _, _, _, _, _, _, _, _, _, _, _, rfl, _⟩ := h; rfl) | (obtain ⟨_, _, _, _, _, _, _, _, _, _, _, _, _, _, _, _, _, _, _, rfl, _⟩ := h; rfl) | (obtain ⟨_, _, _, _, _, _, _, _, _, _, _, _, _, _, _, _, _, _, _, _, rfl, _⟩ := h; rfl) | (obtain ⟨_, _, _, _, _, _, _, _, _, _, _, _, _, _, _, _, _, _, _, _, _, rfl, _⟩ := h; rfl) | (obtain ⟨_, _, _, _, _, _, _, _, _, _, _, _, _, _, _, _, _, _, _, _, _, _, rfl, _⟩ := h; rfl) | (obtain ⟨_, _, _, _, _, _, _, _, _, _, _, _, _, _, _, _, _, _, _, _, _, _, _, rfl, _⟩ := h; rfl)
  · obtain ⟨p, q', rfl, hp, hq, g, q⟩ := h
    refine ⟨_, (Evl.pss_cut (ps_par (i := 2) (j := 3) (by rfl) sc_cofactors.nd rfl rfl (by decide) rfl rfl (pa_cons (pe_tup (pa_cons (pv 0) (pa_cons pe_int (pa_cons pe_int pa_nil)))) (pa_cons (pe_tup (pa_cons (pv 1) (pa_cons pe_int (pa_cons pe_int pa_nil)))) pa_nil)) (by rfl))
    (pss_cons (ps_while PassesOwn.never (pt_cmpR op_ne (pe_ix ix_tup (pv 3) pe_int (fun _ _ => rfl)) pe_int (nomark _))
      (pss_cons (ps_set (i := 4) sc_cofactors.nd rfl (.inr rfl) (pe_op op_fdivNW (pe_ix ix_tup (pv 2) pe_int (fun _ _ => rfl)) (pe_ix ix_tup (pv 3) pe_int (fun _ _ => rfl))))
    (pss_one (ps_par (i := 2) (j := 3) (by rfl) sc_cofactors.nd rfl rfl (by decide) rfl rfl (pa_cons (pv 3) (pa_cons (pe_callTy call_tuple_of (by rfl) T.b_tuple (by decide +kernel) (pa_cons (pe_lc (own := [("one", 8), ("other", 9)]) (g := (gTup K 2 (gCons (gName 8) (gCons (gName 9) gNil)))) rfl sc_cofactors.nd (RZ.pi_zipA (by rfl) T.b_zip (pa_cons (pv 2) (pa_cons (pv 3) pa_nil))) (blkOk_by (N := N_cofactors) (sc := defScope s_cofactors) (by decide +kernel)) (fun _ _ _ _ _ => (pg_tup (by rfl) (pgs_cons (pg_name (i := 8) sc_cofactors.nd rfl (.inl rfl)) (pgs_cons (pg_name (i := 9) sc_cofactors.nd rfl (.inl rfl)) pgs_nil)))) (fun _ _ _ _ _ => pts_nil) (fun _ _ _ _ _ => (pe_op op_sub (pv 8) (pe_op op_mulW (pv 4) (pv 9))))) pa_nil)) pa_nil)) (by rfl)))))
    (pss_cons (ps_asg (pv 2) (pg_tup (by rfl) (pgs_cons (pg_name (i := 5) sc_cofactors.nd rfl (.inl rfl)) (pgs_cons (pg_name (i := 6) sc_cofactors.nd rfl (.inl rfl)) (pgs_cons (pg_name (i := 7) sc_cofactors.nd rfl (.inl rfl)) pgs_nil)))))
    (pss_one (ps_ret (pe_tup (pa_cons (pe_op op_mulW (pv 5) (pv 6)) (pa_cons (pe_op op_mulW (pv 5) (pv 7)) pa_nil)))))))), ?_⟩
    refine ⟨fun σ H' => ∃ L R : Addr, σ = [some (.int p), some (.int q'), some (.ref L), some (.ref R), none, none, none, none, none, none] ∧ Ex0 H H' ∧ Ti H' L [p, 1, 0] ∧ Ti H' R [q', 0, 1], ?_, ?_⟩
    · refine ⟨_, rfl, sl3, fun L nL => ⟨_, rfl, sl3, fun R nR => ?_⟩⟩
      refine ⟨_, _, rfl, ?_⟩
      refine ⟨L, R, rfl, (Ex0.new nL).trans (Ex0.new nR), Ex0.ti (Ex0.new nR) upd_same, upd_same⟩
    rintro σ H1 ⟨L, R, rfl, e1, hL, hR⟩
    refine ⟨fun m σ H' => ∃ (one other i j i' j' : Int) (L R : Addr) (y4 : Option V), σ = [some (.int p), some (.int q'), some (.ref L), some (.ref R), y4, none, none, none, none, none] ∧ Ex0 H H' ∧ Ti H' L [one, i, j] ∧ Ti H' R [other, i', j'] ∧ Bs 1000 p q' one other i j i' j' ∧ m = other.natAbs, ⟨_, p, q', 1, 0, 0, 1, L, R, none, rfl, e1, hL, hR, Bs.init g hp hq, rfl⟩, ?_⟩
    rintro m σ H2 ⟨one, other, i, j, i', j', L, R, y4, rfl, e, hL, hR, hz, rfl⟩
    refine ⟨_, rfl, R, _, 0, .int other, rfl, rfl, SqT.of hR, rfl, rfl, _, rfl, iteEn (fun g => ?_) (fun g => ?_)⟩
    · obtain ⟨hz2, hm⟩ := hz.step g
      obtain ⟨b1, b2, bt, bi, bi', bj'⟩ := hz.b g hp
      refine ⟨fun σ' H'' => ∃ (one other2 i j i' j' : Int) (L R : Addr) (y4 : Option V), σ' = [some (.int p), some (.int q'), some (.ref L), some (.ref R), y4, none, none, none, none, none] ∧ Ex0 H H'' ∧ Ti H'' L [one, i, j] ∧ Ti H'' R [other2, i', j'] ∧ Bs 1000 p q' one other2 i j i' j' ∧ other2.natAbs < other.natAbs, fun σ' H'' ⟨o1, o2, i1, j1, i2, j2, L1, R1, y1, k1, k2, k3, k4, k5, k6⟩ => ⟨o2.natAbs, k6, o1, o2, i1, j1, i2, j2, L1, R1, y1, k1, k2, k3, k4, k5, rfl⟩, ?_⟩
      have bB : ∀ {z : Int}, z.natAbs ≤ 2000000 → B 21 z := fun h => ⟨Nat.lt_of_le_of_lt h (by decide), by decide⟩
      refine ⟨_, rfl, L, _, 0, .int one, rfl, rfl, SqT.of hL, rfl, _, rfl, R, _, 0, .int other, rfl, rfl, SqT.of hR, rfl, _, _, rfl, rfl, ⟨g, Nat.lt_trans (log_lt (a := 21) (bB (z := other) (by omega)).1 (by decide)) (by decide)⟩, ?_⟩
      have bT := bB (z := one.fdiv other) (by omega)
      refine ⟨_, rfl, _, rfl, _, rfl, L, R, _, _, rfl, .inr ⟨SqT.of hL, SqT.of hR, ?_⟩⟩
      refine lcP (walk_zipT (K := K) (xs := ([one, i, j] : List Int).map V.int) (ys := ([other, i', j'] : List Int).map V.int) rfl) fm0 trivial (fun H' e => ⟨SqT.of (Ex0.ti e hL), SqT.of (Ex0.ti e hR)⟩) (fun n acc _ => acc = (([one - one.fdiv other * other, i - one.fdiv other * i', j - one.fdiv other * j'] : List Int).take n).map V.int) (fun _ _ => rfl) (fun D n T x1 y1 acc H' hD hi fx fy e3 hA hlen hp hT => ?_) (fun D H' acc hD e3 hA hp => ?_)
      · obtain ⟨k, hk, rfl⟩ := get_int fx
        obtain ⟨l, hl, rfl⟩ := get_int fy
        have hi3 : n < 3 := hi
        have bl : B 21 l := by
          match n, hl with
          | 0, hk => rw [← Option.some.inj hk]; exact bB (by omega)
          | 1, hk => rw [← Option.some.inj hk]; exact bB (by omega)
          | 2, hk => rw [← Option.some.inj hk]; exact bB (by omega)
        refine ⟨T, _, rfl, SqT.of upd_same, rfl, _, _, rfl, _, _, rfl, rfl, ⟨rfl, ?_⟩⟩
        refine ⟨_, rfl, _, rfl, _, rfl, _, _, rfl, rfl, mulB bT bl (by decide), _, _, rfl, rfl, ?_⟩
        refine cs_yes fm0 trivial hD e3 hA hlen (by omega) (Ex0.new hT) ?_
        show acc ++ [V.int (k - one.fdiv other * l)] = _
        rw [hp]
        match n, hk, hl with
        | 0, hk, hl => rw [← Option.some.inj hk, ← Option.some.inj hl]; rfl
        | 1, hk, hl => rw [← Option.some.inj hk, ← Option.some.inj hl]; rfl
        | 2, hk, hl => rw [← Option.some.inj hk, ← Option.some.inj hl]; rfl
      · refine ⟨D, _, rfl, .inl ⟨SqL.of hA, fun p2 np2 => ?_⟩⟩
        refine ⟨_, _, rfl, ?_⟩
        have ep := Ex0.new (o := .tup acc) np2
        have hp2 : acc = ([one - one.fdiv other * other, i - one.fdiv other * i', j - one.fdiv other * j'] : List Int).map V.int := hp
        subst hp2
        exact ⟨other, _, i', j', _, _, R, p2, _, rfl, (e.trans e3).trans ep, Ex0.ti (Fx.trans e3 ep) hR, upd_same, hz2, hm⟩
    · have g0 : other = 0 := by omega
      subst g0
      obtain ⟨f1, f2, f3, f4⟩ := hz.fin hp
      have bB : ∀ {z : Int}, z.natAbs ≤ 2000000 → B 21 z := fun h => ⟨Nat.lt_of_le_of_lt h (by decide), by decide⟩
      have bo : B 21 one := bB (by omega)
      have bi : B 21 i := bB (by omega)
      have bj : B 21 j := bB (by omega)
      refine ⟨_, rfl, unq3 (Ti.q hL) ?_⟩
      refine ⟨_, rfl, _, rfl, _, _, rfl, rfl, mulB bo bi (by decide), _, rfl, _, rfl, _, _, rfl, rfl, mulB bo bj (by decide), sl2, fun t nt => ?_⟩
      refine q t _ _ _ (e.trans (Ex0.new nt)) upd_same ?_ ?_ ?_
      · rcases f1 with rfl | rfl <;> grind
      · rcases f1 with rfl | rfl <;> omega
      · rcases f1 with rfl | rfl <;> omega
theorem ok_is_maker (T : Txt K mg C_Form C_Ring C_Element) : Def P w K mg base 4 "is_maker" ["coefficients", "value"] (sp_is_maker K C_Form C_Ring C_Element) := by
  obtain ⟨f_, fd_, g_, F_⟩ := T.d_is_maker
  obtain ⟨f_are_short_integers, fd_are_short_integers, g_are_short_integers, k_are_short_integers, b_are_short_integers, G_are_short_integers⟩ := (ok_are_short_integers (P := P) (w := w) (base := base) T)
  obtain ⟨f_form_value, fd_form_value, g_form_value, k_form_value, b_form_value, G_form_value⟩ := (ok_form_value (P := P) (w := w) (base := base) T)
  refine ⟨f_, fd_, g_, F_.kp, F_.binds (ps := ["coefficients", "value"]) (fun _ _ _ _ _ _ us hl => match us, hl with | [_, _], _ => rfl), ?_⟩
  refine F_.ok sc_is_maker (fun vs H Q E h => ?_) (fun cdv A outer s H vs Q E hr h => ?_)
  · first | (obtain ⟨rfl, _⟩ := h; rfl) | (obtain ⟨_, rfl, _⟩ := h; rfl) | (obtain ⟨_, _, rfl, _⟩ := h; rfl) | (obtain ⟨_, _, _, rfl, _⟩ := h; rfl) | (obtain ⟨_, _, _, _, rfl, _⟩ := h; rfl) | (obtain ⟨_, _, _, _, _, rfl, _⟩ := h; rfl) | (obtain ⟨_, _, _, _, _, _, rfl, _⟩ := h; rfl) | (obtain ⟨_, _, _, _, _, _, _, rfl, _⟩ := h; rfl) | (obtain ⟨_, _, _, _, _, _, _, _, rfl, _⟩ := h; rfl) | (obtain ⟨_, _, _, _, _, _, _, _, _, rfl, _⟩ := h; rfl) | (obtain ⟨_, _, _, _, _, _, _, _, _, _, rfl, _⟩ := h; rfl) | (obtain ⟨_, _, _, _, _, _, _, _, _, _, _, rfl, _⟩ := h; rfl) | (obtain ⟨_, _, _, _, _, _, _, _, _, _, _, _, rfl, _⟩ := h; rfl) | (obtain ⟨_, _, _, _, _, _, _, _, _, _, _, _, _, rfl, _⟩ := h; rfl) | (obtain ⟨_, _, _, _, _, _, _, _, _, _, _, _, _, _, rfl, _⟩ := h; rfl) | (obtain ⟨_, _, _, _, _, _, _, _, _, _, _, _, _, _, _, rfl, _⟩ := h; rfl) | (obtain ⟨_, _, _, _, _, _, _, _, _, _, _, _, _, _, _, _, rfl, _⟩ := h; rfl) | (obtain ⟨_, _, _, _, _, _, _, _, _, _, _, _, _, _, _, _, _, rfl, _⟩ := h; rfl) | (obtain ⟨_, _, _, _, _, _, _, _, _, _, _, _, _, _, _, _, _, _, rfl, _⟩ := h; rfl) | (obtain ⟨_, _, _, _, _, _, _, _, _, _, _, _, _, _, _, _, _, _, _, rfl, _⟩ := h; rfl) | (obtain ⟨_, _, _, _, _, _, _, _, _, _, _, _, _, _, _, _, _, _, _, _, rfl, _⟩ := h; rfl) | (obtain ⟨_, _, _, _, _, _, _, _, _, _, _, _, _, _, _, _, _, _, _, _, _, rfl, _⟩ := h; rfl) | (obtain ⟨_, _, _, _, _, _, _, _, _, _, _, _, _, _, _, _, _, _, _, _, _, _, rfl, _⟩ := h; rfl) | (obtain ⟨_, _, _, _, _, _, _, _, _, _, _, _, _, _, _, _, _, _, _, _, _, _, _, rfl, _⟩ := h; rfl)
  · obtain ⟨t, u, a, b, c, d, x, y, rfl, ht, hu, bz, sx, sy, hm, q⟩ := h
    refine ⟨_, (pss_one (ps_ret (pe_and (pe_call G_are_short_integers (hr.mono (by decide)) (by rfl) g_are_short_integers k_are_short_integers b_are_short_integers .nil pass0 (pa_cons (pv 1) (pa_cons pe_int pa_nil))) (pe_one (pe_cmpR op_in_seq (pe_call G_form_value (hr.mono (by decide)) (by rfl) g_form_value k_form_value b_form_value .nil pass0 (pa_cons (pv 0) (pa_cons (pe_ix ix_tup (pv 1) pe_int (fun _ _ => rfl)) (pa_cons (pe_ix ix_tup (pv 1) pe_int (fun _ _ => rfl)) pa_nil)))) (pe_tup (pa_cons pe_int (pa_cons (pe_un un_neg pe_int) pa_nil))) (by with_unfolding_all rfl)))))), ?_⟩
    refine ⟨_, rfl, u, [x, y], rfl, hu, by show 2 ≤ 1000; decide, fun n hn => ?_, fun H1 e1 => ⟨_, rfl, iteT ?_⟩⟩
    · simp only [List.mem_cons, List.mem_nil_iff, or_false] at hn
      rcases hn with rfl | rfl <;> assumption
    have hu1 := Ex0.ap e1 hu
    refine ⟨_, rfl, _, rfl, u, _, 0, .int x, rfl, rfl, SqT.of hu1, rfl, _, rfl, u, _, 1, .int y, rfl, rfl, SqT.of hu1, rfl, t, a, b, c, d, x, y, rfl, Ex0.ti e1 ht, bz.1, bz.2.1, bz.2.2.1, bz.2.2.2, sx.b, sy.b, _, rfl, sl2, fun z nz => ?_⟩
    refine ⟨z, _, rfl, .inr (SqT.of upd_same), rfl, rfl, ?_⟩
    have e2 : inV (.int (fv a b c d x y)) [.int 1, .int (-1)] = true := by
      have hm := of_decide_eq_true hm
      show ((1 : Int) == fv a b c d x y || ((-1 : Int) == fv a b c d x y || false)) = true
      generalize fv a b c d x y = v at hm
      simp only [Bool.or_false, Bool.or_eq_true, beq_iff_eq]
      omega
    show Q (.bl (inV (.int (fv a b c d x y)) [.int 1, .int (-1)])) _
    rw [e2]
    exact q _ (e1.trans (Ex0.new nz))
theorem ok_check_maker (T : Txt K mg C_Form C_Ring C_Element) : Def P w K mg base 5 "check_maker" ["form", "pair"] (sp_check_maker K C_Form C_Ring C_Element) := by
  obtain ⟨f_, fd_, g_, F_⟩ := T.d_check_maker
  obtain ⟨p_Form_coefficients, f_Form_coefficients, fd_Form_coefficients, R_Form_coefficients, b_Form_coefficients, G_Form_coefficients⟩ := (ok_Form_coefficients (P := P) (w := w) (base := base) T)
  obtain ⟨f_check_form, fd_check_form, g_check_form, k_check_form, b_check_form, G_check_form⟩ := (ok_check_form (P := P) (w := w) (base := base) T)
  obtain ⟨f_is_maker, fd_is_maker, g_is_maker, k_is_maker, b_is_maker, G_is_maker⟩ := (ok_is_maker (P := P) (w := w) (base := base) T)
  refine ⟨f_, fd_, g_, F_.kp, F_.binds (ps := ["form", "pair"]) (fun _ _ _ _ _ _ us hl => match us, hl with | [_, _], _ => rfl), ?_⟩
  refine F_.ok sc_check_maker (fun vs H Q E h => ?_) (fun cdv A outer s H vs Q E hr h => ?_)
  · first | (obtain ⟨rfl, _⟩ := h; rfl) | (obtain ⟨_, rfl, _⟩ := h; rfl) | (obtain ⟨_, _, rfl, _⟩ := h; rfl) | (obtain ⟨_, _, _, rfl, _⟩ := h; rfl) | (obtain ⟨_, _, _, _, rfl, _⟩ := h; rfl) | (obtain ⟨_, _, _, _, _, rfl, _⟩ := h; rfl) | (obtain ⟨_, _, _, _, _, _, rfl, _⟩ := h; rfl) | (obtain ⟨_, _, _, _, _, _, _, rfl, _⟩ := h; rfl) | (obtain ⟨_, _, _, _, _, _, _, _, rfl, _⟩ := h; rfl) | (obtain ⟨_, _, _, _, _, _, _, _, _, rfl, _⟩ := h; rfl) | (obtain ⟨_, _, _, _, _, _, _, _, _, _, rfl, _⟩ := h; rfl) | (obtain ⟨_, _, _, _, _, _, _, _, _, _, _, rfl, _⟩ := h; rfl) | (obtain ⟨_, _, _, _, _, _, _, _, _, _, _, _, rfl, _⟩ := h; rfl) | (obtain ⟨_, _, _, _, _, _, _, _, _, _, _, _, _, rfl, _⟩ := h; rfl) | (obtain ⟨_, _, _, _, _, _, _, _, _, _, _, _, _, _, rfl, _⟩ := h; rfl) | (obtain ⟨_, _, _, _, _, _, _, _, _, _, _, _, _, _, _, rfl, _⟩ := h; rfl) | (obtain ⟨_, _, _, _, _, _, _, _, _, _, _, _, _, _, _, _, rfl, _⟩ := h; rfl) | (obtain ⟨_, _, _, _, _, _, _, _, _, _, _, _, _, _, _, _, _, rfl, _⟩ := h; rfl) | (obtain ⟨_, _, _, _, _, _, _, _, _, _, _, _, _, _, _, _, _, _, rfl, _⟩ := h; rfl) | (obtain ⟨_, _, _, _, _, _, _, _, _, _, _, _, _, _, _, _, _, _, _, rfl, _⟩ := h; rfl) | (obtain ⟨_, _, _, _, _, _, _, _, _, _, _, _, _, _, _, _, _, _, _, _, rfl, _⟩ := h; rfl) | (obtain ⟨_, _, _, _, _, _, _, _, _, _, _, _, _, _, _, _, _, _, _, _, _, rfl, _⟩ := h; rfl) | (obtain ⟨_, _, _, _, _, _, _, _, _, _, _, _, _, _, _, _, _, _, _, _, _, _, rfl, _⟩ := h; rfl) | (obtain ⟨_, _, _, _, _, _, _, _, _, _, _, _, _, _, _, _, _, _, _, _, _, _, _, rfl, _⟩ := h; rfl)
  · obtain ⟨f, u, a, b, c, d, x, y, rfl, hf, hu, bz, sx, sy, hm, q⟩ := h
    refine ⟨_, (pss_cons (ps_expr (pe_call G_check_form (hr.mono (by decide)) (by rfl) g_check_form k_check_form b_check_form .nil pass0 (pa_cons (pv 0) pa_nil)))
    (pss_one (ps_if (pt_not (pt_val (pe_call G_is_maker (hr.mono (by decide)) (by rfl) g_is_maker k_is_maker b_is_maker .nil pass0 (pa_cons (pe_prop (pv 0) T.cl_Form R_Form_coefficients G_Form_coefficients (hr.mono (by decide)) b_Form_coefficients .nil pass0 (by rfl)) (pa_cons (pv 1) pa_nil)))))
      pss_never
      pss_nil))), ?_⟩
    obtain ⟨df, tf, hf1, hf2⟩ := id hf
    refine ⟨_, rfl, f, _, rfl, hf, ?_⟩
    refine ⟨_, rfl, f, df, _, rfl, hf1, f, _, rfl, hf, fun t ht => ?_⟩
    refine ⟨_, rfl, t, u, a, b, c, d, x, y, rfl, ht, hu, bz, sx, sy, hm, fun H1 e1 => ⟨_, rfl, iteF ?_⟩⟩
    exact q H1 e1
theorem ok_maker_way (T : Txt K mg C_Form C_Ring C_Element) : Def P w K mg base 6 "maker_way" ["form", "pair"] (sp_maker_way K C_Form C_Ring C_Element) := by
  obtain ⟨f_, fd_, g_, F_⟩ := T.d_maker_way
  obtain ⟨p_Form_coefficients, f_Form_coefficients, fd_Form_coefficients, R_Form_coefficients, b_Form_coefficients, G_Form_coefficients⟩ := (ok_Form_coefficients (P := P) (w := w) (base := base) T)
  obtain ⟨f_check_maker, fd_check_maker, g_check_maker, k_check_maker, b_check_maker, G_check_maker⟩ := (ok_check_maker (P := P) (w := w) (base := base) T)
  obtain ⟨f_cofactors, fd_cofactors, g_cofactors, k_cofactors, b_cofactors, G_cofactors⟩ := (ok_cofactors (P := P) (w := w) (base := base) T)
  obtain ⟨f_form_value, fd_form_value, g_form_value, k_form_value, b_form_value, G_form_value⟩ := (ok_form_value (P := P) (w := w) (base := base) T)
  refine ⟨f_, fd_, g_, F_.kp, F_.binds (ps := ["form", "pair"]) (fun _ _ _ _ _ _ us hl => match us, hl with | [_, _], _ => rfl), ?_⟩
  refine F_.ok sc_maker_way (fun vs H Q E h => ?_) (fun cdv A outer s H vs Q E hr h => ?_)
  · first | (obtain ⟨rfl, _⟩ := h; rfl) | (obtain ⟨_, rfl, _⟩ := h; rfl) | (obtain ⟨_, _, rfl, _⟩ := h; rfl) | (obtain ⟨_, _, _, rfl, _⟩ := h; rfl) | (obtain ⟨_, _, _, _, rfl, _⟩ := h; rfl) | (obtain ⟨_, _, _, _, _, rfl, _⟩ := h; rfl) | (obtain ⟨_, _, _, _, _, _, rfl, _⟩ := h; rfl) | (obtain ⟨_, _, _, _, _, _, _, rfl, _⟩ := h; rfl) | (obtain ⟨_, _, _, _, _, _, _, _, rfl, _⟩ := h; rfl) | (obtain ⟨_, _, _, _, _, _, _, _, _, rfl, _⟩ := h; rfl) | (obtain ⟨_, _, _, _, _, _, _, _, _, _, rfl, _⟩ := h; rfl) | (obtain ⟨_, _, _, _, _, _, _, _, _, _, _, rfl, _⟩ := h; rfl) | (obtain ⟨_, _, _, _, _, _, _, _, _, _, _, _, rfl, _⟩ := h; rfl) | (obtain ⟨_, _, _, _, _, _, _, _, _, _, _, _, _, rfl, _⟩ := h; rfl) | (obtain ⟨_, _, _, _, _, _, _, _, _, _, _, _, _, _, rfl, _⟩ := h; rfl) | (obtain ⟨_, _, _, _, _, _, _, _, _, _, _, _, _, _, _, rfl, _⟩ := h; rfl) | (obtain ⟨_, _, _, _, _, _, _, _, _, _, _, _, _, _, _, _, rfl, _⟩ := h; rfl) | (obtain ⟨_, _, _, _, _, _, _, _, _, _, _, _, _, _, _, _, _, rfl, _⟩ := h; rfl) | (obtain ⟨_, _, _, _, _, _, _, _, _, _, _, _, _, _, _, _, _, _, rfl, _⟩ := h; rfl) | (obtain ⟨_, _, _, _, _, _, _, _, _, _, _, _, _, _, _, _, _, _, _, rfl, _⟩ := h; rfl) | (obtain ⟨_, _, _, _, _, _, _, _, _, _, _, _, _, _, _, _, _, _, _, _, rfl, _⟩ := h; rfl) | (obtain ⟨_, _, _, _, _, _, _, _, _, _, _, _, _, _, _, _, _, _, _, _, _, rfl, _⟩ := h; rfl) | (obtain ⟨_, _, _, _, _, _, _, _, _, _, _, _, _, _, _, _, _, _, _, _, _, _, rfl, _⟩ := h; rfl) | (obtain ⟨_, _, _, _, _, _, _, _, _, _, _, _, _, _, _, _, _, _, _, _, _, _, _, rfl, _⟩ := h; rfl)
  · obtain ⟨f, u, a, b, c, d, x, y, rfl, hf, hu, bz, hx, hy, hm, q⟩ := h
    refine ⟨_, (pss_cons (ps_expr (pe_call G_check_maker (hr.mono (by decide)) (by rfl) g_check_maker k_check_maker b_check_maker .nil pass0 (pa_cons (pv 0) (pa_cons (pv 1) pa_nil))))
    (pss_cons (ps_asg (pv 1) (pg_tup (by rfl) (pgs_cons (pg_name (i := 2) sc_maker_way.nd rfl (.inl rfl)) (pgs_cons (pg_name (i := 3) sc_maker_way.nd rfl (.inl rfl)) pgs_nil))))
    (pss_cons (ps_set (i := 4) sc_maker_way.nd rfl (.inl rfl) (pe_call G_form_value (hr.mono (by decide)) (by rfl) g_form_value k_form_value b_form_value .nil pass0 (pa_cons (pe_prop (pv 0) T.cl_Form R_Form_coefficients G_Form_coefficients (hr.mono (by decide)) b_Form_coefficients .nil pass0 (by rfl)) (pa_cons (pv 2) (pa_cons (pv 3) pa_nil)))))
    (pss_cons (ps_asg (pe_call G_cofactors (hr.mono (by decide)) (by rfl) g_cofactors k_cofactors b_cofactors .nil pass0 (pa_cons (pv 2) (pa_cons (pv 3) pa_nil))) (pg_tup (by rfl) (pgs_cons (pg_name (i := 5) sc_maker_way.nd rfl (.inl rfl)) (pgs_cons (pg_name (i := 6) sc_maker_way.nd rfl (.inl rfl)) pgs_nil))))
    (pss_one (ps_ret (pe_tup (pa_cons (pe_tup (pa_cons (pv 2) (pa_cons (pv 3) pa_nil))) (pa_cons (pe_tup (pa_cons (pe_op op_mulW (pe_un un_neg (pv 4)) (pv 6)) (pa_cons (pe_op op_mulW (pv 4) (pv 5)) pa_nil))) pa_nil))))))))), ?_⟩
    have sx : Short x := ⟨by omega, by omega⟩
    have sy : Short y := ⟨by omega, by omega⟩
    refine ⟨_, rfl, _, rfl, f, u, a, b, c, d, x, y, rfl, hf, hu, bz, sx, sy, hm, fun H1 e1 => ?_⟩
    have hu1 := Ex0.ap e1 hu
    have hf1 := Ex0.fo e1 hf
    obtain ⟨df, tf, hf2, hf3⟩ := id hf1
    refine ⟨_, rfl, u, _, rfl, SqT.of hu1, rfl, _, _, rfl, _, _, rfl, rfl, ?_⟩
    refine ⟨_, rfl, f, df, _, rfl, hf2, f, _, rfl, hf1, fun t ht => ?_⟩
    refine ⟨_, rfl, _, rfl, t, a, b, c, d, x, y, rfl, ht, bz.1, bz.2.1, bz.2.2.1, bz.2.2.2, sx.b, sy.b, ?_⟩
    have hv := of_decide_eq_true hm
    have gc := mk1_gcd hm
    generalize fv a b c d x y = v at hv q ⊢
    refine ⟨_, rfl, _, rfl, x, y, rfl, hx, hy, gc, fun t2 H2 i j e2 ht2 hij bi bj => ?_⟩
    refine ⟨t2, _, rfl, SqT.of ht2, rfl, _, _, rfl, _, _, rfl, rfl, ?_⟩
    have bB : ∀ {z : Int}, z.natAbs ≤ 2000000 → B 21 z := fun h => ⟨Nat.lt_of_le_of_lt h (by decide), by decide⟩
    refine ⟨_, rfl, _, rfl, sl2, fun t3 n3 => ?_⟩
    refine ⟨_, rfl, _, rfl, _, rfl, _, _, rfl, rfl, mulB (bB (z := -v) (by omega)) (bB bj) (by decide), _, rfl, _, rfl, _, _, rfl, rfl, mulB (bB (z := v) (by omega)) (bB bi) (by decide), sl2, fun t4 n4 => ⟨sl2, fun t5 n5 => ?_⟩⟩
    have e3 := Ex0.new (o := .tup [.int x, .int y]) n3
    have e4 := Ex0.new (o := .tup [.int (-v * j), .int (v * i)]) n4
    have e5 := Ex0.new (o := .tup [.ref t3, .ref t4]) n5
    refine q t5 _ (-v * j) (v * i) (e1.trans (e2.trans (e3.trans (e4.trans e5)))) ⟨t3, t4, upd_same, Ex0.ap (e4.trans e5) upd_same, Ex0.ap e5 upd_same⟩ ?_ ?_ ?_
    · rcases hv with rfl | rfl
      · grind
      · grind
    · rcases hv with rfl | rfl <;> omega
    · rcases hv with rfl | rfl <;> omega
theorem ok_is_maker_way (T : Txt K mg C_Form C_Ring C_Element) : Def P w K mg base 6 "is_maker_way" ["form", "pair", "value"] (sp_is_maker_way K C_Form C_Ring C_Element) := by
  obtain ⟨f_, fd_, g_, F_⟩ := T.d_is_maker_way
  obtain ⟨p_Form_coefficients, f_Form_coefficients, fd_Form_coefficients, R_Form_coefficients, b_Form_coefficients, G_Form_coefficients⟩ := (ok_Form_coefficients (P := P) (w := w) (base := base) T)
  obtain ⟨f_check_maker, fd_check_maker, g_check_maker, k_check_maker, b_check_maker, G_check_maker⟩ := (ok_check_maker (P := P) (w := w) (base := base) T)
  obtain ⟨f_determinant_of, fd_determinant_of, g_determinant_of, k_determinant_of, b_determinant_of, G_determinant_of⟩ := (ok_determinant_of (P := P) (w := w) (base := base) T)
  obtain ⟨f_form_value, fd_form_value, g_form_value, k_form_value, b_form_value, G_form_value⟩ := (ok_form_value (P := P) (w := w) (base := base) T)
  obtain ⟨f_is_change, fd_is_change, g_is_change, k_is_change, b_is_change, G_is_change⟩ := (ok_is_change (P := P) (w := w) (base := base) T)
  refine ⟨f_, fd_, g_, F_.kp, F_.binds (ps := ["form", "pair", "value"]) (fun _ _ _ _ _ _ us hl => match us, hl with | [_, _, _], _ => rfl), ?_⟩
  refine F_.ok sc_is_maker_way (fun vs H Q E h => ?_) (fun cdv A outer s H vs Q E hr h => ?_)
  · first | (obtain ⟨rfl, _⟩ := h; rfl) | (obtain ⟨_, rfl, _⟩ := h; rfl) | (obtain ⟨_, _, rfl, _⟩ := h; rfl) | (obtain ⟨_, _, _, rfl, _⟩ := h; rfl) | (obtain ⟨_, _, _, _, rfl, _⟩ := h; rfl) | (obtain ⟨_, _, _, _, _, rfl, _⟩ := h; rfl) | (obtain ⟨_, _, _, _, _, _, rfl, _⟩ := h; rfl) | (obtain ⟨_, _, _, _, _, _, _, rfl, _⟩ := h; rfl) | (obtain ⟨_, _, _, _, _, _, _, _, rfl, _⟩ := h; rfl) | (obtain ⟨_, _, _, _, _, _, _, _, _, rfl, _⟩ := h; rfl) | (obtain ⟨_, _, _, _, _, _, _, _, _, _, rfl, _⟩ := h; rfl) | (obtain ⟨_, _, _, _, _, _, _, _, _, _, _, rfl, _⟩ := h; rfl) | (obtain ⟨_, _, _, _, _, _, _, _, _, _, _, _, rfl, _⟩ := h; rfl) | (obtain ⟨_, _, _, _, _, _, _, _, _, _, _, _, _, rfl, _⟩ := h; rfl) | (obtain ⟨_, _, _, _, _, _, _, _, _, _, _, _, _, _, rfl, _⟩ := h; rfl) | (obtain ⟨_, _, _, _, _, _, _, _, _, _, _, _, _, _, _, rfl, _⟩ := h; rfl) | (obtain ⟨_, _, _, _, _, _, _, _, _, _, _, _, _, _, _, _, rfl, _⟩ := h; rfl) | (obtain ⟨_, _, _, _, _, _, _, _, _, _, _, _, _, _, _, _, _, rfl, _⟩ := h; rfl) | (obtain ⟨_, _, _, _, _, _, _, _, _, _, _, _, _, _, _, _, _, _, rfl, _⟩ := h; rfl) | (obtain ⟨_, _, _, _, _, _, _, _, _, _, _, _, _, _, _, _, _, _, _, rfl, _⟩ := h; rfl) | (obtain ⟨_, _, _, _, _, _, _, _, _, _, _, _, _, _, _, _, _, _, _, _, rfl, _⟩ := h; rfl) | (obtain ⟨_, _, _, _, _, _, _, _, _, _, _, _, _, _, _, _, _, _, _, _, _, rfl, _⟩ := h; rfl) | (obtain ⟨_, _, _, _, _, _, _, _, _, _, _, _, _, _, _, _, _, _, _, _, _, _, rfl, _⟩ := h; rfl) | (obtain ⟨_, _, _, _, _, _, _, _, _, _, _, _, _, _, _, _, _, _, _, _, _, _, _, rfl, _⟩ := h; rfl)
  · obtain ⟨f, u, v, a, b, c, d, x, y, o, rfl, hf, hu, bz, sx, sy, hm, hv, hB, q⟩ := h
    refine ⟨_, (pss_cons (ps_expr (pe_call G_check_maker (hr.mono (by decide)) (by rfl) g_check_maker k_check_maker b_check_maker .nil pass0 (pa_cons (pv 0) (pa_cons (pv 1) pa_nil))))
    (pss_cons (ps_if (PW.pt (pw_or (pt_not (pt_val (pe_call G_is_change (hr.mono (by decide)) (by rfl) g_is_change k_is_change b_is_change .nil pass0 (pa_cons (pv 2) pa_nil)))) (pw_or1 (pt_cmpR (op_neD hr.units) (pe_ix ix_tup (pv 2) pe_int (fun _ _ => rfl)) (pv 1) (nomark _)))))
      (pss_one (ps_ret pe_bl))
      pss_nil)
    (pss_one (ps_ret (pe_cmpR op_eq (pe_call G_determinant_of (hr.mono (by decide)) (by rfl) g_determinant_of k_determinant_of b_determinant_of .nil pass0 (pa_cons (pv 2) pa_nil)) (pe_call G_form_value (hr.mono (by decide)) (by rfl) g_form_value k_form_value b_form_value .nil pass0 (pa_cons (pe_prop (pv 0) T.cl_Form R_Form_coefficients G_Form_coefficients (hr.mono (by decide)) b_Form_coefficients .nil pass0 (by rfl)) (pa_cons (pe_ix ix_tup (pv 1) pe_int (fun _ _ => rfl)) (pa_cons (pe_ix ix_tup (pv 1) pe_int (fun _ _ => rfl)) pa_nil)))) (nomark _)))))), ?_⟩
    refine ⟨_, rfl, _, rfl, f, u, a, b, c, d, x, y, rfl, hf, hu, bz, sx, sy, hm, fun H1 e1 => ?_⟩
    have hu1 := Ex0.ap e1 hu
    have hf1 := Ex0.fo e1 hf
    have hv1 := hv.ex e1
    refine ⟨_, rfl, v, o, rfl, hv1, hB, fun H2 e2 => ⟨_, rfl, ?_⟩⟩
    have e12 := e1.trans e2
    have hq := q H2 e12
    cases hgo : good o with
    | false =>
      refine iteT ?_
      have : wayB o x y (fv a b c d x y) = false := by
        cases o with
        | none => rfl
        | some z =>
          obtain ⟨p, q', r, s'⟩ := z
          exact decide_eq_false fun h => by
            have := of_decide_eq_false hgo
            exact this h.1
      rw [this] at hq
      exact hq
    | true =>
      cases o with
      | none => cases hgo
      | some z =>
        obtain ⟨p, q', r, s'⟩ := z
        have hd : p * s' - q' * r = 1 ∨ p * s' - q' * r = -1 := of_decide_eq_true hgo
        obtain ⟨bp, bq, br, bs⟩ := hB p q' r s' rfl
        obtain ⟨a0, t1, t2, rfl, h0, h1, h2⟩ := (hv1.ex e2).t4
        have hu2 := Ex0.ap e2 hu1
        have hf2 := Ex0.fo e2 hf1
        obtain ⟨df, tf, hf3, hf4⟩ := id hf2
        have h4 : T4 H2 a0 p q' r s' := ⟨t1, t2, h0, h1, h2⟩
        refine ⟨_, rfl, a0, _, 0, .ref t1, rfl, rfl, SqT.of h0, rfl, _, rfl, ?_⟩
        refine ⟨.tuple (([p, q'] : List Int).map .int), .tuple (([x, y] : List Int).map .int), .tup (SqT.of h1) (dp_ints [p, q']), .tup (SqT.of hu2) (dp_ints [x, y]), shaped_tints _, shaped_tints _, ?_⟩
        rw [PyData.eqv, eqv_ints]
        by_cases hpq : p = x ∧ q' = y
        · obtain ⟨rfl, rfl⟩ := hpq
          rw [decide_eq_true rfl]
          refine ⟨_, rfl, iteF ?_⟩
          refine ⟨_, rfl, a0, p, q', r, s', rfl, h4, bp, bq, br, bs, ?_⟩
          refine ⟨_, rfl, f, df, _, rfl, hf3, f, _, rfl, hf2, fun t ht => ?_⟩
          refine ⟨_, rfl, u, _, 0, .int p, rfl, rfl, SqT.of hu2, rfl, _, rfl, u, _, 1, .int q', rfl, rfl, SqT.of hu2, rfl, t, a, b, c, d, p, q', rfl, ht, bz.1, bz.2.1, bz.2.2.1, bz.2.2.2, sx.b, sy.b, ?_⟩
          have e : wayB (some (p, q', r, s')) p q' (fv a b c d p q') = decide (V.int (p * s' - q' * r) = V.int (fv a b c d p q')) := decide_eq_decide.mpr ⟨fun z => congrArg V.int z.2.2.2, fun z => ⟨hd, rfl, rfl, V.int.inj z⟩⟩
          rw [e] at hq
          exact ⟨rfl, hq⟩
        · rw [decide_eq_false (fun z => hpq (by injection z with z1 z; injection z with z2; exact ⟨z1, z2⟩))]
          refine ⟨_, rfl, iteT ?_⟩
          have e : wayB (some (p, q', r, s')) x y (fv a b c d x y) = false := decide_eq_false fun z => hpq ⟨z.2.1, z.2.2.1⟩
          rw [e] at hq
          exact hq
end
end RG
namespace RG
open PySem PySem.Spec PyProof.Rows L2 Fr
open K05M (fv fl2 fl3 fdisc)
def sp_l_is_way (_ : PySem.W.Frag) (_ _ _ : Addr) : Sp := fun vs H Q _ => ∃ (t u : Addr) (v : V) (a b c d x y : Int) (o : Option (Int × Int × Int × Int)), vs = [.ref t, .ref u, v] ∧ Ti H t [a, b, c, d] ∧ Pq H u x y ∧ B4 400 a b c d ∧ ChV H v o ∧ OB o ∧ mk1 a b c d x y = true ∧ ∀ H', Ex0 H H' → Q (.bl (wayB o x y (fv a b c d x y))) H'
def sp_l_short_way (_ : PySem.W.Frag) (_ _ _ : Addr) : Sp := fun vs H Q _ => ∃ (t u : Addr) (a b c d x y : Int), vs = [.ref t, .ref u] ∧ Ti H t [a, b, c, d] ∧ Pq H u x y ∧ B4 400 a b c d ∧ x.natAbs ≤ 1000 ∧ y.natAbs ≤ 1000 ∧ mk1 a b c d x y = true ∧ ∀ w H' r s, Ex0 H H' → T4 H' w x y r s → x * s - y * r = fv a b c d x y → r.natAbs ≤ 2000000 → s.natAbs ≤ 2000000 → Q (.ref w) H'
def sp_l_near (_ : PySem.W.Frag) (_ _ _ : Addr) : Sp := fun vs H Q _ => ∃ (c w : Addr) (x y r s : Int), vs = [.ref c, .ref w] ∧ Vat c H ∧ T4 H w x y r s ∧ x.natAbs ≤ 1000 ∧ y.natAbs ≤ 1000 ∧ r.natAbs ≤ 2000000 ∧ s.natAbs ≤ 2000000 ∧ ∀ l H' ws, Fv c H H' → H' l = some (.lst ws) → ws.length ≤ 100 → (∀ v ∈ ws, ∃ o, ChV H' v o ∧ OB o) → Q (.ref l) H'
def nint : V → Bool
  | .int _ => false
  | _ => true
theorem Od.nint {H : Hp} {v : V} (h : Od H v) : RG.nint v = true := by
  cases h <;> rfl
def GV (H : Hp) (ws : List V) : Prop := ∀ v ∈ ws, ∃ o, ChV H v o ∧ OB o
theorem GV.nil {H : Hp} : GV H [] := fun v h => by cases h
theorem GV.cons {H : Hp} {v : V} {ws : List V} {o : Option (Int × Int × Int × Int)} (h : ChV H v o) (b : OB o) (g : GV H ws) : GV H (v :: ws) := fun u hu => by
  rcases List.mem_cons.mp hu with rfl | hu
  · exact ⟨o, h, b⟩
  · exact g u hu
theorem GV.app {H : Hp} {vs ws : List V} (h : GV H vs) (g : GV H ws) : GV H (vs ++ ws) := fun u hu => by
  rcases List.mem_append.mp hu with hu | hu
  · exact h u hu
  · exact g u hu
theorem GV.ex {H H' : Hp} {ws : List V} (e : Ex0 H H') (g : GV H ws) : GV H' ws := fun u hu => by
  obtain ⟨o, h, b⟩ := g u hu
  exact ⟨o, h.ex e, b⟩
theorem ob4 {p q r s : Int} (bp : B 300 p) (bq : B 300 q) (br : B 300 r) (bs : B 300 s) : OB (some (p, q, r, s)) := fun p' q' r' s' h => by
  injection h with h
  injection h with h1 h
  injection h with h2 h
  injection h with h3 h4
  subst h1 h2 h3 h4
  exact ⟨bp, bq, br, bs⟩
theorem ob0 : OB none := fun _ _ _ _ h => by cases h
theorem ob2 {o : Option (Int × Int)} : OB (two4 o none) := by
  cases o <;> exact ob0
theorem T4.ch {H : Hp} {a : Addr} {p q r s : Int} (h : T4 H a p q r s) : ChV H (.ref a) (some (p, q, r, s)) := by
  obtain ⟨t1, t2, h0, h1, h2⟩ := h
  exact .two h0 (.yes h1) (.yes h2)
theorem ch_new {H : Hp} {a1 a2 a3 : Addr} {X Y : List V} {o1 o2 : Option (Int × Int)} (n1 : H a1 = none) (n2 : upd H a1 (.tup X) a2 = none) (n3 : upd (upd H a1 (.tup X)) a2 (.tup Y) a3 = none) (r1 : ∀ H', H' a1 = some (.tup X) → RowV H' (.ref a1) o1) (r2 : ∀ H', H' a2 = some (.tup Y) → RowV H' (.ref a2) o2) :
    Ex0 H (upd (upd (upd H a1 (.tup X)) a2 (.tup Y)) a3 (.tup [.ref a1, .ref a2])) ∧ ChV (upd (upd (upd H a1 (.tup X)) a2 (.tup Y)) a3 (.tup [.ref a1, .ref a2])) (.ref a3) (two4 o1 o2) :=
  ⟨((Ex0.new n1).trans (Ex0.new n2)).trans (Ex0.new n3), .two upd_same (r1 _ (Ex0.ap (Ex0.new n3) (Ex0.ap (Ex0.new n2) upd_same))) (r2 _ (Ex0.ap (Ex0.new n3) upd_same))⟩
section
variable {P : Program} {w : World} {K : PySem.W.Frag} {mg : Str → Option Value} {base : Heap} {C_Form C_Ring C_Element : Addr}
theorem ok_l_is_way (T : Txt K mg C_Form C_Ring C_Element) : Def P w K mg base 3 "_law_is_way" ["_law_numbers", "_law_pair", "_law_value_here"] (sp_l_is_way K C_Form C_Ring C_Element) := by
  obtain ⟨f_, fd_, g_, F_⟩ := T.d_l_is_way
  obtain ⟨f_l_led, fd_l_led, g_l_led, k_l_led, b_l_led, G_l_led⟩ := (ok_l_led (P := P) (w := w) (base := base) T)
  refine ⟨f_, fd_, g_, F_.kp, F_.binds (ps := ["_law_numbers", "_law_pair", "_law_value_here"]) (fun _ _ _ _ _ _ us hl => match us, hl with | [_, _, _], _ => rfl), ?_⟩
  refine F_.ok sc_l_is_way (fun vs H Q E h => ?_) (fun cdv A outer s H vs Q E hr h => ?_)
  · first | (obtain ⟨rfl, _⟩ := h; rfl) | (obtain ⟨_, rfl, _⟩ := h; rfl) | (obtain ⟨_, _, rfl, _⟩ := h; rfl) | (obtain ⟨_, _, _, rfl, _⟩ := h; rfl) | (obtain ⟨_, _, _, _, rfl, _⟩ := h; rfl) | (obtain ⟨_, _, _, _, _, rfl, _⟩ := h; rfl) | (obtain ⟨_, _, _, _, _, _, rfl, _⟩ := h; rfl) | (obtain ⟨_, _, _, _, _, _, _, rfl, _⟩ := h; rfl) | (obtain ⟨_, _, _, _, _, _, _, _, rfl, _⟩ := h; rfl) | (obtain ⟨_, _, _, _, _, _, _, _, _, rfl, _⟩ := h; rfl) | (obtain ⟨_, _, _, _, _, _, _, _, _, _, rfl, _⟩ := h; rfl) | (obtain ⟨_, _, _, _, _, _, _, _, _, _, _, rfl, _⟩ := h; rfl) | (obtain ⟨_, _, _, _, _, _, _, _, _, _, _, _, rfl, _⟩ := h; rfl) | (obtain ⟨_, _, _, _, _, _, _, _, _, _, _, _, _, rfl, _⟩ := h; rfl) | (obtain ⟨_, _, _, _, _, _, _, _, _, _, _, _, _, _, rfl, _⟩ := h; rfl) | (obtain ⟨_, _, _, _, _, _, _, _, _, _, _, _, _, _, _, rfl, _⟩ := h; rfl) | (obtain ⟨_, _, _, _, _, _, _, _, _, _, _, _, _, _, _, _, rfl, _⟩ := h; rfl) | (obtain ⟨_, _, _, _, _, _, _, _, _, _, _, _, _, _, _, _, _, rfl, _⟩ := h; rfl) | (obtain ⟨_, _, _, _, _, _, _, _, _, _, _, _, _, _, _, _, _, _, rfl, _⟩ := h; rfl) | (obtain ⟨_, _, _, _, _, _, _, _, _, _, _, _, _, _, _, _, _, _, _, rfl, _⟩ := h; rfl) | (obtain ⟨_, _, _, _, _, _, _, _, _, _, _, _, _, _, _, _, _, _, _, _, rfl, _⟩ := h; rfl) | (obtain ⟨_, _, _, _, _, _, _, _, _, _, _, _, _, _, _, _, _, _, _, _, _, rfl, _⟩ := h; rfl) | (obtain ⟨_, _, _, _, _, _, _, _, _, _, _, _, _, _, _, _, _, _, _, _, _, _, rfl, _⟩ := h; rfl) | (obtain ⟨_, _, _, _, _, _, _, _, _, _, _, _, _, _, _, _, _, _, _, _, _, _, _, rfl, _⟩ := h; rfl)
  · obtain ⟨t, u, v, a, b, c, d, x, y, o, rfl, ht, hu, bz, hv, hB, hm, q⟩ := h
    refine ⟨_, (pss_cons (ps_if (PW.pt (pw_or (pt_not (pt_val (pe_callB call_isi (by rfl) T.b_isinstance (by decide +kernel) (pa_cons (pv 2) (pa_cons (pe_bltn (v := .ty "tuple") (by rfl) T.b_tuple (by decide +kernel) rfl) pa_nil))))) (pw_or1 (pt_cmpR op_ne (pe_callB call_len_seq (by rfl) T.b_len PySem.boot_len (pa_cons (pv 2) pa_nil)) pe_int (nomark _)))))
      (pss_one (ps_ret pe_bl))
      pss_nil)
    (pss_cons (ps_for PassesOwn.never rfl (pi_tup (pv 2)) (pg_name (i := 3) sc_l_is_way.nd rfl (.inl rfl))
      (pss_cons (ps_if (PW.pt (pw_or (pt_not (pt_val (pe_callB call_isi (by rfl) T.b_isinstance (by decide +kernel) (pa_cons (pv 3) (pa_cons (pe_bltn (v := .ty "tuple") (by rfl) T.b_tuple (by decide +kernel) rfl) pa_nil))))) (pw_or1 (pt_cmpR op_ne (pe_callB call_len_seq (by rfl) T.b_len PySem.boot_len (pa_cons (pv 3) pa_nil)) pe_int (nomark _)))))
      (pss_one (ps_ret pe_bl))
      pss_nil)
    (pss_one (ps_if (pt_cmpR (op_neD hr.units) (pe_lc (own := [("_law_entry", 8)]) (g := (gName 8)) rfl sc_l_is_way.nd (pi_tup (pv 3)) (blkOk_by (N := N_l_is_way) (sc := defScope s_l_is_way) (by decide +kernel)) (fun _ _ _ _ _ => (pg_name (i := 8) sc_l_is_way.nd rfl (.inl rfl))) (fun _ _ _ _ _ => (pts_one (PW.pt (pw_or (pt_not (pt_val (pe_callB (call_isiKK (K := K) rfl) (by rfl) T.b_isinstance (by decide +kernel) (pa_cons (pv 8) (pa_cons (pe_bltn (v := .ty "int") (by rfl) T.b_int (by decide +kernel) rfl) pa_nil))))) (pw_or1 (pt_val (pe_callB (call_isiKK (K := K) rfl) (by rfl) T.b_isinstance (by decide +kernel) (pa_cons (pv 8) (pa_cons (pe_bltn (v := .ty "bool") (by rfl) T.b_bool (by decide +kernel) rfl) pa_nil))))))))) (fun _ _ _ _ _ => (pv 8))) (pe_lst pa_nil) (nomark _))
      (pss_one (ps_ret pe_bl))
      pss_nil))))
    (pss_cons (ps_asg (pv 2) (pg_tup (by rfl) (pgs_cons (pg_tup (by rfl) (pgs_cons (pg_name (i := 4) sc_l_is_way.nd rfl (.inl rfl)) (pgs_cons (pg_name (i := 5) sc_l_is_way.nd rfl (.inl rfl)) pgs_nil))) (pgs_cons (pg_tup (by rfl) (pgs_cons (pg_name (i := 6) sc_l_is_way.nd rfl (.inl rfl)) (pgs_cons (pg_name (i := 7) sc_l_is_way.nd rfl (.inl rfl)) pgs_nil))) pgs_nil))))
    (pss_cons (ps_if (PW.pt (pw_or (pt_cmpR op_notIn_seq (pe_op op_sub (pe_op op_mulW (pv 4) (pv 7)) (pe_op op_mulW (pv 5) (pv 6))) (pe_tup (pa_cons pe_int (pa_cons (pe_un un_neg pe_int) pa_nil))) (by with_unfolding_all rfl)) (pw_or1 (pt_cmpR (op_neD hr.units) (pe_tup (pa_cons (pv 4) (pa_cons (pv 5) pa_nil))) (pv 1) (nomark _)))))
      (pss_one (ps_ret pe_bl))
      pss_nil)
    (pss_one (ps_ret (pe_cmpR op_eq (pe_ix ix_tup (pe_call G_l_led (hr.mono (by decide)) (by rfl) g_l_led k_l_led b_l_led .nil pass0 (pa_cons (pv 0) (pa_cons (pv 2) pa_nil))) pe_int (fun _ _ => rfl)) pe_int (nomark _)))))))), ?_⟩
    rcases hv.cls (K := K) with ⟨a0, x0, y0, o1, o2, rfl, ha, hx, hy, rfl⟩ | ⟨t0, ty, kt, rfl⟩ | ⟨a0, xs, rfl, ha, hl, rfl⟩
    · refine ⟨_, rfl, _, _, _, _, true, rfl, .ty _, .base (.tup ha), kit_ty (by decide +kernel), _, rfl, ?_⟩
      refine iteF ⟨_, rfl, a0, _, rfl, .inr (SqT.of ha), rfl, _, rfl, ?_⟩
      refine ndF rfl ?_
      refine ⟨_, rfl, a0, rfl, ⟨_, SqT.of ha⟩, for_tup (xs := [x0, y0]) (fun n σ H' => ∃ (y3 : Option V), σ = [some (.ref t), some (.ref u), some (.ref a0), y3, none, none, none, none, none] ∧ Ex0 H H' ∧ (1 ≤ n → o1.isSome = true) ∧ (2 ≤ n → o2.isSome = true)) ⟨none, rfl, Ex0.refl H, fun h => absurd h (by decide), fun h => absurd h (by decide)⟩ (fun n σ H' _ ⟨_, _, e, _⟩ => SqT.of (Ex0.ap e ha)) ?_ ?_⟩
      · rintro n z σ H1 hz ⟨y3, rfl, e1, n1, n2⟩
        have gz : ∃ oz, RowV H z oz ∧ ((n = 0 ∧ oz = o1) ∨ (n = 1 ∧ oz = o2)) := by
          match n, hz with
          | 0, hz => exact ⟨o1, (Option.some.inj hz) ▸ hx, .inl ⟨rfl, rfl⟩⟩
          | 1, hz => exact ⟨o2, (Option.some.inj hz) ▸ hy, .inr ⟨rfl, rfl⟩⟩
        obtain ⟨oz, hoz, hn⟩ := gz
        have no : oz = none → ∀ H', Ex0 H H' → Q (.bl false) H' := fun h H' e' => by
          have hq := q H' e'
          have : two4 o1 o2 = none := by
            rcases hn with ⟨_, rfl⟩ | ⟨_, rfl⟩ <;> rw [h]
            · rfl
            · cases o1 <;> rfl
          rw [this] at hq
          exact hq
        rcases (hoz.ex e1).cls2 (K := K) with ⟨b0, p, q', rfl, hb, rfl⟩ | ⟨b0, x1, y1, i, w0, rfl, hb, od, hxy, rfl⟩ | ⟨t0, ty, kt, rfl⟩
        · refine ⟨_, rfl, _, _, _, _, true, rfl, .ty _, .base (.tup hb), kit_ty (by decide +kernel), _, rfl, ?_⟩
          refine iteF ⟨_, rfl, b0, _, rfl, .inr (SqT.of hb), rfl, _, rfl, ?_⟩
          refine ndF rfl ?_
          refine ⟨_, rfl, b0, rfl, ⟨_, SqT.of hb⟩, ?_⟩
          refine lcT fm0 trivial (SqT.of hb) (fun z => z) (fun i acc _ => acc = []) (fun _ _ => rfl) (fun D i z acc H' hD hz e hA hlen hp => ?_) (fun D H' acc hD e hA hp => ?_)
          · obtain ⟨k, hk, rfl⟩ := get_int (ns := [p, q']) hz
            refine ⟨rfl, ?_⟩
            refine ⟨_, rfl, _, _, _, _, true, rfl, .ty _, .base (.int k), kit_ty (by decide +kernel), _, rfl, iteF ?_⟩
            refine ⟨_, rfl, _, _, _, _, false, rfl, .ty _, .base (.int k), kit_ty (by decide +kernel), _, rfl, iteF ?_⟩
            exact cs_no fm0 trivial hD e hA hlen (Fx.refl trivial) hp
          · have hp' : acc = [] := hp
            subst hp'
            refine ⟨Nat.zero_le _, fun w nw => ?_⟩
            have ew := Ex0.new (o := .lst []) nw
            refine ⟨.list [], .list [], .lst (SqL.of (Ex0.ap ew hA)) .nil, .lst (SqL.of upd_same) .nil, by decide +kernel, by decide +kernel, ?_⟩
            have kk : PyData.eqv (.list []) (.list []) = true := by decide +kernel
            rw [kk]
            refine ⟨_, rfl, iteF ?_⟩
            refine ⟨_, rfl, e1.trans (Fx.trans e ew), fun _ => ?_, fun _ => ?_⟩
            · rcases hn with ⟨_, rfl⟩ | ⟨rfl, _⟩
              · rfl
              · exact n1 (by decide)
            · rcases hn with ⟨rfl, _⟩ | ⟨_, rfl⟩
              · omega
              · rfl
        · refine ⟨_, rfl, _, _, _, _, true, rfl, .ty _, .base (.tup hb), kit_ty (by decide +kernel), _, rfl, ?_⟩
          refine iteF ⟨_, rfl, b0, _, rfl, .inr (SqT.of hb), rfl, _, rfl, ?_⟩
          refine ndF rfl ?_
          refine ⟨_, rfl, b0, rfl, ⟨_, SqT.of hb⟩, ?_⟩
          have odn : ∀ {H' : Hp}, Ex0 H1 H' → ((∃ t, TyX K H' w0 t ∧ PySem.W.kitOne K t (.type "int") = some false) ∨ w0 = .bl true) := fun e => by
            cases od.ex e with
            | non => exact .inl ⟨_, .base .non, kit_ty (by decide +kernel)⟩
            | tt => exact .inr rfl
            | str _ _ => exact .inl ⟨_, .base (.str _), kit_ty (by decide +kernel)⟩
          refine lcT fm0 trivial (SqT.of hb) (fun z => z) (fun j acc _ => acc = (([x1, y1] : List V).take j).filter nint) (fun _ _ => rfl) (fun D j z acc H' hD hz e hA hlen hp => ?_) (fun D H' acc hD e hA hp => ?_)
          · have hj : j < 2 := (List.getElem?_eq_some_iff.mp hz).1
            have zz : z = .int i ∨ z = w0 := by
              have := List.mem_of_getElem? hz
              simp only [List.mem_cons, List.mem_nil_iff, or_false] at this
              rcases hxy with ⟨rfl, rfl⟩ | ⟨rfl, rfl⟩ <;> rcases this with rfl | rfl <;> simp
            have tk : ([x1, y1] : List V).take (j + 1) = ([x1, y1] : List V).take j ++ [z] := by
              rw [List.take_add_one, hz]
              rfl
            refine ⟨rfl, ?_⟩
            rcases zz with rfl | rfl
            · refine ⟨_, rfl, _, _, _, _, true, rfl, .ty _, .base (.int i), kit_ty (by decide +kernel), _, rfl, iteF ?_⟩
              refine ⟨_, rfl, _, _, _, _, false, rfl, .ty _, .base (.int i), kit_ty (by decide +kernel), _, rfl, iteF ?_⟩
              refine cs_no fm0 trivial hD e hA hlen (Fx.refl trivial) ?_
              rw [tk, List.filter_append, hp]
              simp [nint]
            · rcases odn e with ⟨t, ty, kt⟩ | rfl
              · refine ⟨_, rfl, _, _, _, _, false, rfl, .ty _, ty, kt, _, rfl, iteT ?_⟩
                refine ⟨_, rfl, ?_⟩
                refine cs_yes fm0 trivial hD e hA hlen (by omega) (Fx.refl trivial) ?_
                rw [tk, List.filter_append, hp]
                simp [RG.Od.nint od]
              · refine ⟨_, rfl, _, _, _, _, true, rfl, .ty _, .base (.bl true), kit_ty (by decide +kernel), _, rfl, iteF ?_⟩
                refine ⟨_, rfl, _, _, _, _, true, rfl, .ty _, .base (.bl true), kit_ty (by decide +kernel), _, rfl, iteT ?_⟩
                refine ⟨_, rfl, ?_⟩
                refine cs_yes fm0 trivial hD e hA hlen (by omega) (Fx.refl trivial) ?_
                rw [tk, List.filter_append, hp]
                rfl
          · have hp' : acc = [w0] := by
              rw [hp]
              show ([x1, y1] : List V).filter nint = [w0]
              have hn := RG.Od.nint od
              rcases hxy with ⟨e1, e2⟩ | ⟨e1, e2⟩
              · rw [e1, e2, List.filter_cons_of_neg (by intro z; cases z), List.filter_cons_of_pos hn]
                rfl
              · rw [e1, e2, List.filter_cons_of_pos hn, List.filter_cons_of_neg (by intro z; cases z)]
                rfl
            subst hp'
            refine ⟨Nat.zero_le _, fun w nw => ?_⟩
            have ew := Ex0.new (o := .lst []) nw
            obtain ⟨d, h1, h2, h3⟩ := (od.ex (Fx.trans e ew)).dp (K := K)
            refine ⟨.list [d], .list [], .lst (SqL.of (Ex0.ap ew hA)) (.cons h1 .nil), .lst (SqL.of upd_same) .nil, h2, by decide +kernel, ?_⟩
            rw [h3]
            exact ⟨_, rfl, iteT (no rfl _ (e1.trans (Fx.trans e ew)))⟩
        · exact ⟨_, rfl, _, _, _, _, false, rfl, .ty _, ty, kt, _, rfl, iteT (no rfl _ e1)⟩
      · rintro σ H1 ⟨y3, rfl, e1, n1, n2⟩
        have n1 := n1 (by show 1 ≤ 2; decide)
        have n2 := n2 (by show 2 ≤ 2; decide)
        cases o1 with
        | none => cases n1
        | some z1 =>
          cases o2 with
          | none => cases n2
          | some z2 =>
            obtain ⟨p, q'⟩ := z1
            obtain ⟨r, s'⟩ := z2
            obtain ⟨bp, bq, br, bs⟩ := hB p q' r s' rfl
            have h4 : T4 H a0 p q' r s' := by
              obtain ⟨a', t1, t2, e1, k0, k1, k2⟩ := hv.t4
              cases e1
              exact ⟨t1, t2, k0, k1, k2⟩
            refine ⟨_, rfl, un4 (Ex0.t4 e1 h4) ?_⟩
            refine ⟨_, rfl, _, rfl, _, _, rfl, rfl, mulB bp bs (by decide), _, rfl, _, rfl, _, _, rfl, rfl, mulB bq br (by decide), _, _, rfl, rfl, _, rfl, sl2, fun z nz => ?_⟩
            have ez := Ex0.new (o := .tup [.int 1, .int (-1)]) nz
            refine ⟨z, _, rfl, .inr (SqT.of upd_same), rfl, rfl, _, rfl, ?_⟩
            have e2 : inV (.int (p * s' - q' * r)) [.int 1, .int (-1)] = decide (p * s' - q' * r = 1 ∨ p * s' - q' * r = -1) := by
              show ((1 : Int) == p * s' - q' * r || ((-1 : Int) == p * s' - q' * r || false)) = _
              apply Bool.eq_iff_iff.mpr
              simp only [Bool.or_false, Bool.or_eq_true, beq_iff_eq, decide_eq_true_iff]
              omega
            show if (!inV (.int (p * s' - q' * r)) [.int 1, .int (-1)]) = true then _ else _
            rw [e2]
            have e1z := e1.trans ez
            by_cases hd : p * s' - q' * r = 1 ∨ p * s' - q' * r = -1
            · rw [decide_eq_true hd]
              refine iteF ?_
              refine ⟨_, rfl, _, rfl, sl2, fun n nn => ?_⟩
              have en := Ex0.new (o := .tup [.int p, .int q']) nn
              have e2n := e1z.trans en
              refine ⟨_, rfl, .tuple (([p, q'] : List Int).map .int), .tuple (([x, y] : List Int).map .int), .tup (SqT.of upd_same) (dp_ints [p, q']), .tup (SqT.of (Ex0.ap e2n hu)) (dp_ints [x, y]), shaped_tints _, shaped_tints _, ?_⟩
              rw [PyData.eqv, eqv_ints]
              by_cases hpq : p = x ∧ q' = y
              · obtain ⟨rfl, rfl⟩ := hpq
                rw [decide_eq_true rfl]
                refine ⟨_, rfl, iteF ?_⟩
                refine ⟨_, rfl, _, rfl, t, a0, a, b, c, d, p, q', r, s', rfl, Ex0.ti e2n ht, Ex0.t4 e2n h4, bz, ⟨bp, bq, br, bs⟩, fun w0 H3 e3 hw => ?_⟩
                refine ⟨w0, _, 0, .int ((p * s' - q' * r) * fv a b c d p q'), rfl, rfl, SqT.of hw, rfl, ?_⟩
                have hq := q H3 (e2n.trans e3)
                have hv := of_decide_eq_true hm
                have e : wayB (two4 (some (p, q')) (some (r, s'))) p q' (fv a b c d p q') = decide (V.int ((p * s' - q' * r) * fv a b c d p q') = V.int 1) := decide_eq_decide.mpr ⟨fun z => congrArg V.int (by
                  rw [z.2.2.2]
                  rcases hv with h | h <;> rw [h] <;> rfl), fun z => ⟨hd, rfl, rfl, by
                  have z := V.int.inj z
                  rcases hv with h | h <;> rw [h] at z ⊢ <;> omega⟩⟩
                rw [e] at hq
                exact ⟨rfl, hq⟩
              · rw [decide_eq_false (fun z => hpq (by injection z with z1 z; injection z with z2; exact ⟨z1, z2⟩))]
                refine ⟨_, rfl, iteT ?_⟩
                have hq := q _ e2n
                have e : wayB (two4 (some (p, q')) (some (r, s'))) x y (fv a b c d x y) = false := decide_eq_false fun z => hpq ⟨z.2.1, z.2.2.1⟩
                rw [e] at hq
                exact hq
            · rw [decide_eq_false hd]
              refine iteT ?_
              have hq := q _ e1z
              have e : wayB (two4 (some (p, q')) (some (r, s'))) x y (fv a b c d x y) = false := decide_eq_false fun z => hd z.1
              rw [e] at hq
              exact hq
    · exact ⟨_, rfl, _, _, _, _, false, rfl, .ty _, ty, kt, _, rfl, iteT (q H (Ex0.refl H))⟩
    · refine ⟨_, rfl, _, _, _, _, true, rfl, .ty _, .base (.tup ha), kit_ty (by decide +kernel), _, rfl, ?_⟩
      refine iteF ⟨_, rfl, a0, _, rfl, .inr (SqT.of ha), rfl, _, rfl, ?_⟩
      exact ndT (fun z => hl (by injection z with z; omega)) (q H (Ex0.refl H))
theorem ok_l_short_way (T : Txt K mg C_Form C_Ring C_Element) : Def P w K mg base 2 "_law_short_way" ["_law_numbers", "_law_pair"] (sp_l_short_way K C_Form C_Ring C_Element) := by
  obtain ⟨f_, fd_, g_, F_⟩ := T.d_l_short_way
  obtain ⟨f_l_value, fd_l_value, g_l_value, k_l_value, b_l_value, G_l_value⟩ := (ok_l_value (P := P) (w := w) (base := base) T)
  refine ⟨f_, fd_, g_, F_.kp, F_.binds (ps := ["_law_numbers", "_law_pair"]) (fun _ _ _ _ _ _ us hl => match us, hl with | [_, _], _ => rfl), ?_⟩
  refine F_.ok sc_l_short_way (fun vs H Q E h => ?_) (fun cdv A outer s H vs Q E hr h => ?_)
  · first | (obtain ⟨rfl, _⟩ := h; rfl) | (obtain ⟨_, rfl, _⟩ := h; rfl) | (obtain ⟨_, _, rfl, _⟩ := h; rfl) | (obtain ⟨_, _, _, rfl, _⟩ := h; rfl) | (obtain ⟨_, _, _, _, rfl, _⟩ := h; rfl) | (obtain ⟨_, _, _, _, _, rfl, _⟩ := h; rfl) | (obtain ⟨_, _, _, _, _, _, rfl, _⟩ := h; rfl) | (obtain ⟨_, _, _, _, _, _, _, rfl, _⟩ := h; rfl) | (obtain ⟨_, _, _, _, _, _, _, _, rfl, _⟩ := h; rfl) | (obtain ⟨_, _, _, _, _, _, _, _, _, rfl, _⟩ := h; rfl) | (obtain ⟨_, _, _, _, _, _, _, _, _, _, rfl, _⟩ := h; rfl) | (obtain ⟨_, _, _, _, _, _, _, _, _, _, _, rfl, _⟩ := h; rfl) | (obtain ⟨_, _, _, _, _, _, _, _, _, _, _, _, rfl, _⟩ := h; rfl) | (obtain ⟨_, _, _, _, _, _, _, _, _, _, _, _, _, rfl, _⟩ := h; rfl) | (obtain ⟨_, _, _, _, _, _, _, _, _, _, _, _, _, _, rfl, _⟩ := h; rfl) | (obtain ⟨_, _, _, _, _, _, _, _, _, _, _, _, _, _, _, rfl, _⟩ := h; rfl) | (obtain ⟨_, _, _, _, _, _, _, _, _, _, _, _, _, _, _, _, rfl, _⟩ := h; rfl) | (obtain ⟨_, _, _, _, _, _, _, _, _, _, _, _, _, _, _, _, _, rfl, _⟩ := h; rfl) | (obtain ⟨_, _, _, _, _, _, _, _, _, _, _, _, _, _, _, _, _, _, rfl, _⟩ := h; rfl) | (obtain ⟨_, _, _, _, _, _, _, _, _, _, _, _, _, _, _, _, _, _, _, rfl, _⟩ := h; rfl) | (obtain ⟨_, _, _, _, _, _, _, _, _, _, _, _, _, _, _, _, _, _, _, _, rfl, _⟩ := h; rfl) | (obtain ⟨_, _, _, _, _, _, _, _, _, _, _, _, _, _, _, _, _, _, _, _, _, rfl, _⟩ := h; rfl) | (obtain ⟨_, _, _, _, _, _, _, _, _, _, _, _, _, _, _, _, _, _, _, _, _, _, rfl, _⟩ := h; rfl) | (obtain ⟨_, _, _, _, _, _, _, _, _, _, _, _, _, _, _, _, _, _, _, _, _, _, _, rfl, _⟩ := h; rfl)
  · obtain ⟨t, u, a, b, c, d, x, y, rfl, ht, hu, bz, hp, hq, hm, q⟩ := h
    refine ⟨_, (Evl.pss_cut (ps_par (i := 2) (j := 3) (by rfl) sc_l_short_way.nd rfl rfl (by decide) rfl rfl (pa_cons (pe_tup (pa_cons (pe_ix ix_tup (pv 1) pe_int (fun _ _ => rfl)) (pa_cons pe_int (pa_cons pe_int pa_nil)))) (pa_cons (pe_tup (pa_cons (pe_ix ix_tup (pv 1) pe_int (fun _ _ => rfl)) (pa_cons pe_int (pa_cons pe_int pa_nil)))) pa_nil)) (by rfl))
    (pss_cons (ps_while PassesOwn.never (pt_cmpR op_ne (pe_ix ix_tup (pv 3) pe_int (fun _ _ => rfl)) pe_int (nomark _))
      (pss_cons (ps_set (i := 4) sc_l_short_way.nd rfl (.inr rfl) (pe_op op_fdivNW (pe_ix ix_tup (pv 2) pe_int (fun _ _ => rfl)) (pe_ix ix_tup (pv 3) pe_int (fun _ _ => rfl))))
    (pss_one (ps_par (i := 2) (j := 3) (by rfl) sc_l_short_way.nd rfl rfl (by decide) rfl rfl (pa_cons (pv 3) (pa_cons (pe_callTy call_tuple_of (by rfl) T.b_tuple (by decide +kernel) (pa_cons (pe_lc (own := [("_law_first", 6), ("_law_second", 7)]) (g := (gTup K 2 (gCons (gName 6) (gCons (gName 7) gNil)))) rfl sc_l_short_way.nd (RZ.pi_zipA (by rfl) T.b_zip (pa_cons (pv 2) (pa_cons (pv 3) pa_nil))) (blkOk_by (N := N_l_short_way) (sc := defScope s_l_short_way) (by decide +kernel)) (fun _ _ _ _ _ => (pg_tup (by rfl) (pgs_cons (pg_name (i := 6) sc_l_short_way.nd rfl (.inl rfl)) (pgs_cons (pg_name (i := 7) sc_l_short_way.nd rfl (.inl rfl)) pgs_nil)))) (fun _ _ _ _ _ => pts_nil) (fun _ _ _ _ _ => (pe_op op_sub (pv 6) (pe_op op_mulW (pv 4) (pv 7))))) pa_nil)) pa_nil)) (by rfl)))))
    (pss_cons (ps_set (i := 5) sc_l_short_way.nd rfl (.inl rfl) (pe_op op_mulW (pe_ix ix_tup (pv 2) pe_int (fun _ _ => rfl)) (pe_call G_l_value (hr.mono (by decide)) (by rfl) g_l_value k_l_value b_l_value .nil pass0 (pa_cons (pv 0) (pa_cons (pe_ix ix_tup (pv 1) pe_int (fun _ _ => rfl)) (pa_cons (pe_ix ix_tup (pv 1) pe_int (fun _ _ => rfl)) pa_nil))))))
    (pss_one (ps_ret (pe_tup (pa_cons (pv 1) (pa_cons (pe_tup (pa_cons (pe_op op_sub pe_int (pe_op op_mulW (pv 5) (pe_ix ix_tup (pv 2) pe_int (fun _ _ => rfl)))) (pa_cons (pe_op op_mulW (pv 5) (pe_ix ix_tup (pv 2) pe_int (fun _ _ => rfl))) pa_nil))) pa_nil)))))))), ?_⟩
    refine ⟨fun σ H' => ∃ L R : Addr, σ = [some (.ref t), some (.ref u), some (.ref L), some (.ref R), none, none, none, none] ∧ Ex0 H H' ∧ Ti H' L [x, 1, 0] ∧ Ti H' R [y, 0, 1], ?_, ?_⟩
    · refine ⟨_, rfl, u, _, 0, .int x, rfl, rfl, SqT.of hu, rfl, sl3, fun L nL => ⟨_, rfl, u, _, 1, .int y, rfl, rfl, SqT.of (Ex0.ap (Ex0.new nL) hu), rfl, sl3, fun R nR => ?_⟩⟩
      refine ⟨_, _, rfl, ?_⟩
      refine ⟨L, R, rfl, (Ex0.new nL).trans (Ex0.new nR), Ex0.ti (Ex0.new nR) upd_same, upd_same⟩
    rintro σ H1 ⟨L, R, rfl, e1, hL, hR⟩
    refine ⟨fun m σ H' => ∃ (one other i j i' j' : Int) (L R : Addr) (y4 : Option V), σ = [some (.ref t), some (.ref u), some (.ref L), some (.ref R), y4, none, none, none] ∧ Ex0 H H' ∧ Ti H' L [one, i, j] ∧ Ti H' R [other, i', j'] ∧ Bs 1000 x y one other i j i' j' ∧ m = other.natAbs, ⟨_, x, y, 1, 0, 0, 1, L, R, none, rfl, e1, hL, hR, Bs.init (mk1_gcd hm) hp hq, rfl⟩, ?_⟩
    rintro m σ H2 ⟨one, other, i, j, i', j', L, R, y4, rfl, e, hL, hR, hz, rfl⟩
    refine ⟨_, rfl, R, _, 0, .int other, rfl, rfl, SqT.of hR, rfl, rfl, _, rfl, iteEn (fun g => ?_) (fun g => ?_)⟩
    · obtain ⟨hz2, hm⟩ := hz.step g
      obtain ⟨b1, b2, bt, bi, bi', bj'⟩ := hz.b g hp
      refine ⟨fun σ' H'' => ∃ (one other2 i j i' j' : Int) (L R : Addr) (y4 : Option V), σ' = [some (.ref t), some (.ref u), some (.ref L), some (.ref R), y4, none, none, none] ∧ Ex0 H H'' ∧ Ti H'' L [one, i, j] ∧ Ti H'' R [other2, i', j'] ∧ Bs 1000 x y one other2 i j i' j' ∧ other2.natAbs < other.natAbs, fun σ' H'' ⟨o1, o2, i1, j1, i2, j2, L1, R1, y1, k1, k2, k3, k4, k5, k6⟩ => ⟨o2.natAbs, k6, o1, o2, i1, j1, i2, j2, L1, R1, y1, k1, k2, k3, k4, k5, rfl⟩, ?_⟩
      have bB : ∀ {z : Int}, z.natAbs ≤ 2000000 → B 21 z := fun h => ⟨Nat.lt_of_le_of_lt h (by decide), by decide⟩
      refine ⟨_, rfl, L, _, 0, .int one, rfl, rfl, SqT.of hL, rfl, _, rfl, R, _, 0, .int other, rfl, rfl, SqT.of hR, rfl, _, _, rfl, rfl, ⟨g, Nat.lt_trans (log_lt (a := 21) (bB (z := other) (by omega)).1 (by decide)) (by decide)⟩, ?_⟩
      have bT := bB (z := one.fdiv other) (by omega)
      refine ⟨_, rfl, _, rfl, _, rfl, L, R, _, _, rfl, .inr ⟨SqT.of hL, SqT.of hR, ?_⟩⟩
      refine lcP (walk_zipT (K := K) (xs := ([one, i, j] : List Int).map V.int) (ys := ([other, i', j'] : List Int).map V.int) rfl) fm0 trivial (fun H' e => ⟨SqT.of (Ex0.ti e hL), SqT.of (Ex0.ti e hR)⟩) (fun n acc _ => acc = (([one - one.fdiv other * other, i - one.fdiv other * i', j - one.fdiv other * j'] : List Int).take n).map V.int) (fun _ _ => rfl) (fun D n T' x1 y1 acc H' hD hi fx fy e3 hA hlen hp hT => ?_) (fun D H' acc hD e3 hA hp => ?_)
      · obtain ⟨k, hk, rfl⟩ := get_int fx
        obtain ⟨l, hl, rfl⟩ := get_int fy
        have hi3 : n < 3 := hi
        have bl : B 21 l := by
          match n, hl with
          | 0, hk => rw [← Option.some.inj hk]; exact bB (by omega)
          | 1, hk => rw [← Option.some.inj hk]; exact bB (by omega)
          | 2, hk => rw [← Option.some.inj hk]; exact bB (by omega)
        refine ⟨T', _, rfl, SqT.of upd_same, rfl, _, _, rfl, _, _, rfl, rfl, ⟨rfl, ?_⟩⟩
        refine ⟨_, rfl, _, rfl, _, rfl, _, _, rfl, rfl, mulB bT bl (by decide), _, _, rfl, rfl, ?_⟩
        refine cs_yes fm0 trivial hD e3 hA hlen (by omega) (Ex0.new hT) ?_
        show acc ++ [V.int (k - one.fdiv other * l)] = _
        rw [hp]
        match n, hk, hl with
        | 0, hk, hl => rw [← Option.some.inj hk, ← Option.some.inj hl]; rfl
        | 1, hk, hl => rw [← Option.some.inj hk, ← Option.some.inj hl]; rfl
        | 2, hk, hl => rw [← Option.some.inj hk, ← Option.some.inj hl]; rfl
      · refine ⟨D, _, rfl, .inl ⟨SqL.of hA, fun p2 np2 => ?_⟩⟩
        refine ⟨_, _, rfl, ?_⟩
        have ep := Ex0.new (o := .tup acc) np2
        have hp2 : acc = ([one - one.fdiv other * other, i - one.fdiv other * i', j - one.fdiv other * j'] : List Int).map V.int := hp
        subst hp2
        exact ⟨other, _, i', j', _, _, R, p2, _, rfl, (e.trans e3).trans ep, Ex0.ti (Fx.trans e3 ep) hR, upd_same, hz2, hm⟩
    · have g0 : other = 0 := by omega
      subst g0
      obtain ⟨f1, f2, f3, f4⟩ := hz.fin hp
      have bB : ∀ {z : Int}, z.natAbs ≤ 2000000 → B 21 z := fun h => ⟨Nat.lt_of_le_of_lt h (by decide), by decide⟩
      have bo : B 21 one := bB (by omega)
      have bi : B 21 i := bB (by omega)
      have bj : B 21 j := bB (by omega)
      have hv := of_decide_eq_true hm
      have hL' : SqT K H2 L [.int one, .int i, .int j] := SqT.of hL
      have b4 : B 400 x ∧ B 400 y := ⟨(bB (z := x) (by omega)).mono (by decide), (bB (z := y) (by omega)).mono (by decide)⟩
      have hu2 := Ex0.ap e hu
      have ht2 := Ex0.ti e ht
      refine ⟨_, rfl, L, _, 0, .int one, rfl, rfl, hL', rfl, _, rfl, _, rfl, u, _, 0, .int x, rfl, rfl, SqT.of hu2, rfl, _, rfl, u, _, 1, .int y, rfl, rfl, SqT.of hu2, rfl, t, a, b, c, d, x, y, rfl, ht2, bz, (bB (z := x) (by omega)).mono (by decide), (bB (z := y) (by omega)).mono (by decide), fun H3 e3 => ?_⟩
      have hL3 := Ex0.ti e3 hL
      generalize fv a b c d x y = v at hv q ⊢
      have bv : B 21 v := bB (by omega)
      have b1v : B 42 (one * v) := B.mul bo bv
      refine ⟨_, _, rfl, rfl, mulB bo bv (by decide), ?_⟩
      refine ⟨_, rfl, _, rfl, _, rfl, L, _, 2, .int j, rfl, rfl, SqT.of hL3, rfl, _, _, rfl, rfl, mulB b1v bj (by decide), _, _, rfl, rfl, _, rfl, _, rfl, L, _, 1, .int i, rfl, rfl, SqT.of hL3, rfl, _, _, rfl, rfl, mulB b1v bi (by decide), sl2, fun t3 n3 => ⟨sl2, fun t4 n4 => ?_⟩⟩
      have e4 := Ex0.new (o := .tup [.int (0 - one * v * j), .int (one * v * i)]) n3
      have e5 := Ex0.new (o := .tup [.ref u, .ref t3]) n4
      have e35 := e3.trans (e4.trans e5)
      refine q t4 _ (0 - one * v * j) (one * v * i) (e.trans e35) ⟨u, t3, upd_same, Ex0.ap e35 hu2, Ex0.ap e5 upd_same⟩ ?_ ?_ ?_
      · rcases f1 with rfl | rfl <;> rcases hv with rfl | rfl <;> grind
      · rcases f1 with rfl | rfl <;> rcases hv with rfl | rfl <;> omega
      · rcases f1 with rfl | rfl <;> rcases hv with rfl | rfl <;> omega
theorem ok_l_near (T : Txt K mg C_Form C_Ring C_Element) : Def P w K mg base 3 "_law_near" ["_law_vat_here", "_law_way"] (sp_l_near K C_Form C_Ring C_Element) := by
  obtain ⟨f_, fd_, g_, F_⟩ := T.d_l_near
  obtain ⟨f_l_size, fd_l_size, g_l_size, k_l_size, b_l_size, G_l_size⟩ := (ok_l_size (P := P) (w := w) (base := base) T)
  refine ⟨f_, fd_, g_, F_.kp, F_.binds (ps := ["_law_vat_here", "_law_way"]) (fun _ _ _ _ _ _ us hl => match us, hl with | [_, _], _ => rfl), ?_⟩
  refine F_.ok sc_l_near (fun vs H Q E h => ?_) (fun cdv A outer s H vs Q E hr h => ?_)
  · first | (obtain ⟨rfl, _⟩ := h; rfl) | (obtain ⟨_, rfl, _⟩ := h; rfl) | (obtain ⟨_, _, rfl, _⟩ := h; rfl) | (obtain ⟨_, _, _, rfl, _⟩ := h; rfl) | (obtain ⟨_, _, _, _, rfl, _⟩ := h; rfl) | (obtain ⟨_, _, _, _, _, rfl, _⟩ := h; rfl) | (obtain ⟨_, _, _, _, _, _, rfl, _⟩ := h; rfl) | (obtain ⟨_, _, _, _, _, _, _, rfl, _⟩ := h; rfl) | (obtain ⟨_, _, _, _, _, _, _, _, rfl, _⟩ := h; rfl) | (obtain ⟨_, _, _, _, _, _, _, _, _, rfl, _⟩ := h; rfl) | (obtain ⟨_, _, _, _, _, _, _, _, _, _, rfl, _⟩ := h; rfl) | (obtain ⟨_, _, _, _, _, _, _, _, _, _, _, rfl, _⟩ := h; rfl) | (obtain ⟨_, _, _, _, _, _, _, _, _, _, _, _, rfl, _⟩ := h; rfl) | (obtain ⟨_, _, _, _, _, _, _, _, _, _, _, _, _, rfl, _⟩ := h; rfl) | (obtain ⟨_, _, _, _, _, _, _, _, _, _, _, _, _, _, rfl, _⟩ := h; rfl) | (obtain ⟨_, _, _, _, _, _, _, _, _, _, _, _, _, _, _, rfl, _⟩ := h; rfl) | (obtain ⟨_, _, _, _, _, _, _, _, _, _, _, _, _, _, _, _, rfl, _⟩ := h; rfl) | (obtain ⟨_, _, _, _, _, _, _, _, _, _, _, _, _, _, _, _, _, rfl, _⟩ := h; rfl) | (obtain ⟨_, _, _, _, _, _, _, _, _, _, _, _, _, _, _, _, _, _, rfl, _⟩ := h; rfl) | (obtain ⟨_, _, _, _, _, _, _, _, _, _, _, _, _, _, _, _, _, _, _, rfl, _⟩ := h; rfl) | (obtain ⟨_, _, _, _, _, _, _, _, _, _, _, _, _, _, _, _, _, _, _, _, rfl, _⟩ := h; rfl) | (obtain ⟨_, _, _, _, _, _, _, _, _, _, _, _, _, _, _, _, _, _, _, _, _, rfl, _⟩ := h; rfl) | (obtain ⟨_, _, _, _, _, _, _, _, _, _, _, _, _, _, _, _, _, _, _, _, _, _, rfl, _⟩ := h; rfl) | (obtain ⟨_, _, _, _, _, _, _, _, _, _, _, _, _, _, _, _, _, _, _, _, _, _, _, rfl, _⟩ := h; rfl)
  · obtain ⟨c, w, x, y, r, s', rfl, hc, hw, hx, hy, h5, h6, q⟩ := h
    refine ⟨_, (pss_cons (ps_asg (pv 1) (pg_tup (by rfl) (pgs_cons (pg_tup (by rfl) (pgs_cons (pg_name (i := 2) sc_l_near.nd rfl (.inl rfl)) (pgs_cons (pg_name (i := 3) sc_l_near.nd rfl (.inl rfl)) pgs_nil))) (pgs_cons (pg_tup (by rfl) (pgs_cons (pg_name (i := 4) sc_l_near.nd rfl (.inl rfl)) (pgs_cons (pg_name (i := 5) sc_l_near.nd rfl (.inl rfl)) pgs_nil))) pgs_nil))))
    (pss_cons (ps_set (i := 6) sc_l_near.nd rfl (.inl rfl) (pe_call G_l_size (hr.mono (by decide)) (by rfl) g_l_size k_l_size b_l_size .nil pass0 (pa_cons (pv 0) (pa_cons (pe_op op_pow pe_int pe_int) pa_nil))))
    (Evl.pss_cut (ps_set (i := 7) sc_l_near.nd rfl (.inl rfl) (pe_lst (pa_cons (pv 1) (pa_cons (pe_tup (pa_cons (pe_tup (pa_cons (pv 2) (pa_cons (pv 3) pa_nil))) (pa_cons (pe_tup (pa_cons (pe_op op_add (pv 4) (pe_op op_mulW (pv 6) (pv 2))) (pa_cons (pe_op op_add (pv 5) (pe_op op_mulW (pv 6) (pv 3))) pa_nil))) pa_nil))) (pa_cons (pe_tup (pa_cons (pe_tup (pa_cons (pv 2) (pa_cons (pv 3) pa_nil))) (pa_cons (pe_tup (pa_cons (pe_op op_sub pe_int (pv 4)) (pa_cons (pe_op op_sub pe_int (pv 5)) pa_nil))) pa_nil))) (pa_cons (pe_tup (pa_cons (pe_tup (pa_cons (pe_op op_sub pe_int (pv 2)) (pa_cons (pe_op op_sub pe_int (pv 3)) pa_nil))) (pa_cons (pe_tup (pa_cons (pv 4) (pa_cons (pv 5) pa_nil))) pa_nil))) (pa_cons (pe_tup (pa_cons (pe_tup (pa_cons (pv 4) (pa_cons (pv 5) pa_nil))) (pa_cons (pe_tup (pa_cons (pv 2) (pa_cons (pv 3) pa_nil))) pa_nil))) pa_nil)))))))
    (Evl.pss_cut (ps_set (i := 7) sc_l_near.nd rfl (.inl rfl) (pe_op op_cat (pv 7) (pe_lst (pa_cons (pe_callTy call_list_of (by rfl) T.b_list (by decide +kernel) (pa_cons (pv 1) pa_nil)) (pa_cons (pe_tup (pa_cons (pe_ix ix_tup (pv 1) pe_int (fun _ _ => rfl)) pa_nil)) (pa_cons pe_non (pa_cons pe_int (pa_cons pe_str (pa_cons pe_dnewK (pa_cons (pe_op op_catT (pv 1) (pe_tup (pa_cons (pe_ix ix_tup (pv 1) pe_int (fun _ _ => rfl)) pa_nil))) (pa_cons (pe_tup (pa_cons (pe_ix ix_tup (pv 1) pe_int (fun _ _ => rfl)) (pa_cons (pe_callTy call_list_of (by rfl) T.b_list (by decide +kernel) (pa_cons (pe_ix ix_tup (pv 1) pe_int (fun _ _ => rfl)) pa_nil)) pa_nil))) (pa_cons (pe_tup (pa_cons (pe_tup (pa_cons (pv 2) (pa_cons (pv 3) pa_nil))) (pa_cons (pe_tup (pa_cons (pv 4) (pa_cons (pe_op op_add (pv 5) pe_int) pa_nil))) pa_nil))) pa_nil))))))))))))
    (pss_one (ps_ret (pe_op op_cat (pv 7) (pe_lst (pa_cons (pe_tup (pa_cons (pe_tup (pa_cons (pv 2) (pa_cons (pv 3) pa_nil))) (pa_cons (pe_tup (pa_cons pe_bl (pa_cons (pv 5) pa_nil))) pa_nil))) (pa_cons (pe_tup (pa_cons (pe_tup (pa_cons (pv 2) (pa_cons (pv 3) pa_nil))) (pa_cons pe_non pa_nil))) (pa_cons (pe_tup (pa_cons (pe_tup (pa_cons (pv 2) (pa_cons (pv 3) pa_nil))) (pa_cons (pe_tup (pa_cons (pe_callTy call_str_int (by rfl) T.b_str (by decide +kernel) (pa_cons (pv 4) pa_nil)) (pa_cons (pv 5) pa_nil))) pa_nil))) (pa_cons (pe_tup (pa_cons (pe_tup (pa_cons (pe_op op_sub pe_int (pv 2)) (pa_cons (pe_op op_sub pe_int (pv 3)) pa_nil))) (pa_cons (pe_tup (pa_cons (pe_op op_sub pe_int (pv 4)) (pa_cons (pe_op op_sub pe_int (pv 5)) pa_nil))) pa_nil))) pa_nil)))))))))))), ?_⟩
    refine ⟨_, rfl, un4 hw ?_⟩
    refine ⟨_, rfl, _, _, rfl, rfl, ⟨by decide, by decide, by decide⟩, c, (10 : Int) ^ 5, rfl, hc, by decide, by decide, fun m H1 m0 m1 e1 => ?_⟩
    have m5 : m.natAbs ≤ 100000 := by
      have : (10 : Int) ^ 5 = 100000 := by decide
      omega
    have hw1 : T4 H1 w x y r s' := hw.ex fun b xs z => fv_tup hc e1 z
    have bm : B 17 m := ⟨Nat.lt_of_le_of_lt m5 (by decide), by decide⟩
    have bx : B 12 x := ⟨Nat.lt_of_le_of_lt hx (by decide), by decide⟩
    have by' : B 12 y := ⟨Nat.lt_of_le_of_lt hy (by decide), by decide⟩
    have br : B 22 r := ⟨Nat.lt_of_le_of_lt h5 (by decide), by decide⟩
    have bs : B 22 s' := ⟨Nat.lt_of_le_of_lt h6 (by decide), by decide⟩
    have b1 : B 22 1 := ⟨by decide, by decide⟩
    have M : ∀ {n : Nat} {z : Int}, n ≤ 300 → B n z → B 300 z := fun h b => b.mono h
    have yes : ∀ {t : Addr} {p q : Int} (H' : Hp), H' t = some (.tup [.int p, .int q]) → RowV H' (.ref t) (some (p, q)) := fun _ h => .yes h
    refine ⟨fun σ H' => ∃ (l : Addr) (ws : List V), σ = [some (.ref c), some (.ref w), some (.int x), some (.int y), some (.int r), some (.int s'), some (.int m), some (.ref l)] ∧ Ex0 H1 H' ∧ H' l = some (.lst ws) ∧ ws.length ≤ 5 ∧ GV H' ws, ?_, ?_⟩
    · refine ⟨_, rfl, _, rfl, _, rfl, sl2, fun a1 n1 => ?_⟩
      refine ⟨_, rfl, _, rfl, _, rfl, _, _, rfl, rfl, mulB bm bx (by decide), _, _, rfl, rfl, _, rfl, _, rfl, _, rfl, _, _, rfl, rfl, mulB bm by' (by decide), _, _, rfl, rfl, sl2, fun a2 n2 => ⟨sl2, fun a3 n3 => ?_⟩⟩
      obtain ⟨e2, w1⟩ := ch_new n1 n2 n3 yes yes
      generalize upd _ a3 _ = H2 at e2 w1 ⊢
      refine ⟨_, rfl, _, rfl, sl2, fun b1 k1 => ⟨_, rfl, _, _, rfl, rfl, _, rfl, _, _, rfl, rfl, sl2, fun b2 k2 => ⟨sl2, fun b3 k3 => ?_⟩⟩⟩
      obtain ⟨e3, w2⟩ := ch_new k1 k2 k3 yes yes
      generalize upd _ b3 _ = H3 at e3 w2 ⊢
      refine ⟨_, rfl, _, _, rfl, rfl, _, rfl, _, _, rfl, rfl, sl2, fun c1 k1 => ⟨_, rfl, _, rfl, sl2, fun c2 k2 => ⟨sl2, fun c3 k3 => ?_⟩⟩⟩
      obtain ⟨e4, w3⟩ := ch_new k1 k2 k3 yes yes
      generalize upd _ c3 _ = H4 at e4 w3 ⊢
      refine ⟨_, rfl, _, rfl, sl2, fun d1 k1 => ⟨_, rfl, _, rfl, sl2, fun d2 k2 => ⟨sl2, fun d3 k3 => ?_⟩⟩⟩
      obtain ⟨e5, w4⟩ := ch_new k1 k2 k3 yes yes
      generalize upd _ d3 _ = H5 at e5 w4 ⊢
      refine ⟨by show 5 ≤ sizeLine; decide, fun l nl => ?_⟩
      have e6 := Ex0.new (o := .lst [.ref w, .ref a3, .ref b3, .ref c3, .ref d3]) nl
      refine ⟨l, _, rfl, (e2.trans (e3.trans (e4.trans e5))).trans e6, upd_same, by show 5 ≤ 5; decide, GV.ex e6 ?_⟩
      refine GV.cons (T4.ch (Ex0.t4 (e2.trans (e3.trans (e4.trans e5))) hw1)) (ob4 (M (by decide) bx) (M (by decide) by') (M (by decide) br) (M (by decide) bs)) ?_
      refine GV.cons (w1.ex (e3.trans (e4.trans e5))) (ob4 (M (by decide) bx) (M (by decide) by') (M (by decide) (B.add br (B.mul bm bx))) (M (by decide) (B.add bs (B.mul bm by')))) ?_
      refine GV.cons (w2.ex (e4.trans e5)) (ob4 (M (by decide) bx) (M (by decide) by') (M (by decide) (B.sub (⟨by decide, by decide⟩ : B 1 0) br)) (M (by decide) (B.sub (⟨by decide, by decide⟩ : B 1 0) bs))) ?_
      refine GV.cons (w3.ex e5) (ob4 (M (by decide) (B.sub (⟨by decide, by decide⟩ : B 1 0) bx)) (M (by decide) (B.sub (⟨by decide, by decide⟩ : B 1 0) by')) (M (by decide) br) (M (by decide) bs)) ?_
      exact GV.cons w4 (ob4 (M (by decide) br) (M (by decide) bs) (M (by decide) bx) (M (by decide) by')) GV.nil
    rintro σ H2 ⟨l, ws, rfl, e2, hl, hln, hG⟩
    refine ⟨fun σ H' => ∃ (l : Addr) (ws : List V), σ = [some (.ref c), some (.ref w), some (.int x), some (.int y), some (.int r), some (.int s'), some (.int m), some (.ref l)] ∧ Ex0 H1 H' ∧ H' l = some (.lst ws) ∧ ws.length ≤ 14 ∧ GV H' ws, ?_, ?_⟩
    · obtain ⟨t1, t2, h0, h1, h2⟩ := id (Ex0.t4 e2 hw1)
      refine ⟨_, rfl, _, rfl, w, _, rfl, .inr (SqT.of h0), fun l2 nl2 => ?_⟩
      have f1 := Ex0.new (o := .lst [.ref t1, .ref t2]) nl2
      have v1 : ChV (upd H2 l2 (.lst [.ref t1, .ref t2])) (.ref l2) none := .lst upd_same
      generalize upd _ l2 _ = H3 at f1 v1 ⊢
      refine ⟨_, rfl, w, _, 0, .ref t1, rfl, rfl, SqT.of (Ex0.ap f1 h0), rfl, sl1, fun a1 n1 => ?_⟩
      have f2 := Ex0.new (o := .tup [.ref t1]) n1
      have v2 : ChV (upd H3 a1 (.tup [.ref t1])) (.ref a1) none := .len upd_same (by show (1 : Nat) ≠ 2; decide)
      generalize upd _ a1 _ = H4 at f2 v2 ⊢
      refine fun d1 nd => ?_
      have f3 := Ex0.new (o := .dK []) nd
      have v3 : ChV (upd H4 d1 (.dK [])) (.ref d1) none := .dct upd_same
      generalize upd _ d1 _ = H5 at f3 v3 ⊢
      have g3 := (f1.trans f2).trans f3
      refine ⟨_, rfl, _, rfl, w, _, 0, .ref t1, rfl, rfl, SqT.of (Ex0.ap g3 h0), rfl, sl1, fun a2 n2 => ?_⟩
      have f4 := Ex0.new (o := .tup [.ref t1]) n2
      refine ⟨w, a2, [.ref t1, .ref t2], [.ref t1], rfl, rfl, SqT.of (Ex0.ap f4 (Ex0.ap g3 h0)), SqT.of upd_same, by simp, by show 3 ≤ sizeLine; exact sl3, fun h => by simp at h, fun _ t3 n3 => ?_⟩
      have f5 := Ex0.new (o := .tup ([.ref t1, .ref t2] ++ [.ref t1])) n3
      have v4 : ChV (upd (upd H5 a2 (.tup [.ref t1])) t3 (.tup ([.ref t1, .ref t2] ++ [.ref t1]))) (.ref t3) none := .len upd_same (by show (3 : Nat) ≠ 2; decide)
      have g5 := g3.trans (f4.trans f5)
      have f45 := f4.trans f5
      generalize upd _ t3 _ = H6 at f5 f45 v4 g5 ⊢
      refine ⟨_, rfl, w, _, 0, .ref t1, rfl, rfl, SqT.of (Ex0.ap g5 h0), rfl, _, rfl, w, _, 1, .ref t2, rfl, rfl, SqT.of (Ex0.ap g5 h0), rfl, t2, _, rfl, .inr (SqT.of (Ex0.ap g5 h2)), fun l3 nl3 => ⟨sl2, fun a4 n4 => ?_⟩⟩
      have f6 := Ex0.new (o := .lst [.int r, .int s']) nl3
      have f7 := Ex0.new (o := .tup [.ref t1, .ref l3]) n4
      have f67 := f6.trans f7
      have v5 : ChV (upd (upd H6 l3 (.lst [.int r, .int s'])) a4 (.tup [.ref t1, .ref l3])) (.ref a4) none := .two (o1 := some (x, y)) (o2 := none) upd_same (.yes (Ex0.ap f67 (Ex0.ap g5 h1))) (.lst (Ex0.ap f7 upd_same))
      generalize upd _ a4 _ = H7 at f67 v5 ⊢
      refine ⟨_, rfl, _, rfl, sl2, fun b1' k1 => ⟨_, rfl, _, rfl, _, _, rfl, rfl, sl2, fun b2 k2 => ⟨sl2, fun b3 k3 => ?_⟩⟩⟩
      obtain ⟨f8, v6⟩ := ch_new k1 k2 k3 yes yes
      generalize upd _ b3 _ = H8 at f8 v6 ⊢
      refine ⟨by show 9 ≤ sizeLine; decide, fun l4 nl4 => ?_⟩
      have f9 := Ex0.new (o := .lst [.ref l2, .ref a1, .non, .int 1, .str "", .ref d1, .ref t3, .ref a4, .ref b3]) nl4
      have g9 := g5.trans ((f67.trans f8).trans f9)
      refine ⟨l, l4, ws, _, rfl, rfl, Ex0.ap g9 hl, upd_same, by rw [sizeLine_eq]; show ws.length + 9 ≤ _; omega, fun p np => ?_⟩
      have ep := Ex0.new (o := .lst (ws ++ [.ref l2, .ref a1, .non, .int 1, .str "", .ref d1, .ref t3, .ref a4, .ref b3])) np
      refine ⟨p, _, rfl, (e2.trans g9).trans ep, upd_same, by rw [List.length_append]; show ws.length + 9 ≤ 14; omega, GV.ex ep (GV.app (GV.ex g9 hG) (GV.ex f9 ?_))⟩
      refine GV.cons (v1.ex (f2.trans (f3.trans (f45.trans (f67.trans f8))))) ob0 ?_
      refine GV.cons (v2.ex (f3.trans (f45.trans (f67.trans f8)))) ob0 ?_
      refine GV.cons (.odd .non) ob0 (GV.cons (.int 1) ob0 (GV.cons (.odd (.str "" (strOk_of ""))) ob0 ?_))
      refine GV.cons (v3.ex (f45.trans (f67.trans f8))) ob0 ?_
      refine GV.cons (v4.ex (f67.trans f8)) ob0 (GV.cons (v5.ex f8) ob0 ?_)
      exact GV.cons v6 (ob4 (M (by decide) bx) (M (by decide) by') (M (by decide) br) (M (by decide) (B.add bs b1))) GV.nil
    rintro σ H3 ⟨l, ws, rfl, e3, hl, hln, hG⟩
    refine ⟨_, rfl, _, rfl, _, rfl, sl2, fun a1 n1 => ⟨_, rfl, sl2, fun a2 n2 => ⟨sl2, fun a3 n3 => ?_⟩⟩⟩
    obtain ⟨f1, v1⟩ := ch_new (o2 := none) n1 n2 n3 yes (fun _ h => .fst h .tt)
    generalize upd _ a3 _ = H4 at f1 v1 ⊢
    refine ⟨_, rfl, _, rfl, sl2, fun b1 k1 => ⟨sl2, fun b2 k2 => ?_⟩⟩
    have f2a := Ex0.new (o := .tup [.int x, .int y]) k1
    have f2b := Ex0.new (o := .tup [.ref b1, .non]) k2
    have f2 := f2a.trans f2b
    have v2 : ChV (upd (upd H4 b1 (.tup [.int x, .int y])) b2 (.tup [.ref b1, .non])) (.ref b2) none := .two (o1 := some (x, y)) (o2 := none) upd_same (.yes (Ex0.ap f2b upd_same)) (.odd .non)
    generalize upd _ b2 _ = H5 at f2 v2 ⊢
    refine ⟨_, rfl, _, rfl, sl2, fun c1 k1 => ⟨_, rfl, r, rfl, Nat.lt_trans (log_lt (a := 22) br.1 (by decide)) (by decide), _, rfl, sl2, fun c2 k2 => ⟨sl2, fun c3 k3 => ?_⟩⟩⟩
    obtain ⟨f3, v3⟩ := ch_new (o2 := none) k1 k2 k3 yes (fun _ h => .fst h (.str _ (strOk_of _)))
    generalize upd _ c3 _ = H6 at f3 v3 ⊢
    refine ⟨_, rfl, _, _, rfl, rfl, _, rfl, _, _, rfl, rfl, sl2, fun d1 k1 => ⟨_, rfl, _, _, rfl, rfl, _, rfl, _, _, rfl, rfl, sl2, fun d2 k2 => ⟨sl2, fun d3 k3 => ?_⟩⟩⟩
    obtain ⟨f4, v4⟩ := ch_new k1 k2 k3 yes yes
    generalize upd _ d3 _ = H7 at f4 v4 ⊢
    refine ⟨by show 4 ≤ sizeLine; decide, fun l4 nl4 => ?_⟩
    have f5 := Ex0.new (o := .lst [.ref a3, .ref b2, .ref c3, .ref d3]) nl4
    have g5 := f1.trans (f2.trans (f3.trans (f4.trans f5)))
    refine ⟨l, l4, ws, _, rfl, rfl, Ex0.ap g5 hl, upd_same, by rw [sizeLine_eq]; show ws.length + 4 ≤ _; omega, fun p np => ?_⟩
    have ep := Ex0.new (o := .lst (ws ++ [.ref a3, .ref b2, .ref c3, .ref d3])) np
    refine q p _ _ (e1.trans (fv_ex e1.1 ((e3.trans g5).trans ep))) upd_same (by rw [List.length_append]; show ws.length + 4 ≤ 100; omega) (GV.ex ep (GV.app (GV.ex g5 hG) (GV.ex f5 ?_)))
    refine GV.cons (v1.ex (f2.trans (f3.trans f4))) ob0 (GV.cons (v2.ex (f3.trans f4)) ob0 (GV.cons (v3.ex f4) ob0 ?_))
    exact GV.cons v4 (ob4 (M (by decide) (B.sub (⟨by decide, by decide⟩ : B 1 0) bx)) (M (by decide) (B.sub (⟨by decide, by decide⟩ : B 1 0) by')) (M (by decide) (B.sub (⟨by decide, by decide⟩ : B 1 0) br)) (M (by decide) (B.sub (⟨by decide, by decide⟩ : B 1 0) bs))) GV.nil
end
end RG
namespace RG
open PySem PySem.Spec PyProof.Rows L2 Fr
open K05M (fv fl2 fl3 fdisc)
def sp_l_drawn_form (_ : PySem.W.Frag) (_ _ _ : Addr) : Sp := fun vs H Q _ => ∃ c : Addr, vs = [.ref c] ∧ Vat c H ∧ ∀ t a b e d H', Fv c H H' → Ti H' t [a, b, e, d] → (∀ z ∈ [a, b, e, d], B 92 z) → Q (.ref t) H'
def sp_l_way_right (_ : PySem.W.Frag) (_ _ _ : Addr) : Sp := fun vs H Q _ => ∃ c : Addr, vs = [.ref c] ∧ Vat c H ∧ ∀ H', Fv c H H' → Q (.bl true) H'
theorem sq_det (a b c d u x y : Int) : x * m2 (-a) 0 (-c) u x y u x y - y * m1 b 0 d u x y u x y = 0 - fv a b c d x y := by
  unfold m1 m2 fv
  grind
theorem low1n {u y z b u' y' z' b' : Int} (h : Low u y z b u' y' z' b') (hb : b = 1) : u' = u ∧ y' = y ∧ z' = z ∧ b' = 1 := by
  subst hb
  exact low1 h
theorem madeL_len (a b c d : Int) (m : Nat) : ∀ n, (madeL a b c d m n).length ≤ (2 * m + 1) * n
  | 0 => Nat.zero_le _
  | n + 1 => by
    have stp : madeL a b c d m (n + 1) = madeL a b c d m n ++ madeR a b c d m (0 - (m : Int) + (n : Int)) (2 * m + 1) := by
      unfold madeL
      rw [List.range_succ, List.flatMap_append]
      simp
    have l1 : (madeR a b c d m (0 - (m : Int) + (n : Int)) (2 * m + 1)).length ≤ 2 * m + 1 := by
      unfold madeR
      rw [List.length_map]
      refine Nat.le_trans (List.length_filter_le _ _) ?_
      rw [List.length_range]
      exact Nat.le_refl _
    have := madeL_len a b c d m n
    rw [stp, List.length_append, Nat.mul_add]
    omega
theorem Prs.slice {H : Hp} {xs : List V} {ps : List (Int × Int)} (h : Prs H xs ps) (n : Nat) : Prs H (xs.take n) (ps.take n) := by
  induction h generalizing n with
  | nil => cases n <;> exact .nil
  | cons h r ih =>
    cases n with
    | zero => exact .nil
    | succ n => exact .cons h (ih n)
theorem Prs.val {H : Hp} {xs : List V} {ps : List (Int × Int)} (h : Prs H xs ps) : ∀ v ∈ xs, ∃ t x y, v = .ref t ∧ H t = some (.tup [.int x, .int y]) ∧ (x, y) ∈ ps := by
  induction h with
  | nil => intro v hv; cases hv
  | @cons t x y xs ps h _ ih =>
    intro v hv
    rcases List.mem_cons.mp hv with z | z
    · exact ⟨t, x, y, z, h, List.mem_cons_self⟩
    · obtain ⟨t', x', y', h1, h2, h3⟩ := ih v z
      exact ⟨t', x', y', h1, h2, List.mem_cons_of_mem _ h3⟩
theorem B.add1 {n : Nat} {i j : Int} (h : B n i) (g : B n j) : B (n + 1) (i + j) := ⟨by
  have h1 := h.1
  have g1 := g.1
  rw [Nat.pow_succ]
  omega, Nat.succ_pos _⟩
theorem fled_mid {a b c d p q r s : Int} (ha : a.natAbs ≤ 1000000000000000) (hb : b.natAbs ≤ 1000000000000000) (hc : c.natAbs ≤ 1000000000000000) (hd : d.natAbs ≤ 1000000000000000) (h : Gc p q r s 81) : ∀ z ∈ fled a b c d p q r s, B 92 z := by
  have b4 : ∀ {z : Int}, z.natAbs ≤ 1000000000000000 → B 50 z := fun h => ⟨Nat.lt_of_le_of_lt h (by decide), by decide⟩
  have b5 : ∀ {z : Int}, z.natAbs ≤ 81 → B 7 z := fun h => ⟨Nat.lt_of_le_of_lt h (by decide), by decide⟩
  have b2 : B 2 2 := ⟨by decide, by decide⟩
  have b3 : B 2 3 := ⟨by decide, by decide⟩
  obtain ⟨hp, hq, hr, hs, hdet⟩ := h
  have ba := b4 ha
  have bb := b4 hb
  have bc := b4 hc
  have bd := b4 hd
  have bp := b5 hp
  have bq := b5 hq
  have br := b5 hr
  have bs := b5 hs
  have s4 : ∀ {n : Nat} {u v w z : Int}, B n u → B n v → B n w → B n z → B (n + 3) (u + v + w + z) := fun h1 h2 h3 h4 => B.add1 (B.add1 (B.add1 h1 h2) (h3.mono (by omega))) (h4.mono (by omega))
  have fb : ∀ {x y : Int}, B 7 x → B 7 y → B 92 (fv a b c d x y) := fun bx by' => (s4 (B.mul (B.mul (B.mul ba bx) bx) bx) (B.mul (B.mul (B.mul bb bx) bx) by') (B.mul (B.mul (B.mul bc bx) by') by') (B.mul (B.mul (B.mul bd by') by') by')).mono (by decide)
  have m1 : B 17 (p * s + 2 * q * r) := B.add1 ((B.mul bp bs).mono (by decide)) (B.mul (B.mul b2 bq) br)
  have m2 : B 17 (2 * p * s + q * r) := B.add1 (B.mul (B.mul b2 bp) bs) ((B.mul bq br).mono (by decide))
  have f2 : B 92 (fl2 a b c d p q r s) := by
    unfold fl2
    exact (s4 ((B.mul (B.mul (B.mul (B.mul b3 ba) bp) bp) br).mono (by decide)) (B.mul (B.mul bb bp) m1) (B.mul (B.mul bc bq) m2) ((B.mul (B.mul (B.mul (B.mul b3 bd) bq) bq) bs).mono (by decide))).mono (by decide)
  have f3 : B 92 (fl3 a b c d p q r s) := by
    unfold fl3
    exact (s4 ((B.mul (B.mul (B.mul (B.mul b3 ba) bp) br) br).mono (by decide)) (B.mul (B.mul bb br) m2) (B.mul (B.mul bc bs) m1) ((B.mul (B.mul (B.mul (B.mul b3 bd) bq) bs) bs).mono (by decide))).mono (by decide)
  have de : ∀ {n : Nat} {z : Int}, B n z → B n ((p * s - q * r) * z) := fun h => by
    rcases hdet with e | e <;> rw [e]
    · rw [Int.one_mul]
      exact h
    · rw [Int.neg_one_mul]
      exact h.neg
  intro z hz
  unfold fled at hz
  simp only [List.mem_cons, List.mem_nil_iff, or_false] at hz
  rcases hz with rfl | rfl | rfl | rfl
  · exact de (fb bp bq)
  · exact de f2
  · exact de f3
  · exact de (fb br bs)
theorem fled_way {a b c d p q r s : Int} (ba : B 92 a) (bb : B 92 b) (bc : B 92 c) (bd : B 92 d) (hp : p.natAbs ≤ 1000) (hq : q.natAbs ≤ 1000) (hr : r.natAbs ≤ 2000000) (hs : s.natAbs ≤ 2000000) (hdet : p * s - q * r = 1 ∨ p * s - q * r = -1) : B 190 ((p * s - q * r) * fl2 a b c d p q r s) ∧ B 190 ((p * s - q * r) * fl3 a b c d p q r s) ∧ B 190 ((p * s - q * r) * fv a b c d r s) := by
  have b5 : ∀ {z : Int}, z.natAbs ≤ 1000 → B 10 z := fun h => ⟨Nat.lt_of_le_of_lt h (by decide), by decide⟩
  have b6 : ∀ {z : Int}, z.natAbs ≤ 2000000 → B 21 z := fun h => ⟨Nat.lt_of_le_of_lt h (by decide), by decide⟩
  have b2 : B 2 2 := ⟨by decide, by decide⟩
  have b3 : B 2 3 := ⟨by decide, by decide⟩
  have bp := b5 hp
  have bq := b5 hq
  have br := b6 hr
  have bs := b6 hs
  have s4 : ∀ {n : Nat} {u v w z : Int}, B n u → B n v → B n w → B n z → B (n + 3) (u + v + w + z) := fun h1 h2 h3 h4 => B.add1 (B.add1 (B.add1 h1 h2) (h3.mono (by omega))) (h4.mono (by omega))
  have fb : B 190 (fv a b c d r s) := (s4 (B.mul (B.mul (B.mul ba br) br) br) (B.mul (B.mul (B.mul bb br) br) bs) (B.mul (B.mul (B.mul bc br) bs) bs) (B.mul (B.mul (B.mul bd bs) bs) bs)).mono (by decide)
  have m1 : B 34 (p * s + 2 * q * r) := B.add1 ((B.mul bp bs).mono (by decide)) (B.mul (B.mul b2 bq) br)
  have m2 : B 34 (2 * p * s + q * r) := B.add1 (B.mul (B.mul b2 bp) bs) ((B.mul bq br).mono (by decide))
  have f2 : B 190 (fl2 a b c d p q r s) := by
    unfold fl2
    exact (s4 (n := 136) ((B.mul (B.mul (B.mul (B.mul b3 ba) bp) bp) br).mono (by decide)) (B.mul (B.mul bb bp) m1) (B.mul (B.mul bc bq) m2) ((B.mul (B.mul (B.mul (B.mul b3 bd) bq) bq) bs).mono (by decide))).mono (by decide)
  have f3 : B 190 (fl3 a b c d p q r s) := by
    unfold fl3
    exact (s4 (n := 147) ((B.mul (B.mul (B.mul (B.mul b3 ba) bp) br) br).mono (by decide)) (B.mul (B.mul bb br) m2) (B.mul (B.mul bc bs) m1) ((B.mul (B.mul (B.mul (B.mul b3 bd) bq) bs) bs).mono (by decide))).mono (by decide)
  have de : ∀ {n : Nat} {z : Int}, B n z → B n ((p * s - q * r) * z) := fun h => by
    rcases hdet with e | e <;> rw [e]
    · rw [Int.one_mul]
      exact h
    · rw [Int.neg_one_mul]
      exact h.neg
  exact ⟨de f2, de f3, de fb⟩
theorem shaped_pisL (fs : List (Int × Int)) : SeqAt.shaped (.list (fs.map pi2)) = true := by
  have h : PyData.canLayAll0 (fs.map pi2) = true ∧ PyData.depthAll (fs.map pi2) ≤ 2 := by
    induction fs with
    | nil => exact ⟨rfl, by simp [PyData.depthAll]⟩
    | cons n r ih =>
      refine ⟨?_, ?_⟩
      · rw [List.map_cons, PyData.canLayAll0, ih.1]; simp [pi2, PyData.canLay0, PyData.canLayAll0]
      · rw [List.map_cons, PyData.depthAll]; exact Nat.max_le.mpr ⟨by simp [pi2, PyData.depth, PyData.depthAll], ih.2⟩
  unfold SeqAt.shaped
  rw [PyData.canLay0, PyData.depth, h.1]
  simp
  omega
section
variable {P : Program} {w : World} {K : PySem.W.Frag} {mg : Str → Option Value} {base : Heap} {C_Form C_Ring C_Element : Addr}
theorem ok_l_drawn_form (T : Txt K mg C_Form C_Ring C_Element) : Def P w K mg base 4 "_law_drawn_form" ["_law_vat_here"] (sp_l_drawn_form K C_Form C_Ring C_Element) := by
  obtain ⟨f_, fd_, g_, F_⟩ := T.d_l_drawn_form
  obtain ⟨f_l_change, fd_l_change, g_l_change, k_l_change, b_l_change, G_l_change⟩ := (ok_l_change (P := P) (w := w) (base := base) T)
  obtain ⟨f_l_from, fd_l_from, g_l_from, k_l_from, b_l_from, G_l_from⟩ := (ok_l_from (P := P) (w := w) (base := base) T)
  obtain ⟨f_l_led, fd_l_led, g_l_led, k_l_led, b_l_led, G_l_led⟩ := (ok_l_led (P := P) (w := w) (base := base) T)
  obtain ⟨f_l_size, fd_l_size, g_l_size, k_l_size, b_l_size, G_l_size⟩ := (ok_l_size (P := P) (w := w) (base := base) T)
  refine ⟨f_, fd_, g_, F_.kp, F_.binds (ps := ["_law_vat_here"]) (fun _ _ _ _ _ _ us hl => match us, hl with | [_], _ => rfl), ?_⟩
  refine F_.ok sc_l_drawn_form (fun vs H Q E h => ?_) (fun cdv A outer s H vs Q E hr h => ?_)
  · first | (obtain ⟨rfl, _⟩ := h; rfl) | (obtain ⟨_, rfl, _⟩ := h; rfl) | (obtain ⟨_, _, rfl, _⟩ := h; rfl) | (obtain ⟨_, _, _, rfl, _⟩ := h; rfl) | (obtain ⟨_, _, _, _, rfl, _⟩ := h; rfl) | (obtain ⟨_, _, _, _, _, rfl, _⟩ := h; rfl) | (obtain ⟨_, _, _, _, _, _, rfl, _⟩ := h; rfl) | (obtain ⟨_, _, _, _, _, _, _, rfl, _⟩ := h; rfl) | (obtain ⟨_, _, _, _, _, _, _, _, rfl, _⟩ := h; rfl) | (obtain ⟨_, _, _, _, _, _, _, _, _, rfl, _⟩ := h; rfl) | (obtain ⟨_, _, _, _, _, _, _, _, _, _, rfl, _⟩ := h; rfl) | (obtain ⟨_, _, _, _, _, _, _, _, _, _, _, rfl, _⟩ := h; rfl) | (obtain ⟨_, _, _, _, _, _, _, _, _, _, _, _, rfl, _⟩ := h; rfl) | (obtain ⟨_, _, _, _, _, _, _, _, _, _, _, _, _, rfl, _⟩ := h; rfl) | (obtain ⟨_, _, _, _, _, _, _, _, _, _, _, _, _, _, rfl, _⟩ := h; rfl) | (obtain ⟨_, _, _, _, _, _, _, _, _, _, _, _, _, _, _, rfl, _⟩ := h; rfl) | (obtain ⟨_, _, _, _, _, _, _, _, _, _, _, _, _, _, _, _, rfl, _⟩ := h; rfl) | (obtain ⟨_, _, _, _, _, _, _, _, _, _, _, _, _, _, _, _, _, rfl, _⟩ := h; rfl) | (obtain ⟨_, _, _, _, _, _, _, _, _, _, _, _, _, _, _, _, _, _, rfl, _⟩ := h; rfl) | (obtain ⟨_, _, _, _, _, _, _, _, _, _, _, _, _, _, _, _, _, _, _, rfl, _⟩ := h; rfl) | (obtain ⟨_, _, _, _, _, _, _, _, _, _, _, _, _, _, _, _, _, _, _, _, rfl, _⟩ := h; rfl) | (obtain ⟨_, _, _, _, _, _, _, _, _, _, _, _, _, _, _, _, _, _, _, _, _, rfl, _⟩ := h; rfl) | (obtain ⟨_, _, _, _, _, _, _, _, _, _, _, _, _, _, _, _, _, _, _, _, _, _, rfl, _⟩ := h; rfl) | (obtain ⟨_, _, _, _, _, _, _, _, _, _, _, _, _, _, _, _, _, _, _, _, _, _, _, rfl, _⟩ := h; rfl)
  · obtain ⟨c, rfl, hc, q⟩ := h
    refine ⟨_, (pss_cons (ps_set (i := 1) sc_l_drawn_form.nd rfl (.inl rfl) (pe_op op_catT (pe_tup (pa_cons (pe_call G_l_from (hr.mono (by decide)) (by rfl) g_l_from k_l_from b_l_from .nil pass0 (pa_cons (pv 0) (pa_cons (pe_lst (pa_cons pe_int (pa_cons (pe_un un_neg pe_int) pa_nil))) pa_nil))) pa_nil)) (pe_callTy call_tuple_of (by rfl) T.b_tuple (by decide +kernel) (pa_cons (pe_lc (own := [("_law_turn", 2)]) (g := (gName 2)) rfl sc_l_drawn_form.nd (pi_range1 (by rfl) T.b_range (pa_cons pe_int pa_nil)) (blkOk_by (N := N_l_drawn_form) (sc := defScope s_l_drawn_form) (by decide +kernel)) (fun _ _ _ _ _ => (pg_name (i := 2) sc_l_drawn_form.nd rfl (.inl rfl))) (fun _ _ _ _ _ => pts_nil) (fun _ _ _ _ _ => (pe_call G_l_size (hr.mono (by decide)) (by rfl) g_l_size k_l_size b_l_size .nil pass0 (pa_cons (pv 0) (pa_cons (pe_call G_l_from (hr.mono (by decide)) (by rfl) g_l_from k_l_from b_l_from .nil pass0 (pa_cons (pv 0) (pa_cons (pe_lst (pa_cons pe_int (pa_cons pe_int (pa_cons (pe_op op_pow pe_int pe_int) pa_nil)))) pa_nil))) pa_nil))))) pa_nil))))
    (pss_one (ps_ret (pe_call G_l_led (hr.mono (by decide)) (by rfl) g_l_led k_l_led b_l_led .nil pass0 (pa_cons (pv 1) (pa_cons (pe_call G_l_change (hr.mono (by decide)) (by rfl) g_l_change k_l_change b_l_change .nil pass0 (pa_cons (pv 0) (pa_cons pe_int pa_nil))) pa_nil)))))), ?_⟩
    refine ⟨_, rfl, _, rfl, sl2, fun l2 nl2 => ?_⟩
    have f4 := fv_new (o := .lst [.int 1, .int (-1)]) hc nl2
    refine ⟨c, l2, _, rfl, f4.1, upd_same, fv_ne hc nl2, by simp, by show 2 ≤ 100000; decide, fun v H4 hv e4 => ?_⟩
    obtain ⟨a', rfl, ha'⟩ : ∃ a' : Int, v = .int a' ∧ a'.natAbs ≤ 1 := by
      simp only [List.mem_cons, List.mem_nil_iff, or_false] at hv
      rcases hv with rfl | rfl
      · exact ⟨1, rfl, by decide⟩
      · exact ⟨-1, rfl, by decide⟩
    refine ⟨sl1, fun t1 n1 => ?_⟩
    have f5 := fv_new (o := .tup [.int a']) e4.1 n1
    have ht1 : upd H4 t1 (.tup [.int a']) t1 = some (.tup [.int a']) := upd_same
    refine ⟨_, rfl, by decide, by decide, ?_⟩
    refine lcR (fmV c) f5.1 (fun i acc _ => ∃ ns : List Int, acc = ns.map V.int ∧ ns.length = i ∧ ∀ z ∈ ns, z.natAbs ≤ 1000000000000000) (fun _ _ => ⟨[], rfl, rfl, fun _ h => by cases h⟩) (fun D i acc H3 hD hi e5 hA hlen hp => ?_) (fun D H3 acc hD e5 hA hp => ?_)
    · obtain ⟨ns, rfl, hln, hns⟩ := hp
      have hi' : i < 3 := by simpa using hi
      refine ⟨rfl, ?_⟩
      refine ⟨_, rfl, _, rfl, _, _, rfl, rfl, ⟨by decide, by decide, by decide⟩, sl3, fun l3 nl3 => ?_⟩
      have f6 := fv_new (o := .lst [.int 3, .int 20, .int (10 ^ 15)]) e5.1 nl3
      refine ⟨c, l3, _, rfl, f6.1, upd_same, fv_ne e5.1 nl3, by simp, by show 3 ≤ 100000; decide, fun v H5 hv e6 => ?_⟩
      obtain ⟨n, rfl, n0, hn⟩ : ∃ n : Int, v = .int n ∧ 0 ≤ n ∧ n ≤ 1000000000000000 := by
        simp only [List.mem_cons, List.mem_nil_iff, or_false] at hv
        rcases hv with rfl | rfl | rfl
        · exact ⟨3, rfl, by decide, by decide⟩
        · exact ⟨20, rfl, by decide, by decide⟩
        · exact ⟨_, rfl, by decide, by decide⟩
      refine ⟨c, n, rfl, e6.1, n0, by omega, fun r H6 r0 r1 e7 => ?_⟩
      refine cs_yes (fmV c) f5.1 hD e5 hA hlen (by omega) ((f6.trans e6).trans e7) ⟨ns ++ [r], by rw [List.map_append]; rfl, by rw [List.length_append, hln]; rfl, fun z hz => ?_⟩
      rcases List.mem_append.mp hz with h | h
      · exact hns z h
      · have : z = r := by simpa using h
        omega
    · obtain ⟨ns, rfl, hln, hns⟩ := hp
      obtain ⟨b, e, d, rfl⟩ : ∃ A1 A2 A3, ns = [A1, A2, A3] := by
        have hln' : ns.length = 3 := by simpa using hln
        match ns, hln' with
        | [x, y, z], _ => exact ⟨x, y, z, rfl⟩
      refine ⟨D, _, rfl, .inl ⟨SqL.of hA, fun p np => ?_⟩⟩
      have f6 := fv_new (o := .tup (([b, e, d] : List Int).map V.int)) e5.1 np
      refine ⟨t1, p, [.int a'], [.int b, .int e, .int d], rfl, rfl, SqT.of (fv_tup f5.1 (e5.trans f6) ht1), SqT.of upd_same, by simp, by show 4 ≤ sizeLine; exact sl4, fun h => by simp at h, fun _ t2 n2 => ?_⟩
      have f7 := fv_new (o := .tup [.int a', .int b, .int e, .int d]) f6.1 n2
      have fa := ((((f4.trans e4).trans f5).trans e5).trans f6).trans f7
      have nb := hns b (by simp)
      have ne := hns e (by simp)
      have nd := hns d (by simp)
      refine ⟨_, rfl, _, rfl, c, 4, rfl, fa.1, by decide, fun x p q' r s' H5 f8 h4 hg => ?_⟩
      have hb := Gc.b hg (by decide)
      have b4 : ∀ {z : Int}, z.natAbs ≤ 1000000000000000 → B 400 z := fun h => ⟨Nat.lt_of_le_of_lt h (Nat.lt_of_lt_of_le (by decide : 1000000000000000 < 2 ^ 50) (Nat.pow_le_pow_right (by decide) (by decide))), by decide⟩
      refine ⟨t2, x, a', b, e, d, p, q', r, s', rfl, fv_tup fa.1 f8 upd_same, h4, ⟨b4 (by omega), b4 nb, b4 ne, b4 nd⟩, hb, fun x2 H6 e9 h6 => ?_⟩
      exact q x2 _ _ _ _ H6 ((fa.trans f8).trans (fv_ex f8.1 e9)) h6 (fled_mid (by omega) nb ne nd hg)
theorem ok_l_way_right (T : Txt K mg C_Form C_Ring C_Element) : Def P w K mg base 11 "_law_way_right" ["_law_vat_here"] (sp_l_way_right K C_Form C_Ring C_Element) := by
  obtain ⟨f_, fd_, g_, F_⟩ := T.d_l_way_right
  obtain ⟨p_Element___mul__, f_Element___mul__, fd_Element___mul__, R_Element___mul__, b_Element___mul__, G_Element___mul__⟩ := (ok_Element___mul__ (P := P) (w := w) (base := base) T)
  obtain ⟨p_Element_entries, f_Element_entries, fd_Element_entries, R_Element_entries, b_Element_entries, G_Element_entries⟩ := (ok_Element_entries (P := P) (w := w) (base := base) T)
  obtain ⟨p_Form___init__, f_Form___init__, fd_Form___init__, R_Form___init__, b_Form___init__, G_Form___init__⟩ := (ok_Form___init__ (P := P) (w := w) (base := base) T)
  obtain ⟨p_Form_led, f_Form_led, fd_Form_led, R_Form_led, b_Form_led, G_Form_led⟩ := (ok_Form_led (P := P) (w := w) (base := base) T)
  obtain ⟨p_Ring___eq__, f_Ring___eq__, fd_Ring___eq__, R_Ring___eq__, b_Ring___eq__, G_Ring___eq__⟩ := (ok_Ring___eq__ (P := P) (w := w) (base := base) T)
  obtain ⟨p_Ring___init__, f_Ring___init__, fd_Ring___init__, R_Ring___init__, b_Ring___init__, G_Ring___init__⟩ := (ok_Ring___init__ (P := P) (w := w) (base := base) T)
  obtain ⟨p_Ring_element, f_Ring_element, fd_Ring_element, ds_Ring_element, R_Ring_element, b_Ring_element, v_Ring_element, d_Ring_element, G_Ring_element⟩ := (ok_Ring_element (P := P) (w := w) (base := base) T)
  obtain ⟨f_l_drawn_form, fd_l_drawn_form, g_l_drawn_form, k_l_drawn_form, b_l_drawn_form, G_l_drawn_form⟩ := (ok_l_drawn_form (P := P) (w := w) (base := base) T)
  obtain ⟨f_l_from, fd_l_from, g_l_from, k_l_from, b_l_from, G_l_from⟩ := (ok_l_from (P := P) (w := w) (base := base) T)
  obtain ⟨f_l_is_way, fd_l_is_way, g_l_is_way, k_l_is_way, b_l_is_way, G_l_is_way⟩ := (ok_l_is_way (P := P) (w := w) (base := base) T)
  obtain ⟨f_l_led, fd_l_led, g_l_led, k_l_led, b_l_led, G_l_led⟩ := (ok_l_led (P := P) (w := w) (base := base) T)
  obtain ⟨f_l_near, fd_l_near, g_l_near, k_l_near, b_l_near, G_l_near⟩ := (ok_l_near (P := P) (w := w) (base := base) T)
  obtain ⟨f_l_short_way, fd_l_short_way, g_l_short_way, k_l_short_way, b_l_short_way, G_l_short_way⟩ := (ok_l_short_way (P := P) (w := w) (base := base) T)
  obtain ⟨f_l_size, fd_l_size, g_l_size, k_l_size, b_l_size, G_l_size⟩ := (ok_l_size (P := P) (w := w) (base := base) T)
  obtain ⟨f_is_maker_way, fd_is_maker_way, g_is_maker_way, k_is_maker_way, b_is_maker_way, G_is_maker_way⟩ := (ok_is_maker_way (P := P) (w := w) (base := base) T)
  obtain ⟨f_maker_way, fd_maker_way, g_maker_way, k_maker_way, b_maker_way, G_maker_way⟩ := (ok_maker_way (P := P) (w := w) (base := base) T)
  obtain ⟨f_makers, fd_makers, g_makers, k_makers, b_makers, G_makers⟩ := (ok_makers (P := P) (w := w) (base := base) T)
  obtain ⟨f_ring_made, fd_ring_made, g_ring_made, k_ring_made, b_ring_made, G_ring_made⟩ := (ok_ring_made (P := P) (w := w) (base := base) T)
  refine ⟨f_, fd_, g_, F_.kp, F_.binds (ps := ["_law_vat_here"]) (fun _ _ _ _ _ _ us hl => match us, hl with | [_], _ => rfl), ?_⟩
  refine F_.ok sc_l_way_right (fun vs H Q E h => ?_) (fun cdv A outer s H vs Q E hr h => ?_)
  · first | (obtain ⟨rfl, _⟩ := h; rfl) | (obtain ⟨_, rfl, _⟩ := h; rfl) | (obtain ⟨_, _, rfl, _⟩ := h; rfl) | (obtain ⟨_, _, _, rfl, _⟩ := h; rfl) | (obtain ⟨_, _, _, _, rfl, _⟩ := h; rfl) | (obtain ⟨_, _, _, _, _, rfl, _⟩ := h; rfl) | (obtain ⟨_, _, _, _, _, _, rfl, _⟩ := h; rfl) | (obtain ⟨_, _, _, _, _, _, _, rfl, _⟩ := h; rfl) | (obtain ⟨_, _, _, _, _, _, _, _, rfl, _⟩ := h; rfl) | (obtain ⟨_, _, _, _, _, _, _, _, _, rfl, _⟩ := h; rfl) | (obtain ⟨_, _, _, _, _, _, _, _, _, _, rfl, _⟩ := h; rfl) | (obtain ⟨_, _, _, _, _, _, _, _, _, _, _, rfl, _⟩ := h; rfl) | (obtain ⟨_, _, _, _, _, _, _, _, _, _, _, _, rfl, _⟩ := h; rfl) | (obtain ⟨_, _, _, _, _, _, _, _, _, _, _, _, _, rfl, _⟩ := h; rfl) | (obtain ⟨_, _, _, _, _, _, _, _, _, _, _, _, _, _, rfl, _⟩ := h; rfl) | (obtain ⟨_, _, _, _, _, _, _, _, _, _, _, _, _, _, _, rfl, _⟩ := h; rfl) | (obtain ⟨_, _, _, _, _, _, _, _, _, _, _, _, _, _, _, _, rfl, _⟩ := h; rfl) | (obtain ⟨_, _, _, _, _, _, _, _, _, _, _, _, _, _, _, _, _, rfl, _⟩ := h; rfl) | (obtain ⟨_, _, _, _, _, _, _, _, _, _, _, _, _, _, _, _, _, _, rfl, _⟩ := h; rfl) | (obtain ⟨_, _, _, _, _, _, _, _, _, _, _, _, _, _, _, _, _, _, _, rfl, _⟩ := h; rfl) | (obtain ⟨_, _, _, _, _, _, _, _, _, _, _, _, _, _, _, _, _, _, _, _, rfl, _⟩ := h; rfl) | (obtain ⟨_, _, _, _, _, _, _, _, _, _, _, _, _, _, _, _, _, _, _, _, _, rfl, _⟩ := h; rfl) | (obtain ⟨_, _, _, _, _, _, _, _, _, _, _, _, _, _, _, _, _, _, _, _, _, _, rfl, _⟩ := h; rfl) | (obtain ⟨_, _, _, _, _, _, _, _, _, _, _, _, _, _, _, _, _, _, _, _, _, _, _, rfl, _⟩ := h; rfl)
  · obtain ⟨c, rfl, hc, q⟩ := h
    refine ⟨_, (Evl.pss_cut (ps_set (i := 1) sc_l_way_right.nd rfl (.inl rfl) (pe_call G_l_drawn_form (hr.mono (by decide)) (by rfl) g_l_drawn_form k_l_drawn_form b_l_drawn_form .nil pass0 (pa_cons (pv 0) pa_nil)))
    (Evl.pss_cut (ps_par (i := 2) (j := 3) (by rfl) sc_l_way_right.nd rfl rfl (by decide) rfl rfl (pa_cons (pe_make R_Form___init__ G_Form___init__ (hr.mono (by decide)) (by rfl) T.g_Form b_Form___init__ .nil pass0 (pa_cons (pv 1) pa_nil)) (pa_cons (pe_callTy call_list_of (by rfl) T.b_list (by decide +kernel) (pa_cons (pe_call G_makers (hr.mono (by decide)) (by rfl) g_makers k_makers b_makers .nil pass0 (pa_cons (pe_make R_Form___init__ G_Form___init__ (hr.mono (by decide)) (by rfl) T.g_Form b_Form___init__ .nil pass0 (pa_cons (pv 1) pa_nil)) (pa_cons pe_int pa_nil))) pa_nil)) pa_nil)) (by rfl))
    (Evl.pss_cut (ps_set (i := 4) sc_l_way_right.nd rfl (.inl rfl) (pe_ifExp (pt_cmpR (op_neD hr.units) (pv 3) (pe_lst pa_nil) (nomark _)) (pe_call G_l_from (hr.mono (by decide)) (by rfl) g_l_from k_l_from b_l_from .nil pass0 (pa_cons (pv 0) (pa_cons (pv 3) pa_nil))) pe_non))
    (pss_cons (ps_if (pt_cmpR op_isN (pv 4) pe_non (nomark _))
      (pss_one (ps_ret pe_bl))
      pss_nil)
    (Evl.pss_cut (ps_set (i := 5) sc_l_way_right.nd rfl (.inl rfl) (pe_call G_maker_way (hr.mono (by decide)) (by rfl) g_maker_way k_maker_way b_maker_way .nil pass0 (pa_cons (pv 2) (pa_cons (pv 4) pa_nil))))
    (Evl.pss_cut (ps_if (pt_not (pt_val (pe_call G_l_is_way (hr.mono (by decide)) (by rfl) g_l_is_way k_l_is_way b_l_is_way .nil pass0 (pa_cons (pv 1) (pa_cons (pv 4) (pa_cons (pv 5) pa_nil))))))
      (pss_one (ps_ret pe_bl))
      pss_nil)
    (Evl.pss_cut (ps_for PassesOwn.never rfl (pi_list (pe_call G_l_near (hr.mono (by decide)) (by rfl) g_l_near k_l_near b_l_near .nil pass0 (pa_cons (pv 0) (pa_cons (pv 5) pa_nil)))) (pg_name (i := 6) sc_l_way_right.nd rfl (.inl rfl))
      (pss_one (ps_if (pt_cmpR op_ne (pe_call G_is_maker_way (hr.mono (by decide)) (by rfl) g_is_maker_way k_is_maker_way b_is_maker_way .nil pass0 (pa_cons (pv 2) (pa_cons (pv 4) (pa_cons (pv 6) pa_nil)))) (pe_call G_l_is_way (hr.mono (by decide)) (by rfl) g_l_is_way k_l_is_way b_l_is_way .nil pass0 (pa_cons (pv 1) (pa_cons (pv 4) (pa_cons (pv 6) pa_nil)))) (nomark _))
      (pss_one (ps_ret pe_bl))
      pss_nil)))
    (Evl.pss_cut (ps_set (i := 7) sc_l_way_right.nd rfl (.inl rfl) (pe_call G_l_short_way (hr.mono (by decide)) (by rfl) g_l_short_way k_l_short_way b_l_short_way .nil pass0 (pa_cons (pv 1) (pa_cons (pv 4) pa_nil))))
    (Evl.pss_cut (ps_par (i := 8) (j := 9) (by rfl) sc_l_way_right.nd rfl rfl (by decide) rfl rfl (pa_cons (pe_make R_Ring___init__ G_Ring___init__ (hr.mono (by decide)) (by rfl) T.g_Ring b_Ring___init__ .nil pass0 (pa_cons (pv 2) pa_nil)) (pa_cons (pe_call G_ring_made (hr.mono (by decide)) (by rfl) g_ring_made k_ring_made b_ring_made .nil pass0 (pa_cons (pe_slice sl_tupA (pe_call G_l_led (hr.mono (by decide)) (by rfl) g_l_led k_l_led b_l_led .nil pass0 (pa_cons (pv 1) (pa_cons (pv 7) pa_nil))) (po_some pe_int) po_none) pa_nil)) pa_nil)) (by rfl))
    (Evl.pss_cut (ps_if (PW.pt (pw_or (pt_not (pt_val (pe_call G_is_maker_way (hr.mono (by decide)) (by rfl) g_is_maker_way k_is_maker_way b_is_maker_way .nil pass0 (pa_cons (pv 2) (pa_cons (pv 4) (pa_cons (pv 7) pa_nil)))))) (pw_or1 (pt_cmpR (op_neI R_Ring___eq__ G_Ring___eq__ b_Ring___eq__ (hr.mono (by decide)) pass0) (pv 9) (pe_make R_Ring___init__ G_Ring___init__ (hr.mono (by decide)) (by rfl) T.g_Ring b_Ring___init__ .nil pass0 (pa_cons (pe_meth (pv 2) T.cl_Form R_Form_led G_Form_led (hr.mono (by decide)) b_Form_led .nil pass0 (pa_cons (pv 7) pa_nil)) pa_nil)) (nomark _)))))
      (pss_one (ps_ret pe_bl))
      pss_nil)
    (Evl.pss_cut (ps_set (i := 10) sc_l_way_right.nd rfl (.inl rfl) (pe_meth (pv 8) T.cl_Ring R_Ring_element G_Ring_element (hr.mono (by decide)) d_Ring_element v_Ring_element pass0 (pa_cons (pe_tup (pa_cons (pe_call G_l_size (hr.mono (by decide)) (by rfl) g_l_size k_l_size b_l_size .nil pass0 (pa_cons (pv 0) (pa_cons pe_int pa_nil))) (pa_cons (pe_ix ix_tup (pv 4) pe_int (fun _ _ => rfl)) (pa_cons (pe_ix ix_tup (pv 4) pe_int (fun _ _ => rfl)) pa_nil)))) pa_nil)))
    (Evl.pss_cut (ps_set (i := 11) sc_l_way_right.nd rfl (.inl rfl) (pe_prop (pe_op (op_binI R_Element___mul__ G_Element___mul__ b_Element___mul__ (hr.mono (by decide)) pass0) (pv 10) (pv 10)) T.cl_Element R_Element_entries G_Element_entries (hr.mono (by decide)) b_Element_entries .nil pass0 (by rfl)))
    (pss_one (ps_ret (pe_cmpR op_in_seq (pe_op op_sub (pe_op op_mulW (pe_ix ix_tup (pe_prop (pv 10) T.cl_Element R_Element_entries G_Element_entries (hr.mono (by decide)) b_Element_entries .nil pass0 (by rfl)) pe_int (fun _ _ => rfl)) (pe_ix ix_tup (pv 11) pe_int (fun _ _ => rfl))) (pe_op op_mulW (pe_ix ix_tup (pe_prop (pv 10) T.cl_Element R_Element_entries G_Element_entries (hr.mono (by decide)) b_Element_entries .nil pass0 (by rfl)) pe_int (fun _ _ => rfl)) (pe_ix ix_tup (pv 11) pe_int (fun _ _ => rfl)))) (pe_tup (pa_cons pe_int (pa_cons (pe_un un_neg pe_int) pa_nil))) (by with_unfolding_all rfl)))))))))))))))), ?_⟩
    refine ⟨fun σ H' => ∃ (t : Addr) (a b e d : Int), σ = [some (.ref c), some (.ref t), none, none, none, none, none, none, none, none, none, none] ∧ Fv c H H' ∧ Ti H' t [a, b, e, d] ∧ (∀ z ∈ [a, b, e, d], B 92 z), ?_, ?_⟩
    · refine ⟨_, rfl, c, rfl, hc, fun t a b e d H1 e1 ht hz => ?_⟩
      exact ⟨t, a, b, e, d, rfl, e1, ht, hz⟩
    rintro σ H1 ⟨t, a, b, e, d, rfl, e1, ht1, hz⟩
    have bk : ∀ k, 92 ≤ k → B4 k a b e d := fun k h => ⟨(hz a (by simp)).mono h, (hz b (by simp)).mono h, (hz e (by simp)).mono h, (hz d (by simp)).mono h⟩
    have bz1 : B4 1000 a b e d := bk _ (by decide)
    have bz4 : B4 400 a b e d := bk _ (by decide)
    have shortB : ∀ {n : Int}, B 190 n → Short n := fun h => ⟨by have := h.1; omega, by have := h.1; omega⟩
    have hs : ∀ n ∈ [a, b, e, d], Short n := fun n h => shortB ((hz n h).mono (by decide))
    refine ⟨fun σ H' => ∃ (f l : Addr) (xs : List V), σ = [some (.ref c), some (.ref t), some (.ref f), some (.ref l), none, none, none, none, none, none, none, none] ∧ Ex0 H1 H' ∧ FormAt C_Form H' f [a, b, e, d] ∧ H' l = some (.lst xs) ∧ l ≠ c ∧ Prs H' xs (madeL a b e d 50 (2 * 50 + 1)), ?_, ?_⟩
    · refine ⟨_, rfl, fun x dx nx ndx _ => ?_⟩
      refine ⟨x, dx, t, [a, b, e, d], rfl, upd_same, made_at nx ndx ht1, rfl, hs, fun H2 e2 h2 => ⟨rfl, ?_⟩⟩
      obtain ⟨e3, hx⟩ := fo_made nx ndx ht1 e2 h2
      have ht2 := Ex0.ti e3 ht1
      refine ⟨_, rfl, fun x2 dx2 nx2 ndx2 _ => ?_⟩
      refine ⟨x2, dx2, t, [a, b, e, d], rfl, upd_same, made_at nx2 ndx2 ht2, rfl, hs, fun H3 e4 h4 => ⟨rfl, ?_⟩⟩
      obtain ⟨e5, hx2⟩ := fo_made nx2 ndx2 ht2 e4 h4
      refine ⟨x2, a, b, e, d, 50, rfl, hx2, bz1, by decide, by decide, fun u H4 ys qs e6 hu hP perm srt => ?_⟩
      refine ⟨u, ys, rfl, .inr (SqT.of hu), fun l nl => ?_⟩
      have e7 := Ex0.new (o := .lst ys) nl
      have eall := ((e3.trans e5).trans e6).trans e7
      refine ⟨_, _, rfl, x, l, ys, rfl, eall, Ex0.fo ((e5.trans e6).trans e7) hx, upd_same, fv_ne (vat_ex e1.1 ((e3.trans e5).trans e6)) nl, ?_⟩
      rw [← told_eq (by decide) perm srt]
      exact hP.ex fun b zs h => Ex0.ap e7 h
    rintro σ H2 ⟨f, l, xs, rfl, e2, hf, hl, lc, hP⟩
    have f2 := e1.trans (fv_ex e1.1 e2)
    have ht2 := Ex0.ti e2 ht1
    have lenM : xs.length ≤ 10201 := by
      rw [hP.len]
      exact madeL_len _ _ _ _ _ _
    refine ⟨fun σ H' => (σ = [some (.ref c), some (.ref t), some (.ref f), some (.ref l), some .non, none, none, none, none, none, none, none] ∧ Fv c H H') ∨ (∃ (u : Addr) (x y : Int), σ = [some (.ref c), some (.ref t), some (.ref f), some (.ref l), some (.ref u), none, none, none, none, none, none, none] ∧ Fv c H H' ∧ Ti H' t [a, b, e, d] ∧ FormAt C_Form H' f [a, b, e, d] ∧ Pq H' u x y ∧ mk1 a b e d x y = true ∧ x.natAbs ≤ 50 ∧ y.natAbs ≤ 50), ?_, ?_⟩
    · refine ⟨_, rfl, Nat.zero_le _, fun w nw => ?_⟩
      have ew := Ex0.new (o := .lst []) nw
      have hl2 := Ex0.ap ew hl
      have hP2 := hP.ex fun b zs h => Ex0.ap ew h
      refine ⟨.list (((madeL a b e d 50 (2 * 50 + 1))).map pi2), .list (([] : List (Int × Int)).map pi2), .lst (SqL.of hl2) hP2.dp, .lst (SqL.of upd_same) .nil, shaped_pisL _, shaped_pisL _, ?_⟩
      rw [PyData.eqv, eqv_pis]
      refine ⟨_, rfl, iteN (fun h => ?_) (fun h => ?_)⟩
      · refine ⟨_, rfl, _, rfl, c, l, xs, rfl, vat_ex f2.1 ew, hl2, lc, fun h0 => h (by have := hP.len; rw [h0] at this; exact List.eq_nil_of_length_eq_zero this.symm), by omega, fun v H3 hv e3 => ?_⟩
        obtain ⟨u, x, y, rfl, hu, hm⟩ := hP2.val v hv
        obtain ⟨z1, z2, z3, z4, z5⟩ := mem_madeL.mp hm
        have c2 := vat_ex f2.1 ew
        exact .inr ⟨u, x, y, rfl, f2.trans ((fv_ex f2.1 ew).trans e3), fv_tup c2 e3 (Ex0.ti ew ht2), fo_fv c2 e3 (Ex0.fo ew hf), fv_tup c2 e3 hu, z5, by simp only at z1 z2; omega, by simp only at z3 z4; omega⟩
      · exact .inl ⟨rfl, f2.trans (fv_ex f2.1 ew)⟩
    rintro σ H3 (⟨rfl, f3⟩ | ⟨u, x, y, rfl, f3, ht3, hf3, hu3, hm, hx, hy⟩)
    · refine ⟨_, rfl, rfl, _, rfl, ?_⟩
      rw [decide_eq_true rfl]
      exact iteT (q _ f3)
    refine ⟨_, rfl, rfl, _, rfl, ?_⟩
    rw [decide_eq_false (fun z => by cases z)]
    refine iteF ?_
    have hv := of_decide_eq_true hm
    have sx : Short x := ⟨by omega, by omega⟩
    have sy : Short y := ⟨by omega, by omega⟩
    have ob : ∀ {r s : Int}, r.natAbs ≤ 2000000 → s.natAbs ≤ 2000000 → B4 300 x y r s := fun h1 h2 => ⟨⟨Nat.lt_of_le_of_lt (show x.natAbs ≤ 2000000 by omega) (Nat.lt_of_lt_of_le (by decide : 2000000 < 2 ^ 21) (Nat.pow_le_pow_right (by decide) (by decide))), by decide⟩, ⟨Nat.lt_of_le_of_lt (show y.natAbs ≤ 2000000 by omega) (Nat.lt_of_lt_of_le (by decide : 2000000 < 2 ^ 21) (Nat.pow_le_pow_right (by decide) (by decide))), by decide⟩, ⟨Nat.lt_of_le_of_lt h1 (Nat.lt_of_lt_of_le (by decide : 2000000 < 2 ^ 21) (Nat.pow_le_pow_right (by decide) (by decide))), by decide⟩, ⟨Nat.lt_of_le_of_lt h2 (Nat.lt_of_lt_of_le (by decide : 2000000 < 2 ^ 21) (Nat.pow_le_pow_right (by decide) (by decide))), by decide⟩⟩
    have wy : ∀ {r s : Int}, x * s - y * r = fv a b e d x y → wayB (some (x, y, r, s)) x y (fv a b e d x y) = true := fun h => decide_eq_true ⟨by rw [h]; exact hv, rfl, rfl, h⟩
    refine ⟨fun σ H' => ∃ (g : Addr) (r s : Int), σ = [some (.ref c), some (.ref t), some (.ref f), some (.ref l), some (.ref u), some (.ref g), none, none, none, none, none, none] ∧ Ex0 H3 H' ∧ T4 H' g x y r s ∧ x * s - y * r = fv a b e d x y ∧ r.natAbs ≤ 2000000 ∧ s.natAbs ≤ 2000000, ?_, ?_⟩
    · exact ⟨_, rfl, _, rfl, f, u, a, b, e, d, x, y, rfl, hf3, hu3, bz1, by omega, by omega, hm, fun w H4 r s e4 hw h1 h2 h3 => ⟨w, r, s, rfl, e4, hw, h1, h2, h3⟩⟩
    rintro σ H4 ⟨g, r, s', rfl, e4, hg, hdet, hr2, hs2⟩
    refine ⟨fun σ H' => σ = [some (.ref c), some (.ref t), some (.ref f), some (.ref l), some (.ref u), some (.ref g), none, none, none, none, none, none] ∧ Ex0 H4 H', ?_, ?_⟩
    · have bo := ob hr2 hs2
      refine ⟨_, rfl, _, rfl, _, rfl, t, u, .ref g, a, b, e, d, x, y, some (x, y, r, s'), rfl, Ex0.ti e4 ht3, Ex0.ap e4 hu3, bz4, T4.ch hg, ob4 bo.1 bo.2.1 bo.2.2.1 bo.2.2.2, hm, fun H5 e5 => ⟨_, rfl, ?_⟩⟩
      rw [wy hdet]
      exact iteF ⟨rfl, e5⟩
    rintro σ H5 ⟨rfl, e5⟩
    have f5 := f3.trans (fv_ex f3.1 (e4.trans e5))
    have e45 := e4.trans e5
    have ht5 := Ex0.ti e45 ht3
    have hf5 := Ex0.fo e45 hf3
    have hu5 := Ex0.ap e45 hu3
    have hg5 := Ex0.t4 e5 hg
    refine ⟨fun σ H' => ∃ y6 : Option V, σ = [some (.ref c), some (.ref t), some (.ref f), some (.ref l), some (.ref u), some (.ref g), y6, none, none, none, none, none] ∧ Fv c H5 H', ?_, ?_⟩
    · refine ⟨_, rfl, _, rfl, c, g, x, y, r, s', rfl, f5.1, hg5, by omega, by omega, hr2, hs2, fun nl H6 ws e6 hnl hln hG => ?_⟩
      refine ⟨nl, rfl, ⟨_, SqL.of hnl⟩, ?_⟩
      have ht6 : Ti H6 t [a, b, e, d] := fv_tup f5.1 e6 ht5
      have hf6 := fo_fv f5.1 e6 hf5
      have hu6 := fv_tup f5.1 e6 hu5
      refine for_list (xs := ws) (fun i σ H' => ∃ y6 : Option V, σ = [some (.ref c), some (.ref t), some (.ref f), some (.ref l), some (.ref u), some (.ref g), y6, none, none, none, none, none] ∧ Ex0 H6 H') ⟨none, rfl, Ex0.refl _⟩ (fun i σ H' _ ⟨_, _, e⟩ => SqL.of (Ex0.ap e hnl)) ?_ ?_
      · rintro i v σ H7 hvi ⟨y6, rfl, e7⟩
        obtain ⟨o, ho, hB⟩ := hG v (List.mem_of_getElem? hvi)
        refine ⟨_, rfl, _, rfl, _, rfl, f, u, v, a, b, e, d, x, y, o, rfl, Ex0.fo e7 hf6, Ex0.ap e7 hu6, bz1, sx, sy, hm, ho.ex e7, hB, fun H8 e8 => ?_⟩
        have e78 := e7.trans e8
        refine ⟨_, rfl, _, rfl, _, rfl, t, u, v, a, b, e, d, x, y, o, rfl, Ex0.ti e78 ht6, Ex0.ap e78 hu6, bz4, ho.ex e78, hB, hm, fun H9 e9 => ?_⟩
        refine ⟨rfl, _, rfl, iteN (fun h => absurd rfl h) (fun _ => ?_)⟩
        exact ⟨_, rfl, e78.trans e9⟩
      · rintro σ H7 ⟨y6, rfl, e7⟩
        exact ⟨y6, rfl, e6.trans (fv_ex e6.1 e7)⟩
    rintro σ H6 ⟨y6, rfl, e6⟩
    have f6 := f5.trans e6
    have ht6 : Ti H6 t [a, b, e, d] := fv_tup f5.1 e6 ht5
    have hf6 := fo_fv f5.1 e6 hf5
    have hu6 := fv_tup f5.1 e6 hu5
    refine ⟨fun σ H' => ∃ (g2 : Addr) (r s : Int), σ = [some (.ref c), some (.ref t), some (.ref f), some (.ref l), some (.ref u), some (.ref g), y6, some (.ref g2), none, none, none, none] ∧ Ex0 H6 H' ∧ T4 H' g2 x y r s ∧ x * s - y * r = fv a b e d x y ∧ r.natAbs ≤ 2000000 ∧ s.natAbs ≤ 2000000, ?_, ?_⟩
    · exact ⟨_, rfl, _, rfl, t, u, a, b, e, d, x, y, rfl, ht6, hu6, bz4, by omega, by omega, hm, fun w H4 r s e4 hw h1 h2 h3 => ⟨w, r, s, rfl, e4, hw, h1, h2, h3⟩⟩
    rintro σ H7 ⟨g2, r2, s2, rfl, e7, hg2, hd2, hr2, hs2⟩
    have ht7 := Ex0.ti e7 ht6
    have hf7 := Ex0.fo e7 hf6
    have hu7 := Ex0.ap e7 hu6
    have bo := ob hr2 hs2
    have dd : x * s2 - y * r2 = 1 ∨ x * s2 - y * r2 = -1 := by rw [hd2]; exact hv
    have d1 : (x * s2 - y * r2) * fv a b e d x y = 1 := by
      rw [hd2]
      rcases hv with h | h <;> rw [h] <;> rfl
    obtain ⟨bA, bB, bC, bD⟩ := bk 92 (by decide)
    obtain ⟨w1, w2, w3⟩ := fled_way bA bB bC bD (p := x) (q := y) (by omega) (by omega) hr2 hs2 dd
    refine ⟨fun σ H' => ∃ (R M : Addr), σ = [some (.ref c), some (.ref t), some (.ref f), some (.ref l), some (.ref u), some (.ref g), y6, some (.ref g2), some (.ref R), some (.ref M), none, none] ∧ Ex0 H7 H' ∧ RingAt C_Form C_Ring H' R [a, b, e, d] ∧ RingAt C_Form C_Ring H' M (fled a b e d x y r2 s2), ?_, ?_⟩
    · refine ⟨_, rfl, fun y0 dy ny ndy _ => ?_⟩
      refine ⟨y0, dy, f, [a, b, e, d], rfl, upd_same, Ex0.fo (ex_two ny ndy) hf7, fun H8 e8 h8 => ⟨rfl, ?_⟩⟩
      obtain ⟨e9, hR⟩ := ri_made ny ndy hf7 e8 h8
      refine ⟨_, rfl, _, rfl, t, g2, a, b, e, d, x, y, r2, s2, rfl, Ex0.ti e9 ht7, Ex0.t4 e9 hg2, bz4, bo, fun w H9 e10 hw => ?_⟩
      refine ⟨1, rfl, w, _, rfl, SqT.of hw, fun hw => absurd hw.1 (by show ¬ ((1 : Nat) = 0); decide), fun _ p np => ?_⟩
      have ep := Ex0.new (o := .tup [.int ((x * s2 - y * r2) * fl2 a b e d x y r2 s2), .int ((x * s2 - y * r2) * fl3 a b e d x y r2 s2), .int ((x * s2 - y * r2) * fv a b e d r2 s2)]) np
      refine ⟨p, _, _, _, rfl, upd_same, shortB w1, shortB w2, shortB w3, fun M H10 e11 hM => ?_⟩
      have e9a := e10.trans (ep.trans e11)
      refine ⟨_, _, rfl, y0, M, rfl, e9.trans e9a, Ex0.ri e9a hR, ?_⟩
      show RingAt C_Form C_Ring H10 M [(x * s2 - y * r2) * fv a b e d x y, _, _, _]
      rw [d1]
      exact hM
    rintro σ H8 ⟨R, M, rfl, e8, hR, hM⟩
    have ht8 := Ex0.ti e8 ht7
    have hf8 := Ex0.fo e8 hf7
    have hu8 := Ex0.ap e8 hu7
    have hg8 := Ex0.t4 e8 hg2
    refine ⟨fun σ H' => σ = [some (.ref c), some (.ref t), some (.ref f), some (.ref l), some (.ref u), some (.ref g), y6, some (.ref g2), some (.ref R), some (.ref M), none, none] ∧ Ex0 H8 H', ?_, ?_⟩
    · refine ⟨_, rfl, _, rfl, _, rfl, f, u, .ref g2, a, b, e, d, x, y, some (x, y, r2, s2), rfl, hf8, hu8, bz1, sx, sy, hm, T4.ch hg8, ob4 bo.1 bo.2.1 bo.2.2.1 bo.2.2.2, fun H9 e9 => ⟨_, rfl, ?_⟩⟩
      rw [wy hd2]
      have hf9 := Ex0.fo e9 hf8
      obtain ⟨df, tf, hf91, hf92⟩ := id hf9
      have gs : ∀ {n : Int}, n.natAbs ≤ 2000000 → Short n := fun h => ⟨by omega, by omega⟩
      refine ⟨_, rfl, _, rfl, f, df, _, rfl, hf91, rfl, _, rfl, f, g2, a, b, e, d, x, y, r2, s2, rfl, hf9, Ex0.t4 e9 hg8, bz1.1, bz1.2.1, bz1.2.2.1, bz1.2.2.2, ⟨sx, sy, gs hr2, gs hs2, dd⟩, fun z H10 e10 hz' => ?_⟩
      intro y0 dy ny ndy _
      refine ⟨y0, dy, z, _, rfl, upd_same, Ex0.fo (ex_two ny ndy) hz', fun H11 e11 h11 => ⟨rfl, ?_⟩⟩
      obtain ⟨e12, hy0⟩ := ri_made ny ndy hz' e11 h11
      obtain ⟨d3, x3, hy00, _⟩ := id hy0
      have e91 := e9.trans (e10.trans e12)
      have hM11 := Ex0.ri e91 hM
      obtain ⟨dM, xM, hM1, _⟩ := id hM11
      refine ⟨M, dM, _, _, rfl, hM1, ty_ins T.ty_Ring T.cl_Ring hy00, first_self, M, .ref y0, _, rfl, hM11, .inl ⟨y0, _, rfl, hy0, _, rfl, _, rfl, ?_⟩⟩
      rw [decide_eq_true rfl]
      exact iteF ⟨rfl, e91⟩
    rintro σ H9 ⟨rfl, e9⟩
    have f9 := f6.trans (fv_ex f6.1 (e7.trans (e8.trans e9)))
    have ht9 := Ex0.ti e9 ht8
    have hu9 := Ex0.ap e9 hu8
    have hR9 := Ex0.ri e9 hR
    obtain ⟨dR, xR, hR91, hR92⟩ := id hR9
    have gs : ∀ {n : Int}, n.natAbs ≤ 1000 → Short n := fun h => ⟨by omega, by omega⟩
    have bs : ∀ {n : Int}, n.natAbs ≤ 100 → B 7 n := fun h => ⟨Nat.lt_of_le_of_lt h (by decide), by decide⟩
    refine ⟨fun σ H' => ∃ (Z : Addr) (v : Int), σ = [some (.ref c), some (.ref t), some (.ref f), some (.ref l), some (.ref u), some (.ref g), y6, some (.ref g2), some (.ref R), some (.ref M), some (.ref Z), none] ∧ Fv c H9 H' ∧ ElAt C_Form C_Ring C_Element H' Z [a, b, e, d] v x y 1 ∧ v.natAbs ≤ 9, ?_, ?_⟩
    · refine ⟨_, rfl, R, dR, _, rfl, hR91, rfl, _, rfl, c, 9, rfl, f9.1, by decide, by decide, fun v H10 v0 v1 e10 => ?_⟩
      have hu10 := fv_tup f9.1 e10 hu9
      refine ⟨_, rfl, u, _, 0, .int x, rfl, rfl, SqT.of hu10, rfl, _, rfl, u, _, 1, .int y, rfl, rfl, SqT.of hu10, rfl, sl3, fun t' nt => ?_⟩
      have et := Ex0.new (o := .tup [.int v, .int x, .int y]) nt
      refine ⟨R, t', _, v, x, y, 1, rfl, Ex0.ri et (ri_fv f9.1 e10 hR9), upd_same, gs (by omega), gs (by omega), gs (by omega), ⟨by decide, by decide⟩, by decide, fun Z H11 u' x' y' b' l1 e11 hZ => ?_⟩
      obtain ⟨rfl, rfl, rfl, rfl⟩ := low1 l1
      exact ⟨Z, _, rfl, e10.trans (fv_ex e10.1 (et.trans e11)), hZ, by omega⟩
    rintro σ H10 ⟨Z, v, rfl, e10, hZ, bv⟩
    have f10 := f9.trans e10
    have B1 : B 1000 1 := ⟨by decide, by decide⟩
    obtain ⟨dZ, rZ, tZ, hZ0, _, _⟩ := id hZ
    have B7 : B3 7 v x y := ⟨bs (by omega), bs (by omega), bs (by omega)⟩
    have B9 : B3 9000 v x y := B7.mono (by decide)
    have B3' : B3 1000 v x y := B7.mono (by decide)
    refine ⟨fun σ H' => ∃ (Sq : Addr), σ = [some (.ref c), some (.ref t), some (.ref f), some (.ref l), some (.ref u), some (.ref g), y6, some (.ref g2), some (.ref R), some (.ref M), some (.ref Z), some (.ref Sq)] ∧ Ex0 H10 H' ∧ Ti H' Sq [m0 (-a * e) (-a * d) (-b * d) v x y v x y, m1 b 0 d v x y v x y, m2 (-a) 0 (-e) v x y v x y], ?_, ?_⟩
    · refine ⟨_, rfl, _, rfl, Z, Z, dZ, dZ, _, _, rfl, rfl, hZ0, hZ0, Z, Z, a, b, e, d, v, x, y, 1, v, x, y, 1, rfl, hZ, hZ, bz1, B9, B3', B1, B1, by decide, fun S H11 i0 i1 i2 mb lm e11 hS => ⟨⟨_, rfl⟩, ?_⟩⟩
      obtain ⟨rfl, rfl, rfl, rfl⟩ := low1n lm rfl
      obtain ⟨dS, rS, tS, hS0, _, _⟩ := id hS
      refine ⟨S, dS, _, rfl, hS0, S, _, _, _, _, _, rfl, hS, fun t' ht' => ?_⟩
      exact ⟨t', rfl, e11, ht'⟩
    rintro σ H11 ⟨Sq, rfl, e11, hSq⟩
    obtain ⟨bA1, bA2, bA3, bA4⟩ := bk 190 (by decide)
    have v1 : B3 380 (-a * e) b (-a) := ⟨B.mul bA1.neg bA3, bA2.mono (by decide), bA1.neg.mono (by decide)⟩
    have v2 : B3 380 (-a * d) 0 0 := ⟨B.mul bA1.neg bA4, ⟨by decide, by decide⟩, ⟨by decide, by decide⟩⟩
    have v3 : B3 380 (-b * d) d (-e) := ⟨B.mul bA2.neg bA4, bA4.mono (by decide), bA3.neg.mono (by decide)⟩
    have bq1 := (m_B v1.2.1 v2.2.1 v3.2.1 B7 B7).2.1
    have bq2 := (m_B v1.2.2 v2.2.2 v3.2.2 B7 B7).2.2
    have hZ1 := Ex0.el e11 hZ
    have hZ10 := Ex0.ap e11 hZ0
    refine ⟨_, rfl, Z, dZ, _, rfl, hZ10, Z, _, v, x, y, 1, rfl, hZ1, fun te hte => ?_⟩
    refine ⟨te, _, 1, .int x, rfl, rfl, SqT.of hte, rfl, _, rfl, Sq, _, 2, .int _, rfl, rfl, SqT.of hSq, rfl, _, _, rfl, rfl, mulB B7.2.1 bq2 (by decide), ?_⟩
    refine ⟨_, rfl, Z, dZ, _, rfl, hZ10, Z, _, v, x, y, 1, rfl, hZ1, fun te2 hte2 => ?_⟩
    refine ⟨te2, _, 2, .int y, rfl, rfl, SqT.of hte2, rfl, _, rfl, Sq, _, 1, .int _, rfl, rfl, SqT.of hSq, rfl, _, _, rfl, rfl, mulB B7.2.2 bq1 (by decide), _, _, rfl, rfl, _, rfl, sl2, fun z nz => ?_⟩
    refine ⟨z, _, rfl, .inr (SqT.of upd_same), rfl, rfl, ?_⟩
    have fin : inV (.int (x * m2 (-a) 0 (-e) v x y v x y - y * m1 b 0 d v x y v x y)) [.int 1, .int (-1)] = true := by
      rw [sq_det a b e d v x y]
      show ((1 : Int) == 0 - fv a b e d x y || ((-1 : Int) == 0 - fv a b e d x y || false)) = true
      simp only [Bool.or_false, Bool.or_eq_true, beq_iff_eq]
      omega
    show Q (.bl (inV (.int (x * m2 (-a) 0 (-e) v x y v x y - y * m1 b 0 d v x y v x y)) [.int 1, .int (-1)])) _
    rw [fin]
    exact q _ (f10.trans (fv_ex f10.1 (e11.trans (Ex0.new nz))))
end
end RG
set_option Elab.async false
set_option linter.all false
set_option maxRecDepth 100000
namespace RG
open PySem PySem.Spec PyProof.Rows L2 Fr
open K05M (fv fl2 fl3 fdisc)
def sp_lawW (K : PySem.W.Frag) : Sp := fun vs H Q _ => ∃ (a : Addr) (ns : List Int), vs = [.ref a] ∧ SqL K H a (ns.map V.int) ∧ ns.length ≤ 63 ∧ ∀ H', Q (.bl true) H'
abbrev sp_law (K : PySem.W.Frag) (_ _ _ : Addr) : Sp := sp_lawW K
theorem wb1 : wayB (some (1, -1, 0, 1)) 1 (-1) (fv 1 1 2 1 1 (-1)) = true := by decide
theorem wb2 : wayB (some (1, -2, 0, 1)) 1 (-2) (fv 1 1 2 1 1 (-2)) = false := by decide
theorem wb3 : wayB (some (1, -2, 0, -1)) 1 (-2) (fv 1 1 2 1 1 (-2)) = true := by decide
theorem mb1 : mk1 1 1 2 1 1 (-1) = true := by decide
theorem mb2 : mk1 1 1 2 1 1 (-2) = true := by decide
section
variable {P : Program} {w : World} {K : PySem.W.Frag} {mg : Str → Option Value} {base : Heap} {C_Form C_Ring C_Element : Addr}
theorem ok_law0 (T : Txt K mg C_Form C_Ring C_Element) {f_ : Addr} {fd_ : FuncData} (F_ : Fun K "law" "law" s_law f_ fd_) : FnOk P w K mg base CX0 12 f_ fd_ ["_law_script"] (sp_law K C_Form C_Ring C_Element) := by
  obtain ⟨p_Form___init__, f_Form___init__, fd_Form___init__, R_Form___init__, b_Form___init__, G_Form___init__⟩ := (ok_Form___init__ (P := P) (w := w) (base := base) T)
  obtain ⟨f_l_is_way, fd_l_is_way, g_l_is_way, k_l_is_way, b_l_is_way, G_l_is_way⟩ := (ok_l_is_way (P := P) (w := w) (base := base) T)
  obtain ⟨f_l_vat, fd_l_vat, g_l_vat, k_l_vat, b_l_vat, G_l_vat⟩ := (ok_l_vat (P := P) (w := w) (base := base) T)
  obtain ⟨f_l_way_right, fd_l_way_right, g_l_way_right, k_l_way_right, b_l_way_right, G_l_way_right⟩ := (ok_l_way_right (P := P) (w := w) (base := base) T)
  obtain ⟨f_is_maker_way, fd_is_maker_way, g_is_maker_way, k_is_maker_way, b_is_maker_way, G_is_maker_way⟩ := (ok_is_maker_way (P := P) (w := w) (base := base) T)
  obtain ⟨f_maker_way, fd_maker_way, g_maker_way, k_maker_way, b_maker_way, G_maker_way⟩ := (ok_maker_way (P := P) (w := w) (base := base) T)
  refine F_.ok sc_law (fun vs H Q E h => ?_) (fun cdv A outer s H vs Q E hr h => ?_)
  · first | (obtain ⟨rfl, _⟩ := h; rfl) | (obtain ⟨_, rfl, _⟩ := h; rfl) | (obtain ⟨_, _, rfl, _⟩ := h; rfl) | (obtain ⟨_, _, _, rfl, _⟩ := h; rfl) | (obtain ⟨_, _, _, _, rfl, _⟩ := h; rfl) | (obtain ⟨_, _, _, _, _, rfl, _⟩ := h; rfl) | (obtain ⟨_, _, _, _, _, _, rfl, _⟩ := h; rfl) | (obtain ⟨_, _, _, _, _, _, _, rfl, _⟩ := h; rfl) | (obtain ⟨_, _, _, _, _, _, _, _, rfl, _⟩ := h; rfl) | (obtain ⟨_, _, _, _, _, _, _, _, _, rfl, _⟩ := h; rfl) | (obtain ⟨_, _, _, _, _, _, _, _, _, _, rfl, _⟩ := h; rfl) | (obtain ⟨_, _, _, _, _, _, _, _, _, _, _, rfl, _⟩ := h; rfl) | (obtain ⟨_, _, _, _, _, _, _, _, _, _, _, _, rfl, _⟩ := h; rfl) | (obtain ⟨_, _, _, _, _, _, _, _, _, _, _, _, _, rfl, _⟩ := h; rfl) | (obtain ⟨_, _, _, _, _, _, _, _, _, _, _, _, _, _, rfl, _⟩ := h; rfl) | (obtain ⟨_, _, _, _, _, _, _, _, _, _, _, _, _, _, _, rfl, _⟩ := h; rfl) | (obtain ⟨_, _, _, _, _, _, _, _, _, _, _, _, _, _, _, _, rfl, _⟩ := h; rfl) | (obtain ⟨_, _, _, _, _, _, _, _, _, _, _, _, _, _, _, _, _, rfl, _⟩ := h; rfl) | (obtain ⟨_, _, _, _, _, _, _, _, _, _, _, _, _, _, _, _, _, _, rfl, _⟩ := h; rfl) | (obtain ⟨_, _, _, _, _, _, _, _, _, _, _, _, _, _, _, _, _, _, _, rfl, _⟩ := h; rfl) | (obtain ⟨_, _, _, _, _, _, _, _, _, _, _, _, _, _, _, _, _, _, _, _, rfl, _⟩ := h; rfl) | (obtain ⟨_, _, _, _, _, _, _, _, _, _, _, _, _, _, _, _, _, _, _, _, _, rfl, _⟩ := h; rfl) | (obtain ⟨_, _, _, _, _, _, _, _, _, _, _, _, _, _, _, _, _, _, _, _, _, _, rfl, _⟩ := h; rfl) | (obtain ⟨_, _, _, _, _, _, _, _, _, _, _, _, _, _, _, _, _, _, _, _, _, _, _, rfl, _⟩ := h; rfl)
  · obtain ⟨a, ns, rfl, hS, hn, q⟩ := h
    refine ⟨_, (pss_cons (ps_for PassesOwn.never rfl (pi_range1 (by rfl) T.b_range (pa_cons (pe_callB (call_max2 rfl) (by rfl) T.b_max (by decide +kernel) (pa_cons pe_int (pa_cons (pe_callB (call_min2 rfl) (by rfl) T.b_min (by decide +kernel) (pa_cons pe_int (pa_cons (pe_callB call_len_seq (by rfl) T.b_len PySem.boot_len (pa_cons (pv 0) pa_nil)) pa_nil))) pa_nil))) pa_nil)) (pg_name (i := 1) sc_law.nd rfl (.inl rfl))
      (pss_cons (ps_set (i := 2) sc_law.nd rfl (.inl rfl) (pe_call G_l_vat (hr.mono (by decide)) (by rfl) g_l_vat k_l_vat b_l_vat .nil pass0 (pa_cons (pv 0) (pa_cons (pv 1) pa_nil))))
    (pss_one (ps_for PassesOwn.never rfl (pi_range1 (by rfl) T.b_range (pa_cons pe_int pa_nil)) (pg_name (i := 3) sc_law.nd rfl (.inl rfl))
      (pss_one (ps_if (pt_not (pt_val (pe_call G_l_way_right (hr.mono (by decide)) (by rfl) g_l_way_right k_l_way_right b_l_way_right .nil pass0 (pa_cons (pv 2) pa_nil))))
      (pss_one (ps_ret pe_bl))
      pss_nil))))))
    (Evl.pss_cut (ps_set (i := 4) sc_law.nd rfl (.inl rfl) (pe_make R_Form___init__ G_Form___init__ (hr.mono (by decide)) (by rfl) T.g_Form b_Form___init__ .nil pass0 (pa_cons (pe_tup (pa_cons pe_int (pa_cons pe_int (pa_cons pe_int (pa_cons pe_int pa_nil))))) pa_nil)))
    (Evl.pss_cut (ps_set (i := 5) sc_law.nd rfl (.inl rfl) (pe_lst (pa_cons (pe_call G_is_maker_way (hr.mono (by decide)) (by rfl) g_is_maker_way k_is_maker_way b_is_maker_way .nil pass0 (pa_cons (pv 4) (pa_cons (pe_tup (pa_cons pe_int (pa_cons (pe_un un_neg pe_int) pa_nil))) (pa_cons (pe_tup (pa_cons (pe_tup (pa_cons pe_int (pa_cons (pe_un un_neg pe_int) pa_nil))) (pa_cons (pe_tup (pa_cons pe_int (pa_cons pe_int pa_nil))) pa_nil))) pa_nil)))) (pa_cons (pe_call G_is_maker_way (hr.mono (by decide)) (by rfl) g_is_maker_way k_is_maker_way b_is_maker_way .nil pass0 (pa_cons (pv 4) (pa_cons (pe_tup (pa_cons pe_int (pa_cons (pe_un un_neg pe_int) pa_nil))) (pa_cons (pe_tup (pa_cons (pe_tup (pa_cons pe_int (pa_cons (pe_un un_neg pe_int) pa_nil))) (pa_cons (pe_tup (pa_cons pe_int (pa_cons pe_int pa_nil))) pa_nil))) pa_nil)))) pa_nil))))
    (Evl.pss_cut (ps_expr (pe_bm PySem.F.plainAttrs_list PySem.F.slot_list_append PySem.F.type_list_append mt_append (pv 5) (pa_cons (pe_call G_is_maker_way (hr.mono (by decide)) (by rfl) g_is_maker_way k_is_maker_way b_is_maker_way .nil pass0 (pa_cons (pv 4) (pa_cons (pe_tup (pa_cons pe_int (pa_cons (pe_un un_neg pe_int) pa_nil))) (pa_cons (pe_tup (pa_cons (pe_tup (pa_cons pe_int (pa_cons (pe_un un_neg pe_int) pa_nil))) (pa_cons (pe_tup (pa_cons pe_int (pa_cons (pe_un un_neg pe_int) pa_nil))) pa_nil))) pa_nil)))) pa_nil)))
    (pss_one (ps_ret (pe_and (pe_cmpR (op_eqD hr.units) (pv 5) (pe_lst (pa_cons pe_bl (pa_cons pe_bl (pa_cons pe_bl pa_nil)))) (nomark _)) (pe_one (pe_call G_l_is_way (hr.mono (by decide)) (by rfl) g_l_is_way k_l_is_way b_l_is_way .nil pass0 (pa_cons (pe_tup (pa_cons pe_int (pa_cons pe_int (pa_cons pe_int (pa_cons pe_int pa_nil))))) (pa_cons (pe_tup (pa_cons pe_int (pa_cons (pe_un un_neg pe_int) pa_nil))) (pa_cons (pe_call G_maker_way (hr.mono (by decide)) (by rfl) g_maker_way k_maker_way b_maker_way .nil pass0 (pa_cons (pv 4) (pa_cons (pe_tup (pa_cons pe_int (pa_cons (pe_un un_neg pe_int) pa_nil))) pa_nil))) pa_nil)))))))))))), ?_⟩
    have hm : ∀ z : Int, z ≤ 63 → -(2 ^ 62) ≤ (if (if z < 3 then z else 3) > 1 then (if z < 3 then z else 3) else 1) ∧ (if (if z < 3 then z else 3) > 1 then (if z < 3 then z else 3) else 1) < 2 ^ 62 := fun z hz => by
      split <;> split <;> omega
    have hm2 := hm (((ns.map V.int).length : Nat) : Int) (by rw [List.length_map]; omega)
    refine ⟨_, rfl, a, _, rfl, .inl hS, _, _, rfl, _, _, rfl, _, rfl, hm2.1, hm2.2, ?_⟩
    refine for_range (lo := 0) (fun i σ H' => ∃ y1 y2 y3, σ = [some (.ref a), y1, y2, y3, none, none] ∧ Ex0 H H') ⟨none, none, none, rfl, Ex0.refl H⟩ ?_ ?_
    · rintro i σ H' hi ⟨y1, y2, y3, rfl, e⟩
      refine ⟨_, rfl, _, rfl, a, ns, i, by show [V.ref a, V.int (0 + (i : Int))] = _; rw [Int.zero_add], e.sqL (fun z => z) hS, fun p H1 np e1 hv => ?_⟩
      have hp0 : H p = none := Fx.free e (fun z => z) np
      have e01 : Ex0 H H1 := e.trans e1
      refine ⟨_, rfl, by decide, by decide, ?_⟩
      refine for_range (lo := 0) (n := (2 : Int).toNat) (fun j σ H' => ∃ z1 z3 : Option V, σ = [some (.ref a), z1, some (.ref p), z3, none, none] ∧ Fv p H1 H') ⟨_, _, rfl, Fx.refl hv⟩ ?_ ?_
      · rintro j σ H2 hj ⟨z1, z3, rfl, e2⟩
        refine ⟨_, rfl, p, rfl, e2.1, fun H3 e3 => ⟨_, rfl, iteF ?_⟩⟩
        exact ⟨_, _, rfl, e2.trans e3⟩
      · rintro σ H2 ⟨z1, z3, rfl, e2⟩
        exact ⟨_, _, _, rfl, ex_fv e01 hp0 e2⟩
    · rintro σ H' ⟨y1, y2, y3, rfl, e⟩
      have sh : ∀ {x y z v : Int}, x.natAbs ≤ 9 → y.natAbs ≤ 9 → z.natAbs ≤ 9 → v.natAbs ≤ 9 → ∀ n ∈ [x, y, z, v], Short n := fun h1 h2 h3 h4 n h => by
        simp only [List.mem_cons, List.mem_nil_iff, or_false] at h
        rcases h with rfl | rfl | rfl | rfl <;> exact ⟨by omega, by omega⟩
      have S9 : ∀ {n : Int}, n.natAbs ≤ 9 → Short n := fun h => ⟨by omega, by omega⟩
      have B9 : ∀ {n : Int}, n.natAbs ≤ 9 → B 4 n := fun h => ⟨Nat.lt_of_le_of_lt h (by decide), by decide⟩
      have bz : ∀ k, 4 ≤ k → B4 k 1 1 2 1 := fun k h => ⟨(B9 (by decide)).mono h, (B9 (by decide)).mono h, (B9 (by decide)).mono h, (B9 (by decide)).mono h⟩
      have bz1 : B4 1000 1 1 2 1 := bz _ (by decide)
      have bz4 : B4 400 1 1 2 1 := bz _ (by decide)
      have ob9 : ∀ {p q r s : Int}, p.natAbs ≤ 9 → q.natAbs ≤ 9 → r.natAbs ≤ 9 → s.natAbs ≤ 9 → OB (some (p, q, r, s)) := fun h1 h2 h3 h4 => ob4 ((B9 h1).mono (by decide)) ((B9 h2).mono (by decide)) ((B9 h3).mono (by decide)) ((B9 h4).mono (by decide))
      refine ⟨fun σ H2 => ∃ (f : Addr), σ = [some (.ref a), y1, y2, y3, some (.ref f), none] ∧ FormAt C_Form H2 f [1, 1, 2, 1], ?_, ?_⟩
      · refine ⟨sl4, fun t1 n1 x1 dx1 nx1 ndx1 _ => ?_⟩
        have ht1 : Ti (upd H' t1 (.tup [.int 1, .int 1, .int 2, .int 1])) t1 [1, 1, 2, 1] := upd_same
        refine ⟨x1, dx1, t1, _, rfl, upd_same, made_at nx1 ndx1 ht1, rfl, sh (by decide) (by decide) (by decide) (by decide), fun H1 e1 h1 => ⟨rfl, ?_⟩⟩
        obtain ⟨e2, hx1⟩ := fo_made nx1 ndx1 ht1 e1 h1
        exact ⟨x1, rfl, hx1⟩
      rintro σ H2 ⟨f, rfl, hf⟩
      refine ⟨fun σ H3 => ∃ (l : Addr), σ = [some (.ref a), y1, y2, y3, some (.ref f), some (.ref l)] ∧ H2 l = none ∧ Ex0 H2 H3 ∧ H3 l = some (.lst [.bl true, .bl false]), ?_, ?_⟩
      · refine ⟨_, rfl, _, rfl, sl2, fun a1 m1 => ⟨_, rfl, sl2, fun a2 m2 => ⟨sl2, fun a3 m3 => ⟨sl2, fun a4 m4 => ?_⟩⟩⟩⟩
        have c1 := Ex0.new (o := .tup [.int 1, .int (-1)]) m1
        obtain ⟨c2, w2⟩ := t4_new m2 m3 m4
        have hf2 := Ex0.fo (c1.trans c2) hf
        have hp1 := Ex0.ap c2 (upd_same : upd H2 a1 (.tup [.int 1, .int (-1)]) a1 = _)
        refine ⟨f, a1, .ref a4, 1, 1, 2, 1, 1, -1, some (1, -1, 0, 1), rfl, hf2, hp1, bz1, S9 (by decide), S9 (by decide), mb1, T4.ch w2, ob9 (by decide) (by decide) (by decide) (by decide), fun H3 e3 => ?_⟩
        rw [wb1]
        have e23 := (c1.trans c2).trans e3
        refine ⟨_, rfl, _, rfl, sl2, fun b1 m1 => ⟨_, rfl, sl2, fun b2 m2 => ⟨sl2, fun b3 m3 => ⟨sl2, fun b4 m4 => ?_⟩⟩⟩⟩
        have d1 := Ex0.new (o := .tup [.int 1, .int (-2)]) m1
        obtain ⟨d2, w3⟩ := t4_new m2 m3 m4
        have hf3 := Ex0.fo (e23.trans (d1.trans d2)) hf
        have hp2 := Ex0.ap d2 (upd_same : upd H3 b1 (.tup [.int 1, .int (-2)]) b1 = _)
        refine ⟨f, b1, .ref b4, 1, 1, 2, 1, 1, -2, some (1, -2, 0, 1), rfl, hf3, hp2, bz1, S9 (by decide), S9 (by decide), mb2, T4.ch w3, ob9 (by decide) (by decide) (by decide) (by decide), fun H4 e4 => ?_⟩
        rw [wb2]
        have e24 := (e23.trans (d1.trans d2)).trans e4
        refine ⟨sl2, fun l nl => ?_⟩
        exact ⟨l, rfl, Fx.free e24 (fun z => z) nl, e24.trans (Ex0.new nl), upd_same⟩
      rintro σ H3 ⟨l, rfl, nl, e3, hl⟩
      refine ⟨fun σ H4 => σ = [some (.ref a), y1, y2, y3, some (.ref f), some (.ref l)] ∧ Ex0 H2 H4 ∧ H4 l = some (.lst [.bl true, .bl false, .bl true]), ?_, ?_⟩
      · refine ⟨_, rfl, .inl ⟨rfl, _, SqL.of hl⟩, ?_⟩
        refine ⟨_, rfl, _, rfl, sl2, fun b1 m1 => ⟨_, rfl, sl2, fun b2 m2 => ⟨_, rfl, sl2, fun b3 m3 => ⟨sl2, fun b4 m4 => ?_⟩⟩⟩⟩
        have d1 := Ex0.new (o := .tup [.int 1, .int (-2)]) m1
        obtain ⟨d2, w3⟩ := t4_new m2 m3 m4
        have e3d := e3.trans (d1.trans d2)
        have hf3 := Ex0.fo e3d hf
        have hp2 := Ex0.ap d2 (upd_same : upd H3 b1 (.tup [.int 1, .int (-2)]) b1 = _)
        refine ⟨f, b1, .ref b4, 1, 1, 2, 1, 1, -2, some (1, -2, 0, -1), rfl, hf3, hp2, bz1, S9 (by decide), S9 (by decide), mb2, T4.ch w3, ob9 (by decide) (by decide) (by decide) (by decide), fun H4 e4 => ?_⟩
        rw [wb3]
        have hl4 := Ex0.ap ((d1.trans d2).trans e4) hl
        refine ⟨l, _, _, rfl, rfl, hl4, by show 2 < sizeLine; decide, ?_⟩
        exact ⟨rfl, Fx.mut fm0 (e3d.trans e4) trivial nl, upd_same⟩
      rintro σ H4 ⟨rfl, e4, hl4⟩
      refine ⟨_, rfl, sl3, fun l2 n2 => ?_⟩
      have c1 := Ex0.new (o := .lst [.bl true, .bl false, .bl true]) n2
      refine ⟨.list [.bool true, .bool false, .bool true], .list [.bool true, .bool false, .bool true], .lst (SqL.of (Ex0.ap c1 hl4)) (.cons (.bl true) (.cons (.bl false) (.cons (.bl true) .nil))), .lst (SqL.of upd_same) (.cons (.bl true) (.cons (.bl false) (.cons (.bl true) .nil))), by decide, by decide, ?_⟩
      rw [show PyData.eqv (.list [.bool true, .bool false, .bool true]) (.list [.bool true, .bool false, .bool true]) = true by decide]
      refine ⟨_, rfl, iteT ?_⟩
      refine ⟨sl4, fun t nt => ⟨_, rfl, sl2, fun u nu => ⟨_, rfl, _, rfl, sl2, fun u2 nu2 => ?_⟩⟩⟩
      have c2 := Ex0.new (o := .tup [.int 1, .int 1, .int 2, .int 1]) nt
      have c3 := Ex0.new (o := .tup [.int 1, .int (-2)]) nu
      have c4 := Ex0.new (o := .tup [.int 1, .int (-2)]) nu2
      have hf4 := Ex0.fo (e4.trans (c1.trans (c2.trans (c3.trans c4)))) hf
      refine ⟨f, u2, 1, 1, 2, 1, 1, -2, rfl, hf4, upd_same, bz1, by decide, by decide, mb2, fun w H5 r s' e5 hw hd hr hs => ?_⟩
      have b21 : ∀ {z : Int}, z.natAbs ≤ 2000000 → B 300 z := fun h => ⟨Nat.lt_of_le_of_lt h (Nat.lt_of_lt_of_le (by decide : 2000000 < 2 ^ 21) (Nat.pow_le_pow_right (by decide) (by decide))), by decide⟩
      refine ⟨t, u, .ref w, 1, 1, 2, 1, 1, -2, some (1, -2, r, s'), rfl, Ex0.ti ((c3.trans c4).trans e5) upd_same, Ex0.ap (c4.trans e5) upd_same, bz4, T4.ch hw, ob4 (b21 (by decide)) (b21 (by decide)) (b21 hr) (b21 hs), mb2, fun H6 e6 => ?_⟩
      have fin : wayB (some (1, -2, r, s')) 1 (-2) (fv 1 1 2 1 1 (-2)) = true := decide_eq_true ⟨by rw [hd]; decide, rfl, rfl, hd⟩
      rw [fin]
      exact q _
end
theorem facts {P : Program} {w : World} {K : PySem.W.Frag} {h : Heap} {mg : Str → Option Value} {f : Addr} (X : K.In h) (G : h.Ns mainGlobals mg) (hfa : mg ("law" : Str) = some (.ref f)) (c : Hd.SaysM fa dd K) :
    ∃ fd : FuncData, (∀ (s : Shared) (v : Value), BindsTo s fd ⟨[v], []⟩ [("_law_script", v)]) ∧ ∀ base : Heap, K.In base → base.Ns mainGlobals mg → FnOk P w K mg base CX0 12 f fd ["_law_script"] (sp_lawW K) := by
  obtain ⟨fd0, F0⟩ := c.def_ 0 (d := e0) rfl
  obtain ⟨fd1, F1⟩ := c.def_ 1 (d := e1) rfl
  obtain ⟨fd2, F2⟩ := c.def_ 2 (d := e2) rfl
  obtain ⟨fd3, F3⟩ := c.def_ 3 (d := e3) rfl
  obtain ⟨fd4, F4⟩ := c.def_ 4 (d := e4) rfl
  obtain ⟨fd5, F5⟩ := c.def_ 5 (d := e5) rfl
  obtain ⟨fd6, F6⟩ := c.def_ 6 (d := e6) rfl
  obtain ⟨fd7, F7⟩ := c.def_ 7 (d := e7) rfl
  obtain ⟨fd8, F8⟩ := c.def_ 8 (d := e8) rfl
  obtain ⟨fd9, F9⟩ := c.def_ 9 (d := e9) rfl
  obtain ⟨fd10, F10⟩ := c.def_ 10 (d := e10) rfl
  obtain ⟨fd11, F11⟩ := c.def_ 11 (d := e11) rfl
  obtain ⟨fd12, F12⟩ := c.def_ 12 (d := e12) rfl
  obtain ⟨fd13, F13⟩ := c.def_ 13 (d := e13) rfl
  obtain ⟨fd14, F14⟩ := c.def_ 14 (d := e14) rfl
  obtain ⟨fd15, F15⟩ := c.def_ 15 (d := e15) rfl
  obtain ⟨fd16, F16⟩ := c.def_ 16 (d := e16) rfl
  obtain ⟨fd17, F17⟩ := c.def_ 17 (d := e17) rfl
  obtain ⟨fd18, F18⟩ := c.def_ 18 (d := e18) rfl
  obtain ⟨fd19, F19⟩ := c.def_ 19 (d := e19) rfl
  obtain ⟨fd20, F20⟩ := c.def_ 20 (d := e20) rfl
  obtain ⟨fd21, F21⟩ := c.def_ 21 (d := e21) rfl
  obtain ⟨fd22, F22⟩ := c.def_ 22 (d := e22) rfl
  obtain ⟨fd23, F23⟩ := c.def_ 23 (d := e23) rfl
  obtain ⟨fd24, F24⟩ := c.def_ 24 (d := e24) rfl
  obtain ⟨fd25, F25⟩ := c.def_ 25 (d := e25) rfl
  obtain ⟨fd26, F26⟩ := c.def_ 26 (d := e26) rfl
  obtain ⟨fd27, F27⟩ := c.def_ 27 (d := e27) rfl
  obtain ⟨fd28, F28⟩ := c.def_ 28 (d := e28) rfl
  obtain ⟨fd29, F29⟩ := c.def_ 29 (d := e29) rfl
  obtain ⟨fd30, F30⟩ := c.def_ 30 (d := e30) rfl
  obtain ⟨fd31, F31⟩ := c.def_ 31 (d := e31) rfl
  obtain ⟨fd32, F32⟩ := c.def_ 32 (d := e32) rfl
  obtain ⟨fd33, F33⟩ := c.def_ 33 (d := e33) rfl
  obtain ⟨fd34, F34⟩ := c.def_ 34 (d := e34) rfl
  obtain ⟨fd35, F35⟩ := c.def_ 35 (d := e35) rfl
  obtain ⟨fd36, F36⟩ := c.def_ 36 (d := e36) rfl
  obtain ⟨fd37, F37⟩ := c.def_ 37 (d := e37) rfl
  obtain ⟨fd38, F38⟩ := c.def_ 38 (d := e38) rfl
  obtain ⟨fd39, F39⟩ := c.def_ 39 (d := e39) rfl
  obtain ⟨fd40, F40⟩ := c.def_ 40 (d := e40) rfl
  obtain ⟨fd41, F41⟩ := c.def_ 41 (d := e41) rfl
  obtain ⟨fd42, F42⟩ := c.def_ 42 (d := e42) rfl
  obtain ⟨fd43, F43⟩ := c.def_ 43 (d := e43) rfl
  obtain ⟨fd44, F44⟩ := c.def_ 44 (d := e44) rfl
  obtain ⟨fd45, F45⟩ := c.def_ 45 (d := e45) rfl
  obtain ⟨fd46, F46⟩ := c.def_ 46 (d := e46) rfl
  obtain ⟨fd47, F47⟩ := c.def_ 47 (d := e47) rfl
  obtain ⟨fd48, F48⟩ := c.def_ 48 (d := e48) rfl
  obtain ⟨fd49, F49⟩ := c.def_ 49 (d := e49) rfl
  obtain ⟨fd50, F50⟩ := c.def_ 50 (d := e50) rfl
  obtain ⟨fd51, F51⟩ := c.def_ 51 (d := e51) rfl
  obtain ⟨fd52, F52⟩ := c.def_ 52 (d := e52) rfl
  obtain ⟨fd53, F53⟩ := c.def_ 53 (d := e53) rfl
  obtain ⟨fd54, F54⟩ := c.def_ 54 (d := e54) rfl
  obtain ⟨fd55, F55⟩ := c.def_ 55 (d := e55) rfl
  obtain ⟨fd56, F56⟩ := c.def_ 56 (d := e56) rfl
  obtain ⟨fd57, F57⟩ := c.def_ 57 (d := e57) rfl
  obtain ⟨fd58, F58⟩ := c.def_ 58 (d := e58) rfl
  obtain ⟨fd59, F59⟩ := c.def_ 59 (d := e59) rfl
  obtain ⟨fd60, F60⟩ := c.def_ 60 (d := e60) rfl
  obtain ⟨fd61, F61⟩ := c.def_ 61 (d := e61) rfl
  obtain ⟨fd62, F62⟩ := c.def_ 62 (d := e62) rfl
  obtain ⟨fd63, F63⟩ := c.def_ 63 (d := e63) rfl
  obtain ⟨fd64, F64⟩ := c.def_ 64 (d := e64) rfl
  obtain ⟨fd65, F65⟩ := c.def_ 65 (d := e65) rfl
  obtain ⟨fd66, F66⟩ := c.def_ 66 (d := e66) rfl
  obtain ⟨fd67, F67⟩ := c.def_ 67 (d := e67) rfl
  obtain ⟨fd68, F68⟩ := c.def_ 68 (d := e68) rfl
  obtain ⟨fd69, F69⟩ := c.def_ 69 (d := e69) rfl
  obtain ⟨fd70, F70⟩ := c.def_ 70 (d := e70) rfl
  obtain ⟨fd71, F71⟩ := c.def_ 71 (d := e71) rfl
  have T : Txt K mg (He.ga K "Form") (He.ga K "Ring") (He.ga K "Element") := ⟨He.glo_ok X G (c.fact 0 (f := g0) rfl),
    He.cls_ok (c.fact 1 (f := g1) rfl),
    Hd.ty_ok (c.fact 2 (f := g2) rfl),
    He.noat_ok (c.fact 3 (f := g3) rfl),
    He.glo_ok X G (c.fact 4 (f := g4) rfl),
    He.cls_ok (c.fact 5 (f := g5) rfl),
    Hd.ty_ok (c.fact 6 (f := g6) rfl),
    He.noat_ok (c.fact 7 (f := g7) rfl),
    He.glo_ok X G (c.fact 8 (f := g8) rfl),
    He.cls_ok (c.fact 9 (f := g9) rfl),
    Hd.ty_ok (c.fact 10 (f := g10) rfl),
    He.noat_ok (c.fact 11 (f := g11) rfl),
    He.noat_ok (c.fact 12 (f := g12) rfl),
    He.noat_ok (c.fact 13 (f := g13) rfl),
    Hd.fore_ok (c.fact 14 (f := g14) rfl),
    Hd.fore_ok (c.fact 15 (f := g15) rfl),
    ⟨_, _, He.glo_ok X G (c.fact 16 (f := g16) rfl), Hd.fun_of F0⟩,
    ⟨_, _, He.glo_ok X G (c.fact 17 (f := g17) rfl), Hd.fun_of F1⟩,
    ⟨_, _, He.glo_ok X G (c.fact 18 (f := g18) rfl), Hd.fun_of F2⟩,
    ⟨_, _, He.glo_ok X G (c.fact 19 (f := g19) rfl), Hd.fun_of F3⟩,
    ⟨_, _, He.glo_ok X G (c.fact 20 (f := g20) rfl), Hd.fun_of F4⟩,
    ⟨_, _, He.glo_ok X G (c.fact 21 (f := g21) rfl), Hd.fun_of F5⟩,
    ⟨_, _, He.glo_ok X G (c.fact 22 (f := g22) rfl), Hd.fun_of F6⟩,
    ⟨_, _, He.glo_ok X G (c.fact 23 (f := g23) rfl), Hd.fun_of F7⟩,
    ⟨_, _, He.glo_ok X G (c.fact 24 (f := g24) rfl), Hd.fun_of F8⟩,
    ⟨_, _, He.glo_ok X G (c.fact 25 (f := g25) rfl), Hd.fun_of F9⟩,
    ⟨_, _, He.glo_ok X G (c.fact 26 (f := g26) rfl), Hd.fun_of F10⟩,
    ⟨_, _, He.glo_ok X G (c.fact 27 (f := g27) rfl), Hd.fun_of F11⟩,
    ⟨_, _, He.glo_ok X G (c.fact 28 (f := g28) rfl), Hd.fun_of F12⟩,
    ⟨_, _, He.glo_ok X G (c.fact 29 (f := g29) rfl), Hd.fun_of F13⟩,
    ⟨_, _, He.glo_ok X G (c.fact 30 (f := g30) rfl), Hd.fun_of F14⟩,
    ⟨_, _, He.glo_ok X G (c.fact 31 (f := g31) rfl), Hd.fun_of F15⟩,
    ⟨_, _, He.glo_ok X G (c.fact 32 (f := g32) rfl), Hd.fun_of F16⟩,
    ⟨_, _, He.glo_ok X G (c.fact 33 (f := g33) rfl), Hd.fun_of F17⟩,
    ⟨He.ga K "Form", _, _, He.mkr_ok (c.fact 34 (f := g34) rfl), Hd.fun_of F18⟩,
    ⟨_, _, _, Hd.prop_ok (c.fact 35 (f := g35) rfl), Hd.fun_of F19⟩,
    ⟨He.ga K "Form", _, _, Hd.call_ok (c.fact 36 (f := g36) rfl), Hd.fun_of F20⟩,
    ⟨He.ga K "Form", _, _, He.meth_ok (c.fact 37 (f := g37) rfl), Hd.fun_of F21⟩,
    ⟨He.ga K "Form", _, _, Hd.eq_ok (c.fact 38 (f := g38) rfl), Hd.fun_of F22⟩,
    ⟨_, _, He.glo_ok X G (c.fact 39 (f := g39) rfl), Hd.fun_of F23⟩,
    ⟨_, _, He.glo_ok X G (c.fact 40 (f := g40) rfl), Hd.fun_of F24⟩,
    ⟨_, _, He.glo_ok X G (c.fact 41 (f := g41) rfl), Hd.fun_of F25⟩,
    ⟨_, _, He.glo_ok X G (c.fact 42 (f := g42) rfl), Hd.fun_of F26⟩,
    ⟨_, _, He.glo_ok X G (c.fact 43 (f := g43) rfl), Hd.fun_of F27⟩,
    ⟨_, _, He.glo_ok X G (c.fact 44 (f := g44) rfl), Hd.fun_of F28⟩,
    ⟨_, _, He.glo_ok X G (c.fact 45 (f := g45) rfl), Hd.fun_of F29⟩,
    ⟨He.ga K "Ring", _, _, He.mkr_ok (c.fact 46 (f := g46) rfl), Hd.fun_of F30⟩,
    ⟨_, _, _, Hd.prop_ok (c.fact 47 (f := g47) rfl), Hd.fun_of F31⟩,
    ⟨He.ga K "Ring", _, _, He.meth_ok (c.fact 48 (f := g48) rfl), Hd.fun_of F32⟩,
    ⟨He.ga K "Ring", _, _, He.meth_ok (c.fact 49 (f := g49) rfl), Hd.fun_of F33⟩,
    ⟨He.ga K "Ring", _, _, He.meth_ok (c.fact 50 (f := g50) rfl), Hd.fun_of F34⟩,
    ⟨He.ga K "Ring", _, _, He.meth_ok (c.fact 51 (f := g51) rfl), F35⟩,
    ⟨He.ga K "Ring", _, _, Hd.eq_ok (c.fact 52 (f := g52) rfl), Hd.fun_of F36⟩,
    ⟨_, _, He.glo_ok X G (c.fact 53 (f := g53) rfl), Hd.fun_of F37⟩,
    ⟨_, _, He.glo_ok X G (c.fact 54 (f := g54) rfl), Hd.fun_of F38⟩,
    ⟨He.ga K "Element", _, _, He.mkr_ok (c.fact 55 (f := g55) rfl), Hd.fun_of F39⟩,
    ⟨_, _, _, Hd.prop_ok (c.fact 56 (f := g56) rfl), Hd.fun_of F40⟩,
    ⟨_, _, _, Hd.prop_ok (c.fact 57 (f := g57) rfl), Hd.fun_of F41⟩,
    ⟨_, _, _, Hd.prop_ok (c.fact 58 (f := g58) rfl), Hd.fun_of F42⟩,
    ⟨_, _, _, Hd.prop_ok (c.fact 59 (f := g59) rfl), Hd.fun_of F43⟩,
    ⟨He.ga K "Element", _, _, (fun z => ⟨z.1, z.2.1, z.2.2⟩ : _ → BinC K _ _ _) (Hd.bin_ok (c.fact 60 (f := g60) rfl)), Hd.fun_of F44⟩,
    ⟨He.ga K "Element", _, _, (fun z => ⟨z.1, z.2.1, z.2.2⟩ : _ → BinC K _ _ _) (Hd.bin_ok (c.fact 61 (f := g61) rfl)), Hd.fun_of F45⟩,
    ⟨He.ga K "Element", _, _, (fun z => ⟨z.1, z.2.1, z.2.2⟩ : _ → BinC K _ _ _) (Hd.bin_ok (c.fact 62 (f := g62) rfl)), Hd.fun_of F46⟩,
    ⟨He.ga K "Element", _, _, He.meth_ok (c.fact 63 (f := g63) rfl), Hd.fun_of F47⟩,
    ⟨He.ga K "Element", _, _, He.meth_ok (c.fact 64 (f := g64) rfl), Hd.fun_of F48⟩,
    ⟨He.ga K "Element", _, _, Hd.eq_ok (c.fact 65 (f := g65) rfl), Hd.fun_of F49⟩,
    ⟨_, _, He.glo_ok X G (c.fact 66 (f := g66) rfl), Hd.fun_of F50⟩,
    ⟨_, _, He.glo_ok X G (c.fact 67 (f := g67) rfl), Hd.fun_of F51⟩,
    ⟨_, _, He.glo_ok X G (c.fact 68 (f := g68) rfl), Hd.fun_of F52⟩,
    ⟨_, _, He.glo_ok X G (c.fact 69 (f := g69) rfl), Hd.fun_of F53⟩,
    ⟨_, _, He.glo_ok X G (c.fact 70 (f := g70) rfl), Hd.fun_of F54⟩,
    ⟨_, _, He.glo_ok X G (c.fact 71 (f := g71) rfl), Hd.fun_of F55⟩,
    ⟨_, _, He.glo_ok X G (c.fact 72 (f := g72) rfl), Hd.fun_of F56⟩,
    ⟨_, _, He.glo_ok X G (c.fact 73 (f := g73) rfl), Hd.fun_of F57⟩,
    ⟨_, _, He.glo_ok X G (c.fact 74 (f := g74) rfl), Hd.fun_of F58⟩,
    ⟨_, _, He.glo_ok X G (c.fact 75 (f := g75) rfl), Hd.fun_of F59⟩,
    ⟨_, _, He.glo_ok X G (c.fact 76 (f := g76) rfl), Hd.fun_of F60⟩,
    ⟨_, _, He.glo_ok X G (c.fact 77 (f := g77) rfl), Hd.fun_of F61⟩,
    ⟨_, _, He.glo_ok X G (c.fact 78 (f := g78) rfl), Hd.fun_of F62⟩,
    ⟨_, _, He.glo_ok X G (c.fact 79 (f := g79) rfl), Hd.fun_of F63⟩,
    ⟨_, _, He.glo_ok X G (c.fact 80 (f := g80) rfl), Hd.fun_of F64⟩,
    ⟨_, _, He.glo_ok X G (c.fact 81 (f := g81) rfl), Hd.fun_of F65⟩,
    ⟨_, _, He.glo_ok X G (c.fact 82 (f := g82) rfl), Hd.fun_of F66⟩,
    ⟨_, _, He.glo_ok X G (c.fact 83 (f := g83) rfl), Hd.fun_of F67⟩,
    ⟨_, _, He.glo_ok X G (c.fact 84 (f := g84) rfl), Hd.fun_of F68⟩,
    ⟨_, _, He.glo_ok X G (c.fact 85 (f := g85) rfl), Hd.fun_of F69⟩,
    ⟨_, _, He.glo_ok X G (c.fact 86 (f := g86) rfl), Hd.fun_of F70⟩,
    ⟨_, _, He.glo_ok X G (c.fact 87 (f := g87) rfl), Hd.fun_of F71⟩,
    He.free_ok X G (c.fact 88 (f := g88) rfl),
    He.free_ok X G (c.fact 89 (f := g89) rfl),
    He.free_ok X G (c.fact 90 (f := g90) rfl),
    He.free_ok X G (c.fact 91 (f := g91) rfl),
    He.free_ok X G (c.fact 92 (f := g92) rfl),
    He.free_ok X G (c.fact 93 (f := g93) rfl),
    He.free_ok X G (c.fact 94 (f := g94) rfl),
    He.free_ok X G (c.fact 95 (f := g95) rfl),
    He.free_ok X G (c.fact 96 (f := g96) rfl),
    He.free_ok X G (c.fact 97 (f := g97) rfl),
    He.free_ok X G (c.fact 98 (f := g98) rfl),
    He.free_ok X G (c.fact 99 (f := g99) rfl),
    He.free_ok X G (c.fact 100 (f := g100) rfl),
    He.free_ok X G (c.fact 101 (f := g101) rfl),
    He.free_ok X G (c.fact 102 (f := g102) rfl),
    He.free_ok X G (c.fact 103 (f := g103) rfl),
    He.int_ok X G (c.fact 104 (f := g104) rfl),
    He.int_ok X G (c.fact 105 (f := g105) rfl),
    Hd.blt_ok X G (c.fact 106 (f := g106) rfl),
    ⟨_, He.glo_ok X G (c.fact 111 (f := g111) rfl), fun H => ⟨_, _, _, Hd.refs_ok (c.fact 107 (f := g107) rfl) H, Hd.ints_ok (c.fact 108 (f := g108) rfl) H, Hd.ints_ok (c.fact 109 (f := g109) rfl) H, Hd.ints_ok (c.fact 110 (f := g110) rfl) H⟩⟩⟩
  have e := hfa.symm.trans (He.glo_ok X G (c.fact 87 (f := g87) rfl))
  cases e
  have b := FunD.bindsA (ps := ["_law_script"]) F71 fun _ _ _ _ _ _ us hl => match us, hl with | [_], _ => rfl
  exact ⟨fd71, fun s v => b s [v] rfl, fun base _ _ => ok_law0 (P := P) (w := w) (base := base) T (Hd.fun_of F71)⟩
end RG
open PySem PySem.W PySem.Calls PyProof.Rows
set_option maxHeartbeats 0 in
theorem PySem.Challenge.cw_formrings_k73_whole_ways_from_makers_holds : PySem.Challenge.rw_formrings_k73_whole_ways_from_makers.Holds := by
  w_on; o_law
  refine HandSHeadRun.head_imp (r := OpenLaw.row PySem.Challenge.rw_formrings_k73_whole_ways_from_makers) (q := RG.vw) (H := RG.hk) (ob := RG.ob) (M := 12000) (loose := RG.names) (d := HandSHeadRun.topDef (OpenLaw.row PySem.Challenge.rw_formrings_k73_whole_ways_from_makers).prog 87) (kwd := []) RG.ob_eq RG.run (by kernel_rfl) (by kernel_rfl) (by kernel_rfl) (by rfl) (by first | assumption | decide +kernel) (by decide +kernel) ⟨rfl, rfl, rfl, rfl, rfl, by decide +kernel⟩ ?hw ?hc
  case hw => w_witness2
  case hc =>
    refine L2.walk_ofE (l := PySem.Challenge.rw_formrings_k73_whole_ways_from_makers) (n := 63) (k := 12) (x := "_law_script") (CX := L2.CX0) rfl (by decide) (by kernel_rfl) ⟨rfl, by decide, by decide⟩ ?F (fun _ _ _ _ z => z)
    intro w mg fa h Y G hmg0
    obtain ⟨K, KX, c⟩ := Y
    have hmg : mg ("law" : PySem.Str) = some (.ref fa) := by
      have e : (HandSHeadRun.topDef (OpenLaw.row PySem.Challenge.rw_formrings_k73_whole_ways_from_makers).prog 87).name = ("law" : PySem.Str) := by kernel_rfl
      rw [← e]
      exact hmg0
    obtain ⟨fd, hb, hF⟩ := RG.facts (P := (PySem.Challenge.rw_formrings_k73_whole_ways_from_makers).prog) (w := w) KX G hmg c
    exact ⟨K, fd, RG.sp_lawW K, KX, hb, fun H a ns hl _ hS => ⟨a, ns, rfl, hS, hl, fun _ => rfl⟩, hF⟩
