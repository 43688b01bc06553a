import PyProof.Rows.All
import Wide.All
import OpenK.AllK
import Wide.FinOn
import HandS.ForMost
import HandS.Wide
import HandS.WideBits
import HandS.Gcd
import HandS.IsInst
import HandS.Style
import HandS.Evl
import Flt.RightSqrt
import HandS.More
import HandS.OwnEq
import HandS.Property
import HandS.Star
import KE.KOpsOwn
import HandS.ForExc
import HandS.HeadHook1
import OpenK.KMeth
import HandS.Walk
import HandS.Zip
import KE.GoesEnum
import OpenK.KOps
import PyProof.Rows.Range3
import PyProof.Conv_bool
import HandS.List
import PyProof.ConsumeWalk
import PyProof.TupleIter
import KE.GoesZip
import KE.GoesMore
import HandS.Defaults
import KE.IntBitsLaws
import HandS.TupMul
import HandS.TupAny
import HandS.TryOnly
import HandS.Text
import HandS.FStr
import HandS.RaiseMore
import HandS.Sort
import HandS.SortRule
import HandS.DictComp
import HandS.Small
import KE.KStateDown
import HandS.Base
import HandS.Call
import HandS.Ends
import HandS.Words
import HandS.Head0
import HandS.Head1
import HandS.Head2
import HandS.Head3
import HandS.HeadEnd
import HandS.HeadHook2
import PySem.Challenge.RW_formrings_k72_whole_bars_and_common_indi
set_option Elab.async false
set_option linter.all false
set_option maxRecDepth 100000
set_option maxHeartbeats 4000000
namespace Fr
open PySem PySem.Spec PyProof.Rows L2
open Evl (Ex)
def Def (P : Program) (w : World) (K : PySem.W.Frag) (mg : Str → Option Value) (base : Heap) (k : Nat) (x : Str) (ps : List Str) (sp : Sp) : Prop :=
  ∃ f fd, mg x = some (.ref f) ∧ PySem.W.keepIn K (.ref f) = true ∧ Binds K fd ps [] ∧ FnOk P w K mg base CX0 k f fd ps sp
structure Fm (S : Addr → Prop) (I : Hp → Prop) : Prop where
  fresh : ∀ {H D}, I H → H D = none → ¬ S D
  stay : ∀ {H D o}, ¬ S D → I H → I (upd H D o)
def Fx (S : Addr → Prop) (I : Hp → Prop) (H H' : Hp) : Prop := I H' ∧ ∀ b o, ¬ S b → H b = some o → H' b = some o
section
variable {S : Addr → Prop} {I : Hp → Prop} {H H1 H2 : Hp}
theorem Fx.refl (i : I H) : Fx S I H H := ⟨i, fun _ _ _ h => h⟩
theorem Fx.trans (a : Fx S I H H1) (b : Fx S I H1 H2) : Fx S I H H2 := ⟨b.1, fun x o n h => b.2 x o n (a.2 x o n h)⟩
theorem Fx.new (m : Fm S I) (i : I H) {p : Addr} {o : HO} (h : H p = none) : Fx S I H (upd H p o) := ⟨m.stay (m.fresh i h) i, fun b u _ e => by
  rw [upd_ne (ne_of_none e h)]
  exact e⟩
theorem Fx.mut (m : Fm S I) (a : Fx S I H H1) (i : I H) {p : Addr} {o : HO} (h : H p = none) : Fx S I H (upd H1 p o) := ⟨m.stay (m.fresh i h) a.1, fun b u n e => by
  rw [upd_ne (ne_of_none e h)]
  exact a.2 b u n e⟩
theorem Fx.at (a : Fx S I H H1) {p : Addr} {o : HO} (n : ¬ S p) (h : H p = some o) : H1 p = some o := a.2 p o n h
theorem Fx.sqT {K : PySem.W.Frag} (a : Fx S I H H1) {p : Addr} {xs : List V} (n : ¬ S p) (h : SqT K H p xs) : SqT K H1 p xs := by
  rcases h with (h | ⟨o, h⟩) | h
  · exact .inl (.inl (a.2 _ _ n h))
  · exact .inl (.inr ⟨o, a.2 _ _ n h⟩)
  · exact .inr h
theorem Fx.sqL {K : PySem.W.Frag} (a : Fx S I H H1) {p : Addr} {xs : List V} (n : ¬ S p) (h : SqL K H p xs) : SqL K H1 p xs := by
  rcases h with (h | ⟨o, h⟩) | h
  · exact .inl (.inl (a.2 _ _ n h))
  · exact .inl (.inr ⟨o, a.2 _ _ n h⟩)
  · exact .inr h
theorem Fx.free (a : Fx S I H H1) {p : Addr} (n : ¬ S p) (h : H1 p = none) : H p = none := by
  cases e : H p with
  | none => rfl
  | some o => rw [a.2 p o n e] at h; cases h
theorem Fx.free' (m : Fm S I) (a : Fx S I H H1) {p : Addr} (h : H1 p = none) : H p = none := a.free (m.fresh a.1 h) h
end
abbrev S0 : Addr → Prop := fun _ => False
abbrev I0 : Hp → Prop := fun _ => True
theorem fm0 : Fm S0 I0 := ⟨fun _ _ h => h, fun _ _ => trivial⟩
abbrev Ex0 : Hp → Hp → Prop := Fx S0 I0
theorem Ex0.of {H H' : Hp} (h : ∀ b o, H b = some o → H' b = some o) : Ex0 H H' := ⟨trivial, fun b o _ e => h b o e⟩
theorem Ex0.ap {H H' : Hp} (h : Ex0 H H') {b : Addr} {o : HO} (e : H b = some o) : H' b = some o := h.2 b o (fun z => z) e
theorem Ex0.refl (H : Hp) : Ex0 H H := Fx.refl trivial
theorem Ex0.new {H : Hp} {p : Addr} {o : HO} (h : H p = none) : Ex0 H (upd H p o) := Fx.new fm0 trivial h
def Cs (S : Addr → Prop) (I : Hp → Prop) (H : Hp) (P : Nat → List V → Hp → Prop) (D : Addr) (i : Nat) (H' : Hp) : Prop := Fx S I H H' ∧ ∃ acc, H' D = some (.lst acc) ∧ acc.length ≤ i ∧ P i acc H'
section
variable {K : PySem.W.Frag} {S : Addr → Prop} {I : Hp → Prop} {σ : L2.St} {H : Hp} {Q : Addr → Hp → Prop} {te : TE} {vs : List Nat} {g : TG} {tt : TT} {P : Nat → List V → Hp → Prop}
theorem cs_yes (m : Fm S I) (i0 : I H) {D : Addr} {i : Nat} {acc : List V} {H' H4 : Hp} {y : V} (hD : H D = none) (p1 : Fx S I H H') (p2 : H' D = some (.lst acc)) (p3 : acc.length ≤ i) (hi : i < 1000000) (e : Fx S I H' H4) (h : P (i + 1) (acc ++ [y]) (upd H4 D (.lst (acc ++ [y])))) :
    ∃ acc', H4 D = some (.lst acc') ∧ acc'.length < sizeLine ∧ Cs S I H P D (i + 1) (upd H4 D (.lst (acc' ++ [y]))) :=
  ⟨acc, e.2 _ _ (m.fresh i0 hD) p2, Nat.lt_of_le_of_lt p3 (Nat.lt_of_lt_of_le hi (by decide)), Fx.mut m (p1.trans e) i0 hD, _, upd_same, by rw [List.length_append]; exact Nat.add_le_add_right p3 1, h⟩
theorem cs_no (m : Fm S I) (i0 : I H) {D : Addr} {i : Nat} {acc : List V} {H' H4 : Hp} (hD : H D = none) (p1 : Fx S I H H') (p2 : H' D = some (.lst acc)) (p3 : acc.length ≤ i) (e : Fx S I H' H4) (h : P (i + 1) acc H4) : Cs S I H P D (i + 1) H4 :=
  ⟨p1.trans e, acc, e.2 _ _ (m.fresh i0 hD) p2, Nat.le_succ_of_le p3, h⟩
theorem lcT (m : Fm S I) (i0 : I H) {a : Addr} {xs : List V} (hx : SqT K H a xs) (ha : ¬ S a) (P : Nat → List V → Hp → Prop) (p0 : ∀ D, H D = none → P 0 [] (upd H D (.lst [])))
    (hs : ∀ D i x acc H', H D = none → xs[i]? = some x → Fx S I H H' → H' D = some (.lst acc) → acc.length ≤ i → P i acc H' → g x (wipe σ vs) H' fun σ2 H2 => wipe σ2 vs = wipe σ vs ∧ tt σ2 H2 fun b H3 =>
      if b = true then te σ2 H3 fun y H4 => ∃ acc, H4 D = some (.lst acc) ∧ acc.length < sizeLine ∧ Cs S I H P D (i + 1) (upd H4 D (.lst (acc ++ [y]))) else Cs S I H P D (i + 1) H3)
    (q : ∀ D H' acc, H D = none → Fx S I H H' → H' D = some (.lst acc) → P xs.length acc H' → Q D H') :
    ∀ D, H D = none → ∃ W : Nat → Nat → Hp → Prop, (∃ m, W 0 m (upd H D (.lst []))) ∧ ∀ i m H, W i m H →
      ((Itt K a).stop i H ∧ Q D H) ∨ ((Itt K a).go i H ∧ ∃ Nx : Hp → Prop, (∀ H', Nx H' → ∃ m', m' < m ∧ W (i + 1) m' H') ∧ ∀ x H', (Itt K a).yld i H x H' → g x (wipe σ vs) H' fun σ2 H2 => wipe σ2 vs = wipe σ vs ∧ tt σ2 H2 fun b H3 =>
        if b = true then te σ2 H3 fun y H4 => ∃ acc, H4 D = some (.lst acc) ∧ acc.length < sizeLine ∧ Nx (upd H4 D (.lst (acc ++ [y]))) else Nx H3) := fun D hD =>
  lc_tup (xs := xs) (Cs S I H P D) ⟨Fx.new m i0 hD, [], upd_same, Nat.le_refl _, p0 D hD⟩ (fun i H' _ p => p.1.sqT ha hx)
    (fun i x H' hi p => by
      obtain ⟨p1, acc, p2, p3, p4⟩ := p
      exact hs D i x acc H' hD hi p1 p2 p3 p4)
    (fun H' p => by
      obtain ⟨p1, acc, p2, p3, p4⟩ := p
      exact q D H' acc hD p1 p2 p4)
theorem lcL (m : Fm S I) (i0 : I H) {a : Addr} {xs : List V} (hx : SqL K H a xs) (ha : ¬ S a) (P : Nat → List V → Hp → Prop) (p0 : ∀ D, H D = none → P 0 [] (upd H D (.lst [])))
    (hs : ∀ D i x acc H', H D = none → xs[i]? = some x → Fx S I H H' → H' D = some (.lst acc) → acc.length ≤ i → P i acc H' → g x (wipe σ vs) H' fun σ2 H2 => wipe σ2 vs = wipe σ vs ∧ tt σ2 H2 fun b H3 =>
      if b = true then te σ2 H3 fun y H4 => ∃ acc, H4 D = some (.lst acc) ∧ acc.length < sizeLine ∧ Cs S I H P D (i + 1) (upd H4 D (.lst (acc ++ [y]))) else Cs S I H P D (i + 1) H3)
    (q : ∀ D H' acc, H D = none → Fx S I H H' → H' D = some (.lst acc) → P xs.length acc H' → Q D H') :
    ∀ D, H D = none → ∃ W : Nat → Nat → Hp → Prop, (∃ m, W 0 m (upd H D (.lst []))) ∧ ∀ i m H, W i m H →
      ((Itl K a).stop i H ∧ Q D H) ∨ ((Itl K a).go i H ∧ ∃ Nx : Hp → Prop, (∀ H', Nx H' → ∃ m', m' < m ∧ W (i + 1) m' H') ∧ ∀ x H', (Itl K a).yld i H x H' → g x (wipe σ vs) H' fun σ2 H2 => wipe σ2 vs = wipe σ vs ∧ tt σ2 H2 fun b H3 =>
        if b = true then te σ2 H3 fun y H4 => ∃ acc, H4 D = some (.lst acc) ∧ acc.length < sizeLine ∧ Nx (upd H4 D (.lst (acc ++ [y]))) else Nx H3) := fun D hD =>
  lc_list (xs := xs) (Cs S I H P D) ⟨Fx.new m i0 hD, [], upd_same, Nat.le_refl _, p0 D hD⟩ (fun i H' _ p => p.1.sqL ha hx)
    (fun i x H' hi p => by
      obtain ⟨p1, acc, p2, p3, p4⟩ := p
      exact hs D i x acc H' hD hi p1 p2 p3 p4)
    (fun H' p => by
      obtain ⟨p1, acc, p2, p3, p4⟩ := p
      exact q D H' acc hD p1 p2 p4)
theorem lcR (m : Fm S I) (i0 : I H) {lo : Int} {n : Nat} (P : Nat → List V → Hp → Prop) (p0 : ∀ D, H D = none → P 0 [] (upd H D (.lst [])))
    (hs : ∀ D i acc H', H D = none → i < n → Fx S I H H' → H' D = some (.lst acc) → acc.length ≤ i → P i acc H' → g (.int (lo + i)) (wipe σ vs) H' fun σ2 H2 => wipe σ2 vs = wipe σ vs ∧ tt σ2 H2 fun b H3 =>
      if b = true then te σ2 H3 fun y H4 => ∃ acc, H4 D = some (.lst acc) ∧ acc.length < sizeLine ∧ Cs S I H P D (i + 1) (upd H4 D (.lst (acc ++ [y]))) else Cs S I H P D (i + 1) H3)
    (q : ∀ D H' acc, H D = none → Fx S I H H' → H' D = some (.lst acc) → P n acc H' → Q D H') :
    ∀ D, H D = none → ∃ W : Nat → Nat → Hp → Prop, (∃ m, W 0 m (upd H D (.lst []))) ∧ ∀ i m H, W i m H →
      ((Itr lo n).stop i H ∧ Q D H) ∨ ((Itr lo n).go i H ∧ ∃ Nx : Hp → Prop, (∀ H', Nx H' → ∃ m', m' < m ∧ W (i + 1) m' H') ∧ ∀ x H', (Itr lo n).yld i H x H' → g x (wipe σ vs) H' fun σ2 H2 => wipe σ2 vs = wipe σ vs ∧ tt σ2 H2 fun b H3 =>
        if b = true then te σ2 H3 fun y H4 => ∃ acc, H4 D = some (.lst acc) ∧ acc.length < sizeLine ∧ Nx (upd H4 D (.lst (acc ++ [y]))) else Nx H3) := fun D hD =>
  lc_range (lo := lo) (n := n) (Cs S I H P D) ⟨Fx.new m i0 hD, [], upd_same, Nat.le_refl _, p0 D hD⟩
    (fun i H' hi p => by
      obtain ⟨p1, acc, p2, p3, p4⟩ := p
      exact hs D i acc H' hD hi p1 p2 p3 p4)
    (fun H' p => by
      obtain ⟨p1, acc, p2, p3, p4⟩ := p
      exact q D H' acc hD p1 p2 p4)
end
theorem log_lt {i : Int} {a : Nat} (h : i.natAbs < 2 ^ a) (h0 : 0 < a) : i.natAbs.log2 < a := by
  by_cases z : i.natAbs = 0
  · rw [z]
    exact h0
  · exact (Nat.log2_lt z).mpr h
theorem mw {i j : Int} (h1 : -(2 ^ 250) < i) (h2 : i < 2 ^ 250) (h3 : -(2 ^ 250) < j) (h4 : j < 2 ^ 250) : CMulW i j :=
  wide_mul (a := 250) (b := 250) (by omega) (by omega) (by decide) (by decide) (by decide)
theorem dw {i j : Int} (h : 0 < j) (h4 : j < 2 ^ 250) : CDivW i j := wide_div (b := 250) h (by omega) (by decide) (by decide)
theorem iteB {b : Bool} {A B : Prop} (h1 : b = true → A) (h2 : b = false → B) : if b = true then A else B := by
  cases b with
  | true => rw [if_pos rfl]; exact h1 rfl
  | false => rw [if_neg Bool.false_ne_true]; exact h2 rfl
theorem iteD {c : Prop} [Decidable c] {A B : Prop} (h1 : c → A) (h2 : ¬ c → B) : if decide c = true then A else B :=
  iteB (fun h => h1 (of_decide_eq_true h)) (fun h => h2 (of_decide_eq_false h))
theorem iteN {c : Prop} [Decidable c] {A B : Prop} (h1 : ¬ c → A) (h2 : c → B) : if (!decide c) = true then A else B := by
  by_cases h : c
  · rw [decide_eq_true h]; exact iteF (h2 h)
  · rw [decide_eq_false h]; exact iteT (h1 h)
theorem dT {c : Prop} [Decidable c] {A B : Prop} (h : c) (a : A) : if decide c = true then A else B := by rw [decide_eq_true h, if_pos rfl]; exact a
theorem dF {c : Prop} [Decidable c] {A B : Prop} (h : ¬ c) (a : B) : if decide c = true then A else B := by rw [decide_eq_false h, if_neg Bool.false_ne_true]; exact a
theorem ndT {c : Prop} [Decidable c] {A B : Prop} (h : ¬ c) (a : A) : if (!decide c) = true then A else B := by rw [decide_eq_false h]; exact iteT a
theorem ndF {c : Prop} [Decidable c] {A B : Prop} (h : c) (a : B) : if (!decide c) = true then A else B := by rw [decide_eq_true h]; exact iteF a
theorem sl1 : 1 ≤ sizeLine := by decide
theorem sl2 : 2 ≤ sizeLine := by decide
theorem sl3 : 3 ≤ sizeLine := by decide
theorem sl4 : 4 ≤ sizeLine := by decide
theorem sl5 : 5 ≤ sizeLine := by decide
theorem sl6 : 6 ≤ sizeLine := by decide
theorem sl8 : 8 ≤ sizeLine := by decide
theorem slN {n : Nat} (h : n ≤ 1000000) : n ≤ sizeLine := Nat.le_trans h (by decide)
section
variable {X : Cx}
def rIsqrt : List V → Hp → VK → Prop := fun vs H Q => ∃ a : Int, vs = [.int a] ∧ 0 ≤ a ∧ a < 2 ^ 64 ∧ ∀ r : Int, 0 ≤ r → r * r ≤ a → a < (r + 1) * (r + 1) → Q (.int r) H
theorem cr_isqrt : CallR X (.builtin "math.isqrt") rIsqrt := by
  intro pins s σ H vs us Q I r h
  obtain ⟨a, rfl, h0, h1, q⟩ := h
  obtain ⟨u, rfl, ru⟩ := Vals.one r
  obtain ⟨t, rfl⟩ := ru
  have sp := PySem.Float64.isqrt_spec a.toNat
  refine PySem.W.mg_isqrt h0 h1 ⟨.int _, H, I.tok _, ⟨_, rfl⟩, q _ (Int.natCast_nonneg _) ?_ ?_⟩
  · have := sp.1
    have e : ((Float64.isqrt a.toNat * Float64.isqrt a.toNat : Nat) : Int) ≤ (a.toNat : Int) := Int.ofNat_le.mpr this
    rw [Int.toNat_of_nonneg h0] at e
    simpa using e
  · have := sp.2
    have e : (a.toNat : Int) < (((Float64.isqrt a.toNat + 1) * (Float64.isqrt a.toNat + 1) : Nat) : Int) := Int.ofNat_lt.mpr this
    rw [Int.toNat_of_nonneg h0] at e
    simpa using e
end
end Fr
namespace Fr
open PySem PySem.Spec PyProof.Rows L2
section
variable {X : Cx}
def CPowC (i j : Int) : Prop := 0 ≤ j ∧ (Builtin.Int.intBits i : Int) * j ≤ 2 ^ 27
theorem op_powC : OpR X (binaryOp .Pow) (rI CPowC fun i j => .int (i ^ j.toNat)) := opI fun _ _ _ _ _ _ _ hc q => PyProof.Rows.pow_int hc.1 hc.2 q
end
end Fr
namespace Fr
open PySem PySem.Spec PyProof.Rows L2
theorem deI {i j : Int} : decide (V.int i = V.int j) = decide (i = j) := by
  rw [dec_int]
  rfl
theorem iteE {i j : Int} {A B : Prop} (h1 : i = j → A) (h2 : i ≠ j → B) : if decide (V.int i = V.int j) = true then A else B := by
  rw [deI]
  exact iteD h1 h2
theorem iteEn {i j : Int} {A B : Prop} (h1 : i ≠ j → A) (h2 : i = j → B) : if (!decide (V.int i = V.int j)) = true then A else B := by
  rw [deI]
  exact iteN h1 h2
end Fr
namespace Fr
open PySem PySem.Spec PyProof.Rows L2
def inb (lo hi : Int) : V → Bool
  | .int i => decide (lo ≤ i) && decide (i ≤ hi)
  | _ => false
theorem in_b {lo hi : Int} {xs : List V} {v : V} (hv : v ∈ xs) (h : xs.all (inb lo hi) = true) : ∃ f : Int, v = .int f ∧ lo ≤ f ∧ f ≤ hi := by
  have := List.all_eq_true.mp h v hv
  cases v with
  | int i =>
    unfold inb at this
    rw [Bool.and_eq_true, decide_eq_true_iff, decide_eq_true_iff] at this
    exact ⟨i, rfl, this.1, this.2⟩
  | _ => cases this
theorem shaped_ints (ns : List Int) : SeqAt.shaped (.list (ns.map .int)) = true := by
  have h : PyData.canLayAll0 (ns.map PyData.int) = true ∧ PyData.depthAll (ns.map PyData.int) ≤ 1 := by
    induction ns with
    | nil => exact ⟨rfl, by simp [PyData.depthAll]⟩
    | cons n r ih =>
      refine ⟨?_, ?_⟩
      · rw [List.map_cons, PyData.canLayAll0, PyData.canLay0, ih.1]; rfl
      · rw [List.map_cons, PyData.depthAll, PyData.depth]; exact Nat.max_le.mpr ⟨by decide, ih.2⟩
  unfold SeqAt.shaped
  rw [PyData.canLay0, PyData.depth, h.1]
  simp
  omega
theorem dp_ints {K : PySem.W.Frag} {H : Hp} : ∀ ns : List Int, DpAll K H (ns.map V.int) (ns.map PyData.int)
  | [] => .nil
  | n :: r => .cons (.int n) (dp_ints r)
theorem eqv_ints : ∀ ns ms : List Int, PyData.eqvAll (ns.map PyData.int) (ms.map PyData.int) = decide (ns = ms)
  | [], [] => rfl
  | [], m :: ms => rfl
  | n :: ns, [] => rfl
  | n :: ns, m :: ms => by
    rw [List.map_cons, List.map_cons, PyData.eqvAll, PyData.eqv, eqv_ints ns ms]
    apply Bool.eq_iff_iff.mpr
    simp
def pr2 (q : Nat × Nat) : PyData := .tuple [.int (q.1 : Int), .int (q.2 : Int)]
theorem shaped_prs (fs : List (Nat × Nat)) : SeqAt.shaped (.tuple (fs.map pr2)) = true := by
  have h : PyData.canLayAll0 (fs.map pr2) = true ∧ PyData.depthAll (fs.map pr2) ≤ 2 := by
    induction fs with
    | nil => exact ⟨rfl, by simp [PyData.depthAll]⟩
    | cons n r ih =>
      refine ⟨?_, ?_⟩
      · rw [List.map_cons, PyData.canLayAll0, ih.1]; simp [pr2, PyData.canLay0, PyData.canLayAll0]
      · rw [List.map_cons, PyData.depthAll]; exact Nat.max_le.mpr ⟨by simp [pr2, PyData.depth, PyData.depthAll], ih.2⟩
  unfold SeqAt.shaped
  rw [PyData.canLay0, PyData.depth, h.1]
  simp
  omega
theorem eqv_prs : ∀ fs gs : List (Nat × Nat), PyData.eqvAll (fs.map pr2) (gs.map pr2) = decide (fs = gs)
  | [], [] => rfl
  | [], m :: ms => rfl
  | n :: ns, [] => rfl
  | (a, b) :: ns, (c, d) :: ms => by
    rw [List.map_cons, List.map_cons, PyData.eqvAll, eqv_prs ns ms]
    apply Bool.eq_iff_iff.mpr
    simp [pr2, PyData.eqv, PyData.eqvAll]
    omega
end Fr
namespace Fr
open PySem PySem.Spec PyProof.Rows L2
def B (a : Nat) (i : Int) : Prop := i.natAbs < 2 ^ a ∧ 0 < a
theorem two_pow_two {a : Nat} (h : 0 < a) : 2 ≤ 2 ^ a := by
  obtain ⟨k, rfl⟩ : ∃ k, a = k + 1 := ⟨a - 1, by omega⟩
  rw [Nat.pow_succ]
  have := Nat.two_pow_pos k
  omega
theorem pow_sum {a b : Nat} (ha : 0 < a) (hb : 0 < b) : 2 ^ a + 2 ^ b ≤ 2 ^ (a + b) := by
  rw [Nat.pow_add]
  have h1 := two_pow_two ha
  have h2 := two_pow_two hb
  generalize 2 ^ a = x at *
  generalize 2 ^ b = y at *
  have := Nat.mul_le_mul h1 (Nat.le_refl y)
  have := Nat.mul_le_mul (Nat.le_refl x) h2
  rcases Nat.le_total x y with h | h <;> omega
theorem B.mul {a b : Nat} {i j : Int} (h1 : B a i) (h2 : B b j) : B (a + b) (i * j) := ⟨wide_lt h1.1 h2.1, Nat.add_pos_left h1.2 _⟩
theorem B.add {a b : Nat} {i j : Int} (h1 : B a i) (h2 : B b j) : B (a + b) (i + j) :=
  ⟨Nat.lt_of_lt_of_le (by have := h1.1; have := h2.1; omega : (i + j).natAbs < 2 ^ a + 2 ^ b) (pow_sum h1.2 h2.2), Nat.add_pos_left h1.2 _⟩
theorem B.sub {a b : Nat} {i j : Int} (h1 : B a i) (h2 : B b j) : B (a + b) (i - j) :=
  ⟨Nat.lt_of_lt_of_le (by have := h1.1; have := h2.1; omega : (i - j).natAbs < 2 ^ a + 2 ^ b) (pow_sum h1.2 h2.2), Nat.add_pos_left h1.2 _⟩
theorem B.neg {a : Nat} {i : Int} (h1 : B a i) : B a (-i) := ⟨by rw [Int.natAbs_neg]; exact h1.1, h1.2⟩
theorem B.lit {i : Int} (h : i.natAbs < 2 ^ 64) : B 64 i := ⟨h, by decide⟩
theorem B.mono {a b : Nat} {i : Int} (h : B a i) (hab : a ≤ b) : B b i := ⟨Nat.lt_of_lt_of_le h.1 (Nat.pow_le_pow_right (by decide) hab), Nat.lt_of_lt_of_le h.2 hab⟩
theorem mulB {a b : Nat} {i j : Int} (h1 : B a i) (h2 : B b j) (h : a + b ≤ 1000000) : CMulW i j := wide_mul h1.1 h2.1 h1.2 h2.2 h
end Fr
namespace Fr
open PySem PySem.Spec PyProof.Rows L2
theorem shaped_tints (ns : List Int) : SeqAt.shaped (.tuple (ns.map .int)) = true := by
  have h : PyData.canLayAll0 (ns.map .int) = true ∧ PyData.depthAll (ns.map .int) ≤ 1 := by
    induction ns with
    | nil => exact ⟨rfl, by simp [PyData.depthAll]⟩
    | cons n r ih =>
      refine ⟨?_, ?_⟩
      · rw [List.map_cons, PyData.canLayAll0, ih.1]; simp [PyData.canLay0]
      · rw [List.map_cons, PyData.depthAll]; exact Nat.max_le.mpr ⟨by simp [PyData.depth], ih.2⟩
  unfold SeqAt.shaped
  rw [PyData.canLay0, PyData.depth, h.1]
  simp
  omega
end Fr
namespace Fr
open PySem PySem.Spec PyProof.Rows L2
section
variable {M : Model} {prog : Program} {w : World} {A : Around} {E : Value → Shared → Prop} {s : Shared} {K : PySem.W.Frag} {x C f : Addr} {ox : Obj} {od : Option Obj}
theorem ifBound_ne {args : List Value} {Q : Option Value → Shared → Prop} (X : K.In s.heap) (I : PySem.W.InstAt s.heap x ox C od) (hs : PySem.W.findIn K (.ref C) "__ne__" = some (some (.builtin "object.__ne__")))
    (h : wpAny M A (call (.builtin "object.__ne__") (.ref x :: args)) (fun v => Q (some v)) E s) : wpAny M A (callSpecialIfBound? (.ref x) "__ne__" args) Q E s := by
  simp only [callSpecialIfBound?, bindSpecialIfBound?]
  refine wpAny_holding (wpAny_bind (wpAny_bind (wpAny_bind (I.type.here ((PySem.W.looks_findIn X hs).here ?_)))))
  refine wpAny_bind (wpAny_askSetting (wpAny_ite ?_))
  have fin : wpAny M A (call (.builtin "object.__ne__") ([.ref x] ++ args) >>= fun v => pure (some v)) Q E s := wpAny_bind (wpAny_mono h (fun v s' h' => wpAny_pure h') fun _ _ h' => h')
  split
  · exact wpAny_bind (wpAny_of_eq (F.cmp_object.ne.bind _) (wpAny_pure (by exact fin)))
  · exact wpAny_tryCatch (wpAny_bind (wpAny_of_eq (F.cmp_object.ne.bind _) (wpAny_pure (by exact fin))))
def NeB (Q : Value → Shared → Prop) (v : Value) (s' : Shared) : Prop := ∃ b, v = .bool b ∧ Q (.bool (!b)) s'
theorem entry_ne {b : Value} {Q : Fin → Shared → Prop} (hu : A.units < cLine) (X : K.In s.heap) (I : PySem.W.InstAt s.heap x ox C od) (hs : PySem.W.findIn K (.ref C) "__eq__" = some (some (.ref f))) (hf : PySem.W.isFn K (.ref f) = true)
    (h : wpAny (model prog w) A (call (.ref f) [.ref x, b]) (NeB fun v s' => Q (.done (.ret v)) s') E s) : wpAny (model prog w) A (Builtin.«object.__ne__» ⟨[.ref x, b], []⟩) Q E s := by
  unfold Builtin.«object.__ne__»
  repeat (first | with_reducible refine wpAny_cRoomFor hu ?_ | (refine wpAny_bind (PySem.W.ifBound_K X I hs hf (wpAny_mono h (fun v s' hv => ?_) fun _ _ e => e))) | wp_step)
  all_goals (obtain ⟨b', rfl, q⟩ := hv)
  all_goals (repeat (first | wp_step))
  all_goals exact q
theorem ne_K {h₀ : Heap} {L : Addr} {m : Str → Option Value} {b tb : Value} {Q : Value → Shared → Prop} (hu : A.units + 1 < cLine) (F : Fr h₀ L s.heap m) (X₀ : K.In h₀) (I : PySem.W.InstAt s.heap x ox C od) (hb : PySem.W.Looks (model prog w) s.heap (typeOf b) tb) (hn : PySem.W.notFirst K C tb = true)
    (hne : PySem.W.findIn K (.ref C) "__ne__" = some (some (.builtin "object.__ne__"))) (hs : PySem.W.findIn K (.ref C) "__eq__" = some (some (.ref f))) (hf : PySem.W.isFn K (.ref f) = true) (hm : PySem.W.mroIn K C (.type "object") = some true)
    (h : wpAny (model prog w) A.in1 (call (.ref f) [.ref x, b]) (NeB Q) E s) : wpAny (model prog w) A (richCompare .NotEq (.ref x) b) Q E s := by
  have X := X₀.keeps F.keep
  have one : wpAny (model prog w) A (tryCompare (.ref x) "__ne__" b) (fun r s' => ∃ v, r = some v ∧ Q v s') E s := by
    unfold tryCompare
    refine wpAny_bind (ifBound_ne X I hne (wpAny_call (codeAny_call_builtin PySem.F.cmp_object.ne.plain PySem.F.cmpEntry_ne (PySem.W.check_slot PySem.F.cmpKind_ne PySem.F.cmpSplit_ne (I.type.andThen (PySem.W.looks_mroIn X hm)) (PySem.F.cmpArgs_ne _ _) ?_))))
    refine entry_ne (A := A.in1) hu X I hs hf (wpAny_mono h (fun v s' hv => ?_) fun _ _ e => e)
    obtain ⟨b', rfl, q⟩ := hv
    exact ⟨b', rfl, wpAny_pure ⟨_, rfl, q⟩⟩
  unfold richCompare
  simp only [oneThing_ref]
  refine wpAny_holding (wpAny_bind (wpAny_cRoomFor (Nat.lt_of_succ_lt hu) ?_))
  refine wpAny_bind (I.type.here (wpAny_bind (hb.here ?_)))
  split
  · rename_i q
    have e : PySem.W.subIn K tb (.ref C) = some false := by
      rcases Bool.or_eq_true_iff.mp hn with e | e
      · rw [beq_iff_eq.mp e] at q; simp at q
      · exact beq_iff_eq.mp e
    refine wpAny_bind ((PySem.W.looks_subIn X e).here ?_)
    simp only [Bool.false_eq_true, if_false]
    refine wpAny_bind (wpAny_mono one (fun r s' z => ?_) fun _ _ e => e)
    obtain ⟨v, rfl, hq⟩ := z
    exact wpAny_pure hq
  · refine wpAny_bind (wpAny_pure ?_)
    simp only [Bool.false_eq_true, if_false]
    refine wpAny_bind (wpAny_mono one (fun r s' z => ?_) fun _ _ e => e)
    obtain ⟨v, rfl, hq⟩ := z
    exact wpAny_pure hq
end
section
variable {X : Cx} {CX : CXT} {C f : Addr} {fd : FuncData} {ps : List Str} {k : Nat} {sp : Sp} {E : XK}
structure EqC (K : PySem.W.Frag) (C f : Addr) : Prop where
  eq : PySem.W.findIn K (.ref C) "__eq__" = some (some (.ref f))
  fn : PySem.W.isFn K (.ref f) = true
  ne : PySem.W.findIn K (.ref C) "__ne__" = some (some (.builtin "object.__ne__"))
  mo : PySem.W.mroIn K C (.type "object") = some true
def rEqI (K : PySem.W.Frag) (C : Addr) (sp : Sp) (E : XK) (neg : Bool) : R2 := fun x y H Q => ∃ a dx fs tb, x = .ref a ∧ H a = some (.ins C dx fs) ∧ TyX K H y tb ∧ PySem.W.notFirst K C tb = true ∧ sp [x, y] H (fun v H' => ∃ b, v = .bl b ∧ Q (.bl (if neg = true then !b else b)) H') E
theorem op_eqI (c : EqC X.K C f) (F : FnOk X.prog X.w X.K X.mg X.base CX k f fd ps sp) (hb : Binds X.K fd ps []) (hr : Room k X.A) (hx : Passes CX X E) : OpR X (compareOp .Eq) (rEqI X.K C sp E false) := by
  intro pins s σ H x y v u Q I rx ry h
  obtain ⟨a, dx, fs, tb, rfl, ha, ty, hn, q⟩ := h
  cases (show v = Value.ref a from rx)
  obtain ⟨mA, J, _⟩ := ins_get I.hok ha
  obtain ⟨od, J, _⟩ := J.look
  obtain ⟨m, hF⟩ := I.fr
  obtain ⟨P, kt, hP, _⟩ := kit_of I ry ty
  refine PySem.W.cmp_K (op := .Eq) hr.units0 hF I.ok.mod.kin J (kt.ty _ _ I.kIn hP) hn c.eq c.fn ?_
  refine wpAny_mono (run_fn (us := [.ref a, u]) (vs := [.ref a, y]) F hr hb .nil hx I (.cons rfl (.cons ry .nil)) q) (fun w s' z => ?_) fun _ _ x => x
  obtain ⟨z', H', I', rz, b, rfl, qz⟩ := z
  cases (show w = Value.bool b from rz)
  exact ⟨.bl b, H', I', rfl, qz⟩
theorem op_neI (c : EqC X.K C f) (F : FnOk X.prog X.w X.K X.mg X.base CX k f fd ps sp) (hb : Binds X.K fd ps []) (hr : Room (k + 1) X.A) (hx : Passes CX X E) : OpR X (compareOp .NotEq) (rEqI X.K C sp E true) := by
  intro pins s σ H x y v u Q I rx ry h
  obtain ⟨a, dx, fs, tb, rfl, ha, ty, hn, q⟩ := h
  cases (show v = Value.ref a from rx)
  obtain ⟨mA, J, _⟩ := ins_get I.hok ha
  obtain ⟨od, J, _⟩ := J.look
  obtain ⟨m, hF⟩ := I.fr
  obtain ⟨P, kt, hP, _⟩ := kit_of I ry ty
  refine ne_K (Nat.lt_of_le_of_lt (Nat.add_le_add_left (by decide : 1 ≤ 64) _) hr.units) hF I.ok.mod.kin J (kt.ty _ _ I.kIn hP) hn c.ne c.eq c.fn c.mo ?_
  refine wpAny_call (codeAny_mono ((F.raw hb .nil) X.A.in1 X.stack s H [.ref a, u] [.ref a, y] _ E hr.in1 I.env0.in1 (.cons rfl (.cons ry .nil)) q) fun r s' hq => ?_)
  cases r with
  | error e => exact hx pins σ H s e s' I hq
  | ok fl =>
    cases fl with
    | ret w =>
      obtain ⟨z', H', I', rz, b, rfl, qz⟩ := I.after hq
      cases (show w = Value.bool b from rz)
      exact ⟨b, rfl, .bl (!b), H', I', rfl, qz⟩
    | next => exact False.elim hq
    | brk => exact False.elim hq
    | cont => exact False.elim hq
structure TyI (K : PySem.W.Frag) (C : Addr) : Prop where
  ca : PySem.W.findIn K (.ref C) "__class__" = some (some (.builtin "object.__class__"))
  cn : PySem.W.specialIn K (.builtin "object.__class__") "__get__" = some (some (.builtin "getset_descriptor.__get__"))
  ct : PySem.W.takesIn K (.builtin "object.__class__") = some true
  cm : PySem.W.mroIn K C (.type "object") = some true
theorem ty_ins {K : PySem.W.Frag} {C a dx : Addr} {H : Hp} {fs : List (Str × V)} (t : TyI K C) (cl : Cls K C) (e : H a = some (.ins C dx fs)) : TyX K H (.ref a) (.ref C) := .base (.ins e cl t.ca t.cn t.ct t.cm)
theorem first_self {K : PySem.W.Frag} {C : Addr} : PySem.W.notFirst K C (.ref C) = true := by simp [PySem.W.notFirst]
theorem kit_self {K : PySem.W.Frag} {C : Addr} : PySem.W.kitOne K (.ref C) (.ref C) = some true := by simp [PySem.W.kitOne]
theorem un_negI (c : Meth X.K C "__neg__" f) (F : FnOk X.prog X.w X.K X.mg X.base CX k f fd ps sp) (hb : Binds X.K fd ps []) (hr : Room k X.A) (hx : Passes CX X E) :
    UnR X (unaryOp .USub) (fun x H Q => ∃ a dx fs, x = .ref a ∧ H a = some (.ins C dx fs) ∧ sp [x] H Q E) := by
  intro pins s σ H x v Q I rx h
  obtain ⟨a, dx, fs, rfl, ha, q⟩ := h
  cases (show v = Value.ref a from rx)
  obtain ⟨mA, J, _⟩ := ins_get I.hok ha
  obtain ⟨od, J, _⟩ := J.look
  obtain ⟨m, hF⟩ := I.fr
  exact PySem.W.ksp_neg hF I.ok.mod.kin J c.at_ c.fn (run_fn (us := [.ref a]) (vs := [.ref a]) F hr hb .nil hx I (.cons rfl .nil) q)
def MDef (R : Addr → Addr → Prop) (P : Program) (w : World) (K : PySem.W.Frag) (mg : Str → Option Value) (base : Heap) (k : Nat) (ps : List Str) (sp : Sp) : Prop :=
  ∃ p f fd, R p f ∧ Binds K fd ps [] ∧ FnOk P w K mg base CX0 k f fd ps sp
end
section
variable {X : Cx} {K : PySem.W.Frag}
theorem call_isiKK (hK : X.K = K) : CallR X (.builtin "isinstance") (rIsi K) := hK ▸ call_isi
end
section
variable {X : Cx}
theorem pi_or {tg l : Expr} {wa wb : TI} (a : PI X tg l wa) (b : PI X tg l wb) : PI X tg l (fun σ H R => wa σ H R ∨ wb σ H R) := ⟨fun pins s σ H R I h => h.elim (fun z => a.run pins s σ H R I z) (fun z => b.run pins s σ H R I z)⟩
end
abbrev XA (K : PySem.W.Frag) (x : Str) : Addr := He.ga K x
structure Xc (K : PySem.W.Frag) (mg : Str → Option Value) (x : Str) (bm : List Value) (newId : String) : Prop where
  g : mg x = some (.ref (XA K x))
  ex : PySem.W.excIn K (XA K x) bm newId = true
  kp : PySem.W.keepIn K (.ref (XA K x)) = true
  sb : PySem.W.subIn K (.ref (XA K x)) (.type "BaseException") = some true
  ty : PySem.W.typeIn K (.ref (XA K x)) = some (.type "type")
  te : PySem.W.exmOne K (.ref (XA K x)) (.ref (XA K x)) = some true
def DefX (P : Program) (w : World) (K : PySem.W.Frag) (mg : Str → Option Value) (base : Heap) (k : Nat) (x : Str) (ps : List Str) (sp : Sp) : Prop :=
  ∃ f fd, mg x = some (.ref f) ∧ PySem.W.keepIn K (.ref f) = true ∧ Binds K fd ps [] ∧ FnOk P w K mg base (L2.CX P w) k f fd ps sp
end Fr
namespace Hd
open PySem PySem.Spec PyProof.Rows L2 Fr
open He (ga ma eqO eqO_ok ba)
def pa (K : PySem.W.Frag) (C : Addr) (m : Str) : Addr := match PySem.W.recIn K (ma K C m) "property" with
  | some (.ref g :: _) => g
  | _ => 0
def itA (K : PySem.W.Frag) (a : Addr) (i : Nat) : Addr := match K.lookup a with
  | some ⟨_, _, .seq its _, _⟩ => (match its[i]? with
    | some (.ref b) => b
    | _ => 0)
  | _ => 0
structure Dd where
  at_ : PySem.W.Frag → Addr
  name : Str
  qual : Str
  st : Stmt
  dfl : List V := []
def fnA (K : PySem.W.Frag) (a : Addr) : He.FnW := match K.lookup a with
  | some ⟨_, _, .func fd, _⟩ => some (fd.name, fd.qualname, fd.params, fd.body, fd.scope, fd.globals, fd.closure, fd.builtins)
  | _ => none
def Dd.val (d : Dd) : He.FnW := some (d.name, d.qual, defArgs d.st, .stmts (defBody d.st), defScope d.st, mainGlobals, [], builtinsNs)
def Dd.ok (K : PySem.W.Frag) (d : Dd) : Bool := PySem.W.keepIn K (.ref (d.at_ K)) && (match K.lookup (d.at_ K) with
  | some ⟨_, _, .func fd, _⟩ => PySem.W.codeIn K fd.code d.qual && He.dflB K fd.defaults d.dfl
  | _ => false)
theorem Dd.funD {K : PySem.W.Frag} {d : Dd} (e : fnA K (d.at_ K) = d.val) (c : d.ok K = true) : ∃ fd, FunD K d.name d.qual (defArgs d.st) (defBody d.st) (defScope d.st) d.dfl [] (d.at_ K) fd := by
  obtain ⟨kp, c2⟩ := ba c
  unfold fnA at e
  cases hk : K.lookup (d.at_ K) with
  | none => rw [hk] at c2; cases c2
  | some o =>
    obtain ⟨oc, od, dt, osl⟩ := o
    rw [hk] at c2 e
    cases dt with
    | func fd =>
      obtain ⟨n1, n2, n3, n4, n5, n6, n7, n8, n9, n10, n11, n12, n13, n14, n15⟩ := fd
      have e0 : (some (n1, n2, n3, n4, n5, n6, n7, n15) : He.FnW) = some (d.name, d.qual, defArgs d.st, .stmts (defBody d.st), defScope d.st, mainGlobals, [], builtinsNs) := e
      simp only [Option.some.injEq, Prod.mk.injEq] at e0
      obtain ⟨h1, h2, h3, h4, h5, h6, h7, h8⟩ := e0
      subst h1 h2 h3 h4 h5 h6 h7 h8
      obtain ⟨k1, k2⟩ := ba (show (PySem.W.codeIn K n13 d.qual && He.dflB K n8 d.dfl) = true from c2)
      exact ⟨_, ⟨oc, od, n8, n9, n10, n11, n12, n13, n14, osl, rfl, hk, k1, He.dflB_ok k2, .inl rfl⟩, kp⟩
    | _ => cases c2
theorem fun_of {K : PySem.W.Frag} {x q : Str} {st : Stmt} {f : Addr} {fd : FuncData} (F : FunD K x q (defArgs st) (defBody st) (defScope st) [] [] f fd) : Fun K x q st f fd := by
  obtain ⟨⟨oc, od, dV, kV, doc, pm, an, cdv, ct, osl, e1, e2, e3, e4, e5⟩, kp⟩ := F
  rcases e4 with ⟨_, rfl⟩ | ⟨h, _⟩
  · exact ⟨⟨oc, od, kV, doc, pm, an, cdv, ct, osl, e1, e2, e3⟩, kp⟩
  · exact absurd rfl h
def refsP (o : Obj) : List Addr := match o.data with
  | .seq its _ => its.toList.flatMap He.refV
  | .dict es _ => es.toList.flatMap fun e => He.refV e.val
  | .func fd => He.refV fd.code ++ He.refV fd.defaults
  | .cls cd => [cd.ns]
  | .fields vs => (match o.cls with
    | .type c => (match c == "property" with
      | true => vs.toList.flatMap He.refV
      | false => [])
    | _ => [])
  | _ => []
def nxt (g : Addr → Option Obj) (as : List Addr) : List Addr := as.flatMap fun a => match g a with
  | some o => refsP o
  | none => []
def asM (g : Addr → Option Obj) : Nat → List Addr → List Addr
  | 0, as => as
  | n + 1, as => as ++ asM g n (nxt g as)
abbrev Fb : Type := PySem.W.Frag → Bool
abbrev AlM : Type := Bool × List He.FnW
def obsM (fa : List Fb) (fn : List Dd) (K : PySem.W.Frag) : AlM := ((fa.all fun f => f K) && fn.all fun d => d.ok K, fn.map fun d => fnA K (d.at_ K))
def valM (fn : List Dd) : AlM := (true, fn.map Dd.val)
def SaysM (fa : List Fb) (fn : List Dd) (K : PySem.W.Frag) : Prop := obsM fa fn K = valM fn
def obsMG (n : Nat) (fa : List Fb) (fn : List Dd) (g : Addr → Option Obj) : AlM := obsM fa fn (He.frG g (asM g n [mainGlobals]))
def hookM (n : Nat) (fa : List Fb) (fn : List Dd) : PySem.W.Hook where
  α := AlM
  obs := fun s => obsMG n fa fn s.heap.get?
  val := fun _ => valM fn
  says := fun _ h => ∃ K : PySem.W.Frag, K.In h ∧ SaysM fa fn K
  of := fun _ _ e => ⟨_, He.frG_in, e⟩
  keeps := fun _ _ _ ⟨K, hK, c⟩ k => ⟨K, PySem.W.Frag.In.keeps hK k, c⟩
theorem obsMG_eq {n : Nat} {fa : List Fb} {fn : List Dd} {g : Addr → Option Obj} {s : Shared} (h : ∀ a, g a = s.heap.get? a) : obsMG n fa fn g = (hookM n fa fn).obs s := by
  have e : g = s.heap.get? := funext h
  rw [e] <;> rfl
section
variable {fa : List Fb} {fn : List Dd} {K : PySem.W.Frag}
theorem SaysM.fact (c : SaysM fa fn K) (i : Nat) {f : Fb} (h : fa[i]? = some f := by rfl) : f K = true := by
  have c1 : ((fa.all fun f => f K) && fn.all fun d => d.ok K) = true := congrArg (fun z : AlM => z.1) c
  exact List.all_eq_true.mp (ba c1).1 f (List.mem_of_getElem? h)
theorem SaysM.def_ (c : SaysM fa fn K) (i : Nat) {d : Dd} (h : fn[i]? = some d := by rfl) : ∃ fd, FunD K d.name d.qual (defArgs d.st) (defBody d.st) (defScope d.st) d.dfl [] (d.at_ K) fd := by
  have c1 : ((fa.all fun f => f K) && fn.all fun d => d.ok K) = true := congrArg (fun z : AlM => z.1) c
  have c2 : fn.map (fun d => fnA K (d.at_ K)) = fn.map Dd.val := congrArg (fun z : AlM => z.2) c
  have c3 : (fn.map fun d => fnA K (d.at_ K))[i]? = (fn.map Dd.val)[i]? := by rw [c2]
  rw [List.getElem?_map, List.getElem?_map, h] at c3
  exact Dd.funD (Option.some.inj c3) (List.all_eq_true.mp (ba c1).2 d (List.mem_of_getElem? h))
end
def decO (a b : Option Bool) : Bool := decide (a = b)
theorem decO_ok {a b : Option Bool} (h : decO a b = true) : a = b := of_decide_eq_true h
def bltB (x : Str) (id : String) : Fb := fun K => eqO (PySem.W.nsIn K mainGlobals x) (some (some (.builtin id)))
theorem blt_ok {K : PySem.W.Frag} {h : Heap} {mg : Str → Option Value} (X : K.In h) (G : h.Ns mainGlobals mg) {x : Str} {id : String} (c : bltB x id K = true) : mg x = some (.builtin id) := PySem.W.mg_of X G (eqO_ok c)
def tyB (C : Str) : Fb := fun K => eqO (PySem.W.findIn K (.ref (ga K C)) "__class__") (some (some (.builtin "object.__class__"))) && (eqO (PySem.W.specialIn K (.builtin "object.__class__") "__get__") (some (some (.builtin "getset_descriptor.__get__"))) && (decO (PySem.W.takesIn K (.builtin "object.__class__")) (some true) && decO (PySem.W.mroIn K (ga K C) (.type "object")) (some true)))
theorem ty_ok {K : PySem.W.Frag} {C : Str} (c : tyB C K = true) : TyI K (ga K C) := by
  obtain ⟨c1, c⟩ := ba c
  obtain ⟨c2, c⟩ := ba c
  obtain ⟨c3, c4⟩ := ba c
  exact ⟨eqO_ok c1, eqO_ok c2, decO_ok c3, decO_ok c4⟩
def propB (C m : Str) : Fb := fun K => eqO (PySem.W.findIn K (.ref (ga K C)) m) (some (some (.ref (ma K (ga K C) m)))) && (eqO (PySem.W.specialIn K (.ref (ma K (ga K C) m)) "__get__") (some (some (.builtin "property.__get__"))) && (decO (PySem.W.takesIn K (.ref (ma K (ga K C) m))) (some true) && (match PySem.W.recIn K (ma K (ga K C) m) "property" with
  | some (.ref _ :: _) => true
  | _ => false)))
theorem prop_ok {K : PySem.W.Frag} {C m : Str} (c : propB C m K = true) : PropOf K (ga K C) m (ma K (ga K C) m) (pa K (ga K C) m) := by
  obtain ⟨c1, c⟩ := ba c
  obtain ⟨c2, c⟩ := ba c
  obtain ⟨c3, c4⟩ := ba c
  refine ⟨eqO_ok c1, eqO_ok c2, decO_ok c3, ?_⟩
  unfold pa
  cases hr : PySem.W.recIn K (ma K (ga K C) m) "property" with
  | none => rw [hr] at c4; cases c4
  | some l =>
    rw [hr] at c4
    cases l with
    | nil => cases c4
    | cons v rest =>
      cases v with
      | ref g => exact ⟨rest, rfl⟩
      | _ => cases c4
def eqB (C : Str) : Fb := fun K => eqO (PySem.W.findIn K (.ref (ga K C)) "__eq__") (some (some (.ref (ma K (ga K C) "__eq__")))) && (PySem.W.isFn K (.ref (ma K (ga K C) "__eq__")) && (eqO (PySem.W.findIn K (.ref (ga K C)) "__ne__") (some (some (.builtin "object.__ne__"))) && decO (PySem.W.mroIn K (ga K C) (.type "object")) (some true)))
theorem eq_ok {K : PySem.W.Frag} {C : Str} (c : eqB C K = true) : EqC K (ga K C) (ma K (ga K C) "__eq__") := by
  obtain ⟨c1, c⟩ := ba c
  obtain ⟨c2, c⟩ := ba c
  obtain ⟨c3, c4⟩ := ba c
  exact ⟨eqO_ok c1, c2, eqO_ok c3, decO_ok c4⟩
def callB (C : Str) : Fb := fun K => eqO (PySem.W.findIn K (.ref (ga K C)) "__call__") (some (some (.ref (ma K (ga K C) "__call__")))) && (PySem.W.isFn K (.ref (ma K (ga K C) "__call__")) && PySem.W.fnIn K (ma K (ga K C) "__call__"))
theorem call_ok {K : PySem.W.Frag} {C : Str} (c : callB C K = true) : StX.CallO K (ga K C) (ma K (ga K C) "__call__") := by
  obtain ⟨c1, c⟩ := ba c
  obtain ⟨c2, c3⟩ := ba c
  exact ⟨eqO_ok c1, c2, c3⟩
def binB (C m : Str) : Fb := fun K => eqO (PySem.W.findIn K (.ref (ga K C)) m) (some (some (.ref (ma K (ga K C) m)))) && (PySem.W.isFn K (.ref (ma K (ga K C) m)) && PySem.W.selfFirst K (ga K C))
theorem bin_ok {K : PySem.W.Frag} {C m : Str} (c : binB C m K = true) : PySem.W.findIn K (.ref (ga K C)) m = some (some (.ref (ma K (ga K C) m))) ∧ PySem.W.isFn K (.ref (ma K (ga K C) m)) = true ∧ PySem.W.selfFirst K (ga K C) = true := by
  obtain ⟨c1, c⟩ := ba c
  obtain ⟨c2, c3⟩ := ba c
  exact ⟨eqO_ok c1, c2, c3⟩
def intsB (a : PySem.W.Frag → Addr) (ns : List Int) : Fb := fun K => match K.lookup (a K) with
  | some ⟨.type c, _, .seq its _, _⟩ => decide (c = "tuple") && (decide (its.size ≤ sizeLine) && He.relAll (ns.map V.int) its.toList)
  | _ => false
theorem ints_ok {K : PySem.W.Frag} {a : PySem.W.Frag → Addr} {ns : List Int} (c : intsB a ns K = true) (H : Hp) : SqT K H (a K) (ns.map V.int) := by
  unfold intsB at c
  cases hk : K.lookup (a K) with
  | none => rw [hk] at c; cases c
  | some o =>
    obtain ⟨oc, od, dt, sl⟩ := o
    rw [hk] at c
    cases oc with
    | type t =>
      cases dt with
      | seq its m =>
        obtain ⟨c1, c⟩ := ba c
        obtain ⟨c2, c3⟩ := ba c
        exact .inr ⟨_, its, m, hk, congrArg Value.type (of_decide_eq_true c1), rfl, of_decide_eq_true c2, He.relAll_ok c3⟩
      | _ => cases c
    | _ => cases dt <;> cases c
def refsB (a : PySem.W.Frag → Addr) (n : Nat) : Fb := fun K => match K.lookup (a K) with
  | some ⟨.type c, _, .seq its _, _⟩ => decide (c = "tuple") && (decide (its.size ≤ sizeLine) && He.relAll ((List.range n).map fun i => V.ref (itA K (a K) i)) its.toList)
  | _ => false
theorem refs_ok {K : PySem.W.Frag} {a : PySem.W.Frag → Addr} {n : Nat} (c : refsB a n K = true) (H : Hp) : SqT K H (a K) ((List.range n).map fun i => V.ref (itA K (a K) i)) := by
  unfold refsB at c
  generalize hl : (List.range n).map (fun i => V.ref (itA K (a K) i)) = l at c ⊢
  cases hk : K.lookup (a K) with
  | none => rw [hk] at c; cases c
  | some o =>
    obtain ⟨oc, od, dt, sl⟩ := o
    rw [hk] at c
    cases oc with
    | type t =>
      cases dt with
      | seq its m =>
        obtain ⟨c1, c⟩ := ba c
        obtain ⟨c2, c3⟩ := ba c
        exact .inr ⟨_, its, m, hk, congrArg Value.type (of_decide_eq_true c1), rfl, of_decide_eq_true c2, He.relAll_ok c3⟩
      | _ => cases c
    | _ => cases dt <;> cases c
def foreB (C : Str) (t : String) : Fb := fun K => decO (PySem.W.kitOne K (.type t) (.ref (ga K C))) (some false) && PySem.W.notFirst K (ga K C) (.type t)
theorem fore_ok {K : PySem.W.Frag} {C : Str} {t : String} (c : foreB C t K = true) : PySem.W.kitOne K (.type t) (.ref (ga K C)) = some false ∧ PySem.W.notFirst K (ga K C) (.type t) = true := by
  obtain ⟨c1, c2⟩ := ba c
  exact ⟨decO_ok c1, c2⟩
def foreCB (C D : Str) : Fb := fun K => decO (PySem.W.kitOne K (.ref (ga K D)) (.ref (ga K C))) (some false) && PySem.W.notFirst K (ga K C) (.ref (ga K D))
theorem foreC_ok {K : PySem.W.Frag} {C D : Str} (c : foreCB C D K = true) : PySem.W.kitOne K (.ref (ga K D)) (.ref (ga K C)) = some false ∧ PySem.W.notFirst K (ga K C) (.ref (ga K D)) = true := by
  obtain ⟨c1, c2⟩ := ba c
  exact ⟨decO_ok c1, c2⟩
def fmtB (C : Str) : Fb := fun K => eqO (PySem.W.findIn K (.ref (ga K C)) "__format__") (some (some (.builtin "object.__format__"))) && decO (PySem.W.mroIn K (ga K C) (.type "object")) (some true)
theorem fmt_ok {K : PySem.W.Frag} {C : Str} (c : fmtB C K = true) : PySem.W.findIn K (.ref (ga K C)) "__format__" = some (some (.builtin "object.__format__")) ∧ PySem.W.mroIn K (ga K C) (.type "object") = some true := by
  obtain ⟨c1, c2⟩ := ba c
  exact ⟨eqO_ok c1, decO_ok c2⟩
def xcB (x : Str) (bm : List Value) (newId : String) : Fb := fun K => He.Fa.ok K (.glo x) && (PySem.W.excIn K (ga K x) bm newId && (PySem.W.keepIn K (.ref (ga K x)) && (decO (PySem.W.subIn K (.ref (ga K x)) (.type "BaseException")) (some true) && (decide (PySem.W.typeIn K (.ref (ga K x)) = some (.type "type")) && decO (PySem.W.exmOne K (.ref (ga K x)) (.ref (ga K x))) (some true)))))
theorem xc_ok {K : PySem.W.Frag} {h : Heap} {mg : Str → Option Value} (X : K.In h) (G : h.Ns mainGlobals mg) {x : Str} {bm : List Value} {newId : String} (c : xcB x bm newId K = true) : Xc K mg x bm newId := by
  obtain ⟨c1, c⟩ := ba c
  obtain ⟨c2, c⟩ := ba c
  obtain ⟨c3, c⟩ := ba c
  obtain ⟨c4, c⟩ := ba c
  obtain ⟨c5, c6⟩ := ba c
  exact ⟨He.glo_ok X G c1, c2, c3, decO_ok c4, of_decide_eq_true c5, decO_ok c6⟩
end Hd
namespace K72
open PySem PySem.Spec PyProof.Rows L2
def topS (i : Nat) : Stmt := PySem.Challenge.pw_formrings_k72_whole_bars_and_common_indi.main.body.getD i (.Pass ⟨0, 0, 0, 0⟩)
abbrev s_is_any_integer : Stmt := topS 11
abbrev s_is_short_integer : Stmt := topS 12
abbrev s_is_between : Stmt := topS 13
abbrev s_are_any_integers : Stmt := topS 14
abbrev s_are_short_integers : Stmt := topS 15
abbrev s_check_integer : Stmt := topS 17
abbrev s_check_between : Stmt := topS 18
abbrev s_determinant_of : Stmt := topS 20
abbrev s_is_change : Stmt := topS 21
abbrev s_is_short_change : Stmt := topS 22
abbrev s_check_change : Stmt := topS 23
abbrev s_shared_divisor : Stmt := topS 25
abbrev s_form_value : Stmt := topS 27
abbrev s_form_led : Stmt := topS 28
abbrev s_check_form : Stmt := topS 29
abbrev s_form_of : Stmt := topS 30
abbrev s_Form___init__ : Stmt := inClass (topS 31) 0
abbrev s_Form_coefficients : Stmt := inClass (topS 31) 2
abbrev s_Form___call__ : Stmt := inClass (topS 31) 7
abbrev s_Form_led : Stmt := inClass (topS 31) 8
abbrev s_Form___eq__ : Stmt := inClass (topS 31) 17
abbrev s_with_opposites : Stmt := topS 35
abbrev s_row_makers : Stmt := topS 36
abbrev s_third_powers : Stmt := topS 37
abbrev s_is_barred_by : Stmt := topS 38
abbrev s_makers : Stmt := topS 39
abbrev s_maker_bar : Stmt := topS 40
abbrev s_common_index : Stmt := topS 41
abbrev s_l_vat : Stmt := topS 43
abbrev s_l_scoop : Stmt := topS 44
abbrev s_l_from : Stmt := topS 45
abbrev s_l_size : Stmt := topS 46
abbrev s_l_share : Stmt := topS 47
abbrev s_l_change : Stmt := topS 48
abbrev s_l_joined : Stmt := topS 49
abbrev s_l_value : Stmt := topS 50
abbrev s_l_row : Stmt := topS 51
abbrev s_l_rests : Stmt := topS 52
abbrev s_l_due_bar : Stmt := topS 53
abbrev s_l_drawn_form : Stmt := topS 54
abbrev s_l_form_right : Stmt := topS 55
abbrev s_law : Stmt := topS 56
end K72
namespace K72
open PySem PySem.Spec PyProof.Rows L2 Fr
def e0 : Hd.Dd := ⟨fun K => He.ga K "is_any_integer", "is_any_integer", "is_any_integer", s_is_any_integer, []⟩
def e1 : Hd.Dd := ⟨fun K => He.ga K "is_short_integer", "is_short_integer", "is_short_integer", s_is_short_integer, []⟩
def e2 : Hd.Dd := ⟨fun K => He.ga K "is_between", "is_between", "is_between", s_is_between, []⟩
def e3 : Hd.Dd := ⟨fun K => He.ga K "are_any_integers", "are_any_integers", "are_any_integers", s_are_any_integers, []⟩
def e4 : Hd.Dd := ⟨fun K => He.ga K "are_short_integers", "are_short_integers", "are_short_integers", s_are_short_integers, []⟩
def e5 : Hd.Dd := ⟨fun K => He.ga K "check_integer", "check_integer", "check_integer", s_check_integer, []⟩
def e6 : Hd.Dd := ⟨fun K => He.ga K "check_between", "check_between", "check_between", s_check_between, []⟩
def e7 : Hd.Dd := ⟨fun K => He.ga K "determinant_of", "determinant_of", "determinant_of", s_determinant_of, []⟩
def e8 : Hd.Dd := ⟨fun K => He.ga K "is_change", "is_change", "is_change", s_is_change, []⟩
def e9 : Hd.Dd := ⟨fun K => He.ga K "is_short_change", "is_short_change", "is_short_change", s_is_short_change, []⟩
def e10 : Hd.Dd := ⟨fun K => He.ga K "check_change", "check_change", "check_change", s_check_change, []⟩
def e11 : Hd.Dd := ⟨fun K => He.ga K "shared_divisor", "shared_divisor", "shared_divisor", s_shared_divisor, []⟩
def e12 : Hd.Dd := ⟨fun K => He.ga K "form_value", "form_value", "form_value", s_form_value, []⟩
def e13 : Hd.Dd := ⟨fun K => He.ga K "form_led", "form_led", "form_led", s_form_led, []⟩
def e14 : Hd.Dd := ⟨fun K => He.ga K "check_form", "check_form", "check_form", s_check_form, []⟩
def e15 : Hd.Dd := ⟨fun K => He.ga K "form_of", "form_of", "form_of", s_form_of, []⟩
def e16 : Hd.Dd := ⟨fun K => He.ma K (He.ga K "Form") "__init__", "__init__", "Form.__init__", s_Form___init__, []⟩
def e17 : Hd.Dd := ⟨fun K => Hd.pa K (He.ga K "Form") "coefficients", "coefficients", "Form.coefficients", s_Form_coefficients, []⟩
def e18 : Hd.Dd := ⟨fun K => He.ma K (He.ga K "Form") "__call__", "__call__", "Form.__call__", s_Form___call__, []⟩
def e19 : Hd.Dd := ⟨fun K => He.ma K (He.ga K "Form") "led", "led", "Form.led", s_Form_led, []⟩
def e20 : Hd.Dd := ⟨fun K => He.ma K (He.ga K "Form") "__eq__", "__eq__", "Form.__eq__", s_Form___eq__, []⟩
def e21 : Hd.Dd := ⟨fun K => He.ga K "with_opposites", "with_opposites", "with_opposites", s_with_opposites, []⟩
def e22 : Hd.Dd := ⟨fun K => He.ga K "row_makers", "row_makers", "row_makers", s_row_makers, []⟩
def e23 : Hd.Dd := ⟨fun K => He.ga K "third_powers", "third_powers", "third_powers", s_third_powers, []⟩
def e24 : Hd.Dd := ⟨fun K => He.ga K "is_barred_by", "is_barred_by", "is_barred_by", s_is_barred_by, []⟩
def e25 : Hd.Dd := ⟨fun K => He.ga K "makers", "makers", "makers", s_makers, []⟩
def e26 : Hd.Dd := ⟨fun K => He.ga K "maker_bar", "maker_bar", "maker_bar", s_maker_bar, []⟩
def e27 : Hd.Dd := ⟨fun K => He.ga K "common_index", "common_index", "common_index", s_common_index, []⟩
def e28 : Hd.Dd := ⟨fun K => He.ga K "_law_vat", "_law_vat", "_law_vat", s_l_vat, []⟩
def e29 : Hd.Dd := ⟨fun K => He.ga K "_law_scoop", "_law_scoop", "_law_scoop", s_l_scoop, []⟩
def e30 : Hd.Dd := ⟨fun K => He.ga K "_law_from", "_law_from", "_law_from", s_l_from, []⟩
def e31 : Hd.Dd := ⟨fun K => He.ga K "_law_size", "_law_size", "_law_size", s_l_size, []⟩
def e32 : Hd.Dd := ⟨fun K => He.ga K "_law_share", "_law_share", "_law_share", s_l_share, []⟩
def e33 : Hd.Dd := ⟨fun K => He.ga K "_law_change", "_law_change", "_law_change", s_l_change, []⟩
def e34 : Hd.Dd := ⟨fun K => He.ga K "_law_joined", "_law_joined", "_law_joined", s_l_joined, []⟩
def e35 : Hd.Dd := ⟨fun K => He.ga K "_law_value", "_law_value", "_law_value", s_l_value, []⟩
def e36 : Hd.Dd := ⟨fun K => He.ga K "_law_row", "_law_row", "_law_row", s_l_row, []⟩
def e37 : Hd.Dd := ⟨fun K => He.ga K "_law_rests", "_law_rests", "_law_rests", s_l_rests, []⟩
def e38 : Hd.Dd := ⟨fun K => He.ga K "_law_due_bar", "_law_due_bar", "_law_due_bar", s_l_due_bar, []⟩
def e39 : Hd.Dd := ⟨fun K => He.ga K "_law_drawn_form", "_law_drawn_form", "_law_drawn_form", s_l_drawn_form, []⟩
def e40 : Hd.Dd := ⟨fun K => He.ga K "_law_form_right", "_law_form_right", "_law_form_right", s_l_form_right, []⟩
def e41 : Hd.Dd := ⟨fun K => He.ga K "law", "law", "law", s_law, []⟩
def dd0 : List Hd.Dd := [e0, e1, e2, e3, e4, e5, e6, e7, e8, e9, e10, e11, e12, e13, e14, e15, e16, e17, e18, e19]
def dd1 : List Hd.Dd := [e20, e21, e22, e23, e24, e25, e26, e27, e28, e29, e30, e31, e32, e33, e34, e35, e36, e37, e38, e39]
def dd2 : List Hd.Dd := [e40, e41]
def dd : List Hd.Dd := dd0 ++ (dd1 ++ (dd2))
def g0 : Hd.Fb := fun K => (fun K => (He.Fa.glo "Form").ok K) K
def g1 : Hd.Fb := fun K => (fun K => (He.Fa.cls "Form").ok K) K
def g2 : Hd.Fb := fun K => Hd.tyB "Form" K
def g3 : Hd.Fb := fun K => (fun K => (He.Fa.noat "Form" "_coefficients").ok K) K
def g4 : Hd.Fb := fun K => (fun K => (He.Fa.glo "is_any_integer").ok K) K
def g5 : Hd.Fb := fun K => (fun K => (He.Fa.glo "is_short_integer").ok K) K
def g6 : Hd.Fb := fun K => (fun K => (He.Fa.glo "is_between").ok K) K
def g7 : Hd.Fb := fun K => (fun K => (He.Fa.glo "are_any_integers").ok K) K
def g8 : Hd.Fb := fun K => (fun K => (He.Fa.glo "are_short_integers").ok K) K
def g9 : Hd.Fb := fun K => (fun K => (He.Fa.glo "check_integer").ok K) K
def g10 : Hd.Fb := fun K => (fun K => (He.Fa.glo "check_between").ok K) K
def g11 : Hd.Fb := fun K => (fun K => (He.Fa.glo "determinant_of").ok K) K
def g12 : Hd.Fb := fun K => (fun K => (He.Fa.glo "is_change").ok K) K
def g13 : Hd.Fb := fun K => (fun K => (He.Fa.glo "is_short_change").ok K) K
def g14 : Hd.Fb := fun K => (fun K => (He.Fa.glo "check_change").ok K) K
def g15 : Hd.Fb := fun K => (fun K => (He.Fa.glo "shared_divisor").ok K) K
def g16 : Hd.Fb := fun K => (fun K => (He.Fa.glo "form_value").ok K) K
def g17 : Hd.Fb := fun K => (fun K => (He.Fa.glo "form_led").ok K) K
def g18 : Hd.Fb := fun K => (fun K => (He.Fa.glo "check_form").ok K) K
def g19 : Hd.Fb := fun K => (fun K => (He.Fa.glo "form_of").ok K) K
def g20 : Hd.Fb := fun K => (fun K => (He.Fa.mkr "Form").ok K) K
def g21 : Hd.Fb := fun K => Hd.propB "Form" "coefficients" K
def g22 : Hd.Fb := fun K => Hd.callB "Form" K
def g23 : Hd.Fb := fun K => (fun K => (He.Fa.meth "Form" "led").ok K) K
def g24 : Hd.Fb := fun K => Hd.eqB "Form" K
def g25 : Hd.Fb := fun K => (fun K => (He.Fa.glo "with_opposites").ok K) K
def g26 : Hd.Fb := fun K => (fun K => (He.Fa.glo "row_makers").ok K) K
def g27 : Hd.Fb := fun K => (fun K => (He.Fa.glo "third_powers").ok K) K
def g28 : Hd.Fb := fun K => (fun K => (He.Fa.glo "is_barred_by").ok K) K
def g29 : Hd.Fb := fun K => (fun K => (He.Fa.glo "makers").ok K) K
def g30 : Hd.Fb := fun K => (fun K => (He.Fa.glo "maker_bar").ok K) K
def g31 : Hd.Fb := fun K => (fun K => (He.Fa.glo "common_index").ok K) K
def g32 : Hd.Fb := fun K => (fun K => (He.Fa.glo "_law_vat").ok K) K
def g33 : Hd.Fb := fun K => (fun K => (He.Fa.glo "_law_scoop").ok K) K
def g34 : Hd.Fb := fun K => (fun K => (He.Fa.glo "_law_from").ok K) K
def g35 : Hd.Fb := fun K => (fun K => (He.Fa.glo "_law_size").ok K) K
def g36 : Hd.Fb := fun K => (fun K => (He.Fa.glo "_law_share").ok K) K
def g37 : Hd.Fb := fun K => (fun K => (He.Fa.glo "_law_change").ok K) K
def g38 : Hd.Fb := fun K => (fun K => (He.Fa.glo "_law_joined").ok K) K
def g39 : Hd.Fb := fun K => (fun K => (He.Fa.glo "_law_value").ok K) K
def g40 : Hd.Fb := fun K => (fun K => (He.Fa.glo "_law_row").ok K) K
def g41 : Hd.Fb := fun K => (fun K => (He.Fa.glo "_law_rests").ok K) K
def g42 : Hd.Fb := fun K => (fun K => (He.Fa.glo "_law_due_bar").ok K) K
def g43 : Hd.Fb := fun K => (fun K => (He.Fa.glo "_law_drawn_form").ok K) K
def g44 : Hd.Fb := fun K => (fun K => (He.Fa.glo "_law_form_right").ok K) K
def g45 : Hd.Fb := fun K => (fun K => (He.Fa.glo "law").ok K) K
def g46 : Hd.Fb := fun K => (fun K => (He.Fa.free "abs").ok K) K
def g47 : Hd.Fb := fun K => (fun K => (He.Fa.free "all").ok K) K
def g48 : Hd.Fb := fun K => (fun K => (He.Fa.free "bool").ok K) K
def g49 : Hd.Fb := fun K => (fun K => (He.Fa.free "int").ok K) K
def g50 : Hd.Fb := fun K => (fun K => (He.Fa.free "isinstance").ok K) K
def g51 : Hd.Fb := fun K => (fun K => (He.Fa.free "len").ok K) K
def g52 : Hd.Fb := fun K => (fun K => (He.Fa.free "max").ok K) K
def g53 : Hd.Fb := fun K => (fun K => (He.Fa.free "min").ok K) K
def g54 : Hd.Fb := fun K => (fun K => (He.Fa.free "range").ok K) K
def g55 : Hd.Fb := fun K => (fun K => (He.Fa.free "sorted").ok K) K
def g56 : Hd.Fb := fun K => (fun K => (He.Fa.free "sum").ok K) K
def g57 : Hd.Fb := fun K => (fun K => (He.Fa.free "tuple").ok K) K
def g58 : Hd.Fb := fun K => (fun K => (He.Fa.free "zip").ok K) K
def g59 : Hd.Fb := fun K => (fun K => (He.Fa.int "LIMIT" (1000000000000000000000000000000000000000000000000000000000000)).ok K) K
def g60 : Hd.Fb := fun K => (fun K => (He.Fa.int "MAX_MAKERS" (50)).ok K) K
def g61 : Hd.Fb := fun K => Hd.bltB "gcd" "math.gcd" K
def g62 : Hd.Fb := fun K => (fun K => (He.Fa.glo "MODULI").ok K) K
def g63 : Hd.Fb := fun K => Hd.intsB (fun K => He.ga K "MODULI") [2, 3, 5, 7, 9, 11, 13, 17, 19, 23, 29, 31, 37, 41, 43, 47, 53, 59] K
def fa0 : List Hd.Fb := [g0, g1, g2, g3, g4, g5, g6, g7, g8, g9, g10, g11, g12, g13, g14, g15, g16, g17, g18, g19]
def fa1 : List Hd.Fb := [g20, g21, g22, g23, g24, g25, g26, g27, g28, g29, g30, g31, g32, g33, g34, g35, g36, g37, g38, g39]
def fa2 : List Hd.Fb := [g40, g41, g42, g43, g44, g45, g46, g47, g48, g49, g50, g51, g52, g53, g54, g55, g56, g57, g58, g59]
def fa3 : List Hd.Fb := [g60, g61, g62, g63]
def fa : List Hd.Fb := fa0 ++ (fa1 ++ (fa2 ++ (fa3)))
def names0 : List Str := ["_wall", "__name__", "RingError", "InvalidForm", "InvalidChange", "ParseError", "InvalidNumber", "DIGITS", "LIMIT", "is_any_integer", "is_short_integer", "is_between", "are_any_integers", "are_short_integers", "is_written_integer", "check_integer", "check_between", "determinant_of", "is_change", "is_short_change", "check_change", "shared_divisor", "form_value", "form_led", "check_form", "form_of", "Form", "MAX_MAKERS", "MODULI", "with_opposites"]
def names1 : List Str := ["row_makers", "third_powers", "is_barred_by", "makers", "maker_bar", "common_index", "_law_vat", "_law_scoop", "_law_from", "_law_size", "_law_share", "_law_change", "_law_joined", "_law_value", "_law_row", "_law_rests", "_law_due_bar", "_law_drawn_form", "_law_form_right"]
def names : List Str := names0 ++ (names1)
abbrev RR : PySem.W.OpenRow := PySem.W.OpenLaw.row PySem.Challenge.rw_formrings_k72_whole_bars_and_common_indi
abbrev vw : Program := PySem.W.view RR.prog [0, 56]
abbrev hk : PySem.W.Hook := Hd.hookM 5 fa dd
def ob (s : PySem.W.SharedT) : Hd.AlM := Hd.obsMG 5 fa dd (HandSHeadRun.getT s)
theorem ob_eq (s : PySem.W.SharedT) : ob s = hk.obs s.abs := Hd.obsMG_eq (HandSHeadRun.getT_eq s)
theorem run (w : World) : HandSHeadRun.RunEqI RR vw hk ob 12000 names w := by
  unfold HandSHeadRun.RunEqI
  kernel_rfl
end K72
set_option Elab.async false
set_option linter.all false
set_option maxRecDepth 100000
namespace Fr
open PySem PySem.Spec PyProof.Rows L2
section
variable {X : Cx} {CX : CXT} {C f : Addr} {fd : FuncData} {ps : List Str} {k : Nat} {sp : Sp} {E : XK}
structure BinC (K : PySem.W.Frag) (C : Addr) (m : Str) (f : Addr) : Prop where
  at_ : PySem.W.findIn K (.ref C) m = some (some (.ref f))
  fn : PySem.W.isFn K (.ref f) = true
  sf : PySem.W.selfFirst K C = true
def rBinI (C : Addr) (sp : Sp) (E : XK) : R2 := fun x y H Q => ∃ a b dx dy fx fy, x = .ref a ∧ y = .ref b ∧ H a = some (.ins C dx fx) ∧ H b = some (.ins C dy fy) ∧ sp [x, y] H (fun v H' => (∃ r, v = .ref r) ∧ Q v H') E
theorem op_binI {op : Operator} (c : BinC X.K C (PySem.dunder op.info.2) f) (F : FnOk X.prog X.w X.K X.mg X.base CX k f fd ps sp) (hb : Binds X.K fd ps []) (hr : Room k X.A) (hx : Passes CX X E) : OpR X (binaryOp op) (rBinI C sp E) := by
  intro pins s σ H x y v u Q I rx ry h
  obtain ⟨a, b, dx, dy, fx, fy, rfl, rfl, ha, hbb, q⟩ := h
  cases (show v = Value.ref a from rx)
  cases (show u = Value.ref b from ry)
  obtain ⟨mA, J, _⟩ := ins_get I.hok ha
  obtain ⟨od, J, _⟩ := J.look
  obtain ⟨mB, J2, _⟩ := ins_get I.hok hbb
  obtain ⟨od2, J2, _⟩ := J2.look
  obtain ⟨m, hF⟩ := I.fr
  refine PySem.W.binop_K hF I.ok.mod.kin J J2.type c.sf c.at_ c.fn ?_
  refine wpAny_mono (run_fn (us := [.ref a, .ref b]) (vs := [.ref a, .ref b]) F hr hb .nil hx I (.cons rfl (.cons rfl .nil)) q) (fun w s' z => ?_) fun _ _ x => x
  obtain ⟨z', H', I', rz, ⟨r, rfl⟩, qz⟩ := z
  cases (show w = Value.ref r from rz)
  exact ⟨.ref r, H', I', rfl, qz⟩
def MDefD (R : Addr → Addr → Prop) (P : Program) (w : World) (K : PySem.W.Frag) (mg : Str → Option Value) (base : Heap) (k : Nat) (ps : List Str) (dvs : List V) (sp : Sp) : Prop :=
  ∃ p f fd ds, R p f ∧ Binds K fd ps [] ∧ Vals dvs ds ∧ Binds K fd ps ds ∧ FnOk P w K mg base CX0 k f fd ps sp
variable {K : PySem.W.Frag}
theorem pi_tupK (hK : X.K = K) {tg l : Expr} {tl : TE} (hl : PE X l tl) : PI X tg l (iTup K tl) := hK ▸ pi_tup hl
theorem pi_listK (hK : X.K = K) {tg l : Expr} {tl : TE} (hl : PE X l tl) : PI X tg l (iList K tl) := hK ▸ pi_list hl
theorem ix_tupK (hK : X.K = K) : IxR X (rIxT K) := hK ▸ ix_tup
theorem ix_listK (hK : X.K = K) : IxR X (rIxL K) := hK ▸ ix_list
def rTupOf (K : PySem.W.Frag) : List V → Hp → VK → Prop := fun xs H Q => ∃ p ys, xs = [.ref p] ∧ ((SqL K H p ys ∧ ∀ l, H l = none → Q (.ref l) (upd H l (.tup ys))) ∨ (SqT K H p ys ∧ Q (.ref p) H))
theorem call_tuple_ofK (hK : X.K = K) : CallR X (.type "tuple") (rTupOf K) := hK ▸ call_tuple_of
theorem cr_sumK (hK : X.K = K) (hc : X.calm = true) : CallR X (.builtin "sum") (rSum K) := hK ▸ cr_sum hc
theorem cr_allK (hK : X.K = K) (hc : X.calm = true) : CallR X (.builtin "all") (rAll K) := hK ▸ cr_all hc
end
end Fr
set_option Elab.async false
set_option linter.all false
set_option maxRecDepth 100000
namespace Fr
open PySem PySem.Spec PyProof.Rows L2
set_option maxHeartbeats 1000000 in
theorem meets_en1 {v : Value} {o : Obj} {H : Heap → Prop} (B : Begins v o H) :
    Meets (Builtin.«enumerate.__new__» ⟨[.type "enumerate", v], []⟩) (fun _ R s => H s.heap ∧
      R (.ok (.ret (.ref (s.heap.push o).objs.size))) { s with heap := (s.heap.push o).push { cls := .type "enumerate", data := .fields #[.none, .bool false, .ref s.heap.objs.size, rawInt 0, .none, .none] } }) :=
  .of_wp fun prog w A R s h => by
    obtain ⟨hp, g, d, tk, os⟩ := s; obtain ⟨h1, h⟩ := h
    have hsub := sub_enumerate
    have q1 : ∀ {A' : Around} {E : Value → Shared → Prop} {Q : Value → Shared → Prop}, Q (.ref hp.objs.size) ⟨hp.push o, g, d, tk, os⟩ → wpAny (model prog w) A' (pyIter v) Q E ⟨hp, g, d, tk, os⟩ :=
      fun q => B.iter prog w _ _ ⟨hp, g, d, tk, os⟩ _ h1 q
    wp_walk using q1
    refine wpAny_stack_any fun st => wpAny_pure ?_
    split
    · rename_i c _ _ _ _ _
      cases (c == Value.type "enumerate")
      · wp_walk using q1
        exact ⟨_, rfl, h⟩
      · wp_walk using q1
        exact ⟨_, rfl, h⟩
    · wp_walk using q1
      exact ⟨_, rfl, h⟩
theorem call_en1 {prog : Program} {w : World} {A : Around} {E : Value → Shared → Prop} {s : Shared} {v : Value} {o : Obj} {H : Heap → Prop} {Q : Value → Shared → Prop} (B : Begins v o H) (h1 : H s.heap)
    (h : ∀ h', IsEnum h' (s.heap.objs.size + 1) s.heap.objs.size 0 .none → h'.get? s.heap.objs.size = some o → h'.objs.size = s.heap.objs.size + 2 →
      (∀ b o, s.heap.get? b = some o → h'.get? b = some o) → Q (.ref (s.heap.objs.size + 1)) { s with heap := h' }) :
    wpAny (model prog w) A (call (.type "enumerate") [v]) Q E s := by
  refine callType_new F.called_enumerate (by decide) (F.typeCall_enumerate_1 _) (F.newCall_enumerate_1 _) (fun obj => F.args_object_init_2 obj _) F.entry_enumerate_new (meets_en1 B) ⟨h1, ?_⟩
  have hz : (s.heap.push o).objs.size = s.heap.objs.size + 1 := Heap.size_push ..
  show _ ∧ _
  rw [hz]
  have he : IsEnum ((s.heap.push o).push { cls := .type "enumerate", data := .fields #[.none, .bool false, .ref s.heap.objs.size, rawInt 0, .none, .none] }) (s.heap.objs.size + 1) s.heap.objs.size 0 .none := by
    have := Heap.get?_push_size (s.heap.push o) (o := { cls := .type "enumerate", data := .fields #[.none, .bool false, .ref s.heap.objs.size, rawInt 0, .none, .none] }) rfl
    rw [hz] at this; exact this
  exact ⟨⟨_, he, rfl⟩, h _ he (Heap.get?_push_of_some _ (Heap.get?_push_size _ B.free)) (by rw [Heap.size_push, hz]) fun b o x => Heap.get?_push_of_some _ (Heap.get?_push_of_some _ x)⟩
def IteT (K : PySem.W.Frag) (a : Addr) : It :=
  ⟨fun i H => ∃ (xs : List V) (x : V), SqT K H a xs ∧ xs[i]? = some x, fun i H v H' => ∃ T x, v = .ref T ∧ H T = none ∧ H' = upd H T (.tup [.int (i : Nat), x]) ∧ ∀ xs, SqT K H a xs → xs[i]? = some x, fun i H => ∃ xs : List V, SqT K H a xs ∧ xs.length = i⟩
theorem turn_enumT {P : Program} {w : World} {K : PySem.W.Frag} {elts : List Expr} {kk : Nat} {tpos : Pos} (a e it : Addr) (hae : a ≠ it) :
    Turn P w K (.Tuple elts kk tpos) (IteT K a) [e, it] e (fun i h => (∃ old, IsEnum h e it ((i : Nat) : Int) old) ∧ h.IsTupleIter it a i ∧ e ≠ it) where
  mem := by simp
  obj := fun i h st b hb => by
    obtain ⟨⟨old, he⟩, ⟨o, ho, hc, hd⟩, _⟩ := st
    have e' : b = e ∨ b = it := by simpa using hb
    rcases e' with z | z
    · rw [z]; exact ⟨_, he, fun v q => nomatch q⟩
    · rw [z]; exact ⟨o, ho, fun v q => by rw [hd] at q; cases q⟩
  keep := fun i h h' st k => let ⟨⟨old, he⟩, hi, hne⟩ := st; ⟨⟨old, k e (by simp) _ he⟩, hi.at fun o q => k it (by simp) o q, hne⟩
  item := by
    intro X hP hw hK hc i pins s σ H E I hf st hg
    subst hP hw hK
    obtain ⟨⟨old, he⟩, hit, hne⟩ := st
    obtain ⟨xs, x, hq, hx⟩ := hg
    obtain ⟨its, rv, p, hz⟩ := I.tuple hq
    obtain ⟨u, hu, ru⟩ := rv.get hx
    have hel : e < s.heap.objs.size := Heap.lt_size he
    have hi : i < its.toArray.size := by
      have := (List.getElem?_eq_some_iff.mp hu).1
      simpa using this
    have hea : e ∉ [it, a] := fun z => by
      have z' : e = it ∨ e = a := by simpa using z
      rcases z' with z | z
      · exact hne z
      · obtain ⟨o, ho, hc', _⟩ := id p
        rw [← z, he] at ho
        cases ho
        injection hc' with z2
        exact absurd z2 (by decide)
    have D := Draws.tuple (prog := X.prog) (w := X.w) (A := X.A.in1) (I.ok.hd hc) it a hae its.toArray
    refine wpAny_pyNext_enum_itemC D he ⟨hit, p⟩ hi hne hea fun y h' tk hy ho hit' hT hsz hk => ?_
    obtain rfl : u = y := by
      have hu' : its.toArray[i]? = some u := by simpa using hu
      have hy' : its.toArray[i]? = some y := hy
      rw [hu'] at hy'
      exact Option.some.inj hy'
    refine ⟨_, rfl, wpAny_letOwnedTupleGo_enum (s := { s with heap := h', toks := tk + 1 }) ho fun h'' he' sb => ?_⟩
    have hT2 : h''.get? s.heap.objs.size = some { cls := .type "tuple", data := .seq #[.int i tk, u] } := (sb.2 _ (Nat.ne_of_gt hel)).trans hT
    have new : ObjOk X.prog X.w (upd H s.heap.objs.size (.tup [.int (i : Nat), x])) h'' s.heap.objs.size (.tup [.int (i : Nat), x]) :=
      ⟨by show 2 ≤ sizeLine; decide, [.int i tk, u], .cons ⟨_, rfl⟩ (.cons ru .nil), ⟨_, hT2, rfl, _, rfl⟩⟩
    have I1 : Inv X pins σ (upd H s.heap.objs.size (.tup [.int (i : Nat), x])) { s with heap := h'', toks := tk + 1 } :=
      I.turnedNew (ch := [e, it]) (fun b ob hb q => (sb.2 b (fun z => hb (by simp [z]))).trans (hk b ob (fun z => hb (by simp [z])) (fun z => hb (by simp [z])) q)) hf (Nat.le_refl _) new
    refine ⟨.ref s.heap.objs.size, _, I1, rfl, ⟨_, x, rfl, I.hok.fresh (Nat.le_refl _), rfl, fun ys hy => by rw [I.tuple_inj hy hq]; exact hx⟩, ⟨⟨u, ?_⟩, hit'.1.at fun o q => (sb.2 it (Ne.symm hne)).trans q, hne⟩, fun b hb => ?_⟩
    · have e1 : ((i + 1 : Nat) : Int) = (i : Int) + 1 := by omega
      rw [e1]; exact he'
    · have hb' : b < s.heap.objs.size := by
        have e' : b = e ∨ b = it := by simpa using hb
        rcases e' with z | z
        · rw [z]; exact hel
        · rw [z]; obtain ⟨_, q, _⟩ := hit; exact Heap.lt_size q
      rw [upd_ne (Nat.ne_of_lt hb')]
      exact (hf b hb).1
  done := by
    intro X hP hw hK hc i pins s σ H E I hf st hg
    subst hP hw hK
    obtain ⟨⟨old, he⟩, hit, hne⟩ := st
    obtain ⟨xs, hq, hx⟩ := hg
    obtain ⟨its, rv, p, hz⟩ := I.tuple hq
    obtain ⟨f0, f1, f2, f3, f4, f5⟩ := hf it (by simp)
    have hl := rv.length
    have D := Draws.tuple (prog := X.prog) (w := X.w) (A := X.A.in1) (I.ok.hd hc) it a hae its.toArray
    have hi : its.toArray.size = i := by simp; omega
    exact wpAny_pyNext_enum_endD D he (by rw [hi]; exact ⟨hit, p⟩) fun h' eb => ⟨rfl, I.turned (t' := s.toks) (fun b o hb q => eb b o hb q) f0 f1 f3 f4 f5⟩
  self := fun A i s Q E st h => let ⟨⟨_, he⟩, _⟩ := st; wpAny_pyIter_enum he h
def iEnumT (K : PySem.W.Frag) (ta : TA) : TI := fun σ H R => ta σ H fun vs H1 => ∃ a xs, vs = [.ref a] ∧ SqT K H1 a xs ∧ R (IteT K a) H1
theorem pi_enumT {X : Cx} {e : Expr} {ta : TA} {p pos tpos : Pos} {elts : List Expr} {kk : Nat} (hg : Gl X "enumerate") (hm : X.mg "enumerate" = none) (ha : PA X [e] ta) (hs : starEach [e] X.env = [(false, eval e X.env)] := by rfl) :
    PI X (.Tuple elts kk tpos) (.Call (.Name "enumerate" p) [e] [] pos) (iEnumT X.K ta) := by
  refine ⟨fun pins s σ H R I h => ?_⟩
  refine Call_ (ld_blt I hg hm boot_enumerate (PyProof.Rows.callWith_type1 (thn (ha.run pos pins s σ H _ I h) fun us s1 ⟨vs, H1, I1, r1, q1⟩ => ?_) hs rfl))
  obtain ⟨a, xs, ex, hq, q⟩ := q1
  subst ex
  cases r1 with
  | cons r rr =>
    cases rr
    cases r
    obtain ⟨its, rv, p', hz⟩ := I1.tuple hq
    have hal : a < s1.heap.objs.size := by obtain ⟨o, ho, _⟩ := id p'; exact Heap.lt_size ho
    refine call_en1 (begins_tuple a its.toArray) p' fun h' he hit hsz hk => wpAny_pyIter_enum he ?_
    have I2 : Inv X pins σ H1 { s1 with heap := h' } := I1.kept (t' := s1.toks) hk
    refine ⟨s1.heap.objs.size + 1, [s1.heap.objs.size + 1, s1.heap.objs.size], _, _, H1, rfl, I2, turn_enumT a (s1.heap.objs.size + 1) s1.heap.objs.size (Nat.ne_of_lt hal), ⟨⟨.none, he⟩, ⟨_, hit, rfl, rfl⟩, Nat.succ_ne_self _⟩, fun b hb => ?_, q⟩
    have e' : b = s1.heap.objs.size + 1 ∨ b = s1.heap.objs.size := by simpa using hb
    have hle : s1.heap.objs.size ≤ b := by
      rcases e' with z | z
      · rw [z]; exact Nat.le_add_right _ _
      · rw [z]; exact Nat.le_refl _
    exact I1.fpOk hle (I1.hok.fresh hle)
section
variable {K : PySem.W.Frag} {a b : Addr} {xs ys : List V}
theorem walk_enumT : Walk (IteT K a) xs.length (fun H => SqT K H a xs) (YPair (fun i => some (.int (i : Nat))) fun i => xs[i]?) :=
  ⟨fun i _ hi q => ⟨xs, xs[i], q, by simp [hi]⟩, fun _ q => ⟨xs, q, rfl⟩, fun i H v H' _ q y => by
    obtain ⟨T, x, rfl, hT, rfl, f⟩ := y
    exact ⟨T, _, x, rfl, hT, rfl, rfl, f xs q⟩⟩
theorem walk_zipT (hl : xs.length = ys.length) : Walk (RZ.ItzT K a b) xs.length (fun H => SqT K H a xs ∧ SqT K H b ys) (YPair (fun i => xs[i]?) fun i => ys[i]?) :=
  ⟨fun i _ hi q => ⟨xs, ys, xs[i], ys[i], q.1, q.2, by simp [hi], by simp [← hl, hi]⟩, fun _ q => ⟨xs, ys, q.1, q.2, .inl (Nat.le_refl _)⟩, fun i H v H' _ q y => by
    obtain ⟨T, x, y, rfl, hT, rfl, f1, f2⟩ := y
    exact ⟨T, x, y, rfl, hT, rfl, f1 xs q.1, f2 ys q.2⟩⟩
theorem walk_zipL (hl : xs.length = ys.length) : Walk (Itz K a b) xs.length (fun H => SqL K H a xs ∧ SqL K H b ys) (YPair (fun i => xs[i]?) fun i => ys[i]?) :=
  ⟨fun i _ hi q => ⟨xs, ys, xs[i], ys[i], q.1, q.2, by simp [hi], by simp [← hl, hi]⟩, fun _ q => ⟨xs, ys, q.1, q.2, .inl (Nat.le_refl _)⟩, fun i H v H' _ q y => by
    obtain ⟨T, x, y, rfl, hT, rfl, f1, f2⟩ := y
    exact ⟨T, x, y, rfl, hT, rfl, f1 xs q.1, f2 ys q.2⟩⟩
end
section
variable {S : Addr → Prop} {I : Hp → Prop} {H : Hp} {J : It} {n : Nat} {G : Hp → Prop} {fx fy : Nat → Option V} {g : TG} {tt : TT} {te : TE} {vs : List Nat} {σ : L2.St} {Q : Addr → Hp → Prop}
theorem lcP (w : Walk J n G (YPair fx fy)) (m : Fm S I) (i0 : I H) (hG : ∀ H', Fx S I H H' → G H') (P : Nat → List V → Hp → Prop) (p0 : ∀ D, H D = none → P 0 [] (upd H D (.lst [])))
    (hs : ∀ D i T x y acc H', H D = none → i < n → fx i = some x → fy i = some y → Fx S I H H' → H' D = some (.lst acc) → acc.length ≤ i → P i acc H' → H' T = none → g (.ref T) (wipe σ vs) (upd H' T (.tup [x, y])) fun σ2 H2 => wipe σ2 vs = wipe σ vs ∧ tt σ2 H2 fun b H3 =>
      if b = true then te σ2 H3 fun y H4 => ∃ acc, H4 D = some (.lst acc) ∧ acc.length < sizeLine ∧ Cs S I H P D (i + 1) (upd H4 D (.lst (acc ++ [y]))) else Cs S I H P D (i + 1) H3)
    (q : ∀ D H' acc, H D = none → Fx S I H H' → H' D = some (.lst acc) → P n acc H' → Q D H') :
    ∀ D, H D = none → ∃ W : Nat → Nat → Hp → Prop, (∃ m, W 0 m (upd H D (.lst []))) ∧ ∀ i m H, W i m H →
      (J.stop i H ∧ Q D H) ∨ (J.go i H ∧ ∃ Nx : Hp → Prop, (∀ H', Nx H' → ∃ m', m' < m ∧ W (i + 1) m' H') ∧ ∀ x H', J.yld i H x H' → g x (wipe σ vs) H' fun σ2 H2 => wipe σ2 vs = wipe σ vs ∧ tt σ2 H2 fun b H3 =>
        if b = true then te σ2 H3 fun y H4 => ∃ acc, H4 D = some (.lst acc) ∧ acc.length < sizeLine ∧ Nx (upd H4 D (.lst (acc ++ [y]))) else Nx H3) := fun D hD =>
  lc_it w (Cs S I H P D) ⟨Fx.new m i0 hD, [], upd_same, Nat.le_refl _, p0 D hD⟩ (fun i H' _ p => hG H' p.1)
    (fun i x H' H'' hi p y => by
      obtain ⟨p1, acc, p2, p3, p4⟩ := p
      obtain ⟨T, x, y, rfl, hT, rfl, f1, f2⟩ := y
      exact hs D i T x y acc H' hD hi f1 f2 p1 p2 p3 p4 hT)
    (fun H' p => by
      obtain ⟨p1, acc, p2, p3, p4⟩ := p
      exact q D H' acc hD p1 p2 p4)
theorem for_P (w : Walk J n G (YPair fx fy)) {g : TG} {tb : TS} {D : Ends} {σ : L2.St} {H : Hp} (Pv : Nat → L2.St → Hp → Prop) (h0 : Pv 0 σ H) (hG : ∀ i σ H, i ≤ n → Pv i σ H → G H)
    (hs : ∀ i T x y σ H, i < n → fx i = some x → fy i = some y → Pv i σ H → H T = none → g (.ref T) σ (upd H T (.tup [x, y])) fun σ2 H2 => tb { D with nx := Pv (i + 1), ct := Pv (i + 1), bk := D.nx } σ2 H2) (hd : ∀ σ H, Pv n σ H → D.nx σ H) :
    ∃ W : Nat → Nat → L2.St → Hp → Prop, (∃ m, W 0 m σ H) ∧ ∀ i m σ H, W i m σ H →
      (J.stop i H ∧ D.nx σ H) ∨ (J.go i H ∧ ∃ N : L2.St → Hp → Prop, (∀ σ' H', N σ' H' → ∃ m', m' < m ∧ W (i + 1) m' σ' H') ∧ ∀ x H', J.yld i H x H' → g x σ H' fun σ2 H2 => tb { D with nx := N, ct := N, bk := D.nx } σ2 H2) :=
  for_it w Pv h0 hG (fun i v σ H H' hi p y => by
    obtain ⟨T, x, y, rfl, hT, rfl, f1, f2⟩ := y
    exact hs i T x y σ H hi f1 f2 p hT) hd
end
end Fr
set_option Elab.async false
set_option linter.all false
set_option maxRecDepth 100000
namespace Fr
open PySem PySem.Spec PyProof.Rows L2
section
variable {prog : Program} {w : World}
theorem meets_bool_own {a : Addr} : MeetsIn prog w (Builtin.«bool.__new__» ⟨[.type "bool", .ref a], []⟩) (fun A R s => wpAny (model prog w) A.in1 (truthy (.ref a)) (fun b s' => R (.ok (.ret (.bool b))) s') (fun e s' => R (.error e) s') s) :=
  fun A R s h => by
    have f1 := F.conv_sub_bool
    repeat (any_goals (first | assumption | (refine wpAny_bind (m := truthy (.ref a)) (wpAny_mono h (fun b s' hb => ?_) fun _ _ y => y)) | wp_step))
theorem call_bool_ref {A : Around} {E : Value → Shared → Prop} {s : Shared} {a : Addr} {Q : Value → Shared → Prop} (h : wpAny (model prog w) A.in1.in1 (truthy (.ref a)) (fun b s' => Q (.bool b) s') E s) :
    wpAny (model prog w) A (call (.type "bool") [.ref a]) Q E s :=
  callType_newIn F.called_bool F.newNe_bool (F.typeCall_bool_1 _) (F.newCall_bool_1 _) (fun obj => F.args_object_init_2 obj _) F.entry_bool_new meets_bool_own
    (wpAny_mono h (fun b s' q => ⟨rfl, q⟩) fun _ _ y => y)
end
section
variable {X : Cx} {CX : CXT} {C f : Addr} {fd : FuncData} {ps : List Str} {k : Nat} {sp : Sp} {E : XK}
theorem call_boolI (c : Meth X.K C "__bool__" f) (F : FnOk X.prog X.w X.K X.mg X.base CX k f fd ps sp) (hb : Binds X.K fd ps []) (hr : Room (k + 2) X.A) (hx : Passes CX X E) :
    CallR X (.type "bool") (fun xs H Q => ∃ a dx fs, xs = [.ref a] ∧ H a = some (.ins C dx fs) ∧ sp [.ref a] H (fun v H' => ∃ b, v = .bl b ∧ Q (.bl b) H') E) := by
  intro pins s σ H xs us Q I r h
  obtain ⟨a, dx, fs, rfl, ha, q⟩ := h
  obtain rfl := Vals.ref1 r
  obtain ⟨mA, J, _⟩ := ins_get I.hok ha
  obtain ⟨od, J, _⟩ := J.look
  obtain ⟨m, hF⟩ := I.fr
  have hl : [Value.ref a].length = ps.length := (F.len _ _ _ _ q)
  refine call_bool_ref (PySem.W.truthy_K hF I.ok.mod.kin J c.at_ c.fn ?_)
  refine wpAny_call (codeAny_mono (F.run X.A.in1.in1 X.stack s H ⟨[.ref a], []⟩ [.ref a] [.ref a] _ E hr.in1.in1 I.env0.in1.in1 (hb s [.ref a] I.kIn hl) (.cons rfl .nil) q) fun r s' hq => ?_)
  cases r with
  | error e => exact hx pins σ H s e s' I hq
  | ok fl =>
    cases fl with
    | ret u =>
      obtain ⟨v, H', I3, rv, b, rfl, q3⟩ := I.after hq
      cases (show u = Value.bool b from rv)
      exact ⟨.bl b, H', I3, rfl, q3⟩
    | next => exact False.elim hq
    | brk => exact False.elim hq
    | cont => exact False.elim hq
end
end Fr
set_option Elab.async false
set_option linter.all false
set_option maxRecDepth 100000
namespace Fr
open PySem PySem.Spec PyProof.Rows L2
theorem iter_anyT {prog : Program} {w : World} {A : Around} {E : Value → Shared → Prop} {s : Shared} {l : Addr} {items : Array Value} {Q : Value → Shared → Prop} (hl : s.heap.IsTuple l items)
    (h : ∀ s₂ : Shared, s₂ = { s with heap := s.heap.push { cls := .type "tuple_iterator", data := .fields #[.ref l, .int 0 0] } } →
      (s₂.heap.IsTupleIter s.heap.objs.size l 0 ∧ s₂.heap.IsTuple l items) → l ≠ s.heap.objs.size → Q (.ref s.heap.objs.size) s₂) : wpAny (model prog w) A (pyIter (.ref l)) Q E s := by
  have hlt : l < s.heap.objs.size := by obtain ⟨_, e, _⟩ := hl; exact Heap.lt_size e
  exact wpAny_pyIter_tuple hl (h _ rfl ⟨⟨_, Heap.get?_push_size _ rfl, rfl, rfl⟩, hl.push _⟩ (Nat.ne_of_lt hlt))
theorem ints_at : ∀ {us : List Value} {ns : List Int}, IntsAre us ns → ∀ (i : Nat) (v : Value), us[i]? = some v → ∃ n t, v = .int n t ∧ ns[i]? = some n
  | _, _, .nil, i, v, h => by simp at h
  | _, _, .cons n t r, 0, v, h => ⟨n, t, (Option.some.inj h).symm, rfl⟩
  | _, _, .cons n t r, i + 1, v, h => ints_at r i v h
theorem truth_ints {prog : Program} {w : World} {A : Around} {ns : List Int} {its : List Value} (e : IntsAre its ns) :
    TruthOf prog w A (fun i v => its.toArray[i]? = some v) (fun i => (ns.map (fun n => n != 0)).getD i false) := fun i v s Q E hv hq => by
  have hv' : its[i]? = some v := by simpa using hv
  obtain ⟨n, t, rfl, hn⟩ := ints_at e i v hv'
  have hg : (ns.map (fun n => n != 0)).getD i false = (n != 0) := by rw [List.getD_eq_getElem?_getD, List.getElem?_map, hn] <;> rfl
  have hq' : Q ((ns.map (fun n => n != 0)).getD i false) s := hq
  rw [hg] at hq'
  exact P.truthy_int hq'
section
variable {X : Cx}
def rAnyT (K : PySem.W.Frag) : List V → Hp → VK → Prop := fun vs H Q => ∃ (a : Addr) (ns : List Int), vs = [V.ref a] ∧ SqT K H a (ns.map V.int) ∧ Q (.bl (ns.any (fun n => n != 0))) H
theorem cr_anyT (hc : X.calm = true) : CallR X (.builtin "any") (rAnyT X.K) := by
  intro pins s σ H vs us Q I r h
  obtain ⟨a, ns, rfl, hs, q⟩ := h
  obtain ⟨its, rv, hl, _⟩ := I.tuple hs
  rw [Vals.ref1 r]
  have hb := Vals.ints rv
  have hl' : s.heap.IsTuple a its.toArray := by
    obtain ⟨o, e1, e2, n, e3⟩ := hl
    exact ⟨o, e1, e2, n, e3⟩
  have hlen : its.length = ns.length := by rw [← rv.length, List.length_map]
  refine call_any_walk (iter_anyT hl' fun s₂ e2 st hne => ?_)
  subst e2
  refine ⟨_, _, _, _, _, _, _, rfl, Walks.tuple (A := X.A.in1) (I.ok.hd hc) _ a hne its.toArray, st, truth_ints hb, fun h' tk hk => ?_⟩
  refine ⟨.bl _, H, I.kept fun b o eo => hk b o (fun hmem => ?_) (Heap.get?_push_of_some _ eo), ?_, q⟩
  · rcases List.mem_cons.mp hmem with e1 | hmem
    · exact absurd (e1 ▸ Heap.lt_size eo) (Nat.lt_irrefl _)
    · cases hmem
  · show Value.bool _ = Value.bool _
    have := any_range (ns.map (fun n => n != 0))
    rw [List.length_map] at this
    rw [List.size_toArray, hlen, this, List.any_map]
    rfl
end
end Fr
set_option Elab.async false
set_option linter.all false
set_option maxRecDepth 100000
namespace Fr
open PySem PySem.Spec PyProof.Rows L2
def Vat (c : Addr) (H : Hp) : Prop := ∃ x y z : Int, H c = some (.lst [.int x, .int y, .int z])
def Sv (c : Addr) : Addr → Prop := fun b => b = c
theorem fmV (c : Addr) : Fm (Sv c) (Vat c) := by
  constructor
  · intro H D i h e
    obtain ⟨x, y, z, q⟩ := i
    unfold Sv at e
    rw [e, q] at h
    cases h
  · intro H D o n i
    obtain ⟨x, y, z, q⟩ := i
    exact ⟨x, y, z, by rw [upd_ne (fun e => n e.symm)]; exact q⟩
abbrev Fv (c : Addr) : Hp → Hp → Prop := Fx (Sv c) (Vat c)
theorem vat_new {c l : Addr} {H : Hp} {o : HO} (hc : Vat c H) (hl : H l = none) : Vat c (upd H l o) := (fmV c).stay ((fmV c).fresh hc hl) hc
theorem fv_new {c l : Addr} {H : Hp} {o : HO} (hc : Vat c H) (hl : H l = none) : Fv c H (upd H l o) := Fx.new (fmV c) hc hl
theorem fv_ne {c l : Addr} {H : Hp} (hc : Vat c H) (hl : H l = none) : l ≠ c := (fmV c).fresh hc hl
theorem vat_ex {c : Addr} {H H' : Hp} (hc : Vat c H) (e : Ex0 H H') : Vat c H' := by
  obtain ⟨x, y, z, q⟩ := hc
  exact ⟨x, y, z, Ex0.ap e q⟩
theorem fv_ex {c : Addr} {H H' : Hp} (hc : Vat c H) (e : Ex0 H H') : Fv c H H' := ⟨vat_ex hc e, fun b o _ h => Ex0.ap e h⟩
theorem fv_tup {c a : Addr} {H H' : Hp} {xs : List V} (hc : Vat c H) (f : Fv c H H') (h : H a = some (.tup xs)) : H' a = some (.tup xs) := f.2 a _ (fun e => by
  obtain ⟨x, y, z, q⟩ := hc
  unfold Sv at e
  rw [e, q] at h
  cases h) h
theorem ex_fv {p : Addr} {H H1 H2 : Hp} (e : Ex0 H H1) (hp : H p = none) (f : Fv p H1 H2) : Ex0 H H2 := ⟨trivial, fun b o _ h => f.2 b o (fun z => by unfold Sv at z; rw [z, hp] at h; cases h) (Ex0.ap e h)⟩
theorem cut_map (ns : List Int) (lo hi : Option Int) : cutV (ns.map V.int) lo hi = ((ns.drop (HT.sIx (ns.map V.int).length 0 lo)).take (HT.sIx (ns.map V.int).length (ns.map V.int).length hi - HT.sIx (ns.map V.int).length 0 lo)).map V.int := by
  unfold cutV
  rw [← List.map_drop, ← List.map_take]
end Fr
set_option Elab.async false
set_option linter.all false
set_option maxRecDepth 100000
namespace Fr
open PySem PySem.Spec PyProof.Rows L2
@[reducible] def SqK (k : Bool) (K : PySem.W.Frag) (H : Hp) (a : Addr) (xs : List V) : Prop := match k with
  | true => SqT K H a xs
  | false => SqL K H a xs
@[reducible] def IterK (k : Bool) (h : Heap) (it l : Addr) (i : Nat) : Prop := match k with
  | true => h.IsTupleIter it l i
  | false => h.IsListIter it l i
@[reducible] def HasK (k : Bool) (h : Heap) (l : Addr) (items : Array Value) : Prop := match k with
  | true => h.IsTuple l items
  | false => h.IsList l items
theorem IterK.cell {k : Bool} {h : Heap} {it l : Addr} {i : Nat} (q : IterK k h it l i) : ∃ o, h.get? it = some o ∧ ∀ v, o.data ≠ .cell v := by
  cases k <;> obtain ⟨o, e, _, d⟩ := q <;> exact ⟨o, e, fun v z => by rw [d] at z; cases z⟩
theorem IterK.look {k : Bool} {h h' : Heap} {it l : Addr} {i : Nat} (q : IterK k h it l i) (e : ∀ o, h.get? it = some o → h'.get? it = some o) : IterK k h' it l i := by
  cases k
  · exact Heap.IsListIter.at q fun o z => e o z
  · exact Heap.IsTupleIter.at q fun o z => e o z
theorem drawsK {k : Bool} {prog : Program} {w : World} {A : Around} (hh : A.handled = none) (it l : Addr) (hne : l ≠ it) (items : Array Value) :
    Draws prog w A it [it, l] items.size (fun i v => items[i]? = some v) (fun i h => IterK k h it l i ∧ HasK k h l items) := by
  cases k
  · exact Draws.list hh it l hne items
  · exact Draws.tuple hh it l hne items
section
variable {X : Cx} {pins : List (Addr × Obj)} {σ : L2.St} {H : Hp} {s : Shared}
theorem hasK (I : Inv X pins σ H s) {k : Bool} {a : Addr} {xs : List V} (q : SqK k X.K H a xs) : ∃ its : List Value, Vals xs its ∧ HasK k s.heap a its.toArray ∧ a < s.heap.objs.size := by
  cases k
  · obtain ⟨its, rv, p, _⟩ := I.list q
    exact ⟨its, rv, p.isList, p.lt⟩
  · obtain ⟨its, rv, p, _⟩ := I.tuple q
    exact ⟨its, rv, p, by obtain ⟨o, e, _⟩ := id p; exact Heap.lt_size e⟩
theorem sqK_inj (I : Inv X pins σ H s) {k : Bool} {a : Addr} {xs ys : List V} (q : SqK k X.K H a xs) (r : SqK k X.K H a ys) : xs = ys := by
  cases k
  · exact I.list_inj q r
  · exact I.tuple_inj q r
end
def ItzK (K : PySem.W.Frag) (k1 k2 : Bool) (a b : Addr) : It where
  go := fun i H => ∃ (xs ys : List V) (x y : V), SqK k1 K H a xs ∧ SqK k2 K H b ys ∧ xs[i]? = some x ∧ ys[i]? = some y
  yld := fun i H v H' => ∃ T x y, v = .ref T ∧ H T = none ∧ H' = upd H T (.tup [x, y]) ∧ (∀ xs, SqK k1 K H a xs → xs[i]? = some x) ∧ ∀ ys, SqK k2 K H b ys → ys[i]? = some y
  stop := fun i H => ∃ xs ys : List V, SqK k1 K H a xs ∧ SqK k2 K H b ys ∧ xs.length = i ∧ ys.length = i
theorem in5 {c z TI TO i1 i2 : Addr} (h : c ∈ [z, TI, TO, i1, i2]) : c = z ∨ c = TI ∨ c = TO ∨ c = i1 ∨ c = i2 := by simpa using h
theorem turn_zipK {P : Program} {w : World} {K : PySem.W.Frag} {elts : List Expr} {kk : Nat} {tpos : Pos} {k1 k2 : Bool} {a b z TI TO i1 i2 : Addr} (S : ZipSep2 z TI TO i1 i2 [i1, a] [i2, b]) (na : a ≠ i1) (nb : b ≠ i2) :
    Turn P w K (.Tuple elts kk tpos) (ItzK K k1 k2 a b) [z, TI, TO, i1, i2] z (fun i h => IsZip h z TI TO .none ∧ IsTupOf2 h TI (.ref i1) (.ref i2) ∧ (∃ x y, IsTupOf2 h TO x y) ∧ IterK k1 h i1 a i ∧ IterK k2 h i2 b i) where
  mem := by simp
  obj := fun i h st c hc => by
    obtain ⟨hz, hTI, ⟨x, y, hTO⟩, q1, q2⟩ := st
    rcases in5 hc with q | q | q | q | q <;> rw [q]
    · exact ⟨_, hz, fun v q => nomatch q⟩
    · exact ⟨_, hTI, fun v q => nomatch q⟩
    · exact ⟨_, hTO, fun v q => nomatch q⟩
    · exact q1.cell
    · exact q2.cell
  keep := fun i h h' st kp => by
    obtain ⟨hz, hTI, ⟨x, y, hTO⟩, q1, q2⟩ := st
    exact ⟨kp z (by simp) _ hz, kp TI (by simp) _ hTI, ⟨x, y, kp TO (by simp) _ hTO⟩, q1.look fun o q => kp i1 (by simp) o q, q2.look fun o q => kp i2 (by simp) o q⟩
  item := by
    intro X hP hw hK hc i pins s σ H E I hf st hg
    subst hP hw hK
    obtain ⟨hz, hTI, ⟨x0, y0, hTO⟩, q1, q2⟩ := st
    obtain ⟨xs, ys, x, y, hqx, hqy, hx, hy⟩ := hg
    obtain ⟨its1, rv1, p1, _⟩ := hasK I hqx
    obtain ⟨its2, rv2, p2, _⟩ := hasK I hqy
    obtain ⟨u1, hu1, ru1⟩ := rv1.get hx
    obtain ⟨u2, hu2, ru2⟩ := rv2.get hy
    have hzl : z < s.heap.objs.size := Heap.lt_size hz
    have D1 := drawsK (k := k1) (prog := X.prog) (w := X.w) (A := X.A.in1) (I.ok.hd hc) i1 a na its1.toArray
    have D2 := drawsK (k := k2) (prog := X.prog) (w := X.w) (A := X.A.in1) (I.ok.hd hc) i2 b nb its2.toArray
    have l1 : i < its1.toArray.size := by
      have := (List.getElem?_eq_some_iff.mp hu1).1
      simpa using this
    have l2 : i < its2.toArray.size := by
      have := (List.getElem?_eq_some_iff.mp hu2).1
      simpa using this
    refine wpAny_pyNext_zipD2_item S D1 D2 hz hTI hTO ⟨q1, p1⟩ ⟨q2, p2⟩ l1 l2 fun y1 y2 h' tk e1 e2 z' TO' st1 st2 hT hsz hk => ?_
    obtain rfl : u1 = y1 := by
      have a1 : its1.toArray[i]? = some u1 := by simpa using hu1
      have a2 : its1.toArray[i]? = some y1 := e1
      rw [a1] at a2
      exact Option.some.inj a2
    obtain rfl : u2 = y2 := by
      have a1 : its2.toArray[i]? = some u2 := by simpa using hu2
      have a2 : its2.toArray[i]? = some y2 := e2
      rw [a1] at a2
      exact Option.some.inj a2
    refine ⟨_, rfl, wpAny_letOwnedTupleGo_zip (s := { s with heap := h', toks := tk }) z' fun h'' z'' sb => ?_⟩
    have hT2 : h''.get? s.heap.objs.size = some { cls := .type "tuple", data := .seq #[u1, u2] } := (sb.2 _ (Nat.ne_of_gt hzl)).trans hT
    have new : ObjOk X.prog X.w (upd H s.heap.objs.size (.tup [x, y])) h'' s.heap.objs.size (.tup [x, y]) :=
      ⟨by show 2 ≤ sizeLine; decide, [u1, u2], .cons ru1 (.cons ru2 .nil), ⟨_, hT2, rfl, _, rfl⟩⟩
    have I1 : Inv X pins σ (upd H s.heap.objs.size (.tup [x, y])) { s with heap := h'', toks := tk } :=
      I.turnedNew (ch := [z, TI, TO, i1, i2]) (fun c o hb q => (sb.2 c (fun e => hb (by simp [e]))).trans (hk c o (fun e => hb (by simp [e])) (fun e => hb (by simp [e])) (fun e => hb (by simp [e])) (fun e => hb (by simp [e])) q)) hf (Nat.le_refl _) new
    refine ⟨.ref s.heap.objs.size, _, I1, rfl, ⟨_, x, y, rfl, I.hok.fresh (Nat.le_refl _), rfl, fun l hl => by rw [sqK_inj I hl hqx]; exact hx, fun l hl => by rw [sqK_inj I hl hqy]; exact hy⟩, ⟨z'', ?_, ⟨u1, u2, ?_⟩, ?_, ?_⟩, fun c hcm => ?_⟩
    · exact (sb.2 _ S.TIz).trans (hk _ _ S.TIz S.TITO S.TIi1 S.TIi2 hTI)
    · exact (sb.2 _ S.TOz).trans TO'
    · exact st1.1.look fun o q => (sb.2 _ (Ne.symm S.zi1)).trans q
    · exact st2.1.look fun o q => (sb.2 _ (Ne.symm S.zi2)).trans q
    · have hlt : c < s.heap.objs.size := by
        rcases in5 hcm with q | q | q | q | q <;> rw [q]
        · exact hzl
        · exact Heap.lt_size hTI
        · exact Heap.lt_size hTO
        · obtain ⟨_, e, _⟩ := q1.cell; exact Heap.lt_size e
        · obtain ⟨_, e, _⟩ := q2.cell; exact Heap.lt_size e
      rw [upd_ne (Nat.ne_of_lt hlt)]
      exact (hf c hcm).1
  done := by
    intro X hP hw hK hc i pins s σ H E I hf st hg
    subst hP hw hK
    obtain ⟨hz, hTI, ⟨x0, y0, hTO⟩, q1, q2⟩ := st
    obtain ⟨xs, ys, hqx, hqy, ex, ey⟩ := hg
    obtain ⟨its1, rv1, p1, _⟩ := hasK I hqx
    obtain ⟨its2, rv2, p2, _⟩ := hasK I hqy
    have D1 := drawsK (k := k1) (prog := X.prog) (w := X.w) (A := X.A.in1) (I.ok.hd hc) i1 a na its1.toArray
    have D2 := drawsK (k := k2) (prog := X.prog) (w := X.w) (A := X.A.in1) (I.ok.hd hc) i2 b nb its2.toArray
    have l1 : its1.toArray.size = i := by have := rv1.length; simp; omega
    have l2 : its2.toArray.size = i := by have := rv2.length; simp; omega
    exact wpAny_pyNext_zipD2_end S D1 D2 hz hTI hTO ⟨q1, p1⟩ ⟨q2, p2⟩ (by omega) (by omega) (.inl (by omega)) fun h' tk hk => ⟨rfl, I.turnedL (ch := [z, TI, TO, i1, i2]) (fun c o hb q =>
      hk c o (fun e => hb (by simp [e])) (fun e => hb (by simp [e])) (fun e => hb (by simp [e])) (fun e => hb (by simp [e])) q) hf⟩
  self := fun A i s Q E st h => wpAny_pyIter_zip st.1 h
def iZipK (K : PySem.W.Frag) (k1 k2 : Bool) (ta : TA) : TI := fun σ H R => ta σ H fun vs H1 => ∃ a b xs ys, vs = [.ref a, .ref b] ∧ SqK k1 K H1 a xs ∧ SqK k2 K H1 b ys ∧ R (ItzK K k1 k2 a b) H1
theorem pi_zipK (k1 k2 : Bool) {X : Cx} {e e2 : Expr} {ta : TA} {p pos tpos : Pos} {elts : List Expr} {kk : Nat} (hg : Gl X "zip") (hm : X.mg "zip" = none) (ha : PA X [e, e2] ta)
    (hs : starEach [e, e2] X.env = (false, eval e X.env) :: starEach [e2] X.env := by rfl) (hpl : (backTo pos (starEach [e2] X.env)).any (·.1) = false := by rfl) :
    PI X (.Tuple elts kk tpos) (.Call (.Name "zip" p) [e, e2] [] pos) (iZipK X.K k1 k2 ta) := by
  refine ⟨fun pins s σ H R I h => Call_ (ld_blt I hg hm PyProof.Rows.boot_zip (PyProof.Rows.callWith_type1 (thn (ha.run pos pins s σ H _ I h) fun us s1 ⟨vs, H1, I1, r1, a, b, xs, ys, ex, hqx, hqy, q⟩ => ?_) hs hpl))⟩
  subst ex
  cases r1 with
  | cons r rr =>
    cases rr with
    | cons r' rr =>
      cases rr
      cases r
      cases r'
      obtain ⟨its1, rv1, p1, b1⟩ := hasK I1 hqx
      obtain ⟨its2, rv2, p2, b2⟩ := hasK I1 hqy
      generalize hn : s1.heap.objs.size = n at b1 b2
      have fin : ∀ h', IsZip h' (n + 4) (n + 2) (n + 3) .none → IsTupOf2 h' (n + 2) (.ref n) (.ref (n + 1)) → IsTupOf2 h' (n + 3) .none .none → IterK k1 h' n a 0 → IterK k2 h' (n + 1) b 0 →
          (∀ c o, s1.heap.get? c = some o → h'.get? c = some o) → wpAny (model X.prog X.w) X.A (pyIter (.ref (n + 4))) (PIE X pins σ (.Tuple elts kk tpos) R) X.xe { s1 with heap := h' } := fun h' hz hTI hTO h1 h2 hk => by
        refine wpAny_pyIter_zip hz ?_
        have I2 : Inv X pins σ H1 { s1 with heap := h' } := I1.kept (t' := s1.toks) hk
        have S : ZipSep2 (n + 4) (n + 2) (n + 3) n (n + 1) [n, a] [n + 1, b] := by
          have a1 : ∀ j : Nat, (n + j : Nat) ≠ a := fun j e => Nat.lt_irrefl n (Nat.lt_of_le_of_lt (Nat.le_add_right n j) (by rw [e]; exact b1))
          have a2 : ∀ j : Nat, (n + j : Nat) ≠ b := fun j e => Nat.lt_irrefl n (Nat.lt_of_le_of_lt (Nat.le_add_right n j) (by rw [e]; exact b2))
          have q : ∀ i j : Nat, i ≠ j → (n + i : Nat) ≠ n + j := fun i j h e => h (by omega)
          have o2 : ∀ {x y z : Addr}, x ≠ y → x ≠ z → x ∉ [y, z] := fun h1 h2 h => by simp [h1, h2] at h
          exact ⟨q 2 4 (by decide), q 3 4 (by decide), q 2 3 (by decide), q 2 0 (by decide), by simp, o2 (q 4 0 (by decide)) (a1 4), o2 (q 3 0 (by decide)) (a1 3), q 2 1 (by decide), by simp, o2 (q 4 1 (by decide)) (a2 4), o2 (q 3 1 (by decide)) (a2 3), o2 (q 0 1 (by decide)) (a2 0), o2 (q 1 0 (by decide)) (a1 1)⟩
        refine ⟨n + 4, [n + 4, n + 2, n + 3, n, n + 1], _, ItzK X.K k1 k2 a b, H1, rfl, I2, turn_zipK S (Nat.ne_of_lt b1) (Nat.ne_of_lt (Nat.lt_succ_of_lt b2)), ⟨hz, hTI, ⟨_, _, hTO⟩, h1, h2⟩, fun c hcm => ?_, q⟩
        have hle : s1.heap.objs.size ≤ c := by
          rcases in5 hcm with z | z | z | z | z <;> rw [z] <;> omega
        exact I1.fpOk hle (I1.hok.fresh hle)
      subst hn
      cases k1 <;> cases k2
      · exact zip_begins2 (begins_list a its1.toArray) (begins_list b its2.toArray) p1 p2 fun h' hz hTI hTO h1 h2 _ hk => fin h' hz hTI hTO ⟨_, h1, rfl, rfl⟩ ⟨_, h2, rfl, rfl⟩ hk
      · exact zip_begins2 (begins_list a its1.toArray) (begins_tuple b its2.toArray) p1 p2 fun h' hz hTI hTO h1 h2 _ hk => fin h' hz hTI hTO ⟨_, h1, rfl, rfl⟩ ⟨_, h2, rfl, rfl⟩ hk
      · exact zip_begins2 (begins_tuple a its1.toArray) (begins_list b its2.toArray) p1 p2 fun h' hz hTI hTO h1 h2 _ hk => fin h' hz hTI hTO ⟨_, h1, rfl, rfl⟩ ⟨_, h2, rfl, rfl⟩ hk
      · exact zip_begins2 (begins_tuple a its1.toArray) (begins_tuple b its2.toArray) p1 p2 fun h' hz hTI hTO h1 h2 _ hk => fin h' hz hTI hTO ⟨_, h1, rfl, rfl⟩ ⟨_, h2, rfl, rfl⟩ hk
theorem walk_zipK {K : PySem.W.Frag} {k1 k2 : Bool} {a b : Addr} {xs ys : List V} (hl : xs.length = ys.length) : Walk (ItzK K k1 k2 a b) xs.length (fun H => SqK k1 K H a xs ∧ SqK k2 K H b ys) (YPair (fun i => xs[i]?) fun i => ys[i]?) :=
  ⟨fun i _ hi q => ⟨xs, ys, xs[i], ys[i], q.1, q.2, by simp [hi], by simp [← hl, hi]⟩, fun _ q => ⟨xs, ys, q.1, q.2, rfl, hl.symm⟩, fun i H v H' _ q y => by
    obtain ⟨T, x, y, rfl, hT, rfl, f1, f2⟩ := y
    exact ⟨T, x, y, rfl, hT, rfl, f1 xs q.1, f2 ys q.2⟩⟩
end Fr
set_option Elab.async false
set_option linter.all false
set_option maxRecDepth 100000
namespace Fr
open PySem PySem.Spec PyProof.Rows L2
def addAt (l : List Int) (k : Nat) (v : Int) : List Int := l.set k (l.getD k 0 + v)
def rowN (l : List Int) (k : Nat) (x : Int) (ys : List Int) : Nat → List Int
  | 0 => l
  | j + 1 => addAt (rowN l k x ys j) (k + j) (x * ys.getD j 0)
def prodN (xs ys : List Int) : Nat → List Int
  | 0 => List.replicate (xs.length + ys.length - 1) 0
  | i + 1 => rowN (prodN xs ys i) i (xs.getD i 0) ys ys.length
def prodL (xs ys : List Int) : List Int := prodN xs ys xs.length
theorem addAt_len (l : List Int) (k : Nat) (v : Int) : (addAt l k v).length = l.length := by unfold addAt; rw [List.length_set]
theorem rowN_len (l : List Int) (k : Nat) (x : Int) (ys : List Int) : ∀ j, (rowN l k x ys j).length = l.length
  | 0 => rfl
  | j + 1 => by rw [rowN, addAt_len, rowN_len l k x ys j]
theorem prodN_len (xs ys : List Int) : ∀ i, (prodN xs ys i).length = xs.length + ys.length - 1
  | 0 => by rw [prodN, List.length_replicate]
  | i + 1 => by rw [prodN, rowN_len, prodN_len xs ys i]
theorem prodL_len (xs ys : List Int) : (prodL xs ys).length = xs.length + ys.length - 1 := prodN_len xs ys _
theorem gD_mem {l : List Int} {k : Nat} (h : k < l.length) : l.getD k 0 ∈ l := by
  rw [List.getD_eq_getElem?_getD, List.getElem?_eq_getElem h]
  exact List.getElem_mem h
theorem getD_le {l : List Int} {m : Nat} (h : ∀ z ∈ l, z.natAbs ≤ m) (k : Nat) : (l.getD k 0).natAbs ≤ m := by
  by_cases hk : k < l.length
  · exact h _ (gD_mem hk)
  · rw [List.getD_eq_getElem?_getD, List.getElem?_eq_none (by omega)]
    exact Nat.zero_le _
theorem rowN_le {l : List Int} {k : Nat} {x : Int} {ys : List Int} {m M : Nat} (h : ∀ z ∈ l, z.natAbs ≤ m) (hy : ∀ y ∈ ys, (x * y).natAbs ≤ M) : ∀ j, j ≤ ys.length → ∀ z ∈ rowN l k x ys j, z.natAbs ≤ m + j * M
  | 0, _ => fun z hz => by have := h z hz; omega
  | j + 1, hj => fun z hz => by
    have ih := rowN_le (k := k) h hy j (by omega)
    have e : (j + 1) * M = j * M + M := by rw [Nat.add_mul, Nat.one_mul]
    rw [rowN] at hz
    unfold addAt at hz
    rcases List.mem_or_eq_of_mem_set hz with q | rfl
    · have := ih z q
      omega
    · have h1 := getD_le ih (k + j)
      have h2 := hy _ (gD_mem (show j < ys.length by omega))
      omega
theorem prodN_le {xs ys : List Int} {M : Nat} (h : ∀ x ∈ xs, ∀ y ∈ ys, (x * y).natAbs ≤ M) : ∀ i, i ≤ xs.length → ∀ z ∈ prodN xs ys i, z.natAbs ≤ i * (ys.length * M)
  | 0, _ => fun z hz => by
    rw [prodN] at hz
    rw [List.eq_of_mem_replicate hz]
    exact Nat.zero_le _
  | i + 1, hi => fun z hz => by
    have ih := prodN_le h i (by omega)
    have e : (i + 1) * (ys.length * M) = i * (ys.length * M) + ys.length * M := by rw [Nat.add_mul, Nat.one_mul]
    rw [prodN] at hz
    rw [e]
    exact rowN_le ih (fun y hy => h _ (gD_mem (by omega)) y hy) _ (Nat.le_refl _) z hz
theorem prodL_B {xs ys : List Int} {a b : Nat} (ha : ∀ x ∈ xs, B a x) (hb : ∀ y ∈ ys, B b y) (hp : 0 < a) : ∀ z ∈ prodL xs ys, B (a + b + xs.length * ys.length) z := fun z hz => by
  have h1 := prodN_le (M := 2 ^ (a + b)) (fun x hx y hy => Nat.le_of_lt (B.mul (ha x hx) (hb y hy)).1) xs.length (Nat.le_refl _) z hz
  refine ⟨?_, by omega⟩
  rw [← Nat.mul_assoc] at h1
  rw [Nat.pow_add 2 (a + b), Nat.mul_comm]
  exact Nat.lt_of_le_of_lt h1 (Nat.mul_lt_mul_of_pos_right Nat.lt_two_pow_self (Nat.two_pow_pos _))
theorem get_map {l : List Int} {k : Nat} (h : k < l.length) : (l.map V.int)[k]? = some (V.int (l.getD k 0)) := by
  rw [List.getElem?_map, List.getElem?_eq_getElem h, List.getD_eq_getElem?_getD, List.getElem?_eq_getElem h]
  rfl
theorem get_D {l : List Int} {k : Nat} {y : V} (h : (l.map V.int)[k]? = some y) : y = V.int (l.getD k 0) ∧ k < l.length := by
  have hk : k < l.length := by
    have := (List.getElem?_eq_some_iff.mp h).1
    rwa [List.length_map] at this
  rw [get_map hk] at h
  exact ⟨(Option.some.inj h).symm, hk⟩
theorem zeros (m : Nat) : (List.replicate m [V.int 0]).flatten = (List.replicate m (0 : Int)).map V.int := by
  induction m with
  | zero => rfl
  | succ m ih => rw [List.replicate_succ, List.replicate_succ, List.flatten_cons, ih]; rfl
def valN (xs : List Int) (x y : Int) : Nat → Int × Int
  | 0 => (0, 1)
  | i + 1 => ((valN xs x y i).1 * x + xs.getD i 0 * (valN xs x y i).2, (valN xs x y i).2 * y)
theorem valN_B {xs : List Int} {x y : Int} (hx : B 200 x) (hy : B 200 y) (h : ∀ z ∈ xs, B 200 z) : ∀ i, i ≤ 8 → B (1 + 3000 * i) (valN xs x y i).1 ∧ B (1 + 200 * i) (valN xs x y i).2
  | 0, _ => ⟨⟨by show (0 : Int).natAbs < 2 ^ 1; decide, by decide⟩, ⟨by show (1 : Int).natAbs < 2 ^ 1; decide, by decide⟩⟩
  | i + 1, hi => by
    obtain ⟨h1, h2⟩ := valN_B hx hy h i (by omega)
    have h3 : B 200 (xs.getD i 0) := ⟨Nat.lt_of_le_of_lt (getD_le (m := 2 ^ 200 - 1) (fun z hz => Nat.le_sub_one_of_lt (h z hz).1) i) (by decide), by decide⟩
    rw [valN]
    exact ⟨(B.add (B.mul h1 hx) (B.mul h3 h2)).mono (by omega), (B.mul h2 hy).mono (by omega)⟩
def partN (n : Nat) (e p q r s : Int) (i : Nat) : Nat → List Int
  | 0 => [e]
  | t + 1 => prodL (partN n e p q r s i t) (if (0 : Int) + (t : Int) < ((n : Int) - 1) - (i : Int) then [p, r] else [q, s])
def putN (row : List Int) (p q r s : Int) : Nat → List Int
  | 0 => List.replicate row.length 0
  | i + 1 => List.zipWith (· + ·) (putN row p q r s i) (partN row.length (row.getD i 0) p q r s i (row.length - 1))
theorem partN_len (n : Nat) (e p q r s : Int) (i : Nat) : ∀ t, (partN n e p q r s i t).length = t + 1
  | 0 => rfl
  | t + 1 => by
    rw [partN, prodL_len, partN_len n e p q r s i t]
    split <;> rfl
theorem partN_B {n : Nat} {e p q r s : Int} {i : Nat} (he : B 400 e) (hp : B 400 p) (hq : B 400 q) (hr : B 400 r) (hs : B 400 s) : ∀ t, t ≤ 10 → ∀ z ∈ partN n e p q r s i t, B (400 + 500 * t) z
  | 0, _ => fun z hz => by
    rw [partN] at hz
    have : z = e := by simpa using hz
    rw [this]
    exact he
  | t + 1, ht => fun z hz => by
    have ih := partN_B (n := n) (i := i) he hp hq hr hs t (by omega)
    rw [partN] at hz
    refine B.mono (prodL_B (a := 400 + 500 * t) (b := 400) ih (fun y hy => ?_) (by omega) z hz) ?_
    · split at hy <;> simp only [List.mem_cons, List.mem_nil_iff, or_false] at hy <;> rcases hy with rfl | rfl <;> assumption
    · rw [partN_len]
      split <;> simp <;> omega
theorem putN_len (row : List Int) (p q r s : Int) (h : row ≠ []) : ∀ i, (putN row p q r s i).length = row.length
  | 0 => by rw [putN, List.length_replicate]
  | i + 1 => by
    have := List.length_pos_iff.mpr h
    rw [putN, List.length_zipWith, putN_len row p q r s h i, partN_len]
    omega
theorem mem_zip {xs ys : List Int} {z : Int} (h : z ∈ List.zipWith (· + ·) xs ys) : ∃ x ∈ xs, ∃ y ∈ ys, z = x + y := by
  obtain ⟨k, hk, e⟩ := List.getElem_of_mem h
  rw [List.getElem_zipWith] at e
  rw [List.length_zipWith] at hk
  exact ⟨_, List.getElem_mem (by omega), _, List.getElem_mem (by omega), e.symm⟩
theorem putN_B {row : List Int} {p q r s : Int} (h : ∀ e ∈ row, B 400 e) (hl : row.length ≤ 11) (hp : B 400 p) (hq : B 400 q) (hr : B 400 r) (hs : B 400 s) : ∀ i, i ≤ row.length → ∀ z ∈ putN row p q r s i, B (1 + 6000 * i) z
  | 0, _ => fun z hz => by
    rw [putN] at hz
    rw [List.eq_of_mem_replicate hz]
    exact ⟨by decide, by decide⟩
  | i + 1, hi => fun z hz => by
    rw [putN] at hz
    obtain ⟨u, hu, v, hv, rfl⟩ := mem_zip hz
    exact (B.add (putN_B h hl hp hq hr hs i (by omega) u hu) (partN_B (h _ (gD_mem (by omega))) hp hq hr hs _ (by omega) v hv)).mono (by omega)
end Fr
set_option Elab.async false
set_option linter.all false
set_option maxRecDepth 100000
namespace Fr
open PySem PySem.Spec PyProof.Rows L2
def CDivNW (_ j : Int) : Prop := j ≠ 0 ∧ j.natAbs.log2 < 9000
theorem op_fdivNW {X : Cx} : OpR X (binaryOp .FloorDiv) (rI CDivNW fun i j => .int (i.fdiv j)) := opI fun _ _ _ _ _ _ _ hc q => floordiv_int hc.1 q (.inl (PyProof.noPylong_of_log2 hc.2))
structure Bz (M : Nat) (p q one other u v u' v' : Int) : Prop where
  o : 0 ≤ other
  pos : 0 ≤ one ∨ (u = 1 ∧ u' = 0)
  e1 : u * p + v * q = one
  e2 : u' * p + v' * q = other
  d : one * u' - other * u = q ∨ one * u' - other * u = -q
  s : (0 ≤ u ∧ u' ≤ 0) ∨ (u ≤ 0 ∧ 0 ≤ u')
  bu : u.natAbs ≤ q.natAbs + 1
  bu' : u'.natAbs ≤ q.natAbs + 1
  g : Nat.gcd one.natAbs other.natAbs = 1
  b1 : one.natAbs ≤ M
  b2 : other.natAbs ≤ M
  z : q = 0 → other = 0 ∧ v = 0
theorem Bz.init {M : Nat} {p q : Int} (hq : 0 ≤ q) (g : Nat.gcd p.natAbs q.natAbs = 1) (h1 : p.natAbs ≤ M) (h2 : q.natAbs ≤ M) : Bz M p q p q 1 0 0 1 :=
  ⟨hq, .inr ⟨rfl, rfl⟩, by simp, by simp, .inr (by simp), .inl ⟨by decide, by decide⟩, by show 1 ≤ _; omega, by show 0 ≤ _; omega, g, h1, h2, fun h => ⟨h, rfl⟩⟩
theorem Bz.step {M : Nat} {p q one other u v u' v' : Int} (h : Bz M p q one other u v u' v') (ho : other ≠ 0) :
    Bz M p q other (one - one / other * other) u' v' (u - one / other * u') (v - one / other * v') ∧ (one - one / other * other).toNat < other.toNat := by
  have o0 : 0 < other := by have := h.o; omega
  have hr : one - one / other * other = one % other := by
    have := Int.emod_add_mul_ediv one other
    rw [Int.mul_comm other] at this
    omega
  have r0 := Int.emod_nonneg one ho
  have r1 := Int.emod_lt_of_pos one o0
  have s' : (0 ≤ u' ∧ u - one / other * u' ≤ 0) ∨ (u' ≤ 0 ∧ 0 ≤ u - one / other * u') := by
    rcases h.pos with hp | ⟨rfl, rfl⟩
    · have t0 : 0 ≤ one / other := Int.ediv_nonneg hp h.o
      rcases h.s with ⟨a, b⟩ | ⟨a, b⟩
      · right
        have := Int.mul_nonneg t0 (show 0 ≤ -u' by omega)
        rw [Int.mul_neg] at this
        exact ⟨b, by omega⟩
      · left
        have := Int.mul_nonneg t0 b
        exact ⟨b, by omega⟩
    · right
      simp
  have dd : other * (u - one / other * u') - (one - one / other * other) * u' = -(one * u' - other * u) := by grind
  have d' : other * (u - one / other * u') - (one - one / other * other) * u' = q ∨ other * (u - one / other * u') - (one - one / other * other) * u' = -q := by
    rw [dd]
    rcases h.d with e | e <;> rw [e]
    · exact .inr rfl
    · exact .inl (by omega)
  have bu'' : (u - one / other * u').natAbs ≤ q.natAbs + 1 := by
    rw [hr] at d'
    generalize u - one / other * u' = w at *
    have k1 : other * w - (one % other) * u' = q ∨ other * w - (one % other) * u' = -q := d'
    rcases s' with ⟨a, b⟩ | ⟨a, b⟩
    · have m1 := Int.mul_nonneg r0 a
      have m2 := Int.mul_le_mul_of_nonneg_right (show (1 : Int) ≤ other by omega) (show 0 ≤ -w by omega)
      rw [Int.one_mul, Int.mul_neg] at m2
      omega
    · have m1 := Int.mul_nonneg r0 (show 0 ≤ -u' by omega)
      have m2 := Int.mul_le_mul_of_nonneg_right (show (1 : Int) ≤ other by omega) b
      rw [Int.one_mul] at m2
      rw [Int.mul_neg] at m1
      omega
  have gg : Nat.gcd other.natAbs (one - one / other * other).natAbs = 1 := by
    have h1 : Nat.gcd other.natAbs (one - one / other * other).natAbs ∣ other.natAbs := Nat.gcd_dvd_left _ _
    have h2 : Nat.gcd other.natAbs (one - one / other * other).natAbs ∣ (one - one / other * other).natAbs := Nat.gcd_dvd_right _ _
    generalize Nat.gcd other.natAbs (one - one / other * other).natAbs = k at *
    have i1 := Int.ofNat_dvd_left.mpr h1
    have i2 := Int.ofNat_dvd_left.mpr h2
    have i3 : (k : Int) ∣ one := by
      have := Int.dvd_add i2 (Int.dvd_mul_of_dvd_right i1 (b := one / other))
      rwa [show one - one / other * other + one / other * other = one by omega] at this
    have i4 : k ∣ Nat.gcd one.natAbs other.natAbs := Nat.dvd_gcd (Int.ofNat_dvd_left.mp i3) h1
    rw [h.g] at i4
    exact Nat.dvd_one.mp i4
  refine ⟨⟨by rw [hr]; exact r0, .inl h.o, h.e2, ?_, d', s', h.bu', bu'', gg, h.b2, ?_, fun z => absurd (h.z z).1 ho⟩, ?_⟩
  · have a := h.e1
    have b := h.e2
    generalize one / other = t at *
    rw [← a, ← b]
    grind
  · rw [hr]
    have := h.b2
    omega
  · rw [hr]
    omega
theorem Bz.fin {M : Nat} {p q one u v u' v' : Int} (h : Bz M p q one 0 u v u' v') (hp : p.natAbs ≤ M) : (p * u - q * (0 - v) = 1 ∨ p * u - q * (0 - v) = -1) ∧ u.natAbs ≤ q.natAbs + 1 ∧ v.natAbs ≤ M + (q.natAbs + 1) * M := by
  have g := h.g
  rw [show (0 : Int).natAbs = 0 from rfl, Nat.gcd_zero_right] at g
  have e := h.e1
  refine ⟨?_, h.bu, ?_⟩
  · have : p * u - q * (0 - v) = one := by rw [← e]; grind
    rw [this]
    omega
  · by_cases hq : q = 0
    · rw [(h.z hq).2]
      exact Nat.zero_le _
    · have h1 : v.natAbs ≤ (v * q).natAbs := by
        rw [Int.natAbs_mul]
        exact Nat.le_mul_of_pos_right _ (by omega)
      have h2 : v * q = one - u * p := by omega
      have h3 : (u * p).natAbs ≤ (q.natAbs + 1) * M := by
        rw [Int.natAbs_mul]
        exact Nat.mul_le_mul h.bu hp
      have h4 := h.b1
      rw [h2] at h1
      omega
theorem Bz.bv {M : Nat} {p q one other u v u' v' : Int} (h : Bz M p q one other u v u' v') (ho : other ≠ 0) (hp : p.natAbs ≤ M) : v'.natAbs ≤ M + (q.natAbs + 1) * M := by
  have hq : q ≠ 0 := fun z => ho (h.z z).1
  have e := h.e2
  have h1 : v'.natAbs ≤ (v' * q).natAbs := by
    rw [Int.natAbs_mul]
    exact Nat.le_mul_of_pos_right _ (by omega)
  have h2 : v' * q = other - u' * p := by omega
  have h3 : (u' * p).natAbs ≤ (q.natAbs + 1) * M := by
    rw [Int.natAbs_mul]
    exact Nat.mul_le_mul h.bu' hp
  have h4 := h.b2
  rw [h2] at h1
  omega
end Fr
set_option Elab.async false
set_option linter.all false
set_option maxRecDepth 100000
namespace Fr
open PySem PySem.Spec PyProof.Rows L2
@[reducible] def Itk (K : PySem.W.Frag) (k : Bool) (a : Addr) : It := match k with
  | true => Itt K a
  | false => Itl K a
theorem or_slot {K : PySem.W.Frag} {k : Bool} {a : Addr} {xs : List V} {i : Nat} {σ : L2.St} {H : Hp} {R : It → Hp → Prop} (e : σ[i]? = some (some (.ref a))) (h : SqK k K H a xs) (z : R (Itk K k a) H) :
    iList K (tVar i) σ H R ∨ iTup K (tVar i) σ H R := by
  cases k
  · exact .inl ⟨_, e, a, rfl, ⟨xs, h⟩, z⟩
  · exact .inr ⟨_, e, a, rfl, ⟨xs, h⟩, z⟩
section
variable {K : PySem.W.Frag} {k : Bool} {a : Addr} {xs : List V} {g : TG} {tb : TS} {D : Ends} {σ : L2.St} {H : Hp}
theorem for_K (J : Nat → L2.St → Hp → Prop) (start : J 0 σ H) (stays : ∀ i σ H, i ≤ xs.length → J i σ H → SqK k K H a xs)
    (turn : ∀ i x σ H, xs[i]? = some x → J i σ H → g x σ H fun σ2 H2 => tb { D with nx := J (i + 1), ct := J (i + 1), bk := D.nx } σ2 H2)
    (after : ∀ σ H, J xs.length σ H → D.nx σ H) :
    ∃ V : Nat → Nat → L2.St → Hp → Prop, (∃ n, V 0 n σ H) ∧ ∀ i n σ H, V i n σ H → ((Itk K k a).stop i H ∧ D.nx σ H) ∨
      ((Itk K k a).go i H ∧ ∃ N : L2.St → Hp → Prop, (∀ σ1 H1, N σ1 H1 → ∃ n1, n1 < n ∧ V (i + 1) n1 σ1 H1) ∧
        ∀ x H1, (Itk K k a).yld i H x H1 → g x σ H1 fun σ2 H2 => tb { D with nx := N, ct := N, bk := D.nx } σ2 H2) := by
  cases k
  · exact for_list J start stays turn after
  · exact for_tup J start stays turn after
end
section
variable {K : PySem.W.Frag} {S : Addr → Prop} {I : Hp → Prop} {σ : L2.St} {H : Hp} {Q : Addr → Hp → Prop} {te : TE} {vs : List Nat} {g : TG} {tt : TT}
theorem lcK {k : Bool} (m : Fm S I) (i0 : I H) {a : Addr} {xs : List V} (hx : SqK k K H a xs) (ha : ¬ S a) (P : Nat → List V → Hp → Prop) (p0 : ∀ D, H D = none → P 0 [] (upd H D (.lst [])))
    (hs : ∀ D i x acc H', H D = none → xs[i]? = some x → Fx S I H H' → H' D = some (.lst acc) → acc.length ≤ i → P i acc H' → g x (wipe σ vs) H' fun σ2 H2 => wipe σ2 vs = wipe σ vs ∧ tt σ2 H2 fun b H3 =>
      if b = true then te σ2 H3 fun y H4 => ∃ acc, H4 D = some (.lst acc) ∧ acc.length < sizeLine ∧ Cs S I H P D (i + 1) (upd H4 D (.lst (acc ++ [y]))) else Cs S I H P D (i + 1) H3)
    (q : ∀ D H' acc, H D = none → Fx S I H H' → H' D = some (.lst acc) → P xs.length acc H' → Q D H') :
    ∀ D, H D = none → ∃ V : Nat → Nat → Hp → Prop, (∃ n, V 0 n (upd H D (.lst []))) ∧ ∀ i n H, V i n H →
      ((Itk K k a).stop i H ∧ Q D H) ∨ ((Itk K k a).go i H ∧ ∃ N : Hp → Prop, (∀ H1, N H1 → ∃ n1, n1 < n ∧ V (i + 1) n1 H1) ∧ ∀ x H1, (Itk K k a).yld i H x H1 → g x (wipe σ vs) H1 fun σ2 H2 => wipe σ2 vs = wipe σ vs ∧ tt σ2 H2 fun b H3 =>
        if b = true then te σ2 H3 fun y H4 => ∃ acc, H4 D = some (.lst acc) ∧ acc.length < sizeLine ∧ N (upd H4 D (.lst (acc ++ [y]))) else N H3) := by
  cases k
  · exact lcL m i0 hx ha P p0 hs q
  · exact lcT m i0 hx ha P p0 hs q
end
end Fr
set_option Elab.async false
set_option linter.all false
set_option maxRecDepth 100000
namespace K05M
def fv (a b c d x y : Int) : Int := a * x * x * x + b * x * x * y + c * x * y * y + d * y * y * y
def fdisc (a b c d : Int) : Int := b * b * c * c - 4 * a * c * c * c - 4 * b * b * b * d - 27 * a * a * d * d + 18 * a * b * c * d
def fl2 (a b c d p q r s : Int) : Int := 3 * a * p * p * r + b * p * (p * s + 2 * q * r) + c * q * (2 * p * s + q * r) + 3 * d * q * q * s
def fl3 (a b c d p q r s : Int) : Int := 3 * a * p * r * r + b * r * (2 * p * s + q * r) + c * s * (p * s + 2 * q * r) + 3 * d * q * s * s
theorem put1 (a b c d p q r s i j : Int) : fv (fv a b c d p q) (fl2 a b c d p q r s) (fl3 a b c d p q r s) (fv a b c d r s) i j = fv a b c d (i * p + j * r) (i * q + j * s) := by
  unfold fv fl2 fl3
  grind
theorem put2 (a b c d p q r s i j k m : Int) : fl2 (fv a b c d p q) (fl2 a b c d p q r s) (fl3 a b c d p q r s) (fv a b c d r s) i j k m = fl2 a b c d (i * p + j * r) (i * q + j * s) (k * p + m * r) (k * q + m * s) := by
  unfold fv fl2 fl3
  grind
theorem put3 (a b c d p q r s i j k m : Int) : fl3 (fv a b c d p q) (fl2 a b c d p q r s) (fl3 a b c d p q r s) (fv a b c d r s) i j k m = fl3 a b c d (i * p + j * r) (i * q + j * s) (k * p + m * r) (k * q + m * s) := by
  unfold fv fl2 fl3
  grind
theorem disc (a b c d p q r s : Int) : fdisc (fv a b c d p q) (fl2 a b c d p q r s) (fl3 a b c d p q r s) (fv a b c d r s) = (p * s - q * r) * (p * s - q * r) * (p * s - q * r) * (p * s - q * r) * (p * s - q * r) * (p * s - q * r) * fdisc a b c d := by
  unfold fdisc fv fl2 fl3
  grind
theorem fv_mul (e a b c d x y : Int) : fv (e * a) (e * b) (e * c) (e * d) x y = e * fv a b c d x y := by unfold fv; grind
theorem fl2_mul (e a b c d p q r s : Int) : fl2 (e * a) (e * b) (e * c) (e * d) p q r s = e * fl2 a b c d p q r s := by unfold fl2; grind
theorem fl3_mul (e a b c d p q r s : Int) : fl3 (e * a) (e * b) (e * c) (e * d) p q r s = e * fl3 a b c d p q r s := by unfold fl3; grind
theorem disc_neg (a b c d : Int) : fdisc (-1 * a) (-1 * b) (-1 * c) (-1 * d) = fdisc a b c d := by unfold fdisc; grind
theorem det_mul (p q r s i j k m : Int) : (i * p + j * r) * (k * q + m * s) - (i * q + j * s) * (k * p + m * r) = (i * m - j * k) * (p * s - q * r) := by grind
theorem fv_one (a b c d : Int) : fv a b c d 1 0 = a ∧ fv a b c d 0 1 = d ∧ fl2 a b c d 1 0 0 1 = b ∧ fl3 a b c d 1 0 0 1 = c := by
  unfold fv fl2 fl3
  refine ⟨?_, ?_, ?_, ?_⟩ <;> grind
theorem und (p q r s e : Int) (he : e = p * s - q * r) (h : e = 1 ∨ e = -1) : (e * s) * p + (-e * q) * r = 1 ∧ (e * s) * q + (-e * q) * s = 0 ∧ (-e * r) * p + (e * p) * r = 0 ∧ (-e * r) * q + (e * p) * s = 1 := by
  have h1 : e * e = 1 := by rcases h with rfl | rfl <;> decide
  refine ⟨?_, ?_, ?_, ?_⟩ <;> grind
end K05M
namespace Fr
open PySem PySem.Spec PyProof.Rows L2
theorem op_in_seqK {X : Cx} {K : PySem.W.Frag} (hK : X.K = K) : OpR X (compareOp .In) (rIn K false) := hK ▸ op_in_seq
theorem op_notIn_seqK {X : Cx} {K : PySem.W.Frag} (hK : X.K = K) : OpR X (compareOp .NotIn) (rIn K true) := hK ▸ op_notIn_seq
end Fr
namespace K72
open PySem PySem.Spec PyProof.Rows L2 Fr
def Un (K : PySem.W.Frag) (H : Hp) (A : Addr) : Prop := ∃ a b c, SqT K H A [.ref a, .ref b, .ref c] ∧ SqT K H a [.int 1, .int 0, .int 0] ∧ SqT K H b [.int 0, .int 1, .int 0] ∧ SqT K H c [.int 0, .int 0, .int 1]
theorem un_k {K : PySem.W.Frag} {H : Hp} {A a b c : Addr} {o0 o1 o2 o3 : Option Addr} {s0 s1 s2 s3 : Array (Option Value)} {n0 n1 n2 n3 : Nat} {t0 t1 t2 t3 t4 t5 t6 t7 t8 : Tok}
    (h0 : K.lookup A = some ⟨.type "tuple", o0, .seq #[.ref a, .ref b, .ref c] n0, s0⟩) (h1 : K.lookup a = some ⟨.type "tuple", o1, .seq #[.int 1 t0, .int 0 t1, .int 0 t2] n1, s1⟩)
    (h2 : K.lookup b = some ⟨.type "tuple", o2, .seq #[.int 0 t3, .int 1 t4, .int 0 t5] n2, s2⟩) (h3 : K.lookup c = some ⟨.type "tuple", o3, .seq #[.int 0 t6, .int 0 t7, .int 1 t8] n3, s3⟩) : Un K H A :=
  ⟨a, b, c, .inr ⟨_, _, _, h0, rfl, rfl, by show 3 ≤ sizeLine; decide, .cons rfl (.cons rfl (.cons rfl .nil))⟩, .inr ⟨_, _, _, h1, rfl, rfl, by show 3 ≤ sizeLine; decide, .cons ⟨_, rfl⟩ (.cons ⟨_, rfl⟩ (.cons ⟨_, rfl⟩ .nil))⟩,
    .inr ⟨_, _, _, h2, rfl, rfl, by show 3 ≤ sizeLine; decide, .cons ⟨_, rfl⟩ (.cons ⟨_, rfl⟩ (.cons ⟨_, rfl⟩ .nil))⟩, .inr ⟨_, _, _, h3, rfl, rfl, by show 3 ≤ sizeLine; decide, .cons ⟨_, rfl⟩ (.cons ⟨_, rfl⟩ (.cons ⟨_, rfl⟩ .nil))⟩⟩
abbrev N_is_any_integer : List Str := ["value"]
theorem sc_is_any_integer : FnScope N_is_any_integer ["value"] (defScope s_is_any_integer) := ⟨rfl, rfl, rfl, by decide +kernel, rfl, by decide +kernel, by decide +kernel⟩
abbrev N_is_short_integer : List Str := ["value"]
theorem sc_is_short_integer : FnScope N_is_short_integer ["value"] (defScope s_is_short_integer) := ⟨rfl, rfl, rfl, by decide +kernel, rfl, by decide +kernel, by decide +kernel⟩
abbrev N_is_between : List Str := ["value", "low", "high"]
theorem sc_is_between : FnScope N_is_between ["value", "low", "high"] (defScope s_is_between) := ⟨rfl, rfl, rfl, by decide +kernel, rfl, by decide +kernel, by decide +kernel⟩
abbrev N_are_any_integers : List Str := ["value", "many", "number"]
theorem sc_are_any_integers : FnScope N_are_any_integers ["value", "many"] (defScope s_are_any_integers) := ⟨rfl, rfl, rfl, by decide +kernel, rfl, by decide +kernel, by decide +kernel⟩
abbrev N_are_short_integers : List Str := ["value", "many", "n"]
theorem sc_are_short_integers : FnScope N_are_short_integers ["value", "many"] (defScope s_are_short_integers) := ⟨rfl, rfl, rfl, by decide +kernel, rfl, by decide +kernel, by decide +kernel⟩
abbrev N_check_integer : List Str := ["value"]
theorem sc_check_integer : FnScope N_check_integer ["value"] (defScope s_check_integer) := ⟨rfl, rfl, rfl, by decide +kernel, rfl, by decide +kernel, by decide +kernel⟩
abbrev N_check_between : List Str := ["value", "low", "high"]
theorem sc_check_between : FnScope N_check_between ["value", "low", "high"] (defScope s_check_between) := ⟨rfl, rfl, rfl, by decide +kernel, rfl, by decide +kernel, by decide +kernel⟩
abbrev N_determinant_of : List Str := ["change", "p", "q", "r", "s"]
theorem sc_determinant_of : FnScope N_determinant_of ["change"] (defScope s_determinant_of) := ⟨rfl, rfl, rfl, by decide +kernel, rfl, by decide +kernel, by decide +kernel⟩
abbrev N_is_change : List Str := ["value", "row"]
theorem sc_is_change : FnScope N_is_change ["value"] (defScope s_is_change) := ⟨rfl, rfl, rfl, by decide +kernel, rfl, by decide +kernel, by decide +kernel⟩
abbrev N_is_short_change : List Str := ["value", "row"]
theorem sc_is_short_change : FnScope N_is_short_change ["value"] (defScope s_is_short_change) := ⟨rfl, rfl, rfl, by decide +kernel, rfl, by decide +kernel, by decide +kernel⟩
abbrev N_check_change : List Str := ["value"]
theorem sc_check_change : FnScope N_check_change ["value"] (defScope s_check_change) := ⟨rfl, rfl, rfl, by decide +kernel, rfl, by decide +kernel, by decide +kernel⟩
abbrev N_shared_divisor : List Str := ["numbers", "shared", "number"]
theorem sc_shared_divisor : FnScope N_shared_divisor ["numbers"] (defScope s_shared_divisor) := ⟨rfl, rfl, rfl, by decide +kernel, rfl, by decide +kernel, by decide +kernel⟩
abbrev N_form_value : List Str := ["coefficients", "x", "y", "a", "b", "c", "d"]
theorem sc_form_value : FnScope N_form_value ["coefficients", "x", "y"] (defScope s_form_value) := ⟨rfl, rfl, rfl, by decide +kernel, rfl, by decide +kernel, by decide +kernel⟩
abbrev N_form_led : List Str := ["coefficients", "change", "a", "b", "c", "d", "p", "q", "r", "s", "e", "second", "third"]
theorem sc_form_led : FnScope N_form_led ["coefficients", "change"] (defScope s_form_led) := ⟨rfl, rfl, rfl, by decide +kernel, rfl, by decide +kernel, by decide +kernel⟩
abbrev N_check_form : List Str := ["value"]
theorem sc_check_form : FnScope N_check_form ["value"] (defScope s_check_form) := ⟨rfl, rfl, rfl, by decide +kernel, rfl, by decide +kernel, by decide +kernel⟩
abbrev N_form_of : List Str := ["coefficients", "form"]
theorem sc_form_of : FnScope N_form_of ["coefficients"] (defScope s_form_of) := ⟨rfl, rfl, rfl, by decide +kernel, rfl, by decide +kernel, by decide +kernel⟩
abbrev N_Form___init__ : List Str := ["self", "coefficients"]
theorem sc_Form___init__ : FnScope N_Form___init__ ["self", "coefficients"] (defScope s_Form___init__) := ⟨rfl, rfl, rfl, by decide +kernel, rfl, by decide +kernel, by decide +kernel⟩
abbrev N_Form_coefficients : List Str := ["self"]
theorem sc_Form_coefficients : FnScope N_Form_coefficients ["self"] (defScope s_Form_coefficients) := ⟨rfl, rfl, rfl, by decide +kernel, rfl, by decide +kernel, by decide +kernel⟩
abbrev N_Form___call__ : List Str := ["self", "x", "y"]
theorem sc_Form___call__ : FnScope N_Form___call__ ["self", "x", "y"] (defScope s_Form___call__) := ⟨rfl, rfl, rfl, by decide +kernel, rfl, by decide +kernel, by decide +kernel⟩
abbrev N_Form_led : List Str := ["self", "change"]
theorem sc_Form_led : FnScope N_Form_led ["self", "change"] (defScope s_Form_led) := ⟨rfl, rfl, rfl, by decide +kernel, rfl, by decide +kernel, by decide +kernel⟩
abbrev N_Form___eq__ : List Str := ["self", "other"]
theorem sc_Form___eq__ : FnScope N_Form___eq__ ["self", "other"] (defScope s_Form___eq__) := ⟨rfl, rfl, rfl, by decide +kernel, rfl, by decide +kernel, by decide +kernel⟩
abbrev N_with_opposites : List Str := ["pairs", "x", "y"]
theorem sc_with_opposites : FnScope N_with_opposites ["pairs"] (defScope s_with_opposites) := ⟨rfl, rfl, rfl, by decide +kernel, rfl, by decide +kernel, by decide +kernel⟩
abbrev N_row_makers : List Str := ["coefficients", "most", "y", "a", "b", "c", "d", "second", "third", "last", "x"]
theorem sc_row_makers : FnScope N_row_makers ["coefficients", "most", "y"] (defScope s_row_makers) := ⟨rfl, rfl, rfl, by decide +kernel, rfl, by decide +kernel, by decide +kernel⟩
abbrev N_third_powers : List Str := ["modulus", "prime", "x"]
theorem sc_third_powers : FnScope N_third_powers ["modulus"] (defScope s_third_powers) := ⟨rfl, rfl, rfl, by decide +kernel, rfl, by decide +kernel, by decide +kernel⟩
abbrev N_is_barred_by : List Str := ["coefficients", "modulus", "a", "b", "c", "d", "powers", "x", "y", "number"]
theorem sc_is_barred_by : FnScope N_is_barred_by ["coefficients", "modulus"] (defScope s_is_barred_by) := ⟨rfl, rfl, rfl, by decide +kernel, rfl, by decide +kernel, by decide +kernel⟩
abbrev N_makers : List Str := ["form", "most", "found", "y"]
theorem sc_makers : FnScope N_makers ["form", "most"] (defScope s_makers) := ⟨rfl, rfl, rfl, by decide +kernel, rfl, by decide +kernel, by decide +kernel⟩
abbrev N_maker_bar : List Str := ["form", "modulus"]
theorem sc_maker_bar : FnScope N_maker_bar ["form"] (defScope s_maker_bar) := ⟨rfl, rfl, rfl, by decide +kernel, rfl, by decide +kernel, by decide +kernel⟩
abbrev N_common_index : List Str := ["form", "a", "b", "c", "d"]
theorem sc_common_index : FnScope N_common_index ["form"] (defScope s_common_index) := ⟨rfl, rfl, rfl, by decide +kernel, rfl, by decide +kernel, by decide +kernel⟩
abbrev N_l_vat : List Str := ["_law_script", "_law_at", "_law_cell", "_law_great", "_law_seed"]
theorem sc_l_vat : FnScope N_l_vat ["_law_script", "_law_at"] (defScope s_l_vat) := ⟨rfl, rfl, rfl, by decide +kernel, rfl, by decide +kernel, by decide +kernel⟩
abbrev N_l_scoop : List Str := ["_law_vat_here", "_law_total", "_law_found", "_law_one", "_law_two"]
theorem sc_l_scoop : FnScope N_l_scoop ["_law_vat_here", "_law_total"] (defScope s_l_scoop) := ⟨rfl, rfl, rfl, by decide +kernel, rfl, by decide +kernel, by decide +kernel⟩
abbrev N_l_from : List Str := ["_law_vat_here", "_law_items"]
theorem sc_l_from : FnScope N_l_from ["_law_vat_here", "_law_items"] (defScope s_l_from) := ⟨rfl, rfl, rfl, by decide +kernel, rfl, by decide +kernel, by decide +kernel⟩
abbrev N_l_size : List Str := ["_law_vat_here", "_law_most"]
theorem sc_l_size : FnScope N_l_size ["_law_vat_here", "_law_most"] (defScope s_l_size) := ⟨rfl, rfl, rfl, by decide +kernel, rfl, by decide +kernel, by decide +kernel⟩
abbrev N_l_share : List Str := ["_law_one", "_law_other"]
theorem sc_l_share : FnScope N_l_share ["_law_one", "_law_other"] (defScope s_l_share) := ⟨rfl, rfl, rfl, by decide +kernel, rfl, by decide +kernel, by decide +kernel⟩
abbrev N_l_change : List Str := ["_law_vat_here", "_law_many", "_law_steps", "_law_found", "_law_turn"]
theorem sc_l_change : FnScope N_l_change ["_law_vat_here", "_law_many"] (defScope s_l_change) := ⟨rfl, rfl, rfl, by decide +kernel, rfl, by decide +kernel, by decide +kernel⟩
abbrev N_l_joined : List Str := ["_law_one", "_law_other", "_law_rows", "_law_row_here"]
theorem sc_l_joined : FnScope N_l_joined ["_law_one", "_law_other"] (defScope s_l_joined) := ⟨rfl, rfl, rfl, by decide +kernel, rfl, by decide +kernel, by decide +kernel⟩
abbrev N_l_value : List Str := ["_law_numbers", "_law_x", "_law_y", "_law_powers", "_law_number", "_law_power"]
theorem sc_l_value : FnScope N_l_value ["_law_numbers", "_law_x", "_law_y"] (defScope s_l_value) := ⟨rfl, rfl, rfl, by decide +kernel, rfl, by decide +kernel, by decide +kernel⟩
abbrev N_l_row : List Str := ["_law_vat_here", "_law_size_here", "_law_turn"]
theorem sc_l_row : FnScope N_l_row ["_law_vat_here", "_law_size_here"] (defScope s_l_row) := ⟨rfl, rfl, rfl, by decide +kernel, rfl, by decide +kernel, by decide +kernel⟩
abbrev N_l_rests : List Str := ["_law_numbers", "_law_modulus", "_law_found", "_law_x", "_law_y"]
theorem sc_l_rests : FnScope N_l_rests ["_law_numbers", "_law_modulus"] (defScope s_l_rests) := ⟨rfl, rfl, rfl, by decide +kernel, rfl, by decide +kernel, by decide +kernel⟩
abbrev N_l_due_bar : List Str := ["_law_numbers", "_law_most", "_law_modulus", "_law_rests_here"]
theorem sc_l_due_bar : FnScope N_l_due_bar ["_law_numbers", "_law_most"] (defScope s_l_due_bar) := ⟨rfl, rfl, rfl, by decide +kernel, rfl, by decide +kernel, by decide +kernel⟩
abbrev N_l_drawn_form : List Str := ["_law_vat_here", "_law_row_here", "_law_way", "_law_share_here", "_law_entry", "_law_part"]
theorem sc_l_drawn_form : FnScope N_l_drawn_form ["_law_vat_here"] (defScope s_l_drawn_form) := ⟨rfl, rfl, rfl, by decide +kernel, rfl, by decide +kernel, by decide +kernel⟩
abbrev N_l_form_right : List Str := ["_law_vat_here", "_law_numbers", "_law_form", "_law_told", "_law_most", "_law_due", "_law_rests_here", "_law_index", "_law_places", "_law_found", "_law_share_here", "_law_x", "_law_y", "_law_entry", "_law_other"]
theorem sc_l_form_right : FnScope N_l_form_right ["_law_vat_here"] (defScope s_l_form_right) := ⟨rfl, rfl, rfl, by decide +kernel, rfl, by decide +kernel, by decide +kernel⟩
abbrev N_law : List Str := ["_law_script", "_law_at", "_law_vat_here", "_law_rows", "_law_told", "_law_row_here"]
theorem sc_law : FnScope N_law ["_law_script"] (defScope s_law) := ⟨rfl, rfl, rfl, by decide +kernel, rfl, by decide +kernel, by decide +kernel⟩
structure Txt (K : PySem.W.Frag) (mg : Str → Option Value) (C_Form : Addr) : Prop where
  g_Form : mg "Form" = some (.ref C_Form)
  cl_Form : Cls K C_Form
  ty_Form : TyI K C_Form
  na_Form_coefficients : NoAttr K C_Form "_coefficients"
  d_is_any_integer : ∃ f fd, mg "is_any_integer" = some (.ref f) ∧ Fun K "is_any_integer" "is_any_integer" s_is_any_integer f fd
  d_is_short_integer : ∃ f fd, mg "is_short_integer" = some (.ref f) ∧ Fun K "is_short_integer" "is_short_integer" s_is_short_integer f fd
  d_is_between : ∃ f fd, mg "is_between" = some (.ref f) ∧ Fun K "is_between" "is_between" s_is_between f fd
  d_are_any_integers : ∃ f fd, mg "are_any_integers" = some (.ref f) ∧ Fun K "are_any_integers" "are_any_integers" s_are_any_integers f fd
  d_are_short_integers : ∃ f fd, mg "are_short_integers" = some (.ref f) ∧ Fun K "are_short_integers" "are_short_integers" s_are_short_integers f fd
  d_check_integer : ∃ f fd, mg "check_integer" = some (.ref f) ∧ Fun K "check_integer" "check_integer" s_check_integer f fd
  d_check_between : ∃ f fd, mg "check_between" = some (.ref f) ∧ Fun K "check_between" "check_between" s_check_between f fd
  d_determinant_of : ∃ f fd, mg "determinant_of" = some (.ref f) ∧ Fun K "determinant_of" "determinant_of" s_determinant_of f fd
  d_is_change : ∃ f fd, mg "is_change" = some (.ref f) ∧ Fun K "is_change" "is_change" s_is_change f fd
  d_is_short_change : ∃ f fd, mg "is_short_change" = some (.ref f) ∧ Fun K "is_short_change" "is_short_change" s_is_short_change f fd
  d_check_change : ∃ f fd, mg "check_change" = some (.ref f) ∧ Fun K "check_change" "check_change" s_check_change f fd
  d_shared_divisor : ∃ f fd, mg "shared_divisor" = some (.ref f) ∧ Fun K "shared_divisor" "shared_divisor" s_shared_divisor f fd
  d_form_value : ∃ f fd, mg "form_value" = some (.ref f) ∧ Fun K "form_value" "form_value" s_form_value f fd
  d_form_led : ∃ f fd, mg "form_led" = some (.ref f) ∧ Fun K "form_led" "form_led" s_form_led f fd
  d_check_form : ∃ f fd, mg "check_form" = some (.ref f) ∧ Fun K "check_form" "check_form" s_check_form f fd
  d_form_of : ∃ f fd, mg "form_of" = some (.ref f) ∧ Fun K "form_of" "form_of" s_form_of f fd
  e_Form___init__ : ∃ (p f : Addr) (fd : FuncData), Mk K C_Form f ∧ Fun K "__init__" "Form.__init__" s_Form___init__ f fd
  e_Form_coefficients : ∃ (p f : Addr) (fd : FuncData), PropOf K C_Form "coefficients" p f ∧ Fun K "coefficients" "Form.coefficients" s_Form_coefficients f fd
  e_Form___call__ : ∃ (p f : Addr) (fd : FuncData), StX.CallO K C_Form f ∧ Fun K "__call__" "Form.__call__" s_Form___call__ f fd
  e_Form_led : ∃ (p f : Addr) (fd : FuncData), Meth K C_Form "led" f ∧ Fun K "led" "Form.led" s_Form_led f fd
  e_Form___eq__ : ∃ (p f : Addr) (fd : FuncData), EqC K C_Form f ∧ Fun K "__eq__" "Form.__eq__" s_Form___eq__ f fd
  d_with_opposites : ∃ f fd, mg "with_opposites" = some (.ref f) ∧ Fun K "with_opposites" "with_opposites" s_with_opposites f fd
  d_row_makers : ∃ f fd, mg "row_makers" = some (.ref f) ∧ Fun K "row_makers" "row_makers" s_row_makers f fd
  d_third_powers : ∃ f fd, mg "third_powers" = some (.ref f) ∧ Fun K "third_powers" "third_powers" s_third_powers f fd
  d_is_barred_by : ∃ f fd, mg "is_barred_by" = some (.ref f) ∧ Fun K "is_barred_by" "is_barred_by" s_is_barred_by f fd
  d_makers : ∃ f fd, mg "makers" = some (.ref f) ∧ Fun K "makers" "makers" s_makers f fd
  d_maker_bar : ∃ f fd, mg "maker_bar" = some (.ref f) ∧ Fun K "maker_bar" "maker_bar" s_maker_bar f fd
  d_common_index : ∃ f fd, mg "common_index" = some (.ref f) ∧ Fun K "common_index" "common_index" s_common_index f fd
  d_l_vat : ∃ f fd, mg "_law_vat" = some (.ref f) ∧ Fun K "_law_vat" "_law_vat" s_l_vat f fd
  d_l_scoop : ∃ f fd, mg "_law_scoop" = some (.ref f) ∧ Fun K "_law_scoop" "_law_scoop" s_l_scoop f fd
  d_l_from : ∃ f fd, mg "_law_from" = some (.ref f) ∧ Fun K "_law_from" "_law_from" s_l_from f fd
  d_l_size : ∃ f fd, mg "_law_size" = some (.ref f) ∧ Fun K "_law_size" "_law_size" s_l_size f fd
  d_l_share : ∃ f fd, mg "_law_share" = some (.ref f) ∧ Fun K "_law_share" "_law_share" s_l_share f fd
  d_l_change : ∃ f fd, mg "_law_change" = some (.ref f) ∧ Fun K "_law_change" "_law_change" s_l_change f fd
  d_l_joined : ∃ f fd, mg "_law_joined" = some (.ref f) ∧ Fun K "_law_joined" "_law_joined" s_l_joined f fd
  d_l_value : ∃ f fd, mg "_law_value" = some (.ref f) ∧ Fun K "_law_value" "_law_value" s_l_value f fd
  d_l_row : ∃ f fd, mg "_law_row" = some (.ref f) ∧ Fun K "_law_row" "_law_row" s_l_row f fd
  d_l_rests : ∃ f fd, mg "_law_rests" = some (.ref f) ∧ Fun K "_law_rests" "_law_rests" s_l_rests f fd
  d_l_due_bar : ∃ f fd, mg "_law_due_bar" = some (.ref f) ∧ Fun K "_law_due_bar" "_law_due_bar" s_l_due_bar f fd
  d_l_drawn_form : ∃ f fd, mg "_law_drawn_form" = some (.ref f) ∧ Fun K "_law_drawn_form" "_law_drawn_form" s_l_drawn_form f fd
  d_l_form_right : ∃ f fd, mg "_law_form_right" = some (.ref f) ∧ Fun K "_law_form_right" "_law_form_right" s_l_form_right f fd
  d_law : ∃ f fd, mg "law" = some (.ref f) ∧ Fun K "law" "law" s_law f fd
  b_abs : mg "abs" = none
  b_all : mg "all" = none
  b_bool : mg "bool" = none
  b_int : mg "int" = none
  b_isinstance : mg "isinstance" = none
  b_len : mg "len" = none
  b_max : mg "max" = none
  b_min : mg "min" = none
  b_range : mg "range" = none
  b_sorted : mg "sorted" = none
  b_sum : mg "sum" = none
  b_tuple : mg "tuple" = none
  b_zip : mg "zip" = none
  x_LIMIT : ∃ t, mg "LIMIT" = some (.int (1000000000000000000000000000000000000000000000000000000000000) t)
  x_MAX_MAKERS : ∃ t, mg "MAX_MAKERS" = some (.int (50) t)
  m_gcd : mg "gcd" = some (.builtin "math.gcd")
  k_MODULI : ∃ A, mg "MODULI" = some (.ref A) ∧ ∀ H, SqT K H A [.int 2, .int 3, .int 5, .int 7, .int 9, .int 11, .int 13, .int 17, .int 19, .int 23, .int 29, .int 31, .int 37, .int 41, .int 43, .int 47, .int 53, .int 59]
def Short (i : Int) : Prop := -1000000000000000000000000000000000000000000000000000000000000 < i ∧ i < 1000000000000000000000000000000000000000000000000000000000000
theorem Short.b {i : Int} (h : Short i) : B 200 i := ⟨by have := h.1; have := h.2; omega, by decide⟩
def Ti (H : Hp) (a : Addr) (ns : List Int) : Prop := H a = some (.tup (ns.map V.int))
def T4 (H : Hp) (a : Addr) (p q r s : Int) : Prop := ∃ t1 t2, H a = some (.tup [.ref t1, .ref t2]) ∧ H t1 = some (.tup [.int p, .int q]) ∧ H t2 = some (.tup [.int r, .int s])
def Tq (K : PySem.W.Frag) (H : Hp) (a : Addr) (ns : List Int) : Prop := SqT K H a (ns.map V.int)
theorem Ti.q {K : PySem.W.Frag} {H : Hp} {a : Addr} {ns : List Int} (h : Ti H a ns) : Tq K H a ns := SqT.of h
def T33 (H : Hp) (a : Addr) (r1 r2 r3 : List Int) : Prop := ∃ t1 t2 t3, H a = some (.tup [.ref t1, .ref t2, .ref t3]) ∧ Ti H t1 r1 ∧ Ti H t2 r2 ∧ Ti H t3 r3
def L33 (H : Hp) (a : Addr) (r1 r2 r3 : List Int) : Prop := ∃ t1 t2 t3, H a = some (.lst [.ref t1, .ref t2, .ref t3]) ∧ Ti H t1 r1 ∧ Ti H t2 r2 ∧ Ti H t3 r3
def M33 (K : PySem.W.Frag) (H : Hp) (a : Addr) (r1 r2 r3 : List Int) : Prop := ∃ t1 t2 t3, H a = some (.lst [.ref t1, .ref t2, .ref t3]) ∧ Tq K H t1 r1 ∧ Tq K H t2 r2 ∧ Tq K H t3 r3
def FormAt (C : Addr) (H : Hp) (x : Addr) (ns : List Int) : Prop := ∃ dx t, H x = some (.ins C dx [(("_coefficients" : Str), .ref t)]) ∧ Ti H t ns
def ChOk (p q r s : Int) : Prop := Short p ∧ Short q ∧ Short r ∧ Short s ∧ (p * s - q * r = 1 ∨ p * s - q * r = -1)
theorem Ti.ex {H H' : Hp} {a : Addr} {ns : List Int} (h : Ti H a ns) (e : ∀ b xs, H b = some (.tup xs) → H' b = some (.tup xs)) : Ti H' a ns := e _ _ h
theorem T4.ex {H H' : Hp} {a : Addr} {p q r s : Int} (h : T4 H a p q r s) (e : ∀ b xs, H b = some (.tup xs) → H' b = some (.tup xs)) : T4 H' a p q r s := by
  obtain ⟨t1, t2, h0, h1, h2⟩ := h
  exact ⟨t1, t2, e _ _ h0, e _ _ h1, e _ _ h2⟩
theorem get_int {ns : List Int} {i : Nat} {x : V} (hx : (ns.map V.int)[i]? = some x) : ∃ n, ns[i]? = some n ∧ x = V.int n := by
  rw [List.getElem?_map] at hx
  cases e : ns[i]? with
  | none => rw [e] at hx; cases hx
  | some z => rw [e] at hx; exact ⟨z, rfl, (Option.some.inj hx).symm⟩
def gcdL (ns : List Int) : Nat := ns.foldl (fun g n => Nat.gcd g n.natAbs) 0
theorem gcdL_take {ns : List Int} {i : Nat} {n : Int} (h : ns[i]? = some n) : gcdL (ns.take (i + 1)) = Nat.gcd (gcdL (ns.take i)) n.natAbs := by
  unfold gcdL
  rw [List.take_add_one, h, List.foldl_append]
  rfl
def fv (a b c d x y : Int) : Int := a * x * x * x + b * x * x * y + c * x * y * y + d * y * y * y
def fdisc (a b c d : Int) : Int := b * b * c * c - 4 * a * c * c * c - 4 * b * b * b * d - 27 * a * a * d * d + 18 * a * b * c * d
def fl2 (a b c d p q r s : Int) : Int := 3 * a * p * p * r + b * p * (p * s + 2 * q * r) + c * q * (2 * p * s + q * r) + 3 * d * q * q * s
def fl3 (a b c d p q r s : Int) : Int := 3 * a * p * r * r + b * r * (2 * p * s + q * r) + c * s * (p * s + 2 * q * r) + 3 * d * q * s * s
def fled (a b c d p q r s : Int) : List Int := [(p * s - q * r) * fv a b c d p q, (p * s - q * r) * fl2 a b c d p q r s, (p * s - q * r) * fl3 a b c d p q r s, (p * s - q * r) * fv a b c d r s]
theorem un4 {K : PySem.W.Frag} {i j k l : Nat} {σ : L2.St} {H : Hp} {a : Addr} {p q r s : Int} {Q : L2.St → Hp → Prop} (h : T4 H a p q r s)
    (z : Q ((((σ.set i (some (.int p))).set j (some (.int q))).set k (some (.int r))).set l (some (.int s))) H) :
    gTup K 2 (gCons (gTup K 2 (gCons (gName i) (gCons (gName j) gNil))) (gCons (gTup K 2 (gCons (gName k) (gCons (gName l) gNil))) gNil)) (.ref a) σ H Q := by
  obtain ⟨t1, t2, h0, h1, h2⟩ := h
  refine ⟨a, _, rfl, SqT.of h0, rfl, _, _, rfl, ?_⟩
  refine ⟨t1, _, rfl, SqT.of h1, rfl, _, _, rfl, ?_⟩
  refine ⟨_, _, rfl, ⟨rfl, ?_⟩⟩
  refine ⟨_, _, rfl, ?_⟩
  refine ⟨t2, _, rfl, SqT.of h2, rfl, _, _, rfl, ?_⟩
  exact ⟨_, _, rfl, ⟨rfl, ⟨rfl, z⟩⟩⟩
theorem unI4 {K : PySem.W.Frag} {i j k l : Nat} {σ : L2.St} {H : Hp} {t : Addr} {a b c d : Int} {Q : L2.St → Hp → Prop} (h : Ti H t [a, b, c, d])
    (z : Q ((((σ.set i (some (.int a))).set j (some (.int b))).set k (some (.int c))).set l (some (.int d))) H) :
    gTup K 4 (gCons (gName i) (gCons (gName j) (gCons (gName k) (gCons (gName l) gNil)))) (.ref t) σ H Q :=
  ⟨t, _, rfl, SqT.of h, rfl, _, _, rfl, _, _, rfl, _, _, rfl, _, _, rfl, rfl, z⟩
theorem t4_new {H : Hp} {t1 t2 x : Addr} {p q r s : Int} (n1 : H t1 = none) (n2 : upd H t1 (.tup [.int p, .int q]) t2 = none) (n3 : upd (upd H t1 (.tup [.int p, .int q])) t2 (.tup [.int r, .int s]) x = none) :
    Ex0 H (upd (upd (upd H t1 (.tup [.int p, .int q])) t2 (.tup [.int r, .int s])) x (.tup [.ref t1, .ref t2])) ∧ T4 (upd (upd (upd H t1 (.tup [.int p, .int q])) t2 (.tup [.int r, .int s])) x (.tup [.ref t1, .ref t2])) x p q r s :=
  ⟨((Ex0.new n1).trans (Ex0.new n2)).trans (Ex0.new n3), t1, t2, upd_same, Ex0.ap (Ex0.new n3) (Ex0.ap (Ex0.new n2) upd_same), Ex0.ap (Ex0.new n3) upd_same⟩
theorem Ex0.t4 {H H' : Hp} {a : Addr} {p q r s : Int} (e : Ex0 H H') (h : T4 H a p q r s) : T4 H' a p q r s := h.ex fun _ _ z => Ex0.ap e z
theorem Ex0.ti {H H' : Hp} {a : Addr} {ns : List Int} (e : Ex0 H H') (h : Ti H a ns) : Ti H' a ns := Ex0.ap e h
theorem Ex0.fo {C : Addr} {H H' : Hp} {x : Addr} {ns : List Int} (e : Ex0 H H') (h : FormAt C H x ns) : FormAt C H' x ns := by
  obtain ⟨dx, t, h1, h2⟩ := h
  exact ⟨dx, t, Ex0.ap e h1, Ex0.ap e h2⟩
def RingAt (C C_R : Addr) (H : Hp) (r : Addr) (ns : List Int) : Prop := ∃ dr x, H r = some (.ins C_R dr [(("_form" : Str), .ref x)]) ∧ FormAt C H x ns
def ElAt (C C_R C_E : Addr) (H : Hp) (e : Addr) (ns : List Int) (u y z b : Int) : Prop := ∃ de r t, H e = some (.ins C_E de [(("_ring" : Str), .ref r), (("_entries" : Str), .ref t), (("_bottom" : Str), .int b)]) ∧ RingAt C C_R H r ns ∧ Ti H t [u, y, z]
theorem Ex0.tq {K : PySem.W.Frag} {H H' : Hp} {a : Addr} {ns : List Int} (e : Ex0 H H') (h : Tq K H a ns) : Tq K H' a ns := e.sqT (fun z => z) h
theorem Ex0.t33 {H H' : Hp} {a : Addr} {r1 r2 r3 : List Int} (e : Ex0 H H') (h : T33 H a r1 r2 r3) : T33 H' a r1 r2 r3 := by
  obtain ⟨t1, t2, t3, h0, h1, h2, h3⟩ := h
  exact ⟨t1, t2, t3, Ex0.ap e h0, Ex0.ap e h1, Ex0.ap e h2, Ex0.ap e h3⟩
theorem Ex0.l33 {H H' : Hp} {a : Addr} {r1 r2 r3 : List Int} (e : Ex0 H H') (h : L33 H a r1 r2 r3) : L33 H' a r1 r2 r3 := by
  obtain ⟨t1, t2, t3, h0, h1, h2, h3⟩ := h
  exact ⟨t1, t2, t3, Ex0.ap e h0, Ex0.ap e h1, Ex0.ap e h2, Ex0.ap e h3⟩
theorem Ex0.ri {C C_R : Addr} {H H' : Hp} {r : Addr} {ns : List Int} (e : Ex0 H H') (h : RingAt C C_R H r ns) : RingAt C C_R H' r ns := by
  obtain ⟨dr, x, h1, h2⟩ := h
  exact ⟨dr, x, Ex0.ap e h1, Ex0.fo e h2⟩
theorem Ex0.el {C C_R C_E : Addr} {H H' : Hp} {x : Addr} {ns : List Int} {u y z b : Int} (e : Ex0 H H') (h : ElAt C C_R C_E H x ns u y z b) : ElAt C C_R C_E H' x ns u y z b := by
  obtain ⟨de, r, t, h1, h2, h3⟩ := h
  exact ⟨de, r, t, Ex0.ap e h1, Ex0.ri e h2, Ex0.ti e h3⟩
theorem unq3 {K : PySem.W.Frag} {i j k : Nat} {σ : L2.St} {H : Hp} {t : Addr} {a b c : Int} {Q : L2.St → Hp → Prop} (h : Tq K H t [a, b, c])
    (z : Q (((σ.set i (some (.int a))).set j (some (.int b))).set k (some (.int c))) H) :
    gTup K 3 (gCons (gName i) (gCons (gName j) (gCons (gName k) gNil))) (.ref t) σ H Q :=
  ⟨t, _, rfl, h, rfl, _, _, rfl, _, _, rfl, _, _, rfl, rfl, z⟩
def w1 (a b c d : Int) : List Int := [-a * c, b, -a]
def w2 (a b c d : Int) : List Int := [-a * d, 0, 0]
def w3 (a b c d : Int) : List Int := [-b * d, d, -c]
def m0 (a d g u y z v s r : Int) : Int := u * v + y * s * a + (y * r + z * s) * d + z * r * g
def m1 (b e h u y z v s r : Int) : Int := u * s + y * v + y * s * b + (y * r + z * s) * e + z * r * h
def m2 (c f i u y z v s r : Int) : Int := u * r + z * v + y * s * c + (y * r + z * s) * f + z * r * i
def pr (a b c d u y z v s r : Int) : List Int := [m0 (-a * c) (-a * d) (-b * d) u y z v s r, m1 b 0 d u y z v s r, m2 (-a) 0 (-c) u y z v s r]
def tr (a b c d u y z : Int) : Int := 3 * u + b * y - c * z
section
def sp_is_any_integer (_ : PySem.W.Frag) (C : Addr) : Sp := fun vs H Q _ => ∃ i : Int, vs = [.int i] ∧ Q (.bl true) H
def sp_is_short_integer (_ : PySem.W.Frag) (C : Addr) : Sp := fun vs H Q _ => ∃ i : Int, vs = [.int i] ∧ Short i ∧ Q (.bl true) H
def sp_are_short_integers (_ : PySem.W.Frag) (C : Addr) : Sp := fun vs H Q _ => ∃ (a : Addr) (ns : List Int), vs = [.ref a, .int (ns.length : Int)] ∧ Ti H a ns ∧ ns.length ≤ 1000 ∧ (∀ n ∈ ns, Short n) ∧ ∀ H', Ex0 H H' → Q (.bl true) H'
def sp_check_integer (_ : PySem.W.Frag) (C : Addr) : Sp := fun vs H Q _ => ∃ i : Int, vs = [.int i] ∧ Short i ∧ Q .non H
def sp_shared_divisor (K : PySem.W.Frag) (C : Addr) : Sp := fun vs H Q _ => ∃ (a : Addr) (ns : List Int), vs = [.ref a] ∧ Tq K H a ns ∧ Q (.int (gcdL ns : Nat)) H
def sp_Form___init__ (_ : PySem.W.Frag) (C : Addr) : Sp := fun vs H Q _ => ∃ (x dx t : Addr) (ns : List Int), vs = [.ref x, .ref t] ∧ H x = some (.ins C dx []) ∧ Ti H t ns ∧ ns.length = 4 ∧ (∀ n ∈ ns, Short n) ∧ ∀ H', (∀ b o, b ≠ x → H b = some o → H' b = some o) → H' x = some (.ins C dx [(("_coefficients" : Str), .ref t)]) → Q .non H'
def sp_Form_coefficients (_ : PySem.W.Frag) (C : Addr) : Sp := fun vs H Q _ => ∃ (x : Addr) (ns : List Int), vs = [.ref x] ∧ FormAt C H x ns ∧ ∀ t, Ti H t ns → Q (.ref t) H
def sp_Form___eq__ (_ : PySem.W.Frag) (C : Addr) : Sp := fun vs H Q _ => ∃ (x y : Addr) (ns ms : List Int), vs = [.ref x, .ref y] ∧ FormAt C H x ns ∧ FormAt C H y ms ∧ Q (.bl (decide (ns = ms))) H
end
section
variable {P : Program} {w : World} {K : PySem.W.Frag} {mg : Str → Option Value} {base : Heap} {C_Form : Addr}
theorem ok_is_any_integer (T : Txt K mg C_Form) : Def P w K mg base 1 "is_any_integer" ["value"] (sp_is_any_integer K C_Form) := by
  obtain ⟨f_, fd_, g_, F_⟩ := T.d_is_any_integer
  refine ⟨f_, fd_, g_, F_.kp, F_.binds (ps := ["value"]) (fun _ _ _ _ _ _ us hl => match us, hl with | [_], _ => rfl), ?_⟩
  refine F_.ok sc_is_any_integer (fun vs H Q E h => ?_) (fun cdv A outer s H vs Q E hr h => ?_)
  · first | (obtain ⟨rfl, _⟩ := h; rfl) | (obtain ⟨_, rfl, _⟩ := h; rfl) | (obtain ⟨_, _, rfl, _⟩ := h; rfl) | (obtain ⟨_, _, _, rfl, _⟩ := h; rfl) | (obtain ⟨_, _, _, _, rfl, _⟩ := h; rfl) | (obtain ⟨_, _, _, _, _, rfl, _⟩ := h; rfl) | (obtain ⟨_, _, _, _, _, _, rfl, _⟩ := h; rfl) | (obtain ⟨_, _, _, _, _, _, _, rfl, _⟩ := h; rfl) | (obtain ⟨_, _, _, _, _, _, _, _, rfl, _⟩ := h; rfl) | (obtain ⟨_, _, _, _, _, _, _, _, _, rfl, _⟩ := h; rfl) | (obtain ⟨_, _, _, _, _, _, _, _, _, _, rfl, _⟩ := h; rfl) | (obtain ⟨_, _, _, _, _, _, _, _, _, _, _, rfl, _⟩ := h; rfl) | (obtain ⟨_, _, _, _, _, _, _, _, _, _, _, _, rfl, _⟩ := h; rfl) | (obtain ⟨_, _, _, _, _, _, _, _, _, _, _, _, _, rfl, _⟩ := h; rfl) | (obtain ⟨_, _, _, _, _, _, _, _, _, _, _, _, _, _, rfl, _⟩ := h; rfl) | (obtain ⟨_, _, _, _, _, _, _, _, _, _, _, _, _, _, _, rfl, _⟩ := h; rfl) | (obtain ⟨_, _, _, _, _, _, _, _, _, _, _, _, _, _, _, _, rfl, _⟩ := h; rfl) | (obtain ⟨_, _, _, _, _, _, _, _, _, _, _, _, _, _, _, _, _, rfl, _⟩ := h; rfl) | (obtain ⟨_, _, _, _, _, _, _, _, _, _, _, _, _, _, _, _, _, _, rfl, _⟩ := h; rfl) | (obtain ⟨_, _, _, _, _, _, _, _, _, _, _, _, _, _, _, _, _, _, _, rfl, _⟩ := h; rfl) | (obtain ⟨_, _, _, _, _, _, _, _, _, _, _, _, _, _, _, _, _, _, _, _, rfl, _⟩ := h; rfl) | (obtain ⟨_, _, _, _, _, _, _, _, _, _, _, _, _, _, _, _, _, _, _, _, _, rfl, _⟩ := h; rfl) | (obtain ⟨_, _, _, _, _, _, _, _, _, _, _, _, _, _, _, _, _, _, _, _, _, _, rfl, _⟩ := h; rfl) | (obtain ⟨_, _, _, _, _, _, _, _, _, _, _, _, _, _, _, _, _, _, _, _, _, _, _, rfl, _⟩ := h; rfl)
  · obtain ⟨i, rfl, q⟩ := h
    refine ⟨_, (pss_one (ps_ret (pe_and (pe_callB call_isi (by rfl) T.b_isinstance (by decide +kernel) (pa_cons (pv 0) (pa_cons (pe_bltn (v := .ty "int") (by rfl) T.b_int (by decide +kernel) rfl) pa_nil))) (pe_one (pe_not (pe_callB call_isi (by rfl) T.b_isinstance (by decide +kernel) (pa_cons (pv 0) (pa_cons (pe_bltn (v := .ty "bool") (by rfl) T.b_bool (by decide +kernel) rfl) pa_nil)))))))), ?_⟩
    refine ⟨_, rfl, _, _, _, _, true, rfl, .ty _, .base (.int i), kit_ty (by decide +kernel), _, rfl, iteT ?_⟩
    exact ⟨_, rfl, _, _, _, _, false, rfl, .ty _, .base (.int i), kit_ty (by decide +kernel), _, rfl, q⟩
theorem ok_is_short_integer (T : Txt K mg C_Form) : Def P w K mg base 2 "is_short_integer" ["value"] (sp_is_short_integer K C_Form) := by
  obtain ⟨f_, fd_, g_, F_⟩ := T.d_is_short_integer
  obtain ⟨f_is_any_integer, fd_is_any_integer, g_is_any_integer, k_is_any_integer, b_is_any_integer, G_is_any_integer⟩ := (ok_is_any_integer (P := P) (w := w) (base := base) T)
  refine ⟨f_, fd_, g_, F_.kp, F_.binds (ps := ["value"]) (fun _ _ _ _ _ _ us hl => match us, hl with | [_], _ => rfl), ?_⟩
  refine F_.ok sc_is_short_integer (fun vs H Q E h => ?_) (fun cdv A outer s H vs Q E hr h => ?_)
  · first | (obtain ⟨rfl, _⟩ := h; rfl) | (obtain ⟨_, rfl, _⟩ := h; rfl) | (obtain ⟨_, _, rfl, _⟩ := h; rfl) | (obtain ⟨_, _, _, rfl, _⟩ := h; rfl) | (obtain ⟨_, _, _, _, rfl, _⟩ := h; rfl) | (obtain ⟨_, _, _, _, _, rfl, _⟩ := h; rfl) | (obtain ⟨_, _, _, _, _, _, rfl, _⟩ := h; rfl) | (obtain ⟨_, _, _, _, _, _, _, rfl, _⟩ := h; rfl) | (obtain ⟨_, _, _, _, _, _, _, _, rfl, _⟩ := h; rfl) | (obtain ⟨_, _, _, _, _, _, _, _, _, rfl, _⟩ := h; rfl) | (obtain ⟨_, _, _, _, _, _, _, _, _, _, rfl, _⟩ := h; rfl) | (obtain ⟨_, _, _, _, _, _, _, _, _, _, _, rfl, _⟩ := h; rfl) | (obtain ⟨_, _, _, _, _, _, _, _, _, _, _, _, rfl, _⟩ := h; rfl) | (obtain ⟨_, _, _, _, _, _, _, _, _, _, _, _, _, rfl, _⟩ := h; rfl) | (obtain ⟨_, _, _, _, _, _, _, _, _, _, _, _, _, _, rfl, _⟩ := h; rfl) | (obtain ⟨_, _, _, _, _, _, _, _, _, _, _, _, _, _, _, rfl, _⟩ := h; rfl) | (obtain ⟨_, _, _, _, _, _, _, _, _, _, _, _, _, _, _, _, rfl, _⟩ := h; rfl) | (obtain ⟨_, _, _, _, _, _, _, _, _, _, _, _, _, _, _, _, _, rfl, _⟩ := h; rfl) | (obtain ⟨_, _, _, _, _, _, _, _, _, _, _, _, _, _, _, _, _, _, rfl, _⟩ := h; rfl) | (obtain ⟨_, _, _, _, _, _, _, _, _, _, _, _, _, _, _, _, _, _, _, rfl, _⟩ := h; rfl) | (obtain ⟨_, _, _, _, _, _, _, _, _, _, _, _, _, _, _, _, _, _, _, _, rfl, _⟩ := h; rfl) | (obtain ⟨_, _, _, _, _, _, _, _, _, _, _, _, _, _, _, _, _, _, _, _, _, rfl, _⟩ := h; rfl) | (obtain ⟨_, _, _, _, _, _, _, _, _, _, _, _, _, _, _, _, _, _, _, _, _, _, rfl, _⟩ := h; rfl) | (obtain ⟨_, _, _, _, _, _, _, _, _, _, _, _, _, _, _, _, _, _, _, _, _, _, _, rfl, _⟩ := h; rfl)
  · obtain ⟨i, rfl, hs, q⟩ := h
    obtain ⟨t_LIMIT, h_LIMIT⟩ := T.x_LIMIT
    refine ⟨_, (pss_one (ps_ret (pe_and (pe_call G_is_any_integer (hr.mono (by decide)) (by rfl) g_is_any_integer k_is_any_integer b_is_any_integer .nil pass0 (pa_cons (pv 0) pa_nil)) (pe_one (pe_chain op_lt op_lt (pe_un un_neg (pe_glob (v := .int 1000000000000000000000000000000000000000000000000000000000000) (by rfl) h_LIMIT ⟨_, rfl⟩)) (pv 0) (pe_glob (v := .int 1000000000000000000000000000000000000000000000000000000000000) (by rfl) h_LIMIT ⟨_, rfl⟩)))))), ?_⟩
    refine ⟨_, rfl, i, rfl, _, rfl, iteT ?_⟩
    refine ⟨_, rfl, _, rfl, _, _, rfl, rfl, _, rfl, dT hs.1 ⟨_, _, rfl, rfl, ?_⟩⟩
    show Q (.bl (decide (i < 1000000000000000000000000000000000000000000000000000000000000))) H
    rw [decide_eq_true hs.2]
    exact q
theorem ok_check_integer (T : Txt K mg C_Form) : Def P w K mg base 3 "check_integer" ["value"] (sp_check_integer K C_Form) := by
  obtain ⟨f_, fd_, g_, F_⟩ := T.d_check_integer
  obtain ⟨f_is_short_integer, fd_is_short_integer, g_is_short_integer, k_is_short_integer, b_is_short_integer, G_is_short_integer⟩ := (ok_is_short_integer (P := P) (w := w) (base := base) T)
  refine ⟨f_, fd_, g_, F_.kp, F_.binds (ps := ["value"]) (fun _ _ _ _ _ _ us hl => match us, hl with | [_], _ => rfl), ?_⟩
  refine F_.ok sc_check_integer (fun vs H Q E h => ?_) (fun cdv A outer s H vs Q E hr h => ?_)
  · first | (obtain ⟨rfl, _⟩ := h; rfl) | (obtain ⟨_, rfl, _⟩ := h; rfl) | (obtain ⟨_, _, rfl, _⟩ := h; rfl) | (obtain ⟨_, _, _, rfl, _⟩ := h; rfl) | (obtain ⟨_, _, _, _, rfl, _⟩ := h; rfl) | (obtain ⟨_, _, _, _, _, rfl, _⟩ := h; rfl) | (obtain ⟨_, _, _, _, _, _, rfl, _⟩ := h; rfl) | (obtain ⟨_, _, _, _, _, _, _, rfl, _⟩ := h; rfl) | (obtain ⟨_, _, _, _, _, _, _, _, rfl, _⟩ := h; rfl) | (obtain ⟨_, _, _, _, _, _, _, _, _, rfl, _⟩ := h; rfl) | (obtain ⟨_, _, _, _, _, _, _, _, _, _, rfl, _⟩ := h; rfl) | (obtain ⟨_, _, _, _, _, _, _, _, _, _, _, rfl, _⟩ := h; rfl) | (obtain ⟨_, _, _, _, _, _, _, _, _, _, _, _, rfl, _⟩ := h; rfl) | (obtain ⟨_, _, _, _, _, _, _, _, _, _, _, _, _, rfl, _⟩ := h; rfl) | (obtain ⟨_, _, _, _, _, _, _, _, _, _, _, _, _, _, rfl, _⟩ := h; rfl) | (obtain ⟨_, _, _, _, _, _, _, _, _, _, _, _, _, _, _, rfl, _⟩ := h; rfl) | (obtain ⟨_, _, _, _, _, _, _, _, _, _, _, _, _, _, _, _, rfl, _⟩ := h; rfl) | (obtain ⟨_, _, _, _, _, _, _, _, _, _, _, _, _, _, _, _, _, rfl, _⟩ := h; rfl) | (obtain ⟨_, _, _, _, _, _, _, _, _, _, _, _, _, _, _, _, _, _, rfl, _⟩ := h; rfl) | (obtain ⟨_, _, _, _, _, _, _, _, _, _, _, _, _, _, _, _, _, _, _, rfl, _⟩ := h; rfl) | (obtain ⟨_, _, _, _, _, _, _, _, _, _, _, _, _, _, _, _, _, _, _, _, rfl, _⟩ := h; rfl) | (obtain ⟨_, _, _, _, _, _, _, _, _, _, _, _, _, _, _, _, _, _, _, _, _, rfl, _⟩ := h; rfl) | (obtain ⟨_, _, _, _, _, _, _, _, _, _, _, _, _, _, _, _, _, _, _, _, _, _, rfl, _⟩ := h; rfl) | (obtain ⟨_, _, _, _, _, _, _, _, _, _, _, _, _, _, _, _, _, _, _, _, _, _, _, rfl, _⟩ := h; rfl)
  · obtain ⟨i, rfl, hs, q⟩ := h
    refine ⟨_, (pss_one (ps_if (pt_not (pt_val (pe_call G_is_short_integer (hr.mono (by decide)) (by rfl) g_is_short_integer k_is_short_integer b_is_short_integer .nil pass0 (pa_cons (pv 0) pa_nil))))
      pss_never
      pss_nil)), ?_⟩
    refine ⟨_, rfl, i, rfl, hs, _, rfl, ?_⟩
    exact iteF q
theorem ok_are_short_integers (T : Txt K mg C_Form) : Def P w K mg base 3 "are_short_integers" ["value", "many"] (sp_are_short_integers K C_Form) := by
  obtain ⟨f_, fd_, g_, F_⟩ := T.d_are_short_integers
  refine ⟨f_, fd_, g_, F_.kp, F_.binds (ps := ["value", "many"]) (fun _ _ _ _ _ _ us hl => match us, hl with | [_, _], _ => rfl), ?_⟩
  refine F_.ok sc_are_short_integers (fun vs H Q E h => ?_) (fun cdv A outer s H vs Q E hr h => ?_)
  · first | (obtain ⟨rfl, _⟩ := h; rfl) | (obtain ⟨_, rfl, _⟩ := h; rfl) | (obtain ⟨_, _, rfl, _⟩ := h; rfl) | (obtain ⟨_, _, _, rfl, _⟩ := h; rfl) | (obtain ⟨_, _, _, _, rfl, _⟩ := h; rfl) | (obtain ⟨_, _, _, _, _, rfl, _⟩ := h; rfl) | (obtain ⟨_, _, _, _, _, _, rfl, _⟩ := h; rfl) | (obtain ⟨_, _, _, _, _, _, _, rfl, _⟩ := h; rfl) | (obtain ⟨_, _, _, _, _, _, _, _, rfl, _⟩ := h; rfl) | (obtain ⟨_, _, _, _, _, _, _, _, _, rfl, _⟩ := h; rfl) | (obtain ⟨_, _, _, _, _, _, _, _, _, _, rfl, _⟩ := h; rfl) | (obtain ⟨_, _, _, _, _, _, _, _, _, _, _, rfl, _⟩ := h; rfl) | (obtain ⟨_, _, _, _, _, _, _, _, _, _, _, _, rfl, _⟩ := h; rfl) | (obtain ⟨_, _, _, _, _, _, _, _, _, _, _, _, _, rfl, _⟩ := h; rfl) | (obtain ⟨_, _, _, _, _, _, _, _, _, _, _, _, _, _, rfl, _⟩ := h; rfl) | (obtain ⟨_, _, _, _, _, _, _, _, _, _, _, _, _, _, _, rfl, _⟩ := h; rfl) | (obtain ⟨_, _, _, _, _, _, _, _, _, _, _, _, _, _, _, _, rfl, _⟩ := h; rfl) | (obtain ⟨_, _, _, _, _, _, _, _, _, _, _, _, _, _, _, _, _, rfl, _⟩ := h; rfl) | (obtain ⟨_, _, _, _, _, _, _, _, _, _, _, _, _, _, _, _, _, _, rfl, _⟩ := h; rfl) | (obtain ⟨_, _, _, _, _, _, _, _, _, _, _, _, _, _, _, _, _, _, _, rfl, _⟩ := h; rfl) | (obtain ⟨_, _, _, _, _, _, _, _, _, _, _, _, _, _, _, _, _, _, _, _, rfl, _⟩ := h; rfl) | (obtain ⟨_, _, _, _, _, _, _, _, _, _, _, _, _, _, _, _, _, _, _, _, _, rfl, _⟩ := h; rfl) | (obtain ⟨_, _, _, _, _, _, _, _, _, _, _, _, _, _, _, _, _, _, _, _, _, _, rfl, _⟩ := h; rfl) | (obtain ⟨_, _, _, _, _, _, _, _, _, _, _, _, _, _, _, _, _, _, _, _, _, _, _, rfl, _⟩ := h; rfl)
  · obtain ⟨a, ns, rfl, ha, hl, hs, q⟩ := h
    obtain ⟨t_LIMIT, h_LIMIT⟩ := T.x_LIMIT
    refine ⟨_, (pss_cons (ps_if (PW.pt (pw_or (pt_not (pt_val (pe_callB call_isi (by rfl) T.b_isinstance (by decide +kernel) (pa_cons (pv 0) (pa_cons (pe_bltn (v := .ty "tuple") (by rfl) T.b_tuple (by decide +kernel) rfl) pa_nil))))) (pw_or1 (pt_cmpR op_ne (pe_callB call_len_seq (by rfl) T.b_len PySem.boot_len (pa_cons (pv 0) pa_nil)) (pv 1) (nomark _)))))
      (pss_one (ps_ret pe_bl))
      pss_nil)
    (pss_one (ps_ret (pe_callB (cr_all rfl) (by rfl) T.b_all (by decide +kernel) (pa_cons (pe_lc (own := [("n", 2)]) (g := (gName 2)) rfl sc_are_short_integers.nd (pi_tup (pv 0)) (blkOk_by (N := N_are_short_integers) (sc := defScope s_are_short_integers) (by decide +kernel)) (fun _ _ _ _ _ => (pg_name (i := 2) sc_are_short_integers.nd rfl (.inl rfl))) (fun _ _ _ _ _ => pts_nil) (fun _ _ _ _ _ => (pe_and (pe_callB (call_isiKK (K := K) rfl) (by rfl) T.b_isinstance (by decide +kernel) (pa_cons (pv 2) (pa_cons (pe_bltn (v := .ty "int") (by rfl) T.b_int (by decide +kernel) rfl) pa_nil))) (pe_and (pe_not (pe_callB (call_isiKK (K := K) rfl) (by rfl) T.b_isinstance (by decide +kernel) (pa_cons (pv 2) (pa_cons (pe_bltn (v := .ty "bool") (by rfl) T.b_bool (by decide +kernel) rfl) pa_nil)))) (pe_one (pe_chain op_lt op_lt (pe_un un_neg (pe_glob (v := .int 1000000000000000000000000000000000000000000000000000000000000) (by rfl) h_LIMIT ⟨_, rfl⟩)) (pv 2) (pe_glob (v := .int 1000000000000000000000000000000000000000000000000000000000000) (by rfl) h_LIMIT ⟨_, rfl⟩))))))) pa_nil))))), ?_⟩
    refine ⟨_, rfl, _, _, _, _, true, rfl, .ty _, .base (.tup ha), kit_ty (by decide +kernel), _, rfl, ?_⟩
    refine iteF ⟨_, rfl, a, _, rfl, .inr (SqT.of ha), _, rfl, rfl, _, rfl, ?_⟩
    refine ndF (by rw [List.length_map]) ?_
    refine ⟨_, rfl, a, rfl, ⟨_, SqT.of ha⟩, ?_⟩
    refine lcT fm0 trivial (SqT.of ha) (fun z => z) (fun i acc _ => acc = (List.replicate i true).map V.bl) (fun _ _ => rfl) (fun D i x acc H' hD hx e hA hlen hp => ?_) (fun D H' acc hD e hA hp => ?_)
    · obtain ⟨n, hn, rfl⟩ := get_int hx
      have hi := (List.getElem?_eq_some_iff.mp hn).1
      refine ⟨rfl, ?_⟩
      have hn2 := hs n (List.mem_of_getElem? hn)
      refine ⟨_, rfl, _, _, _, _, true, rfl, .ty _, .base (.int n), kit_ty (by decide +kernel), _, rfl, iteT ?_⟩
      refine ⟨_, rfl, _, _, _, _, false, rfl, .ty _, .base (.int n), kit_ty (by decide +kernel), _, rfl, _, rfl, iteT ?_⟩
      refine ⟨_, rfl, _, rfl, _, _, rfl, rfl, _, rfl, dT hn2.1 ⟨_, _, rfl, rfl, ?_⟩⟩
      simp only [decide_eq_true hn2.2]
      refine cs_yes fm0 trivial hD e hA hlen (by omega) (Fx.refl trivial) ?_
      show acc ++ [V.bl true] = _
      rw [hp, List.replicate_succ', List.map_append]
      rfl
    · rw [List.length_map] at hp
      subst hp
      refine ⟨D, _, rfl, SqL.of hA, ?_⟩
      rw [show ((List.replicate ns.length true).all id) = true by simp]
      exact q H' e
theorem ok_shared_divisor (T : Txt K mg C_Form) : Def P w K mg base 1 "shared_divisor" ["numbers"] (sp_shared_divisor K C_Form) := by
  obtain ⟨f_, fd_, g_, F_⟩ := T.d_shared_divisor
  refine ⟨f_, fd_, g_, F_.kp, F_.binds (ps := ["numbers"]) (fun _ _ _ _ _ _ us hl => match us, hl with | [_], _ => rfl), ?_⟩
  refine F_.ok sc_shared_divisor (fun vs H Q E h => ?_) (fun cdv A outer s H vs Q E hr h => ?_)
  · first | (obtain ⟨rfl, _⟩ := h; rfl) | (obtain ⟨_, rfl, _⟩ := h; rfl) | (obtain ⟨_, _, rfl, _⟩ := h; rfl) | (obtain ⟨_, _, _, rfl, _⟩ := h; rfl) | (obtain ⟨_, _, _, _, rfl, _⟩ := h; rfl) | (obtain ⟨_, _, _, _, _, rfl, _⟩ := h; rfl) | (obtain ⟨_, _, _, _, _, _, rfl, _⟩ := h; rfl) | (obtain ⟨_, _, _, _, _, _, _, rfl, _⟩ := h; rfl) | (obtain ⟨_, _, _, _, _, _, _, _, rfl, _⟩ := h; rfl) | (obtain ⟨_, _, _, _, _, _, _, _, _, rfl, _⟩ := h; rfl) | (obtain ⟨_, _, _, _, _, _, _, _, _, _, rfl, _⟩ := h; rfl) | (obtain ⟨_, _, _, _, _, _, _, _, _, _, _, rfl, _⟩ := h; rfl) | (obtain ⟨_, _, _, _, _, _, _, _, _, _, _, _, rfl, _⟩ := h; rfl) | (obtain ⟨_, _, _, _, _, _, _, _, _, _, _, _, _, rfl, _⟩ := h; rfl) | (obtain ⟨_, _, _, _, _, _, _, _, _, _, _, _, _, _, rfl, _⟩ := h; rfl) | (obtain ⟨_, _, _, _, _, _, _, _, _, _, _, _, _, _, _, rfl, _⟩ := h; rfl) | (obtain ⟨_, _, _, _, _, _, _, _, _, _, _, _, _, _, _, _, rfl, _⟩ := h; rfl) | (obtain ⟨_, _, _, _, _, _, _, _, _, _, _, _, _, _, _, _, _, rfl, _⟩ := h; rfl) | (obtain ⟨_, _, _, _, _, _, _, _, _, _, _, _, _, _, _, _, _, _, rfl, _⟩ := h; rfl) | (obtain ⟨_, _, _, _, _, _, _, _, _, _, _, _, _, _, _, _, _, _, _, rfl, _⟩ := h; rfl) | (obtain ⟨_, _, _, _, _, _, _, _, _, _, _, _, _, _, _, _, _, _, _, _, rfl, _⟩ := h; rfl) | (obtain ⟨_, _, _, _, _, _, _, _, _, _, _, _, _, _, _, _, _, _, _, _, _, rfl, _⟩ := h; rfl) | (obtain ⟨_, _, _, _, _, _, _, _, _, _, _, _, _, _, _, _, _, _, _, _, _, _, rfl, _⟩ := h; rfl) | (obtain ⟨_, _, _, _, _, _, _, _, _, _, _, _, _, _, _, _, _, _, _, _, _, _, _, rfl, _⟩ := h; rfl)
  · obtain ⟨a, ns, rfl, ha, q⟩ := h
    refine ⟨_, (pss_cons (ps_set (i := 1) sc_shared_divisor.nd rfl (.inl rfl) pe_int)
    (pss_cons (ps_for PassesOwn.never rfl (pi_tup (pv 0)) (pg_name (i := 2) sc_shared_divisor.nd rfl (.inl rfl))
      (pss_one (ps_set (i := 1) sc_shared_divisor.nd rfl (.inl rfl) (pe_callBfun cr_gcd (by rfl) T.m_gcd (pa_cons (pv 1) (pa_cons (pv 2) pa_nil))))))
    (pss_one (ps_ret (pv 1))))), ?_⟩
    refine ⟨_, rfl, a, rfl, ⟨_, ha⟩, for_tup (xs := ns.map V.int) (fun i σ H' => ∃ y2, σ = [some (.ref a), some (.int (gcdL (ns.take i) : Nat)), y2] ∧ H = H') ⟨none, rfl, rfl⟩ (fun i σ H' _ ⟨_, _, e⟩ => e ▸ ha) ?_ ?_⟩
    · rintro i x σ H' hx ⟨y2, rfl, rfl⟩
      obtain ⟨n, hn, rfl⟩ := get_int hx
      refine ⟨_, rfl, _, rfl, _, _, rfl, ?_⟩
      refine ⟨some (.int n), ?_, rfl⟩
      rw [gcdL_take hn]
      rfl
    · rintro σ H' ⟨y2, rfl, rfl⟩
      refine ⟨_, rfl, ?_⟩
      rw [List.length_map, List.take_length]
      exact q
end
end K72
namespace K72
open PySem PySem.Spec PyProof.Rows L2 Fr
theorem putF_same {u v : V} : putF ("_coefficients" : Str) v [(("_coefficients" : Str), u)] = [(("_coefficients" : Str), v)] := by simp [putF]
theorem lk_same {x : Str} {u : V} : List.lookup x [(x, u)] = some u := by simp [List.lookup]
section
variable {P : Program} {w : World} {K : PySem.W.Frag} {mg : Str → Option Value} {base : Heap} {C_Form : Addr}
theorem ok_Form___init__ (T : Txt K mg C_Form) : MDef (fun p f => Mk K C_Form f) P w K mg base 4 ["self", "coefficients"] (sp_Form___init__ K C_Form) := by
  obtain ⟨p_, f_, fd_, R_, F_⟩ := T.e_Form___init__
  obtain ⟨f_are_short_integers, fd_are_short_integers, g_are_short_integers, k_are_short_integers, b_are_short_integers, G_are_short_integers⟩ := (ok_are_short_integers (P := P) (w := w) (base := base) T)
  refine ⟨p_, f_, fd_, R_, F_.binds (ps := ["self", "coefficients"]) (fun _ _ _ _ _ _ us hl => match us, hl with | [_, _], _ => rfl), ?_⟩
  refine F_.ok sc_Form___init__ (fun vs H Q E h => ?_) (fun cdv A outer s H vs Q E hr h => ?_)
  · first | (obtain ⟨rfl, _⟩ := h; rfl) | (obtain ⟨_, rfl, _⟩ := h; rfl) | (obtain ⟨_, _, rfl, _⟩ := h; rfl) | (obtain ⟨_, _, _, rfl, _⟩ := h; rfl) | (obtain ⟨_, _, _, _, rfl, _⟩ := h; rfl) | (obtain ⟨_, _, _, _, _, rfl, _⟩ := h; rfl) | (obtain ⟨_, _, _, _, _, _, rfl, _⟩ := h; rfl) | (obtain ⟨_, _, _, _, _, _, _, rfl, _⟩ := h; rfl) | (obtain ⟨_, _, _, _, _, _, _, _, rfl, _⟩ := h; rfl) | (obtain ⟨_, _, _, _, _, _, _, _, _, rfl, _⟩ := h; rfl) | (obtain ⟨_, _, _, _, _, _, _, _, _, _, rfl, _⟩ := h; rfl) | (obtain ⟨_, _, _, _, _, _, _, _, _, _, _, rfl, _⟩ := h; rfl) | (obtain ⟨_, _, _, _, _, _, _, _, _, _, _, _, rfl, _⟩ := h; rfl) | (obtain ⟨_, _, _, _, _, _, _, _, _, _, _, _, _, rfl, _⟩ := h; rfl) | (obtain ⟨_, _, _, _, _, _, _, _, _, _, _, _, _, _, rfl, _⟩ := h; rfl) | (obtain ⟨_, _, _, _, _, _, _, _, _, _, _, _, _, _, _, rfl, _⟩ := h; rfl) | (obtain ⟨_, _, _, _, _, _, _, _, _, _, _, _, _, _, _, _, rfl, _⟩ := h; rfl) | (obtain ⟨_, _, _, _, _, _, _, _, _, _, _, _, _, _, _, _, _, rfl, _⟩ := h; rfl) | (obtain ⟨_, _, _, _, _, _, _, _, _, _, _, _, _, _, _, _, _, _, rfl, _⟩ := h; rfl) | (obtain ⟨_, _, _, _, _, _, _, _, _, _, _, _, _, _, _, _, _, _, _, rfl, _⟩ := h; rfl) | (obtain ⟨_, _, _, _, _, _, _, _, _, _, _, _, _, _, _, _, _, _, _, _, rfl, _⟩ := h; rfl) | (obtain ⟨_, _, _, _, _, _, _, _, _, _, _, _, _, _, _, _, _, _, _, _, _, rfl, _⟩ := h; rfl) | (obtain ⟨_, _, _, _, _, _, _, _, _, _, _, _, _, _, _, _, _, _, _, _, _, _, rfl, _⟩ := h; rfl) | (obtain ⟨_, _, _, _, _, _, _, _, _, _, _, _, _, _, _, _, _, _, _, _, _, _, _, rfl, _⟩ := h; rfl)
  · obtain ⟨x, dx, t, ns, rfl, hx, ht, hl, hs, q⟩ := h
    refine ⟨_, (pss_cons (ps_if (pt_not (pt_val (pe_call G_are_short_integers (hr.mono (by decide)) (by rfl) g_are_short_integers k_are_short_integers b_are_short_integers .nil pass0 (pa_cons (pv 1) (pa_cons pe_int pa_nil)))))
      pss_never
      pss_nil)
    (pss_one (ps_fld (pv 0) (pe_callTy call_tuple_of (by rfl) T.b_tuple (by decide +kernel) (pa_cons (pv 1) pa_nil)) (by rfl)))), ?_⟩
    refine ⟨_, rfl, t, ns, by rw [hl]; rfl, ht, by omega, hs, fun H1 e1 => ⟨_, rfl, ?_⟩⟩
    refine iteF ⟨_, rfl, t, _, rfl, .inr ⟨SqT.of (Ex0.ti e1 ht), ?_⟩⟩
    refine ⟨_, rfl, x, C_Form, dx, _, rfl, e1.ap hx, T.cl_Form, T.na_Form_coefficients, (by decide : (0:Nat) < 1000), ?_⟩
    exact q _ (fun b o n e => by rw [upd_ne n]; exact e1.ap e) upd_same
theorem ok_Form_coefficients (T : Txt K mg C_Form) : MDef (fun p f => PropOf K C_Form "coefficients" p f) P w K mg base 1 ["self"] (sp_Form_coefficients K C_Form) := by
  obtain ⟨p_, f_, fd_, R_, F_⟩ := T.e_Form_coefficients
  refine ⟨p_, f_, fd_, R_, F_.binds (ps := ["self"]) (fun _ _ _ _ _ _ us hl => match us, hl with | [_], _ => rfl), ?_⟩
  refine F_.ok sc_Form_coefficients (fun vs H Q E h => ?_) (fun cdv A outer s H vs Q E hr h => ?_)
  · first | (obtain ⟨rfl, _⟩ := h; rfl) | (obtain ⟨_, rfl, _⟩ := h; rfl) | (obtain ⟨_, _, rfl, _⟩ := h; rfl) | (obtain ⟨_, _, _, rfl, _⟩ := h; rfl) | (obtain ⟨_, _, _, _, rfl, _⟩ := h; rfl) | (obtain ⟨_, _, _, _, _, rfl, _⟩ := h; rfl) | (obtain ⟨_, _, _, _, _, _, rfl, _⟩ := h; rfl) | (obtain ⟨_, _, _, _, _, _, _, rfl, _⟩ := h; rfl) | (obtain ⟨_, _, _, _, _, _, _, _, rfl, _⟩ := h; rfl) | (obtain ⟨_, _, _, _, _, _, _, _, _, rfl, _⟩ := h; rfl) | (obtain ⟨_, _, _, _, _, _, _, _, _, _, rfl, _⟩ := h; rfl) | (obtain ⟨_, _, _, _, _, _, _, _, _, _, _, rfl, _⟩ := h; rfl) | (obtain ⟨_, _, _, _, _, _, _, _, _, _, _, _, rfl, _⟩ := h; rfl) | (obtain ⟨_, _, _, _, _, _, _, _, _, _, _, _, _, rfl, _⟩ := h; rfl) | (obtain ⟨_, _, _, _, _, _, _, _, _, _, _, _, _, _, rfl, _⟩ := h; rfl) | (obtain ⟨_, _, _, _, _, _, _, _, _, _, _, _, _, _, _, rfl, _⟩ := h; rfl) | (obtain ⟨_, _, _, _, _, _, _, _, _, _, _, _, _, _, _, _, rfl, _⟩ := h; rfl) | (obtain ⟨_, _, _, _, _, _, _, _, _, _, _, _, _, _, _, _, _, rfl, _⟩ := h; rfl) | (obtain ⟨_, _, _, _, _, _, _, _, _, _, _, _, _, _, _, _, _, _, rfl, _⟩ := h; rfl) | (obtain ⟨_, _, _, _, _, _, _, _, _, _, _, _, _, _, _, _, _, _, _, rfl, _⟩ := h; rfl) | (obtain ⟨_, _, _, _, _, _, _, _, _, _, _, _, _, _, _, _, _, _, _, _, rfl, _⟩ := h; rfl) | (obtain ⟨_, _, _, _, _, _, _, _, _, _, _, _, _, _, _, _, _, _, _, _, _, rfl, _⟩ := h; rfl) | (obtain ⟨_, _, _, _, _, _, _, _, _, _, _, _, _, _, _, _, _, _, _, _, _, _, rfl, _⟩ := h; rfl) | (obtain ⟨_, _, _, _, _, _, _, _, _, _, _, _, _, _, _, _, _, _, _, _, _, _, _, rfl, _⟩ := h; rfl)
  · obtain ⟨x, ns, rfl, ⟨dx, t, hx, ht⟩, q⟩ := h
    refine ⟨_, (pss_one (ps_ret (pe_fld (pv 0) (by rfl)))), ?_⟩
    exact ⟨_, rfl, x, C_Form, dx, _, .ref t, rfl, hx, T.cl_Form, T.na_Form_coefficients, lk_same, q t ht⟩
theorem ok_Form___eq__ (T : Txt K mg C_Form) : MDef (fun p f => EqC K C_Form f) P w K mg base 1 ["self", "other"] (sp_Form___eq__ K C_Form) := by
  obtain ⟨p_, f_, fd_, R_, F_⟩ := T.e_Form___eq__
  refine ⟨p_, f_, fd_, R_, F_.binds (ps := ["self", "other"]) (fun _ _ _ _ _ _ us hl => match us, hl with | [_, _], _ => rfl), ?_⟩
  refine F_.ok sc_Form___eq__ (fun vs H Q E h => ?_) (fun cdv A outer s H vs Q E hr h => ?_)
  · first | (obtain ⟨rfl, _⟩ := h; rfl) | (obtain ⟨_, rfl, _⟩ := h; rfl) | (obtain ⟨_, _, rfl, _⟩ := h; rfl) | (obtain ⟨_, _, _, rfl, _⟩ := h; rfl) | (obtain ⟨_, _, _, _, rfl, _⟩ := h; rfl) | (obtain ⟨_, _, _, _, _, rfl, _⟩ := h; rfl) | (obtain ⟨_, _, _, _, _, _, rfl, _⟩ := h; rfl) | (obtain ⟨_, _, _, _, _, _, _, rfl, _⟩ := h; rfl) | (obtain ⟨_, _, _, _, _, _, _, _, rfl, _⟩ := h; rfl) | (obtain ⟨_, _, _, _, _, _, _, _, _, rfl, _⟩ := h; rfl) | (obtain ⟨_, _, _, _, _, _, _, _, _, _, rfl, _⟩ := h; rfl) | (obtain ⟨_, _, _, _, _, _, _, _, _, _, _, rfl, _⟩ := h; rfl) | (obtain ⟨_, _, _, _, _, _, _, _, _, _, _, _, rfl, _⟩ := h; rfl) | (obtain ⟨_, _, _, _, _, _, _, _, _, _, _, _, _, rfl, _⟩ := h; rfl) | (obtain ⟨_, _, _, _, _, _, _, _, _, _, _, _, _, _, rfl, _⟩ := h; rfl) | (obtain ⟨_, _, _, _, _, _, _, _, _, _, _, _, _, _, _, rfl, _⟩ := h; rfl) | (obtain ⟨_, _, _, _, _, _, _, _, _, _, _, _, _, _, _, _, rfl, _⟩ := h; rfl) | (obtain ⟨_, _, _, _, _, _, _, _, _, _, _, _, _, _, _, _, _, rfl, _⟩ := h; rfl) | (obtain ⟨_, _, _, _, _, _, _, _, _, _, _, _, _, _, _, _, _, _, rfl, _⟩ := h; rfl) | (obtain ⟨_, _, _, _, _, _, _, _, _, _, _, _, _, _, _, _, _, _, _, rfl, _⟩ := h; rfl) | (obtain ⟨_, _, _, _, _, _, _, _, _, _, _, _, _, _, _, _, _, _, _, _, rfl, _⟩ := h; rfl) | (obtain ⟨_, _, _, _, _, _, _, _, _, _, _, _, _, _, _, _, _, _, _, _, _, rfl, _⟩ := h; rfl) | (obtain ⟨_, _, _, _, _, _, _, _, _, _, _, _, _, _, _, _, _, _, _, _, _, _, rfl, _⟩ := h; rfl) | (obtain ⟨_, _, _, _, _, _, _, _, _, _, _, _, _, _, _, _, _, _, _, _, _, _, _, rfl, _⟩ := h; rfl)
  · obtain ⟨x, y, ns, ms, rfl, ⟨dx, t, hx, ht⟩, ⟨dy, u, hy, hu⟩, q⟩ := h
    refine ⟨_, (pss_one (ps_ret (pe_and (pe_callB call_isi (by rfl) T.b_isinstance (by decide +kernel) (pa_cons (pv 1) (pa_cons (pe_glob (v := .ref C_Form) (by rfl) T.g_Form rfl) pa_nil))) (pe_one (pe_cmpR (op_eqD hr.units) (pe_fld (pv 0) (by rfl)) (pe_fld (pv 1) (by rfl)) (nomark _)))))), ?_⟩
    refine ⟨_, rfl, _, _, _, _, true, rfl, .own _, ty_ins T.ty_Form T.cl_Form hy, kit_self, _, rfl, ?_⟩
    refine ⟨_, rfl, x, C_Form, dx, _, .ref t, rfl, hx, T.cl_Form, T.na_Form_coefficients, lk_same, _, rfl, y, C_Form, dy, _, .ref u, rfl, hy, T.cl_Form, T.na_Form_coefficients, lk_same, ?_⟩
    refine ⟨.tuple (ns.map .int), .tuple (ms.map .int), .tup (SqT.of ht) (dp_ints _), .tup (SqT.of hu) (dp_ints _), shaped_tints _, shaped_tints _, ?_⟩
    rw [PyData.eqv, eqv_ints]
    exact q
end
end K72
namespace K72
open PySem PySem.Spec PyProof.Rows L2 Fr
def Low (u y z b u' y' z' b' : Int) : Prop := ∃ g : Int, u = g * u' ∧ y = g * y' ∧ z = g * z' ∧ b = g * b' ∧ 0 < b' ∧ Nat.gcd (gcdL [u', y', z']) b'.natAbs = 1
def B4 (n : Nat) (a b c d : Int) : Prop := B n a ∧ B n b ∧ B n c ∧ B n d
def B3 (n : Nat) (a b c : Int) : Prop := B n a ∧ B n b ∧ B n c
section
def sp_fraction (_ : PySem.W.Frag) (C : Addr) : Sp := fun vs H Q _ => ∃ a b : Int, vs = [.int a, .int b] ∧ 0 < b ∧ b < 2 ^ 3000 ∧ ∀ x H' p q g, 0 < g → a = g * p → b = g * q → Nat.gcd p.natAbs q.natAbs = 1 → Ex0 H H' → Ti H' x [p, q] → Q (.ref x) H'
def sp_check_form (_ : PySem.W.Frag) (C : Addr) : Sp := fun vs H Q _ => ∃ (x : Addr) (ns : List Int), vs = [.ref x] ∧ FormAt C H x ns ∧ Q .non H
def sp_check_bottom (_ : PySem.W.Frag) (C : Addr) : Sp := fun vs H Q _ => ∃ i : Int, vs = [.int i] ∧ Short i ∧ i ≠ 0 ∧ Q .non H
def sp_table_of (_ : PySem.W.Frag) (C : Addr) : Sp := fun vs H Q _ => ∃ (t : Addr) (a b c d : Int), vs = [.ref t] ∧ Ti H t [a, b, c, d] ∧ B4 1000 a b c d ∧ ∀ x H', Ex0 H H' → T33 H' x (w1 a b c d) (w2 a b c d) (w3 a b c d) → Q (.ref x) H'
def sp_product_by (K : PySem.W.Frag) (C : Addr) : Sp := fun vs H Q _ => ∃ (t l r : Addr) (a b c d e f g h i u x y v z s : Int), vs = [.ref t, .ref l, .ref r] ∧ T33 H t [a, b, c] [d, e, f] [g, h, i] ∧ Tq K H l [u, x, y] ∧ Tq K H r [v, z, s] ∧ B3 2100 a b c ∧ B3 2100 d e f ∧ B3 2100 g h i ∧ B3 9000 u x y ∧ B3 1000 v z s ∧ ∀ o H', Ex0 H H' → Ti H' o [m0 a d g u x y v z s, m1 b e h u x y v z s, m2 c f i u x y v z s] → Q (.ref o) H'
def sp_map_by (K : PySem.W.Frag) (C : Addr) : Sp := fun vs H Q _ => ∃ (t l : Addr) (a b c d e f g h i u x y : Int), vs = [.ref t, .ref l] ∧ T33 H t [a, b, c] [d, e, f] [g, h, i] ∧ Tq K H l [u, x, y] ∧ B3 2100 a b c ∧ B3 2100 d e f ∧ B3 2100 g h i ∧ B3 9000 u x y ∧ ∀ o H', Ex0 H H' → M33 K H' o [m0 a d g u x y 1 0 0, m1 b e h u x y 1 0 0, m2 c f i u x y 1 0 0] [m0 a d g u x y 0 1 0, m1 b e h u x y 0 1 0, m2 c f i u x y 0 1 0] [m0 a d g u x y 0 0 1, m1 b e h u x y 0 0 1, m2 c f i u x y 0 0 1] → Q (.ref o) H'
def sp_trace_by (K : PySem.W.Frag) (C : Addr) : Sp := fun vs H Q _ => ∃ (t l : Addr) (a b c d e f g h i u x y : Int), vs = [.ref t, .ref l] ∧ T33 H t [a, b, c] [d, e, f] [g, h, i] ∧ Tq K H l [u, x, y] ∧ B3 2100 a b c ∧ B3 2100 d e f ∧ B3 2100 g h i ∧ B3 9000 u x y ∧ ∀ H', Ex0 H H' → Q (.int (m0 a d g u x y 1 0 0 + m1 b e h u x y 0 1 0 + m2 c f i u x y 0 0 1)) H'
end
theorem un33 {K : PySem.W.Frag} {i1 i2 i3 i4 i5 i6 i7 i8 i9 : Nat} {σ : L2.St} {H : Hp} {t : Addr} {a b c d e f g h i : Int} {Q : L2.St → Hp → Prop} (q : T33 H t [a, b, c] [d, e, f] [g, h, i])
    (z : Q (((((((((σ.set i1 (some (.int a))).set i2 (some (.int b))).set i3 (some (.int c))).set i4 (some (.int d))).set i5 (some (.int e))).set i6 (some (.int f))).set i7 (some (.int g))).set i8 (some (.int h))).set i9 (some (.int i))) H) :
    gTup K 3 (gCons (gTup K 3 (gCons (gName i1) (gCons (gName i2) (gCons (gName i3) gNil)))) (gCons (gTup K 3 (gCons (gName i4) (gCons (gName i5) (gCons (gName i6) gNil)))) (gCons (gTup K 3 (gCons (gName i7) (gCons (gName i8) (gCons (gName i9) gNil)))) gNil))) (.ref t) σ H Q := by
  obtain ⟨t1, t2, t3, h0, h1, h2, h3⟩ := q
  refine ⟨t, _, rfl, SqT.of h0, rfl, _, _, rfl, ?_⟩
  refine ⟨t1, _, rfl, SqT.of h1, rfl, _, _, rfl, _, _, rfl, _, _, rfl, ⟨rfl, ?_⟩⟩
  refine ⟨_, _, rfl, ?_⟩
  refine ⟨t2, _, rfl, SqT.of h2, rfl, _, _, rfl, _, _, rfl, _, _, rfl, ⟨rfl, ?_⟩⟩
  refine ⟨_, _, rfl, ?_⟩
  exact ⟨t3, _, rfl, SqT.of h3, rfl, _, _, rfl, _, _, rfl, _, _, rfl, ⟨rfl, ⟨rfl, z⟩⟩⟩
theorem t33_new {H : Hp} {t1 t2 t3 x : Addr} {r1 r2 r3 : List Int} (n1 : H t1 = none) (n2 : upd H t1 (.tup (r1.map V.int)) t2 = none) (n3 : upd (upd H t1 (.tup (r1.map V.int))) t2 (.tup (r2.map V.int)) t3 = none)
    (n4 : upd (upd (upd H t1 (.tup (r1.map V.int))) t2 (.tup (r2.map V.int))) t3 (.tup (r3.map V.int)) x = none) :
    Ex0 H (upd (upd (upd (upd H t1 (.tup (r1.map V.int))) t2 (.tup (r2.map V.int))) t3 (.tup (r3.map V.int))) x (.tup [.ref t1, .ref t2, .ref t3])) ∧
      T33 (upd (upd (upd (upd H t1 (.tup (r1.map V.int))) t2 (.tup (r2.map V.int))) t3 (.tup (r3.map V.int))) x (.tup [.ref t1, .ref t2, .ref t3])) x r1 r2 r3 :=
  ⟨(((Ex0.new n1).trans (Ex0.new n2)).trans (Ex0.new n3)).trans (Ex0.new n4), t1, t2, t3, upd_same, Ex0.ap (Ex0.new n4) (Ex0.ap (Ex0.new n3) (Ex0.ap (Ex0.new n2) upd_same)), Ex0.ap (Ex0.new n4) (Ex0.ap (Ex0.new n3) upd_same), Ex0.ap (Ex0.new n4) upd_same⟩
inductive Tis (H : Hp) : List V → List (List Int) → Prop where
  | nil : Tis H [] []
  | cons {t : Addr} {r : List Int} {xs : List V} {rs : List (List Int)} (h : Ti H t r) (q : Tis H xs rs) : Tis H (.ref t :: xs) (r :: rs)
theorem Tis.mono {H H' : Hp} {xs : List V} {rs : List (List Int)} (r : Tis H xs rs) (e : ∀ t zs, H t = some (.tup zs) → H' t = some (.tup zs)) : Tis H' xs rs := by
  induction r with
  | nil => exact .nil
  | cons h _ ih => exact .cons (e _ _ h) ih
theorem Tis.snoc {H : Hp} {xs : List V} {rs : List (List Int)} (r : Tis H xs rs) {t : Addr} {r1 : List Int} (h : Ti H t r1) : Tis H (xs ++ [.ref t]) (rs ++ [r1]) := by
  induction r with
  | nil => exact .cons h .nil
  | cons h' _ ih => exact .cons h' ih
theorem Tis.len {H : Hp} {xs : List V} {rs : List (List Int)} (r : Tis H xs rs) : xs.length = rs.length := by
  induction r with
  | nil => rfl
  | cons _ _ ih => rw [List.length_cons, List.length_cons, ih]
theorem Tis.three {H : Hp} {xs : List V} {r1 r2 r3 : List Int} (r : Tis H xs [r1, r2, r3]) : ∃ t1 t2 t3, xs = [.ref t1, .ref t2, .ref t3] ∧ Ti H t1 r1 ∧ Ti H t2 r2 ∧ Ti H t3 r3 := by
  cases r with
  | cons h1 r =>
    cases r with
    | cons h2 r =>
      cases r with
      | cons h3 r =>
        cases r
        exact ⟨_, _, _, rfl, h1, h2, h3⟩
def Uv (i : Nat) (v z s : Int) : Prop := (i = 0 ∧ v = 1 ∧ z = 0 ∧ s = 0) ∨ (i = 1 ∧ v = 0 ∧ z = 1 ∧ s = 0) ∨ (i = 2 ∧ v = 0 ∧ z = 0 ∧ s = 1)
theorem Uv.b {i : Nat} {v z s : Int} (h : Uv i v z s) : i < 3 ∧ B3 1000 v z s := by
  have b0 : B 1000 0 := ⟨by decide, by decide⟩
  have b1 : B 1000 1 := ⟨by decide, by decide⟩
  rcases h with ⟨rfl, rfl, rfl, rfl⟩ | ⟨rfl, rfl, rfl, rfl⟩ | ⟨rfl, rfl, rfl, rfl⟩
  · exact ⟨by decide, b1, b0, b0⟩
  · exact ⟨by decide, b0, b1, b0⟩
  · exact ⟨by decide, b0, b0, b1⟩
theorem unit_at {K : PySem.W.Frag} {H H' : Hp} {a b c : Addr} {i : Nat} {x : V} (h1 : SqT K H a [.int 1, .int 0, .int 0]) (h2 : SqT K H b [.int 0, .int 1, .int 0]) (h3 : SqT K H c [.int 0, .int 0, .int 1]) (e : Ex0 H H')
    (hx : [V.ref a, .ref b, .ref c][i]? = some x) : ∃ t v z s, x = .ref t ∧ Tq K H' t [v, z, s] ∧ Uv i v z s := by
  match i, hx with
  | 0, hx => exact ⟨a, 1, 0, 0, (Option.some.inj hx).symm, Ex0.tq e h1, .inl ⟨rfl, rfl, rfl, rfl⟩⟩
  | 1, hx => exact ⟨b, 0, 1, 0, (Option.some.inj hx).symm, Ex0.tq e h2, .inr (.inl ⟨rfl, rfl, rfl, rfl⟩)⟩
  | 2, hx => exact ⟨c, 0, 0, 1, (Option.some.inj hx).symm, Ex0.tq e h3, .inr (.inr ⟨rfl, rfl, rfl, rfl⟩)⟩
theorem B.pl {n : Nat} {i j : Int} (h1 : B n i) (h2 : B n j) : B (n + 1) (i + j) := ⟨by
  have a := h1.1
  have b := h2.1
  rw [Nat.pow_succ]
  omega, by omega⟩
theorem m_B {n m k : Nat} {A D G u x y v z s : Int} (ha : B k A) (hd : B k D) (hg : B k G) (hu : B3 n u x y) (hv : B3 m v z s) : B (n + m + k + 4) (m0 A D G u x y v z s) ∧ B (n + m + k + 4) (m1 A D G u x y v z s) ∧ B (n + m + k + 4) (m2 A D G u x y v z s) := by
  obtain ⟨h1, h2, h3⟩ := hu
  obtain ⟨k1, k2, k3⟩ := hv
  have k0 := ha.2
  have pl : ∀ {i j l : Nat} {p q : Int}, B i p → B j q → i < l → j < l → B l (p + q) := fun {i j l p q} h g hi hj => (B.pl (n := l - 1) (h.mono (by omega)) (g.mono (by omega))).mono (by omega)
  unfold m0 m1 m2
  have mid := pl (l := n + m + 1) (B.mul h2 k3) (B.mul h3 k2) (by omega) (by omega)
  have lA := B.mul (B.mul h2 k2) ha
  have lD := B.mul mid hd
  have lG := B.mul (B.mul h3 k3) hg
  refine ⟨?_, ?_, ?_⟩
  · exact pl (pl (l := n + m + k + 3) (pl (l := n + m + k + 2) (B.mul h1 k1) lA (by omega) (by omega)) lD (by omega) (by omega)) lG (by omega) (by omega)
  · exact pl (pl (l := n + m + k + 3) (pl (l := n + m + k + 2) (pl (l := n + m + 1) (B.mul h1 k2) (B.mul h2 k1) (by omega) (by omega)) lA (by omega) (by omega)) lD (by omega) (by omega)) lG (by omega) (by omega)
  · exact pl (pl (l := n + m + k + 3) (pl (l := n + m + k + 2) (pl (l := n + m + 1) (B.mul h1 k3) (B.mul h3 k1) (by omega) (by omega)) lA (by omega) (by omega)) lD (by omega) (by omega)) lG (by omega) (by omega)
theorem out_g {g : Nat} {n : Int} (h : (g : Int) ∣ n) : n = (g : Int) * (n / (g : Int)) := (Int.mul_ediv_cancel' h).symm
theorem gcd_out {a b : Int} (h : b ≠ 0) : ∃ p q : Int, 0 < Nat.gcd a.natAbs b.natAbs ∧ a = (Nat.gcd a.natAbs b.natAbs : Int) * p ∧ b = (Nat.gcd a.natAbs b.natAbs : Int) * q ∧ Nat.gcd p.natAbs q.natAbs = 1 := by
  have g0 : 0 < Nat.gcd a.natAbs b.natAbs := Nat.gcd_pos_of_pos_right _ (by omega)
  have d1 : ((Nat.gcd a.natAbs b.natAbs : Nat) : Int) ∣ a := Int.ofNat_dvd_left.mpr (Nat.gcd_dvd_left _ _)
  have d2 : ((Nat.gcd a.natAbs b.natAbs : Nat) : Int) ∣ b := Int.ofNat_dvd_left.mpr (Nat.gcd_dvd_right _ _)
  refine ⟨a / (Nat.gcd a.natAbs b.natAbs : Int), b / (Nat.gcd a.natAbs b.natAbs : Int), g0, out_g d1, out_g d2, ?_⟩
  rw [Int.natAbs_ediv_of_dvd d1, Int.natAbs_ediv_of_dvd d2]
  show Nat.gcd (a.natAbs / Nat.gcd a.natAbs b.natAbs) (b.natAbs / Nat.gcd a.natAbs b.natAbs) = 1
  rw [Nat.gcd_div (Nat.gcd_dvd_left _ _) (Nat.gcd_dvd_right _ _), Nat.div_self g0]
end K72
namespace K72
open PySem PySem.Spec PyProof.Rows L2 Fr
theorem dw3 {i j : Int} (h : 0 < j) (h4 : j < 2 ^ 3000) : CDivW i j := wide_div (b := 3000) h (by omega) (by decide) (by decide)
theorem lkR {a b c : V} : List.lookup ("_ring" : Str) [(("_ring" : Str), a), (("_entries" : Str), b), (("_bottom" : Str), c)] = some a := rfl
theorem lkE {a b c : V} : List.lookup ("_entries" : Str) [(("_ring" : Str), a), (("_entries" : Str), b), (("_bottom" : Str), c)] = some b := rfl
theorem lkB {a b c : V} : List.lookup ("_bottom" : Str) [(("_ring" : Str), a), (("_entries" : Str), b), (("_bottom" : Str), c)] = some c := rfl
theorem made_ex {H H' : Hp} {x dx : Addr} {o1 o2 : HO} (nx : H x = none) (ndx : H dx = none) (e1 : ∀ b o, b ≠ x → (upd (upd H dx o1) x o2) b = some o → H' b = some o) : Ex0 H H' := Ex0.of fun b o e => by
  have n1 : b ≠ x := ne_of_none e nx
  have n2 : b ≠ dx := ne_of_none e ndx
  refine e1 b o n1 ?_
  rw [upd_ne n1, upd_ne n2]
  exact e
theorem made_at {H : Hp} {x dx t : Addr} {o1 o2 : HO} {xs : List V} (nx : H x = none) (ndx : H dx = none) (h : H t = some (.tup xs)) : upd (upd H dx o1) x o2 t = some (.tup xs) := by
  rw [upd_ne (ne_of_none h nx), upd_ne (ne_of_none h ndx)]
  exact h
theorem gcd_dvd {g : Nat} : ∀ (ns : List Int) (x : Nat), g ∣ ns.foldl (fun g n => Nat.gcd g n.natAbs) x ↔ g ∣ x ∧ ∀ n ∈ ns, (g : Int) ∣ n
  | [], x => by simp
  | n :: ns, x => by
    rw [List.foldl_cons, gcd_dvd ns, Nat.dvd_gcd_iff, List.forall_mem_cons, Int.ofNat_dvd_left]
    constructor
    · rintro ⟨⟨h1, h2⟩, h3⟩; exact ⟨h1, h2, h3⟩
    · rintro ⟨h1, h2, h3⟩; exact ⟨⟨h1, h2⟩, h3⟩
theorem gcdL_dvd {g : Nat} {ns : List Int} : g ∣ gcdL ns ↔ ∀ n ∈ ns, (g : Int) ∣ n := by
  unfold gcdL
  rw [gcd_dvd]
  simp
theorem gcd3 {g : Nat} {u y z : Int} : g ∣ gcdL [u, y, z] ↔ (g : Int) ∣ u ∧ (g : Int) ∣ y ∧ (g : Int) ∣ z := by
  rw [gcdL_dvd]
  simp
theorem low_of (u y z b : Int) (h : b ≠ 0) (hb : B 3000 b) : ∃ (g u' y' z' b' : Int), g = (if b < 0 then -((gcdL [(gcdL [u, y, z] : Int), b] : Nat) : Int) else ((gcdL [(gcdL [u, y, z] : Int), b] : Nat) : Int)) ∧ g ≠ 0 ∧ B 3000 g ∧ u = g * u' ∧ y = g * y' ∧ z = g * z' ∧ b = g * b' ∧ 0 < b' ∧ Nat.gcd (gcdL [u', y', z']) b'.natAbs = 1 := by
  have hG : ∀ d : Nat, d ∣ gcdL [(gcdL [u, y, z] : Int), b] ↔ ((d : Int) ∣ u ∧ (d : Int) ∣ y ∧ (d : Int) ∣ z) ∧ (d : Int) ∣ b := fun d => by
    rw [gcdL_dvd, List.forall_mem_cons, Int.natCast_dvd_natCast, gcd3]
    simp
  generalize gcdL [(gcdL [u, y, z] : Int), b] = G at hG ⊢
  obtain ⟨⟨d1, d2, d3⟩, d4⟩ := (hG G).mp (Nat.dvd_refl _)
  have G0 : 0 < G := by
    rcases Nat.eq_zero_or_pos G with e | e
    · rw [e] at d4
      exact absurd (Int.zero_dvd.mp d4) h
    · exact e
  have Gb : G ≤ b.natAbs := Nat.le_of_dvd (by omega) (Int.ofNat_dvd_left.mp d4)
  have bG : B 3000 (G : Int) := ⟨Nat.lt_of_le_of_lt Gb hb.1, by decide⟩
  obtain ⟨u0, rfl⟩ := d1
  obtain ⟨y0, rfl⟩ := d2
  obtain ⟨z0, rfl⟩ := d3
  obtain ⟨b0, rfl⟩ := d4
  have one : ∀ d : Nat, (d : Int) ∣ u0 → (d : Int) ∣ y0 → (d : Int) ∣ z0 → (d : Int) ∣ b0 → d = 1 := fun d e1 e2 e3 e4 => by
    have m : ∀ x : Int, (d : Int) ∣ x → ((G * d : Nat) : Int) ∣ (G : Int) * x := fun x hx => by rw [Int.natCast_mul]; exact Int.mul_dvd_mul_left _ hx
    have k : G * d ∣ G * 1 := by rw [Nat.mul_one]; exact (hG (G * d)).mpr ⟨⟨m _ e1, m _ e2, m _ e3⟩, m _ e4⟩
    exact Nat.dvd_one.mp (Nat.dvd_of_mul_dvd_mul_left G0 k)
  have fin : ∀ u' y' z' b' : Int, (∀ d : Nat, (d : Int) ∣ u' → (d : Int) ∣ u0) → (∀ d : Nat, (d : Int) ∣ y' → (d : Int) ∣ y0) → (∀ d : Nat, (d : Int) ∣ z' → (d : Int) ∣ z0) → (∀ d : Nat, (d : Int) ∣ b' → (d : Int) ∣ b0) → Nat.gcd (gcdL [u', y', z']) b'.natAbs = 1 := fun u' y' z' b' e1 e2 e3 e4 => by
    obtain ⟨f1, f2, f3⟩ := gcd3.mp (Nat.gcd_dvd_left (gcdL [u', y', z']) b'.natAbs)
    exact one _ (e1 _ f1) (e2 _ f2) (e3 _ f3) (e4 _ (Int.ofNat_dvd_left.mpr (Nat.gcd_dvd_right (gcdL [u', y', z']) b'.natAbs)))
  by_cases n : (G : Int) * b0 < 0
  · rw [if_pos n]
    have b1 : b0 < 0 := by
      rcases Int.lt_or_le b0 0 with e | e
      · exact e
      · have := Int.mul_nonneg (show (0 : Int) ≤ G by omega) e
        omega
    exact ⟨_, -u0, -y0, -z0, -b0, rfl, by omega, bG.neg, by rw [Int.neg_mul_neg], by rw [Int.neg_mul_neg], by rw [Int.neg_mul_neg], by rw [Int.neg_mul_neg], by omega, fin _ _ _ _ (fun d => Int.dvd_neg.mp) (fun d => Int.dvd_neg.mp) (fun d => Int.dvd_neg.mp) (fun d => Int.dvd_neg.mp)⟩
  · rw [if_neg n]
    have b1 : 0 < b0 := by
      rcases Int.lt_or_le 0 b0 with e | e
      · exact e
      · have := Int.mul_nonneg (show (0 : Int) ≤ G by omega) (show 0 ≤ -b0 by omega)
        rw [Int.mul_neg] at this
        omega
    exact ⟨_, u0, y0, z0, b0, rfl, by omega, bG, rfl, rfl, rfl, rfl, b1, fin _ _ _ _ (fun d => id) (fun d => id) (fun d => id) (fun d => id)⟩
section
variable {P : Program} {w : World} {K : PySem.W.Frag} {mg : Str → Option Value} {base : Heap} {C_Form : Addr}
theorem ok_check_form (T : Txt K mg C_Form) : Def P w K mg base 1 "check_form" ["value"] (sp_check_form K C_Form) := by
  obtain ⟨f_, fd_, g_, F_⟩ := T.d_check_form
  refine ⟨f_, fd_, g_, F_.kp, F_.binds (ps := ["value"]) (fun _ _ _ _ _ _ us hl => match us, hl with | [_], _ => rfl), ?_⟩
  refine F_.ok sc_check_form (fun vs H Q E h => ?_) (fun cdv A outer s H vs Q E hr h => ?_)
  · first | (obtain ⟨rfl, _⟩ := h; rfl) | (obtain ⟨_, rfl, _⟩ := h; rfl) | (obtain ⟨_, _, rfl, _⟩ := h; rfl) | (obtain ⟨_, _, _, rfl, _⟩ := h; rfl) | (obtain ⟨_, _, _, _, rfl, _⟩ := h; rfl) | (obtain ⟨_, _, _, _, _, rfl, _⟩ := h; rfl) | (obtain ⟨_, _, _, _, _, _, rfl, _⟩ := h; rfl) | (obtain ⟨_, _, _, _, _, _, _, rfl, _⟩ := h; rfl) | (obtain ⟨_, _, _, _, _, _, _, _, rfl, _⟩ := h; rfl) | (obtain ⟨_, _, _, _, _, _, _, _, _, rfl, _⟩ := h; rfl) | (obtain ⟨_, _, _, _, _, _, _, _, _, _, rfl, _⟩ := h; rfl) | (obtain ⟨_, _, _, _, _, _, _, _, _, _, _, rfl, _⟩ := h; rfl) | (obtain ⟨_, _, _, _, _, _, _, _, _, _, _, _, rfl, _⟩ := h; rfl) | (obtain ⟨_, _, _, _, _, _, _, _, _, _, _, _, _, rfl, _⟩ := h; rfl) | (obtain ⟨_, _, _, _, _, _, _, _, _, _, _, _, _, _, rfl, _⟩ := h; rfl) | (obtain ⟨_, _, _, _, _, _, _, _, _, _, _, _, _, _, _, rfl, _⟩ := h; rfl) | (obtain ⟨_, _, _, _, _, _, _, _, _, _, _, _, _, _, _, _, rfl, _⟩ := h; rfl) | (obtain ⟨_, _, _, _, _, _, _, _, _, _, _, _, _, _, _, _, _, rfl, _⟩ := h; rfl) | (obtain ⟨_, _, _, _, _, _, _, _, _, _, _, _, _, _, _, _, _, _, rfl, _⟩ := h; rfl) | (obtain ⟨_, _, _, _, _, _, _, _, _, _, _, _, _, _, _, _, _, _, _, rfl, _⟩ := h; rfl) | (obtain ⟨_, _, _, _, _, _, _, _, _, _, _, _, _, _, _, _, _, _, _, _, rfl, _⟩ := h; rfl) | (obtain ⟨_, _, _, _, _, _, _, _, _, _, _, _, _, _, _, _, _, _, _, _, _, rfl, _⟩ := h; rfl) | (obtain ⟨_, _, _, _, _, _, _, _, _, _, _, _, _, _, _, _, _, _, _, _, _, _, rfl, _⟩ := h; rfl) | (obtain ⟨_, _, _, _, _, _, _, _, _, _, _, _, _, _, _, _, _, _, _, _, _, _, _, rfl, _⟩ := h; rfl)
  · obtain ⟨x, ns, rfl, ⟨dx, t, hx, ht⟩, q⟩ := h
    refine ⟨_, (pss_one (ps_if (pt_not (pt_val (pe_callB call_isi (by rfl) T.b_isinstance (by decide +kernel) (pa_cons (pv 0) (pa_cons (pe_glob (v := .ref C_Form) (by rfl) T.g_Form rfl) pa_nil)))))
      pss_never
      pss_nil)), ?_⟩
    refine ⟨_, rfl, _, _, _, _, true, rfl, .own _, ty_ins T.ty_Form T.cl_Form hx, kit_self, _, rfl, ?_⟩
    exact iteF q
end
end K72
namespace K72
open PySem PySem.Spec PyProof.Rows L2 Fr
theorem ex_two {H : Hp} {x dx : Addr} {o1 o2 : HO} (nx : H x = none) (ndx : H dx = none) : Ex0 H (upd (upd H dx o1) x o2) := Ex0.of fun b o e => by
  rw [upd_ne (ne_of_none e nx), upd_ne (ne_of_none e ndx)]
  exact e
theorem fo_made {C : Addr} {H H' : Hp} {x dx t : Addr} {ns : List Int} {o1 o2 : HO} (nx : H x = none) (ndx : H dx = none) (ht : Ti H t ns) (e1 : ∀ b o, b ≠ x → (upd (upd H dx o1) x o2) b = some o → H' b = some o)
    (e2 : H' x = some (.ins C dx [(("_coefficients" : Str), .ref t)])) : Ex0 H H' ∧ FormAt C H' x ns :=
  ⟨made_ex nx ndx e1, dx, t, e2, Ex0.ti (made_ex nx ndx e1) ht⟩
theorem ri_made {C C_R : Addr} {H H' : Hp} {x dx f : Addr} {ns : List Int} {o1 o2 : HO} (nx : H x = none) (ndx : H dx = none) (hf : FormAt C H f ns) (e1 : ∀ b o, b ≠ x → (upd (upd H dx o1) x o2) b = some o → H' b = some o)
    (e2 : H' x = some (.ins C_R dx [(("_form" : Str), .ref f)])) : Ex0 H H' ∧ RingAt C C_R H' x ns :=
  ⟨made_ex nx ndx e1, dx, f, e2, Ex0.fo (made_ex nx ndx e1) hf⟩
theorem fo_fv {C c : Addr} {H H' : Hp} {x : Addr} {ns : List Int} (hc : Vat c H) (f : Fv c H H') (h : FormAt C H x ns) : FormAt C H' x ns := by
  obtain ⟨dx, t, h1, h2⟩ := h
  refine ⟨dx, t, f.2 x _ (fun e => ?_) h1, fv_tup hc f h2⟩
  obtain ⟨u, v, z, q⟩ := hc
  unfold Sv at e
  rw [e, q] at h1
  cases h1
theorem ri_fv {C C_R c : Addr} {H H' : Hp} {x : Addr} {ns : List Int} (hc : Vat c H) (f : Fv c H H') (h : RingAt C C_R H x ns) : RingAt C C_R H' x ns := by
  obtain ⟨dx, t, h1, h2⟩ := h
  refine ⟨dx, t, f.2 x _ (fun e => ?_) h1, fo_fv hc f h2⟩
  obtain ⟨u, v, z, q⟩ := hc
  unfold Sv at e
  rw [e, q] at h1
  cases h1
theorem lst_fv {c a : Addr} {H H' : Hp} {t1 t2 t3 : Addr} (hc : Vat c H) (f : Fv c H H') (h : H a = some (.lst [.ref t1, .ref t2, .ref t3])) : H' a = some (.lst [.ref t1, .ref t2, .ref t3]) := f.2 a _ (fun e => by
  obtain ⟨x, y, z, q⟩ := hc
  unfold Sv at e
  subst e
  rw [q] at h
  cases h) h
theorem l33_fv {c : Addr} {H H' : Hp} {a : Addr} {r1 r2 r3 : List Int} (hc : Vat c H) (f : Fv c H H') (h : L33 H a r1 r2 r3) : L33 H' a r1 r2 r3 := by
  obtain ⟨t1, t2, t3, h0, h1, h2, h3⟩ := h
  exact ⟨t1, t2, t3, lst_fv hc f h0, fv_tup hc f h1, fv_tup hc f h2, fv_tup hc f h3⟩
theorem el_fv {C C_R C_E c : Addr} {H H' : Hp} {x : Addr} {ns : List Int} {u y z b : Int} (hc : Vat c H) (f : Fv c H H') (h : ElAt C C_R C_E H x ns u y z b) : ElAt C C_R C_E H' x ns u y z b := by
  obtain ⟨dx, r, t, h1, h2, h3⟩ := h
  refine ⟨dx, r, t, f.2 x _ (fun e => ?_) h1, ri_fv hc f h2, fv_tup hc f h3⟩
  obtain ⟨u, v, z, q⟩ := hc
  unfold Sv at e
  rw [e, q] at h1
  cases h1
end K72
namespace K72
open PySem PySem.Spec PyProof.Rows L2 Fr
open K05M (fv fl2 fl3 fdisc)
theorem ab_nat (z : Int) : (if z < 0 then -z else z) = (z.natAbs : Int) := by
  by_cases h : z < 0
  · rw [if_pos h]; omega
  · rw [if_neg h]; omega
section
def sp_are_any_integers (_ : PySem.W.Frag) (C : Addr) : Sp := fun vs H Q _ => ∃ (a : Addr) (ns : List Int), vs = [.ref a, .int (ns.length : Int)] ∧ Ti H a ns ∧ ns.length ≤ 1000 ∧ ∀ H', Ex0 H H' → Q (.bl true) H'
def sp_determinant_of (_ : PySem.W.Frag) (C : Addr) : Sp := fun vs H Q _ => ∃ (a : Addr) (p q r s : Int), vs = [.ref a] ∧ T4 H a p q r s ∧ B 200 p ∧ B 200 q ∧ B 200 r ∧ B 200 s ∧ Q (.int (p * s - q * r)) H
def sp_is_change (_ : PySem.W.Frag) (C : Addr) : Sp := fun vs H Q _ => ∃ (a : Addr) (p q r s : Int), vs = [.ref a] ∧ T4 H a p q r s ∧ ChOk p q r s ∧ ∀ H', Ex0 H H' → Q (.bl true) H'
def sp_is_short_change (_ : PySem.W.Frag) (C : Addr) : Sp := fun vs H Q _ => ∃ (a : Addr) (p q r s : Int), vs = [.ref a] ∧ T4 H a p q r s ∧ ChOk p q r s ∧ ∀ H', Ex0 H H' → Q (.bl true) H'
def sp_check_change (_ : PySem.W.Frag) (C : Addr) : Sp := fun vs H Q _ => ∃ (a : Addr) (p q r s : Int), vs = [.ref a] ∧ T4 H a p q r s ∧ ChOk p q r s ∧ ∀ H', Ex0 H H' → Q .non H'
def sp_form_led (_ : PySem.W.Frag) (C : Addr) : Sp := fun vs H Q _ => ∃ (t u : Addr) (a b c d p q r s : Int), vs = [.ref t, .ref u] ∧ Ti H t [a, b, c, d] ∧ T4 H u p q r s ∧ B 1000 a ∧ B 1000 b ∧ B 1000 c ∧ B 1000 d ∧ B 200 p ∧ B 200 q ∧ B 200 r ∧ B 200 s ∧ ∀ x H', Ex0 H H' → Ti H' x (fled a b c d p q r s) → Q (.ref x) H'
def sp_form_of (_ : PySem.W.Frag) (C : Addr) : Sp := fun vs H Q _ => ∃ (t : Addr) (ns : List Int), vs = [.ref t] ∧ Ti H t ns ∧ ∀ x H', Ex0 H H' → FormAt C H' x ns → Q (.ref x) H'
def sp_Form_led (_ : PySem.W.Frag) (C : Addr) : Sp := fun vs H Q _ => ∃ (z u : Addr) (a b c d p q r s : Int), vs = [.ref z, .ref u] ∧ FormAt C H z [a, b, c, d] ∧ T4 H u p q r s ∧ B 1000 a ∧ B 1000 b ∧ B 1000 c ∧ B 1000 d ∧ ChOk p q r s ∧ ∀ x H', Ex0 H H' → FormAt C H' x (fled a b c d p q r s) → Q (.ref x) H'
def sp_Form___call__ (_ : PySem.W.Frag) (C : Addr) : Sp := fun vs H Q _ => ∃ (z : Addr) (a b c d x y : Int), vs = [.ref z, .int x, .int y] ∧ FormAt C H z [a, b, c, d] ∧ B 1000 a ∧ B 1000 b ∧ B 1000 c ∧ B 1000 d ∧ Short x ∧ Short y ∧ Q (.int (fv a b c d x y)) H
def sp_is_between (_ : PySem.W.Frag) (C : Addr) : Sp := fun vs H Q _ => ∃ i lo hi : Int, vs = [.int i, .int lo, .int hi] ∧ Short i ∧ lo ≤ i ∧ i ≤ hi ∧ Q (.bl true) H
def sp_check_between (_ : PySem.W.Frag) (C : Addr) : Sp := fun vs H Q _ => ∃ i lo hi : Int, vs = [.int i, .int lo, .int hi] ∧ Short i ∧ lo ≤ i ∧ i ≤ hi ∧ Q .non H
def sp_form_value (_ : PySem.W.Frag) (C : Addr) : Sp := fun vs H Q _ => ∃ (t : Addr) (a b c d x y : Int), vs = [.ref t, .int x, .int y] ∧ Ti H t [a, b, c, d] ∧ B 1000 a ∧ B 1000 b ∧ B 1000 c ∧ B 1000 d ∧ B 200 x ∧ B 200 y ∧ Q (.int (fv a b c d x y)) H
end
section
variable {P : Program} {w : World} {K : PySem.W.Frag} {mg : Str → Option Value} {base : Heap} {C_Form : Addr}
theorem ok_is_between (T : Txt K mg C_Form) : Def P w K mg base 3 "is_between" ["value", "low", "high"] (sp_is_between K C_Form) := by
  obtain ⟨f_, fd_, g_, F_⟩ := T.d_is_between
  obtain ⟨f_is_short_integer, fd_is_short_integer, g_is_short_integer, k_is_short_integer, b_is_short_integer, G_is_short_integer⟩ := (ok_is_short_integer (P := P) (w := w) (base := base) T)
  refine ⟨f_, fd_, g_, F_.kp, F_.binds (ps := ["value", "low", "high"]) (fun _ _ _ _ _ _ us hl => match us, hl with | [_, _, _], _ => rfl), ?_⟩
  refine F_.ok sc_is_between (fun vs H Q E h => ?_) (fun cdv A outer s H vs Q E hr h => ?_)
  · first | (obtain ⟨rfl, _⟩ := h; rfl) | (obtain ⟨_, rfl, _⟩ := h; rfl) | (obtain ⟨_, _, rfl, _⟩ := h; rfl) | (obtain ⟨_, _, _, rfl, _⟩ := h; rfl) | (obtain ⟨_, _, _, _, rfl, _⟩ := h; rfl) | (obtain ⟨_, _, _, _, _, rfl, _⟩ := h; rfl) | (obtain ⟨_, _, _, _, _, _, rfl, _⟩ := h; rfl) | (obtain ⟨_, _, _, _, _, _, _, rfl, _⟩ := h; rfl) | (obtain ⟨_, _, _, _, _, _, _, _, rfl, _⟩ := h; rfl) | (obtain ⟨_, _, _, _, _, _, _, _, _, rfl, _⟩ := h; rfl) | (obtain ⟨_, _, _, _, _, _, _, _, _, _, rfl, _⟩ := h; rfl) | (obtain ⟨_, _, _, _, _, _, _, _, _, _, _, rfl, _⟩ := h; rfl) | (obtain ⟨_, _, _, _, _, _, _, _, _, _, _, _, rfl, _⟩ := h; rfl) | (obtain ⟨_, _, _, _, _, _, _, _, _, _, _, _, _, rfl, _⟩ := h; rfl) | (obtain ⟨_, _, _, _, _, _, _, _, _, _, _, _, _, _, rfl, _⟩ := h; rfl) | (obtain ⟨_, _, _, _, _, _, _, _, _, _, _, _, _, _, _, rfl, _⟩ := h; rfl) | (obtain ⟨_, _, _, _, _, _, _, _, _, _, _, _, _, _, _, _, rfl, _⟩ := h; rfl) | (obtain ⟨_, _, _, _, _, _, _, _, _, _, _, _, _, _, _, _, _, rfl, _⟩ := h; rfl) | (obtain ⟨_, _, _, _, _, _, _, _, _, _, _, _, _, _, _, _, _, _, rfl, _⟩ := h; rfl) | (obtain ⟨_, _, _, _, _, _, _, _, _, _, _, _, _, _, _, _, _, _, _, rfl, _⟩ := h; rfl) | (obtain ⟨_, _, _, _, _, _, _, _, _, _, _, _, _, _, _, _, _, _, _, _, rfl, _⟩ := h; rfl) | (obtain ⟨_, _, _, _, _, _, _, _, _, _, _, _, _, _, _, _, _, _, _, _, _, rfl, _⟩ := h; rfl) | (obtain ⟨_, _, _, _, _, _, _, _, _, _, _, _, _, _, _, _, _, _, _, _, _, _, rfl, _⟩ := h; rfl) | (obtain ⟨_, _, _, _, _, _, _, _, _, _, _, _, _, _, _, _, _, _, _, _, _, _, _, rfl, _⟩ := h; rfl)
  · obtain ⟨i, lo, hi, rfl, hs, h1, h2, q⟩ := h
    refine ⟨_, (pss_one (ps_ret (pe_and (pe_call G_is_short_integer (hr.mono (by decide)) (by rfl) g_is_short_integer k_is_short_integer b_is_short_integer .nil pass0 (pa_cons (pv 0) pa_nil)) (pe_one (pe_chain op_le op_le (pv 1) (pv 0) (pv 2)))))), ?_⟩
    refine ⟨_, rfl, i, rfl, hs, _, rfl, iteT ?_⟩
    refine ⟨_, rfl, _, rfl, _, _, rfl, rfl, _, rfl, dT h1 ⟨_, rfl, _, _, rfl, rfl, ?_⟩⟩
    show Q (.bl (decide (i ≤ hi))) H
    rw [decide_eq_true h2]
    exact q
theorem ok_check_between (T : Txt K mg C_Form) : Def P w K mg base 4 "check_between" ["value", "low", "high"] (sp_check_between K C_Form) := by
  obtain ⟨f_, fd_, g_, F_⟩ := T.d_check_between
  obtain ⟨f_is_between, fd_is_between, g_is_between, k_is_between, b_is_between, G_is_between⟩ := (ok_is_between (P := P) (w := w) (base := base) T)
  refine ⟨f_, fd_, g_, F_.kp, F_.binds (ps := ["value", "low", "high"]) (fun _ _ _ _ _ _ us hl => match us, hl with | [_, _, _], _ => rfl), ?_⟩
  refine F_.ok sc_check_between (fun vs H Q E h => ?_) (fun cdv A outer s H vs Q E hr h => ?_)
  · first | (obtain ⟨rfl, _⟩ := h; rfl) | (obtain ⟨_, rfl, _⟩ := h; rfl) | (obtain ⟨_, _, rfl, _⟩ := h; rfl) | (obtain ⟨_, _, _, rfl, _⟩ := h; rfl) | (obtain ⟨_, _, _, _, rfl, _⟩ := h; rfl) | (obtain ⟨_, _, _, _, _, rfl, _⟩ := h; rfl) | (obtain ⟨_, _, _, _, _, _, rfl, _⟩ := h; rfl) | (obtain ⟨_, _, _, _, _, _, _, rfl, _⟩ := h; rfl) | (obtain ⟨_, _, _, _, _, _, _, _, rfl, _⟩ := h; rfl) | (obtain ⟨_, _, _, _, _, _, _, _, _, rfl, _⟩ := h; rfl) | (obtain ⟨_, _, _, _, _, _, _, _, _, _, rfl, _⟩ := h; rfl) | (obtain ⟨_, _, _, _, _, _, _, _, _, _, _, rfl, _⟩ := h; rfl) | (obtain ⟨_, _, _, _, _, _, _, _, _, _, _, _, rfl, _⟩ := h; rfl) | (obtain ⟨_, _, _, _, _, _, _, _, _, _, _, _, _, rfl, _⟩ := h; rfl) | (obtain ⟨_, _, _, _, _, _, _, _, _, _, _, _, _, _, rfl, _⟩ := h; rfl) | (obtain ⟨_, _, _, _, _, _, _, _, _, _, _, _, _, _, _, rfl, _⟩ := h; rfl) | (obtain ⟨_, _, _, _, _, _, _, _, _, _, _, _, _, _, _, _, rfl, _⟩ := h; rfl) | (obtain ⟨_, _, _, _, _, _, _, _, _, _, _, _, _, _, _, _, _, rfl, _⟩ := h; rfl) | (obtain ⟨_, _, _, _, _, _, _, _, _, _, _, _, _, _, _, _, _, _, rfl, _⟩ := h; rfl) | (obtain ⟨_, _, _, _, _, _, _, _, _, _, _, _, _, _, _, _, _, _, _, rfl, _⟩ := h; rfl) | (obtain ⟨_, _, _, _, _, _, _, _, _, _, _, _, _, _, _, _, _, _, _, _, rfl, _⟩ := h; rfl) | (obtain ⟨_, _, _, _, _, _, _, _, _, _, _, _, _, _, _, _, _, _, _, _, _, rfl, _⟩ := h; rfl) | (obtain ⟨_, _, _, _, _, _, _, _, _, _, _, _, _, _, _, _, _, _, _, _, _, _, rfl, _⟩ := h; rfl) | (obtain ⟨_, _, _, _, _, _, _, _, _, _, _, _, _, _, _, _, _, _, _, _, _, _, _, rfl, _⟩ := h; rfl)
  · obtain ⟨i, lo, hi, rfl, hs, h1, h2, q⟩ := h
    refine ⟨_, (pss_one (ps_if (pt_not (pt_val (pe_call G_is_between (hr.mono (by decide)) (by rfl) g_is_between k_is_between b_is_between .nil pass0 (pa_cons (pv 0) (pa_cons (pv 1) (pa_cons (pv 2) pa_nil))))))
      pss_never
      pss_nil)), ?_⟩
    refine ⟨_, rfl, _, rfl, _, rfl, i, lo, hi, rfl, hs, h1, h2, _, rfl, ?_⟩
    exact iteF q
theorem ok_are_any_integers (T : Txt K mg C_Form) : Def P w K mg base 2 "are_any_integers" ["value", "many"] (sp_are_any_integers K C_Form) := by
  obtain ⟨f_, fd_, g_, F_⟩ := T.d_are_any_integers
  obtain ⟨f_is_any_integer, fd_is_any_integer, g_is_any_integer, k_is_any_integer, b_is_any_integer, G_is_any_integer⟩ := (ok_is_any_integer (P := P) (w := w) (base := base) T)
  refine ⟨f_, fd_, g_, F_.kp, F_.binds (ps := ["value", "many"]) (fun _ _ _ _ _ _ us hl => match us, hl with | [_, _], _ => rfl), ?_⟩
  refine F_.ok sc_are_any_integers (fun vs H Q E h => ?_) (fun cdv A outer s H vs Q E hr h => ?_)
  · first | (obtain ⟨rfl, _⟩ := h; rfl) | (obtain ⟨_, rfl, _⟩ := h; rfl) | (obtain ⟨_, _, rfl, _⟩ := h; rfl) | (obtain ⟨_, _, _, rfl, _⟩ := h; rfl) | (obtain ⟨_, _, _, _, rfl, _⟩ := h; rfl) | (obtain ⟨_, _, _, _, _, rfl, _⟩ := h; rfl) | (obtain ⟨_, _, _, _, _, _, rfl, _⟩ := h; rfl) | (obtain ⟨_, _, _, _, _, _, _, rfl, _⟩ := h; rfl) | (obtain ⟨_, _, _, _, _, _, _, _, rfl, _⟩ := h; rfl) | (obtain ⟨_, _, _, _, _, _, _, _, _, rfl, _⟩ := h; rfl) | (obtain ⟨_, _, _, _, _, _, _, _, _, _, rfl, _⟩ := h; rfl) | (obtain ⟨_, _, _, _, _, _, _, _, _, _, _, rfl, _⟩ := h; rfl) | (obtain ⟨_, _, _, _, _, _, _, _, _, _, _, _, rfl, _⟩ := h; rfl) | (obtain ⟨_, _, _, _, _, _, _, _, _, _, _, _, _, rfl, _⟩ := h; rfl) | (obtain ⟨_, _, _, _, _, _, _, _, _, _, _, _, _, _, rfl, _⟩ := h; rfl) | (obtain ⟨_, _, _, _, _, _, _, _, _, _, _, _, _, _, _, rfl, _⟩ := h; rfl) | (obtain ⟨_, _, _, _, _, _, _, _, _, _, _, _, _, _, _, _, rfl, _⟩ := h; rfl) | (obtain ⟨_, _, _, _, _, _, _, _, _, _, _, _, _, _, _, _, _, rfl, _⟩ := h; rfl) | (obtain ⟨_, _, _, _, _, _, _, _, _, _, _, _, _, _, _, _, _, _, rfl, _⟩ := h; rfl) | (obtain ⟨_, _, _, _, _, _, _, _, _, _, _, _, _, _, _, _, _, _, _, rfl, _⟩ := h; rfl) | (obtain ⟨_, _, _, _, _, _, _, _, _, _, _, _, _, _, _, _, _, _, _, _, rfl, _⟩ := h; rfl) | (obtain ⟨_, _, _, _, _, _, _, _, _, _, _, _, _, _, _, _, _, _, _, _, _, rfl, _⟩ := h; rfl) | (obtain ⟨_, _, _, _, _, _, _, _, _, _, _, _, _, _, _, _, _, _, _, _, _, _, rfl, _⟩ := h; rfl) | (obtain ⟨_, _, _, _, _, _, _, _, _, _, _, _, _, _, _, _, _, _, _, _, _, _, _, rfl, _⟩ := h; rfl)
  · obtain ⟨a, ns, rfl, ha, hl, q⟩ := h
    refine ⟨_, (pss_cons (ps_if (PW.pt (pw_or (pt_not (pt_val (pe_callB call_isi (by rfl) T.b_isinstance (by decide +kernel) (pa_cons (pv 0) (pa_cons (pe_bltn (v := .ty "tuple") (by rfl) T.b_tuple (by decide +kernel) rfl) pa_nil))))) (pw_or1 (pt_cmpR op_ne (pe_callB call_len_seq (by rfl) T.b_len PySem.boot_len (pa_cons (pv 0) pa_nil)) (pv 1) (nomark _)))))
      (pss_one (ps_ret pe_bl))
      pss_nil)
    (pss_one (ps_ret (pe_callB (cr_all rfl) (by rfl) T.b_all (by decide +kernel) (pa_cons (pe_lc (own := [("number", 2)]) (g := (gName 2)) rfl sc_are_any_integers.nd (pi_tup (pv 0)) (blkOk_by (N := N_are_any_integers) (sc := defScope s_are_any_integers) (by decide +kernel)) (fun _ _ _ _ _ => (pg_name (i := 2) sc_are_any_integers.nd rfl (.inl rfl))) (fun _ _ _ _ _ => pts_nil) (fun _ _ _ _ _ => (pe_call G_is_any_integer (hr.mono (by decide)) (by rfl) g_is_any_integer k_is_any_integer b_is_any_integer .nil pass0 (pa_cons (pv 2) pa_nil)))) pa_nil))))), ?_⟩
    refine ⟨_, rfl, _, _, _, _, true, rfl, .ty _, .base (.tup ha), kit_ty (by decide +kernel), _, rfl, ?_⟩
    refine iteF ⟨_, rfl, a, _, rfl, .inr (SqT.of ha), _, rfl, rfl, _, rfl, ?_⟩
    refine ndF (by rw [List.length_map]) ?_
    refine ⟨_, rfl, a, rfl, ⟨_, SqT.of ha⟩, ?_⟩
    refine lcT fm0 trivial (SqT.of ha) (fun z => z) (fun i acc _ => acc = (List.replicate i true).map V.bl) (fun _ _ => rfl) (fun D i x acc H' hD hx e hA hlen hp => ?_) (fun D H' acc hD e hA hp => ?_)
    · obtain ⟨n, hn, rfl⟩ := get_int hx
      have hi := (List.getElem?_eq_some_iff.mp hn).1
      refine ⟨rfl, ?_⟩
      refine ⟨_, rfl, n, rfl, ?_⟩
      refine cs_yes fm0 trivial hD e hA hlen (by omega) (Fx.refl trivial) ?_
      show acc ++ [V.bl true] = _
      rw [hp, List.replicate_succ', List.map_append]
      rfl
    · rw [List.length_map] at hp
      subst hp
      refine ⟨D, _, rfl, SqL.of hA, ?_⟩
      rw [show ((List.replicate ns.length true).all id) = true by simp]
      exact q H' e
theorem ok_determinant_of (T : Txt K mg C_Form) : Def P w K mg base 1 "determinant_of" ["change"] (sp_determinant_of K C_Form) := by
  obtain ⟨f_, fd_, g_, F_⟩ := T.d_determinant_of
  refine ⟨f_, fd_, g_, F_.kp, F_.binds (ps := ["change"]) (fun _ _ _ _ _ _ us hl => match us, hl with | [_], _ => rfl), ?_⟩
  refine F_.ok sc_determinant_of (fun vs H Q E h => ?_) (fun cdv A outer s H vs Q E hr h => ?_)
  · first | (obtain ⟨rfl, _⟩ := h; rfl) | (obtain ⟨_, rfl, _⟩ := h; rfl) | (obtain ⟨_, _, rfl, _⟩ := h; rfl) | (obtain ⟨_, _, _, rfl, _⟩ := h; rfl) | (obtain ⟨_, _, _, _, rfl, _⟩ := h; rfl) | (obtain ⟨_, _, _, _, _, rfl, _⟩ := h; rfl) | (obtain ⟨_, _, _, _, _, _, rfl, _⟩ := h; rfl) | (obtain ⟨_, _, _, _, _, _, _, rfl, _⟩ := h; rfl) | (obtain ⟨_, _, _, _, _, _, _, _, rfl, _⟩ := h; rfl) | (obtain ⟨_, _, _, _, _, _, _, _, _, rfl, _⟩ := h; rfl) | (obtain ⟨_, _, _, _, _, _, _, _, _, _, rfl, _⟩ := h; rfl) | (obtain ⟨_, _, _, _, _, _, _, _, _, _, _, rfl, _⟩ := h; rfl) | (obtain ⟨_, _, _, _, _, _, _, _, _, _, _, _, rfl, _⟩ := h; rfl) | (obtain ⟨_, _, _, _, _, _, _, _, _, _, _, _, _, rfl, _⟩ := h; rfl) | (obtain ⟨_, _, _, _, _, _, _, _, _, _, _, _, _, _, rfl, _⟩ := h; rfl) | (obtain ⟨_, _, _, _, _, _, _, _, _, _, _, _, _, _, _, rfl, _⟩ := h; rfl) | (obtain ⟨_, _, _, _, _, _, _, _, _, _, _, _, _, _, _, _, rfl, _⟩ := h; rfl) | (obtain ⟨_, _, _, _, _, _, _, _, _, _, _, _, _, _, _, _, _, rfl, _⟩ := h; rfl) | (obtain ⟨_, _, _, _, _, _, _, _, _, _, _, _, _, _, _, _, _, _, rfl, _⟩ := h; rfl) | (obtain ⟨_, _, _, _, _, _, _, _, _, _, _, _, _, _, _, _, _, _, _, rfl, _⟩ := h; rfl) | (obtain ⟨_, _, _, _, _, _, _, _, _, _, _, _, _, _, _, _, _, _, _, _, rfl, _⟩ := h; rfl) | (obtain ⟨_, _, _, _, _, _, _, _, _, _, _, _, _, _, _, _, _, _, _, _, _, rfl, _⟩ := h; rfl) | (obtain ⟨_, _, _, _, _, _, _, _, _, _, _, _, _, _, _, _, _, _, _, _, _, _, rfl, _⟩ := h; rfl) | (obtain ⟨_, _, _, _, _, _, _, _, _, _, _, _, _, _, _, _, _, _, _, _, _, _, _, rfl, _⟩ := h; rfl)
  · obtain ⟨a, p, q', r, s', rfl, ⟨t1, t2, h0, h1, h2⟩, bp, bq, br, bs, q⟩ := h
    refine ⟨_, (pss_cons (ps_asg (pv 0) (pg_tup (by rfl) (pgs_cons (pg_tup (by rfl) (pgs_cons (pg_name (i := 1) sc_determinant_of.nd rfl (.inl rfl)) (pgs_cons (pg_name (i := 2) sc_determinant_of.nd rfl (.inl rfl)) pgs_nil))) (pgs_cons (pg_tup (by rfl) (pgs_cons (pg_name (i := 3) sc_determinant_of.nd rfl (.inl rfl)) (pgs_cons (pg_name (i := 4) sc_determinant_of.nd rfl (.inl rfl)) pgs_nil))) pgs_nil))))
    (pss_one (ps_ret (pe_op op_sub (pe_op op_mulW (pv 1) (pv 4)) (pe_op op_mulW (pv 2) (pv 3)))))), ?_⟩
    refine ⟨_, rfl, a, _, rfl, SqT.of h0, rfl, _, _, rfl, ?_⟩
    refine ⟨t1, _, rfl, SqT.of h1, rfl, _, _, rfl, ?_⟩
    refine ⟨_, _, rfl, ⟨rfl, ?_⟩⟩
    refine ⟨_, _, rfl, ?_⟩
    refine ⟨t2, _, rfl, SqT.of h2, rfl, _, _, rfl, ?_⟩
    refine ⟨_, _, rfl, ⟨rfl, ?_⟩⟩
    refine ⟨rfl, ?_⟩
    exact ⟨_, rfl, _, rfl, _, _, rfl, rfl, mulB (by with_reducible assumption) (by with_reducible assumption) (by decide), _, rfl, _, rfl, _, _, rfl, rfl, mulB (by with_reducible assumption) (by with_reducible assumption) (by decide), _, _, rfl, rfl, q⟩
theorem ok_is_change (T : Txt K mg C_Form) : Def P w K mg base 3 "is_change" ["value"] (sp_is_change K C_Form) := by
  obtain ⟨f_, fd_, g_, F_⟩ := T.d_is_change
  obtain ⟨f_are_any_integers, fd_are_any_integers, g_are_any_integers, k_are_any_integers, b_are_any_integers, G_are_any_integers⟩ := (ok_are_any_integers (P := P) (w := w) (base := base) T)
  obtain ⟨f_determinant_of, fd_determinant_of, g_determinant_of, k_determinant_of, b_determinant_of, G_determinant_of⟩ := (ok_determinant_of (P := P) (w := w) (base := base) T)
  refine ⟨f_, fd_, g_, F_.kp, F_.binds (ps := ["value"]) (fun _ _ _ _ _ _ us hl => match us, hl with | [_], _ => rfl), ?_⟩
  refine F_.ok sc_is_change (fun vs H Q E h => ?_) (fun cdv A outer s H vs Q E hr h => ?_)
  · first | (obtain ⟨rfl, _⟩ := h; rfl) | (obtain ⟨_, rfl, _⟩ := h; rfl) | (obtain ⟨_, _, rfl, _⟩ := h; rfl) | (obtain ⟨_, _, _, rfl, _⟩ := h; rfl) | (obtain ⟨_, _, _, _, rfl, _⟩ := h; rfl) | (obtain ⟨_, _, _, _, _, rfl, _⟩ := h; rfl) | (obtain ⟨_, _, _, _, _, _, rfl, _⟩ := h; rfl) | (obtain ⟨_, _, _, _, _, _, _, rfl, _⟩ := h; rfl) | (obtain ⟨_, _, _, _, _, _, _, _, rfl, _⟩ := h; rfl) | (obtain ⟨_, _, _, _, _, _, _, _, _, rfl, _⟩ := h; rfl) | (obtain ⟨_, _, _, _, _, _, _, _, _, _, rfl, _⟩ := h; rfl) | (obtain ⟨_, _, _, _, _, _, _, _, _, _, _, rfl, _⟩ := h; rfl) | (obtain ⟨_, _, _, _, _, _, _, _, _, _, _, _, rfl, _⟩ := h; rfl) | (obtain ⟨_, _, _, _, _, _, _, _, _, _, _, _, _, rfl, _⟩ := h; rfl) | (obtain ⟨_, _, _, _, _, _, _, _, _, _, _, _, _, _, rfl, _⟩ := h; rfl) | (obtain ⟨_, _, _, _, _, _, _, _, _, _, _, _, _, _, _, rfl, _⟩ := h; rfl) | (obtain ⟨_, _, _, _, _, _, _, _, _, _, _, _, _, _, _, _, rfl, _⟩ := h; rfl) | (obtain ⟨_, _, _, _, _, _, _, _, _, _, _, _, _, _, _, _, _, rfl, _⟩ := h; rfl) | (obtain ⟨_, _, _, _, _, _, _, _, _, _, _, _, _, _, _, _, _, _, rfl, _⟩ := h; rfl) | (obtain ⟨_, _, _, _, _, _, _, _, _, _, _, _, _, _, _, _, _, _, _, rfl, _⟩ := h; rfl) | (obtain ⟨_, _, _, _, _, _, _, _, _, _, _, _, _, _, _, _, _, _, _, _, rfl, _⟩ := h; rfl) | (obtain ⟨_, _, _, _, _, _, _, _, _, _, _, _, _, _, _, _, _, _, _, _, _, rfl, _⟩ := h; rfl) | (obtain ⟨_, _, _, _, _, _, _, _, _, _, _, _, _, _, _, _, _, _, _, _, _, _, rfl, _⟩ := h; rfl) | (obtain ⟨_, _, _, _, _, _, _, _, _, _, _, _, _, _, _, _, _, _, _, _, _, _, _, rfl, _⟩ := h; rfl)
  · obtain ⟨a, p, q', r, s', rfl, h4, hc, q⟩ := h
    obtain ⟨t1, t2, h0, h1, h2⟩ := id h4
    refine ⟨_, (pss_cons (ps_if (PW.pt (pw_or (pt_not (pt_val (pe_callB call_isi (by rfl) T.b_isinstance (by decide +kernel) (pa_cons (pv 0) (pa_cons (pe_bltn (v := .ty "tuple") (by rfl) T.b_tuple (by decide +kernel) rfl) pa_nil))))) (pw_or1 (pt_cmpR op_ne (pe_callB call_len_seq (by rfl) T.b_len PySem.boot_len (pa_cons (pv 0) pa_nil)) pe_int (nomark _)))))
      (pss_one (ps_ret pe_bl))
      pss_nil)
    (pss_cons (ps_if (pt_not (pt_val (pe_callB (cr_all rfl) (by rfl) T.b_all (by decide +kernel) (pa_cons (pe_lc (own := [("row", 1)]) (g := (gName 1)) rfl sc_is_change.nd (pi_tup (pv 0)) (blkOk_by (N := N_is_change) (sc := defScope s_is_change) (by decide +kernel)) (fun _ _ _ _ _ => (pg_name (i := 1) sc_is_change.nd rfl (.inl rfl))) (fun _ _ _ _ _ => pts_nil) (fun _ _ _ _ _ => (pe_call G_are_any_integers (hr.mono (by decide)) (by rfl) g_are_any_integers k_are_any_integers b_are_any_integers .nil pass0 (pa_cons (pv 1) (pa_cons pe_int pa_nil))))) pa_nil))))
      (pss_one (ps_ret pe_bl))
      pss_nil)
    (pss_one (ps_ret (pe_cmpR op_in_seq (pe_call G_determinant_of (hr.mono (by decide)) (by rfl) g_determinant_of k_determinant_of b_determinant_of .nil pass0 (pa_cons (pv 0) pa_nil)) (pe_tup (pa_cons pe_int (pa_cons (pe_un un_neg pe_int) pa_nil))) (by with_unfolding_all rfl)))))), ?_⟩
    refine ⟨_, rfl, _, _, _, _, true, rfl, .ty _, .base (.tup h0), kit_ty (by decide +kernel), _, rfl, ?_⟩
    refine iteF ⟨_, rfl, a, _, rfl, .inr (SqT.of h0), rfl, _, rfl, ?_⟩
    refine ndF rfl ?_
    refine ⟨_, rfl, a, rfl, ⟨_, SqT.of h0⟩, ?_⟩
    refine lcT fm0 trivial (SqT.of h0) (fun z => z) (fun i acc _ => acc = (List.replicate i true).map V.bl) (fun _ _ => rfl) (fun D i x acc H' hD hx e hA hlen hp => ?_) (fun D H' acc hD e hA hp => ?_)
    · have fin : ∀ (t : Addr) (u v : Int), x = .ref t → H t = some (.tup [.int u, .int v]) → i < 2 → ∃ t, x = .ref t ∧ ∃ u v, H' t = some (.tup [.int u, .int v]) ∧ i < 2 := fun t u v e1 e2 e3 => ⟨t, e1, u, v, Ex0.ap e e2, e3⟩
      obtain ⟨t, rfl, u, v, ht, hi⟩ : ∃ t, x = .ref t ∧ ∃ u v, H' t = some (.tup [.int u, .int v]) ∧ i < 2 := by
        match i, hx with
        | 0, hx => exact fin t1 p q' (Option.some.inj hx).symm h1 (by decide)
        | 1, hx => exact fin t2 r s' (Option.some.inj hx).symm h2 (by decide)
      refine ⟨rfl, ?_⟩
      refine ⟨_, rfl, t, [u, v], rfl, ht, by show 2 ≤ 1000; decide, fun H'' e'' => ?_⟩
      refine cs_yes fm0 trivial hD e hA hlen (by omega) e'' ?_
      rw [hp, List.replicate_succ', List.map_append]
      rfl
    · refine ⟨D, List.replicate 2 true, rfl, SqL.of (by rw [hA, hp]; rfl), _, rfl, ?_⟩
      refine ⟨_, rfl, a, p, q', r, s', rfl, Ex0.t4 e h4, hc.1.b, hc.2.1.b, hc.2.2.1.b, hc.2.2.2.1.b, _, rfl, sl2, fun u nu => ?_⟩
      refine ⟨u, _, rfl, .inr (SqT.of upd_same), rfl, rfl, ?_⟩
      have e1 : inV (.int (p * s' - q' * r)) [.int 1, .int (-1)] = true := by
        show ((1 : Int) == p * s' - q' * r || ((-1 : Int) == p * s' - q' * r || false)) = true
        rcases hc.2.2.2.2 with z | z <;> rw [z] <;> decide
      show Q (.bl (inV (.int (p * s' - q' * r)) [.int 1, .int (-1)])) _
      rw [e1]
      exact q _ (e.trans (Ex0.new nu))
theorem ok_is_short_change (T : Txt K mg C_Form) : Def P w K mg base 4 "is_short_change" ["value"] (sp_is_short_change K C_Form) := by
  obtain ⟨f_, fd_, g_, F_⟩ := T.d_is_short_change
  obtain ⟨f_are_short_integers, fd_are_short_integers, g_are_short_integers, k_are_short_integers, b_are_short_integers, G_are_short_integers⟩ := (ok_are_short_integers (P := P) (w := w) (base := base) T)
  obtain ⟨f_is_change, fd_is_change, g_is_change, k_is_change, b_is_change, G_is_change⟩ := (ok_is_change (P := P) (w := w) (base := base) T)
  refine ⟨f_, fd_, g_, F_.kp, F_.binds (ps := ["value"]) (fun _ _ _ _ _ _ us hl => match us, hl with | [_], _ => rfl), ?_⟩
  refine F_.ok sc_is_short_change (fun vs H Q E h => ?_) (fun cdv A outer s H vs Q E hr h => ?_)
  · first | (obtain ⟨rfl, _⟩ := h; rfl) | (obtain ⟨_, rfl, _⟩ := h; rfl) | (obtain ⟨_, _, rfl, _⟩ := h; rfl) | (obtain ⟨_, _, _, rfl, _⟩ := h; rfl) | (obtain ⟨_, _, _, _, rfl, _⟩ := h; rfl) | (obtain ⟨_, _, _, _, _, rfl, _⟩ := h; rfl) | (obtain ⟨_, _, _, _, _, _, rfl, _⟩ := h; rfl) | (obtain ⟨_, _, _, _, _, _, _, rfl, _⟩ := h; rfl) | (obtain ⟨_, _, _, _, _, _, _, _, rfl, _⟩ := h; rfl) | (obtain ⟨_, _, _, _, _, _, _, _, _, rfl, _⟩ := h; rfl) | (obtain ⟨_, _, _, _, _, _, _, _, _, _, rfl, _⟩ := h; rfl) | (obtain ⟨_, _, _, _, _, _, _, _, _, _, _, rfl, _⟩ := h; rfl) | (obtain ⟨_, _, _, _, _, _, _, _, _, _, _, _, rfl, _⟩ := h; rfl) | (obtain ⟨_, _, _, _, _, _, _, _, _, _, _, _, _, rfl, _⟩ := h; rfl) | (obtain ⟨_, _, _, _, _, _, _, _, _, _, _, _, _, _, rfl, _⟩ := h; rfl) | (obtain ⟨_, _, _, _, _, _, _, _, _, _, _, _, _, _, _, rfl, _⟩ := h; rfl) | (obtain ⟨_, _, _, _, _, _, _, _, _, _, _, _, _, _, _, _, rfl, _⟩ := h; rfl) | (obtain ⟨_, _, _, _, _, _, _, _, _, _, _, _, _, _, _, _, _, rfl, _⟩ := h; rfl) | (obtain ⟨_, _, _, _, _, _, _, _, _, _, _, _, _, _, _, _, _, _, rfl, _⟩ := h; rfl) | (obtain ⟨_, _, _, _, _, _, _, _, _, _, _, _, _, _, _, _, _, _, _, rfl, _⟩ := h; rfl) | (obtain ⟨_, _, _, _, _, _, _, _, _, _, _, _, _, _, _, _, _, _, _, _, rfl, _⟩ := h; rfl) | (obtain ⟨_, _, _, _, _, _, _, _, _, _, _, _, _, _, _, _, _, _, _, _, _, rfl, _⟩ := h; rfl) | (obtain ⟨_, _, _, _, _, _, _, _, _, _, _, _, _, _, _, _, _, _, _, _, _, _, rfl, _⟩ := h; rfl) | (obtain ⟨_, _, _, _, _, _, _, _, _, _, _, _, _, _, _, _, _, _, _, _, _, _, _, rfl, _⟩ := h; rfl)
  · obtain ⟨a, p, q', r, s', rfl, h4, hc, q⟩ := h
    refine ⟨_, (pss_one (ps_ret (pe_and (pe_call G_is_change (hr.mono (by decide)) (by rfl) g_is_change k_is_change b_is_change .nil pass0 (pa_cons (pv 0) pa_nil)) (pe_one (pe_callB (cr_all rfl) (by rfl) T.b_all (by decide +kernel) (pa_cons (pe_lc (own := [("row", 1)]) (g := (gName 1)) rfl sc_is_short_change.nd (pi_tup (pv 0)) (blkOk_by (N := N_is_short_change) (sc := defScope s_is_short_change) (by decide +kernel)) (fun _ _ _ _ _ => (pg_name (i := 1) sc_is_short_change.nd rfl (.inl rfl))) (fun _ _ _ _ _ => pts_nil) (fun _ _ _ _ _ => (pe_call G_are_short_integers (hr.mono (by decide)) (by rfl) g_are_short_integers k_are_short_integers b_are_short_integers .nil pass0 (pa_cons (pv 1) (pa_cons pe_int pa_nil))))) pa_nil)))))), ?_⟩
    refine ⟨_, rfl, a, p, q', r, s', rfl, h4, hc, fun H1 e1 => ⟨_, rfl, iteT ?_⟩⟩
    obtain ⟨t1, t2, h0, h1, h2⟩ := Ex0.t4 e1 h4
    refine ⟨_, rfl, a, rfl, ⟨_, SqT.of h0⟩, ?_⟩
    refine lcT fm0 trivial (SqT.of h0) (fun z => z) (fun i acc _ => acc = (List.replicate i true).map V.bl) (fun _ _ => rfl) (fun D i x acc H' hD hx e hA hlen hp => ?_) (fun D H' acc hD e hA hp => ?_)
    · have fin : ∀ (t : Addr) (u v : Int), x = .ref t → H1 t = some (.tup [.int u, .int v]) → Short u → Short v → i < 2 → ∃ t, x = .ref t ∧ ∃ u v, H' t = some (.tup [.int u, .int v]) ∧ Short u ∧ Short v ∧ i < 2 := fun t u v e1 e2 e3 e4 e5 => ⟨t, e1, u, v, Ex0.ap e e2, e3, e4, e5⟩
      obtain ⟨t, rfl, u, v, ht, su, sv, hi⟩ : ∃ t, x = .ref t ∧ ∃ u v, H' t = some (.tup [.int u, .int v]) ∧ Short u ∧ Short v ∧ i < 2 := by
        match i, hx with
        | 0, hx => exact fin t1 p q' (Option.some.inj hx).symm h1 hc.1 hc.2.1 (by decide)
        | 1, hx => exact fin t2 r s' (Option.some.inj hx).symm h2 hc.2.2.1 hc.2.2.2.1 (by decide)
      refine ⟨rfl, ?_⟩
      refine ⟨_, rfl, t, [u, v], rfl, ht, by show 2 ≤ 1000; decide, fun n hn => ?_, fun H'' e'' => ?_⟩
      · simp only [List.mem_cons, List.mem_nil_iff, or_false] at hn
        rcases hn with rfl | rfl
        · exact su
        · exact sv
      · refine cs_yes fm0 trivial hD e hA hlen (by omega) e'' ?_
        rw [hp, List.replicate_succ', List.map_append]
        rfl
    · refine ⟨D, List.replicate 2 true, rfl, SqL.of (by rw [hA, hp]; rfl), ?_⟩
      exact q _ (e1.trans e)
theorem ok_check_change (T : Txt K mg C_Form) : Def P w K mg base 5 "check_change" ["value"] (sp_check_change K C_Form) := by
  obtain ⟨f_, fd_, g_, F_⟩ := T.d_check_change
  obtain ⟨f_is_short_change, fd_is_short_change, g_is_short_change, k_is_short_change, b_is_short_change, G_is_short_change⟩ := (ok_is_short_change (P := P) (w := w) (base := base) T)
  refine ⟨f_, fd_, g_, F_.kp, F_.binds (ps := ["value"]) (fun _ _ _ _ _ _ us hl => match us, hl with | [_], _ => rfl), ?_⟩
  refine F_.ok sc_check_change (fun vs H Q E h => ?_) (fun cdv A outer s H vs Q E hr h => ?_)
  · first | (obtain ⟨rfl, _⟩ := h; rfl) | (obtain ⟨_, rfl, _⟩ := h; rfl) | (obtain ⟨_, _, rfl, _⟩ := h; rfl) | (obtain ⟨_, _, _, rfl, _⟩ := h; rfl) | (obtain ⟨_, _, _, _, rfl, _⟩ := h; rfl) | (obtain ⟨_, _, _, _, _, rfl, _⟩ := h; rfl) | (obtain ⟨_, _, _, _, _, _, rfl, _⟩ := h; rfl) | (obtain ⟨_, _, _, _, _, _, _, rfl, _⟩ := h; rfl) | (obtain ⟨_, _, _, _, _, _, _, _, rfl, _⟩ := h; rfl) | (obtain ⟨_, _, _, _, _, _, _, _, _, rfl, _⟩ := h; rfl) | (obtain ⟨_, _, _, _, _, _, _, _, _, _, rfl, _⟩ := h; rfl) | (obtain ⟨_, _, _, _, _, _, _, _, _, _, _, rfl, _⟩ := h; rfl) | (obtain ⟨_, _, _, _, _, _, _, _, _, _, _, _, rfl, _⟩ := h; rfl) | (obtain ⟨_, _, _, _, _, _, _, _, _, _, _, _, _, rfl, _⟩ := h; rfl) | (obtain ⟨_, _, _, _, _, _, _, _, _, _, _, _, _, _, rfl, _⟩ := h; rfl) | (obtain ⟨_, _, _, _, _, _, _, _, _, _, _, _, _, _, _, rfl, _⟩ := h; rfl) | (obtain ⟨_, _, _, _, _, _, _, _, _, _, _, _, _, _, _, _, rfl, _⟩ := h; rfl) | (obtain ⟨_, _, _, _, _, _, _, _, _, _, _, _, _, _, _, _, _, rfl, _⟩ := h; rfl) | (obtain ⟨_, _, _, _, _, _, _, _, _, _, _, _, _, _, _, _, _, _, rfl, _⟩ := h; rfl) | (obtain ⟨_, _, _, _, _, _, _, _, _, _, _, _, _, _, _, _, _, _, _, rfl, _⟩ := h; rfl) | (obtain ⟨_, _, _, _, _, _, _, _, _, _, _, _, _, _, _, _, _, _, _, _, rfl, _⟩ := h; rfl) | (obtain ⟨_, _, _, _, _, _, _, _, _, _, _, _, _, _, _, _, _, _, _, _, _, rfl, _⟩ := h; rfl) | (obtain ⟨_, _, _, _, _, _, _, _, _, _, _, _, _, _, _, _, _, _, _, _, _, _, rfl, _⟩ := h; rfl) | (obtain ⟨_, _, _, _, _, _, _, _, _, _, _, _, _, _, _, _, _, _, _, _, _, _, _, rfl, _⟩ := h; rfl)
  · obtain ⟨a, p, q', r, s', rfl, h4, hc, q⟩ := h
    refine ⟨_, (pss_one (ps_if (pt_not (pt_val (pe_call G_is_short_change (hr.mono (by decide)) (by rfl) g_is_short_change k_is_short_change b_is_short_change .nil pass0 (pa_cons (pv 0) pa_nil))))
      pss_never
      pss_nil)), ?_⟩
    refine ⟨_, rfl, a, p, q', r, s', rfl, h4, hc, fun H1 e1 => ⟨_, rfl, ?_⟩⟩
    exact iteF (q _ e1)
theorem ok_form_value (T : Txt K mg C_Form) : Def P w K mg base 1 "form_value" ["coefficients", "x", "y"] (sp_form_value K C_Form) := by
  obtain ⟨f_, fd_, g_, F_⟩ := T.d_form_value
  refine ⟨f_, fd_, g_, F_.kp, F_.binds (ps := ["coefficients", "x", "y"]) (fun _ _ _ _ _ _ us hl => match us, hl with | [_, _, _], _ => rfl), ?_⟩
  refine F_.ok sc_form_value (fun vs H Q E h => ?_) (fun cdv A outer s H vs Q E hr h => ?_)
  · first | (obtain ⟨rfl, _⟩ := h; rfl) | (obtain ⟨_, rfl, _⟩ := h; rfl) | (obtain ⟨_, _, rfl, _⟩ := h; rfl) | (obtain ⟨_, _, _, rfl, _⟩ := h; rfl) | (obtain ⟨_, _, _, _, rfl, _⟩ := h; rfl) | (obtain ⟨_, _, _, _, _, rfl, _⟩ := h; rfl) | (obtain ⟨_, _, _, _, _, _, rfl, _⟩ := h; rfl) | (obtain ⟨_, _, _, _, _, _, _, rfl, _⟩ := h; rfl) | (obtain ⟨_, _, _, _, _, _, _, _, rfl, _⟩ := h; rfl) | (obtain ⟨_, _, _, _, _, _, _, _, _, rfl, _⟩ := h; rfl) | (obtain ⟨_, _, _, _, _, _, _, _, _, _, rfl, _⟩ := h; rfl) | (obtain ⟨_, _, _, _, _, _, _, _, _, _, _, rfl, _⟩ := h; rfl) | (obtain ⟨_, _, _, _, _, _, _, _, _, _, _, _, rfl, _⟩ := h; rfl) | (obtain ⟨_, _, _, _, _, _, _, _, _, _, _, _, _, rfl, _⟩ := h; rfl) | (obtain ⟨_, _, _, _, _, _, _, _, _, _, _, _, _, _, rfl, _⟩ := h; rfl) | (obtain ⟨_, _, _, _, _, _, _, _, _, _, _, _, _, _, _, rfl, _⟩ := h; rfl) | (obtain ⟨_, _, _, _, _, _, _, _, _, _, _, _, _, _, _, _, rfl, _⟩ := h; rfl) | (obtain ⟨_, _, _, _, _, _, _, _, _, _, _, _, _, _, _, _, _, rfl, _⟩ := h; rfl) | (obtain ⟨_, _, _, _, _, _, _, _, _, _, _, _, _, _, _, _, _, _, rfl, _⟩ := h; rfl) | (obtain ⟨_, _, _, _, _, _, _, _, _, _, _, _, _, _, _, _, _, _, _, rfl, _⟩ := h; rfl) | (obtain ⟨_, _, _, _, _, _, _, _, _, _, _, _, _, _, _, _, _, _, _, _, rfl, _⟩ := h; rfl) | (obtain ⟨_, _, _, _, _, _, _, _, _, _, _, _, _, _, _, _, _, _, _, _, _, rfl, _⟩ := h; rfl) | (obtain ⟨_, _, _, _, _, _, _, _, _, _, _, _, _, _, _, _, _, _, _, _, _, _, rfl, _⟩ := h; rfl) | (obtain ⟨_, _, _, _, _, _, _, _, _, _, _, _, _, _, _, _, _, _, _, _, _, _, _, rfl, _⟩ := h; rfl)
  · obtain ⟨t, a, b, c, d, x, y, rfl, ht, ba, bb, bc, bd, bx, by', q⟩ := h
    refine ⟨_, (pss_cons (ps_asg (pv 0) (pg_tup (by rfl) (pgs_cons (pg_name (i := 3) sc_form_value.nd rfl (.inl rfl)) (pgs_cons (pg_name (i := 4) sc_form_value.nd rfl (.inl rfl)) (pgs_cons (pg_name (i := 5) sc_form_value.nd rfl (.inl rfl)) (pgs_cons (pg_name (i := 6) sc_form_value.nd rfl (.inl rfl)) pgs_nil))))))
    (pss_one (ps_ret (pe_op op_add (pe_op op_add (pe_op op_add (pe_op op_mulW (pe_op op_mulW (pe_op op_mulW (pv 3) (pv 1)) (pv 1)) (pv 1)) (pe_op op_mulW (pe_op op_mulW (pe_op op_mulW (pv 4) (pv 1)) (pv 1)) (pv 2))) (pe_op op_mulW (pe_op op_mulW (pe_op op_mulW (pv 5) (pv 1)) (pv 2)) (pv 2))) (pe_op op_mulW (pe_op op_mulW (pe_op op_mulW (pv 6) (pv 2)) (pv 2)) (pv 2)))))), ?_⟩
    refine ⟨_, rfl, unI4 ht ?_⟩
    exact ⟨_, rfl, _, rfl, _, _, rfl, rfl, mulB (by with_reducible assumption) (by with_reducible assumption) (by decide), _, rfl, _, _, rfl, rfl, mulB (B.mul (by with_reducible assumption) (by with_reducible assumption)) (by with_reducible assumption) (by decide), _, rfl, _, _, rfl, rfl, mulB (B.mul (B.mul (by with_reducible assumption) (by with_reducible assumption)) (by with_reducible assumption)) (by with_reducible assumption) (by decide), _, rfl, _, rfl, _, _, rfl, rfl, mulB (by with_reducible assumption) (by with_reducible assumption) (by decide), _, rfl, _, _, rfl, rfl, mulB (B.mul (by with_reducible assumption) (by with_reducible assumption)) (by with_reducible assumption) (by decide), _, rfl, _, _, rfl, rfl, mulB (B.mul (B.mul (by with_reducible assumption) (by with_reducible assumption)) (by with_reducible assumption)) (by with_reducible assumption) (by decide), _, _, rfl, rfl, _, rfl, _, rfl, _, _, rfl, rfl, mulB (by with_reducible assumption) (by with_reducible assumption) (by decide), _, rfl, _, _, rfl, rfl, mulB (B.mul (by with_reducible assumption) (by with_reducible assumption)) (by with_reducible assumption) (by decide), _, rfl, _, _, rfl, rfl, mulB (B.mul (B.mul (by with_reducible assumption) (by with_reducible assumption)) (by with_reducible assumption)) (by with_reducible assumption) (by decide), _, _, rfl, rfl, _, rfl, _, rfl, _, _, rfl, rfl, mulB (by with_reducible assumption) (by with_reducible assumption) (by decide), _, rfl, _, _, rfl, rfl, mulB (B.mul (by with_reducible assumption) (by with_reducible assumption)) (by with_reducible assumption) (by decide), _, rfl, _, _, rfl, rfl, mulB (B.mul (B.mul (by with_reducible assumption) (by with_reducible assumption)) (by with_reducible assumption)) (by with_reducible assumption) (by decide), _, _, rfl, rfl, q⟩
theorem ok_form_led (T : Txt K mg C_Form) : Def P w K mg base 2 "form_led" ["coefficients", "change"] (sp_form_led K C_Form) := by
  obtain ⟨f_, fd_, g_, F_⟩ := T.d_form_led
  obtain ⟨f_determinant_of, fd_determinant_of, g_determinant_of, k_determinant_of, b_determinant_of, G_determinant_of⟩ := (ok_determinant_of (P := P) (w := w) (base := base) T)
  obtain ⟨f_form_value, fd_form_value, g_form_value, k_form_value, b_form_value, G_form_value⟩ := (ok_form_value (P := P) (w := w) (base := base) T)
  refine ⟨f_, fd_, g_, F_.kp, F_.binds (ps := ["coefficients", "change"]) (fun _ _ _ _ _ _ us hl => match us, hl with | [_, _], _ => rfl), ?_⟩
  refine F_.ok sc_form_led (fun vs H Q E h => ?_) (fun cdv A outer s H vs Q E hr h => ?_)
  · first | (obtain ⟨rfl, _⟩ := h; rfl) | (obtain ⟨_, rfl, _⟩ := h; rfl) | (obtain ⟨_, _, rfl, _⟩ := h; rfl) | (obtain ⟨_, _, _, rfl, _⟩ := h; rfl) | (obtain ⟨_, _, _, _, rfl, _⟩ := h; rfl) | (obtain ⟨_, _, _, _, _, rfl, _⟩ := h; rfl) | (obtain ⟨_, _, _, _, _, _, rfl, _⟩ := h; rfl) | (obtain ⟨_, _, _, _, _, _, _, rfl, _⟩ := h; rfl) | (obtain ⟨_, _, _, _, _, _, _, _, rfl, _⟩ := h; rfl) | (obtain ⟨_, _, _, _, _, _, _, _, _, rfl, _⟩ := h; rfl) | (obtain ⟨_, _, _, _, _, _, _, _, _, _, rfl, _⟩ := h; rfl) | (obtain ⟨_, _, _, _, _, _, _, _, _, _, _, rfl, _⟩ := h; rfl) | (obtain ⟨_, _, _, _, _, _, _, _, _, _, _, _, rfl, _⟩ := h; rfl) | (obtain ⟨_, _, _, _, _, _, _, _, _, _, _, _, _, rfl, _⟩ := h; rfl) | (obtain ⟨_, _, _, _, _, _, _, _, _, _, _, _, _, _, rfl, _⟩ := h; rfl) | (obtain ⟨_, _, _, _, _, _, _, _, _, _, _, _, _, _, _, rfl, _⟩ := h; rfl) | (obtain ⟨_, _, _, _, _, _, _, _, _, _, _, _, _, _, _, _, rfl, _⟩ := h; rfl) | (obtain ⟨_, _, _, _, _, _, _, _, _, _, _, _, _, _, _, _, _, rfl, _⟩ := h; rfl) | (obtain ⟨_, _, _, _, _, _, _, _, _, _, _, _, _, _, _, _, _, _, rfl, _⟩ := h; rfl) | (obtain ⟨_, _, _, _, _, _, _, _, _, _, _, _, _, _, _, _, _, _, _, rfl, _⟩ := h; rfl) | (obtain ⟨_, _, _, _, _, _, _, _, _, _, _, _, _, _, _, _, _, _, _, _, rfl, _⟩ := h; rfl) | (obtain ⟨_, _, _, _, _, _, _, _, _, _, _, _, _, _, _, _, _, _, _, _, _, rfl, _⟩ := h; rfl) | (obtain ⟨_, _, _, _, _, _, _, _, _, _, _, _, _, _, _, _, _, _, _, _, _, _, rfl, _⟩ := h; rfl) | (obtain ⟨_, _, _, _, _, _, _, _, _, _, _, _, _, _, _, _, _, _, _, _, _, _, _, rfl, _⟩ := h; rfl)
  · obtain ⟨t, u, a, b, c, d, p, q', r, s', rfl, ht, h4, ba, bb, bc, bd, bp, bq, br, bs, q⟩ := h
    refine ⟨_, (pss_cons (ps_asg (pv 0) (pg_tup (by rfl) (pgs_cons (pg_name (i := 2) sc_form_led.nd rfl (.inl rfl)) (pgs_cons (pg_name (i := 3) sc_form_led.nd rfl (.inl rfl)) (pgs_cons (pg_name (i := 4) sc_form_led.nd rfl (.inl rfl)) (pgs_cons (pg_name (i := 5) sc_form_led.nd rfl (.inl rfl)) pgs_nil))))))
    (pss_cons (ps_asg (pv 1) (pg_tup (by rfl) (pgs_cons (pg_tup (by rfl) (pgs_cons (pg_name (i := 6) sc_form_led.nd rfl (.inl rfl)) (pgs_cons (pg_name (i := 7) sc_form_led.nd rfl (.inl rfl)) pgs_nil))) (pgs_cons (pg_tup (by rfl) (pgs_cons (pg_name (i := 8) sc_form_led.nd rfl (.inl rfl)) (pgs_cons (pg_name (i := 9) sc_form_led.nd rfl (.inl rfl)) pgs_nil))) pgs_nil))))
    (pss_cons (ps_set (i := 10) sc_form_led.nd rfl (.inl rfl) (pe_call G_determinant_of (hr.mono (by decide)) (by rfl) g_determinant_of k_determinant_of b_determinant_of .nil pass0 (pa_cons (pv 1) pa_nil)))
    (pss_cons (ps_set (i := 11) sc_form_led.nd rfl (.inl rfl) (pe_op op_add (pe_op op_add (pe_op op_add (pe_op op_mulW (pe_op op_mulW (pe_op op_mulW (pe_op op_mulW pe_int (pv 2)) (pv 6)) (pv 6)) (pv 8)) (pe_op op_mulW (pe_op op_mulW (pv 3) (pv 6)) (pe_op op_add (pe_op op_mulW (pv 6) (pv 9)) (pe_op op_mulW (pe_op op_mulW pe_int (pv 7)) (pv 8))))) (pe_op op_mulW (pe_op op_mulW (pv 4) (pv 7)) (pe_op op_add (pe_op op_mulW (pe_op op_mulW pe_int (pv 6)) (pv 9)) (pe_op op_mulW (pv 7) (pv 8))))) (pe_op op_mulW (pe_op op_mulW (pe_op op_mulW (pe_op op_mulW pe_int (pv 5)) (pv 7)) (pv 7)) (pv 9))))
    (pss_cons (ps_set (i := 12) sc_form_led.nd rfl (.inl rfl) (pe_op op_add (pe_op op_add (pe_op op_add (pe_op op_mulW (pe_op op_mulW (pe_op op_mulW (pe_op op_mulW pe_int (pv 2)) (pv 6)) (pv 8)) (pv 8)) (pe_op op_mulW (pe_op op_mulW (pv 3) (pv 8)) (pe_op op_add (pe_op op_mulW (pe_op op_mulW pe_int (pv 6)) (pv 9)) (pe_op op_mulW (pv 7) (pv 8))))) (pe_op op_mulW (pe_op op_mulW (pv 4) (pv 9)) (pe_op op_add (pe_op op_mulW (pv 6) (pv 9)) (pe_op op_mulW (pe_op op_mulW pe_int (pv 7)) (pv 8))))) (pe_op op_mulW (pe_op op_mulW (pe_op op_mulW (pe_op op_mulW pe_int (pv 5)) (pv 7)) (pv 9)) (pv 9))))
    (pss_one (ps_ret (pe_tup (pa_cons (pe_op op_mulW (pv 10) (pe_call G_form_value (hr.mono (by decide)) (by rfl) g_form_value k_form_value b_form_value .nil pass0 (pa_cons (pv 0) (pa_cons (pv 6) (pa_cons (pv 7) pa_nil))))) (pa_cons (pe_op op_mulW (pv 10) (pv 11)) (pa_cons (pe_op op_mulW (pv 10) (pv 12)) (pa_cons (pe_op op_mulW (pv 10) (pe_call G_form_value (hr.mono (by decide)) (by rfl) g_form_value k_form_value b_form_value .nil pass0 (pa_cons (pv 0) (pa_cons (pv 8) (pa_cons (pv 9) pa_nil))))) pa_nil)))))))))))), ?_⟩
    refine ⟨_, rfl, unI4 ht ?_⟩
    refine ⟨_, rfl, un4 h4 ?_⟩
    refine ⟨_, rfl, u, p, q', r, s', rfl, h4, bp, bq, br, bs, ?_⟩
    refine ⟨_, rfl, _, _, rfl, rfl, mulB (B.lit (by decide)) (by with_reducible assumption) (by decide), _, rfl, _, _, rfl, rfl, mulB (B.mul (B.lit (by decide)) (by with_reducible assumption)) (by with_reducible assumption) (by decide), _, rfl, _, _, rfl, rfl, mulB (B.mul (B.mul (B.lit (by decide)) (by with_reducible assumption)) (by with_reducible assumption)) (by with_reducible assumption) (by decide), _, rfl, _, _, rfl, rfl, mulB (B.mul (B.mul (B.mul (B.lit (by decide)) (by with_reducible assumption)) (by with_reducible assumption)) (by with_reducible assumption)) (by with_reducible assumption) (by decide), _, rfl, _, rfl, _, _, rfl, rfl, mulB (by with_reducible assumption) (by with_reducible assumption) (by decide), _, rfl, _, rfl, _, _, rfl, rfl, mulB (by with_reducible assumption) (by with_reducible assumption) (by decide), _, rfl, _, _, rfl, rfl, mulB (B.lit (by decide)) (by with_reducible assumption) (by decide), _, rfl, _, _, rfl, rfl, mulB (B.mul (B.lit (by decide)) (by with_reducible assumption)) (by with_reducible assumption) (by decide), _, _, rfl, rfl, _, _, rfl, rfl, mulB (B.mul (by with_reducible assumption) (by with_reducible assumption)) (B.add (B.mul (by with_reducible assumption) (by with_reducible assumption)) (B.mul (B.mul (B.lit (by decide)) (by with_reducible assumption)) (by with_reducible assumption))) (by decide), _, _, rfl, rfl, _, rfl, _, rfl, _, _, rfl, rfl, mulB (by with_reducible assumption) (by with_reducible assumption) (by decide), _, rfl, _, _, rfl, rfl, mulB (B.lit (by decide)) (by with_reducible assumption) (by decide), _, rfl, _, _, rfl, rfl, mulB (B.mul (B.lit (by decide)) (by with_reducible assumption)) (by with_reducible assumption) (by decide), _, rfl, _, rfl, _, _, rfl, rfl, mulB (by with_reducible assumption) (by with_reducible assumption) (by decide), _, _, rfl, rfl, _, _, rfl, rfl, mulB (B.mul (by with_reducible assumption) (by with_reducible assumption)) (B.add (B.mul (B.mul (B.lit (by decide)) (by with_reducible assumption)) (by with_reducible assumption)) (B.mul (by with_reducible assumption) (by with_reducible assumption))) (by decide), _, _, rfl, rfl, _, rfl, _, _, rfl, rfl, mulB (B.lit (by decide)) (by with_reducible assumption) (by decide), _, rfl, _, _, rfl, rfl, mulB (B.mul (B.lit (by decide)) (by with_reducible assumption)) (by with_reducible assumption) (by decide), _, rfl, _, _, rfl, rfl, mulB (B.mul (B.mul (B.lit (by decide)) (by with_reducible assumption)) (by with_reducible assumption)) (by with_reducible assumption) (by decide), _, rfl, _, _, rfl, rfl, mulB (B.mul (B.mul (B.mul (B.lit (by decide)) (by with_reducible assumption)) (by with_reducible assumption)) (by with_reducible assumption)) (by with_reducible assumption) (by decide), _, _, rfl, rfl, ?_⟩
    refine ⟨_, rfl, _, _, rfl, rfl, mulB (B.lit (by decide)) (by with_reducible assumption) (by decide), _, rfl, _, _, rfl, rfl, mulB (B.mul (B.lit (by decide)) (by with_reducible assumption)) (by with_reducible assumption) (by decide), _, rfl, _, _, rfl, rfl, mulB (B.mul (B.mul (B.lit (by decide)) (by with_reducible assumption)) (by with_reducible assumption)) (by with_reducible assumption) (by decide), _, rfl, _, _, rfl, rfl, mulB (B.mul (B.mul (B.mul (B.lit (by decide)) (by with_reducible assumption)) (by with_reducible assumption)) (by with_reducible assumption)) (by with_reducible assumption) (by decide), _, rfl, _, rfl, _, _, rfl, rfl, mulB (by with_reducible assumption) (by with_reducible assumption) (by decide), _, rfl, _, _, rfl, rfl, mulB (B.lit (by decide)) (by with_reducible assumption) (by decide), _, rfl, _, _, rfl, rfl, mulB (B.mul (B.lit (by decide)) (by with_reducible assumption)) (by with_reducible assumption) (by decide), _, rfl, _, rfl, _, _, rfl, rfl, mulB (by with_reducible assumption) (by with_reducible assumption) (by decide), _, _, rfl, rfl, _, _, rfl, rfl, mulB (B.mul (by with_reducible assumption) (by with_reducible assumption)) (B.add (B.mul (B.mul (B.lit (by decide)) (by with_reducible assumption)) (by with_reducible assumption)) (B.mul (by with_reducible assumption) (by with_reducible assumption))) (by decide), _, _, rfl, rfl, _, rfl, _, rfl, _, _, rfl, rfl, mulB (by with_reducible assumption) (by with_reducible assumption) (by decide), _, rfl, _, rfl, _, _, rfl, rfl, mulB (by with_reducible assumption) (by with_reducible assumption) (by decide), _, rfl, _, _, rfl, rfl, mulB (B.lit (by decide)) (by with_reducible assumption) (by decide), _, rfl, _, _, rfl, rfl, mulB (B.mul (B.lit (by decide)) (by with_reducible assumption)) (by with_reducible assumption) (by decide), _, _, rfl, rfl, _, _, rfl, rfl, mulB (B.mul (by with_reducible assumption) (by with_reducible assumption)) (B.add (B.mul (by with_reducible assumption) (by with_reducible assumption)) (B.mul (B.mul (B.lit (by decide)) (by with_reducible assumption)) (by with_reducible assumption))) (by decide), _, _, rfl, rfl, _, rfl, _, _, rfl, rfl, mulB (B.lit (by decide)) (by with_reducible assumption) (by decide), _, rfl, _, _, rfl, rfl, mulB (B.mul (B.lit (by decide)) (by with_reducible assumption)) (by with_reducible assumption) (by decide), _, rfl, _, _, rfl, rfl, mulB (B.mul (B.mul (B.lit (by decide)) (by with_reducible assumption)) (by with_reducible assumption)) (by with_reducible assumption) (by decide), _, rfl, _, _, rfl, rfl, mulB (B.mul (B.mul (B.mul (B.lit (by decide)) (by with_reducible assumption)) (by with_reducible assumption)) (by with_reducible assumption)) (by with_reducible assumption) (by decide), _, _, rfl, rfl, ?_⟩
    have be : B 800 (p * s' - q' * r) := B.sub (B.mul bp bs) (B.mul bq br)
    have b2 : B _ (3 * a * p * p * r + b * p * (p * s' + 2 * q' * r) + c * q' * (2 * p * s' + q' * r) + 3 * d * q' * q' * s') := (B.add (B.add (B.add (B.mul (B.mul (B.mul (B.mul (B.lit (by decide)) (by with_reducible assumption)) (by with_reducible assumption)) (by with_reducible assumption)) (by with_reducible assumption)) (B.mul (B.mul (by with_reducible assumption) (by with_reducible assumption)) (B.add (B.mul (by with_reducible assumption) (by with_reducible assumption)) (B.mul (B.mul (B.lit (by decide)) (by with_reducible assumption)) (by with_reducible assumption))))) (B.mul (B.mul (by with_reducible assumption) (by with_reducible assumption)) (B.add (B.mul (B.mul (B.lit (by decide)) (by with_reducible assumption)) (by with_reducible assumption)) (B.mul (by with_reducible assumption) (by with_reducible assumption))))) (B.mul (B.mul (B.mul (B.mul (B.lit (by decide)) (by with_reducible assumption)) (by with_reducible assumption)) (by with_reducible assumption)) (by with_reducible assumption)))
    have b3 : B _ (3 * a * p * r * r + b * r * (2 * p * s' + q' * r) + c * s' * (p * s' + 2 * q' * r) + 3 * d * q' * s' * s') := (B.add (B.add (B.add (B.mul (B.mul (B.mul (B.mul (B.lit (by decide)) (by with_reducible assumption)) (by with_reducible assumption)) (by with_reducible assumption)) (by with_reducible assumption)) (B.mul (B.mul (by with_reducible assumption) (by with_reducible assumption)) (B.add (B.mul (B.mul (B.lit (by decide)) (by with_reducible assumption)) (by with_reducible assumption)) (B.mul (by with_reducible assumption) (by with_reducible assumption))))) (B.mul (B.mul (by with_reducible assumption) (by with_reducible assumption)) (B.add (B.mul (by with_reducible assumption) (by with_reducible assumption)) (B.mul (B.mul (B.lit (by decide)) (by with_reducible assumption)) (by with_reducible assumption))))) (B.mul (B.mul (B.mul (B.mul (B.lit (by decide)) (by with_reducible assumption)) (by with_reducible assumption)) (by with_reducible assumption)) (by with_reducible assumption)))
    have f1 : B 6400 (fv a b c d p q') := B.add (B.add (B.add (B.mul (B.mul (B.mul ba bp) bp) bp) (B.mul (B.mul (B.mul bb bp) bp) bq)) (B.mul (B.mul (B.mul bc bp) bq) bq)) (B.mul (B.mul (B.mul bd bq) bq) bq)
    have f2 : B 6400 (fv a b c d r s') := B.add (B.add (B.add (B.mul (B.mul (B.mul ba br) br) br) (B.mul (B.mul (B.mul bb br) br) bs)) (B.mul (B.mul (B.mul bc br) bs) bs)) (B.mul (B.mul (B.mul bd bs) bs) bs)
    refine ⟨_, rfl, _, rfl, _, rfl, _, rfl, t, a, b, c, d, p, q', rfl, ht, ba, bb, bc, bd, bp, bq, _, _, rfl, rfl, mulB be f1 (by decide), ?_⟩
    refine ⟨_, rfl, _, rfl, _, _, rfl, rfl, mulB be b2 (by decide), _, rfl, _, rfl, _, _, rfl, rfl, mulB be b3 (by decide), ?_⟩
    refine ⟨_, rfl, _, rfl, _, rfl, _, rfl, t, a, b, c, d, r, s', rfl, ht, ba, bb, bc, bd, br, bs, _, _, rfl, rfl, mulB be f2 (by decide), sl4, fun x nx => ?_⟩
    exact q x _ (Ex0.new nx) upd_same
theorem ok_form_of (T : Txt K mg C_Form) : Def P w K mg base 7 "form_of" ["coefficients"] (sp_form_of K C_Form) := by
  obtain ⟨f_, fd_, g_, F_⟩ := T.d_form_of
  obtain ⟨p_Form___init__, f_Form___init__, fd_Form___init__, R_Form___init__, b_Form___init__, G_Form___init__⟩ := (ok_Form___init__ (P := P) (w := w) (base := base) T)
  refine ⟨f_, fd_, g_, F_.kp, F_.binds (ps := ["coefficients"]) (fun _ _ _ _ _ _ us hl => match us, hl with | [_], _ => rfl), ?_⟩
  refine F_.ok sc_form_of (fun vs H Q E h => ?_) (fun cdv A outer s H vs Q E hr h => ?_)
  · first | (obtain ⟨rfl, _⟩ := h; rfl) | (obtain ⟨_, rfl, _⟩ := h; rfl) | (obtain ⟨_, _, rfl, _⟩ := h; rfl) | (obtain ⟨_, _, _, rfl, _⟩ := h; rfl) | (obtain ⟨_, _, _, _, rfl, _⟩ := h; rfl) | (obtain ⟨_, _, _, _, _, rfl, _⟩ := h; rfl) | (obtain ⟨_, _, _, _, _, _, rfl, _⟩ := h; rfl) | (obtain ⟨_, _, _, _, _, _, _, rfl, _⟩ := h; rfl) | (obtain ⟨_, _, _, _, _, _, _, _, rfl, _⟩ := h; rfl) | (obtain ⟨_, _, _, _, _, _, _, _, _, rfl, _⟩ := h; rfl) | (obtain ⟨_, _, _, _, _, _, _, _, _, _, rfl, _⟩ := h; rfl) | (obtain ⟨_, _, _, _, _, _, _, _, _, _, _, rfl, _⟩ := h; rfl) | (obtain ⟨_, _, _, _, _, _, _, _, _, _, _, _, rfl, _⟩ := h; rfl) | (obtain ⟨_, _, _, _, _, _, _, _, _, _, _, _, _, rfl, _⟩ := h; rfl) | (obtain ⟨_, _, _, _, _, _, _, _, _, _, _, _, _, _, rfl, _⟩ := h; rfl) | (obtain ⟨_, _, _, _, _, _, _, _, _, _, _, _, _, _, _, rfl, _⟩ := h; rfl) | (obtain ⟨_, _, _, _, _, _, _, _, _, _, _, _, _, _, _, _, rfl, _⟩ := h; rfl) | (obtain ⟨_, _, _, _, _, _, _, _, _, _, _, _, _, _, _, _, _, rfl, _⟩ := h; rfl) | (obtain ⟨_, _, _, _, _, _, _, _, _, _, _, _, _, _, _, _, _, _, rfl, _⟩ := h; rfl) | (obtain ⟨_, _, _, _, _, _, _, _, _, _, _, _, _, _, _, _, _, _, _, rfl, _⟩ := h; rfl) | (obtain ⟨_, _, _, _, _, _, _, _, _, _, _, _, _, _, _, _, _, _, _, _, rfl, _⟩ := h; rfl) | (obtain ⟨_, _, _, _, _, _, _, _, _, _, _, _, _, _, _, _, _, _, _, _, _, rfl, _⟩ := h; rfl) | (obtain ⟨_, _, _, _, _, _, _, _, _, _, _, _, _, _, _, _, _, _, _, _, _, _, rfl, _⟩ := h; rfl) | (obtain ⟨_, _, _, _, _, _, _, _, _, _, _, _, _, _, _, _, _, _, _, _, _, _, _, rfl, _⟩ := h; rfl)
  · obtain ⟨t, ns, rfl, ht, q⟩ := h
    refine ⟨_, (pss_cons (ps_set (i := 1) sc_form_of.nd rfl (.inl rfl) (pe_make R_Form___init__ G_Form___init__ (hr.mono (by decide)) (by rfl) T.g_Form b_Form___init__ .nil pass0 (pa_cons (pe_tup (pa_cons pe_int (pa_cons pe_int (pa_cons pe_int (pa_cons pe_int pa_nil))))) pa_nil)))
    (pss_cons (ps_fld (pv 1) (pv 0) (by rfl))
    (pss_one (ps_ret (pv 1))))), ?_⟩
    refine ⟨sl4, fun t0 n0 => ?_⟩
    intro x dx nx ndx ne
    have e0 : Ex0 H (upd H t0 (.tup [.int 0, .int 0, .int 0, .int 0])) := Ex0.new n0
    have hx0 : H x = none := Fx.free e0 (fun z => z) nx
    have hd0 : H dx = none := Fx.free e0 (fun z => z) ndx
    have nt : t0 ≠ x := ne_of_none (show upd H t0 (.tup [.int 0, .int 0, .int 0, .int 0]) t0 = some _ from upd_same) nx
    have nd : t0 ≠ dx := ne_of_none (show upd H t0 (.tup [.int 0, .int 0, .int 0, .int 0]) t0 = some _ from upd_same) ndx
    refine ⟨x, dx, t0, [0, 0, 0, 0], rfl, upd_same, ?_, rfl, fun n hn => ?_, fun H' e1 e2 => ⟨rfl, ?_⟩⟩
    · show (upd (upd (upd H t0 _) dx _) x _) t0 = _
      rw [upd_ne nt, upd_ne nd]
      exact upd_same
    · have : n = 0 := by simpa using hn
      rw [this]
      exact ⟨by decide, by decide⟩
    refine ⟨_, rfl, _, rfl, x, C_Form, dx, _, rfl, e2, T.cl_Form, T.na_Form_coefficients, (by decide : (1:Nat) < 1000), ?_⟩
    refine ⟨_, rfl, ?_⟩
    have ex : ∀ b o, H b = some o → b ≠ x ∧ H' b = some o := fun b o e => by
      have n1 : b ≠ x := ne_of_none e hx0
      have n2 : b ≠ dx := ne_of_none e hd0
      refine ⟨n1, e1 b o n1 ?_⟩
      rw [upd_ne n1, upd_ne n2]
      exact e0.ap e
    refine q x _ (Ex0.of fun b o e => ?_) ⟨dx, t, ?_, ?_⟩
    · rw [upd_ne (ex b o e).1]
      exact (ex b o e).2
    · rw [upd_same, putF_same]
    · show (upd H' x _) t = _
      rw [upd_ne (ex _ _ ht).1]
      exact (ex _ _ ht).2
theorem ok_Form_led (T : Txt K mg C_Form) : MDef (fun p f => Meth K C_Form "led" f) P w K mg base 8 ["self", "change"] (sp_Form_led K C_Form) := by
  obtain ⟨p_, f_, fd_, R_, F_⟩ := T.e_Form_led
  obtain ⟨f_check_change, fd_check_change, g_check_change, k_check_change, b_check_change, G_check_change⟩ := (ok_check_change (P := P) (w := w) (base := base) T)
  obtain ⟨f_form_led, fd_form_led, g_form_led, k_form_led, b_form_led, G_form_led⟩ := (ok_form_led (P := P) (w := w) (base := base) T)
  obtain ⟨f_form_of, fd_form_of, g_form_of, k_form_of, b_form_of, G_form_of⟩ := (ok_form_of (P := P) (w := w) (base := base) T)
  refine ⟨p_, f_, fd_, R_, F_.binds (ps := ["self", "change"]) (fun _ _ _ _ _ _ us hl => match us, hl with | [_, _], _ => rfl), ?_⟩
  refine F_.ok sc_Form_led (fun vs H Q E h => ?_) (fun cdv A outer s H vs Q E hr h => ?_)
  · first | (obtain ⟨rfl, _⟩ := h; rfl) | (obtain ⟨_, rfl, _⟩ := h; rfl) | (obtain ⟨_, _, rfl, _⟩ := h; rfl) | (obtain ⟨_, _, _, rfl, _⟩ := h; rfl) | (obtain ⟨_, _, _, _, rfl, _⟩ := h; rfl) | (obtain ⟨_, _, _, _, _, rfl, _⟩ := h; rfl) | (obtain ⟨_, _, _, _, _, _, rfl, _⟩ := h; rfl) | (obtain ⟨_, _, _, _, _, _, _, rfl, _⟩ := h; rfl) | (obtain ⟨_, _, _, _, _, _, _, _, rfl, _⟩ := h; rfl) | (obtain ⟨_, _, _, _, _, _, _, _, _, rfl, _⟩ := h; rfl) | (obtain ⟨_, _, _, _, _, _, _, _, _, _, rfl, _⟩ := h; rfl) | (obtain ⟨_, _, _, _, _, _, _, _, _, _, _, rfl, _⟩ := h; rfl) | (obtain ⟨_, _, _, _, _, _, _, _, _, _, _, _, rfl, _⟩ := h; rfl) | (obtain ⟨_, _, _, _, _, _, _, _, _, _, _, _, _, rfl, _⟩ := h; rfl) | (obtain ⟨_, _, _, _, _, _, _, _, _, _, _, _, _, _, rfl, _⟩ := h; rfl) | (obtain ⟨_, _, _, _, _, _, _, _, _, _, _, _, _, _, _, rfl, _⟩ := h; rfl) | (obtain ⟨_, _, _, _, _, _, _, _, _, _, _, _, _, _, _, _, rfl, _⟩ := h; rfl) | (obtain ⟨_, _, _, _, _, _, _, _, _, _, _, _, _, _, _, _, _, rfl, _⟩ := h; rfl) | (obtain ⟨_, _, _, _, _, _, _, _, _, _, _, _, _, _, _, _, _, _, rfl, _⟩ := h; rfl) | (obtain ⟨_, _, _, _, _, _, _, _, _, _, _, _, _, _, _, _, _, _, _, rfl, _⟩ := h; rfl) | (obtain ⟨_, _, _, _, _, _, _, _, _, _, _, _, _, _, _, _, _, _, _, _, rfl, _⟩ := h; rfl) | (obtain ⟨_, _, _, _, _, _, _, _, _, _, _, _, _, _, _, _, _, _, _, _, _, rfl, _⟩ := h; rfl) | (obtain ⟨_, _, _, _, _, _, _, _, _, _, _, _, _, _, _, _, _, _, _, _, _, _, rfl, _⟩ := h; rfl) | (obtain ⟨_, _, _, _, _, _, _, _, _, _, _, _, _, _, _, _, _, _, _, _, _, _, _, rfl, _⟩ := h; rfl)
  · obtain ⟨z, u, a, b, c, d, p, q', r, s', rfl, hz, h4, ba, bb, bc, bd, hc, q⟩ := h
    refine ⟨_, (pss_cons (ps_expr (pe_call G_check_change (hr.mono (by decide)) (by rfl) g_check_change k_check_change b_check_change .nil pass0 (pa_cons (pv 1) pa_nil)))
    (pss_one (ps_ret (pe_call G_form_of (hr.mono (by decide)) (by rfl) g_form_of k_form_of b_form_of .nil pass0 (pa_cons (pe_call G_form_led (hr.mono (by decide)) (by rfl) g_form_led k_form_led b_form_led .nil pass0 (pa_cons (pe_fld (pv 0) (by rfl)) (pa_cons (pv 1) pa_nil))) pa_nil))))), ?_⟩
    refine ⟨_, rfl, u, p, q', r, s', rfl, h4, hc, fun H1 e1 => ?_⟩
    obtain ⟨dx, t, hx, ht⟩ := Ex0.fo e1 hz
    refine ⟨_, rfl, z, C_Form, dx, _, .ref t, rfl, hx, T.cl_Form, T.na_Form_coefficients, lk_same, _, rfl, t, u, a, b, c, d, p, q', r, s', rfl, ht, Ex0.t4 e1 h4, ba, bb, bc, bd, hc.1.b, hc.2.1.b, hc.2.2.1.b, hc.2.2.2.1.b, fun x H2 e2 hx2 => ?_⟩
    exact ⟨x, _, rfl, hx2, fun y H3 e3 hy => q y H3 ((e1.trans e2).trans e3) hy⟩
theorem ok_Form___call__ (T : Txt K mg C_Form) : MDef (fun p f => StX.CallO K C_Form f) P w K mg base 4 ["self", "x", "y"] (sp_Form___call__ K C_Form) := by
  obtain ⟨p_, f_, fd_, R_, F_⟩ := T.e_Form___call__
  obtain ⟨f_check_integer, fd_check_integer, g_check_integer, k_check_integer, b_check_integer, G_check_integer⟩ := (ok_check_integer (P := P) (w := w) (base := base) T)
  obtain ⟨f_form_value, fd_form_value, g_form_value, k_form_value, b_form_value, G_form_value⟩ := (ok_form_value (P := P) (w := w) (base := base) T)
  refine ⟨p_, f_, fd_, R_, F_.binds (ps := ["self", "x", "y"]) (fun _ _ _ _ _ _ us hl => match us, hl with | [_, _, _], _ => rfl), ?_⟩
  refine F_.ok sc_Form___call__ (fun vs H Q E h => ?_) (fun cdv A outer s H vs Q E hr h => ?_)
  · first | (obtain ⟨rfl, _⟩ := h; rfl) | (obtain ⟨_, rfl, _⟩ := h; rfl) | (obtain ⟨_, _, rfl, _⟩ := h; rfl) | (obtain ⟨_, _, _, rfl, _⟩ := h; rfl) | (obtain ⟨_, _, _, _, rfl, _⟩ := h; rfl) | (obtain ⟨_, _, _, _, _, rfl, _⟩ := h; rfl) | (obtain ⟨_, _, _, _, _, _, rfl, _⟩ := h; rfl) | (obtain ⟨_, _, _, _, _, _, _, rfl, _⟩ := h; rfl) | (obtain ⟨_, _, _, _, _, _, _, _, rfl, _⟩ := h; rfl) | (obtain ⟨_, _, _, _, _, _, _, _, _, rfl, _⟩ := h; rfl) | (obtain ⟨_, _, _, _, _, _, _, _, _, _, rfl, _⟩ := h; rfl) | (obtain ⟨_, _, _, _, _, _, _, _, _, _, _, rfl, _⟩ := h; rfl) | (obtain ⟨_, _, _, _, _, _, _, _, _, _, _, _, rfl, _⟩ := h; rfl) | (obtain ⟨_, _, _, _, _, _, _, _, _, _, _, _, _, rfl, _⟩ := h; rfl) | (obtain ⟨_, _, _, _, _, _, _, _, _, _, _, _, _, _, rfl, _⟩ := h; rfl) | (obtain ⟨_, _, _, _, _, _, _, _, _, _, _, _, _, _, _, rfl, _⟩ := h; rfl) | (obtain ⟨_, _, _, _, _, _, _, _, _, _, _, _, _, _, _, _, rfl, _⟩ := h; rfl) | (obtain ⟨_, _, _, _, _, _, _, _, _, _, _, _, _, _, _, _, _, rfl, _⟩ := h; rfl) | (obtain ⟨_, _, _, _, _, _, _, _, _, _, _, _, _, _, _, _, _, _, rfl, _⟩ := h; rfl) | (obtain ⟨_, _, _, _, _, _, _, _, _, _, _, _, _, _, _, _, _, _, _, rfl, _⟩ := h; rfl) | (obtain ⟨_, _, _, _, _, _, _, _, _, _, _, _, _, _, _, _, _, _, _, _, rfl, _⟩ := h; rfl) | (obtain ⟨_, _, _, _, _, _, _, _, _, _, _, _, _, _, _, _, _, _, _, _, _, rfl, _⟩ := h; rfl) | (obtain ⟨_, _, _, _, _, _, _, _, _, _, _, _, _, _, _, _, _, _, _, _, _, _, rfl, _⟩ := h; rfl) | (obtain ⟨_, _, _, _, _, _, _, _, _, _, _, _, _, _, _, _, _, _, _, _, _, _, _, rfl, _⟩ := h; rfl)
  · obtain ⟨z, a, b, c, d, x, y, rfl, ⟨dx, t, hx, ht⟩, ba, bb, bc, bd, sx, sy, q⟩ := h
    refine ⟨_, (pss_cons (ps_expr (pe_call G_check_integer (hr.mono (by decide)) (by rfl) g_check_integer k_check_integer b_check_integer .nil pass0 (pa_cons (pv 1) pa_nil)))
    (pss_cons (ps_expr (pe_call G_check_integer (hr.mono (by decide)) (by rfl) g_check_integer k_check_integer b_check_integer .nil pass0 (pa_cons (pv 2) pa_nil)))
    (pss_one (ps_ret (pe_call G_form_value (hr.mono (by decide)) (by rfl) g_form_value k_form_value b_form_value .nil pass0 (pa_cons (pe_fld (pv 0) (by rfl)) (pa_cons (pv 1) (pa_cons (pv 2) pa_nil)))))))), ?_⟩
    refine ⟨_, rfl, x, rfl, sx, _, rfl, y, rfl, sy, ?_⟩
    exact ⟨_, rfl, z, C_Form, dx, _, .ref t, rfl, hx, T.cl_Form, T.na_Form_coefficients, lk_same, _, rfl, _, rfl, t, a, b, c, d, x, y, rfl, ht, ba, bb, bc, bd, sx.b, sy.b, q⟩
end
end K72
namespace K72
open PySem PySem.Spec PyProof.Rows L2 Fr
open K05M (fv fl2 fl3 fdisc)
inductive Prs (H : Hp) : List V → List (Int × Int) → Prop where
  | nil : Prs H [] []
  | cons {t : Addr} {x y : Int} {xs : List V} {ps : List (Int × Int)} (h : H t = some (.tup [.int x, .int y])) (r : Prs H xs ps) : Prs H (.ref t :: xs) ((x, y) :: ps)
theorem Prs.ex {H H' : Hp} (e : ∀ t xs, H t = some (.tup xs) → H' t = some (.tup xs)) {xs : List V} {ps : List (Int × Int)} (h : Prs H xs ps) : Prs H' xs ps := by
  induction h with
  | nil => exact .nil
  | cons h _ ih => exact .cons (e _ _ h) ih
theorem Prs.app {H : Hp} {xs ys : List V} {ps qs : List (Int × Int)} (h : Prs H xs ps) (g : Prs H ys qs) : Prs H (xs ++ ys) (ps ++ qs) := by
  induction h with
  | nil => exact g
  | cons h _ ih => exact .cons h ih
theorem Prs.snoc {H : Hp} {xs : List V} {ps : List (Int × Int)} (h : Prs H xs ps) {t : Addr} {x y : Int} (g : H t = some (.tup [.int x, .int y])) : Prs H (xs ++ [.ref t]) (ps ++ [(x, y)]) := h.app (.cons g .nil)
theorem Prs.len {H : Hp} {xs : List V} {ps : List (Int × Int)} (h : Prs H xs ps) : xs.length = ps.length := by
  induction h with
  | nil => rfl
  | cons _ _ ih => rw [List.length_cons, List.length_cons, ih]
theorem Prs.get {H : Hp} {xs : List V} {ps : List (Int × Int)} (h : Prs H xs ps) : ∀ {i : Nat} {v : V}, xs[i]? = some v → ∃ t x y, v = .ref t ∧ ps[i]? = some (x, y) ∧ H t = some (.tup [.int x, .int y]) := by
  induction h with
  | nil => intro i v hv; simp at hv
  | @cons t x y xs ps h _ ih =>
    intro i v hv
    cases i with
    | zero => exact ⟨t, x, y, (Option.some.inj hv).symm, rfl, h⟩
    | succ i => exact ih hv
def mk1 (a b c d : Int) (x y : Int) : Bool := decide (fv a b c d x y = 1 ∨ fv a b c d x y = -1)
def rowM (a b c d : Int) (m : Nat) (y : Int) : List (Int × Int) := ((List.range (2 * m + 1)).filter fun (i : Nat) => mk1 a b c d (-(m : Int) + (i : Int)) y).map fun (i : Nat) => (-(m : Int) + (i : Int), y)
def opp (ps : List (Int × Int)) : List (Int × Int) := ps ++ ps.map fun p => (-p.1, -p.2)
def lexP (p q : Int × Int) : Prop := p.1 < q.1 ∨ (p.1 = q.1 ∧ p.2 ≤ q.2)
def found0 (a b c d : Int) (m : Nat) : List (Int × Int) := (if a = 1 ∨ a = -1 then [((1 : Int), (0 : Int))] else []) ++ (List.range m).flatMap fun (i : Nat) => rowM a b c d m (1 + (i : Int))
noncomputable def kv (H : Hp) (v : V) : Int × Int := @dite _ (∃ p : Int × Int, ∃ t, v = .ref t ∧ H t = some (.tup [.int p.1, .int p.2])) (Classical.propDecidable _) (fun h => Classical.choose h) (fun _ => (0, 0))
theorem kv_eq {H : Hp} {t : Addr} {x y : Int} (h : H t = some (.tup [.int x, .int y])) : kv H (.ref t) = (x, y) := by
  have ex : ∃ p : Int × Int, ∃ t', V.ref t = .ref t' ∧ H t' = some (.tup [.int p.1, .int p.2]) := ⟨(x, y), t, rfl, h⟩
  unfold kv
  rw [dif_pos ex]
  obtain ⟨t', e1, e2⟩ := Classical.choose_spec ex
  cases e1
  rw [h] at e2
  have e3 := Option.some.inj e2
  injection e3 with e3
  injection e3 with e4 e5
  injection e5 with e5 e6
  injection e4 with e4
  injection e5 with e5
  exact Prod.ext e4.symm e5.symm
theorem Prs.map_k {H : Hp} {xs : List V} {ps : List (Int × Int)} (h : Prs H xs ps) : xs.map (kv H) = ps := by
  induction h with
  | nil => rfl
  | cons h _ ih => rw [List.map_cons, kv_eq h, ih]
theorem Prs.mem {H : Hp} {xs : List V} {ps : List (Int × Int)} (h : Prs H xs ps) : ∀ v ∈ xs, ∃ t x y, v = .ref t ∧ H t = some (.tup [.int x, .int y]) := by
  induction h with
  | nil => intro v hv; cases hv
  | @cons t x y xs ps h _ ih =>
    intro v hv
    rcases List.mem_cons.mp hv with z | z
    · exact ⟨t, x, y, z, h⟩
    · exact ih v z
theorem Prs.of_mem {H : Hp} : ∀ {ys : List V}, (∀ v ∈ ys, ∃ t x y, v = .ref t ∧ H t = some (.tup [.int x, .int y])) → Prs H ys (ys.map (kv H))
  | [], _ => .nil
  | v :: ys, h => by
    obtain ⟨t, x, y, rfl, ht⟩ := h v List.mem_cons_self
    rw [List.map_cons, kv_eq ht]
    exact .cons ht (Prs.of_mem fun v hv => h v (List.mem_cons_of_mem _ hv))
def sp_with_opposites (_ : PySem.W.Frag) (C : Addr) : Sp := fun vs H Q _ => ∃ (l : Addr) (xs : List V) (ps : List (Int × Int)), vs = [.ref l] ∧ H l = some (.lst xs) ∧ Prs H xs ps ∧ ps.length ≤ 10000 ∧ ∀ t H' ys qs, Ex0 H H' → H' t = some (.tup ys) → Prs H' ys qs → qs.Perm (opp ps) → qs.Pairwise lexP → Q (.ref t) H'
def sp_row_makers (_ : PySem.W.Frag) (C : Addr) : Sp := fun vs H Q _ => ∃ (t : Addr) (a b c d : Int) (m : Nat) (y : Int), vs = [.ref t, .int (m : Int), .int y] ∧ Ti H t [a, b, c, d] ∧ B4 1000 a b c d ∧ m ≤ 50 ∧ y.natAbs ≤ 50 ∧ ∀ l H' xs, Ex0 H H' → H' l = some (.lst xs) → Prs H' xs (rowM a b c d m y) → Q (.ref l) H'
def sp_makers (_ : PySem.W.Frag) (C : Addr) : Sp := fun vs H Q _ => ∃ (z : Addr) (a b c d : Int) (m : Nat), vs = [.ref z, .int (m : Int)] ∧ FormAt C H z [a, b, c, d] ∧ B4 1000 a b c d ∧ 1 ≤ m ∧ m ≤ 50 ∧ ∀ t H' ys qs, Ex0 H H' → H' t = some (.tup ys) → Prs H' ys qs → qs.Perm (opp (found0 a b c d m)) → qs.Pairwise lexP → Q (.ref t) H'
section
variable {P : Program} {w : World} {K : PySem.W.Frag} {mg : Str → Option Value} {base : Heap} {C_Form : Addr}
theorem ok_with_opposites (T : Txt K mg C_Form) : Def P w K mg base 1 "with_opposites" ["pairs"] (sp_with_opposites K C_Form) := by
  obtain ⟨f_, fd_, g_, F_⟩ := T.d_with_opposites
  refine ⟨f_, fd_, g_, F_.kp, F_.binds (ps := ["pairs"]) (fun _ _ _ _ _ _ us hl => match us, hl with | [_], _ => rfl), ?_⟩
  refine F_.ok sc_with_opposites (fun vs H Q E h => ?_) (fun cdv A outer s H vs Q E hr h => ?_)
  · first | (obtain ⟨rfl, _⟩ := h; rfl) | (obtain ⟨_, rfl, _⟩ := h; rfl) | (obtain ⟨_, _, rfl, _⟩ := h; rfl) | (obtain ⟨_, _, _, rfl, _⟩ := h; rfl) | (obtain ⟨_, _, _, _, rfl, _⟩ := h; rfl) | (obtain ⟨_, _, _, _, _, rfl, _⟩ := h; rfl) | (obtain ⟨_, _, _, _, _, _, rfl, _⟩ := h; rfl) | (obtain ⟨_, _, _, _, _, _, _, rfl, _⟩ := h; rfl) | (obtain ⟨_, _, _, _, _, _, _, _, rfl, _⟩ := h; rfl) | (obtain ⟨_, _, _, _, _, _, _, _, _, rfl, _⟩ := h; rfl) | (obtain ⟨_, _, _, _, _, _, _, _, _, _, rfl, _⟩ := h; rfl) | (obtain ⟨_, _, _, _, _, _, _, _, _, _, _, rfl, _⟩ := h; rfl) | (obtain ⟨_, _, _, _, _, _, _, _, _, _, _, _, rfl, _⟩ := h; rfl) | (obtain ⟨_, _, _, _, _, _, _, _, _, _, _, _, _, rfl, _⟩ := h; rfl) | (obtain ⟨_, _, _, _, _, _, _, _, _, _, _, _, _, _, rfl, _⟩ := h; rfl) | (obtain ⟨_, _, _, _, _, _, _, _, _, _, _, _, _, _, _, rfl, _⟩ := h; rfl) | (obtain ⟨_, _, _, _, _, _, _, _, _, _, _, _, _, _, _, _, rfl, _⟩ := h; rfl) | (obtain ⟨_, _, _, _, _, _, _, _, _, _, _, _, _, _, _, _, _, rfl, _⟩ := h; rfl) | (obtain ⟨_, _, _, _, _, _, _, _, _, _, _, _, _, _, _, _, _, _, rfl, _⟩ := h; rfl) | (obtain ⟨_, _, _, _, _, _, _, _, _, _, _, _, _, _, _, _, _, _, _, rfl, _⟩ := h; rfl) | (obtain ⟨_, _, _, _, _, _, _, _, _, _, _, _, _, _, _, _, _, _, _, _, rfl, _⟩ := h; rfl) | (obtain ⟨_, _, _, _, _, _, _, _, _, _, _, _, _, _, _, _, _, _, _, _, _, rfl, _⟩ := h; rfl) | (obtain ⟨_, _, _, _, _, _, _, _, _, _, _, _, _, _, _, _, _, _, _, _, _, _, rfl, _⟩ := h; rfl) | (obtain ⟨_, _, _, _, _, _, _, _, _, _, _, _, _, _, _, _, _, _, _, _, _, _, _, rfl, _⟩ := h; rfl)
  · obtain ⟨l, xs, ps, rfl, hl, hP, hz, q⟩ := h
    refine ⟨_, (pss_one (ps_ret (pe_callTy call_tuple_of (by rfl) T.b_tuple (by decide +kernel) (pa_cons (pe_callB cr_sortedPO (by rfl) T.b_sorted (by decide +kernel) (pa_cons (pe_op op_cat (pv 0) (pe_lc (own := [("x", 1), ("y", 2)]) (g := (gTup K 2 (gCons (gName 1) (gCons (gName 2) gNil)))) rfl sc_with_opposites.nd (pi_list (pv 0)) (blkOk_by (N := N_with_opposites) (sc := defScope s_with_opposites) (by decide +kernel)) (fun _ _ _ _ _ => (pg_tup (by rfl) (pgs_cons (pg_name (i := 1) sc_with_opposites.nd rfl (.inl rfl)) (pgs_cons (pg_name (i := 2) sc_with_opposites.nd rfl (.inl rfl)) pgs_nil)))) (fun _ _ _ _ _ => pts_nil) (fun _ _ _ _ _ => (pe_tup (pa_cons (pe_un un_neg (pv 1)) (pa_cons (pe_un un_neg (pv 2)) pa_nil)))))) pa_nil)) pa_nil)))), ?_⟩
    refine ⟨_, rfl, ?_⟩
    refine ⟨_, rfl, l, rfl, ⟨_, SqL.of hl⟩, ?_⟩
    refine lcL fm0 trivial (SqL.of hl) (fun z => z) (fun i acc H' => Prs H' acc ((ps.take i).map fun p => (-p.1, -p.2))) (fun _ _ => .nil) (fun D i v acc H' hD hv e hA hlen hp => ?_) (fun D H' acc hD e hA hp => ?_)
    · obtain ⟨t, x, y, rfl, hpi, ht⟩ := hP.get hv
      have hi : i < ps.length := (List.getElem?_eq_some_iff.mp hpi).1
      refine ⟨t, _, rfl, SqT.of (Ex0.ap e ht), rfl, _, _, rfl, _, _, rfl, rfl, ⟨rfl, ?_⟩⟩
      refine ⟨_, rfl, _, rfl, _, rfl, _, rfl, sl2, fun u nu => ?_⟩
      refine cs_yes fm0 trivial hD e hA hlen (by omega) (Ex0.new nu) ?_
      have hA2 := Ex0.ap (Ex0.new (o := .tup [.int (-x), .int (-y)]) nu) hA
      have up : ∀ b zs, upd H' u (.tup [.int (-x), .int (-y)]) b = some (.tup zs) → upd (upd H' u (.tup [.int (-x), .int (-y)])) D (.lst (acc ++ [.ref u])) b = some (.tup zs) := fun b zs h => by
        rw [upd_ne (ne_of h hA2 (by intro z; cases z))]
        exact h
      rw [List.take_add_one, hpi, List.map_append]
      exact ((hp.ex fun b zs h => Ex0.ap (Ex0.new nu) h).ex up).snoc (up _ _ upd_same)
    · rw [hP.len, List.take_length] at hp
      have hl2 := Ex0.ap e hl
      have hP2 := hP.ex fun b zs h => Ex0.ap e h
      have lo := hp.len
      rw [List.length_map] at lo
      have l1 := hP.len
      refine ⟨l, D, _, _, rfl, rfl, hl2, hA, ?_, fun p np => ?_⟩
      · rw [sizeLine_eq]
        omega
      · have ep := Ex0.new (o := .lst (xs ++ acc)) np
        have hPp : Prs (upd H' p (.lst (xs ++ acc))) (xs ++ acc) (opp ps) := (hP2.app hp).ex fun b zs h => Ex0.ap ep h
        refine ⟨p, xs ++ acc, kv (upd H' p (.lst (xs ++ acc))), rfl, SqL.of upd_same, fun v hv => ?_, fun ys p2 srtd stb np2 => ?_⟩
        · obtain ⟨t, x, y, rfl, ht⟩ := hPp.mem v hv
          refine ⟨t, rfl, ?_⟩
          rw [kv_eq ht]
          exact ht
        · refine ⟨p2, ys, rfl, .inl ⟨SqL.of upd_same, fun t nt => ?_⟩⟩
          have e2 := Ex0.new (o := .lst ys) np2
          have e3 := Ex0.new (o := .tup ys) nt
          have hy : Prs (upd H' p (.lst (xs ++ acc))) ys (ys.map (kv (upd H' p (.lst (xs ++ acc))))) := Prs.of_mem fun v hv => hPp.mem v (stb.perm.mem_iff.mp hv)
          refine q t _ ys _ (Fx.trans e (ep.trans (e2.trans e3))) upd_same (hy.ex fun b zs h => Ex0.ap (e2.trans e3) h) ?_ ?_
          · rw [← hPp.map_k]
            exact stb.perm.map _
          · rw [List.pairwise_map]
            refine List.Pairwise.imp (fun {u v} h => ?_) srtd
            rcases Int.lt_trichotomy (kv (upd H' p (.lst (xs ++ acc))) u).1 (kv (upd H' p (.lst (xs ++ acc))) v).1 with z | z | z
            · exact .inl z
            · refine .inr ⟨z, ?_⟩
              rcases Int.lt_or_le (kv (upd H' p (.lst (xs ++ acc))) v).2 (kv (upd H' p (.lst (xs ++ acc))) u).2 with w | w
              · have := SrtO.lexB_iff.mpr (Or.inr ⟨z.symm, w⟩)
                rw [show SrtO.lexB (kv (upd H' p (.lst (xs ++ acc))) v) (kv (upd H' p (.lst (xs ++ acc))) u) = false from h] at this
                cases this
              · exact w
            · have := SrtO.lexB_iff.mpr (Or.inl z)
              rw [show SrtO.lexB (kv (upd H' p (.lst (xs ++ acc))) v) (kv (upd H' p (.lst (xs ++ acc))) u) = false from h] at this
              cases this
theorem ok_row_makers (T : Txt K mg C_Form) : Def P w K mg base 1 "row_makers" ["coefficients", "most", "y"] (sp_row_makers K C_Form) := by
  obtain ⟨f_, fd_, g_, F_⟩ := T.d_row_makers
  refine ⟨f_, fd_, g_, F_.kp, F_.binds (ps := ["coefficients", "most", "y"]) (fun _ _ _ _ _ _ us hl => match us, hl with | [_, _, _], _ => rfl), ?_⟩
  refine F_.ok sc_row_makers (fun vs H Q E h => ?_) (fun cdv A outer s H vs Q E hr h => ?_)
  · first | (obtain ⟨rfl, _⟩ := h; rfl) | (obtain ⟨_, rfl, _⟩ := h; rfl) | (obtain ⟨_, _, rfl, _⟩ := h; rfl) | (obtain ⟨_, _, _, rfl, _⟩ := h; rfl) | (obtain ⟨_, _, _, _, rfl, _⟩ := h; rfl) | (obtain ⟨_, _, _, _, _, rfl, _⟩ := h; rfl) | (obtain ⟨_, _, _, _, _, _, rfl, _⟩ := h; rfl) | (obtain ⟨_, _, _, _, _, _, _, rfl, _⟩ := h; rfl) | (obtain ⟨_, _, _, _, _, _, _, _, rfl, _⟩ := h; rfl) | (obtain ⟨_, _, _, _, _, _, _, _, _, rfl, _⟩ := h; rfl) | (obtain ⟨_, _, _, _, _, _, _, _, _, _, rfl, _⟩ := h; rfl) | (obtain ⟨_, _, _, _, _, _, _, _, _, _, _, rfl, _⟩ := h; rfl) | (obtain ⟨_, _, _, _, _, _, _, _, _, _, _, _, rfl, _⟩ := h; rfl) | (obtain ⟨_, _, _, _, _, _, _, _, _, _, _, _, _, rfl, _⟩ := h; rfl) | (obtain ⟨_, _, _, _, _, _, _, _, _, _, _, _, _, _, rfl, _⟩ := h; rfl) | (obtain ⟨_, _, _, _, _, _, _, _, _, _, _, _, _, _, _, rfl, _⟩ := h; rfl) | (obtain ⟨_, _, _, _, _, _, _, _, _, _, _, _, _, _, _, _, rfl, _⟩ := h; rfl) | (obtain ⟨_, _, _, _, _, _, _, _, _, _, _, _, _, _, _, _, _, rfl, _⟩ := h; rfl) | (obtain ⟨_, _, _, _, _, _, _, _, _, _, _, _, _, _, _, _, _, _, rfl, _⟩ := h; rfl) | (obtain ⟨_, _, _, _, _, _, _, _, _, _, _, _, _, _, _, _, _, _, _, rfl, _⟩ := h; rfl) | (obtain ⟨_, _, _, _, _, _, _, _, _, _, _, _, _, _, _, _, _, _, _, _, rfl, _⟩ := h; rfl) | (obtain ⟨_, _, _, _, _, _, _, _, _, _, _, _, _, _, _, _, _, _, _, _, _, rfl, _⟩ := h; rfl) | (obtain ⟨_, _, _, _, _, _, _, _, _, _, _, _, _, _, _, _, _, _, _, _, _, _, rfl, _⟩ := h; rfl) | (obtain ⟨_, _, _, _, _, _, _, _, _, _, _, _, _, _, _, _, _, _, _, _, _, _, _, rfl, _⟩ := h; rfl)
  · obtain ⟨t, a, b, c, d, m, y, rfl, ht, ⟨ba, bb, bc, bd⟩, hm, hy, q⟩ := h
    refine ⟨_, (pss_cons (ps_asg (pv 0) (pg_tup (by rfl) (pgs_cons (pg_name (i := 3) sc_row_makers.nd rfl (.inr rfl)) (pgs_cons (pg_name (i := 4) sc_row_makers.nd rfl (.inl rfl)) (pgs_cons (pg_name (i := 5) sc_row_makers.nd rfl (.inl rfl)) (pgs_cons (pg_name (i := 6) sc_row_makers.nd rfl (.inl rfl)) pgs_nil))))))
    (pss_cons (ps_asg (pe_tup (pa_cons (pe_op op_mulW (pv 4) (pv 2)) (pa_cons (pe_op op_mulW (pe_op op_mulW (pv 5) (pv 2)) (pv 2)) (pa_cons (pe_op op_mulW (pe_op op_mulW (pe_op op_mulW (pv 6) (pv 2)) (pv 2)) (pv 2)) pa_nil)))) (pg_tup (by rfl) (pgs_cons (pg_name (i := 7) sc_row_makers.nd rfl (.inr rfl)) (pgs_cons (pg_name (i := 8) sc_row_makers.nd rfl (.inr rfl)) (pgs_cons (pg_name (i := 9) sc_row_makers.nd rfl (.inr rfl)) pgs_nil)))))
    (pss_one (ps_ret (pe_lc (own := [("x", 10)]) (g := (gName 10)) rfl sc_row_makers.nd (pi_range2 (by rfl) T.b_range (pa_cons (pe_un un_neg (pv 1)) (pa_cons (pe_op op_add (pv 1) pe_int) pa_nil))) (blkOk_by (N := N_row_makers) (sc := defScope s_row_makers) (by decide +kernel)) (fun _ _ _ _ _ => (pg_name (i := 10) sc_row_makers.nd rfl (.inl rfl))) (fun _ _ _ _ _ => (pts_one (pt_cmpR (op_in_seqK (K := K) rfl) (pe_op op_add (pe_op op_mulW (pe_op op_add (pe_op op_mulW (pe_op op_add (pe_op op_mulW (pv 3) (pv 10)) (pv 7)) (pv 10)) (pv 8)) (pv 10)) (pv 9)) (pe_tup (pa_cons pe_int (pa_cons (pe_un un_neg pe_int) pa_nil))) (by with_unfolding_all rfl)))) (fun _ _ _ _ _ => (pe_tup (pa_cons (pv 10) (pa_cons (pv 2) pa_nil))))))))), ?_⟩
    have by' : B 7 y := ⟨by omega, by decide⟩
    refine ⟨_, rfl, unI4 ht ?_⟩
    refine ⟨_, rfl, _, rfl, _, _, rfl, rfl, mulB bb by' (by decide), _, rfl, _, rfl, _, _, rfl, rfl, mulB bc by' (by decide), _, rfl, _, _, rfl, rfl, mulB (B.mul bc by') by' (by decide), _, rfl, _, rfl, _, _, rfl, rfl, mulB bd by' (by decide), _, rfl, _, _, rfl, rfl, mulB (B.mul bd by') by' (by decide), _, rfl, _, _, rfl, rfl, mulB (B.mul (B.mul bd by') by') by' (by decide), sl3, fun u nu => ?_⟩
    refine ⟨u, _, rfl, SqT.of upd_same, rfl, _, _, rfl, _, _, rfl, _, _, rfl, rfl, ?_⟩
    have e0 := Ex0.new (o := .tup [.int (b * y), .int (c * y * y), .int (d * y * y * y)]) nu
    refine ⟨_, rfl, _, rfl, _, rfl, _, _, rfl, rfl, _, _, rfl, ⟨by omega, by omega, by omega, by omega⟩, ?_⟩
    refine lcR fm0 trivial (fun i acc H' => Prs H' acc (((List.range i).filter fun (i : Nat) => mk1 a b c d (-(m : Int) + (i : Int)) y).map fun (i : Nat) => (-(m : Int) + (i : Int), y))) (fun _ _ => .nil) (fun D i acc H' hD hi e hA hlen hp => ?_) (fun D H' acc hD e hA hp => ?_)
    · refine ⟨rfl, ?_⟩
      have hi2 : i < 2 * m + 1 := by omega
      have bx : B 7 (-(m : Int) + (i : Int)) := ⟨by omega, by decide⟩
      have s1 := B.add (B.mul ba bx) (B.mul bb by')
      have s2 := B.add (B.mul s1 bx) (B.mul (B.mul bc by') by')
      refine ⟨_, rfl, _, rfl, _, _, rfl, rfl, mulB ba bx (by decide), _, rfl, _, _, rfl, rfl, _, rfl, _, _, rfl, rfl, mulB s1 bx (by decide), _, rfl, _, _, rfl, rfl, _, rfl, _, _, rfl, rfl, mulB s2 bx (by decide), _, rfl, _, _, rfl, rfl, _, rfl, sl2, fun z nz => ?_⟩
      refine ⟨z, _, rfl, .inr (SqT.of upd_same), rfl, rfl, _, rfl, ?_⟩
      have ez := Ex0.new (o := .tup [.int 1, .int (-1)]) nz
      have ev : ((a * (-(m : Int) + (i : Int)) + b * y) * (-(m : Int) + (i : Int)) + c * y * y) * (-(m : Int) + (i : Int)) + d * y * y * y = fv a b c d (-(m : Int) + (i : Int)) y := by unfold fv; grind
      have e1 : inV (.int (((a * (-(m : Int) + (i : Int)) + b * y) * (-(m : Int) + (i : Int)) + c * y * y) * (-(m : Int) + (i : Int)) + d * y * y * y)) [.int 1, .int (-1)] = mk1 a b c d (-(m : Int) + (i : Int)) y := by
        rw [ev]
        unfold mk1
        generalize fv a b c d (-(m : Int) + (i : Int)) y = v
        show ((1 : Int) == v || ((-1 : Int) == v || false)) = _
        apply Bool.eq_iff_iff.mpr
        simp only [Bool.or_false, Bool.or_eq_true, beq_iff_eq, decide_eq_true_iff]
        omega
      show if inV (.int (((a * (-(m : Int) + (i : Int)) + b * y) * (-(m : Int) + (i : Int)) + c * y * y) * (-(m : Int) + (i : Int)) + d * y * y * y)) [.int 1, .int (-1)] = true then _ else _
      rw [e1]
      have hpz := hp.ex fun b zs h => Ex0.ap ez h
      refine iteB (fun hk => ?_) (fun hk => ?_)
      · refine ⟨_, rfl, _, rfl, sl2, fun t2 n2 => ?_⟩
        have e2 := Ex0.new (o := .tup [.int (-(m : Int) + (i : Int)), .int y]) n2
        refine cs_yes fm0 trivial hD e hA hlen (by omega) (ez.trans e2) ?_
        have hA2 := Ex0.ap (ez.trans e2) hA
        have hp2 := hpz.ex fun b zs h => Ex0.ap e2 h
        have h2 : upd (upd H' z (.tup [.int 1, .int (-1)])) t2 (.tup [.int (-(m : Int) + (i : Int)), .int y]) t2 = some (.tup [.int (-(m : Int) + (i : Int)), .int y]) := upd_same
        rw [List.range_succ, List.filter_append, List.map_append, List.filter_cons, hk]
        refine (hp2.ex fun b zs h => ?_).snoc ?_
        · rw [upd_ne (ne_of h hA2 (by intro z; cases z))]
          exact h
        · rw [upd_ne (ne_of h2 hA2 (by intro z; cases z))]
          exact h2
      · refine cs_no fm0 trivial hD e hA hlen ez ?_
        rw [List.range_succ, List.filter_append, List.map_append, List.filter_cons, hk]
        simpa using hpz
    · have hn : ((m : Int) + 1 - -(m : Int)).toNat = 2 * m + 1 := by omega
      rw [hn] at hp
      exact q D H' acc (e0.trans e) hA hp
theorem ok_makers (T : Txt K mg C_Form) : Def P w K mg base 5 "makers" ["form", "most"] (sp_makers K C_Form) := by
  obtain ⟨f_, fd_, g_, F_⟩ := T.d_makers
  obtain ⟨p_Form_coefficients, f_Form_coefficients, fd_Form_coefficients, R_Form_coefficients, b_Form_coefficients, G_Form_coefficients⟩ := (ok_Form_coefficients (P := P) (w := w) (base := base) T)
  obtain ⟨f_check_between, fd_check_between, g_check_between, k_check_between, b_check_between, G_check_between⟩ := (ok_check_between (P := P) (w := w) (base := base) T)
  obtain ⟨f_check_form, fd_check_form, g_check_form, k_check_form, b_check_form, G_check_form⟩ := (ok_check_form (P := P) (w := w) (base := base) T)
  obtain ⟨f_row_makers, fd_row_makers, g_row_makers, k_row_makers, b_row_makers, G_row_makers⟩ := (ok_row_makers (P := P) (w := w) (base := base) T)
  obtain ⟨f_with_opposites, fd_with_opposites, g_with_opposites, k_with_opposites, b_with_opposites, G_with_opposites⟩ := (ok_with_opposites (P := P) (w := w) (base := base) T)
  refine ⟨f_, fd_, g_, F_.kp, F_.binds (ps := ["form", "most"]) (fun _ _ _ _ _ _ us hl => match us, hl with | [_, _], _ => rfl), ?_⟩
  refine F_.ok sc_makers (fun vs H Q E h => ?_) (fun cdv A outer s H vs Q E hr h => ?_)
  · first | (obtain ⟨rfl, _⟩ := h; rfl) | (obtain ⟨_, rfl, _⟩ := h; rfl) | (obtain ⟨_, _, rfl, _⟩ := h; rfl) | (obtain ⟨_, _, _, rfl, _⟩ := h; rfl) | (obtain ⟨_, _, _, _, rfl, _⟩ := h; rfl) | (obtain ⟨_, _, _, _, _, rfl, _⟩ := h; rfl) | (obtain ⟨_, _, _, _, _, _, rfl, _⟩ := h; rfl) | (obtain ⟨_, _, _, _, _, _, _, rfl, _⟩ := h; rfl) | (obtain ⟨_, _, _, _, _, _, _, _, rfl, _⟩ := h; rfl) | (obtain ⟨_, _, _, _, _, _, _, _, _, rfl, _⟩ := h; rfl) | (obtain ⟨_, _, _, _, _, _, _, _, _, _, rfl, _⟩ := h; rfl) | (obtain ⟨_, _, _, _, _, _, _, _, _, _, _, rfl, _⟩ := h; rfl) | (obtain ⟨_, _, _, _, _, _, _, _, _, _, _, _, rfl, _⟩ := h; rfl) | (obtain ⟨_, _, _, _, _, _, _, _, _, _, _, _, _, rfl, _⟩ := h; rfl) | (obtain ⟨_, _, _, _, _, _, _, _, _, _, _, _, _, _, rfl, _⟩ := h; rfl) | (obtain ⟨_, _, _, _, _, _, _, _, _, _, _, _, _, _, _, rfl, _⟩ := h; rfl) | (obtain ⟨_, _, _, _, _, _, _, _, _, _, _, _, _, _, _, _, rfl, _⟩ := h; rfl) | (obtain ⟨_, _, _, _, _, _, _, _, _, _, _, _, _, _, _, _, _, rfl, _⟩ := h; rfl) | (obtain ⟨_, _, _, _, _, _, _, _, _, _, _, _, _, _, _, _, _, _, rfl, _⟩ := h; rfl) | (obtain ⟨_, _, _, _, _, _, _, _, _, _, _, _, _, _, _, _, _, _, _, rfl, _⟩ := h; rfl) | (obtain ⟨_, _, _, _, _, _, _, _, _, _, _, _, _, _, _, _, _, _, _, _, rfl, _⟩ := h; rfl) | (obtain ⟨_, _, _, _, _, _, _, _, _, _, _, _, _, _, _, _, _, _, _, _, _, rfl, _⟩ := h; rfl) | (obtain ⟨_, _, _, _, _, _, _, _, _, _, _, _, _, _, _, _, _, _, _, _, _, _, rfl, _⟩ := h; rfl) | (obtain ⟨_, _, _, _, _, _, _, _, _, _, _, _, _, _, _, _, _, _, _, _, _, _, _, rfl, _⟩ := h; rfl)
  · obtain ⟨z, a, b, c, d, m, rfl, hz, bz, m1, m2, q⟩ := h
    obtain ⟨t_MAX_MAKERS, h_MAX_MAKERS⟩ := T.x_MAX_MAKERS
    refine ⟨_, (pss_cons (ps_expr (pe_call G_check_form (hr.mono (by decide)) (by rfl) g_check_form k_check_form b_check_form .nil pass0 (pa_cons (pv 0) pa_nil)))
    (pss_cons (ps_expr (pe_call G_check_between (hr.mono (by decide)) (by rfl) g_check_between k_check_between b_check_between .nil pass0 (pa_cons (pv 1) (pa_cons pe_int (pa_cons (pe_glob (v := .int 50) (by rfl) h_MAX_MAKERS ⟨_, rfl⟩) pa_nil)))))
    (Evl.pss_cut (ps_set (i := 2) sc_makers.nd rfl (.inl rfl) (pe_ifExp (pt_cmpR op_in_seq (pe_ix ix_tup (pe_prop (pv 0) T.cl_Form R_Form_coefficients G_Form_coefficients (hr.mono (by decide)) b_Form_coefficients .nil pass0 (by rfl)) pe_int (fun _ _ => rfl)) (pe_tup (pa_cons pe_int (pa_cons (pe_un un_neg pe_int) pa_nil))) (by with_unfolding_all rfl)) (pe_lst (pa_cons (pe_tup (pa_cons pe_int (pa_cons pe_int pa_nil))) pa_nil)) (pe_lst pa_nil)))
    (Evl.pss_cut (ps_for PassesOwn.never rfl (pi_range2 (by rfl) T.b_range (pa_cons pe_int (pa_cons (pe_op op_add (pv 1) pe_int) pa_nil))) (pg_name (i := 3) sc_makers.nd rfl (.inl rfl))
      (pss_one (ps_expr (pe_bm PySem.F.plainAttrs_list PySem.F.slot_list_extend PySem.F.type_list_extend mt_extend (pv 2) (pa_cons (pe_call G_row_makers (hr.mono (by decide)) (by rfl) g_row_makers k_row_makers b_row_makers .nil pass0 (pa_cons (pe_prop (pv 0) T.cl_Form R_Form_coefficients G_Form_coefficients (hr.mono (by decide)) b_Form_coefficients .nil pass0 (by rfl)) (pa_cons (pv 1) (pa_cons (pv 3) pa_nil)))) pa_nil)))))
    (pss_one (ps_ret (pe_call G_with_opposites (hr.mono (by decide)) (by rfl) g_with_opposites k_with_opposites b_with_opposites .nil pass0 (pa_cons (pv 2) pa_nil)))))))), ?_⟩
    obtain ⟨dz, tz, hz1, hz2⟩ := id hz
    refine ⟨_, rfl, z, _, rfl, hz, ?_⟩
    refine ⟨_, rfl, (m : Int), 1, 50, rfl, ⟨by omega, by omega⟩, by omega, by omega, ?_⟩
    refine ⟨fun σ H' => ∃ (l : Addr) (xs : List V), σ = [some (.ref z), some (.int (m : Int)), some (.ref l), none] ∧ H l = none ∧ Ex0 H H' ∧ H' l = some (.lst xs) ∧ Prs H' xs (if a = 1 ∨ a = -1 then [((1 : Int), (0 : Int))] else []), ?_, ?_⟩
    · refine ⟨_, rfl, z, dz, _, rfl, hz1, z, _, rfl, hz, fun t ht => ?_⟩
      refine ⟨t, _, 0, .int a, rfl, rfl, SqT.of ht, rfl, _, rfl, sl2, fun u nu => ?_⟩
      refine ⟨u, _, rfl, .inr (SqT.of upd_same), rfl, rfl, _, rfl, ?_⟩
      have eu := Ex0.new (o := .tup [.int 1, .int (-1)]) nu
      have e1 : inV (.int a) [.int 1, .int (-1)] = decide (a = 1 ∨ a = -1) := by
        show ((1 : Int) == a || ((-1 : Int) == a || false)) = _
        apply Bool.eq_iff_iff.mpr
        simp only [Bool.or_false, Bool.or_eq_true, beq_iff_eq, decide_eq_true_iff]
        omega
      show if inV (.int a) [.int 1, .int (-1)] = true then _ else _
      rw [e1]
      refine iteD (fun h => ?_) (fun h => ?_)
      · refine ⟨sl2, fun t2 n2 => ⟨sl1, fun l nl => ?_⟩⟩
        have e2 := Ex0.new (o := .tup [.int 1, .int 0]) n2
        have e3 := Ex0.new (o := .lst [.ref t2]) nl
        rw [if_pos h]
        exact ⟨l, _, rfl, Fx.free (eu.trans e2) (fun z => z) nl, eu.trans (e2.trans e3), upd_same, .cons (Ex0.ap e3 upd_same) .nil⟩
      · refine ⟨Nat.zero_le _, fun l nl => ?_⟩
        rw [if_neg h]
        exact ⟨l, _, rfl, Fx.free eu (fun z => z) nl, eu.trans (Ex0.new nl), upd_same, .nil⟩
    rintro σ H1 ⟨l, xs, rfl, nl, e1, hl, hP⟩
    have rl : ∀ y, (rowM a b c d m y).length ≤ 101 := fun y => by
      unfold rowM
      rw [List.length_map]
      refine Nat.le_trans (List.length_filter_le _ _) ?_
      rw [List.length_range]
      omega
    refine ⟨fun σ H' => ∃ (xs : List V) (y3 : Option V), σ = [some (.ref z), some (.int (m : Int)), some (.ref l), y3] ∧ Ex0 H H' ∧ H' l = some (.lst xs) ∧ Prs H' xs (found0 a b c d m) ∧ (found0 a b c d m).length ≤ 1 + 101 * m, ?_, ?_⟩
    · refine ⟨_, rfl, _, _, rfl, rfl, _, _, rfl, ⟨by decide, by decide, by omega, by omega⟩, ?_⟩
      refine for_range (lo := 1) (n := ((m : Int) + 1 - 1).toNat) (fun i σ H' => ∃ (xs : List V) (y3 : Option V) (ps : List (Int × Int)), σ = [some (.ref z), some (.int (m : Int)), some (.ref l), y3] ∧ Ex0 H H' ∧ H' l = some (.lst xs) ∧ Prs H' xs ps ∧ ps = (if a = 1 ∨ a = -1 then [((1 : Int), (0 : Int))] else []) ++ (List.range i).flatMap (fun (i : Nat) => rowM a b c d m (1 + (i : Int))) ∧ ps.length ≤ 1 + 101 * i) ⟨xs, none, _, rfl, e1, hl, hP, by simp, by split <;> simp⟩ ?_ ?_
      · rintro i σ H2 hi ⟨xs, y3, ps, rfl, e2, hl2, hP2, hps, hlen⟩
        have hz2' := Ex0.fo e2 hz
        refine ⟨_, rfl, .inl ⟨rfl, _, SqL.of hl2⟩, ?_⟩
        refine ⟨_, rfl, z, dz, _, rfl, Ex0.ap e2 hz1, z, _, rfl, hz2', fun t' ht' => ?_⟩
        refine ⟨_, rfl, _, rfl, t', a, b, c, d, m, 1 + (i : Int), rfl, ht', bz, m2, by omega, fun lb H3 zs e3 hb hPz => ?_⟩
        have hl3 := Ex0.ap e3 hl2
        have lz := hPz.len
        have lx := hP2.len
        have lr := rl (1 + (i : Int))
        refine ⟨l, lb, xs, zs, rfl, rfl, hl3, hb, by rw [sizeLine_eq]; omega, ?_⟩
        have hP3 := (hP2.ex fun b zs h => Ex0.ap e3 h).app hPz
        refine ⟨xs ++ zs, some (.int (1 + (i : Int))), ps ++ rowM a b c d m (1 + (i : Int)), rfl, Fx.mut fm0 (e2.trans e3) trivial nl, upd_same, hP3.ex fun b ws h => ?_, ?_, ?_⟩
        · rw [upd_ne (ne_of h hl3 (by intro z; cases z))]
          exact h
        · rw [hps, List.range_succ, List.flatMap_append, List.append_assoc]
          simp
        · rw [List.length_append]
          omega
      · rintro σ H2 ⟨xs, y3, ps, rfl, e2, hl2, hP2, hps, hlen⟩
        have hn : ((m : Int) + 1 - 1).toNat = m := by omega
        rw [hn] at hps hlen
        have : ps = found0 a b c d m := hps
        subst this
        exact ⟨xs, y3, rfl, e2, hl2, hP2, hlen⟩
    rintro σ H2 ⟨xs, y3, rfl, e2, hl2, hP2, hlen⟩
    refine ⟨_, rfl, l, xs, _, rfl, hl2, hP2, by omega, fun t H3 ys qs e3 ht hPq perm srt => ?_⟩
    exact q t H3 ys qs (e2.trans e3) ht hPq perm srt
end
end K72
namespace K72
open PySem PySem.Spec PyProof.Rows L2 Fr
def sp_l_vat (K : PySem.W.Frag) (_ : Addr) : Sp := fun vs H Q _ => ∃ (a : Addr) (ns : List Int) (i : Nat), vs = [.ref a, .int (i : Int)] ∧ SqL K H a (ns.map V.int) ∧ ∀ p H', H p = none → Ex0 H H' → Vat p H' → Q (.ref p) H'
def sp_l_scoop (_ : PySem.W.Frag) (_ : Addr) : Sp := fun vs H Q _ => ∃ (c : Addr) (t : Int), vs = [.ref c, .int t] ∧ Vat c H ∧ 0 < t ∧ t < 2 ^ 250 ∧ ∀ (r : Int) H', 0 ≤ r → r < t → Fv c H H' → Q (.int r) H'
def sp_l_from (K : PySem.W.Frag) (_ : Addr) : Sp := fun vs H Q _ => ∃ (c l : Addr) (xs : List V), vs = [.ref c, .ref l] ∧ Vat c H ∧ H l = some (.lst xs) ∧ l ≠ c ∧ xs ≠ [] ∧ xs.length ≤ 1000 ∧ ∀ v H', v ∈ xs → Fv c H H' → Q v H'
def sp_l_size (_ : PySem.W.Frag) (_ : Addr) : Sp := fun vs H Q _ => ∃ (c : Addr) (t : Int), vs = [.ref c, .int t] ∧ Vat c H ∧ 0 ≤ t ∧ t < 2 ^ 240 ∧ ∀ (r : Int) H', -t ≤ r → r ≤ t → Fv c H H' → Q (.int r) H'
section
variable {P : Program} {w : World} {K : PySem.W.Frag} {mg : Str → Option Value} {base : Heap} {C_Form : Addr}
theorem ok_l_vat (T : Txt K mg C_Form) : Def P w K mg base 1 "_law_vat" ["_law_script", "_law_at"] (sp_l_vat K C_Form) := by
  obtain ⟨f_, fd_, g_, F_⟩ := T.d_l_vat
  refine ⟨f_, fd_, g_, F_.kp, F_.binds (ps := ["_law_script", "_law_at"]) (fun _ _ _ _ _ _ us hl => match us, hl with | [_, _], _ => rfl), ?_⟩
  refine F_.ok sc_l_vat (fun vs H Q E h => ?_) (fun cdv A outer s H vs Q E hr h => ?_)
  · first | (obtain ⟨rfl, _⟩ := h; rfl) | (obtain ⟨_, rfl, _⟩ := h; rfl) | (obtain ⟨_, _, rfl, _⟩ := h; rfl) | (obtain ⟨_, _, _, rfl, _⟩ := h; rfl) | (obtain ⟨_, _, _, _, rfl, _⟩ := h; rfl) | (obtain ⟨_, _, _, _, _, rfl, _⟩ := h; rfl) | (obtain ⟨_, _, _, _, _, _, rfl, _⟩ := h; rfl) | (obtain ⟨_, _, _, _, _, _, _, rfl, _⟩ := h; rfl) | (obtain ⟨_, _, _, _, _, _, _, _, rfl, _⟩ := h; rfl) | (obtain ⟨_, _, _, _, _, _, _, _, _, rfl, _⟩ := h; rfl) | (obtain ⟨_, _, _, _, _, _, _, _, _, _, rfl, _⟩ := h; rfl) | (obtain ⟨_, _, _, _, _, _, _, _, _, _, _, rfl, _⟩ := h; rfl) | (obtain ⟨_, _, _, _, _, _, _, _, _, _, _, _, rfl, _⟩ := h; rfl) | (obtain ⟨_, _, _, _, _, _, _, _, _, _, _, _, _, rfl, _⟩ := h; rfl) | (obtain ⟨_, _, _, _, _, _, _, _, _, _, _, _, _, _, rfl, _⟩ := h; rfl) | (obtain ⟨_, _, _, _, _, _, _, _, _, _, _, _, _, _, _, rfl, _⟩ := h; rfl) | (obtain ⟨_, _, _, _, _, _, _, _, _, _, _, _, _, _, _, _, rfl, _⟩ := h; rfl) | (obtain ⟨_, _, _, _, _, _, _, _, _, _, _, _, _, _, _, _, _, rfl, _⟩ := h; rfl) | (obtain ⟨_, _, _, _, _, _, _, _, _, _, _, _, _, _, _, _, _, _, rfl, _⟩ := h; rfl) | (obtain ⟨_, _, _, _, _, _, _, _, _, _, _, _, _, _, _, _, _, _, _, rfl, _⟩ := h; rfl) | (obtain ⟨_, _, _, _, _, _, _, _, _, _, _, _, _, _, _, _, _, _, _, _, rfl, _⟩ := h; rfl) | (obtain ⟨_, _, _, _, _, _, _, _, _, _, _, _, _, _, _, _, _, _, _, _, _, rfl, _⟩ := h; rfl) | (obtain ⟨_, _, _, _, _, _, _, _, _, _, _, _, _, _, _, _, _, _, _, _, _, _, rfl, _⟩ := h; rfl) | (obtain ⟨_, _, _, _, _, _, _, _, _, _, _, _, _, _, _, _, _, _, _, _, _, _, _, rfl, _⟩ := h; rfl)
  · obtain ⟨a, ns, i, rfl, ha, q⟩ := h
    refine ⟨_, (Evl.pss_cut (ps_set (i := 2) sc_l_vat.nd rfl (.inl rfl) (pe_ifExp (pt_cmpR op_lt (pv 1) (pe_callB call_len_seq (by rfl) T.b_len PySem.boot_len (pa_cons (pv 0) pa_nil)) (nomark _)) (pe_callTy call_int1 (by rfl) T.b_int (by decide +kernel) (pa_cons (pe_ix ix_list (pv 0) (pv 1) (fun _ _ => rfl)) pa_nil)) (pe_op op_add (pe_op op_mul pe_int (pv 1)) pe_int)))
    (pss_cons (ps_set (i := 3) sc_l_vat.nd rfl (.inl rfl) (pe_op op_mod (pe_callB call_abs (by rfl) T.b_abs (by decide +kernel) (pa_cons (pv 2) pa_nil)) (pe_op op_powC (pe_op op_pow pe_int pe_int) pe_int)))
    (pss_cons (ps_set (i := 4) sc_l_vat.nd rfl (.inl rfl) (pe_op op_add (pe_op op_add (pe_op op_add (pe_op op_mul (pe_op op_mod (pv 3) pe_int) pe_int) (pe_op op_mul pe_int (pv 1))) (pe_op op_mul pe_int (pe_callTy call_int1 (by rfl) T.b_int (by decide +kernel) (pa_cons (pe_cmpR op_lt (pv 2) pe_int (nomark _)) pa_nil)))) pe_int))
    (pss_one (ps_ret (pe_lst (pa_cons (pe_callB (call_max2 rfl) (by rfl) T.b_max (by decide +kernel) (pa_cons pe_int (pa_cons (pe_op op_sub (pv 3) (pe_op op_pow pe_int pe_int)) pa_nil))) (pa_cons (pv 4) (pa_cons pe_int pa_nil))))))))), ?_⟩
    refine ⟨fun σ H' => ∃ cell : Int, σ = [some (.ref a), some (.int (i : Int)), some (.int cell), none, none] ∧ H' = H, ?_, ?_⟩
    · refine ⟨_, rfl, _, rfl, a, _, rfl, .inl ha, _, _, rfl, rfl, _, rfl, iteD (fun g => ?_) (fun g => ?_)⟩
      · have hi : i < ns.length := by rw [List.length_map] at g; omega
        refine ⟨_, rfl, _, rfl, a, _, (i : Int), .int ns[i], rfl, rfl, ha, atI_nat (by rw [List.getElem?_map, List.getElem?_eq_getElem hi]; rfl), .inl ⟨_, rfl, ?_⟩⟩
        exact ⟨_, rfl, rfl⟩
      · refine ⟨_, rfl, _, _, rfl, rfl, .inl ⟨by decide, by decide⟩, _, _, rfl, rfl, ?_⟩
        exact ⟨_, rfl, rfl⟩
    · rintro σ H' ⟨cell, rfl, rfl⟩
      refine ⟨_, rfl, cell, rfl, _, _, rfl, rfl, ⟨by decide, by decide, by decide⟩, _, _, rfl, rfl, ⟨by decide, by decide +kernel⟩, _, _, rfl, rfl, by show (0 : Int) < (10 ^ 54) ^ 4; decide +kernel, ?_⟩
      refine ⟨_, rfl, _, _, rfl, rfl, (show (0 : Int) < 4611686018427387733 by decide), _, _, rfl, rfl, .inr ⟨by decide, by decide⟩, _, rfl, _, _, rfl, rfl, .inl ⟨by decide, by decide⟩, _, _, rfl, rfl, ?_⟩
      refine ⟨_, rfl, _, _, rfl, rfl, .inr ⟨_, rfl, _, _, rfl, rfl, .inl ⟨by decide, by decide⟩, _, _, rfl, rfl, _, _, rfl, rfl, ?_⟩⟩
      refine ⟨_, rfl, _, _, rfl, rfl, ⟨by decide, by decide, by decide⟩, _, _, rfl, rfl, _, _, rfl, _, rfl, sl3, fun p hp => ?_⟩
      exact q p _ hp (Ex0.new hp) ⟨_, _, _, upd_same⟩
theorem ok_l_scoop (T : Txt K mg C_Form) : Def P w K mg base 1 "_law_scoop" ["_law_vat_here", "_law_total"] (sp_l_scoop K C_Form) := by
  obtain ⟨f_, fd_, g_, F_⟩ := T.d_l_scoop
  refine ⟨f_, fd_, g_, F_.kp, F_.binds (ps := ["_law_vat_here", "_law_total"]) (fun _ _ _ _ _ _ us hl => match us, hl with | [_, _], _ => rfl), ?_⟩
  refine F_.ok sc_l_scoop (fun vs H Q E h => ?_) (fun cdv A outer s H vs Q E hr h => ?_)
  · first | (obtain ⟨rfl, _⟩ := h; rfl) | (obtain ⟨_, rfl, _⟩ := h; rfl) | (obtain ⟨_, _, rfl, _⟩ := h; rfl) | (obtain ⟨_, _, _, rfl, _⟩ := h; rfl) | (obtain ⟨_, _, _, _, rfl, _⟩ := h; rfl) | (obtain ⟨_, _, _, _, _, rfl, _⟩ := h; rfl) | (obtain ⟨_, _, _, _, _, _, rfl, _⟩ := h; rfl) | (obtain ⟨_, _, _, _, _, _, _, rfl, _⟩ := h; rfl) | (obtain ⟨_, _, _, _, _, _, _, _, rfl, _⟩ := h; rfl) | (obtain ⟨_, _, _, _, _, _, _, _, _, rfl, _⟩ := h; rfl) | (obtain ⟨_, _, _, _, _, _, _, _, _, _, rfl, _⟩ := h; rfl) | (obtain ⟨_, _, _, _, _, _, _, _, _, _, _, rfl, _⟩ := h; rfl) | (obtain ⟨_, _, _, _, _, _, _, _, _, _, _, _, rfl, _⟩ := h; rfl) | (obtain ⟨_, _, _, _, _, _, _, _, _, _, _, _, _, rfl, _⟩ := h; rfl) | (obtain ⟨_, _, _, _, _, _, _, _, _, _, _, _, _, _, rfl, _⟩ := h; rfl) | (obtain ⟨_, _, _, _, _, _, _, _, _, _, _, _, _, _, _, rfl, _⟩ := h; rfl) | (obtain ⟨_, _, _, _, _, _, _, _, _, _, _, _, _, _, _, _, rfl, _⟩ := h; rfl) | (obtain ⟨_, _, _, _, _, _, _, _, _, _, _, _, _, _, _, _, _, rfl, _⟩ := h; rfl) | (obtain ⟨_, _, _, _, _, _, _, _, _, _, _, _, _, _, _, _, _, _, rfl, _⟩ := h; rfl) | (obtain ⟨_, _, _, _, _, _, _, _, _, _, _, _, _, _, _, _, _, _, _, rfl, _⟩ := h; rfl) | (obtain ⟨_, _, _, _, _, _, _, _, _, _, _, _, _, _, _, _, _, _, _, _, rfl, _⟩ := h; rfl) | (obtain ⟨_, _, _, _, _, _, _, _, _, _, _, _, _, _, _, _, _, _, _, _, _, rfl, _⟩ := h; rfl) | (obtain ⟨_, _, _, _, _, _, _, _, _, _, _, _, _, _, _, _, _, _, _, _, _, _, rfl, _⟩ := h; rfl) | (obtain ⟨_, _, _, _, _, _, _, _, _, _, _, _, _, _, _, _, _, _, _, _, _, _, _, rfl, _⟩ := h; rfl)
  · obtain ⟨c, t, rfl, ⟨x, y, z, hv⟩, h0, h1, q⟩ := h
    refine ⟨_, (pss_cons (ps_if (pt_cmpR op_gt (pe_ix ix_list (pv 0) pe_int (fun _ _ => rfl)) pe_int (nomark _))
      (pss_cons (ps_set (i := 2) sc_l_scoop.nd rfl (.inl rfl) (pe_op op_mod (pe_callTy call_int1 (by rfl) T.b_int (by decide +kernel) (pa_cons (pe_ix ix_list (pv 0) pe_int (fun _ _ => rfl)) pa_nil)) (pv 1)))
    (pss_cons (ps_asg (pe_op op_fdivW (pe_ix ix_list (pv 0) pe_int (fun _ _ => rfl)) (pv 1)) (pg_sub (pv 0) pe_int set_list))
    (pss_one (ps_ret (pv 2)))))
      pss_nil)
    (pss_cons (ps_asg (pe_op op_add (pe_ix ix_list (pv 0) pe_int (fun _ _ => rfl)) pe_int) (pg_sub (pv 0) pe_int set_list))
    (pss_cons (ps_set (i := 3) sc_l_scoop.nd rfl (.inl rfl) (pe_op op_mod (pe_callTy call_int1 (by rfl) T.b_int (by decide +kernel) (pa_cons (pe_op op_add (pe_ix ix_list (pv 0) pe_int (fun _ _ => rfl)) (pe_op op_mul pe_int (pe_ix ix_list (pv 0) pe_int (fun _ _ => rfl)))) pa_nil)) pe_int))
    (pss_cons (ps_set (i := 4) sc_l_scoop.nd rfl (.inl rfl) (pe_op op_mod (pe_callTy call_int1 (by rfl) T.b_int (by decide +kernel) (pa_cons (pe_op op_add (pe_op op_mul (pv 3) (pv 3)) (pe_op op_mul pe_int (pe_ix ix_list (pv 0) pe_int (fun _ _ => rfl)))) pa_nil)) pe_int))
    (pss_one (ps_ret (pe_op op_mod (pe_callTy call_int1 (by rfl) T.b_int (by decide +kernel) (pa_cons (pe_op op_fdivW (pe_callTy call_int1 (by rfl) T.b_int (by decide +kernel) (pa_cons (pe_op op_add (pe_op op_mul (pv 4) pe_int) (pv 3)) pa_nil)) pe_int) pa_nil)) (pv 1)))))))), ?_⟩
    have fv : ∀ (H' : Hp) (x' y' z' : Int), (∀ b o, b ≠ c → H b = some o → H' b = some o) → H' c = some (.lst [.int x', .int y', .int z']) → Fv c H H' := fun H' x' y' z' a b => ⟨⟨x', y', z', b⟩, a⟩
    refine ⟨_, rfl, c, _, 0, .int x, rfl, rfl, SqL.of hv, rfl, x, 0, rfl, rfl, _, rfl, iteD (fun g => ?_) (fun g => ?_)⟩
    · refine ⟨_, rfl, c, _, 0, .int x, rfl, rfl, SqL.of hv, rfl, .inl ⟨x, rfl, _, rfl, x, t, rfl, rfl, h0, ?_⟩⟩
      refine ⟨_, rfl, c, _, 0, .int x, rfl, rfl, SqL.of hv, rfl, _, rfl, x, t, rfl, rfl, dw h0 h1, ?_⟩
      refine ⟨_, rfl, c, _, 0, 0, rfl, rfl, hv, rfl, ?_⟩
      refine ⟨_, rfl, ?_⟩
      exact q _ _ (Int.emod_nonneg _ (by omega)) (Int.emod_lt_of_pos _ h0) (fv _ _ _ _ (fun b o n e => by rw [upd_ne n]; exact e) upd_same)
    · refine ⟨_, rfl, c, _, 2, .int z, rfl, rfl, SqL.of hv, rfl, _, 1, rfl, rfl, ?_⟩
      refine ⟨_, rfl, c, _, 2, 2, rfl, rfl, hv, rfl, ?_⟩
      have hv2 : upd H c (.lst [.int x, .int y, .int (z + 1)]) c = some (.lst [.int x, .int y, .int (z + 1)]) := upd_same
      refine ⟨_, rfl, c, _, 1, .int y, rfl, rfl, SqL.of hv2, rfl, _, rfl, c, _, 2, .int (z + 1), rfl, rfl, SqL.of hv2, rfl, _, _, rfl, rfl, .inl ⟨by decide, by decide⟩, _, _, rfl, rfl, .inl ⟨_, rfl, ?_⟩⟩
      refine ⟨_, _, rfl, rfl, (show (0 : Int) < 4611686018427387701 by decide), ?_⟩
      refine ⟨_, rfl, _, rfl, _, _, rfl, rfl, .inl ⟨by omega, by omega⟩, _, rfl, c, _, 2, .int (z + 1), rfl, rfl, SqL.of hv2, rfl, _, _, rfl, rfl, .inl ⟨by decide, by decide⟩, _, _, rfl, rfl, .inl ⟨_, rfl, ?_⟩⟩
      refine ⟨_, _, rfl, rfl, (show (0 : Int) < 4611686018427387617 by decide), ?_⟩
      refine ⟨_, rfl, _, _, rfl, rfl, .inl ⟨by omega, by omega⟩, _, rfl, _, _, rfl, rfl, .inl ⟨_, rfl, ?_⟩⟩
      refine ⟨_, _, rfl, rfl, dw (by decide) (by decide), .inl ⟨_, rfl, _, rfl, _, _, rfl, rfl, h0, ?_⟩⟩
      exact q _ _ (Int.emod_nonneg _ (by omega)) (Int.emod_lt_of_pos _ h0) (fv _ _ _ _ (fun b o n e => by rw [upd_ne n]; exact e) hv2)
theorem ok_l_from (T : Txt K mg C_Form) : Def P w K mg base 2 "_law_from" ["_law_vat_here", "_law_items"] (sp_l_from K C_Form) := by
  obtain ⟨f_, fd_, g_, F_⟩ := T.d_l_from
  obtain ⟨f_l_scoop, fd_l_scoop, g_l_scoop, k_l_scoop, b_l_scoop, G_l_scoop⟩ := (ok_l_scoop (P := P) (w := w) (base := base) T)
  refine ⟨f_, fd_, g_, F_.kp, F_.binds (ps := ["_law_vat_here", "_law_items"]) (fun _ _ _ _ _ _ us hl => match us, hl with | [_, _], _ => rfl), ?_⟩
  refine F_.ok sc_l_from (fun vs H Q E h => ?_) (fun cdv A outer s H vs Q E hr h => ?_)
  · first | (obtain ⟨rfl, _⟩ := h; rfl) | (obtain ⟨_, rfl, _⟩ := h; rfl) | (obtain ⟨_, _, rfl, _⟩ := h; rfl) | (obtain ⟨_, _, _, rfl, _⟩ := h; rfl) | (obtain ⟨_, _, _, _, rfl, _⟩ := h; rfl) | (obtain ⟨_, _, _, _, _, rfl, _⟩ := h; rfl) | (obtain ⟨_, _, _, _, _, _, rfl, _⟩ := h; rfl) | (obtain ⟨_, _, _, _, _, _, _, rfl, _⟩ := h; rfl) | (obtain ⟨_, _, _, _, _, _, _, _, rfl, _⟩ := h; rfl) | (obtain ⟨_, _, _, _, _, _, _, _, _, rfl, _⟩ := h; rfl) | (obtain ⟨_, _, _, _, _, _, _, _, _, _, rfl, _⟩ := h; rfl) | (obtain ⟨_, _, _, _, _, _, _, _, _, _, _, rfl, _⟩ := h; rfl) | (obtain ⟨_, _, _, _, _, _, _, _, _, _, _, _, rfl, _⟩ := h; rfl) | (obtain ⟨_, _, _, _, _, _, _, _, _, _, _, _, _, rfl, _⟩ := h; rfl) | (obtain ⟨_, _, _, _, _, _, _, _, _, _, _, _, _, _, rfl, _⟩ := h; rfl) | (obtain ⟨_, _, _, _, _, _, _, _, _, _, _, _, _, _, _, rfl, _⟩ := h; rfl) | (obtain ⟨_, _, _, _, _, _, _, _, _, _, _, _, _, _, _, _, rfl, _⟩ := h; rfl) | (obtain ⟨_, _, _, _, _, _, _, _, _, _, _, _, _, _, _, _, _, rfl, _⟩ := h; rfl) | (obtain ⟨_, _, _, _, _, _, _, _, _, _, _, _, _, _, _, _, _, _, rfl, _⟩ := h; rfl) | (obtain ⟨_, _, _, _, _, _, _, _, _, _, _, _, _, _, _, _, _, _, _, rfl, _⟩ := h; rfl) | (obtain ⟨_, _, _, _, _, _, _, _, _, _, _, _, _, _, _, _, _, _, _, _, rfl, _⟩ := h; rfl) | (obtain ⟨_, _, _, _, _, _, _, _, _, _, _, _, _, _, _, _, _, _, _, _, _, rfl, _⟩ := h; rfl) | (obtain ⟨_, _, _, _, _, _, _, _, _, _, _, _, _, _, _, _, _, _, _, _, _, _, rfl, _⟩ := h; rfl) | (obtain ⟨_, _, _, _, _, _, _, _, _, _, _, _, _, _, _, _, _, _, _, _, _, _, _, rfl, _⟩ := h; rfl)
  · obtain ⟨c, l, xs, rfl, hc, hl, ne, hx, hz, q⟩ := h
    refine ⟨_, (pss_one (ps_ret (pe_ix ix_list (pv 1) (pe_call G_l_scoop (hr.mono (by decide)) (by rfl) g_l_scoop k_l_scoop b_l_scoop .nil pass0 (pa_cons (pv 0) (pa_cons (pe_callB call_len_seq (by rfl) T.b_len PySem.boot_len (pa_cons (pv 1) pa_nil)) pa_nil))) (fun _ _ => rfl)))), ?_⟩
    have h0 : 0 < xs.length := List.length_pos_iff.mpr hx
    refine ⟨_, rfl, _, rfl, _, rfl, l, xs, rfl, .inl (SqL.of hl), c, _, rfl, hc, by omega, by omega, fun r H' r0 r1 e => ?_⟩
    obtain ⟨j, rfl⟩ : ∃ j : Nat, r = (j : Int) := ⟨r.toNat, by omega⟩
    have hj : j < xs.length := by omega
    exact ⟨l, xs, _, xs[j], rfl, rfl, SqL.of (e.2 _ _ ne hl), atI_nat (List.getElem?_eq_getElem hj), q _ _ (List.getElem_mem hj) e⟩
theorem ok_l_size (T : Txt K mg C_Form) : Def P w K mg base 2 "_law_size" ["_law_vat_here", "_law_most"] (sp_l_size K C_Form) := by
  obtain ⟨f_, fd_, g_, F_⟩ := T.d_l_size
  obtain ⟨f_l_scoop, fd_l_scoop, g_l_scoop, k_l_scoop, b_l_scoop, G_l_scoop⟩ := (ok_l_scoop (P := P) (w := w) (base := base) T)
  refine ⟨f_, fd_, g_, F_.kp, F_.binds (ps := ["_law_vat_here", "_law_most"]) (fun _ _ _ _ _ _ us hl => match us, hl with | [_, _], _ => rfl), ?_⟩
  refine F_.ok sc_l_size (fun vs H Q E h => ?_) (fun cdv A outer s H vs Q E hr h => ?_)
  · first | (obtain ⟨rfl, _⟩ := h; rfl) | (obtain ⟨_, rfl, _⟩ := h; rfl) | (obtain ⟨_, _, rfl, _⟩ := h; rfl) | (obtain ⟨_, _, _, rfl, _⟩ := h; rfl) | (obtain ⟨_, _, _, _, rfl, _⟩ := h; rfl) | (obtain ⟨_, _, _, _, _, rfl, _⟩ := h; rfl) | (obtain ⟨_, _, _, _, _, _, rfl, _⟩ := h; rfl) | (obtain ⟨_, _, _, _, _, _, _, rfl, _⟩ := h; rfl) | (obtain ⟨_, _, _, _, _, _, _, _, rfl, _⟩ := h; rfl) | (obtain ⟨_, _, _, _, _, _, _, _, _, rfl, _⟩ := h; rfl) | (obtain ⟨_, _, _, _, _, _, _, _, _, _, rfl, _⟩ := h; rfl) | (obtain ⟨_, _, _, _, _, _, _, _, _, _, _, rfl, _⟩ := h; rfl) | (obtain ⟨_, _, _, _, _, _, _, _, _, _, _, _, rfl, _⟩ := h; rfl) | (obtain ⟨_, _, _, _, _, _, _, _, _, _, _, _, _, rfl, _⟩ := h; rfl) | (obtain ⟨_, _, _, _, _, _, _, _, _, _, _, _, _, _, rfl, _⟩ := h; rfl) | (obtain ⟨_, _, _, _, _, _, _, _, _, _, _, _, _, _, _, rfl, _⟩ := h; rfl) | (obtain ⟨_, _, _, _, _, _, _, _, _, _, _, _, _, _, _, _, rfl, _⟩ := h; rfl) | (obtain ⟨_, _, _, _, _, _, _, _, _, _, _, _, _, _, _, _, _, rfl, _⟩ := h; rfl) | (obtain ⟨_, _, _, _, _, _, _, _, _, _, _, _, _, _, _, _, _, _, rfl, _⟩ := h; rfl) | (obtain ⟨_, _, _, _, _, _, _, _, _, _, _, _, _, _, _, _, _, _, _, rfl, _⟩ := h; rfl) | (obtain ⟨_, _, _, _, _, _, _, _, _, _, _, _, _, _, _, _, _, _, _, _, rfl, _⟩ := h; rfl) | (obtain ⟨_, _, _, _, _, _, _, _, _, _, _, _, _, _, _, _, _, _, _, _, _, rfl, _⟩ := h; rfl) | (obtain ⟨_, _, _, _, _, _, _, _, _, _, _, _, _, _, _, _, _, _, _, _, _, _, rfl, _⟩ := h; rfl) | (obtain ⟨_, _, _, _, _, _, _, _, _, _, _, _, _, _, _, _, _, _, _, _, _, _, _, rfl, _⟩ := h; rfl)
  · obtain ⟨c, t, rfl, hc, h0, h1, q⟩ := h
    refine ⟨_, (pss_one (ps_ret (pe_op op_sub (pe_call G_l_scoop (hr.mono (by decide)) (by rfl) g_l_scoop k_l_scoop b_l_scoop .nil pass0 (pa_cons (pv 0) (pa_cons (pe_op op_add (pe_op op_mul pe_int (pv 1)) pe_int) pa_nil))) (pv 1)))), ?_⟩
    refine ⟨_, rfl, _, rfl, _, _, rfl, rfl, .inl ⟨by decide, by decide⟩, _, _, rfl, rfl, c, _, rfl, hc, by omega, by omega, fun r H' r0 r1 e => ?_⟩
    exact ⟨_, rfl, _, _, rfl, rfl, q _ _ (by omega) (by omega) e⟩
end
end K72
namespace K72
open PySem PySem.Spec PyProof.Rows L2 Fr
open K05M (fv fl2 fl3 fdisc)
def Gc (p q r s : Int) (M : Nat) : Prop := p.natAbs ≤ M ∧ q.natAbs ≤ M ∧ r.natAbs ≤ M ∧ s.natAbs ≤ M ∧ (p * s - q * r = 1 ∨ p * s - q * r = -1)
def sp_l_value (_ : PySem.W.Frag) (_ : Addr) : Sp := fun vs H Q _ => ∃ (t : Addr) (a b c d x y : Int), vs = [.ref t, .int x, .int y] ∧ Ti H t [a, b, c, d] ∧ B4 400 a b c d ∧ B 310 x ∧ B 310 y ∧ ∀ H', Ex0 H H' → Q (.int (fv a b c d x y)) H'
def sp_l_joined (_ : PySem.W.Frag) (_ : Addr) : Sp := fun vs H Q _ => ∃ (a b : Addr) (p q r s i j k m : Int), vs = [.ref a, .ref b] ∧ T4 H a p q r s ∧ T4 H b i j k m ∧ B4 400 p q r s ∧ B4 400 i j k m ∧ ∀ x H', Ex0 H H' → T4 H' x (i * p + j * r) (i * q + j * s) (k * p + m * r) (k * q + m * s) → Q (.ref x) H'
def sp_l_change (_ : PySem.W.Frag) (_ : Addr) : Sp := fun vs H Q _ => ∃ (c : Addr) (m : Nat), vs = [.ref c, .int (m : Int)] ∧ Vat c H ∧ m ≤ 4 ∧ ∀ x p q r s H', Fv c H H' → T4 H' x p q r s → Gc p q r s 81 → Q (.ref x) H'
def sp_l_led (_ : PySem.W.Frag) (_ : Addr) : Sp := fun vs H Q _ => ∃ (t u : Addr) (a b c d p q r s : Int), vs = [.ref t, .ref u] ∧ Ti H t [a, b, c, d] ∧ T4 H u p q r s ∧ B4 400 a b c d ∧ B4 300 p q r s ∧ ∀ x H', Ex0 H H' → Ti H' x (fled a b c d p q r s) → Q (.ref x) H'
def sp_l_row (_ : PySem.W.Frag) (_ : Addr) : Sp := fun vs H Q _ => ∃ (c : Addr) (n : Nat), vs = [.ref c, .int (n : Int)] ∧ Vat c H ∧ n ≤ 1000 ∧ ∀ t a b e d H', Fv c H H' → Ti H' t [a, b, e, d] → (∀ z ∈ [a, b, e, d], z.natAbs ≤ n) → Q (.ref t) H'
def sp_l_wide (_ : PySem.W.Frag) (_ : Addr) : Sp := fun vs H Q _ => ∃ c : Addr, vs = [.ref c] ∧ Vat c H ∧ ∀ (n : Int) H', Fv c H H' → Short n → Q (.int n) H'
def sp_l_led_pair (_ : PySem.W.Frag) (_ : Addr) : Sp := fun vs H Q _ => ∃ (u t : Addr) (p q r s x y : Int), vs = [.ref u, .ref t] ∧ T4 H u p q r s ∧ H t = some (.tup [.int x, .int y]) ∧ B4 300 p q r s ∧ B 300 x ∧ B 300 y ∧ ∀ o H', Ex0 H H' → H' o = some (.tup [.int (p * x + r * y), .int (q * x + s * y)]) → Q (.ref o) H'
def madeR (a b c d : Int) (m : Nat) (x : Int) (n : Nat) : List (Int × Int) := ((List.range n).filter fun (j : Nat) => mk1 a b c d x (0 - (m : Int) + (j : Int))).map fun (j : Nat) => (x, 0 - (m : Int) + (j : Int))
def madeL (a b c d : Int) (m : Nat) (n : Nat) : List (Int × Int) := (List.range n).flatMap fun (i : Nat) => madeR a b c d m (0 - (m : Int) + (i : Int)) (2 * m + 1)
def sp_l_made_at (_ : PySem.W.Frag) (_ : Addr) : Sp := fun vs H Q _ => ∃ (t : Addr) (a b c d : Int) (m : Nat), vs = [.ref t, .int (m : Int)] ∧ Ti H t [a, b, c, d] ∧ B4 400 a b c d ∧ m ≤ 50 ∧ ∀ l H' xs, Ex0 H H' → H' l = some (.lst xs) → Prs H' xs (madeL a b c d m (2 * m + 1)) → Q (.ref l) H'
theorem fv_big {a b c d x y : Int} (ba : B 400 a) (bb : B 400 b) (bc : B 400 c) (bd : B 400 d) (bx : B 300 x) (by' : B 300 y) : B 5200 (fv a b c d x y) :=
  B.add (B.add (B.add (B.mul (B.mul (B.mul ba bx) bx) bx) (B.mul (B.mul (B.mul bb bx) bx) by')) (B.mul (B.mul (B.mul bc bx) by') by')) (B.mul (B.mul (B.mul bd by') by') by')
theorem fl_big {a b c d p q r s : Int} (ba : B 400 a) (bb : B 400 b) (bc : B 400 c) (bd : B 400 d) (bp : B 300 p) (bq : B 300 q) (br : B 300 r) (bs : B 300 s) : B 20000 (fl2 a b c d p q r s) ∧ B 20000 (fl3 a b c d p q r s) := by
  have b2 : B 300 2 := ⟨by decide, by decide⟩
  have b3 : B 300 3 := ⟨by decide, by decide⟩
  have m1 : B 1500 (p * s + 2 * q * r) := B.add (B.mul bp bs) (B.mul (B.mul b2 bq) br)
  have m2 : B 1500 (2 * p * s + q * r) := B.add (B.mul (B.mul b2 bp) bs) (B.mul bq br)
  unfold fl2 fl3
  constructor
  · exact (B.add (B.add (B.add (B.mul (B.mul (B.mul (B.mul b3 ba) bp) bp) br) (B.mul (B.mul bb bp) m1)) (B.mul (B.mul bc bq) m2)) (B.mul (B.mul (B.mul (B.mul b3 bd) bq) bq) bs)).mono (by decide)
  · exact (B.add (B.add (B.add (B.mul (B.mul (B.mul (B.mul b3 ba) bp) br) br) (B.mul (B.mul bb br) m2)) (B.mul (B.mul bc bs) m1)) (B.mul (B.mul (B.mul (B.mul b3 bd) bq) bs) bs)).mono (by decide)
theorem fl2_mid (a b c d p q r s : Int) : fv a b c d (p + r) (q + s) - fv a b c d (p - r) (q - s) = 2 * (fl2 a b c d p q r s + fv a b c d r s) := by unfold fv fl2; grind
theorem fl3_mid (a b c d p q r s : Int) : fv a b c d (p + r) (q + s) + fv a b c d (p - r) (q - s) = 2 * (fl3 a b c d p q r s + fv a b c d p q) := by unfold fv fl3; grind
section
variable {P : Program} {w : World} {K : PySem.W.Frag} {mg : Str → Option Value} {base : Heap} {C_Form : Addr}
theorem ok_l_value (T : Txt K mg C_Form) : Def P w K mg base 1 "_law_value" ["_law_numbers", "_law_x", "_law_y"] (sp_l_value K C_Form) := by
  obtain ⟨f_, fd_, g_, F_⟩ := T.d_l_value
  refine ⟨f_, fd_, g_, F_.kp, F_.binds (ps := ["_law_numbers", "_law_x", "_law_y"]) (fun _ _ _ _ _ _ us hl => match us, hl with | [_, _, _], _ => rfl), ?_⟩
  refine F_.ok sc_l_value (fun vs H Q E h => ?_) (fun cdv A outer s H vs Q E hr h => ?_)
  · first | (obtain ⟨rfl, _⟩ := h; rfl) | (obtain ⟨_, rfl, _⟩ := h; rfl) | (obtain ⟨_, _, rfl, _⟩ := h; rfl) | (obtain ⟨_, _, _, rfl, _⟩ := h; rfl) | (obtain ⟨_, _, _, _, rfl, _⟩ := h; rfl) | (obtain ⟨_, _, _, _, _, rfl, _⟩ := h; rfl) | (obtain ⟨_, _, _, _, _, _, rfl, _⟩ := h; rfl) | (obtain ⟨_, _, _, _, _, _, _, rfl, _⟩ := h; rfl) | (obtain ⟨_, _, _, _, _, _, _, _, rfl, _⟩ := h; rfl) | (obtain ⟨_, _, _, _, _, _, _, _, _, rfl, _⟩ := h; rfl) | (obtain ⟨_, _, _, _, _, _, _, _, _, _, rfl, _⟩ := h; rfl) | (obtain ⟨_, _, _, _, _, _, _, _, _, _, _, rfl, _⟩ := h; rfl) | (obtain ⟨_, _, _, _, _, _, _, _, _, _, _, _, rfl, _⟩ := h; rfl) | (obtain ⟨_, _, _, _, _, _, _, _, _, _, _, _, _, rfl, _⟩ := h; rfl) | (obtain ⟨_, _, _, _, _, _, _, _, _, _, _, _, _, _, rfl, _⟩ := h; rfl) | (obtain ⟨_, _, _, _, _, _, _, _, _, _, _, _, _, _, _, rfl, _⟩ := h; rfl) | (obtain ⟨_, _, _, _, _, _, _, _, _, _, _, _, _, _, _, _, rfl, _⟩ := h; rfl) | (obtain ⟨_, _, _, _, _, _, _, _, _, _, _, _, _, _, _, _, _, rfl, _⟩ := h; rfl) | (obtain ⟨_, _, _, _, _, _, _, _, _, _, _, _, _, _, _, _, _, _, rfl, _⟩ := h; rfl) | (obtain ⟨_, _, _, _, _, _, _, _, _, _, _, _, _, _, _, _, _, _, _, rfl, _⟩ := h; rfl) | (obtain ⟨_, _, _, _, _, _, _, _, _, _, _, _, _, _, _, _, _, _, _, _, rfl, _⟩ := h; rfl) | (obtain ⟨_, _, _, _, _, _, _, _, _, _, _, _, _, _, _, _, _, _, _, _, _, rfl, _⟩ := h; rfl) | (obtain ⟨_, _, _, _, _, _, _, _, _, _, _, _, _, _, _, _, _, _, _, _, _, _, rfl, _⟩ := h; rfl) | (obtain ⟨_, _, _, _, _, _, _, _, _, _, _, _, _, _, _, _, _, _, _, _, _, _, _, rfl, _⟩ := h; rfl)
  · obtain ⟨t, a, b, c, d, x, y, rfl, ht, ⟨ba, bb, bc, bd⟩, bx, by', q⟩ := h
    refine ⟨_, (Evl.pss_cut (ps_set (i := 3) sc_l_value.nd rfl (.inl rfl) (pe_lst (pa_cons (pe_op op_mulW (pe_op op_mulW (pv 1) (pv 1)) (pv 1)) (pa_cons (pe_op op_mulW (pe_op op_mulW (pv 1) (pv 1)) (pv 2)) (pa_cons (pe_op op_mulW (pe_op op_mulW (pv 1) (pv 2)) (pv 2)) (pa_cons (pe_op op_mulW (pe_op op_mulW (pv 2) (pv 2)) (pv 2)) pa_nil))))))
    (pss_one (ps_ret (pe_callB (cr_sum rfl) (by rfl) T.b_sum (by decide +kernel) (pa_cons (pe_lc (own := [("_law_number", 4), ("_law_power", 5)]) (g := (gTup K 2 (gCons (gName 4) (gCons (gName 5) gNil)))) rfl sc_l_value.nd (pi_zipK true false (by rfl) T.b_zip (pa_cons (pv 0) (pa_cons (pv 3) pa_nil))) (blkOk_by (N := N_l_value) (sc := defScope s_l_value) (by decide +kernel)) (fun _ _ _ _ _ => (pg_tup (by rfl) (pgs_cons (pg_name (i := 4) sc_l_value.nd rfl (.inl rfl)) (pgs_cons (pg_name (i := 5) sc_l_value.nd rfl (.inl rfl)) pgs_nil)))) (fun _ _ _ _ _ => pts_nil) (fun _ _ _ _ _ => (pe_op op_mulW (pv 4) (pv 5)))) pa_nil))))), ?_⟩
    have b2 : ∀ {u v : Int}, B 310 u → B 310 v → B 620 (u * v) := fun h g => B.mul h g
    have b3 : ∀ {u v z : Int}, B 310 u → B 310 v → B 310 z → B 930 (u * v * z) := fun h g k => B.mul (B.mul h g) k
    refine ⟨fun σ H' => ∃ l : Addr, σ = [some (.ref t), some (.int x), some (.int y), some (.ref l), none, none] ∧ Ex0 H H' ∧ H' l = some (.lst (([x * x * x, x * x * y, x * y * y, y * y * y] : List Int).map V.int)), ?_, ?_⟩
    · refine ⟨_, rfl, _, rfl, _, _, rfl, rfl, mulB bx bx (by decide), _, rfl, _, _, rfl, rfl, mulB (b2 bx bx) bx (by decide), _, rfl, _, rfl, _, _, rfl, rfl, mulB bx bx (by decide), _, rfl, _, _, rfl, rfl, mulB (b2 bx bx) by' (by decide), _, rfl, _, rfl, _, _, rfl, rfl, mulB bx by' (by decide), _, rfl, _, _, rfl, rfl, mulB (b2 bx by') by' (by decide), _, rfl, _, rfl, _, _, rfl, rfl, mulB by' by' (by decide), _, rfl, _, _, rfl, rfl, mulB (b2 by' by') by' (by decide), sl4, fun l nl => ?_⟩
      exact ⟨l, rfl, Ex0.new nl, upd_same⟩
    rintro σ H1 ⟨l, rfl, e1, hl⟩
    refine ⟨_, rfl, _, rfl, t, l, _, _, rfl, SqT.of (Ex0.ti e1 ht), SqL.of hl, ?_⟩
    refine lcP (walk_zipK (K := K) (k1 := true) (k2 := false) (xs := ([a, b, c, d] : List Int).map V.int) (ys := ([x * x * x, x * x * y, x * y * y, y * y * y] : List Int).map V.int) rfl) fm0 trivial (fun H' e => ⟨SqT.of (Ex0.ti e (Ex0.ti e1 ht)), SqL.of (Ex0.ap e hl)⟩) (fun i acc _ => acc = (([a * (x * x * x), b * (x * x * y), c * (x * y * y), d * (y * y * y)] : List Int).take i).map V.int) (fun _ _ => rfl) (fun D i T x1 y1 acc H' hD hi fx fy e3 hA hlen hp hT => ?_) (fun D H' acc hD e3 hA hp => ?_)
    · obtain ⟨rfl, hi1⟩ := get_D fx
      obtain ⟨rfl, hi2⟩ := get_D fy
      have bz1 : B 400 (([a, b, c, d] : List Int).getD i 0) := by
        match i, hi1 with
        | 0, _ => exact ba
        | 1, _ => exact bb
        | 2, _ => exact bc
        | 3, _ => exact bd
      have bz2 : B 930 (([x * x * x, x * x * y, x * y * y, y * y * y] : List Int).getD i 0) := by
        match i, hi2 with
        | 0, _ => exact b3 bx bx bx
        | 1, _ => exact b3 bx bx by'
        | 2, _ => exact b3 bx by' by'
        | 3, _ => exact b3 by' by' by'
      refine ⟨T, _, rfl, SqT.of upd_same, rfl, _, _, rfl, _, _, rfl, rfl, ⟨rfl, ?_⟩⟩
      refine ⟨_, rfl, _, rfl, _, _, rfl, rfl, mulB bz1 bz2 (by decide), ?_⟩
      refine cs_yes fm0 trivial hD e3 hA hlen (by have : i < 4 := hi1; omega) (Ex0.new hT) ?_
      rw [hp]
      match i, hi1 with
      | 0, _ => rfl
      | 1, _ => rfl
      | 2, _ => rfl
      | 3, _ => rfl
    · refine ⟨D, [a * (x * x * x), b * (x * x * y), c * (x * y * y), d * (y * y * y)], rfl, SqL.of (by rw [hA, hp]; rfl), ?_⟩
      have ev : ([a * (x * x * x), b * (x * x * y), c * (x * y * y), d * (y * y * y)] : List Int).sum = fv a b c d x y := by
        simp only [List.sum_cons, List.sum_nil]
        unfold fv
        grind
      rw [ev]
      exact q _ (e1.trans e3)
theorem ok_l_joined (T : Txt K mg C_Form) : Def P w K mg base 1 "_law_joined" ["_law_one", "_law_other"] (sp_l_joined K C_Form) := by
  obtain ⟨f_, fd_, g_, F_⟩ := T.d_l_joined
  refine ⟨f_, fd_, g_, F_.kp, F_.binds (ps := ["_law_one", "_law_other"]) (fun _ _ _ _ _ _ us hl => match us, hl with | [_, _], _ => rfl), ?_⟩
  refine F_.ok sc_l_joined (fun vs H Q E h => ?_) (fun cdv A outer s H vs Q E hr h => ?_)
  · first | (obtain ⟨rfl, _⟩ := h; rfl) | (obtain ⟨_, rfl, _⟩ := h; rfl) | (obtain ⟨_, _, rfl, _⟩ := h; rfl) | (obtain ⟨_, _, _, rfl, _⟩ := h; rfl) | (obtain ⟨_, _, _, _, rfl, _⟩ := h; rfl) | (obtain ⟨_, _, _, _, _, rfl, _⟩ := h; rfl) | (obtain ⟨_, _, _, _, _, _, rfl, _⟩ := h; rfl) | (obtain ⟨_, _, _, _, _, _, _, rfl, _⟩ := h; rfl) | (obtain ⟨_, _, _, _, _, _, _, _, rfl, _⟩ := h; rfl) | (obtain ⟨_, _, _, _, _, _, _, _, _, rfl, _⟩ := h; rfl) | (obtain ⟨_, _, _, _, _, _, _, _, _, _, rfl, _⟩ := h; rfl) | (obtain ⟨_, _, _, _, _, _, _, _, _, _, _, rfl, _⟩ := h; rfl) | (obtain ⟨_, _, _, _, _, _, _, _, _, _, _, _, rfl, _⟩ := h; rfl) | (obtain ⟨_, _, _, _, _, _, _, _, _, _, _, _, _, rfl, _⟩ := h; rfl) | (obtain ⟨_, _, _, _, _, _, _, _, _, _, _, _, _, _, rfl, _⟩ := h; rfl) | (obtain ⟨_, _, _, _, _, _, _, _, _, _, _, _, _, _, _, rfl, _⟩ := h; rfl) | (obtain ⟨_, _, _, _, _, _, _, _, _, _, _, _, _, _, _, _, rfl, _⟩ := h; rfl) | (obtain ⟨_, _, _, _, _, _, _, _, _, _, _, _, _, _, _, _, _, rfl, _⟩ := h; rfl) | (obtain ⟨_, _, _, _, _, _, _, _, _, _, _, _, _, _, _, _, _, _, rfl, _⟩ := h; rfl) | (obtain ⟨_, _, _, _, _, _, _, _, _, _, _, _, _, _, _, _, _, _, _, rfl, _⟩ := h; rfl) | (obtain ⟨_, _, _, _, _, _, _, _, _, _, _, _, _, _, _, _, _, _, _, _, rfl, _⟩ := h; rfl) | (obtain ⟨_, _, _, _, _, _, _, _, _, _, _, _, _, _, _, _, _, _, _, _, _, rfl, _⟩ := h; rfl) | (obtain ⟨_, _, _, _, _, _, _, _, _, _, _, _, _, _, _, _, _, _, _, _, _, _, rfl, _⟩ := h; rfl) | (obtain ⟨_, _, _, _, _, _, _, _, _, _, _, _, _, _, _, _, _, _, _, _, _, _, _, rfl, _⟩ := h; rfl)
  · obtain ⟨a, b, p, q', r, s', i, j, k, m, rfl, h4, h4', ⟨bp, bq, br, bs⟩, ⟨bi, bj, bk, bm⟩, q⟩ := h
    refine ⟨_, (pss_cons (ps_set (i := 2) sc_l_joined.nd rfl (.inl rfl) (pe_lst pa_nil))
    (pss_cons (ps_for PassesOwn.never rfl (pi_tup (pv 1)) (pg_name (i := 3) sc_l_joined.nd rfl (.inl rfl))
      (pss_one (ps_expr (pe_bm PySem.F.plainAttrs_list PySem.F.slot_list_append PySem.F.type_list_append mt_append (pv 2) (pa_cons (pe_tup (pa_cons (pe_op op_add (pe_op op_mulW (pe_ix ix_tup (pv 3) pe_int (fun _ _ => rfl)) (pe_ix ix_tup (pe_ix ix_tup (pv 0) pe_int (fun _ _ => rfl)) pe_int (fun _ _ => rfl))) (pe_op op_mulW (pe_ix ix_tup (pv 3) pe_int (fun _ _ => rfl)) (pe_ix ix_tup (pe_ix ix_tup (pv 0) pe_int (fun _ _ => rfl)) pe_int (fun _ _ => rfl)))) (pa_cons (pe_op op_add (pe_op op_mulW (pe_ix ix_tup (pv 3) pe_int (fun _ _ => rfl)) (pe_ix ix_tup (pe_ix ix_tup (pv 0) pe_int (fun _ _ => rfl)) pe_int (fun _ _ => rfl))) (pe_op op_mulW (pe_ix ix_tup (pv 3) pe_int (fun _ _ => rfl)) (pe_ix ix_tup (pe_ix ix_tup (pv 0) pe_int (fun _ _ => rfl)) pe_int (fun _ _ => rfl)))) pa_nil))) pa_nil)))))
    (pss_one (ps_ret (pe_tup (pa_cons (pe_ix ix_list (pv 2) pe_int (fun _ _ => rfl)) (pa_cons (pe_ix ix_list (pv 2) pe_int (fun _ _ => rfl)) pa_nil))))))), ?_⟩
    obtain ⟨u1, u2, hb0, hb1, hb2⟩ := h4'
    obtain ⟨t1, t2, ha0, ha1, ha2⟩ := h4
    refine ⟨Nat.zero_le _, fun l nl => ?_⟩
    have e0 := Ex0.new (o := .lst []) nl
    refine ⟨_, rfl, b, rfl, ⟨_, SqT.of (Ex0.ap e0 hb0)⟩, for_tup (xs := [.ref u1, .ref u2]) (fun n σ H' => ∃ (y3 : Option V), σ = [some (.ref a), some (.ref b), some (.ref l), y3] ∧ Ex0 H H' ∧ ((n = 0 ∧ H' l = some (.lst [])) ∨ (n = 1 ∧ ∃ z1 : Addr, H' l = some (.lst [.ref z1]) ∧ H' z1 = some (.tup [.int (i * p + j * r), .int (i * q' + j * s')])) ∨ (n = 2 ∧ ∃ z1 z2 : Addr, H' l = some (.lst [.ref z1, .ref z2]) ∧ H' z1 = some (.tup [.int (i * p + j * r), .int (i * q' + j * s')]) ∧ H' z2 = some (.tup [.int (k * p + m * r), .int (k * q' + m * s')])))) ⟨none, rfl, e0, .inl ⟨rfl, upd_same⟩⟩ (fun n σ H' _ ⟨_, _, e, _⟩ => SqT.of (Ex0.ap e hb0)) ?_ ?_⟩
    · rintro n x σ H2 hx ⟨y3, rfl, e2, hl2⟩
      have hlist : ∃ xs, H2 l = some (.lst xs) ∧ xs.length ≤ 2 := by
        rcases hl2 with ⟨_, h⟩ | ⟨_, z1, h, _⟩ | ⟨_, z1, z2, h, _⟩
        · exact ⟨_, h, by show 0 ≤ 2; decide⟩
        · exact ⟨_, h, by show 1 ≤ 2; decide⟩
        · exact ⟨_, h, by show 2 ≤ 2; decide⟩
      obtain ⟨xs, hxs, lxs⟩ := hlist
      have q0 := SqT.of (K := K) (Ex0.ap e2 ha0)
      have q1 := SqT.of (K := K) (Ex0.ap e2 ha1)
      have q2 := SqT.of (K := K) (Ex0.ap e2 ha2)
      obtain ⟨u, c, d, rfl, hu, bc, bd, hcd⟩ : ∃ (u : Addr) (c d : Int), x = .ref u ∧ H2 u = some (.tup [.int c, .int d]) ∧ B 400 c ∧ B 400 d ∧ ((n = 0 ∧ c = i ∧ d = j) ∨ (n = 1 ∧ c = k ∧ d = m)) := by
        match n, hx with
        | 0, hx => exact ⟨u1, i, j, (Option.some.inj hx).symm, Ex0.ap e2 hb1, bi, bj, .inl ⟨rfl, rfl, rfl⟩⟩
        | 1, hx => exact ⟨u2, k, m, (Option.some.inj hx).symm, Ex0.ap e2 hb2, bk, bm, .inr ⟨rfl, rfl, rfl⟩⟩
      have qu := SqT.of (K := K) hu
      refine ⟨_, rfl, .inl ⟨rfl, _, SqL.of hxs⟩, ?_⟩
      refine ⟨_, rfl, u, _, 0, .int c, rfl, rfl, qu, rfl, _, rfl, a, _, 0, .ref t1, rfl, rfl, q0, rfl, t1, _, 0, .int p, rfl, rfl, q1, rfl, _, _, rfl, rfl, mulB bc bp (by decide), _, rfl, u, _, 1, .int d, rfl, rfl, qu, rfl, _, rfl, a, _, 1, .ref t2, rfl, rfl, q0, rfl, t2, _, 0, .int r, rfl, rfl, q2, rfl, _, _, rfl, rfl, mulB bd br (by decide), _, _, rfl, rfl, ?_⟩
      refine ⟨_, rfl, u, _, 0, .int c, rfl, rfl, qu, rfl, _, rfl, a, _, 0, .ref t1, rfl, rfl, q0, rfl, t1, _, 1, .int q', rfl, rfl, q1, rfl, _, _, rfl, rfl, mulB bc bq (by decide), _, rfl, u, _, 1, .int d, rfl, rfl, qu, rfl, _, rfl, a, _, 1, .ref t2, rfl, rfl, q0, rfl, t2, _, 1, .int s', rfl, rfl, q2, rfl, _, _, rfl, rfl, mulB bd bs (by decide), _, _, rfl, rfl, sl2, fun z nz => ?_⟩
      have ez := Ex0.new (o := .tup [.int (c * p + d * r), .int (c * q' + d * s')]) nz
      have hz : upd H2 z (.tup [.int (c * p + d * r), .int (c * q' + d * s')]) z = some (.tup [.int (c * p + d * r), .int (c * q' + d * s')]) := upd_same
      have hxs2 := Ex0.ap ez hxs
      refine ⟨l, xs, _, rfl, rfl, hxs2, Nat.lt_of_le_of_lt lxs (by decide), ?_⟩
      have up : ∀ b zs, upd H2 z (.tup [.int (c * p + d * r), .int (c * q' + d * s')]) b = some (.tup zs) → upd (upd H2 z (.tup [.int (c * p + d * r), .int (c * q' + d * s')])) l (.lst (xs ++ [.ref z])) b = some (.tup zs) := fun b zs h => by
        rw [upd_ne (ne_of h hxs2 (by intro z; cases z))]
        exact h
      refine ⟨_, rfl, Fx.mut fm0 (e2.trans ez) trivial nl, ?_⟩
      rcases hcd with ⟨rfl, rfl, rfl⟩ | ⟨rfl, rfl, rfl⟩
      · rcases hl2 with ⟨_, h⟩ | ⟨h, _⟩ | ⟨h, _⟩
        · obtain rfl : xs = [] := by
            rw [hxs] at h
            injection h with h
            injection h
          exact .inr (.inl ⟨rfl, z, upd_same, up _ _ hz⟩)
        · cases h
        · cases h
      · rcases hl2 with ⟨h, _⟩ | ⟨_, z1, h, h1⟩ | ⟨h, _⟩
        · cases h
        · obtain rfl : xs = [.ref z1] := by
            rw [hxs] at h
            injection h with h
            injection h
          exact .inr (.inr ⟨rfl, z1, z, upd_same, up _ _ (Ex0.ap ez h1), up _ _ hz⟩)
        · cases h
    · rintro σ H2 ⟨y3, rfl, e2, hl2⟩
      rcases hl2 with ⟨h, _⟩ | ⟨h, _⟩ | ⟨_, z1, z2, h, h1, h2⟩
      · cases h
      · cases h
      · refine ⟨_, rfl, l, _, 0, .ref z1, rfl, rfl, SqL.of h, rfl, _, rfl, l, _, 1, .ref z2, rfl, rfl, SqL.of h, rfl, sl2, fun x nx => ?_⟩
        have ex := Ex0.new (o := .tup [.ref z1, .ref z2]) nx
        exact q x _ (e2.trans ex) ⟨z1, z2, upd_same, Ex0.ap ex h1, Ex0.ap ex h2⟩
theorem ok_l_row (T : Txt K mg C_Form) : Def P w K mg base 3 "_law_row" ["_law_vat_here", "_law_size_here"] (sp_l_row K C_Form) := by
  obtain ⟨f_, fd_, g_, F_⟩ := T.d_l_row
  obtain ⟨f_l_size, fd_l_size, g_l_size, k_l_size, b_l_size, G_l_size⟩ := (ok_l_size (P := P) (w := w) (base := base) T)
  refine ⟨f_, fd_, g_, F_.kp, F_.binds (ps := ["_law_vat_here", "_law_size_here"]) (fun _ _ _ _ _ _ us hl => match us, hl with | [_, _], _ => rfl), ?_⟩
  refine F_.ok sc_l_row (fun vs H Q E h => ?_) (fun cdv A outer s H vs Q E hr h => ?_)
  · first | (obtain ⟨rfl, _⟩ := h; rfl) | (obtain ⟨_, rfl, _⟩ := h; rfl) | (obtain ⟨_, _, rfl, _⟩ := h; rfl) | (obtain ⟨_, _, _, rfl, _⟩ := h; rfl) | (obtain ⟨_, _, _, _, rfl, _⟩ := h; rfl) | (obtain ⟨_, _, _, _, _, rfl, _⟩ := h; rfl) | (obtain ⟨_, _, _, _, _, _, rfl, _⟩ := h; rfl) | (obtain ⟨_, _, _, _, _, _, _, rfl, _⟩ := h; rfl) | (obtain ⟨_, _, _, _, _, _, _, _, rfl, _⟩ := h; rfl) | (obtain ⟨_, _, _, _, _, _, _, _, _, rfl, _⟩ := h; rfl) | (obtain ⟨_, _, _, _, _, _, _, _, _, _, rfl, _⟩ := h; rfl) | (obtain ⟨_, _, _, _, _, _, _, _, _, _, _, rfl, _⟩ := h; rfl) | (obtain ⟨_, _, _, _, _, _, _, _, _, _, _, _, rfl, _⟩ := h; rfl) | (obtain ⟨_, _, _, _, _, _, _, _, _, _, _, _, _, rfl, _⟩ := h; rfl) | (obtain ⟨_, _, _, _, _, _, _, _, _, _, _, _, _, _, rfl, _⟩ := h; rfl) | (obtain ⟨_, _, _, _, _, _, _, _, _, _, _, _, _, _, _, rfl, _⟩ := h; rfl) | (obtain ⟨_, _, _, _, _, _, _, _, _, _, _, _, _, _, _, _, rfl, _⟩ := h; rfl) | (obtain ⟨_, _, _, _, _, _, _, _, _, _, _, _, _, _, _, _, _, rfl, _⟩ := h; rfl) | (obtain ⟨_, _, _, _, _, _, _, _, _, _, _, _, _, _, _, _, _, _, rfl, _⟩ := h; rfl) | (obtain ⟨_, _, _, _, _, _, _, _, _, _, _, _, _, _, _, _, _, _, _, rfl, _⟩ := h; rfl) | (obtain ⟨_, _, _, _, _, _, _, _, _, _, _, _, _, _, _, _, _, _, _, _, rfl, _⟩ := h; rfl) | (obtain ⟨_, _, _, _, _, _, _, _, _, _, _, _, _, _, _, _, _, _, _, _, _, rfl, _⟩ := h; rfl) | (obtain ⟨_, _, _, _, _, _, _, _, _, _, _, _, _, _, _, _, _, _, _, _, _, _, rfl, _⟩ := h; rfl) | (obtain ⟨_, _, _, _, _, _, _, _, _, _, _, _, _, _, _, _, _, _, _, _, _, _, _, rfl, _⟩ := h; rfl)
  · obtain ⟨c, n, rfl, hc, hn, q⟩ := h
    refine ⟨_, (pss_one (ps_ret (pe_callTy call_tuple_of (by rfl) T.b_tuple (by decide +kernel) (pa_cons (pe_lc (own := [("_law_turn", 2)]) (g := (gName 2)) rfl sc_l_row.nd (pi_range1 (by rfl) T.b_range (pa_cons pe_int pa_nil)) (blkOk_by (N := N_l_row) (sc := defScope s_l_row) (by decide +kernel)) (fun _ _ _ _ _ => (pg_name (i := 2) sc_l_row.nd rfl (.inl rfl))) (fun _ _ _ _ _ => pts_nil) (fun _ _ _ _ _ => (pe_call G_l_size (hr.mono (by decide)) (by rfl) g_l_size k_l_size b_l_size .nil pass0 (pa_cons (pv 0) (pa_cons (pv 1) pa_nil))))) pa_nil)))), ?_⟩
    refine ⟨_, rfl, by decide, by decide, ?_⟩
    refine lcR (fmV c) hc (fun i acc _ => ∃ ns : List Int, acc = ns.map V.int ∧ ns.length = i ∧ ∀ z ∈ ns, z.natAbs ≤ n) (fun _ _ => ⟨[], rfl, rfl, fun _ h => by cases h⟩) (fun D i acc H3 hD hi e5 hA hlen hp => ?_) (fun D H3 acc hD e5 hA hp => ?_)
    · obtain ⟨ns, rfl, hln, hns⟩ := hp
      have hi' : i < 4 := by simpa using hi
      refine ⟨rfl, ?_⟩
      refine ⟨_, rfl, _, rfl, c, (n : Int), rfl, e5.1, by omega, by omega, fun r H4 r0 r1 e6 => ?_⟩
      refine cs_yes (fmV c) hc hD e5 hA hlen (by omega) e6 ⟨ns ++ [r], by rw [List.map_append]; rfl, by rw [List.length_append, hln]; rfl, fun z hz => ?_⟩
      rcases List.mem_append.mp hz with h | h
      · exact hns z h
      · have : z = r := by simpa using h
        omega
    · obtain ⟨ns, rfl, hln, hns⟩ := hp
      obtain ⟨A, B', C, D', rfl⟩ : ∃ A1 A2 A3 A4, ns = [A1, A2, A3, A4] := by
        have hln' : ns.length = 4 := by simpa using hln
        match ns, hln' with
        | [x, y, z, w], _ => exact ⟨x, y, z, w, rfl⟩
      refine ⟨D, _, rfl, .inl ⟨SqL.of hA, fun p np => ?_⟩⟩
      exact q p _ _ _ _ _ (e5.trans (fv_new e5.1 np)) upd_same hns
end
end K72
namespace K72
open PySem PySem.Spec PyProof.Rows L2 Fr
open K05M (fv fl2 fl3 fdisc)
def Pk (i j k m : Int) : Prop := (i = 0 ∧ j = 1 ∧ k = 1 ∧ m = 0) ∨ (i = 0 ∧ j = 1 ∧ k = -1 ∧ m = 0) ∨ (i = 1 ∧ j = 0 ∧ k = 0 ∧ m = -1) ∨ (i = 1 ∧ j = 1 ∧ k = 0 ∧ m = 1) ∨ (i = 1 ∧ j = 0 ∧ k = -2 ∧ m = 1) ∨ (i = 2 ∧ j = 1 ∧ k = 1 ∧ m = 1)
theorem Pk.b {i j k m : Int} (h : Pk i j k m) : B4 400 i j k m := by
  have b : ∀ {z : Int}, z.natAbs ≤ 2 → B 400 z := fun h => ⟨Nat.lt_of_le_of_lt h (by decide), by decide⟩
  rcases h with ⟨rfl, rfl, rfl, rfl⟩ | ⟨rfl, rfl, rfl, rfl⟩ | ⟨rfl, rfl, rfl, rfl⟩ | ⟨rfl, rfl, rfl, rfl⟩ | ⟨rfl, rfl, rfl, rfl⟩ | ⟨rfl, rfl, rfl, rfl⟩ <;> exact ⟨b (by decide), b (by decide), b (by decide), b (by decide)⟩
theorem Gc.step {M : Nat} {p q r s i j k m : Int} (h : Gc p q r s M) (g : Pk i j k m) : Gc (i * p + j * r) (i * q + j * s) (k * p + m * r) (k * q + m * s) (3 * M) := by
  obtain ⟨a, b, c, d, e⟩ := h
  have det : (i * p + j * r) * (k * q + m * s) - (i * q + j * s) * (k * p + m * r) = (i * m - j * k) * (p * s - q * r) := by grind
  have dd : (i * m - j * k = 1 ∨ i * m - j * k = -1) → ((i * p + j * r) * (k * q + m * s) - (i * q + j * s) * (k * p + m * r) = 1 ∨ (i * p + j * r) * (k * q + m * s) - (i * q + j * s) * (k * p + m * r) = -1) := fun hv => by
    rw [det]
    rcases hv with h | h <;> rcases e with e | e <;> rw [h, e] <;> decide
  rcases g with ⟨rfl, rfl, rfl, rfl⟩ | ⟨rfl, rfl, rfl, rfl⟩ | ⟨rfl, rfl, rfl, rfl⟩ | ⟨rfl, rfl, rfl, rfl⟩ | ⟨rfl, rfl, rfl, rfl⟩ | ⟨rfl, rfl, rfl, rfl⟩ <;> refine ⟨?_, ?_, ?_, ?_, dd (by decide)⟩ <;> omega
theorem Gc.b {M : Nat} {p q r s : Int} (h : Gc p q r s M) (hm : M ≤ 100000) : B4 300 p q r s := by
  obtain ⟨a, b, c, d, _⟩ := h
  have sm : ∀ {n : Int}, n.natAbs ≤ M → B 300 n := fun h => ⟨Nat.lt_of_le_of_lt (Nat.le_trans h hm) (by decide), by decide⟩
  exact ⟨sm a, sm b, sm c, sm d⟩
theorem Gc.mono {M N : Nat} {p q r s : Int} (h : Gc p q r s M) (hm : M ≤ N) : Gc p q r s N := by
  obtain ⟨a, b, c, d, e⟩ := h
  exact ⟨Nat.le_trans a hm, Nat.le_trans b hm, Nat.le_trans c hm, Nat.le_trans d hm, e⟩
def Steps (H : Hp) (vs : List V) : Prop := ∀ v ∈ vs, ∃ x i j k m, v = .ref x ∧ T4 H x i j k m ∧ Pk i j k m
theorem Steps.ex {H H' : Hp} {vs : List V} (h : Steps H vs) (e : ∀ b xs, H b = some (.tup xs) → H' b = some (.tup xs)) : Steps H' vs := fun v hv => by
  obtain ⟨x, i, j, k, m, h1, h2, h3⟩ := h v hv
  exact ⟨x, i, j, k, m, h1, h2.ex e, h3⟩
theorem fled_small {a b c d p q r s : Int} (ha : a.natAbs ≤ 9) (hb : b.natAbs ≤ 9) (hc : c.natAbs ≤ 9) (hd : d.natAbs ≤ 9) (h : Gc p q r s 81) : ∀ z ∈ fled a b c d p q r s, B 190 z := by
  have b4 : ∀ {z : Int}, z.natAbs ≤ 9 → B 4 z := fun h => ⟨Nat.lt_of_le_of_lt h (by decide), by decide⟩
  have b5 : ∀ {z : Int}, z.natAbs ≤ 81 → B 7 z := fun h => ⟨Nat.lt_of_le_of_lt h (by decide), by decide⟩
  have b2 : B 2 2 := ⟨by decide, by decide⟩
  have b3 : B 2 3 := ⟨by decide, by decide⟩
  obtain ⟨hp, hq, hr, hs, _⟩ := h
  have ba := b4 ha
  have bb := b4 hb
  have bc := b4 hc
  have bd := b4 hd
  have bp := b5 hp
  have bq := b5 hq
  have br := b5 hr
  have bs := b5 hs
  have fb : ∀ {x y : Int}, B 7 x → B 7 y → B 100 (fv a b c d x y) := fun bx by' => B.add (B.add (B.add (B.mul (B.mul (B.mul ba bx) bx) bx) (B.mul (B.mul (B.mul bb bx) bx) by')) (B.mul (B.mul (B.mul bc bx) by') by')) (B.mul (B.mul (B.mul bd by') by') by')
  have be : B 28 (p * s - q * r) := B.sub (B.mul bp bs) (B.mul bq br)
  have m1 : B 30 (p * s + 2 * q * r) := B.add (B.mul bp bs) (B.mul (B.mul b2 bq) br)
  have m2 : B 30 (2 * p * s + q * r) := B.add (B.mul (B.mul b2 bp) bs) (B.mul bq br)
  have f2 : B 136 (fl2 a b c d p q r s) := by
    unfold fl2
    exact (B.add (B.add (B.add (B.mul (B.mul (B.mul (B.mul b3 ba) bp) bp) br) (B.mul (B.mul bb bp) m1)) (B.mul (B.mul bc bq) m2)) (B.mul (B.mul (B.mul (B.mul b3 bd) bq) bq) bs)).mono (by decide)
  have f3 : B 136 (fl3 a b c d p q r s) := by
    unfold fl3
    exact (B.add (B.add (B.add (B.mul (B.mul (B.mul (B.mul b3 ba) bp) br) br) (B.mul (B.mul bb br) m2)) (B.mul (B.mul bc bs) m1)) (B.mul (B.mul (B.mul (B.mul b3 bd) bq) bs) bs)).mono (by decide)
  intro z hz
  unfold fled at hz
  simp only [List.mem_cons, List.mem_nil_iff, or_false] at hz
  rcases hz with rfl | rfl | rfl | rfl
  · exact (B.mul be (fb bp bq)).mono (by decide)
  · exact (B.mul be f2).mono (by decide)
  · exact (B.mul be f3).mono (by decide)
  · exact (B.mul be (fb br bs)).mono (by decide)
section
variable {P : Program} {w : World} {K : PySem.W.Frag} {mg : Str → Option Value} {base : Heap} {C_Form : Addr}
theorem ok_l_change (T : Txt K mg C_Form) : Def P w K mg base 3 "_law_change" ["_law_vat_here", "_law_many"] (sp_l_change K C_Form) := by
  obtain ⟨f_, fd_, g_, F_⟩ := T.d_l_change
  obtain ⟨f_l_from, fd_l_from, g_l_from, k_l_from, b_l_from, G_l_from⟩ := (ok_l_from (P := P) (w := w) (base := base) T)
  obtain ⟨f_l_joined, fd_l_joined, g_l_joined, k_l_joined, b_l_joined, G_l_joined⟩ := (ok_l_joined (P := P) (w := w) (base := base) T)
  obtain ⟨f_l_scoop, fd_l_scoop, g_l_scoop, k_l_scoop, b_l_scoop, G_l_scoop⟩ := (ok_l_scoop (P := P) (w := w) (base := base) T)
  refine ⟨f_, fd_, g_, F_.kp, F_.binds (ps := ["_law_vat_here", "_law_many"]) (fun _ _ _ _ _ _ us hl => match us, hl with | [_, _], _ => rfl), ?_⟩
  refine F_.ok sc_l_change (fun vs H Q E h => ?_) (fun cdv A outer s H vs Q E hr h => ?_)
  · first | (obtain ⟨rfl, _⟩ := h; rfl) | (obtain ⟨_, rfl, _⟩ := h; rfl) | (obtain ⟨_, _, rfl, _⟩ := h; rfl) | (obtain ⟨_, _, _, rfl, _⟩ := h; rfl) | (obtain ⟨_, _, _, _, rfl, _⟩ := h; rfl) | (obtain ⟨_, _, _, _, _, rfl, _⟩ := h; rfl) | (obtain ⟨_, _, _, _, _, _, rfl, _⟩ := h; rfl) | (obtain ⟨_, _, _, _, _, _, _, rfl, _⟩ := h; rfl) | (obtain ⟨_, _, _, _, _, _, _, _, rfl, _⟩ := h; rfl) | (obtain ⟨_, _, _, _, _, _, _, _, _, rfl, _⟩ := h; rfl) | (obtain ⟨_, _, _, _, _, _, _, _, _, _, rfl, _⟩ := h; rfl) | (obtain ⟨_, _, _, _, _, _, _, _, _, _, _, rfl, _⟩ := h; rfl) | (obtain ⟨_, _, _, _, _, _, _, _, _, _, _, _, rfl, _⟩ := h; rfl) | (obtain ⟨_, _, _, _, _, _, _, _, _, _, _, _, _, rfl, _⟩ := h; rfl) | (obtain ⟨_, _, _, _, _, _, _, _, _, _, _, _, _, _, rfl, _⟩ := h; rfl) | (obtain ⟨_, _, _, _, _, _, _, _, _, _, _, _, _, _, _, rfl, _⟩ := h; rfl) | (obtain ⟨_, _, _, _, _, _, _, _, _, _, _, _, _, _, _, _, rfl, _⟩ := h; rfl) | (obtain ⟨_, _, _, _, _, _, _, _, _, _, _, _, _, _, _, _, _, rfl, _⟩ := h; rfl) | (obtain ⟨_, _, _, _, _, _, _, _, _, _, _, _, _, _, _, _, _, _, rfl, _⟩ := h; rfl) | (obtain ⟨_, _, _, _, _, _, _, _, _, _, _, _, _, _, _, _, _, _, _, rfl, _⟩ := h; rfl) | (obtain ⟨_, _, _, _, _, _, _, _, _, _, _, _, _, _, _, _, _, _, _, _, rfl, _⟩ := h; rfl) | (obtain ⟨_, _, _, _, _, _, _, _, _, _, _, _, _, _, _, _, _, _, _, _, _, rfl, _⟩ := h; rfl) | (obtain ⟨_, _, _, _, _, _, _, _, _, _, _, _, _, _, _, _, _, _, _, _, _, _, rfl, _⟩ := h; rfl) | (obtain ⟨_, _, _, _, _, _, _, _, _, _, _, _, _, _, _, _, _, _, _, _, _, _, _, rfl, _⟩ := h; rfl)
  · obtain ⟨c, m, rfl, hc, hm, q⟩ := h
    refine ⟨_, (Evl.pss_cut (ps_set (i := 2) sc_l_change.nd rfl (.inl rfl) (pe_lst (pa_cons (pe_tup (pa_cons (pe_tup (pa_cons pe_int (pa_cons pe_int pa_nil))) (pa_cons (pe_tup (pa_cons pe_int (pa_cons pe_int pa_nil))) pa_nil))) (pa_cons (pe_tup (pa_cons (pe_tup (pa_cons pe_int (pa_cons pe_int pa_nil))) (pa_cons (pe_tup (pa_cons (pe_un un_neg pe_int) (pa_cons pe_int pa_nil))) pa_nil))) (pa_cons (pe_tup (pa_cons (pe_tup (pa_cons pe_int (pa_cons pe_int pa_nil))) (pa_cons (pe_tup (pa_cons pe_int (pa_cons (pe_un un_neg pe_int) pa_nil))) pa_nil))) (pa_cons (pe_tup (pa_cons (pe_tup (pa_cons pe_int (pa_cons pe_int pa_nil))) (pa_cons (pe_tup (pa_cons pe_int (pa_cons pe_int pa_nil))) pa_nil))) (pa_cons (pe_tup (pa_cons (pe_tup (pa_cons pe_int (pa_cons pe_int pa_nil))) (pa_cons (pe_tup (pa_cons (pe_un un_neg pe_int) (pa_cons pe_int pa_nil))) pa_nil))) (pa_cons (pe_tup (pa_cons (pe_tup (pa_cons pe_int (pa_cons pe_int pa_nil))) (pa_cons (pe_tup (pa_cons pe_int (pa_cons pe_int pa_nil))) pa_nil))) pa_nil))))))))
    (pss_cons (ps_set (i := 3) sc_l_change.nd rfl (.inl rfl) (pe_tup (pa_cons (pe_tup (pa_cons pe_int (pa_cons pe_int pa_nil))) (pa_cons (pe_tup (pa_cons pe_int (pa_cons pe_int pa_nil))) pa_nil))))
    (pss_cons (ps_for PassesOwn.never rfl (pi_range1 (by rfl) T.b_range (pa_cons (pe_call G_l_scoop (hr.mono (by decide)) (by rfl) g_l_scoop k_l_scoop b_l_scoop .nil pass0 (pa_cons (pv 0) (pa_cons (pe_op op_add (pv 1) pe_int) pa_nil))) pa_nil)) (pg_name (i := 4) sc_l_change.nd rfl (.inl rfl))
      (pss_one (ps_set (i := 3) sc_l_change.nd rfl (.inl rfl) (pe_call G_l_joined (hr.mono (by decide)) (by rfl) g_l_joined k_l_joined b_l_joined .nil pass0 (pa_cons (pv 3) (pa_cons (pe_call G_l_from (hr.mono (by decide)) (by rfl) g_l_from k_l_from b_l_from .nil pass0 (pa_cons (pv 0) (pa_cons (pv 2) pa_nil))) pa_nil))))))
    (pss_one (ps_ret (pv 3)))))), ?_⟩
    refine ⟨fun σ H' => ∃ (L : Addr) (us : List V), σ = [some (.ref c), some (.int (m : Int)), some (.ref L), none, none] ∧ Ex0 H H' ∧ L ≠ c ∧ H' L = some (.lst us) ∧ us ≠ [] ∧ us.length ≤ 1000 ∧ Steps H' us, ?_, ?_⟩
    · refine ⟨sl2, fun a1 m1 => ⟨sl2, fun a2 m2 => ⟨sl2, fun a3 m3 => ?_⟩⟩⟩
      have w1 := t4_new m1 m2 m3
      refine ⟨sl2, fun c1 k1 => ⟨_, rfl, sl2, fun c2 k2 => ⟨sl2, fun b3 k3 => ?_⟩⟩⟩
      have w2 := t4_new k1 k2 k3
      refine ⟨sl2, fun d1 l1 => ⟨_, rfl, sl2, fun d2 l2 => ⟨sl2, fun c3 l3 => ?_⟩⟩⟩
      have w3 := t4_new l1 l2 l3
      refine ⟨sl2, fun g1 o1 => ⟨sl2, fun g2 o2 => ⟨sl2, fun d3 o3 => ?_⟩⟩⟩
      have w4 := t4_new o1 o2 o3
      refine ⟨sl2, fun h1' p1 => ⟨_, rfl, sl2, fun h2' p2 => ⟨sl2, fun g3 p3 => ?_⟩⟩⟩
      have w5 := t4_new p1 p2 p3
      refine ⟨sl2, fun h1' p1 => ⟨sl2, fun h2' p2 => ⟨sl2, fun h3 p3 => ?_⟩⟩⟩
      have w6 := t4_new p1 p2 p3
      refine ⟨sl6, fun L nL => ?_⟩
      have e7 := Ex0.new (o := .lst [.ref a3, .ref b3, .ref c3, .ref d3, .ref g3, .ref h3]) nL
      have eg := (((((w1.1.trans w2.1).trans w3.1).trans w4.1).trans w5.1).trans w6.1).trans e7
      have f5 := vat_ex hc ((((((w1.1.trans w2.1).trans w3.1).trans w4.1).trans w5.1).trans w6.1))
      refine ⟨L, _, rfl, eg, fv_ne f5 nL, upd_same, by simp, by show 6 ≤ 1000; decide, fun y hy => ?_⟩
      simp only [List.mem_cons, List.mem_nil_iff, or_false] at hy
      rcases hy with rfl | rfl | rfl | rfl | rfl | rfl
      · exact ⟨_, _, _, _, _, rfl, Ex0.t4 (((((w2.1.trans w3.1).trans w4.1).trans w5.1).trans w6.1).trans e7) w1.2, .inl ⟨rfl, rfl, rfl, rfl⟩⟩
      · exact ⟨_, _, _, _, _, rfl, Ex0.t4 ((((w3.1.trans w4.1).trans w5.1).trans w6.1).trans e7) w2.2, .inr (.inl ⟨rfl, rfl, rfl, rfl⟩)⟩
      · exact ⟨_, _, _, _, _, rfl, Ex0.t4 (((w4.1.trans w5.1).trans w6.1).trans e7) w3.2, .inr (.inr (.inl ⟨rfl, rfl, rfl, rfl⟩))⟩
      · exact ⟨_, _, _, _, _, rfl, Ex0.t4 ((w5.1.trans w6.1).trans e7) w4.2, .inr (.inr (.inr (.inl ⟨rfl, rfl, rfl, rfl⟩)))⟩
      · exact ⟨_, _, _, _, _, rfl, Ex0.t4 (w6.1.trans e7) w5.2, .inr (.inr (.inr (.inr (.inl ⟨rfl, rfl, rfl, rfl⟩))))⟩
      · exact ⟨_, _, _, _, _, rfl, Ex0.t4 e7 w6.2, .inr (.inr (.inr (.inr (.inr ⟨rfl, rfl, rfl, rfl⟩))))⟩
    rintro σ H1 ⟨L, us, rfl, e1, ne, hL, hu1, hu2, hS⟩
    refine ⟨sl2, fun t1 n1 => ⟨sl2, fun t2 n2 => ⟨sl2, fun x0 n0 => ?_⟩⟩⟩
    have z0 := t4_new n1 n2 n0
    have f0 := fv_ex hc (e1.trans z0.1)
    have hL0 := Ex0.ap z0.1 hL
    have hS0 := hS.ex fun b xs h => Ex0.ap z0.1 h
    have i0 := z0.2
    generalize upd _ x0 _ = H2 at f0 hL0 hS0 i0 ⊢
    refine ⟨_, rfl, _, rfl, _, _, rfl, rfl, c, (m : Int) + 1, rfl, f0.1, by omega, by omega, fun u H3 u0 u1 e3 => ?_⟩
    refine ⟨_, rfl, by omega, by omega, ?_⟩
    refine for_range (lo := 0) (n := u.toNat) (fun i σ H' => ∃ x p q r s y4, σ = [some (.ref c), some (.int (m : Int)), some (.ref L), some (.ref x), y4] ∧ Fv c H2 H' ∧ T4 H' x p q r s ∧ Gc p q r s (3 ^ i)) ⟨x0, 1, 0, 0, 1, none, rfl, e3, i0.ex fun b xs z => fv_tup f0.1 e3 z, ⟨by decide, by decide, by decide, by decide, .inl (by decide)⟩⟩ ?_ ?_
    · rintro i σ H' hi ⟨x, p, q', r, s', y4, rfl, e2, h4, hg⟩
      have hi5 : i < 4 := by omega
      have m5 : (3 : Nat) ^ i ≤ 100000 := Nat.le_trans (Nat.pow_le_pow_right (by decide) (show i ≤ 4 by omega)) (by decide)
      refine ⟨_, rfl, _, rfl, _, rfl, c, L, us, rfl, e2.1, e2.2 _ _ ne hL0, ne, hu1, hu2, fun y H6 hy e6 => ?_⟩
      have up : ∀ {t : Addr} {i j k m : Int}, T4 H2 t i j k m → T4 H6 t i j k m := fun h => h.ex fun b xs z => fv_tup f0.1 (e2.trans e6) z
      obtain ⟨x2, i', j, k, m', rfl, h2, g2⟩ := hS0 y hy
      have h1 : T4 H6 x p q' r s' := h4.ex fun b xs z => fv_tup e2.1 e6 z
      have gb := hg.b m5
      refine ⟨x, x2, p, q', r, s', i', j, k, m', rfl, h1, up h2, ⟨gb.1.mono (by decide), gb.2.1.mono (by decide), gb.2.2.1.mono (by decide), gb.2.2.2.mono (by decide)⟩, g2.b, fun x3 H7 e7 h7 => ?_⟩
      refine ⟨x3, _, _, _, _, _, rfl, e2.trans (e6.trans (fv_ex e6.1 e7)), h7, ?_⟩
      rw [Nat.pow_succ, Nat.mul_comm]
      exact hg.step g2
    · rintro σ H' ⟨x, p, q', r, s', y4, rfl, e2, h4, hg⟩
      exact ⟨_, rfl, q x p q' r s' H' (f0.trans e2) h4 (hg.mono (Nat.le_trans (Nat.pow_le_pow_right (by decide) (show u.toNat ≤ 4 by omega)) (by decide)))⟩
end
end K72
namespace Fr
open PySem PySem.Spec PyProof.Rows L2
inductive PrT (K : PySem.W.Frag) (H : Hp) : List V → List (Int × Int) → Prop where
  | nil : PrT K H [] []
  | cons {t : Addr} {x y : Int} {xs : List V} {ps : List (Int × Int)} (h : SqT K H t [.int x, .int y]) (r : PrT K H xs ps) : PrT K H (.ref t :: xs) ((x, y) :: ps)
section
variable {K : PySem.W.Frag} {H H' : Hp}
theorem PrT.ex (e : Ex0 H H') {xs : List V} {ps : List (Int × Int)} (h : PrT K H xs ps) : PrT K H' xs ps := by
  induction h with
  | nil => exact .nil
  | cons h _ ih => exact .cons (Fx.sqT e (fun z => z) h) ih
theorem sqT_upd {a D : Addr} {vs acc ys : List V} (hD : H D = some (.lst acc)) (h : SqT K H a vs) : SqT K (upd H D (.lst ys)) a vs := by
  have ne : ∀ {o : HO}, H a = some o → (∀ z, o ≠ .lst z) → a ≠ D := fun h n z => by
    rw [z, hD] at h
    exact n _ (Option.some.inj h).symm
  rcases h with (h | ⟨o, h⟩) | h
  · exact .inl (.inl (by rw [upd_ne (ne h (by intro z w; cases w))]; exact h))
  · exact .inl (.inr ⟨o, by rw [upd_ne (ne h (by intro z w; cases w))]; exact h⟩)
  · exact .inr h
theorem PrT.upd {D : Addr} {acc ys : List V} (hD : H D = some (.lst acc)) {xs : List V} {ps : List (Int × Int)} (h : PrT K H xs ps) : PrT K (L2.upd H D (.lst ys)) xs ps := by
  induction h with
  | nil => exact .nil
  | cons h _ ih => exact .cons (sqT_upd hD h) ih
theorem PrT.app {xs ys : List V} {ps qs : List (Int × Int)} (h : PrT K H xs ps) (g : PrT K H ys qs) : PrT K H (xs ++ ys) (ps ++ qs) := by
  induction h with
  | nil => exact g
  | cons h _ ih => exact .cons h ih
theorem PrT.snoc {xs : List V} {ps : List (Int × Int)} (h : PrT K H xs ps) {t : Addr} {x y : Int} (g : SqT K H t [.int x, .int y]) : PrT K H (xs ++ [.ref t]) (ps ++ [(x, y)]) := h.app (.cons g .nil)
theorem PrT.len {xs : List V} {ps : List (Int × Int)} (h : PrT K H xs ps) : xs.length = ps.length := by
  induction h with
  | nil => rfl
  | cons _ _ ih => rw [List.length_cons, List.length_cons, ih]
theorem PrT.get {xs : List V} {ps : List (Int × Int)} (h : PrT K H xs ps) : ∀ {i : Nat} {v : V}, xs[i]? = some v → ∃ t x y, v = .ref t ∧ ps[i]? = some (x, y) ∧ SqT K H t [.int x, .int y] := by
  induction h with
  | nil => intro i v hv; simp at hv
  | @cons t x y xs ps h _ ih =>
    intro i v hv
    cases i with
    | zero => exact ⟨t, x, y, (Option.some.inj hv).symm, rfl, h⟩
    | succ i => exact ih hv
theorem PrT.mem {xs : List V} {ps : List (Int × Int)} (h : PrT K H xs ps) : ∀ v ∈ xs, ∃ t x y, v = .ref t ∧ SqT K H t [.int x, .int y] ∧ (x, y) ∈ ps := by
  induction h with
  | nil => intro v hv; cases hv
  | @cons t x y xs ps h _ ih =>
    intro v hv
    rcases List.mem_cons.mp hv with z | z
    · exact ⟨t, x, y, z, h, List.mem_cons_self⟩
    · obtain ⟨t', x', y', h1, h2, h3⟩ := ih v z
      exact ⟨t', x', y', h1, h2, List.mem_cons_of_mem _ h3⟩
theorem sqT_ty {a : Addr} {xs : List V} (h : SqT K H a xs) : TyX K H (.ref a) (.type "tuple") := by
  rcases h with (h | ⟨o, h⟩) | ⟨o, its, n, h1, h2, _⟩
  · exact .base (.tup h)
  · exact .fTuple h
  · exact .kTuple h1 h2
end
def lexP (p q : Int × Int) : Prop := p.1 < q.1 ∨ (p.1 = q.1 ∧ p.2 ≤ q.2)
theorem eq_sorted : ∀ {l1 l2 : List (Int × Int)}, l1.Pairwise lexP → l1.Nodup → l2.Pairwise lexP → l2.Nodup → (∀ a, a ∈ l1 ↔ a ∈ l2) → l1 = l2
  | [], [], _, _, _, _, _ => rfl
  | [], b :: l2, _, _, _, _, h => by have := (h b).mpr List.mem_cons_self; cases this
  | a :: l1, [], _, _, _, _, h => by have := (h a).mp List.mem_cons_self; cases this
  | a :: l1, b :: l2, p1, n1, p2, n2, h => by
    have p1' := List.pairwise_cons.mp p1
    have p2' := List.pairwise_cons.mp p2
    have n1' := List.nodup_cons.mp n1
    have n2' := List.nodup_cons.mp n2
    have e : a = b := by
      rcases List.mem_cons.mp ((h a).mp List.mem_cons_self) with z | z
      · exact z
      · rcases List.mem_cons.mp ((h b).mpr List.mem_cons_self) with y | y
        · exact y.symm
        · have q1 := p2'.1 a z
          have q2 := p1'.1 b y
          unfold lexP at q1 q2
          refine Prod.ext ?_ ?_ <;> omega
    subst e
    have t : l1 = l2 := eq_sorted p1'.2 n1'.2 p2'.2 n2'.2 fun x => by
      constructor
      · intro hx
        rcases List.mem_cons.mp ((h x).mp (List.mem_cons_of_mem _ hx)) with z | z
        · exact absurd (z ▸ hx) n1'.1
        · exact z
      · intro hx
        rcases List.mem_cons.mp ((h x).mpr (List.mem_cons_of_mem _ hx)) with z | z
        · exact absurd (z ▸ hx) n2'.1
        · exact z
    rw [t]
theorem srt_lex {k : V → Int × Int} {ys : List V} (h : SrtO.Srtd (ltP k) ys) : (ys.map k).Pairwise lexP := by
  rw [List.pairwise_map]
  refine List.Pairwise.imp (fun {u v} h => ?_) h
  rcases Int.lt_trichotomy (k u).1 (k v).1 with z | z | z
  · exact .inl z
  · refine .inr ⟨z, ?_⟩
    rcases Int.lt_or_le (k v).2 (k u).2 with w | w
    · have := SrtO.lexB_iff.mpr (Or.inr ⟨z.symm, w⟩)
      rw [show SrtO.lexB (k v) (k u) = false from h] at this
      cases this
    · exact w
  · have := SrtO.lexB_iff.mpr (Or.inl z)
    rw [show SrtO.lexB (k v) (k u) = false from h] at this
    cases this
noncomputable def kvT (K : PySem.W.Frag) (H : Hp) (v : V) : Int × Int := @dite _ (∃ p : Int × Int, ∃ t, v = .ref t ∧ SqT K H t [.int p.1, .int p.2]) (Classical.propDecidable _) (fun h => Classical.choose h) (fun _ => (0, 0))
theorem kvT_at {K : PySem.W.Frag} {H : Hp} {t : Addr} {x y : Int} (h : SqT K H t [.int x, .int y]) : SqT K H t [.int (kvT K H (.ref t)).1, .int (kvT K H (.ref t)).2] := by
  have ex : ∃ p : Int × Int, ∃ t', V.ref t = .ref t' ∧ SqT K H t' [.int p.1, .int p.2] := ⟨(x, y), t, rfl, h⟩
  unfold kvT
  rw [dif_pos ex]
  obtain ⟨t', e1, e2⟩ := Classical.choose_spec ex
  cases e1
  exact e2
def rSortedPT (K : PySem.W.Frag) : List V → Hp → VK → Prop := fun vs H Q => ∃ (a : Addr) (xs : List V) (ps : List (Int × Int)), vs = [V.ref a] ∧ SqL K H a xs ∧ PrT K H xs ps ∧
  ∀ ys qs p, qs.Perm ps → qs.Pairwise lexP → PrT K H ys qs → H p = none → Q (.ref p) (upd H p (.lst ys))
section
variable {X : Cx}
theorem PrT.map_k {pins : List (Addr × Obj)} {σ : L2.St} {H : Hp} {s : Shared} (I : Inv X pins σ H s) {xs : List V} {ps : List (Int × Int)} (h : PrT X.K H xs ps) : xs.map (kvT X.K H) = ps := by
  induction h with
  | nil => rfl
  | cons h _ ih =>
    have e := I.tuple_inj (kvT_at h) h
    injection e with e1 e
    injection e with e2 _
    injection e1 with e1
    injection e2 with e2
    rw [List.map_cons, ih]
    exact congrArg (· :: _) (Prod.ext e1 e2)
theorem PrT.of_mem {K : PySem.W.Frag} {H : Hp} : ∀ {ys : List V}, (∀ v ∈ ys, ∃ t x y, v = .ref t ∧ SqT K H t [.int x, .int y]) → PrT K H ys (ys.map (kvT K H))
  | [], _ => .nil
  | v :: ys, h => by
    obtain ⟨t, x, y, rfl, ht⟩ := h v List.mem_cons_self
    exact .cons (kvT_at ht) (PrT.of_mem fun v hv => h v (List.mem_cons_of_mem _ hv))
theorem cr_sortedPT : CallR X (.builtin "sorted") (rSortedPT X.K) := by
  intro pins s σ H vs us Q I r h
  obtain ⟨a, xs, ps, rfl, hs, hP, q⟩ := h
  have hx : ∀ x ∈ xs, ∃ t, x = V.ref t ∧ SqT X.K H t [.int (kvT X.K H x).1, .int (kvT X.K H x).2] := fun x m => by
    obtain ⟨t, i, j, e, ht, _⟩ := hP.mem x m
    subst e
    exact ⟨t, rfl, kvT_at ht⟩
  obtain ⟨its, rv, hl, hz⟩ := I.list hs
  obtain ⟨u, rfl, ru⟩ := vals1 r
  obtain rfl : u = Value.ref a := ru
  obtain ⟨e1, e2⟩ := refs_back rv fun x m => by
    obtain ⟨t, e, _⟩ := hx x m
    exact ⟨t, e⟩
  refine SrtO.sorted_pairsO (k := fun u => kvT X.K H (backV u)) hl.isList (by rw [← rv.length]; exact hz) (fun v hv => ?_) fun h' d out h1 h2 kp hd hn => ?_
  · obtain ⟨t, rfl⟩ := e2 v hv
    have hm : V.ref t ∈ xs := by rw [e1]; exact List.mem_map.mpr ⟨_, hv, rfl⟩
    obtain ⟨t', e, ht⟩ := hx _ hm
    cases e
    obtain ⟨its2, r2, ⟨o, ho, hc, n, hd⟩, _⟩ := I.tuple ht
    obtain ⟨u1, u2, rfl, ri, rj⟩ := vals2 r2
    obtain ⟨t1, rfl⟩ := ri
    obtain ⟨t2, rfl⟩ := rj
    exact ⟨t, o, t1, t2, n, rfl, ho, hc, hd⟩
  · have h3 : ∀ u ∈ out, ∃ a, u = Value.ref a := fun u hu => e2 u (h2.perm.mem_iff.mp hu)
    obtain ⟨n, hn⟩ := hn
    have hb : SrtO.Stb (ltP (kvT X.K H)) (out.map backV) xs := by
      rw [e1]
      exact SrtO.Stb.map (ltP_swo (kvT X.K H)) backV h2
    have hy : PrT X.K H (out.map backV) ((out.map backV).map (kvT X.K H)) := PrT.of_mem fun v hv => by
      obtain ⟨t, i, j, e, ht, _⟩ := hP.mem v (hb.perm.mem_iff.mp hv)
      exact ⟨t, i, j, e, ht⟩
    refine ⟨.ref d, upd H d (.lst (out.map backV)), I.laid (t' := s.toks) kp hd ⟨?_, out, n, vals_back h3, hn⟩, rfl, q _ _ d ?_ (srt_lex (SrtO.srtd_map h1)) hy (I.hok.fresh hd)⟩
    · rw [hb.len]
      exact hz
    · rw [← hP.map_k I]
      exact hb.perm.map _
end
def pi2 (q : Int × Int) : PyData := .tuple [.int q.1, .int q.2]
theorem pis_ok (fs : List (Int × Int)) : PyData.canLayAll0 (fs.map pi2) = true ∧ PyData.depthAll (fs.map pi2) ≤ 2 := by
  induction fs with
  | nil => exact ⟨rfl, by simp [PyData.depthAll]⟩
  | cons n r ih =>
    refine ⟨?_, ?_⟩
    · rw [List.map_cons, PyData.canLayAll0, ih.1]; simp [pi2, PyData.canLay0, PyData.canLayAll0]
    · rw [List.map_cons, PyData.depthAll]; exact Nat.max_le.mpr ⟨by simp [pi2, PyData.depth, PyData.depthAll], ih.2⟩
theorem shaped_pis (fs : List (Int × Int)) : SeqAt.shaped (.tuple (fs.map pi2)) = true := by
  have h := pis_ok fs
  unfold SeqAt.shaped
  rw [PyData.canLay0, PyData.depth, h.1]
  simp
  omega
theorem eqv_pis : ∀ fs gs : List (Int × Int), PyData.eqvAll (fs.map pi2) (gs.map pi2) = decide (fs = gs)
  | [], [] => rfl
  | [], m :: ms => rfl
  | n :: ns, [] => rfl
  | (a, b) :: ns, (c, d) :: ms => by
    rw [List.map_cons, List.map_cons, PyData.eqvAll, eqv_pis ns ms]
    apply Bool.eq_iff_iff.mpr
    simp [pi2, PyData.eqv, PyData.eqvAll]
theorem PrT.dp {K : PySem.W.Frag} {H : Hp} {xs : List V} {ps : List (Int × Int)} (h : PrT K H xs ps) : DpAll K H xs (ps.map pi2) := by
  induction h with
  | nil => exact .nil
  | cons h _ ih => exact .cons (.tup h (dp_ints [_, _])) ih
theorem eqv_tp (ps qs : List (Int × Int)) : PyData.eqv (.tuple (ps.map pi2)) (.tuple (qs.map pi2)) = decide (ps = qs) := by
  rw [PyData.eqv, eqv_pis]
end Fr
namespace Fr
open PySem PySem.Spec PyProof.Rows L2
def Dk (kvs : List (Key × V)) (ks : List Int) : Prop := kvs.map (·.1) = ks.map Sum.inl
theorem Dk.nil : Dk [] [] := rfl
theorem Dk.put {kvs : List (Key × V)} {ks : List Int} (h : Dk kvs ks) (k : Int) (v : V) : Dk (putK kvs (Sum.inl k : Key) v) (if k ∈ ks then ks else ks ++ [k]) := by
  unfold Dk at *
  have hany : (kvs.any fun kv => decide (kv.1 = (Sum.inl k : Key))) = decide (k ∈ ks) := by
    rw [Bool.eq_iff_iff, List.any_eq_true, decide_eq_true_iff]
    constructor
    · rintro ⟨kv, h1, h2⟩
      have : kv.1 ∈ kvs.map (·.1) := List.mem_map_of_mem h1
      rw [h, List.mem_map] at this
      obtain ⟨i, h3, h4⟩ := this
      rw [of_decide_eq_true h2] at h4
      rw [← Sum.inl.inj h4]
      exact h3
    · intro hk
      have : (Sum.inl k : Key) ∈ kvs.map (·.1) := by
        rw [h]
        exact List.mem_map_of_mem hk
      rw [List.mem_map] at this
      obtain ⟨kv, h1, h2⟩ := this
      exact ⟨kv, h1, decide_eq_true h2⟩
  unfold putK
  rw [hany]
  by_cases hk : k ∈ ks
  · rw [decide_eq_true hk, if_pos rfl, if_pos hk, List.map_map, ← h]
    apply List.map_congr_left
    intro kv _
    show (if kv.1 = Sum.inl k then (kv.1, v) else kv).1 = kv.1
    split <;> rfl
  · rw [decide_eq_false hk, if_neg Bool.false_ne_true, if_neg hk, List.map_append, List.map_append, h]
    rfl
theorem put_len (kvs : List (Key × V)) (k : Key) (v : V) : (putK kvs k v).length ≤ kvs.length + 1 := by
  unfold putK
  split
  · rw [List.length_map]; exact Nat.le_succ _
  · rw [List.length_append]; exact Nat.le_refl _
theorem Dk.some {kvs : List (Key × V)} {ks : List Int} (h : Dk kvs ks) (k : Int) : (valV kvs (Sum.inl k : Key)).isSome = decide (k ∈ ks) := by
  unfold valV
  rw [Option.isSome_map, Bool.eq_iff_iff, decide_eq_true_iff, List.find?_isSome]
  unfold Dk at h
  constructor
  · rintro ⟨kv, h1, h2⟩
    have : kv.1 ∈ kvs.map (·.1) := List.mem_map_of_mem h1
    rw [h, List.mem_map] at this
    obtain ⟨i, h3, h4⟩ := this
    rw [of_decide_eq_true h2] at h4
    rw [← Sum.inl.inj h4]
    exact h3
  · intro hk
    have : (Sum.inl k : Key) ∈ kvs.map (·.1) := by
      rw [h]
      exact List.mem_map_of_mem hk
    rw [List.mem_map] at this
    obtain ⟨kv, h1, h2⟩ := this
    exact ⟨kv, h1, decide_eq_true h2⟩
def Ds (H : Hp) (P : Nat → List (Key × V) → Hp → Prop) (D : Addr) (i : Nat) (H' : Hp) : Prop := Ex0 H H' ∧ ∃ kvs, H' D = some (.dK kvs) ∧ kvs.length ≤ i ∧ P i kvs H'
section
variable {σ : L2.St} {H : Hp} {Q : Addr → Hp → Prop} {tk tv : TE} {vs : List Nat} {g : TG} {tt : TT} {P : Nat → List (Key × V) → Hp → Prop}
theorem ds_yes {D : Addr} {i : Nat} {kvs : List (Key × V)} {H' H4 : Hp} {y z : V} {k : Key} (hD : H D = none) (p1 : Ex0 H H') (p2 : H' D = some (.dK kvs)) (p3 : kvs.length ≤ i) (hi : i < 1000000) (e : Ex0 H' H4) (hy : y = kV k) (h : P (i + 1) (putK kvs k z) (upd H4 D (.dK (putK kvs k z)))) :
    ∃ kvs k, y = kV k ∧ H4 D = some (.dK kvs) ∧ kvs.length < sizeLine ∧ Ds H P D (i + 1) (upd H4 D (.dK (putK kvs k z))) :=
  ⟨kvs, k, hy, Ex0.ap e p2, Nat.lt_of_le_of_lt p3 (Nat.lt_of_lt_of_le hi (by decide)), Fx.mut fm0 (p1.trans e) trivial hD, _, upd_same, Nat.le_trans (put_len _ _ _) (Nat.add_le_add_right p3 1), h⟩
theorem ds_no {D : Addr} {i : Nat} {kvs : List (Key × V)} {H' H4 : Hp} (p1 : Ex0 H H') (p2 : H' D = some (.dK kvs)) (p3 : kvs.length ≤ i) (e : Ex0 H' H4) (h : P (i + 1) kvs H4) : Ds H P D (i + 1) H4 :=
  ⟨p1.trans e, kvs, Ex0.ap e p2, Nat.le_succ_of_le p3, h⟩
theorem dcR {lo : Int} {n : Nat} (P : Nat → List (Key × V) → Hp → Prop) (p0 : ∀ D, H D = none → P 0 [] (upd H D (.dK [])))
    (hs : ∀ D i kvs H', H D = none → i < n → Ex0 H H' → H' D = some (.dK kvs) → kvs.length ≤ i → P i kvs H' → g (.int (lo + i)) (wipe σ vs) H' fun σ2 H2 => wipe σ2 vs = wipe σ vs ∧ tt σ2 H2 fun b H3 =>
      if b = true then tk σ2 H3 fun y H4 => tv σ2 H4 fun z H5 => ∃ kvs k, y = kV k ∧ H5 D = some (.dK kvs) ∧ kvs.length < sizeLine ∧ Ds H P D (i + 1) (upd H5 D (.dK (putK kvs k z))) else Ds H P D (i + 1) H3)
    (q : ∀ D H' kvs, H D = none → Ex0 H H' → H' D = some (.dK kvs) → kvs.length ≤ n → P n kvs H' → Q D H') :
    ∀ D, H D = none → ∃ W : Nat → Nat → Hp → Prop, (∃ m, W 0 m (upd H D (.dK []))) ∧ ∀ i m H, W i m H →
      ((Itr lo n).stop i H ∧ Q D H) ∨ ((Itr lo n).go i H ∧ ∃ Nx : Hp → Prop, (∀ H', Nx H' → ∃ m', m' < m ∧ W (i + 1) m' H') ∧ ∀ x H', (Itr lo n).yld i H x H' → g x (wipe σ vs) H' fun σ2 H2 => wipe σ2 vs = wipe σ vs ∧ tt σ2 H2 fun b H3 =>
        if b = true then tk σ2 H3 fun y H4 => tv σ2 H4 fun z H5 => ∃ kvs k, y = kV k ∧ H5 D = some (.dK kvs) ∧ kvs.length < sizeLine ∧ Nx (upd H5 D (.dK (putK kvs k z))) else Nx H3) := by
  intro D hD
  refine ⟨fun i m H' => Ds H P D i H' ∧ i ≤ n ∧ m = n - i, ⟨n, ⟨Ex0.new hD, [], upd_same, Nat.le_refl _, p0 D hD⟩, Nat.zero_le _, rfl⟩, ?_⟩
  rintro i m H1 ⟨⟨p1, kvs, p2, p3, p4⟩, h1, rfl⟩
  by_cases h : i < n
  · refine .inr ⟨h, fun H' => Ds H P D (i + 1) H', fun H' d => ⟨n - (i + 1), by omega, d, h, rfl⟩, ?_⟩
    rintro x H' ⟨rfl, rfl⟩
    exact hs D i kvs H' hD h p1 p2 p3 p4
  · have : i = n := by omega
    subst this
    exact .inl ⟨Nat.le_refl _, q D H1 kvs hD p1 p2 p3 p4⟩
end
def tCallOK (C : Addr) (sp : Sp) (E : XK) (tf : TE) (t : TA) : TE := fun σ H Q => tf σ H fun y H1 => ∃ a, y = V.ref a ∧ t σ H1 fun vs H2 => ((∃ dx vs, SlX.Slt H2 a C dx vs) ∨ ∃ dx fs, H2 a = some (HO.ins C dx fs)) ∧ sp (V.ref a :: vs) H2 Q E
theorem pe_callOK {X : Cx} {CX : CXT} {k : Nat} {C : Addr} {sp : Sp} {E : XK} {e fe : Expr} {es : List Expr} {tf : TE} {t : TA} {pos : Pos} {g : Addr} {K : PySem.W.Frag} (hK : X.K = K) (hf : PE X fe tf) (c : StX.CallO K C g) (F : FnR X.prog X.w K X.mg X.base CX k g sp) (hr : Room k X.A) (hx : Passes CX X E) (ha : PA X (e :: es) t)
    (h1 : eval (fe.Call (e :: es) [] pos) X.env = (do
      let v ← eval fe X.env
      callWith pos v [] (backTo pos (starEach (e :: es) X.env)) (backToKw pos (keywordEach [] X.env))))
    (h2 : starEach (e :: es) X.env = (false, eval e X.env) :: starEach es X.env)
    (h3 : ((backTo pos (starEach es X.env)).any fun x => x.1) = false) : PE X (fe.Call (e :: es) [] pos) (tCallOK C sp E tf t) := by
  subst hK
  show PE X (fe.Call (e :: es) [] pos) (StX.tCallO X C sp E tf t)
  exact StX.pe_callO hf c F hr hx ha h1 h2 h3
end Fr
namespace BarM
open K05M (fv)
def V (a b c d m : Int) : Prop := ∃ x y : Int, m ∣ fv a b c d x y - 1
def MOD : List Nat := [2, 3, 5, 7, 9, 11, 13, 17, 19, 23, 29, 31, 37, 41, 43, 47, 53, 59]
def pr (m : Nat) : Nat := if m = 9 then 3 else m
def thB (m v : Nat) : Bool := (List.range m).any fun x => decide (x % pr m ≠ 0) && decide (x * x * x % m = v)
def at1 (a b c d : Int) (m x : Nat) : Nat := ((((a % (m : Int) * x + b % (m : Int)) * x + c % (m : Int)) * x + d % (m : Int)) % (m : Int)).toNat
def hit1 (a b c d : Int) (m : Nat) : Bool := (List.range m).any fun x => thB m (at1 a b c d m x)
def hit2 (a b c d : Int) (m : Nat) : Bool := [0, 3, 6].any fun y => thB m (at1 d c b a m y)
def barB (a b c d : Int) (m : Nat) : Bool := !hit1 a b c d m && !hit2 a b c d m
theorem tab : ∀ m ∈ MOD, ∀ x ∈ List.range m, x % pr m ≠ 0 → ∃ s ∈ List.range m, x * s % m = 1 := by decide +kernel
theorem pr_dvd : ∀ m ∈ MOD, pr m ∣ m ∧ 2 ≤ m ∧ m ≤ 59 ∧ 2 ≤ pr m := by decide +kernel
theorem dvd_mod {m : Nat} {p x : Int} (h : p ∣ (m : Int)) : p ∣ x % (m : Int) ↔ p ∣ x := by
  have := Int.emod_add_mul_ediv x (m : Int)
  constructor
  · intro g
    rw [← this]
    exact Int.dvd_add g (Int.dvd_trans h (Int.dvd_mul_right _ _))
  · intro g
    have e : x % (m : Int) = x - (m : Int) * (x / (m : Int)) := by omega
    rw [e]
    exact Int.dvd_sub g (Int.dvd_trans h (Int.dvd_mul_right _ _))
theorem unit {m : Nat} (hm : m ∈ MOD) {x : Int} (hx : ¬ ((pr m : Nat) : Int) ∣ x) : ∃ s : Nat, s < m ∧ (m : Int) ∣ x * s - 1 ∧ s % pr m ≠ 0 := by
  obtain ⟨h1, h2, h3, h4⟩ := pr_dvd m hm
  have m0 : (0 : Int) < (m : Int) := by omega
  have x0 := Int.emod_nonneg x (show (m : Int) ≠ 0 by omega)
  have x1 := Int.emod_lt_of_pos x m0
  obtain ⟨r, hr⟩ : ∃ r : Nat, x % (m : Int) = r := ⟨(x % (m : Int)).toNat, by omega⟩
  have hp : ((pr m : Nat) : Int) ∣ (m : Int) := Int.ofNat_dvd.mpr h1
  have r2 : r % pr m ≠ 0 := fun z => hx ((dvd_mod hp).mp (by rw [hr]; exact Int.ofNat_dvd.mpr (Nat.dvd_of_mod_eq_zero z)))
  obtain ⟨s, hs, e⟩ := tab m hm r (List.mem_range.mpr (by omega)) r2
  rw [List.mem_range] at hs
  have e2 := Nat.mod_add_div (r * s) m
  rw [e] at e2
  have e3 : (r : Int) * (s : Int) = 1 + (m : Int) * ((r * s / m : Nat) : Int) := by
    have := congrArg (fun n : Nat => (n : Int)) e2
    simp only [Int.natCast_add, Int.natCast_mul] at this
    exact this.symm
  have e4 := Int.emod_add_mul_ediv x (m : Int)
  rw [hr] at e4
  refine ⟨s, hs, ⟨x / (m : Int) * s + ((r * s / m : Nat) : Int), ?_⟩, fun z => ?_⟩
  · generalize ((r * s / m : Nat) : Int) = k at *
    generalize x / (m : Int) = j at *
    rw [← e4, Int.add_mul, e3]
    grind
  · have g1 : pr m ∣ s := Nat.dvd_of_mod_eq_zero z
    have g2 : pr m ∣ r * s := Nat.dvd_trans g1 (Nat.dvd_mul_left _ _)
    have g3 : pr m ∣ 1 := by
      have : r * s = 1 + m * (r * s / m) := e2.symm
      exact (Nat.dvd_add_left (Nat.dvd_trans h1 (Nat.dvd_mul_right m (r * s / m)))).mp (this ▸ g2)
    have := Nat.le_of_dvd (by decide) g3
    omega
theorem fv_congr {m a b c d x y x' y' : Int} (hx : m ∣ x' - x) (hy : m ∣ y' - y) : m ∣ fv a b c d x' y' - fv a b c d x y := by
  obtain ⟨i, hi⟩ := hx
  obtain ⟨j, hj⟩ := hy
  obtain rfl : x' = x + m * i := by omega
  obtain rfl : y' = y + m * j := by omega
  refine ⟨a * (i * (x + m * i) * (x + m * i) + x * i * (x + m * i) + x * x * i) + b * (i * (x + m * i) * (y + m * j) + x * i * (y + m * j) + x * x * j) + c * (i * (y + m * j) * (y + m * j) + x * j * (y + m * j) + x * y * j) + d * (j * (y + m * j) * (y + m * j) + y * j * (y + m * j) + y * y * j), ?_⟩
  clear hi hj
  unfold fv
  grind
theorem fv_scale (a b c d x y s : Int) : fv a b c d (s * x) (s * y) = s * s * s * fv a b c d x y := by unfold fv; grind
theorem fv_swap (a b c d x y : Int) : fv d c b a y x = fv a b c d x y := by unfold fv; grind
theorem at1_eq {a b c d : Int} {m x : Nat} (hm : 0 < m) : (m : Int) ∣ fv a b c d x 1 - ((at1 a b c d m x : Nat) : Int) ∧ at1 a b c d m x < m := by
  have m0 : (0 : Int) < (m : Int) := by omega
  have h0 := Int.emod_nonneg (((a % (m : Int) * x + b % (m : Int)) * x + c % (m : Int)) * x + d % (m : Int)) (show (m : Int) ≠ 0 by omega)
  have h1 := Int.emod_lt_of_pos (((a % (m : Int) * x + b % (m : Int)) * x + c % (m : Int)) * x + d % (m : Int)) m0
  have e : ((at1 a b c d m x : Nat) : Int) = (((a % (m : Int) * x + b % (m : Int)) * x + c % (m : Int)) * x + d % (m : Int)) % (m : Int) := by
    unfold at1
    omega
  refine ⟨?_, by omega⟩
  rw [e]
  have ea := Int.emod_add_mul_ediv a (m : Int)
  have eb := Int.emod_add_mul_ediv b (m : Int)
  have ec := Int.emod_add_mul_ediv c (m : Int)
  have ed := Int.emod_add_mul_ediv d (m : Int)
  clear e h0 h1
  generalize (m : Int) = M at *
  generalize a % M = a0 at *
  generalize b % M = b0 at *
  generalize c % M = c0 at *
  generalize d % M = d0 at *
  generalize a / M = a1 at *
  generalize b / M = b1 at *
  generalize c / M = c1 at *
  generalize d / M = d1 at *
  have ef := Int.emod_add_mul_ediv (((a0 * x + b0) * x + c0) * x + d0) M
  generalize (((a0 * x + b0) * x + c0) * x + d0) % M = r at *
  generalize (((a0 * x + b0) * x + c0) * x + d0) / M = q at *
  have e2 : fv a b c d x 1 = (((a0 * x + b0) * x + c0) * x + d0) + M * (a1 * x * x * x + b1 * x * x + c1 * x + d1) := by
    rw [← ea, ← eb, ← ec, ← ed]
    unfold fv
    grind
  rw [e2, ← ef]
  refine ⟨q + (a1 * x * x * x + b1 * x * x + c1 * x + d1), ?_⟩
  rw [Int.mul_add M q]
  omega
theorem thB_iff {m v : Nat} : thB m v = true ↔ ∃ x, x < m ∧ x % pr m ≠ 0 ∧ x * x * x % m = v := by
  unfold thB
  rw [List.any_eq_true]
  constructor
  · rintro ⟨x, h1, h2⟩
    rw [Bool.and_eq_true, decide_eq_true_iff, decide_eq_true_iff] at h2
    exact ⟨x, List.mem_range.mp h1, h2.1, h2.2⟩
  · rintro ⟨x, h1, h2, h3⟩
    exact ⟨x, List.mem_range.mpr h1, by rw [Bool.and_eq_true, decide_eq_true_iff, decide_eq_true_iff]; exact ⟨h2, h3⟩⟩
theorem cube_mod {m s : Nat} : (m : Int) ∣ (s : Int) * s * s - ((s * s * s % m : Nat) : Int) := by
  have := Nat.mod_add_div (s * s * s) m
  have := congrArg (fun n : Nat => (n : Int)) this
  simp only [Int.natCast_add, Int.natCast_mul] at this
  exact ⟨((s * s * s / m : Nat) : Int), by omega⟩
theorem eq_of_dvd {m u v : Nat} (h : (m : Int) ∣ (u : Int) - v) (hu : u < m) (hv : v < m) : u = v := by
  obtain ⟨k, hk⟩ := h
  have hk0 : k = 0 := by
    rcases Int.lt_trichotomy k 0 with g | g | g
    · have := Int.mul_le_mul_of_nonneg_left (show k ≤ -1 by omega) (show (0 : Int) ≤ m by omega)
      omega
    · exact g
    · have := Int.mul_le_mul_of_nonneg_left (show 1 ≤ k by omega) (show (0 : Int) ≤ m by omega)
      omega
  rw [hk0] at hk
  omega
theorem hit_V {a b c d : Int} {m x : Nat} (hm : m ∈ MOD) (h : thB m (at1 a b c d m x) = true) : V a b c d m := by
  obtain ⟨h1, h2, h3, h4⟩ := pr_dvd m hm
  obtain ⟨t, ht, hp, e⟩ := thB_iff.mp h
  obtain ⟨s, hs, ⟨k, hk⟩, _⟩ := unit hm (x := (t : Int)) (fun z => hp (Nat.mod_eq_zero_of_dvd (Int.ofNat_dvd.mp z)))
  obtain ⟨⟨j, hj⟩, _⟩ := at1_eq (a := a) (b := b) (c := c) (d := d) (m := m) (x := x) (by omega)
  obtain ⟨i, hi⟩ := cube_mod (m := m) (s := t)
  rw [e] at hi
  refine ⟨s * x, s, ?_⟩
  have e1 := fv_scale a b c d x 1 s
  rw [Int.mul_one] at e1
  rw [e1]
  have e2 : fv a b c d x 1 = (t : Int) * t * t + (m : Int) * (j - i) := by rw [Int.mul_sub]; omega
  rw [e2]
  have e3 : (t : Int) * s = 1 + (m : Int) * k := by omega
  refine ⟨s * s * s * (j - i) + (3 * k + 3 * m * k * k + m * m * k * k * k), ?_⟩
  have e4 : (s : Int) * s * s * ((t : Int) * t * t + (m : Int) * (j - i)) = ((t : Int) * s) * ((t : Int) * s) * ((t : Int) * s) + (m : Int) * (s * s * s * (j - i)) := by grind
  rw [e4, e3]
  grind
theorem bar_iff {a b c d : Int} {m : Nat} (hm : m ∈ MOD) : barB a b c d m = true ↔ ¬ V a b c d m := by
  obtain ⟨h1, h2, h3, h4⟩ := pr_dvd m hm
  unfold barB
  rw [Bool.and_eq_true, Bool.not_eq_true', Bool.not_eq_true']
  constructor
  · rintro ⟨g1, g2⟩ ⟨x, y, hv⟩
    obtain ⟨w, hw⟩ := hv
    have hpm : ((pr m : Nat) : Int) ∣ (m : Int) := Int.ofNat_dvd.mpr h1
    have third : ∀ {A B C D : Int} {X : Nat} {s : Nat}, s < m → s % pr m ≠ 0 → (m : Int) ∣ fv A B C D X 1 - (s : Int) * s * s → thB m (at1 A B C D m X) = true := by
      intro A B C D X s hs hp hd
      obtain ⟨k1, k2⟩ := at1_eq (a := A) (b := B) (c := C) (d := D) (m := m) (x := X) (by omega)
      refine thB_iff.mpr ⟨s, hs, hp, ?_⟩
      refine eq_of_dvd ?_ (Nat.mod_lt _ (by omega)) k2
      have k3 := cube_mod (m := m) (s := s)
      obtain ⟨u1, e1⟩ := k1
      obtain ⟨u2, e2⟩ := k3
      obtain ⟨u3, e3⟩ := hd
      exact ⟨u1 - u3 - u2, by rw [Int.mul_sub, Int.mul_sub]; omega⟩
    by_cases hy : ((pr m : Nat) : Int) ∣ y
    · have hx : ¬ ((pr m : Nat) : Int) ∣ x := by
        intro hx
        obtain ⟨i, rfl⟩ := hx
        have : ((pr m : Nat) : Int) ∣ 1 := by
          obtain ⟨j, rfl⟩ := hy
          obtain ⟨l, hl⟩ := hpm
          refine ⟨i * fv a b c d (pr m * i) (pr m * j) * 0 + (i * (pr m * i) * (pr m * i) * a + i * (pr m * i) * (pr m * j) * b + i * (pr m * j) * (pr m * j) * c + j * (pr m * j) * (pr m * j) * d) - l * w, ?_⟩
          rw [hl] at hw
          unfold fv at *
          grind
        have := Int.le_of_dvd (by decide) this
        omega
      obtain ⟨s, hs, hsx, hsp⟩ := unit hm hx
      have Y0 := Int.emod_nonneg (s * y) (show (m : Int) ≠ 0 by omega)
      have Y1 := Int.emod_lt_of_pos (s * y) (show (0 : Int) < (m : Int) by omega)
      obtain ⟨Y, hY⟩ : ∃ Y : Nat, (s : Int) * y % (m : Int) = Y := ⟨((s : Int) * y % (m : Int)).toNat, by omega⟩
      have hYp : pr m ∣ Y := by
        refine Int.ofNat_dvd.mp ?_
        rw [← hY]
        exact (dvd_mod hpm).mpr (Int.dvd_trans hy (Int.dvd_mul_left _ _))
      have hY3 : Y ∈ [0, 3, 6] := by
        have : Y < m := by omega
        unfold pr at hYp
        by_cases h9 : m = 9
        · rw [if_pos h9] at hYp
          obtain ⟨k, rfl⟩ := hYp
          have : k = 0 ∨ k = 1 ∨ k = 2 := by omega
          rcases this with rfl | rfl | rfl <;> decide
        · rw [if_neg h9] at hYp
          have := Nat.eq_zero_of_dvd_of_lt hYp this
          rw [this]; decide
      have key : thB m (at1 d c b a m Y) = true := by
        refine third hs hsp ?_
        have k1 : (m : Int) ∣ fv d c b a (Y : Int) 1 - fv d c b a (s * y) (s * x) := by
          refine fv_congr ?_ ?_
          · have := Int.emod_add_mul_ediv (s * y) (m : Int)
            exact ⟨-(s * y / m), by rw [Int.mul_neg]; omega⟩
          · obtain ⟨k, hk⟩ := hsx
            exact ⟨-k, by rw [Int.mul_neg, ← hk]; grind⟩
        rw [fv_swap a b c d (s * x) (s * y), fv_scale] at k1
        obtain ⟨u, hu⟩ := k1
        refine ⟨u + s * s * s * w, ?_⟩
        have : fv a b c d x y = 1 + (m : Int) * w := by omega
        rw [this] at hu
        rw [Int.mul_add, ← hu]
        grind
      unfold hit2 at g2
      rw [List.any_eq_false] at g2
      exact g2 Y hY3 key
    · obtain ⟨s, hs, hsy, hsp⟩ := unit hm hy
      have X0 := Int.emod_nonneg (s * x) (show (m : Int) ≠ 0 by omega)
      have X1 := Int.emod_lt_of_pos (s * x) (show (0 : Int) < (m : Int) by omega)
      obtain ⟨X, hX⟩ : ∃ X : Nat, (s : Int) * x % (m : Int) = X := ⟨((s : Int) * x % (m : Int)).toNat, by omega⟩
      have key : thB m (at1 a b c d m X) = true := by
        refine third hs hsp ?_
        have k1 : (m : Int) ∣ fv a b c d (X : Int) 1 - fv a b c d (s * x) (s * y) := by
          refine fv_congr ?_ ?_
          · have := Int.emod_add_mul_ediv (s * x) (m : Int)
            exact ⟨-(s * x / m), by rw [Int.mul_neg]; omega⟩
          · obtain ⟨k, hk⟩ := hsy
            exact ⟨-k, by rw [Int.mul_neg, ← hk]; grind⟩
        rw [fv_scale] at k1
        obtain ⟨u, hu⟩ := k1
        refine ⟨u + s * s * s * w, ?_⟩
        have : fv a b c d x y = 1 + (m : Int) * w := by omega
        rw [this] at hu
        rw [Int.mul_add, ← hu]
        grind
      unfold hit1 at g1
      rw [List.any_eq_false] at g1
      exact g1 X (List.mem_range.mpr (by omega)) key
  · intro hn
    constructor
    · unfold hit1
      rw [List.any_eq_false]
      exact fun x _ h => hn (hit_V hm h)
    · unfold hit2
      rw [List.any_eq_false]
      intro y _ h
      obtain ⟨u, v, k⟩ := hit_V hm h
      exact hn ⟨v, u, by rw [← fv_swap]; exact k⟩
end BarM
namespace BarM
open K05M (fv)
theorem mix {a b c d x y x1 y1 x2 y2 m n w : Int} (hx1 : m ∣ x - x1) (hy1 : m ∣ y - y1) (h1 : m ∣ fv a b c d x1 y1 - 1) : m ∣ fv a b c d x y - 1 := by
  obtain ⟨i, hi⟩ := fv_congr (a := a) (b := b) (c := c) (d := d) hx1 hy1
  obtain ⟨j, hj⟩ := h1
  exact ⟨i + j, by rw [Int.mul_add]; omega⟩
theorem V4 {a b c d : Int} (h : V a b c d 2) : V a b c d 4 := by
  obtain ⟨x, y, k, hk⟩ := h
  have e := fv_scale a b c d x y (-1)
  rcases (by omega : k % 2 = 0 ∨ k % 2 = 1) with g | g
  · exact ⟨x, y, k / 2, by omega⟩
  · refine ⟨-1 * x, -1 * y, -(k / 2) - 1, ?_⟩
    rw [e]
    omega
theorem V8 {a b c d : Int} (h : V a b c d 2) : V a b c d 8 := by
  obtain ⟨x, y, k, hk⟩ := h
  have e := fv_scale a b c d x y (fv a b c d x y)
  refine ⟨fv a b c d x y * x, fv a b c d x y * y, ?_⟩
  rw [e]
  clear e
  generalize fv a b c d x y = w at *
  obtain rfl : w = 2 * k + 1 := by omega
  have h2 : (2 * k + 1) * (2 * k + 1) = 1 + 4 * (k * (k + 1)) := by grind
  have h3 : ∃ j, k * (k + 1) = 2 * j := by
    rcases (by omega : k % 2 = 0 ∨ k % 2 = 1) with g | g
    · exact ⟨k / 2 * (k + 1), by rw [← Int.mul_assoc]; congr 1; omega⟩
    · refine ⟨k * ((k + 1) / 2), ?_⟩
      have : k + 1 = 2 * ((k + 1) / 2) := by omega
      generalize (k + 1) / 2 = u at *
      rw [this]
      grind
  obtain ⟨j, hj⟩ := h3
  rw [hj] at h2
  refine ⟨2 * j + 8 * j * j, ?_⟩
  have : (2 * k + 1) * (2 * k + 1) * (2 * k + 1) * (2 * k + 1) = ((2 * k + 1) * (2 * k + 1)) * ((2 * k + 1) * (2 * k + 1)) := by grind
  rw [this, h2]
  grind
theorem Vcrt {a b c d m n u v : Int} (hu : n ∣ u) (hu1 : m ∣ u - 1) (hv : m ∣ v) (hv1 : n ∣ v - 1) (h1 : V a b c d m) (h2 : V a b c d n) : ∃ x y, m ∣ fv a b c d x y - 1 ∧ n ∣ fv a b c d x y - 1 := by
  obtain ⟨x1, y1, h1⟩ := h1
  obtain ⟨x2, y2, h2⟩ := h2
  obtain ⟨i, rfl⟩ := hu
  obtain ⟨j, hj⟩ := hu1
  obtain ⟨k, rfl⟩ := hv
  obtain ⟨l, hl⟩ := hv1
  refine ⟨n * i * x1 + m * k * x2, n * i * y1 + m * k * y2, ?_, ?_⟩
  · refine mix (x1 := x1) (y1 := y1) (x2 := 0) (y2 := 0) (n := 0) (w := 0) ⟨j * x1 + k * x2, ?_⟩ ⟨j * y1 + k * y2, ?_⟩ h1
    · rw [show n * i * x1 = (1 + m * j) * x1 by rw [show n * i = 1 + m * j by omega]]; grind
    · rw [show n * i * y1 = (1 + m * j) * y1 by rw [show n * i = 1 + m * j by omega]]; grind
  · refine mix (x1 := x2) (y1 := y2) (x2 := 0) (y2 := 0) (n := 0) (w := 0) ⟨i * x1 + l * x2, ?_⟩ ⟨i * y1 + l * y2, ?_⟩ h2
    · rw [show m * k * x2 = (1 + n * l) * x2 by rw [show m * k = 1 + n * l by omega]]; grind
    · rw [show m * k * y2 = (1 + n * l) * y2 by rw [show m * k = 1 + n * l by omega]]; grind
theorem V_small {a b c d : Int} {m : Nat} (h2 : 2 ≤ m) (h14 : m ≤ 14) (h : ∀ q ∈ MOD, q ≤ m → V a b c d q) : V a b c d m := by
  have v2 : V a b c d 2 := h 2 (by decide) (by omega)
  have cases : m ∈ MOD ∨ m = 4 ∨ m = 6 ∨ m = 8 ∨ m = 10 ∨ m = 12 ∨ m = 14 := by
    unfold MOD
    simp only [List.mem_cons, List.mem_nil_iff, or_false]
    omega
  rcases cases with g | rfl | rfl | rfl | rfl | rfl | rfl
  · exact h m g (Nat.le_refl m)
  · exact V4 v2
  · obtain ⟨x, y, k1, k2⟩ := Vcrt (m := 2) (n := 3) (u := 3) (v := 4) ⟨1, rfl⟩ ⟨1, rfl⟩ ⟨2, rfl⟩ ⟨1, rfl⟩ v2 (h 3 (by decide) (by omega))
    exact ⟨x, y, by omega⟩
  · exact V8 v2
  · obtain ⟨x, y, k1, k2⟩ := Vcrt (m := 2) (n := 5) (u := 5) (v := 6) ⟨1, rfl⟩ ⟨2, rfl⟩ ⟨3, rfl⟩ ⟨1, rfl⟩ v2 (h 5 (by decide) (by omega))
    exact ⟨x, y, by omega⟩
  · obtain ⟨x, y, k1, k2⟩ := Vcrt (m := 4) (n := 3) (u := 9) (v := 4) ⟨3, rfl⟩ ⟨2, rfl⟩ ⟨1, rfl⟩ ⟨1, rfl⟩ (V4 v2) (h 3 (by decide) (by omega))
    exact ⟨x, y, by omega⟩
  · obtain ⟨x, y, k1, k2⟩ := Vcrt (m := 2) (n := 7) (u := 7) (v := 8) ⟨1, rfl⟩ ⟨3, rfl⟩ ⟨4, rfl⟩ ⟨1, rfl⟩ v2 (h 7 (by decide) (by omega))
    exact ⟨x, y, by omega⟩
theorem V_neg {a b c d m x y : Int} (h : m ∣ fv a b c d x y + 1) : V a b c d m := by
  obtain ⟨k, hk⟩ := h
  refine ⟨-1 * x, -1 * y, -k, ?_⟩
  rw [fv_scale]
  have h := Int.mul_neg m k
  omega
def ix (a b c d : Int) : Nat := Nat.gcd (Nat.gcd (Nat.gcd a.natAbs d.natAbs) (b + c).natAbs) (2 * b).natAbs
theorem dvd_ix {a b c d : Int} {k : Nat} : k ∣ ix a b c d ↔ (k : Int) ∣ a ∧ (k : Int) ∣ d ∧ (k : Int) ∣ b + c ∧ (k : Int) ∣ 2 * b := by
  unfold ix
  rw [Nat.dvd_gcd_iff, Nat.dvd_gcd_iff, Nat.dvd_gcd_iff, Int.ofNat_dvd_left, Int.ofNat_dvd_left, Int.ofNat_dvd_left, Int.ofNat_dvd_left, and_assoc, and_assoc]
theorem even3 (x y : Int) : ∃ j, x * y * (x - y) = 2 * j := by
  rcases (by omega : x % 2 = 0 ∨ y % 2 = 0 ∨ (x - y) % 2 = 0) with g | g | g
  · refine ⟨x / 2 * y * (x - y), ?_⟩
    have : x = 2 * (x / 2) := by omega
    generalize x / 2 = u at *
    subst this
    grind
  · refine ⟨x * (y / 2) * (x - y), ?_⟩
    have : y = 2 * (y / 2) := by omega
    generalize y / 2 = u at *
    subst this
    grind
  · refine ⟨x * y * ((x - y) / 2), ?_⟩
    have : x - y = 2 * ((x - y) / 2) := by omega
    generalize (x - y) / 2 = u at *
    rw [this]
    grind
theorem ix_all {a b c d : Int} {k : Nat} (h : k ∣ ix a b c d) (x y : Int) : (k : Int) ∣ fv a b c d x y := by
  obtain ⟨⟨i, hi⟩, ⟨j, hj⟩, ⟨l, hl⟩, ⟨n, hn⟩⟩ := dvd_ix.mp h
  obtain ⟨e, he⟩ := even3 x y
  refine ⟨i * x * x * x + j * y * y * y + l * x * y * y + n * e, ?_⟩
  have h1 : fv a b c d x y = a * x * x * x + d * y * y * y + (b + c) * x * y * y + b * (x * y * (x - y)) := by unfold fv; grind
  rw [h1, he, hi, hj, hl]
  have : b * (2 * e) = k * n * e := by rw [← hn]; grind
  rw [this]
  grind
def pts : List (Int × Int) := [(1, 0), (0, 1), (1, 1), (1, -1), (2, 1), (1, 2), (3, 1), (1, 3), (3, 2), (2, 3), (5, 1)]
theorem ix_pts {a b c d : Int} {k : Nat} (h : ∀ z ∈ pts, (k : Int) ∣ fv a b c d z.1 z.2) : k ∣ ix a b c d := by
  have h1 := h (1, 0) (by decide)
  have h2 := h (0, 1) (by decide)
  have h3 := h (1, 1) (by decide)
  have h4 := h (1, -1) (by decide)
  rw [show fv a b c d (1, 0).1 (1, 0).2 = a by unfold fv; grind] at h1
  rw [show fv a b c d (0, 1).1 (0, 1).2 = d by unfold fv; grind] at h2
  rw [show fv a b c d (1, 1).1 (1, 1).2 = a + b + c + d by unfold fv; grind] at h3
  rw [show fv a b c d (1, -1).1 (1, -1).2 = a - b + c - d by unfold fv; grind] at h4
  obtain ⟨i, hi⟩ := h1
  obtain ⟨j, hj⟩ := h2
  obtain ⟨l, hl⟩ := h3
  obtain ⟨n, hn⟩ := h4
  refine dvd_ix.mpr ⟨⟨i, hi⟩, ⟨j, hj⟩, ⟨l - i - j, by rw [Int.mul_sub, Int.mul_sub]; omega⟩, ⟨l - n - 2 * j, ?_⟩⟩
  rw [Int.mul_sub, Int.mul_sub, ← hl, ← hn, show (k : Int) * (2 * j) = 2 * (k * j) by grind, ← hj]
  omega
def sh (a b c d : Int) : Nat := Nat.gcd (Nat.gcd (Nat.gcd a.natAbs b.natAbs) c.natAbs) d.natAbs
theorem dvd_sh {a b c d : Int} {k : Nat} : k ∣ sh a b c d ↔ (k : Int) ∣ a ∧ (k : Int) ∣ b ∧ (k : Int) ∣ c ∧ (k : Int) ∣ d := by
  unfold sh
  rw [Nat.dvd_gcd_iff, Nat.dvd_gcd_iff, Nat.dvd_gcd_iff, Int.ofNat_dvd_left, Int.ofNat_dvd_left, Int.ofNat_dvd_left, Int.ofNat_dvd_left, and_assoc, and_assoc]
theorem ix_sh (a b c d : Int) : ix a b c d = sh a b c d ∨ ix a b c d = 2 * sh a b c d := by
  have h1 : sh a b c d ∣ ix a b c d := by
    obtain ⟨g1, g2, g3, g4⟩ := dvd_sh.mp (Nat.dvd_refl (sh a b c d))
    exact dvd_ix.mpr ⟨g1, g4, Int.dvd_add g2 g3, Int.dvd_trans g2 (Int.dvd_mul_left _ _)⟩
  have h2 : ix a b c d ∣ 2 * sh a b c d := by
    obtain ⟨g1, g2, g3, g4⟩ := dvd_ix.mp (Nat.dvd_refl (ix a b c d))
    have e : 2 * sh a b c d = Nat.gcd (Nat.gcd (Nat.gcd (2 * a.natAbs) (2 * b.natAbs)) (2 * c.natAbs)) (2 * d.natAbs) := by
      unfold sh
      rw [Nat.gcd_mul_left, Nat.gcd_mul_left, Nat.gcd_mul_left]
    have two : ∀ z : Int, 2 * z.natAbs = (2 * z).natAbs := fun z => by omega
    rw [e, Nat.dvd_gcd_iff, Nat.dvd_gcd_iff, Nat.dvd_gcd_iff, two, two, two, two, ← Int.ofNat_dvd_left, ← Int.ofNat_dvd_left, ← Int.ofNat_dvd_left, ← Int.ofNat_dvd_left]
    refine ⟨⟨⟨Int.dvd_trans g1 (Int.dvd_mul_left _ _), g4⟩, ?_⟩, Int.dvd_trans g2 (Int.dvd_mul_left _ _)⟩
    have : 2 * c = (b + c) + (b + c) - 2 * b := by omega
    rw [this]
    exact Int.dvd_sub (Int.dvd_add g3 g3) g4
  obtain ⟨k, hk⟩ := h1
  rcases Nat.eq_zero_or_pos (sh a b c d) with z | z
  · left
    rw [hk, z, Nat.zero_mul]
  · rw [hk, Nat.mul_comm 2] at h2
    have := Nat.le_of_dvd (by decide) (Nat.dvd_of_mul_dvd_mul_left z h2)
    have hk' : k = 0 ∨ k = 1 ∨ k = 2 := by omega
    rcases hk' with rfl | rfl | rfl
    · obtain ⟨j, hj⟩ := h2
      rw [Nat.mul_zero, Nat.zero_mul] at hj
      omega
    · left; rw [hk, Nat.mul_one]
    · right; rw [hk, Nat.mul_comm]
theorem led_V {a b c d a' b' c' d' m : Int} (h : ∀ x y : Int, ∃ X Y : Int, fv a' b' c' d' X Y = fv a b c d x y ∨ fv a' b' c' d' X Y = -fv a b c d x y) (g : V a b c d m) : V a' b' c' d' m := by
  obtain ⟨x, y, k, hk⟩ := g
  obtain ⟨X, Y, e | e⟩ := h x y
  · exact ⟨X, Y, k, by rw [e]; exact hk⟩
  · exact V_neg (x := X) (y := Y) ⟨-k, by rw [e, Int.mul_neg]; omega⟩
theorem led_ix {a b c d a' b' c' d' : Int} (h : ∀ x y : Int, ∃ X Y : Int, fv a' b' c' d' X Y = fv a b c d x y ∨ fv a' b' c' d' X Y = -fv a b c d x y) : ix a' b' c' d' ∣ ix a b c d := by
  refine ix_pts fun z _ => ?_
  obtain ⟨X, Y, e | e⟩ := h z.1 z.2
  · rw [← e]; exact ix_all (Nat.dvd_refl _) X Y
  · have := ix_all (Nat.dvd_refl (ix a' b' c' d')) X Y
    rw [e] at this
    exact Int.dvd_neg.mp this
theorem bar_ix {a b c d : Int} {k : Nat} (h : k ∣ ix a b c d) (h2 : 2 ≤ k) : ¬ V a b c d k := by
  rintro ⟨x, y, g⟩
  have g1 := ix_all h x y
  have : (k : Int) ∣ 1 := by
    have e : (1 : Int) = fv a b c d x y - (fv a b c d x y - 1) := by omega
    rw [e]
    exact Int.dvd_sub g1 g
  have := Int.le_of_dvd (by decide) this
  omega
def Good (a b c d : Int) : Prop := ix a b c d ≠ 1 → ∃ m ∈ MOD, (m ≤ 2 ∨ m ≤ ix a b c d) ∧ ¬ V a b c d m
theorem small_q : ∀ g ∈ List.range 61, 2 ≤ g → ∃ q ∈ MOD, q ∣ g := by decide +kernel
theorem good_of {a b c d : Int} {q : Nat} (hq : q ∈ MOD) (h : q ∣ ix a b c d) : Good a b c d := by
  intro _
  have h2 := (pr_dvd q hq).2.1
  rcases Nat.eq_zero_or_pos (ix a b c d) with z | z
  · exact ⟨2, by decide, .inl (Nat.le_refl 2), bar_ix (k := 2) (by rw [z]; exact Nat.dvd_zero 2) (Nat.le_refl 2)⟩
  · exact ⟨q, hq, .inr (Nat.le_of_dvd z h), bar_ix h h2⟩
theorem good_small {a b c d : Int} (h : ix a b c d ≤ 60) : Good a b c d := by
  intro h1
  rcases Nat.eq_zero_or_pos (ix a b c d) with z | z
  · exact good_of (q := 2) (by decide) (by rw [z]; exact Nat.dvd_zero 2) h1
  · obtain ⟨q, hq, hd⟩ := small_q (ix a b c d) (List.mem_range.mpr (by omega)) (by omega)
    exact good_of hq hd h1
theorem good_forty {a b c d : Int} (ha : a.natAbs ≤ 40) (hb : b.natAbs ≤ 40) (hc : c.natAbs ≤ 40) (hd : d.natAbs ≤ 40) : Good a b c d := by
  rcases Nat.lt_or_ge 60 (ix a b c d) with h | h
  · obtain ⟨g1, g2, g3, g4⟩ := dvd_ix.mp (Nat.dvd_refl (ix a b c d))
    rw [Int.ofNat_dvd_left] at g1 g2 g3 g4
    have z : ∀ n : Nat, ix a b c d ∣ n → n < ix a b c d → n = 0 := fun n h1 h2 => Nat.eq_zero_of_dvd_of_lt h1 h2
    have z1 := z _ g1 (by omega)
    have z2 := z _ g2 (by omega)
    have e1 : a = 0 := by omega
    have e2 : d = 0 := by omega
    by_cases h2 : 2 ∣ ix a b c d
    · exact good_of (by decide) h2
    · have cop : Nat.Coprime (ix a b c d) 2 := by
        have k1 := Nat.gcd_dvd_right (ix a b c d) 2
        have k2 := Nat.gcd_dvd_left (ix a b c d) 2
        have k3 := Nat.le_of_dvd (by decide) k1
        have k4 : Nat.gcd (ix a b c d) 2 ≠ 2 := fun e => h2 (e ▸ k2)
        have k5 := Nat.pos_of_dvd_of_pos k1 (by decide)
        show Nat.gcd (ix a b c d) 2 = 1
        omega
      have g5 : ix a b c d ∣ b.natAbs := by
        rw [show (2 * b).natAbs = 2 * b.natAbs by omega] at g4
        exact cop.dvd_of_dvd_mul_left g4
      have z3 := z _ g5 (by omega)
      have e3 : b = 0 := by omega
      have z4 := z _ g3 (by omega)
      have e4 : c = 0 := by omega
      subst e1 e2 e3 e4
      exact absurd h (by decide)
  · exact good_small h
theorem good_even {a b c d : Int} (h : 2 ∣ ix a b c d) : Good a b c d := good_of (by decide) h
theorem good_share {s a b c d : Int} (hs : s ∈ [2, 3, 4, 5, 6, 7, 9, 35]) : Good (s * a) (s * b) (s * c) (s * d) := by
  have : ∃ q ∈ MOD, (q : Int) ∣ s := by
    simp only [List.mem_cons, List.mem_nil_iff, or_false] at hs
    rcases hs with rfl | rfl | rfl | rfl | rfl | rfl | rfl | rfl
    · exact ⟨2, by decide, by decide⟩
    · exact ⟨3, by decide, by decide⟩
    · exact ⟨2, by decide, by decide⟩
    · exact ⟨5, by decide, by decide⟩
    · exact ⟨2, by decide, by decide⟩
    · exact ⟨7, by decide, by decide⟩
    · exact ⟨3, by decide, by decide⟩
    · exact ⟨5, by decide, by decide⟩
  obtain ⟨q, hq, hd⟩ := this
  refine good_of hq (dvd_ix.mpr ⟨Int.dvd_trans hd (Int.dvd_mul_right _ _), Int.dvd_trans hd (Int.dvd_mul_right _ _), Int.dvd_add (Int.dvd_trans hd (Int.dvd_mul_right _ _)) (Int.dvd_trans hd (Int.dvd_mul_right _ _)), Int.dvd_trans (Int.dvd_trans hd (Int.dvd_mul_right _ _)) (Int.dvd_mul_left _ _)⟩)
theorem lone : ∀ s ∈ ([7, 9, 13, 19, 31] : List Nat), ∀ r ∈ List.range 81, ∃ m ∈ MOD, (m ≤ 2 ∨ m ≤ ((s : Int) * ((r : Int) - 40) + 2).natAbs) ∧ barB ((s : Int) * ((r : Int) - 40) + 2) 0 0 0 m = true := by decide +kernel
theorem good_two {s : Nat} {a b c d : Int} (hs : s ∈ [7, 9, 13, 19, 31]) (ha : a.natAbs ≤ 40) (hb : b.natAbs ≤ 40) (hc : c.natAbs ≤ 40) (hd : d.natAbs ≤ 40) : Good ((s : Int) * a + 2) (s * b) (s * c) (s * d) := by
  rcases Nat.lt_or_ge 60 (ix ((s : Int) * a + 2) (s * b) (s * c) (s * d)) with h | h
  · by_cases hq : ∃ q ∈ MOD, q ∣ ix ((s : Int) * a + 2) (s * b) (s * c) (s * d)
    · obtain ⟨q, h1, h2⟩ := hq
      exact good_of h1 h2
    · obtain ⟨g1, g2, g3, g4⟩ := dvd_ix.mp (Nat.dvd_refl (ix ((s : Int) * a + 2) (s * b) (s * c) (s * d)))
      have nq : ∀ q ∈ MOD, ¬ q ∣ ix ((s : Int) * a + 2) (s * b) (s * c) (s * d) := fun q h1 h2 => hq ⟨q, h1, h2⟩
      generalize hg : ix ((s : Int) * a + 2) (s * b) (s * c) (s * d) = g at *
      have cop : ∀ n : Nat, (∀ k, k ∣ n → k = 1 ∨ ∃ q ∈ MOD, q ∣ k) → Nat.Coprime g n := by
        intro n hn
        rcases hn _ (Nat.gcd_dvd_right g n) with e | ⟨q, h1, h2⟩
        · exact e
        · exact absurd (Nat.dvd_trans h2 (Nat.gcd_dvd_left g n)) (nq q h1)
      have dv : ∀ n : Nat, 0 < n → n ≤ 31 → ∀ k, k ∣ n → k = 1 ∨ ∃ q ∈ MOD, q ∣ k := by
        intro n n0 n1 k hk
        have k0 := Nat.pos_of_dvd_of_pos hk n0
        have k1 := Nat.le_of_dvd n0 hk
        rcases Nat.lt_or_ge k 2 with h | h
        · exact .inl (by omega)
        · exact .inr (small_q k (List.mem_range.mpr (by omega)) h)
      have s31 : 0 < s ∧ s ≤ 31 := by
        simp only [List.mem_cons, List.mem_nil_iff, or_false] at hs
        omega
      have cs := cop s (dv s s31.1 s31.2)
      have c2 := cop 2 (dv 2 (by decide) (by decide))
      have off : ∀ z : Int, (g : Int) ∣ (s : Int) * z → z.natAbs ≤ 80 → g ∣ z.natAbs := by
        intro z h1 _
        rw [Int.ofNat_dvd_left, Int.natAbs_mul] at h1
        exact cs.dvd_of_dvd_mul_left h1
      have zz : ∀ n : Nat, g ∣ n → n ≤ 60 → n = 0 := fun n h1 h2 => Nat.eq_zero_of_dvd_of_lt h1 (by omega)
      have d0 : d = 0 := by
        have := zz _ (off d g2 (by omega)) (by omega)
        omega
      have b0 : b = 0 := by
        have g5 : (g : Int) ∣ (s : Int) * (2 * b) := by rw [show (s : Int) * (2 * b) = 2 * (s * b) by grind]; exact g4
        have g6 := off (2 * b) g5 (by omega)
        rw [show (2 * b).natAbs = 2 * b.natAbs by omega] at g6
        have := zz _ (c2.dvd_of_dvd_mul_left g6) (by omega)
        omega
      have c0 : c = 0 := by
        rw [b0, Int.mul_zero, Int.zero_add] at g3
        have := zz _ (off c g3 (by omega)) (by omega)
        omega
      subst d0 b0 c0
      intro _
      have hi : g = ((s : Int) * a + 2).natAbs := by
        rw [← hg]
        unfold ix
        simp
      obtain ⟨m, h1, h2, h3⟩ := lone s hs (a + 40).toNat (List.mem_range.mpr (by omega))
      rw [show (((a + 40).toNat : Nat) : Int) - 40 = a by omega] at h2 h3
      refine ⟨m, h1, by rw [hg, hi]; exact h2, ?_⟩
      rw [Int.mul_zero]
      exact (bar_iff h1).mp h3
  · exact good_small h
end BarM
namespace K72
open PySem PySem.Spec PyProof.Rows L2 Fr
open K05M (fv fl2 fl3 fdisc)
open BarM (V MOD barB ix Good)
set_option pp.maxSteps 3000
section
def Told (a b c d : Int) (v : L2.V) : Prop := (v = .non ∧ ∀ m ∈ MOD, BarM.V a b c d m) ∨ ∃ m ∈ MOD, v = .int (m : Int) ∧ ¬ BarM.V a b c d m ∧ ∀ q ∈ MOD, q < m → BarM.V a b c d q
theorem take_mod : ∀ i ∈ List.range 18, ∀ q ∈ MOD, q < MOD.getD i 0 → q ∈ MOD.take i := by decide +kernel
theorem at1_int (a b c d : Int) {m : Nat} (hm : 0 < m) (x : Nat) : (((a % (m : Int) * x + b % (m : Int)) * x + c % (m : Int)) * x + d % (m : Int)) % (m : Int) = ((BarM.at1 a b c d m x : Nat) : Int) := by
  unfold BarM.at1
  have := Int.emod_nonneg (((a % (m : Int) * x + b % (m : Int)) * x + c % (m : Int)) * x + d % (m : Int)) (show (m : Int) ≠ 0 by omega)
  omega
def sp_third_powers (_ : PySem.W.Frag) (C : Addr) : Sp := fun vs H Q _ => ∃ m : Nat, vs = [.int (m : Int)] ∧ m ∈ MOD ∧ ∀ D H' kvs ks, Ex0 H H' → H' D = some (.dK kvs) → Dk kvs ks → (∀ v : Nat, decide ((v : Int) ∈ ks) = BarM.thB m v) → Q (.ref D) H'
def sp_is_barred_by (_ : PySem.W.Frag) (C : Addr) : Sp := fun vs H Q _ => ∃ (t : Addr) (a b c d : Int) (m : Nat), vs = [.ref t, .int (m : Int)] ∧ Ti H t [a, b, c, d] ∧ m ∈ MOD ∧ ∀ H', Ex0 H H' → Q (.bl (barB a b c d m)) H'
def sp_maker_bar (_ : PySem.W.Frag) (C : Addr) : Sp := fun vs H Q _ => ∃ (x : Addr) (a b c d : Int), vs = [.ref x] ∧ FormAt C H x [a, b, c, d] ∧ ∀ v H', Ex0 H H' → Told a b c d v → Q v H'
def sp_common_index (_ : PySem.W.Frag) (C : Addr) : Sp := fun vs H Q _ => ∃ (x : Addr) (a b c d : Int), vs = [.ref x] ∧ FormAt C H x [a, b, c, d] ∧ B4 1000 a b c d ∧ ∀ H', Ex0 H H' → Q (.int ((ix a b c d : Nat) : Int)) H'
end
section
variable {P : Program} {w : World} {K : PySem.W.Frag} {mg : Str → Option Value} {base : Heap} {C_Form : Addr}
theorem ok_third_powers (T : Txt K mg C_Form) : Def P w K mg base 1 "third_powers" ["modulus"] (sp_third_powers K C_Form) := by
  obtain ⟨f_, fd_, g_, F_⟩ := T.d_third_powers
  refine ⟨f_, fd_, g_, F_.kp, F_.binds (ps := ["modulus"]) (fun _ _ _ _ _ _ us hl => match us, hl with | [_], _ => rfl), ?_⟩
  refine F_.ok sc_third_powers (fun vs H Q E h => ?_) (fun cdv A outer s H vs Q E hr h => ?_)
  · first | (obtain ⟨rfl, _⟩ := h; rfl) | (obtain ⟨_, rfl, _⟩ := h; rfl) | (obtain ⟨_, _, rfl, _⟩ := h; rfl) | (obtain ⟨_, _, _, rfl, _⟩ := h; rfl) | (obtain ⟨_, _, _, _, rfl, _⟩ := h; rfl) | (obtain ⟨_, _, _, _, _, rfl, _⟩ := h; rfl) | (obtain ⟨_, _, _, _, _, _, rfl, _⟩ := h; rfl) | (obtain ⟨_, _, _, _, _, _, _, rfl, _⟩ := h; rfl) | (obtain ⟨_, _, _, _, _, _, _, _, rfl, _⟩ := h; rfl) | (obtain ⟨_, _, _, _, _, _, _, _, _, rfl, _⟩ := h; rfl) | (obtain ⟨_, _, _, _, _, _, _, _, _, _, rfl, _⟩ := h; rfl) | (obtain ⟨_, _, _, _, _, _, _, _, _, _, _, rfl, _⟩ := h; rfl) | (obtain ⟨_, _, _, _, _, _, _, _, _, _, _, _, rfl, _⟩ := h; rfl) | (obtain ⟨_, _, _, _, _, _, _, _, _, _, _, _, _, rfl, _⟩ := h; rfl) | (obtain ⟨_, _, _, _, _, _, _, _, _, _, _, _, _, _, rfl, _⟩ := h; rfl) | (obtain ⟨_, _, _, _, _, _, _, _, _, _, _, _, _, _, _, rfl, _⟩ := h; rfl) | (obtain ⟨_, _, _, _, _, _, _, _, _, _, _, _, _, _, _, _, rfl, _⟩ := h; rfl) | (obtain ⟨_, _, _, _, _, _, _, _, _, _, _, _, _, _, _, _, _, rfl, _⟩ := h; rfl) | (obtain ⟨_, _, _, _, _, _, _, _, _, _, _, _, _, _, _, _, _, _, rfl, _⟩ := h; rfl) | (obtain ⟨_, _, _, _, _, _, _, _, _, _, _, _, _, _, _, _, _, _, _, rfl, _⟩ := h; rfl) | (obtain ⟨_, _, _, _, _, _, _, _, _, _, _, _, _, _, _, _, _, _, _, _, rfl, _⟩ := h; rfl) | (obtain ⟨_, _, _, _, _, _, _, _, _, _, _, _, _, _, _, _, _, _, _, _, _, rfl, _⟩ := h; rfl) | (obtain ⟨_, _, _, _, _, _, _, _, _, _, _, _, _, _, _, _, _, _, _, _, _, _, rfl, _⟩ := h; rfl) | (obtain ⟨_, _, _, _, _, _, _, _, _, _, _, _, _, _, _, _, _, _, _, _, _, _, _, rfl, _⟩ := h; rfl)
  · obtain ⟨m, rfl, hm, q⟩ := h
    refine ⟨_, (Evl.pss_cut (ps_set (i := 1) sc_third_powers.nd rfl (.inr rfl) (pe_ifExp (pt_cmpR op_eq (pv 0) pe_int (nomark _)) pe_int (pv 0)))
    (pss_one (ps_ret (pe_dc (own := [("x", 2)]) (g := (gName 2)) rfl sc_third_powers.nd (pi_range1 (by rfl) T.b_range (pa_cons (pv 0) pa_nil)) (blkOk_by (N := N_third_powers) (sc := defScope s_third_powers) (by decide +kernel)) (fun _ _ _ _ _ => (pg_name (i := 2) sc_third_powers.nd rfl (.inl rfl))) (fun _ _ _ _ _ => (pts_one (pt_cmpR op_ne (pe_op op_mod (pv 2) (pv 1)) pe_int (nomark _)))) (fun _ _ _ _ _ => (pe_op op_mod (pe_op op_mulW (pe_op op_mulW (pv 2) (pv 2)) (pv 2)) (pv 0))) (fun _ _ _ _ _ => pe_bl))))), ?_⟩
    obtain ⟨h1, h2, h3, h4⟩ := BarM.pr_dvd m hm
    refine ⟨fun σ H' => σ = [some (.int (m : Int)), some (.int ((BarM.pr m : Nat) : Int)), none] ∧ H' = H, ?_, ?_⟩
    · refine ⟨_, rfl, rfl, _, rfl, iteE (fun g => ?_) (fun g => ?_)⟩
      · have : m = 9 := by omega
        subst this
        exact ⟨rfl, rfl⟩
      · have e : BarM.pr m = m := if_neg (by omega)
        rw [e]
        exact ⟨_, rfl, rfl, rfl⟩
    rintro σ H' ⟨rfl, rfl⟩
    refine ⟨_, rfl, _, rfl, by omega, by omega, ?_⟩
    refine dcR (fun i kvs _ => ∃ ks : List Int, Dk kvs ks ∧ ∀ v : Nat, (v : Int) ∈ ks ↔ ∃ x, x < i ∧ x % BarM.pr m ≠ 0 ∧ x * x * x % m = v) (fun _ _ => ⟨[], rfl, fun v => ⟨fun h => by (cases h), fun ⟨x, h, _⟩ => by omega⟩⟩) (fun D i kvs H1 hD hi e hA hlen hp => ?_) (fun D H1 kvs hD e hA hlen hp => ?_)
    · obtain ⟨ks, hk, hks⟩ := hp
      have hi' : i < m := by simpa using hi
      have bi : B 10 (i : Int) := ⟨by show _ < 1024; omega, by decide⟩
      have pp0 : (0 : Int) < ((BarM.pr m : Nat) : Int) := by omega
      refine ⟨rfl, ?_⟩
      rw [show (0 : Int) + (i : Int) = (i : Int) by omega]
      refine ⟨_, rfl, _, rfl, _, _, rfl, rfl, pp0, rfl, _, rfl, ?_⟩
      have e1 : (i : Int) % ((BarM.pr m : Nat) : Int) = ((i % BarM.pr m : Nat) : Int) := (Int.natCast_emod _ _).symm
      refine iteEn (fun g => ?_) (fun g => ?_)
      · refine ⟨_, rfl, _, rfl, _, _, rfl, rfl, mulB bi bi (by decide), _, rfl, _, _, rfl, rfl, mulB (B.mul bi bi) bi (by decide), _, rfl, _, _, rfl, rfl, (show (0 : Int) < (m : Int) by omega), ?_⟩
        have e2 : (i : Int) * (i : Int) * (i : Int) % (m : Int) = ((i * i * i % m : Nat) : Int) := by
          rw [Int.natCast_emod, Int.natCast_mul, Int.natCast_mul]
        refine ds_yes (k := (Sum.inl ((i : Int) * (i : Int) * (i : Int) % (m : Int)) : Key)) hD e hA hlen (by omega) (Ex0.refl _) rfl ⟨_, hk.put _ _, fun v => ?_⟩
        have gi : i % BarM.pr m ≠ 0 := by
          rw [e1] at g
          omega
        rw [e2]
        constructor
        · intro hv
          split at hv
          · obtain ⟨x, k1, k2, k3⟩ := (hks v).mp hv
            exact ⟨x, by omega, k2, k3⟩
          · rcases List.mem_append.mp hv with h | h
            · obtain ⟨x, k1, k2, k3⟩ := (hks v).mp h
              exact ⟨x, by omega, k2, k3⟩
            · rw [List.mem_singleton] at h
              exact ⟨i, by omega, gi, by omega⟩
        · rintro ⟨x, k1, k2, k3⟩
          by_cases hx : x = i
          · subst hx
            rw [k3]
            split
            · assumption
            · exact List.mem_append_right _ (List.mem_singleton.mpr rfl)
          · have := (hks v).mpr ⟨x, by omega, k2, k3⟩
            split
            · exact this
            · exact List.mem_append_left _ this
      · refine ds_no e hA hlen (Ex0.refl _) ⟨ks, hk, fun v => ?_⟩
        rw [hks v]
        constructor
        · rintro ⟨x, k1, k2, k3⟩
          exact ⟨x, by omega, k2, k3⟩
        · rintro ⟨x, k1, k2, k3⟩
          refine ⟨x, ?_, k2, k3⟩
          rw [e1] at g
          by_cases hx : x = i
          · subst hx
            omega
          · omega
    · obtain ⟨ks, hk, hks⟩ := hp
      refine q D H1 kvs ks e hA hk fun v => ?_
      rw [Bool.eq_iff_iff, decide_eq_true_iff, hks v, BarM.thB_iff, Int.toNat_natCast]
theorem ok_is_barred_by (T : Txt K mg C_Form) : Def P w K mg base 2 "is_barred_by" ["coefficients", "modulus"] (sp_is_barred_by K C_Form) := by
  obtain ⟨f_, fd_, g_, F_⟩ := T.d_is_barred_by
  obtain ⟨f_third_powers, fd_third_powers, g_third_powers, k_third_powers, b_third_powers, G_third_powers⟩ := (ok_third_powers (P := P) (w := w) (base := base) T)
  refine ⟨f_, fd_, g_, F_.kp, F_.binds (ps := ["coefficients", "modulus"]) (fun _ _ _ _ _ _ us hl => match us, hl with | [_, _], _ => rfl), ?_⟩
  refine F_.ok sc_is_barred_by (fun vs H Q E h => ?_) (fun cdv A outer s H vs Q E hr h => ?_)
  · first | (obtain ⟨rfl, _⟩ := h; rfl) | (obtain ⟨_, rfl, _⟩ := h; rfl) | (obtain ⟨_, _, rfl, _⟩ := h; rfl) | (obtain ⟨_, _, _, rfl, _⟩ := h; rfl) | (obtain ⟨_, _, _, _, rfl, _⟩ := h; rfl) | (obtain ⟨_, _, _, _, _, rfl, _⟩ := h; rfl) | (obtain ⟨_, _, _, _, _, _, rfl, _⟩ := h; rfl) | (obtain ⟨_, _, _, _, _, _, _, rfl, _⟩ := h; rfl) | (obtain ⟨_, _, _, _, _, _, _, _, rfl, _⟩ := h; rfl) | (obtain ⟨_, _, _, _, _, _, _, _, _, rfl, _⟩ := h; rfl) | (obtain ⟨_, _, _, _, _, _, _, _, _, _, rfl, _⟩ := h; rfl) | (obtain ⟨_, _, _, _, _, _, _, _, _, _, _, rfl, _⟩ := h; rfl) | (obtain ⟨_, _, _, _, _, _, _, _, _, _, _, _, rfl, _⟩ := h; rfl) | (obtain ⟨_, _, _, _, _, _, _, _, _, _, _, _, _, rfl, _⟩ := h; rfl) | (obtain ⟨_, _, _, _, _, _, _, _, _, _, _, _, _, _, rfl, _⟩ := h; rfl) | (obtain ⟨_, _, _, _, _, _, _, _, _, _, _, _, _, _, _, rfl, _⟩ := h; rfl) | (obtain ⟨_, _, _, _, _, _, _, _, _, _, _, _, _, _, _, _, rfl, _⟩ := h; rfl) | (obtain ⟨_, _, _, _, _, _, _, _, _, _, _, _, _, _, _, _, _, rfl, _⟩ := h; rfl) | (obtain ⟨_, _, _, _, _, _, _, _, _, _, _, _, _, _, _, _, _, _, rfl, _⟩ := h; rfl) | (obtain ⟨_, _, _, _, _, _, _, _, _, _, _, _, _, _, _, _, _, _, _, rfl, _⟩ := h; rfl) | (obtain ⟨_, _, _, _, _, _, _, _, _, _, _, _, _, _, _, _, _, _, _, _, rfl, _⟩ := h; rfl) | (obtain ⟨_, _, _, _, _, _, _, _, _, _, _, _, _, _, _, _, _, _, _, _, _, rfl, _⟩ := h; rfl) | (obtain ⟨_, _, _, _, _, _, _, _, _, _, _, _, _, _, _, _, _, _, _, _, _, _, rfl, _⟩ := h; rfl) | (obtain ⟨_, _, _, _, _, _, _, _, _, _, _, _, _, _, _, _, _, _, _, _, _, _, _, rfl, _⟩ := h; rfl)
  · obtain ⟨t, a, b, c, d, m, rfl, ht, hm, q⟩ := h
    refine ⟨_, (pss_cons (ps_asg (pe_lc (own := [("number", 9)]) (g := (gName 9)) rfl sc_is_barred_by.nd (pi_tup (pv 0)) (blkOk_by (N := N_is_barred_by) (sc := defScope s_is_barred_by) (by decide +kernel)) (fun _ _ _ _ _ => (pg_name (i := 9) sc_is_barred_by.nd rfl (.inl rfl))) (fun _ _ _ _ _ => pts_nil) (fun _ _ _ _ _ => (pe_op op_mod (pv 9) (pv 1)))) (pg_lst (by rfl) (pgs_cons (pg_name (i := 2) sc_is_barred_by.nd rfl (.inl rfl)) (pgs_cons (pg_name (i := 3) sc_is_barred_by.nd rfl (.inl rfl)) (pgs_cons (pg_name (i := 4) sc_is_barred_by.nd rfl (.inl rfl)) (pgs_cons (pg_name (i := 5) sc_is_barred_by.nd rfl (.inl rfl)) pgs_nil))))))
    (pss_cons (ps_set (i := 6) sc_is_barred_by.nd rfl (.inl rfl) (pe_call G_third_powers (hr.mono (by decide)) (by rfl) g_third_powers k_third_powers b_third_powers .nil pass0 (pa_cons (pv 1) pa_nil)))
    (pss_cons (ps_for PassesOwn.never rfl (pi_range1 (by rfl) T.b_range (pa_cons (pv 1) pa_nil)) (pg_name (i := 7) sc_is_barred_by.nd rfl (.inl rfl))
      (pss_one (ps_if (pt_cmp (pc_din (Nat.lt_of_le_of_lt (Nat.add_le_add_left (by decide) _) hr.units) (pe_op op_mod (pe_op op_add (pe_op op_mulW (pe_op op_add (pe_op op_mulW (pe_op op_add (pe_op op_mulW (pv 2) (pv 7)) (pv 3)) (pv 7)) (pv 4)) (pv 7)) (pv 5)) (pv 1)) (pv 6)))
      (pss_one (ps_ret pe_bl))
      pss_nil)))
    (pss_cons (ps_for PassesOwn.never rfl (pi_tup (pe_tup (pa_cons pe_int (pa_cons pe_int (pa_cons pe_int pa_nil))))) (pg_name (i := 8) sc_is_barred_by.nd rfl (.inl rfl))
      (pss_one (ps_if (pt_cmp (pc_din (Nat.lt_of_le_of_lt (Nat.add_le_add_left (by decide) _) hr.units) (pe_op op_mod (pe_op op_add (pe_op op_mulW (pe_op op_add (pe_op op_mulW (pe_op op_add (pe_op op_mulW (pv 5) (pv 8)) (pv 4)) (pv 8)) (pv 3)) (pv 8)) (pv 2)) (pv 1)) (pv 6)))
      (pss_one (ps_ret pe_bl))
      pss_nil)))
    (pss_one (ps_ret pe_bl)))))), ?_⟩
    obtain ⟨h1, h2, h3, h4⟩ := BarM.pr_dvd m hm
    have p0' : (0 : Int) < (m : Int) := by omega
    have pn : (m : Int) ≠ 0 := by omega
    refine ⟨_, rfl, t, rfl, ⟨_, SqT.of ht⟩, ?_⟩
    refine lcT fm0 trivial (SqT.of ht) (fun z => z) (fun i acc _ => acc = (([a % (m : Int), b % (m : Int), c % (m : Int), d % (m : Int)] : List Int).take i).map V.int) (fun _ _ => rfl) (fun D i v acc H' hD hv e hA hlen hp => ?_) (fun D H1 acc hD e1 hA hp' => ?_)
    · obtain ⟨n, hn, rfl⟩ := get_int hv
      have hi : i < 4 := (List.getElem?_eq_some_iff.mp hn).1
      refine ⟨rfl, ?_⟩
      refine ⟨_, rfl, _, rfl, _, _, rfl, rfl, p0', ?_⟩
      refine cs_yes fm0 trivial hD e hA hlen (by omega) (Fx.refl trivial) ?_
      show acc ++ [V.int (n % (m : Int))] = _
      rw [hp]
      match i, hn with
      | 0, hn => rw [← Option.some.inj hn]; rfl
      | 1, hn => rw [← Option.some.inj hn]; rfl
      | 2, hn => rw [← Option.some.inj hn]; rfl
      | 3, hn => rw [← Option.some.inj hn]; rfl
    have hp2 : acc = ([a % (m : Int), b % (m : Int), c % (m : Int), d % (m : Int)] : List Int).map V.int := hp'
    subst hp2
    have bm : ∀ z : Int, B 10 (z % (m : Int)) := fun z => by
      have g1 := Int.emod_nonneg z pn
      have g2 := Int.emod_lt_of_pos z p0'
      exact ⟨by show _ < 1024; omega, by decide⟩
    have ba := bm a
    have bb := bm b
    have bc := bm c
    have bd := bm d
    refine ⟨D, _, rfl, SqL.of hA, rfl, _, _, rfl, _, _, rfl, _, _, rfl, _, _, rfl, rfl, ?_⟩
    refine ⟨_, rfl, m, rfl, hm, fun E H2 kvs ks e2 hE hk hks => ?_⟩
    have hget : ∀ (H' : Hp) (v : Nat) (z : Int), z = (v : Int) → H' E = some (.dK kvs) → DGet H' E (.int z) (valV kvs (Sum.inl (v : Int) : Key)) := fun H' v z hz h => .inl ⟨kvs, _, .inl h, by rw [hz]; rfl, rfl⟩
    have hsome : ∀ v : Nat, (valV kvs (Sum.inl (v : Int) : Key)).isSome = BarM.thB m v := fun v => by rw [hk.some, hks]
    refine ⟨_, rfl, _, rfl, by omega, by omega, ?_⟩
    refine for_range (lo := 0) (n := (m : Int).toNat) (fun i σ H' => ∃ (y7 : Option L2.V), σ = [some (.ref t), some (.int (m : Int)), some (.int (a % (m : Int))), some (.int (b % (m : Int))), some (.int (c % (m : Int))), some (.int (d % (m : Int))), some (.ref E), y7, none, none] ∧ H' = H2 ∧ ∀ x, x < i → BarM.thB m (BarM.at1 a b c d m x) = false) ⟨none, rfl, rfl, fun x h => by omega⟩ ?_ ?_
    · rintro i σ H' hi ⟨y7, rfl, rfl, hno⟩
      have hi' : i < m := by simpa using hi
      rw [show (0 : Int) + (i : Int) = (i : Int) by omega]
      have bi : B 10 (i : Int) := ⟨by show _ < 1024; omega, by decide⟩
      have s1 := B.add (B.mul ba bi) bb
      have s2 := B.add (B.mul s1 bi) bc
      refine ⟨_, rfl, _, rfl, _, _, rfl, rfl, mulB ba bi (by decide), _, rfl, _, _, rfl, rfl, _, rfl, _, _, rfl, rfl, mulB s1 bi (by decide), _, rfl, _, _, rfl, rfl, _, rfl, _, _, rfl, rfl, mulB s2 bi (by decide), _, rfl, _, _, rfl, rfl, _, rfl, _, _, rfl, rfl, p0', _, rfl, E, valV kvs (Sum.inl ((BarM.at1 a b c d m i : Nat) : Int) : Key), rfl, hget _ _ _ (at1_int a b c d (show 0 < m by omega) i) hE, _, rfl, ?_⟩
      rw [hsome]
      refine iteB (fun g => ?_) (fun g => ?_)
      · have hb : barB a b c d m = false := by
          unfold BarM.barB
          have : BarM.hit1 a b c d m = true := by
            unfold BarM.hit1
            exact List.any_eq_true.mpr ⟨i, List.mem_range.mpr hi', g⟩
          rw [this]
          rfl
        rw [← hb]
        exact q H' (Fx.trans e1 e2)
      · refine ⟨_, rfl, rfl, fun x hx => ?_⟩
        by_cases hxi : x = i
        · rw [hxi]; exact g
        · exact hno x (by omega)
    · rintro σ H' ⟨y7, rfl, rfl, hno⟩
      rw [Int.toNat_natCast] at hno
      have hh1 : BarM.hit1 a b c d m = false := by
        unfold BarM.hit1
        rw [List.any_eq_false]
        intro x hx
        rw [hno x (List.mem_range.mp hx)]
        decide
      refine ⟨sl3, fun T nT => ?_⟩
      have eT := Ex0.new (o := .tup [.int 0, .int 3, .int 6]) nT
      have hE3 := Ex0.ap eT hE
      have hT : upd H' T (.tup [.int 0, .int 3, .int 6]) T = some (.tup [.int 0, .int 3, .int 6]) := upd_same
      refine ⟨T, rfl, ⟨_, SqT.of hT⟩, ?_⟩
      generalize upd H' T (.tup [.int 0, .int 3, .int 6]) = H3 at *
      refine for_tup (xs := ([0, 3, 6] : List Nat).map fun (n : Nat) => V.int (n : Int)) (fun i σ H' => ∃ (y8 : Option L2.V), σ = [some (.ref t), some (.int (m : Int)), some (.int (a % (m : Int))), some (.int (b % (m : Int))), some (.int (c % (m : Int))), some (.int (d % (m : Int))), some (.ref E), y7, y8, none] ∧ H' = H3 ∧ ∀ y ∈ ([0, 3, 6] : List Nat).take i, BarM.thB m (BarM.at1 d c b a m y) = false) ⟨none, rfl, rfl, fun y h => by cases h⟩ (fun i σ H' _ ⟨_, _, e, _⟩ => by rw [e]; exact SqT.of hT) ?_ ?_
      · rintro i v σ H' hv ⟨y8, rfl, rfl, hno2⟩
        rw [List.getElem?_map] at hv
        obtain ⟨y, hy, rfl⟩ := Option.map_eq_some_iff.mp hv
        have hym : y ∈ [0, 3, 6] := List.mem_of_getElem? hy
        have by6 : y ≤ 6 := by
          simp only [List.mem_cons, List.mem_nil_iff, or_false] at hym
          omega
        have bi : B 10 (y : Int) := ⟨by show _ < 1024; omega, by decide⟩
        have s1 := B.add (B.mul bd bi) bc
        have s2 := B.add (B.mul s1 bi) bb
        refine ⟨_, rfl, _, rfl, _, _, rfl, rfl, mulB bd bi (by decide), _, rfl, _, _, rfl, rfl, _, rfl, _, _, rfl, rfl, mulB s1 bi (by decide), _, rfl, _, _, rfl, rfl, _, rfl, _, _, rfl, rfl, mulB s2 bi (by decide), _, rfl, _, _, rfl, rfl, _, rfl, _, _, rfl, rfl, p0', _, rfl, E, valV kvs (Sum.inl ((BarM.at1 d c b a m y : Nat) : Int) : Key), rfl, hget _ _ _ (at1_int d c b a (show 0 < m by omega) y) hE3, _, rfl, ?_⟩
        rw [hsome]
        refine iteB (fun g => ?_) (fun g => ?_)
        · have hb : barB a b c d m = false := by
            unfold BarM.barB
            have : BarM.hit2 a b c d m = true := by
              unfold BarM.hit2
              exact List.any_eq_true.mpr ⟨y, hym, g⟩
            rw [this, Bool.not_true, Bool.and_false]
          rw [← hb]
          exact q _ ((Fx.trans e1 e2).trans eT)
        · refine ⟨_, rfl, rfl, fun z hz => ?_⟩
          rw [List.take_add_one, hy] at hz
          rcases List.mem_append.mp hz with h | h
          · exact hno2 z h
          · have : z = y := by simpa using h
            rw [this]; exact g
      · rintro σ H' ⟨y8, rfl, rfl, hno2⟩
        have hb : barB a b c d m = true := by
          unfold BarM.barB
          have : BarM.hit2 a b c d m = false := by
            unfold BarM.hit2
            rw [List.any_eq_false]
            intro y hy
            rw [hno2 y hy]
            decide
          rw [hh1, this]
          rfl
        rw [← hb]
        exact q _ ((Fx.trans e1 e2).trans eT)
theorem ok_maker_bar (T : Txt K mg C_Form) : Def P w K mg base 4 "maker_bar" ["form"] (sp_maker_bar K C_Form) := by
  obtain ⟨f_, fd_, g_, F_⟩ := T.d_maker_bar
  obtain ⟨p_Form_coefficients, f_Form_coefficients, fd_Form_coefficients, R_Form_coefficients, b_Form_coefficients, G_Form_coefficients⟩ := (ok_Form_coefficients (P := P) (w := w) (base := base) T)
  obtain ⟨f_check_form, fd_check_form, g_check_form, k_check_form, b_check_form, G_check_form⟩ := (ok_check_form (P := P) (w := w) (base := base) T)
  obtain ⟨f_is_barred_by, fd_is_barred_by, g_is_barred_by, k_is_barred_by, b_is_barred_by, G_is_barred_by⟩ := (ok_is_barred_by (P := P) (w := w) (base := base) T)
  refine ⟨f_, fd_, g_, F_.kp, F_.binds (ps := ["form"]) (fun _ _ _ _ _ _ us hl => match us, hl with | [_], _ => rfl), ?_⟩
  refine F_.ok sc_maker_bar (fun vs H Q E h => ?_) (fun cdv A outer s H vs Q E hr h => ?_)
  · first | (obtain ⟨rfl, _⟩ := h; rfl) | (obtain ⟨_, rfl, _⟩ := h; rfl) | (obtain ⟨_, _, rfl, _⟩ := h; rfl) | (obtain ⟨_, _, _, rfl, _⟩ := h; rfl) | (obtain ⟨_, _, _, _, rfl, _⟩ := h; rfl) | (obtain ⟨_, _, _, _, _, rfl, _⟩ := h; rfl) | (obtain ⟨_, _, _, _, _, _, rfl, _⟩ := h; rfl) | (obtain ⟨_, _, _, _, _, _, _, rfl, _⟩ := h; rfl) | (obtain ⟨_, _, _, _, _, _, _, _, rfl, _⟩ := h; rfl) | (obtain ⟨_, _, _, _, _, _, _, _, _, rfl, _⟩ := h; rfl) | (obtain ⟨_, _, _, _, _, _, _, _, _, _, rfl, _⟩ := h; rfl) | (obtain ⟨_, _, _, _, _, _, _, _, _, _, _, rfl, _⟩ := h; rfl) | (obtain ⟨_, _, _, _, _, _, _, _, _, _, _, _, rfl, _⟩ := h; rfl) | (obtain ⟨_, _, _, _, _, _, _, _, _, _, _, _, _, rfl, _⟩ := h; rfl) | (obtain ⟨_, _, _, _, _, _, _, _, _, _, _, _, _, _, rfl, _⟩ := h; rfl) | (obtain ⟨_, _, _, _, _, _, _, _, _, _, _, _, _, _, _, rfl, _⟩ := h; rfl) | (obtain ⟨_, _, _, _, _, _, _, _, _, _, _, _, _, _, _, _, rfl, _⟩ := h; rfl) | (obtain ⟨_, _, _, _, _, _, _, _, _, _, _, _, _, _, _, _, _, rfl, _⟩ := h; rfl) | (obtain ⟨_, _, _, _, _, _, _, _, _, _, _, _, _, _, _, _, _, _, rfl, _⟩ := h; rfl) | (obtain ⟨_, _, _, _, _, _, _, _, _, _, _, _, _, _, _, _, _, _, _, rfl, _⟩ := h; rfl) | (obtain ⟨_, _, _, _, _, _, _, _, _, _, _, _, _, _, _, _, _, _, _, _, rfl, _⟩ := h; rfl) | (obtain ⟨_, _, _, _, _, _, _, _, _, _, _, _, _, _, _, _, _, _, _, _, _, rfl, _⟩ := h; rfl) | (obtain ⟨_, _, _, _, _, _, _, _, _, _, _, _, _, _, _, _, _, _, _, _, _, _, rfl, _⟩ := h; rfl) | (obtain ⟨_, _, _, _, _, _, _, _, _, _, _, _, _, _, _, _, _, _, _, _, _, _, _, rfl, _⟩ := h; rfl)
  · obtain ⟨x, a, b, c, d, rfl, hx, q⟩ := h
    obtain ⟨A_MODULI, h_MODULI, i_MODULI⟩ := T.k_MODULI
    refine ⟨_, (pss_cons (ps_expr (pe_call G_check_form (hr.mono (by decide)) (by rfl) g_check_form k_check_form b_check_form .nil pass0 (pa_cons (pv 0) pa_nil)))
    (pss_cons (ps_for PassesOwn.never rfl (pi_tup (pe_glob (v := .ref A_MODULI) (by rfl) h_MODULI rfl)) (pg_name (i := 1) sc_maker_bar.nd rfl (.inl rfl))
      (pss_one (ps_if (pt_val (pe_call G_is_barred_by (hr.mono (by decide)) (by rfl) g_is_barred_by k_is_barred_by b_is_barred_by .nil pass0 (pa_cons (pe_prop (pv 0) T.cl_Form R_Form_coefficients G_Form_coefficients (hr.mono (by decide)) b_Form_coefficients .nil pass0 (by rfl)) (pa_cons (pv 1) pa_nil))))
      (pss_one (ps_ret (pv 1)))
      pss_nil)))
    (pss_one (ps_ret pe_non)))), ?_⟩
    obtain ⟨dx, t0, hx1, hx2⟩ := id hx
    refine ⟨_, rfl, x, _, rfl, hx, ?_⟩
    refine ⟨A_MODULI, rfl, ⟨_, i_MODULI H⟩, ?_⟩
    refine for_tup (xs := MOD.map fun (n : Nat) => V.int (n : Int)) (fun i σ H' => ∃ (y1 : Option L2.V), σ = [some (.ref x), y1] ∧ Ex0 H H' ∧ ∀ q ∈ MOD.take i, BarM.V a b c d q) ⟨none, rfl, Ex0.refl H, fun q h => by cases h⟩ (fun i σ H' _ _ => i_MODULI H') ?_ ?_
    · rintro i v σ H1 hv ⟨y1, rfl, e1, hno⟩
      rw [List.getElem?_map] at hv
      obtain ⟨m, hmi, rfl⟩ := Option.map_eq_some_iff.mp hv
      have hm : m ∈ MOD := List.mem_of_getElem? hmi
      have hi : i < 18 := (List.getElem?_eq_some_iff.mp hmi).1
      have hx' := Ex0.fo e1 hx
      refine ⟨_, rfl, x, dx, _, rfl, Ex0.ap e1 hx1, x, _, rfl, hx', fun t ht => ?_⟩
      refine ⟨_, rfl, t, a, b, c, d, m, rfl, ht, hm, fun H2 e2 => ⟨_, rfl, iteB (fun g => ?_) (fun g => ?_)⟩⟩
      · refine ⟨_, rfl, q _ H2 (e1.trans e2) (.inr ⟨m, hm, rfl, (BarM.bar_iff hm).mp g, fun r hr hlt => hno r ?_⟩)⟩
        refine take_mod i (List.mem_range.mpr hi) r hr ?_
        rw [List.getD_eq_getElem?_getD, hmi]
        exact hlt
      · refine ⟨_, rfl, e1.trans e2, fun r hr => ?_⟩
        rw [List.take_add_one, hmi] at hr
        rcases List.mem_append.mp hr with h | h
        · exact hno r h
        · have : r = m := by simpa using h
          rw [this]
          exact Classical.byContradiction fun z => by rw [(BarM.bar_iff hm).mpr z] at g; cases g
    · rintro σ H1 ⟨y1, rfl, e1, hno⟩
      exact q _ H1 e1 (.inl ⟨rfl, fun r hr => hno r (by rw [List.length_map, List.take_length]; exact hr)⟩)
theorem ok_common_index (T : Txt K mg C_Form) : Def P w K mg base 4 "common_index" ["form"] (sp_common_index K C_Form) := by
  obtain ⟨f_, fd_, g_, F_⟩ := T.d_common_index
  obtain ⟨p_Form_coefficients, f_Form_coefficients, fd_Form_coefficients, R_Form_coefficients, b_Form_coefficients, G_Form_coefficients⟩ := (ok_Form_coefficients (P := P) (w := w) (base := base) T)
  obtain ⟨f_check_form, fd_check_form, g_check_form, k_check_form, b_check_form, G_check_form⟩ := (ok_check_form (P := P) (w := w) (base := base) T)
  obtain ⟨f_shared_divisor, fd_shared_divisor, g_shared_divisor, k_shared_divisor, b_shared_divisor, G_shared_divisor⟩ := (ok_shared_divisor (P := P) (w := w) (base := base) T)
  refine ⟨f_, fd_, g_, F_.kp, F_.binds (ps := ["form"]) (fun _ _ _ _ _ _ us hl => match us, hl with | [_], _ => rfl), ?_⟩
  refine F_.ok sc_common_index (fun vs H Q E h => ?_) (fun cdv A outer s H vs Q E hr h => ?_)
  · first | (obtain ⟨rfl, _⟩ := h; rfl) | (obtain ⟨_, rfl, _⟩ := h; rfl) | (obtain ⟨_, _, rfl, _⟩ := h; rfl) | (obtain ⟨_, _, _, rfl, _⟩ := h; rfl) | (obtain ⟨_, _, _, _, rfl, _⟩ := h; rfl) | (obtain ⟨_, _, _, _, _, rfl, _⟩ := h; rfl) | (obtain ⟨_, _, _, _, _, _, rfl, _⟩ := h; rfl) | (obtain ⟨_, _, _, _, _, _, _, rfl, _⟩ := h; rfl) | (obtain ⟨_, _, _, _, _, _, _, _, rfl, _⟩ := h; rfl) | (obtain ⟨_, _, _, _, _, _, _, _, _, rfl, _⟩ := h; rfl) | (obtain ⟨_, _, _, _, _, _, _, _, _, _, rfl, _⟩ := h; rfl) | (obtain ⟨_, _, _, _, _, _, _, _, _, _, _, rfl, _⟩ := h; rfl) | (obtain ⟨_, _, _, _, _, _, _, _, _, _, _, _, rfl, _⟩ := h; rfl) | (obtain ⟨_, _, _, _, _, _, _, _, _, _, _, _, _, rfl, _⟩ := h; rfl) | (obtain ⟨_, _, _, _, _, _, _, _, _, _, _, _, _, _, rfl, _⟩ := h; rfl) | (obtain ⟨_, _, _, _, _, _, _, _, _, _, _, _, _, _, _, rfl, _⟩ := h; rfl) | (obtain ⟨_, _, _, _, _, _, _, _, _, _, _, _, _, _, _, _, rfl, _⟩ := h; rfl) | (obtain ⟨_, _, _, _, _, _, _, _, _, _, _, _, _, _, _, _, _, rfl, _⟩ := h; rfl) | (obtain ⟨_, _, _, _, _, _, _, _, _, _, _, _, _, _, _, _, _, _, rfl, _⟩ := h; rfl) | (obtain ⟨_, _, _, _, _, _, _, _, _, _, _, _, _, _, _, _, _, _, _, rfl, _⟩ := h; rfl) | (obtain ⟨_, _, _, _, _, _, _, _, _, _, _, _, _, _, _, _, _, _, _, _, rfl, _⟩ := h; rfl) | (obtain ⟨_, _, _, _, _, _, _, _, _, _, _, _, _, _, _, _, _, _, _, _, _, rfl, _⟩ := h; rfl) | (obtain ⟨_, _, _, _, _, _, _, _, _, _, _, _, _, _, _, _, _, _, _, _, _, _, rfl, _⟩ := h; rfl) | (obtain ⟨_, _, _, _, _, _, _, _, _, _, _, _, _, _, _, _, _, _, _, _, _, _, _, rfl, _⟩ := h; rfl)
  · obtain ⟨x, a, b, c, d, rfl, hx, ⟨ba, bb, bc, bd⟩, q⟩ := h
    refine ⟨_, (pss_cons (ps_expr (pe_call G_check_form (hr.mono (by decide)) (by rfl) g_check_form k_check_form b_check_form .nil pass0 (pa_cons (pv 0) pa_nil)))
    (pss_cons (ps_asg (pe_prop (pv 0) T.cl_Form R_Form_coefficients G_Form_coefficients (hr.mono (by decide)) b_Form_coefficients .nil pass0 (by rfl)) (pg_tup (by rfl) (pgs_cons (pg_name (i := 1) sc_common_index.nd rfl (.inl rfl)) (pgs_cons (pg_name (i := 2) sc_common_index.nd rfl (.inl rfl)) (pgs_cons (pg_name (i := 3) sc_common_index.nd rfl (.inl rfl)) (pgs_cons (pg_name (i := 4) sc_common_index.nd rfl (.inl rfl)) pgs_nil))))))
    (pss_one (ps_ret (pe_call G_shared_divisor (hr.mono (by decide)) (by rfl) g_shared_divisor k_shared_divisor b_shared_divisor .nil pass0 (pa_cons (pe_tup (pa_cons (pv 1) (pa_cons (pv 4) (pa_cons (pe_op op_add (pv 2) (pv 3)) (pa_cons (pe_op op_mulW pe_int (pv 2)) pa_nil))))) pa_nil)))))), ?_⟩
    obtain ⟨dx, t0, hx1, hx2⟩ := id hx
    refine ⟨_, rfl, x, _, rfl, hx, ?_⟩
    refine ⟨_, rfl, x, dx, _, rfl, hx1, x, _, rfl, hx, fun t ht => ?_⟩
    refine unI4 ht ?_
    have b2 : B 2 2 := ⟨by decide, by decide⟩
    refine ⟨_, rfl, _, rfl, _, rfl, _, rfl, _, _, rfl, rfl, _, rfl, _, _, rfl, rfl, mulB b2 bb (by decide), sl4, fun o no => ?_⟩
    refine ⟨o, [a, d, b + c, 2 * b], rfl, Ti.q upd_same, ?_⟩
    have e : gcdL [a, d, b + c, 2 * b] = ix a b c d := by
      unfold BarM.ix
      rw [show gcdL [a, d, b + c, 2 * b] = Nat.gcd (Nat.gcd (Nat.gcd (Nat.gcd 0 a.natAbs) d.natAbs) (b + c).natAbs) (2 * b).natAbs from rfl, Nat.gcd_zero_left]
    rw [e]
    exact q _ (Ex0.new no)
end
end K72
namespace K72
open PySem PySem.Spec PyProof.Rows L2 Fr
open K05M (fv fl2 fl3 fdisc)
open BarM (V MOD barB ix Good)
set_option pp.maxSteps 3000
section
theorem inV_ints (k : Int) (ks : List Int) : inV (.int k) (ks.map V.int) = decide (k ∈ ks) := by
  unfold inV
  rw [Bool.eq_iff_iff, List.any_eq_true, decide_eq_true_iff]
  constructor
  · rintro ⟨v, hv, h⟩
    obtain ⟨j, hj, rfl⟩ := List.mem_map.mp hv
    have : (j == k) = true := h
    rw [← eq_of_beq this]
    exact hj
  · intro h
    exact ⟨.int k, List.mem_map_of_mem h, by show (k == k) = true; exact beq_self_eq_true k⟩
theorem all_flat (ks : List Int) : (ks.map V.int).all flatV = true := by
  rw [List.all_eq_true]
  intro v hv
  obtain ⟨j, _, rfl⟩ := List.mem_map.mp hv
  rfl
theorem short_of : ∀ (m : Nat) (ks : List Int), ks.Nodup → (∀ v ∈ ks, 0 ≤ v ∧ v < (m : Int)) → ks.length ≤ m
  | 0, ks, _, h => by
    cases ks with
    | nil => exact Nat.le_refl 0
    | cons v r =>
      have := h v (List.mem_cons_self ..)
      omega
  | m + 1, ks, nd, h => by
    by_cases hm : (m : Int) ∈ ks
    · have h1 := short_of m (ks.erase (m : Int)) (nd.erase _) (fun v hv => by
        obtain ⟨k1, k2⟩ := nd.mem_erase_iff.mp hv
        have := h v k2
        omega)
      rw [List.length_erase_of_mem hm] at h1
      omega
    · have h1 := short_of m ks nd (fun v hv => by
        have := h v hv
        have : v ≠ (m : Int) := fun e => hm (e ▸ hv)
        omega)
      omega
theorem nd_put {ks : List Int} (h : ks.Nodup) (k : Int) : (if k ∈ ks then ks else ks ++ [k]).Nodup := by
  split
  · exact h
  · refine List.nodup_append.mpr ⟨h, List.nodup_cons.mpr ⟨List.not_mem_nil, List.nodup_nil⟩, ?_⟩
    intro a ha b hb e
    rw [List.mem_singleton] at hb
    subst hb
    subst e
    contradiction
theorem mem_put {ks : List Int} {k v : Int} : v ∈ (if k ∈ ks then ks else ks ++ [k]) ↔ v ∈ ks ∨ v = k := by
  split
  · exact ⟨.inl, fun h => h.elim id fun e => e ▸ by assumption⟩
  · rw [List.mem_append, List.mem_singleton]
theorem rests_V {a b c d : Int} {m : Nat} {ks : List Int} (hm : 2 ≤ m) (h : ∀ v : Int, v ∈ ks ↔ ∃ x y : Nat, x < m ∧ y < m ∧ K05M.fv a b c d x y % (m : Int) = v) : ((1 : Int) ∈ ks ∨ (m : Int) - 1 ∈ ks) ↔ BarM.V a b c d m := by
  have m0 : (0 : Int) < (m : Int) := by omega
  constructor
  · rintro (g | g)
    · obtain ⟨x, y, _, _, e⟩ := (h 1).mp g
      have := Int.emod_add_mul_ediv (K05M.fv a b c d x y) (m : Int)
      exact ⟨x, y, K05M.fv a b c d x y / (m : Int), by omega⟩
    · obtain ⟨x, y, _, _, e⟩ := (h _).mp g
      have := Int.emod_add_mul_ediv (K05M.fv a b c d x y) (m : Int)
      exact BarM.V_neg (x := x) (y := y) ⟨K05M.fv a b c d x y / (m : Int) + 1, by rw [Int.mul_add]; omega⟩
  · rintro ⟨x, y, hv⟩
    left
    refine (h 1).mpr ⟨(x % (m : Int)).toNat, (y % (m : Int)).toNat, ?_, ?_, ?_⟩
    · have := Int.emod_lt_of_pos x m0
      have := Int.emod_nonneg x (show (m : Int) ≠ 0 by omega)
      omega
    · have := Int.emod_lt_of_pos y m0
      have := Int.emod_nonneg y (show (m : Int) ≠ 0 by omega)
      omega
    · have x0 := Int.emod_nonneg x (show (m : Int) ≠ 0 by omega)
      have y0 := Int.emod_nonneg y (show (m : Int) ≠ 0 by omega)
      rw [Int.toNat_of_nonneg x0, Int.toNat_of_nonneg y0]
      have ex := Int.emod_add_mul_ediv x (m : Int)
      have ey := Int.emod_add_mul_ediv y (m : Int)
      obtain ⟨i, hi⟩ := BarM.fv_congr (a := a) (b := b) (c := c) (d := d) (m := (m : Int)) (x := x) (y := y) (x' := x % (m : Int)) (y' := y % (m : Int)) ⟨-(x / (m : Int)), by rw [Int.mul_neg]; omega⟩ ⟨-(y / (m : Int)), by rw [Int.mul_neg]; omega⟩
      obtain ⟨j, hj⟩ := hv
      have e : K05M.fv a b c d (x % (m : Int)) (y % (m : Int)) = 1 + (m : Int) * (i + j) := by rw [Int.mul_add]; omega
      rw [e, Int.add_mul_emod_self_left, Int.emod_eq_of_lt (by omega) (by omega)]
def Due (a b c d : Int) (most : Nat) (v : L2.V) : Prop := (v = .non ∧ ∀ m : Nat, 2 ≤ m → m ≤ most → BarM.V a b c d m) ∨ ∃ m : Nat, 2 ≤ m ∧ m ≤ most ∧ v = .int (m : Int) ∧ ¬ BarM.V a b c d m ∧ ∀ q : Nat, 2 ≤ q → q < m → BarM.V a b c d q
def sp_l_share (_ : PySem.W.Frag) (C : Addr) : Sp := fun vs H Q _ => ∃ x y : Int, vs = [.int x, .int y] ∧ Q (.int ((Nat.gcd x.natAbs y.natAbs : Nat) : Int)) H
def sp_l_rests (_ : PySem.W.Frag) (C : Addr) : Sp := fun vs H Q _ => ∃ (t : Addr) (a b c d : Int) (m : Nat), vs = [.ref t, .int (m : Int)] ∧ Ti H t [a, b, c, d] ∧ B4 400 a b c d ∧ 2 ≤ m ∧ m < 60 ∧ ∀ l H' (ks : List Int), Ex0 H H' → H' l = some (.lst (ks.map V.int)) → (((1 : Int) ∈ ks ∨ (m : Int) - 1 ∈ ks) ↔ BarM.V a b c d m) → Q (.ref l) H'
def sp_l_due_bar (_ : PySem.W.Frag) (C : Addr) : Sp := fun vs H Q _ => ∃ (t : Addr) (a b c d : Int) (m : Nat), vs = [.ref t, .int (m : Int)] ∧ Ti H t [a, b, c, d] ∧ B4 400 a b c d ∧ 1 ≤ m ∧ m < 60 ∧ ∀ v H', Ex0 H H' → Due a b c d m v → Q v H'
def sp_l_drawn_form (_ : PySem.W.Frag) (C : Addr) : Sp := fun vs H Q _ => ∃ cr : Addr, vs = [.ref cr] ∧ Vat cr H ∧ ∀ t a b c d H', Fv cr H H' → Ti H' t [a, b, c, d] → (∀ z ∈ [a, b, c, d], z.natAbs ≤ 2000) → Good a b c d → Q (.ref t) H'
end
section
variable {P : Program} {w : World} {K : PySem.W.Frag} {mg : Str → Option Value} {base : Heap} {C_Form : Addr}
theorem ok_l_share (T : Txt K mg C_Form) : Def P w K mg base 1 "_law_share" ["_law_one", "_law_other"] (sp_l_share K C_Form) := by
  obtain ⟨f_, fd_, g_, F_⟩ := T.d_l_share
  refine ⟨f_, fd_, g_, F_.kp, F_.binds (ps := ["_law_one", "_law_other"]) (fun _ _ _ _ _ _ us hl => match us, hl with | [_, _], _ => rfl), ?_⟩
  refine F_.ok sc_l_share (fun vs H Q E h => ?_) (fun cdv A outer s H vs Q E hr h => ?_)
  · first | (obtain ⟨rfl, _⟩ := h; rfl) | (obtain ⟨_, rfl, _⟩ := h; rfl) | (obtain ⟨_, _, rfl, _⟩ := h; rfl) | (obtain ⟨_, _, _, rfl, _⟩ := h; rfl) | (obtain ⟨_, _, _, _, rfl, _⟩ := h; rfl) | (obtain ⟨_, _, _, _, _, rfl, _⟩ := h; rfl) | (obtain ⟨_, _, _, _, _, _, rfl, _⟩ := h; rfl) | (obtain ⟨_, _, _, _, _, _, _, rfl, _⟩ := h; rfl) | (obtain ⟨_, _, _, _, _, _, _, _, rfl, _⟩ := h; rfl) | (obtain ⟨_, _, _, _, _, _, _, _, _, rfl, _⟩ := h; rfl) | (obtain ⟨_, _, _, _, _, _, _, _, _, _, rfl, _⟩ := h; rfl) | (obtain ⟨_, _, _, _, _, _, _, _, _, _, _, rfl, _⟩ := h; rfl) | (obtain ⟨_, _, _, _, _, _, _, _, _, _, _, _, rfl, _⟩ := h; rfl) | (obtain ⟨_, _, _, _, _, _, _, _, _, _, _, _, _, rfl, _⟩ := h; rfl) | (obtain ⟨_, _, _, _, _, _, _, _, _, _, _, _, _, _, rfl, _⟩ := h; rfl) | (obtain ⟨_, _, _, _, _, _, _, _, _, _, _, _, _, _, _, rfl, _⟩ := h; rfl) | (obtain ⟨_, _, _, _, _, _, _, _, _, _, _, _, _, _, _, _, rfl, _⟩ := h; rfl) | (obtain ⟨_, _, _, _, _, _, _, _, _, _, _, _, _, _, _, _, _, rfl, _⟩ := h; rfl) | (obtain ⟨_, _, _, _, _, _, _, _, _, _, _, _, _, _, _, _, _, _, rfl, _⟩ := h; rfl) | (obtain ⟨_, _, _, _, _, _, _, _, _, _, _, _, _, _, _, _, _, _, _, rfl, _⟩ := h; rfl) | (obtain ⟨_, _, _, _, _, _, _, _, _, _, _, _, _, _, _, _, _, _, _, _, rfl, _⟩ := h; rfl) | (obtain ⟨_, _, _, _, _, _, _, _, _, _, _, _, _, _, _, _, _, _, _, _, _, rfl, _⟩ := h; rfl) | (obtain ⟨_, _, _, _, _, _, _, _, _, _, _, _, _, _, _, _, _, _, _, _, _, _, rfl, _⟩ := h; rfl) | (obtain ⟨_, _, _, _, _, _, _, _, _, _, _, _, _, _, _, _, _, _, _, _, _, _, _, rfl, _⟩ := h; rfl)
  · obtain ⟨x, y, rfl, q⟩ := h
    refine ⟨_, (pss_cons (ps_par (i := 0) (j := 1) (by rfl) sc_l_share.nd rfl rfl (by decide) rfl rfl (pa_cons (pe_callB call_abs (by rfl) T.b_abs (by decide +kernel) (pa_cons (pv 0) pa_nil)) (pa_cons (pe_callB call_abs (by rfl) T.b_abs (by decide +kernel) (pa_cons (pv 1) pa_nil)) pa_nil)) (by rfl))
    (pss_cons (ps_while PassesOwn.never (pt_cmpR op_gt (pv 1) pe_int (nomark _))
      (pss_one (ps_par (i := 0) (j := 1) (by rfl) sc_l_share.nd rfl rfl (by decide) rfl rfl (pa_cons (pv 1) (pa_cons (pe_op op_mod (pv 0) (pv 1)) pa_nil)) (by rfl))))
    (pss_one (ps_ret (pv 0))))), ?_⟩
    refine ⟨_, rfl, x, rfl, _, rfl, y, rfl, _, _, rfl, ?_⟩
    rw [ab_nat, ab_nat]
    refine ⟨fun m σ H' => ∃ u v : Nat, σ = [some (.int (u : Int)), some (.int (v : Int))] ∧ H' = H ∧ Nat.gcd u v = Nat.gcd x.natAbs y.natAbs ∧ m = v, ⟨_, _, _, rfl, rfl, rfl, rfl⟩, ?_⟩
    rintro m σ H' ⟨u, v, rfl, rfl, hg, rfl⟩
    refine ⟨_, rfl, _, _, rfl, rfl, _, rfl, iteD (fun g => ?_) (fun g => ?_)⟩
    · refine ⟨fun σ' H'' => ∃ x' y' : Nat, σ' = [some (.int (x' : Int)), some (.int (y' : Int))] ∧ H'' = H' ∧ Nat.gcd x' y' = Nat.gcd x.natAbs y.natAbs ∧ y' < m, fun σ' H'' ⟨x', y', e1, e2, e3, e4⟩ => ⟨y', e4, x', y', e1, e2, e3, rfl⟩, ?_⟩
      refine ⟨_, rfl, _, rfl, _, rfl, (u : Int), (m : Int), rfl, rfl, g, _, _, rfl, ?_⟩
      refine ⟨m, u % m, rfl, rfl, ?_, Nat.mod_lt _ (by omega)⟩
      rw [← hg, Nat.gcd_comm u m, Nat.gcd_rec m u, Nat.gcd_comm]
    · have : m = 0 := by omega
      subst this
      refine ⟨_, rfl, ?_⟩
      rw [Nat.gcd_zero_right] at hg
      rw [hg]
      exact q
theorem ok_l_rests (T : Txt K mg C_Form) : Def P w K mg base 2 "_law_rests" ["_law_numbers", "_law_modulus"] (sp_l_rests K C_Form) := by
  obtain ⟨f_, fd_, g_, F_⟩ := T.d_l_rests
  obtain ⟨f_l_value, fd_l_value, g_l_value, k_l_value, b_l_value, G_l_value⟩ := (ok_l_value (P := P) (w := w) (base := base) T)
  refine ⟨f_, fd_, g_, F_.kp, F_.binds (ps := ["_law_numbers", "_law_modulus"]) (fun _ _ _ _ _ _ us hl => match us, hl with | [_, _], _ => rfl), ?_⟩
  refine F_.ok sc_l_rests (fun vs H Q E h => ?_) (fun cdv A outer s H vs Q E hr h => ?_)
  · first | (obtain ⟨rfl, _⟩ := h; rfl) | (obtain ⟨_, rfl, _⟩ := h; rfl) | (obtain ⟨_, _, rfl, _⟩ := h; rfl) | (obtain ⟨_, _, _, rfl, _⟩ := h; rfl) | (obtain ⟨_, _, _, _, rfl, _⟩ := h; rfl) | (obtain ⟨_, _, _, _, _, rfl, _⟩ := h; rfl) | (obtain ⟨_, _, _, _, _, _, rfl, _⟩ := h; rfl) | (obtain ⟨_, _, _, _, _, _, _, rfl, _⟩ := h; rfl) | (obtain ⟨_, _, _, _, _, _, _, _, rfl, _⟩ := h; rfl) | (obtain ⟨_, _, _, _, _, _, _, _, _, rfl, _⟩ := h; rfl) | (obtain ⟨_, _, _, _, _, _, _, _, _, _, rfl, _⟩ := h; rfl) | (obtain ⟨_, _, _, _, _, _, _, _, _, _, _, rfl, _⟩ := h; rfl) | (obtain ⟨_, _, _, _, _, _, _, _, _, _, _, _, rfl, _⟩ := h; rfl) | (obtain ⟨_, _, _, _, _, _, _, _, _, _, _, _, _, rfl, _⟩ := h; rfl) | (obtain ⟨_, _, _, _, _, _, _, _, _, _, _, _, _, _, rfl, _⟩ := h; rfl) | (obtain ⟨_, _, _, _, _, _, _, _, _, _, _, _, _, _, _, rfl, _⟩ := h; rfl) | (obtain ⟨_, _, _, _, _, _, _, _, _, _, _, _, _, _, _, _, rfl, _⟩ := h; rfl) | (obtain ⟨_, _, _, _, _, _, _, _, _, _, _, _, _, _, _, _, _, rfl, _⟩ := h; rfl) | (obtain ⟨_, _, _, _, _, _, _, _, _, _, _, _, _, _, _, _, _, _, rfl, _⟩ := h; rfl) | (obtain ⟨_, _, _, _, _, _, _, _, _, _, _, _, _, _, _, _, _, _, _, rfl, _⟩ := h; rfl) | (obtain ⟨_, _, _, _, _, _, _, _, _, _, _, _, _, _, _, _, _, _, _, _, rfl, _⟩ := h; rfl) | (obtain ⟨_, _, _, _, _, _, _, _, _, _, _, _, _, _, _, _, _, _, _, _, _, rfl, _⟩ := h; rfl) | (obtain ⟨_, _, _, _, _, _, _, _, _, _, _, _, _, _, _, _, _, _, _, _, _, _, rfl, _⟩ := h; rfl) | (obtain ⟨_, _, _, _, _, _, _, _, _, _, _, _, _, _, _, _, _, _, _, _, _, _, _, rfl, _⟩ := h; rfl)
  · obtain ⟨t, a, b, c, d, m, rfl, ht, hb, m2, m1, q⟩ := h
    refine ⟨_, (pss_cons (ps_set (i := 2) sc_l_rests.nd rfl (.inl rfl) pe_dnewK)
    (pss_cons (ps_for PassesOwn.never rfl (pi_range1 (by rfl) T.b_range (pa_cons (pv 1) pa_nil)) (pg_name (i := 3) sc_l_rests.nd rfl (.inl rfl))
      (pss_one (ps_for PassesOwn.never rfl (pi_range1 (by rfl) T.b_range (pa_cons (pv 1) pa_nil)) (pg_name (i := 4) sc_l_rests.nd rfl (.inl rfl))
      (pss_one (ps_asg pe_bl (pg_sub (pv 2) (pe_op op_mod (pe_call G_l_value (hr.mono (by decide)) (by rfl) g_l_value k_l_value b_l_value .nil pass0 (pa_cons (pv 0) (pa_cons (pv 3) (pa_cons (pv 4) pa_nil)))) (pv 1)) (set_dict (Nat.lt_of_le_of_lt (Nat.add_le_add_left (by decide) _) hr.units))))))))
    (pss_one (ps_ret (pe_callB (call_sortedDI rfl) (by rfl) T.b_sorted (by decide +kernel) (pa_cons (pv 2) pa_nil)))))), ?_⟩
    refine fun D nD => ?_
    have eD := Ex0.new (o := .dK []) nD
    have m0 : (0 : Int) < (m : Int) := by omega
    refine ⟨_, rfl, _, rfl, by omega, by omega, ?_⟩
    refine for_range (lo := 0) (n := (m : Int).toNat) (fun i σ H' => ∃ (kvs : List (Key × V)) (ks : List Int) (y3 y4 : Option V), σ = [some (.ref t), some (.int (m : Int)), some (.ref D), y3, y4] ∧ Ex0 H H' ∧ H' D = some (.dK kvs) ∧ Dk kvs ks ∧ ks.Nodup ∧ (∀ v ∈ ks, 0 ≤ v ∧ v < (m : Int)) ∧ ∀ v : Int, v ∈ ks ↔ ∃ x y : Nat, x < i ∧ y < m ∧ K05M.fv a b c d x y % (m : Int) = v) ⟨[], [], none, none, rfl, eD, upd_same, Dk.nil, List.nodup_nil, fun v h => by (cases h), fun v => ⟨fun h => by (cases h), fun ⟨x, y, h, _⟩ => by omega⟩⟩ ?_ ?_
    · rintro i σ H1 hi ⟨kvs, ks, y3, y4, rfl, e1, hD, hk, nd, hb1, hks⟩
      have hi' : i < m := by simpa using hi
      rw [show (0 : Int) + (i : Int) = (i : Int) by omega]
      refine ⟨_, rfl, _, rfl, by omega, by omega, ?_⟩
      refine for_range (lo := 0) (n := (m : Int).toNat) (fun j σ H' => ∃ (kvs : List (Key × V)) (ks : List Int) (y4 : Option V), σ = [some (.ref t), some (.int (m : Int)), some (.ref D), some (.int (i : Int)), y4] ∧ Ex0 H H' ∧ H' D = some (.dK kvs) ∧ Dk kvs ks ∧ ks.Nodup ∧ (∀ v ∈ ks, 0 ≤ v ∧ v < (m : Int)) ∧ ∀ v : Int, v ∈ ks ↔ ∃ x y : Nat, ((x < i ∧ y < m) ∨ (x = i ∧ y < j)) ∧ K05M.fv a b c d x y % (m : Int) = v) ⟨kvs, ks, y4, rfl, e1, hD, hk, nd, hb1, fun v => (hks v).trans ⟨fun ⟨x, y, h1, h2, h3⟩ => ⟨x, y, .inl ⟨h1, h2⟩, h3⟩, fun ⟨x, y, h1, h3⟩ => ⟨x, y, by omega, by omega, h3⟩⟩⟩ ?_ ?_
      · rintro j σ H2 hj ⟨kvs, ks, y4, rfl, e2, hD2, hk2, nd2, hb2, hks2⟩
        have hj' : j < m := by simpa using hj
        rw [show (0 : Int) + (j : Int) = (j : Int) by omega]
        have bi : B 10 (i : Int) := ⟨by show _ < 1024; omega, by decide⟩
        have bj : B 10 (j : Int) := ⟨by show _ < 1024; omega, by decide⟩
        refine ⟨_, rfl, _, rfl, _, rfl, _, rfl, t, a, b, c, d, (i : Int), (j : Int), rfl, Ex0.ti e2 ht, hb, bi.mono (by decide), bj.mono (by decide), fun H3 e3 => ?_⟩
        have e23 := e2.trans e3
        have hD3 := Ex0.ap e3 hD2
        have hlk : kvs.length = ks.length := by
          have := congrArg List.length hk2
          rwa [List.length_map, List.length_map] at this
        refine ⟨_, rfl, _, _, rfl, rfl, m0, D, _, rfl, .inl ⟨kvs, (Sum.inl (K05M.fv a b c d i j % (m : Int)) : Key), hD3, rfl, ?_, rfl⟩, ?_⟩
        · rw [hlk, sizeLine_eq]
          have := short_of m ks nd2 hb2
          omega
        refine ⟨_, _, _, rfl, Fx.mut fm0 e23 trivial nD, upd_same, hk2.put _ _, nd_put nd2 _, fun v hv => ?_, fun v => ?_⟩
        · rcases mem_put.mp hv with h | rfl
          · exact hb2 v h
          · exact ⟨Int.emod_nonneg _ (by omega), Int.emod_lt_of_pos _ m0⟩
        · rw [mem_put, hks2 v]
          constructor
          · rintro (⟨x, y, h1, h3⟩ | rfl)
            · exact ⟨x, y, by omega, h3⟩
            · exact ⟨i, j, .inr ⟨rfl, by omega⟩, rfl⟩
          · rintro ⟨x, y, h1, h3⟩
            by_cases hxy : x = i ∧ y = j
            · obtain ⟨rfl, rfl⟩ := hxy
              exact .inr h3.symm
            · exact .inl ⟨x, y, by omega, h3⟩
      · rintro σ H2 ⟨kvs, ks, y4, rfl, e2, hD2, hk2, nd2, hb2, hks2⟩
        rw [Int.toNat_natCast] at hks2
        refine ⟨kvs, ks, _, y4, rfl, e2, hD2, hk2, nd2, hb2, fun v => (hks2 v).trans ⟨fun ⟨x, y, h1, h3⟩ => ⟨x, y, by omega, by omega, h3⟩, fun ⟨x, y, h1, h2, h3⟩ => ⟨x, y, by omega, h3⟩⟩⟩
    · rintro σ H1 ⟨kvs, ks, y3, y4, rfl, e1, hD, hk, nd, hb1, hks⟩
      rw [Int.toNat_natCast] at hks
      have := short_of m ks nd hb1
      refine ⟨_, rfl, D, kvs, ks, rfl, .inl hD, hk, by omega, fun ys p pm _ np => ?_⟩
      refine q p _ ys (e1.trans (Ex0.new np)) upd_same ?_
      exact rests_V m2 fun v => by rw [pm.mem_iff]; exact hks v
theorem ok_l_due_bar (T : Txt K mg C_Form) : Def P w K mg base 3 "_law_due_bar" ["_law_numbers", "_law_most"] (sp_l_due_bar K C_Form) := by
  obtain ⟨f_, fd_, g_, F_⟩ := T.d_l_due_bar
  obtain ⟨f_l_rests, fd_l_rests, g_l_rests, k_l_rests, b_l_rests, G_l_rests⟩ := (ok_l_rests (P := P) (w := w) (base := base) T)
  refine ⟨f_, fd_, g_, F_.kp, F_.binds (ps := ["_law_numbers", "_law_most"]) (fun _ _ _ _ _ _ us hl => match us, hl with | [_, _], _ => rfl), ?_⟩
  refine F_.ok sc_l_due_bar (fun vs H Q E h => ?_) (fun cdv A outer s H vs Q E hr h => ?_)
  · first | (obtain ⟨rfl, _⟩ := h; rfl) | (obtain ⟨_, rfl, _⟩ := h; rfl) | (obtain ⟨_, _, rfl, _⟩ := h; rfl) | (obtain ⟨_, _, _, rfl, _⟩ := h; rfl) | (obtain ⟨_, _, _, _, rfl, _⟩ := h; rfl) | (obtain ⟨_, _, _, _, _, rfl, _⟩ := h; rfl) | (obtain ⟨_, _, _, _, _, _, rfl, _⟩ := h; rfl) | (obtain ⟨_, _, _, _, _, _, _, rfl, _⟩ := h; rfl) | (obtain ⟨_, _, _, _, _, _, _, _, rfl, _⟩ := h; rfl) | (obtain ⟨_, _, _, _, _, _, _, _, _, rfl, _⟩ := h; rfl) | (obtain ⟨_, _, _, _, _, _, _, _, _, _, rfl, _⟩ := h; rfl) | (obtain ⟨_, _, _, _, _, _, _, _, _, _, _, rfl, _⟩ := h; rfl) | (obtain ⟨_, _, _, _, _, _, _, _, _, _, _, _, rfl, _⟩ := h; rfl) | (obtain ⟨_, _, _, _, _, _, _, _, _, _, _, _, _, rfl, _⟩ := h; rfl) | (obtain ⟨_, _, _, _, _, _, _, _, _, _, _, _, _, _, rfl, _⟩ := h; rfl) | (obtain ⟨_, _, _, _, _, _, _, _, _, _, _, _, _, _, _, rfl, _⟩ := h; rfl) | (obtain ⟨_, _, _, _, _, _, _, _, _, _, _, _, _, _, _, _, rfl, _⟩ := h; rfl) | (obtain ⟨_, _, _, _, _, _, _, _, _, _, _, _, _, _, _, _, _, rfl, _⟩ := h; rfl) | (obtain ⟨_, _, _, _, _, _, _, _, _, _, _, _, _, _, _, _, _, _, rfl, _⟩ := h; rfl) | (obtain ⟨_, _, _, _, _, _, _, _, _, _, _, _, _, _, _, _, _, _, _, rfl, _⟩ := h; rfl) | (obtain ⟨_, _, _, _, _, _, _, _, _, _, _, _, _, _, _, _, _, _, _, _, rfl, _⟩ := h; rfl) | (obtain ⟨_, _, _, _, _, _, _, _, _, _, _, _, _, _, _, _, _, _, _, _, _, rfl, _⟩ := h; rfl) | (obtain ⟨_, _, _, _, _, _, _, _, _, _, _, _, _, _, _, _, _, _, _, _, _, _, rfl, _⟩ := h; rfl) | (obtain ⟨_, _, _, _, _, _, _, _, _, _, _, _, _, _, _, _, _, _, _, _, _, _, _, rfl, _⟩ := h; rfl)
  · obtain ⟨t, a, b, c, d, m, rfl, ht, hb, m2, m1, q⟩ := h
    refine ⟨_, (pss_cons (ps_for PassesOwn.never rfl (pi_range2 (by rfl) T.b_range (pa_cons pe_int (pa_cons (pe_op op_add (pv 1) pe_int) pa_nil))) (pg_name (i := 2) sc_l_due_bar.nd rfl (.inl rfl))
      (pss_cons (ps_set (i := 3) sc_l_due_bar.nd rfl (.inl rfl) (pe_call G_l_rests (hr.mono (by decide)) (by rfl) g_l_rests k_l_rests b_l_rests .nil pass0 (pa_cons (pv 0) (pa_cons (pv 2) pa_nil))))
    (pss_one (ps_if (PW.pt (pw_and (pt_cmpR op_notIn_seq pe_int (pv 3) (by with_unfolding_all rfl)) (pw_and1 (pt_cmpR op_notIn_seq (pe_op op_sub (pv 2) pe_int) (pv 3) (by with_unfolding_all rfl)))))
      (pss_one (ps_ret (pv 2)))
      pss_nil))))
    (pss_one (ps_ret pe_non))), ?_⟩
    refine ⟨_, rfl, _, _, rfl, rfl, _, _, rfl, ⟨by decide, by decide, by omega, by omega⟩, ?_⟩
    refine for_range (lo := 2) (n := ((m : Int) + 1 - 2).toNat) (fun i σ H' => ∃ (y2 y3 : Option V), σ = [some (.ref t), some (.int (m : Int)), y2, y3] ∧ Ex0 H H' ∧ ∀ r : Nat, 2 ≤ r → r < 2 + i → BarM.V a b c d r) ⟨none, none, rfl, Ex0.refl H, fun r h1 h2 => by omega⟩ ?_ ?_
    · rintro i σ H1 hi ⟨y2, y3, rfl, e1, hno⟩
      refine ⟨_, rfl, _, rfl, t, a, b, c, d, 2 + i, by rw [Int.natCast_add]; rfl, Ex0.ti e1 ht, hb, by omega, by omega, fun l H2 ks e2 hl hks => ?_⟩
      have e12 := e1.trans e2
      refine ⟨_, rfl, l, _, rfl, .inl (SqL.of hl), rfl, all_flat ks, _, rfl, ?_⟩
      rw [show (if true = true then !inV (V.int 1) (ks.map V.int) else inV (V.int 1) (ks.map V.int)) = !decide ((1 : Int) ∈ ks) by rw [if_pos rfl, inV_ints]]
      refine iteN (fun g => ?_) (fun g => ?_)
      · refine ⟨_, rfl, _, _, rfl, rfl, _, rfl, l, _, rfl, .inl (SqL.of hl), rfl, all_flat ks, _, rfl, ?_⟩
        rw [show (if true = true then !inV (V.int (2 + (i : Int) - 1)) (ks.map V.int) else inV (V.int (2 + (i : Int) - 1)) (ks.map V.int)) = !decide ((2 + (i : Int) - 1) ∈ ks) by rw [if_pos rfl, inV_ints]]
        refine iteN (fun g2 => ?_) (fun g2 => ?_)
        · refine ⟨_, rfl, q _ H2 e12 (.inr ⟨2 + i, by omega, by omega, by rw [Int.natCast_add]; rfl, fun hV => ?_, fun r h1 h2 => hno r h1 h2⟩)⟩
          rcases hks.mpr hV with h | h
          · exact g h
          · exact g2 (by rw [show (2 + (i : Int) - 1) = ((2 + i : Nat) : Int) - 1 by omega]; exact h)
        · refine ⟨_, _, rfl, e12, fun r h1 h2 => ?_⟩
          by_cases hr : r = 2 + i
          · rw [hr]
            exact hks.mp (.inr (by rw [show ((2 + i : Nat) : Int) - 1 = (2 + (i : Int) - 1) by omega]; exact g2))
          · exact hno r h1 (by omega)
      · refine iteF ⟨_, _, rfl, e12, fun r h1 h2 => ?_⟩
        by_cases hr : r = 2 + i
        · rw [hr]
          exact hks.mp (.inl g)
        · exact hno r h1 (by omega)
    · rintro σ H1 ⟨y2, y3, rfl, e1, hno⟩
      exact q _ H1 e1 (.inl ⟨rfl, fun r h1 h2 => hno r h1 (by omega)⟩)
theorem ok_l_drawn_form (T : Txt K mg C_Form) : Def P w K mg base 4 "_law_drawn_form" ["_law_vat_here"] (sp_l_drawn_form K C_Form) := by
  obtain ⟨f_, fd_, g_, F_⟩ := T.d_l_drawn_form
  obtain ⟨f_l_from, fd_l_from, g_l_from, k_l_from, b_l_from, G_l_from⟩ := (ok_l_from (P := P) (w := w) (base := base) T)
  obtain ⟨f_l_row, fd_l_row, g_l_row, k_l_row, b_l_row, G_l_row⟩ := (ok_l_row (P := P) (w := w) (base := base) T)
  obtain ⟨f_l_scoop, fd_l_scoop, g_l_scoop, k_l_scoop, b_l_scoop, G_l_scoop⟩ := (ok_l_scoop (P := P) (w := w) (base := base) T)
  refine ⟨f_, fd_, g_, F_.kp, F_.binds (ps := ["_law_vat_here"]) (fun _ _ _ _ _ _ us hl => match us, hl with | [_], _ => rfl), ?_⟩
  refine F_.ok sc_l_drawn_form (fun vs H Q E h => ?_) (fun cdv A outer s H vs Q E hr h => ?_)
  · first | (obtain ⟨rfl, _⟩ := h; rfl) | (obtain ⟨_, rfl, _⟩ := h; rfl) | (obtain ⟨_, _, rfl, _⟩ := h; rfl) | (obtain ⟨_, _, _, rfl, _⟩ := h; rfl) | (obtain ⟨_, _, _, _, rfl, _⟩ := h; rfl) | (obtain ⟨_, _, _, _, _, rfl, _⟩ := h; rfl) | (obtain ⟨_, _, _, _, _, _, rfl, _⟩ := h; rfl) | (obtain ⟨_, _, _, _, _, _, _, rfl, _⟩ := h; rfl) | (obtain ⟨_, _, _, _, _, _, _, _, rfl, _⟩ := h; rfl) | (obtain ⟨_, _, _, _, _, _, _, _, _, rfl, _⟩ := h; rfl) | (obtain ⟨_, _, _, _, _, _, _, _, _, _, rfl, _⟩ := h; rfl) | (obtain ⟨_, _, _, _, _, _, _, _, _, _, _, rfl, _⟩ := h; rfl) | (obtain ⟨_, _, _, _, _, _, _, _, _, _, _, _, rfl, _⟩ := h; rfl) | (obtain ⟨_, _, _, _, _, _, _, _, _, _, _, _, _, rfl, _⟩ := h; rfl) | (obtain ⟨_, _, _, _, _, _, _, _, _, _, _, _, _, _, rfl, _⟩ := h; rfl) | (obtain ⟨_, _, _, _, _, _, _, _, _, _, _, _, _, _, _, rfl, _⟩ := h; rfl) | (obtain ⟨_, _, _, _, _, _, _, _, _, _, _, _, _, _, _, _, rfl, _⟩ := h; rfl) | (obtain ⟨_, _, _, _, _, _, _, _, _, _, _, _, _, _, _, _, _, rfl, _⟩ := h; rfl) | (obtain ⟨_, _, _, _, _, _, _, _, _, _, _, _, _, _, _, _, _, _, rfl, _⟩ := h; rfl) | (obtain ⟨_, _, _, _, _, _, _, _, _, _, _, _, _, _, _, _, _, _, _, rfl, _⟩ := h; rfl) | (obtain ⟨_, _, _, _, _, _, _, _, _, _, _, _, _, _, _, _, _, _, _, _, rfl, _⟩ := h; rfl) | (obtain ⟨_, _, _, _, _, _, _, _, _, _, _, _, _, _, _, _, _, _, _, _, _, rfl, _⟩ := h; rfl) | (obtain ⟨_, _, _, _, _, _, _, _, _, _, _, _, _, _, _, _, _, _, _, _, _, _, rfl, _⟩ := h; rfl) | (obtain ⟨_, _, _, _, _, _, _, _, _, _, _, _, _, _, _, _, _, _, _, _, _, _, _, rfl, _⟩ := h; rfl)
  · obtain ⟨cr, rfl, hv, q⟩ := h
    refine ⟨_, (Evl.pss_cut (ps_par (i := 1) (j := 2) (by rfl) sc_l_drawn_form.nd rfl rfl (by decide) rfl rfl (pa_cons (pe_call G_l_row (hr.mono (by decide)) (by rfl) g_l_row k_l_row b_l_row .nil pass0 (pa_cons (pv 0) (pa_cons (pe_call G_l_from (hr.mono (by decide)) (by rfl) g_l_from k_l_from b_l_from .nil pass0 (pa_cons (pv 0) (pa_cons (pe_lst (pa_cons pe_int (pa_cons pe_int (pa_cons pe_int pa_nil)))) pa_nil))) pa_nil))) (pa_cons (pe_call G_l_scoop (hr.mono (by decide)) (by rfl) g_l_scoop k_l_scoop b_l_scoop .nil pass0 (pa_cons (pv 0) (pa_cons pe_int pa_nil))) pa_nil)) (by rfl))
    (pss_cons (ps_if (pt_cmpR op_eq (pv 2) pe_int (nomark _))
      (pss_cons (ps_set (i := 3) sc_l_drawn_form.nd rfl (.inr rfl) (pe_call G_l_from (hr.mono (by decide)) (by rfl) g_l_from k_l_from b_l_from .nil pass0 (pa_cons (pv 0) (pa_cons (pe_lst (pa_cons pe_int (pa_cons pe_int (pa_cons pe_int (pa_cons pe_int (pa_cons pe_int (pa_cons pe_int (pa_cons pe_int (pa_cons pe_int pa_nil))))))))) pa_nil))))
    (pss_one (ps_ret (pe_callTy call_tuple_of (by rfl) T.b_tuple (by decide +kernel) (pa_cons (pe_lc (own := [("_law_entry", 4)]) (g := (gName 4)) rfl sc_l_drawn_form.nd (pi_tup (pv 1)) (blkOk_by (N := N_l_drawn_form) (sc := defScope s_l_drawn_form) (by decide +kernel)) (fun _ _ _ _ _ => (pg_name (i := 4) sc_l_drawn_form.nd rfl (.inl rfl))) (fun _ _ _ _ _ => pts_nil) (fun _ _ _ _ _ => (pe_op op_mulW (pv 3) (pv 4)))) pa_nil)))))
      pss_nil)
    (pss_cons (ps_if (pt_cmpR op_eq (pv 2) pe_int (nomark _))
      (pss_one (ps_ret (pe_callTy call_tuple_of (by rfl) T.b_tuple (by decide +kernel) (pa_cons (pe_lc (own := [("_law_entry", 4), ("_law_part", 5)]) (g := (gTup K 2 (gCons (gName 4) (gCons (gName 5) gNil)))) rfl sc_l_drawn_form.nd (RZ.pi_zipA (by rfl) T.b_zip (pa_cons (pv 1) (pa_cons (pe_tup (pa_cons pe_int (pa_cons pe_int (pa_cons pe_int (pa_cons pe_int pa_nil))))) pa_nil))) (blkOk_by (N := N_l_drawn_form) (sc := defScope s_l_drawn_form) (by decide +kernel)) (fun _ _ _ _ _ => (pg_tup (by rfl) (pgs_cons (pg_name (i := 4) sc_l_drawn_form.nd rfl (.inl rfl)) (pgs_cons (pg_name (i := 5) sc_l_drawn_form.nd rfl (.inl rfl)) pgs_nil)))) (fun _ _ _ _ _ => pts_nil) (fun _ _ _ _ _ => (pe_op op_add (pe_op op_mulW pe_int (pv 4)) (pv 5)))) pa_nil))))
      pss_nil)
    (pss_cons (ps_if (pt_cmpR op_eq (pv 2) pe_int (nomark _))
      (pss_cons (ps_set (i := 3) sc_l_drawn_form.nd rfl (.inr rfl) (pe_call G_l_from (hr.mono (by decide)) (by rfl) g_l_from k_l_from b_l_from .nil pass0 (pa_cons (pv 0) (pa_cons (pe_lst (pa_cons pe_int (pa_cons pe_int (pa_cons pe_int (pa_cons pe_int (pa_cons pe_int pa_nil)))))) pa_nil))))
    (pss_one (ps_ret (pe_tup (pa_cons (pe_op op_add (pe_op op_mulW (pv 3) (pe_ix ix_tup (pv 1) pe_int (fun _ _ => rfl))) pe_int) (pa_cons (pe_op op_mulW (pv 3) (pe_ix ix_tup (pv 1) pe_int (fun _ _ => rfl))) (pa_cons (pe_op op_mulW (pv 3) (pe_ix ix_tup (pv 1) pe_int (fun _ _ => rfl))) (pa_cons (pe_op op_mulW (pv 3) (pe_ix ix_tup (pv 1) pe_int (fun _ _ => rfl))) pa_nil))))))))
      pss_nil)
    (pss_one (ps_ret (pv 1))))))), ?_⟩
    refine ⟨fun σ H' => ∃ (t : Addr) (a b c d w : Int), σ = [some (.ref cr), some (.ref t), some (.int w), none, none, none] ∧ Fv cr H H' ∧ Ti H' t [a, b, c, d] ∧ ∀ z ∈ [a, b, c, d], z.natAbs ≤ 40, ?_, ?_⟩
    · refine ⟨_, rfl, _, rfl, sl3, fun l nl => ?_⟩
      have fl := fv_new (o := .lst [.int 2, .int 9, .int 40]) hv nl
      refine ⟨cr, l, _, rfl, fl.1, upd_same, fv_ne hv nl, by simp, by show 3 ≤ 1000; decide, fun v H1 hm e1 => ?_⟩
      obtain ⟨n, rfl, hn⟩ : ∃ n : Nat, v = .int (n : Int) ∧ n ≤ 40 := by
        simp only [List.mem_cons, List.mem_nil_iff, or_false] at hm
        rcases hm with rfl | rfl | rfl
        · exact ⟨2, rfl, by decide⟩
        · exact ⟨9, rfl, by decide⟩
        · exact ⟨40, rfl, by decide⟩
      refine ⟨cr, n, rfl, e1.1, by omega, fun t a b c d H2 e2 ht hz => ?_⟩
      refine ⟨_, rfl, cr, 6, rfl, e2.1, by decide, by decide, fun w H3 w0 w1 e3 => ?_⟩
      exact ⟨_, _, rfl, t, a, b, c, d, w, rfl, fl.trans (e1.trans (e2.trans e3)), fv_tup e2.1 e3 ht, fun z h => Nat.le_trans (hz z h) hn⟩
    rintro σ H1 ⟨t, a, b, c, d, w, rfl, v1, ht, hz⟩
    have ha := hz a (by simp)
    have hb := hz b (by simp)
    have hc := hz c (by simp)
    have hd := hz d (by simp)
    have b7 : ∀ z ∈ [a, b, c, d], B 7 z := fun z h => ⟨Nat.lt_of_le_of_lt (hz z h) (by decide), by decide⟩
    refine ⟨_, rfl, rfl, _, rfl, iteE (fun g => ?_) (fun g => ?_)⟩
    · refine ⟨_, rfl, slN (by decide), fun l nl => ?_⟩
      have fl := fv_new (o := .lst [.int 2, .int 3, .int 4, .int 5, .int 6, .int 7, .int 9, .int 35]) v1.1 nl
      refine ⟨cr, l, _, rfl, fl.1, upd_same, fv_ne v1.1 nl, by simp, by show 8 ≤ 1000; decide, fun v H2 hm e2 => ?_⟩
      obtain ⟨s, rfl, hs⟩ : ∃ s : Int, v = .int s ∧ s ∈ [2, 3, 4, 5, 6, 7, 9, 35] := by
        simp only [List.mem_cons, List.mem_nil_iff, or_false] at hm ⊢
        rcases hm with rfl | rfl | rfl | rfl | rfl | rfl | rfl | rfl
        · exact ⟨2, rfl, by decide⟩
        · exact ⟨3, rfl, by decide⟩
        · exact ⟨4, rfl, by decide⟩
        · exact ⟨5, rfl, by decide⟩
        · exact ⟨6, rfl, by decide⟩
        · exact ⟨7, rfl, by decide⟩
        · exact ⟨9, rfl, by decide⟩
        · exact ⟨35, rfl, by decide⟩
      have hs35 : 0 ≤ s ∧ s ≤ 35 := by
        simp only [List.mem_cons, List.mem_nil_iff, or_false] at hs
        omega
      have bs : B 6 s := ⟨by show _ < 64; omega, by decide⟩
      have v2 := v1.trans (fl.trans e2)
      have ht2 := fv_tup v1.1 (fl.trans e2) ht
      refine ⟨_, rfl, t, rfl, ⟨_, SqT.of ht2⟩, ?_⟩
      refine lcT fm0 trivial (SqT.of ht2) (fun z => z) (fun i acc _ => acc = (([s * a, s * b, s * c, s * d] : List Int).take i).map V.int) (fun _ _ => rfl) (fun D i v acc H' hD hv e hA hlen hp => ?_) (fun D H3 acc hD e3 hA hp' => ?_)
      · obtain ⟨n, hn, rfl⟩ := get_int hv
        have hi : i < 4 := (List.getElem?_eq_some_iff.mp hn).1
        have hnm := b7 n (List.mem_of_getElem? hn)
        refine ⟨rfl, ?_⟩
        refine ⟨_, rfl, _, rfl, _, _, rfl, rfl, mulB bs hnm (by decide), ?_⟩
        refine cs_yes fm0 trivial hD e hA hlen (by omega) (Fx.refl trivial) ?_
        rw [hp]
        match i, hn with
        | 0, hn => rw [← Option.some.inj hn]; rfl
        | 1, hn => rw [← Option.some.inj hn]; rfl
        | 2, hn => rw [← Option.some.inj hn]; rfl
        | 3, hn => rw [← Option.some.inj hn]; rfl
      · have hp2 : acc = ([s * a, s * b, s * c, s * d] : List Int).map V.int := hp'
        subst hp2
        refine ⟨D, _, rfl, .inl ⟨SqL.of hA, fun o no => ?_⟩⟩
        refine q o (s * a) (s * b) (s * c) (s * d) _ (v2.trans (fv_ex v2.1 (Fx.trans e3 (Ex0.new no)))) upd_same (fun z h => ?_) (BarM.good_share hs)
        have mm : ∀ y : Int, y.natAbs ≤ 40 → (s * y).natAbs ≤ 2000 := fun y hy => by
          rw [Int.natAbs_mul]
          exact Nat.le_trans (Nat.mul_le_mul (show s.natAbs ≤ 35 by omega) hy) (by decide)
        simp only [List.mem_cons, List.mem_nil_iff, or_false] at h
        rcases h with rfl | rfl | rfl | rfl
        · exact mm _ ha
        · exact mm _ hb
        · exact mm _ hc
        · exact mm _ hd
    refine ⟨_, rfl, rfl, _, rfl, iteE (fun g => ?_) (fun g => ?_)⟩
    · refine ⟨_, rfl, sl4, fun u nu => ?_⟩
      have eu := Ex0.new (o := .tup [.int 0, .int 1, .int 1, .int 0]) nu
      have ht2 := Ex0.ti eu ht
      have hu : Ti (upd H1 u (.tup [.int 0, .int 1, .int 1, .int 0])) u [0, 1, 1, 0] := upd_same
      refine ⟨t, u, _, _, rfl, .inr ⟨SqT.of ht2, SqT.of hu, ?_⟩⟩
      refine lcP (walk_zipT (K := K) (xs := ([a, b, c, d] : List Int).map V.int) (ys := ([0, 1, 1, 0] : List Int).map V.int) rfl) fm0 trivial (fun H' e => ⟨SqT.of (Ex0.ti e ht2), SqT.of (Ex0.ti e hu)⟩) (fun i acc _ => acc = (([2 * a + 0, 2 * b + 1, 2 * c + 1, 2 * d + 0] : List Int).take i).map V.int) (fun _ _ => rfl) (fun D i T x1 y1 acc H' hD hi fx fy e3 hA hlen hp hT => ?_) (fun D H3 acc hD e3 hA hp' => ?_)
      · obtain ⟨rfl, hi1⟩ := get_D fx
        obtain ⟨rfl, hi2⟩ := get_D fy
        have bz1 : B 7 (([a, b, c, d] : List Int).getD i 0) := by
          match i, hi1 with
          | 0, _ => exact b7 a (by simp)
          | 1, _ => exact b7 b (by simp)
          | 2, _ => exact b7 c (by simp)
          | 3, _ => exact b7 d (by simp)
        refine ⟨T, _, rfl, SqT.of upd_same, rfl, _, _, rfl, _, _, rfl, rfl, ⟨rfl, ?_⟩⟩
        refine ⟨_, rfl, _, _, rfl, rfl, mulB (show B 2 2 from ⟨by decide, by decide⟩) bz1 (by decide), _, rfl, _, _, rfl, rfl, ?_⟩
        refine cs_yes fm0 trivial hD e3 hA hlen (by have : i < 4 := hi1; omega) (Ex0.new hT) ?_
        rw [hp]
        match i, hi1 with
        | 0, _ => rfl
        | 1, _ => rfl
        | 2, _ => rfl
        | 3, _ => rfl
      · have hp2 : acc = ([2 * a + 0, 2 * b + 1, 2 * c + 1, 2 * d + 0] : List Int).map V.int := hp'
        subst hp2
        refine ⟨D, _, rfl, .inl ⟨SqL.of hA, fun o no => ?_⟩⟩
        refine q o _ _ _ _ _ (v1.trans (fv_ex v1.1 ((eu.trans e3).trans (Ex0.new no)))) upd_same (fun z h => ?_) (BarM.good_even ?_)
        · simp only [List.mem_cons, List.mem_nil_iff, or_false] at h
          rcases h with rfl | rfl | rfl | rfl <;> omega
        · refine BarM.dvd_ix.mpr ⟨⟨a, by omega⟩, ⟨d, by omega⟩, ⟨b + c + 1, by omega⟩, ⟨2 * b + 1, by omega⟩⟩
    refine ⟨_, rfl, rfl, _, rfl, iteE (fun g => ?_) (fun g => ?_)⟩
    · refine ⟨_, rfl, slN (by decide), fun l nl => ?_⟩
      have fl := fv_new (o := .lst [.int 7, .int 9, .int 13, .int 19, .int 31]) v1.1 nl
      refine ⟨cr, l, _, rfl, fl.1, upd_same, fv_ne v1.1 nl, by simp, by show 5 ≤ 1000; decide, fun v H2 hm e2 => ?_⟩
      obtain ⟨s, rfl, hs⟩ : ∃ s : Nat, v = .int (s : Int) ∧ s ∈ [7, 9, 13, 19, 31] := by
        simp only [List.mem_cons, List.mem_nil_iff, or_false] at hm ⊢
        rcases hm with rfl | rfl | rfl | rfl | rfl
        · exact ⟨7, rfl, by decide⟩
        · exact ⟨9, rfl, by decide⟩
        · exact ⟨13, rfl, by decide⟩
        · exact ⟨19, rfl, by decide⟩
        · exact ⟨31, rfl, by decide⟩
      have hs35 : s ≤ 31 := by
        simp only [List.mem_cons, List.mem_nil_iff, or_false] at hs
        omega
      have bs : B 6 (s : Int) := ⟨by show _ < 64; omega, by decide⟩
      have v2 := v1.trans (fl.trans e2)
      have ht2 := SqT.of (K := K) (fv_tup v1.1 (fl.trans e2) ht)
      refine ⟨_, rfl, _, rfl, t, _, 0, .int a, rfl, rfl, ht2, rfl, _, _, rfl, rfl, mulB bs (b7 a (by simp)) (by decide), _, _, rfl, rfl, ?_⟩
      refine ⟨_, rfl, _, rfl, t, _, 1, .int b, rfl, rfl, ht2, rfl, _, _, rfl, rfl, mulB bs (b7 b (by simp)) (by decide), ?_⟩
      refine ⟨_, rfl, _, rfl, t, _, 2, .int c, rfl, rfl, ht2, rfl, _, _, rfl, rfl, mulB bs (b7 c (by simp)) (by decide), ?_⟩
      refine ⟨_, rfl, _, rfl, t, _, 3, .int d, rfl, rfl, ht2, rfl, _, _, rfl, rfl, mulB bs (b7 d (by simp)) (by decide), sl4, fun o no => ?_⟩
      refine q o ((s : Int) * a + 2) (s * b) (s * c) (s * d) _ (v2.trans (fv_ex v2.1 (Ex0.new no))) upd_same (fun z h => ?_) (BarM.good_two hs ha hb hc hd)
      have mm : ∀ y : Int, y.natAbs ≤ 40 → ((s : Int) * y).natAbs ≤ 1240 := fun y hy => by
        rw [Int.natAbs_mul]
        exact Nat.le_trans (Nat.mul_le_mul (show (s : Int).natAbs ≤ 31 by omega) hy) (by decide)
      simp only [List.mem_cons, List.mem_nil_iff, or_false] at h
      rcases h with rfl | rfl | rfl | rfl
      · have := mm _ ha
        omega
      · have := mm _ hb
        omega
      · have := mm _ hc
        omega
      · have := mm _ hd
        omega
    · exact ⟨_, rfl, q t a b c d H1 v1 ht (fun z h => Nat.le_trans (hz z h) (by decide)) (BarM.good_forty ha hb hc hd)⟩
end
end K72
namespace K72
open PySem PySem.Spec PyProof.Rows L2 Fr
open K05M (fv fl2 fl3 fdisc)
open BarM (V MOD barB ix Good)
set_option pp.maxSteps 3000
section
theorem found_nil {a b c d : Int} (h : ∀ x y : Int, mk1 a b c d x y = false) (m : Nat) : opp (found0 a b c d m) = [] := by
  have e : found0 a b c d m = [] := by
    unfold found0
    have h1 : ¬ (a = 1 ∨ a = -1) := by
      intro g
      have := h 1 0
      unfold mk1 at this
      rw [show K72.fv a b c d 1 0 = a by unfold K72.fv; grind, decide_eq_true g] at this
      cases this
    rw [if_neg h1, List.nil_append, List.flatMap_eq_nil_iff]
    intro i _
    unfold rowM
    rw [List.map_eq_nil_iff, List.filter_eq_nil_iff]
    intro j _
    rw [h]
    decide
  rw [e]
  rfl
theorem no_mk {a b c d m : Int} (h : ¬ BarM.V a b c d m) (x y : Int) : mk1 a b c d x y = false := by
  refine decide_eq_false fun g => h ?_
  have g' : K05M.fv a b c d x y = 1 ∨ K05M.fv a b c d x y = -1 := g
  rcases g' with g | g
  · exact ⟨x, y, 0, by omega⟩
  · exact BarM.V_neg (x := x) (y := y) ⟨0, by omega⟩
def MostOf (v : L2.V) (M : Nat) : Prop := (v = .non ∧ M = 14) ∨ ∃ m : Nat, v = .int (m : Int) ∧ M = if m < 14 then m else 14
def expd (v : L2.V) (M : Nat) : L2.V := match v with
  | .int m => if m ≤ (M : Int) then .int m else .non
  | _ => .non
theorem due_eq {a b c d : Int} {v w : L2.V} {M : Nat} (h : Told a b c d v) (hM : MostOf v M) (hd : Due a b c d M w) : w = expd v M := by
  rcases h with ⟨rfl, hall⟩ | ⟨m, hm, rfl, hn, hlt⟩
  · have hM : M = 14 := by
      rcases hM with ⟨_, h⟩ | ⟨m, h, _⟩
      · exact h
      · cases h
    subst hM
    rcases hd with ⟨rfl, _⟩ | ⟨r, h2, h14, rfl, hr, _⟩
    · rfl
    · exact absurd (BarM.V_small h2 h14 fun q hq _ => hall q hq) hr
  · obtain ⟨p1, p2, p3, p4⟩ := BarM.pr_dvd m hm
    have hM : M = if m < 14 then m else 14 := by
      rcases hM with ⟨h, _⟩ | ⟨m', h, e⟩
      · cases h
      · have : m = m' := by
          injection h with h
          omega
        rw [this]; exact e
    have below : ∀ r : Nat, 2 ≤ r → r ≤ 14 → r < m → BarM.V a b c d r := fun r h1 h2 h3 => BarM.V_small h1 h2 fun q hq hle => hlt q hq (by omega)
    have m14 : m ≠ 14 := by
      intro e
      rw [e] at hm
      exact absurd hm (by decide)
    by_cases g : m < 14
    · rw [if_pos g] at hM
      subst hM
      have e : expd (.int (M : Int)) M = .int (M : Int) := if_pos (Int.le_refl _)
      rw [e]
      rcases hd with ⟨rfl, hh⟩ | ⟨r, h2, h3, rfl, hr, hq⟩
      · exact absurd (hh M p2 (Nat.le_refl _)) hn
      · have : r = M := by
          rcases Nat.lt_or_ge r M with k | k
          · exact absurd (below r h2 (by omega) k) hr
          · omega
        rw [this]
    · rw [if_neg g] at hM
      subst hM
      have e : expd (.int (m : Int)) 14 = .non := if_neg (by omega)
      rw [e]
      rcases hd with ⟨rfl, hh⟩ | ⟨r, h2, h3, rfl, hr, hq⟩
      · rfl
      · exact absurd (below r h2 h3 (by omega)) hr
theorem told_uniq {a b c d a' b' c' d' : Int} {v w : L2.V} (h : Told a b c d v) (g : Told a' b' c' d' w) (e : ∀ m : Nat, BarM.V a b c d m ↔ BarM.V a' b' c' d' m) : w = v := by
  rcases h with ⟨rfl, hall⟩ | ⟨m, hm, rfl, hn, hlt⟩
  · rcases g with ⟨rfl, _⟩ | ⟨r, hr, rfl, hrn, _⟩
    · rfl
    · exact absurd ((e r).mp (hall r hr)) hrn
  · rcases g with ⟨rfl, hall⟩ | ⟨r, hr, rfl, hrn, hrl⟩
    · exact absurd ((e m).mpr (hall m hm)) hn
    · rcases Nat.lt_trichotomy m r with k | k | k
      · exact absurd ((e m).mpr (hrl m hm k)) hn
      · rw [k]
      · exact absurd ((e r).mp (hlt r hr k)) hrn
def gs (ns : List Nat) : Nat := ns.foldl Nat.gcd 0
theorem gs_take {ns : List Nat} {i n : Nat} (h : ns[i]? = some n) : gs (ns.take (i + 1)) = Nat.gcd (gs (ns.take i)) n := by
  unfold gs
  rw [List.take_add_one, h, List.foldl_append]
  rfl
theorem dvd_gs {k : Nat} (ns : List Nat) : k ∣ gs ns ↔ ∀ n ∈ ns, k ∣ n := by
  have gen : ∀ (ns : List Nat) (g : Nat), k ∣ ns.foldl Nat.gcd g ↔ k ∣ g ∧ ∀ n ∈ ns, k ∣ n := by
    intro ns
    induction ns with
    | nil => exact fun g => ⟨fun h => ⟨h, fun _ z => by cases z⟩, fun h => h.1⟩
    | cons n ns ih =>
      intro g
      rw [List.foldl_cons, ih, Nat.dvd_gcd_iff]
      constructor
      · rintro ⟨⟨h1, h2⟩, h3⟩
        exact ⟨h1, fun z hz => by
          rcases List.mem_cons.mp hz with rfl | hz
          · exact h2
          · exact h3 z hz⟩
      · rintro ⟨h1, h2⟩
        exact ⟨⟨h1, h2 n (List.mem_cons_self ..)⟩, fun z hz => h2 z (List.mem_cons_of_mem _ hz)⟩
  have := gen ns 0
  rw [show gs ns = ns.foldl Nat.gcd 0 from rfl, this]
  exact ⟨fun h => h.2, fun h => ⟨Nat.dvd_zero k, h⟩⟩
theorem gs_pts (a b c d : Int) : gs (BarM.pts.map fun z => (K05M.fv a b c d z.1 z.2).natAbs) = ix a b c d := by
  apply Nat.dvd_antisymm
  · refine BarM.ix_pts fun z hz => ?_
    rw [Int.ofNat_dvd_left]
    exact (dvd_gs _).mp (Nat.dvd_refl _) _ (List.mem_map_of_mem hz)
  · refine (dvd_gs _).mpr fun n hn => ?_
    obtain ⟨z, hz, rfl⟩ := List.mem_map.mp hn
    rw [← Int.ofNat_dvd_left]
    exact BarM.ix_all (Nat.dvd_refl _) z.1 z.2
theorem gs_sh (a b c d : Int) : gs ([a, b, c, d].map Int.natAbs) = BarM.sh a b c d := by
  unfold gs BarM.sh
  rw [show ([a, b, c, d].map Int.natAbs).foldl Nat.gcd 0 = Nat.gcd (Nat.gcd (Nat.gcd (Nat.gcd 0 a.natAbs) b.natAbs) c.natAbs) d.natAbs from rfl, Nat.gcd_zero_left]
theorem led_val {a b c d p q r s : Int} (h : p * s - q * r = 1 ∨ p * s - q * r = -1) (x y : Int) : K05M.fv ((p * s - q * r) * K05M.fv a b c d p q) ((p * s - q * r) * K05M.fl2 a b c d p q r s) ((p * s - q * r) * K05M.fl3 a b c d p q r s) ((p * s - q * r) * K05M.fv a b c d r s) x y = (p * s - q * r) * K05M.fv a b c d (x * p + y * r) (x * q + y * s) := (K05M.fv_mul _ _ _ _ _ _ _).trans (congrArg ((p * s - q * r) * ·) (K05M.put1 a b c d p q r s x y))
theorem led_there {a b c d p q r s : Int} (h : p * s - q * r = 1 ∨ p * s - q * r = -1) (x y : Int) : ∃ X Y : Int, K05M.fv ((p * s - q * r) * K05M.fv a b c d p q) ((p * s - q * r) * K05M.fl2 a b c d p q r s) ((p * s - q * r) * K05M.fl3 a b c d p q r s) ((p * s - q * r) * K05M.fv a b c d r s) X Y = K05M.fv a b c d x y ∨ K05M.fv ((p * s - q * r) * K05M.fv a b c d p q) ((p * s - q * r) * K05M.fl2 a b c d p q r s) ((p * s - q * r) * K05M.fl3 a b c d p q r s) ((p * s - q * r) * K05M.fv a b c d r s) X Y = -K05M.fv a b c d x y := by
  refine ⟨(p * s - q * r) * (s * x - r * y), (p * s - q * r) * (p * y - q * x), ?_⟩
  rw [led_val h]
  generalize hD : p * s - q * r = D at *
  have e1 : D * (s * x - r * y) * p + D * (p * y - q * x) * r = D * (D * x) := by rw [← hD]; grind
  have e2 : D * (s * x - r * y) * q + D * (p * y - q * x) * s = D * (D * y) := by rw [← hD]; grind
  rw [e1, e2]
  rcases h with rfl | rfl
  · left
    rw [Int.one_mul, Int.one_mul, Int.one_mul, Int.one_mul, Int.one_mul]
  · right
    rw [show (-1 : Int) * (-1 * x) = x by omega, show (-1 : Int) * (-1 * y) = y by omega]
    omega
theorem led_back {a b c d p q r s : Int} (h : p * s - q * r = 1 ∨ p * s - q * r = -1) (x y : Int) : ∃ X Y : Int, K05M.fv a b c d X Y = K05M.fv ((p * s - q * r) * K05M.fv a b c d p q) ((p * s - q * r) * K05M.fl2 a b c d p q r s) ((p * s - q * r) * K05M.fl3 a b c d p q r s) ((p * s - q * r) * K05M.fv a b c d r s) x y ∨ K05M.fv a b c d X Y = -K05M.fv ((p * s - q * r) * K05M.fv a b c d p q) ((p * s - q * r) * K05M.fl2 a b c d p q r s) ((p * s - q * r) * K05M.fl3 a b c d p q r s) ((p * s - q * r) * K05M.fv a b c d r s) x y := by
  refine ⟨x * p + y * r, x * q + y * s, ?_⟩
  rw [led_val h]
  rcases h with e | e
  · left; rw [e, Int.one_mul]
  · right; rw [e]; omega
theorem led_small {a b c d p q r s : Int} (ha : a.natAbs ≤ 2000) (hb : b.natAbs ≤ 2000) (hc : c.natAbs ≤ 2000) (hd : d.natAbs ≤ 2000) (h : Gc p q r s 81) : ∀ z ∈ K72.fled a b c d p q r s, B 400 z := by
  have b4 : ∀ {z : Int}, z.natAbs ≤ 2000 → B 11 z := fun h => ⟨Nat.lt_of_le_of_lt h (by decide), by decide⟩
  have b5 : ∀ {z : Int}, z.natAbs ≤ 81 → B 7 z := fun h => ⟨Nat.lt_of_le_of_lt h (by decide), by decide⟩
  have b2 : B 2 2 := ⟨by decide, by decide⟩
  have b3 : B 2 3 := ⟨by decide, by decide⟩
  obtain ⟨hp, hq, hr, hs, _⟩ := h
  have ba := b4 ha
  have bb := b4 hb
  have bc := b4 hc
  have bd := b4 hd
  have bp := b5 hp
  have bq := b5 hq
  have br := b5 hr
  have bs := b5 hs
  have fb : ∀ {x y : Int}, B 7 x → B 7 y → B 200 (K72.fv a b c d x y) := fun bx by' => (B.add (B.add (B.add (B.mul (B.mul (B.mul ba bx) bx) bx) (B.mul (B.mul (B.mul bb bx) bx) by')) (B.mul (B.mul (B.mul bc bx) by') by')) (B.mul (B.mul (B.mul bd by') by') by')).mono (by decide)
  have be : B 28 (p * s - q * r) := B.sub (B.mul bp bs) (B.mul bq br)
  have m1 : B 30 (p * s + 2 * q * r) := B.add (B.mul bp bs) (B.mul (B.mul b2 bq) br)
  have m2 : B 30 (2 * p * s + q * r) := B.add (B.mul (B.mul b2 bp) bs) (B.mul bq br)
  have f2 : B 300 (K72.fl2 a b c d p q r s) := by
    unfold K72.fl2
    exact (B.add (B.add (B.add (B.mul (B.mul (B.mul (B.mul b3 ba) bp) bp) br) (B.mul (B.mul bb bp) m1)) (B.mul (B.mul bc bq) m2)) (B.mul (B.mul (B.mul (B.mul b3 bd) bq) bq) bs)).mono (by decide)
  have f3 : B 300 (K72.fl3 a b c d p q r s) := by
    unfold K72.fl3
    exact (B.add (B.add (B.add (B.mul (B.mul (B.mul (B.mul b3 ba) bp) br) br) (B.mul (B.mul bb br) m2)) (B.mul (B.mul bc bs) m1)) (B.mul (B.mul (B.mul (B.mul b3 bd) bq) bs) bs)).mono (by decide)
  intro z hz
  unfold K72.fled at hz
  simp only [List.mem_cons, List.mem_nil_iff, or_false] at hz
  rcases hz with rfl | rfl | rfl | rfl
  · exact (B.mul be (fb bp bq)).mono (by decide)
  · exact (B.mul be f2).mono (by decide)
  · exact (B.mul be f3).mono (by decide)
  · exact (B.mul be (fb br bs)).mono (by decide)
def sp_l_form_right (_ : PySem.W.Frag) (C : Addr) : Sp := fun vs H Q _ => ∃ cr : Addr, vs = [.ref cr] ∧ Vat cr H ∧ ∀ H', Fv cr H H' → Q (.bl true) H'
end
section
variable {P : Program} {w : World} {K : PySem.W.Frag} {mg : Str → Option Value} {base : Heap} {C_Form : Addr}
theorem ok_l_form_right (T : Txt K mg C_Form) : Def P w K mg base 11 "_law_form_right" ["_law_vat_here"] (sp_l_form_right K C_Form) := by
  obtain ⟨f_, fd_, g_, F_⟩ := T.d_l_form_right
  obtain ⟨p_Form___call__, f_Form___call__, fd_Form___call__, R_Form___call__, b_Form___call__, G_Form___call__⟩ := (ok_Form___call__ (P := P) (w := w) (base := base) T)
  obtain ⟨p_Form___init__, f_Form___init__, fd_Form___init__, R_Form___init__, b_Form___init__, G_Form___init__⟩ := (ok_Form___init__ (P := P) (w := w) (base := base) T)
  obtain ⟨p_Form_led, f_Form_led, fd_Form_led, R_Form_led, b_Form_led, G_Form_led⟩ := (ok_Form_led (P := P) (w := w) (base := base) T)
  obtain ⟨f_l_change, fd_l_change, g_l_change, k_l_change, b_l_change, G_l_change⟩ := (ok_l_change (P := P) (w := w) (base := base) T)
  obtain ⟨f_l_drawn_form, fd_l_drawn_form, g_l_drawn_form, k_l_drawn_form, b_l_drawn_form, G_l_drawn_form⟩ := (ok_l_drawn_form (P := P) (w := w) (base := base) T)
  obtain ⟨f_l_due_bar, fd_l_due_bar, g_l_due_bar, k_l_due_bar, b_l_due_bar, G_l_due_bar⟩ := (ok_l_due_bar (P := P) (w := w) (base := base) T)
  obtain ⟨f_l_rests, fd_l_rests, g_l_rests, k_l_rests, b_l_rests, G_l_rests⟩ := (ok_l_rests (P := P) (w := w) (base := base) T)
  obtain ⟨f_l_share, fd_l_share, g_l_share, k_l_share, b_l_share, G_l_share⟩ := (ok_l_share (P := P) (w := w) (base := base) T)
  obtain ⟨f_l_value, fd_l_value, g_l_value, k_l_value, b_l_value, G_l_value⟩ := (ok_l_value (P := P) (w := w) (base := base) T)
  obtain ⟨f_common_index, fd_common_index, g_common_index, k_common_index, b_common_index, G_common_index⟩ := (ok_common_index (P := P) (w := w) (base := base) T)
  obtain ⟨f_maker_bar, fd_maker_bar, g_maker_bar, k_maker_bar, b_maker_bar, G_maker_bar⟩ := (ok_maker_bar (P := P) (w := w) (base := base) T)
  obtain ⟨f_makers, fd_makers, g_makers, k_makers, b_makers, G_makers⟩ := (ok_makers (P := P) (w := w) (base := base) T)
  refine ⟨f_, fd_, g_, F_.kp, F_.binds (ps := ["_law_vat_here"]) (fun _ _ _ _ _ _ us hl => match us, hl with | [_], _ => rfl), ?_⟩
  refine F_.ok sc_l_form_right (fun vs H Q E h => ?_) (fun cdv A outer s H vs Q E hr h => ?_)
  · first | (obtain ⟨rfl, _⟩ := h; rfl) | (obtain ⟨_, rfl, _⟩ := h; rfl) | (obtain ⟨_, _, rfl, _⟩ := h; rfl) | (obtain ⟨_, _, _, rfl, _⟩ := h; rfl) | (obtain ⟨_, _, _, _, rfl, _⟩ := h; rfl) | (obtain ⟨_, _, _, _, _, rfl, _⟩ := h; rfl) | (obtain ⟨_, _, _, _, _, _, rfl, _⟩ := h; rfl) | (obtain ⟨_, _, _, _, _, _, _, rfl, _⟩ := h; rfl) | (obtain ⟨_, _, _, _, _, _, _, _, rfl, _⟩ := h; rfl) | (obtain ⟨_, _, _, _, _, _, _, _, _, rfl, _⟩ := h; rfl) | (obtain ⟨_, _, _, _, _, _, _, _, _, _, rfl, _⟩ := h; rfl) | (obtain ⟨_, _, _, _, _, _, _, _, _, _, _, rfl, _⟩ := h; rfl) | (obtain ⟨_, _, _, _, _, _, _, _, _, _, _, _, rfl, _⟩ := h; rfl) | (obtain ⟨_, _, _, _, _, _, _, _, _, _, _, _, _, rfl, _⟩ := h; rfl) | (obtain ⟨_, _, _, _, _, _, _, _, _, _, _, _, _, _, rfl, _⟩ := h; rfl) | (obtain ⟨_, _, _, _, _, _, _, _, _, _, _, _, _, _, _, rfl, _⟩ := h; rfl) | (obtain ⟨_, _, _, _, _, _, _, _, _, _, _, _, _, _, _, _, rfl, _⟩ := h; rfl) | (obtain ⟨_, _, _, _, _, _, _, _, _, _, _, _, _, _, _, _, _, rfl, _⟩ := h; rfl) | (obtain ⟨_, _, _, _, _, _, _, _, _, _, _, _, _, _, _, _, _, _, rfl, _⟩ := h; rfl) | (obtain ⟨_, _, _, _, _, _, _, _, _, _, _, _, _, _, _, _, _, _, _, rfl, _⟩ := h; rfl) | (obtain ⟨_, _, _, _, _, _, _, _, _, _, _, _, _, _, _, _, _, _, _, _, rfl, _⟩ := h; rfl) | (obtain ⟨_, _, _, _, _, _, _, _, _, _, _, _, _, _, _, _, _, _, _, _, _, rfl, _⟩ := h; rfl) | (obtain ⟨_, _, _, _, _, _, _, _, _, _, _, _, _, _, _, _, _, _, _, _, _, _, rfl, _⟩ := h; rfl) | (obtain ⟨_, _, _, _, _, _, _, _, _, _, _, _, _, _, _, _, _, _, _, _, _, _, _, rfl, _⟩ := h; rfl)
  · obtain ⟨cr, rfl, hv, q⟩ := h
    refine ⟨_, (Evl.pss_cut (ps_set (i := 1) sc_l_form_right.nd rfl (.inl rfl) (pe_call G_l_drawn_form (hr.mono (by decide)) (by rfl) g_l_drawn_form k_l_drawn_form b_l_drawn_form .nil pass0 (pa_cons (pv 0) pa_nil)))
    (Evl.pss_cut (ps_asg (pe_tup (pa_cons (pe_make R_Form___init__ G_Form___init__ (hr.mono (by decide)) (by rfl) T.g_Form b_Form___init__ .nil pass0 (pa_cons (pv 1) pa_nil)) (pa_cons (pe_call G_maker_bar (hr.mono (by decide)) (by rfl) g_maker_bar k_maker_bar b_maker_bar .nil pass0 (pa_cons (pe_make R_Form___init__ G_Form___init__ (hr.mono (by decide)) (by rfl) T.g_Form b_Form___init__ .nil pass0 (pa_cons (pv 1) pa_nil)) pa_nil)) pa_nil))) (pg_tup (by rfl) (pgs_cons (pg_name (i := 2) sc_l_form_right.nd rfl (.inr rfl)) (pgs_cons (pg_name (i := 3) sc_l_form_right.nd rfl (.inl rfl)) pgs_nil))))
    (Evl.pss_cut (ps_set (i := 4) sc_l_form_right.nd rfl (.inl rfl) (pe_ifExp (PW.pt (pw_and (pt_cmpR op_notN (pv 3) pe_non (nomark _)) (pw_and1 (pt_cmpR op_lt (pv 3) pe_int (nomark _))))) (pv 3) pe_int))
    (pss_cons (ps_set (i := 5) sc_l_form_right.nd rfl (.inl rfl) (pe_call G_l_due_bar (hr.mono (by decide)) (by rfl) g_l_due_bar k_l_due_bar b_l_due_bar .nil pass0 (pa_cons (pv 1) (pa_cons (pv 4) pa_nil))))
    (Evl.pss_cut (ps_if (pt_cmpR op_ne (pv 5) (pe_ifExp (PW.pt (pw_and (pt_cmpR op_notN (pv 3) pe_non (nomark _)) (pw_and1 (pt_cmpR op_le (pv 3) (pv 4) (nomark _))))) (pv 3) pe_non) (nomark _))
      (pss_one (ps_ret pe_bl))
      pss_nil)
    (Evl.pss_cut (ps_if (pt_cmpR op_notN (pv 3) pe_non (nomark _))
      (pss_cons (ps_set (i := 6) sc_l_form_right.nd rfl (.inl rfl) (pe_call G_l_rests (hr.mono (by decide)) (by rfl) g_l_rests k_l_rests b_l_rests .nil pass0 (pa_cons (pv 1) (pa_cons (pv 3) pa_nil))))
    (pss_one (ps_if (PW.pt (pw_or (pt_cmpR op_in_seq pe_int (pv 6) (by with_unfolding_all rfl)) (pw_or (pt_cmpR op_in_seq (pe_op op_sub (pv 3) pe_int) (pv 6) (by with_unfolding_all rfl)) (pw_or1 (pt_cmpR (op_neD hr.units) (pe_call G_makers (hr.mono (by decide)) (by rfl) g_makers k_makers b_makers .nil pass0 (pa_cons (pv 2) (pa_cons pe_int pa_nil))) (pe_tup pa_nil) (nomark _))))))
      (pss_one (ps_ret pe_bl))
      pss_nil)))
      pss_nil)
    (Evl.pss_cut (ps_asg (pe_tup (pa_cons (pe_call G_common_index (hr.mono (by decide)) (by rfl) g_common_index k_common_index b_common_index .nil pass0 (pa_cons (pv 2) pa_nil)) (pa_cons (pe_lst (pa_cons (pe_tup (pa_cons pe_int (pa_cons pe_int pa_nil))) (pa_cons (pe_tup (pa_cons pe_int (pa_cons pe_int pa_nil))) (pa_cons (pe_tup (pa_cons pe_int (pa_cons pe_int pa_nil))) (pa_cons (pe_tup (pa_cons pe_int (pa_cons (pe_un un_neg pe_int) pa_nil))) (pa_cons (pe_tup (pa_cons pe_int (pa_cons pe_int pa_nil))) (pa_cons (pe_tup (pa_cons pe_int (pa_cons pe_int pa_nil))) (pa_cons (pe_tup (pa_cons pe_int (pa_cons pe_int pa_nil))) (pa_cons (pe_tup (pa_cons pe_int (pa_cons pe_int pa_nil))) (pa_cons (pe_tup (pa_cons pe_int (pa_cons pe_int pa_nil))) (pa_cons (pe_tup (pa_cons pe_int (pa_cons pe_int pa_nil))) (pa_cons (pe_tup (pa_cons pe_int (pa_cons pe_int pa_nil))) pa_nil)))))))))))) pa_nil))) (pg_tup (by rfl) (pgs_cons (pg_name (i := 7) sc_l_form_right.nd rfl (.inr rfl)) (pgs_cons (pg_name (i := 8) sc_l_form_right.nd rfl (.inl rfl)) pgs_nil))))
    (Evl.pss_cut (ps_asg (pe_tup (pa_cons pe_int (pa_cons pe_int pa_nil))) (pg_tup (by rfl) (pgs_cons (pg_name (i := 9) sc_l_form_right.nd rfl (.inl rfl)) (pgs_cons (pg_name (i := 10) sc_l_form_right.nd rfl (.inl rfl)) pgs_nil))))
    (Evl.pss_cut (ps_for PassesOwn.never rfl (pi_list (pv 8)) (pg_tup (by rfl) (pgs_cons (pg_name (i := 11) sc_l_form_right.nd rfl (.inl rfl)) (pgs_cons (pg_name (i := 12) sc_l_form_right.nd rfl (.inl rfl)) pgs_nil)))
      (pss_one (ps_set (i := 9) sc_l_form_right.nd rfl (.inl rfl) (pe_call G_l_share (hr.mono (by decide)) (by rfl) g_l_share k_l_share b_l_share .nil pass0 (pa_cons (pv 9) (pa_cons (pe_call G_l_value (hr.mono (by decide)) (by rfl) g_l_value k_l_value b_l_value .nil pass0 (pa_cons (pv 1) (pa_cons (pv 11) (pa_cons (pv 12) pa_nil)))) pa_nil))))))
    (Evl.pss_cut (ps_for PassesOwn.never rfl (pi_tup (pv 1)) (pg_name (i := 13) sc_l_form_right.nd rfl (.inl rfl))
      (pss_one (ps_set (i := 10) sc_l_form_right.nd rfl (.inl rfl) (pe_call G_l_share (hr.mono (by decide)) (by rfl) g_l_share k_l_share b_l_share .nil pass0 (pa_cons (pv 10) (pa_cons (pv 13) pa_nil))))))
    (Evl.pss_cut (ps_if (PW.pt (pw_or (pt_cmpR op_ne (pv 7) (pv 9) (nomark _)) (pw_or (pt_cmpR op_notIn_seq (pv 7) (pe_tup (pa_cons (pv 10) (pa_cons (pe_op op_mulW pe_int (pv 10)) pa_nil))) (by with_unfolding_all rfl)) (pw_or1 (pt_cmpR (op_neD hr.units) (pe_lc (own := [("_law_x", 11)]) (g := (gName 11)) rfl sc_l_form_right.nd (pi_range1 (by rfl) T.b_range (pa_cons pe_int pa_nil)) (blkOk_by (N := N_l_form_right) (sc := defScope s_l_form_right) (by decide +kernel)) (fun _ _ _ _ _ => (pg_name (i := 11) sc_l_form_right.nd rfl (.inl rfl))) (fun _ _ _ _ _ => (pts_one (PW.pt (pw_and (pt_cmpR op_gt (pv 7) pe_int (nomark _)) (pw_and1 (pt_cmpR op_ne (pe_op op_mod (pe_callOK (K := K) rfl (pv 2) R_Form___call__ (G_Form___call__.raw b_Form___call__ .nil) (hr.mono (by decide)) pass0 (pa_cons (pv 11) (pa_cons pe_int pa_nil)) (by rfl) (by rfl) (by rfl)) (pv 7)) pe_int (nomark _))))))) (fun _ _ _ _ _ => pe_int)) (pe_lst pa_nil) (nomark _))))))
      (pss_one (ps_ret pe_bl))
      pss_nil)
    (Evl.pss_cut (ps_if (PW.pt (pw_and (pt_cmpR op_ne (pv 7) pe_int (nomark _)) (pw_and1 (PW.pt (pw_or (pt_cmpR op_isN (pv 3) pe_non (nomark _)) (pw_or1 (pt_cmpR op_gt (pv 3) (pe_callB (call_max2 rfl) (by rfl) T.b_max (by decide +kernel) (pa_cons pe_int (pa_cons (pv 7) pa_nil))) (nomark _))))))))
      (pss_one (ps_ret pe_bl))
      pss_nil)
    (Evl.pss_cut (ps_set (i := 14) sc_l_form_right.nd rfl (.inl rfl) (pe_meth (pv 2) T.cl_Form R_Form_led G_Form_led (hr.mono (by decide)) b_Form_led .nil pass0 (pa_cons (pe_call G_l_change (hr.mono (by decide)) (by rfl) g_l_change k_l_change b_l_change .nil pass0 (pa_cons (pv 0) (pa_cons pe_int pa_nil))) pa_nil)))
    (pss_one (ps_ret (pe_and (pe_cmpR op_eq (pe_call G_common_index (hr.mono (by decide)) (by rfl) g_common_index k_common_index b_common_index .nil pass0 (pa_cons (pv 14) pa_nil)) (pv 7) (nomark _)) (pe_one (pe_cmpR op_eq (pe_call G_maker_bar (hr.mono (by decide)) (by rfl) g_maker_bar k_maker_bar b_maker_bar .nil pass0 (pa_cons (pv 14) pa_nil)) (pv 3) (nomark _))))))))))))))))))), ?_⟩
    refine ⟨fun σ H' => ∃ (t : Addr) (a b c d : Int), σ = [some (.ref cr), some (.ref t), none, none, none, none, none, none, none, none, none, none, none, none, none] ∧ Fv cr H H' ∧ Ti H' t [a, b, c, d] ∧ (∀ z ∈ [a, b, c, d], z.natAbs ≤ 2000) ∧ Good a b c d, ?_, ?_⟩
    · exact ⟨_, rfl, cr, rfl, hv, fun t a b c d H1 e1 ht hz hG => ⟨t, a, b, c, d, rfl, e1, ht, hz, hG⟩⟩
    rintro σ H1 ⟨t, a, b, c, d, rfl, v1, ht, hz, hG⟩
    have sn : ∀ n ∈ [a, b, c, d], Short n := fun n h => by have := hz n h; exact ⟨by omega, by omega⟩
    have b11 : ∀ z ∈ [a, b, c, d], B 11 z := fun z h => ⟨Nat.lt_of_le_of_lt (hz z h) (by decide), by decide⟩
    have b4 : ∀ k, 11 ≤ k → B4 k a b c d := fun k h => ⟨(b11 a (by simp)).mono h, (b11 b (by simp)).mono h, (b11 c (by simp)).mono h, (b11 d (by simp)).mono h⟩
    refine ⟨fun σ H' => ∃ (f : Addr) (v : V), σ = [some (.ref cr), some (.ref t), some (.ref f), some v, none, none, none, none, none, none, none, none, none, none, none] ∧ Ex0 H1 H' ∧ FormAt C_Form H' f [a, b, c, d] ∧ Told a b c d v, ?_, ?_⟩
    · refine ⟨_, rfl, fun x dx nx ndx _ => ?_⟩
      refine ⟨x, dx, t, [a, b, c, d], rfl, upd_same, made_at nx ndx ht, rfl, sn, fun H2 e2 h2 => ⟨rfl, ?_⟩⟩
      obtain ⟨e3, hx⟩ := fo_made nx ndx ht e2 h2
      have ht2 := Ex0.ti e3 ht
      refine ⟨_, rfl, fun y dy ny ndy _ => ?_⟩
      refine ⟨y, dy, t, [a, b, c, d], rfl, upd_same, made_at ny ndy ht2, rfl, sn, fun H3 e4 h4 => ⟨rfl, ?_⟩⟩
      obtain ⟨e5, hy⟩ := fo_made ny ndy ht2 e4 h4
      refine ⟨y, a, b, c, d, rfl, hy, fun v H4 e6 hT => ⟨sl2, fun o no => ?_⟩⟩
      refine ⟨o, _, rfl, SqT.of upd_same, rfl, _, _, rfl, _, _, rfl, rfl, ?_⟩
      have eo := Ex0.new (o := .tup [.ref x, v]) no
      exact ⟨x, v, rfl, e3.trans (e5.trans (e6.trans eo)), Ex0.fo (e5.trans (e6.trans eo)) hx, hT⟩
    rintro σ H2 ⟨f, v, rfl, e2, hf, hT⟩
    have v2 := v1.trans (fv_ex v1.1 e2)
    have ht2 := Ex0.ti e2 ht
    refine ⟨fun σ H' => ∃ (M : Nat), σ = [some (.ref cr), some (.ref t), some (.ref f), some v, some (.int (M : Int)), none, none, none, none, none, none, none, none, none, none] ∧ H' = H2 ∧ MostOf v M ∧ 1 ≤ M ∧ M ≤ 14, ?_, ?_⟩
    · rcases hT with ⟨rfl, hall⟩ | ⟨m, hm, rfl, hn, hlt⟩
      · refine ⟨_, rfl, rfl, _, rfl, ?_⟩
        refine iteF ?_
        exact ⟨14, rfl, rfl, .inl ⟨rfl, rfl⟩, by decide, by decide⟩
      · obtain ⟨p1, p2, p3, p4⟩ := BarM.pr_dvd m hm
        refine ⟨_, rfl, rfl, _, rfl, ?_⟩
        refine iteT ?_
        refine ⟨_, rfl, _, _, rfl, rfl, _, rfl, iteD (fun g => ?_) (fun g => ?_)⟩
        · exact ⟨_, rfl, m, rfl, rfl, .inr ⟨m, rfl, by rw [if_pos (by omega)]⟩, by omega, by omega⟩
        · exact ⟨14, rfl, rfl, .inr ⟨m, rfl, by rw [if_neg (by omega)]⟩, by decide, by decide⟩
    rintro σ H2' ⟨M, rfl, rfl, hM, M1, M14⟩
    refine ⟨_, rfl, _, rfl, t, a, b, c, d, M, rfl, ht2, b4 400 (by decide), M1, by omega, fun w H3 e3 hD => ?_⟩
    have hw := due_eq hT hM hD
    subst hw
    refine ⟨fun σ H' => σ = [some (.ref cr), some (.ref t), some (.ref f), some v, some (.int (M : Int)), some (expd v M), none, none, none, none, none, none, none, none, none] ∧ H' = H3, ?_, ?_⟩
    · rcases hT with ⟨rfl, hall⟩ | ⟨m, hm, rfl, hn, hlt⟩
      · refine ⟨_, rfl, _, rfl, rfl, _, rfl, ?_⟩
        refine iteF ?_
        exact ⟨rfl, _, rfl, iteF ⟨rfl, rfl⟩⟩
      · refine ⟨_, rfl, _, rfl, rfl, _, rfl, ?_⟩
        refine iteT ?_
        refine ⟨_, rfl, _, rfl, _, _, rfl, rfl, _, rfl, iteD (fun g => ?_) (fun g => ?_)⟩
        · have e : expd (.int (m : Int)) M = .int (m : Int) := if_pos g
          rw [e]
          exact ⟨_, rfl, rfl, _, rfl, iteEn (fun z => absurd rfl z) (fun _ => ⟨rfl, rfl⟩)⟩
        · have e : expd (.int (m : Int)) M = .non := if_neg g
          rw [e]
          exact ⟨rfl, _, rfl, iteF ⟨rfl, rfl⟩⟩
    rintro σ H3' ⟨rfl, rfl⟩
    have ht3 := Ex0.ti e3 ht2
    have hf3 := Ex0.fo e3 hf
    refine ⟨fun σ H' => ∃ y6 : Option V, σ = [some (.ref cr), some (.ref t), some (.ref f), some v, some (.int (M : Int)), some (expd v M), y6, none, none, none, none, none, none, none, none] ∧ Ex0 H3' H', ?_, ?_⟩
    · rcases hT with ⟨rfl, hall⟩ | ⟨m, hm, rfl, hn, hlt⟩
      · refine ⟨_, rfl, rfl, _, rfl, ?_⟩
        refine iteF ?_
        exact ⟨none, rfl, Ex0.refl _⟩
      · obtain ⟨p1, p2, p3, p4⟩ := BarM.pr_dvd m hm
        refine ⟨_, rfl, rfl, _, rfl, ?_⟩
        refine iteT ?_
        refine ⟨_, rfl, _, rfl, t, a, b, c, d, m, rfl, ht3, b4 400 (by decide), p2, by omega, fun l H4 ks e4 hl hks => ?_⟩
        have n1 : ¬ (1 : Int) ∈ ks := fun z => hn (hks.mp (.inl z))
        have n2 : ¬ (m : Int) - 1 ∈ ks := fun z => hn (hks.mp (.inr z))
        refine ⟨_, rfl, l, _, rfl, .inl (SqL.of hl), rfl, all_flat ks, _, rfl, ?_⟩
        rw [show (if false = true then !inV (V.int 1) (ks.map V.int) else inV (V.int 1) (ks.map V.int)) = decide ((1 : Int) ∈ ks) by rw [if_neg Bool.false_ne_true, inV_ints], decide_eq_false n1]
        refine iteF ?_
        refine ⟨_, rfl, _, _, rfl, rfl, _, rfl, l, _, rfl, .inl (SqL.of hl), rfl, all_flat ks, _, rfl, ?_⟩
        rw [show (if false = true then !inV (V.int ((m : Int) - 1)) (ks.map V.int) else inV (V.int ((m : Int) - 1)) (ks.map V.int)) = decide (((m : Int) - 1) ∈ ks) by rw [if_neg Bool.false_ne_true, inV_ints], decide_eq_false n2]
        refine iteF ?_
        refine ⟨_, rfl, f, a, b, c, d, 8, rfl, Ex0.fo e4 hf3, b4 1000 (by decide), by decide, by decide, fun o H5 ys qs e5 ho hq pm srt => ?_⟩
        have hqs : qs = [] := by
          rw [found_nil (no_mk hn)] at pm
          exact pm.eq_nil
        subst hqs
        have hys : ys = [] := by
          cases hq
          rfl
        subst hys
        refine ⟨Nat.zero_le _, fun u nu => ?_⟩
        have eu := Ex0.new (o := .tup []) nu
        refine ⟨.tuple (([] : List Int).map .int), .tuple (([] : List Int).map .int), .tup (SqT.of (Ex0.ap eu ho)) .nil, .tup (SqT.of upd_same) .nil, shaped_tints [], shaped_tints [], _, rfl, ?_⟩
        rw [PyData.eqv, eqv_ints, decide_eq_true rfl]
        exact iteF ⟨_, rfl, e4.trans (e5.trans eu)⟩
    rintro σ H4 ⟨y6, rfl, e4⟩
    have ht4 := Ex0.ti e4 ht3
    have hf4 := Ex0.fo e4 hf3
    refine ⟨fun σ H' => ∃ (Lp : Addr) (xs : List V), σ = [some (.ref cr), some (.ref t), some (.ref f), some v, some (.int (M : Int)), some (expd v M), y6, some (.int ((ix a b c d : Nat) : Int)), some (.ref Lp), none, none, none, none, none, none] ∧ Ex0 H4 H' ∧ H' Lp = some (.lst xs) ∧ PrT K H' xs BarM.pts, ?_, ?_⟩
    · refine ⟨_, rfl, f, a, b, c, d, rfl, hf4, b4 1000 (by decide), fun H5 e5 => ?_⟩
      refine ⟨sl2, fun p0 n0 => ?_⟩
      have g0 := Ex0.new (o := .tup [.int 1, .int 0]) n0
      refine ⟨sl2, fun p1 n1 => ?_⟩
      have g1 := Ex0.new (o := .tup [.int 0, .int 1]) n1
      refine ⟨sl2, fun p2 n2 => ?_⟩
      have g2 := Ex0.new (o := .tup [.int 1, .int 1]) n2
      refine ⟨_, rfl, sl2, fun p3 n3 => ?_⟩
      have g3 := Ex0.new (o := .tup [.int 1, .int (-1)]) n3
      refine ⟨sl2, fun p4 n4 => ?_⟩
      have g4 := Ex0.new (o := .tup [.int 2, .int 1]) n4
      refine ⟨sl2, fun p5 n5 => ?_⟩
      have g5 := Ex0.new (o := .tup [.int 1, .int 2]) n5
      refine ⟨sl2, fun p6 n6 => ?_⟩
      have g6 := Ex0.new (o := .tup [.int 3, .int 1]) n6
      refine ⟨sl2, fun p7 n7 => ?_⟩
      have g7 := Ex0.new (o := .tup [.int 1, .int 3]) n7
      refine ⟨sl2, fun p8 n8 => ?_⟩
      have g8 := Ex0.new (o := .tup [.int 3, .int 2]) n8
      refine ⟨sl2, fun p9 n9 => ?_⟩
      have g9 := Ex0.new (o := .tup [.int 2, .int 3]) n9
      refine ⟨sl2, fun p10 n10 => ?_⟩
      have g10 := Ex0.new (o := .tup [.int 5, .int 1]) n10
      refine ⟨slN (show 11 ≤ 1000000 by decide), fun Lp nL => ?_⟩
      have gL := Ex0.new (o := .lst [.ref p0, .ref p1, .ref p2, .ref p3, .ref p4, .ref p5, .ref p6, .ref p7, .ref p8, .ref p9, .ref p10]) nL
      refine ⟨sl2, fun o no => ?_⟩
      have go := Ex0.new (o := .tup [.int ((ix a b c d : Nat) : Int), .ref Lp]) no
      have k11 := gL.trans go
      have k10 := g10.trans k11
      have k9 := g9.trans k10
      have k8 := g8.trans k9
      have k7 := g7.trans k8
      have k6 := g6.trans k7
      have k5 := g5.trans k6
      have k4 := g4.trans k5
      have k3 := g3.trans k4
      have k2 := g2.trans k3
      have k1 := g1.trans k2
      have k0 := g0.trans k1
      refine ⟨o, _, rfl, SqT.of upd_same, rfl, _, _, rfl, _, _, rfl, rfl, ?_⟩
      refine ⟨Lp, _, rfl, e5.trans k0, Ex0.ap go upd_same, ?_⟩
      exact .cons (SqT.of (Ex0.ap k1 upd_same)) (.cons (SqT.of (Ex0.ap k2 upd_same)) (.cons (SqT.of (Ex0.ap k3 upd_same)) (.cons (SqT.of (Ex0.ap k4 upd_same)) (.cons (SqT.of (Ex0.ap k5 upd_same)) (.cons (SqT.of (Ex0.ap k6 upd_same)) (.cons (SqT.of (Ex0.ap k7 upd_same)) (.cons (SqT.of (Ex0.ap k8 upd_same)) (.cons (SqT.of (Ex0.ap k9 upd_same)) (.cons (SqT.of (Ex0.ap k10 upd_same)) (.cons (SqT.of (Ex0.ap k11 upd_same)) (.nil)))))))))))
    rintro σ H5 ⟨Lp, xs, rfl, e5, hL, hP⟩
    have ht5 := Ex0.ti e5 ht4
    have hf5 := Ex0.fo e5 hf4
    refine ⟨fun σ H' => σ = [some (.ref cr), some (.ref t), some (.ref f), some v, some (.int (M : Int)), some (expd v M), y6, some (.int ((ix a b c d : Nat) : Int)), some (.ref Lp), some (.int 0), some (.int 0), none, none, none, none] ∧ Ex0 H5 H', ?_, ?_⟩
    · refine ⟨sl2, fun o no => ?_⟩
      refine ⟨o, _, rfl, SqT.of upd_same, rfl, _, _, rfl, _, _, rfl, rfl, ?_⟩
      exact ⟨rfl, Ex0.new no⟩
    rintro σ H6 ⟨rfl, e6⟩
    have hL6 := Ex0.ap e6 hL
    have hP6 := hP.ex e6
    have ht6 := Ex0.ti e6 ht5
    have hf6 := Ex0.fo e6 hf5
    refine ⟨fun σ H' => ∃ (y11 y12 : Option V), σ = [some (.ref cr), some (.ref t), some (.ref f), some v, some (.int (M : Int)), some (expd v M), y6, some (.int ((ix a b c d : Nat) : Int)), some (.ref Lp), some (.int ((ix a b c d : Nat) : Int)), some (.int 0), y11, y12, none, none] ∧ Ex0 H6 H', ?_, ?_⟩
    · refine ⟨_, rfl, Lp, rfl, ⟨_, SqL.of hL6⟩, ?_⟩
      refine for_list (xs := xs) (fun i σ H' => ∃ (y11 y12 : Option V), σ = [some (.ref cr), some (.ref t), some (.ref f), some v, some (.int (M : Int)), some (expd v M), y6, some (.int ((ix a b c d : Nat) : Int)), some (.ref Lp), some (.int ((gs ((BarM.pts.map fun z => (K05M.fv a b c d z.1 z.2).natAbs).take i) : Nat) : Int)), some (.int 0), y11, y12, none, none] ∧ Ex0 H6 H') ⟨none, none, rfl, Ex0.refl _⟩ (fun i σ H' _ ⟨_, _, _, e⟩ => SqL.of (Ex0.ap e hL6)) ?_ ?_
      · rintro i u σ H7 hv7 ⟨y11, y12, rfl, e7⟩
        obtain ⟨w, x, y, rfl, hi, hw⟩ := hP6.get hv7
        have hw7 := Fx.sqT e7 (fun z => z) hw
        have hxy : B 4 x ∧ B 4 y := by
          have : (x, y) ∈ BarM.pts := List.mem_of_getElem? hi
          have hall : ∀ z ∈ BarM.pts, z.1.natAbs < 16 ∧ z.2.natAbs < 16 := by decide
          have := hall _ this
          exact ⟨⟨this.1, by decide⟩, ⟨this.2, by decide⟩⟩
        refine ⟨w, _, rfl, hw7, rfl, _, _, rfl, _, _, rfl, rfl, ?_⟩
        refine ⟨_, rfl, _, rfl, _, rfl, _, rfl, t, a, b, c, d, x, y, rfl, Ex0.ti e7 ht6, b4 400 (by decide), hxy.1.mono (by decide), hxy.2.mono (by decide), fun H8 e8 => ?_⟩
        refine ⟨_, _, rfl, ?_⟩
        have hg : (BarM.pts.map fun z => (K05M.fv a b c d z.1 z.2).natAbs)[i]? = some (K05M.fv a b c d x y).natAbs := by rw [List.getElem?_map, hi]; rfl
        refine ⟨some (.int x), some (.int y), ?_, e7.trans e8⟩
        rw [gs_take hg]
        rfl
      · rintro σ H7 ⟨y11, y12, rfl, e7⟩
        rw [show xs.length = (BarM.pts.map fun z => (K05M.fv a b c d z.1 z.2).natAbs).length by rw [hP6.len, List.length_map], List.take_length, gs_pts]
        exact ⟨y11, y12, rfl, e7⟩
    rintro σ H7 ⟨y11, y12, rfl, e7⟩
    have ht7 := Ex0.ti e7 ht6
    have hf7 := Ex0.fo e7 hf6
    refine ⟨fun σ H' => ∃ (y13 : Option V), σ = [some (.ref cr), some (.ref t), some (.ref f), some v, some (.int (M : Int)), some (expd v M), y6, some (.int ((ix a b c d : Nat) : Int)), some (.ref Lp), some (.int ((ix a b c d : Nat) : Int)), some (.int ((BarM.sh a b c d : Nat) : Int)), y11, y12, y13, none] ∧ H' = H7, ?_, ?_⟩
    · refine ⟨_, rfl, t, rfl, ⟨_, SqT.of ht7⟩, ?_⟩
      refine for_tup (xs := ([a, b, c, d] : List Int).map V.int) (fun i σ H' => ∃ (y13 : Option V), σ = [some (.ref cr), some (.ref t), some (.ref f), some v, some (.int (M : Int)), some (expd v M), y6, some (.int ((ix a b c d : Nat) : Int)), some (.ref Lp), some (.int ((ix a b c d : Nat) : Int)), some (.int ((gs ((([a, b, c, d] : List Int).map Int.natAbs).take i) : Nat) : Int)), y11, y12, y13, none] ∧ H' = H7) ⟨none, rfl, rfl⟩ (fun i σ H' _ ⟨_, _, e⟩ => by rw [e]; exact SqT.of ht7) ?_ ?_
      · rintro i u σ H8 hv8 ⟨y13, rfl, rfl⟩
        obtain ⟨n, hn, rfl⟩ := get_int hv8
        refine ⟨_, rfl, _, rfl, _, _, rfl, ?_⟩
        have hg : (([a, b, c, d] : List Int).map Int.natAbs)[i]? = some n.natAbs := by rw [List.getElem?_map, hn]; rfl
        refine ⟨some (.int n), ?_, rfl⟩
        rw [gs_take hg]
        rfl
      · rintro σ H8 ⟨y13, rfl, rfl⟩
        rw [show (([a, b, c, d] : List Int).map V.int).length = (([a, b, c, d] : List Int).map Int.natAbs).length from rfl, List.take_length, gs_sh]
        exact ⟨y13, rfl, rfl⟩
    rintro σ H7' ⟨y13, rfl, rfl⟩
    obtain ⟨df, tf, hf1, hf2⟩ := id hf7
    refine ⟨fun σ H' => σ = [some (.ref cr), some (.ref t), some (.ref f), some v, some (.int (M : Int)), some (expd v M), y6, some (.int ((ix a b c d : Nat) : Int)), some (.ref Lp), some (.int ((ix a b c d : Nat) : Int)), some (.int ((BarM.sh a b c d : Nat) : Int)), y11, y12, y13, none] ∧ Ex0 H7' H', ?_, ?_⟩
    · refine ⟨_, rfl, _, rfl, rfl, _, rfl, iteEn (fun z => absurd rfl z) (fun _ => ?_)⟩
      have bsh : B 12 ((BarM.sh a b c d : Nat) : Int) := by
        have hle : BarM.sh a b c d ≤ 2000 := by
          have := (b11 a (by simp)).1
          rcases Nat.eq_zero_or_pos (BarM.sh a b c d) with z | z
          · omega
          · by_cases h0 : a = 0 ∧ b = 0 ∧ c = 0 ∧ d = 0
            · obtain ⟨rfl, rfl, rfl, rfl⟩ := h0
              exact absurd z (by decide)
            · obtain ⟨k1, k2, k3, k4⟩ := BarM.dvd_sh.mp (Nat.dvd_refl (BarM.sh a b c d))
              rw [Int.ofNat_dvd_left] at k1 k2 k3 k4
              have le : ∀ {y : Int}, y ≠ 0 → BarM.sh a b c d ∣ y.natAbs → y.natAbs ≤ 2000 → BarM.sh a b c d ≤ 2000 := fun h1 h2 h3 => Nat.le_trans (Nat.le_of_dvd (by omega) h2) h3
              by_cases ha : a = 0
              · by_cases hb : b = 0
                · by_cases hc : c = 0
                  · exact le (fun hd => h0 ⟨ha, hb, hc, hd⟩) k4 (hz d (by simp))
                  · exact le hc k3 (hz c (by simp))
                · exact le hb k2 (hz b (by simp))
              · exact le ha k1 (hz a (by simp))
        exact ⟨by show _ < 4096; omega, by decide⟩
      refine ⟨_, rfl, _, rfl, _, rfl, _, _, rfl, rfl, mulB (show B 2 2 from ⟨by decide, by decide⟩) bsh (by decide), sl2, fun o no => ?_⟩
      have eo := Ex0.new (o := .tup [.int ((BarM.sh a b c d : Nat) : Int), .int (2 * ((BarM.sh a b c d : Nat) : Int))]) no
      refine ⟨o, _, rfl, .inr (SqT.of upd_same), rfl, rfl, _, rfl, ?_⟩
      have hin : inV (.int ((ix a b c d : Nat) : Int)) [.int ((BarM.sh a b c d : Nat) : Int), .int (2 * ((BarM.sh a b c d : Nat) : Int))] = true := by
        have := inV_ints ((ix a b c d : Nat) : Int) [((BarM.sh a b c d : Nat) : Int), 2 * ((BarM.sh a b c d : Nat) : Int)]
        rw [show ([((BarM.sh a b c d : Nat) : Int), 2 * ((BarM.sh a b c d : Nat) : Int)] : List Int).map V.int = [.int ((BarM.sh a b c d : Nat) : Int), .int (2 * ((BarM.sh a b c d : Nat) : Int))] from rfl] at this
        rw [this, decide_eq_true_iff]
        simp only [List.mem_cons, List.mem_nil_iff, or_false]
        rcases BarM.ix_sh a b c d with e | e
        · left; rw [e]
        · right; rw [e, Int.natCast_mul]; rfl
      rw [show (if true = true then !inV (V.int ((ix a b c d : Nat) : Int)) [V.int ((BarM.sh a b c d : Nat) : Int), V.int (2 * ((BarM.sh a b c d : Nat) : Int))] else inV (V.int ((ix a b c d : Nat) : Int)) [V.int ((BarM.sh a b c d : Nat) : Int), V.int (2 * ((BarM.sh a b c d : Nat) : Int))]) = false by rw [if_pos rfl, hin]; rfl]
      refine iteF ?_
      have hf8 := Ex0.ap eo hf1
      have hf9 := Ex0.fo eo hf7
      refine ⟨_, rfl, by decide, by decide, ?_⟩
      refine lcR fm0 trivial (fun i acc _ => acc = []) (fun _ _ => rfl) (fun D i acc H8 hD hi e8 hA hlen hp => ?_) (fun D H8 acc hD e8 hA hp => ?_)
      · have hi' : i < 9 := by simpa using hi
        refine ⟨rfl, ?_⟩
        refine ⟨_, rfl, _, _, rfl, rfl, _, rfl, iteD (fun g => ?_) (fun g => ?_)⟩
        · have bk := b4 1000 (by decide)
          refine ⟨_, rfl, f, rfl, _, rfl, .inr ⟨_, _, Ex0.ap e8 hf8⟩, f, a, b, c, d, 0 + (i : Int), 7, rfl, Ex0.fo e8 hf9, bk.1, bk.2.1, bk.2.2.1, bk.2.2.2, ⟨by omega, by omega⟩, ⟨by decide, by decide⟩, _, rfl, _, _, rfl, rfl, g, rfl, _, rfl, ?_⟩
          have hd : ((ix a b c d : Nat) : Int) ∣ K72.fv a b c d (0 + (i : Int)) 7 := BarM.ix_all (Nat.dvd_refl _) _ _
          refine iteEn (fun z => absurd (Int.emod_eq_zero_of_dvd hd) z) (fun _ => ?_)
          exact cs_no fm0 trivial hD e8 hA hlen (Fx.refl trivial) hp
        · exact iteF (cs_no fm0 trivial hD e8 hA hlen (Fx.refl trivial) hp)
      · have hp2 : acc = [] := hp
        subst hp2
        refine ⟨Nat.zero_le _, fun w0 nw => ?_⟩
        have ew := Ex0.new (o := .lst []) nw
        refine ⟨.list (([] : List Int).map .int), .list (([] : List Int).map .int), .lst (SqL.of (Ex0.ap ew hA)) .nil, .lst (SqL.of upd_same) .nil, shaped_ints [], shaped_ints [], _, rfl, ?_⟩
        rw [PyData.eqv, eqv_ints, decide_eq_true rfl]
        exact iteF ⟨rfl, (eo.trans e8).trans ew⟩
    rintro σ H8 ⟨rfl, e8⟩
    have hf8 := Ex0.fo e8 hf7
    refine ⟨fun σ H' => σ = [some (.ref cr), some (.ref t), some (.ref f), some v, some (.int (M : Int)), some (expd v M), y6, some (.int ((ix a b c d : Nat) : Int)), some (.ref Lp), some (.int ((ix a b c d : Nat) : Int)), some (.int ((BarM.sh a b c d : Nat) : Int)), y11, y12, y13, none] ∧ H' = H8, ?_, ?_⟩
    · refine ⟨_, rfl, rfl, _, rfl, iteEn (fun z => ?_) (fun _ => ?_)⟩
      · have z' : ix a b c d ≠ 1 := by omega
        obtain ⟨q', hq', hle, hnV⟩ := hG z'
        rcases hT with ⟨rfl, hall⟩ | ⟨m, hm, rfl, hn, hlt⟩
        · exact absurd (hall q' hq') hnV
        · have hmq : m ≤ q' := by
            rcases Nat.lt_or_ge q' m with k | k
            · exact absurd (hlt q' hq' k) hnV
            · exact k
          refine ⟨_, rfl, rfl, _, rfl, ?_⟩
          refine iteF ?_
          refine ⟨_, rfl, _, rfl, _, _, rfl, _, _, rfl, rfl, _, rfl, iteD (fun k => ?_) (fun k => ?_)⟩
          · exfalso
            split at k <;> omega
          · exact ⟨rfl, rfl⟩
      · exact iteF ⟨rfl, rfl⟩
    rintro σ H8' ⟨rfl, rfl⟩
    have v8 : Fv cr H H8' := v2.trans (fv_ex v2.1 ((e3.trans (e4.trans (e5.trans (e6.trans e7)))).trans e8))
    obtain ⟨dg, tg, hg1, hg2⟩ := id hf8
    refine ⟨fun σ H' => ∃ (o : Addr) (p q' r s' : Int), σ = [some (.ref cr), some (.ref t), some (.ref f), some v, some (.int (M : Int)), some (expd v M), y6, some (.int ((ix a b c d : Nat) : Int)), some (.ref Lp), some (.int ((ix a b c d : Nat) : Int)), some (.int ((BarM.sh a b c d : Nat) : Int)), y11, y12, y13, some (.ref o)] ∧ Fv cr H8' H' ∧ Gc p q' r s' 81 ∧ FormAt C_Form H' o (K72.fled a b c d p q' r s'), ?_, ?_⟩
    · refine ⟨_, rfl, f, dg, _, rfl, hg1, (by rfl), _, rfl, cr, 4, rfl, v8.1, by decide, fun x p q' r s' H9 e9 h4 hg => ?_⟩
      have hf9 : FormAt C_Form H9 f [a, b, c, d] := ⟨dg, tg, e9.2 _ _ (fun e => by
        obtain ⟨i, j, k, hq⟩ := v8.1
        unfold Sv at e
        rw [e, hq] at hg1
        cases hg1) hg1, fv_tup v8.1 e9 hg2⟩
      have bk := b4 1000 (by decide)
      have hs : ∀ {y : Int}, y.natAbs ≤ 81 → Short y := fun h => ⟨by omega, by omega⟩
      have hch : ChOk p q' r s' := ⟨hs hg.1, hs hg.2.1, hs hg.2.2.1, hs hg.2.2.2.1, hg.2.2.2.2⟩
      refine ⟨f, x, a, b, c, d, p, q', r, s', rfl, hf9, h4, bk.1, bk.2.1, bk.2.2.1, bk.2.2.2, hch, fun o H10 e10 ho => ?_⟩
      exact ⟨o, p, q', r, s', rfl, e9.trans (fv_ex e9.1 e10), hg, ho⟩
    rintro σ H9 ⟨o, p, q', r, s', rfl, e9, hg, ho⟩
    have v9 := v8.trans e9
    have hdet := hg.2.2.2.2
    have hbd := led_small (hz a (by simp)) (hz b (by simp)) (hz c (by simp)) (hz d (by simp)) hg
    have ho4 : FormAt C_Form H9 o [(p * s' - q' * r) * K05M.fv a b c d p q', (p * s' - q' * r) * K05M.fl2 a b c d p q' r s', (p * s' - q' * r) * K05M.fl3 a b c d p q' r s', (p * s' - q' * r) * K05M.fv a b c d r s'] := ho
    have hb4 : ∀ y ∈ ([(p * s' - q' * r) * K05M.fv a b c d p q', (p * s' - q' * r) * K05M.fl2 a b c d p q' r s', (p * s' - q' * r) * K05M.fl3 a b c d p q' r s', (p * s' - q' * r) * K05M.fv a b c d r s'] : List Int), B 1000 y := fun y hy => (hbd y hy).mono (by decide)
    have hix : ix ((p * s' - q' * r) * K05M.fv a b c d p q') ((p * s' - q' * r) * K05M.fl2 a b c d p q' r s') ((p * s' - q' * r) * K05M.fl3 a b c d p q' r s') ((p * s' - q' * r) * K05M.fv a b c d r s') = ix a b c d := Nat.dvd_antisymm (BarM.led_ix (led_there hdet)) (BarM.led_ix (led_back hdet))
    have hVe : ∀ m : Nat, BarM.V a b c d m ↔ BarM.V ((p * s' - q' * r) * K05M.fv a b c d p q') ((p * s' - q' * r) * K05M.fl2 a b c d p q' r s') ((p * s' - q' * r) * K05M.fl3 a b c d p q' r s') ((p * s' - q' * r) * K05M.fv a b c d r s') m := fun m => ⟨BarM.led_V (led_there hdet), BarM.led_V (led_back hdet)⟩
    generalize (p * s' - q' * r) * K05M.fv a b c d p q' = A' at *
    generalize (p * s' - q' * r) * K05M.fl2 a b c d p q' r s' = B' at *
    generalize (p * s' - q' * r) * K05M.fl3 a b c d p q' r s' = C' at *
    generalize (p * s' - q' * r) * K05M.fv a b c d r s' = D' at *
    refine ⟨_, rfl, o, A', B', C', D', rfl, ho4, ⟨hb4 A' (by simp), hb4 B' (by simp), hb4 C' (by simp), hb4 D' (by simp)⟩, fun H10 e10 => ?_⟩
    refine ⟨_, rfl, rfl, _, rfl, ?_⟩
    rw [hix]
    refine iteE (fun _ => ?_) (fun z => absurd rfl z)
    refine ⟨_, rfl, o, A', B', C', D', rfl, Ex0.fo e10 ho4, fun w H11 e11 hw => ?_⟩
    have hwv := told_uniq hT hw hVe
    subst hwv
    have hsc : scal w w = true := by
      rcases hT with ⟨rfl, _⟩ | ⟨m, _, rfl, _⟩ <;> rfl
    refine ⟨_, rfl, hsc, ?_⟩
    rw [decide_eq_true rfl]
    exact q H11 (v9.trans (fv_ex v9.1 (e10.trans e11)))
end
end K72
set_option Elab.async false
set_option linter.all false
set_option maxRecDepth 100000
namespace K72
open PySem PySem.Spec PyProof.Rows L2 Fr
open K05M (fv fl2 fl3 fdisc)
open BarM (V MOD barB ix Good)
set_option pp.maxSteps 3000
def sp_lawW (K : PySem.W.Frag) : Sp := fun vs H Q _ => ∃ (a : Addr) (ns : List Int), vs = [.ref a] ∧ SqL K H a (ns.map V.int) ∧ ns.length ≤ 63 ∧ ∀ H', Q (.bl true) H'
abbrev sp_law (K : PySem.W.Frag) (_ : Addr) : Sp := sp_lawW K
theorem told_at {a b c d : Int} {M : Nat} {v : L2.V} (h : Told a b c d v) (hM : M ∈ MOD) (hb : barB a b c d M = true) (hl : ∀ q ∈ MOD, q < M → barB a b c d q = false) : v = .int (M : Int) :=
  told_uniq (a := a) (b := b) (c := c) (d := d) (v := .int (M : Int)) (.inr ⟨M, hM, rfl, (BarM.bar_iff hM).mp hb, fun q hq hlt => Classical.byContradiction fun z => by
    have := (BarM.bar_iff hq).mpr z
    rw [hl q hq hlt] at this
    cases this⟩) h fun _ => Iff.rfl
theorem told_no {a b c d : Int} {v : L2.V} (h : Told a b c d v) (hl : ∀ q ∈ MOD, barB a b c d q = false) : v = .non :=
  told_uniq (a := a) (b := b) (c := c) (d := d) (v := .non) (.inl ⟨rfl, fun q hq => Classical.byContradiction fun z => by
    have := (BarM.bar_iff hq).mpr z
    rw [hl q hq] at this
    cases this⟩) h fun _ => Iff.rfl
def EX : List (List L2.V) := [[.int 2, .int 2], [.int 3, .int 3], [.int 2, .int 2], [.int 0, .int 2], [.int 1, .non]]
section
variable {P : Program} {w : World} {K : PySem.W.Frag} {mg : Str → Option Value} {base : Heap} {C_Form : Addr}
theorem ok_law0 (T : Txt K mg C_Form) {f_ : Addr} {fd_ : FuncData} (F_ : Fun K "law" "law" s_law f_ fd_) : FnOk P w K mg base CX0 12 f_ fd_ ["_law_script"] (sp_law K C_Form) := by
  obtain ⟨p_Form___init__, f_Form___init__, fd_Form___init__, R_Form___init__, b_Form___init__, G_Form___init__⟩ := (ok_Form___init__ (P := P) (w := w) (base := base) T)
  obtain ⟨f_l_form_right, fd_l_form_right, g_l_form_right, k_l_form_right, b_l_form_right, G_l_form_right⟩ := (ok_l_form_right (P := P) (w := w) (base := base) T)
  obtain ⟨f_l_vat, fd_l_vat, g_l_vat, k_l_vat, b_l_vat, G_l_vat⟩ := (ok_l_vat (P := P) (w := w) (base := base) T)
  obtain ⟨f_common_index, fd_common_index, g_common_index, k_common_index, b_common_index, G_common_index⟩ := (ok_common_index (P := P) (w := w) (base := base) T)
  obtain ⟨f_maker_bar, fd_maker_bar, g_maker_bar, k_maker_bar, b_maker_bar, G_maker_bar⟩ := (ok_maker_bar (P := P) (w := w) (base := base) T)
  refine F_.ok sc_law (fun vs H Q E h => ?_) (fun cdv A outer s H vs Q E hr h => ?_)
  · first | (obtain ⟨rfl, _⟩ := h; rfl) | (obtain ⟨_, rfl, _⟩ := h; rfl) | (obtain ⟨_, _, rfl, _⟩ := h; rfl) | (obtain ⟨_, _, _, rfl, _⟩ := h; rfl) | (obtain ⟨_, _, _, _, rfl, _⟩ := h; rfl) | (obtain ⟨_, _, _, _, _, rfl, _⟩ := h; rfl) | (obtain ⟨_, _, _, _, _, _, rfl, _⟩ := h; rfl) | (obtain ⟨_, _, _, _, _, _, _, rfl, _⟩ := h; rfl) | (obtain ⟨_, _, _, _, _, _, _, _, rfl, _⟩ := h; rfl) | (obtain ⟨_, _, _, _, _, _, _, _, _, rfl, _⟩ := h; rfl) | (obtain ⟨_, _, _, _, _, _, _, _, _, _, rfl, _⟩ := h; rfl) | (obtain ⟨_, _, _, _, _, _, _, _, _, _, _, rfl, _⟩ := h; rfl) | (obtain ⟨_, _, _, _, _, _, _, _, _, _, _, _, rfl, _⟩ := h; rfl) | (obtain ⟨_, _, _, _, _, _, _, _, _, _, _, _, _, rfl, _⟩ := h; rfl) | (obtain ⟨_, _, _, _, _, _, _, _, _, _, _, _, _, _, rfl, _⟩ := h; rfl) | (obtain ⟨_, _, _, _, _, _, _, _, _, _, _, _, _, _, _, rfl, _⟩ := h; rfl) | (obtain ⟨_, _, _, _, _, _, _, _, _, _, _, _, _, _, _, _, rfl, _⟩ := h; rfl) | (obtain ⟨_, _, _, _, _, _, _, _, _, _, _, _, _, _, _, _, _, rfl, _⟩ := h; rfl) | (obtain ⟨_, _, _, _, _, _, _, _, _, _, _, _, _, _, _, _, _, _, rfl, _⟩ := h; rfl) | (obtain ⟨_, _, _, _, _, _, _, _, _, _, _, _, _, _, _, _, _, _, _, rfl, _⟩ := h; rfl) | (obtain ⟨_, _, _, _, _, _, _, _, _, _, _, _, _, _, _, _, _, _, _, _, rfl, _⟩ := h; rfl) | (obtain ⟨_, _, _, _, _, _, _, _, _, _, _, _, _, _, _, _, _, _, _, _, _, rfl, _⟩ := h; rfl) | (obtain ⟨_, _, _, _, _, _, _, _, _, _, _, _, _, _, _, _, _, _, _, _, _, _, rfl, _⟩ := h; rfl) | (obtain ⟨_, _, _, _, _, _, _, _, _, _, _, _, _, _, _, _, _, _, _, _, _, _, _, rfl, _⟩ := h; rfl)
  · obtain ⟨a, ns, rfl, hS, hn, q⟩ := h
    refine ⟨_, (pss_cons (ps_for PassesOwn.never rfl (pi_range1 (by rfl) T.b_range (pa_cons (pe_callB (call_max2 rfl) (by rfl) T.b_max (by decide +kernel) (pa_cons pe_int (pa_cons (pe_callB (call_min2 rfl) (by rfl) T.b_min (by decide +kernel) (pa_cons pe_int (pa_cons (pe_callB call_len_seq (by rfl) T.b_len PySem.boot_len (pa_cons (pv 0) pa_nil)) pa_nil))) pa_nil))) pa_nil)) (pg_name (i := 1) sc_law.nd rfl (.inl rfl))
      (pss_cons (ps_set (i := 2) sc_law.nd rfl (.inl rfl) (pe_call G_l_vat (hr.mono (by decide)) (by rfl) g_l_vat k_l_vat b_l_vat .nil pass0 (pa_cons (pv 0) (pa_cons (pv 1) pa_nil))))
    (pss_one (ps_if (pt_not (pt_val (pe_call G_l_form_right (hr.mono (by decide)) (by rfl) g_l_form_right k_l_form_right b_l_form_right .nil pass0 (pa_cons (pv 2) pa_nil))))
      (pss_one (ps_ret pe_bl))
      pss_nil))))
    (pss_cons (ps_set (i := 3) sc_law.nd rfl (.inl rfl) (pe_lst (pa_cons (pe_tup (pa_cons pe_int (pa_cons pe_int (pa_cons pe_int (pa_cons pe_int pa_nil))))) (pa_cons (pe_tup (pa_cons pe_int (pa_cons pe_int (pa_cons pe_int (pa_cons pe_int pa_nil))))) (pa_cons (pe_tup (pa_cons pe_int (pa_cons pe_int (pa_cons pe_int (pa_cons pe_int pa_nil))))) (pa_cons (pe_tup (pa_cons pe_int (pa_cons pe_int (pa_cons pe_int (pa_cons pe_int pa_nil))))) (pa_cons (pe_tup (pa_cons pe_int (pa_cons pe_int (pa_cons pe_int (pa_cons pe_int pa_nil))))) pa_nil)))))))
    (pss_cons (ps_setLc (i := 4) (own := [("_law_row_here", 5)]) (g := (gName 5)) rfl sc_law.nd rfl rfl (sw_true rfl rfl rfl (by decide +kernel)) (pi_list (pv 3)) (blkOk_by (N := N_law) (sc := defScope s_law) (by decide +kernel)) (fun _ _ _ _ _ => (pg_name (i := 5) sc_law.nd rfl (.inl rfl))) (fun _ _ _ _ _ => pts_nil) (fun _ _ _ _ _ => (pe_tup (pa_cons (pe_call G_common_index (hr.mono (by decide)) (by rfl) g_common_index k_common_index b_common_index .nil pass0 (pa_cons (pe_make R_Form___init__ G_Form___init__ (hr.mono (by decide)) (by rfl) T.g_Form b_Form___init__ .nil pass0 (pa_cons (pv 5) pa_nil)) pa_nil)) (pa_cons (pe_call G_maker_bar (hr.mono (by decide)) (by rfl) g_maker_bar k_maker_bar b_maker_bar .nil pass0 (pa_cons (pe_make R_Form___init__ G_Form___init__ (hr.mono (by decide)) (by rfl) T.g_Form b_Form___init__ .nil pass0 (pa_cons (pv 5) pa_nil)) pa_nil)) pa_nil)))))
    (pss_cons (ps_if (pt_cmpR (op_neD hr.units) (pv 4) (pe_lst (pa_cons (pe_tup (pa_cons pe_int (pa_cons pe_int pa_nil))) (pa_cons (pe_tup (pa_cons pe_int (pa_cons pe_int pa_nil))) (pa_cons (pe_tup (pa_cons pe_int (pa_cons pe_int pa_nil))) (pa_cons (pe_tup (pa_cons pe_int (pa_cons pe_int pa_nil))) (pa_cons (pe_tup (pa_cons pe_int (pa_cons pe_non pa_nil))) pa_nil)))))) (nomark _))
      (pss_one (ps_ret pe_bl))
      pss_nil)
    (pss_one (ps_ret (pe_cmpR (op_eqD hr.units) (pe_lst (pa_cons (pe_call G_maker_bar (hr.mono (by decide)) (by rfl) g_maker_bar k_maker_bar b_maker_bar .nil pass0 (pa_cons (pe_make R_Form___init__ G_Form___init__ (hr.mono (by decide)) (by rfl) T.g_Form b_Form___init__ .nil pass0 (pa_cons (pe_tup (pa_cons pe_int (pa_cons pe_int (pa_cons pe_int (pa_cons pe_int pa_nil))))) pa_nil)) pa_nil)) (pa_cons (pe_call G_maker_bar (hr.mono (by decide)) (by rfl) g_maker_bar k_maker_bar b_maker_bar .nil pass0 (pa_cons (pe_make R_Form___init__ G_Form___init__ (hr.mono (by decide)) (by rfl) T.g_Form b_Form___init__ .nil pass0 (pa_cons (pe_tup (pa_cons pe_int (pa_cons pe_int (pa_cons pe_int (pa_cons pe_int pa_nil))))) pa_nil)) pa_nil)) (pa_cons (pe_call G_maker_bar (hr.mono (by decide)) (by rfl) g_maker_bar k_maker_bar b_maker_bar .nil pass0 (pa_cons (pe_make R_Form___init__ G_Form___init__ (hr.mono (by decide)) (by rfl) T.g_Form b_Form___init__ .nil pass0 (pa_cons (pe_tup (pa_cons pe_int (pa_cons pe_int (pa_cons pe_int (pa_cons pe_int pa_nil))))) pa_nil)) pa_nil)) pa_nil)))) (pe_lst (pa_cons pe_int (pa_cons pe_non (pa_cons pe_int pa_nil)))) (nomark _)))))))), ?_⟩
    have hm : ∀ z : Int, z ≤ 63 → -(2 ^ 62) ≤ (if (if z < 3 then z else 3) > 1 then (if z < 3 then z else 3) else 1) ∧ (if (if z < 3 then z else 3) > 1 then (if z < 3 then z else 3) else 1) < 2 ^ 62 := fun z hz => by
      split <;> split <;> omega
    have hm2 := hm (((ns.map V.int).length : Nat) : Int) (by rw [List.length_map]; omega)
    refine ⟨_, rfl, a, _, rfl, .inl hS, _, _, rfl, _, _, rfl, _, rfl, hm2.1, hm2.2, ?_⟩
    refine for_range (lo := 0) (fun i σ H' => ∃ y1 y2, σ = [some (.ref a), y1, y2, none, none, none] ∧ Ex0 H H') ⟨none, none, rfl, Ex0.refl H⟩ ?_ ?_
    · rintro i σ H' hi ⟨y1, y2, rfl, e⟩
      refine ⟨_, rfl, _, rfl, a, ns, i, by show [V.ref a, V.int (0 + (i : Int))] = _; rw [Int.zero_add], e.sqL (fun z => z) hS, fun p H1 np e1 hv => ?_⟩
      have hp0 : H p = none := Fx.free e (fun z => z) np
      have e01 : Ex0 H H1 := e.trans e1
      refine ⟨_, rfl, p, rfl, hv, fun H2 e2 => ⟨_, rfl, iteF ?_⟩⟩
      exact ⟨_, _, rfl, ex_fv e01 hp0 e2⟩
    · rintro σ H' ⟨y1, y2, rfl, e⟩
      have sh : ∀ {x y z v : Int}, x.natAbs ≤ 9 → y.natAbs ≤ 9 → z.natAbs ≤ 9 → v.natAbs ≤ 9 → ∀ n ∈ [x, y, z, v], Short n := fun h1 h2 h3 h4 n h => by
        simp only [List.mem_cons, List.mem_nil_iff, or_false] at h
        rcases h with rfl | rfl | rfl | rfl <;> exact ⟨by omega, by omega⟩
      have B9 : ∀ {n : Int}, n.natAbs ≤ 9 → B 1000 n := fun h => ⟨Nat.lt_of_le_of_lt h (by decide), by decide⟩
      refine ⟨sl4, fun r0 m0 => ⟨sl4, fun r1 m1 => ⟨sl4, fun r2 m2 => ⟨sl4, fun r3 m3 => ⟨sl4, fun r4 m4 => ⟨slN (show 5 ≤ 1000000 by decide), fun R nR => ?_⟩⟩⟩⟩⟩⟩
      have c0 := Ex0.new (o := .tup [.int 0, .int 1, .int 1, .int 0]) m0
      have c1 := Ex0.new (o := .tup [.int 3, .int 0, .int 0, .int 6]) m1
      have c2 := Ex0.new (o := .tup [.int 2, .int 3, .int 5, .int 4]) m2
      have c3 := Ex0.new (o := .tup [.int 0, .int 0, .int 0, .int 0]) m3
      have c4 := Ex0.new (o := .tup [.int 1, .int 1, .int 2, .int 1]) m4
      have cR := Ex0.new (o := .lst [.ref r0, .ref r1, .ref r2, .ref r3, .ref r4]) nR
      have k5 := cR
      have k4 := c4.trans k5
      have k3 := c3.trans k4
      have k2 := c2.trans k3
      have k1 := c1.trans k2
      have k0 := c0.trans k1
      have hr0 := Ex0.ti k1 (show Ti _ r0 [0, 1, 1, 0] from upd_same)
      have hr1 := Ex0.ti k2 (show Ti _ r1 [3, 0, 0, 6] from upd_same)
      have hr2 := Ex0.ti k3 (show Ti _ r2 [2, 3, 5, 4] from upd_same)
      have hr3 := Ex0.ti k4 (show Ti _ r3 [0, 0, 0, 0] from upd_same)
      have hr4 := Ex0.ti k5 (show Ti _ r4 [1, 1, 2, 1] from upd_same)
      refine ⟨_, rfl, R, rfl, ⟨_, SqL.of upd_same⟩, ?_⟩
      refine lcL fm0 trivial (SqL.of upd_same) (fun z => z) (fun i acc H' => ∃ os : List Addr, acc = os.map V.ref ∧ os.length = i ∧ ∀ j o, os[j]? = some o → H' o = some (.tup (EX.getD j []))) (fun _ _ => ⟨[], rfl, rfl, fun j o h => by cases h⟩) (fun D i v acc H2 hD hv e2 hA hlen hp' => ?_) (fun D H2 acc hD e2 hA hp' => ?_)
      · obtain ⟨t, a', b, c, d, rfl, ht, h1, h2, h3, h4, hE⟩ : ∃ (t : Addr) (a b c d : Int), v = .ref t ∧ Ti H2 t [a, b, c, d] ∧ a.natAbs ≤ 9 ∧ b.natAbs ≤ 9 ∧ c.natAbs ≤ 9 ∧ d.natAbs ≤ 9 ∧ ∀ w, Told a b c d w → [.int ((ix a b c d : Nat) : Int), w] = EX.getD i [] := by
          match i, hv with
          | 0, hv => exact ⟨r0, 0, 1, 1, 0, (Option.some.inj hv).symm, Ex0.ti e2 hr0, by decide, by decide, by decide, by decide, fun w h => by rw [told_at h (M := 2) (by decide) (by decide +kernel) (by decide +kernel)]; rfl⟩
          | 1, hv => exact ⟨r1, 3, 0, 0, 6, (Option.some.inj hv).symm, Ex0.ti e2 hr1, by decide, by decide, by decide, by decide, fun w h => by rw [told_at h (M := 3) (by decide) (by decide +kernel) (by decide +kernel)]; rfl⟩
          | 2, hv => exact ⟨r2, 2, 3, 5, 4, (Option.some.inj hv).symm, Ex0.ti e2 hr2, by decide, by decide, by decide, by decide, fun w h => by rw [told_at h (M := 2) (by decide) (by decide +kernel) (by decide +kernel)]; rfl⟩
          | 3, hv => exact ⟨r3, 0, 0, 0, 0, (Option.some.inj hv).symm, Ex0.ti e2 hr3, by decide, by decide, by decide, by decide, fun w h => by rw [told_at h (M := 2) (by decide) (by decide +kernel) (by decide +kernel)]; rfl⟩
          | 4, hv => exact ⟨r4, 1, 1, 2, 1, (Option.some.inj hv).symm, Ex0.ti e2 hr4, by decide, by decide, by decide, by decide, fun w h => by rw [told_no h (by decide +kernel)]; rfl⟩
        have hi : i < 5 := (List.getElem?_eq_some_iff.mp hv).1
        refine ⟨rfl, ?_⟩
        refine ⟨_, rfl, fun x dx nx ndx _ => ?_⟩
        refine ⟨x, dx, t, [a', b, c, d], rfl, upd_same, made_at nx ndx ht, rfl, sh h1 h2 h3 h4, fun H3 e3 h8 => ⟨rfl, ?_⟩⟩
        obtain ⟨e3, hx⟩ := fo_made nx ndx ht e3 h8
        have ht3 := Ex0.ti e3 ht
        refine ⟨x, a', b, c, d, rfl, hx, ⟨B9 h1, B9 h2, B9 h3, B9 h4⟩, fun H4 e4 => ?_⟩
        have ht4 := Ex0.ti e4 ht3
        refine ⟨_, rfl, fun y dy ny ndy _ => ?_⟩
        refine ⟨y, dy, t, [a', b, c, d], rfl, upd_same, made_at ny ndy ht4, rfl, sh h1 h2 h3 h4, fun H5 e5 h9 => ⟨rfl, ?_⟩⟩
        obtain ⟨e5, hy⟩ := fo_made ny ndy ht4 e5 h9
        refine ⟨y, a', b, c, d, rfl, hy, fun w H6 e6 hw => ⟨sl2, fun o no => ?_⟩⟩
        have eo := Ex0.new (o := .tup [.int ((ix a' b c d : Nat) : Int), w]) no
        have e26 := e3.trans (e4.trans (e5.trans (e6.trans eo)))
        have hA6 := Ex0.ap e26 hA
        obtain ⟨os, rfl, hos, hall⟩ := hp'
        refine cs_yes fm0 trivial hD e2 hA hlen (by omega) e26 ⟨os ++ [o], by rw [List.map_append]; rfl, by rw [List.length_append, hos]; rfl, fun j p hj => ?_⟩
        by_cases hjl : j < os.length
        · rw [List.getElem?_append_left hjl] at hj
          have hp := Ex0.ap e26 (hall j p hj)
          rw [upd_ne (ne_of hp hA6 (by intro z; cases z))]
          exact hp
        · rw [List.getElem?_append_right (by omega)] at hj
          have hj0 : j - os.length = 0 := by
            have := (List.getElem?_eq_some_iff.mp hj).1
            simpa using this
          have hji : j = i := by omega
          subst hji
          rw [hj0] at hj
          have hpo : o = p := Option.some.inj hj
          subst hpo
          have hp : upd H6 o (.tup [.int ((ix a' b c d : Nat) : Int), w]) o = some (.tup (EX.getD j [])) := by rw [← hE w hw]; exact upd_same
          rw [upd_ne (ne_of hp hA6 (by intro z; cases z))]
          exact hp
      · obtain ⟨os, rfl, hos, hall⟩ := hp'
        obtain ⟨o0, o1, o2, o3, o4, rfl⟩ : ∃ o0 o1 o2 o3 o4, os = [o0, o1, o2, o3, o4] := by
          match os, hos with
          | [o0, o1, o2, o3, o4], _ => exact ⟨o0, o1, o2, o3, o4, rfl⟩
        have q0 : H2 o0 = some (.tup [.int 2, .int 2]) := hall 0 o0 rfl
        have q1 : H2 o1 = some (.tup [.int 3, .int 3]) := hall 1 o1 rfl
        have q2 : H2 o2 = some (.tup [.int 2, .int 2]) := hall 2 o2 rfl
        have q3 : H2 o3 = some (.tup [.int 0, .int 2]) := hall 3 o3 rfl
        have q4 : H2 o4 = some (.tup [.int 1, .non]) := hall 4 o4 rfl
        clear hall hos
        refine ⟨_, rfl, sl2, fun z0 n0 => ⟨sl2, fun z1 n1 => ⟨sl2, fun z2 n2 => ⟨sl2, fun z3 n3 => ⟨sl2, fun z4 n4 => ⟨slN (show 5 ≤ 1000000 by decide), fun l nl => ?_⟩⟩⟩⟩⟩⟩
        have w0 := Ex0.new (o := .tup [.int 2, .int 2]) n0
        have w1 := Ex0.new (o := .tup [.int 3, .int 3]) n1
        have w2 := Ex0.new (o := .tup [.int 2, .int 2]) n2
        have w3 := Ex0.new (o := .tup [.int 0, .int 2]) n3
        have w4 := Ex0.new (o := .tup [.int 1, .non]) n4
        have wl := Ex0.new (o := .lst [.ref z0, .ref z1, .ref z2, .ref z3, .ref z4]) nl
        have g5 := wl
        have g4 := w4.trans g5
        have g3 := w3.trans g4
        have g2 := w2.trans g3
        have g1 := w1.trans g2
        have g0 := w0.trans g1
        have dp2 : ∀ {HH : Hp} {o : Addr} {x y : Int}, HH o = some (.tup [.int x, .int y]) → Dp K HH (.ref o) (.tuple [.int x, .int y]) := fun h => .tup (SqT.of h) (.cons (.int _) (.cons (.int _) .nil))
        have dpn : ∀ {HH : Hp} {o : Addr} {x : Int}, HH o = some (.tup [.int x, .non]) → Dp K HH (.ref o) (.tuple [.int x, .none]) := fun h => .tup (SqT.of h) (.cons (.int _) (.cons .non .nil))
        refine ⟨.list [.tuple [.int 2, .int 2], .tuple [.int 3, .int 3], .tuple [.int 2, .int 2], .tuple [.int 0, .int 2], .tuple [.int 1, .none]], .list [.tuple [.int 2, .int 2], .tuple [.int 3, .int 3], .tuple [.int 2, .int 2], .tuple [.int 0, .int 2], .tuple [.int 1, .none]], .lst (SqL.of (Ex0.ap g0 hA)) (.cons (dp2 (Ex0.ap g0 q0)) (.cons (dp2 (Ex0.ap g0 q1)) (.cons (dp2 (Ex0.ap g0 q2)) (.cons (dp2 (Ex0.ap g0 q3)) (.cons (dpn (Ex0.ap g0 q4)) .nil))))), .lst (SqL.of upd_same) (.cons (dp2 (Ex0.ap g1 upd_same)) (.cons (dp2 (Ex0.ap g2 upd_same)) (.cons (dp2 (Ex0.ap g3 upd_same)) (.cons (dp2 (Ex0.ap g4 upd_same)) (.cons (dpn (Ex0.ap g5 upd_same)) .nil))))), by decide +kernel, by decide +kernel, _, rfl, ?_⟩
        rw [show PyData.eqv (.list [.tuple [.int 2, .int 2], .tuple [.int 3, .int 3], .tuple [.int 2, .int 2], .tuple [.int 0, .int 2], .tuple [.int 1, .none]]) (.list [.tuple [.int 2, .int 2], .tuple [.int 3, .int 3], .tuple [.int 2, .int 2], .tuple [.int 0, .int 2], .tuple [.int 1, .none]]) = true by decide +kernel]
        refine iteF ?_
        generalize upd (upd (upd (upd (upd (upd H2 z0 _) z1 _) z2 _) z3 _) z4 _) l _ = H7
        refine ⟨sl4, fun s0 ns0 u0 du0 nu0 ndu0 _ => ?_⟩
        have hs0 : Ti (upd H7 s0 (.tup [.int 7, .int 0, .int 0, .int 2])) s0 [7, 0, 0, 2] := upd_same
        refine ⟨u0, du0, s0, _, rfl, upd_same, made_at nu0 ndu0 hs0, rfl, sh (by decide) (by decide) (by decide) (by decide), fun Ha0 ea0 ha0 => ⟨rfl, ?_⟩⟩
        obtain ⟨eb0, hu0⟩ := fo_made nu0 ndu0 hs0 ea0 ha0
        refine ⟨u0, 7, 0, 0, 2, rfl, hu0, fun v0 Hb0 ec0 hw0 => ?_⟩
        have hv0 := told_at hw0 (M := 7) (by decide) (by decide +kernel) (by decide +kernel)
        subst hv0
        refine ⟨sl4, fun s1 ns1 u1 du1 nu1 ndu1 _ => ?_⟩
        have hs1 : Ti (upd Hb0 s1 (.tup [.int 0, .int 1, .int 1, .int 7])) s1 [0, 1, 1, 7] := upd_same
        refine ⟨u1, du1, s1, _, rfl, upd_same, made_at nu1 ndu1 hs1, rfl, sh (by decide) (by decide) (by decide) (by decide), fun Ha1 ea1 ha1 => ⟨rfl, ?_⟩⟩
        obtain ⟨eb1, hu1⟩ := fo_made nu1 ndu1 hs1 ea1 ha1
        refine ⟨u1, 0, 1, 1, 7, rfl, hu1, fun v1 Hb1 ec1 hw1 => ?_⟩
        have hv1 := told_no hw1 (by decide +kernel)
        subst hv1
        refine ⟨sl4, fun s2 ns2 u2 du2 nu2 ndu2 _ => ?_⟩
        have hs2 : Ti (upd Hb1 s2 (.tup [.int 9, .int 0, .int 0, .int 4])) s2 [9, 0, 0, 4] := upd_same
        refine ⟨u2, du2, s2, _, rfl, upd_same, made_at nu2 ndu2 hs2, rfl, sh (by decide) (by decide) (by decide) (by decide), fun Ha2 ea2 ha2 => ⟨rfl, ?_⟩⟩
        obtain ⟨eb2, hu2⟩ := fo_made nu2 ndu2 hs2 ea2 ha2
        refine ⟨u2, 9, 0, 0, 4, rfl, hu2, fun v2 Hb2 ec2 hw2 => ?_⟩
        have hv2 := told_at hw2 (M := 9) (by decide) (by decide +kernel) (by decide +kernel)
        subst hv2
        refine ⟨sl3, fun p0 np0 => ⟨sl3, fun p1 np1 => ?_⟩⟩
        have y0 := Ex0.new (o := .lst [.int 7, .non, .int 9]) np0
        have y1 := Ex0.new (o := .lst [.int 7, .non, .int 9]) np1
        refine ⟨.list [.int 7, .none, .int 9], .list [.int 7, .none, .int 9], .lst (SqL.of (Ex0.ap y1 upd_same)) (.cons (.int _) (.cons .non (.cons (.int _) .nil))), .lst (SqL.of upd_same) (.cons (.int _) (.cons .non (.cons (.int _) .nil))), by decide +kernel, by decide +kernel, ?_⟩
        rw [show PyData.eqv (.list [.int 7, .none, .int 9]) (.list [.int 7, .none, .int 9]) = true by decide +kernel]
        exact q _
end
theorem facts {P : Program} {w : World} {K : PySem.W.Frag} {h : Heap} {mg : Str → Option Value} {f : Addr} (X : K.In h) (G : h.Ns mainGlobals mg) (hfa : mg ("law" : Str) = some (.ref f)) (c : Hd.SaysM fa dd K) :
    ∃ fd : FuncData, (∀ (s : Shared) (v : Value), BindsTo s fd ⟨[v], []⟩ [("_law_script", v)]) ∧ ∀ base : Heap, K.In base → base.Ns mainGlobals mg → FnOk P w K mg base CX0 12 f fd ["_law_script"] (sp_lawW K) := by
  obtain ⟨fd0, F0⟩ := c.def_ 0 (d := e0) rfl
  obtain ⟨fd1, F1⟩ := c.def_ 1 (d := e1) rfl
  obtain ⟨fd2, F2⟩ := c.def_ 2 (d := e2) rfl
  obtain ⟨fd3, F3⟩ := c.def_ 3 (d := e3) rfl
  obtain ⟨fd4, F4⟩ := c.def_ 4 (d := e4) rfl
  obtain ⟨fd5, F5⟩ := c.def_ 5 (d := e5) rfl
  obtain ⟨fd6, F6⟩ := c.def_ 6 (d := e6) rfl
  obtain ⟨fd7, F7⟩ := c.def_ 7 (d := e7) rfl
  obtain ⟨fd8, F8⟩ := c.def_ 8 (d := e8) rfl
  obtain ⟨fd9, F9⟩ := c.def_ 9 (d := e9) rfl
  obtain ⟨fd10, F10⟩ := c.def_ 10 (d := e10) rfl
  obtain ⟨fd11, F11⟩ := c.def_ 11 (d := e11) rfl
  obtain ⟨fd12, F12⟩ := c.def_ 12 (d := e12) rfl
  obtain ⟨fd13, F13⟩ := c.def_ 13 (d := e13) rfl
  obtain ⟨fd14, F14⟩ := c.def_ 14 (d := e14) rfl
  obtain ⟨fd15, F15⟩ := c.def_ 15 (d := e15) rfl
  obtain ⟨fd16, F16⟩ := c.def_ 16 (d := e16) rfl
  obtain ⟨fd17, F17⟩ := c.def_ 17 (d := e17) rfl
  obtain ⟨fd18, F18⟩ := c.def_ 18 (d := e18) rfl
  obtain ⟨fd19, F19⟩ := c.def_ 19 (d := e19) rfl
  obtain ⟨fd20, F20⟩ := c.def_ 20 (d := e20) rfl
  obtain ⟨fd21, F21⟩ := c.def_ 21 (d := e21) rfl
  obtain ⟨fd22, F22⟩ := c.def_ 22 (d := e22) rfl
  obtain ⟨fd23, F23⟩ := c.def_ 23 (d := e23) rfl
  obtain ⟨fd24, F24⟩ := c.def_ 24 (d := e24) rfl
  obtain ⟨fd25, F25⟩ := c.def_ 25 (d := e25) rfl
  obtain ⟨fd26, F26⟩ := c.def_ 26 (d := e26) rfl
  obtain ⟨fd27, F27⟩ := c.def_ 27 (d := e27) rfl
  obtain ⟨fd28, F28⟩ := c.def_ 28 (d := e28) rfl
  obtain ⟨fd29, F29⟩ := c.def_ 29 (d := e29) rfl
  obtain ⟨fd30, F30⟩ := c.def_ 30 (d := e30) rfl
  obtain ⟨fd31, F31⟩ := c.def_ 31 (d := e31) rfl
  obtain ⟨fd32, F32⟩ := c.def_ 32 (d := e32) rfl
  obtain ⟨fd33, F33⟩ := c.def_ 33 (d := e33) rfl
  obtain ⟨fd34, F34⟩ := c.def_ 34 (d := e34) rfl
  obtain ⟨fd35, F35⟩ := c.def_ 35 (d := e35) rfl
  obtain ⟨fd36, F36⟩ := c.def_ 36 (d := e36) rfl
  obtain ⟨fd37, F37⟩ := c.def_ 37 (d := e37) rfl
  obtain ⟨fd38, F38⟩ := c.def_ 38 (d := e38) rfl
  obtain ⟨fd39, F39⟩ := c.def_ 39 (d := e39) rfl
  obtain ⟨fd40, F40⟩ := c.def_ 40 (d := e40) rfl
  obtain ⟨fd41, F41⟩ := c.def_ 41 (d := e41) rfl
  have T : Txt K mg (He.ga K "Form") := ⟨He.glo_ok X G (c.fact 0 (f := g0) rfl),
    He.cls_ok (c.fact 1 (f := g1) rfl),
    Hd.ty_ok (c.fact 2 (f := g2) rfl),
    He.noat_ok (c.fact 3 (f := g3) rfl),
    ⟨_, _, He.glo_ok X G (c.fact 4 (f := g4) rfl), Hd.fun_of F0⟩,
    ⟨_, _, He.glo_ok X G (c.fact 5 (f := g5) rfl), Hd.fun_of F1⟩,
    ⟨_, _, He.glo_ok X G (c.fact 6 (f := g6) rfl), Hd.fun_of F2⟩,
    ⟨_, _, He.glo_ok X G (c.fact 7 (f := g7) rfl), Hd.fun_of F3⟩,
    ⟨_, _, He.glo_ok X G (c.fact 8 (f := g8) rfl), Hd.fun_of F4⟩,
    ⟨_, _, He.glo_ok X G (c.fact 9 (f := g9) rfl), Hd.fun_of F5⟩,
    ⟨_, _, He.glo_ok X G (c.fact 10 (f := g10) rfl), Hd.fun_of F6⟩,
    ⟨_, _, He.glo_ok X G (c.fact 11 (f := g11) rfl), Hd.fun_of F7⟩,
    ⟨_, _, He.glo_ok X G (c.fact 12 (f := g12) rfl), Hd.fun_of F8⟩,
    ⟨_, _, He.glo_ok X G (c.fact 13 (f := g13) rfl), Hd.fun_of F9⟩,
    ⟨_, _, He.glo_ok X G (c.fact 14 (f := g14) rfl), Hd.fun_of F10⟩,
    ⟨_, _, He.glo_ok X G (c.fact 15 (f := g15) rfl), Hd.fun_of F11⟩,
    ⟨_, _, He.glo_ok X G (c.fact 16 (f := g16) rfl), Hd.fun_of F12⟩,
    ⟨_, _, He.glo_ok X G (c.fact 17 (f := g17) rfl), Hd.fun_of F13⟩,
    ⟨_, _, He.glo_ok X G (c.fact 18 (f := g18) rfl), Hd.fun_of F14⟩,
    ⟨_, _, He.glo_ok X G (c.fact 19 (f := g19) rfl), Hd.fun_of F15⟩,
    ⟨He.ga K "Form", _, _, He.mkr_ok (c.fact 20 (f := g20) rfl), Hd.fun_of F16⟩,
    ⟨_, _, _, Hd.prop_ok (c.fact 21 (f := g21) rfl), Hd.fun_of F17⟩,
    ⟨He.ga K "Form", _, _, Hd.call_ok (c.fact 22 (f := g22) rfl), Hd.fun_of F18⟩,
    ⟨He.ga K "Form", _, _, He.meth_ok (c.fact 23 (f := g23) rfl), Hd.fun_of F19⟩,
    ⟨He.ga K "Form", _, _, Hd.eq_ok (c.fact 24 (f := g24) rfl), Hd.fun_of F20⟩,
    ⟨_, _, He.glo_ok X G (c.fact 25 (f := g25) rfl), Hd.fun_of F21⟩,
    ⟨_, _, He.glo_ok X G (c.fact 26 (f := g26) rfl), Hd.fun_of F22⟩,
    ⟨_, _, He.glo_ok X G (c.fact 27 (f := g27) rfl), Hd.fun_of F23⟩,
    ⟨_, _, He.glo_ok X G (c.fact 28 (f := g28) rfl), Hd.fun_of F24⟩,
    ⟨_, _, He.glo_ok X G (c.fact 29 (f := g29) rfl), Hd.fun_of F25⟩,
    ⟨_, _, He.glo_ok X G (c.fact 30 (f := g30) rfl), Hd.fun_of F26⟩,
    ⟨_, _, He.glo_ok X G (c.fact 31 (f := g31) rfl), Hd.fun_of F27⟩,
    ⟨_, _, He.glo_ok X G (c.fact 32 (f := g32) rfl), Hd.fun_of F28⟩,
    ⟨_, _, He.glo_ok X G (c.fact 33 (f := g33) rfl), Hd.fun_of F29⟩,
    ⟨_, _, He.glo_ok X G (c.fact 34 (f := g34) rfl), Hd.fun_of F30⟩,
    ⟨_, _, He.glo_ok X G (c.fact 35 (f := g35) rfl), Hd.fun_of F31⟩,
    ⟨_, _, He.glo_ok X G (c.fact 36 (f := g36) rfl), Hd.fun_of F32⟩,
    ⟨_, _, He.glo_ok X G (c.fact 37 (f := g37) rfl), Hd.fun_of F33⟩,
    ⟨_, _, He.glo_ok X G (c.fact 38 (f := g38) rfl), Hd.fun_of F34⟩,
    ⟨_, _, He.glo_ok X G (c.fact 39 (f := g39) rfl), Hd.fun_of F35⟩,
    ⟨_, _, He.glo_ok X G (c.fact 40 (f := g40) rfl), Hd.fun_of F36⟩,
    ⟨_, _, He.glo_ok X G (c.fact 41 (f := g41) rfl), Hd.fun_of F37⟩,
    ⟨_, _, He.glo_ok X G (c.fact 42 (f := g42) rfl), Hd.fun_of F38⟩,
    ⟨_, _, He.glo_ok X G (c.fact 43 (f := g43) rfl), Hd.fun_of F39⟩,
    ⟨_, _, He.glo_ok X G (c.fact 44 (f := g44) rfl), Hd.fun_of F40⟩,
    ⟨_, _, He.glo_ok X G (c.fact 45 (f := g45) rfl), Hd.fun_of F41⟩,
    He.free_ok X G (c.fact 46 (f := g46) rfl),
    He.free_ok X G (c.fact 47 (f := g47) rfl),
    He.free_ok X G (c.fact 48 (f := g48) rfl),
    He.free_ok X G (c.fact 49 (f := g49) rfl),
    He.free_ok X G (c.fact 50 (f := g50) rfl),
    He.free_ok X G (c.fact 51 (f := g51) rfl),
    He.free_ok X G (c.fact 52 (f := g52) rfl),
    He.free_ok X G (c.fact 53 (f := g53) rfl),
    He.free_ok X G (c.fact 54 (f := g54) rfl),
    He.free_ok X G (c.fact 55 (f := g55) rfl),
    He.free_ok X G (c.fact 56 (f := g56) rfl),
    He.free_ok X G (c.fact 57 (f := g57) rfl),
    He.free_ok X G (c.fact 58 (f := g58) rfl),
    He.int_ok X G (c.fact 59 (f := g59) rfl),
    He.int_ok X G (c.fact 60 (f := g60) rfl),
    Hd.blt_ok X G (c.fact 61 (f := g61) rfl),
    ⟨_, He.glo_ok X G (c.fact 62 (f := g62) rfl), fun H => Hd.ints_ok (c.fact 63 (f := g63) rfl) H⟩⟩
  have e := hfa.symm.trans (He.glo_ok X G (c.fact 45 (f := g45) rfl))
  cases e
  have b := FunD.bindsA (ps := ["_law_script"]) F41 fun _ _ _ _ _ _ us hl => match us, hl with | [_], _ => rfl
  exact ⟨fd41, fun s v => b s [v] rfl, fun base _ _ => ok_law0 (P := P) (w := w) (base := base) T (Hd.fun_of F41)⟩
end K72
open PySem PySem.W PySem.Calls PyProof.Rows
set_option maxHeartbeats 0 in
theorem PySem.Challenge.cw_formrings_k72_whole_bars_and_common_indi_holds : PySem.Challenge.rw_formrings_k72_whole_bars_and_common_indi.Holds := by
  w_on; o_law
  refine HandSHeadRun.head_imp (r := OpenLaw.row PySem.Challenge.rw_formrings_k72_whole_bars_and_common_indi) (q := K72.vw) (H := K72.hk) (ob := K72.ob) (M := 12000) (loose := K72.names) (d := HandSHeadRun.topDef (OpenLaw.row PySem.Challenge.rw_formrings_k72_whole_bars_and_common_indi).prog 56) (kwd := []) K72.ob_eq K72.run (by kernel_rfl) (by kernel_rfl) (by kernel_rfl) (by rfl) (by first | assumption | decide +kernel) (by decide +kernel) ⟨rfl, rfl, rfl, rfl, rfl, by decide +kernel⟩ ?hw ?hc
  case hw => w_witness2
  case hc =>
    refine L2.walk_ofE (l := PySem.Challenge.rw_formrings_k72_whole_bars_and_common_indi) (n := 63) (k := 12) (x := "_law_script") (CX := L2.CX0) rfl (by decide) (by kernel_rfl) ⟨rfl, by decide, by decide⟩ ?F (fun _ _ _ _ z => z)
    intro w mg fa h Y G hmg0
    obtain ⟨K, KX, c⟩ := Y
    have hmg : mg ("law" : PySem.Str) = some (.ref fa) := by
      have e : (HandSHeadRun.topDef (OpenLaw.row PySem.Challenge.rw_formrings_k72_whole_bars_and_common_indi).prog 56).name = ("law" : PySem.Str) := by kernel_rfl
      rw [← e]
      exact hmg0
    obtain ⟨fd, hb, hF⟩ := K72.facts (P := (PySem.Challenge.rw_formrings_k72_whole_bars_and_common_indi).prog) (w := w) KX G hmg c
    exact ⟨K, fd, K72.sp_lawW K, KX, hb, fun H a ns hl _ hS => ⟨a, ns, rfl, hS, hl, fun _ => rfl⟩, hF⟩
