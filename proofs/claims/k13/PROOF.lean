import PyProof.Rows.All
import Wide.All
import OpenK.AllK
import Wide.FinOn
import HandS.ForMost
import HandS.Wide
import HandS.WideBits
import HandS.Gcd
import HandS.IsInst
import HandS.Style
import HandS.Evl
import Flt.RightSqrt
import HandS.More
import HandS.OwnEq
import HandS.Property
import HandS.Star
import KE.KOpsOwn
import OpenK.KMeth
import HandS.Walk
import HandS.Zip
import KE.GoesEnum
import KE.GoesZip
import KE.GoesMore
import KE.KStateDown
import HandS.Base
import HandS.Call
import HandS.Ends
import HandS.Words
import HandS.Defaults
import HandS.Head0
import HandS.Head1
import HandS.Head2
import HandS.Head3
import HandS.HeadEnd
import HandS.HeadHook1
import HandS.HeadHook2
import OpenK.KOps
import PyProof.Rows.Range3
import PyProof.Conv_bool
import HandS.List
import PyProof.ConsumeWalk
import PyProof.TupleIter
import KE.IntBitsLaws
import HandS.TupMul
import HandS.TupAny
import HandS.TryOnly
import PySem.Challenge.RW_formrings_k13_whole_traces_norms_polynom
set_option Elab.async false
set_option linter.all false
set_option maxRecDepth 100000
set_option maxHeartbeats 4000000
namespace Fr
open PySem PySem.Spec PyProof.Rows L2
open Evl (Ex)
def Def (P : Program) (w : World) (K : PySem.W.Frag) (mg : Str → Option Value) (base : Heap) (k : Nat) (x : Str) (ps : List Str) (sp : Sp) : Prop :=
  ∃ f fd, mg x = some (.ref f) ∧ PySem.W.keepIn K (.ref f) = true ∧ Binds K fd ps [] ∧ FnOk P w K mg base CX0 k f fd ps sp
structure Fm (S : Addr → Prop) (I : Hp → Prop) : Prop where
  fresh : ∀ {H D}, I H → H D = none → ¬ S D
  stay : ∀ {H D o}, ¬ S D → I H → I (upd H D o)
def Fx (S : Addr → Prop) (I : Hp → Prop) (H H' : Hp) : Prop := I H' ∧ ∀ b o, ¬ S b → H b = some o → H' b = some o
section
variable {S : Addr → Prop} {I : Hp → Prop} {H H1 H2 : Hp}
theorem Fx.refl (i : I H) : Fx S I H H := ⟨i, fun _ _ _ h => h⟩
theorem Fx.trans (a : Fx S I H H1) (b : Fx S I H1 H2) : Fx S I H H2 := ⟨b.1, fun x o n h => b.2 x o n (a.2 x o n h)⟩
theorem Fx.new (m : Fm S I) (i : I H) {p : Addr} {o : HO} (h : H p = none) : Fx S I H (upd H p o) := ⟨m.stay (m.fresh i h) i, fun b u _ e => by
  rw [upd_ne (ne_of_none e h)]
  exact e⟩
theorem Fx.mut (m : Fm S I) (a : Fx S I H H1) (i : I H) {p : Addr} {o : HO} (h : H p = none) : Fx S I H (upd H1 p o) := ⟨m.stay (m.fresh i h) a.1, fun b u n e => by
  rw [upd_ne (ne_of_none e h)]
  exact a.2 b u n e⟩
theorem Fx.at (a : Fx S I H H1) {p : Addr} {o : HO} (n : ¬ S p) (h : H p = some o) : H1 p = some o := a.2 p o n h
theorem Fx.sqT {K : PySem.W.Frag} (a : Fx S I H H1) {p : Addr} {xs : List V} (n : ¬ S p) (h : SqT K H p xs) : SqT K H1 p xs := by
  rcases h with (h | ⟨o, h⟩) | h
  · exact .inl (.inl (a.2 _ _ n h))
  · exact .inl (.inr ⟨o, a.2 _ _ n h⟩)
  · exact .inr h
theorem Fx.sqL {K : PySem.W.Frag} (a : Fx S I H H1) {p : Addr} {xs : List V} (n : ¬ S p) (h : SqL K H p xs) : SqL K H1 p xs := by
  rcases h with (h | ⟨o, h⟩) | h
  · exact .inl (.inl (a.2 _ _ n h))
  · exact .inl (.inr ⟨o, a.2 _ _ n h⟩)
  · exact .inr h
theorem Fx.free (a : Fx S I H H1) {p : Addr} (n : ¬ S p) (h : H1 p = none) : H p = none := by
  cases e : H p with
  | none => rfl
  | some o => rw [a.2 p o n e] at h; cases h
theorem Fx.free' (m : Fm S I) (a : Fx S I H H1) {p : Addr} (h : H1 p = none) : H p = none := a.free (m.fresh a.1 h) h
end
abbrev S0 : Addr → Prop := fun _ => False
abbrev I0 : Hp → Prop := fun _ => True
theorem fm0 : Fm S0 I0 := ⟨fun _ _ h => h, fun _ _ => trivial⟩
abbrev Ex0 : Hp → Hp → Prop := Fx S0 I0
theorem Ex0.of {H H' : Hp} (h : ∀ b o, H b = some o → H' b = some o) : Ex0 H H' := ⟨trivial, fun b o _ e => h b o e⟩
theorem Ex0.ap {H H' : Hp} (h : Ex0 H H') {b : Addr} {o : HO} (e : H b = some o) : H' b = some o := h.2 b o (fun z => z) e
theorem Ex0.refl (H : Hp) : Ex0 H H := Fx.refl trivial
theorem Ex0.new {H : Hp} {p : Addr} {o : HO} (h : H p = none) : Ex0 H (upd H p o) := Fx.new fm0 trivial h
def Cs (S : Addr → Prop) (I : Hp → Prop) (H : Hp) (P : Nat → List V → Hp → Prop) (D : Addr) (i : Nat) (H' : Hp) : Prop := Fx S I H H' ∧ ∃ acc, H' D = some (.lst acc) ∧ acc.length ≤ i ∧ P i acc H'
section
variable {K : PySem.W.Frag} {S : Addr → Prop} {I : Hp → Prop} {σ : L2.St} {H : Hp} {Q : Addr → Hp → Prop} {te : TE} {vs : List Nat} {g : TG} {tt : TT} {P : Nat → List V → Hp → Prop}
theorem cs_yes (m : Fm S I) (i0 : I H) {D : Addr} {i : Nat} {acc : List V} {H' H4 : Hp} {y : V} (hD : H D = none) (p1 : Fx S I H H') (p2 : H' D = some (.lst acc)) (p3 : acc.length ≤ i) (hi : i < 1000000) (e : Fx S I H' H4) (h : P (i + 1) (acc ++ [y]) (upd H4 D (.lst (acc ++ [y])))) :
    ∃ acc', H4 D = some (.lst acc') ∧ acc'.length < sizeLine ∧ Cs S I H P D (i + 1) (upd H4 D (.lst (acc' ++ [y]))) :=
  ⟨acc, e.2 _ _ (m.fresh i0 hD) p2, Nat.lt_of_le_of_lt p3 (Nat.lt_of_lt_of_le hi (by decide)), Fx.mut m (p1.trans e) i0 hD, _, upd_same, by rw [List.length_append]; exact Nat.add_le_add_right p3 1, h⟩
theorem cs_no (m : Fm S I) (i0 : I H) {D : Addr} {i : Nat} {acc : List V} {H' H4 : Hp} (hD : H D = none) (p1 : Fx S I H H') (p2 : H' D = some (.lst acc)) (p3 : acc.length ≤ i) (e : Fx S I H' H4) (h : P (i + 1) acc H4) : Cs S I H P D (i + 1) H4 :=
  ⟨p1.trans e, acc, e.2 _ _ (m.fresh i0 hD) p2, Nat.le_succ_of_le p3, h⟩
theorem lcT (m : Fm S I) (i0 : I H) {a : Addr} {xs : List V} (hx : SqT K H a xs) (ha : ¬ S a) (P : Nat → List V → Hp → Prop) (p0 : ∀ D, H D = none → P 0 [] (upd H D (.lst [])))
    (hs : ∀ D i x acc H', H D = none → xs[i]? = some x → Fx S I H H' → H' D = some (.lst acc) → acc.length ≤ i → P i acc H' → g x (wipe σ vs) H' fun σ2 H2 => wipe σ2 vs = wipe σ vs ∧ tt σ2 H2 fun b H3 =>
      if b = true then te σ2 H3 fun y H4 => ∃ acc, H4 D = some (.lst acc) ∧ acc.length < sizeLine ∧ Cs S I H P D (i + 1) (upd H4 D (.lst (acc ++ [y]))) else Cs S I H P D (i + 1) H3)
    (q : ∀ D H' acc, H D = none → Fx S I H H' → H' D = some (.lst acc) → P xs.length acc H' → Q D H') :
    ∀ D, H D = none → ∃ W : Nat → Nat → Hp → Prop, (∃ m, W 0 m (upd H D (.lst []))) ∧ ∀ i m H, W i m H →
      ((Itt K a).stop i H ∧ Q D H) ∨ ((Itt K a).go i H ∧ ∃ Nx : Hp → Prop, (∀ H', Nx H' → ∃ m', m' < m ∧ W (i + 1) m' H') ∧ ∀ x H', (Itt K a).yld i H x H' → g x (wipe σ vs) H' fun σ2 H2 => wipe σ2 vs = wipe σ vs ∧ tt σ2 H2 fun b H3 =>
        if b = true then te σ2 H3 fun y H4 => ∃ acc, H4 D = some (.lst acc) ∧ acc.length < sizeLine ∧ Nx (upd H4 D (.lst (acc ++ [y]))) else Nx H3) := fun D hD =>
  lc_tup (xs := xs) (Cs S I H P D) ⟨Fx.new m i0 hD, [], upd_same, Nat.le_refl _, p0 D hD⟩ (fun i H' _ p => p.1.sqT ha hx)
    (fun i x H' hi p => by
      obtain ⟨p1, acc, p2, p3, p4⟩ := p
      exact hs D i x acc H' hD hi p1 p2 p3 p4)
    (fun H' p => by
      obtain ⟨p1, acc, p2, p3, p4⟩ := p
      exact q D H' acc hD p1 p2 p4)
theorem lcL (m : Fm S I) (i0 : I H) {a : Addr} {xs : List V} (hx : SqL K H a xs) (ha : ¬ S a) (P : Nat → List V → Hp → Prop) (p0 : ∀ D, H D = none → P 0 [] (upd H D (.lst [])))
    (hs : ∀ D i x acc H', H D = none → xs[i]? = some x → Fx S I H H' → H' D = some (.lst acc) → acc.length ≤ i → P i acc H' → g x (wipe σ vs) H' fun σ2 H2 => wipe σ2 vs = wipe σ vs ∧ tt σ2 H2 fun b H3 =>
      if b = true then te σ2 H3 fun y H4 => ∃ acc, H4 D = some (.lst acc) ∧ acc.length < sizeLine ∧ Cs S I H P D (i + 1) (upd H4 D (.lst (acc ++ [y]))) else Cs S I H P D (i + 1) H3)
    (q : ∀ D H' acc, H D = none → Fx S I H H' → H' D = some (.lst acc) → P xs.length acc H' → Q D H') :
    ∀ D, H D = none → ∃ W : Nat → Nat → Hp → Prop, (∃ m, W 0 m (upd H D (.lst []))) ∧ ∀ i m H, W i m H →
      ((Itl K a).stop i H ∧ Q D H) ∨ ((Itl K a).go i H ∧ ∃ Nx : Hp → Prop, (∀ H', Nx H' → ∃ m', m' < m ∧ W (i + 1) m' H') ∧ ∀ x H', (Itl K a).yld i H x H' → g x (wipe σ vs) H' fun σ2 H2 => wipe σ2 vs = wipe σ vs ∧ tt σ2 H2 fun b H3 =>
        if b = true then te σ2 H3 fun y H4 => ∃ acc, H4 D = some (.lst acc) ∧ acc.length < sizeLine ∧ Nx (upd H4 D (.lst (acc ++ [y]))) else Nx H3) := fun D hD =>
  lc_list (xs := xs) (Cs S I H P D) ⟨Fx.new m i0 hD, [], upd_same, Nat.le_refl _, p0 D hD⟩ (fun i H' _ p => p.1.sqL ha hx)
    (fun i x H' hi p => by
      obtain ⟨p1, acc, p2, p3, p4⟩ := p
      exact hs D i x acc H' hD hi p1 p2 p3 p4)
    (fun H' p => by
      obtain ⟨p1, acc, p2, p3, p4⟩ := p
      exact q D H' acc hD p1 p2 p4)
theorem lcR (m : Fm S I) (i0 : I H) {lo : Int} {n : Nat} (P : Nat → List V → Hp → Prop) (p0 : ∀ D, H D = none → P 0 [] (upd H D (.lst [])))
    (hs : ∀ D i acc H', H D = none → i < n → Fx S I H H' → H' D = some (.lst acc) → acc.length ≤ i → P i acc H' → g (.int (lo + i)) (wipe σ vs) H' fun σ2 H2 => wipe σ2 vs = wipe σ vs ∧ tt σ2 H2 fun b H3 =>
      if b = true then te σ2 H3 fun y H4 => ∃ acc, H4 D = some (.lst acc) ∧ acc.length < sizeLine ∧ Cs S I H P D (i + 1) (upd H4 D (.lst (acc ++ [y]))) else Cs S I H P D (i + 1) H3)
    (q : ∀ D H' acc, H D = none → Fx S I H H' → H' D = some (.lst acc) → P n acc H' → Q D H') :
    ∀ D, H D = none → ∃ W : Nat → Nat → Hp → Prop, (∃ m, W 0 m (upd H D (.lst []))) ∧ ∀ i m H, W i m H →
      ((Itr lo n).stop i H ∧ Q D H) ∨ ((Itr lo n).go i H ∧ ∃ Nx : Hp → Prop, (∀ H', Nx H' → ∃ m', m' < m ∧ W (i + 1) m' H') ∧ ∀ x H', (Itr lo n).yld i H x H' → g x (wipe σ vs) H' fun σ2 H2 => wipe σ2 vs = wipe σ vs ∧ tt σ2 H2 fun b H3 =>
        if b = true then te σ2 H3 fun y H4 => ∃ acc, H4 D = some (.lst acc) ∧ acc.length < sizeLine ∧ Nx (upd H4 D (.lst (acc ++ [y]))) else Nx H3) := fun D hD =>
  lc_range (lo := lo) (n := n) (Cs S I H P D) ⟨Fx.new m i0 hD, [], upd_same, Nat.le_refl _, p0 D hD⟩
    (fun i H' hi p => by
      obtain ⟨p1, acc, p2, p3, p4⟩ := p
      exact hs D i acc H' hD hi p1 p2 p3 p4)
    (fun H' p => by
      obtain ⟨p1, acc, p2, p3, p4⟩ := p
      exact q D H' acc hD p1 p2 p4)
end
theorem log_lt {i : Int} {a : Nat} (h : i.natAbs < 2 ^ a) (h0 : 0 < a) : i.natAbs.log2 < a := by
  by_cases z : i.natAbs = 0
  · rw [z]
    exact h0
  · exact (Nat.log2_lt z).mpr h
theorem mw {i j : Int} (h1 : -(2 ^ 250) < i) (h2 : i < 2 ^ 250) (h3 : -(2 ^ 250) < j) (h4 : j < 2 ^ 250) : CMulW i j :=
  wide_mul (a := 250) (b := 250) (by omega) (by omega) (by decide) (by decide) (by decide)
theorem dw {i j : Int} (h : 0 < j) (h4 : j < 2 ^ 250) : CDivW i j := wide_div (b := 250) h (by omega) (by decide) (by decide)
theorem iteB {b : Bool} {A B : Prop} (h1 : b = true → A) (h2 : b = false → B) : if b = true then A else B := by
  cases b with
  | true => rw [if_pos rfl]; exact h1 rfl
  | false => rw [if_neg Bool.false_ne_true]; exact h2 rfl
theorem iteD {c : Prop} [Decidable c] {A B : Prop} (h1 : c → A) (h2 : ¬ c → B) : if decide c = true then A else B :=
  iteB (fun h => h1 (of_decide_eq_true h)) (fun h => h2 (of_decide_eq_false h))
theorem iteN {c : Prop} [Decidable c] {A B : Prop} (h1 : ¬ c → A) (h2 : c → B) : if (!decide c) = true then A else B := by
  by_cases h : c
  · rw [decide_eq_true h]; exact iteF (h2 h)
  · rw [decide_eq_false h]; exact iteT (h1 h)
theorem dT {c : Prop} [Decidable c] {A B : Prop} (h : c) (a : A) : if decide c = true then A else B := by rw [decide_eq_true h, if_pos rfl]; exact a
theorem dF {c : Prop} [Decidable c] {A B : Prop} (h : ¬ c) (a : B) : if decide c = true then A else B := by rw [decide_eq_false h, if_neg Bool.false_ne_true]; exact a
theorem ndT {c : Prop} [Decidable c] {A B : Prop} (h : ¬ c) (a : A) : if (!decide c) = true then A else B := by rw [decide_eq_false h]; exact iteT a
theorem ndF {c : Prop} [Decidable c] {A B : Prop} (h : c) (a : B) : if (!decide c) = true then A else B := by rw [decide_eq_true h]; exact iteF a
theorem sl1 : 1 ≤ sizeLine := by decide
theorem sl2 : 2 ≤ sizeLine := by decide
theorem sl3 : 3 ≤ sizeLine := by decide
theorem sl4 : 4 ≤ sizeLine := by decide
theorem sl5 : 5 ≤ sizeLine := by decide
theorem sl6 : 6 ≤ sizeLine := by decide
theorem sl8 : 8 ≤ sizeLine := by decide
theorem slN {n : Nat} (h : n ≤ 1000000) : n ≤ sizeLine := Nat.le_trans h (by decide)
section
variable {X : Cx}
def rIsqrt : List V → Hp → VK → Prop := fun vs H Q => ∃ a : Int, vs = [.int a] ∧ 0 ≤ a ∧ a < 2 ^ 64 ∧ ∀ r : Int, 0 ≤ r → r * r ≤ a → a < (r + 1) * (r + 1) → Q (.int r) H
theorem cr_isqrt : CallR X (.builtin "math.isqrt") rIsqrt := by
  intro pins s σ H vs us Q I r h
  obtain ⟨a, rfl, h0, h1, q⟩ := h
  obtain ⟨u, rfl, ru⟩ := Vals.one r
  obtain ⟨t, rfl⟩ := ru
  have sp := PySem.Float64.isqrt_spec a.toNat
  refine PySem.W.mg_isqrt h0 h1 ⟨.int _, H, I.tok _, ⟨_, rfl⟩, q _ (Int.natCast_nonneg _) ?_ ?_⟩
  · have := sp.1
    have e : ((Float64.isqrt a.toNat * Float64.isqrt a.toNat : Nat) : Int) ≤ (a.toNat : Int) := Int.ofNat_le.mpr this
    rw [Int.toNat_of_nonneg h0] at e
    simpa using e
  · have := sp.2
    have e : (a.toNat : Int) < (((Float64.isqrt a.toNat + 1) * (Float64.isqrt a.toNat + 1) : Nat) : Int) := Int.ofNat_lt.mpr this
    rw [Int.toNat_of_nonneg h0] at e
    simpa using e
end
end Fr
namespace Fr
open PySem PySem.Spec PyProof.Rows L2
section
variable {X : Cx}
def CPowC (i j : Int) : Prop := 0 ≤ j ∧ (Builtin.Int.intBits i : Int) * j ≤ 2 ^ 27
theorem op_powC : OpR X (binaryOp .Pow) (rI CPowC fun i j => .int (i ^ j.toNat)) := opI fun _ _ _ _ _ _ _ hc q => PyProof.Rows.pow_int hc.1 hc.2 q
end
end Fr
namespace Fr
open PySem PySem.Spec PyProof.Rows L2
theorem deI {i j : Int} : decide (V.int i = V.int j) = decide (i = j) := by
  rw [dec_int]
  rfl
theorem iteE {i j : Int} {A B : Prop} (h1 : i = j → A) (h2 : i ≠ j → B) : if decide (V.int i = V.int j) = true then A else B := by
  rw [deI]
  exact iteD h1 h2
theorem iteEn {i j : Int} {A B : Prop} (h1 : i ≠ j → A) (h2 : i = j → B) : if (!decide (V.int i = V.int j)) = true then A else B := by
  rw [deI]
  exact iteN h1 h2
end Fr
namespace Fr
open PySem PySem.Spec PyProof.Rows L2
def inb (lo hi : Int) : V → Bool
  | .int i => decide (lo ≤ i) && decide (i ≤ hi)
  | _ => false
theorem in_b {lo hi : Int} {xs : List V} {v : V} (hv : v ∈ xs) (h : xs.all (inb lo hi) = true) : ∃ f : Int, v = .int f ∧ lo ≤ f ∧ f ≤ hi := by
  have := List.all_eq_true.mp h v hv
  cases v with
  | int i =>
    unfold inb at this
    rw [Bool.and_eq_true, decide_eq_true_iff, decide_eq_true_iff] at this
    exact ⟨i, rfl, this.1, this.2⟩
  | _ => cases this
theorem shaped_ints (ns : List Int) : SeqAt.shaped (.list (ns.map .int)) = true := by
  have h : PyData.canLayAll0 (ns.map PyData.int) = true ∧ PyData.depthAll (ns.map PyData.int) ≤ 1 := by
    induction ns with
    | nil => exact ⟨rfl, by simp [PyData.depthAll]⟩
    | cons n r ih =>
      refine ⟨?_, ?_⟩
      · rw [List.map_cons, PyData.canLayAll0, PyData.canLay0, ih.1]; rfl
      · rw [List.map_cons, PyData.depthAll, PyData.depth]; exact Nat.max_le.mpr ⟨by decide, ih.2⟩
  unfold SeqAt.shaped
  rw [PyData.canLay0, PyData.depth, h.1]
  simp
  omega
theorem dp_ints {K : PySem.W.Frag} {H : Hp} : ∀ ns : List Int, DpAll K H (ns.map V.int) (ns.map PyData.int)
  | [] => .nil
  | n :: r => .cons (.int n) (dp_ints r)
theorem eqv_ints : ∀ ns ms : List Int, PyData.eqvAll (ns.map PyData.int) (ms.map PyData.int) = decide (ns = ms)
  | [], [] => rfl
  | [], m :: ms => rfl
  | n :: ns, [] => rfl
  | n :: ns, m :: ms => by
    rw [List.map_cons, List.map_cons, PyData.eqvAll, PyData.eqv, eqv_ints ns ms]
    apply Bool.eq_iff_iff.mpr
    simp
def pr2 (q : Nat × Nat) : PyData := .tuple [.int (q.1 : Int), .int (q.2 : Int)]
theorem shaped_prs (fs : List (Nat × Nat)) : SeqAt.shaped (.tuple (fs.map pr2)) = true := by
  have h : PyData.canLayAll0 (fs.map pr2) = true ∧ PyData.depthAll (fs.map pr2) ≤ 2 := by
    induction fs with
    | nil => exact ⟨rfl, by simp [PyData.depthAll]⟩
    | cons n r ih =>
      refine ⟨?_, ?_⟩
      · rw [List.map_cons, PyData.canLayAll0, ih.1]; simp [pr2, PyData.canLay0, PyData.canLayAll0]
      · rw [List.map_cons, PyData.depthAll]; exact Nat.max_le.mpr ⟨by simp [pr2, PyData.depth, PyData.depthAll], ih.2⟩
  unfold SeqAt.shaped
  rw [PyData.canLay0, PyData.depth, h.1]
  simp
  omega
theorem eqv_prs : ∀ fs gs : List (Nat × Nat), PyData.eqvAll (fs.map pr2) (gs.map pr2) = decide (fs = gs)
  | [], [] => rfl
  | [], m :: ms => rfl
  | n :: ns, [] => rfl
  | (a, b) :: ns, (c, d) :: ms => by
    rw [List.map_cons, List.map_cons, PyData.eqvAll, eqv_prs ns ms]
    apply Bool.eq_iff_iff.mpr
    simp [pr2, PyData.eqv, PyData.eqvAll]
    omega
end Fr
namespace Fr
open PySem PySem.Spec PyProof.Rows L2
def B (a : Nat) (i : Int) : Prop := i.natAbs < 2 ^ a ∧ 0 < a
theorem two_pow_two {a : Nat} (h : 0 < a) : 2 ≤ 2 ^ a := by
  obtain ⟨k, rfl⟩ : ∃ k, a = k + 1 := ⟨a - 1, by omega⟩
  rw [Nat.pow_succ]
  have := Nat.two_pow_pos k
  omega
theorem pow_sum {a b : Nat} (ha : 0 < a) (hb : 0 < b) : 2 ^ a + 2 ^ b ≤ 2 ^ (a + b) := by
  rw [Nat.pow_add]
  have h1 := two_pow_two ha
  have h2 := two_pow_two hb
  generalize 2 ^ a = x at *
  generalize 2 ^ b = y at *
  have := Nat.mul_le_mul h1 (Nat.le_refl y)
  have := Nat.mul_le_mul (Nat.le_refl x) h2
  rcases Nat.le_total x y with h | h <;> omega
theorem B.mul {a b : Nat} {i j : Int} (h1 : B a i) (h2 : B b j) : B (a + b) (i * j) := ⟨wide_lt h1.1 h2.1, Nat.add_pos_left h1.2 _⟩
theorem B.add {a b : Nat} {i j : Int} (h1 : B a i) (h2 : B b j) : B (a + b) (i + j) :=
  ⟨Nat.lt_of_lt_of_le (by have := h1.1; have := h2.1; omega : (i + j).natAbs < 2 ^ a + 2 ^ b) (pow_sum h1.2 h2.2), Nat.add_pos_left h1.2 _⟩
theorem B.sub {a b : Nat} {i j : Int} (h1 : B a i) (h2 : B b j) : B (a + b) (i - j) :=
  ⟨Nat.lt_of_lt_of_le (by have := h1.1; have := h2.1; omega : (i - j).natAbs < 2 ^ a + 2 ^ b) (pow_sum h1.2 h2.2), Nat.add_pos_left h1.2 _⟩
theorem B.neg {a : Nat} {i : Int} (h1 : B a i) : B a (-i) := ⟨by rw [Int.natAbs_neg]; exact h1.1, h1.2⟩
theorem B.lit {i : Int} (h : i.natAbs < 2 ^ 64) : B 64 i := ⟨h, by decide⟩
theorem B.mono {a b : Nat} {i : Int} (h : B a i) (hab : a ≤ b) : B b i := ⟨Nat.lt_of_lt_of_le h.1 (Nat.pow_le_pow_right (by decide) hab), Nat.lt_of_lt_of_le h.2 hab⟩
theorem mulB {a b : Nat} {i j : Int} (h1 : B a i) (h2 : B b j) (h : a + b ≤ 1000000) : CMulW i j := wide_mul h1.1 h2.1 h1.2 h2.2 h
end Fr
namespace Fr
open PySem PySem.Spec PyProof.Rows L2
theorem shaped_tints (ns : List Int) : SeqAt.shaped (.tuple (ns.map .int)) = true := by
  have h : PyData.canLayAll0 (ns.map .int) = true ∧ PyData.depthAll (ns.map .int) ≤ 1 := by
    induction ns with
    | nil => exact ⟨rfl, by simp [PyData.depthAll]⟩
    | cons n r ih =>
      refine ⟨?_, ?_⟩
      · rw [List.map_cons, PyData.canLayAll0, ih.1]; simp [PyData.canLay0]
      · rw [List.map_cons, PyData.depthAll]; exact Nat.max_le.mpr ⟨by simp [PyData.depth], ih.2⟩
  unfold SeqAt.shaped
  rw [PyData.canLay0, PyData.depth, h.1]
  simp
  omega
end Fr
namespace Fr
open PySem PySem.Spec PyProof.Rows L2
section
variable {M : Model} {prog : Program} {w : World} {A : Around} {E : Value → Shared → Prop} {s : Shared} {K : PySem.W.Frag} {x C f : Addr} {ox : Obj} {od : Option Obj}
theorem ifBound_ne {args : List Value} {Q : Option Value → Shared → Prop} (X : K.In s.heap) (I : PySem.W.InstAt s.heap x ox C od) (hs : PySem.W.findIn K (.ref C) "__ne__" = some (some (.builtin "object.__ne__")))
    (h : wpAny M A (call (.builtin "object.__ne__") (.ref x :: args)) (fun v => Q (some v)) E s) : wpAny M A (callSpecialIfBound? (.ref x) "__ne__" args) Q E s := by
  simp only [callSpecialIfBound?, bindSpecialIfBound?]
  refine wpAny_holding (wpAny_bind (wpAny_bind (wpAny_bind (I.type.here ((PySem.W.looks_findIn X hs).here ?_)))))
  refine wpAny_bind (wpAny_askSetting (wpAny_ite ?_))
  have fin : wpAny M A (call (.builtin "object.__ne__") ([.ref x] ++ args) >>= fun v => pure (some v)) Q E s := wpAny_bind (wpAny_mono h (fun v s' h' => wpAny_pure h') fun _ _ h' => h')
  split
  · exact wpAny_bind (wpAny_of_eq (F.cmp_object.ne.bind _) (wpAny_pure (by exact fin)))
  · exact wpAny_tryCatch (wpAny_bind (wpAny_of_eq (F.cmp_object.ne.bind _) (wpAny_pure (by exact fin))))
def NeB (Q : Value → Shared → Prop) (v : Value) (s' : Shared) : Prop := ∃ b, v = .bool b ∧ Q (.bool (!b)) s'
theorem entry_ne {b : Value} {Q : Fin → Shared → Prop} (hu : A.units < cLine) (X : K.In s.heap) (I : PySem.W.InstAt s.heap x ox C od) (hs : PySem.W.findIn K (.ref C) "__eq__" = some (some (.ref f))) (hf : PySem.W.isFn K (.ref f) = true)
    (h : wpAny (model prog w) A (call (.ref f) [.ref x, b]) (NeB fun v s' => Q (.done (.ret v)) s') E s) : wpAny (model prog w) A (Builtin.«object.__ne__» ⟨[.ref x, b], []⟩) Q E s := by
  unfold Builtin.«object.__ne__»
  repeat (first | with_reducible refine wpAny_cRoomFor hu ?_ | (refine wpAny_bind (PySem.W.ifBound_K X I hs hf (wpAny_mono h (fun v s' hv => ?_) fun _ _ e => e))) | wp_step)
  all_goals (obtain ⟨b', rfl, q⟩ := hv)
  all_goals (repeat (first | wp_step))
  all_goals exact q
theorem ne_K {h₀ : Heap} {L : Addr} {m : Str → Option Value} {b tb : Value} {Q : Value → Shared → Prop} (hu : A.units + 1 < cLine) (F : Fr h₀ L s.heap m) (X₀ : K.In h₀) (I : PySem.W.InstAt s.heap x ox C od) (hb : PySem.W.Looks (model prog w) s.heap (typeOf b) tb) (hn : PySem.W.notFirst K C tb = true)
    (hne : PySem.W.findIn K (.ref C) "__ne__" = some (some (.builtin "object.__ne__"))) (hs : PySem.W.findIn K (.ref C) "__eq__" = some (some (.ref f))) (hf : PySem.W.isFn K (.ref f) = true) (hm : PySem.W.mroIn K C (.type "object") = some true)
    (h : wpAny (model prog w) A.in1 (call (.ref f) [.ref x, b]) (NeB Q) E s) : wpAny (model prog w) A (richCompare .NotEq (.ref x) b) Q E s := by
  have X := X₀.keeps F.keep
  have one : wpAny (model prog w) A (tryCompare (.ref x) "__ne__" b) (fun r s' => ∃ v, r = some v ∧ Q v s') E s := by
    unfold tryCompare
    refine wpAny_bind (ifBound_ne X I hne (wpAny_call (codeAny_call_builtin PySem.F.cmp_object.ne.plain PySem.F.cmpEntry_ne (PySem.W.check_slot PySem.F.cmpKind_ne PySem.F.cmpSplit_ne (I.type.andThen (PySem.W.looks_mroIn X hm)) (PySem.F.cmpArgs_ne _ _) ?_))))
    refine entry_ne (A := A.in1) hu X I hs hf (wpAny_mono h (fun v s' hv => ?_) fun _ _ e => e)
    obtain ⟨b', rfl, q⟩ := hv
    exact ⟨b', rfl, wpAny_pure ⟨_, rfl, q⟩⟩
  unfold richCompare
  simp only [oneThing_ref]
  refine wpAny_holding (wpAny_bind (wpAny_cRoomFor (Nat.lt_of_succ_lt hu) ?_))
  refine wpAny_bind (I.type.here (wpAny_bind (hb.here ?_)))
  split
  · rename_i q
    have e : PySem.W.subIn K tb (.ref C) = some false := by
      rcases Bool.or_eq_true_iff.mp hn with e | e
      · rw [beq_iff_eq.mp e] at q; simp at q
      · exact beq_iff_eq.mp e
    refine wpAny_bind ((PySem.W.looks_subIn X e).here ?_)
    simp only [Bool.false_eq_true, if_false]
    refine wpAny_bind (wpAny_mono one (fun r s' z => ?_) fun _ _ e => e)
    obtain ⟨v, rfl, hq⟩ := z
    exact wpAny_pure hq
  · refine wpAny_bind (wpAny_pure ?_)
    simp only [Bool.false_eq_true, if_false]
    refine wpAny_bind (wpAny_mono one (fun r s' z => ?_) fun _ _ e => e)
    obtain ⟨v, rfl, hq⟩ := z
    exact wpAny_pure hq
end
section
variable {X : Cx} {CX : CXT} {C f : Addr} {fd : FuncData} {ps : List Str} {k : Nat} {sp : Sp} {E : XK}
structure EqC (K : PySem.W.Frag) (C f : Addr) : Prop where
  eq : PySem.W.findIn K (.ref C) "__eq__" = some (some (.ref f))
  fn : PySem.W.isFn K (.ref f) = true
  ne : PySem.W.findIn K (.ref C) "__ne__" = some (some (.builtin "object.__ne__"))
  mo : PySem.W.mroIn K C (.type "object") = some true
def rEqI (K : PySem.W.Frag) (C : Addr) (sp : Sp) (E : XK) (neg : Bool) : R2 := fun x y H Q => ∃ a dx fs tb, x = .ref a ∧ H a = some (.ins C dx fs) ∧ TyX K H y tb ∧ PySem.W.notFirst K C tb = true ∧ sp [x, y] H (fun v H' => ∃ b, v = .bl b ∧ Q (.bl (if neg = true then !b else b)) H') E
theorem op_eqI (c : EqC X.K C f) (F : FnOk X.prog X.w X.K X.mg X.base CX k f fd ps sp) (hb : Binds X.K fd ps []) (hr : Room k X.A) (hx : Passes CX X E) : OpR X (compareOp .Eq) (rEqI X.K C sp E false) := by
  intro pins s σ H x y v u Q I rx ry h
  obtain ⟨a, dx, fs, tb, rfl, ha, ty, hn, q⟩ := h
  cases (show v = Value.ref a from rx)
  obtain ⟨mA, J, _⟩ := ins_get I.hok ha
  obtain ⟨od, J, _⟩ := J.look
  obtain ⟨m, hF⟩ := I.fr
  obtain ⟨P, kt, hP, _⟩ := kit_of I ry ty
  refine PySem.W.cmp_K (op := .Eq) hr.units0 hF I.ok.mod.kin J (kt.ty _ _ I.kIn hP) hn c.eq c.fn ?_
  refine wpAny_mono (run_fn (us := [.ref a, u]) (vs := [.ref a, y]) F hr hb .nil hx I (.cons rfl (.cons ry .nil)) q) (fun w s' z => ?_) fun _ _ x => x
  obtain ⟨z', H', I', rz, b, rfl, qz⟩ := z
  cases (show w = Value.bool b from rz)
  exact ⟨.bl b, H', I', rfl, qz⟩
theorem op_neI (c : EqC X.K C f) (F : FnOk X.prog X.w X.K X.mg X.base CX k f fd ps sp) (hb : Binds X.K fd ps []) (hr : Room (k + 1) X.A) (hx : Passes CX X E) : OpR X (compareOp .NotEq) (rEqI X.K C sp E true) := by
  intro pins s σ H x y v u Q I rx ry h
  obtain ⟨a, dx, fs, tb, rfl, ha, ty, hn, q⟩ := h
  cases (show v = Value.ref a from rx)
  obtain ⟨mA, J, _⟩ := ins_get I.hok ha
  obtain ⟨od, J, _⟩ := J.look
  obtain ⟨m, hF⟩ := I.fr
  obtain ⟨P, kt, hP, _⟩ := kit_of I ry ty
  refine ne_K (Nat.lt_of_le_of_lt (Nat.add_le_add_left (by decide : 1 ≤ 64) _) hr.units) hF I.ok.mod.kin J (kt.ty _ _ I.kIn hP) hn c.ne c.eq c.fn c.mo ?_
  refine wpAny_call (codeAny_mono ((F.raw hb .nil) X.A.in1 X.stack s H [.ref a, u] [.ref a, y] _ E hr.in1 I.env0.in1 (.cons rfl (.cons ry .nil)) q) fun r s' hq => ?_)
  cases r with
  | error e => exact hx pins σ H s e s' I hq
  | ok fl =>
    cases fl with
    | ret w =>
      obtain ⟨z', H', I', rz, b, rfl, qz⟩ := I.after hq
      cases (show w = Value.bool b from rz)
      exact ⟨b, rfl, .bl (!b), H', I', rfl, qz⟩
    | next => exact False.elim hq
    | brk => exact False.elim hq
    | cont => exact False.elim hq
structure TyI (K : PySem.W.Frag) (C : Addr) : Prop where
  ca : PySem.W.findIn K (.ref C) "__class__" = some (some (.builtin "object.__class__"))
  cn : PySem.W.specialIn K (.builtin "object.__class__") "__get__" = some (some (.builtin "getset_descriptor.__get__"))
  ct : PySem.W.takesIn K (.builtin "object.__class__") = some true
  cm : PySem.W.mroIn K C (.type "object") = some true
theorem ty_ins {K : PySem.W.Frag} {C a dx : Addr} {H : Hp} {fs : List (Str × V)} (t : TyI K C) (cl : Cls K C) (e : H a = some (.ins C dx fs)) : TyX K H (.ref a) (.ref C) := .base (.ins e cl t.ca t.cn t.ct t.cm)
theorem first_self {K : PySem.W.Frag} {C : Addr} : PySem.W.notFirst K C (.ref C) = true := by simp [PySem.W.notFirst]
theorem kit_self {K : PySem.W.Frag} {C : Addr} : PySem.W.kitOne K (.ref C) (.ref C) = some true := by simp [PySem.W.kitOne]
theorem un_negI (c : Meth X.K C "__neg__" f) (F : FnOk X.prog X.w X.K X.mg X.base CX k f fd ps sp) (hb : Binds X.K fd ps []) (hr : Room k X.A) (hx : Passes CX X E) :
    UnR X (unaryOp .USub) (fun x H Q => ∃ a dx fs, x = .ref a ∧ H a = some (.ins C dx fs) ∧ sp [x] H Q E) := by
  intro pins s σ H x v Q I rx h
  obtain ⟨a, dx, fs, rfl, ha, q⟩ := h
  cases (show v = Value.ref a from rx)
  obtain ⟨mA, J, _⟩ := ins_get I.hok ha
  obtain ⟨od, J, _⟩ := J.look
  obtain ⟨m, hF⟩ := I.fr
  exact PySem.W.ksp_neg hF I.ok.mod.kin J c.at_ c.fn (run_fn (us := [.ref a]) (vs := [.ref a]) F hr hb .nil hx I (.cons rfl .nil) q)
def MDef (R : Addr → Addr → Prop) (P : Program) (w : World) (K : PySem.W.Frag) (mg : Str → Option Value) (base : Heap) (k : Nat) (ps : List Str) (sp : Sp) : Prop :=
  ∃ p f fd, R p f ∧ Binds K fd ps [] ∧ FnOk P w K mg base CX0 k f fd ps sp
end
section
variable {X : Cx} {K : PySem.W.Frag}
theorem call_isiKK (hK : X.K = K) : CallR X (.builtin "isinstance") (rIsi K) := hK ▸ call_isi
end
end Fr
set_option Elab.async false
set_option linter.all false
set_option maxRecDepth 100000
set_option maxHeartbeats 1000000
namespace Fr
open PySem PySem.Spec PyProof.Rows L2
section
variable {X : Cx} {CX : CXT} {C f : Addr} {fd : FuncData} {ps : List Str} {k : Nat} {sp : Sp} {E : XK}
structure BinC (K : PySem.W.Frag) (C : Addr) (m : Str) (f : Addr) : Prop where
  at_ : PySem.W.findIn K (.ref C) m = some (some (.ref f))
  fn : PySem.W.isFn K (.ref f) = true
  sf : PySem.W.selfFirst K C = true
def rBinI (C : Addr) (sp : Sp) (E : XK) : R2 := fun x y H Q => ∃ a b dx dy fx fy, x = .ref a ∧ y = .ref b ∧ H a = some (.ins C dx fx) ∧ H b = some (.ins C dy fy) ∧ sp [x, y] H (fun v H' => (∃ r, v = .ref r) ∧ Q v H') E
theorem op_binI {op : Operator} (c : BinC X.K C (PySem.dunder op.info.2) f) (F : FnOk X.prog X.w X.K X.mg X.base CX k f fd ps sp) (hb : Binds X.K fd ps []) (hr : Room k X.A) (hx : Passes CX X E) : OpR X (binaryOp op) (rBinI C sp E) := by
  intro pins s σ H x y v u Q I rx ry h
  obtain ⟨a, b, dx, dy, fx, fy, rfl, rfl, ha, hbb, q⟩ := h
  cases (show v = Value.ref a from rx)
  cases (show u = Value.ref b from ry)
  obtain ⟨mA, J, _⟩ := ins_get I.hok ha
  obtain ⟨od, J, _⟩ := J.look
  obtain ⟨mB, J2, _⟩ := ins_get I.hok hbb
  obtain ⟨od2, J2, _⟩ := J2.look
  obtain ⟨m, hF⟩ := I.fr
  refine PySem.W.binop_K hF I.ok.mod.kin J J2.type c.sf c.at_ c.fn ?_
  refine wpAny_mono (run_fn (us := [.ref a, .ref b]) (vs := [.ref a, .ref b]) F hr hb .nil hx I (.cons rfl (.cons rfl .nil)) q) (fun w s' z => ?_) fun _ _ x => x
  obtain ⟨z', H', I', rz, ⟨r, rfl⟩, qz⟩ := z
  cases (show w = Value.ref r from rz)
  exact ⟨.ref r, H', I', rfl, qz⟩
def MDefD (R : Addr → Addr → Prop) (P : Program) (w : World) (K : PySem.W.Frag) (mg : Str → Option Value) (base : Heap) (k : Nat) (ps : List Str) (dvs : List V) (sp : Sp) : Prop :=
  ∃ p f fd ds, R p f ∧ Binds K fd ps [] ∧ Vals dvs ds ∧ Binds K fd ps ds ∧ FnOk P w K mg base CX0 k f fd ps sp
variable {K : PySem.W.Frag}
theorem pi_tupK (hK : X.K = K) {tg l : Expr} {tl : TE} (hl : PE X l tl) : PI X tg l (iTup K tl) := hK ▸ pi_tup hl
theorem pi_listK (hK : X.K = K) {tg l : Expr} {tl : TE} (hl : PE X l tl) : PI X tg l (iList K tl) := hK ▸ pi_list hl
theorem ix_tupK (hK : X.K = K) : IxR X (rIxT K) := hK ▸ ix_tup
theorem ix_listK (hK : X.K = K) : IxR X (rIxL K) := hK ▸ ix_list
def rTupOf (K : PySem.W.Frag) : List V → Hp → VK → Prop := fun xs H Q => ∃ p ys, xs = [.ref p] ∧ ((SqL K H p ys ∧ ∀ l, H l = none → Q (.ref l) (upd H l (.tup ys))) ∨ (SqT K H p ys ∧ Q (.ref p) H))
theorem call_tuple_ofK (hK : X.K = K) : CallR X (.type "tuple") (rTupOf K) := hK ▸ call_tuple_of
theorem cr_sumK (hK : X.K = K) (hc : X.calm = true) : CallR X (.builtin "sum") (rSum K) := hK ▸ cr_sum hc
theorem cr_allK (hK : X.K = K) (hc : X.calm = true) : CallR X (.builtin "all") (rAll K) := hK ▸ cr_all hc
end
end Fr
set_option Elab.async false
set_option linter.all false
set_option maxRecDepth 100000
namespace Fr
open PySem PySem.Spec PyProof.Rows L2
set_option maxHeartbeats 1000000 in
theorem meets_en1 {v : Value} {o : Obj} {H : Heap → Prop} (B : Begins v o H) :
    Meets (Builtin.«enumerate.__new__» ⟨[.type "enumerate", v], []⟩) (fun _ R s => H s.heap ∧
      R (.ok (.ret (.ref (s.heap.push o).objs.size))) { s with heap := (s.heap.push o).push { cls := .type "enumerate", data := .fields #[.none, .bool false, .ref s.heap.objs.size, rawInt 0, .none, .none] } }) :=
  .of_wp fun prog w A R s h => by
    obtain ⟨hp, g, d, tk, os⟩ := s; obtain ⟨h1, h⟩ := h
    have hsub := sub_enumerate
    have q1 : ∀ {A' : Around} {E : Value → Shared → Prop} {Q : Value → Shared → Prop}, Q (.ref hp.objs.size) ⟨hp.push o, g, d, tk, os⟩ → wpAny (model prog w) A' (pyIter v) Q E ⟨hp, g, d, tk, os⟩ :=
      fun q => B.iter prog w _ _ ⟨hp, g, d, tk, os⟩ _ h1 q
    wp_walk using q1
    refine wpAny_stack_any fun st => wpAny_pure ?_
    split
    · rename_i c _ _ _ _ _
      cases (c == Value.type "enumerate")
      · wp_walk using q1
        exact ⟨_, rfl, h⟩
      · wp_walk using q1
        exact ⟨_, rfl, h⟩
    · wp_walk using q1
      exact ⟨_, rfl, h⟩
theorem call_en1 {prog : Program} {w : World} {A : Around} {E : Value → Shared → Prop} {s : Shared} {v : Value} {o : Obj} {H : Heap → Prop} {Q : Value → Shared → Prop} (B : Begins v o H) (h1 : H s.heap)
    (h : ∀ h', IsEnum h' (s.heap.objs.size + 1) s.heap.objs.size 0 .none → h'.get? s.heap.objs.size = some o → h'.objs.size = s.heap.objs.size + 2 →
      (∀ b o, s.heap.get? b = some o → h'.get? b = some o) → Q (.ref (s.heap.objs.size + 1)) { s with heap := h' }) :
    wpAny (model prog w) A (call (.type "enumerate") [v]) Q E s := by
  refine callType_new F.called_enumerate (by decide) (F.typeCall_enumerate_1 _) (F.newCall_enumerate_1 _) (fun obj => F.args_object_init_2 obj _) F.entry_enumerate_new (meets_en1 B) ⟨h1, ?_⟩
  have hz : (s.heap.push o).objs.size = s.heap.objs.size + 1 := Heap.size_push ..
  show _ ∧ _
  rw [hz]
  have he : IsEnum ((s.heap.push o).push { cls := .type "enumerate", data := .fields #[.none, .bool false, .ref s.heap.objs.size, rawInt 0, .none, .none] }) (s.heap.objs.size + 1) s.heap.objs.size 0 .none := by
    have := Heap.get?_push_size (s.heap.push o) (o := { cls := .type "enumerate", data := .fields #[.none, .bool false, .ref s.heap.objs.size, rawInt 0, .none, .none] }) rfl
    rw [hz] at this; exact this
  exact ⟨⟨_, he, rfl⟩, h _ he (Heap.get?_push_of_some _ (Heap.get?_push_size _ B.free)) (by rw [Heap.size_push, hz]) fun b o x => Heap.get?_push_of_some _ (Heap.get?_push_of_some _ x)⟩
def IteT (K : PySem.W.Frag) (a : Addr) : It :=
  ⟨fun i H => ∃ (xs : List V) (x : V), SqT K H a xs ∧ xs[i]? = some x, fun i H v H' => ∃ T x, v = .ref T ∧ H T = none ∧ H' = upd H T (.tup [.int (i : Nat), x]) ∧ ∀ xs, SqT K H a xs → xs[i]? = some x, fun i H => ∃ xs : List V, SqT K H a xs ∧ xs.length = i⟩
theorem turn_enumT {P : Program} {w : World} {K : PySem.W.Frag} {elts : List Expr} {kk : Nat} {tpos : Pos} (a e it : Addr) (hae : a ≠ it) :
    Turn P w K (.Tuple elts kk tpos) (IteT K a) [e, it] e (fun i h => (∃ old, IsEnum h e it ((i : Nat) : Int) old) ∧ h.IsTupleIter it a i ∧ e ≠ it) where
  mem := by simp
  obj := fun i h st b hb => by
    obtain ⟨⟨old, he⟩, ⟨o, ho, hc, hd⟩, _⟩ := st
    have e' : b = e ∨ b = it := by simpa using hb
    rcases e' with z | z
    · rw [z]; exact ⟨_, he, fun v q => nomatch q⟩
    · rw [z]; exact ⟨o, ho, fun v q => by rw [hd] at q; cases q⟩
  keep := fun i h h' st k => let ⟨⟨old, he⟩, hi, hne⟩ := st; ⟨⟨old, k e (by simp) _ he⟩, hi.at fun o q => k it (by simp) o q, hne⟩
  item := by
    intro X hP hw hK hc i pins s σ H E I hf st hg
    subst hP hw hK
    obtain ⟨⟨old, he⟩, hit, hne⟩ := st
    obtain ⟨xs, x, hq, hx⟩ := hg
    obtain ⟨its, rv, p, hz⟩ := I.tuple hq
    obtain ⟨u, hu, ru⟩ := rv.get hx
    have hel : e < s.heap.objs.size := Heap.lt_size he
    have hi : i < its.toArray.size := by
      have := (List.getElem?_eq_some_iff.mp hu).1
      simpa using this
    have hea : e ∉ [it, a] := fun z => by
      have z' : e = it ∨ e = a := by simpa using z
      rcases z' with z | z
      · exact hne z
      · obtain ⟨o, ho, hc', _⟩ := id p
        rw [← z, he] at ho
        cases ho
        injection hc' with z2
        exact absurd z2 (by decide)
    have D := Draws.tuple (prog := X.prog) (w := X.w) (A := X.A.in1) (I.ok.hd hc) it a hae its.toArray
    refine wpAny_pyNext_enum_itemC D he ⟨hit, p⟩ hi hne hea fun y h' tk hy ho hit' hT hsz hk => ?_
    obtain rfl : u = y := by
      have hu' : its.toArray[i]? = some u := by simpa using hu
      have hy' : its.toArray[i]? = some y := hy
      rw [hu'] at hy'
      exact Option.some.inj hy'
    refine ⟨_, rfl, wpAny_letOwnedTupleGo_enum (s := { s with heap := h', toks := tk + 1 }) ho fun h'' he' sb => ?_⟩
    have hT2 : h''.get? s.heap.objs.size = some { cls := .type "tuple", data := .seq #[.int i tk, u] } := (sb.2 _ (Nat.ne_of_gt hel)).trans hT
    have new : ObjOk X.prog X.w (upd H s.heap.objs.size (.tup [.int (i : Nat), x])) h'' s.heap.objs.size (.tup [.int (i : Nat), x]) :=
      ⟨by show 2 ≤ sizeLine; decide, [.int i tk, u], .cons ⟨_, rfl⟩ (.cons ru .nil), ⟨_, hT2, rfl, _, rfl⟩⟩
    have I1 : Inv X pins σ (upd H s.heap.objs.size (.tup [.int (i : Nat), x])) { s with heap := h'', toks := tk + 1 } :=
      I.turnedNew (ch := [e, it]) (fun b ob hb q => (sb.2 b (fun z => hb (by simp [z]))).trans (hk b ob (fun z => hb (by simp [z])) (fun z => hb (by simp [z])) q)) hf (Nat.le_refl _) new
    refine ⟨.ref s.heap.objs.size, _, I1, rfl, ⟨_, x, rfl, I.hok.fresh (Nat.le_refl _), rfl, fun ys hy => by rw [I.tuple_inj hy hq]; exact hx⟩, ⟨⟨u, ?_⟩, hit'.1.at fun o q => (sb.2 it (Ne.symm hne)).trans q, hne⟩, fun b hb => ?_⟩
    · have e1 : ((i + 1 : Nat) : Int) = (i : Int) + 1 := by omega
      rw [e1]; exact he'
    · have hb' : b < s.heap.objs.size := by
        have e' : b = e ∨ b = it := by simpa using hb
        rcases e' with z | z
        · rw [z]; exact hel
        · rw [z]; obtain ⟨_, q, _⟩ := hit; exact Heap.lt_size q
      rw [upd_ne (Nat.ne_of_lt hb')]
      exact (hf b hb).1
  done := by
    intro X hP hw hK hc i pins s σ H E I hf st hg
    subst hP hw hK
    obtain ⟨⟨old, he⟩, hit, hne⟩ := st
    obtain ⟨xs, hq, hx⟩ := hg
    obtain ⟨its, rv, p, hz⟩ := I.tuple hq
    obtain ⟨f0, f1, f2, f3, f4, f5⟩ := hf it (by simp)
    have hl := rv.length
    have D := Draws.tuple (prog := X.prog) (w := X.w) (A := X.A.in1) (I.ok.hd hc) it a hae its.toArray
    have hi : its.toArray.size = i := by simp; omega
    exact wpAny_pyNext_enum_endD D he (by rw [hi]; exact ⟨hit, p⟩) fun h' eb => ⟨rfl, I.turned (t' := s.toks) (fun b o hb q => eb b o hb q) f0 f1 f3 f4 f5⟩
  self := fun A i s Q E st h => let ⟨⟨_, he⟩, _⟩ := st; wpAny_pyIter_enum he h
def iEnumT (K : PySem.W.Frag) (ta : TA) : TI := fun σ H R => ta σ H fun vs H1 => ∃ a xs, vs = [.ref a] ∧ SqT K H1 a xs ∧ R (IteT K a) H1
theorem pi_enumT {X : Cx} {e : Expr} {ta : TA} {p pos tpos : Pos} {elts : List Expr} {kk : Nat} (hg : Gl X "enumerate") (hm : X.mg "enumerate" = none) (ha : PA X [e] ta) (hs : starEach [e] X.env = [(false, eval e X.env)] := by rfl) :
    PI X (.Tuple elts kk tpos) (.Call (.Name "enumerate" p) [e] [] pos) (iEnumT X.K ta) := by
  refine ⟨fun pins s σ H R I h => ?_⟩
  refine Call_ (ld_blt I hg hm boot_enumerate (PyProof.Rows.callWith_type1 (thn (ha.run pos pins s σ H _ I h) fun us s1 ⟨vs, H1, I1, r1, q1⟩ => ?_) hs rfl))
  obtain ⟨a, xs, ex, hq, q⟩ := q1
  subst ex
  cases r1 with
  | cons r rr =>
    cases rr
    cases r
    obtain ⟨its, rv, p', hz⟩ := I1.tuple hq
    have hal : a < s1.heap.objs.size := by obtain ⟨o, ho, _⟩ := id p'; exact Heap.lt_size ho
    refine call_en1 (begins_tuple a its.toArray) p' fun h' he hit hsz hk => wpAny_pyIter_enum he ?_
    have I2 : Inv X pins σ H1 { s1 with heap := h' } := I1.kept (t' := s1.toks) hk
    refine ⟨s1.heap.objs.size + 1, [s1.heap.objs.size + 1, s1.heap.objs.size], _, _, H1, rfl, I2, turn_enumT a (s1.heap.objs.size + 1) s1.heap.objs.size (Nat.ne_of_lt hal), ⟨⟨.none, he⟩, ⟨_, hit, rfl, rfl⟩, Nat.succ_ne_self _⟩, fun b hb => ?_, q⟩
    have e' : b = s1.heap.objs.size + 1 ∨ b = s1.heap.objs.size := by simpa using hb
    have hle : s1.heap.objs.size ≤ b := by
      rcases e' with z | z
      · rw [z]; exact Nat.le_add_right _ _
      · rw [z]; exact Nat.le_refl _
    exact I1.fpOk hle (I1.hok.fresh hle)
section
variable {K : PySem.W.Frag} {a b : Addr} {xs ys : List V}
theorem walk_enumT : Walk (IteT K a) xs.length (fun H => SqT K H a xs) (YPair (fun i => some (.int (i : Nat))) fun i => xs[i]?) :=
  ⟨fun i _ hi q => ⟨xs, xs[i], q, by simp [hi]⟩, fun _ q => ⟨xs, q, rfl⟩, fun i H v H' _ q y => by
    obtain ⟨T, x, rfl, hT, rfl, f⟩ := y
    exact ⟨T, _, x, rfl, hT, rfl, rfl, f xs q⟩⟩
theorem walk_zipT (hl : xs.length = ys.length) : Walk (RZ.ItzT K a b) xs.length (fun H => SqT K H a xs ∧ SqT K H b ys) (YPair (fun i => xs[i]?) fun i => ys[i]?) :=
  ⟨fun i _ hi q => ⟨xs, ys, xs[i], ys[i], q.1, q.2, by simp [hi], by simp [← hl, hi]⟩, fun _ q => ⟨xs, ys, q.1, q.2, .inl (Nat.le_refl _)⟩, fun i H v H' _ q y => by
    obtain ⟨T, x, y, rfl, hT, rfl, f1, f2⟩ := y
    exact ⟨T, x, y, rfl, hT, rfl, f1 xs q.1, f2 ys q.2⟩⟩
theorem walk_zipL (hl : xs.length = ys.length) : Walk (Itz K a b) xs.length (fun H => SqL K H a xs ∧ SqL K H b ys) (YPair (fun i => xs[i]?) fun i => ys[i]?) :=
  ⟨fun i _ hi q => ⟨xs, ys, xs[i], ys[i], q.1, q.2, by simp [hi], by simp [← hl, hi]⟩, fun _ q => ⟨xs, ys, q.1, q.2, .inl (Nat.le_refl _)⟩, fun i H v H' _ q y => by
    obtain ⟨T, x, y, rfl, hT, rfl, f1, f2⟩ := y
    exact ⟨T, x, y, rfl, hT, rfl, f1 xs q.1, f2 ys q.2⟩⟩
end
section
variable {S : Addr → Prop} {I : Hp → Prop} {H : Hp} {J : It} {n : Nat} {G : Hp → Prop} {fx fy : Nat → Option V} {g : TG} {tt : TT} {te : TE} {vs : List Nat} {σ : L2.St} {Q : Addr → Hp → Prop}
theorem lcP (w : Walk J n G (YPair fx fy)) (m : Fm S I) (i0 : I H) (hG : ∀ H', Fx S I H H' → G H') (P : Nat → List V → Hp → Prop) (p0 : ∀ D, H D = none → P 0 [] (upd H D (.lst [])))
    (hs : ∀ D i T x y acc H', H D = none → i < n → fx i = some x → fy i = some y → Fx S I H H' → H' D = some (.lst acc) → acc.length ≤ i → P i acc H' → H' T = none → g (.ref T) (wipe σ vs) (upd H' T (.tup [x, y])) fun σ2 H2 => wipe σ2 vs = wipe σ vs ∧ tt σ2 H2 fun b H3 =>
      if b = true then te σ2 H3 fun y H4 => ∃ acc, H4 D = some (.lst acc) ∧ acc.length < sizeLine ∧ Cs S I H P D (i + 1) (upd H4 D (.lst (acc ++ [y]))) else Cs S I H P D (i + 1) H3)
    (q : ∀ D H' acc, H D = none → Fx S I H H' → H' D = some (.lst acc) → P n acc H' → Q D H') :
    ∀ D, H D = none → ∃ W : Nat → Nat → Hp → Prop, (∃ m, W 0 m (upd H D (.lst []))) ∧ ∀ i m H, W i m H →
      (J.stop i H ∧ Q D H) ∨ (J.go i H ∧ ∃ Nx : Hp → Prop, (∀ H', Nx H' → ∃ m', m' < m ∧ W (i + 1) m' H') ∧ ∀ x H', J.yld i H x H' → g x (wipe σ vs) H' fun σ2 H2 => wipe σ2 vs = wipe σ vs ∧ tt σ2 H2 fun b H3 =>
        if b = true then te σ2 H3 fun y H4 => ∃ acc, H4 D = some (.lst acc) ∧ acc.length < sizeLine ∧ Nx (upd H4 D (.lst (acc ++ [y]))) else Nx H3) := fun D hD =>
  lc_it w (Cs S I H P D) ⟨Fx.new m i0 hD, [], upd_same, Nat.le_refl _, p0 D hD⟩ (fun i H' _ p => hG H' p.1)
    (fun i x H' H'' hi p y => by
      obtain ⟨p1, acc, p2, p3, p4⟩ := p
      obtain ⟨T, x, y, rfl, hT, rfl, f1, f2⟩ := y
      exact hs D i T x y acc H' hD hi f1 f2 p1 p2 p3 p4 hT)
    (fun H' p => by
      obtain ⟨p1, acc, p2, p3, p4⟩ := p
      exact q D H' acc hD p1 p2 p4)
theorem for_P (w : Walk J n G (YPair fx fy)) {g : TG} {tb : TS} {D : Ends} {σ : L2.St} {H : Hp} (Pv : Nat → L2.St → Hp → Prop) (h0 : Pv 0 σ H) (hG : ∀ i σ H, i ≤ n → Pv i σ H → G H)
    (hs : ∀ i T x y σ H, i < n → fx i = some x → fy i = some y → Pv i σ H → H T = none → g (.ref T) σ (upd H T (.tup [x, y])) fun σ2 H2 => tb { D with nx := Pv (i + 1), ct := Pv (i + 1), bk := D.nx } σ2 H2) (hd : ∀ σ H, Pv n σ H → D.nx σ H) :
    ∃ W : Nat → Nat → L2.St → Hp → Prop, (∃ m, W 0 m σ H) ∧ ∀ i m σ H, W i m σ H →
      (J.stop i H ∧ D.nx σ H) ∨ (J.go i H ∧ ∃ N : L2.St → Hp → Prop, (∀ σ' H', N σ' H' → ∃ m', m' < m ∧ W (i + 1) m' σ' H') ∧ ∀ x H', J.yld i H x H' → g x σ H' fun σ2 H2 => tb { D with nx := N, ct := N, bk := D.nx } σ2 H2) :=
  for_it w Pv h0 hG (fun i v σ H H' hi p y => by
    obtain ⟨T, x, y, rfl, hT, rfl, f1, f2⟩ := y
    exact hs i T x y σ H hi f1 f2 p hT) hd
end
end Fr
set_option Elab.async false
set_option linter.all false
set_option maxRecDepth 100000
namespace Fr
open PySem PySem.Spec PyProof.Rows L2
def Vat (c : Addr) (H : Hp) : Prop := ∃ x y z : Int, H c = some (.lst [.int x, .int y, .int z])
def Sv (c : Addr) : Addr → Prop := fun b => b = c
theorem fmV (c : Addr) : Fm (Sv c) (Vat c) := by
  constructor
  · intro H D i h e
    obtain ⟨x, y, z, q⟩ := i
    unfold Sv at e
    rw [e, q] at h
    cases h
  · intro H D o n i
    obtain ⟨x, y, z, q⟩ := i
    exact ⟨x, y, z, by rw [upd_ne (fun e => n e.symm)]; exact q⟩
abbrev Fv (c : Addr) : Hp → Hp → Prop := Fx (Sv c) (Vat c)
theorem vat_new {c l : Addr} {H : Hp} {o : HO} (hc : Vat c H) (hl : H l = none) : Vat c (upd H l o) := (fmV c).stay ((fmV c).fresh hc hl) hc
theorem fv_new {c l : Addr} {H : Hp} {o : HO} (hc : Vat c H) (hl : H l = none) : Fv c H (upd H l o) := Fx.new (fmV c) hc hl
theorem fv_ne {c l : Addr} {H : Hp} (hc : Vat c H) (hl : H l = none) : l ≠ c := (fmV c).fresh hc hl
theorem vat_ex {c : Addr} {H H' : Hp} (hc : Vat c H) (e : Ex0 H H') : Vat c H' := by
  obtain ⟨x, y, z, q⟩ := hc
  exact ⟨x, y, z, Ex0.ap e q⟩
theorem fv_ex {c : Addr} {H H' : Hp} (hc : Vat c H) (e : Ex0 H H') : Fv c H H' := ⟨vat_ex hc e, fun b o _ h => Ex0.ap e h⟩
theorem fv_tup {c a : Addr} {H H' : Hp} {xs : List V} (hc : Vat c H) (f : Fv c H H') (h : H a = some (.tup xs)) : H' a = some (.tup xs) := f.2 a _ (fun e => by
  obtain ⟨x, y, z, q⟩ := hc
  unfold Sv at e
  rw [e, q] at h
  cases h) h
theorem ex_fv {p : Addr} {H H1 H2 : Hp} (e : Ex0 H H1) (hp : H p = none) (f : Fv p H1 H2) : Ex0 H H2 := ⟨trivial, fun b o _ h => f.2 b o (fun z => by unfold Sv at z; rw [z, hp] at h; cases h) (Ex0.ap e h)⟩
theorem cut_map (ns : List Int) (lo hi : Option Int) : cutV (ns.map V.int) lo hi = ((ns.drop (HT.sIx (ns.map V.int).length 0 lo)).take (HT.sIx (ns.map V.int).length (ns.map V.int).length hi - HT.sIx (ns.map V.int).length 0 lo)).map V.int := by
  unfold cutV
  rw [← List.map_drop, ← List.map_take]
end Fr
set_option Elab.async false
set_option linter.all false
set_option maxRecDepth 100000
namespace Fr
open PySem PySem.Spec PyProof.Rows L2
def addAt (l : List Int) (k : Nat) (v : Int) : List Int := l.set k (l.getD k 0 + v)
def rowN (l : List Int) (k : Nat) (x : Int) (ys : List Int) : Nat → List Int
  | 0 => l
  | j + 1 => addAt (rowN l k x ys j) (k + j) (x * ys.getD j 0)
def prodN (xs ys : List Int) : Nat → List Int
  | 0 => List.replicate (xs.length + ys.length - 1) 0
  | i + 1 => rowN (prodN xs ys i) i (xs.getD i 0) ys ys.length
def prodL (xs ys : List Int) : List Int := prodN xs ys xs.length
theorem addAt_len (l : List Int) (k : Nat) (v : Int) : (addAt l k v).length = l.length := by unfold addAt; rw [List.length_set]
theorem rowN_len (l : List Int) (k : Nat) (x : Int) (ys : List Int) : ∀ j, (rowN l k x ys j).length = l.length
  | 0 => rfl
  | j + 1 => by rw [rowN, addAt_len, rowN_len l k x ys j]
theorem prodN_len (xs ys : List Int) : ∀ i, (prodN xs ys i).length = xs.length + ys.length - 1
  | 0 => by rw [prodN, List.length_replicate]
  | i + 1 => by rw [prodN, rowN_len, prodN_len xs ys i]
theorem prodL_len (xs ys : List Int) : (prodL xs ys).length = xs.length + ys.length - 1 := prodN_len xs ys _
theorem gD_mem {l : List Int} {k : Nat} (h : k < l.length) : l.getD k 0 ∈ l := by
  rw [List.getD_eq_getElem?_getD, List.getElem?_eq_getElem h]
  exact List.getElem_mem h
theorem getD_le {l : List Int} {m : Nat} (h : ∀ z ∈ l, z.natAbs ≤ m) (k : Nat) : (l.getD k 0).natAbs ≤ m := by
  by_cases hk : k < l.length
  · exact h _ (gD_mem hk)
  · rw [List.getD_eq_getElem?_getD, List.getElem?_eq_none (by omega)]
    exact Nat.zero_le _
theorem rowN_le {l : List Int} {k : Nat} {x : Int} {ys : List Int} {m M : Nat} (h : ∀ z ∈ l, z.natAbs ≤ m) (hy : ∀ y ∈ ys, (x * y).natAbs ≤ M) : ∀ j, j ≤ ys.length → ∀ z ∈ rowN l k x ys j, z.natAbs ≤ m + j * M
  | 0, _ => fun z hz => by have := h z hz; omega
  | j + 1, hj => fun z hz => by
    have ih := rowN_le (k := k) h hy j (by omega)
    have e : (j + 1) * M = j * M + M := by rw [Nat.add_mul, Nat.one_mul]
    rw [rowN] at hz
    unfold addAt at hz
    rcases List.mem_or_eq_of_mem_set hz with q | rfl
    · have := ih z q
      omega
    · have h1 := getD_le ih (k + j)
      have h2 := hy _ (gD_mem (show j < ys.length by omega))
      omega
theorem prodN_le {xs ys : List Int} {M : Nat} (h : ∀ x ∈ xs, ∀ y ∈ ys, (x * y).natAbs ≤ M) : ∀ i, i ≤ xs.length → ∀ z ∈ prodN xs ys i, z.natAbs ≤ i * (ys.length * M)
  | 0, _ => fun z hz => by
    rw [prodN] at hz
    rw [List.eq_of_mem_replicate hz]
    exact Nat.zero_le _
  | i + 1, hi => fun z hz => by
    have ih := prodN_le h i (by omega)
    have e : (i + 1) * (ys.length * M) = i * (ys.length * M) + ys.length * M := by rw [Nat.add_mul, Nat.one_mul]
    rw [prodN] at hz
    rw [e]
    exact rowN_le ih (fun y hy => h _ (gD_mem (by omega)) y hy) _ (Nat.le_refl _) z hz
theorem prodL_B {xs ys : List Int} {a b : Nat} (ha : ∀ x ∈ xs, B a x) (hb : ∀ y ∈ ys, B b y) (hp : 0 < a) : ∀ z ∈ prodL xs ys, B (a + b + xs.length * ys.length) z := fun z hz => by
  have h1 := prodN_le (M := 2 ^ (a + b)) (fun x hx y hy => Nat.le_of_lt (B.mul (ha x hx) (hb y hy)).1) xs.length (Nat.le_refl _) z hz
  refine ⟨?_, by omega⟩
  rw [← Nat.mul_assoc] at h1
  rw [Nat.pow_add 2 (a + b), Nat.mul_comm]
  exact Nat.lt_of_le_of_lt h1 (Nat.mul_lt_mul_of_pos_right Nat.lt_two_pow_self (Nat.two_pow_pos _))
theorem get_map {l : List Int} {k : Nat} (h : k < l.length) : (l.map V.int)[k]? = some (V.int (l.getD k 0)) := by
  rw [List.getElem?_map, List.getElem?_eq_getElem h, List.getD_eq_getElem?_getD, List.getElem?_eq_getElem h]
  rfl
theorem get_D {l : List Int} {k : Nat} {y : V} (h : (l.map V.int)[k]? = some y) : y = V.int (l.getD k 0) ∧ k < l.length := by
  have hk : k < l.length := by
    have := (List.getElem?_eq_some_iff.mp h).1
    rwa [List.length_map] at this
  rw [get_map hk] at h
  exact ⟨(Option.some.inj h).symm, hk⟩
theorem zeros (m : Nat) : (List.replicate m [V.int 0]).flatten = (List.replicate m (0 : Int)).map V.int := by
  induction m with
  | zero => rfl
  | succ m ih => rw [List.replicate_succ, List.replicate_succ, List.flatten_cons, ih]; rfl
def valN (xs : List Int) (x y : Int) : Nat → Int × Int
  | 0 => (0, 1)
  | i + 1 => ((valN xs x y i).1 * x + xs.getD i 0 * (valN xs x y i).2, (valN xs x y i).2 * y)
theorem valN_B {xs : List Int} {x y : Int} (hx : B 200 x) (hy : B 200 y) (h : ∀ z ∈ xs, B 200 z) : ∀ i, i ≤ 8 → B (1 + 3000 * i) (valN xs x y i).1 ∧ B (1 + 200 * i) (valN xs x y i).2
  | 0, _ => ⟨⟨by show (0 : Int).natAbs < 2 ^ 1; decide, by decide⟩, ⟨by show (1 : Int).natAbs < 2 ^ 1; decide, by decide⟩⟩
  | i + 1, hi => by
    obtain ⟨h1, h2⟩ := valN_B hx hy h i (by omega)
    have h3 : B 200 (xs.getD i 0) := ⟨Nat.lt_of_le_of_lt (getD_le (m := 2 ^ 200 - 1) (fun z hz => Nat.le_sub_one_of_lt (h z hz).1) i) (by decide), by decide⟩
    rw [valN]
    exact ⟨(B.add (B.mul h1 hx) (B.mul h3 h2)).mono (by omega), (B.mul h2 hy).mono (by omega)⟩
def partN (n : Nat) (e p q r s : Int) (i : Nat) : Nat → List Int
  | 0 => [e]
  | t + 1 => prodL (partN n e p q r s i t) (if (0 : Int) + (t : Int) < ((n : Int) - 1) - (i : Int) then [p, r] else [q, s])
def putN (row : List Int) (p q r s : Int) : Nat → List Int
  | 0 => List.replicate row.length 0
  | i + 1 => List.zipWith (· + ·) (putN row p q r s i) (partN row.length (row.getD i 0) p q r s i (row.length - 1))
theorem partN_len (n : Nat) (e p q r s : Int) (i : Nat) : ∀ t, (partN n e p q r s i t).length = t + 1
  | 0 => rfl
  | t + 1 => by
    rw [partN, prodL_len, partN_len n e p q r s i t]
    split <;> rfl
theorem partN_B {n : Nat} {e p q r s : Int} {i : Nat} (he : B 400 e) (hp : B 400 p) (hq : B 400 q) (hr : B 400 r) (hs : B 400 s) : ∀ t, t ≤ 10 → ∀ z ∈ partN n e p q r s i t, B (400 + 500 * t) z
  | 0, _ => fun z hz => by
    rw [partN] at hz
    have : z = e := by simpa using hz
    rw [this]
    exact he
  | t + 1, ht => fun z hz => by
    have ih := partN_B (n := n) (i := i) he hp hq hr hs t (by omega)
    rw [partN] at hz
    refine B.mono (prodL_B (a := 400 + 500 * t) (b := 400) ih (fun y hy => ?_) (by omega) z hz) ?_
    · split at hy <;> simp only [List.mem_cons, List.mem_nil_iff, or_false] at hy <;> rcases hy with rfl | rfl <;> assumption
    · rw [partN_len]
      split <;> simp <;> omega
theorem putN_len (row : List Int) (p q r s : Int) (h : row ≠ []) : ∀ i, (putN row p q r s i).length = row.length
  | 0 => by rw [putN, List.length_replicate]
  | i + 1 => by
    have := List.length_pos_iff.mpr h
    rw [putN, List.length_zipWith, putN_len row p q r s h i, partN_len]
    omega
theorem mem_zip {xs ys : List Int} {z : Int} (h : z ∈ List.zipWith (· + ·) xs ys) : ∃ x ∈ xs, ∃ y ∈ ys, z = x + y := by
  obtain ⟨k, hk, e⟩ := List.getElem_of_mem h
  rw [List.getElem_zipWith] at e
  rw [List.length_zipWith] at hk
  exact ⟨_, List.getElem_mem (by omega), _, List.getElem_mem (by omega), e.symm⟩
theorem putN_B {row : List Int} {p q r s : Int} (h : ∀ e ∈ row, B 400 e) (hl : row.length ≤ 11) (hp : B 400 p) (hq : B 400 q) (hr : B 400 r) (hs : B 400 s) : ∀ i, i ≤ row.length → ∀ z ∈ putN row p q r s i, B (1 + 6000 * i) z
  | 0, _ => fun z hz => by
    rw [putN] at hz
    rw [List.eq_of_mem_replicate hz]
    exact ⟨by decide, by decide⟩
  | i + 1, hi => fun z hz => by
    rw [putN] at hz
    obtain ⟨u, hu, v, hv, rfl⟩ := mem_zip hz
    exact (B.add (putN_B h hl hp hq hr hs i (by omega) u hu) (partN_B (h _ (gD_mem (by omega))) hp hq hr hs _ (by omega) v hv)).mono (by omega)
end Fr
set_option Elab.async false
set_option linter.all false
set_option maxRecDepth 100000
namespace K05M
def fv (a b c d x y : Int) : Int := a * x * x * x + b * x * x * y + c * x * y * y + d * y * y * y
def fdisc (a b c d : Int) : Int := b * b * c * c - 4 * a * c * c * c - 4 * b * b * b * d - 27 * a * a * d * d + 18 * a * b * c * d
def fl2 (a b c d p q r s : Int) : Int := 3 * a * p * p * r + b * p * (p * s + 2 * q * r) + c * q * (2 * p * s + q * r) + 3 * d * q * q * s
def fl3 (a b c d p q r s : Int) : Int := 3 * a * p * r * r + b * r * (2 * p * s + q * r) + c * s * (p * s + 2 * q * r) + 3 * d * q * s * s
theorem put1 (a b c d p q r s i j : Int) : fv (fv a b c d p q) (fl2 a b c d p q r s) (fl3 a b c d p q r s) (fv a b c d r s) i j = fv a b c d (i * p + j * r) (i * q + j * s) := by
  unfold fv fl2 fl3
  grind
theorem put2 (a b c d p q r s i j k m : Int) : fl2 (fv a b c d p q) (fl2 a b c d p q r s) (fl3 a b c d p q r s) (fv a b c d r s) i j k m = fl2 a b c d (i * p + j * r) (i * q + j * s) (k * p + m * r) (k * q + m * s) := by
  unfold fv fl2 fl3
  grind
theorem put3 (a b c d p q r s i j k m : Int) : fl3 (fv a b c d p q) (fl2 a b c d p q r s) (fl3 a b c d p q r s) (fv a b c d r s) i j k m = fl3 a b c d (i * p + j * r) (i * q + j * s) (k * p + m * r) (k * q + m * s) := by
  unfold fv fl2 fl3
  grind
theorem disc (a b c d p q r s : Int) : fdisc (fv a b c d p q) (fl2 a b c d p q r s) (fl3 a b c d p q r s) (fv a b c d r s) = (p * s - q * r) * (p * s - q * r) * (p * s - q * r) * (p * s - q * r) * (p * s - q * r) * (p * s - q * r) * fdisc a b c d := by
  unfold fdisc fv fl2 fl3
  grind
theorem fv_mul (e a b c d x y : Int) : fv (e * a) (e * b) (e * c) (e * d) x y = e * fv a b c d x y := by unfold fv; grind
theorem fl2_mul (e a b c d p q r s : Int) : fl2 (e * a) (e * b) (e * c) (e * d) p q r s = e * fl2 a b c d p q r s := by unfold fl2; grind
theorem fl3_mul (e a b c d p q r s : Int) : fl3 (e * a) (e * b) (e * c) (e * d) p q r s = e * fl3 a b c d p q r s := by unfold fl3; grind
theorem disc_neg (a b c d : Int) : fdisc (-1 * a) (-1 * b) (-1 * c) (-1 * d) = fdisc a b c d := by unfold fdisc; grind
theorem det_mul (p q r s i j k m : Int) : (i * p + j * r) * (k * q + m * s) - (i * q + j * s) * (k * p + m * r) = (i * m - j * k) * (p * s - q * r) := by grind
theorem fv_one (a b c d : Int) : fv a b c d 1 0 = a ∧ fv a b c d 0 1 = d ∧ fl2 a b c d 1 0 0 1 = b ∧ fl3 a b c d 1 0 0 1 = c := by
  unfold fv fl2 fl3
  refine ⟨?_, ?_, ?_, ?_⟩ <;> grind
theorem und (p q r s e : Int) (he : e = p * s - q * r) (h : e = 1 ∨ e = -1) : (e * s) * p + (-e * q) * r = 1 ∧ (e * s) * q + (-e * q) * s = 0 ∧ (-e * r) * p + (e * p) * r = 0 ∧ (-e * r) * q + (e * p) * s = 1 := by
  have h1 : e * e = 1 := by rcases h with rfl | rfl <;> decide
  refine ⟨?_, ?_, ?_, ?_⟩ <;> grind
end K05M
set_option Elab.async false
set_option linter.all false
set_option maxRecDepth 100000
namespace Fr
open PySem PySem.Spec PyProof.Rows L2
set_option maxHeartbeats 1000000
@[reducible] def SqK (k : Bool) (K : PySem.W.Frag) (H : Hp) (a : Addr) (xs : List V) : Prop := match k with
  | true => SqT K H a xs
  | false => SqL K H a xs
@[reducible] def IterK (k : Bool) (h : Heap) (it l : Addr) (i : Nat) : Prop := match k with
  | true => h.IsTupleIter it l i
  | false => h.IsListIter it l i
@[reducible] def HasK (k : Bool) (h : Heap) (l : Addr) (items : Array Value) : Prop := match k with
  | true => h.IsTuple l items
  | false => h.IsList l items
theorem IterK.cell {k : Bool} {h : Heap} {it l : Addr} {i : Nat} (q : IterK k h it l i) : ∃ o, h.get? it = some o ∧ ∀ v, o.data ≠ .cell v := by
  cases k <;> obtain ⟨o, e, _, d⟩ := q <;> exact ⟨o, e, fun v z => by rw [d] at z; cases z⟩
theorem IterK.look {k : Bool} {h h' : Heap} {it l : Addr} {i : Nat} (q : IterK k h it l i) (e : ∀ o, h.get? it = some o → h'.get? it = some o) : IterK k h' it l i := by
  cases k
  · exact Heap.IsListIter.at q fun o z => e o z
  · exact Heap.IsTupleIter.at q fun o z => e o z
theorem drawsK {k : Bool} {prog : Program} {w : World} {A : Around} (hh : A.handled = none) (it l : Addr) (hne : l ≠ it) (items : Array Value) :
    Draws prog w A it [it, l] items.size (fun i v => items[i]? = some v) (fun i h => IterK k h it l i ∧ HasK k h l items) := by
  cases k
  · exact Draws.list hh it l hne items
  · exact Draws.tuple hh it l hne items
section
variable {X : Cx} {pins : List (Addr × Obj)} {σ : L2.St} {H : Hp} {s : Shared}
theorem hasK (I : Inv X pins σ H s) {k : Bool} {a : Addr} {xs : List V} (q : SqK k X.K H a xs) : ∃ its : List Value, Vals xs its ∧ HasK k s.heap a its.toArray ∧ a < s.heap.objs.size := by
  cases k
  · obtain ⟨its, rv, p, _⟩ := I.list q
    exact ⟨its, rv, p.isList, p.lt⟩
  · obtain ⟨its, rv, p, _⟩ := I.tuple q
    exact ⟨its, rv, p, by obtain ⟨o, e, _⟩ := id p; exact Heap.lt_size e⟩
theorem sqK_inj (I : Inv X pins σ H s) {k : Bool} {a : Addr} {xs ys : List V} (q : SqK k X.K H a xs) (r : SqK k X.K H a ys) : xs = ys := by
  cases k
  · exact I.list_inj q r
  · exact I.tuple_inj q r
end
def ItzK (K : PySem.W.Frag) (k1 k2 : Bool) (a b : Addr) : It where
  go := fun i H => ∃ (xs ys : List V) (x y : V), SqK k1 K H a xs ∧ SqK k2 K H b ys ∧ xs[i]? = some x ∧ ys[i]? = some y
  yld := fun i H v H' => ∃ T x y, v = .ref T ∧ H T = none ∧ H' = upd H T (.tup [x, y]) ∧ (∀ xs, SqK k1 K H a xs → xs[i]? = some x) ∧ ∀ ys, SqK k2 K H b ys → ys[i]? = some y
  stop := fun i H => ∃ xs ys : List V, SqK k1 K H a xs ∧ SqK k2 K H b ys ∧ xs.length = i ∧ ys.length = i
theorem in5 {c z TI TO i1 i2 : Addr} (h : c ∈ [z, TI, TO, i1, i2]) : c = z ∨ c = TI ∨ c = TO ∨ c = i1 ∨ c = i2 := by simpa using h
theorem turn_zipK {P : Program} {w : World} {K : PySem.W.Frag} {elts : List Expr} {kk : Nat} {tpos : Pos} {k1 k2 : Bool} {a b z TI TO i1 i2 : Addr} (S : ZipSep2 z TI TO i1 i2 [i1, a] [i2, b]) (na : a ≠ i1) (nb : b ≠ i2) :
    Turn P w K (.Tuple elts kk tpos) (ItzK K k1 k2 a b) [z, TI, TO, i1, i2] z (fun i h => IsZip h z TI TO .none ∧ IsTupOf2 h TI (.ref i1) (.ref i2) ∧ (∃ x y, IsTupOf2 h TO x y) ∧ IterK k1 h i1 a i ∧ IterK k2 h i2 b i) where
  mem := by simp
  obj := fun i h st c hc => by
    obtain ⟨hz, hTI, ⟨x, y, hTO⟩, q1, q2⟩ := st
    rcases in5 hc with q | q | q | q | q <;> rw [q]
    · exact ⟨_, hz, fun v q => nomatch q⟩
    · exact ⟨_, hTI, fun v q => nomatch q⟩
    · exact ⟨_, hTO, fun v q => nomatch q⟩
    · exact q1.cell
    · exact q2.cell
  keep := fun i h h' st kp => by
    obtain ⟨hz, hTI, ⟨x, y, hTO⟩, q1, q2⟩ := st
    exact ⟨kp z (by simp) _ hz, kp TI (by simp) _ hTI, ⟨x, y, kp TO (by simp) _ hTO⟩, q1.look fun o q => kp i1 (by simp) o q, q2.look fun o q => kp i2 (by simp) o q⟩
  item := by
    intro X hP hw hK hc i pins s σ H E I hf st hg
    subst hP hw hK
    obtain ⟨hz, hTI, ⟨x0, y0, hTO⟩, q1, q2⟩ := st
    obtain ⟨xs, ys, x, y, hqx, hqy, hx, hy⟩ := hg
    obtain ⟨its1, rv1, p1, _⟩ := hasK I hqx
    obtain ⟨its2, rv2, p2, _⟩ := hasK I hqy
    obtain ⟨u1, hu1, ru1⟩ := rv1.get hx
    obtain ⟨u2, hu2, ru2⟩ := rv2.get hy
    have hzl : z < s.heap.objs.size := Heap.lt_size hz
    have D1 := drawsK (k := k1) (prog := X.prog) (w := X.w) (A := X.A.in1) (I.ok.hd hc) i1 a na its1.toArray
    have D2 := drawsK (k := k2) (prog := X.prog) (w := X.w) (A := X.A.in1) (I.ok.hd hc) i2 b nb its2.toArray
    have l1 : i < its1.toArray.size := by
      have := (List.getElem?_eq_some_iff.mp hu1).1
      simpa using this
    have l2 : i < its2.toArray.size := by
      have := (List.getElem?_eq_some_iff.mp hu2).1
      simpa using this
    refine wpAny_pyNext_zipD2_item S D1 D2 hz hTI hTO ⟨q1, p1⟩ ⟨q2, p2⟩ l1 l2 fun y1 y2 h' tk e1 e2 z' TO' st1 st2 hT hsz hk => ?_
    obtain rfl : u1 = y1 := by
      have a1 : its1.toArray[i]? = some u1 := by simpa using hu1
      have a2 : its1.toArray[i]? = some y1 := e1
      rw [a1] at a2
      exact Option.some.inj a2
    obtain rfl : u2 = y2 := by
      have a1 : its2.toArray[i]? = some u2 := by simpa using hu2
      have a2 : its2.toArray[i]? = some y2 := e2
      rw [a1] at a2
      exact Option.some.inj a2
    refine ⟨_, rfl, wpAny_letOwnedTupleGo_zip (s := { s with heap := h', toks := tk }) z' fun h'' z'' sb => ?_⟩
    have hT2 : h''.get? s.heap.objs.size = some { cls := .type "tuple", data := .seq #[u1, u2] } := (sb.2 _ (Nat.ne_of_gt hzl)).trans hT
    have new : ObjOk X.prog X.w (upd H s.heap.objs.size (.tup [x, y])) h'' s.heap.objs.size (.tup [x, y]) :=
      ⟨by show 2 ≤ sizeLine; decide, [u1, u2], .cons ru1 (.cons ru2 .nil), ⟨_, hT2, rfl, _, rfl⟩⟩
    have I1 : Inv X pins σ (upd H s.heap.objs.size (.tup [x, y])) { s with heap := h'', toks := tk } :=
      I.turnedNew (ch := [z, TI, TO, i1, i2]) (fun c o hb q => (sb.2 c (fun e => hb (by simp [e]))).trans (hk c o (fun e => hb (by simp [e])) (fun e => hb (by simp [e])) (fun e => hb (by simp [e])) (fun e => hb (by simp [e])) q)) hf (Nat.le_refl _) new
    refine ⟨.ref s.heap.objs.size, _, I1, rfl, ⟨_, x, y, rfl, I.hok.fresh (Nat.le_refl _), rfl, fun l hl => by rw [sqK_inj I hl hqx]; exact hx, fun l hl => by rw [sqK_inj I hl hqy]; exact hy⟩, ⟨z'', ?_, ⟨u1, u2, ?_⟩, ?_, ?_⟩, fun c hcm => ?_⟩
    · exact (sb.2 _ S.TIz).trans (hk _ _ S.TIz S.TITO S.TIi1 S.TIi2 hTI)
    · exact (sb.2 _ S.TOz).trans TO'
    · exact st1.1.look fun o q => (sb.2 _ (Ne.symm S.zi1)).trans q
    · exact st2.1.look fun o q => (sb.2 _ (Ne.symm S.zi2)).trans q
    · have hlt : c < s.heap.objs.size := by
        rcases in5 hcm with q | q | q | q | q <;> rw [q]
        · exact hzl
        · exact Heap.lt_size hTI
        · exact Heap.lt_size hTO
        · obtain ⟨_, e, _⟩ := q1.cell; exact Heap.lt_size e
        · obtain ⟨_, e, _⟩ := q2.cell; exact Heap.lt_size e
      rw [upd_ne (Nat.ne_of_lt hlt)]
      exact (hf c hcm).1
  done := by
    intro X hP hw hK hc i pins s σ H E I hf st hg
    subst hP hw hK
    obtain ⟨hz, hTI, ⟨x0, y0, hTO⟩, q1, q2⟩ := st
    obtain ⟨xs, ys, hqx, hqy, ex, ey⟩ := hg
    obtain ⟨its1, rv1, p1, _⟩ := hasK I hqx
    obtain ⟨its2, rv2, p2, _⟩ := hasK I hqy
    have D1 := drawsK (k := k1) (prog := X.prog) (w := X.w) (A := X.A.in1) (I.ok.hd hc) i1 a na its1.toArray
    have D2 := drawsK (k := k2) (prog := X.prog) (w := X.w) (A := X.A.in1) (I.ok.hd hc) i2 b nb its2.toArray
    have l1 : its1.toArray.size = i := by have := rv1.length; simp; omega
    have l2 : its2.toArray.size = i := by have := rv2.length; simp; omega
    exact wpAny_pyNext_zipD2_end S D1 D2 hz hTI hTO ⟨q1, p1⟩ ⟨q2, p2⟩ (by omega) (by omega) (.inl (by omega)) fun h' tk hk => ⟨rfl, I.turnedL (ch := [z, TI, TO, i1, i2]) (fun c o hb q =>
      hk c o (fun e => hb (by simp [e])) (fun e => hb (by simp [e])) (fun e => hb (by simp [e])) (fun e => hb (by simp [e])) q) hf⟩
  self := fun A i s Q E st h => wpAny_pyIter_zip st.1 h
def iZipK (K : PySem.W.Frag) (k1 k2 : Bool) (ta : TA) : TI := fun σ H R => ta σ H fun vs H1 => ∃ a b xs ys, vs = [.ref a, .ref b] ∧ SqK k1 K H1 a xs ∧ SqK k2 K H1 b ys ∧ R (ItzK K k1 k2 a b) H1
theorem pi_zipK (k1 k2 : Bool) {X : Cx} {e e2 : Expr} {ta : TA} {p pos tpos : Pos} {elts : List Expr} {kk : Nat} (hg : Gl X "zip") (hm : X.mg "zip" = none) (ha : PA X [e, e2] ta)
    (hs : starEach [e, e2] X.env = (false, eval e X.env) :: starEach [e2] X.env := by rfl) (hpl : (backTo pos (starEach [e2] X.env)).any (·.1) = false := by rfl) :
    PI X (.Tuple elts kk tpos) (.Call (.Name "zip" p) [e, e2] [] pos) (iZipK X.K k1 k2 ta) := by
  refine ⟨fun pins s σ H R I h => Call_ (ld_blt I hg hm PyProof.Rows.boot_zip (PyProof.Rows.callWith_type1 (thn (ha.run pos pins s σ H _ I h) fun us s1 ⟨vs, H1, I1, r1, a, b, xs, ys, ex, hqx, hqy, q⟩ => ?_) hs hpl))⟩
  subst ex
  cases r1 with
  | cons r rr =>
    cases rr with
    | cons r' rr =>
      cases rr
      cases r
      cases r'
      obtain ⟨its1, rv1, p1, b1⟩ := hasK I1 hqx
      obtain ⟨its2, rv2, p2, b2⟩ := hasK I1 hqy
      generalize hn : s1.heap.objs.size = n at b1 b2
      have fin : ∀ h', IsZip h' (n + 4) (n + 2) (n + 3) .none → IsTupOf2 h' (n + 2) (.ref n) (.ref (n + 1)) → IsTupOf2 h' (n + 3) .none .none → IterK k1 h' n a 0 → IterK k2 h' (n + 1) b 0 →
          (∀ c o, s1.heap.get? c = some o → h'.get? c = some o) → wpAny (model X.prog X.w) X.A (pyIter (.ref (n + 4))) (PIE X pins σ (.Tuple elts kk tpos) R) X.xe { s1 with heap := h' } := fun h' hz hTI hTO h1 h2 hk => by
        refine wpAny_pyIter_zip hz ?_
        have I2 : Inv X pins σ H1 { s1 with heap := h' } := I1.kept (t' := s1.toks) hk
        have S : ZipSep2 (n + 4) (n + 2) (n + 3) n (n + 1) [n, a] [n + 1, b] := by
          have a1 : ∀ j : Nat, (n + j : Nat) ≠ a := fun j e => Nat.lt_irrefl n (Nat.lt_of_le_of_lt (Nat.le_add_right n j) (by rw [e]; exact b1))
          have a2 : ∀ j : Nat, (n + j : Nat) ≠ b := fun j e => Nat.lt_irrefl n (Nat.lt_of_le_of_lt (Nat.le_add_right n j) (by rw [e]; exact b2))
          have q : ∀ i j : Nat, i ≠ j → (n + i : Nat) ≠ n + j := fun i j h e => h (by omega)
          have o2 : ∀ {x y z : Addr}, x ≠ y → x ≠ z → x ∉ [y, z] := fun h1 h2 h => by simp [h1, h2] at h
          exact ⟨q 2 4 (by decide), q 3 4 (by decide), q 2 3 (by decide), q 2 0 (by decide), by simp, o2 (q 4 0 (by decide)) (a1 4), o2 (q 3 0 (by decide)) (a1 3), q 2 1 (by decide), by simp, o2 (q 4 1 (by decide)) (a2 4), o2 (q 3 1 (by decide)) (a2 3), o2 (q 0 1 (by decide)) (a2 0), o2 (q 1 0 (by decide)) (a1 1)⟩
        refine ⟨n + 4, [n + 4, n + 2, n + 3, n, n + 1], _, ItzK X.K k1 k2 a b, H1, rfl, I2, turn_zipK S (Nat.ne_of_lt b1) (Nat.ne_of_lt (Nat.lt_succ_of_lt b2)), ⟨hz, hTI, ⟨_, _, hTO⟩, h1, h2⟩, fun c hcm => ?_, q⟩
        have hle : s1.heap.objs.size ≤ c := by
          rcases in5 hcm with z | z | z | z | z <;> rw [z] <;> omega
        exact I1.fpOk hle (I1.hok.fresh hle)
      subst hn
      cases k1 <;> cases k2
      · exact zip_begins2 (begins_list a its1.toArray) (begins_list b its2.toArray) p1 p2 fun h' hz hTI hTO h1 h2 _ hk => fin h' hz hTI hTO ⟨_, h1, rfl, rfl⟩ ⟨_, h2, rfl, rfl⟩ hk
      · exact zip_begins2 (begins_list a its1.toArray) (begins_tuple b its2.toArray) p1 p2 fun h' hz hTI hTO h1 h2 _ hk => fin h' hz hTI hTO ⟨_, h1, rfl, rfl⟩ ⟨_, h2, rfl, rfl⟩ hk
      · exact zip_begins2 (begins_tuple a its1.toArray) (begins_list b its2.toArray) p1 p2 fun h' hz hTI hTO h1 h2 _ hk => fin h' hz hTI hTO ⟨_, h1, rfl, rfl⟩ ⟨_, h2, rfl, rfl⟩ hk
      · exact zip_begins2 (begins_tuple a its1.toArray) (begins_tuple b its2.toArray) p1 p2 fun h' hz hTI hTO h1 h2 _ hk => fin h' hz hTI hTO ⟨_, h1, rfl, rfl⟩ ⟨_, h2, rfl, rfl⟩ hk
theorem walk_zipK {K : PySem.W.Frag} {k1 k2 : Bool} {a b : Addr} {xs ys : List V} (hl : xs.length = ys.length) : Walk (ItzK K k1 k2 a b) xs.length (fun H => SqK k1 K H a xs ∧ SqK k2 K H b ys) (YPair (fun i => xs[i]?) fun i => ys[i]?) :=
  ⟨fun i _ hi q => ⟨xs, ys, xs[i], ys[i], q.1, q.2, by simp [hi], by simp [← hl, hi]⟩, fun _ q => ⟨xs, ys, q.1, q.2, rfl, hl.symm⟩, fun i H v H' _ q y => by
    obtain ⟨T, x, y, rfl, hT, rfl, f1, f2⟩ := y
    exact ⟨T, x, y, rfl, hT, rfl, f1 xs q.1, f2 ys q.2⟩⟩
end Fr
set_option Elab.async false
set_option linter.all false
set_option maxRecDepth 100000
namespace Fr
open PySem PySem.Spec PyProof.Rows L2
def CDivNW (_ j : Int) : Prop := j ≠ 0 ∧ j.natAbs.log2 < 9000
theorem op_fdivNW {X : Cx} : OpR X (binaryOp .FloorDiv) (rI CDivNW fun i j => .int (i.fdiv j)) := opI fun _ _ _ _ _ _ _ hc q => floordiv_int hc.1 q (.inl (PyProof.noPylong_of_log2 hc.2))
structure Bz (M : Nat) (p q one other u v u' v' : Int) : Prop where
  o : 0 ≤ other
  pos : 0 ≤ one ∨ (u = 1 ∧ u' = 0)
  e1 : u * p + v * q = one
  e2 : u' * p + v' * q = other
  d : one * u' - other * u = q ∨ one * u' - other * u = -q
  s : (0 ≤ u ∧ u' ≤ 0) ∨ (u ≤ 0 ∧ 0 ≤ u')
  bu : u.natAbs ≤ q.natAbs + 1
  bu' : u'.natAbs ≤ q.natAbs + 1
  g : Nat.gcd one.natAbs other.natAbs = 1
  b1 : one.natAbs ≤ M
  b2 : other.natAbs ≤ M
  z : q = 0 → other = 0 ∧ v = 0
theorem Bz.init {M : Nat} {p q : Int} (hq : 0 ≤ q) (g : Nat.gcd p.natAbs q.natAbs = 1) (h1 : p.natAbs ≤ M) (h2 : q.natAbs ≤ M) : Bz M p q p q 1 0 0 1 :=
  ⟨hq, .inr ⟨rfl, rfl⟩, by simp, by simp, .inr (by simp), .inl ⟨by decide, by decide⟩, by show 1 ≤ _; omega, by show 0 ≤ _; omega, g, h1, h2, fun h => ⟨h, rfl⟩⟩
theorem Bz.step {M : Nat} {p q one other u v u' v' : Int} (h : Bz M p q one other u v u' v') (ho : other ≠ 0) :
    Bz M p q other (one - one / other * other) u' v' (u - one / other * u') (v - one / other * v') ∧ (one - one / other * other).toNat < other.toNat := by
  have o0 : 0 < other := by have := h.o; omega
  have hr : one - one / other * other = one % other := by
    have := Int.emod_add_mul_ediv one other
    rw [Int.mul_comm other] at this
    omega
  have r0 := Int.emod_nonneg one ho
  have r1 := Int.emod_lt_of_pos one o0
  have s' : (0 ≤ u' ∧ u - one / other * u' ≤ 0) ∨ (u' ≤ 0 ∧ 0 ≤ u - one / other * u') := by
    rcases h.pos with hp | ⟨rfl, rfl⟩
    · have t0 : 0 ≤ one / other := Int.ediv_nonneg hp h.o
      rcases h.s with ⟨a, b⟩ | ⟨a, b⟩
      · right
        have := Int.mul_nonneg t0 (show 0 ≤ -u' by omega)
        rw [Int.mul_neg] at this
        exact ⟨b, by omega⟩
      · left
        have := Int.mul_nonneg t0 b
        exact ⟨b, by omega⟩
    · right
      simp
  have dd : other * (u - one / other * u') - (one - one / other * other) * u' = -(one * u' - other * u) := by grind
  have d' : other * (u - one / other * u') - (one - one / other * other) * u' = q ∨ other * (u - one / other * u') - (one - one / other * other) * u' = -q := by
    rw [dd]
    rcases h.d with e | e <;> rw [e]
    · exact .inr rfl
    · exact .inl (by omega)
  have bu'' : (u - one / other * u').natAbs ≤ q.natAbs + 1 := by
    rw [hr] at d'
    generalize u - one / other * u' = w at *
    have k1 : other * w - (one % other) * u' = q ∨ other * w - (one % other) * u' = -q := d'
    rcases s' with ⟨a, b⟩ | ⟨a, b⟩
    · have m1 := Int.mul_nonneg r0 a
      have m2 := Int.mul_le_mul_of_nonneg_right (show (1 : Int) ≤ other by omega) (show 0 ≤ -w by omega)
      rw [Int.one_mul, Int.mul_neg] at m2
      omega
    · have m1 := Int.mul_nonneg r0 (show 0 ≤ -u' by omega)
      have m2 := Int.mul_le_mul_of_nonneg_right (show (1 : Int) ≤ other by omega) b
      rw [Int.one_mul] at m2
      rw [Int.mul_neg] at m1
      omega
  have gg : Nat.gcd other.natAbs (one - one / other * other).natAbs = 1 := by
    have h1 : Nat.gcd other.natAbs (one - one / other * other).natAbs ∣ other.natAbs := Nat.gcd_dvd_left _ _
    have h2 : Nat.gcd other.natAbs (one - one / other * other).natAbs ∣ (one - one / other * other).natAbs := Nat.gcd_dvd_right _ _
    generalize Nat.gcd other.natAbs (one - one / other * other).natAbs = k at *
    have i1 := Int.ofNat_dvd_left.mpr h1
    have i2 := Int.ofNat_dvd_left.mpr h2
    have i3 : (k : Int) ∣ one := by
      have := Int.dvd_add i2 (Int.dvd_mul_of_dvd_right i1 (b := one / other))
      rwa [show one - one / other * other + one / other * other = one by omega] at this
    have i4 : k ∣ Nat.gcd one.natAbs other.natAbs := Nat.dvd_gcd (Int.ofNat_dvd_left.mp i3) h1
    rw [h.g] at i4
    exact Nat.dvd_one.mp i4
  refine ⟨⟨by rw [hr]; exact r0, .inl h.o, h.e2, ?_, d', s', h.bu', bu'', gg, h.b2, ?_, fun z => absurd (h.z z).1 ho⟩, ?_⟩
  · have a := h.e1
    have b := h.e2
    generalize one / other = t at *
    rw [← a, ← b]
    grind
  · rw [hr]
    have := h.b2
    omega
  · rw [hr]
    omega
theorem Bz.fin {M : Nat} {p q one u v u' v' : Int} (h : Bz M p q one 0 u v u' v') (hp : p.natAbs ≤ M) : (p * u - q * (0 - v) = 1 ∨ p * u - q * (0 - v) = -1) ∧ u.natAbs ≤ q.natAbs + 1 ∧ v.natAbs ≤ M + (q.natAbs + 1) * M := by
  have g := h.g
  rw [show (0 : Int).natAbs = 0 from rfl, Nat.gcd_zero_right] at g
  have e := h.e1
  refine ⟨?_, h.bu, ?_⟩
  · have : p * u - q * (0 - v) = one := by rw [← e]; grind
    rw [this]
    omega
  · by_cases hq : q = 0
    · rw [(h.z hq).2]
      exact Nat.zero_le _
    · have h1 : v.natAbs ≤ (v * q).natAbs := by
        rw [Int.natAbs_mul]
        exact Nat.le_mul_of_pos_right _ (by omega)
      have h2 : v * q = one - u * p := by omega
      have h3 : (u * p).natAbs ≤ (q.natAbs + 1) * M := by
        rw [Int.natAbs_mul]
        exact Nat.mul_le_mul h.bu hp
      have h4 := h.b1
      rw [h2] at h1
      omega
theorem Bz.bv {M : Nat} {p q one other u v u' v' : Int} (h : Bz M p q one other u v u' v') (ho : other ≠ 0) (hp : p.natAbs ≤ M) : v'.natAbs ≤ M + (q.natAbs + 1) * M := by
  have hq : q ≠ 0 := fun z => ho (h.z z).1
  have e := h.e2
  have h1 : v'.natAbs ≤ (v' * q).natAbs := by
    rw [Int.natAbs_mul]
    exact Nat.le_mul_of_pos_right _ (by omega)
  have h2 : v' * q = other - u' * p := by omega
  have h3 : (u' * p).natAbs ≤ (q.natAbs + 1) * M := by
    rw [Int.natAbs_mul]
    exact Nat.mul_le_mul h.bu' hp
  have h4 := h.b2
  rw [h2] at h1
  omega
end Fr
set_option Elab.async false
set_option linter.all false
set_option maxRecDepth 100000
set_option maxHeartbeats 400000
namespace Hd
open PySem PySem.Spec PyProof.Rows L2 Fr
open He (ga ma eqO eqO_ok ba)
def pa (K : PySem.W.Frag) (C : Addr) (m : Str) : Addr := match PySem.W.recIn K (ma K C m) "property" with
  | some (.ref g :: _) => g
  | _ => 0
def itA (K : PySem.W.Frag) (a : Addr) (i : Nat) : Addr := match K.lookup a with
  | some ⟨_, _, .seq its _, _⟩ => (match its[i]? with
    | some (.ref b) => b
    | _ => 0)
  | _ => 0
structure Dd where
  at_ : PySem.W.Frag → Addr
  name : Str
  qual : Str
  st : Stmt
  dfl : List V := []
def fnA (K : PySem.W.Frag) (a : Addr) : He.FnW := match K.lookup a with
  | some ⟨_, _, .func fd, _⟩ => some (fd.name, fd.qualname, fd.params, fd.body, fd.scope, fd.globals, fd.closure, fd.builtins)
  | _ => none
def Dd.val (d : Dd) : He.FnW := some (d.name, d.qual, defArgs d.st, .stmts (defBody d.st), defScope d.st, mainGlobals, [], builtinsNs)
def Dd.ok (K : PySem.W.Frag) (d : Dd) : Bool := PySem.W.keepIn K (.ref (d.at_ K)) && (match K.lookup (d.at_ K) with
  | some ⟨_, _, .func fd, _⟩ => PySem.W.codeIn K fd.code d.qual && He.dflB K fd.defaults d.dfl
  | _ => false)
theorem Dd.funD {K : PySem.W.Frag} {d : Dd} (e : fnA K (d.at_ K) = d.val) (c : d.ok K = true) : ∃ fd, FunD K d.name d.qual (defArgs d.st) (defBody d.st) (defScope d.st) d.dfl [] (d.at_ K) fd := by
  obtain ⟨kp, c2⟩ := ba c
  unfold fnA at e
  cases hk : K.lookup (d.at_ K) with
  | none => rw [hk] at c2; cases c2
  | some o =>
    obtain ⟨oc, od, dt, osl⟩ := o
    rw [hk] at c2 e
    cases dt with
    | func fd =>
      obtain ⟨n1, n2, n3, n4, n5, n6, n7, n8, n9, n10, n11, n12, n13, n14, n15⟩ := fd
      have e0 : (some (n1, n2, n3, n4, n5, n6, n7, n15) : He.FnW) = some (d.name, d.qual, defArgs d.st, .stmts (defBody d.st), defScope d.st, mainGlobals, [], builtinsNs) := e
      simp only [Option.some.injEq, Prod.mk.injEq] at e0
      obtain ⟨h1, h2, h3, h4, h5, h6, h7, h8⟩ := e0
      subst h1 h2 h3 h4 h5 h6 h7 h8
      obtain ⟨k1, k2⟩ := ba (show (PySem.W.codeIn K n13 d.qual && He.dflB K n8 d.dfl) = true from c2)
      exact ⟨_, ⟨oc, od, n8, n9, n10, n11, n12, n13, n14, osl, rfl, hk, k1, He.dflB_ok k2, .inl rfl⟩, kp⟩
    | _ => cases c2
theorem fun_of {K : PySem.W.Frag} {x q : Str} {st : Stmt} {f : Addr} {fd : FuncData} (F : FunD K x q (defArgs st) (defBody st) (defScope st) [] [] f fd) : Fun K x q st f fd := by
  obtain ⟨⟨oc, od, dV, kV, doc, pm, an, cdv, ct, osl, e1, e2, e3, e4, e5⟩, kp⟩ := F
  rcases e4 with ⟨_, rfl⟩ | ⟨h, _⟩
  · exact ⟨⟨oc, od, kV, doc, pm, an, cdv, ct, osl, e1, e2, e3⟩, kp⟩
  · exact absurd rfl h
def refsP (o : Obj) : List Addr := match o.data with
  | .seq its _ => its.toList.flatMap He.refV
  | .dict es _ => es.toList.flatMap fun e => He.refV e.val
  | .func fd => He.refV fd.code ++ He.refV fd.defaults
  | .cls cd => [cd.ns]
  | .fields vs => (match o.cls with
    | .type c => (match c == "property" with
      | true => vs.toList.flatMap He.refV
      | false => [])
    | _ => [])
  | _ => []
def nxt (g : Addr → Option Obj) (as : List Addr) : List Addr := as.flatMap fun a => match g a with
  | some o => refsP o
  | none => []
def asM (g : Addr → Option Obj) : Nat → List Addr → List Addr
  | 0, as => as
  | n + 1, as => as ++ asM g n (nxt g as)
abbrev Fb : Type := PySem.W.Frag → Bool
abbrev AlM : Type := Bool × List He.FnW
def obsM (fa : List Fb) (fn : List Dd) (K : PySem.W.Frag) : AlM := ((fa.all fun f => f K) && fn.all fun d => d.ok K, fn.map fun d => fnA K (d.at_ K))
def valM (fn : List Dd) : AlM := (true, fn.map Dd.val)
def SaysM (fa : List Fb) (fn : List Dd) (K : PySem.W.Frag) : Prop := obsM fa fn K = valM fn
def obsMG (n : Nat) (fa : List Fb) (fn : List Dd) (g : Addr → Option Obj) : AlM := obsM fa fn (He.frG g (asM g n [mainGlobals]))
def hookM (n : Nat) (fa : List Fb) (fn : List Dd) : PySem.W.Hook where
  α := AlM
  obs := fun s => obsMG n fa fn s.heap.get?
  val := fun _ => valM fn
  says := fun _ h => ∃ K : PySem.W.Frag, K.In h ∧ SaysM fa fn K
  of := fun _ _ e => ⟨_, He.frG_in, e⟩
  keeps := fun _ _ _ ⟨K, hK, c⟩ k => ⟨K, PySem.W.Frag.In.keeps hK k, c⟩
theorem obsMG_eq {n : Nat} {fa : List Fb} {fn : List Dd} {g : Addr → Option Obj} {s : Shared} (h : ∀ a, g a = s.heap.get? a) : obsMG n fa fn g = (hookM n fa fn).obs s := by
  have e : g = s.heap.get? := funext h
  rw [e] <;> rfl
section
variable {fa : List Fb} {fn : List Dd} {K : PySem.W.Frag}
theorem SaysM.fact (c : SaysM fa fn K) (i : Nat) {f : Fb} (h : fa[i]? = some f := by rfl) : f K = true := by
  have c1 : ((fa.all fun f => f K) && fn.all fun d => d.ok K) = true := congrArg (fun z : AlM => z.1) c
  exact List.all_eq_true.mp (ba c1).1 f (List.mem_of_getElem? h)
theorem SaysM.def_ (c : SaysM fa fn K) (i : Nat) {d : Dd} (h : fn[i]? = some d := by rfl) : ∃ fd, FunD K d.name d.qual (defArgs d.st) (defBody d.st) (defScope d.st) d.dfl [] (d.at_ K) fd := by
  have c1 : ((fa.all fun f => f K) && fn.all fun d => d.ok K) = true := congrArg (fun z : AlM => z.1) c
  have c2 : fn.map (fun d => fnA K (d.at_ K)) = fn.map Dd.val := congrArg (fun z : AlM => z.2) c
  have c3 : (fn.map fun d => fnA K (d.at_ K))[i]? = (fn.map Dd.val)[i]? := by rw [c2]
  rw [List.getElem?_map, List.getElem?_map, h] at c3
  exact Dd.funD (Option.some.inj c3) (List.all_eq_true.mp (ba c1).2 d (List.mem_of_getElem? h))
end
def decO (a b : Option Bool) : Bool := decide (a = b)
theorem decO_ok {a b : Option Bool} (h : decO a b = true) : a = b := of_decide_eq_true h
def bltB (x : Str) (id : String) : Fb := fun K => eqO (PySem.W.nsIn K mainGlobals x) (some (some (.builtin id)))
theorem blt_ok {K : PySem.W.Frag} {h : Heap} {mg : Str → Option Value} (X : K.In h) (G : h.Ns mainGlobals mg) {x : Str} {id : String} (c : bltB x id K = true) : mg x = some (.builtin id) := PySem.W.mg_of X G (eqO_ok c)
def tyB (C : Str) : Fb := fun K => eqO (PySem.W.findIn K (.ref (ga K C)) "__class__") (some (some (.builtin "object.__class__"))) && (eqO (PySem.W.specialIn K (.builtin "object.__class__") "__get__") (some (some (.builtin "getset_descriptor.__get__"))) && (decO (PySem.W.takesIn K (.builtin "object.__class__")) (some true) && decO (PySem.W.mroIn K (ga K C) (.type "object")) (some true)))
theorem ty_ok {K : PySem.W.Frag} {C : Str} (c : tyB C K = true) : TyI K (ga K C) := by
  obtain ⟨c1, c⟩ := ba c
  obtain ⟨c2, c⟩ := ba c
  obtain ⟨c3, c4⟩ := ba c
  exact ⟨eqO_ok c1, eqO_ok c2, decO_ok c3, decO_ok c4⟩
def propB (C m : Str) : Fb := fun K => eqO (PySem.W.findIn K (.ref (ga K C)) m) (some (some (.ref (ma K (ga K C) m)))) && (eqO (PySem.W.specialIn K (.ref (ma K (ga K C) m)) "__get__") (some (some (.builtin "property.__get__"))) && (decO (PySem.W.takesIn K (.ref (ma K (ga K C) m))) (some true) && (match PySem.W.recIn K (ma K (ga K C) m) "property" with
  | some (.ref _ :: _) => true
  | _ => false)))
theorem prop_ok {K : PySem.W.Frag} {C m : Str} (c : propB C m K = true) : PropOf K (ga K C) m (ma K (ga K C) m) (pa K (ga K C) m) := by
  obtain ⟨c1, c⟩ := ba c
  obtain ⟨c2, c⟩ := ba c
  obtain ⟨c3, c4⟩ := ba c
  refine ⟨eqO_ok c1, eqO_ok c2, decO_ok c3, ?_⟩
  unfold pa
  cases hr : PySem.W.recIn K (ma K (ga K C) m) "property" with
  | none => rw [hr] at c4; cases c4
  | some l =>
    rw [hr] at c4
    cases l with
    | nil => cases c4
    | cons v rest =>
      cases v with
      | ref g => exact ⟨rest, rfl⟩
      | _ => cases c4
def eqB (C : Str) : Fb := fun K => eqO (PySem.W.findIn K (.ref (ga K C)) "__eq__") (some (some (.ref (ma K (ga K C) "__eq__")))) && (PySem.W.isFn K (.ref (ma K (ga K C) "__eq__")) && (eqO (PySem.W.findIn K (.ref (ga K C)) "__ne__") (some (some (.builtin "object.__ne__"))) && decO (PySem.W.mroIn K (ga K C) (.type "object")) (some true)))
theorem eq_ok {K : PySem.W.Frag} {C : Str} (c : eqB C K = true) : EqC K (ga K C) (ma K (ga K C) "__eq__") := by
  obtain ⟨c1, c⟩ := ba c
  obtain ⟨c2, c⟩ := ba c
  obtain ⟨c3, c4⟩ := ba c
  exact ⟨eqO_ok c1, c2, eqO_ok c3, decO_ok c4⟩
def callB (C : Str) : Fb := fun K => eqO (PySem.W.findIn K (.ref (ga K C)) "__call__") (some (some (.ref (ma K (ga K C) "__call__")))) && (PySem.W.isFn K (.ref (ma K (ga K C) "__call__")) && PySem.W.fnIn K (ma K (ga K C) "__call__"))
theorem call_ok {K : PySem.W.Frag} {C : Str} (c : callB C K = true) : StX.CallO K (ga K C) (ma K (ga K C) "__call__") := by
  obtain ⟨c1, c⟩ := ba c
  obtain ⟨c2, c3⟩ := ba c
  exact ⟨eqO_ok c1, c2, c3⟩
def binB (C m : Str) : Fb := fun K => eqO (PySem.W.findIn K (.ref (ga K C)) m) (some (some (.ref (ma K (ga K C) m)))) && (PySem.W.isFn K (.ref (ma K (ga K C) m)) && PySem.W.selfFirst K (ga K C))
theorem bin_ok {K : PySem.W.Frag} {C m : Str} (c : binB C m K = true) : PySem.W.findIn K (.ref (ga K C)) m = some (some (.ref (ma K (ga K C) m))) ∧ PySem.W.isFn K (.ref (ma K (ga K C) m)) = true ∧ PySem.W.selfFirst K (ga K C) = true := by
  obtain ⟨c1, c⟩ := ba c
  obtain ⟨c2, c3⟩ := ba c
  exact ⟨eqO_ok c1, c2, c3⟩
def intsB (a : PySem.W.Frag → Addr) (ns : List Int) : Fb := fun K => match K.lookup (a K) with
  | some ⟨.type c, _, .seq its _, _⟩ => decide (c = "tuple") && (decide (its.size ≤ sizeLine) && He.relAll (ns.map V.int) its.toList)
  | _ => false
theorem ints_ok {K : PySem.W.Frag} {a : PySem.W.Frag → Addr} {ns : List Int} (c : intsB a ns K = true) (H : Hp) : SqT K H (a K) (ns.map V.int) := by
  unfold intsB at c
  cases hk : K.lookup (a K) with
  | none => rw [hk] at c; cases c
  | some o =>
    obtain ⟨oc, od, dt, sl⟩ := o
    rw [hk] at c
    cases oc with
    | type t =>
      cases dt with
      | seq its m =>
        obtain ⟨c1, c⟩ := ba c
        obtain ⟨c2, c3⟩ := ba c
        exact .inr ⟨_, its, m, hk, congrArg Value.type (of_decide_eq_true c1), rfl, of_decide_eq_true c2, He.relAll_ok c3⟩
      | _ => cases c
    | _ => cases dt <;> cases c
def refsB (a : PySem.W.Frag → Addr) (n : Nat) : Fb := fun K => match K.lookup (a K) with
  | some ⟨.type c, _, .seq its _, _⟩ => decide (c = "tuple") && (decide (its.size ≤ sizeLine) && He.relAll ((List.range n).map fun i => V.ref (itA K (a K) i)) its.toList)
  | _ => false
theorem refs_ok {K : PySem.W.Frag} {a : PySem.W.Frag → Addr} {n : Nat} (c : refsB a n K = true) (H : Hp) : SqT K H (a K) ((List.range n).map fun i => V.ref (itA K (a K) i)) := by
  unfold refsB at c
  generalize hl : (List.range n).map (fun i => V.ref (itA K (a K) i)) = l at c ⊢
  cases hk : K.lookup (a K) with
  | none => rw [hk] at c; cases c
  | some o =>
    obtain ⟨oc, od, dt, sl⟩ := o
    rw [hk] at c
    cases oc with
    | type t =>
      cases dt with
      | seq its m =>
        obtain ⟨c1, c⟩ := ba c
        obtain ⟨c2, c3⟩ := ba c
        exact .inr ⟨_, its, m, hk, congrArg Value.type (of_decide_eq_true c1), rfl, of_decide_eq_true c2, He.relAll_ok c3⟩
      | _ => cases c
    | _ => cases dt <;> cases c
end Hd
set_option Elab.async false
set_option linter.all false
set_option maxRecDepth 100000
set_option maxHeartbeats 1000000
namespace Fr
open PySem PySem.Spec PyProof.Rows L2
section
variable {prog : Program} {w : World}
theorem meets_bool_own {a : Addr} : MeetsIn prog w (Builtin.«bool.__new__» ⟨[.type "bool", .ref a], []⟩) (fun A R s => wpAny (model prog w) A.in1 (truthy (.ref a)) (fun b s' => R (.ok (.ret (.bool b))) s') (fun e s' => R (.error e) s') s) :=
  fun A R s h => by
    have f1 := F.conv_sub_bool
    repeat (any_goals (first | assumption | (refine wpAny_bind (m := truthy (.ref a)) (wpAny_mono h (fun b s' hb => ?_) fun _ _ y => y)) | wp_step))
theorem call_bool_ref {A : Around} {E : Value → Shared → Prop} {s : Shared} {a : Addr} {Q : Value → Shared → Prop} (h : wpAny (model prog w) A.in1.in1 (truthy (.ref a)) (fun b s' => Q (.bool b) s') E s) :
    wpAny (model prog w) A (call (.type "bool") [.ref a]) Q E s :=
  callType_newIn F.called_bool F.newNe_bool (F.typeCall_bool_1 _) (F.newCall_bool_1 _) (fun obj => F.args_object_init_2 obj _) F.entry_bool_new meets_bool_own
    (wpAny_mono h (fun b s' q => ⟨rfl, q⟩) fun _ _ y => y)
end
section
variable {X : Cx} {CX : CXT} {C f : Addr} {fd : FuncData} {ps : List Str} {k : Nat} {sp : Sp} {E : XK}
theorem call_boolI (c : Meth X.K C "__bool__" f) (F : FnOk X.prog X.w X.K X.mg X.base CX k f fd ps sp) (hb : Binds X.K fd ps []) (hr : Room (k + 2) X.A) (hx : Passes CX X E) :
    CallR X (.type "bool") (fun xs H Q => ∃ a dx fs, xs = [.ref a] ∧ H a = some (.ins C dx fs) ∧ sp [.ref a] H (fun v H' => ∃ b, v = .bl b ∧ Q (.bl b) H') E) := by
  intro pins s σ H xs us Q I r h
  obtain ⟨a, dx, fs, rfl, ha, q⟩ := h
  obtain rfl := Vals.ref1 r
  obtain ⟨mA, J, _⟩ := ins_get I.hok ha
  obtain ⟨od, J, _⟩ := J.look
  obtain ⟨m, hF⟩ := I.fr
  have hl : [Value.ref a].length = ps.length := (F.len _ _ _ _ q)
  refine call_bool_ref (PySem.W.truthy_K hF I.ok.mod.kin J c.at_ c.fn ?_)
  refine wpAny_call (codeAny_mono (F.run X.A.in1.in1 X.stack s H ⟨[.ref a], []⟩ [.ref a] [.ref a] _ E hr.in1.in1 I.env0.in1.in1 (hb s [.ref a] I.kIn hl) (.cons rfl .nil) q) fun r s' hq => ?_)
  cases r with
  | error e => exact hx pins σ H s e s' I hq
  | ok fl =>
    cases fl with
    | ret u =>
      obtain ⟨v, H', I3, rv, b, rfl, q3⟩ := I.after hq
      cases (show u = Value.bool b from rv)
      exact ⟨.bl b, H', I3, rfl, q3⟩
    | next => exact False.elim hq
    | brk => exact False.elim hq
    | cont => exact False.elim hq
end
end Fr
set_option Elab.async false
set_option linter.all false
set_option maxRecDepth 100000
set_option maxHeartbeats 1000000
namespace Fr
open PySem PySem.Spec PyProof.Rows L2
theorem iter_anyT {prog : Program} {w : World} {A : Around} {E : Value → Shared → Prop} {s : Shared} {l : Addr} {items : Array Value} {Q : Value → Shared → Prop} (hl : s.heap.IsTuple l items)
    (h : ∀ s₂ : Shared, s₂ = { s with heap := s.heap.push { cls := .type "tuple_iterator", data := .fields #[.ref l, .int 0 0] } } →
      (s₂.heap.IsTupleIter s.heap.objs.size l 0 ∧ s₂.heap.IsTuple l items) → l ≠ s.heap.objs.size → Q (.ref s.heap.objs.size) s₂) : wpAny (model prog w) A (pyIter (.ref l)) Q E s := by
  have hlt : l < s.heap.objs.size := by obtain ⟨_, e, _⟩ := hl; exact Heap.lt_size e
  exact wpAny_pyIter_tuple hl (h _ rfl ⟨⟨_, Heap.get?_push_size _ rfl, rfl, rfl⟩, hl.push _⟩ (Nat.ne_of_lt hlt))
theorem ints_at : ∀ {us : List Value} {ns : List Int}, IntsAre us ns → ∀ (i : Nat) (v : Value), us[i]? = some v → ∃ n t, v = .int n t ∧ ns[i]? = some n
  | _, _, .nil, i, v, h => by simp at h
  | _, _, .cons n t r, 0, v, h => ⟨n, t, (Option.some.inj h).symm, rfl⟩
  | _, _, .cons n t r, i + 1, v, h => ints_at r i v h
theorem truth_ints {prog : Program} {w : World} {A : Around} {ns : List Int} {its : List Value} (e : IntsAre its ns) :
    TruthOf prog w A (fun i v => its.toArray[i]? = some v) (fun i => (ns.map (fun n => n != 0)).getD i false) := fun i v s Q E hv hq => by
  have hv' : its[i]? = some v := by simpa using hv
  obtain ⟨n, t, rfl, hn⟩ := ints_at e i v hv'
  have hg : (ns.map (fun n => n != 0)).getD i false = (n != 0) := by rw [List.getD_eq_getElem?_getD, List.getElem?_map, hn] <;> rfl
  have hq' : Q ((ns.map (fun n => n != 0)).getD i false) s := hq
  rw [hg] at hq'
  exact P.truthy_int hq'
section
variable {X : Cx}
def rAnyT (K : PySem.W.Frag) : List V → Hp → VK → Prop := fun vs H Q => ∃ (a : Addr) (ns : List Int), vs = [V.ref a] ∧ SqT K H a (ns.map V.int) ∧ Q (.bl (ns.any (fun n => n != 0))) H
theorem cr_anyT (hc : X.calm = true) : CallR X (.builtin "any") (rAnyT X.K) := by
  intro pins s σ H vs us Q I r h
  obtain ⟨a, ns, rfl, hs, q⟩ := h
  obtain ⟨its, rv, hl, _⟩ := I.tuple hs
  rw [Vals.ref1 r]
  have hb := Vals.ints rv
  have hl' : s.heap.IsTuple a its.toArray := by
    obtain ⟨o, e1, e2, n, e3⟩ := hl
    exact ⟨o, e1, e2, n, e3⟩
  have hlen : its.length = ns.length := by rw [← rv.length, List.length_map]
  refine call_any_walk (iter_anyT hl' fun s₂ e2 st hne => ?_)
  subst e2
  refine ⟨_, _, _, _, _, _, _, rfl, Walks.tuple (A := X.A.in1) (I.ok.hd hc) _ a hne its.toArray, st, truth_ints hb, fun h' tk hk => ?_⟩
  refine ⟨.bl _, H, I.kept fun b o eo => hk b o (fun hmem => ?_) (Heap.get?_push_of_some _ eo), ?_, q⟩
  · rcases List.mem_cons.mp hmem with e1 | hmem
    · exact absurd (e1 ▸ Heap.lt_size eo) (Nat.lt_irrefl _)
    · cases hmem
  · show Value.bool _ = Value.bool _
    have := any_range (ns.map (fun n => n != 0))
    rw [List.length_map] at this
    rw [List.size_toArray, hlen, this, List.any_map]
    rfl
end
end Fr
namespace K13
open PySem PySem.Spec PyProof.Rows L2 Fr
def Un (K : PySem.W.Frag) (H : Hp) (A : Addr) : Prop := ∃ a b c, SqT K H A [.ref a, .ref b, .ref c] ∧ SqT K H a [.int 1, .int 0, .int 0] ∧ SqT K H b [.int 0, .int 1, .int 0] ∧ SqT K H c [.int 0, .int 0, .int 1]
theorem un_k {K : PySem.W.Frag} {H : Hp} {A a b c : Addr} {o0 o1 o2 o3 : Option Addr} {s0 s1 s2 s3 : Array (Option Value)} {n0 n1 n2 n3 : Nat} {t0 t1 t2 t3 t4 t5 t6 t7 t8 : Tok}
    (h0 : K.lookup A = some ⟨.type "tuple", o0, .seq #[.ref a, .ref b, .ref c] n0, s0⟩) (h1 : K.lookup a = some ⟨.type "tuple", o1, .seq #[.int 1 t0, .int 0 t1, .int 0 t2] n1, s1⟩)
    (h2 : K.lookup b = some ⟨.type "tuple", o2, .seq #[.int 0 t3, .int 1 t4, .int 0 t5] n2, s2⟩) (h3 : K.lookup c = some ⟨.type "tuple", o3, .seq #[.int 0 t6, .int 0 t7, .int 1 t8] n3, s3⟩) : Un K H A :=
  ⟨a, b, c, .inr ⟨_, _, _, h0, rfl, rfl, by show 3 ≤ sizeLine; decide, .cons rfl (.cons rfl (.cons rfl .nil))⟩, .inr ⟨_, _, _, h1, rfl, rfl, by show 3 ≤ sizeLine; decide, .cons ⟨_, rfl⟩ (.cons ⟨_, rfl⟩ (.cons ⟨_, rfl⟩ .nil))⟩,
    .inr ⟨_, _, _, h2, rfl, rfl, by show 3 ≤ sizeLine; decide, .cons ⟨_, rfl⟩ (.cons ⟨_, rfl⟩ (.cons ⟨_, rfl⟩ .nil))⟩, .inr ⟨_, _, _, h3, rfl, rfl, by show 3 ≤ sizeLine; decide, .cons ⟨_, rfl⟩ (.cons ⟨_, rfl⟩ (.cons ⟨_, rfl⟩ .nil))⟩⟩
def topS (i : Nat) : Stmt := PySem.Challenge.pw_formrings_k13_whole_traces_norms_polynom.main.body.getD i (.Pass ⟨0, 0, 0, 0⟩)
abbrev s_is_any_integer : Stmt := topS 14
abbrev N_is_any_integer : List Str := ["value"]
theorem sc_is_any_integer : FnScope N_is_any_integer ["value"] (defScope s_is_any_integer) := ⟨rfl, rfl, rfl, by decide +kernel, rfl, by decide +kernel, by decide +kernel⟩
abbrev s_is_short_integer : Stmt := topS 15
abbrev N_is_short_integer : List Str := ["value"]
theorem sc_is_short_integer : FnScope N_is_short_integer ["value"] (defScope s_is_short_integer) := ⟨rfl, rfl, rfl, by decide +kernel, rfl, by decide +kernel, by decide +kernel⟩
abbrev s_are_short_integers : Stmt := topS 17
abbrev N_are_short_integers : List Str := ["value", "many", "n"]
theorem sc_are_short_integers : FnScope N_are_short_integers ["value", "many"] (defScope s_are_short_integers) := ⟨rfl, rfl, rfl, by decide +kernel, rfl, by decide +kernel, by decide +kernel⟩
abbrev s_check_integer : Stmt := topS 19
abbrev N_check_integer : List Str := ["value"]
theorem sc_check_integer : FnScope N_check_integer ["value"] (defScope s_check_integer) := ⟨rfl, rfl, rfl, by decide +kernel, rfl, by decide +kernel, by decide +kernel⟩
abbrev s_shared_divisor : Stmt := topS 22
abbrev N_shared_divisor : List Str := ["numbers", "shared", "number"]
theorem sc_shared_divisor : FnScope N_shared_divisor ["numbers"] (defScope s_shared_divisor) := ⟨rfl, rfl, rfl, by decide +kernel, rfl, by decide +kernel, by decide +kernel⟩
abbrev s_fraction : Stmt := topS 23
abbrev N_fraction : List Str := ["top", "bottom", "shared"]
theorem sc_fraction : FnScope N_fraction ["top", "bottom"] (defScope s_fraction) := ⟨rfl, rfl, rfl, by decide +kernel, rfl, by decide +kernel, by decide +kernel⟩
abbrev s_check_form : Stmt := topS 34
abbrev N_check_form : List Str := ["value"]
theorem sc_check_form : FnScope N_check_form ["value"] (defScope s_check_form) := ⟨rfl, rfl, rfl, by decide +kernel, rfl, by decide +kernel, by decide +kernel⟩
abbrev s_Form___init__ : Stmt := inClass (topS 36) 0
abbrev N_Form___init__ : List Str := ["self", "coefficients"]
theorem sc_Form___init__ : FnScope N_Form___init__ ["self", "coefficients"] (defScope s_Form___init__) := ⟨rfl, rfl, rfl, by decide +kernel, rfl, by decide +kernel, by decide +kernel⟩
abbrev s_Form_coefficients : Stmt := inClass (topS 36) 2
abbrev N_Form_coefficients : List Str := ["self"]
theorem sc_Form_coefficients : FnScope N_Form_coefficients ["self"] (defScope s_Form_coefficients) := ⟨rfl, rfl, rfl, by decide +kernel, rfl, by decide +kernel, by decide +kernel⟩
abbrev s_Form___eq__ : Stmt := inClass (topS 36) 17
abbrev N_Form___eq__ : List Str := ["self", "other"]
theorem sc_Form___eq__ : FnScope N_Form___eq__ ["self", "other"] (defScope s_Form___eq__) := ⟨rfl, rfl, rfl, by decide +kernel, rfl, by decide +kernel, by decide +kernel⟩
abbrev s_table_of : Stmt := topS 39
abbrev N_table_of : List Str := ["coefficients", "a", "b", "c", "d"]
theorem sc_table_of : FnScope N_table_of ["coefficients"] (defScope s_table_of) := ⟨rfl, rfl, rfl, by decide +kernel, rfl, by decide +kernel, by decide +kernel⟩
abbrev s_product_by : Stmt := topS 40
abbrev N_product_by : List Str := ["table", "first", "second", "a", "b", "c", "d", "e", "f", "g", "h", "i", "u", "x", "y", "v", "z", "s", "left", "middle", "right"]
theorem sc_product_by : FnScope N_product_by ["table", "first", "second"] (defScope s_product_by) := ⟨rfl, rfl, rfl, by decide +kernel, rfl, by decide +kernel, by decide +kernel⟩
abbrev s_determinant_by : Stmt := topS 41
abbrev N_determinant_by : List Str := ["rows", "a", "b", "c", "d", "e", "f", "g", "h", "i"]
theorem sc_determinant_by : FnScope N_determinant_by ["rows"] (defScope s_determinant_by) := ⟨rfl, rfl, rfl, by decide +kernel, rfl, by decide +kernel, by decide +kernel⟩
abbrev s_map_by : Stmt := topS 42
abbrev N_map_by : List Str := ["table", "entries", "a", "b", "c", "d", "e", "f", "g", "h", "i", "u", "x", "y"]
theorem sc_map_by : FnScope N_map_by ["table", "entries"] (defScope s_map_by) := ⟨rfl, rfl, rfl, by decide +kernel, rfl, by decide +kernel, by decide +kernel⟩
abbrev s_trace_by : Stmt := topS 43
abbrev N_trace_by : List Str := ["table", "entries", "rows"]
theorem sc_trace_by : FnScope N_trace_by ["table", "entries"] (defScope s_trace_by) := ⟨rfl, rfl, rfl, by decide +kernel, rfl, by decide +kernel, by decide +kernel⟩
abbrev s_polynomial_by : Stmt := topS 44
abbrev N_polynomial_by : List Str := ["table", "entries", "a", "b", "c", "d", "e", "f", "g", "h", "i", "minors"]
theorem sc_polynomial_by : FnScope N_polynomial_by ["table", "entries"] (defScope s_polynomial_by) := ⟨rfl, rfl, rfl, by decide +kernel, rfl, by decide +kernel, by decide +kernel⟩
abbrev s_check_bottom : Stmt := topS 46
abbrev N_check_bottom : List Str := ["bottom"]
theorem sc_check_bottom : FnScope N_check_bottom ["bottom"] (defScope s_check_bottom) := ⟨rfl, rfl, rfl, by decide +kernel, rfl, by decide +kernel, by decide +kernel⟩
abbrev s_table_for : Stmt := topS 47
abbrev N_table_for : List Str := ["ring"]
theorem sc_table_for : FnScope N_table_for ["ring"] (defScope s_table_for) := ⟨rfl, rfl, rfl, by decide +kernel, rfl, by decide +kernel, by decide +kernel⟩
abbrev s_Ring___init__ : Stmt := inClass (topS 48) 0
abbrev N_Ring___init__ : List Str := ["self", "form"]
theorem sc_Ring___init__ : FnScope N_Ring___init__ ["self", "form"] (defScope s_Ring___init__) := ⟨rfl, rfl, rfl, by decide +kernel, rfl, by decide +kernel, by decide +kernel⟩
abbrev s_Ring_form : Stmt := inClass (topS 48) 1
abbrev N_Ring_form : List Str := ["self"]
theorem sc_Ring_form : FnScope N_Ring_form ["self"] (defScope s_Ring_form) := ⟨rfl, rfl, rfl, by decide +kernel, rfl, by decide +kernel, by decide +kernel⟩
abbrev s_Ring_one : Stmt := inClass (topS 48) 3
abbrev N_Ring_one : List Str := ["self"]
theorem sc_Ring_one : FnScope N_Ring_one ["self"] (defScope s_Ring_one) := ⟨rfl, rfl, rfl, by decide +kernel, rfl, by decide +kernel, by decide +kernel⟩
abbrev s_Ring_w : Stmt := inClass (topS 48) 4
abbrev N_Ring_w : List Str := ["self"]
theorem sc_Ring_w : FnScope N_Ring_w ["self"] (defScope s_Ring_w) := ⟨rfl, rfl, rfl, by decide +kernel, rfl, by decide +kernel, by decide +kernel⟩
abbrev s_Ring_t : Stmt := inClass (topS 48) 5
abbrev N_Ring_t : List Str := ["self"]
theorem sc_Ring_t : FnScope N_Ring_t ["self"] (defScope s_Ring_t) := ⟨rfl, rfl, rfl, by decide +kernel, rfl, by decide +kernel, by decide +kernel⟩
abbrev s_Ring_element : Stmt := inClass (topS 48) 6
abbrev N_Ring_element : List Str := ["self", "entries", "bottom"]
theorem sc_Ring_element : FnScope N_Ring_element ["self", "entries", "bottom"] (defScope s_Ring_element) := ⟨rfl, rfl, rfl, by decide +kernel, rfl, by decide +kernel, by decide +kernel⟩
abbrev s_Ring___eq__ : Stmt := inClass (topS 48) 7
abbrev N_Ring___eq__ : List Str := ["self", "other"]
theorem sc_Ring___eq__ : FnScope N_Ring___eq__ ["self", "other"] (defScope s_Ring___eq__) := ⟨rfl, rfl, rfl, by decide +kernel, rfl, by decide +kernel, by decide +kernel⟩
abbrev s_check_one_ring : Stmt := topS 49
abbrev N_check_one_ring : List Str := ["first", "second"]
theorem sc_check_one_ring : FnScope N_check_one_ring ["first", "second"] (defScope s_check_one_ring) := ⟨rfl, rfl, rfl, by decide +kernel, rfl, by decide +kernel, by decide +kernel⟩
abbrev s_mixed : Stmt := topS 50
abbrev N_mixed : List Str := ["first", "second", "sign", "top", "bottom", "entries", "one", "other"]
theorem sc_mixed : FnScope N_mixed ["first", "second", "sign"] (defScope s_mixed) := ⟨rfl, rfl, rfl, by decide +kernel, rfl, by decide +kernel, by decide +kernel⟩
abbrev s_Element___init__ : Stmt := inClass (topS 53) 0
abbrev N_Element___init__ : List Str := ["self", "ring", "entries", "bottom", "shared", "number"]
theorem sc_Element___init__ : FnScope N_Element___init__ ["self", "ring", "entries", "bottom"] (defScope s_Element___init__) := ⟨rfl, rfl, rfl, by decide +kernel, rfl, by decide +kernel, by decide +kernel⟩
abbrev s_Element_ring : Stmt := inClass (topS 53) 1
abbrev N_Element_ring : List Str := ["self"]
theorem sc_Element_ring : FnScope N_Element_ring ["self"] (defScope s_Element_ring) := ⟨rfl, rfl, rfl, by decide +kernel, rfl, by decide +kernel, by decide +kernel⟩
abbrev s_Element_entries : Stmt := inClass (topS 53) 2
abbrev N_Element_entries : List Str := ["self"]
theorem sc_Element_entries : FnScope N_Element_entries ["self"] (defScope s_Element_entries) := ⟨rfl, rfl, rfl, by decide +kernel, rfl, by decide +kernel, by decide +kernel⟩
abbrev s_Element_bottom : Stmt := inClass (topS 53) 3
abbrev N_Element_bottom : List Str := ["self"]
theorem sc_Element_bottom : FnScope N_Element_bottom ["self"] (defScope s_Element_bottom) := ⟨rfl, rfl, rfl, by decide +kernel, rfl, by decide +kernel, by decide +kernel⟩
abbrev s_Element_trace : Stmt := inClass (topS 53) 4
abbrev N_Element_trace : List Str := ["self"]
theorem sc_Element_trace : FnScope N_Element_trace ["self"] (defScope s_Element_trace) := ⟨rfl, rfl, rfl, by decide +kernel, rfl, by decide +kernel, by decide +kernel⟩
abbrev s_Element_norm : Stmt := inClass (topS 53) 5
abbrev N_Element_norm : List Str := ["self", "r", "s", "v"]
theorem sc_Element_norm : FnScope N_Element_norm ["self"] (defScope s_Element_norm) := ⟨rfl, rfl, rfl, by decide +kernel, rfl, by decide +kernel, by decide +kernel⟩
abbrev s_Element_polynomial : Stmt := inClass (topS 53) 6
abbrev N_Element_polynomial : List Str := ["self", "r", "s", "v"]
theorem sc_Element_polynomial : FnScope N_Element_polynomial ["self"] (defScope s_Element_polynomial) := ⟨rfl, rfl, rfl, by decide +kernel, rfl, by decide +kernel, by decide +kernel⟩
abbrev s_Element___add__ : Stmt := inClass (topS 53) 8
abbrev N_Element___add__ : List Str := ["self", "other"]
theorem sc_Element___add__ : FnScope N_Element___add__ ["self", "other"] (defScope s_Element___add__) := ⟨rfl, rfl, rfl, by decide +kernel, rfl, by decide +kernel, by decide +kernel⟩
abbrev s_Element___mul__ : Stmt := inClass (topS 53) 10
abbrev N_Element___mul__ : List Str := ["self", "other", "entries"]
theorem sc_Element___mul__ : FnScope N_Element___mul__ ["self", "other"] (defScope s_Element___mul__) := ⟨rfl, rfl, rfl, by decide +kernel, rfl, by decide +kernel, by decide +kernel⟩
abbrev s_Element_scaled : Stmt := inClass (topS 53) 12
abbrev N_Element_scaled : List Str := ["self", "top", "bottom", "number"]
theorem sc_Element_scaled : FnScope N_Element_scaled ["self", "top", "bottom"] (defScope s_Element_scaled) := ⟨rfl, rfl, rfl, by decide +kernel, rfl, by decide +kernel, by decide +kernel⟩
abbrev s_Element___bool__ : Stmt := inClass (topS 53) 15
abbrev N_Element___bool__ : List Str := ["self"]
theorem sc_Element___bool__ : FnScope N_Element___bool__ ["self"] (defScope s_Element___bool__) := ⟨rfl, rfl, rfl, by decide +kernel, rfl, by decide +kernel, by decide +kernel⟩
abbrev s_l_vat : Stmt := topS 55
abbrev N_l_vat : List Str := ["_law_script", "_law_spot", "_law_cell", "_law_great"]
theorem sc_l_vat : FnScope N_l_vat ["_law_script", "_law_spot"] (defScope s_l_vat) := ⟨rfl, rfl, rfl, by decide +kernel, rfl, by decide +kernel, by decide +kernel⟩
abbrev s_l_drip : Stmt := topS 56
abbrev N_l_drip : List Str := ["_law_vat_here", "_law_total", "_law_found", "_law_one", "_law_two"]
theorem sc_l_drip : FnScope N_l_drip ["_law_vat_here", "_law_total"] (defScope s_l_drip) := ⟨rfl, rfl, rfl, by decide +kernel, rfl, by decide +kernel, by decide +kernel⟩
abbrev s_l_some_of : Stmt := topS 57
abbrev N_l_some_of : List Str := ["_law_vat_here", "_law_items"]
theorem sc_l_some_of : FnScope N_l_some_of ["_law_vat_here", "_law_items"] (defScope s_l_some_of) := ⟨rfl, rfl, rfl, by decide +kernel, rfl, by decide +kernel, by decide +kernel⟩
abbrev s_l_int : Stmt := topS 58
abbrev N_l_int : List Str := ["_law_vat_here", "_law_most"]
theorem sc_l_int : FnScope N_l_int ["_law_vat_here"] (defScope s_l_int) := ⟨rfl, rfl, rfl, by decide +kernel, rfl, by decide +kernel, by decide +kernel⟩
abbrev s_l_share : Stmt := topS 59
abbrev N_l_share : List Str := ["_law_one", "_law_other"]
theorem sc_l_share : FnScope N_l_share ["_law_one", "_law_other"] (defScope s_l_share) := ⟨rfl, rfl, rfl, by decide +kernel, rfl, by decide +kernel, by decide +kernel⟩
abbrev s_l_fraction : Stmt := topS 60
abbrev N_l_fraction : List Str := ["_law_top", "_law_bottom", "_law_share_here"]
theorem sc_l_fraction : FnScope N_l_fraction ["_law_top", "_law_bottom"] (defScope s_l_fraction) := ⟨rfl, rfl, rfl, by decide +kernel, rfl, by decide +kernel, by decide +kernel⟩
abbrev s_l_rows : Stmt := topS 61
abbrev N_l_rows : List Str := ["_law_form", "_law_a", "_law_b", "_law_c", "_law_d"]
theorem sc_l_rows : FnScope N_l_rows ["_law_form"] (defScope s_l_rows) := ⟨rfl, rfl, rfl, by decide +kernel, rfl, by decide +kernel, by decide +kernel⟩
abbrev s_l_mixed : Stmt := topS 62
abbrev N_l_mixed : List Str := ["_law_rows_here", "_law_one", "_law_other", "_law_found", "_law_factors", "_law_factor", "_law_row", "_law_entry", "_law_more"]
theorem sc_l_mixed : FnScope N_l_mixed ["_law_rows_here", "_law_one", "_law_other"] (defScope s_l_mixed) := ⟨rfl, rfl, rfl, by decide +kernel, rfl, by decide +kernel, by decide +kernel⟩
abbrev s_l_images : Stmt := topS 63
abbrev N_l_images : List Str := ["_law_rows_here", "_law_one"]
theorem sc_l_images : FnScope N_l_images ["_law_rows_here", "_law_one"] (defScope s_l_images) := ⟨rfl, rfl, rfl, by decide +kernel, rfl, by decide +kernel, by decide +kernel⟩
abbrev s_l_det : Stmt := topS 64
abbrev N_l_det : List Str := ["_law_rows_here", "_law_a", "_law_b", "_law_c", "_law_d", "_law_e", "_law_f", "_law_g", "_law_h", "_law_i"]
theorem sc_l_det : FnScope N_l_det ["_law_rows_here"] (defScope s_l_det) := ⟨rfl, rfl, rfl, by decide +kernel, rfl, by decide +kernel, by decide +kernel⟩
abbrev s_l_minors : Stmt := topS 65
abbrev N_l_minors : List Str := ["_law_rows_here", "_law_a", "_law_b", "_law_c", "_law_d", "_law_e", "_law_f", "_law_g", "_law_h", "_law_i"]
theorem sc_l_minors : FnScope N_l_minors ["_law_rows_here"] (defScope s_l_minors) := ⟨rfl, rfl, rfl, by decide +kernel, rfl, by decide +kernel, by decide +kernel⟩
abbrev s_l_coefficients : Stmt := topS 66
abbrev N_l_coefficients : List Str := ["_law_vat_here", "_law_way", "_law_found", "_law_factor", "_law_turn", "_law_entry"]
theorem sc_l_coefficients : FnScope N_l_coefficients ["_law_vat_here"] (defScope s_l_coefficients) := ⟨rfl, rfl, rfl, by decide +kernel, rfl, by decide +kernel, by decide +kernel⟩
abbrev s_l_drawn : Stmt := topS 67
abbrev N_l_drawn : List Str := ["_law_vat_here", "_law_factor", "_law_bottom", "_law_turn"]
theorem sc_l_drawn : FnScope N_l_drawn ["_law_vat_here"] (defScope s_l_drawn) := ⟨rfl, rfl, rfl, by decide +kernel, rfl, by decide +kernel, by decide +kernel⟩
abbrev s_l_three : Stmt := topS 68
abbrev N_l_three : List Str := ["_law_rows_here", "_law_entries", "_law_bottom", "_law_images_here", "_law_trace", "_law_second", "_law_found"]
theorem sc_l_three : FnScope N_l_three ["_law_rows_here", "_law_entries", "_law_bottom"] (defScope s_l_three) := ⟨rfl, rfl, rfl, by decide +kernel, rfl, by decide +kernel, by decide +kernel⟩
abbrev s_l_opposite : Stmt := topS 69
abbrev N_l_opposite : List Str := ["_law_pair"]
theorem sc_l_opposite : FnScope N_l_opposite ["_law_pair"] (defScope s_l_opposite) := ⟨rfl, rfl, rfl, by decide +kernel, rfl, by decide +kernel, by decide +kernel⟩
abbrev s_l_is_root : Stmt := topS 70
abbrev N_l_is_root : List Str := ["_law_element", "_law_r", "_law_low", "_law_s", "_law_under", "_law_v", "_law_last", "_law_squared", "_law_found"]
theorem sc_l_is_root : FnScope N_l_is_root ["_law_element"] (defScope s_l_is_root) := ⟨rfl, rfl, rfl, by decide +kernel, rfl, by decide +kernel, by decide +kernel⟩
abbrev s_l_times : Stmt := topS 71
abbrev N_l_times : List Str := ["_law_one", "_law_other"]
theorem sc_l_times : FnScope N_l_times ["_law_one", "_law_other"] (defScope s_l_times) := ⟨rfl, rfl, rfl, by decide +kernel, rfl, by decide +kernel, by decide +kernel⟩
abbrev s_l_right : Stmt := topS 72
abbrev N_l_right : List Str := ["_law_vat_here", "_law_form", "_law_ring", "_law_rows_here", "_law_one", "_law_other", "_law_first", "_law_second", "_law_trace", "_law_middle", "_law_norm", "_law_added", "_law_a", "_law_b", "_law_c", "_law_d"]
theorem sc_l_right : FnScope N_l_right ["_law_vat_here"] (defScope s_l_right) := ⟨rfl, rfl, rfl, by decide +kernel, rfl, by decide +kernel, by decide +kernel⟩
abbrev s_law : Stmt := topS 73
abbrev N_law : List Str := ["_law_script", "_law_spot", "_law_vat_here", "_law_ring", "_law_z", "_law_told"]
theorem sc_law : FnScope N_law ["_law_script"] (defScope s_law) := ⟨rfl, rfl, rfl, by decide +kernel, rfl, by decide +kernel, by decide +kernel⟩
structure Txt (K : PySem.W.Frag) (mg : Str → Option Value) (C_Form : Addr) (C_Ring : Addr) (C_Element : Addr) : Prop where
  g_Form : mg "Form" = some (.ref C_Form)
  cl_Form : Cls K C_Form
  ty_Form : TyI K C_Form
  na_Form_coefficients : NoAttr K C_Form "_coefficients"
  g_Ring : mg "Ring" = some (.ref C_Ring)
  cl_Ring : Cls K C_Ring
  ty_Ring : TyI K C_Ring
  na_Ring_form : NoAttr K C_Ring "_form"
  g_Element : mg "Element" = some (.ref C_Element)
  cl_Element : Cls K C_Element
  ty_Element : TyI K C_Element
  na_Element_ring : NoAttr K C_Element "_ring"
  na_Element_entries : NoAttr K C_Element "_entries"
  na_Element_bottom : NoAttr K C_Element "_bottom"
  d_is_any_integer : ∃ f fd, mg "is_any_integer" = some (.ref f) ∧ Fun K "is_any_integer" "is_any_integer" s_is_any_integer f fd
  d_is_short_integer : ∃ f fd, mg "is_short_integer" = some (.ref f) ∧ Fun K "is_short_integer" "is_short_integer" s_is_short_integer f fd
  d_are_short_integers : ∃ f fd, mg "are_short_integers" = some (.ref f) ∧ Fun K "are_short_integers" "are_short_integers" s_are_short_integers f fd
  d_check_integer : ∃ f fd, mg "check_integer" = some (.ref f) ∧ Fun K "check_integer" "check_integer" s_check_integer f fd
  d_shared_divisor : ∃ f fd, mg "shared_divisor" = some (.ref f) ∧ Fun K "shared_divisor" "shared_divisor" s_shared_divisor f fd
  d_fraction : ∃ f fd, mg "fraction" = some (.ref f) ∧ Fun K "fraction" "fraction" s_fraction f fd
  d_check_form : ∃ f fd, mg "check_form" = some (.ref f) ∧ Fun K "check_form" "check_form" s_check_form f fd
  e_Form___init__ : ∃ (p f : Addr) (fd : FuncData), Mk K C_Form f ∧ Fun K "__init__" "Form.__init__" s_Form___init__ f fd
  e_Form_coefficients : ∃ (p f : Addr) (fd : FuncData), PropOf K C_Form "coefficients" p f ∧ Fun K "coefficients" "Form.coefficients" s_Form_coefficients f fd
  e_Form___eq__ : ∃ (p f : Addr) (fd : FuncData), EqC K C_Form f ∧ Fun K "__eq__" "Form.__eq__" s_Form___eq__ f fd
  d_table_of : ∃ f fd, mg "table_of" = some (.ref f) ∧ Fun K "table_of" "table_of" s_table_of f fd
  d_product_by : ∃ f fd, mg "product_by" = some (.ref f) ∧ Fun K "product_by" "product_by" s_product_by f fd
  d_determinant_by : ∃ f fd, mg "determinant_by" = some (.ref f) ∧ Fun K "determinant_by" "determinant_by" s_determinant_by f fd
  d_map_by : ∃ f fd, mg "map_by" = some (.ref f) ∧ Fun K "map_by" "map_by" s_map_by f fd
  d_trace_by : ∃ f fd, mg "trace_by" = some (.ref f) ∧ Fun K "trace_by" "trace_by" s_trace_by f fd
  d_polynomial_by : ∃ f fd, mg "polynomial_by" = some (.ref f) ∧ Fun K "polynomial_by" "polynomial_by" s_polynomial_by f fd
  d_check_bottom : ∃ f fd, mg "check_bottom" = some (.ref f) ∧ Fun K "check_bottom" "check_bottom" s_check_bottom f fd
  d_table_for : ∃ f fd, mg "table_for" = some (.ref f) ∧ Fun K "table_for" "table_for" s_table_for f fd
  e_Ring___init__ : ∃ (p f : Addr) (fd : FuncData), Mk K C_Ring f ∧ Fun K "__init__" "Ring.__init__" s_Ring___init__ f fd
  e_Ring_form : ∃ (p f : Addr) (fd : FuncData), PropOf K C_Ring "form" p f ∧ Fun K "form" "Ring.form" s_Ring_form f fd
  e_Ring_one : ∃ (p f : Addr) (fd : FuncData), Meth K C_Ring "one" f ∧ Fun K "one" "Ring.one" s_Ring_one f fd
  e_Ring_w : ∃ (p f : Addr) (fd : FuncData), Meth K C_Ring "w" f ∧ Fun K "w" "Ring.w" s_Ring_w f fd
  e_Ring_t : ∃ (p f : Addr) (fd : FuncData), Meth K C_Ring "t" f ∧ Fun K "t" "Ring.t" s_Ring_t f fd
  e_Ring_element : ∃ (p f : Addr) (fd : FuncData), Meth K C_Ring "element" f ∧ FunD K "element" "Ring.element" (defArgs s_Ring_element) (defBody s_Ring_element) (defScope s_Ring_element) [.int 1] [] f fd
  e_Ring___eq__ : ∃ (p f : Addr) (fd : FuncData), EqC K C_Ring f ∧ Fun K "__eq__" "Ring.__eq__" s_Ring___eq__ f fd
  d_check_one_ring : ∃ f fd, mg "check_one_ring" = some (.ref f) ∧ Fun K "check_one_ring" "check_one_ring" s_check_one_ring f fd
  d_mixed : ∃ f fd, mg "mixed" = some (.ref f) ∧ Fun K "mixed" "mixed" s_mixed f fd
  e_Element___init__ : ∃ (p f : Addr) (fd : FuncData), Mk K C_Element f ∧ Fun K "__init__" "Element.__init__" s_Element___init__ f fd
  e_Element_ring : ∃ (p f : Addr) (fd : FuncData), PropOf K C_Element "ring" p f ∧ Fun K "ring" "Element.ring" s_Element_ring f fd
  e_Element_entries : ∃ (p f : Addr) (fd : FuncData), PropOf K C_Element "entries" p f ∧ Fun K "entries" "Element.entries" s_Element_entries f fd
  e_Element_bottom : ∃ (p f : Addr) (fd : FuncData), PropOf K C_Element "bottom" p f ∧ Fun K "bottom" "Element.bottom" s_Element_bottom f fd
  e_Element_trace : ∃ (p f : Addr) (fd : FuncData), PropOf K C_Element "trace" p f ∧ Fun K "trace" "Element.trace" s_Element_trace f fd
  e_Element_norm : ∃ (p f : Addr) (fd : FuncData), PropOf K C_Element "norm" p f ∧ Fun K "norm" "Element.norm" s_Element_norm f fd
  e_Element_polynomial : ∃ (p f : Addr) (fd : FuncData), PropOf K C_Element "polynomial" p f ∧ Fun K "polynomial" "Element.polynomial" s_Element_polynomial f fd
  e_Element___add__ : ∃ (p f : Addr) (fd : FuncData), BinC K C_Element "__add__" f ∧ Fun K "__add__" "Element.__add__" s_Element___add__ f fd
  e_Element___mul__ : ∃ (p f : Addr) (fd : FuncData), BinC K C_Element "__mul__" f ∧ Fun K "__mul__" "Element.__mul__" s_Element___mul__ f fd
  e_Element_scaled : ∃ (p f : Addr) (fd : FuncData), Meth K C_Element "scaled" f ∧ FunD K "scaled" "Element.scaled" (defArgs s_Element_scaled) (defBody s_Element_scaled) (defScope s_Element_scaled) [.int 1] [] f fd
  e_Element___bool__ : ∃ (p f : Addr) (fd : FuncData), Meth K C_Element "__bool__" f ∧ Fun K "__bool__" "Element.__bool__" s_Element___bool__ f fd
  d_l_vat : ∃ f fd, mg "_law_vat" = some (.ref f) ∧ Fun K "_law_vat" "_law_vat" s_l_vat f fd
  d_l_drip : ∃ f fd, mg "_law_drip" = some (.ref f) ∧ Fun K "_law_drip" "_law_drip" s_l_drip f fd
  d_l_some_of : ∃ f fd, mg "_law_some_of" = some (.ref f) ∧ Fun K "_law_some_of" "_law_some_of" s_l_some_of f fd
  d_l_int : ∃ f fd, mg "_law_int" = some (.ref f) ∧ Fun K "_law_int" "_law_int" s_l_int f fd
  d_l_share : ∃ f fd, mg "_law_share" = some (.ref f) ∧ Fun K "_law_share" "_law_share" s_l_share f fd
  d_l_fraction : ∃ f fd, mg "_law_fraction" = some (.ref f) ∧ Fun K "_law_fraction" "_law_fraction" s_l_fraction f fd
  d_l_rows : ∃ f fd, mg "_law_rows" = some (.ref f) ∧ Fun K "_law_rows" "_law_rows" s_l_rows f fd
  d_l_mixed : ∃ f fd, mg "_law_mixed" = some (.ref f) ∧ Fun K "_law_mixed" "_law_mixed" s_l_mixed f fd
  d_l_images : ∃ f fd, mg "_law_images" = some (.ref f) ∧ Fun K "_law_images" "_law_images" s_l_images f fd
  d_l_det : ∃ f fd, mg "_law_det" = some (.ref f) ∧ Fun K "_law_det" "_law_det" s_l_det f fd
  d_l_minors : ∃ f fd, mg "_law_minors" = some (.ref f) ∧ Fun K "_law_minors" "_law_minors" s_l_minors f fd
  d_l_coefficients : ∃ f fd, mg "_law_coefficients" = some (.ref f) ∧ Fun K "_law_coefficients" "_law_coefficients" s_l_coefficients f fd
  d_l_drawn : ∃ f fd, mg "_law_drawn" = some (.ref f) ∧ Fun K "_law_drawn" "_law_drawn" s_l_drawn f fd
  d_l_three : ∃ f fd, mg "_law_three" = some (.ref f) ∧ Fun K "_law_three" "_law_three" s_l_three f fd
  d_l_opposite : ∃ f fd, mg "_law_opposite" = some (.ref f) ∧ Fun K "_law_opposite" "_law_opposite" s_l_opposite f fd
  d_l_is_root : ∃ f fd, mg "_law_is_root" = some (.ref f) ∧ Fun K "_law_is_root" "_law_is_root" s_l_is_root f fd
  d_l_times : ∃ f fd, mg "_law_times" = some (.ref f) ∧ Fun K "_law_times" "_law_times" s_l_times f fd
  d_l_right : ∃ f fd, mg "_law_right" = some (.ref f) ∧ Fun K "_law_right" "_law_right" s_l_right f fd
  d_law : ∃ f fd, mg "law" = some (.ref f) ∧ Fun K "law" "law" s_law f fd
  b_abs : mg "abs" = none
  b_all : mg "all" = none
  b_any : mg "any" = none
  b_bool : mg "bool" = none
  b_int : mg "int" = none
  b_isinstance : mg "isinstance" = none
  b_len : mg "len" = none
  b_max : mg "max" = none
  b_min : mg "min" = none
  b_range : mg "range" = none
  b_tuple : mg "tuple" = none
  b_zip : mg "zip" = none
  x_LIMIT : ∃ t, mg "LIMIT" = some (.int (1000000000000000000000000000000000000000000000000000000000000) t)
  m_gcd : mg "gcd" = some (.builtin "math.gcd")
  k_UNITS : ∃ A, mg "UNITS" = some (.ref A) ∧ ∀ H, Un K H A
def Short (i : Int) : Prop := -1000000000000000000000000000000000000000000000000000000000000 < i ∧ i < 1000000000000000000000000000000000000000000000000000000000000
theorem Short.b {i : Int} (h : Short i) : B 200 i := ⟨by have := h.1; have := h.2; omega, by decide⟩
def Ti (H : Hp) (a : Addr) (ns : List Int) : Prop := H a = some (.tup (ns.map V.int))
def T4 (H : Hp) (a : Addr) (p q r s : Int) : Prop := ∃ t1 t2, H a = some (.tup [.ref t1, .ref t2]) ∧ H t1 = some (.tup [.int p, .int q]) ∧ H t2 = some (.tup [.int r, .int s])
def Tq (K : PySem.W.Frag) (H : Hp) (a : Addr) (ns : List Int) : Prop := SqT K H a (ns.map V.int)
theorem Ti.q {K : PySem.W.Frag} {H : Hp} {a : Addr} {ns : List Int} (h : Ti H a ns) : Tq K H a ns := SqT.of h
def T33 (H : Hp) (a : Addr) (r1 r2 r3 : List Int) : Prop := ∃ t1 t2 t3, H a = some (.tup [.ref t1, .ref t2, .ref t3]) ∧ Ti H t1 r1 ∧ Ti H t2 r2 ∧ Ti H t3 r3
def L33 (H : Hp) (a : Addr) (r1 r2 r3 : List Int) : Prop := ∃ t1 t2 t3, H a = some (.lst [.ref t1, .ref t2, .ref t3]) ∧ Ti H t1 r1 ∧ Ti H t2 r2 ∧ Ti H t3 r3
def M33 (K : PySem.W.Frag) (H : Hp) (a : Addr) (r1 r2 r3 : List Int) : Prop := ∃ t1 t2 t3, H a = some (.lst [.ref t1, .ref t2, .ref t3]) ∧ Tq K H t1 r1 ∧ Tq K H t2 r2 ∧ Tq K H t3 r3
def FormAt (C : Addr) (H : Hp) (x : Addr) (ns : List Int) : Prop := ∃ dx t, H x = some (.ins C dx [(("_coefficients" : Str), .ref t)]) ∧ Ti H t ns
def ChOk (p q r s : Int) : Prop := Short p ∧ Short q ∧ Short r ∧ Short s ∧ (p * s - q * r = 1 ∨ p * s - q * r = -1)
theorem Ti.ex {H H' : Hp} {a : Addr} {ns : List Int} (h : Ti H a ns) (e : ∀ b xs, H b = some (.tup xs) → H' b = some (.tup xs)) : Ti H' a ns := e _ _ h
theorem T4.ex {H H' : Hp} {a : Addr} {p q r s : Int} (h : T4 H a p q r s) (e : ∀ b xs, H b = some (.tup xs) → H' b = some (.tup xs)) : T4 H' a p q r s := by
  obtain ⟨t1, t2, h0, h1, h2⟩ := h
  exact ⟨t1, t2, e _ _ h0, e _ _ h1, e _ _ h2⟩
theorem get_int {ns : List Int} {i : Nat} {x : V} (hx : (ns.map V.int)[i]? = some x) : ∃ n, ns[i]? = some n ∧ x = V.int n := by
  rw [List.getElem?_map] at hx
  cases e : ns[i]? with
  | none => rw [e] at hx; cases hx
  | some z => rw [e] at hx; exact ⟨z, rfl, (Option.some.inj hx).symm⟩
def gcdL (ns : List Int) : Nat := ns.foldl (fun g n => Nat.gcd g n.natAbs) 0
theorem gcdL_take {ns : List Int} {i : Nat} {n : Int} (h : ns[i]? = some n) : gcdL (ns.take (i + 1)) = Nat.gcd (gcdL (ns.take i)) n.natAbs := by
  unfold gcdL
  rw [List.take_add_one, h, List.foldl_append]
  rfl
def fv (a b c d x y : Int) : Int := a * x * x * x + b * x * x * y + c * x * y * y + d * y * y * y
def fdisc (a b c d : Int) : Int := b * b * c * c - 4 * a * c * c * c - 4 * b * b * b * d - 27 * a * a * d * d + 18 * a * b * c * d
def fl2 (a b c d p q r s : Int) : Int := 3 * a * p * p * r + b * p * (p * s + 2 * q * r) + c * q * (2 * p * s + q * r) + 3 * d * q * q * s
def fl3 (a b c d p q r s : Int) : Int := 3 * a * p * r * r + b * r * (2 * p * s + q * r) + c * s * (p * s + 2 * q * r) + 3 * d * q * s * s
def fled (a b c d p q r s : Int) : List Int := [(p * s - q * r) * fv a b c d p q, (p * s - q * r) * fl2 a b c d p q r s, (p * s - q * r) * fl3 a b c d p q r s, (p * s - q * r) * fv a b c d r s]
theorem un4 {K : PySem.W.Frag} {i j k l : Nat} {σ : L2.St} {H : Hp} {a : Addr} {p q r s : Int} {Q : L2.St → Hp → Prop} (h : T4 H a p q r s)
    (z : Q ((((σ.set i (some (.int p))).set j (some (.int q))).set k (some (.int r))).set l (some (.int s))) H) :
    gTup K 2 (gCons (gTup K 2 (gCons (gName i) (gCons (gName j) gNil))) (gCons (gTup K 2 (gCons (gName k) (gCons (gName l) gNil))) gNil)) (.ref a) σ H Q := by
  obtain ⟨t1, t2, h0, h1, h2⟩ := h
  refine ⟨a, _, rfl, SqT.of h0, rfl, _, _, rfl, ?_⟩
  refine ⟨t1, _, rfl, SqT.of h1, rfl, _, _, rfl, ?_⟩
  refine ⟨_, _, rfl, ⟨rfl, ?_⟩⟩
  refine ⟨_, _, rfl, ?_⟩
  refine ⟨t2, _, rfl, SqT.of h2, rfl, _, _, rfl, ?_⟩
  exact ⟨_, _, rfl, ⟨rfl, ⟨rfl, z⟩⟩⟩
theorem unI4 {K : PySem.W.Frag} {i j k l : Nat} {σ : L2.St} {H : Hp} {t : Addr} {a b c d : Int} {Q : L2.St → Hp → Prop} (h : Ti H t [a, b, c, d])
    (z : Q ((((σ.set i (some (.int a))).set j (some (.int b))).set k (some (.int c))).set l (some (.int d))) H) :
    gTup K 4 (gCons (gName i) (gCons (gName j) (gCons (gName k) (gCons (gName l) gNil)))) (.ref t) σ H Q :=
  ⟨t, _, rfl, SqT.of h, rfl, _, _, rfl, _, _, rfl, _, _, rfl, _, _, rfl, rfl, z⟩
theorem t4_new {H : Hp} {t1 t2 x : Addr} {p q r s : Int} (n1 : H t1 = none) (n2 : upd H t1 (.tup [.int p, .int q]) t2 = none) (n3 : upd (upd H t1 (.tup [.int p, .int q])) t2 (.tup [.int r, .int s]) x = none) :
    Ex0 H (upd (upd (upd H t1 (.tup [.int p, .int q])) t2 (.tup [.int r, .int s])) x (.tup [.ref t1, .ref t2])) ∧ T4 (upd (upd (upd H t1 (.tup [.int p, .int q])) t2 (.tup [.int r, .int s])) x (.tup [.ref t1, .ref t2])) x p q r s :=
  ⟨((Ex0.new n1).trans (Ex0.new n2)).trans (Ex0.new n3), t1, t2, upd_same, Ex0.ap (Ex0.new n3) (Ex0.ap (Ex0.new n2) upd_same), Ex0.ap (Ex0.new n3) upd_same⟩
theorem Ex0.t4 {H H' : Hp} {a : Addr} {p q r s : Int} (e : Ex0 H H') (h : T4 H a p q r s) : T4 H' a p q r s := h.ex fun _ _ z => Ex0.ap e z
theorem Ex0.ti {H H' : Hp} {a : Addr} {ns : List Int} (e : Ex0 H H') (h : Ti H a ns) : Ti H' a ns := Ex0.ap e h
theorem Ex0.fo {C : Addr} {H H' : Hp} {x : Addr} {ns : List Int} (e : Ex0 H H') (h : FormAt C H x ns) : FormAt C H' x ns := by
  obtain ⟨dx, t, h1, h2⟩ := h
  exact ⟨dx, t, Ex0.ap e h1, Ex0.ap e h2⟩
def RingAt (C C_R : Addr) (H : Hp) (r : Addr) (ns : List Int) : Prop := ∃ dr x, H r = some (.ins C_R dr [(("_form" : Str), .ref x)]) ∧ FormAt C H x ns
def ElAt (C C_R C_E : Addr) (H : Hp) (e : Addr) (ns : List Int) (u y z b : Int) : Prop := ∃ de r t, H e = some (.ins C_E de [(("_ring" : Str), .ref r), (("_entries" : Str), .ref t), (("_bottom" : Str), .int b)]) ∧ RingAt C C_R H r ns ∧ Ti H t [u, y, z]
theorem Ex0.tq {K : PySem.W.Frag} {H H' : Hp} {a : Addr} {ns : List Int} (e : Ex0 H H') (h : Tq K H a ns) : Tq K H' a ns := e.sqT (fun z => z) h
theorem Ex0.t33 {H H' : Hp} {a : Addr} {r1 r2 r3 : List Int} (e : Ex0 H H') (h : T33 H a r1 r2 r3) : T33 H' a r1 r2 r3 := by
  obtain ⟨t1, t2, t3, h0, h1, h2, h3⟩ := h
  exact ⟨t1, t2, t3, Ex0.ap e h0, Ex0.ap e h1, Ex0.ap e h2, Ex0.ap e h3⟩
theorem Ex0.l33 {H H' : Hp} {a : Addr} {r1 r2 r3 : List Int} (e : Ex0 H H') (h : L33 H a r1 r2 r3) : L33 H' a r1 r2 r3 := by
  obtain ⟨t1, t2, t3, h0, h1, h2, h3⟩ := h
  exact ⟨t1, t2, t3, Ex0.ap e h0, Ex0.ap e h1, Ex0.ap e h2, Ex0.ap e h3⟩
theorem Ex0.ri {C C_R : Addr} {H H' : Hp} {r : Addr} {ns : List Int} (e : Ex0 H H') (h : RingAt C C_R H r ns) : RingAt C C_R H' r ns := by
  obtain ⟨dr, x, h1, h2⟩ := h
  exact ⟨dr, x, Ex0.ap e h1, Ex0.fo e h2⟩
theorem Ex0.el {C C_R C_E : Addr} {H H' : Hp} {x : Addr} {ns : List Int} {u y z b : Int} (e : Ex0 H H') (h : ElAt C C_R C_E H x ns u y z b) : ElAt C C_R C_E H' x ns u y z b := by
  obtain ⟨de, r, t, h1, h2, h3⟩ := h
  exact ⟨de, r, t, Ex0.ap e h1, Ex0.ri e h2, Ex0.ti e h3⟩
theorem unq3 {K : PySem.W.Frag} {i j k : Nat} {σ : L2.St} {H : Hp} {t : Addr} {a b c : Int} {Q : L2.St → Hp → Prop} (h : Tq K H t [a, b, c])
    (z : Q (((σ.set i (some (.int a))).set j (some (.int b))).set k (some (.int c))) H) :
    gTup K 3 (gCons (gName i) (gCons (gName j) (gCons (gName k) gNil))) (.ref t) σ H Q :=
  ⟨t, _, rfl, h, rfl, _, _, rfl, _, _, rfl, _, _, rfl, rfl, z⟩
def w1 (a b c d : Int) : List Int := [-a * c, b, -a]
def w2 (a b c d : Int) : List Int := [-a * d, 0, 0]
def w3 (a b c d : Int) : List Int := [-b * d, d, -c]
def m0 (a d g u y z v s r : Int) : Int := u * v + y * s * a + (y * r + z * s) * d + z * r * g
def m1 (b e h u y z v s r : Int) : Int := u * s + y * v + y * s * b + (y * r + z * s) * e + z * r * h
def m2 (c f i u y z v s r : Int) : Int := u * r + z * v + y * s * c + (y * r + z * s) * f + z * r * i
def pr (a b c d u y z v s r : Int) : List Int := [m0 (-a * c) (-a * d) (-b * d) u y z v s r, m1 b 0 d u y z v s r, m2 (-a) 0 (-c) u y z v s r]
def tr (a b c d u y z : Int) : Int := 3 * u + b * y - c * z
section
def sp_is_any_integer (_ : PySem.W.Frag) (C C_R C_E : Addr) : Sp := fun vs H Q _ => ∃ i : Int, vs = [.int i] ∧ Q (.bl true) H
def sp_is_short_integer (_ : PySem.W.Frag) (C C_R C_E : Addr) : Sp := fun vs H Q _ => ∃ i : Int, vs = [.int i] ∧ Short i ∧ Q (.bl true) H
def sp_are_short_integers (_ : PySem.W.Frag) (C C_R C_E : Addr) : Sp := fun vs H Q _ => ∃ (a : Addr) (ns : List Int), vs = [.ref a, .int (ns.length : Int)] ∧ Ti H a ns ∧ ns.length ≤ 1000 ∧ (∀ n ∈ ns, Short n) ∧ ∀ H', Ex0 H H' → Q (.bl true) H'
def sp_check_integer (_ : PySem.W.Frag) (C C_R C_E : Addr) : Sp := fun vs H Q _ => ∃ i : Int, vs = [.int i] ∧ Short i ∧ Q .non H
def sp_shared_divisor (K : PySem.W.Frag) (C C_R C_E : Addr) : Sp := fun vs H Q _ => ∃ (a : Addr) (ns : List Int), vs = [.ref a] ∧ Tq K H a ns ∧ Q (.int (gcdL ns : Nat)) H
def sp_Form___init__ (_ : PySem.W.Frag) (C C_R C_E : Addr) : Sp := fun vs H Q _ => ∃ (x dx t : Addr) (ns : List Int), vs = [.ref x, .ref t] ∧ H x = some (.ins C dx []) ∧ Ti H t ns ∧ ns.length = 4 ∧ (∀ n ∈ ns, Short n) ∧ ∀ H', (∀ b o, b ≠ x → H b = some o → H' b = some o) → H' x = some (.ins C dx [(("_coefficients" : Str), .ref t)]) → Q .non H'
def sp_Form_coefficients (_ : PySem.W.Frag) (C C_R C_E : Addr) : Sp := fun vs H Q _ => ∃ (x : Addr) (ns : List Int), vs = [.ref x] ∧ FormAt C H x ns ∧ ∀ t, Ti H t ns → Q (.ref t) H
def sp_Form___eq__ (_ : PySem.W.Frag) (C C_R C_E : Addr) : Sp := fun vs H Q _ => ∃ (x y : Addr) (ns ms : List Int), vs = [.ref x, .ref y] ∧ FormAt C H x ns ∧ FormAt C H y ms ∧ Q (.bl (decide (ns = ms))) H
end
section
variable {P : Program} {w : World} {K : PySem.W.Frag} {mg : Str → Option Value} {base : Heap} {C_Form C_Ring C_Element : Addr}
theorem ok_is_any_integer (T : Txt K mg C_Form C_Ring C_Element) : Def P w K mg base 1 "is_any_integer" ["value"] (sp_is_any_integer K C_Form C_Ring C_Element) := by
  obtain ⟨f_, fd_, g_, F_⟩ := T.d_is_any_integer
  refine ⟨f_, fd_, g_, F_.kp, F_.binds (ps := ["value"]) (fun _ _ _ _ _ _ us hl => match us, hl with | [_], _ => rfl), ?_⟩
  refine F_.ok sc_is_any_integer (fun vs H Q E h => ?_) (fun cdv A outer s H vs Q E hr h => ?_)
  · first | (obtain ⟨rfl, _⟩ := h; rfl) | (obtain ⟨_, rfl, _⟩ := h; rfl) | (obtain ⟨_, _, rfl, _⟩ := h; rfl) | (obtain ⟨_, _, _, rfl, _⟩ := h; rfl) | (obtain ⟨_, _, _, _, rfl, _⟩ := h; rfl) | (obtain ⟨_, _, _, _, _, rfl, _⟩ := h; rfl) | (obtain ⟨_, _, _, _, _, _, rfl, _⟩ := h; rfl) | (obtain ⟨_, _, _, _, _, _, _, rfl, _⟩ := h; rfl) | (obtain ⟨_, _, _, _, _, _, _, _, rfl, _⟩ := h; rfl) | (obtain ⟨_, _, _, _, _, _, _, _, _, rfl, _⟩ := h; rfl) | (obtain ⟨_, _, _, _, _, _, _, _, _, _, rfl, _⟩ := h; rfl) | (obtain ⟨_, _, _, _, _, _, _, _, _, _, _, rfl, _⟩ := h; rfl) | (obtain ⟨_, _, _, _, _, _, _, _, _, _, _, _, rfl, _⟩ := h; rfl) | (obtain ⟨_, _, _, _, _, _, _, _, _, _, _, _, _, rfl, _⟩ := h; rfl) | (obtain ⟨_, _, _, _, _, _, _, _, _, _, _, _, _, _, rfl, _⟩ := h; rfl) | (obtain ⟨_, _, _, _, _, _, _, _, _, _, _, _, _, _, _, rfl, _⟩ := h; rfl) | (obtain ⟨_, _, _, _, _, _, _, _, _, _, _, _, _, _, _, _, rfl, _⟩ := h; rfl) | (obtain ⟨_, _, _, _, _, _, _, _, _, _, _, _, _, _, _, _, _, rfl, _⟩ := h; rfl) | (obtain ⟨_, _, _, _, _, _, _, _, _, _, _, _, _, _, _, _, _, _, rfl, _⟩ := h; rfl) | (obtain ⟨_, _, _, _, _, _, _, _, _, _, _, _, _, _, _, _, _, _, _, rfl, _⟩ := h; rfl) | (obtain ⟨_, _, _, _, _, _, _, _, _, _, _, _, _, _, _, _, _, _, _, _, rfl, _⟩ := h; rfl) | (obtain ⟨_, _, _, _, _, _, _, _, _, _, _, _, _, _, _, _, _, _, _, _, _, rfl, _⟩ := h; rfl) | (obtain ⟨_, _, _, _, _, _, _, _, _, _, _, _, _, _, _, _, _, _, _, _, _, _, rfl, _⟩ := h; rfl) | (obtain ⟨_, _, _, _, _, _, _, _, _, _, _, _, _, _, _, _, _, _, _, _, _, _, _, rfl, _⟩ := h; rfl)
  · obtain ⟨i, rfl, q⟩ := h
    refine ⟨_, (pss_one (ps_ret (pe_and (pe_callB call_isi (by rfl) T.b_isinstance (by decide +kernel) (pa_cons (pv 0) (pa_cons (pe_bltn (v := .ty "int") (by rfl) T.b_int (by decide +kernel) rfl) pa_nil))) (pe_one (pe_not (pe_callB call_isi (by rfl) T.b_isinstance (by decide +kernel) (pa_cons (pv 0) (pa_cons (pe_bltn (v := .ty "bool") (by rfl) T.b_bool (by decide +kernel) rfl) pa_nil)))))))), ?_⟩
    refine ⟨_, rfl, _, _, _, _, true, rfl, .ty _, .base (.int i), kit_ty (by decide +kernel), _, rfl, iteT ?_⟩
    exact ⟨_, rfl, _, _, _, _, false, rfl, .ty _, .base (.int i), kit_ty (by decide +kernel), _, rfl, q⟩
theorem ok_is_short_integer (T : Txt K mg C_Form C_Ring C_Element) : Def P w K mg base 2 "is_short_integer" ["value"] (sp_is_short_integer K C_Form C_Ring C_Element) := by
  obtain ⟨f_, fd_, g_, F_⟩ := T.d_is_short_integer
  obtain ⟨f_is_any_integer, fd_is_any_integer, g_is_any_integer, k_is_any_integer, b_is_any_integer, G_is_any_integer⟩ := (ok_is_any_integer (P := P) (w := w) (base := base) T)
  refine ⟨f_, fd_, g_, F_.kp, F_.binds (ps := ["value"]) (fun _ _ _ _ _ _ us hl => match us, hl with | [_], _ => rfl), ?_⟩
  refine F_.ok sc_is_short_integer (fun vs H Q E h => ?_) (fun cdv A outer s H vs Q E hr h => ?_)
  · first | (obtain ⟨rfl, _⟩ := h; rfl) | (obtain ⟨_, rfl, _⟩ := h; rfl) | (obtain ⟨_, _, rfl, _⟩ := h; rfl) | (obtain ⟨_, _, _, rfl, _⟩ := h; rfl) | (obtain ⟨_, _, _, _, rfl, _⟩ := h; rfl) | (obtain ⟨_, _, _, _, _, rfl, _⟩ := h; rfl) | (obtain ⟨_, _, _, _, _, _, rfl, _⟩ := h; rfl) | (obtain ⟨_, _, _, _, _, _, _, rfl, _⟩ := h; rfl) | (obtain ⟨_, _, _, _, _, _, _, _, rfl, _⟩ := h; rfl) | (obtain ⟨_, _, _, _, _, _, _, _, _, rfl, _⟩ := h; rfl) | (obtain ⟨_, _, _, _, _, _, _, _, _, _, rfl, _⟩ := h; rfl) | (obtain ⟨_, _, _, _, _, _, _, _, _, _, _, rfl, _⟩ := h; rfl) | (obtain ⟨_, _, _, _, _, _, _, _, _, _, _, _, rfl, _⟩ := h; rfl) | (obtain ⟨_, _, _, _, _, _, _, _, _, _, _, _, _, rfl, _⟩ := h; rfl) | (obtain ⟨_, _, _, _, _, _, _, _, _, _, _, _, _, _, rfl, _⟩ := h; rfl) | (obtain ⟨_, _, _, _, _, _, _, _, _, _, _, _, _, _, _, rfl, _⟩ := h; rfl) | (obtain ⟨_, _, _, _, _, _, _, _, _, _, _, _, _, _, _, _, rfl, _⟩ := h; rfl) | (obtain ⟨_, _, _, _, _, _, _, _, _, _, _, _, _, _, _, _, _, rfl, _⟩ := h; rfl) | (obtain ⟨_, _, _, _, _, _, _, _, _, _, _, _, _, _, _, _, _, _, rfl, _⟩ := h; rfl) | (obtain ⟨_, _, _, _, _, _, _, _, _, _, _, _, _, _, _, _, _, _, _, rfl, _⟩ := h; rfl) | (obtain ⟨_, _, _, _, _, _, _, _, _, _, _, _, _, _, _, _, _, _, _, _, rfl, _⟩ := h; rfl) | (obtain ⟨_, _, _, _, _, _, _, _, _, _, _, _, _, _, _, _, _, _, _, _, _, rfl, _⟩ := h; rfl) | (obtain ⟨_, _, _, _, _, _, _, _, _, _, _, _, _, _, _, _, _, _, _, _, _, _, rfl, _⟩ := h; rfl) | (obtain ⟨_, _, _, _, _, _, _, _, _, _, _, _, _, _, _, _, _, _, _, _, _, _, _, rfl, _⟩ := h; rfl)
  · obtain ⟨i, rfl, hs, q⟩ := h
    obtain ⟨t_LIMIT, h_LIMIT⟩ := T.x_LIMIT
    refine ⟨_, (pss_one (ps_ret (pe_and (pe_call G_is_any_integer (hr.mono (by decide)) (by rfl) g_is_any_integer k_is_any_integer b_is_any_integer .nil pass0 (pa_cons (pv 0) pa_nil)) (pe_one (pe_chain op_lt op_lt (pe_un un_neg (pe_glob (v := .int 1000000000000000000000000000000000000000000000000000000000000) (by rfl) h_LIMIT ⟨_, rfl⟩)) (pv 0) (pe_glob (v := .int 1000000000000000000000000000000000000000000000000000000000000) (by rfl) h_LIMIT ⟨_, rfl⟩)))))), ?_⟩
    refine ⟨_, rfl, i, rfl, _, rfl, iteT ?_⟩
    refine ⟨_, rfl, _, rfl, _, _, rfl, rfl, _, rfl, dT hs.1 ⟨_, _, rfl, rfl, ?_⟩⟩
    show Q (.bl (decide (i < 1000000000000000000000000000000000000000000000000000000000000))) H
    rw [decide_eq_true hs.2]
    exact q
theorem ok_check_integer (T : Txt K mg C_Form C_Ring C_Element) : Def P w K mg base 3 "check_integer" ["value"] (sp_check_integer K C_Form C_Ring C_Element) := by
  obtain ⟨f_, fd_, g_, F_⟩ := T.d_check_integer
  obtain ⟨f_is_short_integer, fd_is_short_integer, g_is_short_integer, k_is_short_integer, b_is_short_integer, G_is_short_integer⟩ := (ok_is_short_integer (P := P) (w := w) (base := base) T)
  refine ⟨f_, fd_, g_, F_.kp, F_.binds (ps := ["value"]) (fun _ _ _ _ _ _ us hl => match us, hl with | [_], _ => rfl), ?_⟩
  refine F_.ok sc_check_integer (fun vs H Q E h => ?_) (fun cdv A outer s H vs Q E hr h => ?_)
  · first | (obtain ⟨rfl, _⟩ := h; rfl) | (obtain ⟨_, rfl, _⟩ := h; rfl) | (obtain ⟨_, _, rfl, _⟩ := h; rfl) | (obtain ⟨_, _, _, rfl, _⟩ := h; rfl) | (obtain ⟨_, _, _, _, rfl, _⟩ := h; rfl) | (obtain ⟨_, _, _, _, _, rfl, _⟩ := h; rfl) | (obtain ⟨_, _, _, _, _, _, rfl, _⟩ := h; rfl) | (obtain ⟨_, _, _, _, _, _, _, rfl, _⟩ := h; rfl) | (obtain ⟨_, _, _, _, _, _, _, _, rfl, _⟩ := h; rfl) | (obtain ⟨_, _, _, _, _, _, _, _, _, rfl, _⟩ := h; rfl) | (obtain ⟨_, _, _, _, _, _, _, _, _, _, rfl, _⟩ := h; rfl) | (obtain ⟨_, _, _, _, _, _, _, _, _, _, _, rfl, _⟩ := h; rfl) | (obtain ⟨_, _, _, _, _, _, _, _, _, _, _, _, rfl, _⟩ := h; rfl) | (obtain ⟨_, _, _, _, _, _, _, _, _, _, _, _, _, rfl, _⟩ := h; rfl) | (obtain ⟨_, _, _, _, _, _, _, _, _, _, _, _, _, _, rfl, _⟩ := h; rfl) | (obtain ⟨_, _, _, _, _, _, _, _, _, _, _, _, _, _, _, rfl, _⟩ := h; rfl) | (obtain ⟨_, _, _, _, _, _, _, _, _, _, _, _, _, _, _, _, rfl, _⟩ := h; rfl) | (obtain ⟨_, _, _, _, _, _, _, _, _, _, _, _, _, _, _, _, _, rfl, _⟩ := h; rfl) | (obtain ⟨_, _, _, _, _, _, _, _, _, _, _, _, _, _, _, _, _, _, rfl, _⟩ := h; rfl) | (obtain ⟨_, _, _, _, _, _, _, _, _, _, _, _, _, _, _, _, _, _, _, rfl, _⟩ := h; rfl) | (obtain ⟨_, _, _, _, _, _, _, _, _, _, _, _, _, _, _, _, _, _, _, _, rfl, _⟩ := h; rfl) | (obtain ⟨_, _, _, _, _, _, _, _, _, _, _, _, _, _, _, _, _, _, _, _, _, rfl, _⟩ := h; rfl) | (obtain ⟨_, _, _, _, _, _, _, _, _, _, _, _, _, _, _, _, _, _, _, _, _, _, rfl, _⟩ := h; rfl) | (obtain ⟨_, _, _, _, _, _, _, _, _, _, _, _, _, _, _, _, _, _, _, _, _, _, _, rfl, _⟩ := h; rfl)
  · obtain ⟨i, rfl, hs, q⟩ := h
    refine ⟨_, (pss_one (ps_if (pt_not (pt_val (pe_call G_is_short_integer (hr.mono (by decide)) (by rfl) g_is_short_integer k_is_short_integer b_is_short_integer .nil pass0 (pa_cons (pv 0) pa_nil))))
      pss_never
      pss_nil)), ?_⟩
    refine ⟨_, rfl, i, rfl, hs, _, rfl, ?_⟩
    exact iteF q
theorem ok_are_short_integers (T : Txt K mg C_Form C_Ring C_Element) : Def P w K mg base 3 "are_short_integers" ["value", "many"] (sp_are_short_integers K C_Form C_Ring C_Element) := by
  obtain ⟨f_, fd_, g_, F_⟩ := T.d_are_short_integers
  refine ⟨f_, fd_, g_, F_.kp, F_.binds (ps := ["value", "many"]) (fun _ _ _ _ _ _ us hl => match us, hl with | [_, _], _ => rfl), ?_⟩
  refine F_.ok sc_are_short_integers (fun vs H Q E h => ?_) (fun cdv A outer s H vs Q E hr h => ?_)
  · first | (obtain ⟨rfl, _⟩ := h; rfl) | (obtain ⟨_, rfl, _⟩ := h; rfl) | (obtain ⟨_, _, rfl, _⟩ := h; rfl) | (obtain ⟨_, _, _, rfl, _⟩ := h; rfl) | (obtain ⟨_, _, _, _, rfl, _⟩ := h; rfl) | (obtain ⟨_, _, _, _, _, rfl, _⟩ := h; rfl) | (obtain ⟨_, _, _, _, _, _, rfl, _⟩ := h; rfl) | (obtain ⟨_, _, _, _, _, _, _, rfl, _⟩ := h; rfl) | (obtain ⟨_, _, _, _, _, _, _, _, rfl, _⟩ := h; rfl) | (obtain ⟨_, _, _, _, _, _, _, _, _, rfl, _⟩ := h; rfl) | (obtain ⟨_, _, _, _, _, _, _, _, _, _, rfl, _⟩ := h; rfl) | (obtain ⟨_, _, _, _, _, _, _, _, _, _, _, rfl, _⟩ := h; rfl) | (obtain ⟨_, _, _, _, _, _, _, _, _, _, _, _, rfl, _⟩ := h; rfl) | (obtain ⟨_, _, _, _, _, _, _, _, _, _, _, _, _, rfl, _⟩ := h; rfl) | (obtain ⟨_, _, _, _, _, _, _, _, _, _, _, _, _, _, rfl, _⟩ := h; rfl) | (obtain ⟨_, _, _, _, _, _, _, _, _, _, _, _, _, _, _, rfl, _⟩ := h; rfl) | (obtain ⟨_, _, _, _, _, _, _, _, _, _, _, _, _, _, _, _, rfl, _⟩ := h; rfl) | (obtain ⟨_, _, _, _, _, _, _, _, _, _, _, _, _, _, _, _, _, rfl, _⟩ := h; rfl) | (obtain ⟨_, _, _, _, _, _, _, _, _, _, _, _, _, _, _, _, _, _, rfl, _⟩ := h; rfl) | (obtain ⟨_, _, _, _, _, _, _, _, _, _, _, _, _, _, _, _, _, _, _, rfl, _⟩ := h; rfl) | (obtain ⟨_, _, _, _, _, _, _, _, _, _, _, _, _, _, _, _, _, _, _, _, rfl, _⟩ := h; rfl) | (obtain ⟨_, _, _, _, _, _, _, _, _, _, _, _, _, _, _, _, _, _, _, _, _, rfl, _⟩ := h; rfl) | (obtain ⟨_, _, _, _, _, _, _, _, _, _, _, _, _, _, _, _, _, _, _, _, _, _, rfl, _⟩ := h; rfl) | (obtain ⟨_, _, _, _, _, _, _, _, _, _, _, _, _, _, _, _, _, _, _, _, _, _, _, rfl, _⟩ := h; rfl)
  · obtain ⟨a, ns, rfl, ha, hl, hs, q⟩ := h
    obtain ⟨t_LIMIT, h_LIMIT⟩ := T.x_LIMIT
    refine ⟨_, (pss_cons (ps_if (PW.pt (pw_or (pt_not (pt_val (pe_callB call_isi (by rfl) T.b_isinstance (by decide +kernel) (pa_cons (pv 0) (pa_cons (pe_bltn (v := .ty "tuple") (by rfl) T.b_tuple (by decide +kernel) rfl) pa_nil))))) (pw_or1 (pt_cmpR op_ne (pe_callB call_len_seq (by rfl) T.b_len PySem.boot_len (pa_cons (pv 0) pa_nil)) (pv 1) (nomark _)))))
      (pss_one (ps_ret pe_bl))
      pss_nil)
    (pss_one (ps_ret (pe_callB (cr_all rfl) (by rfl) T.b_all (by decide +kernel) (pa_cons (pe_lc (own := [("n", 2)]) (g := (gName 2)) rfl sc_are_short_integers.nd (pi_tup (pv 0)) (blkOk_by (N := N_are_short_integers) (sc := defScope s_are_short_integers) (by decide +kernel)) (fun _ _ _ _ _ => (pg_name (i := 2) sc_are_short_integers.nd rfl (.inl rfl))) (fun _ _ _ _ _ => pts_nil) (fun _ _ _ _ _ => (pe_and (pe_callB (call_isiKK (K := K) rfl) (by rfl) T.b_isinstance (by decide +kernel) (pa_cons (pv 2) (pa_cons (pe_bltn (v := .ty "int") (by rfl) T.b_int (by decide +kernel) rfl) pa_nil))) (pe_and (pe_not (pe_callB (call_isiKK (K := K) rfl) (by rfl) T.b_isinstance (by decide +kernel) (pa_cons (pv 2) (pa_cons (pe_bltn (v := .ty "bool") (by rfl) T.b_bool (by decide +kernel) rfl) pa_nil)))) (pe_one (pe_chain op_lt op_lt (pe_un un_neg (pe_glob (v := .int 1000000000000000000000000000000000000000000000000000000000000) (by rfl) h_LIMIT ⟨_, rfl⟩)) (pv 2) (pe_glob (v := .int 1000000000000000000000000000000000000000000000000000000000000) (by rfl) h_LIMIT ⟨_, rfl⟩))))))) pa_nil))))), ?_⟩
    refine ⟨_, rfl, _, _, _, _, true, rfl, .ty _, .base (.tup ha), kit_ty (by decide +kernel), _, rfl, ?_⟩
    refine iteF ⟨_, rfl, a, _, rfl, .inr (SqT.of ha), _, rfl, rfl, _, rfl, ?_⟩
    refine ndF (by rw [List.length_map]) ?_
    refine ⟨_, rfl, a, rfl, ⟨_, SqT.of ha⟩, ?_⟩
    refine lcT fm0 trivial (SqT.of ha) (fun z => z) (fun i acc _ => acc = (List.replicate i true).map V.bl) (fun _ _ => rfl) (fun D i x acc H' hD hx e hA hlen hp => ?_) (fun D H' acc hD e hA hp => ?_)
    · obtain ⟨n, hn, rfl⟩ := get_int hx
      have hi := (List.getElem?_eq_some_iff.mp hn).1
      refine ⟨rfl, ?_⟩
      have hn2 := hs n (List.mem_of_getElem? hn)
      refine ⟨_, rfl, _, _, _, _, true, rfl, .ty _, .base (.int n), kit_ty (by decide +kernel), _, rfl, iteT ?_⟩
      refine ⟨_, rfl, _, _, _, _, false, rfl, .ty _, .base (.int n), kit_ty (by decide +kernel), _, rfl, _, rfl, iteT ?_⟩
      refine ⟨_, rfl, _, rfl, _, _, rfl, rfl, _, rfl, dT hn2.1 ⟨_, _, rfl, rfl, ?_⟩⟩
      simp only [decide_eq_true hn2.2]
      refine cs_yes fm0 trivial hD e hA hlen (by omega) (Fx.refl trivial) ?_
      show acc ++ [V.bl true] = _
      rw [hp, List.replicate_succ', List.map_append]
      rfl
    · rw [List.length_map] at hp
      subst hp
      refine ⟨D, _, rfl, SqL.of hA, ?_⟩
      rw [show ((List.replicate ns.length true).all id) = true by simp]
      exact q H' e
theorem ok_shared_divisor (T : Txt K mg C_Form C_Ring C_Element) : Def P w K mg base 1 "shared_divisor" ["numbers"] (sp_shared_divisor K C_Form C_Ring C_Element) := by
  obtain ⟨f_, fd_, g_, F_⟩ := T.d_shared_divisor
  refine ⟨f_, fd_, g_, F_.kp, F_.binds (ps := ["numbers"]) (fun _ _ _ _ _ _ us hl => match us, hl with | [_], _ => rfl), ?_⟩
  refine F_.ok sc_shared_divisor (fun vs H Q E h => ?_) (fun cdv A outer s H vs Q E hr h => ?_)
  · first | (obtain ⟨rfl, _⟩ := h; rfl) | (obtain ⟨_, rfl, _⟩ := h; rfl) | (obtain ⟨_, _, rfl, _⟩ := h; rfl) | (obtain ⟨_, _, _, rfl, _⟩ := h; rfl) | (obtain ⟨_, _, _, _, rfl, _⟩ := h; rfl) | (obtain ⟨_, _, _, _, _, rfl, _⟩ := h; rfl) | (obtain ⟨_, _, _, _, _, _, rfl, _⟩ := h; rfl) | (obtain ⟨_, _, _, _, _, _, _, rfl, _⟩ := h; rfl) | (obtain ⟨_, _, _, _, _, _, _, _, rfl, _⟩ := h; rfl) | (obtain ⟨_, _, _, _, _, _, _, _, _, rfl, _⟩ := h; rfl) | (obtain ⟨_, _, _, _, _, _, _, _, _, _, rfl, _⟩ := h; rfl) | (obtain ⟨_, _, _, _, _, _, _, _, _, _, _, rfl, _⟩ := h; rfl) | (obtain ⟨_, _, _, _, _, _, _, _, _, _, _, _, rfl, _⟩ := h; rfl) | (obtain ⟨_, _, _, _, _, _, _, _, _, _, _, _, _, rfl, _⟩ := h; rfl) | (obtain ⟨_, _, _, _, _, _, _, _, _, _, _, _, _, _, rfl, _⟩ := h; rfl) | (obtain ⟨_, _, _, _, _, _, _, _, _, _, _, _, _, _, _, rfl, _⟩ := h; rfl) | (obtain ⟨_, _, _, _, _, _, _, _, _, _, _, _, _, _, _, _, rfl, _⟩ := h; rfl) | (obtain ⟨_, _, _, _, _, _, _, _, _, _, _, _, _, _, _, _, _, rfl, _⟩ := h; rfl) | (obtain ⟨_, _, _, _, _, _, _, _, _, _, _, _, _, _, _, _, _, _, rfl, _⟩ := h; rfl) | (obtain ⟨_, _, _, _, _, _, _, _, _, _, _, _, _, _, _, _, _, _, _, rfl, _⟩ := h; rfl) | (obtain ⟨_, _, _, _, _, _, _, _, _, _, _, _, _, _, _, _, _, _, _, _, rfl, _⟩ := h; rfl) | (obtain ⟨_, _, _, _, _, _, _, _, _, _, _, _, _, _, _, _, _, _, _, _, _, rfl, _⟩ := h; rfl) | (obtain ⟨_, _, _, _, _, _, _, _, _, _, _, _, _, _, _, _, _, _, _, _, _, _, rfl, _⟩ := h; rfl) | (obtain ⟨_, _, _, _, _, _, _, _, _, _, _, _, _, _, _, _, _, _, _, _, _, _, _, rfl, _⟩ := h; rfl)
  · obtain ⟨a, ns, rfl, ha, q⟩ := h
    refine ⟨_, (pss_cons (ps_set (i := 1) sc_shared_divisor.nd rfl (.inl rfl) pe_int)
    (pss_cons (ps_for PassesOwn.never rfl (pi_tup (pv 0)) (pg_name (i := 2) sc_shared_divisor.nd rfl (.inl rfl))
      (pss_one (ps_set (i := 1) sc_shared_divisor.nd rfl (.inl rfl) (pe_callBfun cr_gcd (by rfl) T.m_gcd (pa_cons (pv 1) (pa_cons (pv 2) pa_nil))))))
    (pss_one (ps_ret (pv 1))))), ?_⟩
    refine ⟨_, rfl, a, rfl, ⟨_, ha⟩, for_tup (xs := ns.map V.int) (fun i σ H' => ∃ y2, σ = [some (.ref a), some (.int (gcdL (ns.take i) : Nat)), y2] ∧ H = H') ⟨none, rfl, rfl⟩ (fun i σ H' _ ⟨_, _, e⟩ => e ▸ ha) ?_ ?_⟩
    · rintro i x σ H' hx ⟨y2, rfl, rfl⟩
      obtain ⟨n, hn, rfl⟩ := get_int hx
      refine ⟨_, rfl, _, rfl, _, _, rfl, ?_⟩
      refine ⟨some (.int n), ?_, rfl⟩
      rw [gcdL_take hn]
      rfl
    · rintro σ H' ⟨y2, rfl, rfl⟩
      refine ⟨_, rfl, ?_⟩
      rw [List.length_map, List.take_length]
      exact q
end
end K13
namespace K13
open PySem PySem.Spec PyProof.Rows L2 Fr
theorem putF_same {u v : V} : putF ("_coefficients" : Str) v [(("_coefficients" : Str), u)] = [(("_coefficients" : Str), v)] := by simp [putF]
theorem lk_same {x : Str} {u : V} : List.lookup x [(x, u)] = some u := by simp [List.lookup]
section
variable {P : Program} {w : World} {K : PySem.W.Frag} {mg : Str → Option Value} {base : Heap} {C_Form C_Ring C_Element : Addr}
theorem ok_Form___init__ (T : Txt K mg C_Form C_Ring C_Element) : MDef (fun p f => Mk K C_Form f) P w K mg base 4 ["self", "coefficients"] (sp_Form___init__ K C_Form C_Ring C_Element) := by
  obtain ⟨p_, f_, fd_, R_, F_⟩ := T.e_Form___init__
  obtain ⟨f_are_short_integers, fd_are_short_integers, g_are_short_integers, k_are_short_integers, b_are_short_integers, G_are_short_integers⟩ := (ok_are_short_integers (P := P) (w := w) (base := base) T)
  refine ⟨p_, f_, fd_, R_, F_.binds (ps := ["self", "coefficients"]) (fun _ _ _ _ _ _ us hl => match us, hl with | [_, _], _ => rfl), ?_⟩
  refine F_.ok sc_Form___init__ (fun vs H Q E h => ?_) (fun cdv A outer s H vs Q E hr h => ?_)
  · first | (obtain ⟨rfl, _⟩ := h; rfl) | (obtain ⟨_, rfl, _⟩ := h; rfl) | (obtain ⟨_, _, rfl, _⟩ := h; rfl) | (obtain ⟨_, _, _, rfl, _⟩ := h; rfl) | (obtain ⟨_, _, _, _, rfl, _⟩ := h; rfl) | (obtain ⟨_, _, _, _, _, rfl, _⟩ := h; rfl) | (obtain ⟨_, _, _, _, _, _, rfl, _⟩ := h; rfl) | (obtain ⟨_, _, _, _, _, _, _, rfl, _⟩ := h; rfl) | (obtain ⟨_, _, _, _, _, _, _, _, rfl, _⟩ := h; rfl) | (obtain ⟨_, _, _, _, _, _, _, _, _, rfl, _⟩ := h; rfl) | (obtain ⟨_, _, _, _, _, _, _, _, _, _, rfl, _⟩ := h; rfl) | (obtain ⟨_, _, _, _, _, _, _, _, _, _, _, rfl, _⟩ := h; rfl) | (obtain ⟨_, _, _, _, _, _, _, _, _, _, _, _, rfl, _⟩ := h; rfl) | (obtain ⟨_, _, _, _, _, _, _, _, _, _, _, _, _, rfl, _⟩ := h; rfl) | (obtain ⟨_, _, _, _, _, _, _, _, _, _, _, _, _, _, rfl, _⟩ := h; rfl) | (obtain ⟨_, _, _, _, _, _, _, _, _, _, _, _, _, _, _, rfl, _⟩ := h; rfl) | (obtain ⟨_, _, _, _, _, _, _, _, _, _, _, _, _, _, _, _, rfl, _⟩ := h; rfl) | (obtain ⟨_, _, _, _, _, _, _, _, _, _, _, _, _, _, _, _, _, rfl, _⟩ := h; rfl) | (obtain ⟨_, _, _, _, _, _, _, _, _, _, _, _, _, _, _, _, _, _, rfl, _⟩ := h; rfl) | (obtain ⟨_, _, _, _, _, _, _, _, _, _, _, _, _, _, _, _, _, _, _, rfl, _⟩ := h; rfl) | (obtain ⟨_, _, _, _, _, _, _, _, _, _, _, _, _, _, _, _, _, _, _, _, rfl, _⟩ := h; rfl) | (obtain ⟨_, _, _, _, _, _, _, _, _, _, _, _, _, _, _, _, _, _, _, _, _, rfl, _⟩ := h; rfl) | (obtain ⟨_, _, _, _, _, _, _, _, _, _, _, _, _, _, _, _, _, _, _, _, _, _, rfl, _⟩ := h; rfl) | (obtain ⟨_, _, _, _, _, _, _, _, _, _, _, _, _, _, _, _, _, _, _, _, _, _, _, rfl, _⟩ := h; rfl)
  · obtain ⟨x, dx, t, ns, rfl, hx, ht, hl, hs, q⟩ := h
    refine ⟨_, (pss_cons (ps_if (pt_not (pt_val (pe_call G_are_short_integers (hr.mono (by decide)) (by rfl) g_are_short_integers k_are_short_integers b_are_short_integers .nil pass0 (pa_cons (pv 1) (pa_cons pe_int pa_nil)))))
      pss_never
      pss_nil)
    (pss_one (ps_fld (pv 0) (pe_callTy call_tuple_of (by rfl) T.b_tuple (by decide +kernel) (pa_cons (pv 1) pa_nil)) (by rfl)))), ?_⟩
    refine ⟨_, rfl, t, ns, by rw [hl]; rfl, ht, by omega, hs, fun H1 e1 => ⟨_, rfl, ?_⟩⟩
    refine iteF ⟨_, rfl, t, _, rfl, .inr ⟨SqT.of (Ex0.ti e1 ht), ?_⟩⟩
    refine ⟨_, rfl, x, C_Form, dx, _, rfl, e1.ap hx, T.cl_Form, T.na_Form_coefficients, (by decide : (0:Nat) < 1000), ?_⟩
    exact q _ (fun b o n e => by rw [upd_ne n]; exact e1.ap e) upd_same
theorem ok_Form_coefficients (T : Txt K mg C_Form C_Ring C_Element) : MDef (fun p f => PropOf K C_Form "coefficients" p f) P w K mg base 1 ["self"] (sp_Form_coefficients K C_Form C_Ring C_Element) := by
  obtain ⟨p_, f_, fd_, R_, F_⟩ := T.e_Form_coefficients
  refine ⟨p_, f_, fd_, R_, F_.binds (ps := ["self"]) (fun _ _ _ _ _ _ us hl => match us, hl with | [_], _ => rfl), ?_⟩
  refine F_.ok sc_Form_coefficients (fun vs H Q E h => ?_) (fun cdv A outer s H vs Q E hr h => ?_)
  · first | (obtain ⟨rfl, _⟩ := h; rfl) | (obtain ⟨_, rfl, _⟩ := h; rfl) | (obtain ⟨_, _, rfl, _⟩ := h; rfl) | (obtain ⟨_, _, _, rfl, _⟩ := h; rfl) | (obtain ⟨_, _, _, _, rfl, _⟩ := h; rfl) | (obtain ⟨_, _, _, _, _, rfl, _⟩ := h; rfl) | (obtain ⟨_, _, _, _, _, _, rfl, _⟩ := h; rfl) | (obtain ⟨_, _, _, _, _, _, _, rfl, _⟩ := h; rfl) | (obtain ⟨_, _, _, _, _, _, _, _, rfl, _⟩ := h; rfl) | (obtain ⟨_, _, _, _, _, _, _, _, _, rfl, _⟩ := h; rfl) | (obtain ⟨_, _, _, _, _, _, _, _, _, _, rfl, _⟩ := h; rfl) | (obtain ⟨_, _, _, _, _, _, _, _, _, _, _, rfl, _⟩ := h; rfl) | (obtain ⟨_, _, _, _, _, _, _, _, _, _, _, _, rfl, _⟩ := h; rfl) | (obtain ⟨_, _, _, _, _, _, _, _, _, _, _, _, _, rfl, _⟩ := h; rfl) | (obtain ⟨_, _, _, _, _, _, _, _, _, _, _, _, _, _, rfl, _⟩ := h; rfl) | (obtain ⟨_, _, _, _, _, _, _, _, _, _, _, _, _, _, _, rfl, _⟩ := h; rfl) | (obtain ⟨_, _, _, _, _, _, _, _, _, _, _, _, _, _, _, _, rfl, _⟩ := h; rfl) | (obtain ⟨_, _, _, _, _, _, _, _, _, _, _, _, _, _, _, _, _, rfl, _⟩ := h; rfl) | (obtain ⟨_, _, _, _, _, _, _, _, _, _, _, _, _, _, _, _, _, _, rfl, _⟩ := h; rfl) | (obtain ⟨_, _, _, _, _, _, _, _, _, _, _, _, _, _, _, _, _, _, _, rfl, _⟩ := h; rfl) | (obtain ⟨_, _, _, _, _, _, _, _, _, _, _, _, _, _, _, _, _, _, _, _, rfl, _⟩ := h; rfl) | (obtain ⟨_, _, _, _, _, _, _, _, _, _, _, _, _, _, _, _, _, _, _, _, _, rfl, _⟩ := h; rfl) | (obtain ⟨_, _, _, _, _, _, _, _, _, _, _, _, _, _, _, _, _, _, _, _, _, _, rfl, _⟩ := h; rfl) | (obtain ⟨_, _, _, _, _, _, _, _, _, _, _, _, _, _, _, _, _, _, _, _, _, _, _, rfl, _⟩ := h; rfl)
  · obtain ⟨x, ns, rfl, ⟨dx, t, hx, ht⟩, q⟩ := h
    refine ⟨_, (pss_one (ps_ret (pe_fld (pv 0) (by rfl)))), ?_⟩
    exact ⟨_, rfl, x, C_Form, dx, _, .ref t, rfl, hx, T.cl_Form, T.na_Form_coefficients, lk_same, q t ht⟩
theorem ok_Form___eq__ (T : Txt K mg C_Form C_Ring C_Element) : MDef (fun p f => EqC K C_Form f) P w K mg base 1 ["self", "other"] (sp_Form___eq__ K C_Form C_Ring C_Element) := by
  obtain ⟨p_, f_, fd_, R_, F_⟩ := T.e_Form___eq__
  refine ⟨p_, f_, fd_, R_, F_.binds (ps := ["self", "other"]) (fun _ _ _ _ _ _ us hl => match us, hl with | [_, _], _ => rfl), ?_⟩
  refine F_.ok sc_Form___eq__ (fun vs H Q E h => ?_) (fun cdv A outer s H vs Q E hr h => ?_)
  · first | (obtain ⟨rfl, _⟩ := h; rfl) | (obtain ⟨_, rfl, _⟩ := h; rfl) | (obtain ⟨_, _, rfl, _⟩ := h; rfl) | (obtain ⟨_, _, _, rfl, _⟩ := h; rfl) | (obtain ⟨_, _, _, _, rfl, _⟩ := h; rfl) | (obtain ⟨_, _, _, _, _, rfl, _⟩ := h; rfl) | (obtain ⟨_, _, _, _, _, _, rfl, _⟩ := h; rfl) | (obtain ⟨_, _, _, _, _, _, _, rfl, _⟩ := h; rfl) | (obtain ⟨_, _, _, _, _, _, _, _, rfl, _⟩ := h; rfl) | (obtain ⟨_, _, _, _, _, _, _, _, _, rfl, _⟩ := h; rfl) | (obtain ⟨_, _, _, _, _, _, _, _, _, _, rfl, _⟩ := h; rfl) | (obtain ⟨_, _, _, _, _, _, _, _, _, _, _, rfl, _⟩ := h; rfl) | (obtain ⟨_, _, _, _, _, _, _, _, _, _, _, _, rfl, _⟩ := h; rfl) | (obtain ⟨_, _, _, _, _, _, _, _, _, _, _, _, _, rfl, _⟩ := h; rfl) | (obtain ⟨_, _, _, _, _, _, _, _, _, _, _, _, _, _, rfl, _⟩ := h; rfl) | (obtain ⟨_, _, _, _, _, _, _, _, _, _, _, _, _, _, _, rfl, _⟩ := h; rfl) | (obtain ⟨_, _, _, _, _, _, _, _, _, _, _, _, _, _, _, _, rfl, _⟩ := h; rfl) | (obtain ⟨_, _, _, _, _, _, _, _, _, _, _, _, _, _, _, _, _, rfl, _⟩ := h; rfl) | (obtain ⟨_, _, _, _, _, _, _, _, _, _, _, _, _, _, _, _, _, _, rfl, _⟩ := h; rfl) | (obtain ⟨_, _, _, _, _, _, _, _, _, _, _, _, _, _, _, _, _, _, _, rfl, _⟩ := h; rfl) | (obtain ⟨_, _, _, _, _, _, _, _, _, _, _, _, _, _, _, _, _, _, _, _, rfl, _⟩ := h; rfl) | (obtain ⟨_, _, _, _, _, _, _, _, _, _, _, _, _, _, _, _, _, _, _, _, _, rfl, _⟩ := h; rfl) | (obtain ⟨_, _, _, _, _, _, _, _, _, _, _, _, _, _, _, _, _, _, _, _, _, _, rfl, _⟩ := h; rfl) | (obtain ⟨_, _, _, _, _, _, _, _, _, _, _, _, _, _, _, _, _, _, _, _, _, _, _, rfl, _⟩ := h; rfl)
  · obtain ⟨x, y, ns, ms, rfl, ⟨dx, t, hx, ht⟩, ⟨dy, u, hy, hu⟩, q⟩ := h
    refine ⟨_, (pss_one (ps_ret (pe_and (pe_callB call_isi (by rfl) T.b_isinstance (by decide +kernel) (pa_cons (pv 1) (pa_cons (pe_glob (v := .ref C_Form) (by rfl) T.g_Form rfl) pa_nil))) (pe_one (pe_cmpR (op_eqD hr.units) (pe_fld (pv 0) (by rfl)) (pe_fld (pv 1) (by rfl)) (nomark _)))))), ?_⟩
    refine ⟨_, rfl, _, _, _, _, true, rfl, .own _, ty_ins T.ty_Form T.cl_Form hy, kit_self, _, rfl, ?_⟩
    refine ⟨_, rfl, x, C_Form, dx, _, .ref t, rfl, hx, T.cl_Form, T.na_Form_coefficients, lk_same, _, rfl, y, C_Form, dy, _, .ref u, rfl, hy, T.cl_Form, T.na_Form_coefficients, lk_same, ?_⟩
    refine ⟨.tuple (ns.map .int), .tuple (ms.map .int), .tup (SqT.of ht) (dp_ints _), .tup (SqT.of hu) (dp_ints _), shaped_tints _, shaped_tints _, ?_⟩
    rw [PyData.eqv, eqv_ints]
    exact q
end
end K13
namespace K13
open PySem PySem.Spec PyProof.Rows L2 Fr
def Low (u y z b u' y' z' b' : Int) : Prop := ∃ g : Int, u = g * u' ∧ y = g * y' ∧ z = g * z' ∧ b = g * b' ∧ 0 < b' ∧ Nat.gcd (gcdL [u', y', z']) b'.natAbs = 1
def B4 (n : Nat) (a b c d : Int) : Prop := B n a ∧ B n b ∧ B n c ∧ B n d
def B3 (n : Nat) (a b c : Int) : Prop := B n a ∧ B n b ∧ B n c
section
def sp_fraction (_ : PySem.W.Frag) (C C_R C_E : Addr) : Sp := fun vs H Q _ => ∃ a b : Int, vs = [.int a, .int b] ∧ 0 < b ∧ b < 2 ^ 3000 ∧ ∀ x H' p q g, 0 < g → a = g * p → b = g * q → Nat.gcd p.natAbs q.natAbs = 1 → Ex0 H H' → Ti H' x [p, q] → Q (.ref x) H'
def sp_check_form (_ : PySem.W.Frag) (C C_R C_E : Addr) : Sp := fun vs H Q _ => ∃ (x : Addr) (ns : List Int), vs = [.ref x] ∧ FormAt C H x ns ∧ Q .non H
def sp_check_bottom (_ : PySem.W.Frag) (C C_R C_E : Addr) : Sp := fun vs H Q _ => ∃ i : Int, vs = [.int i] ∧ Short i ∧ i ≠ 0 ∧ Q .non H
def sp_table_of (_ : PySem.W.Frag) (C C_R C_E : Addr) : Sp := fun vs H Q _ => ∃ (t : Addr) (a b c d : Int), vs = [.ref t] ∧ Ti H t [a, b, c, d] ∧ B4 1000 a b c d ∧ ∀ x H', Ex0 H H' → T33 H' x (w1 a b c d) (w2 a b c d) (w3 a b c d) → Q (.ref x) H'
def sp_product_by (K : PySem.W.Frag) (C C_R C_E : Addr) : Sp := fun vs H Q _ => ∃ (t l r : Addr) (a b c d e f g h i u x y v z s : Int), vs = [.ref t, .ref l, .ref r] ∧ T33 H t [a, b, c] [d, e, f] [g, h, i] ∧ Tq K H l [u, x, y] ∧ Tq K H r [v, z, s] ∧ B3 2100 a b c ∧ B3 2100 d e f ∧ B3 2100 g h i ∧ B3 9000 u x y ∧ B3 1000 v z s ∧ ∀ o H', Ex0 H H' → Ti H' o [m0 a d g u x y v z s, m1 b e h u x y v z s, m2 c f i u x y v z s] → Q (.ref o) H'
def sp_map_by (K : PySem.W.Frag) (C C_R C_E : Addr) : Sp := fun vs H Q _ => ∃ (t l : Addr) (a b c d e f g h i u x y : Int), vs = [.ref t, .ref l] ∧ T33 H t [a, b, c] [d, e, f] [g, h, i] ∧ Tq K H l [u, x, y] ∧ B3 2100 a b c ∧ B3 2100 d e f ∧ B3 2100 g h i ∧ B3 9000 u x y ∧ ∀ o H', Ex0 H H' → M33 K H' o [m0 a d g u x y 1 0 0, m1 b e h u x y 1 0 0, m2 c f i u x y 1 0 0] [m0 a d g u x y 0 1 0, m1 b e h u x y 0 1 0, m2 c f i u x y 0 1 0] [m0 a d g u x y 0 0 1, m1 b e h u x y 0 0 1, m2 c f i u x y 0 0 1] → Q (.ref o) H'
def sp_trace_by (K : PySem.W.Frag) (C C_R C_E : Addr) : Sp := fun vs H Q _ => ∃ (t l : Addr) (a b c d e f g h i u x y : Int), vs = [.ref t, .ref l] ∧ T33 H t [a, b, c] [d, e, f] [g, h, i] ∧ Tq K H l [u, x, y] ∧ B3 2100 a b c ∧ B3 2100 d e f ∧ B3 2100 g h i ∧ B3 9000 u x y ∧ ∀ H', Ex0 H H' → Q (.int (m0 a d g u x y 1 0 0 + m1 b e h u x y 0 1 0 + m2 c f i u x y 0 0 1)) H'
def sp_table_for (_ : PySem.W.Frag) (C C_R C_E : Addr) : Sp := fun vs H Q _ => ∃ (r : Addr) (a b c d : Int), vs = [.ref r] ∧ RingAt C C_R H r [a, b, c, d] ∧ B4 1000 a b c d ∧ ∀ x H', Ex0 H H' → T33 H' x (w1 a b c d) (w2 a b c d) (w3 a b c d) → Q (.ref x) H'
def sp_Ring___init__ (_ : PySem.W.Frag) (C C_R C_E : Addr) : Sp := fun vs H Q _ => ∃ (x dx f : Addr) (ns : List Int), vs = [.ref x, .ref f] ∧ H x = some (.ins C_R dx []) ∧ FormAt C H f ns ∧ ∀ H', (∀ b o, b ≠ x → H b = some o → H' b = some o) → H' x = some (.ins C_R dx [(("_form" : Str), .ref f)]) → Q .non H'
def sp_Ring_form (_ : PySem.W.Frag) (C C_R C_E : Addr) : Sp := fun vs H Q _ => ∃ (r : Addr) (ns : List Int), vs = [.ref r] ∧ RingAt C C_R H r ns ∧ ∀ f, FormAt C H f ns → Q (.ref f) H
def sp_Ring___eq__ (_ : PySem.W.Frag) (C C_R C_E : Addr) : Sp := fun vs H Q _ => ∃ (x y : Addr) (ns ms : List Int), vs = [.ref x, .ref y] ∧ RingAt C C_R H x ns ∧ RingAt C C_R H y ms ∧ Q (.bl (decide (ns = ms))) H
def sp_Ring_element (K : PySem.W.Frag) (C C_R C_E : Addr) : Sp := fun vs H Q _ => ∃ (r t : Addr) (ns : List Int) (u y z b : Int), vs = [.ref r, .ref t, .int b] ∧ RingAt C C_R H r ns ∧ Ti H t [u, y, z] ∧ Short u ∧ Short y ∧ Short z ∧ Short b ∧ b ≠ 0 ∧ ∀ x H' u' y' z' b', Low u y z b u' y' z' b' → Ex0 H H' → ElAt C C_R C_E H' x ns u' y' z' b' → Q (.ref x) H'
def sp_check_one_ring (_ : PySem.W.Frag) (C C_R C_E : Addr) : Sp := fun vs H Q _ => ∃ (x x' : Addr) (ns : List Int) (u y z b v s r e : Int), vs = [.ref x, .ref x'] ∧ ElAt C C_R C_E H x ns u y z b ∧ ElAt C C_R C_E H x' ns v s r e ∧ Q .non H
def sp_Element___init__ (K : PySem.W.Frag) (C C_R C_E : Addr) : Sp := fun vs H Q _ => ∃ (x dx r t : Addr) (u y z b : Int), vs = [.ref x, .ref r, .ref t, .int b] ∧ H x = some (.ins C_E dx []) ∧ Tq K H t [u, y, z] ∧ b ≠ 0 ∧ B 3000 b ∧ ∀ H' t' u' y' z' b', Low u y z b u' y' z' b' → (∀ c o, c ≠ x → H c = some o → H' c = some o) → t' ≠ x → H' x = some (.ins C_E dx [(("_ring" : Str), .ref r), (("_entries" : Str), .ref t'), (("_bottom" : Str), .int b')]) → Ti H' t' [u', y', z'] → Q .non H'
def sp_Element_ring (_ : PySem.W.Frag) (C C_R C_E : Addr) : Sp := fun vs H Q _ => ∃ (x : Addr) (ns : List Int) (u y z b : Int), vs = [.ref x] ∧ ElAt C C_R C_E H x ns u y z b ∧ ∀ r, RingAt C C_R H r ns → Q (.ref r) H
def sp_Element_trace (_ : PySem.W.Frag) (C C_R C_E : Addr) : Sp := fun vs H Q _ => ∃ (x : Addr) (a b c d u y z e : Int), vs = [.ref x] ∧ ElAt C C_R C_E H x [a, b, c, d] u y z e ∧ B4 1000 a b c d ∧ B3 9000 u y z ∧ 0 < e ∧ e < 2 ^ 3000 ∧ ∀ o H' p q g, 0 < g → tr a b c d u y z = g * p → e = g * q → Nat.gcd p.natAbs q.natAbs = 1 → Ex0 H H' → Ti H' o [p, q] → Q (.ref o) H'
def sp_Element___mul__ (_ : PySem.W.Frag) (C C_R C_E : Addr) : Sp := fun vs H Q _ => ∃ (x x' : Addr) (a b c d u y z e v s r f : Int), vs = [.ref x, .ref x'] ∧ ElAt C C_R C_E H x [a, b, c, d] u y z e ∧ ElAt C C_R C_E H x' [a, b, c, d] v s r f ∧ B4 1000 a b c d ∧ B3 9000 u y z ∧ B3 1000 v s r ∧ B 1000 e ∧ B 1000 f ∧ e * f ≠ 0 ∧ ∀ o H' u' y' z' b', Low (m0 (-a * c) (-a * d) (-b * d) u y z v s r) (m1 b 0 d u y z v s r) (m2 (-a) 0 (-c) u y z v s r) (e * f) u' y' z' b' → Ex0 H H' → ElAt C C_R C_E H' o [a, b, c, d] u' y' z' b' → Q (.ref o) H'
end
theorem un33 {K : PySem.W.Frag} {i1 i2 i3 i4 i5 i6 i7 i8 i9 : Nat} {σ : L2.St} {H : Hp} {t : Addr} {a b c d e f g h i : Int} {Q : L2.St → Hp → Prop} (q : T33 H t [a, b, c] [d, e, f] [g, h, i])
    (z : Q (((((((((σ.set i1 (some (.int a))).set i2 (some (.int b))).set i3 (some (.int c))).set i4 (some (.int d))).set i5 (some (.int e))).set i6 (some (.int f))).set i7 (some (.int g))).set i8 (some (.int h))).set i9 (some (.int i))) H) :
    gTup K 3 (gCons (gTup K 3 (gCons (gName i1) (gCons (gName i2) (gCons (gName i3) gNil)))) (gCons (gTup K 3 (gCons (gName i4) (gCons (gName i5) (gCons (gName i6) gNil)))) (gCons (gTup K 3 (gCons (gName i7) (gCons (gName i8) (gCons (gName i9) gNil)))) gNil))) (.ref t) σ H Q := by
  obtain ⟨t1, t2, t3, h0, h1, h2, h3⟩ := q
  refine ⟨t, _, rfl, SqT.of h0, rfl, _, _, rfl, ?_⟩
  refine ⟨t1, _, rfl, SqT.of h1, rfl, _, _, rfl, _, _, rfl, _, _, rfl, ⟨rfl, ?_⟩⟩
  refine ⟨_, _, rfl, ?_⟩
  refine ⟨t2, _, rfl, SqT.of h2, rfl, _, _, rfl, _, _, rfl, _, _, rfl, ⟨rfl, ?_⟩⟩
  refine ⟨_, _, rfl, ?_⟩
  exact ⟨t3, _, rfl, SqT.of h3, rfl, _, _, rfl, _, _, rfl, _, _, rfl, ⟨rfl, ⟨rfl, z⟩⟩⟩
theorem t33_new {H : Hp} {t1 t2 t3 x : Addr} {r1 r2 r3 : List Int} (n1 : H t1 = none) (n2 : upd H t1 (.tup (r1.map V.int)) t2 = none) (n3 : upd (upd H t1 (.tup (r1.map V.int))) t2 (.tup (r2.map V.int)) t3 = none)
    (n4 : upd (upd (upd H t1 (.tup (r1.map V.int))) t2 (.tup (r2.map V.int))) t3 (.tup (r3.map V.int)) x = none) :
    Ex0 H (upd (upd (upd (upd H t1 (.tup (r1.map V.int))) t2 (.tup (r2.map V.int))) t3 (.tup (r3.map V.int))) x (.tup [.ref t1, .ref t2, .ref t3])) ∧
      T33 (upd (upd (upd (upd H t1 (.tup (r1.map V.int))) t2 (.tup (r2.map V.int))) t3 (.tup (r3.map V.int))) x (.tup [.ref t1, .ref t2, .ref t3])) x r1 r2 r3 :=
  ⟨(((Ex0.new n1).trans (Ex0.new n2)).trans (Ex0.new n3)).trans (Ex0.new n4), t1, t2, t3, upd_same, Ex0.ap (Ex0.new n4) (Ex0.ap (Ex0.new n3) (Ex0.ap (Ex0.new n2) upd_same)), Ex0.ap (Ex0.new n4) (Ex0.ap (Ex0.new n3) upd_same), Ex0.ap (Ex0.new n4) upd_same⟩
inductive Tis (H : Hp) : List V → List (List Int) → Prop where
  | nil : Tis H [] []
  | cons {t : Addr} {r : List Int} {xs : List V} {rs : List (List Int)} (h : Ti H t r) (q : Tis H xs rs) : Tis H (.ref t :: xs) (r :: rs)
theorem Tis.mono {H H' : Hp} {xs : List V} {rs : List (List Int)} (r : Tis H xs rs) (e : ∀ t zs, H t = some (.tup zs) → H' t = some (.tup zs)) : Tis H' xs rs := by
  induction r with
  | nil => exact .nil
  | cons h _ ih => exact .cons (e _ _ h) ih
theorem Tis.snoc {H : Hp} {xs : List V} {rs : List (List Int)} (r : Tis H xs rs) {t : Addr} {r1 : List Int} (h : Ti H t r1) : Tis H (xs ++ [.ref t]) (rs ++ [r1]) := by
  induction r with
  | nil => exact .cons h .nil
  | cons h' _ ih => exact .cons h' ih
theorem Tis.len {H : Hp} {xs : List V} {rs : List (List Int)} (r : Tis H xs rs) : xs.length = rs.length := by
  induction r with
  | nil => rfl
  | cons _ _ ih => rw [List.length_cons, List.length_cons, ih]
theorem Tis.three {H : Hp} {xs : List V} {r1 r2 r3 : List Int} (r : Tis H xs [r1, r2, r3]) : ∃ t1 t2 t3, xs = [.ref t1, .ref t2, .ref t3] ∧ Ti H t1 r1 ∧ Ti H t2 r2 ∧ Ti H t3 r3 := by
  cases r with
  | cons h1 r =>
    cases r with
    | cons h2 r =>
      cases r with
      | cons h3 r =>
        cases r
        exact ⟨_, _, _, rfl, h1, h2, h3⟩
def Uv (i : Nat) (v z s : Int) : Prop := (i = 0 ∧ v = 1 ∧ z = 0 ∧ s = 0) ∨ (i = 1 ∧ v = 0 ∧ z = 1 ∧ s = 0) ∨ (i = 2 ∧ v = 0 ∧ z = 0 ∧ s = 1)
theorem Uv.b {i : Nat} {v z s : Int} (h : Uv i v z s) : i < 3 ∧ B3 1000 v z s := by
  have b0 : B 1000 0 := ⟨by decide, by decide⟩
  have b1 : B 1000 1 := ⟨by decide, by decide⟩
  rcases h with ⟨rfl, rfl, rfl, rfl⟩ | ⟨rfl, rfl, rfl, rfl⟩ | ⟨rfl, rfl, rfl, rfl⟩
  · exact ⟨by decide, b1, b0, b0⟩
  · exact ⟨by decide, b0, b1, b0⟩
  · exact ⟨by decide, b0, b0, b1⟩
theorem unit_at {K : PySem.W.Frag} {H H' : Hp} {a b c : Addr} {i : Nat} {x : V} (h1 : SqT K H a [.int 1, .int 0, .int 0]) (h2 : SqT K H b [.int 0, .int 1, .int 0]) (h3 : SqT K H c [.int 0, .int 0, .int 1]) (e : Ex0 H H')
    (hx : [V.ref a, .ref b, .ref c][i]? = some x) : ∃ t v z s, x = .ref t ∧ Tq K H' t [v, z, s] ∧ Uv i v z s := by
  match i, hx with
  | 0, hx => exact ⟨a, 1, 0, 0, (Option.some.inj hx).symm, Ex0.tq e h1, .inl ⟨rfl, rfl, rfl, rfl⟩⟩
  | 1, hx => exact ⟨b, 0, 1, 0, (Option.some.inj hx).symm, Ex0.tq e h2, .inr (.inl ⟨rfl, rfl, rfl, rfl⟩)⟩
  | 2, hx => exact ⟨c, 0, 0, 1, (Option.some.inj hx).symm, Ex0.tq e h3, .inr (.inr ⟨rfl, rfl, rfl, rfl⟩)⟩
theorem B.pl {n : Nat} {i j : Int} (h1 : B n i) (h2 : B n j) : B (n + 1) (i + j) := ⟨by
  have a := h1.1
  have b := h2.1
  rw [Nat.pow_succ]
  omega, by omega⟩
theorem m_B {n m k : Nat} {A D G u x y v z s : Int} (ha : B k A) (hd : B k D) (hg : B k G) (hu : B3 n u x y) (hv : B3 m v z s) : B (n + m + k + 4) (m0 A D G u x y v z s) ∧ B (n + m + k + 4) (m1 A D G u x y v z s) ∧ B (n + m + k + 4) (m2 A D G u x y v z s) := by
  obtain ⟨h1, h2, h3⟩ := hu
  obtain ⟨k1, k2, k3⟩ := hv
  have k0 := ha.2
  have pl : ∀ {i j l : Nat} {p q : Int}, B i p → B j q → i < l → j < l → B l (p + q) := fun {i j l p q} h g hi hj => (B.pl (n := l - 1) (h.mono (by omega)) (g.mono (by omega))).mono (by omega)
  unfold m0 m1 m2
  have mid := pl (l := n + m + 1) (B.mul h2 k3) (B.mul h3 k2) (by omega) (by omega)
  have lA := B.mul (B.mul h2 k2) ha
  have lD := B.mul mid hd
  have lG := B.mul (B.mul h3 k3) hg
  refine ⟨?_, ?_, ?_⟩
  · exact pl (pl (l := n + m + k + 3) (pl (l := n + m + k + 2) (B.mul h1 k1) lA (by omega) (by omega)) lD (by omega) (by omega)) lG (by omega) (by omega)
  · exact pl (pl (l := n + m + k + 3) (pl (l := n + m + k + 2) (pl (l := n + m + 1) (B.mul h1 k2) (B.mul h2 k1) (by omega) (by omega)) lA (by omega) (by omega)) lD (by omega) (by omega)) lG (by omega) (by omega)
  · exact pl (pl (l := n + m + k + 3) (pl (l := n + m + k + 2) (pl (l := n + m + 1) (B.mul h1 k3) (B.mul h3 k1) (by omega) (by omega)) lA (by omega) (by omega)) lD (by omega) (by omega)) lG (by omega) (by omega)
theorem out_g {g : Nat} {n : Int} (h : (g : Int) ∣ n) : n = (g : Int) * (n / (g : Int)) := (Int.mul_ediv_cancel' h).symm
theorem gcd_out {a b : Int} (h : b ≠ 0) : ∃ p q : Int, 0 < Nat.gcd a.natAbs b.natAbs ∧ a = (Nat.gcd a.natAbs b.natAbs : Int) * p ∧ b = (Nat.gcd a.natAbs b.natAbs : Int) * q ∧ Nat.gcd p.natAbs q.natAbs = 1 := by
  have g0 : 0 < Nat.gcd a.natAbs b.natAbs := Nat.gcd_pos_of_pos_right _ (by omega)
  have d1 : ((Nat.gcd a.natAbs b.natAbs : Nat) : Int) ∣ a := Int.ofNat_dvd_left.mpr (Nat.gcd_dvd_left _ _)
  have d2 : ((Nat.gcd a.natAbs b.natAbs : Nat) : Int) ∣ b := Int.ofNat_dvd_left.mpr (Nat.gcd_dvd_right _ _)
  refine ⟨a / (Nat.gcd a.natAbs b.natAbs : Int), b / (Nat.gcd a.natAbs b.natAbs : Int), g0, out_g d1, out_g d2, ?_⟩
  rw [Int.natAbs_ediv_of_dvd d1, Int.natAbs_ediv_of_dvd d2]
  show Nat.gcd (a.natAbs / Nat.gcd a.natAbs b.natAbs) (b.natAbs / Nat.gcd a.natAbs b.natAbs) = 1
  rw [Nat.gcd_div (Nat.gcd_dvd_left _ _) (Nat.gcd_dvd_right _ _), Nat.div_self g0]
end K13
namespace K13
open PySem PySem.Spec PyProof.Rows L2 Fr
theorem dw3 {i j : Int} (h : 0 < j) (h4 : j < 2 ^ 3000) : CDivW i j := wide_div (b := 3000) h (by omega) (by decide) (by decide)
theorem lkR {a b c : V} : List.lookup ("_ring" : Str) [(("_ring" : Str), a), (("_entries" : Str), b), (("_bottom" : Str), c)] = some a := rfl
theorem lkE {a b c : V} : List.lookup ("_entries" : Str) [(("_ring" : Str), a), (("_entries" : Str), b), (("_bottom" : Str), c)] = some b := rfl
theorem lkB {a b c : V} : List.lookup ("_bottom" : Str) [(("_ring" : Str), a), (("_entries" : Str), b), (("_bottom" : Str), c)] = some c := rfl
theorem made_ex {H H' : Hp} {x dx : Addr} {o1 o2 : HO} (nx : H x = none) (ndx : H dx = none) (e1 : ∀ b o, b ≠ x → (upd (upd H dx o1) x o2) b = some o → H' b = some o) : Ex0 H H' := Ex0.of fun b o e => by
  have n1 : b ≠ x := ne_of_none e nx
  have n2 : b ≠ dx := ne_of_none e ndx
  refine e1 b o n1 ?_
  rw [upd_ne n1, upd_ne n2]
  exact e
theorem made_at {H : Hp} {x dx t : Addr} {o1 o2 : HO} {xs : List V} (nx : H x = none) (ndx : H dx = none) (h : H t = some (.tup xs)) : upd (upd H dx o1) x o2 t = some (.tup xs) := by
  rw [upd_ne (ne_of_none h nx), upd_ne (ne_of_none h ndx)]
  exact h
theorem gcd_dvd {g : Nat} : ∀ (ns : List Int) (x : Nat), g ∣ ns.foldl (fun g n => Nat.gcd g n.natAbs) x ↔ g ∣ x ∧ ∀ n ∈ ns, (g : Int) ∣ n
  | [], x => by simp
  | n :: ns, x => by
    rw [List.foldl_cons, gcd_dvd ns, Nat.dvd_gcd_iff, List.forall_mem_cons, Int.ofNat_dvd_left]
    constructor
    · rintro ⟨⟨h1, h2⟩, h3⟩; exact ⟨h1, h2, h3⟩
    · rintro ⟨h1, h2, h3⟩; exact ⟨⟨h1, h2⟩, h3⟩
theorem gcdL_dvd {g : Nat} {ns : List Int} : g ∣ gcdL ns ↔ ∀ n ∈ ns, (g : Int) ∣ n := by
  unfold gcdL
  rw [gcd_dvd]
  simp
theorem gcd3 {g : Nat} {u y z : Int} : g ∣ gcdL [u, y, z] ↔ (g : Int) ∣ u ∧ (g : Int) ∣ y ∧ (g : Int) ∣ z := by
  rw [gcdL_dvd]
  simp
theorem low_of (u y z b : Int) (h : b ≠ 0) (hb : B 3000 b) : ∃ (g u' y' z' b' : Int), g = (if b < 0 then -((gcdL [(gcdL [u, y, z] : Int), b] : Nat) : Int) else ((gcdL [(gcdL [u, y, z] : Int), b] : Nat) : Int)) ∧ g ≠ 0 ∧ B 3000 g ∧ u = g * u' ∧ y = g * y' ∧ z = g * z' ∧ b = g * b' ∧ 0 < b' ∧ Nat.gcd (gcdL [u', y', z']) b'.natAbs = 1 := by
  have hG : ∀ d : Nat, d ∣ gcdL [(gcdL [u, y, z] : Int), b] ↔ ((d : Int) ∣ u ∧ (d : Int) ∣ y ∧ (d : Int) ∣ z) ∧ (d : Int) ∣ b := fun d => by
    rw [gcdL_dvd, List.forall_mem_cons, Int.natCast_dvd_natCast, gcd3]
    simp
  generalize gcdL [(gcdL [u, y, z] : Int), b] = G at hG ⊢
  obtain ⟨⟨d1, d2, d3⟩, d4⟩ := (hG G).mp (Nat.dvd_refl _)
  have G0 : 0 < G := by
    rcases Nat.eq_zero_or_pos G with e | e
    · rw [e] at d4
      exact absurd (Int.zero_dvd.mp d4) h
    · exact e
  have Gb : G ≤ b.natAbs := Nat.le_of_dvd (by omega) (Int.ofNat_dvd_left.mp d4)
  have bG : B 3000 (G : Int) := ⟨Nat.lt_of_le_of_lt Gb hb.1, by decide⟩
  obtain ⟨u0, rfl⟩ := d1
  obtain ⟨y0, rfl⟩ := d2
  obtain ⟨z0, rfl⟩ := d3
  obtain ⟨b0, rfl⟩ := d4
  have one : ∀ d : Nat, (d : Int) ∣ u0 → (d : Int) ∣ y0 → (d : Int) ∣ z0 → (d : Int) ∣ b0 → d = 1 := fun d e1 e2 e3 e4 => by
    have m : ∀ x : Int, (d : Int) ∣ x → ((G * d : Nat) : Int) ∣ (G : Int) * x := fun x hx => by rw [Int.natCast_mul]; exact Int.mul_dvd_mul_left _ hx
    have k : G * d ∣ G * 1 := by rw [Nat.mul_one]; exact (hG (G * d)).mpr ⟨⟨m _ e1, m _ e2, m _ e3⟩, m _ e4⟩
    exact Nat.dvd_one.mp (Nat.dvd_of_mul_dvd_mul_left G0 k)
  have fin : ∀ u' y' z' b' : Int, (∀ d : Nat, (d : Int) ∣ u' → (d : Int) ∣ u0) → (∀ d : Nat, (d : Int) ∣ y' → (d : Int) ∣ y0) → (∀ d : Nat, (d : Int) ∣ z' → (d : Int) ∣ z0) → (∀ d : Nat, (d : Int) ∣ b' → (d : Int) ∣ b0) → Nat.gcd (gcdL [u', y', z']) b'.natAbs = 1 := fun u' y' z' b' e1 e2 e3 e4 => by
    obtain ⟨f1, f2, f3⟩ := gcd3.mp (Nat.gcd_dvd_left (gcdL [u', y', z']) b'.natAbs)
    exact one _ (e1 _ f1) (e2 _ f2) (e3 _ f3) (e4 _ (Int.ofNat_dvd_left.mpr (Nat.gcd_dvd_right (gcdL [u', y', z']) b'.natAbs)))
  by_cases n : (G : Int) * b0 < 0
  · rw [if_pos n]
    have b1 : b0 < 0 := by
      rcases Int.lt_or_le b0 0 with e | e
      · exact e
      · have := Int.mul_nonneg (show (0 : Int) ≤ G by omega) e
        omega
    exact ⟨_, -u0, -y0, -z0, -b0, rfl, by omega, bG.neg, by rw [Int.neg_mul_neg], by rw [Int.neg_mul_neg], by rw [Int.neg_mul_neg], by rw [Int.neg_mul_neg], by omega, fin _ _ _ _ (fun d => Int.dvd_neg.mp) (fun d => Int.dvd_neg.mp) (fun d => Int.dvd_neg.mp) (fun d => Int.dvd_neg.mp)⟩
  · rw [if_neg n]
    have b1 : 0 < b0 := by
      rcases Int.lt_or_le 0 b0 with e | e
      · exact e
      · have := Int.mul_nonneg (show (0 : Int) ≤ G by omega) (show 0 ≤ -b0 by omega)
        rw [Int.mul_neg] at this
        omega
    exact ⟨_, u0, y0, z0, b0, rfl, by omega, bG, rfl, rfl, rfl, rfl, b1, fin _ _ _ _ (fun d => id) (fun d => id) (fun d => id) (fun d => id)⟩
section
variable {P : Program} {w : World} {K : PySem.W.Frag} {mg : Str → Option Value} {base : Heap} {C_Form C_Ring C_Element : Addr}
theorem ok_fraction (T : Txt K mg C_Form C_Ring C_Element) : Def P w K mg base 1 "fraction" ["top", "bottom"] (sp_fraction K C_Form C_Ring C_Element) := by
  obtain ⟨f_, fd_, g_, F_⟩ := T.d_fraction
  refine ⟨f_, fd_, g_, F_.kp, F_.binds (ps := ["top", "bottom"]) (fun _ _ _ _ _ _ us hl => match us, hl with | [_, _], _ => rfl), ?_⟩
  refine F_.ok sc_fraction (fun vs H Q E h => ?_) (fun cdv A outer s H vs Q E hr h => ?_)
  · first | (obtain ⟨rfl, _⟩ := h; rfl) | (obtain ⟨_, rfl, _⟩ := h; rfl) | (obtain ⟨_, _, rfl, _⟩ := h; rfl) | (obtain ⟨_, _, _, rfl, _⟩ := h; rfl) | (obtain ⟨_, _, _, _, rfl, _⟩ := h; rfl) | (obtain ⟨_, _, _, _, _, rfl, _⟩ := h; rfl) | (obtain ⟨_, _, _, _, _, _, rfl, _⟩ := h; rfl) | (obtain ⟨_, _, _, _, _, _, _, rfl, _⟩ := h; rfl) | (obtain ⟨_, _, _, _, _, _, _, _, rfl, _⟩ := h; rfl) | (obtain ⟨_, _, _, _, _, _, _, _, _, rfl, _⟩ := h; rfl) | (obtain ⟨_, _, _, _, _, _, _, _, _, _, rfl, _⟩ := h; rfl) | (obtain ⟨_, _, _, _, _, _, _, _, _, _, _, rfl, _⟩ := h; rfl) | (obtain ⟨_, _, _, _, _, _, _, _, _, _, _, _, rfl, _⟩ := h; rfl) | (obtain ⟨_, _, _, _, _, _, _, _, _, _, _, _, _, rfl, _⟩ := h; rfl) | (obtain ⟨_, _, _, _, _, _, _, _, _, _, _, _, _, _, rfl, _⟩ := h; rfl) | (obtain ⟨_, _, _, _, _, _, _, _, _, _, _, _, _, _, _, rfl, _⟩ := h; rfl) | (obtain ⟨_, _, _, _, _, _, _, _, _, _, _, _, _, _, _, _, rfl, _⟩ := h; rfl) | (obtain ⟨_, _, _, _, _, _, _, _, _, _, _, _, _, _, _, _, _, rfl, _⟩ := h; rfl) | (obtain ⟨_, _, _, _, _, _, _, _, _, _, _, _, _, _, _, _, _, _, rfl, _⟩ := h; rfl) | (obtain ⟨_, _, _, _, _, _, _, _, _, _, _, _, _, _, _, _, _, _, _, rfl, _⟩ := h; rfl) | (obtain ⟨_, _, _, _, _, _, _, _, _, _, _, _, _, _, _, _, _, _, _, _, rfl, _⟩ := h; rfl) | (obtain ⟨_, _, _, _, _, _, _, _, _, _, _, _, _, _, _, _, _, _, _, _, _, rfl, _⟩ := h; rfl) | (obtain ⟨_, _, _, _, _, _, _, _, _, _, _, _, _, _, _, _, _, _, _, _, _, _, rfl, _⟩ := h; rfl) | (obtain ⟨_, _, _, _, _, _, _, _, _, _, _, _, _, _, _, _, _, _, _, _, _, _, _, rfl, _⟩ := h; rfl)
  · obtain ⟨a, b, rfl, b0, b1, q⟩ := h
    refine ⟨_, (pss_cons (ps_set (i := 2) sc_fraction.nd rfl (.inl rfl) (pe_callBfun cr_gcd (by rfl) T.m_gcd (pa_cons (pv 0) (pa_cons (pv 1) pa_nil))))
    (pss_one (ps_ret (pe_tup (pa_cons (pe_op op_fdivW (pv 0) (pv 2)) (pa_cons (pe_op op_fdivW (pv 1) (pv 2)) pa_nil)))))), ?_⟩
    obtain ⟨p, r, g0, e1, e2, e3⟩ := gcd_out (a := a) (b := b) (by omega)
    have gl : Nat.gcd a.natAbs b.natAbs ≤ b.natAbs := Nat.gcd_le_right _ (by omega)
    have gi : (0 : Int) < (Nat.gcd a.natAbs b.natAbs : Nat) := by omega
    have gb : ((Nat.gcd a.natAbs b.natAbs : Nat) : Int) < 2 ^ 3000 := by omega
    refine ⟨_, rfl, _, rfl, _, _, rfl, ?_⟩
    refine ⟨_, rfl, _, rfl, _, _, rfl, rfl, dw3 gi gb, _, rfl, _, rfl, _, _, rfl, rfl, dw3 gi gb, sl2, fun x nx => ?_⟩
    refine q x _ p r _ gi e1 e2 e3 (Ex0.new nx) ?_
    have h1 : a / ((Nat.gcd a.natAbs b.natAbs : Nat) : Int) = p := Int.ediv_eq_of_eq_mul_right (by omega) e1
    have h2 : b / ((Nat.gcd a.natAbs b.natAbs : Nat) : Int) = r := Int.ediv_eq_of_eq_mul_right (by omega) e2
    show upd H x (.tup [.int (a / ((Nat.gcd a.natAbs b.natAbs : Nat) : Int)), .int (b / ((Nat.gcd a.natAbs b.natAbs : Nat) : Int))]) x = some (.tup ([p, r].map V.int))
    rw [h1, h2]
    exact upd_same
theorem ok_check_form (T : Txt K mg C_Form C_Ring C_Element) : Def P w K mg base 1 "check_form" ["value"] (sp_check_form K C_Form C_Ring C_Element) := by
  obtain ⟨f_, fd_, g_, F_⟩ := T.d_check_form
  refine ⟨f_, fd_, g_, F_.kp, F_.binds (ps := ["value"]) (fun _ _ _ _ _ _ us hl => match us, hl with | [_], _ => rfl), ?_⟩
  refine F_.ok sc_check_form (fun vs H Q E h => ?_) (fun cdv A outer s H vs Q E hr h => ?_)
  · first | (obtain ⟨rfl, _⟩ := h; rfl) | (obtain ⟨_, rfl, _⟩ := h; rfl) | (obtain ⟨_, _, rfl, _⟩ := h; rfl) | (obtain ⟨_, _, _, rfl, _⟩ := h; rfl) | (obtain ⟨_, _, _, _, rfl, _⟩ := h; rfl) | (obtain ⟨_, _, _, _, _, rfl, _⟩ := h; rfl) | (obtain ⟨_, _, _, _, _, _, rfl, _⟩ := h; rfl) | (obtain ⟨_, _, _, _, _, _, _, rfl, _⟩ := h; rfl) | (obtain ⟨_, _, _, _, _, _, _, _, rfl, _⟩ := h; rfl) | (obtain ⟨_, _, _, _, _, _, _, _, _, rfl, _⟩ := h; rfl) | (obtain ⟨_, _, _, _, _, _, _, _, _, _, rfl, _⟩ := h; rfl) | (obtain ⟨_, _, _, _, _, _, _, _, _, _, _, rfl, _⟩ := h; rfl) | (obtain ⟨_, _, _, _, _, _, _, _, _, _, _, _, rfl, _⟩ := h; rfl) | (obtain ⟨_, _, _, _, _, _, _, _, _, _, _, _, _, rfl, _⟩ := h; rfl) | (obtain ⟨_, _, _, _, _, _, _, _, _, _, _, _, _, _, rfl, _⟩ := h; rfl) | (obtain ⟨_, _, _, _, _, _, _, _, _, _, _, _, _, _, _, rfl, _⟩ := h; rfl) | (obtain ⟨_, _, _, _, _, _, _, _, _, _, _, _, _, _, _, _, rfl, _⟩ := h; rfl) | (obtain ⟨_, _, _, _, _, _, _, _, _, _, _, _, _, _, _, _, _, rfl, _⟩ := h; rfl) | (obtain ⟨_, _, _, _, _, _, _, _, _, _, _, _, _, _, _, _, _, _, rfl, _⟩ := h; rfl) | (obtain ⟨_, _, _, _, _, _, _, _, _, _, _, _, _, _, _, _, _, _, _, rfl, _⟩ := h; rfl) | (obtain ⟨_, _, _, _, _, _, _, _, _, _, _, _, _, _, _, _, _, _, _, _, rfl, _⟩ := h; rfl) | (obtain ⟨_, _, _, _, _, _, _, _, _, _, _, _, _, _, _, _, _, _, _, _, _, rfl, _⟩ := h; rfl) | (obtain ⟨_, _, _, _, _, _, _, _, _, _, _, _, _, _, _, _, _, _, _, _, _, _, rfl, _⟩ := h; rfl) | (obtain ⟨_, _, _, _, _, _, _, _, _, _, _, _, _, _, _, _, _, _, _, _, _, _, _, rfl, _⟩ := h; rfl)
  · obtain ⟨x, ns, rfl, ⟨dx, t, hx, ht⟩, q⟩ := h
    refine ⟨_, (pss_one (ps_if (pt_not (pt_val (pe_callB call_isi (by rfl) T.b_isinstance (by decide +kernel) (pa_cons (pv 0) (pa_cons (pe_glob (v := .ref C_Form) (by rfl) T.g_Form rfl) pa_nil)))))
      pss_never
      pss_nil)), ?_⟩
    refine ⟨_, rfl, _, _, _, _, true, rfl, .own _, ty_ins T.ty_Form T.cl_Form hx, kit_self, _, rfl, ?_⟩
    exact iteF q
theorem ok_check_bottom (T : Txt K mg C_Form C_Ring C_Element) : Def P w K mg base 4 "check_bottom" ["bottom"] (sp_check_bottom K C_Form C_Ring C_Element) := by
  obtain ⟨f_, fd_, g_, F_⟩ := T.d_check_bottom
  obtain ⟨f_check_integer, fd_check_integer, g_check_integer, k_check_integer, b_check_integer, G_check_integer⟩ := (ok_check_integer (P := P) (w := w) (base := base) T)
  refine ⟨f_, fd_, g_, F_.kp, F_.binds (ps := ["bottom"]) (fun _ _ _ _ _ _ us hl => match us, hl with | [_], _ => rfl), ?_⟩
  refine F_.ok sc_check_bottom (fun vs H Q E h => ?_) (fun cdv A outer s H vs Q E hr h => ?_)
  · first | (obtain ⟨rfl, _⟩ := h; rfl) | (obtain ⟨_, rfl, _⟩ := h; rfl) | (obtain ⟨_, _, rfl, _⟩ := h; rfl) | (obtain ⟨_, _, _, rfl, _⟩ := h; rfl) | (obtain ⟨_, _, _, _, rfl, _⟩ := h; rfl) | (obtain ⟨_, _, _, _, _, rfl, _⟩ := h; rfl) | (obtain ⟨_, _, _, _, _, _, rfl, _⟩ := h; rfl) | (obtain ⟨_, _, _, _, _, _, _, rfl, _⟩ := h; rfl) | (obtain ⟨_, _, _, _, _, _, _, _, rfl, _⟩ := h; rfl) | (obtain ⟨_, _, _, _, _, _, _, _, _, rfl, _⟩ := h; rfl) | (obtain ⟨_, _, _, _, _, _, _, _, _, _, rfl, _⟩ := h; rfl) | (obtain ⟨_, _, _, _, _, _, _, _, _, _, _, rfl, _⟩ := h; rfl) | (obtain ⟨_, _, _, _, _, _, _, _, _, _, _, _, rfl, _⟩ := h; rfl) | (obtain ⟨_, _, _, _, _, _, _, _, _, _, _, _, _, rfl, _⟩ := h; rfl) | (obtain ⟨_, _, _, _, _, _, _, _, _, _, _, _, _, _, rfl, _⟩ := h; rfl) | (obtain ⟨_, _, _, _, _, _, _, _, _, _, _, _, _, _, _, rfl, _⟩ := h; rfl) | (obtain ⟨_, _, _, _, _, _, _, _, _, _, _, _, _, _, _, _, rfl, _⟩ := h; rfl) | (obtain ⟨_, _, _, _, _, _, _, _, _, _, _, _, _, _, _, _, _, rfl, _⟩ := h; rfl) | (obtain ⟨_, _, _, _, _, _, _, _, _, _, _, _, _, _, _, _, _, _, rfl, _⟩ := h; rfl) | (obtain ⟨_, _, _, _, _, _, _, _, _, _, _, _, _, _, _, _, _, _, _, rfl, _⟩ := h; rfl) | (obtain ⟨_, _, _, _, _, _, _, _, _, _, _, _, _, _, _, _, _, _, _, _, rfl, _⟩ := h; rfl) | (obtain ⟨_, _, _, _, _, _, _, _, _, _, _, _, _, _, _, _, _, _, _, _, _, rfl, _⟩ := h; rfl) | (obtain ⟨_, _, _, _, _, _, _, _, _, _, _, _, _, _, _, _, _, _, _, _, _, _, rfl, _⟩ := h; rfl) | (obtain ⟨_, _, _, _, _, _, _, _, _, _, _, _, _, _, _, _, _, _, _, _, _, _, _, rfl, _⟩ := h; rfl)
  · obtain ⟨i, rfl, hs, h0, q⟩ := h
    refine ⟨_, (pss_cons (ps_expr (pe_call G_check_integer (hr.mono (by decide)) (by rfl) g_check_integer k_check_integer b_check_integer .nil pass0 (pa_cons (pv 0) pa_nil)))
    (pss_one (ps_if (pt_cmpR op_eq (pv 0) pe_int (nomark _))
      pss_never
      pss_nil))), ?_⟩
    refine ⟨_, rfl, i, rfl, hs, ?_⟩
    refine ⟨_, rfl, rfl, _, rfl, iteE (fun e => absurd e h0) (fun _ => q)⟩
theorem ok_table_of (T : Txt K mg C_Form C_Ring C_Element) : Def P w K mg base 1 "table_of" ["coefficients"] (sp_table_of K C_Form C_Ring C_Element) := by
  obtain ⟨f_, fd_, g_, F_⟩ := T.d_table_of
  refine ⟨f_, fd_, g_, F_.kp, F_.binds (ps := ["coefficients"]) (fun _ _ _ _ _ _ us hl => match us, hl with | [_], _ => rfl), ?_⟩
  refine F_.ok sc_table_of (fun vs H Q E h => ?_) (fun cdv A outer s H vs Q E hr h => ?_)
  · first | (obtain ⟨rfl, _⟩ := h; rfl) | (obtain ⟨_, rfl, _⟩ := h; rfl) | (obtain ⟨_, _, rfl, _⟩ := h; rfl) | (obtain ⟨_, _, _, rfl, _⟩ := h; rfl) | (obtain ⟨_, _, _, _, rfl, _⟩ := h; rfl) | (obtain ⟨_, _, _, _, _, rfl, _⟩ := h; rfl) | (obtain ⟨_, _, _, _, _, _, rfl, _⟩ := h; rfl) | (obtain ⟨_, _, _, _, _, _, _, rfl, _⟩ := h; rfl) | (obtain ⟨_, _, _, _, _, _, _, _, rfl, _⟩ := h; rfl) | (obtain ⟨_, _, _, _, _, _, _, _, _, rfl, _⟩ := h; rfl) | (obtain ⟨_, _, _, _, _, _, _, _, _, _, rfl, _⟩ := h; rfl) | (obtain ⟨_, _, _, _, _, _, _, _, _, _, _, rfl, _⟩ := h; rfl) | (obtain ⟨_, _, _, _, _, _, _, _, _, _, _, _, rfl, _⟩ := h; rfl) | (obtain ⟨_, _, _, _, _, _, _, _, _, _, _, _, _, rfl, _⟩ := h; rfl) | (obtain ⟨_, _, _, _, _, _, _, _, _, _, _, _, _, _, rfl, _⟩ := h; rfl) | (obtain ⟨_, _, _, _, _, _, _, _, _, _, _, _, _, _, _, rfl, _⟩ := h; rfl) | (obtain ⟨_, _, _, _, _, _, _, _, _, _, _, _, _, _, _, _, rfl, _⟩ := h; rfl) | (obtain ⟨_, _, _, _, _, _, _, _, _, _, _, _, _, _, _, _, _, rfl, _⟩ := h; rfl) | (obtain ⟨_, _, _, _, _, _, _, _, _, _, _, _, _, _, _, _, _, _, rfl, _⟩ := h; rfl) | (obtain ⟨_, _, _, _, _, _, _, _, _, _, _, _, _, _, _, _, _, _, _, rfl, _⟩ := h; rfl) | (obtain ⟨_, _, _, _, _, _, _, _, _, _, _, _, _, _, _, _, _, _, _, _, rfl, _⟩ := h; rfl) | (obtain ⟨_, _, _, _, _, _, _, _, _, _, _, _, _, _, _, _, _, _, _, _, _, rfl, _⟩ := h; rfl) | (obtain ⟨_, _, _, _, _, _, _, _, _, _, _, _, _, _, _, _, _, _, _, _, _, _, rfl, _⟩ := h; rfl) | (obtain ⟨_, _, _, _, _, _, _, _, _, _, _, _, _, _, _, _, _, _, _, _, _, _, _, rfl, _⟩ := h; rfl)
  · obtain ⟨t, a, b, c, d, rfl, ht, ⟨ba, bb, bc, bd⟩, q⟩ := h
    refine ⟨_, (pss_cons (ps_asg (pv 0) (pg_tup (by rfl) (pgs_cons (pg_name (i := 1) sc_table_of.nd rfl (.inl rfl)) (pgs_cons (pg_name (i := 2) sc_table_of.nd rfl (.inl rfl)) (pgs_cons (pg_name (i := 3) sc_table_of.nd rfl (.inl rfl)) (pgs_cons (pg_name (i := 4) sc_table_of.nd rfl (.inl rfl)) pgs_nil))))))
    (pss_one (ps_ret (pe_tup (pa_cons (pe_tup (pa_cons (pe_op op_mulW (pe_un un_neg (pv 1)) (pv 3)) (pa_cons (pv 2) (pa_cons (pe_un un_neg (pv 1)) pa_nil)))) (pa_cons (pe_tup (pa_cons (pe_op op_mulW (pe_un un_neg (pv 1)) (pv 4)) (pa_cons pe_int (pa_cons pe_int pa_nil)))) (pa_cons (pe_tup (pa_cons (pe_op op_mulW (pe_un un_neg (pv 2)) (pv 4)) (pa_cons (pv 4) (pa_cons (pe_un un_neg (pv 3)) pa_nil)))) pa_nil))))))), ?_⟩
    refine ⟨_, rfl, unI4 ht ?_⟩
    refine ⟨_, rfl, _, rfl, _, rfl, _, _, rfl, rfl, mulB (B.neg (by with_reducible assumption)) (by with_reducible assumption) (by decide), _, rfl, _, rfl, _, rfl, sl3, fun t1 n1 => ⟨_, rfl, _, rfl, _, rfl, _, _, rfl, rfl, mulB (B.neg (by with_reducible assumption)) (by with_reducible assumption) (by decide), sl3, fun t2 n2 => ⟨_, rfl, _, rfl, _, rfl, _, _, rfl, rfl, mulB (B.neg (by with_reducible assumption)) (by with_reducible assumption) (by decide), _, rfl, _, rfl, _, rfl, sl3, fun t3 n3 => ⟨sl3, fun x nx => ?_⟩⟩⟩⟩
    have z := t33_new (r1 := w1 a b c d) (r2 := w2 a b c d) (r3 := w3 a b c d) n1 n2 n3 nx
    exact q x _ z.1 z.2
theorem ok_product_by (T : Txt K mg C_Form C_Ring C_Element) : Def P w K mg base 1 "product_by" ["table", "first", "second"] (sp_product_by K C_Form C_Ring C_Element) := by
  obtain ⟨f_, fd_, g_, F_⟩ := T.d_product_by
  refine ⟨f_, fd_, g_, F_.kp, F_.binds (ps := ["table", "first", "second"]) (fun _ _ _ _ _ _ us hl => match us, hl with | [_, _, _], _ => rfl), ?_⟩
  refine F_.ok sc_product_by (fun vs H Q E h => ?_) (fun cdv A outer s H vs Q E hr h => ?_)
  · first | (obtain ⟨rfl, _⟩ := h; rfl) | (obtain ⟨_, rfl, _⟩ := h; rfl) | (obtain ⟨_, _, rfl, _⟩ := h; rfl) | (obtain ⟨_, _, _, rfl, _⟩ := h; rfl) | (obtain ⟨_, _, _, _, rfl, _⟩ := h; rfl) | (obtain ⟨_, _, _, _, _, rfl, _⟩ := h; rfl) | (obtain ⟨_, _, _, _, _, _, rfl, _⟩ := h; rfl) | (obtain ⟨_, _, _, _, _, _, _, rfl, _⟩ := h; rfl) | (obtain ⟨_, _, _, _, _, _, _, _, rfl, _⟩ := h; rfl) | (obtain ⟨_, _, _, _, _, _, _, _, _, rfl, _⟩ := h; rfl) | (obtain ⟨_, _, _, _, _, _, _, _, _, _, rfl, _⟩ := h; rfl) | (obtain ⟨_, _, _, _, _, _, _, _, _, _, _, rfl, _⟩ := h; rfl) | (obtain ⟨_, _, _, _, _, _, _, _, _, _, _, _, rfl, _⟩ := h; rfl) | (obtain ⟨_, _, _, _, _, _, _, _, _, _, _, _, _, rfl, _⟩ := h; rfl) | (obtain ⟨_, _, _, _, _, _, _, _, _, _, _, _, _, _, rfl, _⟩ := h; rfl) | (obtain ⟨_, _, _, _, _, _, _, _, _, _, _, _, _, _, _, rfl, _⟩ := h; rfl) | (obtain ⟨_, _, _, _, _, _, _, _, _, _, _, _, _, _, _, _, rfl, _⟩ := h; rfl) | (obtain ⟨_, _, _, _, _, _, _, _, _, _, _, _, _, _, _, _, _, rfl, _⟩ := h; rfl) | (obtain ⟨_, _, _, _, _, _, _, _, _, _, _, _, _, _, _, _, _, _, rfl, _⟩ := h; rfl) | (obtain ⟨_, _, _, _, _, _, _, _, _, _, _, _, _, _, _, _, _, _, _, rfl, _⟩ := h; rfl) | (obtain ⟨_, _, _, _, _, _, _, _, _, _, _, _, _, _, _, _, _, _, _, _, rfl, _⟩ := h; rfl) | (obtain ⟨_, _, _, _, _, _, _, _, _, _, _, _, _, _, _, _, _, _, _, _, _, rfl, _⟩ := h; rfl) | (obtain ⟨_, _, _, _, _, _, _, _, _, _, _, _, _, _, _, _, _, _, _, _, _, _, rfl, _⟩ := h; rfl) | (obtain ⟨_, _, _, _, _, _, _, _, _, _, _, _, _, _, _, _, _, _, _, _, _, _, _, rfl, _⟩ := h; rfl)
  · obtain ⟨t, l, r, a, b, c, d, e, f, g, h', i, u, x, y, v, z, s', rfl, ht, hl, hr, ⟨ba, bb, bc⟩, ⟨bd, be, bf⟩, ⟨bg, bh, bi⟩, ⟨bu, bx, by'⟩, ⟨bv, bz, bs⟩, q⟩ := h
    refine ⟨_, (Evl.pss_cut (ps_asg (pv 0) (pg_tup (by rfl) (pgs_cons (pg_tup (by rfl) (pgs_cons (pg_name (i := 3) sc_product_by.nd rfl (.inl rfl)) (pgs_cons (pg_name (i := 4) sc_product_by.nd rfl (.inl rfl)) (pgs_cons (pg_name (i := 5) sc_product_by.nd rfl (.inl rfl)) pgs_nil)))) (pgs_cons (pg_tup (by rfl) (pgs_cons (pg_name (i := 6) sc_product_by.nd rfl (.inl rfl)) (pgs_cons (pg_name (i := 7) sc_product_by.nd rfl (.inl rfl)) (pgs_cons (pg_name (i := 8) sc_product_by.nd rfl (.inl rfl)) pgs_nil)))) (pgs_cons (pg_tup (by rfl) (pgs_cons (pg_name (i := 9) sc_product_by.nd rfl (.inl rfl)) (pgs_cons (pg_name (i := 10) sc_product_by.nd rfl (.inl rfl)) (pgs_cons (pg_name (i := 11) sc_product_by.nd rfl (.inl rfl)) pgs_nil)))) pgs_nil)))))
    (Evl.pss_cut (ps_asg (pv 1) (pg_tup (by rfl) (pgs_cons (pg_name (i := 12) sc_product_by.nd rfl (.inl rfl)) (pgs_cons (pg_name (i := 13) sc_product_by.nd rfl (.inl rfl)) (pgs_cons (pg_name (i := 14) sc_product_by.nd rfl (.inl rfl)) pgs_nil)))))
    (Evl.pss_cut (ps_asg (pv 2) (pg_tup (by rfl) (pgs_cons (pg_name (i := 15) sc_product_by.nd rfl (.inl rfl)) (pgs_cons (pg_name (i := 16) sc_product_by.nd rfl (.inl rfl)) (pgs_cons (pg_name (i := 17) sc_product_by.nd rfl (.inl rfl)) pgs_nil)))))
    (pss_cons (ps_par3 (i := 18) (j := 19) (l := 20) (by rfl) sc_product_by.nd rfl rfl rfl (by decide) (by decide) (by decide) rfl rfl rfl (pa_cons (pe_op op_mulW (pv 13) (pv 16)) (pa_cons (pe_op op_add (pe_op op_mulW (pv 13) (pv 17)) (pe_op op_mulW (pv 14) (pv 16))) (pa_cons (pe_op op_mulW (pv 14) (pv 17)) pa_nil))) (by rfl))
    (pss_one (ps_ret (pe_tup (pa_cons (pe_op op_add (pe_op op_add (pe_op op_add (pe_op op_mulW (pv 12) (pv 15)) (pe_op op_mulW (pv 18) (pv 3))) (pe_op op_mulW (pv 19) (pv 6))) (pe_op op_mulW (pv 20) (pv 9))) (pa_cons (pe_op op_add (pe_op op_add (pe_op op_add (pe_op op_add (pe_op op_mulW (pv 12) (pv 16)) (pe_op op_mulW (pv 13) (pv 15))) (pe_op op_mulW (pv 18) (pv 4))) (pe_op op_mulW (pv 19) (pv 7))) (pe_op op_mulW (pv 20) (pv 10))) (pa_cons (pe_op op_add (pe_op op_add (pe_op op_add (pe_op op_add (pe_op op_mulW (pv 12) (pv 17)) (pe_op op_mulW (pv 14) (pv 15))) (pe_op op_mulW (pv 18) (pv 5))) (pe_op op_mulW (pv 19) (pv 8))) (pe_op op_mulW (pv 20) (pv 11))) pa_nil)))))))))), ?_⟩
    refine ⟨fun σ H' => σ = [some (.ref t), some (.ref l), some (.ref r), some (.int a), some (.int b), some (.int c), some (.int d), some (.int e), some (.int f), some (.int g), some (.int h'), some (.int i), none, none, none, none, none, none, none, none, none] ∧ H' = H, ⟨_, rfl, un33 ht ⟨rfl, rfl⟩⟩, ?_⟩
    rintro σ H' ⟨rfl, rfl⟩
    refine ⟨fun σ H'' => σ = [some (.ref t), some (.ref l), some (.ref r), some (.int a), some (.int b), some (.int c), some (.int d), some (.int e), some (.int f), some (.int g), some (.int h'), some (.int i), some (.int u), some (.int x), some (.int y), none, none, none, none, none, none] ∧ H'' = H', ⟨_, rfl, unq3 hl ⟨rfl, rfl⟩⟩, ?_⟩
    rintro σ H'' ⟨rfl, rfl⟩
    refine ⟨fun σ H' => σ = [some (.ref t), some (.ref l), some (.ref r), some (.int a), some (.int b), some (.int c), some (.int d), some (.int e), some (.int f), some (.int g), some (.int h'), some (.int i), some (.int u), some (.int x), some (.int y), some (.int v), some (.int z), some (.int s'), none, none, none] ∧ H' = H'', ⟨_, rfl, unq3 hr ⟨rfl, rfl⟩⟩, ?_⟩
    rintro σ H' ⟨rfl, rfl⟩
    refine ⟨_, rfl, _, rfl, _, _, rfl, rfl, mulB (by with_reducible assumption) (by with_reducible assumption) (by decide), _, rfl, _, rfl, _, _, rfl, rfl, mulB (by with_reducible assumption) (by with_reducible assumption) (by decide), _, rfl, _, rfl, _, _, rfl, rfl, mulB (by with_reducible assumption) (by with_reducible assumption) (by decide), _, _, rfl, rfl, _, rfl, _, rfl, _, _, rfl, rfl, mulB (by with_reducible assumption) (by with_reducible assumption) (by decide), ?_⟩
    have bL : B 10000 (x * z) := B.mul bx bz
    have bM : B 10001 (x * s' + y * z) := B.pl (B.mul bx bs) (B.mul by' bz)
    have bR : B 10000 (y * s') := B.mul by' bs
    refine ⟨_, _, _, rfl, ?_⟩
    refine ⟨_, rfl, _, rfl, _, _, rfl, rfl, mulB (by with_reducible assumption) (by with_reducible assumption) (by decide), _, rfl, _, rfl, _, _, rfl, rfl, mulB (by with_reducible assumption) (by with_reducible assumption) (by decide), _, _, rfl, rfl, _, rfl, _, rfl, _, _, rfl, rfl, mulB (by with_reducible assumption) (by with_reducible assumption) (by decide), _, _, rfl, rfl, _, rfl, _, rfl, _, _, rfl, rfl, mulB (by with_reducible assumption) (by with_reducible assumption) (by decide), _, _, rfl, rfl, _, rfl, _, rfl, _, _, rfl, rfl, mulB (by with_reducible assumption) (by with_reducible assumption) (by decide), _, rfl, _, rfl, _, _, rfl, rfl, mulB (by with_reducible assumption) (by with_reducible assumption) (by decide), _, _, rfl, rfl, _, rfl, _, rfl, _, _, rfl, rfl, mulB (by with_reducible assumption) (by with_reducible assumption) (by decide), _, _, rfl, rfl, _, rfl, _, rfl, _, _, rfl, rfl, mulB (by with_reducible assumption) (by with_reducible assumption) (by decide), _, _, rfl, rfl, _, rfl, _, rfl, _, _, rfl, rfl, mulB (by with_reducible assumption) (by with_reducible assumption) (by decide), _, _, rfl, rfl, _, rfl, _, rfl, _, _, rfl, rfl, mulB (by with_reducible assumption) (by with_reducible assumption) (by decide), _, rfl, _, rfl, _, _, rfl, rfl, mulB (by with_reducible assumption) (by with_reducible assumption) (by decide), _, _, rfl, rfl, _, rfl, _, rfl, _, _, rfl, rfl, mulB (by with_reducible assumption) (by with_reducible assumption) (by decide), _, _, rfl, rfl, _, rfl, _, rfl, _, _, rfl, rfl, mulB (by with_reducible assumption) (by with_reducible assumption) (by decide), _, _, rfl, rfl, _, rfl, _, rfl, _, _, rfl, rfl, mulB (by with_reducible assumption) (by with_reducible assumption) (by decide), _, _, rfl, rfl, sl3, fun o no => ?_⟩
    exact q o _ (Ex0.new no) upd_same
end
end K13
namespace K13
open PySem PySem.Spec PyProof.Rows L2 Fr
theorem tq_upd {K : PySem.W.Frag} {H : Hp} {t x C dx : Addr} {ns : List Int} {fs fs' : List (Str × V)} (h : Tq K H t ns) (hx : H x = some (.ins C dx fs)) : Tq K (upd H x (.ins C dx fs')) t ns := by
  rcases h with h | h
  · left
    rcases h with h | ⟨o, h⟩
    · left
      rw [upd_ne (ne_of h hx (by intro z; cases z))]
      exact h
    · right
      refine ⟨o, ?_⟩
      rw [upd_ne (ne_of h hx (by intro z; cases z))]
      exact h
  · exact .inr h
theorem B0 {n : Nat} (h : 0 < n) : B n 0 := ⟨by show (0 : Int).natAbs < 2 ^ n; exact Nat.two_pow_pos n, h⟩
theorem Tis.upd {H : Hp} {D : Addr} {acc : List V} {o : HO} {xs : List V} {rs : List (List Int)} (hD : H D = some (.lst acc)) (r : Tis H xs rs) : Tis (upd H D o) xs rs := r.mono fun t zs h => by
  rw [upd_ne (ne_of h hD (by intro z; cases z))]
  exact h
section
variable {P : Program} {w : World} {K : PySem.W.Frag} {mg : Str → Option Value} {base : Heap} {C_Form C_Ring C_Element : Addr}
theorem ok_map_by (T : Txt K mg C_Form C_Ring C_Element) : Def P w K mg base 1 "map_by" ["table", "entries"] (sp_map_by K C_Form C_Ring C_Element) := by
  obtain ⟨f_, fd_, g_, F_⟩ := T.d_map_by
  refine ⟨f_, fd_, g_, F_.kp, F_.binds (ps := ["table", "entries"]) (fun _ _ _ _ _ _ us hl => match us, hl with | [_, _], _ => rfl), ?_⟩
  refine F_.ok sc_map_by (fun vs H Q E h => ?_) (fun cdv A outer s H vs Q E hr h => ?_)
  · first | (obtain ⟨rfl, _⟩ := h; rfl) | (obtain ⟨_, rfl, _⟩ := h; rfl) | (obtain ⟨_, _, rfl, _⟩ := h; rfl) | (obtain ⟨_, _, _, rfl, _⟩ := h; rfl) | (obtain ⟨_, _, _, _, rfl, _⟩ := h; rfl) | (obtain ⟨_, _, _, _, _, rfl, _⟩ := h; rfl) | (obtain ⟨_, _, _, _, _, _, rfl, _⟩ := h; rfl) | (obtain ⟨_, _, _, _, _, _, _, rfl, _⟩ := h; rfl) | (obtain ⟨_, _, _, _, _, _, _, _, rfl, _⟩ := h; rfl) | (obtain ⟨_, _, _, _, _, _, _, _, _, rfl, _⟩ := h; rfl) | (obtain ⟨_, _, _, _, _, _, _, _, _, _, rfl, _⟩ := h; rfl) | (obtain ⟨_, _, _, _, _, _, _, _, _, _, _, rfl, _⟩ := h; rfl) | (obtain ⟨_, _, _, _, _, _, _, _, _, _, _, _, rfl, _⟩ := h; rfl) | (obtain ⟨_, _, _, _, _, _, _, _, _, _, _, _, _, rfl, _⟩ := h; rfl) | (obtain ⟨_, _, _, _, _, _, _, _, _, _, _, _, _, _, rfl, _⟩ := h; rfl) | (obtain ⟨_, _, _, _, _, _, _, _, _, _, _, _, _, _, _, rfl, _⟩ := h; rfl) | (obtain ⟨_, _, _, _, _, _, _, _, _, _, _, _, _, _, _, _, rfl, _⟩ := h; rfl) | (obtain ⟨_, _, _, _, _, _, _, _, _, _, _, _, _, _, _, _, _, rfl, _⟩ := h; rfl) | (obtain ⟨_, _, _, _, _, _, _, _, _, _, _, _, _, _, _, _, _, _, rfl, _⟩ := h; rfl) | (obtain ⟨_, _, _, _, _, _, _, _, _, _, _, _, _, _, _, _, _, _, _, rfl, _⟩ := h; rfl) | (obtain ⟨_, _, _, _, _, _, _, _, _, _, _, _, _, _, _, _, _, _, _, _, rfl, _⟩ := h; rfl) | (obtain ⟨_, _, _, _, _, _, _, _, _, _, _, _, _, _, _, _, _, _, _, _, _, rfl, _⟩ := h; rfl) | (obtain ⟨_, _, _, _, _, _, _, _, _, _, _, _, _, _, _, _, _, _, _, _, _, _, rfl, _⟩ := h; rfl) | (obtain ⟨_, _, _, _, _, _, _, _, _, _, _, _, _, _, _, _, _, _, _, _, _, _, _, rfl, _⟩ := h; rfl)
  · obtain ⟨t, l, a, b, c, d, e, f, g, h', i, u, x, y, rfl, ht, hl, ⟨ba, bb, bc⟩, ⟨bd, be, bf⟩, ⟨bg, bh, bi⟩, ⟨bu, bx, by'⟩, q⟩ := h
    refine ⟨_, (Evl.pss_cut (ps_asg (pv 0) (pg_tup (by rfl) (pgs_cons (pg_tup (by rfl) (pgs_cons (pg_name (i := 2) sc_map_by.nd rfl (.inl rfl)) (pgs_cons (pg_name (i := 3) sc_map_by.nd rfl (.inl rfl)) (pgs_cons (pg_name (i := 4) sc_map_by.nd rfl (.inl rfl)) pgs_nil)))) (pgs_cons (pg_tup (by rfl) (pgs_cons (pg_name (i := 5) sc_map_by.nd rfl (.inl rfl)) (pgs_cons (pg_name (i := 6) sc_map_by.nd rfl (.inl rfl)) (pgs_cons (pg_name (i := 7) sc_map_by.nd rfl (.inl rfl)) pgs_nil)))) (pgs_cons (pg_tup (by rfl) (pgs_cons (pg_name (i := 8) sc_map_by.nd rfl (.inl rfl)) (pgs_cons (pg_name (i := 9) sc_map_by.nd rfl (.inl rfl)) (pgs_cons (pg_name (i := 10) sc_map_by.nd rfl (.inl rfl)) pgs_nil)))) pgs_nil)))))
    (Evl.pss_cut (ps_asg (pv 1) (pg_tup (by rfl) (pgs_cons (pg_name (i := 11) sc_map_by.nd rfl (.inl rfl)) (pgs_cons (pg_name (i := 12) sc_map_by.nd rfl (.inl rfl)) (pgs_cons (pg_name (i := 13) sc_map_by.nd rfl (.inl rfl)) pgs_nil)))))
    (pss_one (ps_ret (pe_lst (pa_cons (pv 1) (pa_cons (pe_tup (pa_cons (pe_op op_add (pe_op op_mulW (pv 12) (pv 2)) (pe_op op_mulW (pv 13) (pv 5))) (pa_cons (pe_op op_add (pe_op op_add (pv 11) (pe_op op_mulW (pv 12) (pv 3))) (pe_op op_mulW (pv 13) (pv 6))) (pa_cons (pe_op op_add (pe_op op_mulW (pv 12) (pv 4)) (pe_op op_mulW (pv 13) (pv 7))) pa_nil)))) (pa_cons (pe_tup (pa_cons (pe_op op_add (pe_op op_mulW (pv 12) (pv 5)) (pe_op op_mulW (pv 13) (pv 8))) (pa_cons (pe_op op_add (pe_op op_mulW (pv 12) (pv 6)) (pe_op op_mulW (pv 13) (pv 9))) (pa_cons (pe_op op_add (pe_op op_add (pv 11) (pe_op op_mulW (pv 12) (pv 7))) (pe_op op_mulW (pv 13) (pv 10))) pa_nil)))) pa_nil)))))))), ?_⟩
    refine ⟨fun σ H' => σ = [some (.ref t), some (.ref l), some (.int a), some (.int b), some (.int c), some (.int d), some (.int e), some (.int f), some (.int g), some (.int h'), some (.int i), none, none, none] ∧ H' = H, ⟨_, rfl, un33 ht ⟨rfl, rfl⟩⟩, ?_⟩
    rintro σ H' ⟨rfl, rfl⟩
    refine ⟨fun σ H'' => σ = [some (.ref t), some (.ref l), some (.int a), some (.int b), some (.int c), some (.int d), some (.int e), some (.int f), some (.int g), some (.int h'), some (.int i), some (.int u), some (.int x), some (.int y)] ∧ H'' = H', ⟨_, rfl, unq3 hl ⟨rfl, rfl⟩⟩, ?_⟩
    rintro σ H'' ⟨rfl, rfl⟩
    refine ⟨_, rfl, _, rfl, _, rfl, _, _, rfl, rfl, mulB (by with_reducible assumption) (by with_reducible assumption) (by decide), _, rfl, _, rfl, _, _, rfl, rfl, mulB (by with_reducible assumption) (by with_reducible assumption) (by decide), _, _, rfl, rfl, _, rfl, _, rfl, _, rfl, _, _, rfl, rfl, mulB (by with_reducible assumption) (by with_reducible assumption) (by decide), _, _, rfl, rfl, _, rfl, _, rfl, _, _, rfl, rfl, mulB (by with_reducible assumption) (by with_reducible assumption) (by decide), _, _, rfl, rfl, _, rfl, _, rfl, _, _, rfl, rfl, mulB (by with_reducible assumption) (by with_reducible assumption) (by decide), _, rfl, _, rfl, _, _, rfl, rfl, mulB (by with_reducible assumption) (by with_reducible assumption) (by decide), _, _, rfl, rfl, sl3, fun t1 n1 => ⟨_, rfl, _, rfl, _, _, rfl, rfl, mulB (by with_reducible assumption) (by with_reducible assumption) (by decide), _, rfl, _, rfl, _, _, rfl, rfl, mulB (by with_reducible assumption) (by with_reducible assumption) (by decide), _, _, rfl, rfl, _, rfl, _, rfl, _, _, rfl, rfl, mulB (by with_reducible assumption) (by with_reducible assumption) (by decide), _, rfl, _, rfl, _, _, rfl, rfl, mulB (by with_reducible assumption) (by with_reducible assumption) (by decide), _, _, rfl, rfl, _, rfl, _, rfl, _, rfl, _, _, rfl, rfl, mulB (by with_reducible assumption) (by with_reducible assumption) (by decide), _, _, rfl, rfl, _, rfl, _, rfl, _, _, rfl, rfl, mulB (by with_reducible assumption) (by with_reducible assumption) (by decide), _, _, rfl, rfl, sl3, fun t2 n2 => ⟨sl3, fun o no => ?_⟩⟩⟩
    refine q o _ (((Ex0.new n1).trans (Ex0.new n2)).trans (Ex0.new no)) ⟨l, t1, t2, upd_same, ?_, ?_, ?_⟩
    · have ez := fun (H4 : Hp) (z : Ex0 H'' H4) => Ex0.tq z hl
      rw [show m0 a d g u x y 1 0 0 = u by simp [m0], show m1 b e h' u x y 1 0 0 = x by simp [m1], show m2 c f i u x y 1 0 0 = y by simp [m2]]
      exact ez _ (((Ex0.new n1).trans (Ex0.new n2)).trans (Ex0.new no))
    · rw [show m0 a d g u x y 0 1 0 = x * a + y * d by simp [m0], show m1 b e h' u x y 0 1 0 = u + x * b + y * e by simp [m1], show m2 c f i u x y 0 1 0 = x * c + y * f by simp [m2]]
      exact SqT.of (Ex0.ap (Ex0.new no) (Ex0.ap (Ex0.new n2) upd_same))
    · rw [show m0 a d g u x y 0 0 1 = x * d + y * g by simp [m0], show m1 b e h' u x y 0 0 1 = x * e + y * h' by simp [m1], show m2 c f i u x y 0 0 1 = u + x * f + y * i by simp [m2]]
      exact SqT.of (Ex0.ap (Ex0.new no) upd_same)
theorem ok_trace_by (T : Txt K mg C_Form C_Ring C_Element) : Def P w K mg base 3 "trace_by" ["table", "entries"] (sp_trace_by K C_Form C_Ring C_Element) := by
  obtain ⟨f_, fd_, g_, F_⟩ := T.d_trace_by
  obtain ⟨f_map_by, fd_map_by, g_map_by, k_map_by, b_map_by, G_map_by⟩ := (ok_map_by (P := P) (w := w) (base := base) T)
  refine ⟨f_, fd_, g_, F_.kp, F_.binds (ps := ["table", "entries"]) (fun _ _ _ _ _ _ us hl => match us, hl with | [_, _], _ => rfl), ?_⟩
  refine F_.ok sc_trace_by (fun vs H Q E h => ?_) (fun cdv A outer s H vs Q E hr h => ?_)
  · first | (obtain ⟨rfl, _⟩ := h; rfl) | (obtain ⟨_, rfl, _⟩ := h; rfl) | (obtain ⟨_, _, rfl, _⟩ := h; rfl) | (obtain ⟨_, _, _, rfl, _⟩ := h; rfl) | (obtain ⟨_, _, _, _, rfl, _⟩ := h; rfl) | (obtain ⟨_, _, _, _, _, rfl, _⟩ := h; rfl) | (obtain ⟨_, _, _, _, _, _, rfl, _⟩ := h; rfl) | (obtain ⟨_, _, _, _, _, _, _, rfl, _⟩ := h; rfl) | (obtain ⟨_, _, _, _, _, _, _, _, rfl, _⟩ := h; rfl) | (obtain ⟨_, _, _, _, _, _, _, _, _, rfl, _⟩ := h; rfl) | (obtain ⟨_, _, _, _, _, _, _, _, _, _, rfl, _⟩ := h; rfl) | (obtain ⟨_, _, _, _, _, _, _, _, _, _, _, rfl, _⟩ := h; rfl) | (obtain ⟨_, _, _, _, _, _, _, _, _, _, _, _, rfl, _⟩ := h; rfl) | (obtain ⟨_, _, _, _, _, _, _, _, _, _, _, _, _, rfl, _⟩ := h; rfl) | (obtain ⟨_, _, _, _, _, _, _, _, _, _, _, _, _, _, rfl, _⟩ := h; rfl) | (obtain ⟨_, _, _, _, _, _, _, _, _, _, _, _, _, _, _, rfl, _⟩ := h; rfl) | (obtain ⟨_, _, _, _, _, _, _, _, _, _, _, _, _, _, _, _, rfl, _⟩ := h; rfl) | (obtain ⟨_, _, _, _, _, _, _, _, _, _, _, _, _, _, _, _, _, rfl, _⟩ := h; rfl) | (obtain ⟨_, _, _, _, _, _, _, _, _, _, _, _, _, _, _, _, _, _, rfl, _⟩ := h; rfl) | (obtain ⟨_, _, _, _, _, _, _, _, _, _, _, _, _, _, _, _, _, _, _, rfl, _⟩ := h; rfl) | (obtain ⟨_, _, _, _, _, _, _, _, _, _, _, _, _, _, _, _, _, _, _, _, rfl, _⟩ := h; rfl) | (obtain ⟨_, _, _, _, _, _, _, _, _, _, _, _, _, _, _, _, _, _, _, _, _, rfl, _⟩ := h; rfl) | (obtain ⟨_, _, _, _, _, _, _, _, _, _, _, _, _, _, _, _, _, _, _, _, _, _, rfl, _⟩ := h; rfl) | (obtain ⟨_, _, _, _, _, _, _, _, _, _, _, _, _, _, _, _, _, _, _, _, _, _, _, rfl, _⟩ := h; rfl)
  · obtain ⟨t, l, a, b, c, d, e, f, g, h', i, u, x, y, rfl, ht, hl, b1, b2, b3, bu, q⟩ := h
    refine ⟨_, (pss_cons (ps_set (i := 2) sc_trace_by.nd rfl (.inl rfl) (pe_call G_map_by (hr.mono (by decide)) (by rfl) g_map_by k_map_by b_map_by .nil pass0 (pa_cons (pv 0) (pa_cons (pv 1) pa_nil))))
    (pss_one (ps_ret (pe_op op_add (pe_op op_add (pe_ix ix_tup (pe_ix ix_list (pv 2) pe_int (fun _ _ => rfl)) pe_int (fun _ _ => rfl)) (pe_ix ix_tup (pe_ix ix_list (pv 2) pe_int (fun _ _ => rfl)) pe_int (fun _ _ => rfl))) (pe_ix ix_tup (pe_ix ix_list (pv 2) pe_int (fun _ _ => rfl)) pe_int (fun _ _ => rfl)))))), ?_⟩
    refine ⟨_, rfl, _, rfl, t, l, a, b, c, d, e, f, g, h', i, u, x, y, rfl, ht, hl, b1, b2, b3, bu, fun o H1 e1 ho => ?_⟩
    obtain ⟨r1, r2, r3, h0, g1, g2, g3⟩ := ho
    have z0 := SqL.of (K := K) h0
    refine ⟨_, rfl, o, _, 0, .ref r1, rfl, rfl, z0, rfl, r1, _, 0, .int _, rfl, rfl, g1, rfl, ?_⟩
    refine ⟨_, rfl, o, _, 1, .ref r2, rfl, rfl, z0, rfl, r2, _, 1, .int _, rfl, rfl, g2, rfl, _, _, rfl, rfl, ?_⟩
    refine ⟨_, rfl, o, _, 2, .ref r3, rfl, rfl, z0, rfl, r3, _, 2, .int _, rfl, rfl, g3, rfl, _, _, rfl, rfl, ?_⟩
    exact q H1 e1
theorem ok_Ring___init__ (T : Txt K mg C_Form C_Ring C_Element) : MDef (fun p f => Mk K C_Ring f) P w K mg base 2 ["self", "form"] (sp_Ring___init__ K C_Form C_Ring C_Element) := by
  obtain ⟨p_, f_, fd_, R_, F_⟩ := T.e_Ring___init__
  obtain ⟨f_check_form, fd_check_form, g_check_form, k_check_form, b_check_form, G_check_form⟩ := (ok_check_form (P := P) (w := w) (base := base) T)
  refine ⟨p_, f_, fd_, R_, F_.binds (ps := ["self", "form"]) (fun _ _ _ _ _ _ us hl => match us, hl with | [_, _], _ => rfl), ?_⟩
  refine F_.ok sc_Ring___init__ (fun vs H Q E h => ?_) (fun cdv A outer s H vs Q E hr h => ?_)
  · first | (obtain ⟨rfl, _⟩ := h; rfl) | (obtain ⟨_, rfl, _⟩ := h; rfl) | (obtain ⟨_, _, rfl, _⟩ := h; rfl) | (obtain ⟨_, _, _, rfl, _⟩ := h; rfl) | (obtain ⟨_, _, _, _, rfl, _⟩ := h; rfl) | (obtain ⟨_, _, _, _, _, rfl, _⟩ := h; rfl) | (obtain ⟨_, _, _, _, _, _, rfl, _⟩ := h; rfl) | (obtain ⟨_, _, _, _, _, _, _, rfl, _⟩ := h; rfl) | (obtain ⟨_, _, _, _, _, _, _, _, rfl, _⟩ := h; rfl) | (obtain ⟨_, _, _, _, _, _, _, _, _, rfl, _⟩ := h; rfl) | (obtain ⟨_, _, _, _, _, _, _, _, _, _, rfl, _⟩ := h; rfl) | (obtain ⟨_, _, _, _, _, _, _, _, _, _, _, rfl, _⟩ := h; rfl) | (obtain ⟨_, _, _, _, _, _, _, _, _, _, _, _, rfl, _⟩ := h; rfl) | (obtain ⟨_, _, _, _, _, _, _, _, _, _, _, _, _, rfl, _⟩ := h; rfl) | (obtain ⟨_, _, _, _, _, _, _, _, _, _, _, _, _, _, rfl, _⟩ := h; rfl) | (obtain ⟨_, _, _, _, _, _, _, _, _, _, _, _, _, _, _, rfl, _⟩ := h; rfl) | (obtain ⟨_, _, _, _, _, _, _, _, _, _, _, _, _, _, _, _, rfl, _⟩ := h; rfl) | (obtain ⟨_, _, _, _, _, _, _, _, _, _, _, _, _, _, _, _, _, rfl, _⟩ := h; rfl) | (obtain ⟨_, _, _, _, _, _, _, _, _, _, _, _, _, _, _, _, _, _, rfl, _⟩ := h; rfl) | (obtain ⟨_, _, _, _, _, _, _, _, _, _, _, _, _, _, _, _, _, _, _, rfl, _⟩ := h; rfl) | (obtain ⟨_, _, _, _, _, _, _, _, _, _, _, _, _, _, _, _, _, _, _, _, rfl, _⟩ := h; rfl) | (obtain ⟨_, _, _, _, _, _, _, _, _, _, _, _, _, _, _, _, _, _, _, _, _, rfl, _⟩ := h; rfl) | (obtain ⟨_, _, _, _, _, _, _, _, _, _, _, _, _, _, _, _, _, _, _, _, _, _, rfl, _⟩ := h; rfl) | (obtain ⟨_, _, _, _, _, _, _, _, _, _, _, _, _, _, _, _, _, _, _, _, _, _, _, rfl, _⟩ := h; rfl)
  · obtain ⟨x, dx, f, ns, rfl, hx, hf, q⟩ := h
    refine ⟨_, (pss_cons (ps_expr (pe_call G_check_form (hr.mono (by decide)) (by rfl) g_check_form k_check_form b_check_form .nil pass0 (pa_cons (pv 1) pa_nil)))
    (pss_one (ps_fld (pv 0) (pv 1) (by rfl)))), ?_⟩
    refine ⟨_, rfl, f, ns, rfl, hf, ?_⟩
    refine ⟨_, rfl, _, rfl, x, C_Ring, dx, _, rfl, hx, T.cl_Ring, T.na_Ring_form, (by decide : (0:Nat) < 1000), ?_⟩
    exact q _ (fun b o n e => by rw [upd_ne n]; exact e) upd_same
theorem ok_Ring_form (T : Txt K mg C_Form C_Ring C_Element) : MDef (fun p f => PropOf K C_Ring "form" p f) P w K mg base 1 ["self"] (sp_Ring_form K C_Form C_Ring C_Element) := by
  obtain ⟨p_, f_, fd_, R_, F_⟩ := T.e_Ring_form
  refine ⟨p_, f_, fd_, R_, F_.binds (ps := ["self"]) (fun _ _ _ _ _ _ us hl => match us, hl with | [_], _ => rfl), ?_⟩
  refine F_.ok sc_Ring_form (fun vs H Q E h => ?_) (fun cdv A outer s H vs Q E hr h => ?_)
  · first | (obtain ⟨rfl, _⟩ := h; rfl) | (obtain ⟨_, rfl, _⟩ := h; rfl) | (obtain ⟨_, _, rfl, _⟩ := h; rfl) | (obtain ⟨_, _, _, rfl, _⟩ := h; rfl) | (obtain ⟨_, _, _, _, rfl, _⟩ := h; rfl) | (obtain ⟨_, _, _, _, _, rfl, _⟩ := h; rfl) | (obtain ⟨_, _, _, _, _, _, rfl, _⟩ := h; rfl) | (obtain ⟨_, _, _, _, _, _, _, rfl, _⟩ := h; rfl) | (obtain ⟨_, _, _, _, _, _, _, _, rfl, _⟩ := h; rfl) | (obtain ⟨_, _, _, _, _, _, _, _, _, rfl, _⟩ := h; rfl) | (obtain ⟨_, _, _, _, _, _, _, _, _, _, rfl, _⟩ := h; rfl) | (obtain ⟨_, _, _, _, _, _, _, _, _, _, _, rfl, _⟩ := h; rfl) | (obtain ⟨_, _, _, _, _, _, _, _, _, _, _, _, rfl, _⟩ := h; rfl) | (obtain ⟨_, _, _, _, _, _, _, _, _, _, _, _, _, rfl, _⟩ := h; rfl) | (obtain ⟨_, _, _, _, _, _, _, _, _, _, _, _, _, _, rfl, _⟩ := h; rfl) | (obtain ⟨_, _, _, _, _, _, _, _, _, _, _, _, _, _, _, rfl, _⟩ := h; rfl) | (obtain ⟨_, _, _, _, _, _, _, _, _, _, _, _, _, _, _, _, rfl, _⟩ := h; rfl) | (obtain ⟨_, _, _, _, _, _, _, _, _, _, _, _, _, _, _, _, _, rfl, _⟩ := h; rfl) | (obtain ⟨_, _, _, _, _, _, _, _, _, _, _, _, _, _, _, _, _, _, rfl, _⟩ := h; rfl) | (obtain ⟨_, _, _, _, _, _, _, _, _, _, _, _, _, _, _, _, _, _, _, rfl, _⟩ := h; rfl) | (obtain ⟨_, _, _, _, _, _, _, _, _, _, _, _, _, _, _, _, _, _, _, _, rfl, _⟩ := h; rfl) | (obtain ⟨_, _, _, _, _, _, _, _, _, _, _, _, _, _, _, _, _, _, _, _, _, rfl, _⟩ := h; rfl) | (obtain ⟨_, _, _, _, _, _, _, _, _, _, _, _, _, _, _, _, _, _, _, _, _, _, rfl, _⟩ := h; rfl) | (obtain ⟨_, _, _, _, _, _, _, _, _, _, _, _, _, _, _, _, _, _, _, _, _, _, _, rfl, _⟩ := h; rfl)
  · obtain ⟨r, ns, rfl, ⟨dr, x, hrr, hx⟩, q⟩ := h
    refine ⟨_, (pss_one (ps_ret (pe_fld (pv 0) (by rfl)))), ?_⟩
    exact ⟨_, rfl, r, C_Ring, dr, _, .ref x, rfl, hrr, T.cl_Ring, T.na_Ring_form, lk_same, q x hx⟩
theorem ok_Ring___eq__ (T : Txt K mg C_Form C_Ring C_Element) : MDef (fun p f => EqC K C_Ring f) P w K mg base 2 ["self", "other"] (sp_Ring___eq__ K C_Form C_Ring C_Element) := by
  obtain ⟨p_, f_, fd_, R_, F_⟩ := T.e_Ring___eq__
  obtain ⟨p_Form___eq__, f_Form___eq__, fd_Form___eq__, R_Form___eq__, b_Form___eq__, G_Form___eq__⟩ := (ok_Form___eq__ (P := P) (w := w) (base := base) T)
  refine ⟨p_, f_, fd_, R_, F_.binds (ps := ["self", "other"]) (fun _ _ _ _ _ _ us hl => match us, hl with | [_, _], _ => rfl), ?_⟩
  refine F_.ok sc_Ring___eq__ (fun vs H Q E h => ?_) (fun cdv A outer s H vs Q E hr h => ?_)
  · first | (obtain ⟨rfl, _⟩ := h; rfl) | (obtain ⟨_, rfl, _⟩ := h; rfl) | (obtain ⟨_, _, rfl, _⟩ := h; rfl) | (obtain ⟨_, _, _, rfl, _⟩ := h; rfl) | (obtain ⟨_, _, _, _, rfl, _⟩ := h; rfl) | (obtain ⟨_, _, _, _, _, rfl, _⟩ := h; rfl) | (obtain ⟨_, _, _, _, _, _, rfl, _⟩ := h; rfl) | (obtain ⟨_, _, _, _, _, _, _, rfl, _⟩ := h; rfl) | (obtain ⟨_, _, _, _, _, _, _, _, rfl, _⟩ := h; rfl) | (obtain ⟨_, _, _, _, _, _, _, _, _, rfl, _⟩ := h; rfl) | (obtain ⟨_, _, _, _, _, _, _, _, _, _, rfl, _⟩ := h; rfl) | (obtain ⟨_, _, _, _, _, _, _, _, _, _, _, rfl, _⟩ := h; rfl) | (obtain ⟨_, _, _, _, _, _, _, _, _, _, _, _, rfl, _⟩ := h; rfl) | (obtain ⟨_, _, _, _, _, _, _, _, _, _, _, _, _, rfl, _⟩ := h; rfl) | (obtain ⟨_, _, _, _, _, _, _, _, _, _, _, _, _, _, rfl, _⟩ := h; rfl) | (obtain ⟨_, _, _, _, _, _, _, _, _, _, _, _, _, _, _, rfl, _⟩ := h; rfl) | (obtain ⟨_, _, _, _, _, _, _, _, _, _, _, _, _, _, _, _, rfl, _⟩ := h; rfl) | (obtain ⟨_, _, _, _, _, _, _, _, _, _, _, _, _, _, _, _, _, rfl, _⟩ := h; rfl) | (obtain ⟨_, _, _, _, _, _, _, _, _, _, _, _, _, _, _, _, _, _, rfl, _⟩ := h; rfl) | (obtain ⟨_, _, _, _, _, _, _, _, _, _, _, _, _, _, _, _, _, _, _, rfl, _⟩ := h; rfl) | (obtain ⟨_, _, _, _, _, _, _, _, _, _, _, _, _, _, _, _, _, _, _, _, rfl, _⟩ := h; rfl) | (obtain ⟨_, _, _, _, _, _, _, _, _, _, _, _, _, _, _, _, _, _, _, _, _, rfl, _⟩ := h; rfl) | (obtain ⟨_, _, _, _, _, _, _, _, _, _, _, _, _, _, _, _, _, _, _, _, _, _, rfl, _⟩ := h; rfl) | (obtain ⟨_, _, _, _, _, _, _, _, _, _, _, _, _, _, _, _, _, _, _, _, _, _, _, rfl, _⟩ := h; rfl)
  · obtain ⟨x, y, ns, ms, rfl, ⟨dx, f, hx, hf⟩, ⟨dy, f', hy, hf'⟩, q⟩ := h
    obtain ⟨df, t, hf1, hf2⟩ := id hf
    obtain ⟨df', t', hf3, hf4⟩ := id hf'
    refine ⟨_, (pss_one (ps_ret (pe_and (pe_callB call_isi (by rfl) T.b_isinstance (by decide +kernel) (pa_cons (pv 1) (pa_cons (pe_glob (v := .ref C_Ring) (by rfl) T.g_Ring rfl) pa_nil))) (pe_one (pe_cmpR (op_eqI R_Form___eq__ G_Form___eq__ b_Form___eq__ (hr.mono (by decide)) pass0) (pe_fld (pv 0) (by rfl)) (pe_fld (pv 1) (by rfl)) (nomark _)))))), ?_⟩
    refine ⟨_, rfl, _, _, _, _, true, rfl, .own _, ty_ins T.ty_Ring T.cl_Ring hy, kit_self, _, rfl, ?_⟩
    refine ⟨_, rfl, x, C_Ring, dx, _, .ref f, rfl, hx, T.cl_Ring, T.na_Ring_form, lk_same, _, rfl, y, C_Ring, dy, _, .ref f', rfl, hy, T.cl_Ring, T.na_Ring_form, lk_same, ?_⟩
    exact ⟨f, df, _, _, rfl, hf1, ty_ins T.ty_Form T.cl_Form hf3, first_self, f, f', ns, ms, rfl, hf, hf', _, rfl, q⟩
theorem ok_table_for (T : Txt K mg C_Form C_Ring C_Element) : Def P w K mg base 3 "table_for" ["ring"] (sp_table_for K C_Form C_Ring C_Element) := by
  obtain ⟨f_, fd_, g_, F_⟩ := T.d_table_for
  obtain ⟨p_Form_coefficients, f_Form_coefficients, fd_Form_coefficients, R_Form_coefficients, b_Form_coefficients, G_Form_coefficients⟩ := (ok_Form_coefficients (P := P) (w := w) (base := base) T)
  obtain ⟨p_Ring_form, f_Ring_form, fd_Ring_form, R_Ring_form, b_Ring_form, G_Ring_form⟩ := (ok_Ring_form (P := P) (w := w) (base := base) T)
  obtain ⟨f_table_of, fd_table_of, g_table_of, k_table_of, b_table_of, G_table_of⟩ := (ok_table_of (P := P) (w := w) (base := base) T)
  refine ⟨f_, fd_, g_, F_.kp, F_.binds (ps := ["ring"]) (fun _ _ _ _ _ _ us hl => match us, hl with | [_], _ => rfl), ?_⟩
  refine F_.ok sc_table_for (fun vs H Q E h => ?_) (fun cdv A outer s H vs Q E hr h => ?_)
  · first | (obtain ⟨rfl, _⟩ := h; rfl) | (obtain ⟨_, rfl, _⟩ := h; rfl) | (obtain ⟨_, _, rfl, _⟩ := h; rfl) | (obtain ⟨_, _, _, rfl, _⟩ := h; rfl) | (obtain ⟨_, _, _, _, rfl, _⟩ := h; rfl) | (obtain ⟨_, _, _, _, _, rfl, _⟩ := h; rfl) | (obtain ⟨_, _, _, _, _, _, rfl, _⟩ := h; rfl) | (obtain ⟨_, _, _, _, _, _, _, rfl, _⟩ := h; rfl) | (obtain ⟨_, _, _, _, _, _, _, _, rfl, _⟩ := h; rfl) | (obtain ⟨_, _, _, _, _, _, _, _, _, rfl, _⟩ := h; rfl) | (obtain ⟨_, _, _, _, _, _, _, _, _, _, rfl, _⟩ := h; rfl) | (obtain ⟨_, _, _, _, _, _, _, _, _, _, _, rfl, _⟩ := h; rfl) | (obtain ⟨_, _, _, _, _, _, _, _, _, _, _, _, rfl, _⟩ := h; rfl) | (obtain ⟨_, _, _, _, _, _, _, _, _, _, _, _, _, rfl, _⟩ := h; rfl) | (obtain ⟨_, _, _, _, _, _, _, _, _, _, _, _, _, _, rfl, _⟩ := h; rfl) | (obtain ⟨_, _, _, _, _, _, _, _, _, _, _, _, _, _, _, rfl, _⟩ := h; rfl) | (obtain ⟨_, _, _, _, _, _, _, _, _, _, _, _, _, _, _, _, rfl, _⟩ := h; rfl) | (obtain ⟨_, _, _, _, _, _, _, _, _, _, _, _, _, _, _, _, _, rfl, _⟩ := h; rfl) | (obtain ⟨_, _, _, _, _, _, _, _, _, _, _, _, _, _, _, _, _, _, rfl, _⟩ := h; rfl) | (obtain ⟨_, _, _, _, _, _, _, _, _, _, _, _, _, _, _, _, _, _, _, rfl, _⟩ := h; rfl) | (obtain ⟨_, _, _, _, _, _, _, _, _, _, _, _, _, _, _, _, _, _, _, _, rfl, _⟩ := h; rfl) | (obtain ⟨_, _, _, _, _, _, _, _, _, _, _, _, _, _, _, _, _, _, _, _, _, rfl, _⟩ := h; rfl) | (obtain ⟨_, _, _, _, _, _, _, _, _, _, _, _, _, _, _, _, _, _, _, _, _, _, rfl, _⟩ := h; rfl) | (obtain ⟨_, _, _, _, _, _, _, _, _, _, _, _, _, _, _, _, _, _, _, _, _, _, _, rfl, _⟩ := h; rfl)
  · obtain ⟨r, a, b, c, d, rfl, hR, bz, q⟩ := h
    obtain ⟨dr, x, hrr, hx⟩ := id hR
    refine ⟨_, (pss_one (ps_ret (pe_call G_table_of (hr.mono (by decide)) (by rfl) g_table_of k_table_of b_table_of .nil pass0 (pa_cons (pe_prop (pe_prop (pv 0) T.cl_Ring R_Ring_form G_Ring_form (hr.mono (by decide)) b_Ring_form .nil pass0 (by rfl)) T.cl_Form R_Form_coefficients G_Form_coefficients (hr.mono (by decide)) b_Form_coefficients .nil pass0 (by rfl)) pa_nil)))), ?_⟩
    refine ⟨_, rfl, r, dr, _, rfl, hrr, r, _, rfl, hR, fun f hf => ?_⟩
    obtain ⟨df, tf, hf1, hf2⟩ := id hf
    refine ⟨f, df, _, rfl, hf1, f, _, rfl, hf, fun t ht => ?_⟩
    exact ⟨t, a, b, c, d, rfl, ht, bz, fun o H1 e1 ho => q o H1 e1 ho⟩
theorem ok_Element_ring (T : Txt K mg C_Form C_Ring C_Element) : MDef (fun p f => PropOf K C_Element "ring" p f) P w K mg base 1 ["self"] (sp_Element_ring K C_Form C_Ring C_Element) := by
  obtain ⟨p_, f_, fd_, R_, F_⟩ := T.e_Element_ring
  refine ⟨p_, f_, fd_, R_, F_.binds (ps := ["self"]) (fun _ _ _ _ _ _ us hl => match us, hl with | [_], _ => rfl), ?_⟩
  refine F_.ok sc_Element_ring (fun vs H Q E h => ?_) (fun cdv A outer s H vs Q E hr h => ?_)
  · first | (obtain ⟨rfl, _⟩ := h; rfl) | (obtain ⟨_, rfl, _⟩ := h; rfl) | (obtain ⟨_, _, rfl, _⟩ := h; rfl) | (obtain ⟨_, _, _, rfl, _⟩ := h; rfl) | (obtain ⟨_, _, _, _, rfl, _⟩ := h; rfl) | (obtain ⟨_, _, _, _, _, rfl, _⟩ := h; rfl) | (obtain ⟨_, _, _, _, _, _, rfl, _⟩ := h; rfl) | (obtain ⟨_, _, _, _, _, _, _, rfl, _⟩ := h; rfl) | (obtain ⟨_, _, _, _, _, _, _, _, rfl, _⟩ := h; rfl) | (obtain ⟨_, _, _, _, _, _, _, _, _, rfl, _⟩ := h; rfl) | (obtain ⟨_, _, _, _, _, _, _, _, _, _, rfl, _⟩ := h; rfl) | (obtain ⟨_, _, _, _, _, _, _, _, _, _, _, rfl, _⟩ := h; rfl) | (obtain ⟨_, _, _, _, _, _, _, _, _, _, _, _, rfl, _⟩ := h; rfl) | (obtain ⟨_, _, _, _, _, _, _, _, _, _, _, _, _, rfl, _⟩ := h; rfl) | (obtain ⟨_, _, _, _, _, _, _, _, _, _, _, _, _, _, rfl, _⟩ := h; rfl) | (obtain ⟨_, _, _, _, _, _, _, _, _, _, _, _, _, _, _, rfl, _⟩ := h; rfl) | (obtain ⟨_, _, _, _, _, _, _, _, _, _, _, _, _, _, _, _, rfl, _⟩ := h; rfl) | (obtain ⟨_, _, _, _, _, _, _, _, _, _, _, _, _, _, _, _, _, rfl, _⟩ := h; rfl) | (obtain ⟨_, _, _, _, _, _, _, _, _, _, _, _, _, _, _, _, _, _, rfl, _⟩ := h; rfl) | (obtain ⟨_, _, _, _, _, _, _, _, _, _, _, _, _, _, _, _, _, _, _, rfl, _⟩ := h; rfl) | (obtain ⟨_, _, _, _, _, _, _, _, _, _, _, _, _, _, _, _, _, _, _, _, rfl, _⟩ := h; rfl) | (obtain ⟨_, _, _, _, _, _, _, _, _, _, _, _, _, _, _, _, _, _, _, _, _, rfl, _⟩ := h; rfl) | (obtain ⟨_, _, _, _, _, _, _, _, _, _, _, _, _, _, _, _, _, _, _, _, _, _, rfl, _⟩ := h; rfl) | (obtain ⟨_, _, _, _, _, _, _, _, _, _, _, _, _, _, _, _, _, _, _, _, _, _, _, rfl, _⟩ := h; rfl)
  · obtain ⟨x, ns, u, y, z, b, rfl, ⟨de, r, t, he, hr, ht⟩, q⟩ := h
    refine ⟨_, (pss_one (ps_ret (pe_fld (pv 0) (by rfl)))), ?_⟩
    exact ⟨_, rfl, x, C_Element, de, _, .ref r, rfl, he, T.cl_Element, T.na_Element_ring, lkR, q r hr⟩
theorem ok_check_one_ring (T : Txt K mg C_Form C_Ring C_Element) : Def P w K mg base 4 "check_one_ring" ["first", "second"] (sp_check_one_ring K C_Form C_Ring C_Element) := by
  obtain ⟨f_, fd_, g_, F_⟩ := T.d_check_one_ring
  obtain ⟨p_Element_ring, f_Element_ring, fd_Element_ring, R_Element_ring, b_Element_ring, G_Element_ring⟩ := (ok_Element_ring (P := P) (w := w) (base := base) T)
  obtain ⟨p_Ring___eq__, f_Ring___eq__, fd_Ring___eq__, R_Ring___eq__, b_Ring___eq__, G_Ring___eq__⟩ := (ok_Ring___eq__ (P := P) (w := w) (base := base) T)
  refine ⟨f_, fd_, g_, F_.kp, F_.binds (ps := ["first", "second"]) (fun _ _ _ _ _ _ us hl => match us, hl with | [_, _], _ => rfl), ?_⟩
  refine F_.ok sc_check_one_ring (fun vs H Q E h => ?_) (fun cdv A outer s H vs Q E hr h => ?_)
  · first | (obtain ⟨rfl, _⟩ := h; rfl) | (obtain ⟨_, rfl, _⟩ := h; rfl) | (obtain ⟨_, _, rfl, _⟩ := h; rfl) | (obtain ⟨_, _, _, rfl, _⟩ := h; rfl) | (obtain ⟨_, _, _, _, rfl, _⟩ := h; rfl) | (obtain ⟨_, _, _, _, _, rfl, _⟩ := h; rfl) | (obtain ⟨_, _, _, _, _, _, rfl, _⟩ := h; rfl) | (obtain ⟨_, _, _, _, _, _, _, rfl, _⟩ := h; rfl) | (obtain ⟨_, _, _, _, _, _, _, _, rfl, _⟩ := h; rfl) | (obtain ⟨_, _, _, _, _, _, _, _, _, rfl, _⟩ := h; rfl) | (obtain ⟨_, _, _, _, _, _, _, _, _, _, rfl, _⟩ := h; rfl) | (obtain ⟨_, _, _, _, _, _, _, _, _, _, _, rfl, _⟩ := h; rfl) | (obtain ⟨_, _, _, _, _, _, _, _, _, _, _, _, rfl, _⟩ := h; rfl) | (obtain ⟨_, _, _, _, _, _, _, _, _, _, _, _, _, rfl, _⟩ := h; rfl) | (obtain ⟨_, _, _, _, _, _, _, _, _, _, _, _, _, _, rfl, _⟩ := h; rfl) | (obtain ⟨_, _, _, _, _, _, _, _, _, _, _, _, _, _, _, rfl, _⟩ := h; rfl) | (obtain ⟨_, _, _, _, _, _, _, _, _, _, _, _, _, _, _, _, rfl, _⟩ := h; rfl) | (obtain ⟨_, _, _, _, _, _, _, _, _, _, _, _, _, _, _, _, _, rfl, _⟩ := h; rfl) | (obtain ⟨_, _, _, _, _, _, _, _, _, _, _, _, _, _, _, _, _, _, rfl, _⟩ := h; rfl) | (obtain ⟨_, _, _, _, _, _, _, _, _, _, _, _, _, _, _, _, _, _, _, rfl, _⟩ := h; rfl) | (obtain ⟨_, _, _, _, _, _, _, _, _, _, _, _, _, _, _, _, _, _, _, _, rfl, _⟩ := h; rfl) | (obtain ⟨_, _, _, _, _, _, _, _, _, _, _, _, _, _, _, _, _, _, _, _, _, rfl, _⟩ := h; rfl) | (obtain ⟨_, _, _, _, _, _, _, _, _, _, _, _, _, _, _, _, _, _, _, _, _, _, rfl, _⟩ := h; rfl) | (obtain ⟨_, _, _, _, _, _, _, _, _, _, _, _, _, _, _, _, _, _, _, _, _, _, _, rfl, _⟩ := h; rfl)
  · obtain ⟨x, x', ns, u, y, z, b, v, s', r', e, rfl, h1, h2, q⟩ := h
    obtain ⟨d1, r1, t1, g1, g2, g3⟩ := id h1
    obtain ⟨d2, r2, t2, k1, k2, k3⟩ := id h2
    refine ⟨_, (pss_one (ps_if (pt_cmpR (op_neI R_Ring___eq__ G_Ring___eq__ b_Ring___eq__ (hr.mono (by decide)) pass0) (pe_prop (pv 0) T.cl_Element R_Element_ring G_Element_ring (hr.mono (by decide)) b_Element_ring .nil pass0 (by rfl)) (pe_prop (pv 1) T.cl_Element R_Element_ring G_Element_ring (hr.mono (by decide)) b_Element_ring .nil pass0 (by rfl)) (nomark _))
      pss_never
      pss_nil)), ?_⟩
    refine ⟨_, rfl, x, d1, _, rfl, g1, x, ns, u, y, z, b, rfl, h1, fun q1 hq1 => ?_⟩
    refine ⟨_, rfl, x', d2, _, rfl, k1, x', ns, v, s', r', e, rfl, h2, fun q2 hq2 => ?_⟩
    obtain ⟨d3, f3, m1, m2⟩ := id hq1
    obtain ⟨d4, f4, n1, n2⟩ := id hq2
    refine ⟨q1, d3, _, _, rfl, m1, ty_ins T.ty_Ring T.cl_Ring n1, first_self, q1, q2, ns, ns, rfl, hq1, hq2, _, rfl, _, rfl, ?_⟩
    rw [decide_eq_true rfl]
    exact iteF q
theorem ok_Element___init__ (T : Txt K mg C_Form C_Ring C_Element) : MDef (fun p f => Mk K C_Element f) P w K mg base 2 ["self", "ring", "entries", "bottom"] (sp_Element___init__ K C_Form C_Ring C_Element) := by
  obtain ⟨p_, f_, fd_, R_, F_⟩ := T.e_Element___init__
  obtain ⟨f_shared_divisor, fd_shared_divisor, g_shared_divisor, k_shared_divisor, b_shared_divisor, G_shared_divisor⟩ := (ok_shared_divisor (P := P) (w := w) (base := base) T)
  refine ⟨p_, f_, fd_, R_, F_.binds (ps := ["self", "ring", "entries", "bottom"]) (fun _ _ _ _ _ _ us hl => match us, hl with | [_, _, _, _], _ => rfl), ?_⟩
  refine F_.ok sc_Element___init__ (fun vs H Q E h => ?_) (fun cdv A outer s H vs Q E hr h => ?_)
  · first | (obtain ⟨rfl, _⟩ := h; rfl) | (obtain ⟨_, rfl, _⟩ := h; rfl) | (obtain ⟨_, _, rfl, _⟩ := h; rfl) | (obtain ⟨_, _, _, rfl, _⟩ := h; rfl) | (obtain ⟨_, _, _, _, rfl, _⟩ := h; rfl) | (obtain ⟨_, _, _, _, _, rfl, _⟩ := h; rfl) | (obtain ⟨_, _, _, _, _, _, rfl, _⟩ := h; rfl) | (obtain ⟨_, _, _, _, _, _, _, rfl, _⟩ := h; rfl) | (obtain ⟨_, _, _, _, _, _, _, _, rfl, _⟩ := h; rfl) | (obtain ⟨_, _, _, _, _, _, _, _, _, rfl, _⟩ := h; rfl) | (obtain ⟨_, _, _, _, _, _, _, _, _, _, rfl, _⟩ := h; rfl) | (obtain ⟨_, _, _, _, _, _, _, _, _, _, _, rfl, _⟩ := h; rfl) | (obtain ⟨_, _, _, _, _, _, _, _, _, _, _, _, rfl, _⟩ := h; rfl) | (obtain ⟨_, _, _, _, _, _, _, _, _, _, _, _, _, rfl, _⟩ := h; rfl) | (obtain ⟨_, _, _, _, _, _, _, _, _, _, _, _, _, _, rfl, _⟩ := h; rfl) | (obtain ⟨_, _, _, _, _, _, _, _, _, _, _, _, _, _, _, rfl, _⟩ := h; rfl) | (obtain ⟨_, _, _, _, _, _, _, _, _, _, _, _, _, _, _, _, rfl, _⟩ := h; rfl) | (obtain ⟨_, _, _, _, _, _, _, _, _, _, _, _, _, _, _, _, _, rfl, _⟩ := h; rfl) | (obtain ⟨_, _, _, _, _, _, _, _, _, _, _, _, _, _, _, _, _, _, rfl, _⟩ := h; rfl) | (obtain ⟨_, _, _, _, _, _, _, _, _, _, _, _, _, _, _, _, _, _, _, rfl, _⟩ := h; rfl) | (obtain ⟨_, _, _, _, _, _, _, _, _, _, _, _, _, _, _, _, _, _, _, _, rfl, _⟩ := h; rfl) | (obtain ⟨_, _, _, _, _, _, _, _, _, _, _, _, _, _, _, _, _, _, _, _, _, rfl, _⟩ := h; rfl) | (obtain ⟨_, _, _, _, _, _, _, _, _, _, _, _, _, _, _, _, _, _, _, _, _, _, rfl, _⟩ := h; rfl) | (obtain ⟨_, _, _, _, _, _, _, _, _, _, _, _, _, _, _, _, _, _, _, _, _, _, _, rfl, _⟩ := h; rfl)
  · obtain ⟨x, dx, r, t, u, y, z, b, rfl, hx, ht, hb, bb, q⟩ := h
    refine ⟨_, (pss_cons (ps_set (i := 4) sc_Element___init__.nd rfl (.inr rfl) (pe_call G_shared_divisor (hr.mono (by decide)) (by rfl) g_shared_divisor k_shared_divisor b_shared_divisor .nil pass0 (pa_cons (pe_tup (pa_cons (pe_call G_shared_divisor (hr.mono (by decide)) (by rfl) g_shared_divisor k_shared_divisor b_shared_divisor .nil pass0 (pa_cons (pv 2) pa_nil)) (pa_cons (pv 3) pa_nil))) pa_nil)))
    (Evl.pss_cut (ps_if (pt_cmpR op_lt (pv 3) pe_int (nomark _))
      (pss_one (ps_set (i := 4) sc_Element___init__.nd rfl (.inr rfl) (pe_un un_neg (pv 4))))
      pss_nil)
    (pss_cons (ps_fld (pv 0) (pv 1) (by rfl))
    (pss_cons (ps_fld (pv 0) (pe_callTy call_tuple_of (by rfl) T.b_tuple (by decide +kernel) (pa_cons (pe_lc (own := [("number", 5)]) (g := (gName 5)) rfl sc_Element___init__.nd (pi_tup (pv 2)) (blkOk_by (N := N_Element___init__) (sc := defScope s_Element___init__) (by decide +kernel)) (fun _ _ _ _ _ => (pg_name (i := 5) sc_Element___init__.nd rfl (.inl rfl))) (fun _ _ _ _ _ => pts_nil) (fun _ _ _ _ _ => (pe_op op_fdivNW (pv 5) (pv 4)))) pa_nil)) (by rfl))
    (pss_one (ps_fld (pv 0) (pe_op op_fdivNW (pv 3) (pv 4)) (by rfl))))))), ?_⟩
    obtain ⟨g, u', y', z', b', eg, g0, bg, eu, ey, ez, eb, b0, hg⟩ := low_of u y z b hb bb
    refine ⟨_, rfl, t, [u, y, z], rfl, ht, _, rfl, sl2, fun T0 nT => ?_⟩
    refine ⟨T0, [(gcdL [u, y, z] : Int), b], rfl, SqT.of upd_same, ?_⟩
    refine ⟨fun σ H' => σ = [some (.ref x), some (.ref r), some (.ref t), some (.int b), some (.int g), none] ∧ Ex0 H H' ∧ H' x = some (.ins C_Element dx []), ?_, ?_⟩
    · have ex : Ex0 H (upd H T0 (.tup [.int (gcdL [u, y, z] : Int), .int b])) := Ex0.new nT
      refine ⟨_, rfl, _, _, rfl, rfl, _, rfl, iteD (fun n => ?_) (fun n => ?_)⟩
      · rw [if_pos n] at eg
        subst eg
        exact ⟨_, rfl, _, rfl, rfl, ex, ex.ap hx⟩
      · rw [if_neg n] at eg
        subst eg
        exact ⟨rfl, ex, ex.ap hx⟩
    rintro σ H1 ⟨rfl, e1, hx1⟩
    have ht1 := Ex0.tq e1 ht
    have dv : ∀ n m : Int, n = g * m → n.fdiv g = m := fun n m h => by rw [h]; exact Int.mul_fdiv_cancel_left m g0
    have cd : ∀ n : Int, CDivNW n g := fun n => ⟨g0, by have := log_lt bg.1 bg.2; omega⟩
    refine ⟨_, rfl, _, rfl, x, C_Element, dx, _, rfl, hx1, T.cl_Element, T.na_Element_ring, (by decide : (0:Nat) < 1000), ?_⟩
    have hxr : upd H1 x (.ins C_Element dx (putF ("_ring" : Str) (.ref r) [])) x = some (.ins C_Element dx (putF ("_ring" : Str) (.ref r) [])) := upd_same
    have ht2 : Tq K (upd H1 x (.ins C_Element dx (putF ("_ring" : Str) (.ref r) []))) t [u, y, z] := tq_upd ht1 hx1
    generalize hH2 : upd H1 x (.ins C_Element dx (putF ("_ring" : Str) (.ref r) [])) = H2 at hxr ht2 ⊢
    refine ⟨_, rfl, t, rfl, ⟨_, ht2⟩, ?_⟩
    refine lcT fm0 trivial ht2 (fun z => z) (fun i acc _ => acc = (([u', y', z'] : List Int).take i).map V.int) (fun _ _ => rfl) (fun D i n acc H' hD hn e hA hlen hp => ?_) (fun D H' acc hD e hA hp => ?_)
    · obtain ⟨m, hm, rfl⟩ := get_int hn
      refine ⟨rfl, ?_⟩
      refine ⟨_, rfl, _, rfl, m, g, rfl, rfl, cd m, ?_⟩
      have hi : i < 3 := (List.getElem?_eq_some_iff.mp hm).1
      refine cs_yes fm0 trivial hD e hA hlen (by omega) (Fx.refl trivial) ?_
      have hh : m.fdiv g = ([u', y', z'] : List Int).getD i 0 := by
        match i, hm with
        | 0, hm => exact dv m u' ((Option.some.inj hm).symm.trans eu)
        | 1, hm => exact dv m y' ((Option.some.inj hm).symm.trans ey)
        | 2, hm => exact dv m z' ((Option.some.inj hm).symm.trans ez)
      show acc ++ [V.int (m.fdiv g)] = _
      rw [hp, hh]
      match i, hi with
      | 0, _ => rfl
      | 1, _ => rfl
      | 2, _ => rfl
    · refine ⟨D, _, rfl, .inl ⟨SqL.of hA, fun p np => ?_⟩⟩
      have hp' : acc = [.int u', .int y', .int z'] := hp
      subst hp'
      have hx3 := Ex0.ap (Fx.trans e (Ex0.new (o := .tup [.int u', .int y', .int z']) np)) hxr
      refine ⟨_, rfl, x, C_Element, dx, _, rfl, hx3, T.cl_Element, T.na_Element_entries, (by decide : (1:Nat) < 1000), ?_⟩
      refine ⟨_, rfl, _, rfl, b, g, rfl, rfl, cd b, _, rfl, x, C_Element, dx, _, rfl, upd_same, T.cl_Element, T.na_Element_bottom, (by decide : (2:Nat) < 1000), ?_⟩
      have npx : p ≠ x := (ne_of_none (Ex0.ap e hxr) np).symm
      refine q _ p u' y' z' b' ⟨g, eu, ey, ez, eb, b0, hg⟩ (fun c o n ec => ?_) npx ?_ ?_
      · rw [upd_ne n, upd_ne n]
        refine Ex0.ap (Ex0.new np) (Ex0.ap e ?_)
        rw [← hH2, upd_ne n]
        exact Ex0.ap e1 ec
      · rw [upd_same]
        show some (HO.ins C_Element dx (putF ("_bottom" : Str) (.int (b.fdiv g)) _)) = _
        rw [dv b b' eb]
        rfl
      · show upd (upd _ x _) x _ p = _
        rw [upd_ne npx, upd_ne npx]
        exact upd_same
end
end K13
namespace K13
open PySem PySem.Spec PyProof.Rows L2 Fr
theorem w_B {a b c d : Int} (h : B4 1000 a b c d) : B3 2100 (-a * c) b (-a) ∧ B3 2100 (-a * d) 0 0 ∧ B3 2100 (-b * d) d (-c) := by
  obtain ⟨ba, bb, bc, bd⟩ := h
  have z : B 2100 0 := B0 (by decide)
  exact ⟨⟨(B.mul ba.neg bc).mono (by decide), bb.mono (by decide), ba.neg.mono (by decide)⟩, ⟨(B.mul ba.neg bd).mono (by decide), z, z⟩, ⟨(B.mul bb.neg bd).mono (by decide), bd.mono (by decide), bc.neg.mono (by decide)⟩⟩
theorem B3.mono {n m : Nat} {a b c : Int} (h : B3 n a b c) (k : n ≤ m) : B3 m a b c := ⟨h.1.mono k, h.2.1.mono k, h.2.2.mono k⟩
theorem B4.mono {n m : Nat} {a b c d : Int} (h : B4 n a b c d) (k : n ≤ m) : B4 m a b c d := ⟨h.1.mono k, h.2.1.mono k, h.2.2.1.mono k, h.2.2.2.mono k⟩
theorem tr_eq (a b c d u y z : Int) : m0 (-a * c) (-a * d) (-b * d) u y z 1 0 0 + m1 b 0 d u y z 0 1 0 + m2 (-a) 0 (-c) u y z 0 0 1 = tr a b c d u y z := by
  unfold m0 m1 m2 tr
  grind
theorem el_made {C C_R C_E : Addr} {H H' : Hp} {x dx r t t' : Addr} {ns : List Int} {u y z b : Int} {o1 o2 : HO} (nx : H x = none) (ndx : H dx = none) (hr : RingAt C C_R H r ns) (e1 : ∀ c o, c ≠ x → (upd (upd H dx o1) x o2) c = some o → H' c = some o)
    (e2 : H' x = some (.ins C_E dx [(("_ring" : Str), .ref r), (("_entries" : Str), .ref t'), (("_bottom" : Str), .int b)])) (e3 : Ti H' t' [u, y, z]) : Ex0 H H' ∧ ElAt C C_R C_E H' x ns u y z b := by
  have ex := made_ex nx ndx e1
  exact ⟨ex, dx, r, t', e2, Ex0.ri ex hr, e3⟩
section
variable {P : Program} {w : World} {K : PySem.W.Frag} {mg : Str → Option Value} {base : Heap} {C_Form C_Ring C_Element : Addr}
theorem ok_Ring_element (T : Txt K mg C_Form C_Ring C_Element) : MDefD (fun p f => Meth K C_Ring "element" f) P w K mg base 6 ["self", "entries", "bottom"] [.int 1] (sp_Ring_element K C_Form C_Ring C_Element) := by
  obtain ⟨p_, f_, fd_, R_, F_⟩ := T.e_Ring_element
  obtain ⟨p_Element___init__, f_Element___init__, fd_Element___init__, R_Element___init__, b_Element___init__, G_Element___init__⟩ := (ok_Element___init__ (P := P) (w := w) (base := base) T)
  obtain ⟨f_are_short_integers, fd_are_short_integers, g_are_short_integers, k_are_short_integers, b_are_short_integers, G_are_short_integers⟩ := (ok_are_short_integers (P := P) (w := w) (base := base) T)
  obtain ⟨f_check_bottom, fd_check_bottom, g_check_bottom, k_check_bottom, b_check_bottom, G_check_bottom⟩ := (ok_check_bottom (P := P) (w := w) (base := base) T)
  obtain ⟨ds_, v_, d_⟩ := F_.binds1 (ps := ["self", "entries", "bottom"]) 2 0 (by simp) (by rfl) (fun _ _ _ _ _ _ _ us its l1 l2 => match us, its, l1, l2 with | [_, _], [_], _, _ => ⟨_, rfl, rfl⟩)
  obtain ⟨dz_, w_, b_⟩ := F_.binds1 (ps := ["self", "entries", "bottom"]) 3 1 (by simp) (by rfl) (fun _ _ _ _ _ _ _ us its l1 l2 => match us, its, l1, l2 with | [_, _, _], [_], _, _ => ⟨_, rfl, rfl⟩)
  cases w_
  refine ⟨p_, f_, fd_, ds_, R_, b_, v_, d_, ?_⟩
  refine FunD.ok F_ sc_Ring_element (fun vs H Q E h => ?_) (fun cdv A outer s H vs Q E hr h => ?_)
  · first | (obtain ⟨rfl, _⟩ := h; rfl) | (obtain ⟨_, rfl, _⟩ := h; rfl) | (obtain ⟨_, _, rfl, _⟩ := h; rfl) | (obtain ⟨_, _, _, rfl, _⟩ := h; rfl) | (obtain ⟨_, _, _, _, rfl, _⟩ := h; rfl) | (obtain ⟨_, _, _, _, _, rfl, _⟩ := h; rfl) | (obtain ⟨_, _, _, _, _, _, rfl, _⟩ := h; rfl) | (obtain ⟨_, _, _, _, _, _, _, rfl, _⟩ := h; rfl) | (obtain ⟨_, _, _, _, _, _, _, _, rfl, _⟩ := h; rfl) | (obtain ⟨_, _, _, _, _, _, _, _, _, rfl, _⟩ := h; rfl) | (obtain ⟨_, _, _, _, _, _, _, _, _, _, rfl, _⟩ := h; rfl) | (obtain ⟨_, _, _, _, _, _, _, _, _, _, _, rfl, _⟩ := h; rfl) | (obtain ⟨_, _, _, _, _, _, _, _, _, _, _, _, rfl, _⟩ := h; rfl) | (obtain ⟨_, _, _, _, _, _, _, _, _, _, _, _, _, rfl, _⟩ := h; rfl) | (obtain ⟨_, _, _, _, _, _, _, _, _, _, _, _, _, _, rfl, _⟩ := h; rfl) | (obtain ⟨_, _, _, _, _, _, _, _, _, _, _, _, _, _, _, rfl, _⟩ := h; rfl) | (obtain ⟨_, _, _, _, _, _, _, _, _, _, _, _, _, _, _, _, rfl, _⟩ := h; rfl) | (obtain ⟨_, _, _, _, _, _, _, _, _, _, _, _, _, _, _, _, _, rfl, _⟩ := h; rfl) | (obtain ⟨_, _, _, _, _, _, _, _, _, _, _, _, _, _, _, _, _, _, rfl, _⟩ := h; rfl) | (obtain ⟨_, _, _, _, _, _, _, _, _, _, _, _, _, _, _, _, _, _, _, rfl, _⟩ := h; rfl) | (obtain ⟨_, _, _, _, _, _, _, _, _, _, _, _, _, _, _, _, _, _, _, _, rfl, _⟩ := h; rfl) | (obtain ⟨_, _, _, _, _, _, _, _, _, _, _, _, _, _, _, _, _, _, _, _, _, rfl, _⟩ := h; rfl) | (obtain ⟨_, _, _, _, _, _, _, _, _, _, _, _, _, _, _, _, _, _, _, _, _, _, rfl, _⟩ := h; rfl) | (obtain ⟨_, _, _, _, _, _, _, _, _, _, _, _, _, _, _, _, _, _, _, _, _, _, _, rfl, _⟩ := h; rfl)
  · obtain ⟨r, t, ns, u, y, z, b, rfl, hR, ht, su, sy, sz, sb, hb, q⟩ := h
    refine ⟨_, (pss_cons (ps_if (pt_not (pt_val (pe_call G_are_short_integers (hr.mono (by decide)) (by rfl) g_are_short_integers k_are_short_integers b_are_short_integers .nil pass0 (pa_cons (pv 1) (pa_cons pe_int pa_nil)))))
      pss_never
      pss_nil)
    (pss_cons (ps_expr (pe_call G_check_bottom (hr.mono (by decide)) (by rfl) g_check_bottom k_check_bottom b_check_bottom .nil pass0 (pa_cons (pv 2) pa_nil)))
    (pss_one (ps_ret (pe_make R_Element___init__ G_Element___init__ (hr.mono (by decide)) (by rfl) T.g_Element b_Element___init__ .nil pass0 (pa_cons (pv 0) (pa_cons (pv 1) (pa_cons (pv 2) pa_nil)))))))), ?_⟩
    refine ⟨_, rfl, t, [u, y, z], rfl, ht, by show 3 ≤ 1000; decide, fun n hn => ?_, fun H1 e1 => ⟨_, rfl, ?_⟩⟩
    · simp only [List.mem_cons, List.mem_nil_iff, or_false] at hn
      rcases hn with rfl | rfl | rfl <;> assumption
    refine iteF ⟨_, rfl, b, rfl, sb, hb, ?_⟩
    refine ⟨_, rfl, _, rfl, _, rfl, fun x dx nx ndx _ => ?_⟩
    have ht1 := Ex0.ti e1 ht
    refine ⟨x, dx, r, t, u, y, z, b, rfl, upd_same, SqT.of (made_at nx ndx ht1), hb, sb.b.mono (by decide), fun H2 t' u' y' z' b' low e2 nt e3 ht' => ⟨rfl, ?_⟩⟩
    obtain ⟨f1, f2⟩ := el_made (t := t) nx ndx (Ex0.ri e1 hR) e2 e3 ht'
    exact q x H2 u' y' z' b' low (e1.trans f1) f2
theorem ok_Element_trace (T : Txt K mg C_Form C_Ring C_Element) : MDef (fun p f => PropOf K C_Element "trace" p f) P w K mg base 4 ["self"] (sp_Element_trace K C_Form C_Ring C_Element) := by
  obtain ⟨p_, f_, fd_, R_, F_⟩ := T.e_Element_trace
  obtain ⟨f_fraction, fd_fraction, g_fraction, k_fraction, b_fraction, G_fraction⟩ := (ok_fraction (P := P) (w := w) (base := base) T)
  obtain ⟨f_table_for, fd_table_for, g_table_for, k_table_for, b_table_for, G_table_for⟩ := (ok_table_for (P := P) (w := w) (base := base) T)
  obtain ⟨f_trace_by, fd_trace_by, g_trace_by, k_trace_by, b_trace_by, G_trace_by⟩ := (ok_trace_by (P := P) (w := w) (base := base) T)
  refine ⟨p_, f_, fd_, R_, F_.binds (ps := ["self"]) (fun _ _ _ _ _ _ us hl => match us, hl with | [_], _ => rfl), ?_⟩
  refine F_.ok sc_Element_trace (fun vs H Q E h => ?_) (fun cdv A outer s H vs Q E hr h => ?_)
  · first | (obtain ⟨rfl, _⟩ := h; rfl) | (obtain ⟨_, rfl, _⟩ := h; rfl) | (obtain ⟨_, _, rfl, _⟩ := h; rfl) | (obtain ⟨_, _, _, rfl, _⟩ := h; rfl) | (obtain ⟨_, _, _, _, rfl, _⟩ := h; rfl) | (obtain ⟨_, _, _, _, _, rfl, _⟩ := h; rfl) | (obtain ⟨_, _, _, _, _, _, rfl, _⟩ := h; rfl) | (obtain ⟨_, _, _, _, _, _, _, rfl, _⟩ := h; rfl) | (obtain ⟨_, _, _, _, _, _, _, _, rfl, _⟩ := h; rfl) | (obtain ⟨_, _, _, _, _, _, _, _, _, rfl, _⟩ := h; rfl) | (obtain ⟨_, _, _, _, _, _, _, _, _, _, rfl, _⟩ := h; rfl) | (obtain ⟨_, _, _, _, _, _, _, _, _, _, _, rfl, _⟩ := h; rfl) | (obtain ⟨_, _, _, _, _, _, _, _, _, _, _, _, rfl, _⟩ := h; rfl) | (obtain ⟨_, _, _, _, _, _, _, _, _, _, _, _, _, rfl, _⟩ := h; rfl) | (obtain ⟨_, _, _, _, _, _, _, _, _, _, _, _, _, _, rfl, _⟩ := h; rfl) | (obtain ⟨_, _, _, _, _, _, _, _, _, _, _, _, _, _, _, rfl, _⟩ := h; rfl) | (obtain ⟨_, _, _, _, _, _, _, _, _, _, _, _, _, _, _, _, rfl, _⟩ := h; rfl) | (obtain ⟨_, _, _, _, _, _, _, _, _, _, _, _, _, _, _, _, _, rfl, _⟩ := h; rfl) | (obtain ⟨_, _, _, _, _, _, _, _, _, _, _, _, _, _, _, _, _, _, rfl, _⟩ := h; rfl) | (obtain ⟨_, _, _, _, _, _, _, _, _, _, _, _, _, _, _, _, _, _, _, rfl, _⟩ := h; rfl) | (obtain ⟨_, _, _, _, _, _, _, _, _, _, _, _, _, _, _, _, _, _, _, _, rfl, _⟩ := h; rfl) | (obtain ⟨_, _, _, _, _, _, _, _, _, _, _, _, _, _, _, _, _, _, _, _, _, rfl, _⟩ := h; rfl) | (obtain ⟨_, _, _, _, _, _, _, _, _, _, _, _, _, _, _, _, _, _, _, _, _, _, rfl, _⟩ := h; rfl) | (obtain ⟨_, _, _, _, _, _, _, _, _, _, _, _, _, _, _, _, _, _, _, _, _, _, _, rfl, _⟩ := h; rfl)
  · obtain ⟨x, a, b, c, d, u, y, z, e, rfl, ⟨dx, r, t, hx, hR, ht⟩, bz, bu, e0, e1, q⟩ := h
    obtain ⟨v1, v2, v3⟩ := w_B bz
    refine ⟨_, (pss_one (ps_ret (pe_call G_fraction (hr.mono (by decide)) (by rfl) g_fraction k_fraction b_fraction .nil pass0 (pa_cons (pe_call G_trace_by (hr.mono (by decide)) (by rfl) g_trace_by k_trace_by b_trace_by .nil pass0 (pa_cons (pe_call G_table_for (hr.mono (by decide)) (by rfl) g_table_for k_table_for b_table_for .nil pass0 (pa_cons (pe_fld (pv 0) (by rfl)) pa_nil)) (pa_cons (pe_fld (pv 0) (by rfl)) pa_nil))) (pa_cons (pe_fld (pv 0) (by rfl)) pa_nil))))), ?_⟩
    refine ⟨_, rfl, x, C_Element, dx, _, .ref r, rfl, hx, T.cl_Element, T.na_Element_ring, lkR, r, a, b, c, d, rfl, hR, bz, fun T1 H1 e1' hT => ?_⟩
    refine ⟨_, rfl, x, C_Element, dx, _, .ref t, rfl, e1'.ap hx, T.cl_Element, T.na_Element_entries, lkE, T1, t, _, _, _, _, _, _, _, _, _, u, y, z, rfl, hT, (Ex0.ti e1' ht).q, v1, v2, v3, bu, fun H2 e2 => ?_⟩
    refine ⟨_, rfl, x, C_Element, dx, _, .int e, rfl, Ex0.ap (Fx.trans e1' e2) hx, T.cl_Element, T.na_Element_bottom, lkB, _, e, rfl, e0, e1, fun o H3 p q' g g0 h1 h2 h3 e3 ho => ?_⟩
    exact q o H3 p q' g g0 (by rw [← tr_eq]; exact h1) h2 h3 ((e1'.trans e2).trans e3) ho
theorem ok_Element___mul__ (T : Txt K mg C_Form C_Ring C_Element) : MDef (fun p f => BinC K C_Element "__mul__" f) P w K mg base 5 ["self", "other"] (sp_Element___mul__ K C_Form C_Ring C_Element) := by
  obtain ⟨p_, f_, fd_, R_, F_⟩ := T.e_Element___mul__
  obtain ⟨p_Element___init__, f_Element___init__, fd_Element___init__, R_Element___init__, b_Element___init__, G_Element___init__⟩ := (ok_Element___init__ (P := P) (w := w) (base := base) T)
  obtain ⟨f_check_one_ring, fd_check_one_ring, g_check_one_ring, k_check_one_ring, b_check_one_ring, G_check_one_ring⟩ := (ok_check_one_ring (P := P) (w := w) (base := base) T)
  obtain ⟨f_product_by, fd_product_by, g_product_by, k_product_by, b_product_by, G_product_by⟩ := (ok_product_by (P := P) (w := w) (base := base) T)
  obtain ⟨f_table_for, fd_table_for, g_table_for, k_table_for, b_table_for, G_table_for⟩ := (ok_table_for (P := P) (w := w) (base := base) T)
  refine ⟨p_, f_, fd_, R_, F_.binds (ps := ["self", "other"]) (fun _ _ _ _ _ _ us hl => match us, hl with | [_, _], _ => rfl), ?_⟩
  refine F_.ok sc_Element___mul__ (fun vs H Q E h => ?_) (fun cdv A outer s H vs Q E hr h => ?_)
  · first | (obtain ⟨rfl, _⟩ := h; rfl) | (obtain ⟨_, rfl, _⟩ := h; rfl) | (obtain ⟨_, _, rfl, _⟩ := h; rfl) | (obtain ⟨_, _, _, rfl, _⟩ := h; rfl) | (obtain ⟨_, _, _, _, rfl, _⟩ := h; rfl) | (obtain ⟨_, _, _, _, _, rfl, _⟩ := h; rfl) | (obtain ⟨_, _, _, _, _, _, rfl, _⟩ := h; rfl) | (obtain ⟨_, _, _, _, _, _, _, rfl, _⟩ := h; rfl) | (obtain ⟨_, _, _, _, _, _, _, _, rfl, _⟩ := h; rfl) | (obtain ⟨_, _, _, _, _, _, _, _, _, rfl, _⟩ := h; rfl) | (obtain ⟨_, _, _, _, _, _, _, _, _, _, rfl, _⟩ := h; rfl) | (obtain ⟨_, _, _, _, _, _, _, _, _, _, _, rfl, _⟩ := h; rfl) | (obtain ⟨_, _, _, _, _, _, _, _, _, _, _, _, rfl, _⟩ := h; rfl) | (obtain ⟨_, _, _, _, _, _, _, _, _, _, _, _, _, rfl, _⟩ := h; rfl) | (obtain ⟨_, _, _, _, _, _, _, _, _, _, _, _, _, _, rfl, _⟩ := h; rfl) | (obtain ⟨_, _, _, _, _, _, _, _, _, _, _, _, _, _, _, rfl, _⟩ := h; rfl) | (obtain ⟨_, _, _, _, _, _, _, _, _, _, _, _, _, _, _, _, rfl, _⟩ := h; rfl) | (obtain ⟨_, _, _, _, _, _, _, _, _, _, _, _, _, _, _, _, _, rfl, _⟩ := h; rfl) | (obtain ⟨_, _, _, _, _, _, _, _, _, _, _, _, _, _, _, _, _, _, rfl, _⟩ := h; rfl) | (obtain ⟨_, _, _, _, _, _, _, _, _, _, _, _, _, _, _, _, _, _, _, rfl, _⟩ := h; rfl) | (obtain ⟨_, _, _, _, _, _, _, _, _, _, _, _, _, _, _, _, _, _, _, _, rfl, _⟩ := h; rfl) | (obtain ⟨_, _, _, _, _, _, _, _, _, _, _, _, _, _, _, _, _, _, _, _, _, rfl, _⟩ := h; rfl) | (obtain ⟨_, _, _, _, _, _, _, _, _, _, _, _, _, _, _, _, _, _, _, _, _, _, rfl, _⟩ := h; rfl) | (obtain ⟨_, _, _, _, _, _, _, _, _, _, _, _, _, _, _, _, _, _, _, _, _, _, _, rfl, _⟩ := h; rfl)
  · obtain ⟨x, x', a, b, c, d, u, y, z, e, v, s', r', f, rfl, h1, h2, bz, bu, bv, be, bf, hne, q⟩ := h
    obtain ⟨dx, r, t, hx, hR, ht⟩ := id h1
    obtain ⟨dx2, r2, t2, hx2, hR2, ht2⟩ := id h2
    obtain ⟨v1, v2, v3⟩ := w_B bz
    refine ⟨_, (pss_cons (ps_if (pt_not (pt_val (pe_callB call_isi (by rfl) T.b_isinstance (by decide +kernel) (pa_cons (pv 1) (pa_cons (pe_glob (v := .ref C_Element) (by rfl) T.g_Element rfl) pa_nil)))))
      (pss_one ps_never)
      pss_nil)
    (pss_cons (ps_expr (pe_call G_check_one_ring (hr.mono (by decide)) (by rfl) g_check_one_ring k_check_one_ring b_check_one_ring .nil pass0 (pa_cons (pv 0) (pa_cons (pv 1) pa_nil))))
    (pss_cons (ps_set (i := 2) sc_Element___mul__.nd rfl (.inl rfl) (pe_call G_product_by (hr.mono (by decide)) (by rfl) g_product_by k_product_by b_product_by .nil pass0 (pa_cons (pe_call G_table_for (hr.mono (by decide)) (by rfl) g_table_for k_table_for b_table_for .nil pass0 (pa_cons (pe_fld (pv 0) (by rfl)) pa_nil)) (pa_cons (pe_fld (pv 0) (by rfl)) (pa_cons (pe_fld (pv 1) (by rfl)) pa_nil)))))
    (pss_one (ps_ret (pe_make R_Element___init__ G_Element___init__ (hr.mono (by decide)) (by rfl) T.g_Element b_Element___init__ .nil pass0 (pa_cons (pe_fld (pv 0) (by rfl)) (pa_cons (pv 2) (pa_cons (pe_op op_mulW (pe_fld (pv 0) (by rfl)) (pe_fld (pv 1) (by rfl))) pa_nil))))))))), ?_⟩
    refine ⟨_, rfl, _, _, _, _, true, rfl, .own _, ty_ins T.ty_Element T.cl_Element hx2, kit_self, _, rfl, ?_⟩
    refine iteF ⟨_, rfl, _, rfl, x, x', _, u, y, z, e, v, s', r', f, rfl, h1, h2, ?_⟩
    refine ⟨_, rfl, x, C_Element, dx, _, .ref r, rfl, hx, T.cl_Element, T.na_Element_ring, lkR, r, a, b, c, d, rfl, hR, bz, fun T1 H1 e1 hT => ?_⟩
    refine ⟨_, rfl, x, C_Element, dx, _, .ref t, rfl, e1.ap hx, T.cl_Element, T.na_Element_entries, lkE, ?_⟩
    refine ⟨_, rfl, x', C_Element, dx2, _, .ref t2, rfl, e1.ap hx2, T.cl_Element, T.na_Element_entries, lkE, ?_⟩
    refine ⟨T1, t, t2, _, _, _, _, _, _, _, _, _, u, y, z, v, s', r', rfl, hT, (Ex0.ti e1 ht).q, (Ex0.ti e1 ht2).q, v1, v2, v3, bu, bv, fun o H2 e2 ho => ?_⟩
    have e12 := e1.trans e2
    refine ⟨_, rfl, x, C_Element, dx, _, .ref r, rfl, Ex0.ap e12 hx, T.cl_Element, T.na_Element_ring, lkR, _, rfl, ?_⟩
    refine ⟨_, rfl, x, C_Element, dx, _, .int e, rfl, Ex0.ap e12 hx, T.cl_Element, T.na_Element_bottom, lkB, ?_⟩
    refine ⟨_, rfl, x', C_Element, dx2, _, .int f, rfl, Ex0.ap e12 hx2, T.cl_Element, T.na_Element_bottom, lkB, e, f, rfl, rfl, mulB be bf (by decide), fun y0 dy nx ndx _ => ?_⟩
    refine ⟨y0, dy, r, o, _, _, _, e * f, rfl, upd_same, SqT.of (made_at nx ndx ho), hne, (B.mul be bf).mono (by decide), fun H3 t' u' y' z' b' low e3 nt e4 ht' => ⟨rfl, ?_⟩⟩
    obtain ⟨f1, f2⟩ := el_made (t := o) nx ndx (Ex0.ri e12 hR) e3 e4 ht'
    exact q y0 H3 u' y' z' b' low (e12.trans f1) f2
end
end K13
namespace K13
open PySem PySem.Spec PyProof.Rows L2 Fr
theorem l33_new {H : Hp} {t1 t2 t3 x : Addr} {r1 r2 r3 : List Int} (n1 : H t1 = none) (n2 : upd H t1 (.tup (r1.map V.int)) t2 = none) (n3 : upd (upd H t1 (.tup (r1.map V.int))) t2 (.tup (r2.map V.int)) t3 = none)
    (n4 : upd (upd (upd H t1 (.tup (r1.map V.int))) t2 (.tup (r2.map V.int))) t3 (.tup (r3.map V.int)) x = none) :
    Ex0 H (upd (upd (upd (upd H t1 (.tup (r1.map V.int))) t2 (.tup (r2.map V.int))) t3 (.tup (r3.map V.int))) x (.lst [.ref t1, .ref t2, .ref t3])) ∧
      L33 (upd (upd (upd (upd H t1 (.tup (r1.map V.int))) t2 (.tup (r2.map V.int))) t3 (.tup (r3.map V.int))) x (.lst [.ref t1, .ref t2, .ref t3])) x r1 r2 r3 :=
  ⟨(((Ex0.new n1).trans (Ex0.new n2)).trans (Ex0.new n3)).trans (Ex0.new n4), t1, t2, t3, upd_same, Ex0.ap (Ex0.new n4) (Ex0.ap (Ex0.new n3) (Ex0.ap (Ex0.new n2) upd_same)), Ex0.ap (Ex0.new n4) (Ex0.ap (Ex0.new n3) upd_same), Ex0.ap (Ex0.new n4) upd_same⟩
theorem unL33 {K : PySem.W.Frag} {i1 i2 i3 i4 i5 i6 i7 i8 i9 : Nat} {σ : L2.St} {H : Hp} {t : Addr} {a b c d e f g h i : Int} {Q : L2.St → Hp → Prop} (q : L33 H t [a, b, c] [d, e, f] [g, h, i])
    (z : Q (((((((((σ.set i1 (some (.int a))).set i2 (some (.int b))).set i3 (some (.int c))).set i4 (some (.int d))).set i5 (some (.int e))).set i6 (some (.int f))).set i7 (some (.int g))).set i8 (some (.int h))).set i9 (some (.int i))) H) :
    gLst K 3 (gCons (gTup K 3 (gCons (gName i1) (gCons (gName i2) (gCons (gName i3) gNil)))) (gCons (gTup K 3 (gCons (gName i4) (gCons (gName i5) (gCons (gName i6) gNil)))) (gCons (gTup K 3 (gCons (gName i7) (gCons (gName i8) (gCons (gName i9) gNil)))) gNil))) (.ref t) σ H Q := by
  obtain ⟨t1, t2, t3, h0, h1, h2, h3⟩ := q
  refine ⟨t, _, rfl, SqL.of h0, rfl, _, _, rfl, ?_⟩
  refine ⟨t1, _, rfl, SqT.of h1, rfl, _, _, rfl, _, _, rfl, _, _, rfl, ⟨rfl, ?_⟩⟩
  refine ⟨_, _, rfl, ?_⟩
  refine ⟨t2, _, rfl, SqT.of h2, rfl, _, _, rfl, _, _, rfl, _, _, rfl, ⟨rfl, ?_⟩⟩
  refine ⟨_, _, rfl, ?_⟩
  exact ⟨t3, _, rfl, SqT.of h3, rfl, _, _, rfl, _, _, rfl, _, _, rfl, ⟨rfl, ⟨rfl, z⟩⟩⟩
theorem unM33 {K : PySem.W.Frag} {i1 i2 i3 i4 i5 i6 i7 i8 i9 : Nat} {σ : L2.St} {H : Hp} {t : Addr} {a b c d e f g h i : Int} {Q : L2.St → Hp → Prop} (q : M33 K H t [a, b, c] [d, e, f] [g, h, i])
    (z : Q (((((((((σ.set i1 (some (.int a))).set i2 (some (.int b))).set i3 (some (.int c))).set i4 (some (.int d))).set i5 (some (.int e))).set i6 (some (.int f))).set i7 (some (.int g))).set i8 (some (.int h))).set i9 (some (.int i))) H) :
    gLst K 3 (gCons (gTup K 3 (gCons (gName i1) (gCons (gName i2) (gCons (gName i3) gNil)))) (gCons (gTup K 3 (gCons (gName i4) (gCons (gName i5) (gCons (gName i6) gNil)))) (gCons (gTup K 3 (gCons (gName i7) (gCons (gName i8) (gCons (gName i9) gNil)))) gNil))) (.ref t) σ H Q := by
  obtain ⟨t1, t2, t3, h0, h1, h2, h3⟩ := q
  refine ⟨t, _, rfl, SqL.of h0, rfl, _, _, rfl, ?_⟩
  refine ⟨t1, _, rfl, h1, rfl, _, _, rfl, _, _, rfl, _, _, rfl, ⟨rfl, ?_⟩⟩
  refine ⟨_, _, rfl, ?_⟩
  refine ⟨t2, _, rfl, h2, rfl, _, _, rfl, _, _, rfl, _, _, rfl, ⟨rfl, ?_⟩⟩
  refine ⟨_, _, rfl, ?_⟩
  exact ⟨t3, _, rfl, h3, rfl, _, _, rfl, _, _, rfl, _, _, rfl, ⟨rfl, ⟨rfl, z⟩⟩⟩
def det3 (a b c d e f g h i : Int) : Int := a * (e * i - f * h) - b * (d * i - f * g) + c * (d * h - e * g)
def mn (a b c d e f g h i : Int) : Int := a * e - b * d + a * i - c * g + e * i - f * h
def Fq (a b p q : Int) : Prop := ∃ g : Int, 0 < g ∧ a = g * p ∧ b = g * q ∧ Nat.gcd p.natAbs q.natAbs = 1
section
def sp_determinant_by (_ : PySem.W.Frag) (C C_R C_E : Addr) : Sp := fun vs H Q _ => ∃ (t : Addr) (a b c d e f g h i : Int), vs = [.ref t] ∧ T33 H t [a, b, c] [d, e, f] [g, h, i] ∧ B3 20000 a b c ∧ B3 20000 d e f ∧ B3 20000 g h i ∧ Q (.int (det3 a b c d e f g h i)) H
def plA (a b c d e f g h i u x y : Int) : Int := m0 a d g u x y 1 0 0 + m1 b e h u x y 0 1 0 + m2 c f i u x y 0 0 1
def plB (a b c d e f g h i u x y : Int) : Int := mn (m0 a d g u x y 1 0 0) (m1 b e h u x y 1 0 0) (m2 c f i u x y 1 0 0) (m0 a d g u x y 0 1 0) (m1 b e h u x y 0 1 0) (m2 c f i u x y 0 1 0) (m0 a d g u x y 0 0 1) (m1 b e h u x y 0 0 1) (m2 c f i u x y 0 0 1)
def plC (a b c d e f g h i u x y : Int) : Int := det3 (m0 a d g u x y 1 0 0) (m1 b e h u x y 1 0 0) (m2 c f i u x y 1 0 0) (m0 a d g u x y 0 1 0) (m1 b e h u x y 0 1 0) (m2 c f i u x y 0 1 0) (m0 a d g u x y 0 0 1) (m1 b e h u x y 0 0 1) (m2 c f i u x y 0 0 1)
def sp_polynomial_by (K : PySem.W.Frag) (C C_R C_E : Addr) : Sp := fun vs H Q _ => ∃ (t l : Addr) (a b c d e f g h i u x y : Int), vs = [.ref t, .ref l] ∧ T33 H t [a, b, c] [d, e, f] [g, h, i] ∧ Tq K H l [u, x, y] ∧ B3 2100 a b c ∧ B3 2100 d e f ∧ B3 2100 g h i ∧ B3 9000 u x y ∧ ∀ o H', Ex0 H H' → Ti H' o [-plA a b c d e f g h i u x y, plB a b c d e f g h i u x y, -plC a b c d e f g h i u x y] → Q (.ref o) H'
def sp_Element_entries (_ : PySem.W.Frag) (C C_R C_E : Addr) : Sp := fun vs H Q _ => ∃ (x : Addr) (ns : List Int) (u y z b : Int), vs = [.ref x] ∧ ElAt C C_R C_E H x ns u y z b ∧ ∀ t, Ti H t [u, y, z] → Q (.ref t) H
def sp_Element_bottom (_ : PySem.W.Frag) (C C_R C_E : Addr) : Sp := fun vs H Q _ => ∃ (x : Addr) (ns : List Int) (u y z b : Int), vs = [.ref x] ∧ ElAt C C_R C_E H x ns u y z b ∧ Q (.int b) H
def qA (a b c d u y z : Int) : Int := plA (-a * c) b (-a) (-a * d) 0 0 (-b * d) d (-c) u y z
def qB (a b c d u y z : Int) : Int := plB (-a * c) b (-a) (-a * d) 0 0 (-b * d) d (-c) u y z
def qC (a b c d u y z : Int) : Int := plC (-a * c) b (-a) (-a * d) 0 0 (-b * d) d (-c) u y z
def sp_Element_norm (_ : PySem.W.Frag) (C C_R C_E : Addr) : Sp := fun vs H Q _ => ∃ (x : Addr) (a b c d u y z e : Int), vs = [.ref x] ∧ ElAt C C_R C_E H x [a, b, c, d] u y z e ∧ B4 1000 a b c d ∧ B3 9000 u y z ∧ 0 < e ∧ e < 2 ^ 900 ∧ ∀ o H' p q, Fq (qC a b c d u y z) (e * e * e) p q → Ex0 H H' → Ti H' o [p, q] → Q (.ref o) H'
def sp_Element_polynomial (_ : PySem.W.Frag) (C C_R C_E : Addr) : Sp := fun vs H Q _ => ∃ (x : Addr) (a b c d u y z e : Int), vs = [.ref x] ∧ ElAt C C_R C_E H x [a, b, c, d] u y z e ∧ B4 1000 a b c d ∧ B3 9000 u y z ∧ 0 < e ∧ e < 2 ^ 900 ∧ ∀ o H' p1 q1 p2 q2 p3 q3, Fq (-qA a b c d u y z) e p1 q1 → Fq (qB a b c d u y z) (e * e) p2 q2 → Fq (-qC a b c d u y z) (e * e * e) p3 q3 → Ex0 H H' → T33 H' o [p1, q1] [p2, q2] [p3, q3] → Q (.ref o) H'
def sp_Ring_one (_ : PySem.W.Frag) (C C_R C_E : Addr) : Sp := fun vs H Q _ => ∃ (r : Addr) (ns : List Int), vs = [.ref r] ∧ RingAt C C_R H r ns ∧ ∀ x H', Ex0 H H' → ElAt C C_R C_E H' x ns 1 0 0 1 → Q (.ref x) H'
def sp_Ring_w (_ : PySem.W.Frag) (C C_R C_E : Addr) : Sp := fun vs H Q _ => ∃ (r : Addr) (ns : List Int), vs = [.ref r] ∧ RingAt C C_R H r ns ∧ ∀ x H', Ex0 H H' → ElAt C C_R C_E H' x ns 0 1 0 1 → Q (.ref x) H'
def sp_Ring_t (_ : PySem.W.Frag) (C C_R C_E : Addr) : Sp := fun vs H Q _ => ∃ (r : Addr) (ns : List Int), vs = [.ref r] ∧ RingAt C C_R H r ns ∧ ∀ x H', Ex0 H H' → ElAt C C_R C_E H' x ns 0 0 1 1 → Q (.ref x) H'
def sp_mixed (_ : PySem.W.Frag) (C C_R C_E : Addr) : Sp := fun vs H Q _ => ∃ (x x' : Addr) (ns ms : List Int) (u y z e v s r f n : Int), vs = [.ref x, .ref x', .int n] ∧ ElAt C C_R C_E H x ns u y z e ∧ ElAt C C_R C_E H x' ms v s r f ∧ B3 9000 u y z ∧ B3 9000 v s r ∧ B 1000 e ∧ B 1000 f ∧ e * f ≠ 0 ∧ (n = 1 ∨ n = -1) ∧ ∀ o H' u' y' z' b', Low (u * f + v * (n * e)) (y * f + s * (n * e)) (z * f + r * (n * e)) (e * f) u' y' z' b' → Ex0 H H' → ElAt C C_R C_E H' o ns u' y' z' b' → Q (.ref o) H'
def sp_Element___add__ (_ : PySem.W.Frag) (C C_R C_E : Addr) : Sp := fun vs H Q _ => ∃ (x x' : Addr) (ns : List Int) (u y z e v s r f : Int), vs = [.ref x, .ref x'] ∧ ElAt C C_R C_E H x ns u y z e ∧ ElAt C C_R C_E H x' ns v s r f ∧ B3 9000 u y z ∧ B3 9000 v s r ∧ B 1000 e ∧ B 1000 f ∧ e * f ≠ 0 ∧ ∀ o H' u' y' z' b', Low (u * f + v * (1 * e)) (y * f + s * (1 * e)) (z * f + r * (1 * e)) (e * f) u' y' z' b' → Ex0 H H' → ElAt C C_R C_E H' o ns u' y' z' b' → Q (.ref o) H'
def sp_Element_scaled (_ : PySem.W.Frag) (C C_R C_E : Addr) : Sp := fun vs H Q _ => ∃ (x : Addr) (ns : List Int) (u y z e n m : Int), vs = [.ref x, .int n, .int m] ∧ ElAt C C_R C_E H x ns u y z e ∧ B3 9000 u y z ∧ B 1000 e ∧ e ≠ 0 ∧ Short n ∧ Short m ∧ m ≠ 0 ∧ ∀ o H' u' y' z' b', Low (u * n) (y * n) (z * n) (e * m) u' y' z' b' → Ex0 H H' → ElAt C C_R C_E H' o ns u' y' z' b' → Q (.ref o) H'
def sp_Element___bool__ (_ : PySem.W.Frag) (C C_R C_E : Addr) : Sp := fun vs H Q _ => ∃ (x : Addr) (ns : List Int) (u y z b : Int), vs = [.ref x] ∧ ElAt C C_R C_E H x ns u y z b ∧ Q (.bl ([u, y, z].any (fun n => n != 0))) H
end
section
variable {P : Program} {w : World} {K : PySem.W.Frag} {mg : Str → Option Value} {base : Heap} {C_Form C_Ring C_Element : Addr}
theorem ok_determinant_by (T : Txt K mg C_Form C_Ring C_Element) : Def P w K mg base 1 "determinant_by" ["rows"] (sp_determinant_by K C_Form C_Ring C_Element) := by
  obtain ⟨f_, fd_, g_, F_⟩ := T.d_determinant_by
  refine ⟨f_, fd_, g_, F_.kp, F_.binds (ps := ["rows"]) (fun _ _ _ _ _ _ us hl => match us, hl with | [_], _ => rfl), ?_⟩
  refine F_.ok sc_determinant_by (fun vs H Q E h => ?_) (fun cdv A outer s H vs Q E hr h => ?_)
  · first | (obtain ⟨rfl, _⟩ := h; rfl) | (obtain ⟨_, rfl, _⟩ := h; rfl) | (obtain ⟨_, _, rfl, _⟩ := h; rfl) | (obtain ⟨_, _, _, rfl, _⟩ := h; rfl) | (obtain ⟨_, _, _, _, rfl, _⟩ := h; rfl) | (obtain ⟨_, _, _, _, _, rfl, _⟩ := h; rfl) | (obtain ⟨_, _, _, _, _, _, rfl, _⟩ := h; rfl) | (obtain ⟨_, _, _, _, _, _, _, rfl, _⟩ := h; rfl) | (obtain ⟨_, _, _, _, _, _, _, _, rfl, _⟩ := h; rfl) | (obtain ⟨_, _, _, _, _, _, _, _, _, rfl, _⟩ := h; rfl) | (obtain ⟨_, _, _, _, _, _, _, _, _, _, rfl, _⟩ := h; rfl) | (obtain ⟨_, _, _, _, _, _, _, _, _, _, _, rfl, _⟩ := h; rfl) | (obtain ⟨_, _, _, _, _, _, _, _, _, _, _, _, rfl, _⟩ := h; rfl) | (obtain ⟨_, _, _, _, _, _, _, _, _, _, _, _, _, rfl, _⟩ := h; rfl) | (obtain ⟨_, _, _, _, _, _, _, _, _, _, _, _, _, _, rfl, _⟩ := h; rfl) | (obtain ⟨_, _, _, _, _, _, _, _, _, _, _, _, _, _, _, rfl, _⟩ := h; rfl) | (obtain ⟨_, _, _, _, _, _, _, _, _, _, _, _, _, _, _, _, rfl, _⟩ := h; rfl) | (obtain ⟨_, _, _, _, _, _, _, _, _, _, _, _, _, _, _, _, _, rfl, _⟩ := h; rfl) | (obtain ⟨_, _, _, _, _, _, _, _, _, _, _, _, _, _, _, _, _, _, rfl, _⟩ := h; rfl) | (obtain ⟨_, _, _, _, _, _, _, _, _, _, _, _, _, _, _, _, _, _, _, rfl, _⟩ := h; rfl) | (obtain ⟨_, _, _, _, _, _, _, _, _, _, _, _, _, _, _, _, _, _, _, _, rfl, _⟩ := h; rfl) | (obtain ⟨_, _, _, _, _, _, _, _, _, _, _, _, _, _, _, _, _, _, _, _, _, rfl, _⟩ := h; rfl) | (obtain ⟨_, _, _, _, _, _, _, _, _, _, _, _, _, _, _, _, _, _, _, _, _, _, rfl, _⟩ := h; rfl) | (obtain ⟨_, _, _, _, _, _, _, _, _, _, _, _, _, _, _, _, _, _, _, _, _, _, _, rfl, _⟩ := h; rfl)
  · obtain ⟨t, a, b, c, d, e, f, g, h', i, rfl, ht, ⟨ba, bb, bc⟩, ⟨bd, be, bf⟩, ⟨bg, bh, bi⟩, q⟩ := h
    refine ⟨_, (Evl.pss_cut (ps_asg (pv 0) (pg_tup (by rfl) (pgs_cons (pg_tup (by rfl) (pgs_cons (pg_name (i := 1) sc_determinant_by.nd rfl (.inl rfl)) (pgs_cons (pg_name (i := 2) sc_determinant_by.nd rfl (.inl rfl)) (pgs_cons (pg_name (i := 3) sc_determinant_by.nd rfl (.inl rfl)) pgs_nil)))) (pgs_cons (pg_tup (by rfl) (pgs_cons (pg_name (i := 4) sc_determinant_by.nd rfl (.inl rfl)) (pgs_cons (pg_name (i := 5) sc_determinant_by.nd rfl (.inl rfl)) (pgs_cons (pg_name (i := 6) sc_determinant_by.nd rfl (.inl rfl)) pgs_nil)))) (pgs_cons (pg_tup (by rfl) (pgs_cons (pg_name (i := 7) sc_determinant_by.nd rfl (.inl rfl)) (pgs_cons (pg_name (i := 8) sc_determinant_by.nd rfl (.inl rfl)) (pgs_cons (pg_name (i := 9) sc_determinant_by.nd rfl (.inl rfl)) pgs_nil)))) pgs_nil)))))
    (pss_one (ps_ret (pe_op op_add (pe_op op_sub (pe_op op_mulW (pv 1) (pe_op op_sub (pe_op op_mulW (pv 5) (pv 9)) (pe_op op_mulW (pv 6) (pv 8)))) (pe_op op_mulW (pv 2) (pe_op op_sub (pe_op op_mulW (pv 4) (pv 9)) (pe_op op_mulW (pv 6) (pv 7))))) (pe_op op_mulW (pv 3) (pe_op op_sub (pe_op op_mulW (pv 4) (pv 8)) (pe_op op_mulW (pv 5) (pv 7)))))))), ?_⟩
    refine ⟨fun σ H' => σ = [some (.ref t), some (.int a), some (.int b), some (.int c), some (.int d), some (.int e), some (.int f), some (.int g), some (.int h'), some (.int i)] ∧ H' = H, ⟨_, rfl, un33 ht ⟨rfl, rfl⟩⟩, ?_⟩
    rintro σ H' ⟨rfl, rfl⟩
    exact ⟨_, rfl, _, rfl, _, rfl, _, _, rfl, rfl, mulB (by with_reducible assumption) (by with_reducible assumption) (by decide), _, rfl, _, rfl, _, _, rfl, rfl, mulB (by with_reducible assumption) (by with_reducible assumption) (by decide), _, _, rfl, rfl, _, _, rfl, rfl, mulB (by with_reducible assumption) (B.sub (B.mul (by with_reducible assumption) (by with_reducible assumption)) (B.mul (by with_reducible assumption) (by with_reducible assumption))) (by decide), _, rfl, _, rfl, _, rfl, _, _, rfl, rfl, mulB (by with_reducible assumption) (by with_reducible assumption) (by decide), _, rfl, _, rfl, _, _, rfl, rfl, mulB (by with_reducible assumption) (by with_reducible assumption) (by decide), _, _, rfl, rfl, _, _, rfl, rfl, mulB (by with_reducible assumption) (B.sub (B.mul (by with_reducible assumption) (by with_reducible assumption)) (B.mul (by with_reducible assumption) (by with_reducible assumption))) (by decide), _, _, rfl, rfl, _, rfl, _, rfl, _, rfl, _, _, rfl, rfl, mulB (by with_reducible assumption) (by with_reducible assumption) (by decide), _, rfl, _, rfl, _, _, rfl, rfl, mulB (by with_reducible assumption) (by with_reducible assumption) (by decide), _, _, rfl, rfl, _, _, rfl, rfl, mulB (by with_reducible assumption) (B.sub (B.mul (by with_reducible assumption) (by with_reducible assumption)) (B.mul (by with_reducible assumption) (by with_reducible assumption))) (by decide), _, _, rfl, rfl, q⟩
theorem ok_polynomial_by (T : Txt K mg C_Form C_Ring C_Element) : Def P w K mg base 3 "polynomial_by" ["table", "entries"] (sp_polynomial_by K C_Form C_Ring C_Element) := by
  obtain ⟨f_, fd_, g_, F_⟩ := T.d_polynomial_by
  obtain ⟨f_determinant_by, fd_determinant_by, g_determinant_by, k_determinant_by, b_determinant_by, G_determinant_by⟩ := (ok_determinant_by (P := P) (w := w) (base := base) T)
  obtain ⟨f_map_by, fd_map_by, g_map_by, k_map_by, b_map_by, G_map_by⟩ := (ok_map_by (P := P) (w := w) (base := base) T)
  refine ⟨f_, fd_, g_, F_.kp, F_.binds (ps := ["table", "entries"]) (fun _ _ _ _ _ _ us hl => match us, hl with | [_, _], _ => rfl), ?_⟩
  refine F_.ok sc_polynomial_by (fun vs H Q E h => ?_) (fun cdv A outer s H vs Q E hr h => ?_)
  · first | (obtain ⟨rfl, _⟩ := h; rfl) | (obtain ⟨_, rfl, _⟩ := h; rfl) | (obtain ⟨_, _, rfl, _⟩ := h; rfl) | (obtain ⟨_, _, _, rfl, _⟩ := h; rfl) | (obtain ⟨_, _, _, _, rfl, _⟩ := h; rfl) | (obtain ⟨_, _, _, _, _, rfl, _⟩ := h; rfl) | (obtain ⟨_, _, _, _, _, _, rfl, _⟩ := h; rfl) | (obtain ⟨_, _, _, _, _, _, _, rfl, _⟩ := h; rfl) | (obtain ⟨_, _, _, _, _, _, _, _, rfl, _⟩ := h; rfl) | (obtain ⟨_, _, _, _, _, _, _, _, _, rfl, _⟩ := h; rfl) | (obtain ⟨_, _, _, _, _, _, _, _, _, _, rfl, _⟩ := h; rfl) | (obtain ⟨_, _, _, _, _, _, _, _, _, _, _, rfl, _⟩ := h; rfl) | (obtain ⟨_, _, _, _, _, _, _, _, _, _, _, _, rfl, _⟩ := h; rfl) | (obtain ⟨_, _, _, _, _, _, _, _, _, _, _, _, _, rfl, _⟩ := h; rfl) | (obtain ⟨_, _, _, _, _, _, _, _, _, _, _, _, _, _, rfl, _⟩ := h; rfl) | (obtain ⟨_, _, _, _, _, _, _, _, _, _, _, _, _, _, _, rfl, _⟩ := h; rfl) | (obtain ⟨_, _, _, _, _, _, _, _, _, _, _, _, _, _, _, _, rfl, _⟩ := h; rfl) | (obtain ⟨_, _, _, _, _, _, _, _, _, _, _, _, _, _, _, _, _, rfl, _⟩ := h; rfl) | (obtain ⟨_, _, _, _, _, _, _, _, _, _, _, _, _, _, _, _, _, _, rfl, _⟩ := h; rfl) | (obtain ⟨_, _, _, _, _, _, _, _, _, _, _, _, _, _, _, _, _, _, _, rfl, _⟩ := h; rfl) | (obtain ⟨_, _, _, _, _, _, _, _, _, _, _, _, _, _, _, _, _, _, _, _, rfl, _⟩ := h; rfl) | (obtain ⟨_, _, _, _, _, _, _, _, _, _, _, _, _, _, _, _, _, _, _, _, _, rfl, _⟩ := h; rfl) | (obtain ⟨_, _, _, _, _, _, _, _, _, _, _, _, _, _, _, _, _, _, _, _, _, _, rfl, _⟩ := h; rfl) | (obtain ⟨_, _, _, _, _, _, _, _, _, _, _, _, _, _, _, _, _, _, _, _, _, _, _, rfl, _⟩ := h; rfl)
  · obtain ⟨t, l, a, b, c, d, e, f, g, h', i, u, x, y, rfl, ht, hl, b1, b2, b3, bu, q⟩ := h
    refine ⟨_, (Evl.pss_cut (ps_asg (pe_call G_map_by (hr.mono (by decide)) (by rfl) g_map_by k_map_by b_map_by .nil pass0 (pa_cons (pv 0) (pa_cons (pv 1) pa_nil))) (pg_lst (by rfl) (pgs_cons (pg_tup (by rfl) (pgs_cons (pg_name (i := 2) sc_polynomial_by.nd rfl (.inl rfl)) (pgs_cons (pg_name (i := 3) sc_polynomial_by.nd rfl (.inl rfl)) (pgs_cons (pg_name (i := 4) sc_polynomial_by.nd rfl (.inl rfl)) pgs_nil)))) (pgs_cons (pg_tup (by rfl) (pgs_cons (pg_name (i := 5) sc_polynomial_by.nd rfl (.inl rfl)) (pgs_cons (pg_name (i := 6) sc_polynomial_by.nd rfl (.inl rfl)) (pgs_cons (pg_name (i := 7) sc_polynomial_by.nd rfl (.inl rfl)) pgs_nil)))) (pgs_cons (pg_tup (by rfl) (pgs_cons (pg_name (i := 8) sc_polynomial_by.nd rfl (.inl rfl)) (pgs_cons (pg_name (i := 9) sc_polynomial_by.nd rfl (.inl rfl)) (pgs_cons (pg_name (i := 10) sc_polynomial_by.nd rfl (.inl rfl)) pgs_nil)))) pgs_nil)))))
    (pss_cons (ps_set (i := 11) sc_polynomial_by.nd rfl (.inl rfl) (pe_op op_sub (pe_op op_add (pe_op op_sub (pe_op op_add (pe_op op_sub (pe_op op_mulW (pv 2) (pv 6)) (pe_op op_mulW (pv 3) (pv 5))) (pe_op op_mulW (pv 2) (pv 10))) (pe_op op_mulW (pv 4) (pv 8))) (pe_op op_mulW (pv 6) (pv 10))) (pe_op op_mulW (pv 7) (pv 9))))
    (pss_one (ps_ret (pe_tup (pa_cons (pe_un un_neg (pe_op op_add (pe_op op_add (pv 2) (pv 6)) (pv 10))) (pa_cons (pv 11) (pa_cons (pe_un un_neg (pe_call G_determinant_by (hr.mono (by decide)) (by rfl) g_determinant_by k_determinant_by b_determinant_by .nil pass0 (pa_cons (pe_tup (pa_cons (pe_tup (pa_cons (pv 2) (pa_cons (pv 3) (pa_cons (pv 4) pa_nil)))) (pa_cons (pe_tup (pa_cons (pv 5) (pa_cons (pv 6) (pa_cons (pv 7) pa_nil)))) (pa_cons (pe_tup (pa_cons (pv 8) (pa_cons (pv 9) (pa_cons (pv 10) pa_nil)))) pa_nil)))) pa_nil))) pa_nil)))))))), ?_⟩
    have k0 : B3 1000 1 0 0 := ⟨⟨by decide, by decide⟩, ⟨by decide, by decide⟩, ⟨by decide, by decide⟩⟩
    have k1 : B3 1000 0 1 0 := ⟨⟨by decide, by decide⟩, ⟨by decide, by decide⟩, ⟨by decide, by decide⟩⟩
    have k2 : B3 1000 0 0 1 := ⟨⟨by decide, by decide⟩, ⟨by decide, by decide⟩, ⟨by decide, by decide⟩⟩
    have bA := (m_B b1.1 b2.1 b3.1 bu k0).1.mono (show 9000 + 1000 + 2100 + 4 ≤ 20000 by decide)
    have bB := (m_B b1.2.1 b2.2.1 b3.2.1 bu k0).2.1.mono (show 9000 + 1000 + 2100 + 4 ≤ 20000 by decide)
    have bC := (m_B b1.2.2 b2.2.2 b3.2.2 bu k0).2.2.mono (show 9000 + 1000 + 2100 + 4 ≤ 20000 by decide)
    have bD := (m_B b1.1 b2.1 b3.1 bu k1).1.mono (show 9000 + 1000 + 2100 + 4 ≤ 20000 by decide)
    have bE := (m_B b1.2.1 b2.2.1 b3.2.1 bu k1).2.1.mono (show 9000 + 1000 + 2100 + 4 ≤ 20000 by decide)
    have bF := (m_B b1.2.2 b2.2.2 b3.2.2 bu k1).2.2.mono (show 9000 + 1000 + 2100 + 4 ≤ 20000 by decide)
    have bG := (m_B b1.1 b2.1 b3.1 bu k2).1.mono (show 9000 + 1000 + 2100 + 4 ≤ 20000 by decide)
    have bH := (m_B b1.2.1 b2.2.1 b3.2.1 bu k2).2.1.mono (show 9000 + 1000 + 2100 + 4 ≤ 20000 by decide)
    have bI := (m_B b1.2.2 b2.2.2 b3.2.2 bu k2).2.2.mono (show 9000 + 1000 + 2100 + 4 ≤ 20000 by decide)
    unfold plA plB plC at q
    refine ⟨fun σ H' => σ = [some (.ref t), some (.ref l), some (.int (m0 a d g u x y 1 0 0)), some (.int (m1 b e h' u x y 1 0 0)), some (.int (m2 c f i u x y 1 0 0)), some (.int (m0 a d g u x y 0 1 0)), some (.int (m1 b e h' u x y 0 1 0)), some (.int (m2 c f i u x y 0 1 0)), some (.int (m0 a d g u x y 0 0 1)), some (.int (m1 b e h' u x y 0 0 1)), some (.int (m2 c f i u x y 0 0 1)), none] ∧ Ex0 H H', ?_, ?_⟩
    · refine ⟨_, rfl, _, rfl, t, l, a, b, c, d, e, f, g, h', i, u, x, y, rfl, ht, hl, b1, b2, b3, bu, fun o H1 e1 ho => ?_⟩
      exact unM33 ho ⟨rfl, e1⟩
    rintro σ H1 ⟨rfl, e1⟩
    generalize m0 a d g u x y 1 0 0 = A at q bA ⊢
    generalize m1 b e h' u x y 1 0 0 = A1 at q bB ⊢
    generalize m2 c f i u x y 1 0 0 = A2 at q bC ⊢
    generalize m0 a d g u x y 0 1 0 = A3 at q bD ⊢
    generalize m1 b e h' u x y 0 1 0 = A4 at q bE ⊢
    generalize m2 c f i u x y 0 1 0 = A5 at q bF ⊢
    generalize m0 a d g u x y 0 0 1 = A6 at q bG ⊢
    generalize m1 b e h' u x y 0 0 1 = A7 at q bH ⊢
    generalize m2 c f i u x y 0 0 1 = A8 at q bI ⊢
    refine ⟨_, rfl, _, rfl, _, _, rfl, rfl, mulB (by with_reducible assumption) (by with_reducible assumption) (by decide), _, rfl, _, rfl, _, _, rfl, rfl, mulB (by with_reducible assumption) (by with_reducible assumption) (by decide), _, _, rfl, rfl, _, rfl, _, rfl, _, _, rfl, rfl, mulB (by with_reducible assumption) (by with_reducible assumption) (by decide), _, _, rfl, rfl, _, rfl, _, rfl, _, _, rfl, rfl, mulB (by with_reducible assumption) (by with_reducible assumption) (by decide), _, _, rfl, rfl, _, rfl, _, rfl, _, _, rfl, rfl, mulB (by with_reducible assumption) (by with_reducible assumption) (by decide), _, _, rfl, rfl, _, rfl, _, rfl, _, _, rfl, rfl, mulB (by with_reducible assumption) (by with_reducible assumption) (by decide), _, _, rfl, rfl, ?_⟩
    refine ⟨_, rfl, _, rfl, _, _, rfl, rfl, _, rfl, _, _, rfl, rfl, _, rfl, ?_⟩
    refine ⟨_, rfl, ?_⟩
    refine ⟨_, rfl, _, rfl, _, rfl, sl3, fun t1 n1 => ⟨_, rfl, _, rfl, _, rfl, sl3, fun t2 n2 => ⟨_, rfl, _, rfl, _, rfl, sl3, fun t3 n3 => ⟨sl3, fun x nx => ?_⟩⟩⟩⟩
    have z := t33_new (r1 := [A, A1, A2]) (r2 := [A3, A4, A5]) (r3 := [A6, A7, A8]) n1 n2 n3 nx
    refine ⟨x, A, A1, A2, A3, A4, A5, A6, A7, A8, rfl, z.2, ⟨bA, bB, bC⟩, ⟨bD, bE, bF⟩, ⟨bG, bH, bI⟩, _, rfl, sl3, fun o no => ?_⟩
    exact q o _ ((e1.trans z.1).trans (Ex0.new no)) upd_same
theorem ok_Element_entries (T : Txt K mg C_Form C_Ring C_Element) : MDef (fun p f => PropOf K C_Element "entries" p f) P w K mg base 1 ["self"] (sp_Element_entries K C_Form C_Ring C_Element) := by
  obtain ⟨p_, f_, fd_, R_, F_⟩ := T.e_Element_entries
  refine ⟨p_, f_, fd_, R_, F_.binds (ps := ["self"]) (fun _ _ _ _ _ _ us hl => match us, hl with | [_], _ => rfl), ?_⟩
  refine F_.ok sc_Element_entries (fun vs H Q E h => ?_) (fun cdv A outer s H vs Q E hr h => ?_)
  · first | (obtain ⟨rfl, _⟩ := h; rfl) | (obtain ⟨_, rfl, _⟩ := h; rfl) | (obtain ⟨_, _, rfl, _⟩ := h; rfl) | (obtain ⟨_, _, _, rfl, _⟩ := h; rfl) | (obtain ⟨_, _, _, _, rfl, _⟩ := h; rfl) | (obtain ⟨_, _, _, _, _, rfl, _⟩ := h; rfl) | (obtain ⟨_, _, _, _, _, _, rfl, _⟩ := h; rfl) | (obtain ⟨_, _, _, _, _, _, _, rfl, _⟩ := h; rfl) | (obtain ⟨_, _, _, _, _, _, _, _, rfl, _⟩ := h; rfl) | (obtain ⟨_, _, _, _, _, _, _, _, _, rfl, _⟩ := h; rfl) | (obtain ⟨_, _, _, _, _, _, _, _, _, _, rfl, _⟩ := h; rfl) | (obtain ⟨_, _, _, _, _, _, _, _, _, _, _, rfl, _⟩ := h; rfl) | (obtain ⟨_, _, _, _, _, _, _, _, _, _, _, _, rfl, _⟩ := h; rfl) | (obtain ⟨_, _, _, _, _, _, _, _, _, _, _, _, _, rfl, _⟩ := h; rfl) | (obtain ⟨_, _, _, _, _, _, _, _, _, _, _, _, _, _, rfl, _⟩ := h; rfl) | (obtain ⟨_, _, _, _, _, _, _, _, _, _, _, _, _, _, _, rfl, _⟩ := h; rfl) | (obtain ⟨_, _, _, _, _, _, _, _, _, _, _, _, _, _, _, _, rfl, _⟩ := h; rfl) | (obtain ⟨_, _, _, _, _, _, _, _, _, _, _, _, _, _, _, _, _, rfl, _⟩ := h; rfl) | (obtain ⟨_, _, _, _, _, _, _, _, _, _, _, _, _, _, _, _, _, _, rfl, _⟩ := h; rfl) | (obtain ⟨_, _, _, _, _, _, _, _, _, _, _, _, _, _, _, _, _, _, _, rfl, _⟩ := h; rfl) | (obtain ⟨_, _, _, _, _, _, _, _, _, _, _, _, _, _, _, _, _, _, _, _, rfl, _⟩ := h; rfl) | (obtain ⟨_, _, _, _, _, _, _, _, _, _, _, _, _, _, _, _, _, _, _, _, _, rfl, _⟩ := h; rfl) | (obtain ⟨_, _, _, _, _, _, _, _, _, _, _, _, _, _, _, _, _, _, _, _, _, _, rfl, _⟩ := h; rfl) | (obtain ⟨_, _, _, _, _, _, _, _, _, _, _, _, _, _, _, _, _, _, _, _, _, _, _, rfl, _⟩ := h; rfl)
  · obtain ⟨x, ns, u, y, z, b, rfl, ⟨de, r, t, he, hr, ht⟩, q⟩ := h
    refine ⟨_, (pss_one (ps_ret (pe_fld (pv 0) (by rfl)))), ?_⟩
    exact ⟨_, rfl, x, C_Element, de, _, .ref t, rfl, he, T.cl_Element, T.na_Element_entries, lkE, q t ht⟩
theorem ok_Element_bottom (T : Txt K mg C_Form C_Ring C_Element) : MDef (fun p f => PropOf K C_Element "bottom" p f) P w K mg base 1 ["self"] (sp_Element_bottom K C_Form C_Ring C_Element) := by
  obtain ⟨p_, f_, fd_, R_, F_⟩ := T.e_Element_bottom
  refine ⟨p_, f_, fd_, R_, F_.binds (ps := ["self"]) (fun _ _ _ _ _ _ us hl => match us, hl with | [_], _ => rfl), ?_⟩
  refine F_.ok sc_Element_bottom (fun vs H Q E h => ?_) (fun cdv A outer s H vs Q E hr h => ?_)
  · first | (obtain ⟨rfl, _⟩ := h; rfl) | (obtain ⟨_, rfl, _⟩ := h; rfl) | (obtain ⟨_, _, rfl, _⟩ := h; rfl) | (obtain ⟨_, _, _, rfl, _⟩ := h; rfl) | (obtain ⟨_, _, _, _, rfl, _⟩ := h; rfl) | (obtain ⟨_, _, _, _, _, rfl, _⟩ := h; rfl) | (obtain ⟨_, _, _, _, _, _, rfl, _⟩ := h; rfl) | (obtain ⟨_, _, _, _, _, _, _, rfl, _⟩ := h; rfl) | (obtain ⟨_, _, _, _, _, _, _, _, rfl, _⟩ := h; rfl) | (obtain ⟨_, _, _, _, _, _, _, _, _, rfl, _⟩ := h; rfl) | (obtain ⟨_, _, _, _, _, _, _, _, _, _, rfl, _⟩ := h; rfl) | (obtain ⟨_, _, _, _, _, _, _, _, _, _, _, rfl, _⟩ := h; rfl) | (obtain ⟨_, _, _, _, _, _, _, _, _, _, _, _, rfl, _⟩ := h; rfl) | (obtain ⟨_, _, _, _, _, _, _, _, _, _, _, _, _, rfl, _⟩ := h; rfl) | (obtain ⟨_, _, _, _, _, _, _, _, _, _, _, _, _, _, rfl, _⟩ := h; rfl) | (obtain ⟨_, _, _, _, _, _, _, _, _, _, _, _, _, _, _, rfl, _⟩ := h; rfl) | (obtain ⟨_, _, _, _, _, _, _, _, _, _, _, _, _, _, _, _, rfl, _⟩ := h; rfl) | (obtain ⟨_, _, _, _, _, _, _, _, _, _, _, _, _, _, _, _, _, rfl, _⟩ := h; rfl) | (obtain ⟨_, _, _, _, _, _, _, _, _, _, _, _, _, _, _, _, _, _, rfl, _⟩ := h; rfl) | (obtain ⟨_, _, _, _, _, _, _, _, _, _, _, _, _, _, _, _, _, _, _, rfl, _⟩ := h; rfl) | (obtain ⟨_, _, _, _, _, _, _, _, _, _, _, _, _, _, _, _, _, _, _, _, rfl, _⟩ := h; rfl) | (obtain ⟨_, _, _, _, _, _, _, _, _, _, _, _, _, _, _, _, _, _, _, _, _, rfl, _⟩ := h; rfl) | (obtain ⟨_, _, _, _, _, _, _, _, _, _, _, _, _, _, _, _, _, _, _, _, _, _, rfl, _⟩ := h; rfl) | (obtain ⟨_, _, _, _, _, _, _, _, _, _, _, _, _, _, _, _, _, _, _, _, _, _, _, rfl, _⟩ := h; rfl)
  · obtain ⟨x, ns, u, y, z, b, rfl, ⟨de, r, t, he, hr, ht⟩, q⟩ := h
    refine ⟨_, (pss_one (ps_ret (pe_fld (pv 0) (by rfl)))), ?_⟩
    exact ⟨_, rfl, x, C_Element, de, _, .int b, rfl, he, T.cl_Element, T.na_Element_bottom, lkB, q⟩
theorem ok_Element___bool__ (T : Txt K mg C_Form C_Ring C_Element) : MDef (fun p f => Meth K C_Element "__bool__" f) P w K mg base 1 ["self"] (sp_Element___bool__ K C_Form C_Ring C_Element) := by
  obtain ⟨p_, f_, fd_, R_, F_⟩ := T.e_Element___bool__
  refine ⟨p_, f_, fd_, R_, F_.binds (ps := ["self"]) (fun _ _ _ _ _ _ us hl => match us, hl with | [_], _ => rfl), ?_⟩
  refine F_.ok sc_Element___bool__ (fun vs H Q E h => ?_) (fun cdv A outer s H vs Q E hr h => ?_)
  · first | (obtain ⟨rfl, _⟩ := h; rfl) | (obtain ⟨_, rfl, _⟩ := h; rfl) | (obtain ⟨_, _, rfl, _⟩ := h; rfl) | (obtain ⟨_, _, _, rfl, _⟩ := h; rfl) | (obtain ⟨_, _, _, _, rfl, _⟩ := h; rfl) | (obtain ⟨_, _, _, _, _, rfl, _⟩ := h; rfl) | (obtain ⟨_, _, _, _, _, _, rfl, _⟩ := h; rfl) | (obtain ⟨_, _, _, _, _, _, _, rfl, _⟩ := h; rfl) | (obtain ⟨_, _, _, _, _, _, _, _, rfl, _⟩ := h; rfl) | (obtain ⟨_, _, _, _, _, _, _, _, _, rfl, _⟩ := h; rfl) | (obtain ⟨_, _, _, _, _, _, _, _, _, _, rfl, _⟩ := h; rfl) | (obtain ⟨_, _, _, _, _, _, _, _, _, _, _, rfl, _⟩ := h; rfl) | (obtain ⟨_, _, _, _, _, _, _, _, _, _, _, _, rfl, _⟩ := h; rfl) | (obtain ⟨_, _, _, _, _, _, _, _, _, _, _, _, _, rfl, _⟩ := h; rfl) | (obtain ⟨_, _, _, _, _, _, _, _, _, _, _, _, _, _, rfl, _⟩ := h; rfl) | (obtain ⟨_, _, _, _, _, _, _, _, _, _, _, _, _, _, _, rfl, _⟩ := h; rfl) | (obtain ⟨_, _, _, _, _, _, _, _, _, _, _, _, _, _, _, _, rfl, _⟩ := h; rfl) | (obtain ⟨_, _, _, _, _, _, _, _, _, _, _, _, _, _, _, _, _, rfl, _⟩ := h; rfl) | (obtain ⟨_, _, _, _, _, _, _, _, _, _, _, _, _, _, _, _, _, _, rfl, _⟩ := h; rfl) | (obtain ⟨_, _, _, _, _, _, _, _, _, _, _, _, _, _, _, _, _, _, _, rfl, _⟩ := h; rfl) | (obtain ⟨_, _, _, _, _, _, _, _, _, _, _, _, _, _, _, _, _, _, _, _, rfl, _⟩ := h; rfl) | (obtain ⟨_, _, _, _, _, _, _, _, _, _, _, _, _, _, _, _, _, _, _, _, _, rfl, _⟩ := h; rfl) | (obtain ⟨_, _, _, _, _, _, _, _, _, _, _, _, _, _, _, _, _, _, _, _, _, _, rfl, _⟩ := h; rfl) | (obtain ⟨_, _, _, _, _, _, _, _, _, _, _, _, _, _, _, _, _, _, _, _, _, _, _, rfl, _⟩ := h; rfl)
  · obtain ⟨x, ns, u, y, z, b, rfl, ⟨de, r, t, he, hr, ht⟩, q⟩ := h
    refine ⟨_, (pss_one (ps_ret (pe_callB (cr_anyT rfl) (by rfl) T.b_any (by decide +kernel) (pa_cons (pe_fld (pv 0) (by rfl)) pa_nil)))), ?_⟩
    exact ⟨_, rfl, x, C_Element, de, _, .ref t, rfl, he, T.cl_Element, T.na_Element_entries, lkE, t, [u, y, z], rfl, SqT.of ht, q⟩
end
end K13
namespace K13
open PySem PySem.Spec PyProof.Rows L2 Fr
theorem pow2 (e : Int) : e ^ (2 : Int).toNat = e * e := by
  show e ^ 2 = _
  rw [Int.pow_succ, Int.pow_succ, Int.pow_zero, Int.one_mul]
theorem pow3 (e : Int) : e ^ (3 : Int).toNat = e * e * e := by
  show e ^ 3 = _
  rw [Int.pow_succ, Int.pow_succ, Int.pow_succ, Int.pow_zero, Int.one_mul]
theorem cpow {e : Int} {k : Int} (h0 : 0 < e) (h1 : e < 2 ^ 900) (hk : 0 ≤ k ∧ k ≤ 3) : CPowC e k := by
  refine ⟨hk.1, ?_⟩
  have : Builtin.Int.intBits e ≤ 900 := intBits_le_iff.mpr (by
    have : ((e.natAbs : Nat) : Int) < ((2 ^ 900 : Nat) : Int) := by
      rw [Int.natAbs_of_nonneg (by omega)]
      exact_mod_cast h1
    exact Int.ofNat_lt.mp this)
  have h3 : (Builtin.Int.intBits e : Int) * k ≤ 900 * 3 := Int.mul_le_mul (by omega) hk.2 hk.1 (by decide)
  omega
theorem cube_lt {e : Int} (h0 : 0 < e) (h1 : e < 2 ^ 900) : e * e * e < 2 ^ 3000 := by
  have a1 : e * e ≤ 2 ^ 900 * 2 ^ 900 := Int.mul_le_mul (by omega) (by omega) (by omega) (by decide)
  have a2 : e * e * e ≤ (2 ^ 900 * 2 ^ 900) * 2 ^ 900 := Int.mul_le_mul a1 (by omega) (by omega) (by decide)
  exact Int.lt_of_le_of_lt a2 (by decide)
theorem sq_lt {e : Int} (h0 : 0 < e) (h1 : e < 2 ^ 900) : e * e < 2 ^ 3000 := by
  have a1 : e * e ≤ 2 ^ 900 * 2 ^ 900 := Int.mul_le_mul (by omega) (by omega) (by omega) (by decide)
  exact Int.lt_of_le_of_lt a1 (by decide)
theorem low1 {u y z u' y' z' b' : Int} (h : Low u y z 1 u' y' z' b') : u' = u ∧ y' = y ∧ z' = z ∧ b' = 1 := by
  obtain ⟨g, h1, h2, h3, h4, h5, _⟩ := h
  have g0 : 0 < g := by
    rcases Int.lt_or_le 0 g with k | k
    · exact k
    · have := Int.mul_nonneg (show 0 ≤ -g by omega) (show 0 ≤ b' by omega)
      rw [Int.neg_mul] at this
      omega
  have g1 : g = 1 := by
    rcases Int.lt_or_le 1 g with k | k
    · have := Int.mul_le_mul_of_nonneg_left (show 1 ≤ b' by omega) (show 0 ≤ g by omega)
      omega
    · omega
  subst g1
  omega
theorem tq_made {K : PySem.W.Frag} {H : Hp} {x dx t : Addr} {o1 o2 : HO} {ns : List Int} (nx : H x = none) (ndx : H dx = none) (h : Tq K H t ns) : Tq K (upd (upd H dx o1) x o2) t ns := by
  rcases h with h | h
  · left
    rcases h with h | ⟨o, h⟩
    · left
      rw [upd_ne (ne_of_none h nx), upd_ne (ne_of_none h ndx)]
      exact h
    · right
      refine ⟨o, ?_⟩
      rw [upd_ne (ne_of_none h nx), upd_ne (ne_of_none h ndx)]
      exact h
  · exact .inr h
section
variable {P : Program} {w : World} {K : PySem.W.Frag} {mg : Str → Option Value} {base : Heap} {C_Form C_Ring C_Element : Addr}
theorem ok_Element_norm (T : Txt K mg C_Form C_Ring C_Element) : MDef (fun p f => PropOf K C_Element "norm" p f) P w K mg base 4 ["self"] (sp_Element_norm K C_Form C_Ring C_Element) := by
  obtain ⟨p_, f_, fd_, R_, F_⟩ := T.e_Element_norm
  obtain ⟨f_fraction, fd_fraction, g_fraction, k_fraction, b_fraction, G_fraction⟩ := (ok_fraction (P := P) (w := w) (base := base) T)
  obtain ⟨f_polynomial_by, fd_polynomial_by, g_polynomial_by, k_polynomial_by, b_polynomial_by, G_polynomial_by⟩ := (ok_polynomial_by (P := P) (w := w) (base := base) T)
  obtain ⟨f_table_for, fd_table_for, g_table_for, k_table_for, b_table_for, G_table_for⟩ := (ok_table_for (P := P) (w := w) (base := base) T)
  refine ⟨p_, f_, fd_, R_, F_.binds (ps := ["self"]) (fun _ _ _ _ _ _ us hl => match us, hl with | [_], _ => rfl), ?_⟩
  refine F_.ok sc_Element_norm (fun vs H Q E h => ?_) (fun cdv A outer s H vs Q E hr h => ?_)
  · first | (obtain ⟨rfl, _⟩ := h; rfl) | (obtain ⟨_, rfl, _⟩ := h; rfl) | (obtain ⟨_, _, rfl, _⟩ := h; rfl) | (obtain ⟨_, _, _, rfl, _⟩ := h; rfl) | (obtain ⟨_, _, _, _, rfl, _⟩ := h; rfl) | (obtain ⟨_, _, _, _, _, rfl, _⟩ := h; rfl) | (obtain ⟨_, _, _, _, _, _, rfl, _⟩ := h; rfl) | (obtain ⟨_, _, _, _, _, _, _, rfl, _⟩ := h; rfl) | (obtain ⟨_, _, _, _, _, _, _, _, rfl, _⟩ := h; rfl) | (obtain ⟨_, _, _, _, _, _, _, _, _, rfl, _⟩ := h; rfl) | (obtain ⟨_, _, _, _, _, _, _, _, _, _, rfl, _⟩ := h; rfl) | (obtain ⟨_, _, _, _, _, _, _, _, _, _, _, rfl, _⟩ := h; rfl) | (obtain ⟨_, _, _, _, _, _, _, _, _, _, _, _, rfl, _⟩ := h; rfl) | (obtain ⟨_, _, _, _, _, _, _, _, _, _, _, _, _, rfl, _⟩ := h; rfl) | (obtain ⟨_, _, _, _, _, _, _, _, _, _, _, _, _, _, rfl, _⟩ := h; rfl) | (obtain ⟨_, _, _, _, _, _, _, _, _, _, _, _, _, _, _, rfl, _⟩ := h; rfl) | (obtain ⟨_, _, _, _, _, _, _, _, _, _, _, _, _, _, _, _, rfl, _⟩ := h; rfl) | (obtain ⟨_, _, _, _, _, _, _, _, _, _, _, _, _, _, _, _, _, rfl, _⟩ := h; rfl) | (obtain ⟨_, _, _, _, _, _, _, _, _, _, _, _, _, _, _, _, _, _, rfl, _⟩ := h; rfl) | (obtain ⟨_, _, _, _, _, _, _, _, _, _, _, _, _, _, _, _, _, _, _, rfl, _⟩ := h; rfl) | (obtain ⟨_, _, _, _, _, _, _, _, _, _, _, _, _, _, _, _, _, _, _, _, rfl, _⟩ := h; rfl) | (obtain ⟨_, _, _, _, _, _, _, _, _, _, _, _, _, _, _, _, _, _, _, _, _, rfl, _⟩ := h; rfl) | (obtain ⟨_, _, _, _, _, _, _, _, _, _, _, _, _, _, _, _, _, _, _, _, _, _, rfl, _⟩ := h; rfl) | (obtain ⟨_, _, _, _, _, _, _, _, _, _, _, _, _, _, _, _, _, _, _, _, _, _, _, rfl, _⟩ := h; rfl)
  · obtain ⟨x, a, b, c, d, u, y, z, e, rfl, ⟨dx, r, t, hx, hR, ht⟩, bz, bu, e0, e1, q⟩ := h
    obtain ⟨v1, v2, v3⟩ := w_B bz
    refine ⟨_, (pss_cons (ps_asg (pe_call G_polynomial_by (hr.mono (by decide)) (by rfl) g_polynomial_by k_polynomial_by b_polynomial_by .nil pass0 (pa_cons (pe_call G_table_for (hr.mono (by decide)) (by rfl) g_table_for k_table_for b_table_for .nil pass0 (pa_cons (pe_fld (pv 0) (by rfl)) pa_nil)) (pa_cons (pe_fld (pv 0) (by rfl)) pa_nil))) (pg_tup (by rfl) (pgs_cons (pg_name (i := 1) sc_Element_norm.nd rfl (.inl rfl)) (pgs_cons (pg_name (i := 2) sc_Element_norm.nd rfl (.inl rfl)) (pgs_cons (pg_name (i := 3) sc_Element_norm.nd rfl (.inl rfl)) pgs_nil)))))
    (pss_one (ps_ret (pe_call G_fraction (hr.mono (by decide)) (by rfl) g_fraction k_fraction b_fraction .nil pass0 (pa_cons (pe_un un_neg (pv 3)) (pa_cons (pe_op op_powC (pe_fld (pv 0) (by rfl)) pe_int) pa_nil)))))), ?_⟩
    refine ⟨_, rfl, x, C_Element, dx, _, .ref r, rfl, hx, T.cl_Element, T.na_Element_ring, lkR, r, a, b, c, d, rfl, hR, bz, fun T1 H1 e1' hT => ?_⟩
    refine ⟨_, rfl, x, C_Element, dx, _, .ref t, rfl, e1'.ap hx, T.cl_Element, T.na_Element_entries, lkE, T1, t, _, _, _, _, _, _, _, _, _, u, y, z, rfl, hT, (Ex0.ti e1' ht).q, v1, v2, v3, bu, fun o H2 e2 ho => ?_⟩
    refine unq3 ho.q ?_
    refine ⟨_, rfl, _, rfl, ?_⟩
    refine ⟨_, rfl, x, C_Element, dx, _, .int e, rfl, Ex0.ap (Fx.trans e1' e2) hx, T.cl_Element, T.na_Element_bottom, lkB, ?_⟩
    refine ⟨_, _, rfl, rfl, cpow e0 e1 (by decide), ?_⟩
    refine ⟨_, _, rfl, ?_, ?_, fun o H3 p q' g g0 h1 h2 h3 e3 ho => ?_⟩
    · rw [pow3]
      exact Int.mul_pos (Int.mul_pos e0 e0) e0
    · rw [pow3]
      exact cube_lt e0 e1
    · refine q o H3 p q' ⟨g, g0, ?_, ?_, h3⟩ ((e1'.trans e2).trans e3) ho
      · rw [← h1]
        show qC a b c d u y z = -(-(qC a b c d u y z))
        rw [Int.neg_neg]
      · rw [← h2, pow3]
theorem ok_Ring_one (T : Txt K mg C_Form C_Ring C_Element) : MDef (fun p f => Meth K C_Ring "one" f) P w K mg base 4 ["self"] (sp_Ring_one K C_Form C_Ring C_Element) := by
  obtain ⟨p_, f_, fd_, R_, F_⟩ := T.e_Ring_one
  obtain ⟨p_Element___init__, f_Element___init__, fd_Element___init__, R_Element___init__, b_Element___init__, G_Element___init__⟩ := (ok_Element___init__ (P := P) (w := w) (base := base) T)
  refine ⟨p_, f_, fd_, R_, F_.binds (ps := ["self"]) (fun _ _ _ _ _ _ us hl => match us, hl with | [_], _ => rfl), ?_⟩
  refine F_.ok sc_Ring_one (fun vs H Q E h => ?_) (fun cdv A outer s H vs Q E hr h => ?_)
  · first | (obtain ⟨rfl, _⟩ := h; rfl) | (obtain ⟨_, rfl, _⟩ := h; rfl) | (obtain ⟨_, _, rfl, _⟩ := h; rfl) | (obtain ⟨_, _, _, rfl, _⟩ := h; rfl) | (obtain ⟨_, _, _, _, rfl, _⟩ := h; rfl) | (obtain ⟨_, _, _, _, _, rfl, _⟩ := h; rfl) | (obtain ⟨_, _, _, _, _, _, rfl, _⟩ := h; rfl) | (obtain ⟨_, _, _, _, _, _, _, rfl, _⟩ := h; rfl) | (obtain ⟨_, _, _, _, _, _, _, _, rfl, _⟩ := h; rfl) | (obtain ⟨_, _, _, _, _, _, _, _, _, rfl, _⟩ := h; rfl) | (obtain ⟨_, _, _, _, _, _, _, _, _, _, rfl, _⟩ := h; rfl) | (obtain ⟨_, _, _, _, _, _, _, _, _, _, _, rfl, _⟩ := h; rfl) | (obtain ⟨_, _, _, _, _, _, _, _, _, _, _, _, rfl, _⟩ := h; rfl) | (obtain ⟨_, _, _, _, _, _, _, _, _, _, _, _, _, rfl, _⟩ := h; rfl) | (obtain ⟨_, _, _, _, _, _, _, _, _, _, _, _, _, _, rfl, _⟩ := h; rfl) | (obtain ⟨_, _, _, _, _, _, _, _, _, _, _, _, _, _, _, rfl, _⟩ := h; rfl) | (obtain ⟨_, _, _, _, _, _, _, _, _, _, _, _, _, _, _, _, rfl, _⟩ := h; rfl) | (obtain ⟨_, _, _, _, _, _, _, _, _, _, _, _, _, _, _, _, _, rfl, _⟩ := h; rfl) | (obtain ⟨_, _, _, _, _, _, _, _, _, _, _, _, _, _, _, _, _, _, rfl, _⟩ := h; rfl) | (obtain ⟨_, _, _, _, _, _, _, _, _, _, _, _, _, _, _, _, _, _, _, rfl, _⟩ := h; rfl) | (obtain ⟨_, _, _, _, _, _, _, _, _, _, _, _, _, _, _, _, _, _, _, _, rfl, _⟩ := h; rfl) | (obtain ⟨_, _, _, _, _, _, _, _, _, _, _, _, _, _, _, _, _, _, _, _, _, rfl, _⟩ := h; rfl) | (obtain ⟨_, _, _, _, _, _, _, _, _, _, _, _, _, _, _, _, _, _, _, _, _, _, rfl, _⟩ := h; rfl) | (obtain ⟨_, _, _, _, _, _, _, _, _, _, _, _, _, _, _, _, _, _, _, _, _, _, _, rfl, _⟩ := h; rfl)
  · obtain ⟨r, ns, rfl, hR, q⟩ := h
    obtain ⟨A_UNITS, h_UNITS, i_UNITS⟩ := T.k_UNITS
    refine ⟨_, (pss_one (ps_ret (pe_make R_Element___init__ G_Element___init__ (hr.mono (by decide)) (by rfl) T.g_Element b_Element___init__ .nil pass0 (pa_cons (pv 0) (pa_cons (pe_ix ix_tup (pe_glob (v := .ref A_UNITS) (by rfl) h_UNITS rfl) pe_int (fun _ _ => rfl)) (pa_cons pe_int pa_nil)))))), ?_⟩
    obtain ⟨U1, U2, U3, hU, k1, k2, k3⟩ := i_UNITS H
    refine ⟨_, rfl, A_UNITS, _, 0, .ref U1, rfl, rfl, hU, rfl, fun x dx nx ndx _ => ?_⟩
    refine ⟨x, dx, r, U1, 1, 0, 0, 1, rfl, upd_same, tq_made nx ndx k1, by decide, ⟨by decide, by decide⟩, fun H2 t' u' y' z' b' low e2 nt e3 ht' => ⟨rfl, ?_⟩⟩
    obtain ⟨rfl, rfl, rfl, rfl⟩ := low1 low
    obtain ⟨f1, f2⟩ := el_made (t := U1) nx ndx hR e2 e3 ht'
    exact q x H2 f1 f2
theorem ok_mixed (T : Txt K mg C_Form C_Ring C_Element) : Def P w K mg base 4 "mixed" ["first", "second", "sign"] (sp_mixed K C_Form C_Ring C_Element) := by
  obtain ⟨f_, fd_, g_, F_⟩ := T.d_mixed
  obtain ⟨p_Element___init__, f_Element___init__, fd_Element___init__, R_Element___init__, b_Element___init__, G_Element___init__⟩ := (ok_Element___init__ (P := P) (w := w) (base := base) T)
  obtain ⟨p_Element_bottom, f_Element_bottom, fd_Element_bottom, R_Element_bottom, b_Element_bottom, G_Element_bottom⟩ := (ok_Element_bottom (P := P) (w := w) (base := base) T)
  obtain ⟨p_Element_entries, f_Element_entries, fd_Element_entries, R_Element_entries, b_Element_entries, G_Element_entries⟩ := (ok_Element_entries (P := P) (w := w) (base := base) T)
  obtain ⟨p_Element_ring, f_Element_ring, fd_Element_ring, R_Element_ring, b_Element_ring, G_Element_ring⟩ := (ok_Element_ring (P := P) (w := w) (base := base) T)
  refine ⟨f_, fd_, g_, F_.kp, F_.binds (ps := ["first", "second", "sign"]) (fun _ _ _ _ _ _ us hl => match us, hl with | [_, _, _], _ => rfl), ?_⟩
  refine F_.ok sc_mixed (fun vs H Q E h => ?_) (fun cdv A outer s H vs Q E hr h => ?_)
  · first | (obtain ⟨rfl, _⟩ := h; rfl) | (obtain ⟨_, rfl, _⟩ := h; rfl) | (obtain ⟨_, _, rfl, _⟩ := h; rfl) | (obtain ⟨_, _, _, rfl, _⟩ := h; rfl) | (obtain ⟨_, _, _, _, rfl, _⟩ := h; rfl) | (obtain ⟨_, _, _, _, _, rfl, _⟩ := h; rfl) | (obtain ⟨_, _, _, _, _, _, rfl, _⟩ := h; rfl) | (obtain ⟨_, _, _, _, _, _, _, rfl, _⟩ := h; rfl) | (obtain ⟨_, _, _, _, _, _, _, _, rfl, _⟩ := h; rfl) | (obtain ⟨_, _, _, _, _, _, _, _, _, rfl, _⟩ := h; rfl) | (obtain ⟨_, _, _, _, _, _, _, _, _, _, rfl, _⟩ := h; rfl) | (obtain ⟨_, _, _, _, _, _, _, _, _, _, _, rfl, _⟩ := h; rfl) | (obtain ⟨_, _, _, _, _, _, _, _, _, _, _, _, rfl, _⟩ := h; rfl) | (obtain ⟨_, _, _, _, _, _, _, _, _, _, _, _, _, rfl, _⟩ := h; rfl) | (obtain ⟨_, _, _, _, _, _, _, _, _, _, _, _, _, _, rfl, _⟩ := h; rfl) | (obtain ⟨_, _, _, _, _, _, _, _, _, _, _, _, _, _, _, rfl, _⟩ := h; rfl) | (obtain ⟨_, _, _, _, _, _, _, _, _, _, _, _, _, _, _, _, rfl, _⟩ := h; rfl) | (obtain ⟨_, _, _, _, _, _, _, _, _, _, _, _, _, _, _, _, _, rfl, _⟩ := h; rfl) | (obtain ⟨_, _, _, _, _, _, _, _, _, _, _, _, _, _, _, _, _, _, rfl, _⟩ := h; rfl) | (obtain ⟨_, _, _, _, _, _, _, _, _, _, _, _, _, _, _, _, _, _, _, rfl, _⟩ := h; rfl) | (obtain ⟨_, _, _, _, _, _, _, _, _, _, _, _, _, _, _, _, _, _, _, _, rfl, _⟩ := h; rfl) | (obtain ⟨_, _, _, _, _, _, _, _, _, _, _, _, _, _, _, _, _, _, _, _, _, rfl, _⟩ := h; rfl) | (obtain ⟨_, _, _, _, _, _, _, _, _, _, _, _, _, _, _, _, _, _, _, _, _, _, rfl, _⟩ := h; rfl) | (obtain ⟨_, _, _, _, _, _, _, _, _, _, _, _, _, _, _, _, _, _, _, _, _, _, _, rfl, _⟩ := h; rfl)
  · obtain ⟨x, x', ns, ms, u, y, z, e, v, s', r, f, n, rfl, h1, h2, bu, bv, be, bf, hne, hn, q⟩ := h
    obtain ⟨d1, r1, t1, g1, g2, g3⟩ := id h1
    obtain ⟨d2, r2, t2, k1, k2, k3⟩ := id h2
    refine ⟨_, (pss_cons (ps_asg (pe_tup (pa_cons (pe_op op_mulW (pv 2) (pe_prop (pv 0) T.cl_Element R_Element_bottom G_Element_bottom (hr.mono (by decide)) b_Element_bottom .nil pass0 (by rfl))) (pa_cons (pe_prop (pv 1) T.cl_Element R_Element_bottom G_Element_bottom (hr.mono (by decide)) b_Element_bottom .nil pass0 (by rfl)) pa_nil))) (pg_tup (by rfl) (pgs_cons (pg_name (i := 3) sc_mixed.nd rfl (.inr rfl)) (pgs_cons (pg_name (i := 4) sc_mixed.nd rfl (.inr rfl)) pgs_nil))))
    (pss_cons (ps_set (i := 5) sc_mixed.nd rfl (.inl rfl) (pe_callTy call_tuple_of (by rfl) T.b_tuple (by decide +kernel) (pa_cons (pe_lc (own := [("one", 6), ("other", 7)]) (g := (gTup K 2 (gCons (gName 6) (gCons (gName 7) gNil)))) rfl sc_mixed.nd (RZ.pi_zipA (by rfl) T.b_zip (pa_cons (pe_prop (pv 0) T.cl_Element R_Element_entries G_Element_entries (hr.mono (by decide)) b_Element_entries .nil pass0 (by rfl)) (pa_cons (pe_prop (pv 1) T.cl_Element R_Element_entries G_Element_entries (hr.mono (by decide)) b_Element_entries .nil pass0 (by rfl)) pa_nil))) (blkOk_by (N := N_mixed) (sc := defScope s_mixed) (by decide +kernel)) (fun _ _ _ _ _ => (pg_tup (by rfl) (pgs_cons (pg_name (i := 6) sc_mixed.nd rfl (.inl rfl)) (pgs_cons (pg_name (i := 7) sc_mixed.nd rfl (.inl rfl)) pgs_nil)))) (fun _ _ _ _ _ => pts_nil) (fun _ _ _ _ _ => (pe_op op_add (pe_op op_mulW (pv 6) (pv 4)) (pe_op op_mulW (pv 7) (pv 3))))) pa_nil)))
    (pss_one (ps_ret (pe_make R_Element___init__ G_Element___init__ (hr.mono (by decide)) (by rfl) T.g_Element b_Element___init__ .nil pass0 (pa_cons (pe_prop (pv 0) T.cl_Element R_Element_ring G_Element_ring (hr.mono (by decide)) b_Element_ring .nil pass0 (by rfl)) (pa_cons (pv 5) (pa_cons (pe_op op_mulW (pe_prop (pv 0) T.cl_Element R_Element_bottom G_Element_bottom (hr.mono (by decide)) b_Element_bottom .nil pass0 (by rfl)) (pe_prop (pv 1) T.cl_Element R_Element_bottom G_Element_bottom (hr.mono (by decide)) b_Element_bottom .nil pass0 (by rfl))) pa_nil)))))))), ?_⟩
    have bn : B 2 n := by rcases hn with rfl | rfl <;> exact ⟨by decide, by decide⟩
    refine ⟨_, rfl, _, rfl, x, d1, _, rfl, g1, x, ns, u, y, z, e, rfl, h1, _, _, rfl, rfl, mulB bn be (by decide), ?_⟩
    refine ⟨_, rfl, x', d2, _, rfl, k1, x', ms, v, s', r, f, rfl, h2, sl2, fun p np => ?_⟩
    have e0 : Ex0 H (upd H p (.tup [.int (n * e), .int f])) := Ex0.new np
    refine ⟨p, _, rfl, SqT.of upd_same, rfl, _, _, rfl, _, _, rfl, rfl, ?_⟩
    have h1' := Ex0.el e0 h1
    have h2' := Ex0.el e0 h2
    have g1' := Ex0.ap e0 g1
    have k1' := Ex0.ap e0 k1
    generalize upd H p (.tup [.int (n * e), .int f]) = H1 at e0 h1' h2' g1' k1' ⊢
    refine ⟨_, rfl, x, d1, _, rfl, g1', x, ns, u, y, z, e, rfl, h1', fun t ht => ?_⟩
    refine ⟨_, rfl, x', d2, _, rfl, k1', x', ms, v, s', r, f, rfl, h2', fun t' ht' => ⟨t, t', _, _, rfl, .inr ⟨SqT.of ht, SqT.of ht', ?_⟩⟩⟩
    refine lcP (walk_zipT (K := K) (xs := ([u, y, z] : List Int).map V.int) (ys := ([v, s', r] : List Int).map V.int) rfl) fm0 trivial (fun H' e => ⟨SqT.of (Ex0.ti e ht), SqT.of (Ex0.ti e ht')⟩) (fun i acc _ => acc = (([u * f + v * (n * e), y * f + s' * (n * e), z * f + r * (n * e)] : List Int).take i).map V.int) (fun _ _ => rfl) (fun D i T x1 y1 acc H' hD hi fx fy e3 hA hlen hp hT => ?_) (fun D H' acc hD e3 hA hp => ?_)
    · obtain ⟨k, hk, rfl⟩ := get_int fx
      obtain ⟨l, hl, rfl⟩ := get_int fy
      have hi3 : i < 3 := hi
      have bk : B 9000 k := by
        match i, hk with
        | 0, hk => rw [← Option.some.inj hk]; exact bu.1
        | 1, hk => rw [← Option.some.inj hk]; exact bu.2.1
        | 2, hk => rw [← Option.some.inj hk]; exact bu.2.2
      have bl : B 9000 l := by
        match i, hl with
        | 0, hk => rw [← Option.some.inj hk]; exact bv.1
        | 1, hk => rw [← Option.some.inj hk]; exact bv.2.1
        | 2, hk => rw [← Option.some.inj hk]; exact bv.2.2
      refine ⟨T, _, rfl, SqT.of upd_same, rfl, _, _, rfl, _, _, rfl, rfl, ⟨rfl, ?_⟩⟩
      refine ⟨_, rfl, _, rfl, _, _, rfl, rfl, mulB bk bf (by decide), _, rfl, _, rfl, _, _, rfl, rfl, mulB bl (B.mul bn be) (by decide), _, _, rfl, rfl, ?_⟩
      refine cs_yes fm0 trivial hD e3 hA hlen (by omega) (Ex0.new hT) ?_
      show acc ++ [V.int (k * f + l * (n * e))] = _
      rw [hp]
      match i, hk, hl with
      | 0, hk, hl => rw [← Option.some.inj hk, ← Option.some.inj hl]; rfl
      | 1, hk, hl => rw [← Option.some.inj hk, ← Option.some.inj hl]; rfl
      | 2, hk, hl => rw [← Option.some.inj hk, ← Option.some.inj hl]; rfl
    · refine ⟨D, _, rfl, .inl ⟨SqL.of hA, fun p2 np2 => ?_⟩⟩
      have hp' : acc = [.int (u * f + v * (n * e)), .int (y * f + s' * (n * e)), .int (z * f + r * (n * e))] := hp
      subst hp'
      have e4 : Ex0 H1 (upd H' p2 (.tup [.int (u * f + v * (n * e)), .int (y * f + s' * (n * e)), .int (z * f + r * (n * e))])) := Fx.trans e3 (Ex0.new np2)
      have hT : Ti (upd H' p2 (.tup [.int (u * f + v * (n * e)), .int (y * f + s' * (n * e)), .int (z * f + r * (n * e))])) p2 [u * f + v * (n * e), y * f + s' * (n * e), z * f + r * (n * e)] := upd_same
      have g2' := Ex0.ap e4 g1'
      have k2' := Ex0.ap e4 k1'
      have h3 := Ex0.el e4 h1'
      have h4 := Ex0.el e4 h2'
      have e5 := e0.trans e4
      generalize upd H' p2 (.tup [.int (u * f + v * (n * e)), .int (y * f + s' * (n * e)), .int (z * f + r * (n * e))]) = H2 at hT g2' k2' h3 h4 e5 ⊢
      refine ⟨_, rfl, x, d1, _, rfl, g2', x, ns, u, y, z, e, rfl, h3, fun R hR => ⟨_, rfl, ?_⟩⟩
      refine ⟨_, rfl, x, d1, _, rfl, g2', x, ns, u, y, z, e, rfl, h3, ?_⟩
      refine ⟨_, rfl, x', d2, _, rfl, k2', x', ms, v, s', r, f, rfl, h4, _, _, rfl, rfl, mulB be bf (by decide), fun y0 dy nx ndx _ => ?_⟩
      refine ⟨y0, dy, R, p2, _, _, _, e * f, rfl, upd_same, SqT.of (made_at nx ndx hT), hne, (B.mul be bf).mono (by decide), fun H3 t3 u' y' z' b' low e6 nt e7 ht3 => ⟨rfl, ?_⟩⟩
      obtain ⟨f1, f2⟩ := el_made (t := p2) nx ndx hR e6 e7 ht3
      exact q y0 H3 u' y' z' b' low (e5.trans f1) f2
theorem ok_Element_scaled (T : Txt K mg C_Form C_Ring C_Element) : MDefD (fun p f => Meth K C_Element "scaled" f) P w K mg base 5 ["self", "top", "bottom"] [.int 1] (sp_Element_scaled K C_Form C_Ring C_Element) := by
  obtain ⟨p_, f_, fd_, R_, F_⟩ := T.e_Element_scaled
  obtain ⟨p_Element___init__, f_Element___init__, fd_Element___init__, R_Element___init__, b_Element___init__, G_Element___init__⟩ := (ok_Element___init__ (P := P) (w := w) (base := base) T)
  obtain ⟨f_check_bottom, fd_check_bottom, g_check_bottom, k_check_bottom, b_check_bottom, G_check_bottom⟩ := (ok_check_bottom (P := P) (w := w) (base := base) T)
  obtain ⟨f_check_integer, fd_check_integer, g_check_integer, k_check_integer, b_check_integer, G_check_integer⟩ := (ok_check_integer (P := P) (w := w) (base := base) T)
  obtain ⟨ds_, v_, d_⟩ := F_.binds1 (ps := ["self", "top", "bottom"]) 2 0 (by simp) (by rfl) (fun _ _ _ _ _ _ _ us its l1 l2 => match us, its, l1, l2 with | [_, _], [_], _, _ => ⟨_, rfl, rfl⟩)
  obtain ⟨dz_, w_, b_⟩ := F_.binds1 (ps := ["self", "top", "bottom"]) 3 1 (by simp) (by rfl) (fun _ _ _ _ _ _ _ us its l1 l2 => match us, its, l1, l2 with | [_, _, _], [_], _, _ => ⟨_, rfl, rfl⟩)
  cases w_
  refine ⟨p_, f_, fd_, ds_, R_, b_, v_, d_, ?_⟩
  refine FunD.ok F_ sc_Element_scaled (fun vs H Q E h => ?_) (fun cdv A outer s H vs Q E hr h => ?_)
  · first | (obtain ⟨rfl, _⟩ := h; rfl) | (obtain ⟨_, rfl, _⟩ := h; rfl) | (obtain ⟨_, _, rfl, _⟩ := h; rfl) | (obtain ⟨_, _, _, rfl, _⟩ := h; rfl) | (obtain ⟨_, _, _, _, rfl, _⟩ := h; rfl) | (obtain ⟨_, _, _, _, _, rfl, _⟩ := h; rfl) | (obtain ⟨_, _, _, _, _, _, rfl, _⟩ := h; rfl) | (obtain ⟨_, _, _, _, _, _, _, rfl, _⟩ := h; rfl) | (obtain ⟨_, _, _, _, _, _, _, _, rfl, _⟩ := h; rfl) | (obtain ⟨_, _, _, _, _, _, _, _, _, rfl, _⟩ := h; rfl) | (obtain ⟨_, _, _, _, _, _, _, _, _, _, rfl, _⟩ := h; rfl) | (obtain ⟨_, _, _, _, _, _, _, _, _, _, _, rfl, _⟩ := h; rfl) | (obtain ⟨_, _, _, _, _, _, _, _, _, _, _, _, rfl, _⟩ := h; rfl) | (obtain ⟨_, _, _, _, _, _, _, _, _, _, _, _, _, rfl, _⟩ := h; rfl) | (obtain ⟨_, _, _, _, _, _, _, _, _, _, _, _, _, _, rfl, _⟩ := h; rfl) | (obtain ⟨_, _, _, _, _, _, _, _, _, _, _, _, _, _, _, rfl, _⟩ := h; rfl) | (obtain ⟨_, _, _, _, _, _, _, _, _, _, _, _, _, _, _, _, rfl, _⟩ := h; rfl) | (obtain ⟨_, _, _, _, _, _, _, _, _, _, _, _, _, _, _, _, _, rfl, _⟩ := h; rfl) | (obtain ⟨_, _, _, _, _, _, _, _, _, _, _, _, _, _, _, _, _, _, rfl, _⟩ := h; rfl) | (obtain ⟨_, _, _, _, _, _, _, _, _, _, _, _, _, _, _, _, _, _, _, rfl, _⟩ := h; rfl) | (obtain ⟨_, _, _, _, _, _, _, _, _, _, _, _, _, _, _, _, _, _, _, _, rfl, _⟩ := h; rfl) | (obtain ⟨_, _, _, _, _, _, _, _, _, _, _, _, _, _, _, _, _, _, _, _, _, rfl, _⟩ := h; rfl) | (obtain ⟨_, _, _, _, _, _, _, _, _, _, _, _, _, _, _, _, _, _, _, _, _, _, rfl, _⟩ := h; rfl) | (obtain ⟨_, _, _, _, _, _, _, _, _, _, _, _, _, _, _, _, _, _, _, _, _, _, _, rfl, _⟩ := h; rfl)
  · obtain ⟨x, ns, u, y, z, e, n, m, rfl, h1, bu, be, he, sn, sm, hm, q⟩ := h
    obtain ⟨d1, r1, t1, g1, g2, g3⟩ := id h1
    refine ⟨_, (pss_cons (ps_expr (pe_call G_check_integer (hr.mono (by decide)) (by rfl) g_check_integer k_check_integer b_check_integer .nil pass0 (pa_cons (pv 1) pa_nil)))
    (pss_cons (ps_expr (pe_call G_check_bottom (hr.mono (by decide)) (by rfl) g_check_bottom k_check_bottom b_check_bottom .nil pass0 (pa_cons (pv 2) pa_nil)))
    (pss_one (ps_ret (pe_make R_Element___init__ G_Element___init__ (hr.mono (by decide)) (by rfl) T.g_Element b_Element___init__ .nil pass0 (pa_cons (pe_fld (pv 0) (by rfl)) (pa_cons (pe_callTy call_tuple_of (by rfl) T.b_tuple (by decide +kernel) (pa_cons (pe_lc (own := [("number", 3)]) (g := (gName 3)) rfl sc_Element_scaled.nd (pi_tup (pe_fld (pv 0) (by rfl))) (blkOk_by (N := N_Element_scaled) (sc := defScope s_Element_scaled) (by decide +kernel)) (fun _ _ _ _ _ => (pg_name (i := 3) sc_Element_scaled.nd rfl (.inl rfl))) (fun _ _ _ _ _ => pts_nil) (fun _ _ _ _ _ => (pe_op op_mulW (pv 3) (pv 1)))) pa_nil)) (pa_cons (pe_op op_mulW (pe_fld (pv 0) (by rfl)) (pv 2)) pa_nil)))))))), ?_⟩
    refine ⟨_, rfl, n, rfl, sn, _, rfl, m, rfl, sm, hm, ?_⟩
    refine ⟨_, rfl, x, C_Element, d1, _, .ref r1, rfl, g1, T.cl_Element, T.na_Element_ring, lkR, ?_⟩
    refine ⟨_, rfl, x, C_Element, d1, _, .ref t1, rfl, g1, T.cl_Element, T.na_Element_entries, lkE, t1, rfl, ⟨_, SqT.of g3⟩, ?_⟩
    refine lcT fm0 trivial (SqT.of g3) (fun z => z) (fun i acc _ => acc = (([u * n, y * n, z * n] : List Int).take i).map V.int) (fun _ _ => rfl) (fun D i k acc H' hD hk e1 hA hlen hp => ?_) (fun D H' acc hD e1 hA hp => ?_)
    · obtain ⟨m', hm', rfl⟩ := get_int hk
      have hi : i < 3 := (List.getElem?_eq_some_iff.mp hm').1
      have bm : B 9000 m' := by
        match i, hm' with
        | 0, hk => rw [← Option.some.inj hk]; exact bu.1
        | 1, hk => rw [← Option.some.inj hk]; exact bu.2.1
        | 2, hk => rw [← Option.some.inj hk]; exact bu.2.2
      refine ⟨rfl, ?_⟩
      refine ⟨_, rfl, _, rfl, _, _, rfl, rfl, mulB bm sn.b (by decide), ?_⟩
      refine cs_yes fm0 trivial hD e1 hA hlen (by omega) (Fx.refl trivial) ?_
      show acc ++ [V.int (m' * n)] = _
      rw [hp]
      match i, hm' with
      | 0, hm => rw [← Option.some.inj hm]; rfl
      | 1, hm => rw [← Option.some.inj hm]; rfl
      | 2, hm => rw [← Option.some.inj hm]; rfl
    · refine ⟨D, _, rfl, .inl ⟨SqL.of hA, fun p np => ?_⟩⟩
      have hp' : acc = [.int (u * n), .int (y * n), .int (z * n)] := hp
      subst hp'
      have e2 : Ex0 H (upd H' p (.tup [.int (u * n), .int (y * n), .int (z * n)])) := Fx.trans e1 (Ex0.new np)
      refine ⟨_, rfl, x, C_Element, d1, _, .int e, rfl, Ex0.ap e2 g1, T.cl_Element, T.na_Element_bottom, lkB, _, rfl, _, _, rfl, rfl, mulB be sm.b (by decide), fun y0 dy nx ndx _ => ?_⟩
      refine ⟨y0, dy, r1, p, _, _, _, e * m, rfl, upd_same, SqT.of (made_at nx ndx upd_same), Int.mul_ne_zero he hm, (B.mul be sm.b).mono (by decide), fun H3 t' u' y' z' b' low e3 nt e4 ht' => ⟨rfl, ?_⟩⟩
      obtain ⟨f1, f2⟩ := el_made (t := p) nx ndx (Ex0.ri e2 g2) e3 e4 ht'
      exact q y0 H3 u' y' z' b' low (e2.trans f1) f2
theorem ok_Element___add__ (T : Txt K mg C_Form C_Ring C_Element) : MDef (fun p f => BinC K C_Element "__add__" f) P w K mg base 5 ["self", "other"] (sp_Element___add__ K C_Form C_Ring C_Element) := by
  obtain ⟨p_, f_, fd_, R_, F_⟩ := T.e_Element___add__
  obtain ⟨f_check_one_ring, fd_check_one_ring, g_check_one_ring, k_check_one_ring, b_check_one_ring, G_check_one_ring⟩ := (ok_check_one_ring (P := P) (w := w) (base := base) T)
  obtain ⟨f_mixed, fd_mixed, g_mixed, k_mixed, b_mixed, G_mixed⟩ := (ok_mixed (P := P) (w := w) (base := base) T)
  refine ⟨p_, f_, fd_, R_, F_.binds (ps := ["self", "other"]) (fun _ _ _ _ _ _ us hl => match us, hl with | [_, _], _ => rfl), ?_⟩
  refine F_.ok sc_Element___add__ (fun vs H Q E h => ?_) (fun cdv A outer s H vs Q E hr h => ?_)
  · first | (obtain ⟨rfl, _⟩ := h; rfl) | (obtain ⟨_, rfl, _⟩ := h; rfl) | (obtain ⟨_, _, rfl, _⟩ := h; rfl) | (obtain ⟨_, _, _, rfl, _⟩ := h; rfl) | (obtain ⟨_, _, _, _, rfl, _⟩ := h; rfl) | (obtain ⟨_, _, _, _, _, rfl, _⟩ := h; rfl) | (obtain ⟨_, _, _, _, _, _, rfl, _⟩ := h; rfl) | (obtain ⟨_, _, _, _, _, _, _, rfl, _⟩ := h; rfl) | (obtain ⟨_, _, _, _, _, _, _, _, rfl, _⟩ := h; rfl) | (obtain ⟨_, _, _, _, _, _, _, _, _, rfl, _⟩ := h; rfl) | (obtain ⟨_, _, _, _, _, _, _, _, _, _, rfl, _⟩ := h; rfl) | (obtain ⟨_, _, _, _, _, _, _, _, _, _, _, rfl, _⟩ := h; rfl) | (obtain ⟨_, _, _, _, _, _, _, _, _, _, _, _, rfl, _⟩ := h; rfl) | (obtain ⟨_, _, _, _, _, _, _, _, _, _, _, _, _, rfl, _⟩ := h; rfl) | (obtain ⟨_, _, _, _, _, _, _, _, _, _, _, _, _, _, rfl, _⟩ := h; rfl) | (obtain ⟨_, _, _, _, _, _, _, _, _, _, _, _, _, _, _, rfl, _⟩ := h; rfl) | (obtain ⟨_, _, _, _, _, _, _, _, _, _, _, _, _, _, _, _, rfl, _⟩ := h; rfl) | (obtain ⟨_, _, _, _, _, _, _, _, _, _, _, _, _, _, _, _, _, rfl, _⟩ := h; rfl) | (obtain ⟨_, _, _, _, _, _, _, _, _, _, _, _, _, _, _, _, _, _, rfl, _⟩ := h; rfl) | (obtain ⟨_, _, _, _, _, _, _, _, _, _, _, _, _, _, _, _, _, _, _, rfl, _⟩ := h; rfl) | (obtain ⟨_, _, _, _, _, _, _, _, _, _, _, _, _, _, _, _, _, _, _, _, rfl, _⟩ := h; rfl) | (obtain ⟨_, _, _, _, _, _, _, _, _, _, _, _, _, _, _, _, _, _, _, _, _, rfl, _⟩ := h; rfl) | (obtain ⟨_, _, _, _, _, _, _, _, _, _, _, _, _, _, _, _, _, _, _, _, _, _, rfl, _⟩ := h; rfl) | (obtain ⟨_, _, _, _, _, _, _, _, _, _, _, _, _, _, _, _, _, _, _, _, _, _, _, rfl, _⟩ := h; rfl)
  · obtain ⟨x, x', ns, u, y, z, e, v, s', r', f, rfl, h1, h2, bu, bv, be, bf, hne, q⟩ := h
    obtain ⟨dx, r, t, hx, hR, ht⟩ := id h1
    obtain ⟨dx2, r2, t2, hx2, hR2, ht2⟩ := id h2
    refine ⟨_, (pss_cons (ps_if (pt_not (pt_val (pe_callB call_isi (by rfl) T.b_isinstance (by decide +kernel) (pa_cons (pv 1) (pa_cons (pe_glob (v := .ref C_Element) (by rfl) T.g_Element rfl) pa_nil)))))
      (pss_one ps_never)
      pss_nil)
    (pss_cons (ps_expr (pe_call G_check_one_ring (hr.mono (by decide)) (by rfl) g_check_one_ring k_check_one_ring b_check_one_ring .nil pass0 (pa_cons (pv 0) (pa_cons (pv 1) pa_nil))))
    (pss_one (ps_ret (pe_call G_mixed (hr.mono (by decide)) (by rfl) g_mixed k_mixed b_mixed .nil pass0 (pa_cons (pv 0) (pa_cons (pv 1) (pa_cons pe_int pa_nil)))))))), ?_⟩
    refine ⟨_, rfl, _, _, _, _, true, rfl, .own _, ty_ins T.ty_Element T.cl_Element hx2, kit_self, _, rfl, ?_⟩
    refine iteF ⟨_, rfl, _, rfl, x, x', _, u, y, z, e, v, s', r', f, rfl, h1, h2, ?_⟩
    exact ⟨_, rfl, _, rfl, x, x', ns, ns, u, y, z, e, v, s', r', f, 1, rfl, h1, h2, bu, bv, be, bf, hne, .inl rfl, fun o H' u' y' z' b' low e1 ho => q o H' u' y' z' b' low e1 ho⟩
theorem ok_Ring_w (T : Txt K mg C_Form C_Ring C_Element) : MDef (fun p f => Meth K C_Ring "w" f) P w K mg base 4 ["self"] (sp_Ring_w K C_Form C_Ring C_Element) := by
  obtain ⟨p_, f_, fd_, R_, F_⟩ := T.e_Ring_w
  obtain ⟨p_Element___init__, f_Element___init__, fd_Element___init__, R_Element___init__, b_Element___init__, G_Element___init__⟩ := (ok_Element___init__ (P := P) (w := w) (base := base) T)
  refine ⟨p_, f_, fd_, R_, F_.binds (ps := ["self"]) (fun _ _ _ _ _ _ us hl => match us, hl with | [_], _ => rfl), ?_⟩
  refine F_.ok sc_Ring_w (fun vs H Q E h => ?_) (fun cdv A outer s H vs Q E hr h => ?_)
  · first | (obtain ⟨rfl, _⟩ := h; rfl) | (obtain ⟨_, rfl, _⟩ := h; rfl) | (obtain ⟨_, _, rfl, _⟩ := h; rfl) | (obtain ⟨_, _, _, rfl, _⟩ := h; rfl) | (obtain ⟨_, _, _, _, rfl, _⟩ := h; rfl) | (obtain ⟨_, _, _, _, _, rfl, _⟩ := h; rfl) | (obtain ⟨_, _, _, _, _, _, rfl, _⟩ := h; rfl) | (obtain ⟨_, _, _, _, _, _, _, rfl, _⟩ := h; rfl) | (obtain ⟨_, _, _, _, _, _, _, _, rfl, _⟩ := h; rfl) | (obtain ⟨_, _, _, _, _, _, _, _, _, rfl, _⟩ := h; rfl) | (obtain ⟨_, _, _, _, _, _, _, _, _, _, rfl, _⟩ := h; rfl) | (obtain ⟨_, _, _, _, _, _, _, _, _, _, _, rfl, _⟩ := h; rfl) | (obtain ⟨_, _, _, _, _, _, _, _, _, _, _, _, rfl, _⟩ := h; rfl) | (obtain ⟨_, _, _, _, _, _, _, _, _, _, _, _, _, rfl, _⟩ := h; rfl) | (obtain ⟨_, _, _, _, _, _, _, _, _, _, _, _, _, _, rfl, _⟩ := h; rfl) | (obtain ⟨_, _, _, _, _, _, _, _, _, _, _, _, _, _, _, rfl, _⟩ := h; rfl) | (obtain ⟨_, _, _, _, _, _, _, _, _, _, _, _, _, _, _, _, rfl, _⟩ := h; rfl) | (obtain ⟨_, _, _, _, _, _, _, _, _, _, _, _, _, _, _, _, _, rfl, _⟩ := h; rfl) | (obtain ⟨_, _, _, _, _, _, _, _, _, _, _, _, _, _, _, _, _, _, rfl, _⟩ := h; rfl) | (obtain ⟨_, _, _, _, _, _, _, _, _, _, _, _, _, _, _, _, _, _, _, rfl, _⟩ := h; rfl) | (obtain ⟨_, _, _, _, _, _, _, _, _, _, _, _, _, _, _, _, _, _, _, _, rfl, _⟩ := h; rfl) | (obtain ⟨_, _, _, _, _, _, _, _, _, _, _, _, _, _, _, _, _, _, _, _, _, rfl, _⟩ := h; rfl) | (obtain ⟨_, _, _, _, _, _, _, _, _, _, _, _, _, _, _, _, _, _, _, _, _, _, rfl, _⟩ := h; rfl) | (obtain ⟨_, _, _, _, _, _, _, _, _, _, _, _, _, _, _, _, _, _, _, _, _, _, _, rfl, _⟩ := h; rfl)
  · obtain ⟨r, ns, rfl, hR, q⟩ := h
    obtain ⟨A_UNITS, h_UNITS, i_UNITS⟩ := T.k_UNITS
    refine ⟨_, (pss_one (ps_ret (pe_make R_Element___init__ G_Element___init__ (hr.mono (by decide)) (by rfl) T.g_Element b_Element___init__ .nil pass0 (pa_cons (pv 0) (pa_cons (pe_ix ix_tup (pe_glob (v := .ref A_UNITS) (by rfl) h_UNITS rfl) pe_int (fun _ _ => rfl)) (pa_cons pe_int pa_nil)))))), ?_⟩
    obtain ⟨U1, U2, U3, hU, k1, k2, k3⟩ := i_UNITS H
    refine ⟨_, rfl, A_UNITS, _, 1, .ref U2, rfl, rfl, hU, rfl, fun x dx nx ndx _ => ?_⟩
    refine ⟨x, dx, r, U2, 0, 1, 0, 1, rfl, upd_same, tq_made nx ndx k2, by decide, ⟨by decide, by decide⟩, fun H2 t' u' y' z' b' low e2 nt e3 ht' => ⟨rfl, ?_⟩⟩
    obtain ⟨rfl, rfl, rfl, rfl⟩ := low1 low
    obtain ⟨f1, f2⟩ := el_made (t := U2) nx ndx hR e2 e3 ht'
    exact q x H2 f1 f2
theorem ok_Ring_t (T : Txt K mg C_Form C_Ring C_Element) : MDef (fun p f => Meth K C_Ring "t" f) P w K mg base 4 ["self"] (sp_Ring_t K C_Form C_Ring C_Element) := by
  obtain ⟨p_, f_, fd_, R_, F_⟩ := T.e_Ring_t
  obtain ⟨p_Element___init__, f_Element___init__, fd_Element___init__, R_Element___init__, b_Element___init__, G_Element___init__⟩ := (ok_Element___init__ (P := P) (w := w) (base := base) T)
  refine ⟨p_, f_, fd_, R_, F_.binds (ps := ["self"]) (fun _ _ _ _ _ _ us hl => match us, hl with | [_], _ => rfl), ?_⟩
  refine F_.ok sc_Ring_t (fun vs H Q E h => ?_) (fun cdv A outer s H vs Q E hr h => ?_)
  · first | (obtain ⟨rfl, _⟩ := h; rfl) | (obtain ⟨_, rfl, _⟩ := h; rfl) | (obtain ⟨_, _, rfl, _⟩ := h; rfl) | (obtain ⟨_, _, _, rfl, _⟩ := h; rfl) | (obtain ⟨_, _, _, _, rfl, _⟩ := h; rfl) | (obtain ⟨_, _, _, _, _, rfl, _⟩ := h; rfl) | (obtain ⟨_, _, _, _, _, _, rfl, _⟩ := h; rfl) | (obtain ⟨_, _, _, _, _, _, _, rfl, _⟩ := h; rfl) | (obtain ⟨_, _, _, _, _, _, _, _, rfl, _⟩ := h; rfl) | (obtain ⟨_, _, _, _, _, _, _, _, _, rfl, _⟩ := h; rfl) | (obtain ⟨_, _, _, _, _, _, _, _, _, _, rfl, _⟩ := h; rfl) | (obtain ⟨_, _, _, _, _, _, _, _, _, _, _, rfl, _⟩ := h; rfl) | (obtain ⟨_, _, _, _, _, _, _, _, _, _, _, _, rfl, _⟩ := h; rfl) | (obtain ⟨_, _, _, _, _, _, _, _, _, _, _, _, _, rfl, _⟩ := h; rfl) | (obtain ⟨_, _, _, _, _, _, _, _, _, _, _, _, _, _, rfl, _⟩ := h; rfl) | (obtain ⟨_, _, _, _, _, _, _, _, _, _, _, _, _, _, _, rfl, _⟩ := h; rfl) | (obtain ⟨_, _, _, _, _, _, _, _, _, _, _, _, _, _, _, _, rfl, _⟩ := h; rfl) | (obtain ⟨_, _, _, _, _, _, _, _, _, _, _, _, _, _, _, _, _, rfl, _⟩ := h; rfl) | (obtain ⟨_, _, _, _, _, _, _, _, _, _, _, _, _, _, _, _, _, _, rfl, _⟩ := h; rfl) | (obtain ⟨_, _, _, _, _, _, _, _, _, _, _, _, _, _, _, _, _, _, _, rfl, _⟩ := h; rfl) | (obtain ⟨_, _, _, _, _, _, _, _, _, _, _, _, _, _, _, _, _, _, _, _, rfl, _⟩ := h; rfl) | (obtain ⟨_, _, _, _, _, _, _, _, _, _, _, _, _, _, _, _, _, _, _, _, _, rfl, _⟩ := h; rfl) | (obtain ⟨_, _, _, _, _, _, _, _, _, _, _, _, _, _, _, _, _, _, _, _, _, _, rfl, _⟩ := h; rfl) | (obtain ⟨_, _, _, _, _, _, _, _, _, _, _, _, _, _, _, _, _, _, _, _, _, _, _, rfl, _⟩ := h; rfl)
  · obtain ⟨r, ns, rfl, hR, q⟩ := h
    obtain ⟨A_UNITS, h_UNITS, i_UNITS⟩ := T.k_UNITS
    refine ⟨_, (pss_one (ps_ret (pe_make R_Element___init__ G_Element___init__ (hr.mono (by decide)) (by rfl) T.g_Element b_Element___init__ .nil pass0 (pa_cons (pv 0) (pa_cons (pe_ix ix_tup (pe_glob (v := .ref A_UNITS) (by rfl) h_UNITS rfl) pe_int (fun _ _ => rfl)) (pa_cons pe_int pa_nil)))))), ?_⟩
    obtain ⟨U1, U2, U3, hU, k1, k2, k3⟩ := i_UNITS H
    refine ⟨_, rfl, A_UNITS, _, 2, .ref U3, rfl, rfl, hU, rfl, fun x dx nx ndx _ => ?_⟩
    refine ⟨x, dx, r, U3, 0, 0, 1, 1, rfl, upd_same, tq_made nx ndx k3, by decide, ⟨by decide, by decide⟩, fun H2 t' u' y' z' b' low e2 nt e3 ht' => ⟨rfl, ?_⟩⟩
    obtain ⟨rfl, rfl, rfl, rfl⟩ := low1 low
    obtain ⟨f1, f2⟩ := el_made (t := U3) nx ndx hR e2 e3 ht'
    exact q x H2 f1 f2
theorem ok_Element_polynomial (T : Txt K mg C_Form C_Ring C_Element) : MDef (fun p f => PropOf K C_Element "polynomial" p f) P w K mg base 4 ["self"] (sp_Element_polynomial K C_Form C_Ring C_Element) := by
  obtain ⟨p_, f_, fd_, R_, F_⟩ := T.e_Element_polynomial
  obtain ⟨f_fraction, fd_fraction, g_fraction, k_fraction, b_fraction, G_fraction⟩ := (ok_fraction (P := P) (w := w) (base := base) T)
  obtain ⟨f_polynomial_by, fd_polynomial_by, g_polynomial_by, k_polynomial_by, b_polynomial_by, G_polynomial_by⟩ := (ok_polynomial_by (P := P) (w := w) (base := base) T)
  obtain ⟨f_table_for, fd_table_for, g_table_for, k_table_for, b_table_for, G_table_for⟩ := (ok_table_for (P := P) (w := w) (base := base) T)
  refine ⟨p_, f_, fd_, R_, F_.binds (ps := ["self"]) (fun _ _ _ _ _ _ us hl => match us, hl with | [_], _ => rfl), ?_⟩
  refine F_.ok sc_Element_polynomial (fun vs H Q E h => ?_) (fun cdv A outer s H vs Q E hr h => ?_)
  · first | (obtain ⟨rfl, _⟩ := h; rfl) | (obtain ⟨_, rfl, _⟩ := h; rfl) | (obtain ⟨_, _, rfl, _⟩ := h; rfl) | (obtain ⟨_, _, _, rfl, _⟩ := h; rfl) | (obtain ⟨_, _, _, _, rfl, _⟩ := h; rfl) | (obtain ⟨_, _, _, _, _, rfl, _⟩ := h; rfl) | (obtain ⟨_, _, _, _, _, _, rfl, _⟩ := h; rfl) | (obtain ⟨_, _, _, _, _, _, _, rfl, _⟩ := h; rfl) | (obtain ⟨_, _, _, _, _, _, _, _, rfl, _⟩ := h; rfl) | (obtain ⟨_, _, _, _, _, _, _, _, _, rfl, _⟩ := h; rfl) | (obtain ⟨_, _, _, _, _, _, _, _, _, _, rfl, _⟩ := h; rfl) | (obtain ⟨_, _, _, _, _, _, _, _, _, _, _, rfl, _⟩ := h; rfl) | (obtain ⟨_, _, _, _, _, _, _, _, _, _, _, _, rfl, _⟩ := h; rfl) | (obtain ⟨_, _, _, _, _, _, _, _, _, _, _, _, _, rfl, _⟩ := h; rfl) | (obtain ⟨_, _, _, _, _, _, _, _, _, _, _, _, _, _, rfl, _⟩ := h; rfl) | (obtain ⟨_, _, _, _, _, _, _, _, _, _, _, _, _, _, _, rfl, _⟩ := h; rfl) | (obtain ⟨_, _, _, _, _, _, _, _, _, _, _, _, _, _, _, _, rfl, _⟩ := h; rfl) | (obtain ⟨_, _, _, _, _, _, _, _, _, _, _, _, _, _, _, _, _, rfl, _⟩ := h; rfl) | (obtain ⟨_, _, _, _, _, _, _, _, _, _, _, _, _, _, _, _, _, _, rfl, _⟩ := h; rfl) | (obtain ⟨_, _, _, _, _, _, _, _, _, _, _, _, _, _, _, _, _, _, _, rfl, _⟩ := h; rfl) | (obtain ⟨_, _, _, _, _, _, _, _, _, _, _, _, _, _, _, _, _, _, _, _, rfl, _⟩ := h; rfl) | (obtain ⟨_, _, _, _, _, _, _, _, _, _, _, _, _, _, _, _, _, _, _, _, _, rfl, _⟩ := h; rfl) | (obtain ⟨_, _, _, _, _, _, _, _, _, _, _, _, _, _, _, _, _, _, _, _, _, _, rfl, _⟩ := h; rfl) | (obtain ⟨_, _, _, _, _, _, _, _, _, _, _, _, _, _, _, _, _, _, _, _, _, _, _, rfl, _⟩ := h; rfl)
  · obtain ⟨x, a, b, c, d, u, y, z, e, rfl, ⟨dx, r, t, hx, hR, ht⟩, bz, bu, e0, e1, q⟩ := h
    obtain ⟨v1, v2, v3⟩ := w_B bz
    refine ⟨_, (pss_cons (ps_asg (pe_call G_polynomial_by (hr.mono (by decide)) (by rfl) g_polynomial_by k_polynomial_by b_polynomial_by .nil pass0 (pa_cons (pe_call G_table_for (hr.mono (by decide)) (by rfl) g_table_for k_table_for b_table_for .nil pass0 (pa_cons (pe_fld (pv 0) (by rfl)) pa_nil)) (pa_cons (pe_fld (pv 0) (by rfl)) pa_nil))) (pg_tup (by rfl) (pgs_cons (pg_name (i := 1) sc_Element_polynomial.nd rfl (.inl rfl)) (pgs_cons (pg_name (i := 2) sc_Element_polynomial.nd rfl (.inl rfl)) (pgs_cons (pg_name (i := 3) sc_Element_polynomial.nd rfl (.inl rfl)) pgs_nil)))))
    (pss_one (ps_ret (pe_tup (pa_cons (pe_call G_fraction (hr.mono (by decide)) (by rfl) g_fraction k_fraction b_fraction .nil pass0 (pa_cons (pv 1) (pa_cons (pe_fld (pv 0) (by rfl)) pa_nil))) (pa_cons (pe_call G_fraction (hr.mono (by decide)) (by rfl) g_fraction k_fraction b_fraction .nil pass0 (pa_cons (pv 2) (pa_cons (pe_op op_powC (pe_fld (pv 0) (by rfl)) pe_int) pa_nil))) (pa_cons (pe_call G_fraction (hr.mono (by decide)) (by rfl) g_fraction k_fraction b_fraction .nil pass0 (pa_cons (pv 3) (pa_cons (pe_op op_powC (pe_fld (pv 0) (by rfl)) pe_int) pa_nil))) pa_nil))))))), ?_⟩
    refine ⟨_, rfl, x, C_Element, dx, _, .ref r, rfl, hx, T.cl_Element, T.na_Element_ring, lkR, r, a, b, c, d, rfl, hR, bz, fun T1 H1 e1' hT => ?_⟩
    refine ⟨_, rfl, x, C_Element, dx, _, .ref t, rfl, e1'.ap hx, T.cl_Element, T.na_Element_entries, lkE, T1, t, _, _, _, _, _, _, _, _, _, u, y, z, rfl, hT, (Ex0.ti e1' ht).q, v1, v2, v3, bu, fun o H2 e2 ho => ?_⟩
    refine unq3 ho.q ?_
    have e12 := e1'.trans e2
    refine ⟨_, rfl, _, rfl, x, C_Element, dx, _, .int e, rfl, Ex0.ap e12 hx, T.cl_Element, T.na_Element_bottom, lkB, _, _, rfl, e0, Int.lt_trans e1 (by decide), fun o1 H3 p1 q1 g1 g10 w1 w2 w3 e3 ho1 => ?_⟩
    have e13 := e12.trans e3
    refine ⟨_, rfl, _, rfl, x, C_Element, dx, _, .int e, rfl, Ex0.ap e13 hx, T.cl_Element, T.na_Element_bottom, lkB, _, _, rfl, rfl, cpow e0 e1 (by decide), _, _, rfl, ?_, ?_, fun o2 H4 p2 q2 g2 g20 w4 w5 w6 e4 ho2 => ?_⟩
    · rw [pow2]
      exact Int.mul_pos e0 e0
    · rw [pow2]
      exact sq_lt e0 e1
    have e14 := e13.trans e4
    refine ⟨_, rfl, _, rfl, x, C_Element, dx, _, .int e, rfl, Ex0.ap e14 hx, T.cl_Element, T.na_Element_bottom, lkB, _, _, rfl, rfl, cpow e0 e1 (by decide), _, _, rfl, ?_, ?_, fun o3 H5 p3 q3 g3 g30 w7 w8 w9 e5 ho3 => ?_⟩
    · rw [pow3]
      exact Int.mul_pos (Int.mul_pos e0 e0) e0
    · rw [pow3]
      exact cube_lt e0 e1
    refine ⟨sl3, fun X nX => ?_⟩
    refine q X _ p1 q1 p2 q2 p3 q3 ⟨g1, g10, w1, w2, w3⟩ ⟨g2, g20, w4, by rw [← w5, pow2], w6⟩ ⟨g3, g30, w7, by rw [← w8, pow3], w9⟩ ((e14.trans e5).trans (Ex0.new nX)) ⟨o1, o2, o3, upd_same, ?_, ?_, ?_⟩
    · exact Ex0.ti ((e4.trans e5).trans (Ex0.new nX)) ho1
    · exact Ex0.ti (e5.trans (Ex0.new nX)) ho2
    · exact Ex0.ti (Ex0.new nX) ho3
end
end K13
namespace K13
open PySem PySem.Spec PyProof.Rows L2 Fr
def sp_l_vat (K : PySem.W.Frag) (_ _ _ : Addr) : Sp := fun vs H Q _ => ∃ (a : Addr) (ns : List Int) (i : Nat), vs = [.ref a, .int (i : Int)] ∧ SqL K H a (ns.map V.int) ∧ ∀ p H', H p = none → Ex0 H H' → Vat p H' → Q (.ref p) H'
def sp_l_drip (_ : PySem.W.Frag) (_ _ _ : Addr) : Sp := fun vs H Q _ => ∃ (c : Addr) (t : Int), vs = [.ref c, .int t] ∧ Vat c H ∧ 0 < t ∧ t < 2 ^ 250 ∧ ∀ (r : Int) H', 0 ≤ r → r < t → Fv c H H' → Q (.int r) H'
def sp_l_some_of (K : PySem.W.Frag) (_ _ _ : Addr) : Sp := fun vs H Q _ => ∃ (c l : Addr) (xs : List V), vs = [.ref c, .ref l] ∧ Vat c H ∧ H l = some (.lst xs) ∧ l ≠ c ∧ xs ≠ [] ∧ xs.length ≤ 1000 ∧ ∀ v H', v ∈ xs → Fv c H H' → Q v H'
def sp_l_int (_ : PySem.W.Frag) (_ _ _ : Addr) : Sp := fun vs H Q _ => ∃ c : Addr, vs = [.ref c] ∧ Vat c H ∧ ∀ (n : Int) H', n.natAbs ≤ 1000000 → Fv c H H' → Q (.int n) H'
def sp_l_rows (_ : PySem.W.Frag) (_ _ _ : Addr) : Sp := fun vs H Q _ => ∃ (t : Addr) (a b c d : Int), vs = [.ref t] ∧ Ti H t [a, b, c, d] ∧ B4 1000 a b c d ∧ ∀ x H', Ex0 H H' → L33 H' x (w1 a b c d) (w2 a b c d) (w3 a b c d) → Q (.ref x) H'
def sp_l_det (_ : PySem.W.Frag) (_ _ _ : Addr) : Sp := fun vs H Q _ => ∃ (t : Addr) (a b c d e f g h i : Int), vs = [.ref t] ∧ L33 H t [a, b, c] [d, e, f] [g, h, i] ∧ B3 40000 a b c ∧ B3 40000 d e f ∧ B3 40000 g h i ∧ Q (.int (det3 a b c d e f g h i)) H
def sp_l_minors (_ : PySem.W.Frag) (_ _ _ : Addr) : Sp := fun vs H Q _ => ∃ (t : Addr) (a b c d e f g h i : Int), vs = [.ref t] ∧ L33 H t [a, b, c] [d, e, f] [g, h, i] ∧ B3 40000 a b c ∧ B3 40000 d e f ∧ B3 40000 g h i ∧ ∀ x H', Ex0 H H' → Ti H' x [a + e + i, mn a b c d e f g h i] → Q (.ref x) H'
def sp_l_coefficients (_ : PySem.W.Frag) (_ _ _ : Addr) : Sp := fun vs H Q _ => ∃ c : Addr, vs = [.ref c] ∧ Vat c H ∧ ∀ t (a b e d : Int) H', Fv c H H' → Ti H' t [a, b, e, d] → (∀ n ∈ [a, b, e, d], n.natAbs ≤ 6000000) → Q (.ref t) H'
section
variable {P : Program} {w : World} {K : PySem.W.Frag} {mg : Str → Option Value} {base : Heap} {C_Form C_Ring C_Element : Addr}
theorem ok_l_vat (T : Txt K mg C_Form C_Ring C_Element) : Def P w K mg base 1 "_law_vat" ["_law_script", "_law_spot"] (sp_l_vat K C_Form C_Ring C_Element) := by
  obtain ⟨f_, fd_, g_, F_⟩ := T.d_l_vat
  refine ⟨f_, fd_, g_, F_.kp, F_.binds (ps := ["_law_script", "_law_spot"]) (fun _ _ _ _ _ _ us hl => match us, hl with | [_, _], _ => rfl), ?_⟩
  refine F_.ok sc_l_vat (fun vs H Q E h => ?_) (fun cdv A outer s H vs Q E hr h => ?_)
  · first | (obtain ⟨rfl, _⟩ := h; rfl) | (obtain ⟨_, rfl, _⟩ := h; rfl) | (obtain ⟨_, _, rfl, _⟩ := h; rfl) | (obtain ⟨_, _, _, rfl, _⟩ := h; rfl) | (obtain ⟨_, _, _, _, rfl, _⟩ := h; rfl) | (obtain ⟨_, _, _, _, _, rfl, _⟩ := h; rfl) | (obtain ⟨_, _, _, _, _, _, rfl, _⟩ := h; rfl) | (obtain ⟨_, _, _, _, _, _, _, rfl, _⟩ := h; rfl) | (obtain ⟨_, _, _, _, _, _, _, _, rfl, _⟩ := h; rfl) | (obtain ⟨_, _, _, _, _, _, _, _, _, rfl, _⟩ := h; rfl) | (obtain ⟨_, _, _, _, _, _, _, _, _, _, rfl, _⟩ := h; rfl) | (obtain ⟨_, _, _, _, _, _, _, _, _, _, _, rfl, _⟩ := h; rfl) | (obtain ⟨_, _, _, _, _, _, _, _, _, _, _, _, rfl, _⟩ := h; rfl) | (obtain ⟨_, _, _, _, _, _, _, _, _, _, _, _, _, rfl, _⟩ := h; rfl) | (obtain ⟨_, _, _, _, _, _, _, _, _, _, _, _, _, _, rfl, _⟩ := h; rfl) | (obtain ⟨_, _, _, _, _, _, _, _, _, _, _, _, _, _, _, rfl, _⟩ := h; rfl) | (obtain ⟨_, _, _, _, _, _, _, _, _, _, _, _, _, _, _, _, rfl, _⟩ := h; rfl) | (obtain ⟨_, _, _, _, _, _, _, _, _, _, _, _, _, _, _, _, _, rfl, _⟩ := h; rfl) | (obtain ⟨_, _, _, _, _, _, _, _, _, _, _, _, _, _, _, _, _, _, rfl, _⟩ := h; rfl) | (obtain ⟨_, _, _, _, _, _, _, _, _, _, _, _, _, _, _, _, _, _, _, rfl, _⟩ := h; rfl) | (obtain ⟨_, _, _, _, _, _, _, _, _, _, _, _, _, _, _, _, _, _, _, _, rfl, _⟩ := h; rfl) | (obtain ⟨_, _, _, _, _, _, _, _, _, _, _, _, _, _, _, _, _, _, _, _, _, rfl, _⟩ := h; rfl) | (obtain ⟨_, _, _, _, _, _, _, _, _, _, _, _, _, _, _, _, _, _, _, _, _, _, rfl, _⟩ := h; rfl) | (obtain ⟨_, _, _, _, _, _, _, _, _, _, _, _, _, _, _, _, _, _, _, _, _, _, _, rfl, _⟩ := h; rfl)
  · obtain ⟨a, ns, i, rfl, ha, q⟩ := h
    refine ⟨_, (Evl.pss_cut (ps_set (i := 2) sc_l_vat.nd rfl (.inl rfl) (pe_ifExp (pt_cmpR op_lt (pv 1) (pe_callB call_len_seq (by rfl) T.b_len PySem.boot_len (pa_cons (pv 0) pa_nil)) (nomark _)) (pe_callTy call_int1 (by rfl) T.b_int (by decide +kernel) (pa_cons (pe_ix ix_list (pv 0) (pv 1) (fun _ _ => rfl)) pa_nil)) (pe_op op_add (pe_op op_mul pe_int (pv 1)) pe_int)))
    (pss_cons (ps_set (i := 3) sc_l_vat.nd rfl (.inl rfl) (pe_op op_mod (pe_callTy call_int1 (by rfl) T.b_int (by decide +kernel) (pa_cons (pe_callB call_abs (by rfl) T.b_abs (by decide +kernel) (pa_cons (pv 2) pa_nil)) pa_nil)) (pe_op op_powC (pe_op op_pow pe_int pe_int) pe_int)))
    (pss_one (ps_ret (pe_lst (pa_cons (pe_callB (call_max2 rfl) (by rfl) T.b_max (by decide +kernel) (pa_cons pe_int (pa_cons (pe_op op_sub (pv 3) (pe_op op_pow pe_int pe_int)) pa_nil))) (pa_cons (pe_op op_add (pe_op op_add (pe_op op_add (pe_op op_mul (pe_op op_mod (pe_callTy call_int1 (by rfl) T.b_int (by decide +kernel) (pa_cons (pv 3) pa_nil)) pe_int) pe_int) (pe_op op_mul pe_int (pv 1))) (pe_op op_mul pe_int (pe_callTy call_int1 (by rfl) T.b_int (by decide +kernel) (pa_cons (pe_cmpR op_lt (pv 2) pe_int (nomark _)) pa_nil)))) pe_int) (pa_cons pe_int pa_nil)))))))), ?_⟩
    refine ⟨fun σ H' => ∃ cell : Int, σ = [some (.ref a), some (.int (i : Int)), some (.int cell), none] ∧ Ex0 H H', ?_, ?_⟩
    · refine ⟨_, rfl, _, rfl, a, _, rfl, .inl ha, _, _, rfl, rfl, _, rfl, iteD (fun g => ?_) (fun g => ?_)⟩
      · have hi : i < ns.length := by rw [List.length_map] at g; omega
        refine ⟨_, rfl, _, rfl, a, _, (i : Int), .int ns[i], rfl, rfl, ha, atI_nat (by rw [List.getElem?_map, List.getElem?_eq_getElem hi]; rfl), .inl ⟨_, rfl, ?_⟩⟩
        exact ⟨_, rfl, Ex0.refl H⟩
      · refine ⟨_, rfl, _, _, rfl, rfl, .inl ⟨by decide, by decide⟩, _, _, rfl, rfl, ?_⟩
        exact ⟨_, rfl, Ex0.refl H⟩
    · rintro σ H' ⟨cell, rfl, e⟩
      refine ⟨_, rfl, cell, rfl, .inl ⟨_, rfl, ?_⟩⟩
      refine ⟨_, _, rfl, rfl, ⟨by decide, by decide, by decide⟩, _, _, rfl, rfl, ⟨by decide, by decide +kernel⟩, _, _, rfl, rfl, by show (0 : Int) < (10 ^ 54) ^ 6; decide +kernel, ?_⟩
      refine ⟨_, rfl, _, _, rfl, rfl, ⟨by decide, by decide, by decide⟩, _, _, rfl, rfl, _, _, rfl, ?_⟩
      refine ⟨_, rfl, .inl ⟨_, rfl, _, _, rfl, rfl, (show (0 : Int) < 2147483587 by decide), _, _, rfl, rfl, .inr ⟨by decide, by decide⟩, _, rfl, _, _, rfl, rfl, .inl ⟨by decide, by decide⟩, _, _, rfl, rfl, ?_⟩⟩
      refine ⟨_, rfl, _, _, rfl, rfl, .inr ⟨_, rfl, _, _, rfl, rfl, .inl ⟨by decide, by decide⟩, _, _, rfl, rfl, _, _, rfl, rfl, ?_⟩⟩
      refine ⟨sl3, fun p hp => ?_⟩
      exact q p _ (Fx.free e (fun z => z) hp) (e.trans (Ex0.new hp)) ⟨_, _, _, upd_same⟩
theorem ok_l_drip (T : Txt K mg C_Form C_Ring C_Element) : Def P w K mg base 1 "_law_drip" ["_law_vat_here", "_law_total"] (sp_l_drip K C_Form C_Ring C_Element) := by
  obtain ⟨f_, fd_, g_, F_⟩ := T.d_l_drip
  refine ⟨f_, fd_, g_, F_.kp, F_.binds (ps := ["_law_vat_here", "_law_total"]) (fun _ _ _ _ _ _ us hl => match us, hl with | [_, _], _ => rfl), ?_⟩
  refine F_.ok sc_l_drip (fun vs H Q E h => ?_) (fun cdv A outer s H vs Q E hr h => ?_)
  · first | (obtain ⟨rfl, _⟩ := h; rfl) | (obtain ⟨_, rfl, _⟩ := h; rfl) | (obtain ⟨_, _, rfl, _⟩ := h; rfl) | (obtain ⟨_, _, _, rfl, _⟩ := h; rfl) | (obtain ⟨_, _, _, _, rfl, _⟩ := h; rfl) | (obtain ⟨_, _, _, _, _, rfl, _⟩ := h; rfl) | (obtain ⟨_, _, _, _, _, _, rfl, _⟩ := h; rfl) | (obtain ⟨_, _, _, _, _, _, _, rfl, _⟩ := h; rfl) | (obtain ⟨_, _, _, _, _, _, _, _, rfl, _⟩ := h; rfl) | (obtain ⟨_, _, _, _, _, _, _, _, _, rfl, _⟩ := h; rfl) | (obtain ⟨_, _, _, _, _, _, _, _, _, _, rfl, _⟩ := h; rfl) | (obtain ⟨_, _, _, _, _, _, _, _, _, _, _, rfl, _⟩ := h; rfl) | (obtain ⟨_, _, _, _, _, _, _, _, _, _, _, _, rfl, _⟩ := h; rfl) | (obtain ⟨_, _, _, _, _, _, _, _, _, _, _, _, _, rfl, _⟩ := h; rfl) | (obtain ⟨_, _, _, _, _, _, _, _, _, _, _, _, _, _, rfl, _⟩ := h; rfl) | (obtain ⟨_, _, _, _, _, _, _, _, _, _, _, _, _, _, _, rfl, _⟩ := h; rfl) | (obtain ⟨_, _, _, _, _, _, _, _, _, _, _, _, _, _, _, _, rfl, _⟩ := h; rfl) | (obtain ⟨_, _, _, _, _, _, _, _, _, _, _, _, _, _, _, _, _, rfl, _⟩ := h; rfl) | (obtain ⟨_, _, _, _, _, _, _, _, _, _, _, _, _, _, _, _, _, _, rfl, _⟩ := h; rfl) | (obtain ⟨_, _, _, _, _, _, _, _, _, _, _, _, _, _, _, _, _, _, _, rfl, _⟩ := h; rfl) | (obtain ⟨_, _, _, _, _, _, _, _, _, _, _, _, _, _, _, _, _, _, _, _, rfl, _⟩ := h; rfl) | (obtain ⟨_, _, _, _, _, _, _, _, _, _, _, _, _, _, _, _, _, _, _, _, _, rfl, _⟩ := h; rfl) | (obtain ⟨_, _, _, _, _, _, _, _, _, _, _, _, _, _, _, _, _, _, _, _, _, _, rfl, _⟩ := h; rfl) | (obtain ⟨_, _, _, _, _, _, _, _, _, _, _, _, _, _, _, _, _, _, _, _, _, _, _, rfl, _⟩ := h; rfl)
  · obtain ⟨c, t, rfl, ⟨x, y, z, hv⟩, h0, h1, q⟩ := h
    refine ⟨_, (pss_cons (ps_if (pt_cmpR op_gt (pe_ix ix_list (pv 0) pe_int (fun _ _ => rfl)) pe_int (nomark _))
      (pss_cons (ps_set (i := 2) sc_l_drip.nd rfl (.inl rfl) (pe_op op_mod (pe_callTy call_int1 (by rfl) T.b_int (by decide +kernel) (pa_cons (pe_ix ix_list (pv 0) pe_int (fun _ _ => rfl)) pa_nil)) (pv 1)))
    (pss_cons (ps_asg (pe_op op_fdivW (pe_ix ix_list (pv 0) pe_int (fun _ _ => rfl)) (pv 1)) (pg_sub (pv 0) pe_int set_list))
    (pss_one (ps_ret (pv 2)))))
      pss_nil)
    (pss_cons (ps_asg (pe_op op_add (pe_ix ix_list (pv 0) pe_int (fun _ _ => rfl)) pe_int) (pg_sub (pv 0) pe_int set_list))
    (pss_cons (ps_set (i := 3) sc_l_drip.nd rfl (.inl rfl) (pe_op op_mod (pe_callTy call_int1 (by rfl) T.b_int (by decide +kernel) (pa_cons (pe_op op_add (pe_ix ix_list (pv 0) pe_int (fun _ _ => rfl)) (pe_op op_mul pe_int (pe_ix ix_list (pv 0) pe_int (fun _ _ => rfl)))) pa_nil)) pe_int))
    (pss_cons (ps_set (i := 4) sc_l_drip.nd rfl (.inl rfl) (pe_op op_add (pe_op op_mul (pe_op op_mod (pe_callTy call_int1 (by rfl) T.b_int (by decide +kernel) (pa_cons (pe_op op_add (pe_op op_mul (pv 3) (pv 3)) (pe_op op_mul pe_int (pe_ix ix_list (pv 0) pe_int (fun _ _ => rfl)))) pa_nil)) pe_int) pe_int) (pv 3)))
    (pss_one (ps_ret (pe_op op_mod (pe_callTy call_int1 (by rfl) T.b_int (by decide +kernel) (pa_cons (pe_op op_fdivW (pv 4) pe_int) pa_nil)) (pv 1)))))))), ?_⟩
    have fv : ∀ (H' : Hp) (x' y' z' : Int), (∀ b o, b ≠ c → H b = some o → H' b = some o) → H' c = some (.lst [.int x', .int y', .int z']) → Fv c H H' := fun H' x' y' z' a b => ⟨⟨x', y', z', b⟩, a⟩
    refine ⟨_, rfl, c, _, 0, .int x, rfl, rfl, SqL.of hv, rfl, x, 0, rfl, rfl, _, rfl, iteD (fun g => ?_) (fun g => ?_)⟩
    · refine ⟨_, rfl, c, _, 0, .int x, rfl, rfl, SqL.of hv, rfl, .inl ⟨x, rfl, _, rfl, x, t, rfl, rfl, h0, ?_⟩⟩
      refine ⟨_, rfl, c, _, 0, .int x, rfl, rfl, SqL.of hv, rfl, _, rfl, x, t, rfl, rfl, dw h0 h1, ?_⟩
      refine ⟨_, rfl, c, _, 0, 0, rfl, rfl, hv, rfl, ?_⟩
      refine ⟨_, rfl, ?_⟩
      exact q _ _ (Int.emod_nonneg _ (by omega)) (Int.emod_lt_of_pos _ h0) (fv _ _ _ _ (fun b o n e => by rw [upd_ne n]; exact e) upd_same)
    · refine ⟨_, rfl, c, _, 2, .int z, rfl, rfl, SqL.of hv, rfl, _, 1, rfl, rfl, ?_⟩
      refine ⟨_, rfl, c, _, 2, 2, rfl, rfl, hv, rfl, ?_⟩
      have hv2 : upd H c (.lst [.int x, .int y, .int (z + 1)]) c = some (.lst [.int x, .int y, .int (z + 1)]) := upd_same
      refine ⟨_, rfl, c, _, 1, .int y, rfl, rfl, SqL.of hv2, rfl, _, rfl, c, _, 2, .int (z + 1), rfl, rfl, SqL.of hv2, rfl, _, _, rfl, rfl, .inl ⟨by decide, by decide⟩, _, _, rfl, rfl, .inl ⟨_, rfl, ?_⟩⟩
      refine ⟨_, _, rfl, rfl, (show (0 : Int) < 2305843009213693951 by decide), ?_⟩
      refine ⟨_, rfl, _, rfl, _, _, rfl, rfl, .inl ⟨by omega, by omega⟩, ?_⟩
      refine ⟨_, rfl, c, _, 2, .int (z + 1), rfl, rfl, SqL.of hv2, rfl, _, _, rfl, rfl, .inl ⟨by decide, by decide⟩, _, _, rfl, rfl, .inl ⟨_, rfl, ?_⟩⟩
      refine ⟨_, _, rfl, rfl, (show (0 : Int) < 2305843009213693951 by decide), _, _, rfl, rfl, .inr ⟨by decide, by decide⟩, ?_⟩
      refine ⟨_, rfl, _, _, rfl, rfl, ?_⟩
      refine ⟨_, rfl, _, _, rfl, rfl, dw (by decide) (by decide), .inl ⟨_, rfl, _, rfl, _, _, rfl, rfl, h0, ?_⟩⟩
      exact q _ _ (Int.emod_nonneg _ (by omega)) (Int.emod_lt_of_pos _ h0) (fv _ _ _ _ (fun b o n e => by rw [upd_ne n]; exact e) hv2)
theorem ok_l_some_of (T : Txt K mg C_Form C_Ring C_Element) : Def P w K mg base 2 "_law_some_of" ["_law_vat_here", "_law_items"] (sp_l_some_of K C_Form C_Ring C_Element) := by
  obtain ⟨f_, fd_, g_, F_⟩ := T.d_l_some_of
  obtain ⟨f_l_drip, fd_l_drip, g_l_drip, k_l_drip, b_l_drip, G_l_drip⟩ := (ok_l_drip (P := P) (w := w) (base := base) T)
  refine ⟨f_, fd_, g_, F_.kp, F_.binds (ps := ["_law_vat_here", "_law_items"]) (fun _ _ _ _ _ _ us hl => match us, hl with | [_, _], _ => rfl), ?_⟩
  refine F_.ok sc_l_some_of (fun vs H Q E h => ?_) (fun cdv A outer s H vs Q E hr h => ?_)
  · first | (obtain ⟨rfl, _⟩ := h; rfl) | (obtain ⟨_, rfl, _⟩ := h; rfl) | (obtain ⟨_, _, rfl, _⟩ := h; rfl) | (obtain ⟨_, _, _, rfl, _⟩ := h; rfl) | (obtain ⟨_, _, _, _, rfl, _⟩ := h; rfl) | (obtain ⟨_, _, _, _, _, rfl, _⟩ := h; rfl) | (obtain ⟨_, _, _, _, _, _, rfl, _⟩ := h; rfl) | (obtain ⟨_, _, _, _, _, _, _, rfl, _⟩ := h; rfl) | (obtain ⟨_, _, _, _, _, _, _, _, rfl, _⟩ := h; rfl) | (obtain ⟨_, _, _, _, _, _, _, _, _, rfl, _⟩ := h; rfl) | (obtain ⟨_, _, _, _, _, _, _, _, _, _, rfl, _⟩ := h; rfl) | (obtain ⟨_, _, _, _, _, _, _, _, _, _, _, rfl, _⟩ := h; rfl) | (obtain ⟨_, _, _, _, _, _, _, _, _, _, _, _, rfl, _⟩ := h; rfl) | (obtain ⟨_, _, _, _, _, _, _, _, _, _, _, _, _, rfl, _⟩ := h; rfl) | (obtain ⟨_, _, _, _, _, _, _, _, _, _, _, _, _, _, rfl, _⟩ := h; rfl) | (obtain ⟨_, _, _, _, _, _, _, _, _, _, _, _, _, _, _, rfl, _⟩ := h; rfl) | (obtain ⟨_, _, _, _, _, _, _, _, _, _, _, _, _, _, _, _, rfl, _⟩ := h; rfl) | (obtain ⟨_, _, _, _, _, _, _, _, _, _, _, _, _, _, _, _, _, rfl, _⟩ := h; rfl) | (obtain ⟨_, _, _, _, _, _, _, _, _, _, _, _, _, _, _, _, _, _, rfl, _⟩ := h; rfl) | (obtain ⟨_, _, _, _, _, _, _, _, _, _, _, _, _, _, _, _, _, _, _, rfl, _⟩ := h; rfl) | (obtain ⟨_, _, _, _, _, _, _, _, _, _, _, _, _, _, _, _, _, _, _, _, rfl, _⟩ := h; rfl) | (obtain ⟨_, _, _, _, _, _, _, _, _, _, _, _, _, _, _, _, _, _, _, _, _, rfl, _⟩ := h; rfl) | (obtain ⟨_, _, _, _, _, _, _, _, _, _, _, _, _, _, _, _, _, _, _, _, _, _, rfl, _⟩ := h; rfl) | (obtain ⟨_, _, _, _, _, _, _, _, _, _, _, _, _, _, _, _, _, _, _, _, _, _, _, rfl, _⟩ := h; rfl)
  · obtain ⟨c, l, xs, rfl, hc, hl, ne, hx, hz, q⟩ := h
    refine ⟨_, (pss_one (ps_ret (pe_ix ix_list (pv 1) (pe_call G_l_drip (hr.mono (by decide)) (by rfl) g_l_drip k_l_drip b_l_drip .nil pass0 (pa_cons (pv 0) (pa_cons (pe_callB call_len_seq (by rfl) T.b_len PySem.boot_len (pa_cons (pv 1) pa_nil)) pa_nil))) (fun _ _ => rfl)))), ?_⟩
    have h0 : 0 < xs.length := List.length_pos_iff.mpr hx
    refine ⟨_, rfl, _, rfl, _, rfl, l, xs, rfl, .inl (SqL.of hl), c, _, rfl, hc, by omega, by omega, fun r H' r0 r1 e => ?_⟩
    obtain ⟨j, rfl⟩ : ∃ j : Nat, r = (j : Int) := ⟨r.toNat, by omega⟩
    have hj : j < xs.length := by omega
    exact ⟨l, xs, _, xs[j], rfl, rfl, SqL.of (e.2 _ _ ne hl), atI_nat (List.getElem?_eq_getElem hj), q _ _ (List.getElem_mem hj) e⟩
theorem ok_l_int (T : Txt K mg C_Form C_Ring C_Element) : Def P w K mg base 3 "_law_int" ["_law_vat_here"] (sp_l_int K C_Form C_Ring C_Element) := by
  obtain ⟨f_, fd_, g_, F_⟩ := T.d_l_int
  obtain ⟨f_l_drip, fd_l_drip, g_l_drip, k_l_drip, b_l_drip, G_l_drip⟩ := (ok_l_drip (P := P) (w := w) (base := base) T)
  obtain ⟨f_l_some_of, fd_l_some_of, g_l_some_of, k_l_some_of, b_l_some_of, G_l_some_of⟩ := (ok_l_some_of (P := P) (w := w) (base := base) T)
  refine ⟨f_, fd_, g_, F_.kp, F_.binds (ps := ["_law_vat_here"]) (fun _ _ _ _ _ _ us hl => match us, hl with | [_], _ => rfl), ?_⟩
  refine F_.ok sc_l_int (fun vs H Q E h => ?_) (fun cdv A outer s H vs Q E hr h => ?_)
  · first | (obtain ⟨rfl, _⟩ := h; rfl) | (obtain ⟨_, rfl, _⟩ := h; rfl) | (obtain ⟨_, _, rfl, _⟩ := h; rfl) | (obtain ⟨_, _, _, rfl, _⟩ := h; rfl) | (obtain ⟨_, _, _, _, rfl, _⟩ := h; rfl) | (obtain ⟨_, _, _, _, _, rfl, _⟩ := h; rfl) | (obtain ⟨_, _, _, _, _, _, rfl, _⟩ := h; rfl) | (obtain ⟨_, _, _, _, _, _, _, rfl, _⟩ := h; rfl) | (obtain ⟨_, _, _, _, _, _, _, _, rfl, _⟩ := h; rfl) | (obtain ⟨_, _, _, _, _, _, _, _, _, rfl, _⟩ := h; rfl) | (obtain ⟨_, _, _, _, _, _, _, _, _, _, rfl, _⟩ := h; rfl) | (obtain ⟨_, _, _, _, _, _, _, _, _, _, _, rfl, _⟩ := h; rfl) | (obtain ⟨_, _, _, _, _, _, _, _, _, _, _, _, rfl, _⟩ := h; rfl) | (obtain ⟨_, _, _, _, _, _, _, _, _, _, _, _, _, rfl, _⟩ := h; rfl) | (obtain ⟨_, _, _, _, _, _, _, _, _, _, _, _, _, _, rfl, _⟩ := h; rfl) | (obtain ⟨_, _, _, _, _, _, _, _, _, _, _, _, _, _, _, rfl, _⟩ := h; rfl) | (obtain ⟨_, _, _, _, _, _, _, _, _, _, _, _, _, _, _, _, rfl, _⟩ := h; rfl) | (obtain ⟨_, _, _, _, _, _, _, _, _, _, _, _, _, _, _, _, _, rfl, _⟩ := h; rfl) | (obtain ⟨_, _, _, _, _, _, _, _, _, _, _, _, _, _, _, _, _, _, rfl, _⟩ := h; rfl) | (obtain ⟨_, _, _, _, _, _, _, _, _, _, _, _, _, _, _, _, _, _, _, rfl, _⟩ := h; rfl) | (obtain ⟨_, _, _, _, _, _, _, _, _, _, _, _, _, _, _, _, _, _, _, _, rfl, _⟩ := h; rfl) | (obtain ⟨_, _, _, _, _, _, _, _, _, _, _, _, _, _, _, _, _, _, _, _, _, rfl, _⟩ := h; rfl) | (obtain ⟨_, _, _, _, _, _, _, _, _, _, _, _, _, _, _, _, _, _, _, _, _, _, rfl, _⟩ := h; rfl) | (obtain ⟨_, _, _, _, _, _, _, _, _, _, _, _, _, _, _, _, _, _, _, _, _, _, _, rfl, _⟩ := h; rfl)
  · obtain ⟨c, rfl, hc, q⟩ := h
    refine ⟨_, (pss_cons (ps_set (i := 1) sc_l_int.nd rfl (.inl rfl) (pe_call G_l_some_of (hr.mono (by decide)) (by rfl) g_l_some_of k_l_some_of b_l_some_of .nil pass0 (pa_cons (pv 0) (pa_cons (pe_lst (pa_cons pe_int (pa_cons pe_int (pa_cons pe_int (pa_cons pe_int (pa_cons pe_int (pa_cons pe_int (pa_cons (pe_op op_pow pe_int pe_int) pa_nil)))))))) pa_nil))))
    (pss_one (ps_ret (pe_op op_sub (pe_call G_l_drip (hr.mono (by decide)) (by rfl) g_l_drip k_l_drip b_l_drip .nil pass0 (pa_cons (pv 0) (pa_cons (pe_op op_add (pe_op op_mul pe_int (pv 1)) pe_int) pa_nil))) (pv 1))))), ?_⟩
    refine ⟨_, rfl, _, _, rfl, rfl, ⟨by decide, by decide, by decide⟩, slN (by decide), fun l nl => ?_⟩
    refine ⟨c, l, [.int 1, .int 3, .int 3, .int 9, .int 9, .int 50, .int 1000000], rfl, vat_new hc nl, upd_same, fv_ne hc nl, by simp, by decide, fun v H1 hv e1 => ?_⟩
    obtain ⟨f, rfl, f1, f2⟩ := in_b (lo := 1) (hi := 1000000) hv (by decide)
    have e2 : Fv c H H1 := (fv_new hc nl).trans e1
    refine ⟨_, rfl, _, rfl, _, _, rfl, rfl, .inl ⟨by decide, by decide⟩, _, _, rfl, rfl, c, _, rfl, e2.1, by omega, by omega, fun r H2 r0 r1 e3 => ?_⟩
    exact ⟨_, rfl, _, _, rfl, rfl, q _ _ (by omega) (e2.trans e3)⟩
theorem ok_l_rows (T : Txt K mg C_Form C_Ring C_Element) : Def P w K mg base 1 "_law_rows" ["_law_form"] (sp_l_rows K C_Form C_Ring C_Element) := by
  obtain ⟨f_, fd_, g_, F_⟩ := T.d_l_rows
  refine ⟨f_, fd_, g_, F_.kp, F_.binds (ps := ["_law_form"]) (fun _ _ _ _ _ _ us hl => match us, hl with | [_], _ => rfl), ?_⟩
  refine F_.ok sc_l_rows (fun vs H Q E h => ?_) (fun cdv A outer s H vs Q E hr h => ?_)
  · first | (obtain ⟨rfl, _⟩ := h; rfl) | (obtain ⟨_, rfl, _⟩ := h; rfl) | (obtain ⟨_, _, rfl, _⟩ := h; rfl) | (obtain ⟨_, _, _, rfl, _⟩ := h; rfl) | (obtain ⟨_, _, _, _, rfl, _⟩ := h; rfl) | (obtain ⟨_, _, _, _, _, rfl, _⟩ := h; rfl) | (obtain ⟨_, _, _, _, _, _, rfl, _⟩ := h; rfl) | (obtain ⟨_, _, _, _, _, _, _, rfl, _⟩ := h; rfl) | (obtain ⟨_, _, _, _, _, _, _, _, rfl, _⟩ := h; rfl) | (obtain ⟨_, _, _, _, _, _, _, _, _, rfl, _⟩ := h; rfl) | (obtain ⟨_, _, _, _, _, _, _, _, _, _, rfl, _⟩ := h; rfl) | (obtain ⟨_, _, _, _, _, _, _, _, _, _, _, rfl, _⟩ := h; rfl) | (obtain ⟨_, _, _, _, _, _, _, _, _, _, _, _, rfl, _⟩ := h; rfl) | (obtain ⟨_, _, _, _, _, _, _, _, _, _, _, _, _, rfl, _⟩ := h; rfl) | (obtain ⟨_, _, _, _, _, _, _, _, _, _, _, _, _, _, rfl, _⟩ := h; rfl) | (obtain ⟨_, _, _, _, _, _, _, _, _, _, _, _, _, _, _, rfl, _⟩ := h; rfl) | (obtain ⟨_, _, _, _, _, _, _, _, _, _, _, _, _, _, _, _, rfl, _⟩ := h; rfl) | (obtain ⟨_, _, _, _, _, _, _, _, _, _, _, _, _, _, _, _, _, rfl, _⟩ := h; rfl) | (obtain ⟨_, _, _, _, _, _, _, _, _, _, _, _, _, _, _, _, _, _, rfl, _⟩ := h; rfl) | (obtain ⟨_, _, _, _, _, _, _, _, _, _, _, _, _, _, _, _, _, _, _, rfl, _⟩ := h; rfl) | (obtain ⟨_, _, _, _, _, _, _, _, _, _, _, _, _, _, _, _, _, _, _, _, rfl, _⟩ := h; rfl) | (obtain ⟨_, _, _, _, _, _, _, _, _, _, _, _, _, _, _, _, _, _, _, _, _, rfl, _⟩ := h; rfl) | (obtain ⟨_, _, _, _, _, _, _, _, _, _, _, _, _, _, _, _, _, _, _, _, _, _, rfl, _⟩ := h; rfl) | (obtain ⟨_, _, _, _, _, _, _, _, _, _, _, _, _, _, _, _, _, _, _, _, _, _, _, rfl, _⟩ := h; rfl)
  · obtain ⟨t, a, b, c, d, rfl, ht, ⟨ba, bb, bc, bd⟩, q⟩ := h
    refine ⟨_, (pss_cons (ps_asg (pv 0) (pg_tup (by rfl) (pgs_cons (pg_name (i := 1) sc_l_rows.nd rfl (.inl rfl)) (pgs_cons (pg_name (i := 2) sc_l_rows.nd rfl (.inl rfl)) (pgs_cons (pg_name (i := 3) sc_l_rows.nd rfl (.inl rfl)) (pgs_cons (pg_name (i := 4) sc_l_rows.nd rfl (.inl rfl)) pgs_nil))))))
    (pss_one (ps_ret (pe_lst (pa_cons (pe_tup (pa_cons (pe_op op_sub pe_int (pe_op op_mulW (pv 1) (pv 3))) (pa_cons (pv 2) (pa_cons (pe_op op_sub pe_int (pv 1)) pa_nil)))) (pa_cons (pe_tup (pa_cons (pe_op op_sub pe_int (pe_op op_mulW (pv 1) (pv 4))) (pa_cons pe_int (pa_cons pe_int pa_nil)))) (pa_cons (pe_tup (pa_cons (pe_op op_sub pe_int (pe_op op_mulW (pv 2) (pv 4))) (pa_cons (pv 4) (pa_cons (pe_op op_sub pe_int (pv 3)) pa_nil)))) pa_nil))))))), ?_⟩
    refine ⟨_, rfl, unI4 ht ?_⟩
    refine ⟨_, rfl, _, rfl, _, _, rfl, rfl, mulB (by with_reducible assumption) (by with_reducible assumption) (by decide), _, _, rfl, rfl, _, rfl, _, rfl, _, _, rfl, rfl, sl3, fun t1 n1 => ⟨_, rfl, _, rfl, _, _, rfl, rfl, mulB (by with_reducible assumption) (by with_reducible assumption) (by decide), _, _, rfl, rfl, sl3, fun t2 n2 => ⟨_, rfl, _, rfl, _, _, rfl, rfl, mulB (by with_reducible assumption) (by with_reducible assumption) (by decide), _, _, rfl, rfl, _, rfl, _, rfl, _, _, rfl, rfl, sl3, fun t3 n3 => ⟨sl3, fun x nx => ?_⟩⟩⟩⟩
    have z := l33_new (r1 := [0 - a * c, b, 0 - a]) (r2 := [0 - a * d, 0, 0]) (r3 := [0 - b * d, d, 0 - c]) n1 n2 n3 nx
    refine q x _ z.1 ?_
    have e1 : w1 a b c d = [0 - a * c, b, 0 - a] := by unfold w1; simp only [Int.zero_sub, Int.neg_mul]
    have e2 : w2 a b c d = [0 - a * d, 0, 0] := by unfold w2; simp only [Int.zero_sub, Int.neg_mul]
    have e3 : w3 a b c d = [0 - b * d, d, 0 - c] := by unfold w3; simp only [Int.zero_sub, Int.neg_mul]
    rw [e1, e2, e3]
    exact z.2
theorem ok_l_det (T : Txt K mg C_Form C_Ring C_Element) : Def P w K mg base 1 "_law_det" ["_law_rows_here"] (sp_l_det K C_Form C_Ring C_Element) := by
  obtain ⟨f_, fd_, g_, F_⟩ := T.d_l_det
  refine ⟨f_, fd_, g_, F_.kp, F_.binds (ps := ["_law_rows_here"]) (fun _ _ _ _ _ _ us hl => match us, hl with | [_], _ => rfl), ?_⟩
  refine F_.ok sc_l_det (fun vs H Q E h => ?_) (fun cdv A outer s H vs Q E hr h => ?_)
  · first | (obtain ⟨rfl, _⟩ := h; rfl) | (obtain ⟨_, rfl, _⟩ := h; rfl) | (obtain ⟨_, _, rfl, _⟩ := h; rfl) | (obtain ⟨_, _, _, rfl, _⟩ := h; rfl) | (obtain ⟨_, _, _, _, rfl, _⟩ := h; rfl) | (obtain ⟨_, _, _, _, _, rfl, _⟩ := h; rfl) | (obtain ⟨_, _, _, _, _, _, rfl, _⟩ := h; rfl) | (obtain ⟨_, _, _, _, _, _, _, rfl, _⟩ := h; rfl) | (obtain ⟨_, _, _, _, _, _, _, _, rfl, _⟩ := h; rfl) | (obtain ⟨_, _, _, _, _, _, _, _, _, rfl, _⟩ := h; rfl) | (obtain ⟨_, _, _, _, _, _, _, _, _, _, rfl, _⟩ := h; rfl) | (obtain ⟨_, _, _, _, _, _, _, _, _, _, _, rfl, _⟩ := h; rfl) | (obtain ⟨_, _, _, _, _, _, _, _, _, _, _, _, rfl, _⟩ := h; rfl) | (obtain ⟨_, _, _, _, _, _, _, _, _, _, _, _, _, rfl, _⟩ := h; rfl) | (obtain ⟨_, _, _, _, _, _, _, _, _, _, _, _, _, _, rfl, _⟩ := h; rfl) | (obtain ⟨_, _, _, _, _, _, _, _, _, _, _, _, _, _, _, rfl, _⟩ := h; rfl) | (obtain ⟨_, _, _, _, _, _, _, _, _, _, _, _, _, _, _, _, rfl, _⟩ := h; rfl) | (obtain ⟨_, _, _, _, _, _, _, _, _, _, _, _, _, _, _, _, _, rfl, _⟩ := h; rfl) | (obtain ⟨_, _, _, _, _, _, _, _, _, _, _, _, _, _, _, _, _, _, rfl, _⟩ := h; rfl) | (obtain ⟨_, _, _, _, _, _, _, _, _, _, _, _, _, _, _, _, _, _, _, rfl, _⟩ := h; rfl) | (obtain ⟨_, _, _, _, _, _, _, _, _, _, _, _, _, _, _, _, _, _, _, _, rfl, _⟩ := h; rfl) | (obtain ⟨_, _, _, _, _, _, _, _, _, _, _, _, _, _, _, _, _, _, _, _, _, rfl, _⟩ := h; rfl) | (obtain ⟨_, _, _, _, _, _, _, _, _, _, _, _, _, _, _, _, _, _, _, _, _, _, rfl, _⟩ := h; rfl) | (obtain ⟨_, _, _, _, _, _, _, _, _, _, _, _, _, _, _, _, _, _, _, _, _, _, _, rfl, _⟩ := h; rfl)
  · obtain ⟨t, a, b, c, d, e, f, g, h', i, rfl, ht, ⟨ba, bb, bc⟩, ⟨bd, be, bf⟩, ⟨bg, bh, bi⟩, q⟩ := h
    refine ⟨_, (Evl.pss_cut (ps_asg (pv 0) (pg_lst (by rfl) (pgs_cons (pg_tup (by rfl) (pgs_cons (pg_name (i := 1) sc_l_det.nd rfl (.inl rfl)) (pgs_cons (pg_name (i := 2) sc_l_det.nd rfl (.inl rfl)) (pgs_cons (pg_name (i := 3) sc_l_det.nd rfl (.inl rfl)) pgs_nil)))) (pgs_cons (pg_tup (by rfl) (pgs_cons (pg_name (i := 4) sc_l_det.nd rfl (.inl rfl)) (pgs_cons (pg_name (i := 5) sc_l_det.nd rfl (.inl rfl)) (pgs_cons (pg_name (i := 6) sc_l_det.nd rfl (.inl rfl)) pgs_nil)))) (pgs_cons (pg_tup (by rfl) (pgs_cons (pg_name (i := 7) sc_l_det.nd rfl (.inl rfl)) (pgs_cons (pg_name (i := 8) sc_l_det.nd rfl (.inl rfl)) (pgs_cons (pg_name (i := 9) sc_l_det.nd rfl (.inl rfl)) pgs_nil)))) pgs_nil)))))
    (pss_one (ps_ret (pe_op op_add (pe_op op_sub (pe_op op_mulW (pv 1) (pe_op op_sub (pe_op op_mulW (pv 5) (pv 9)) (pe_op op_mulW (pv 6) (pv 8)))) (pe_op op_mulW (pv 2) (pe_op op_sub (pe_op op_mulW (pv 4) (pv 9)) (pe_op op_mulW (pv 6) (pv 7))))) (pe_op op_mulW (pv 3) (pe_op op_sub (pe_op op_mulW (pv 4) (pv 8)) (pe_op op_mulW (pv 5) (pv 7)))))))), ?_⟩
    refine ⟨fun σ H' => σ = [some (.ref t), some (.int a), some (.int b), some (.int c), some (.int d), some (.int e), some (.int f), some (.int g), some (.int h'), some (.int i)] ∧ H' = H, ⟨_, rfl, unL33 ht ⟨rfl, rfl⟩⟩, ?_⟩
    rintro σ H' ⟨rfl, rfl⟩
    exact ⟨_, rfl, _, rfl, _, rfl, _, _, rfl, rfl, mulB (by with_reducible assumption) (by with_reducible assumption) (by decide), _, rfl, _, rfl, _, _, rfl, rfl, mulB (by with_reducible assumption) (by with_reducible assumption) (by decide), _, _, rfl, rfl, _, _, rfl, rfl, mulB (by with_reducible assumption) (B.sub (B.mul (by with_reducible assumption) (by with_reducible assumption)) (B.mul (by with_reducible assumption) (by with_reducible assumption))) (by decide), _, rfl, _, rfl, _, rfl, _, _, rfl, rfl, mulB (by with_reducible assumption) (by with_reducible assumption) (by decide), _, rfl, _, rfl, _, _, rfl, rfl, mulB (by with_reducible assumption) (by with_reducible assumption) (by decide), _, _, rfl, rfl, _, _, rfl, rfl, mulB (by with_reducible assumption) (B.sub (B.mul (by with_reducible assumption) (by with_reducible assumption)) (B.mul (by with_reducible assumption) (by with_reducible assumption))) (by decide), _, _, rfl, rfl, _, rfl, _, rfl, _, rfl, _, _, rfl, rfl, mulB (by with_reducible assumption) (by with_reducible assumption) (by decide), _, rfl, _, rfl, _, _, rfl, rfl, mulB (by with_reducible assumption) (by with_reducible assumption) (by decide), _, _, rfl, rfl, _, _, rfl, rfl, mulB (by with_reducible assumption) (B.sub (B.mul (by with_reducible assumption) (by with_reducible assumption)) (B.mul (by with_reducible assumption) (by with_reducible assumption))) (by decide), _, _, rfl, rfl, q⟩
theorem ok_l_minors (T : Txt K mg C_Form C_Ring C_Element) : Def P w K mg base 1 "_law_minors" ["_law_rows_here"] (sp_l_minors K C_Form C_Ring C_Element) := by
  obtain ⟨f_, fd_, g_, F_⟩ := T.d_l_minors
  refine ⟨f_, fd_, g_, F_.kp, F_.binds (ps := ["_law_rows_here"]) (fun _ _ _ _ _ _ us hl => match us, hl with | [_], _ => rfl), ?_⟩
  refine F_.ok sc_l_minors (fun vs H Q E h => ?_) (fun cdv A outer s H vs Q E hr h => ?_)
  · first | (obtain ⟨rfl, _⟩ := h; rfl) | (obtain ⟨_, rfl, _⟩ := h; rfl) | (obtain ⟨_, _, rfl, _⟩ := h; rfl) | (obtain ⟨_, _, _, rfl, _⟩ := h; rfl) | (obtain ⟨_, _, _, _, rfl, _⟩ := h; rfl) | (obtain ⟨_, _, _, _, _, rfl, _⟩ := h; rfl) | (obtain ⟨_, _, _, _, _, _, rfl, _⟩ := h; rfl) | (obtain ⟨_, _, _, _, _, _, _, rfl, _⟩ := h; rfl) | (obtain ⟨_, _, _, _, _, _, _, _, rfl, _⟩ := h; rfl) | (obtain ⟨_, _, _, _, _, _, _, _, _, rfl, _⟩ := h; rfl) | (obtain ⟨_, _, _, _, _, _, _, _, _, _, rfl, _⟩ := h; rfl) | (obtain ⟨_, _, _, _, _, _, _, _, _, _, _, rfl, _⟩ := h; rfl) | (obtain ⟨_, _, _, _, _, _, _, _, _, _, _, _, rfl, _⟩ := h; rfl) | (obtain ⟨_, _, _, _, _, _, _, _, _, _, _, _, _, rfl, _⟩ := h; rfl) | (obtain ⟨_, _, _, _, _, _, _, _, _, _, _, _, _, _, rfl, _⟩ := h; rfl) | (obtain ⟨_, _, _, _, _, _, _, _, _, _, _, _, _, _, _, rfl, _⟩ := h; rfl) | (obtain ⟨_, _, _, _, _, _, _, _, _, _, _, _, _, _, _, _, rfl, _⟩ := h; rfl) | (obtain ⟨_, _, _, _, _, _, _, _, _, _, _, _, _, _, _, _, _, rfl, _⟩ := h; rfl) | (obtain ⟨_, _, _, _, _, _, _, _, _, _, _, _, _, _, _, _, _, _, rfl, _⟩ := h; rfl) | (obtain ⟨_, _, _, _, _, _, _, _, _, _, _, _, _, _, _, _, _, _, _, rfl, _⟩ := h; rfl) | (obtain ⟨_, _, _, _, _, _, _, _, _, _, _, _, _, _, _, _, _, _, _, _, rfl, _⟩ := h; rfl) | (obtain ⟨_, _, _, _, _, _, _, _, _, _, _, _, _, _, _, _, _, _, _, _, _, rfl, _⟩ := h; rfl) | (obtain ⟨_, _, _, _, _, _, _, _, _, _, _, _, _, _, _, _, _, _, _, _, _, _, rfl, _⟩ := h; rfl) | (obtain ⟨_, _, _, _, _, _, _, _, _, _, _, _, _, _, _, _, _, _, _, _, _, _, _, rfl, _⟩ := h; rfl)
  · obtain ⟨t, a, b, c, d, e, f, g, h', i, rfl, ht, ⟨ba, bb, bc⟩, ⟨bd, be, bf⟩, ⟨bg, bh, bi⟩, q⟩ := h
    refine ⟨_, (Evl.pss_cut (ps_asg (pv 0) (pg_lst (by rfl) (pgs_cons (pg_tup (by rfl) (pgs_cons (pg_name (i := 1) sc_l_minors.nd rfl (.inl rfl)) (pgs_cons (pg_name (i := 2) sc_l_minors.nd rfl (.inl rfl)) (pgs_cons (pg_name (i := 3) sc_l_minors.nd rfl (.inl rfl)) pgs_nil)))) (pgs_cons (pg_tup (by rfl) (pgs_cons (pg_name (i := 4) sc_l_minors.nd rfl (.inl rfl)) (pgs_cons (pg_name (i := 5) sc_l_minors.nd rfl (.inl rfl)) (pgs_cons (pg_name (i := 6) sc_l_minors.nd rfl (.inl rfl)) pgs_nil)))) (pgs_cons (pg_tup (by rfl) (pgs_cons (pg_name (i := 7) sc_l_minors.nd rfl (.inl rfl)) (pgs_cons (pg_name (i := 8) sc_l_minors.nd rfl (.inl rfl)) (pgs_cons (pg_name (i := 9) sc_l_minors.nd rfl (.inl rfl)) pgs_nil)))) pgs_nil)))))
    (pss_one (ps_ret (pe_tup (pa_cons (pe_op op_add (pe_op op_add (pv 1) (pv 5)) (pv 9)) (pa_cons (pe_op op_sub (pe_op op_add (pe_op op_sub (pe_op op_add (pe_op op_sub (pe_op op_mulW (pv 1) (pv 5)) (pe_op op_mulW (pv 2) (pv 4))) (pe_op op_mulW (pv 1) (pv 9))) (pe_op op_mulW (pv 3) (pv 7))) (pe_op op_mulW (pv 5) (pv 9))) (pe_op op_mulW (pv 6) (pv 8))) pa_nil)))))), ?_⟩
    refine ⟨fun σ H' => σ = [some (.ref t), some (.int a), some (.int b), some (.int c), some (.int d), some (.int e), some (.int f), some (.int g), some (.int h'), some (.int i)] ∧ H' = H, ⟨_, rfl, unL33 ht ⟨rfl, rfl⟩⟩, ?_⟩
    rintro σ H' ⟨rfl, rfl⟩
    refine ⟨_, rfl, _, rfl, _, _, rfl, rfl, _, rfl, _, _, rfl, rfl, _, rfl, _, rfl, _, _, rfl, rfl, mulB (by with_reducible assumption) (by with_reducible assumption) (by decide), _, rfl, _, rfl, _, _, rfl, rfl, mulB (by with_reducible assumption) (by with_reducible assumption) (by decide), _, _, rfl, rfl, _, rfl, _, rfl, _, _, rfl, rfl, mulB (by with_reducible assumption) (by with_reducible assumption) (by decide), _, _, rfl, rfl, _, rfl, _, rfl, _, _, rfl, rfl, mulB (by with_reducible assumption) (by with_reducible assumption) (by decide), _, _, rfl, rfl, _, rfl, _, rfl, _, _, rfl, rfl, mulB (by with_reducible assumption) (by with_reducible assumption) (by decide), _, _, rfl, rfl, _, rfl, _, rfl, _, _, rfl, rfl, mulB (by with_reducible assumption) (by with_reducible assumption) (by decide), _, _, rfl, rfl, sl2, fun x nx => ?_⟩
    exact q x _ (Ex0.new nx) upd_same
theorem ok_l_coefficients (T : Txt K mg C_Form C_Ring C_Element) : Def P w K mg base 4 "_law_coefficients" ["_law_vat_here"] (sp_l_coefficients K C_Form C_Ring C_Element) := by
  obtain ⟨f_, fd_, g_, F_⟩ := T.d_l_coefficients
  obtain ⟨f_l_drip, fd_l_drip, g_l_drip, k_l_drip, b_l_drip, G_l_drip⟩ := (ok_l_drip (P := P) (w := w) (base := base) T)
  obtain ⟨f_l_int, fd_l_int, g_l_int, k_l_int, b_l_int, G_l_int⟩ := (ok_l_int (P := P) (w := w) (base := base) T)
  obtain ⟨f_l_some_of, fd_l_some_of, g_l_some_of, k_l_some_of, b_l_some_of, G_l_some_of⟩ := (ok_l_some_of (P := P) (w := w) (base := base) T)
  refine ⟨f_, fd_, g_, F_.kp, F_.binds (ps := ["_law_vat_here"]) (fun _ _ _ _ _ _ us hl => match us, hl with | [_], _ => rfl), ?_⟩
  refine F_.ok sc_l_coefficients (fun vs H Q E h => ?_) (fun cdv A outer s H vs Q E hr h => ?_)
  · first | (obtain ⟨rfl, _⟩ := h; rfl) | (obtain ⟨_, rfl, _⟩ := h; rfl) | (obtain ⟨_, _, rfl, _⟩ := h; rfl) | (obtain ⟨_, _, _, rfl, _⟩ := h; rfl) | (obtain ⟨_, _, _, _, rfl, _⟩ := h; rfl) | (obtain ⟨_, _, _, _, _, rfl, _⟩ := h; rfl) | (obtain ⟨_, _, _, _, _, _, rfl, _⟩ := h; rfl) | (obtain ⟨_, _, _, _, _, _, _, rfl, _⟩ := h; rfl) | (obtain ⟨_, _, _, _, _, _, _, _, rfl, _⟩ := h; rfl) | (obtain ⟨_, _, _, _, _, _, _, _, _, rfl, _⟩ := h; rfl) | (obtain ⟨_, _, _, _, _, _, _, _, _, _, rfl, _⟩ := h; rfl) | (obtain ⟨_, _, _, _, _, _, _, _, _, _, _, rfl, _⟩ := h; rfl) | (obtain ⟨_, _, _, _, _, _, _, _, _, _, _, _, rfl, _⟩ := h; rfl) | (obtain ⟨_, _, _, _, _, _, _, _, _, _, _, _, _, rfl, _⟩ := h; rfl) | (obtain ⟨_, _, _, _, _, _, _, _, _, _, _, _, _, _, rfl, _⟩ := h; rfl) | (obtain ⟨_, _, _, _, _, _, _, _, _, _, _, _, _, _, _, rfl, _⟩ := h; rfl) | (obtain ⟨_, _, _, _, _, _, _, _, _, _, _, _, _, _, _, _, rfl, _⟩ := h; rfl) | (obtain ⟨_, _, _, _, _, _, _, _, _, _, _, _, _, _, _, _, _, rfl, _⟩ := h; rfl) | (obtain ⟨_, _, _, _, _, _, _, _, _, _, _, _, _, _, _, _, _, _, rfl, _⟩ := h; rfl) | (obtain ⟨_, _, _, _, _, _, _, _, _, _, _, _, _, _, _, _, _, _, _, rfl, _⟩ := h; rfl) | (obtain ⟨_, _, _, _, _, _, _, _, _, _, _, _, _, _, _, _, _, _, _, _, rfl, _⟩ := h; rfl) | (obtain ⟨_, _, _, _, _, _, _, _, _, _, _, _, _, _, _, _, _, _, _, _, _, rfl, _⟩ := h; rfl) | (obtain ⟨_, _, _, _, _, _, _, _, _, _, _, _, _, _, _, _, _, _, _, _, _, _, rfl, _⟩ := h; rfl) | (obtain ⟨_, _, _, _, _, _, _, _, _, _, _, _, _, _, _, _, _, _, _, _, _, _, _, rfl, _⟩ := h; rfl)
  · obtain ⟨c, rfl, hc, q⟩ := h
    refine ⟨_, (pss_cons (ps_set (i := 1) sc_l_coefficients.nd rfl (.inl rfl) (pe_call G_l_drip (hr.mono (by decide)) (by rfl) g_l_drip k_l_drip b_l_drip .nil pass0 (pa_cons (pv 0) (pa_cons pe_int pa_nil))))
    (Evl.pss_cut (ps_set (i := 2) sc_l_coefficients.nd rfl (.inl rfl) (pe_callTy call_tuple_of (by rfl) T.b_tuple (by decide +kernel) (pa_cons (pe_lc (own := [("_law_turn", 4)]) (g := (gName 4)) rfl sc_l_coefficients.nd (pi_range1 (by rfl) T.b_range (pa_cons pe_int pa_nil)) (blkOk_by (N := N_l_coefficients) (sc := defScope s_l_coefficients) (by decide +kernel)) (fun _ _ _ _ _ => (pg_name (i := 4) sc_l_coefficients.nd rfl (.inl rfl))) (fun _ _ _ _ _ => pts_nil) (fun _ _ _ _ _ => (pe_call G_l_int (hr.mono (by decide)) (by rfl) g_l_int k_l_int b_l_int .nil pass0 (pa_cons (pv 0) pa_nil)))) pa_nil)))
    (pss_cons (ps_if (pt_cmpR op_eq (pv 1) pe_int (nomark _))
      (pss_one (ps_ret (pe_op op_catT (pe_tup (pa_cons pe_int (pa_cons pe_int pa_nil))) (pe_slice sl_tupA (pv 2) (po_some pe_int) po_none))))
      pss_nil)
    (pss_cons (ps_if (pt_cmpR op_eq (pv 1) pe_int (nomark _))
      (pss_cons (ps_set (i := 3) sc_l_coefficients.nd rfl (.inr rfl) (pe_call G_l_some_of (hr.mono (by decide)) (by rfl) g_l_some_of k_l_some_of b_l_some_of .nil pass0 (pa_cons (pv 0) (pa_cons (pe_lst (pa_cons pe_int (pa_cons pe_int (pa_cons pe_int pa_nil)))) pa_nil))))
    (pss_one (ps_ret (pe_callTy call_tuple_of (by rfl) T.b_tuple (by decide +kernel) (pa_cons (pe_lc (own := [("_law_entry", 5)]) (g := (gName 5)) rfl sc_l_coefficients.nd (pi_tup (pv 2)) (blkOk_by (N := N_l_coefficients) (sc := defScope s_l_coefficients) (by decide +kernel)) (fun _ _ _ _ _ => (pg_name (i := 5) sc_l_coefficients.nd rfl (.inl rfl))) (fun _ _ _ _ _ => pts_nil) (fun _ _ _ _ _ => (pe_op op_mulW (pv 3) (pv 5)))) pa_nil)))))
      pss_nil)
    (pss_one (ps_ret (pe_ifExp (pt_cmpR op_eq (pv 1) pe_int (nomark _)) (pe_call G_l_some_of (hr.mono (by decide)) (by rfl) g_l_some_of k_l_some_of b_l_some_of .nil pass0 (pa_cons (pv 0) (pa_cons (pe_lst (pa_cons (pe_tup (pa_cons pe_int (pa_cons pe_int (pa_cons pe_int (pa_cons pe_int pa_nil))))) (pa_cons (pe_tup (pa_cons pe_int (pa_cons pe_int (pa_cons (pe_un un_neg pe_int) (pa_cons (pe_un un_neg pe_int) pa_nil))))) (pa_cons (pe_tup (pa_cons pe_int (pa_cons pe_int (pa_cons pe_int (pa_cons pe_int pa_nil))))) (pa_cons (pe_tup (pa_cons pe_int (pa_cons pe_int (pa_cons pe_int (pa_cons (pe_un un_neg pe_int) pa_nil))))) pa_nil))))) pa_nil))) (pv 2)))))))), ?_⟩
    refine ⟨_, rfl, c, 8, rfl, hc, by decide, by decide, fun way H1 w0 w1 e1 => ?_⟩
    refine ⟨fun σ H' => ∃ (t : Addr) (a b e d : Int), σ = [some (.ref c), some (.int way), some (.ref t), none, none, none] ∧ Fv c H H' ∧ Ti H' t [a, b, e, d] ∧ (∀ n ∈ [a, b, e, d], n.natAbs ≤ 1000000), ?_, ?_⟩
    · refine ⟨_, rfl, by decide, by decide, ?_⟩
      refine lcR (fmV c) e1.1 (fun i acc _ => ∃ ns : List Int, acc = ns.map V.int ∧ ns.length = i ∧ ∀ n ∈ ns, n.natAbs ≤ 1000000) (fun _ _ => ⟨[], rfl, rfl, fun _ h => by cases h⟩) (fun D i acc H3 hD hi e3 hA hlen hp => ?_) (fun D H3 acc hD e3 hA hp => ?_)
      · obtain ⟨ns, rfl, hln, hns⟩ := hp
        have hi' : i < 4 := by simpa using hi
        refine ⟨rfl, ?_⟩
        refine ⟨_, rfl, c, rfl, e3.1, fun z H4 hz e4 => ?_⟩
        refine cs_yes (fmV c) e1.1 hD e3 hA hlen (by omega) e4 ⟨ns ++ [z], by rw [List.map_append]; rfl, by rw [List.length_append, hln]; rfl, fun n hn => ?_⟩
        rcases List.mem_append.mp hn with h | h
        · exact hns n h
        · have : n = z := by simpa using h
          rw [this]
          exact hz
      · obtain ⟨ns, rfl, hln, hns⟩ := hp
        refine ⟨D, _, rfl, .inl ⟨SqL.of hA, fun p np => ?_⟩⟩
        obtain ⟨A1, A2, A3, A4, rfl⟩ : ∃ A1 A2 A3 A4, ns = [A1, A2, A3, A4] := by
          have hln' : ns.length = 4 := by simpa using hln
          match ns, hln' with
          | [x, y, z, u], _ => exact ⟨x, y, z, u, rfl⟩
        exact ⟨p, A1, A2, A3, A4, rfl, e1.trans (e3.trans (fv_new e3.1 np)), upd_same, hns⟩
    rintro σ H2 ⟨t, a, b, e, d, rfl, e2, ht, hn⟩
    have wk : ∀ n ∈ [a, b, e, d], n.natAbs ≤ 6000000 := fun n h => Nat.le_trans (hn n h) (by decide)
    have hb : ∀ n ∈ [a, b, e, d], B 1000 n := fun n h => ⟨Nat.lt_of_le_of_lt (hn n h) (by decide), by decide⟩
    refine ⟨_, rfl, rfl, _, rfl, iteE (fun g => ?_) (fun g => ?_)⟩
    · refine ⟨sl2, fun t0 n0 => ?_⟩
      have e3 : Fv c H2 (upd H2 t0 (.tup [.int 0, .int 0])) := fv_new e2.1 n0
      have ht3 := fv_tup e2.1 e3 ht
      refine ⟨_, rfl, 2, rfl, t, _, rfl, SqT.of ht3, fun z => absurd (show (2 : Nat) = 0 from z.1) (by decide), fun _ p np => ?_⟩
      have e4 : Fv c (upd H2 t0 (.tup [.int 0, .int 0])) (upd (upd H2 t0 (.tup [.int 0, .int 0])) p (.tup [.int e, .int d])) := fv_new e3.1 np
      refine ⟨t0, p, _, [.int e, .int d], rfl, rfl, SqT.of (fv_tup e3.1 e4 upd_same), SqT.of upd_same, by simp, by show 4 ≤ sizeLine; decide, fun z => absurd z (by simp), fun _ p2 np2 => ?_⟩
      refine q p2 0 0 e d _ (e2.trans (e3.trans (e4.trans (fv_new e4.1 np2)))) upd_same (fun n h => ?_)
      simp only [List.mem_cons, List.mem_nil_iff, or_false] at h
      rcases h with rfl | rfl | rfl | rfl
      · decide
      · decide
      · exact wk _ (by simp)
      · exact wk _ (by simp)
    refine ⟨_, rfl, rfl, _, rfl, iteE (fun g1 => ?_) (fun g1 => ?_)⟩
    · refine ⟨_, rfl, sl3, fun l nl => ?_⟩
      refine ⟨c, l, [.int 2, .int 3, .int 6], rfl, vat_new e2.1 nl, upd_same, fv_ne e2.1 nl, by simp, by decide, fun v H3 hv e3 => ?_⟩
      obtain ⟨f, rfl, f1, f2⟩ := in_b (lo := 2) (hi := 6) hv (by decide)
      have e4 : Fv c H2 H3 := (fv_new e2.1 nl).trans e3
      have ht3 := fv_tup e2.1 e4 ht
      have bf : B 1000 f := ⟨Nat.lt_of_le_of_lt (by omega : f.natAbs ≤ 6) (by decide), by decide⟩
      refine ⟨_, rfl, t, rfl, ⟨_, SqT.of ht3⟩, ?_⟩
      refine lcT fm0 trivial (SqT.of ht3) (fun z => z) (fun i acc _ => acc = (([a, b, e, d].take i).map fun x => f * x).map V.int) (fun _ _ => rfl) (fun D i x acc H' hD hx' e5 hA hlen hp => ?_) (fun D H' acc hD e5 hA hp => ?_)
      · obtain ⟨z, hz, rfl⟩ := get_int hx'
        have hi := (List.getElem?_eq_some_iff.mp hz).1
        refine ⟨rfl, ?_⟩
        refine ⟨_, rfl, _, rfl, _, _, rfl, rfl, mulB bf (hb _ (List.mem_of_getElem? hz)) (by decide), ?_⟩
        refine cs_yes fm0 trivial hD e5 hA hlen (by show i < 1000000; have : i < 4 := hi; omega) (Fx.refl trivial) ?_
        rw [hp, List.take_add_one, hz, List.map_append, List.map_append]
        rfl
      · rw [List.length_map, List.take_length] at hp
        subst hp
        refine ⟨D, _, rfl, .inl ⟨SqL.of hA, fun p np => ?_⟩⟩
        refine q p (f * a) (f * b) (f * e) (f * d) _ (e2.trans (e4.trans (fv_ex e4.1 (Fx.trans e5 (Ex0.new np))))) upd_same (fun n h => ?_)
        have six : ∀ x ∈ [a, b, e, d], (f * x).natAbs ≤ 6000000 := fun x hx => by
          rw [Int.natAbs_mul]
          exact Nat.mul_le_mul (by omega : f.natAbs ≤ 6) (hn x hx)
        simp only [List.mem_cons, List.mem_nil_iff, or_false] at h
        rcases h with rfl | rfl | rfl | rfl <;> exact six _ (by simp)
    · refine ⟨_, rfl, rfl, _, rfl, iteE (fun g2 => ?_) (fun g2 => ?_)⟩
      · refine ⟨_, rfl, sl4, fun t1 n1 => ⟨_, rfl, _, rfl, sl4, fun t2 n2 => ⟨sl4, fun t3 n3 => ⟨_, rfl, sl4, fun t4 n4 => ⟨sl4, fun l nl => ?_⟩⟩⟩⟩⟩
        have f1 := fv_new (o := .tup [.int 1, .int 1, .int 2, .int 1]) e2.1 n1
        have f2 := fv_new (o := .tup [.int 1, .int 2, .int (-1), .int (-1)]) f1.1 n2
        have f3 := fv_new (o := .tup [.int 0, .int 1, .int 1, .int 0]) f2.1 n3
        have f4 := fv_new (o := .tup [.int 1, .int 0, .int 0, .int (-2)]) f3.1 n4
        have f5 := fv_new (o := .lst [.ref t1, .ref t2, .ref t3, .ref t4]) f4.1 nl
        refine ⟨c, l, [.ref t1, .ref t2, .ref t3, .ref t4], rfl, f5.1, upd_same, fv_ne f4.1 nl, by simp, by show 4 ≤ 1000; decide, fun v H3 hv e3 => ?_⟩
        have k4 := f5.trans e3
        have k3 := f4.trans k4
        have k2 := f3.trans k3
        have k1 := f2.trans k2
        have all := e2.trans (f1.trans k1)
        have sm : ∀ ns : List Int, (ns.all fun n => decide (n.natAbs ≤ 6000000)) = true → ∀ n ∈ ns, n.natAbs ≤ 6000000 := fun ns h n hn => of_decide_eq_true (List.all_eq_true.mp h n hn)
        simp only [List.mem_cons, List.mem_nil_iff, or_false] at hv
        rcases hv with rfl | rfl | rfl | rfl
        · exact q t1 1 1 2 1 _ all (fv_tup f1.1 k1 upd_same) (sm _ (by decide))
        · exact q t2 1 2 (-1) (-1) _ all (fv_tup f2.1 k2 upd_same) (sm _ (by decide))
        · exact q t3 0 1 1 0 _ all (fv_tup f3.1 k3 upd_same) (sm _ (by decide))
        · exact q t4 1 0 0 (-2) _ all (fv_tup f4.1 k4 upd_same) (sm _ (by decide))
      · exact ⟨_, rfl, q t a b e d _ e2 ht wk⟩
end
end K13
namespace K13
open PySem PySem.Spec PyProof.Rows L2 Fr
def sp_l_mixed (_ : PySem.W.Frag) (_ _ _ : Addr) : Sp := fun vs H Q _ => ∃ (t l r : Addr) (a b c d e f g h i u x y v z s : Int), vs = [.ref t, .ref l, .ref r] ∧ L33 H t [a, b, c] [d, e, f] [g, h, i] ∧ Ti H l [u, x, y] ∧ Ti H r [v, z, s] ∧ B3 2100 a b c ∧ B3 2100 d e f ∧ B3 2100 g h i ∧ B3 9000 u x y ∧ B3 1000 v z s ∧ ∀ o H', Ex0 H H' → Ti H' o [m0 a d g u x y v z s, m1 b e h u x y v z s, m2 c f i u x y v z s] → Q (.ref o) H'
def sp_l_images (_ : PySem.W.Frag) (_ _ _ : Addr) : Sp := fun vs H Q _ => ∃ (t l : Addr) (a b c d e f g h i u x y : Int), vs = [.ref t, .ref l] ∧ L33 H t [a, b, c] [d, e, f] [g, h, i] ∧ Ti H l [u, x, y] ∧ B3 2100 a b c ∧ B3 2100 d e f ∧ B3 2100 g h i ∧ B3 9000 u x y ∧ ∀ o H', Ex0 H H' → L33 H' o [u, x, y] [m0 a d g u x y 0 1 0, m1 b e h u x y 0 1 0, m2 c f i u x y 0 1 0] [m0 a d g u x y 0 0 1, m1 b e h u x y 0 0 1, m2 c f i u x y 0 0 1] → Q (.ref o) H'
def adm (f : Int) (xs ys : List Int) : List Int := List.zipWith (fun e m => e + f * m) xs ys
theorem adm_step {f : Int} {xs ys : List Int} {i : Nat} (h1 : i < xs.length) (h2 : i < ys.length) : ((adm f xs ys).take i).map V.int ++ [V.int (xs.getD i 0 + f * ys.getD i 0)] = ((adm f xs ys).take (i + 1)).map V.int := by
  unfold adm
  rw [List.take_add_one, List.map_append, List.getElem?_zipWith, List.getElem?_eq_getElem h1, List.getElem?_eq_getElem h2, List.getD_eq_getElem?_getD, List.getD_eq_getElem?_getD, List.getElem?_eq_getElem h1, List.getElem?_eq_getElem h2]
  rfl
def mxN (u x y v z s : Int) (rows : List (List Int)) : Nat → List Int
  | 0 => adm v [u * v, u * z, u * s] [0, x, y]
  | i + 1 => adm ([x * z, x * s + y * z, y * s].getD i 0) (mxN u x y v z s rows i) (rows.getD i [])
theorem mxN_len {u x y v z s : Int} {r1 r2 r3 : List Int} (h1 : r1.length = 3) (h2 : r2.length = 3) (h3 : r3.length = 3) : ∀ i, i ≤ 3 → (mxN u x y v z s [r1, r2, r3] i).length = 3
  | 0, _ => rfl
  | i + 1, hi => by
    have ih := mxN_len (u := u) (x := x) (y := y) (v := v) (z := z) (s := s) h1 h2 h3 i (by omega)
    have hr : (([r1, r2, r3] : List (List Int)).getD i []).length = 3 := by
      match i, hi with
      | 0, _ => exact h1
      | 1, _ => exact h2
      | 2, _ => exact h3
    rw [mxN, adm, List.length_zipWith, ih, hr]
    rfl
theorem mxN_3 (a b c d e f g h i u x y v z s : Int) : mxN u x y v z s [[a, b, c], [d, e, f], [g, h, i]] 3 = [m0 a d g u x y v z s, m1 b e h u x y v z s, m2 c f i u x y v z s] := by
  show [u * v + v * 0 + x * z * a + (x * s + y * z) * d + y * s * g, u * z + v * x + x * z * b + (x * s + y * z) * e + y * s * h, u * s + v * y + x * z * c + (x * s + y * z) * f + y * s * i] = _
  unfold m0 m1 m2
  simp only [List.cons.injEq, and_true]
  refine ⟨?_, ?_, ?_⟩ <;> grind
def sp_l_due (_ : PySem.W.Frag) (_ _ _ : Addr) : Sp := fun vs H Q _ => ∃ (t : Addr) (a b c d : Int), vs = [.ref t] ∧ Ti H t [a, b, c, d] ∧ B4 1000 a b c d ∧ ∀ x H', Ex0 H H' → T33 H' x [3, b, -c] [b, b * b - 2 * (a * c), -(3 * (a * d))] [-c, -(3 * (a * d)), c * c - 2 * (b * d)] → Q (.ref x) H'
section
variable {P : Program} {w : World} {K : PySem.W.Frag} {mg : Str → Option Value} {base : Heap} {C_Form C_Ring C_Element : Addr}
theorem ok_l_mixed (T : Txt K mg C_Form C_Ring C_Element) : Def P w K mg base 1 "_law_mixed" ["_law_rows_here", "_law_one", "_law_other"] (sp_l_mixed K C_Form C_Ring C_Element) := by
  obtain ⟨f_, fd_, g_, F_⟩ := T.d_l_mixed
  refine ⟨f_, fd_, g_, F_.kp, F_.binds (ps := ["_law_rows_here", "_law_one", "_law_other"]) (fun _ _ _ _ _ _ us hl => match us, hl with | [_, _, _], _ => rfl), ?_⟩
  refine F_.ok sc_l_mixed (fun vs H Q E h => ?_) (fun cdv A outer s H vs Q E hr h => ?_)
  · first | (obtain ⟨rfl, _⟩ := h; rfl) | (obtain ⟨_, rfl, _⟩ := h; rfl) | (obtain ⟨_, _, rfl, _⟩ := h; rfl) | (obtain ⟨_, _, _, rfl, _⟩ := h; rfl) | (obtain ⟨_, _, _, _, rfl, _⟩ := h; rfl) | (obtain ⟨_, _, _, _, _, rfl, _⟩ := h; rfl) | (obtain ⟨_, _, _, _, _, _, rfl, _⟩ := h; rfl) | (obtain ⟨_, _, _, _, _, _, _, rfl, _⟩ := h; rfl) | (obtain ⟨_, _, _, _, _, _, _, _, rfl, _⟩ := h; rfl) | (obtain ⟨_, _, _, _, _, _, _, _, _, rfl, _⟩ := h; rfl) | (obtain ⟨_, _, _, _, _, _, _, _, _, _, rfl, _⟩ := h; rfl) | (obtain ⟨_, _, _, _, _, _, _, _, _, _, _, rfl, _⟩ := h; rfl) | (obtain ⟨_, _, _, _, _, _, _, _, _, _, _, _, rfl, _⟩ := h; rfl) | (obtain ⟨_, _, _, _, _, _, _, _, _, _, _, _, _, rfl, _⟩ := h; rfl) | (obtain ⟨_, _, _, _, _, _, _, _, _, _, _, _, _, _, rfl, _⟩ := h; rfl) | (obtain ⟨_, _, _, _, _, _, _, _, _, _, _, _, _, _, _, rfl, _⟩ := h; rfl) | (obtain ⟨_, _, _, _, _, _, _, _, _, _, _, _, _, _, _, _, rfl, _⟩ := h; rfl) | (obtain ⟨_, _, _, _, _, _, _, _, _, _, _, _, _, _, _, _, _, rfl, _⟩ := h; rfl) | (obtain ⟨_, _, _, _, _, _, _, _, _, _, _, _, _, _, _, _, _, _, rfl, _⟩ := h; rfl) | (obtain ⟨_, _, _, _, _, _, _, _, _, _, _, _, _, _, _, _, _, _, _, rfl, _⟩ := h; rfl) | (obtain ⟨_, _, _, _, _, _, _, _, _, _, _, _, _, _, _, _, _, _, _, _, rfl, _⟩ := h; rfl) | (obtain ⟨_, _, _, _, _, _, _, _, _, _, _, _, _, _, _, _, _, _, _, _, _, rfl, _⟩ := h; rfl) | (obtain ⟨_, _, _, _, _, _, _, _, _, _, _, _, _, _, _, _, _, _, _, _, _, _, rfl, _⟩ := h; rfl) | (obtain ⟨_, _, _, _, _, _, _, _, _, _, _, _, _, _, _, _, _, _, _, _, _, _, _, rfl, _⟩ := h; rfl)
  · obtain ⟨t, l, r, a, b, c, d, e, f, g, h', i0, u, x, y, v, z, s', rfl, ht, hl, hr', c1, c2, c3, ⟨bu, bx, by'⟩, ⟨bv, bz, bs⟩, q⟩ := h
    refine ⟨_, (Evl.pss_cut (ps_setLc (i := 3) (own := [("_law_entry", 7)]) (g := (gName 7)) rfl sc_l_mixed.nd rfl rfl (sw_true rfl rfl rfl (by decide +kernel)) (pi_tup (pv 2)) (blkOk_by (N := N_l_mixed) (sc := defScope s_l_mixed) (by decide +kernel)) (fun _ _ _ _ _ => (pg_name (i := 7) sc_l_mixed.nd rfl (.inl rfl))) (fun _ _ _ _ _ => pts_nil) (fun _ _ _ _ _ => (pe_op op_mulW (pe_ix (ix_tupK (K := K) rfl) (pv 1) pe_int (fun _ _ => rfl)) (pv 7))))
    (Evl.pss_cut (ps_setLc (i := 3) (own := [("_law_entry", 7), ("_law_more", 8)]) (g := (gTup K 2 (gCons (gName 7) (gCons (gName 8) gNil)))) rfl sc_l_mixed.nd rfl rfl (sw_true rfl rfl rfl (by decide +kernel)) (pi_zipK false true (by rfl) T.b_zip (pa_cons (pv 3) (pa_cons (pe_tup (pa_cons pe_int (pa_cons (pe_ix ix_tup (pv 1) pe_int (fun _ _ => rfl)) (pa_cons (pe_ix ix_tup (pv 1) pe_int (fun _ _ => rfl)) pa_nil)))) pa_nil))) (blkOk_by (N := N_l_mixed) (sc := defScope s_l_mixed) (by decide +kernel)) (fun _ _ _ _ _ => (pg_tup (by rfl) (pgs_cons (pg_name (i := 7) sc_l_mixed.nd rfl (.inl rfl)) (pgs_cons (pg_name (i := 8) sc_l_mixed.nd rfl (.inl rfl)) pgs_nil)))) (fun _ _ _ _ _ => pts_nil) (fun _ _ _ _ _ => (pe_op op_add (pv 7) (pe_op op_mulW (pe_ix (ix_tupK (K := K) rfl) (pv 2) pe_int (fun _ _ => rfl)) (pv 8)))))
    (Evl.pss_cut (ps_set (i := 4) sc_l_mixed.nd rfl (.inl rfl) (pe_tup (pa_cons (pe_op op_mulW (pe_ix ix_tup (pv 1) pe_int (fun _ _ => rfl)) (pe_ix ix_tup (pv 2) pe_int (fun _ _ => rfl))) (pa_cons (pe_op op_add (pe_op op_mulW (pe_ix ix_tup (pv 1) pe_int (fun _ _ => rfl)) (pe_ix ix_tup (pv 2) pe_int (fun _ _ => rfl))) (pe_op op_mulW (pe_ix ix_tup (pv 1) pe_int (fun _ _ => rfl)) (pe_ix ix_tup (pv 2) pe_int (fun _ _ => rfl)))) (pa_cons (pe_op op_mulW (pe_ix ix_tup (pv 1) pe_int (fun _ _ => rfl)) (pe_ix ix_tup (pv 2) pe_int (fun _ _ => rfl))) pa_nil)))))
    (pss_cons (ps_for PassesOwn.never rfl (pi_zipK true false (by rfl) T.b_zip (pa_cons (pv 4) (pa_cons (pv 0) pa_nil))) (pg_tup (by rfl) (pgs_cons (pg_name (i := 5) sc_l_mixed.nd rfl (.inr rfl)) (pgs_cons (pg_name (i := 6) sc_l_mixed.nd rfl (.inl rfl)) pgs_nil)))
      (pss_one (ps_setLc (i := 3) (own := [("_law_entry", 7), ("_law_more", 8)]) (g := (gTup K 2 (gCons (gName 7) (gCons (gName 8) gNil)))) rfl sc_l_mixed.nd rfl rfl (sw_true rfl rfl rfl (by decide +kernel)) (pi_zipK false true (by rfl) T.b_zip (pa_cons (pv 3) (pa_cons (pv 6) pa_nil))) (blkOk_by (N := N_l_mixed) (sc := defScope s_l_mixed) (by decide +kernel)) (fun _ _ _ _ _ => (pg_tup (by rfl) (pgs_cons (pg_name (i := 7) sc_l_mixed.nd rfl (.inl rfl)) (pgs_cons (pg_name (i := 8) sc_l_mixed.nd rfl (.inl rfl)) pgs_nil)))) (fun _ _ _ _ _ => pts_nil) (fun _ _ _ _ _ => (pe_op op_add (pv 7) (pe_op op_mulW (pv 5) (pv 8)))))))
    (pss_one (ps_ret (pe_callTy call_tuple_of (by rfl) T.b_tuple (by decide +kernel) (pa_cons (pv 3) pa_nil)))))))), ?_⟩
    have bO : ∀ n ∈ [v, z, s'], B 1000 n := fun n hn => by
      simp only [List.mem_cons, List.mem_nil_iff, or_false] at hn
      rcases hn with rfl | rfl | rfl <;> assumption
    have bR : ∀ row ∈ [[a, b, c], [d, e, f], [g, h', i0]], ∀ n ∈ row, B 2100 n := fun row hrow n hn => by
      simp only [List.mem_cons, List.mem_nil_iff, or_false] at hrow
      rcases hrow with rfl | rfl | rfl <;> simp only [List.mem_cons, List.mem_nil_iff, or_false] at hn <;> rcases hn with rfl | rfl | rfl
      · exact c1.1
      · exact c1.2.1
      · exact c1.2.2
      · exact c2.1
      · exact c2.2.1
      · exact c2.2.2
      · exact c3.1
      · exact c3.2.1
      · exact c3.2.2
    refine ⟨fun σ H' => ∃ F : Addr, σ = [some (.ref t), some (.ref l), some (.ref r), some (.ref F), none, none, none, none, none] ∧ Ex0 H H' ∧ H' F = some (.lst ([u * v, u * z, u * s'].map V.int)), ?_, ?_⟩
    · refine ⟨_, rfl, r, rfl, ⟨_, SqT.of hr'⟩, ?_⟩
      refine lcT fm0 trivial (SqT.of hr') (fun z => z) (fun i acc _ => acc = (([u * v, u * z, u * s'] : List Int).take i).map V.int) (fun _ _ => rfl) (fun D i n acc H' hD hn e1 hA hlen hp => ?_) (fun D H' acc hD e1 hA hp => ?_)
      · obtain ⟨m, hm, rfl⟩ := get_int hn
        have hi : i < 3 := (List.getElem?_eq_some_iff.mp hm).1
        refine ⟨rfl, ?_⟩
        refine ⟨_, rfl, l, _, 0, .int u, rfl, rfl, SqT.of (Ex0.ti e1 hl), rfl, _, rfl, _, _, rfl, rfl, mulB bu (bO m (List.mem_of_getElem? hm)) (by decide), ?_⟩
        refine cs_yes fm0 trivial hD e1 hA hlen (by omega) (Fx.refl trivial) ?_
        show acc ++ [V.int (u * m)] = _
        rw [hp]
        match i, hm with
        | 0, hm => rw [← Option.some.inj hm]; rfl
        | 1, hm => rw [← Option.some.inj hm]; rfl
        | 2, hm => rw [← Option.some.inj hm]; rfl
      · exact ⟨D, rfl, e1, by rw [hA, hp]; rfl⟩
    rintro σ H1 ⟨F, rfl, e1, hF⟩
    refine ⟨fun σ H' => ∃ F : Addr, σ = [some (.ref t), some (.ref l), some (.ref r), some (.ref F), none, none, none, none, none] ∧ Ex0 H H' ∧ H' F = some (.lst ((adm v [u * v, u * z, u * s'] [0, x, y]).map V.int)), ?_, ?_⟩
    · have hl1 := Ex0.ti e1 hl
      refine ⟨_, rfl, _, rfl, l, _, 1, .int x, rfl, rfl, SqT.of hl1, rfl, _, rfl, l, _, 2, .int y, rfl, rfl, SqT.of hl1, rfl, sl3, fun t0 n0 => ?_⟩
      have e2 : Ex0 H1 (upd H1 t0 (.tup [.int 0, .int x, .int y])) := Ex0.new n0
      have hF2 := Ex0.ap e2 hF
      have hZ : Ti (upd H1 t0 (.tup [.int 0, .int x, .int y])) t0 [0, x, y] := upd_same
      have hr2 := Ex0.ti e2 (Ex0.ti e1 hr')
      generalize upd H1 t0 (.tup [.int 0, .int x, .int y]) = H2 at e2 hF2 hZ hr2 ⊢
      refine ⟨F, t0, _, _, rfl, SqL.of hF2, SqT.of hZ, ?_⟩
      refine lcP (walk_zipK (K := K) (k1 := false) (k2 := true) (xs := ([u * v, u * z, u * s'] : List Int).map V.int) (ys := ([0, x, y] : List Int).map V.int) rfl) fm0 trivial (fun H' e => ⟨SqL.of (Ex0.ap e hF2), SqT.of (Ex0.ti e hZ)⟩) (fun i acc _ => acc = ((adm v [u * v, u * z, u * s'] [0, x, y]).take i).map V.int) (fun _ _ => rfl) (fun D i T x1 y1 acc H' hD hi fx fy e3 hA hlen hp hT => ?_) (fun D H' acc hD e3 hA hp => ?_)
      · obtain ⟨rfl, hi1⟩ := get_D fx
        obtain ⟨rfl, hi2⟩ := get_D fy
        have bz2 : B 9000 (([0, x, y] : List Int).getD i 0) := by
          match i, hi2 with
          | 0, _ => exact B0 (by decide)
          | 1, _ => exact bx
          | 2, _ => exact by'
        refine ⟨T, _, rfl, SqT.of upd_same, rfl, _, _, rfl, _, _, rfl, rfl, ⟨rfl, ?_⟩⟩
        refine ⟨_, rfl, _, rfl, r, _, 0, .int v, rfl, rfl, SqT.of (Ex0.ti (Ex0.new hT) (Ex0.ti e3 hr2)), rfl, _, rfl, _, _, rfl, rfl, mulB bv bz2 (by decide), _, _, rfl, rfl, ?_⟩
        refine cs_yes fm0 trivial hD e3 hA hlen (by have : i < 3 := hi1; omega) (Ex0.new hT) ?_
        rw [hp]
        exact adm_step hi1 hi2
      · exact ⟨D, rfl, (e1.trans e2).trans e3, by rw [hA, hp]; rfl⟩
    rintro σ H2 ⟨F, rfl, e2, hF⟩
    refine ⟨fun σ H' => ∃ G : Addr, σ = [some (.ref t), some (.ref l), some (.ref r), some (.ref F), some (.ref G), none, none, none, none] ∧ Ex0 H2 H' ∧ Ti H' G [x * z, x * s' + y * z, y * s'], ?_, ?_⟩
    · have q1 := SqT.of (K := K) (Ex0.ti e2 hl)
      have q2 := SqT.of (K := K) (Ex0.ti e2 hr')
      refine ⟨_, rfl, l, _, 1, .int x, rfl, rfl, q1, rfl, _, rfl, r, _, 1, .int z, rfl, rfl, q2, rfl, _, _, rfl, rfl, mulB bx bz (by decide), ?_⟩
      refine ⟨_, rfl, l, _, 1, .int x, rfl, rfl, q1, rfl, _, rfl, r, _, 2, .int s', rfl, rfl, q2, rfl, _, _, rfl, rfl, mulB bx bs (by decide), ?_⟩
      refine ⟨_, rfl, l, _, 2, .int y, rfl, rfl, q1, rfl, _, rfl, r, _, 1, .int z, rfl, rfl, q2, rfl, _, _, rfl, rfl, mulB by' bz (by decide), _, _, rfl, rfl, ?_⟩
      refine ⟨_, rfl, l, _, 2, .int y, rfl, rfl, q1, rfl, _, rfl, r, _, 2, .int s', rfl, rfl, q2, rfl, _, _, rfl, rfl, mulB by' bs (by decide), sl3, fun G nG => ?_⟩
      exact ⟨G, rfl, Ex0.new nG, upd_same⟩
    rintro σ H3 ⟨G, rfl, e3, hG⟩
    have e23 := e2.trans e3
    obtain ⟨T1, T2, T3, k0, k1, k2, k3⟩ := Ex0.l33 e23 ht
    have hF3 := Ex0.ap e3 hF
    have bG : ∀ i, i < 3 → B 20000 (([x * z, x * s' + y * z, y * s'] : List Int).getD i 0) := fun i hi => by
      match i, hi with
      | 0, _ => exact (B.mul bx bz).mono (by decide)
      | 1, _ => exact (B.pl (B.mul bx bs) (B.mul by' bz)).mono (by decide)
      | 2, _ => exact (B.mul by' bs).mono (by decide)
    refine ⟨_, rfl, _, rfl, G, t, _, _, rfl, SqT.of hG, SqL.of k0, ?_⟩
    refine for_P (walk_zipK (K := K) (k1 := true) (k2 := false) (xs := ([x * z, x * s' + y * z, y * s'] : List Int).map V.int) (ys := [.ref T1, .ref T2, .ref T3]) rfl) (fun i σ H' => ∃ (F : Addr) (y5 y6 : Option V), σ = [some (.ref t), some (.ref l), some (.ref r), some (.ref F), some (.ref G), y5, y6, none, none] ∧ Ex0 H3 H' ∧ i ≤ 3 ∧ H' F = some (.lst ((mxN u x y v z s' [[a, b, c], [d, e, f], [g, h', i0]] i).map V.int))) ⟨F, none, none, rfl, Ex0.refl _, by decide, hF3⟩ (fun i σ H' _ ⟨_, _, _, _, e, _⟩ => ⟨SqT.of (Ex0.ti e hG), SqL.of (Ex0.ap e k0)⟩) ?_ ?_
    · rintro i T x1 y1 σ H4 hi fx fy ⟨F, y5, y6, rfl, e4, i3, hF4⟩ hT
      obtain ⟨rfl, hi1⟩ := get_D fx
      have hi3 : i < 3 := hi1
      have row : ∃ (t' : Addr), y1 = .ref t' ∧ Ti H4 t' (([[a, b, c], [d, e, f], [g, h', i0]] : List (List Int)).getD i []) := by
        match i, hi3, fy with
        | 0, _, fy => exact ⟨T1, (Option.some.inj fy).symm, Ex0.ti e4 k1⟩
        | 1, _, fy => exact ⟨T2, (Option.some.inj fy).symm, Ex0.ti e4 k2⟩
        | 2, _, fy => exact ⟨T3, (Option.some.inj fy).symm, Ex0.ti e4 k3⟩
      obtain ⟨t', rfl, hrow⟩ := row
      have rl : (([[a, b, c], [d, e, f], [g, h', i0]] : List (List Int)).getD i []).length = 3 := by
        match i, hi3 with
        | 0, _ => rfl
        | 1, _ => rfl
        | 2, _ => rfl
      have rm : (([[a, b, c], [d, e, f], [g, h', i0]] : List (List Int)).getD i []) ∈ [[a, b, c], [d, e, f], [g, h', i0]] := by
        match i, hi3 with
        | 0, _ => simp
        | 1, _ => simp
        | 2, _ => simp
      have ml := mxN_len (u := u) (x := x) (y := y) (v := v) (z := z) (s := s') (r1 := [a, b, c]) (r2 := [d, e, f]) (r3 := [g, h', i0]) rfl rfl rfl i i3
      have bg := bG i hi3
      refine ⟨T, _, rfl, SqT.of upd_same, rfl, _, _, rfl, _, _, rfl, rfl, ?_⟩
      have e5 : Ex0 H4 (upd H4 T (.tup [.int (([x * z, x * s' + y * z, y * s'] : List Int).getD i 0), .ref t'])) := Ex0.new hT
      have hF5 := Ex0.ap e5 hF4
      have hrow5 := Ex0.ti e5 hrow
      have ms : mxN u x y v z s' [[a, b, c], [d, e, f], [g, h', i0]] (i + 1) = adm (([x * z, x * s' + y * z, y * s'] : List Int).getD i 0) (mxN u x y v z s' [[a, b, c], [d, e, f], [g, h', i0]] i) (([[a, b, c], [d, e, f], [g, h', i0]] : List (List Int)).getD i []) := rfl
      generalize upd H4 T (.tup [.int (([x * z, x * s' + y * z, y * s'] : List Int).getD i 0), .ref t']) = H5 at e5 hF5 hrow5 ⊢
      have br := bR _ rm
      generalize (([[a, b, c], [d, e, f], [g, h', i0]] : List (List Int)).getD i []) = ys at hrow5 rl ms br
      generalize hfa : (([x * z, x * s' + y * z, y * s'] : List Int).getD i 0) = fa at bg ms ⊢
      generalize hxs : mxN u x y v z s' [[a, b, c], [d, e, f], [g, h', i0]] i = xs at hF5 ml ms
      refine ⟨_, rfl, _, rfl, F, t', _, _, rfl, SqL.of hF5, SqT.of hrow5, ?_⟩
      refine lcP (walk_zipK (K := K) (k1 := false) (k2 := true) (by rw [List.length_map, List.length_map, ml, rl])) fm0 trivial (fun H' e => ⟨SqL.of (Ex0.ap e hF5), SqT.of (Ex0.ti e hrow5)⟩) (fun i acc _ => acc = ((adm fa xs ys).take i).map V.int) (fun _ _ => rfl) (fun D i T x1 y1 acc H' hD hi fx fy e6 hA hlen hp hT => ?_) (fun D H' acc hD e6 hA hp => ?_)
      · obtain ⟨rfl, hi1⟩ := get_D fx
        obtain ⟨rfl, hi2⟩ := get_D fy
        refine ⟨T, _, rfl, SqT.of upd_same, rfl, _, _, rfl, _, _, rfl, rfl, ⟨rfl, ?_⟩⟩
        refine ⟨_, rfl, _, rfl, _, rfl, _, _, rfl, rfl, mulB bg (br _ (gD_mem hi2)) (by decide), _, _, rfl, rfl, ?_⟩
        refine cs_yes fm0 trivial hD e6 hA hlen (by omega) (Ex0.new hT) ?_
        rw [hp]
        exact adm_step hi1 hi2
      · refine ⟨D, _, _, rfl, (e4.trans e5).trans e6, by omega, ?_⟩
        rw [hA, hp, ms, List.length_map, List.take_of_length_le (by unfold adm; rw [List.length_zipWith]; omega)]
    · rintro σ H4 ⟨F, y5, y6, rfl, e4, i3, hF4⟩
      refine ⟨_, rfl, F, _, rfl, .inl ⟨SqL.of hF4, fun p np => ?_⟩⟩
      refine q p _ ((e23.trans e4).trans (Ex0.new np)) ?_
      rw [← mxN_3]
      exact upd_same
theorem ok_l_images (T : Txt K mg C_Form C_Ring C_Element) : Def P w K mg base 2 "_law_images" ["_law_rows_here", "_law_one"] (sp_l_images K C_Form C_Ring C_Element) := by
  obtain ⟨f_, fd_, g_, F_⟩ := T.d_l_images
  obtain ⟨f_l_mixed, fd_l_mixed, g_l_mixed, k_l_mixed, b_l_mixed, G_l_mixed⟩ := (ok_l_mixed (P := P) (w := w) (base := base) T)
  refine ⟨f_, fd_, g_, F_.kp, F_.binds (ps := ["_law_rows_here", "_law_one"]) (fun _ _ _ _ _ _ us hl => match us, hl with | [_, _], _ => rfl), ?_⟩
  refine F_.ok sc_l_images (fun vs H Q E h => ?_) (fun cdv A outer s H vs Q E hr h => ?_)
  · first | (obtain ⟨rfl, _⟩ := h; rfl) | (obtain ⟨_, rfl, _⟩ := h; rfl) | (obtain ⟨_, _, rfl, _⟩ := h; rfl) | (obtain ⟨_, _, _, rfl, _⟩ := h; rfl) | (obtain ⟨_, _, _, _, rfl, _⟩ := h; rfl) | (obtain ⟨_, _, _, _, _, rfl, _⟩ := h; rfl) | (obtain ⟨_, _, _, _, _, _, rfl, _⟩ := h; rfl) | (obtain ⟨_, _, _, _, _, _, _, rfl, _⟩ := h; rfl) | (obtain ⟨_, _, _, _, _, _, _, _, rfl, _⟩ := h; rfl) | (obtain ⟨_, _, _, _, _, _, _, _, _, rfl, _⟩ := h; rfl) | (obtain ⟨_, _, _, _, _, _, _, _, _, _, rfl, _⟩ := h; rfl) | (obtain ⟨_, _, _, _, _, _, _, _, _, _, _, rfl, _⟩ := h; rfl) | (obtain ⟨_, _, _, _, _, _, _, _, _, _, _, _, rfl, _⟩ := h; rfl) | (obtain ⟨_, _, _, _, _, _, _, _, _, _, _, _, _, rfl, _⟩ := h; rfl) | (obtain ⟨_, _, _, _, _, _, _, _, _, _, _, _, _, _, rfl, _⟩ := h; rfl) | (obtain ⟨_, _, _, _, _, _, _, _, _, _, _, _, _, _, _, rfl, _⟩ := h; rfl) | (obtain ⟨_, _, _, _, _, _, _, _, _, _, _, _, _, _, _, _, rfl, _⟩ := h; rfl) | (obtain ⟨_, _, _, _, _, _, _, _, _, _, _, _, _, _, _, _, _, rfl, _⟩ := h; rfl) | (obtain ⟨_, _, _, _, _, _, _, _, _, _, _, _, _, _, _, _, _, _, rfl, _⟩ := h; rfl) | (obtain ⟨_, _, _, _, _, _, _, _, _, _, _, _, _, _, _, _, _, _, _, rfl, _⟩ := h; rfl) | (obtain ⟨_, _, _, _, _, _, _, _, _, _, _, _, _, _, _, _, _, _, _, _, rfl, _⟩ := h; rfl) | (obtain ⟨_, _, _, _, _, _, _, _, _, _, _, _, _, _, _, _, _, _, _, _, _, rfl, _⟩ := h; rfl) | (obtain ⟨_, _, _, _, _, _, _, _, _, _, _, _, _, _, _, _, _, _, _, _, _, _, rfl, _⟩ := h; rfl) | (obtain ⟨_, _, _, _, _, _, _, _, _, _, _, _, _, _, _, _, _, _, _, _, _, _, _, rfl, _⟩ := h; rfl)
  · obtain ⟨t, l, a, b, c, d, e, f, g, h', i, u, x, y, rfl, ht, hl, b1, b2, b3, bu, q⟩ := h
    refine ⟨_, (pss_one (ps_ret (pe_lst (pa_cons (pv 1) (pa_cons (pe_call G_l_mixed (hr.mono (by decide)) (by rfl) g_l_mixed k_l_mixed b_l_mixed .nil pass0 (pa_cons (pv 0) (pa_cons (pv 1) (pa_cons (pe_tup (pa_cons pe_int (pa_cons pe_int (pa_cons pe_int pa_nil)))) pa_nil)))) (pa_cons (pe_call G_l_mixed (hr.mono (by decide)) (by rfl) g_l_mixed k_l_mixed b_l_mixed .nil pass0 (pa_cons (pv 0) (pa_cons (pv 1) (pa_cons (pe_tup (pa_cons pe_int (pa_cons pe_int (pa_cons pe_int pa_nil)))) pa_nil)))) pa_nil)))))), ?_⟩
    have z0 : B 1000 0 := B0 (by decide)
    have z1 : B 1000 1 := ⟨by decide, by decide⟩
    refine ⟨_, rfl, _, rfl, _, rfl, sl3, fun t1 n1 => ?_⟩
    have e1 : Ex0 H (upd H t1 (.tup [.int 0, .int 1, .int 0])) := Ex0.new n1
    refine ⟨t, l, t1, a, b, c, d, e, f, g, h', i, u, x, y, 0, 1, 0, rfl, Ex0.l33 e1 ht, Ex0.ti e1 hl, upd_same, b1, b2, b3, bu, ⟨z0, z1, z0⟩, fun o1 H1 e2 h1 => ?_⟩
    refine ⟨_, rfl, _, rfl, sl3, fun t2 n2 => ?_⟩
    have e3 : Ex0 H1 (upd H1 t2 (.tup [.int 0, .int 0, .int 1])) := Ex0.new n2
    have e123 := (e1.trans e2).trans e3
    refine ⟨t, l, t2, a, b, c, d, e, f, g, h', i, u, x, y, 0, 0, 1, rfl, Ex0.l33 e123 ht, Ex0.ti e123 hl, upd_same, b1, b2, b3, bu, ⟨z0, z0, z1⟩, fun o2 H2 e4 h2 => ?_⟩
    refine ⟨sl3, fun L nL => ?_⟩
    have e5 : Ex0 H2 (upd H2 L (.lst [.ref l, .ref o1, .ref o2])) := Ex0.new nL
    exact q L _ ((e123.trans e4).trans e5) ⟨l, o1, o2, upd_same, Ex0.ti ((e123.trans e4).trans e5) hl, Ex0.ti ((e3.trans e4).trans e5) h1, Ex0.ti e5 h2⟩
end
end K13
namespace K13
open PySem PySem.Spec PyProof.Rows L2 Fr
def Fs (a b p q : Int) : Prop := ∃ g : Int, a = g * p ∧ b = g * q ∧ 0 < q ∧ Nat.gcd p.natAbs q.natAbs = 1
def sp_l_share (_ : PySem.W.Frag) (_ _ _ : Addr) : Sp := fun vs H Q _ => ∃ (i j : Int), vs = [.int i, .int j] ∧ Q (.int ((Nat.gcd i.natAbs j.natAbs : Nat) : Int)) H
def sp_l_fraction (_ : PySem.W.Frag) (_ _ _ : Addr) : Sp := fun vs H Q _ => ∃ (a b : Int), vs = [.int a, .int b] ∧ b ≠ 0 ∧ B 3000 b ∧ ∀ x H' p q, Fs a b p q → Ex0 H H' → Ti H' x [p, q] → Q (.ref x) H'
def sp_l_opposite (_ : PySem.W.Frag) (_ _ _ : Addr) : Sp := fun vs H Q _ => ∃ (t : Addr) (p q : Int), vs = [.ref t] ∧ Ti H t [p, q] ∧ ∀ x H', Ex0 H H' → Ti H' x [0 - p, q] → Q (.ref x) H'
def sp_l_times (_ : PySem.W.Frag) (_ _ _ : Addr) : Sp := fun vs H Q _ => ∃ (t t' : Addr) (p q r s : Int), vs = [.ref t, .ref t'] ∧ Ti H t [p, q] ∧ Ti H t' [r, s] ∧ B 9000 p ∧ B 9000 r ∧ B 1000 q ∧ B 1000 s ∧ q * s ≠ 0 ∧ ∀ x H' v w, Fs (p * r) (q * s) v w → Ex0 H H' → Ti H' x [v, w] → Q (.ref x) H'
def sp_l_three (_ : PySem.W.Frag) (_ _ _ : Addr) : Sp := fun vs H Q _ => ∃ (t l : Addr) (a b c d u y z e : Int), vs = [.ref t, .ref l, .int e] ∧ L33 H t (w1 a b c d) (w2 a b c d) (w3 a b c d) ∧ Ti H l [u, y, z] ∧ B4 1000 a b c d ∧ B3 9000 u y z ∧ e ≠ 0 ∧ B 900 e ∧ ∀ o H' p1 q1 p2 q2 p3 q3, Fs (qA a b c d u y z) e p1 q1 → Fs (qB a b c d u y z) (e * e) p2 q2 → Fs (qC a b c d u y z) (e * e * e) p3 q3 → Ex0 H H' → L33 H' o [p1, q1] [p2, q2] [p3, q3] → Q (.ref o) H'
def sp_l_drawn (_ : PySem.W.Frag) (_ _ _ : Addr) : Sp := fun vs H Q _ => ∃ c : Addr, vs = [.ref c] ∧ Vat c H ∧ ∀ o t u y z b H', Fv c H H' → H' o = some (.tup [.ref t, .int b]) → Ti H' t [u, y, z] → u.natAbs ≤ 6000000 → y.natAbs ≤ 6000000 → z.natAbs ≤ 6000000 → b ≠ 0 → b.natAbs ≤ 6000000000000000 → Q (.ref o) H'
theorem Fq.s {a b p q : Int} (h : Fq a b p q) (hb : 0 < b) : Fs a b p q := by
  obtain ⟨g, g0, h1, h2, h3⟩ := h
  refine ⟨g, h1, h2, ?_, h3⟩
  rcases Int.lt_or_le 0 q with k | k
  · exact k
  · have := Int.mul_nonneg (show 0 ≤ g by omega) (show 0 ≤ -q by omega)
    rw [Int.mul_neg] at this
    omega
section
variable {P : Program} {w : World} {K : PySem.W.Frag} {mg : Str → Option Value} {base : Heap} {C_Form C_Ring C_Element : Addr}
theorem ok_l_share (T : Txt K mg C_Form C_Ring C_Element) : Def P w K mg base 1 "_law_share" ["_law_one", "_law_other"] (sp_l_share K C_Form C_Ring C_Element) := by
  obtain ⟨f_, fd_, g_, F_⟩ := T.d_l_share
  refine ⟨f_, fd_, g_, F_.kp, F_.binds (ps := ["_law_one", "_law_other"]) (fun _ _ _ _ _ _ us hl => match us, hl with | [_, _], _ => rfl), ?_⟩
  refine F_.ok sc_l_share (fun vs H Q E h => ?_) (fun cdv A outer s H vs Q E hr h => ?_)
  · first | (obtain ⟨rfl, _⟩ := h; rfl) | (obtain ⟨_, rfl, _⟩ := h; rfl) | (obtain ⟨_, _, rfl, _⟩ := h; rfl) | (obtain ⟨_, _, _, rfl, _⟩ := h; rfl) | (obtain ⟨_, _, _, _, rfl, _⟩ := h; rfl) | (obtain ⟨_, _, _, _, _, rfl, _⟩ := h; rfl) | (obtain ⟨_, _, _, _, _, _, rfl, _⟩ := h; rfl) | (obtain ⟨_, _, _, _, _, _, _, rfl, _⟩ := h; rfl) | (obtain ⟨_, _, _, _, _, _, _, _, rfl, _⟩ := h; rfl) | (obtain ⟨_, _, _, _, _, _, _, _, _, rfl, _⟩ := h; rfl) | (obtain ⟨_, _, _, _, _, _, _, _, _, _, rfl, _⟩ := h; rfl) | (obtain ⟨_, _, _, _, _, _, _, _, _, _, _, rfl, _⟩ := h; rfl) | (obtain ⟨_, _, _, _, _, _, _, _, _, _, _, _, rfl, _⟩ := h; rfl) | (obtain ⟨_, _, _, _, _, _, _, _, _, _, _, _, _, rfl, _⟩ := h; rfl) | (obtain ⟨_, _, _, _, _, _, _, _, _, _, _, _, _, _, rfl, _⟩ := h; rfl) | (obtain ⟨_, _, _, _, _, _, _, _, _, _, _, _, _, _, _, rfl, _⟩ := h; rfl) | (obtain ⟨_, _, _, _, _, _, _, _, _, _, _, _, _, _, _, _, rfl, _⟩ := h; rfl) | (obtain ⟨_, _, _, _, _, _, _, _, _, _, _, _, _, _, _, _, _, rfl, _⟩ := h; rfl) | (obtain ⟨_, _, _, _, _, _, _, _, _, _, _, _, _, _, _, _, _, _, rfl, _⟩ := h; rfl) | (obtain ⟨_, _, _, _, _, _, _, _, _, _, _, _, _, _, _, _, _, _, _, rfl, _⟩ := h; rfl) | (obtain ⟨_, _, _, _, _, _, _, _, _, _, _, _, _, _, _, _, _, _, _, _, rfl, _⟩ := h; rfl) | (obtain ⟨_, _, _, _, _, _, _, _, _, _, _, _, _, _, _, _, _, _, _, _, _, rfl, _⟩ := h; rfl) | (obtain ⟨_, _, _, _, _, _, _, _, _, _, _, _, _, _, _, _, _, _, _, _, _, _, rfl, _⟩ := h; rfl) | (obtain ⟨_, _, _, _, _, _, _, _, _, _, _, _, _, _, _, _, _, _, _, _, _, _, _, rfl, _⟩ := h; rfl)
  · obtain ⟨i, j, rfl, q⟩ := h
    refine ⟨_, (pss_cons (ps_par (i := 0) (j := 1) (by rfl) sc_l_share.nd rfl rfl (by decide) rfl rfl (pa_cons (pe_callB call_abs (by rfl) T.b_abs (by decide +kernel) (pa_cons (pv 0) pa_nil)) (pa_cons (pe_callB call_abs (by rfl) T.b_abs (by decide +kernel) (pa_cons (pv 1) pa_nil)) pa_nil)) (by rfl))
    (pss_cons (ps_while PassesOwn.never (pt_cmpR op_gt (pv 1) pe_int (nomark _))
      (pss_one (ps_par (i := 0) (j := 1) (by rfl) sc_l_share.nd rfl rfl (by decide) rfl rfl (pa_cons (pv 1) (pa_cons (pe_op op_mod (pv 0) (pv 1)) pa_nil)) (by rfl))))
    (pss_one (ps_ret (pv 0))))), ?_⟩
    have ab : ∀ z : Int, (if z < 0 then -z else z) = (z.natAbs : Int) := fun z => by
      by_cases h : z < 0
      · rw [if_pos h]; omega
      · rw [if_neg h]; omega
    refine ⟨_, rfl, i, rfl, _, rfl, j, rfl, _, _, rfl, ?_⟩
    rw [ab, ab]
    refine ⟨fun m σ H' => ∃ x y : Nat, σ = [some (.int (x : Int)), some (.int (y : Int))] ∧ H' = H ∧ Nat.gcd x y = Nat.gcd i.natAbs j.natAbs ∧ m = y, ⟨_, _, _, rfl, rfl, rfl, rfl⟩, ?_⟩
    rintro m σ H' ⟨x, y, rfl, rfl, hg, rfl⟩
    refine ⟨_, rfl, _, _, rfl, rfl, _, rfl, iteD (fun g => ?_) (fun g => ?_)⟩
    · refine ⟨fun σ' H'' => ∃ x' y' : Nat, σ' = [some (.int (x' : Int)), some (.int (y' : Int))] ∧ H'' = H' ∧ Nat.gcd x' y' = Nat.gcd i.natAbs j.natAbs ∧ y' < m, fun σ' H'' ⟨x', y', e1, e2, e3, e4⟩ => ⟨y', e4, x', y', e1, e2, e3, rfl⟩, ?_⟩
      refine ⟨_, rfl, _, rfl, _, rfl, (x : Int), (m : Int), rfl, rfl, g, _, _, rfl, ?_⟩
      refine ⟨m, x % m, rfl, rfl, ?_, Nat.mod_lt _ (by omega)⟩
      rw [← hg, Nat.gcd_comm x m, Nat.gcd_rec m x, Nat.gcd_comm]
    · have : m = 0 := by omega
      subst this
      refine ⟨_, rfl, ?_⟩
      rw [Nat.gcd_zero_right] at hg
      rw [hg]
      exact q
theorem ok_l_fraction (T : Txt K mg C_Form C_Ring C_Element) : Def P w K mg base 2 "_law_fraction" ["_law_top", "_law_bottom"] (sp_l_fraction K C_Form C_Ring C_Element) := by
  obtain ⟨f_, fd_, g_, F_⟩ := T.d_l_fraction
  obtain ⟨f_l_share, fd_l_share, g_l_share, k_l_share, b_l_share, G_l_share⟩ := (ok_l_share (P := P) (w := w) (base := base) T)
  refine ⟨f_, fd_, g_, F_.kp, F_.binds (ps := ["_law_top", "_law_bottom"]) (fun _ _ _ _ _ _ us hl => match us, hl with | [_, _], _ => rfl), ?_⟩
  refine F_.ok sc_l_fraction (fun vs H Q E h => ?_) (fun cdv A outer s H vs Q E hr h => ?_)
  · first | (obtain ⟨rfl, _⟩ := h; rfl) | (obtain ⟨_, rfl, _⟩ := h; rfl) | (obtain ⟨_, _, rfl, _⟩ := h; rfl) | (obtain ⟨_, _, _, rfl, _⟩ := h; rfl) | (obtain ⟨_, _, _, _, rfl, _⟩ := h; rfl) | (obtain ⟨_, _, _, _, _, rfl, _⟩ := h; rfl) | (obtain ⟨_, _, _, _, _, _, rfl, _⟩ := h; rfl) | (obtain ⟨_, _, _, _, _, _, _, rfl, _⟩ := h; rfl) | (obtain ⟨_, _, _, _, _, _, _, _, rfl, _⟩ := h; rfl) | (obtain ⟨_, _, _, _, _, _, _, _, _, rfl, _⟩ := h; rfl) | (obtain ⟨_, _, _, _, _, _, _, _, _, _, rfl, _⟩ := h; rfl) | (obtain ⟨_, _, _, _, _, _, _, _, _, _, _, rfl, _⟩ := h; rfl) | (obtain ⟨_, _, _, _, _, _, _, _, _, _, _, _, rfl, _⟩ := h; rfl) | (obtain ⟨_, _, _, _, _, _, _, _, _, _, _, _, _, rfl, _⟩ := h; rfl) | (obtain ⟨_, _, _, _, _, _, _, _, _, _, _, _, _, _, rfl, _⟩ := h; rfl) | (obtain ⟨_, _, _, _, _, _, _, _, _, _, _, _, _, _, _, rfl, _⟩ := h; rfl) | (obtain ⟨_, _, _, _, _, _, _, _, _, _, _, _, _, _, _, _, rfl, _⟩ := h; rfl) | (obtain ⟨_, _, _, _, _, _, _, _, _, _, _, _, _, _, _, _, _, rfl, _⟩ := h; rfl) | (obtain ⟨_, _, _, _, _, _, _, _, _, _, _, _, _, _, _, _, _, _, rfl, _⟩ := h; rfl) | (obtain ⟨_, _, _, _, _, _, _, _, _, _, _, _, _, _, _, _, _, _, _, rfl, _⟩ := h; rfl) | (obtain ⟨_, _, _, _, _, _, _, _, _, _, _, _, _, _, _, _, _, _, _, _, rfl, _⟩ := h; rfl) | (obtain ⟨_, _, _, _, _, _, _, _, _, _, _, _, _, _, _, _, _, _, _, _, _, rfl, _⟩ := h; rfl) | (obtain ⟨_, _, _, _, _, _, _, _, _, _, _, _, _, _, _, _, _, _, _, _, _, _, rfl, _⟩ := h; rfl) | (obtain ⟨_, _, _, _, _, _, _, _, _, _, _, _, _, _, _, _, _, _, _, _, _, _, _, rfl, _⟩ := h; rfl)
  · obtain ⟨a, b, rfl, hb, bb, q⟩ := h
    refine ⟨_, (pss_cons (ps_set (i := 2) sc_l_fraction.nd rfl (.inl rfl) (pe_call G_l_share (hr.mono (by decide)) (by rfl) g_l_share k_l_share b_l_share .nil pass0 (pa_cons (pv 0) (pa_cons (pv 1) pa_nil))))
    (Evl.pss_cut (ps_set (i := 2) sc_l_fraction.nd rfl (.inl rfl) (pe_ifExp (pt_cmpR op_gt (pv 1) pe_int (nomark _)) (pv 2) (pe_op op_sub pe_int (pv 2))))
    (pss_one (ps_ret (pe_tup (pa_cons (pe_op op_fdivNW (pv 0) (pv 2)) (pa_cons (pe_op op_fdivNW (pv 1) (pv 2)) pa_nil))))))), ?_⟩
    obtain ⟨p, r, g0, e1, e2, e3⟩ := gcd_out (a := a) (b := b) hb
    have gl : Nat.gcd a.natAbs b.natAbs ≤ b.natAbs := Nat.gcd_le_right _ (by omega)
    have bg : B 3000 ((Nat.gcd a.natAbs b.natAbs : Nat) : Int) := ⟨Nat.lt_of_le_of_lt gl bb.1, by decide⟩
    refine ⟨_, rfl, _, rfl, a, b, rfl, ?_⟩
    refine ⟨fun σ H' => ∃ g p' r' : Int, σ = [some (.int a), some (.int b), some (.int g)] ∧ H' = H ∧ g ≠ 0 ∧ B 3000 g ∧ a = g * p' ∧ b = g * r' ∧ 0 < r' ∧ Nat.gcd p'.natAbs r'.natAbs = 1, ?_, ?_⟩
    · refine ⟨_, rfl, _, _, rfl, rfl, _, rfl, iteD (fun k => ?_) (fun k => ?_)⟩
      · refine ⟨_, rfl, _, p, r, rfl, rfl, by omega, bg, e1, e2, ?_, e3⟩
        rcases Int.lt_or_le 0 r with k2 | k2
        · exact k2
        · have := Int.mul_nonneg (show (0 : Int) ≤ (Nat.gcd a.natAbs b.natAbs : Nat) by omega) (show 0 ≤ -r by omega)
          rw [Int.mul_neg] at this
          omega
      · refine ⟨_, rfl, _, _, rfl, rfl, _, -p, -r, rfl, rfl, by omega, ?_, ?_, ?_, ?_, ?_⟩
        · rw [Int.zero_sub]
          exact bg.neg
        · rw [Int.zero_sub, Int.neg_mul_neg]
          exact e1
        · rw [Int.zero_sub, Int.neg_mul_neg]
          exact e2
        · rcases Int.lt_or_le r 0 with k2 | k2
          · omega
          · have := Int.mul_nonneg (show (0 : Int) ≤ (Nat.gcd a.natAbs b.natAbs : Nat) by omega) k2
            omega
        · rw [Int.natAbs_neg, Int.natAbs_neg]
          exact e3
    rintro σ H' ⟨g, p', r', rfl, rfl, g1, bg1, h1, h2, h3, h4⟩
    have dv : ∀ n m : Int, n = g * m → n.fdiv g = m := fun n m h => by rw [h]; exact Int.mul_fdiv_cancel_left m g1
    have cd : ∀ n : Int, CDivNW n g := fun n => ⟨g1, by have := log_lt bg1.1 bg1.2; omega⟩
    refine ⟨_, rfl, _, rfl, _, _, rfl, rfl, cd a, _, rfl, _, rfl, _, _, rfl, rfl, cd b, sl2, fun x nx => ?_⟩
    refine q x _ p' r' ⟨g, h1, h2, h3, h4⟩ (Ex0.new nx) ?_
    show upd H' x (.tup [.int (a.fdiv g), .int (b.fdiv g)]) x = some (.tup ([p', r'].map V.int))
    rw [dv _ _ h1, dv _ _ h2]
    exact upd_same
theorem ok_l_opposite (T : Txt K mg C_Form C_Ring C_Element) : Def P w K mg base 1 "_law_opposite" ["_law_pair"] (sp_l_opposite K C_Form C_Ring C_Element) := by
  obtain ⟨f_, fd_, g_, F_⟩ := T.d_l_opposite
  refine ⟨f_, fd_, g_, F_.kp, F_.binds (ps := ["_law_pair"]) (fun _ _ _ _ _ _ us hl => match us, hl with | [_], _ => rfl), ?_⟩
  refine F_.ok sc_l_opposite (fun vs H Q E h => ?_) (fun cdv A outer s H vs Q E hr h => ?_)
  · first | (obtain ⟨rfl, _⟩ := h; rfl) | (obtain ⟨_, rfl, _⟩ := h; rfl) | (obtain ⟨_, _, rfl, _⟩ := h; rfl) | (obtain ⟨_, _, _, rfl, _⟩ := h; rfl) | (obtain ⟨_, _, _, _, rfl, _⟩ := h; rfl) | (obtain ⟨_, _, _, _, _, rfl, _⟩ := h; rfl) | (obtain ⟨_, _, _, _, _, _, rfl, _⟩ := h; rfl) | (obtain ⟨_, _, _, _, _, _, _, rfl, _⟩ := h; rfl) | (obtain ⟨_, _, _, _, _, _, _, _, rfl, _⟩ := h; rfl) | (obtain ⟨_, _, _, _, _, _, _, _, _, rfl, _⟩ := h; rfl) | (obtain ⟨_, _, _, _, _, _, _, _, _, _, rfl, _⟩ := h; rfl) | (obtain ⟨_, _, _, _, _, _, _, _, _, _, _, rfl, _⟩ := h; rfl) | (obtain ⟨_, _, _, _, _, _, _, _, _, _, _, _, rfl, _⟩ := h; rfl) | (obtain ⟨_, _, _, _, _, _, _, _, _, _, _, _, _, rfl, _⟩ := h; rfl) | (obtain ⟨_, _, _, _, _, _, _, _, _, _, _, _, _, _, rfl, _⟩ := h; rfl) | (obtain ⟨_, _, _, _, _, _, _, _, _, _, _, _, _, _, _, rfl, _⟩ := h; rfl) | (obtain ⟨_, _, _, _, _, _, _, _, _, _, _, _, _, _, _, _, rfl, _⟩ := h; rfl) | (obtain ⟨_, _, _, _, _, _, _, _, _, _, _, _, _, _, _, _, _, rfl, _⟩ := h; rfl) | (obtain ⟨_, _, _, _, _, _, _, _, _, _, _, _, _, _, _, _, _, _, rfl, _⟩ := h; rfl) | (obtain ⟨_, _, _, _, _, _, _, _, _, _, _, _, _, _, _, _, _, _, _, rfl, _⟩ := h; rfl) | (obtain ⟨_, _, _, _, _, _, _, _, _, _, _, _, _, _, _, _, _, _, _, _, rfl, _⟩ := h; rfl) | (obtain ⟨_, _, _, _, _, _, _, _, _, _, _, _, _, _, _, _, _, _, _, _, _, rfl, _⟩ := h; rfl) | (obtain ⟨_, _, _, _, _, _, _, _, _, _, _, _, _, _, _, _, _, _, _, _, _, _, rfl, _⟩ := h; rfl) | (obtain ⟨_, _, _, _, _, _, _, _, _, _, _, _, _, _, _, _, _, _, _, _, _, _, _, rfl, _⟩ := h; rfl)
  · obtain ⟨t, p, r, rfl, ht, q⟩ := h
    refine ⟨_, (pss_one (ps_ret (pe_tup (pa_cons (pe_op op_sub pe_int (pe_ix ix_tup (pv 0) pe_int (fun _ _ => rfl))) (pa_cons (pe_ix ix_tup (pv 0) pe_int (fun _ _ => rfl)) pa_nil))))), ?_⟩
    refine ⟨_, rfl, t, _, 0, .int p, rfl, rfl, SqT.of ht, rfl, _, _, rfl, rfl, _, rfl, t, _, 1, .int r, rfl, rfl, SqT.of ht, rfl, sl2, fun x nx => ?_⟩
    exact q x _ (Ex0.new nx) upd_same
theorem ok_l_times (T : Txt K mg C_Form C_Ring C_Element) : Def P w K mg base 3 "_law_times" ["_law_one", "_law_other"] (sp_l_times K C_Form C_Ring C_Element) := by
  obtain ⟨f_, fd_, g_, F_⟩ := T.d_l_times
  obtain ⟨f_l_fraction, fd_l_fraction, g_l_fraction, k_l_fraction, b_l_fraction, G_l_fraction⟩ := (ok_l_fraction (P := P) (w := w) (base := base) T)
  refine ⟨f_, fd_, g_, F_.kp, F_.binds (ps := ["_law_one", "_law_other"]) (fun _ _ _ _ _ _ us hl => match us, hl with | [_, _], _ => rfl), ?_⟩
  refine F_.ok sc_l_times (fun vs H Q E h => ?_) (fun cdv A outer s H vs Q E hr h => ?_)
  · first | (obtain ⟨rfl, _⟩ := h; rfl) | (obtain ⟨_, rfl, _⟩ := h; rfl) | (obtain ⟨_, _, rfl, _⟩ := h; rfl) | (obtain ⟨_, _, _, rfl, _⟩ := h; rfl) | (obtain ⟨_, _, _, _, rfl, _⟩ := h; rfl) | (obtain ⟨_, _, _, _, _, rfl, _⟩ := h; rfl) | (obtain ⟨_, _, _, _, _, _, rfl, _⟩ := h; rfl) | (obtain ⟨_, _, _, _, _, _, _, rfl, _⟩ := h; rfl) | (obtain ⟨_, _, _, _, _, _, _, _, rfl, _⟩ := h; rfl) | (obtain ⟨_, _, _, _, _, _, _, _, _, rfl, _⟩ := h; rfl) | (obtain ⟨_, _, _, _, _, _, _, _, _, _, rfl, _⟩ := h; rfl) | (obtain ⟨_, _, _, _, _, _, _, _, _, _, _, rfl, _⟩ := h; rfl) | (obtain ⟨_, _, _, _, _, _, _, _, _, _, _, _, rfl, _⟩ := h; rfl) | (obtain ⟨_, _, _, _, _, _, _, _, _, _, _, _, _, rfl, _⟩ := h; rfl) | (obtain ⟨_, _, _, _, _, _, _, _, _, _, _, _, _, _, rfl, _⟩ := h; rfl) | (obtain ⟨_, _, _, _, _, _, _, _, _, _, _, _, _, _, _, rfl, _⟩ := h; rfl) | (obtain ⟨_, _, _, _, _, _, _, _, _, _, _, _, _, _, _, _, rfl, _⟩ := h; rfl) | (obtain ⟨_, _, _, _, _, _, _, _, _, _, _, _, _, _, _, _, _, rfl, _⟩ := h; rfl) | (obtain ⟨_, _, _, _, _, _, _, _, _, _, _, _, _, _, _, _, _, _, rfl, _⟩ := h; rfl) | (obtain ⟨_, _, _, _, _, _, _, _, _, _, _, _, _, _, _, _, _, _, _, rfl, _⟩ := h; rfl) | (obtain ⟨_, _, _, _, _, _, _, _, _, _, _, _, _, _, _, _, _, _, _, _, rfl, _⟩ := h; rfl) | (obtain ⟨_, _, _, _, _, _, _, _, _, _, _, _, _, _, _, _, _, _, _, _, _, rfl, _⟩ := h; rfl) | (obtain ⟨_, _, _, _, _, _, _, _, _, _, _, _, _, _, _, _, _, _, _, _, _, _, rfl, _⟩ := h; rfl) | (obtain ⟨_, _, _, _, _, _, _, _, _, _, _, _, _, _, _, _, _, _, _, _, _, _, _, rfl, _⟩ := h; rfl)
  · obtain ⟨t, t', p, r, v, s', rfl, ht, ht', bp, bv, br, bs, hne, q⟩ := h
    refine ⟨_, (pss_one (ps_ret (pe_call G_l_fraction (hr.mono (by decide)) (by rfl) g_l_fraction k_l_fraction b_l_fraction .nil pass0 (pa_cons (pe_op op_mulW (pe_ix ix_tup (pv 0) pe_int (fun _ _ => rfl)) (pe_ix ix_tup (pv 1) pe_int (fun _ _ => rfl))) (pa_cons (pe_op op_mulW (pe_ix ix_tup (pv 0) pe_int (fun _ _ => rfl)) (pe_ix ix_tup (pv 1) pe_int (fun _ _ => rfl))) pa_nil))))), ?_⟩
    refine ⟨_, rfl, t, _, 0, .int p, rfl, rfl, SqT.of ht, rfl, _, rfl, t', _, 0, .int v, rfl, rfl, SqT.of ht', rfl, _, _, rfl, rfl, mulB bp bv (by decide), ?_⟩
    refine ⟨_, rfl, t, _, 1, .int r, rfl, rfl, SqT.of ht, rfl, _, rfl, t', _, 1, .int s', rfl, rfl, SqT.of ht', rfl, _, _, rfl, rfl, mulB br bs (by decide), ?_⟩
    exact ⟨_, _, rfl, hne, (B.mul br bs).mono (by decide), fun x H' v w h1 h2 h3 => q x H' v w h1 h2 h3⟩
theorem ok_l_three (T : Txt K mg C_Form C_Ring C_Element) : Def P w K mg base 3 "_law_three" ["_law_rows_here", "_law_entries", "_law_bottom"] (sp_l_three K C_Form C_Ring C_Element) := by
  obtain ⟨f_, fd_, g_, F_⟩ := T.d_l_three
  obtain ⟨f_l_det, fd_l_det, g_l_det, k_l_det, b_l_det, G_l_det⟩ := (ok_l_det (P := P) (w := w) (base := base) T)
  obtain ⟨f_l_fraction, fd_l_fraction, g_l_fraction, k_l_fraction, b_l_fraction, G_l_fraction⟩ := (ok_l_fraction (P := P) (w := w) (base := base) T)
  obtain ⟨f_l_images, fd_l_images, g_l_images, k_l_images, b_l_images, G_l_images⟩ := (ok_l_images (P := P) (w := w) (base := base) T)
  obtain ⟨f_l_minors, fd_l_minors, g_l_minors, k_l_minors, b_l_minors, G_l_minors⟩ := (ok_l_minors (P := P) (w := w) (base := base) T)
  refine ⟨f_, fd_, g_, F_.kp, F_.binds (ps := ["_law_rows_here", "_law_entries", "_law_bottom"]) (fun _ _ _ _ _ _ us hl => match us, hl with | [_, _, _], _ => rfl), ?_⟩
  refine F_.ok sc_l_three (fun vs H Q E h => ?_) (fun cdv A outer s H vs Q E hr h => ?_)
  · first | (obtain ⟨rfl, _⟩ := h; rfl) | (obtain ⟨_, rfl, _⟩ := h; rfl) | (obtain ⟨_, _, rfl, _⟩ := h; rfl) | (obtain ⟨_, _, _, rfl, _⟩ := h; rfl) | (obtain ⟨_, _, _, _, rfl, _⟩ := h; rfl) | (obtain ⟨_, _, _, _, _, rfl, _⟩ := h; rfl) | (obtain ⟨_, _, _, _, _, _, rfl, _⟩ := h; rfl) | (obtain ⟨_, _, _, _, _, _, _, rfl, _⟩ := h; rfl) | (obtain ⟨_, _, _, _, _, _, _, _, rfl, _⟩ := h; rfl) | (obtain ⟨_, _, _, _, _, _, _, _, _, rfl, _⟩ := h; rfl) | (obtain ⟨_, _, _, _, _, _, _, _, _, _, rfl, _⟩ := h; rfl) | (obtain ⟨_, _, _, _, _, _, _, _, _, _, _, rfl, _⟩ := h; rfl) | (obtain ⟨_, _, _, _, _, _, _, _, _, _, _, _, rfl, _⟩ := h; rfl) | (obtain ⟨_, _, _, _, _, _, _, _, _, _, _, _, _, rfl, _⟩ := h; rfl) | (obtain ⟨_, _, _, _, _, _, _, _, _, _, _, _, _, _, rfl, _⟩ := h; rfl) | (obtain ⟨_, _, _, _, _, _, _, _, _, _, _, _, _, _, _, rfl, _⟩ := h; rfl) | (obtain ⟨_, _, _, _, _, _, _, _, _, _, _, _, _, _, _, _, rfl, _⟩ := h; rfl) | (obtain ⟨_, _, _, _, _, _, _, _, _, _, _, _, _, _, _, _, _, rfl, _⟩ := h; rfl) | (obtain ⟨_, _, _, _, _, _, _, _, _, _, _, _, _, _, _, _, _, _, rfl, _⟩ := h; rfl) | (obtain ⟨_, _, _, _, _, _, _, _, _, _, _, _, _, _, _, _, _, _, _, rfl, _⟩ := h; rfl) | (obtain ⟨_, _, _, _, _, _, _, _, _, _, _, _, _, _, _, _, _, _, _, _, rfl, _⟩ := h; rfl) | (obtain ⟨_, _, _, _, _, _, _, _, _, _, _, _, _, _, _, _, _, _, _, _, _, rfl, _⟩ := h; rfl) | (obtain ⟨_, _, _, _, _, _, _, _, _, _, _, _, _, _, _, _, _, _, _, _, _, _, rfl, _⟩ := h; rfl) | (obtain ⟨_, _, _, _, _, _, _, _, _, _, _, _, _, _, _, _, _, _, _, _, _, _, _, rfl, _⟩ := h; rfl)
  · obtain ⟨t, l, a, b, c, d, u, y, z, e, rfl, ht, hl, bz, bu, he, be, q⟩ := h
    obtain ⟨v1, v2, v3⟩ := w_B bz
    refine ⟨_, (pss_cons (ps_set (i := 3) sc_l_three.nd rfl (.inl rfl) (pe_call G_l_images (hr.mono (by decide)) (by rfl) g_l_images k_l_images b_l_images .nil pass0 (pa_cons (pv 0) (pa_cons (pv 1) pa_nil))))
    (pss_cons (ps_asg (pe_call G_l_minors (hr.mono (by decide)) (by rfl) g_l_minors k_l_minors b_l_minors .nil pass0 (pa_cons (pv 3) pa_nil)) (pg_tup (by rfl) (pgs_cons (pg_name (i := 4) sc_l_three.nd rfl (.inl rfl)) (pgs_cons (pg_name (i := 5) sc_l_three.nd rfl (.inl rfl)) pgs_nil))))
    (pss_cons (ps_set (i := 6) sc_l_three.nd rfl (.inl rfl) (pe_lst (pa_cons (pe_call G_l_fraction (hr.mono (by decide)) (by rfl) g_l_fraction k_l_fraction b_l_fraction .nil pass0 (pa_cons (pv 4) (pa_cons (pv 2) pa_nil))) (pa_cons (pe_call G_l_fraction (hr.mono (by decide)) (by rfl) g_l_fraction k_l_fraction b_l_fraction .nil pass0 (pa_cons (pv 5) (pa_cons (pe_op op_mulW (pv 2) (pv 2)) pa_nil))) pa_nil))))
    (pss_one (ps_ret (pe_op op_cat (pv 6) (pe_lst (pa_cons (pe_call G_l_fraction (hr.mono (by decide)) (by rfl) g_l_fraction k_l_fraction b_l_fraction .nil pass0 (pa_cons (pe_call G_l_det (hr.mono (by decide)) (by rfl) g_l_det k_l_det b_l_det .nil pass0 (pa_cons (pv 3) pa_nil)) (pa_cons (pe_op op_mulW (pe_op op_mulW (pv 2) (pv 2)) (pv 2)) pa_nil))) pa_nil)))))))), ?_⟩
    have z0 : B 1000 0 := B0 (by decide)
    have z1 : B 1000 1 := ⟨by decide, by decide⟩
    have r0 : ∀ A D G : Int, u = m0 A D G u y z 1 0 0 := fun A D G => by unfold m0; grind
    have r1 : ∀ A D G : Int, y = m1 A D G u y z 1 0 0 := fun A D G => by unfold m1; grind
    have r2 : ∀ A D G : Int, z = m2 A D G u y z 1 0 0 := fun A D G => by unfold m2; grind
    have c1 := m_B v1.1 v2.1 v3.1 bu ⟨z0, z1, z0⟩
    have c2 := m_B v1.2.1 v2.2.1 v3.2.1 bu ⟨z0, z1, z0⟩
    have c3 := m_B v1.2.2 v2.2.2 v3.2.2 bu ⟨z0, z1, z0⟩
    have k1 := m_B v1.1 v2.1 v3.1 bu ⟨z0, z0, z1⟩
    have k2 := m_B v1.2.1 v2.2.1 v3.2.1 bu ⟨z0, z0, z1⟩
    have k3 := m_B v1.2.2 v2.2.2 v3.2.2 bu ⟨z0, z0, z1⟩
    refine ⟨_, rfl, _, rfl, t, l, _, _, _, _, _, _, _, _, _, u, y, z, rfl, ht, hl, v1, v2, v3, bu, fun I H1 e1 hI => ?_⟩
    have b1 : B3 40000 (m0 (-a * c) (-a * d) (-b * d) u y z 1 0 0) (m1 b 0 d u y z 1 0 0) (m2 (-a) 0 (-c) u y z 1 0 0) := by
      rw [← r0, ← r1, ← r2]
      exact bu.mono (by decide)
    have b2 : B3 40000 (m0 (-a * c) (-a * d) (-b * d) u y z 0 1 0) (m1 b 0 d u y z 0 1 0) (m2 (-a) 0 (-c) u y z 0 1 0) := ⟨c1.1.mono (by decide), c2.2.1.mono (by decide), c3.2.2.mono (by decide)⟩
    have b3 : B3 40000 (m0 (-a * c) (-a * d) (-b * d) u y z 0 0 1) (m1 b 0 d u y z 0 0 1) (m2 (-a) 0 (-c) u y z 0 0 1) := ⟨k1.1.mono (by decide), k2.2.1.mono (by decide), k3.2.2.mono (by decide)⟩
    have hJ : L33 H1 I [m0 (-a * c) (-a * d) (-b * d) u y z 1 0 0, m1 b 0 d u y z 1 0 0, m2 (-a) 0 (-c) u y z 1 0 0] [m0 (-a * c) (-a * d) (-b * d) u y z 0 1 0, m1 b 0 d u y z 0 1 0, m2 (-a) 0 (-c) u y z 0 1 0] [m0 (-a * c) (-a * d) (-b * d) u y z 0 0 1, m1 b 0 d u y z 0 0 1, m2 (-a) 0 (-c) u y z 0 0 1] := by
      rw [← r0, ← r1, ← r2]
      exact hI
    refine ⟨_, rfl, I, _, _, _, _, _, _, _, _, _, rfl, hJ, b1, b2, b3, fun m H2 e2 hm => ?_⟩
    refine ⟨m, _, rfl, SqT.of hm, rfl, _, _, rfl, _, _, rfl, rfl, ?_⟩
    refine ⟨_, rfl, _, rfl, _, _, rfl, he, be.mono (by decide), fun x1 H3 p1 q1 f1 e3 h1 => ?_⟩
    refine ⟨_, rfl, _, rfl, _, rfl, _, _, rfl, rfl, mulB be be (by decide), _, _, rfl, Int.mul_ne_zero he he, (B.mul be be).mono (by decide), fun x2 H4 p2 q2 f2 e4 h2 => ?_⟩
    refine ⟨sl2, fun L nL => ?_⟩
    have e5 : Ex0 H4 (upd H4 L (.lst [.ref x1, .ref x2])) := Ex0.new nL
    have hL : upd H4 L (.lst [.ref x1, .ref x2]) L = some (.lst [.ref x1, .ref x2]) := upd_same
    generalize upd H4 L (.lst [.ref x1, .ref x2]) = H5 at e5 hL ⊢
    have e25 := ((e2.trans e3).trans e4).trans e5
    refine ⟨_, rfl, _, rfl, I, _, _, _, _, _, _, _, _, _, rfl, Ex0.l33 e25 hJ, b1, b2, b3, ?_⟩
    refine ⟨_, rfl, _, rfl, _, _, rfl, rfl, mulB be be (by decide), _, rfl, _, _, rfl, rfl, mulB (B.mul be be) be (by decide), _, _, rfl, Int.mul_ne_zero (Int.mul_ne_zero he he) he, (B.mul (B.mul be be) be).mono (by decide), fun x3 H6 p3 q3 f3 e6 h3 => ?_⟩
    refine ⟨sl1, fun M nM => ?_⟩
    have e16 := (e25.trans e6)
    have hL6 := Ex0.ap (e6.trans (Ex0.new (o := .lst [.ref x3]) nM)) hL
    refine ⟨L, M, [.ref x1, .ref x2], [.ref x3], rfl, rfl, hL6, upd_same, by show 2 + 1 ≤ sizeLine; decide, fun N nN => ?_⟩
    have e7 : Ex0 H6 (upd H6 M (.lst [.ref x3])) := Ex0.new nM
    have e8 : Ex0 (upd H6 M (.lst [.ref x3])) (upd (upd H6 M (.lst [.ref x3])) N (.lst [.ref x1, .ref x2, .ref x3])) := Ex0.new nN
    refine q N _ p1 q1 p2 q2 p3 q3 f1 f2 f3 (((e1.trans e16).trans e7).trans e8) ⟨x1, x2, x3, upd_same, ?_, ?_, ?_⟩
    · exact Ex0.ti (((((e4.trans e5).trans e6)).trans e7).trans e8) h1
    · exact Ex0.ti (((e5.trans e6).trans e7).trans e8) h2
    · exact Ex0.ti (e7.trans e8) h3
theorem ok_l_drawn (T : Txt K mg C_Form C_Ring C_Element) : Def P w K mg base 4 "_law_drawn" ["_law_vat_here"] (sp_l_drawn K C_Form C_Ring C_Element) := by
  obtain ⟨f_, fd_, g_, F_⟩ := T.d_l_drawn
  obtain ⟨f_l_int, fd_l_int, g_l_int, k_l_int, b_l_int, G_l_int⟩ := (ok_l_int (P := P) (w := w) (base := base) T)
  obtain ⟨f_l_some_of, fd_l_some_of, g_l_some_of, k_l_some_of, b_l_some_of, G_l_some_of⟩ := (ok_l_some_of (P := P) (w := w) (base := base) T)
  refine ⟨f_, fd_, g_, F_.kp, F_.binds (ps := ["_law_vat_here"]) (fun _ _ _ _ _ _ us hl => match us, hl with | [_], _ => rfl), ?_⟩
  refine F_.ok sc_l_drawn (fun vs H Q E h => ?_) (fun cdv A outer s H vs Q E hr h => ?_)
  · first | (obtain ⟨rfl, _⟩ := h; rfl) | (obtain ⟨_, rfl, _⟩ := h; rfl) | (obtain ⟨_, _, rfl, _⟩ := h; rfl) | (obtain ⟨_, _, _, rfl, _⟩ := h; rfl) | (obtain ⟨_, _, _, _, rfl, _⟩ := h; rfl) | (obtain ⟨_, _, _, _, _, rfl, _⟩ := h; rfl) | (obtain ⟨_, _, _, _, _, _, rfl, _⟩ := h; rfl) | (obtain ⟨_, _, _, _, _, _, _, rfl, _⟩ := h; rfl) | (obtain ⟨_, _, _, _, _, _, _, _, rfl, _⟩ := h; rfl) | (obtain ⟨_, _, _, _, _, _, _, _, _, rfl, _⟩ := h; rfl) | (obtain ⟨_, _, _, _, _, _, _, _, _, _, rfl, _⟩ := h; rfl) | (obtain ⟨_, _, _, _, _, _, _, _, _, _, _, rfl, _⟩ := h; rfl) | (obtain ⟨_, _, _, _, _, _, _, _, _, _, _, _, rfl, _⟩ := h; rfl) | (obtain ⟨_, _, _, _, _, _, _, _, _, _, _, _, _, rfl, _⟩ := h; rfl) | (obtain ⟨_, _, _, _, _, _, _, _, _, _, _, _, _, _, rfl, _⟩ := h; rfl) | (obtain ⟨_, _, _, _, _, _, _, _, _, _, _, _, _, _, _, rfl, _⟩ := h; rfl) | (obtain ⟨_, _, _, _, _, _, _, _, _, _, _, _, _, _, _, _, rfl, _⟩ := h; rfl) | (obtain ⟨_, _, _, _, _, _, _, _, _, _, _, _, _, _, _, _, _, rfl, _⟩ := h; rfl) | (obtain ⟨_, _, _, _, _, _, _, _, _, _, _, _, _, _, _, _, _, _, rfl, _⟩ := h; rfl) | (obtain ⟨_, _, _, _, _, _, _, _, _, _, _, _, _, _, _, _, _, _, _, rfl, _⟩ := h; rfl) | (obtain ⟨_, _, _, _, _, _, _, _, _, _, _, _, _, _, _, _, _, _, _, _, rfl, _⟩ := h; rfl) | (obtain ⟨_, _, _, _, _, _, _, _, _, _, _, _, _, _, _, _, _, _, _, _, _, rfl, _⟩ := h; rfl) | (obtain ⟨_, _, _, _, _, _, _, _, _, _, _, _, _, _, _, _, _, _, _, _, _, _, rfl, _⟩ := h; rfl) | (obtain ⟨_, _, _, _, _, _, _, _, _, _, _, _, _, _, _, _, _, _, _, _, _, _, _, rfl, _⟩ := h; rfl)
  · obtain ⟨c, rfl, hc, q⟩ := h
    refine ⟨_, (pss_cons (ps_set (i := 1) sc_l_drawn.nd rfl (.inr rfl) (pe_call G_l_some_of (hr.mono (by decide)) (by rfl) g_l_some_of k_l_some_of b_l_some_of .nil pass0 (pa_cons (pv 0) (pa_cons (pe_lst (pa_cons pe_int (pa_cons pe_int (pa_cons pe_int (pa_cons pe_int (pa_cons (pe_un un_neg pe_int) (pa_cons pe_int pa_nil))))))) pa_nil))))
    (pss_cons (ps_set (i := 2) sc_l_drawn.nd rfl (.inl rfl) (pe_call G_l_some_of (hr.mono (by decide)) (by rfl) g_l_some_of k_l_some_of b_l_some_of .nil pass0 (pa_cons (pv 0) (pa_cons (pe_lst (pa_cons pe_int (pa_cons pe_int (pa_cons pe_int (pa_cons pe_int (pa_cons pe_int (pa_cons (pe_un un_neg pe_int) (pa_cons (pe_op op_pow pe_int pe_int) pa_nil)))))))) pa_nil))))
    (pss_one (ps_ret (pe_tup (pa_cons (pe_callTy call_tuple_of (by rfl) T.b_tuple (by decide +kernel) (pa_cons (pe_lc (own := [("_law_turn", 3)]) (g := (gName 3)) rfl sc_l_drawn.nd (pi_range1 (by rfl) T.b_range (pa_cons pe_int pa_nil)) (blkOk_by (N := N_l_drawn) (sc := defScope s_l_drawn) (by decide +kernel)) (fun _ _ _ _ _ => (pg_name (i := 3) sc_l_drawn.nd rfl (.inl rfl))) (fun _ _ _ _ _ => pts_nil) (fun _ _ _ _ _ => (pe_op op_mulW (pv 1) (pe_call G_l_int (hr.mono (by decide)) (by rfl) g_l_int k_l_int b_l_int .nil pass0 (pa_cons (pv 0) pa_nil))))) pa_nil)) (pa_cons (pe_op op_mulW (pv 1) (pv 2)) pa_nil))))))), ?_⟩
    refine ⟨_, rfl, _, rfl, slN (by decide), fun l nl => ?_⟩
    refine ⟨c, l, [.int 1, .int 1, .int 1, .int 2, .int (-1), .int 6], rfl, vat_new hc nl, upd_same, fv_ne hc nl, by simp, by decide, fun v H1 hv e1 => ?_⟩
    obtain ⟨f, rfl, f0, f6⟩ : ∃ f : Int, v = .int f ∧ f ≠ 0 ∧ f.natAbs ≤ 6 := by
      simp only [List.mem_cons, List.mem_nil_iff, or_false] at hv
      rcases hv with rfl | rfl | rfl | rfl | rfl | rfl <;> exact ⟨_, rfl, by decide, by decide⟩
    have e2 : Fv c H H1 := (fv_new hc nl).trans e1
    refine ⟨_, rfl, _, rfl, _, _, rfl, rfl, ⟨by decide, by decide, by decide⟩, slN (by decide), fun l2 nl2 => ?_⟩
    refine ⟨c, l2, [.int 1, .int 1, .int 1, .int 2, .int 3, .int (-4), .int 1000000000000000], rfl, vat_new e2.1 nl2, upd_same, fv_ne e2.1 nl2, by simp, by decide, fun v H2 hv e3 => ?_⟩
    obtain ⟨g, rfl, g0, g6⟩ : ∃ f : Int, v = .int f ∧ f ≠ 0 ∧ f.natAbs ≤ 1000000000000000 := by
      simp only [List.mem_cons, List.mem_nil_iff, or_false] at hv
      rcases hv with rfl | rfl | rfl | rfl | rfl | rfl | rfl <;> exact ⟨_, rfl, by decide, by decide⟩
    have e4 : Fv c H H2 := e2.trans ((fv_new e2.1 nl2).trans e3)
    have bf : B 1000 f := ⟨Nat.lt_of_le_of_lt f6 (by decide), by decide⟩
    have bg : B 1000 g := ⟨Nat.lt_of_le_of_lt g6 (by decide), by decide⟩
    refine ⟨_, rfl, by decide, by decide, ?_⟩
    refine lcR (fmV c) e4.1 (fun i acc _ => ∃ ns : List Int, acc = ns.map V.int ∧ ns.length = i ∧ ∀ n ∈ ns, n.natAbs ≤ 6000000) (fun _ _ => ⟨[], rfl, rfl, fun _ h => by cases h⟩) (fun D i acc H3 hD hi e5 hA hlen hp => ?_) (fun D H3 acc hD e5 hA hp => ?_)
    · obtain ⟨ns, rfl, hln, hns⟩ := hp
      have hi' : i < 3 := by simpa using hi
      refine ⟨rfl, ?_⟩
      refine ⟨_, rfl, _, rfl, c, rfl, e5.1, fun z H4 hz e6 => ?_⟩
      have bz : B 1000 z := ⟨Nat.lt_of_le_of_lt hz (by decide), by decide⟩
      refine ⟨_, _, rfl, rfl, mulB bf bz (by decide), ?_⟩
      refine cs_yes (fmV c) e4.1 hD e5 hA hlen (by omega) e6 ⟨ns ++ [f * z], by rw [List.map_append]; rfl, by rw [List.length_append, hln]; rfl, fun n hn => ?_⟩
      rcases List.mem_append.mp hn with h | h
      · exact hns n h
      · have : n = f * z := by simpa using h
        rw [this, Int.natAbs_mul]
        exact Nat.mul_le_mul f6 hz
    · obtain ⟨ns, rfl, hln, hns⟩ := hp
      refine ⟨D, _, rfl, .inl ⟨SqL.of hA, fun p np => ?_⟩⟩
      obtain ⟨A1, A2, A3, rfl⟩ : ∃ A1 A2 A3, ns = [A1, A2, A3] := by
        have hln' : ns.length = 3 := by simpa using hln
        match ns, hln' with
        | [x, y, z], _ => exact ⟨x, y, z, rfl⟩
      refine ⟨_, rfl, _, rfl, _, _, rfl, rfl, mulB bf bg (by decide), sl2, fun o no => ?_⟩
      have e6 : Fv c H3 (upd H3 p (.tup [.int A1, .int A2, .int A3])) := fv_new e5.1 np
      have e7 := fv_new (o := .tup [.ref p, .int (f * g)]) e6.1 no
      refine q o p A1 A2 A3 (f * g) _ (e4.trans ((e5.trans e6).trans e7)) upd_same (fv_tup e6.1 e7 upd_same) (hns _ (by simp)) (hns _ (by simp)) (hns _ (by simp)) (Int.mul_ne_zero f0 g0) ?_
      rw [Int.natAbs_mul]
      exact Nat.mul_le_mul f6 g6
end
end K13
namespace K13
open PySem PySem.Spec PyProof.Rows L2 Fr
theorem low_rep {n m n' b' g k N : Int} (h1 : n = g * n') (h2 : m = g * b') (hm : m ≠ 0) (h : n * k = N * m) : n' * k = N * b' := by
  have g0 : g ≠ 0 := fun z => hm (by rw [h2, z, Int.zero_mul])
  refine Int.eq_of_mul_eq_mul_left g0 ?_
  rw [← Int.mul_assoc, ← h1, h, h2, ← Int.mul_assoc, ← Int.mul_assoc, Int.mul_comm N g]
theorem Low.rep {u y z b u' y' z' b' k A B C : Int} (h : Low u y z b u' y' z' b') (hb : b ≠ 0) (h1 : u * k = A * b) (h2 : y * k = B * b) (h3 : z * k = C * b) : u' * k = A * b' ∧ y' * k = B * b' ∧ z' * k = C * b' := by
  obtain ⟨g, e1, e2, e3, e4, _, _⟩ := h
  exact ⟨low_rep e1 e4 hb h1, low_rep e2 e4 hb h2, low_rep e3 e4 hb h3⟩
theorem Low.pos {u y z b u' y' z' b' : Int} (h : Low u y z b u' y' z' b') : 0 < b' := by
  obtain ⟨_, _, _, _, _, h, _⟩ := h
  exact h
theorem Fq.rep {a b p q : Int} (h : Fq a b p q) : p * b = a * q := by
  obtain ⟨g, g0, h1, h2, _⟩ := h
  rw [h1, h2, ← Int.mul_assoc, Int.mul_comm p g]
theorem Fs.one {a b p q p' q' : Int} (hb : b ≠ 0) (h : Fs a b p q) (h' : Fs a b p' q') : p = p' ∧ q = q' := by
  obtain ⟨g, e1, e2, q0, c⟩ := h
  obtain ⟨g', e1', e2', q0', c'⟩ := h'
  have g0 : g ≠ 0 := fun z => hb (by rw [e2, z, Int.zero_mul])
  have g0' : g' ≠ 0 := fun z => hb (by rw [e2', z, Int.zero_mul])
  have x : p * q' = p' * q := by
    refine Int.eq_of_mul_eq_mul_left (Int.mul_ne_zero g0 g0') ?_
    grind
  have d1 : q.natAbs ∣ q'.natAbs := by
    have : q.natAbs ∣ p.natAbs * q'.natAbs := by
      rw [← Int.natAbs_mul, x, Int.natAbs_mul]
      exact Nat.dvd_mul_left _ _
    exact (Nat.Coprime.dvd_of_dvd_mul_left (Nat.coprime_comm.mp c) this)
  have d2 : q'.natAbs ∣ q.natAbs := by
    have : q'.natAbs ∣ p'.natAbs * q.natAbs := by
      rw [← Int.natAbs_mul, ← x, Int.natAbs_mul]
      exact Nat.dvd_mul_left _ _
    exact (Nat.Coprime.dvd_of_dvd_mul_left (Nat.coprime_comm.mp c') this)
  have e := Nat.dvd_antisymm d1 d2
  have eq : q = q' := by omega
  subst eq
  exact ⟨Int.eq_of_mul_eq_mul_right (by omega) x, rfl⟩
theorem cay (a b c d u y z : Int) :
    let S0 := m0 (-a * c) (-a * d) (-b * d) u y z u y z
    let S1 := m1 b 0 d u y z u y z
    let S2 := m2 (-a) 0 (-c) u y z u y z
    m0 (-a * c) (-a * d) (-b * d) S0 S1 S2 u y z + S0 * -qA a b c d u y z + u * qB a b c d u y z + -qC a b c d u y z = 0 ∧
    m1 b 0 d S0 S1 S2 u y z + S1 * -qA a b c d u y z + y * qB a b c d u y z = 0 ∧
    m2 (-a) 0 (-c) S0 S1 S2 u y z + S2 * -qA a b c d u y z + z * qB a b c d u y z = 0 := by
  intro S0 S1 S2
  simp only [S0, S1, S2, qA, qB, qC, plA, plB, plC, mn, det3, m0, m1, m2]
  refine ⟨?_, ?_, ?_⟩ <;> grind
end K13
namespace K13
open PySem PySem.Spec PyProof.Rows L2 Fr
theorem Fq.ne {a b p q : Int} (h : Fq a b p q) (hb : b ≠ 0) : q ≠ 0 := by
  obtain ⟨g, g0, h1, h2, _⟩ := h
  exact fun z => hb (by rw [h2, z, Int.mul_zero])
theorem rep_add {X n Y m k A B : Int} (h1 : X * k = A * n) (h2 : Y * k = B * m) : (X * m + Y * (1 * n)) * k = (A + B) * (n * m) := by grind
theorem rep_scale {X n r l k k' A R e : Int} (h1 : X * k = A * n) (h2 : r * e = R * l) (hk : k' = k * e) : (X * r) * k' = (A * R) * (n * l) := by grind
theorem rep_mul0 {A D G S0 S1 S2 N0 N1 N2 n u y z e k : Int} (h0 : S0 * k = N0 * n) (h1 : S1 * k = N1 * n) (h2 : S2 * k = N2 * n) :
    m0 A D G S0 S1 S2 u y z * (k * e) = m0 A D G N0 N1 N2 u y z * (n * e) ∧ m1 A D G S0 S1 S2 u y z * (k * e) = m1 A D G N0 N1 N2 u y z * (n * e) ∧ m2 A D G S0 S1 S2 u y z * (k * e) = m2 A D G N0 N1 N2 u y z * (n * e) := by
  unfold m0 m1 m2
  refine ⟨?_, ?_, ?_⟩ <;> grind
theorem root_zero {a b c d u y z e r low s under v last S0 S1 S2 sb C0 C1 C2 cb D0 D1 D2 db F0 F1 F2 fb G0 G1 G2 gb P0 P1 P2 pb V0 V1 V2 vb Z0 Z1 Z2 zb : Int} (he : 0 < e)
    (f1 : Fq (-qA a b c d u y z) e r low) (f2 : Fq (qB a b c d u y z) (e * e) s under) (f3 : Fq (-qC a b c d u y z) (e * e * e) v last)
    (l1 : Low (m0 (-a * c) (-a * d) (-b * d) u y z u y z) (m1 b 0 d u y z u y z) (m2 (-a) 0 (-c) u y z u y z) (e * e) S0 S1 S2 sb)
    (l2 : Low (m0 (-a * c) (-a * d) (-b * d) S0 S1 S2 u y z) (m1 b 0 d S0 S1 S2 u y z) (m2 (-a) 0 (-c) S0 S1 S2 u y z) (sb * e) C0 C1 C2 cb)
    (l3 : Low (S0 * r) (S1 * r) (S2 * r) (sb * low) D0 D1 D2 db)
    (l4 : Low (C0 * db + D0 * (1 * cb)) (C1 * db + D1 * (1 * cb)) (C2 * db + D2 * (1 * cb)) (cb * db) F0 F1 F2 fb)
    (l5 : Low (u * s) (y * s) (z * s) (e * under) G0 G1 G2 gb)
    (l6 : Low (F0 * gb + G0 * (1 * fb)) (F1 * gb + G1 * (1 * fb)) (F2 * gb + G2 * (1 * fb)) (fb * gb) P0 P1 P2 pb)
    (l7 : Low (1 * v) (0 * v) (0 * v) (1 * last) V0 V1 V2 vb)
    (l8 : Low (P0 * vb + V0 * (1 * pb)) (P1 * vb + V1 * (1 * pb)) (P2 * vb + V2 * (1 * pb)) (pb * vb) Z0 Z1 Z2 zb) : Z0 = 0 ∧ Z1 = 0 ∧ Z2 = 0 := by
  have e0 : e ≠ 0 := by omega
  have e2 : e * e ≠ 0 := Int.mul_ne_zero e0 e0
  have e3 : e * e * e ≠ 0 := Int.mul_ne_zero e2 e0
  have ne : ∀ {x : Int}, 0 < x → x ≠ 0 := fun h => by omega
  obtain ⟨s0, s1, s2⟩ := l1.rep (k := e * e) e2 rfl rfl rfl
  obtain ⟨t0, t1, t2⟩ := cay a b c d u y z
  generalize m0 (-a * c) (-a * d) (-b * d) u y z u y z = N0 at s0 t0 t1 t2
  generalize m1 b 0 d u y z u y z = N1 at s1 t0 t1 t2
  generalize m2 (-a) 0 (-c) u y z u y z = N2 at s2 t0 t1 t2
  obtain ⟨c0, c1, c2⟩ := l2.rep (k := e * e * e) (Int.mul_ne_zero (ne l1.pos) e0) (rep_mul0 (e := e) s0 s1 s2).1 (rep_mul0 (e := e) s0 s1 s2).2.1 (rep_mul0 (e := e) s0 s1 s2).2.2
  obtain ⟨d0, d1, d2⟩ := l3.rep (k := e * e * e) (Int.mul_ne_zero (ne l1.pos) (f1.ne e0)) (rep_scale s0 f1.rep rfl) (rep_scale s1 f1.rep rfl) (rep_scale s2 f1.rep rfl)
  obtain ⟨f0, f1', f2'⟩ := l4.rep (k := e * e * e) (Int.mul_ne_zero (ne l2.pos) (ne l3.pos)) (rep_add c0 d0) (rep_add c1 d1) (rep_add c2 d2)
  obtain ⟨g0, g1, g2⟩ := l5.rep (k := e * e * e) (Int.mul_ne_zero e0 (f2.ne e2)) (rep_scale (k := e) (e := e * e) (A := u) rfl f2.rep (Int.mul_assoc _ _ _)) (rep_scale (k := e) (e := e * e) (A := y) rfl f2.rep (Int.mul_assoc _ _ _)) (rep_scale (k := e) (e := e * e) (A := z) rfl f2.rep (Int.mul_assoc _ _ _))
  obtain ⟨p0, p1, p2⟩ := l6.rep (k := e * e * e) (Int.mul_ne_zero (ne l4.pos) (ne l5.pos)) (rep_add f0 g0) (rep_add f1' g1) (rep_add f2' g2)
  obtain ⟨v0, v1, v2⟩ := l7.rep (k := e * e * e) (A := -qC a b c d u y z) (B := 0) (C := 0) (Int.mul_ne_zero (by decide) (f3.ne e3)) (by rw [Int.one_mul, Int.one_mul]; exact f3.rep) (by simp) (by simp)
  obtain ⟨z0, z1, z2⟩ := l8.rep (k := e * e * e) (Int.mul_ne_zero (ne l6.pos) (ne l7.pos)) (rep_add p0 v0) (rep_add p1 v1) (rep_add p2 v2)
  have fin : ∀ {Z N : Int}, Z * (e * e * e) = N * zb → N = 0 → Z = 0 := fun {Z N} h h0 => by
    rw [h0, Int.zero_mul] at h
    rcases Int.mul_eq_zero.mp h with h | h
    · exact h
    · exact absurd h e3
  refine ⟨fin z0 t0, fin z1 ?_, fin z2 ?_⟩
  · rw [Int.add_zero]
    exact t1
  · rw [Int.add_zero]
    exact t2
theorem norm_mul (a b c d u y z v s r : Int) : qC a b c d (m0 (-a * c) (-a * d) (-b * d) u y z v s r) (m1 b 0 d u y z v s r) (m2 (-a) 0 (-c) u y z v s r) = qC a b c d u y z * qC a b c d v s r := by
  simp only [qC, plC, det3, m0, m1, m2]
  grind
theorem norm_scale (a b c d u y z k : Int) : qC a b c d (u * k) (y * k) (z * k) = k * k * k * qC a b c d u y z := by
  simp only [qC, plC, det3, m0, m1, m2]
  grind
theorem qA_eq (a b c d u y z : Int) : qA a b c d u y z = tr a b c d u y z := tr_eq a b c d u y z
end K13
namespace K13
open PySem PySem.Spec PyProof.Rows L2 Fr
def sp_l_is_root (_ : PySem.W.Frag) (C C_R C_E : Addr) : Sp := fun vs H Q _ => ∃ (x : Addr) (a b c d u y z e : Int), vs = [.ref x] ∧ ElAt C C_R C_E H x [a, b, c, d] u y z e ∧ B4 23 a b c d ∧ B3 23 u y z ∧ 0 < e ∧ e < 2 ^ 53 ∧ ∀ H', Ex0 H H' → Q (.bl true) H'
theorem Low.B {u y z b u' y' z' b' : Int} {n m : Nat} (h : Low u y z b u' y' z' b') (hb : b ≠ 0) (h1 : B3 n u y z) (h2 : B m b) : B3 n u' y' z' ∧ Fr.B m b' := by
  obtain ⟨g, e1, e2, e3, e4, _, _⟩ := h
  have g0 : g ≠ 0 := fun z => hb (by rw [e4, z, Int.zero_mul])
  have le : ∀ p q : Int, p = g * q → q.natAbs ≤ p.natAbs := fun p q e => by
    rw [e, Int.natAbs_mul]
    exact Nat.le_mul_of_pos_left _ (by omega)
  exact ⟨⟨⟨Nat.lt_of_le_of_lt (le _ _ e1) h1.1.1, h1.1.2⟩, ⟨Nat.lt_of_le_of_lt (le _ _ e2) h1.2.1.1, h1.2.1.2⟩, ⟨Nat.lt_of_le_of_lt (le _ _ e3) h1.2.2.1, h1.2.2.2⟩⟩, ⟨Nat.lt_of_le_of_lt (le _ _ e4) h2.1, h2.2⟩⟩
theorem Fq.B {a b p q : Int} {n m : Nat} (h : Fq a b p q) (h1 : Fr.B n a) (h2 : Fr.B m b) : Fr.B n p ∧ Fr.B m q := by
  obtain ⟨g, g0, e1, e2, _⟩ := h
  have le : ∀ p q : Int, p = g * q → q.natAbs ≤ p.natAbs := fun p q e => by
    rw [e, Int.natAbs_mul]
    exact Nat.le_mul_of_pos_left _ (by omega)
  exact ⟨⟨Nat.lt_of_le_of_lt (le _ _ e1) h1.1, h1.2⟩, ⟨Nat.lt_of_le_of_lt (le _ _ e2) h2.1, h2.2⟩⟩
theorem short_of {i : Int} (h : B 199 i) : Short i := by
  have : (2 : Nat) ^ 199 < 1000000000000000000000000000000000000000000000000000000000000 := by decide
  have := h.1
  constructor <;> omega
theorem b53 {e : Int} (h0 : 0 < e) (h1 : e < 2 ^ 53) : B 53 e := ⟨by omega, by decide⟩
theorem un32 {K : PySem.W.Frag} {i1 i2 i3 i4 i5 i6 : Nat} {σ : L2.St} {H : Hp} {t : Addr} {a b c d e f : Int} {Q : L2.St → Hp → Prop} (q : T33 H t [a, b] [c, d] [e, f])
    (z : Q ((((((σ.set i1 (some (.int a))).set i2 (some (.int b))).set i3 (some (.int c))).set i4 (some (.int d))).set i5 (some (.int e))).set i6 (some (.int f))) H) :
    gTup K 3 (gCons (gTup K 2 (gCons (gName i1) (gCons (gName i2) gNil))) (gCons (gTup K 2 (gCons (gName i3) (gCons (gName i4) gNil))) (gCons (gTup K 2 (gCons (gName i5) (gCons (gName i6) gNil))) gNil))) (.ref t) σ H Q := by
  obtain ⟨t1, t2, t3, h0, h1, h2, h3⟩ := q
  refine ⟨t, _, rfl, SqT.of h0, rfl, _, _, rfl, ?_⟩
  refine ⟨t1, _, rfl, SqT.of h1, rfl, _, _, rfl, _, _, rfl, ⟨rfl, ?_⟩⟩
  refine ⟨_, _, rfl, ?_⟩
  refine ⟨t2, _, rfl, SqT.of h2, rfl, _, _, rfl, _, _, rfl, ⟨rfl, ?_⟩⟩
  refine ⟨_, _, rfl, ?_⟩
  exact ⟨t3, _, rfl, SqT.of h3, rfl, _, _, rfl, _, _, rfl, ⟨rfl, ⟨rfl, z⟩⟩⟩
theorem q_B {a b c d u y z : Int} (h : B4 23 a b c d) (hu : B3 23 u y z) : B 199 (-qA a b c d u y z) ∧ B 199 (qB a b c d u y z) ∧ B 199 (-qC a b c d u y z) := by
  obtain ⟨ba, bb, bc, bd⟩ := h
  have z0 : B 1 0 := ⟨by decide, by decide⟩
  have z1 : B 1 1 := ⟨by decide, by decide⟩
  have z23 : B 23 0 := ⟨by decide, by decide⟩
  have n1 : B 46 (-a * c) := B.mul ba.neg bc
  have n2 : B 46 (-a * d) := B.mul ba.neg bd
  have n3 : B 46 (-b * d) := B.mul bb.neg bd
  have go : ∀ {v s r : Int}, B3 1 v s r → B 74 (m0 (-a * c) (-a * d) (-b * d) u y z v s r) ∧ B 51 (m1 b 0 d u y z v s r) ∧ B 51 (m2 (-a) 0 (-c) u y z v s r) := fun {v s r} k =>
    ⟨(m_B n1 n2 n3 hu k).1, (m_B bb z23 bd hu k).2.1, (m_B ba.neg z23 bc.neg hu k).2.2⟩
  have p0 := go (v := 1) (s := 0) (r := 0) ⟨z1, z0, z0⟩
  have p1 := go (v := 0) (s := 1) (r := 0) ⟨z0, z1, z0⟩
  have p2 := go (v := 0) (s := 0) (r := 1) ⟨z0, z0, z1⟩
  have r0 : m0 (-a * c) (-a * d) (-b * d) u y z 1 0 0 = u := by unfold m0; grind
  have r1 : m1 b 0 d u y z 1 0 0 = y := by unfold m1; grind
  have r2 : m2 (-a) 0 (-c) u y z 1 0 0 = z := by unfold m2; grind
  simp only [qA, qB, qC, plA, plB, plC, mn, det3]
  rw [r0, r1, r2]
  generalize m0 (-a * c) (-a * d) (-b * d) u y z 0 1 0 = A3 at p1 ⊢
  generalize m1 b 0 d u y z 0 1 0 = A4 at p1 ⊢
  generalize m2 (-a) 0 (-c) u y z 0 1 0 = A5 at p1 ⊢
  generalize m0 (-a * c) (-a * d) (-b * d) u y z 0 0 1 = A6 at p2 ⊢
  generalize m1 b 0 d u y z 0 0 1 = A7 at p2 ⊢
  generalize m2 (-a) 0 (-c) u y z 0 0 1 = A8 at p2 ⊢
  obtain ⟨a3, a4, a5⟩ := p1
  obtain ⟨a6, a7, a8⟩ := p2
  obtain ⟨bu, by', bz⟩ := hu
  have up : ∀ {n : Nat} {i : Int}, B n i → n ≤ 130 → B 130 i := fun h k => h.mono k
  refine ⟨?_, ?_, ?_⟩
  · exact (B.pl (B.pl (up bu (by decide)) (up a4 (by decide))) (B.mono (up a8 (by decide)) (by decide))).neg.mono (by decide)
  · have t1 := up (B.mul bu a4) (by decide)
    have t2 := up (B.mul by' a3) (by decide)
    have t3 := up (B.mul bu a8) (by decide)
    have t4 := up (B.mul bz a6) (by decide)
    have t5 := up (B.mul a4 a8) (by decide)
    have t6 := up (B.mul a5 a7) (by decide)
    have s1 : B 131 _ := B.pl t1 t2.neg
    have s2 : B 132 _ := B.pl s1 (t3.mono (by decide))
    have s3 : B 133 _ := B.pl s2 (t4.neg.mono (by decide))
    have s4 : B 134 _ := B.pl s3 (t5.mono (by decide))
    have s5 : B 135 _ := B.pl s4 (t6.neg.mono (by decide))
    simp only [← Int.sub_eq_add_neg] at s5
    exact s5.mono (by decide)
  · have w1 : B 131 _ := B.pl (up (B.mul a4 a8) (by decide)) (up (B.mul a5 a7) (by decide)).neg
    have w2 : B 131 _ := B.pl (up (B.mul a3 a8) (by decide)) (up (B.mul a5 a6) (by decide)).neg
    have w3 : B 131 _ := B.pl (up (B.mul a3 a7) (by decide)) (up (B.mul a4 a6) (by decide)).neg
    have s1 : B 155 _ := B.pl (B.mul bu w1) (B.mul by' w2).neg
    have s2 : B 156 _ := B.pl s1 ((B.mul bz w3).mono (by decide))
    simp only [← Int.sub_eq_add_neg] at s2
    exact s2.neg.mono (by decide)
section
variable {P : Program} {w : World} {K : PySem.W.Frag} {mg : Str → Option Value} {base : Heap} {C_Form C_Ring C_Element : Addr}
theorem ok_l_is_root (T : Txt K mg C_Form C_Ring C_Element) : Def P w K mg base 7 "_law_is_root" ["_law_element"] (sp_l_is_root K C_Form C_Ring C_Element) := by
  obtain ⟨f_, fd_, g_, F_⟩ := T.d_l_is_root
  obtain ⟨p_Element___add__, f_Element___add__, fd_Element___add__, R_Element___add__, b_Element___add__, G_Element___add__⟩ := (ok_Element___add__ (P := P) (w := w) (base := base) T)
  obtain ⟨p_Element___bool__, f_Element___bool__, fd_Element___bool__, R_Element___bool__, b_Element___bool__, G_Element___bool__⟩ := (ok_Element___bool__ (P := P) (w := w) (base := base) T)
  obtain ⟨p_Element___mul__, f_Element___mul__, fd_Element___mul__, R_Element___mul__, b_Element___mul__, G_Element___mul__⟩ := (ok_Element___mul__ (P := P) (w := w) (base := base) T)
  obtain ⟨p_Element_polynomial, f_Element_polynomial, fd_Element_polynomial, R_Element_polynomial, b_Element_polynomial, G_Element_polynomial⟩ := (ok_Element_polynomial (P := P) (w := w) (base := base) T)
  obtain ⟨p_Element_ring, f_Element_ring, fd_Element_ring, R_Element_ring, b_Element_ring, G_Element_ring⟩ := (ok_Element_ring (P := P) (w := w) (base := base) T)
  obtain ⟨p_Element_scaled, f_Element_scaled, fd_Element_scaled, ds_Element_scaled, R_Element_scaled, b_Element_scaled, v_Element_scaled, d_Element_scaled, G_Element_scaled⟩ := (ok_Element_scaled (P := P) (w := w) (base := base) T)
  obtain ⟨p_Ring_one, f_Ring_one, fd_Ring_one, R_Ring_one, b_Ring_one, G_Ring_one⟩ := (ok_Ring_one (P := P) (w := w) (base := base) T)
  refine ⟨f_, fd_, g_, F_.kp, F_.binds (ps := ["_law_element"]) (fun _ _ _ _ _ _ us hl => match us, hl with | [_], _ => rfl), ?_⟩
  refine F_.ok sc_l_is_root (fun vs H Q E h => ?_) (fun cdv A outer s H vs Q E hr h => ?_)
  · first | (obtain ⟨rfl, _⟩ := h; rfl) | (obtain ⟨_, rfl, _⟩ := h; rfl) | (obtain ⟨_, _, rfl, _⟩ := h; rfl) | (obtain ⟨_, _, _, rfl, _⟩ := h; rfl) | (obtain ⟨_, _, _, _, rfl, _⟩ := h; rfl) | (obtain ⟨_, _, _, _, _, rfl, _⟩ := h; rfl) | (obtain ⟨_, _, _, _, _, _, rfl, _⟩ := h; rfl) | (obtain ⟨_, _, _, _, _, _, _, rfl, _⟩ := h; rfl) | (obtain ⟨_, _, _, _, _, _, _, _, rfl, _⟩ := h; rfl) | (obtain ⟨_, _, _, _, _, _, _, _, _, rfl, _⟩ := h; rfl) | (obtain ⟨_, _, _, _, _, _, _, _, _, _, rfl, _⟩ := h; rfl) | (obtain ⟨_, _, _, _, _, _, _, _, _, _, _, rfl, _⟩ := h; rfl) | (obtain ⟨_, _, _, _, _, _, _, _, _, _, _, _, rfl, _⟩ := h; rfl) | (obtain ⟨_, _, _, _, _, _, _, _, _, _, _, _, _, rfl, _⟩ := h; rfl) | (obtain ⟨_, _, _, _, _, _, _, _, _, _, _, _, _, _, rfl, _⟩ := h; rfl) | (obtain ⟨_, _, _, _, _, _, _, _, _, _, _, _, _, _, _, rfl, _⟩ := h; rfl) | (obtain ⟨_, _, _, _, _, _, _, _, _, _, _, _, _, _, _, _, rfl, _⟩ := h; rfl) | (obtain ⟨_, _, _, _, _, _, _, _, _, _, _, _, _, _, _, _, _, rfl, _⟩ := h; rfl) | (obtain ⟨_, _, _, _, _, _, _, _, _, _, _, _, _, _, _, _, _, _, rfl, _⟩ := h; rfl) | (obtain ⟨_, _, _, _, _, _, _, _, _, _, _, _, _, _, _, _, _, _, _, rfl, _⟩ := h; rfl) | (obtain ⟨_, _, _, _, _, _, _, _, _, _, _, _, _, _, _, _, _, _, _, _, rfl, _⟩ := h; rfl) | (obtain ⟨_, _, _, _, _, _, _, _, _, _, _, _, _, _, _, _, _, _, _, _, _, rfl, _⟩ := h; rfl) | (obtain ⟨_, _, _, _, _, _, _, _, _, _, _, _, _, _, _, _, _, _, _, _, _, _, rfl, _⟩ := h; rfl) | (obtain ⟨_, _, _, _, _, _, _, _, _, _, _, _, _, _, _, _, _, _, _, _, _, _, _, rfl, _⟩ := h; rfl)
  · obtain ⟨x, a, b, c, d, u, y, z, e, rfl, hx, bz, bu, e0, e1, q⟩ := h
    refine ⟨_, (pss_cons (ps_asg (pe_prop (pv 0) T.cl_Element R_Element_polynomial G_Element_polynomial (hr.mono (by decide)) b_Element_polynomial .nil pass0 (by rfl)) (pg_tup (by rfl) (pgs_cons (pg_tup (by rfl) (pgs_cons (pg_name (i := 1) sc_l_is_root.nd rfl (.inl rfl)) (pgs_cons (pg_name (i := 2) sc_l_is_root.nd rfl (.inl rfl)) pgs_nil))) (pgs_cons (pg_tup (by rfl) (pgs_cons (pg_name (i := 3) sc_l_is_root.nd rfl (.inl rfl)) (pgs_cons (pg_name (i := 4) sc_l_is_root.nd rfl (.inl rfl)) pgs_nil))) (pgs_cons (pg_tup (by rfl) (pgs_cons (pg_name (i := 5) sc_l_is_root.nd rfl (.inl rfl)) (pgs_cons (pg_name (i := 6) sc_l_is_root.nd rfl (.inl rfl)) pgs_nil))) pgs_nil)))))
    (pss_cons (ps_set (i := 7) sc_l_is_root.nd rfl (.inl rfl) (pe_op (op_binI R_Element___mul__ G_Element___mul__ b_Element___mul__ (hr.mono (by decide)) pass0) (pv 0) (pv 0)))
    (pss_cons (ps_set (i := 8) sc_l_is_root.nd rfl (.inl rfl) (pe_op (op_binI R_Element___add__ G_Element___add__ b_Element___add__ (hr.mono (by decide)) pass0) (pe_op (op_binI R_Element___add__ G_Element___add__ b_Element___add__ (hr.mono (by decide)) pass0) (pe_op (op_binI R_Element___mul__ G_Element___mul__ b_Element___mul__ (hr.mono (by decide)) pass0) (pv 7) (pv 0)) (pe_meth (pv 7) T.cl_Element R_Element_scaled G_Element_scaled (hr.mono (by decide)) b_Element_scaled .nil pass0 (pa_cons (pv 1) (pa_cons (pv 2) pa_nil)))) (pe_meth (pv 0) T.cl_Element R_Element_scaled G_Element_scaled (hr.mono (by decide)) b_Element_scaled .nil pass0 (pa_cons (pv 3) (pa_cons (pv 4) pa_nil)))))
    (pss_one (ps_ret (pe_not (pe_callTy (call_boolI R_Element___bool__ G_Element___bool__ b_Element___bool__ (hr.mono (by decide)) pass0) (by rfl) T.b_bool (by decide +kernel) (pa_cons (pe_op (op_binI R_Element___add__ G_Element___add__ b_Element___add__ (hr.mono (by decide)) pass0) (pv 8) (pe_meth (pe_meth0 (pe_prop (pv 0) T.cl_Element R_Element_ring G_Element_ring (hr.mono (by decide)) b_Element_ring .nil pass0 (by rfl)) T.cl_Ring R_Ring_one G_Ring_one (hr.mono (by decide)) b_Ring_one .nil pass0) T.cl_Element R_Element_scaled G_Element_scaled (hr.mono (by decide)) b_Element_scaled .nil pass0 (pa_cons (pv 5) (pa_cons (pv 6) pa_nil)))) pa_nil)))))))), ?_⟩
    obtain ⟨dx, r0, t0, hx0, hR0, ht0⟩ := id hx
    obtain ⟨dR, xR, hR1, hR2⟩ := id hR0
    have bz1 : B4 1000 a b c d := bz.mono (by decide)
    have bu9 : B3 9000 u y z := bu.mono (by decide)
    have bu1 : B3 1000 u y z := bu.mono (by decide)
    have be := b53 e0 e1
    have be1 : B 1000 e := be.mono (by decide)
    have ne : ∀ {x : Int}, 0 < x → x ≠ 0 := fun h => by omega
    have ee := Int.mul_ne_zero (ne e0) (ne e0)
    obtain ⟨v1, v2, v3⟩ := w_B bz1
    obtain ⟨qa, qb, qc⟩ := q_B bz bu
    refine ⟨_, rfl, x, dx, _, rfl, hx0, x, a, b, c, d, u, y, z, e, rfl, hx, bz1, bu9, e0, Int.lt_trans e1 (by decide), fun o H1 r low s' under v last f1 f2 f3 e1' ho => ?_⟩
    obtain ⟨br, blow⟩ := f1.B qa be
    obtain ⟨bs, bund⟩ := f2.B qb (B.mul be be)
    obtain ⟨bv, blast⟩ := f3.B qc (B.mul (B.mul be be) be)
    refine un32 ho ?_
    have x1 := Ex0.el e1' hx
    have x10 := e1'.ap hx0
    refine ⟨_, rfl, _, rfl, x, x, dx, dx, _, _, rfl, rfl, x10, x10, x, x, a, b, c, d, u, y, z, e, u, y, z, e, rfl, x1, x1, bz1, bu9, bu1, be1.mono (by decide), be1.mono (by decide), ee, fun o2 H2 S0 S1 S2 sb l1 e2 hS => ⟨⟨_, rfl⟩, ?_⟩⟩
    obtain ⟨bS, bsb⟩ := l1.B (n := 2200) ee ⟨((m_B v1.1 v2.1 v3.1 bu bu).1).mono (by decide), ((m_B v1.2.1 v2.2.1 v3.2.1 bu bu).2.1).mono (by decide), ((m_B v1.2.2 v2.2.2 v3.2.2 bu bu).2.2).mono (by decide)⟩ (B.mul be be)
    obtain ⟨dS, rS, tS, hS0, _, _⟩ := id hS
    have x2 := Ex0.el e2 x1
    have x20 := e2.ap x10
    refine ⟨_, rfl, _, rfl, o2, x, dS, dx, _, _, rfl, rfl, hS0, x20, o2, x, a, b, c, d, S0, S1, S2, sb, u, y, z, e, rfl, hS, x2, bz1, bS.mono (by decide), bu1, bsb.mono (by decide), be1.mono (by decide), Int.mul_ne_zero (ne l1.pos) (ne e0), fun o3 H3 C0 C1 C2 cb l2 e3 hC => ⟨⟨_, rfl⟩, ?_⟩⟩
    obtain ⟨bC, bcb⟩ := l2.B (n := 4400) (Int.mul_ne_zero (ne l1.pos) (ne e0)) ⟨((m_B v1.1 v2.1 v3.1 bS bu).1).mono (by decide), ((m_B v1.2.1 v2.2.1 v3.2.1 bS bu).2.1).mono (by decide), ((m_B v1.2.2 v2.2.2 v3.2.2 bS bu).2.2).mono (by decide)⟩ (B.mul bsb be)
    obtain ⟨dC, rC, tC', hC0, _, _⟩ := id hC
    have n1 := Int.mul_ne_zero (ne l1.pos) (f1.ne (ne e0))
    have hS3 := Ex0.el e3 hS
    have hS30 := Ex0.ap e3 hS0
    refine ⟨_, rfl, o2, dS, _, rfl, hS30, rfl, _, rfl, _, rfl, o2, _, S0, S1, S2, sb, r, low, rfl, hS3, bS.mono (by decide), bsb.mono (by decide), ne l1.pos, short_of br, short_of (blow.mono (by decide)), f1.ne (ne e0), fun o4 H4 D0 D1 D2 db l3 e4 hD => ?_⟩
    obtain ⟨bD, bdb⟩ := l3.B (n := 2399) n1 ⟨B.mul bS.1 br, B.mul bS.2.1 br, B.mul bS.2.2 br⟩ (B.mul bsb blow)
    obtain ⟨dD, rD, tD, hD0, _, _⟩ := id hD
    have hC4 := Ex0.el e4 hC
    have hC40 := Ex0.ap e4 hC0
    have n2 := Int.mul_ne_zero (ne l2.pos) (ne l3.pos)
    refine ⟨o3, o4, dC, dD, _, _, rfl, rfl, hC40, hD0, o3, o4, _, C0, C1, C2, cb, D0, D1, D2, db, rfl, hC4, hD, bC.mono (by decide), bD.mono (by decide), bcb.mono (by decide), bdb.mono (by decide), n2, fun o5 H5 F0 F1 F2 fb l4 e5 hF => ⟨⟨_, rfl⟩, ?_⟩⟩
    have ad : ∀ {X Y m k : Int}, B 7000 X → B 7000 Y → B 500 m → B 500 k → B 7502 (X * m + Y * (1 * k)) := fun h1 h2 h3 h4 => by
      rw [Int.one_mul]
      exact (B.pl (B.mul h1 h3) (B.mul h2 h4)).mono (by decide)
    obtain ⟨bF, bfb⟩ := l4.B (n := 4800) n2 ⟨(B.pl ((B.mul bC.1 bdb).mono (by decide : _ ≤ 4700)) (by rw [Int.one_mul]; exact (B.mul bD.1 bcb).mono (by decide))).mono (by decide), (B.pl ((B.mul bC.2.1 bdb).mono (by decide : _ ≤ 4700)) (by rw [Int.one_mul]; exact (B.mul bD.2.1 bcb).mono (by decide))).mono (by decide), (B.pl ((B.mul bC.2.2 bdb).mono (by decide : _ ≤ 4700)) (by rw [Int.one_mul]; exact (B.mul bD.2.2 bcb).mono (by decide))).mono (by decide)⟩ (B.mul bcb bdb)
    obtain ⟨dF, rF, tF, hF0, _, _⟩ := id hF
    have e345 := (e3.trans e4).trans e5
    have x5 := Ex0.el e345 x2
    have x50 := Ex0.ap e345 x20
    have n3 := Int.mul_ne_zero (ne e0) (f2.ne ee)
    refine ⟨_, rfl, x, dx, _, rfl, x50, rfl, _, rfl, _, rfl, x, _, u, y, z, e, s', under, rfl, x5, bu9, be1, ne e0, short_of bs, short_of (bund.mono (by decide)), f2.ne ee, fun o6 H6 G0 G1 G2 gb l5 e6 hG => ?_⟩
    obtain ⟨bG, bgb⟩ := l5.B (n := 222) n3 ⟨B.mul bu.1 bs, B.mul bu.2.1 bs, B.mul bu.2.2 bs⟩ (B.mul be bund)
    obtain ⟨dG, rG, tG, hG0, _, _⟩ := id hG
    have hF6 := Ex0.el e6 hF
    have hF60 := Ex0.ap e6 hF0
    have n4 := Int.mul_ne_zero (ne l4.pos) (ne l5.pos)
    refine ⟨o5, o6, dF, dG, _, _, rfl, rfl, hF60, hG0, o5, o6, _, F0, F1, F2, fb, G0, G1, G2, gb, rfl, hF6, hG, bF.mono (by decide), bG.mono (by decide), bfb.mono (by decide), bgb.mono (by decide), n4, fun o7 H7 P0 P1 P2 pb l6 e7 hP => ⟨⟨_, rfl⟩, ?_⟩⟩
    obtain ⟨bP, bpb⟩ := l6.B (n := 5100) n4 ⟨(B.pl ((B.mul bF.1 bgb).mono (by decide : _ ≤ 5000)) (by rw [Int.one_mul]; exact (B.mul bG.1 bfb).mono (by decide))).mono (by decide), (B.pl ((B.mul bF.2.1 bgb).mono (by decide : _ ≤ 5000)) (by rw [Int.one_mul]; exact (B.mul bG.2.1 bfb).mono (by decide))).mono (by decide), (B.pl ((B.mul bF.2.2 bgb).mono (by decide : _ ≤ 5000)) (by rw [Int.one_mul]; exact (B.mul bG.2.2 bfb).mono (by decide))).mono (by decide)⟩ (B.mul bfb bgb)
    obtain ⟨dP, rP, tP, hP0, _, _⟩ := id hP
    have x7 := Ex0.el (e6.trans e7) x5
    have x70 := Ex0.ap (e6.trans e7) x50
    refine ⟨_, rfl, _, rfl, x, dx, _, rfl, x70, x, _, u, y, z, e, rfl, x7, fun R hR => ?_⟩
    obtain ⟨dR2, xR2, hR3, hR4⟩ := id hR
    refine ⟨R, dR2, _, rfl, hR3, rfl, R, _, rfl, hR, fun o8 H8 e8 hO => ?_⟩
    obtain ⟨dO, rO, tO, hO0, _, _⟩ := id hO
    have n5 : (1 : Int) * last ≠ 0 := Int.mul_ne_zero (by decide) (f3.ne (Int.mul_ne_zero ee (ne e0)))
    have o1B : B3 9000 1 0 0 := ⟨⟨by decide, by decide⟩, ⟨by decide, by decide⟩, ⟨by decide, by decide⟩⟩
    refine ⟨o8, dO, _, rfl, hO0, rfl, _, rfl, _, rfl, o8, _, 1, 0, 0, 1, v, last, rfl, hO, o1B, ⟨by decide, by decide⟩, by decide, short_of bv, short_of (blast.mono (by decide)), f3.ne (Int.mul_ne_zero ee (ne e0)), fun o9 H9 V0 V1 V2 vb l7 e9 hV => ?_⟩
    obtain ⟨bV, bvb⟩ := l7.B (n := 199) (m := 160) n5 ⟨by rw [Int.one_mul]; exact bv, by rw [Int.zero_mul]; exact B0 (by decide), by rw [Int.zero_mul]; exact B0 (by decide)⟩ (by rw [Int.one_mul]; exact blast.mono (by decide))
    obtain ⟨dV, rV, tV, hV0, _, _⟩ := id hV
    have hP9 := Ex0.el (e8.trans e9) hP
    have hP90 := Ex0.ap (e8.trans e9) hP0
    refine ⟨o7, o9, dP, dV, _, _, rfl, rfl, hP90, hV0, o7, o9, _, P0, P1, P2, pb, V0, V1, V2, vb, rfl, hP9, hV, bP.mono (by decide), bV.mono (by decide), bpb.mono (by decide), bvb.mono (by decide), Int.mul_ne_zero (ne l6.pos) (ne l7.pos), fun o10 H10 Z0 Z1 Z2 zb l8 e10 hZ => ⟨⟨_, rfl⟩, ?_⟩⟩
    obtain ⟨dZ, rZ, tZ, hZ0, _, _⟩ := id hZ
    obtain ⟨rfl, rfl, rfl⟩ := root_zero e0 f1 f2 f3 l1 l2 l3 l4 l5 l6 l7 l8
    refine ⟨o10, dZ, _, rfl, hZ0, o10, _, 0, 0, 0, zb, rfl, hZ, _, rfl, ?_⟩
    exact ⟨_, rfl, q H10 ((((((((((e1'.trans e2).trans e345).trans e6).trans e7).trans e8).trans e9).trans e10))))⟩
end
end K13
namespace K13
open PySem PySem.Spec PyProof.Rows L2 Fr
def sp_l_right (_ : PySem.W.Frag) (_ _ _ : Addr) : Sp := fun vs H Q _ => ∃ c : Addr, vs = [.ref c] ∧ Vat c H ∧ ∀ H', Fv c H H' → Q (.bl true) H'
theorem ex_two {H : Hp} {x dx : Addr} {o1 o2 : HO} (nx : H x = none) (ndx : H dx = none) : Ex0 H (upd (upd H dx o1) x o2) := Ex0.of fun b o e => by
  rw [upd_ne (ne_of_none e nx), upd_ne (ne_of_none e ndx)]
  exact e
theorem fo_made {C : Addr} {H H' : Hp} {x dx t : Addr} {ns : List Int} {o1 o2 : HO} (nx : H x = none) (ndx : H dx = none) (ht : Ti H t ns) (e1 : ∀ b o, b ≠ x → (upd (upd H dx o1) x o2) b = some o → H' b = some o)
    (e2 : H' x = some (.ins C dx [(("_coefficients" : Str), .ref t)])) : Ex0 H H' ∧ FormAt C H' x ns :=
  ⟨made_ex nx ndx e1, dx, t, e2, Ex0.ti (made_ex nx ndx e1) ht⟩
theorem ri_made {C C_R : Addr} {H H' : Hp} {x dx f : Addr} {ns : List Int} {o1 o2 : HO} (nx : H x = none) (ndx : H dx = none) (hf : FormAt C H f ns) (e1 : ∀ b o, b ≠ x → (upd (upd H dx o1) x o2) b = some o → H' b = some o)
    (e2 : H' x = some (.ins C_R dx [(("_form" : Str), .ref f)])) : Ex0 H H' ∧ RingAt C C_R H' x ns :=
  ⟨made_ex nx ndx e1, dx, f, e2, Ex0.fo (made_ex nx ndx e1) hf⟩
theorem fo_fv {C c : Addr} {H H' : Hp} {x : Addr} {ns : List Int} (hc : Vat c H) (f : Fv c H H') (h : FormAt C H x ns) : FormAt C H' x ns := by
  obtain ⟨dx, t, h1, h2⟩ := h
  refine ⟨dx, t, f.2 x _ (fun e => ?_) h1, fv_tup hc f h2⟩
  obtain ⟨u, v, z, q⟩ := hc
  unfold Sv at e
  rw [e, q] at h1
  cases h1
theorem ri_fv {C C_R c : Addr} {H H' : Hp} {x : Addr} {ns : List Int} (hc : Vat c H) (f : Fv c H H') (h : RingAt C C_R H x ns) : RingAt C C_R H' x ns := by
  obtain ⟨dx, t, h1, h2⟩ := h
  refine ⟨dx, t, f.2 x _ (fun e => ?_) h1, fo_fv hc f h2⟩
  obtain ⟨u, v, z, q⟩ := hc
  unfold Sv at e
  rw [e, q] at h1
  cases h1
theorem lst_fv {c a : Addr} {H H' : Hp} {t1 t2 t3 : Addr} (hc : Vat c H) (f : Fv c H H') (h : H a = some (.lst [.ref t1, .ref t2, .ref t3])) : H' a = some (.lst [.ref t1, .ref t2, .ref t3]) := f.2 a _ (fun e => by
  obtain ⟨x, y, z, q⟩ := hc
  unfold Sv at e
  subst e
  rw [q] at h
  cases h) h
theorem l33_fv {c : Addr} {H H' : Hp} {a : Addr} {r1 r2 r3 : List Int} (hc : Vat c H) (f : Fv c H H') (h : L33 H a r1 r2 r3) : L33 H' a r1 r2 r3 := by
  obtain ⟨t1, t2, t3, h0, h1, h2, h3⟩ := h
  exact ⟨t1, t2, t3, lst_fv hc f h0, fv_tup hc f h1, fv_tup hc f h2, fv_tup hc f h3⟩
def d33 (r1 r2 r3 : List Int) : PyData := .tuple [.tuple (r1.map .int), .tuple (r2.map .int), .tuple (r3.map .int)]
theorem lay_ints (ns : List Int) : PyData.canLayAll0 (ns.map .int) = true ∧ PyData.depthAll (ns.map .int) ≤ 1 := by
  induction ns with
  | nil => exact ⟨rfl, by simp [PyData.depthAll]⟩
  | cons n r ih =>
    refine ⟨?_, ?_⟩
    · rw [List.map_cons, PyData.canLayAll0, ih.1]; simp [PyData.canLay0]
    · rw [List.map_cons, PyData.depthAll]; exact Nat.max_le.mpr ⟨by simp [PyData.depth], ih.2⟩
theorem shaped_33 (r1 r2 r3 : List Int) : SeqAt.shaped (d33 r1 r2 r3) = true := by
  have a1 := lay_ints r1
  have a2 := lay_ints r2
  have a3 := lay_ints r3
  unfold SeqAt.shaped d33
  simp only [PyData.canLay0, PyData.canLayAll0, PyData.depth, PyData.depthAll, a1.1, a2.1, a3.1]
  simp
  omega
theorem eqv_33 (r1 r2 r3 : List Int) : PyData.eqv (d33 r1 r2 r3) (d33 r1 r2 r3) = true := by
  unfold d33
  simp only [PyData.eqv, PyData.eqvAll, eqv_ints]
  simp
theorem T33.dp {K : PySem.W.Frag} {H : Hp} {a : Addr} {r1 r2 r3 : List Int} (h : T33 H a r1 r2 r3) : Dp K H (.ref a) (d33 r1 r2 r3) := by
  obtain ⟨t1, t2, t3, h0, h1, h2, h3⟩ := h
  exact .tup (SqT.of h0) (.cons (.tup (SqT.of h1) (dp_ints _)) (.cons (.tup (SqT.of h2) (dp_ints _)) (.cons (.tup (SqT.of h3) (dp_ints _)) .nil)))
theorem Fs.up {a b p q : Int} (h : Fs a b p q) (k : Int) : Fs (k * a) (k * b) p q := by
  obtain ⟨g, h1, h2, h3, h4⟩ := h
  exact ⟨k * g, by rw [h1, Int.mul_assoc], by rw [h2, Int.mul_assoc], h3, h4⟩
theorem Fs.neg {a b p q : Int} (h : Fs a b p q) : Fs (-a) b (0 - p) q := by
  obtain ⟨g, h1, h2, h3, h4⟩ := h
  exact ⟨g, by rw [h1, Int.zero_sub, Int.mul_neg], h2, h3, by rw [Int.zero_sub, Int.natAbs_neg]; exact h4⟩
theorem qA_lin (a b c d k u y z : Int) : qA a b c d (k * u) (k * y) (k * z) = k * qA a b c d u y z := by
  simp only [qA, plA, m0, m1, m2]
  grind
theorem qB_lin (a b c d k u y z : Int) : qB a b c d (k * u) (k * y) (k * z) = k * k * qB a b c d u y z := by
  simp only [qB, plB, mn, m0, m1, m2]
  grind
theorem qC_lin (a b c d k u y z : Int) : qC a b c d (k * u) (k * y) (k * z) = k * k * k * qC a b c d u y z := by
  simp only [qC, plC, det3, m0, m1, m2]
  grind
theorem Fs.of {A e p q k A0 e0 : Int} (h : Fq A0 e0 p q) (hA : A = k * A0) (he : e = k * e0) (h0 : 0 < e0) : Fs A e p q := by
  obtain ⟨g, h1, h2, h3, h4⟩ := h.s h0
  exact ⟨k * g, by rw [hA, h1, Int.mul_assoc], by rw [he, h2, Int.mul_assoc], h3, h4⟩
theorem Fs.down {A e k p q : Int} (h : Fs (k * A) (k * e) p q) (he : 0 < e) (hk : k ≠ 0) : Fs A e p q := by
  obtain ⟨p', q', g0, e1, e2, e3⟩ := gcd_out (a := A) (b := e) (by omega)
  have f : Fq A e p' q' := ⟨_, by omega, e1, e2, e3⟩
  obtain ⟨rfl, rfl⟩ := Fs.one (Int.mul_ne_zero hk (by omega)) h (Fs.of (k := k) f rfl rfl he)
  exact f.s he
theorem Fq.unit {a p q : Int} (h : Fq a 1 p q) : p = a ∧ q = 1 := by
  obtain ⟨g, g0, h1, h2, _⟩ := h
  have hg : g = 1 := Int.eq_one_of_mul_eq_one_right (by omega) h2.symm
  subst hg
  omega
theorem qB_w (a b c d : Int) : -qA a b c d 0 1 0 = 0 - b ∧ qB a b c d 0 1 0 = a * c ∧ -qC a b c d 0 1 0 = 0 - a * a * d := by
  unfold qA qB qC plA plB plC mn det3 m0 m1 m2
  refine ⟨?_, ?_, ?_⟩ <;> grind
theorem qB_t (a b c d : Int) : -qA a b c d 0 0 1 = c ∧ qB a b c d 0 0 1 = b * d ∧ -qC a b c d 0 0 1 = a * d * d := by
  unfold qA qB qC plA plB plC mn det3 m0 m1 m2
  refine ⟨?_, ?_, ?_⟩ <;> grind
section
variable {P : Program} {w : World} {K : PySem.W.Frag} {mg : Str → Option Value} {base : Heap} {C_Form C_Ring C_Element : Addr}
theorem ok_l_right (T : Txt K mg C_Form C_Ring C_Element) : Def P w K mg base 9 "_law_right" ["_law_vat_here"] (sp_l_right K C_Form C_Ring C_Element) := by
  obtain ⟨f_, fd_, g_, F_⟩ := T.d_l_right
  obtain ⟨p_Element___add__, f_Element___add__, fd_Element___add__, R_Element___add__, b_Element___add__, G_Element___add__⟩ := (ok_Element___add__ (P := P) (w := w) (base := base) T)
  obtain ⟨p_Element___mul__, f_Element___mul__, fd_Element___mul__, R_Element___mul__, b_Element___mul__, G_Element___mul__⟩ := (ok_Element___mul__ (P := P) (w := w) (base := base) T)
  obtain ⟨p_Element_norm, f_Element_norm, fd_Element_norm, R_Element_norm, b_Element_norm, G_Element_norm⟩ := (ok_Element_norm (P := P) (w := w) (base := base) T)
  obtain ⟨p_Element_polynomial, f_Element_polynomial, fd_Element_polynomial, R_Element_polynomial, b_Element_polynomial, G_Element_polynomial⟩ := (ok_Element_polynomial (P := P) (w := w) (base := base) T)
  obtain ⟨p_Element_scaled, f_Element_scaled, fd_Element_scaled, ds_Element_scaled, R_Element_scaled, b_Element_scaled, v_Element_scaled, d_Element_scaled, G_Element_scaled⟩ := (ok_Element_scaled (P := P) (w := w) (base := base) T)
  obtain ⟨p_Element_trace, f_Element_trace, fd_Element_trace, R_Element_trace, b_Element_trace, G_Element_trace⟩ := (ok_Element_trace (P := P) (w := w) (base := base) T)
  obtain ⟨p_Form___init__, f_Form___init__, fd_Form___init__, R_Form___init__, b_Form___init__, G_Form___init__⟩ := (ok_Form___init__ (P := P) (w := w) (base := base) T)
  obtain ⟨p_Ring___init__, f_Ring___init__, fd_Ring___init__, R_Ring___init__, b_Ring___init__, G_Ring___init__⟩ := (ok_Ring___init__ (P := P) (w := w) (base := base) T)
  obtain ⟨p_Ring_element, f_Ring_element, fd_Ring_element, ds_Ring_element, R_Ring_element, b_Ring_element, v_Ring_element, d_Ring_element, G_Ring_element⟩ := (ok_Ring_element (P := P) (w := w) (base := base) T)
  obtain ⟨p_Ring_t, f_Ring_t, fd_Ring_t, R_Ring_t, b_Ring_t, G_Ring_t⟩ := (ok_Ring_t (P := P) (w := w) (base := base) T)
  obtain ⟨p_Ring_w, f_Ring_w, fd_Ring_w, R_Ring_w, b_Ring_w, G_Ring_w⟩ := (ok_Ring_w (P := P) (w := w) (base := base) T)
  obtain ⟨f_l_coefficients, fd_l_coefficients, g_l_coefficients, k_l_coefficients, b_l_coefficients, G_l_coefficients⟩ := (ok_l_coefficients (P := P) (w := w) (base := base) T)
  obtain ⟨f_l_drawn, fd_l_drawn, g_l_drawn, k_l_drawn, b_l_drawn, G_l_drawn⟩ := (ok_l_drawn (P := P) (w := w) (base := base) T)
  obtain ⟨f_l_fraction, fd_l_fraction, g_l_fraction, k_l_fraction, b_l_fraction, G_l_fraction⟩ := (ok_l_fraction (P := P) (w := w) (base := base) T)
  obtain ⟨f_l_is_root, fd_l_is_root, g_l_is_root, k_l_is_root, b_l_is_root, G_l_is_root⟩ := (ok_l_is_root (P := P) (w := w) (base := base) T)
  obtain ⟨f_l_opposite, fd_l_opposite, g_l_opposite, k_l_opposite, b_l_opposite, G_l_opposite⟩ := (ok_l_opposite (P := P) (w := w) (base := base) T)
  obtain ⟨f_l_rows, fd_l_rows, g_l_rows, k_l_rows, b_l_rows, G_l_rows⟩ := (ok_l_rows (P := P) (w := w) (base := base) T)
  obtain ⟨f_l_three, fd_l_three, g_l_three, k_l_three, b_l_three, G_l_three⟩ := (ok_l_three (P := P) (w := w) (base := base) T)
  obtain ⟨f_l_times, fd_l_times, g_l_times, k_l_times, b_l_times, G_l_times⟩ := (ok_l_times (P := P) (w := w) (base := base) T)
  refine ⟨f_, fd_, g_, F_.kp, F_.binds (ps := ["_law_vat_here"]) (fun _ _ _ _ _ _ us hl => match us, hl with | [_], _ => rfl), ?_⟩
  refine F_.ok sc_l_right (fun vs H Q E h => ?_) (fun cdv A outer s H vs Q E hr h => ?_)
  · first | (obtain ⟨rfl, _⟩ := h; rfl) | (obtain ⟨_, rfl, _⟩ := h; rfl) | (obtain ⟨_, _, rfl, _⟩ := h; rfl) | (obtain ⟨_, _, _, rfl, _⟩ := h; rfl) | (obtain ⟨_, _, _, _, rfl, _⟩ := h; rfl) | (obtain ⟨_, _, _, _, _, rfl, _⟩ := h; rfl) | (obtain ⟨_, _, _, _, _, _, rfl, _⟩ := h; rfl) | (obtain ⟨_, _, _, _, _, _, _, rfl, _⟩ := h; rfl) | (obtain ⟨_, _, _, _, _, _, _, _, rfl, _⟩ := h; rfl) | (obtain ⟨_, _, _, _, _, _, _, _, _, rfl, _⟩ := h; rfl) | (obtain ⟨_, _, _, _, _, _, _, _, _, _, rfl, _⟩ := h; rfl) | (obtain ⟨_, _, _, _, _, _, _, _, _, _, _, rfl, _⟩ := h; rfl) | (obtain ⟨_, _, _, _, _, _, _, _, _, _, _, _, rfl, _⟩ := h; rfl) | (obtain ⟨_, _, _, _, _, _, _, _, _, _, _, _, _, rfl, _⟩ := h; rfl) | (obtain ⟨_, _, _, _, _, _, _, _, _, _, _, _, _, _, rfl, _⟩ := h; rfl) | (obtain ⟨_, _, _, _, _, _, _, _, _, _, _, _, _, _, _, rfl, _⟩ := h; rfl) | (obtain ⟨_, _, _, _, _, _, _, _, _, _, _, _, _, _, _, _, rfl, _⟩ := h; rfl) | (obtain ⟨_, _, _, _, _, _, _, _, _, _, _, _, _, _, _, _, _, rfl, _⟩ := h; rfl) | (obtain ⟨_, _, _, _, _, _, _, _, _, _, _, _, _, _, _, _, _, _, rfl, _⟩ := h; rfl) | (obtain ⟨_, _, _, _, _, _, _, _, _, _, _, _, _, _, _, _, _, _, _, rfl, _⟩ := h; rfl) | (obtain ⟨_, _, _, _, _, _, _, _, _, _, _, _, _, _, _, _, _, _, _, _, rfl, _⟩ := h; rfl) | (obtain ⟨_, _, _, _, _, _, _, _, _, _, _, _, _, _, _, _, _, _, _, _, _, rfl, _⟩ := h; rfl) | (obtain ⟨_, _, _, _, _, _, _, _, _, _, _, _, _, _, _, _, _, _, _, _, _, _, rfl, _⟩ := h; rfl) | (obtain ⟨_, _, _, _, _, _, _, _, _, _, _, _, _, _, _, _, _, _, _, _, _, _, _, rfl, _⟩ := h; rfl)
  · obtain ⟨c, rfl, hc, q⟩ := h
    refine ⟨_, (pss_cons (ps_set (i := 1) sc_l_right.nd rfl (.inl rfl) (pe_call G_l_coefficients (hr.mono (by decide)) (by rfl) g_l_coefficients k_l_coefficients b_l_coefficients .nil pass0 (pa_cons (pv 0) pa_nil)))
    (Evl.pss_cut (ps_par (i := 2) (j := 3) (by rfl) sc_l_right.nd rfl rfl (by decide) rfl rfl (pa_cons (pe_make R_Ring___init__ G_Ring___init__ (hr.mono (by decide)) (by rfl) T.g_Ring b_Ring___init__ .nil pass0 (pa_cons (pe_make R_Form___init__ G_Form___init__ (hr.mono (by decide)) (by rfl) T.g_Form b_Form___init__ .nil pass0 (pa_cons (pv 1) pa_nil)) pa_nil)) (pa_cons (pe_call G_l_rows (hr.mono (by decide)) (by rfl) g_l_rows k_l_rows b_l_rows .nil pass0 (pa_cons (pv 1) pa_nil)) pa_nil)) (by rfl))
    (Evl.pss_cut (ps_par (i := 4) (j := 5) (by rfl) sc_l_right.nd rfl rfl (by decide) rfl rfl (pa_cons (pe_call G_l_drawn (hr.mono (by decide)) (by rfl) g_l_drawn k_l_drawn b_l_drawn .nil pass0 (pa_cons (pv 0) pa_nil)) (pa_cons (pe_call G_l_drawn (hr.mono (by decide)) (by rfl) g_l_drawn k_l_drawn b_l_drawn .nil pass0 (pa_cons (pv 0) pa_nil)) pa_nil)) (by rfl))
    (Evl.pss_cut (ps_par (i := 6) (j := 7) (by rfl) sc_l_right.nd rfl rfl (by decide) rfl rfl (pa_cons (pe_meth (pv 2) T.cl_Ring R_Ring_element G_Ring_element (hr.mono (by decide)) b_Ring_element .nil pass0 (pa_cons (pe_ix ix_tup (pv 4) pe_int (fun _ _ => rfl)) (pa_cons (pe_ix ix_tup (pv 4) pe_int (fun _ _ => rfl)) pa_nil))) (pa_cons (pe_meth (pv 2) T.cl_Ring R_Ring_element G_Ring_element (hr.mono (by decide)) b_Ring_element .nil pass0 (pa_cons (pe_ix ix_tup (pv 5) pe_int (fun _ _ => rfl)) (pa_cons (pe_ix ix_tup (pv 5) pe_int (fun _ _ => rfl)) pa_nil))) pa_nil)) (by rfl))
    (Evl.pss_cut (ps_asg (pe_call G_l_three (hr.mono (by decide)) (by rfl) g_l_three k_l_three b_l_three .nil pass0 (pa_cons (pv 3) (pa_cons (pe_ix ix_tup (pv 4) pe_int (fun _ _ => rfl)) (pa_cons (pe_ix ix_tup (pv 4) pe_int (fun _ _ => rfl)) pa_nil)))) (pg_lst (by rfl) (pgs_cons (pg_name (i := 8) sc_l_right.nd rfl (.inl rfl)) (pgs_cons (pg_name (i := 9) sc_l_right.nd rfl (.inl rfl)) (pgs_cons (pg_name (i := 10) sc_l_right.nd rfl (.inl rfl)) pgs_nil)))))
    (Evl.pss_cut (ps_if (PW.pt (pw_or (pt_cmpR (op_neD hr.units) (pe_prop (pv 6) T.cl_Element R_Element_trace G_Element_trace (hr.mono (by decide)) b_Element_trace .nil pass0 (by rfl)) (pv 8) (nomark _)) (pw_or1 (pt_cmpR (op_neD hr.units) (pe_prop (pv 6) T.cl_Element R_Element_norm G_Element_norm (hr.mono (by decide)) b_Element_norm .nil pass0 (by rfl)) (pv 10) (nomark _)))))
      (pss_one (ps_ret pe_bl))
      pss_nil)
    (Evl.pss_cut (ps_if (PW.pt (pw_or (pt_cmpR (op_neD hr.units) (pe_prop (pv 6) T.cl_Element R_Element_polynomial G_Element_polynomial (hr.mono (by decide)) b_Element_polynomial .nil pass0 (by rfl)) (pe_tup (pa_cons (pe_call G_l_opposite (hr.mono (by decide)) (by rfl) g_l_opposite k_l_opposite b_l_opposite .nil pass0 (pa_cons (pv 8) pa_nil)) (pa_cons (pv 9) (pa_cons (pe_call G_l_opposite (hr.mono (by decide)) (by rfl) g_l_opposite k_l_opposite b_l_opposite .nil pass0 (pa_cons (pv 10) pa_nil)) pa_nil)))) (nomark _)) (pw_or1 (pt_not (pt_val (pe_call G_l_is_root (hr.mono (by decide)) (by rfl) g_l_is_root k_l_is_root b_l_is_root .nil pass0 (pa_cons (pv 7) pa_nil)))))))
      (pss_one (ps_ret pe_bl))
      pss_nil)
    (Evl.pss_cut (ps_if (pt_cmpR (op_neD hr.units) (pe_prop (pe_op (op_binI R_Element___mul__ G_Element___mul__ b_Element___mul__ (hr.mono (by decide)) pass0) (pv 6) (pv 7)) T.cl_Element R_Element_norm G_Element_norm (hr.mono (by decide)) b_Element_norm .nil pass0 (by rfl)) (pe_call G_l_times (hr.mono (by decide)) (by rfl) g_l_times k_l_times b_l_times .nil pass0 (pa_cons (pe_prop (pv 6) T.cl_Element R_Element_norm G_Element_norm (hr.mono (by decide)) b_Element_norm .nil pass0 (by rfl)) (pa_cons (pe_prop (pv 7) T.cl_Element R_Element_norm G_Element_norm (hr.mono (by decide)) b_Element_norm .nil pass0 (by rfl)) pa_nil))) (nomark _))
      (pss_one (ps_ret pe_bl))
      pss_nil)
    (Evl.pss_cut (ps_set (i := 11) sc_l_right.nd rfl (.inl rfl) (pe_call G_l_fraction (hr.mono (by decide)) (by rfl) g_l_fraction k_l_fraction b_l_fraction .nil pass0 (pa_cons (pe_op op_add (pe_op op_mulW (pe_ix ix_tup (pv 8) pe_int (fun _ _ => rfl)) (pe_ix ix_tup (pe_prop (pv 7) T.cl_Element R_Element_trace G_Element_trace (hr.mono (by decide)) b_Element_trace .nil pass0 (by rfl)) pe_int (fun _ _ => rfl))) (pe_op op_mulW (pe_ix ix_tup (pe_prop (pv 7) T.cl_Element R_Element_trace G_Element_trace (hr.mono (by decide)) b_Element_trace .nil pass0 (by rfl)) pe_int (fun _ _ => rfl)) (pe_ix ix_tup (pv 8) pe_int (fun _ _ => rfl)))) (pa_cons (pe_op op_mulW (pe_ix ix_tup (pv 8) pe_int (fun _ _ => rfl)) (pe_ix ix_tup (pe_prop (pv 7) T.cl_Element R_Element_trace G_Element_trace (hr.mono (by decide)) b_Element_trace .nil pass0 (by rfl)) pe_int (fun _ _ => rfl))) pa_nil))))
    (Evl.pss_cut (ps_if (PW.pt (pw_or (pt_cmpR (op_neD hr.units) (pe_prop (pe_op (op_binI R_Element___add__ G_Element___add__ b_Element___add__ (hr.mono (by decide)) pass0) (pv 6) (pv 7)) T.cl_Element R_Element_trace G_Element_trace (hr.mono (by decide)) b_Element_trace .nil pass0 (by rfl)) (pv 11) (nomark _)) (pw_or1 (pt_cmpR (op_neD hr.units) (pe_prop (pe_meth (pv 6) T.cl_Element R_Element_scaled G_Element_scaled (hr.mono (by decide)) d_Element_scaled v_Element_scaled pass0 (pa_cons (pe_un un_neg pe_int) pa_nil)) T.cl_Element R_Element_norm G_Element_norm (hr.mono (by decide)) b_Element_norm .nil pass0 (by rfl)) (pe_call G_l_times (hr.mono (by decide)) (by rfl) g_l_times k_l_times b_l_times .nil pass0 (pa_cons (pv 10) (pa_cons (pe_tup (pa_cons (pe_un un_neg pe_int) (pa_cons pe_int pa_nil))) pa_nil))) (nomark _)))))
      (pss_one (ps_ret pe_bl))
      pss_nil)
    (pss_cons (ps_asg (pv 1) (pg_tup (by rfl) (pgs_cons (pg_name (i := 12) sc_l_right.nd rfl (.inl rfl)) (pgs_cons (pg_name (i := 13) sc_l_right.nd rfl (.inl rfl)) (pgs_cons (pg_name (i := 14) sc_l_right.nd rfl (.inl rfl)) (pgs_cons (pg_name (i := 15) sc_l_right.nd rfl (.inl rfl)) pgs_nil))))))
    (pss_cons (ps_if (pt_cmpR (op_neD hr.units) (pe_prop (pe_meth0 (pv 2) T.cl_Ring R_Ring_w G_Ring_w (hr.mono (by decide)) b_Ring_w .nil pass0) T.cl_Element R_Element_polynomial G_Element_polynomial (hr.mono (by decide)) b_Element_polynomial .nil pass0 (by rfl)) (pe_tup (pa_cons (pe_tup (pa_cons (pe_op op_sub pe_int (pv 13)) (pa_cons pe_int pa_nil))) (pa_cons (pe_tup (pa_cons (pe_op op_mulW (pv 12) (pv 14)) (pa_cons pe_int pa_nil))) (pa_cons (pe_tup (pa_cons (pe_op op_sub pe_int (pe_op op_mulW (pe_op op_mulW (pv 12) (pv 12)) (pv 15))) (pa_cons pe_int pa_nil))) pa_nil)))) (nomark _))
      (pss_one (ps_ret pe_bl))
      pss_nil)
    (pss_one (ps_ret (pe_cmpR (op_eqD hr.units) (pe_prop (pe_meth0 (pv 2) T.cl_Ring R_Ring_t G_Ring_t (hr.mono (by decide)) b_Ring_t .nil pass0) T.cl_Element R_Element_polynomial G_Element_polynomial (hr.mono (by decide)) b_Element_polynomial .nil pass0 (by rfl)) (pe_tup (pa_cons (pe_tup (pa_cons (pv 14) (pa_cons pe_int pa_nil))) (pa_cons (pe_tup (pa_cons (pe_op op_mulW (pv 13) (pv 15)) (pa_cons pe_int pa_nil))) (pa_cons (pe_tup (pa_cons (pe_op op_mulW (pe_op op_mulW (pv 12) (pv 15)) (pv 15)) (pa_cons pe_int pa_nil))) pa_nil)))) (nomark _)))))))))))))))), ?_⟩
    refine ⟨_, rfl, c, rfl, hc, fun t A1 A2 A3 A4 H1 e1 ht hn => ?_⟩
    have sn : ∀ n ∈ [A1, A2, A3, A4], Short n := fun n h => by have := hn n h; exact ⟨by omega, by omega⟩
    have bn : ∀ n ∈ [A1, A2, A3, A4], B 23 n := fun n h => ⟨Nat.lt_of_le_of_lt (hn n h) (by decide), by decide⟩
    have bz : B4 23 A1 A2 A3 A4 := ⟨bn A1 (by simp), bn A2 (by simp), bn A3 (by simp), bn A4 (by simp)⟩
    have bz1 : B4 1000 A1 A2 A3 A4 := bz.mono (by decide)
    refine ⟨fun σ H' => ∃ R W : Addr, σ = [some (.ref c), some (.ref t), some (.ref R), some (.ref W), none, none, none, none, none, none, none, none, none, none, none, none] ∧ Fv c H H' ∧ RingAt C_Form C_Ring H' R [A1, A2, A3, A4] ∧ L33 H' W (w1 A1 A2 A3 A4) (w2 A1 A2 A3 A4) (w3 A1 A2 A3 A4) ∧ Ti H' t [A1, A2, A3, A4], ?_, ?_⟩
    · refine ⟨_, rfl, fun x dx nx ndx _ => ?_⟩
      refine ⟨x, dx, t, [A1, A2, A3, A4], rfl, upd_same, made_at nx ndx ht, rfl, sn, fun H2 e2 h2 => ⟨rfl, ?_⟩⟩
      obtain ⟨e3, hx⟩ := fo_made nx ndx ht e2 h2
      intro y dy ny ndy _
      refine ⟨y, dy, x, [A1, A2, A3, A4], rfl, upd_same, Ex0.fo (ex_two ny ndy) hx, fun H3 e4 h4 => ⟨rfl, ?_⟩⟩
      obtain ⟨e5, hy⟩ := ri_made ny ndy hx e4 h4
      have ht3 := Ex0.ti (e3.trans e5) ht
      refine ⟨_, rfl, t, A1, A2, A3, A4, rfl, ht3, bz1, fun W H4 e6 hW => ?_⟩
      exact ⟨_, _, rfl, y, W, rfl, e1.trans (fv_ex e1.1 ((e3.trans e5).trans e6)), Ex0.ri e6 hy, hW, Ex0.ti e6 ht3⟩
    rintro σ H2 ⟨R, W, rfl, e2, hR, hW, ht2⟩
    refine ⟨fun σ H' => ∃ (o1 t1 o2 t2 : Addr) (u y z e v s' r f : Int), σ = [some (.ref c), some (.ref t), some (.ref R), some (.ref W), some (.ref o1), some (.ref o2), none, none, none, none, none, none, none, none, none, none] ∧ Fv c H2 H' ∧ H' o1 = some (.tup [.ref t1, .int e]) ∧ Ti H' t1 [u, y, z] ∧ H' o2 = some (.tup [.ref t2, .int f]) ∧ Ti H' t2 [v, s', r] ∧ (∀ n ∈ [u, y, z, v, s', r], n.natAbs ≤ 6000000) ∧ e ≠ 0 ∧ f ≠ 0 ∧ e.natAbs ≤ 6000000000000000 ∧ f.natAbs ≤ 6000000000000000, ?_, ?_⟩
    · refine ⟨_, rfl, c, rfl, e2.1, fun o1 t1 u y z e H3 e3 h1 h2 b1 b2 b3 ne1 be => ?_⟩
      refine ⟨_, rfl, c, rfl, e3.1, fun o2 t2 v s' r f H4 e4 h3 h4 b4 b5 b6 ne2 bf => ?_⟩
      refine ⟨_, _, rfl, o1, t1, o2, t2, u, y, z, e, v, s', r, f, rfl, e3.trans e4, fv_tup e3.1 e4 h1, fv_tup e3.1 e4 h2, h3, h4, fun n hn => ?_, ne1, ne2, be, bf⟩
      simp only [List.mem_cons, List.mem_nil_iff, or_false] at hn
      rcases hn with rfl | rfl | rfl | rfl | rfl | rfl <;> assumption
    rintro σ H3 ⟨o1, t1, o2, t2, u, y, z, e, v, s', r, f, rfl, e3, k1, k2, k3, k4, hb, ne1, ne2, be, bf⟩
    have sh : ∀ {n : Int}, n.natAbs ≤ 6000000000000000 → Short n := fun h => ⟨by omega, by omega⟩
    have sm : ∀ n ∈ [u, y, z, v, s', r], Short n := fun n h => by have := hb n h; exact ⟨by omega, by omega⟩
    have hR3 := ri_fv e2.1 e3 hR
    obtain ⟨dR, xR, hR1, hR2⟩ := id hR3
    refine ⟨fun σ H' => ∃ (X Y : Addr) (u' y' z' e' v' s2 r2 f' : Int), σ = [some (.ref c), some (.ref t), some (.ref R), some (.ref W), some (.ref o1), some (.ref o2), some (.ref X), some (.ref Y), none, none, none, none, none, none, none, none] ∧ Ex0 H3 H' ∧ ElAt C_Form C_Ring C_Element H' X [A1, A2, A3, A4] u' y' z' e' ∧ ElAt C_Form C_Ring C_Element H' Y [A1, A2, A3, A4] v' s2 r2 f' ∧ Low u y z e u' y' z' e' ∧ Low v s' r f v' s2 r2 f', ?_, ?_⟩
    · refine ⟨_, rfl, R, dR, _, rfl, hR1, rfl, _, rfl, o1, _, 0, .ref t1, rfl, rfl, SqT.of k1, rfl, _, rfl, o1, _, 1, .int e, rfl, rfl, SqT.of k1, rfl, R, t1, _, u, y, z, e, rfl, hR3, k2, sm u (by simp), sm y (by simp), sm z (by simp), sh be, ne1, fun X H4 u' y' z' e' l1 e4 hX => ?_⟩
      have k3' := e4.ap k3
      refine ⟨_, rfl, R, dR, _, rfl, e4.ap hR1, rfl, _, rfl, o2, _, 0, .ref t2, rfl, rfl, SqT.of k3', rfl, _, rfl, o2, _, 1, .int f, rfl, rfl, SqT.of k3', rfl, R, t2, _, v, s', r, f, rfl, Ex0.ri e4 hR3, Ex0.ti e4 k4, sm v (by simp), sm s' (by simp), sm r (by simp), sh bf, ne2, fun Y H5 v' s2 r2 f' l2 e5 hY => ?_⟩
      exact ⟨_, _, rfl, X, Y, u', y', z', e', v', s2, r2, f', rfl, e4.trans e5, Ex0.el e5 hX, hY, l1, l2⟩
    rintro σ H4 ⟨X, Y, u', y', z', e', v', s2, r2, f', rfl, e4, hX, hY, l1, l2⟩
    have b23 : ∀ n ∈ [u, y, z, v, s', r], B 23 n := fun n h => ⟨Nat.lt_of_le_of_lt (hb n h) (by decide), by decide⟩
    have bu : B3 23 u y z := ⟨b23 u (by simp), b23 y (by simp), b23 z (by simp)⟩
    have bv : B3 23 v s' r := ⟨b23 v (by simp), b23 s' (by simp), b23 r (by simp)⟩
    have bE : B 53 e := ⟨Nat.lt_of_le_of_lt be (by decide), by decide⟩
    have bF : B 53 f := ⟨Nat.lt_of_le_of_lt bf (by decide), by decide⟩
    refine ⟨fun σ H' => ∃ (T M N : Addr) (p1 q1 p2 q2 p3 q3 : Int), σ = [some (.ref c), some (.ref t), some (.ref R), some (.ref W), some (.ref o1), some (.ref o2), some (.ref X), some (.ref Y), some (.ref T), some (.ref M), some (.ref N), none, none, none, none, none] ∧ Ex0 H4 H' ∧ Ti H' T [p1, q1] ∧ Ti H' M [p2, q2] ∧ Ti H' N [p3, q3] ∧ Fs (qA A1 A2 A3 A4 u y z) e p1 q1 ∧ Fs (qB A1 A2 A3 A4 u y z) (e * e) p2 q2 ∧ Fs (qC A1 A2 A3 A4 u y z) (e * e * e) p3 q3, ?_, ?_⟩
    · have k1' := e4.ap k1
      refine ⟨_, rfl, _, rfl, o1, _, 0, .ref t1, rfl, rfl, SqT.of k1', rfl, _, rfl, o1, _, 1, .int e, rfl, rfl, SqT.of k1', rfl, W, t1, A1, A2, A3, A4, u, y, z, e, rfl, ?_, Ex0.ti e4 k2, bz1, bu.mono (by decide), ne1, bE.mono (by decide), fun L H5 p1 q1 p2 q2 p3 q3 f1 f2 f3 e5 hL => ?_⟩
      · exact Ex0.l33 e4 (l33_fv e2.1 e3 hW)
      obtain ⟨T, M, N, g0, g1, g2, g3⟩ := hL
      refine ⟨L, _, rfl, SqL.of g0, rfl, _, _, rfl, _, _, rfl, _, _, rfl, rfl, ?_⟩
      exact ⟨T, M, N, p1, q1, p2, q2, p3, q3, rfl, e5, g1, g2, g3, f1, f2, f3⟩
    rintro σ H5 ⟨T, M, N, p1, q1, p2, q2, p3, q3, rfl, e5, hT, hM, hN, f1, f2, f3⟩
    have eX := Ex0.el e5 hX
    have eY := Ex0.el e5 hY
    obtain ⟨dX, rX, tX, hX0, _, _⟩ := id eX
    obtain ⟨dY, rY, tY, hY0, _, _⟩ := id eY
    obtain ⟨bX, bXe⟩ := l1.B ne1 bu bE
    obtain ⟨bY, bYf⟩ := l2.B ne2 bv bF
    have e0 := l1.pos
    have f0 := l2.pos
    have e53 : e' < 2 ^ 53 := by have := bXe.1; omega
    have f53 : f' < 2 ^ 53 := by have := bYf.1; omega
    obtain ⟨gX, gx1, gx2, gx3, gx4, _, _⟩ := id l1
    refine ⟨fun σ H' => σ = [some (.ref c), some (.ref t), some (.ref R), some (.ref W), some (.ref o1), some (.ref o2), some (.ref X), some (.ref Y), some (.ref T), some (.ref M), some (.ref N), none, none, none, none, none] ∧ Ex0 H5 H', ?_, ?_⟩
    · refine ⟨_, rfl, X, dX, _, rfl, hX0, X, A1, A2, A3, A4, u', y', z', e', rfl, eX, bz1, bX.mono (by decide), e0, Int.lt_trans e53 (by decide), fun o H6 p q' g g0 w1 w2 w3 e6 ho => ?_⟩
      obtain ⟨rfl, rfl⟩ := f1.one ne1 (Fs.of (k := gX) ⟨g, g0, w1, w2, w3⟩ (by rw [gx1, gx2, gx3, qA_lin, qA_eq]) gx4 e0)
      refine ⟨_, rfl, .tuple ([p1, q1].map .int), .tuple ([p1, q1].map .int), .tup (SqT.of ho) (dp_ints _), .tup (SqT.of (Ex0.ti e6 hT)) (dp_ints _), shaped_tints _, shaped_tints _, _, rfl, ?_⟩
      rw [PyData.eqv, eqv_ints, decide_eq_true rfl]
      refine iteF ?_
      refine ⟨_, rfl, X, dX, _, rfl, e6.ap hX0, X, A1, A2, A3, A4, u', y', z', e', rfl, Ex0.el e6 eX, bz1, bX.mono (by decide), e0, Int.lt_trans e53 (by decide), fun o2' H7 p q' w4 e7 ho2 => ?_⟩
      obtain ⟨rfl, rfl⟩ := f3.one (Int.mul_ne_zero (Int.mul_ne_zero ne1 ne1) ne1) (Fs.of (k := gX * gX * gX) w4 (by rw [gx1, gx2, gx3, qC_lin]) (by rw [gx4]; grind) (Int.mul_pos (Int.mul_pos e0 e0) e0))
      refine ⟨_, rfl, .tuple ([p3, q3].map .int), .tuple ([p3, q3].map .int), .tup (SqT.of ho2) (dp_ints _), .tup (SqT.of (Ex0.ti (e6.trans e7) hN)) (dp_ints _), shaped_tints _, shaped_tints _, _, rfl, ?_⟩
      rw [PyData.eqv, eqv_ints, decide_eq_true rfl]
      refine iteF ?_
      exact ⟨rfl, e6.trans e7⟩
    rintro σ H6 ⟨rfl, e6⟩
    have e06 := e6
    refine ⟨fun σ H' => σ = [some (.ref c), some (.ref t), some (.ref R), some (.ref W), some (.ref o1), some (.ref o2), some (.ref X), some (.ref Y), some (.ref T), some (.ref M), some (.ref N), none, none, none, none, none] ∧ Ex0 H5 H', ?_, ?_⟩
    · refine ⟨_, rfl, X, dX, _, rfl, e06.ap hX0, X, A1, A2, A3, A4, u', y', z', e', rfl, Ex0.el e06 eX, bz1, bX.mono (by decide), e0, Int.lt_trans e53 (by decide), fun P H7 a1 b1 a2 b2 a3 b3 w1 w2 w3 e7 hP => ?_⟩
      obtain ⟨rfl, rfl⟩ := f1.neg.one ne1 (Fs.of (k := gX) w1 (by rw [gx1, gx2, gx3, qA_lin, Int.mul_neg]) gx4 e0)
      obtain ⟨rfl, rfl⟩ := f2.one (Int.mul_ne_zero ne1 ne1) (Fs.of (k := gX * gX) w2 (by rw [gx1, gx2, gx3, qB_lin]) (by rw [gx4]; grind) (Int.mul_pos e0 e0))
      obtain ⟨rfl, rfl⟩ := f3.neg.one (Int.mul_ne_zero (Int.mul_ne_zero ne1 ne1) ne1) (Fs.of (k := gX * gX * gX) w3 (by rw [gx1, gx2, gx3, qC_lin, Int.mul_neg]) (by rw [gx4]; grind) (Int.mul_pos (Int.mul_pos e0 e0) e0))
      have e57 := e06.trans e7
      refine ⟨_, rfl, T, p1, q1, rfl, Ex0.ti e57 hT, fun T2 H8 e8 hT2 => ?_⟩
      have e58 := e57.trans e8
      refine ⟨_, rfl, _, rfl, N, p3, q3, rfl, Ex0.ti e58 hN, fun N2 H9 e9 hN2 => ?_⟩
      have e59 := e58.trans e9
      refine ⟨sl3, fun D nD => ?_⟩
      have eD : Ex0 H9 (upd H9 D (.tup [.ref T2, .ref M, .ref N2])) := Ex0.new nD
      have hD : T33 (upd H9 D (.tup [.ref T2, .ref M, .ref N2])) D [0 - p1, q1] [p2, q2] [0 - p3, q3] := ⟨T2, M, N2, upd_same, Ex0.ti (e9.trans eD) hT2, Ex0.ti (e59.trans eD) hM, Ex0.ti eD hN2⟩
      have hP2 := Ex0.t33 ((e8.trans e9).trans eD) hP
      generalize upd H9 D (.tup [.ref T2, .ref M, .ref N2]) = H10 at eD hD hP2 ⊢
      refine ⟨d33 _ _ _, d33 _ _ _, hP2.dp, hD.dp, shaped_33 _ _ _, shaped_33 _ _ _, _, rfl, ?_⟩
      rw [eqv_33]
      refine iteF ?_
      refine ⟨_, rfl, Y, A1, A2, A3, A4, v', s2, r2, f', rfl, Ex0.el (e59.trans eD) eY, bz, bY, f0, f53, fun H11 e11 => ?_⟩
      refine ⟨_, rfl, ?_⟩
      exact iteF ⟨rfl, (e59.trans eD).trans e11⟩
    rintro σ H7 ⟨rfl, e7⟩
    have e07 := e7
    have qX := (q_B bz bX).2.2.neg
    have qY := (q_B bz bY).2.2.neg
    rw [Int.neg_neg] at qX qY
    obtain ⟨v1, v2, v3⟩ := w_B bz1
    have nef := Int.mul_ne_zero (show e' ≠ 0 by omega) (show f' ≠ 0 by omega)
    refine ⟨fun σ H' => σ = [some (.ref c), some (.ref t), some (.ref R), some (.ref W), some (.ref o1), some (.ref o2), some (.ref X), some (.ref Y), some (.ref T), some (.ref M), some (.ref N), none, none, none, none, none] ∧ Ex0 H5 H', ?_, ?_⟩
    · refine ⟨_, rfl, _, rfl, X, Y, dX, dY, _, _, rfl, rfl, e07.ap hX0, e07.ap hY0, X, Y, A1, A2, A3, A4, u', y', z', e', v', s2, r2, f', rfl, Ex0.el e07 eX, Ex0.el e07 eY, bz1, bX.mono (by decide), bY.mono (by decide), bXe.mono (by decide), bYf.mono (by decide), nef, fun Pm H8 i0 i1 i2 mb lm e8 hPm => ⟨⟨_, rfl⟩, ?_⟩⟩
      obtain ⟨bPm, bmb⟩ := lm.B (n := 3000) nef ⟨((m_B v1.1 v2.1 v3.1 bX bY).1).mono (by decide), ((m_B v1.2.1 v2.2.1 v3.2.1 bX bY).2.1).mono (by decide), ((m_B v1.2.2 v2.2.2 v3.2.2 bX bY).2.2).mono (by decide)⟩ (B.mul bXe bYf)
      have m0p := lm.pos
      have mlt : mb < 2 ^ 106 := by have := bmb.1; omega
      obtain ⟨gm, gm0, gm1, gm2, gm3, _, _⟩ := id lm
      obtain ⟨dP, rP, tP, hP0, _, _⟩ := id hPm
      refine ⟨Pm, dP, _, rfl, hP0, Pm, A1, A2, A3, A4, i0, i1, i2, mb, rfl, hPm, bz1, bPm.mono (by decide), m0p, Int.lt_trans mlt (by decide), fun n H9 p q' w e9 hn0 => ?_⟩
      have e59 := (e07.trans e8).trans e9
      refine ⟨_, rfl, X, dX, _, rfl, (Ex0.ap e59 hX0), X, A1, A2, A3, A4, u', y', z', e', rfl, Ex0.el e59 eX, bz1, bX.mono (by decide), e0, Int.lt_trans e53 (by decide), fun n1 H10 a1 b1 w1 e10 hn1 => ?_⟩
      have e510 := e59.trans e10
      refine ⟨_, rfl, Y, dY, _, rfl, (Ex0.ap e510 hY0), Y, A1, A2, A3, A4, v', s2, r2, f', rfl, Ex0.el e510 eY, bz1, bY.mono (by decide), f0, Int.lt_trans f53 (by decide), fun n2 H11 a2 b2 w2 e11 hn2 => ?_⟩
      obtain ⟨ba1, bb1⟩ := w1.B qX (B.mul (B.mul bXe bXe) bXe)
      obtain ⟨ba2, bb2⟩ := w2.B qY (B.mul (B.mul bYf bYf) bYf)
      have ne3 := Int.mul_ne_zero (Int.mul_ne_zero (show e' ≠ 0 by omega) (show e' ≠ 0 by omega)) (show e' ≠ 0 by omega)
      have nf3 := Int.mul_ne_zero (Int.mul_ne_zero (show f' ≠ 0 by omega) (show f' ≠ 0 by omega)) (show f' ≠ 0 by omega)
      refine ⟨n1, n2, a1, b1, a2, b2, rfl, Ex0.ti e11 hn1, hn2, ba1.mono (by decide), ba2.mono (by decide), bb1.mono (by decide), bb2.mono (by decide), Int.mul_ne_zero (w1.ne ne3) (w2.ne nf3), fun x H12 v0 w0 ws e12 hx => ?_⟩
      have F1 : Fs (qC A1 A2 A3 A4 u' y' z' * qC A1 A2 A3 A4 v' s2 r2) ((e' * e' * e') * (f' * f' * f')) p q' := Fs.of (k := gm * gm * gm) w (by rw [← norm_mul, gm0, gm1, gm2, qC_lin]) (by
        have : e' * e' * e' * (f' * f' * f') = (e' * f') * (e' * f') * (e' * f') := by grind
        rw [this, gm3]
        grind) (Int.mul_pos (Int.mul_pos m0p m0p) m0p)
      obtain ⟨g1, g10, x1, x2, _⟩ := id w1
      obtain ⟨g2, g20, x3, x4, _⟩ := id w2
      have F2 : Fs (qC A1 A2 A3 A4 u' y' z' * qC A1 A2 A3 A4 v' s2 r2) ((e' * e' * e') * (f' * f' * f')) v0 w0 := by
        have := ws.up (g1 * g2)
        have h1 : g1 * g2 * (a1 * a2) = qC A1 A2 A3 A4 u' y' z' * qC A1 A2 A3 A4 v' s2 r2 := by rw [x1, x3]; grind
        have h2 : g1 * g2 * (b1 * b2) = (e' * e' * e') * (f' * f' * f') := by rw [x2, x4]; grind
        rwa [h1, h2] at this
      obtain ⟨rfl, rfl⟩ := F1.one (Int.mul_ne_zero ne3 nf3) F2
      refine ⟨.tuple ([p, q'].map .int), .tuple ([p, q'].map .int), .tup (SqT.of (Ex0.ti ((e10.trans e11).trans e12) hn0)) (dp_ints _), .tup (SqT.of hx) (dp_ints _), shaped_tints _, shaped_tints _, _, rfl, ?_⟩
      rw [PyData.eqv, eqv_ints, decide_eq_true rfl]
      exact iteF ⟨rfl, (e510.trans e11).trans e12⟩
    rintro σ H8 ⟨rfl, e8⟩
    have hT8 := Ex0.ti e8 hT
    have trX := qA_eq A1 A2 A3 A4 u' y' z'
    have bp : B 1000 p1 ∧ B 1000 q1 := by
      obtain ⟨g, x1, x2, _, _⟩ := id f1
      have le : ∀ m n : Int, m = g * n → g ≠ 0 → n.natAbs ≤ m.natAbs := fun m n h h0 => by
        rw [h, Int.natAbs_mul]
        exact Nat.le_mul_of_pos_left _ (by omega)
      have g0 : g ≠ 0 := fun h => ne1 (by rw [x2, h, Int.zero_mul])
      have qa := (q_B bz bu).1.neg
      rw [Int.neg_neg] at qa
      exact ⟨⟨Nat.lt_of_le_of_lt (le _ _ x1 g0) (qa.mono (by decide : 199 ≤ 1000)).1, by decide⟩, ⟨Nat.lt_of_le_of_lt (le _ _ x2 g0) (bE.mono (by decide : 53 ≤ 1000)).1, by decide⟩⟩
    have qaY := (q_B bz bY).1.neg
    rw [Int.neg_neg, qA_eq] at qaY
    have F1 : Fs (qA A1 A2 A3 A4 u' y' z') e' p1 q1 := by
      refine Fs.down (k := gX) ?_ e0 (fun h => ne1 (by rw [gx4, h, Int.zero_mul]))
      rw [← qA_lin, ← gx1, ← gx2, ← gx3, ← gx4]
      exact f1
    refine ⟨fun σ H' => ∃ (D : Addr) (p4 q4 : Int), σ = [some (.ref c), some (.ref t), some (.ref R), some (.ref W), some (.ref o1), some (.ref o2), some (.ref X), some (.ref Y), some (.ref T), some (.ref M), some (.ref N), some (.ref D), none, none, none, none] ∧ Ex0 H8 H' ∧ Ti H' D [p4, q4] ∧ Fs (qA A1 A2 A3 A4 u' y' z' * f' + qA A1 A2 A3 A4 v' s2 r2 * e') (e' * f') p4 q4, ?_, ?_⟩
    · refine ⟨_, rfl, T, _, 0, .int p1, rfl, rfl, SqT.of hT8, rfl, _, rfl, Y, dY, _, rfl, Ex0.ap e8 hY0, Y, A1, A2, A3, A4, v', s2, r2, f', rfl, Ex0.el e8 eY, bz1, bY.mono (by decide), f0, Int.lt_trans f53 (by decide), fun t1 H9 a1 b1 g1 g10 w1 w2 w3 e9 ht1 => ?_⟩
      have G1 : Fq (qA A1 A2 A3 A4 v' s2 r2) f' a1 b1 := ⟨g1, g10, by rw [qA_eq]; exact w1, w2, w3⟩
      obtain ⟨ba1, bb1⟩ := G1.B (by rw [qA_eq]; exact qaY) bYf
      have b0 : b1 ≠ 0 := G1.ne (by omega)
      refine ⟨t1, _, 1, .int b1, rfl, rfl, SqT.of ht1, rfl, _, _, rfl, rfl, mulB bp.1 bb1 (by decide), ?_⟩
      have e89 := e8.trans e9
      refine ⟨_, rfl, Y, dY, _, rfl, Ex0.ap e89 hY0, Y, A1, A2, A3, A4, v', s2, r2, f', rfl, Ex0.el e89 eY, bz1, bY.mono (by decide), f0, Int.lt_trans f53 (by decide), fun t2 H10 a2 b2 g2 g20 x1 x2 x3 e10 ht2 => ?_⟩
      obtain ⟨rfl, rfl⟩ := Fs.one (by omega) (G1.s f0) (Fq.s (a := qA A1 A2 A3 A4 v' s2 r2) ⟨g2, g20, by rw [qA_eq]; exact x1, x2, x3⟩ f0)
      have e810 := e89.trans e10
      refine ⟨t2, _, 0, .int a1, rfl, rfl, SqT.of ht2, rfl, _, rfl, T, _, 1, .int q1, rfl, rfl, SqT.of (Ex0.ti e810 hT), rfl, _, _, rfl, rfl, mulB ba1 bp.2 (by decide), _, _, rfl, rfl, ?_⟩
      refine ⟨_, rfl, T, _, 1, .int q1, rfl, rfl, SqT.of (Ex0.ti e810 hT), rfl, _, rfl, Y, dY, _, rfl, Ex0.ap e810 hY0, Y, A1, A2, A3, A4, v', s2, r2, f', rfl, Ex0.el e810 eY, bz1, bY.mono (by decide), f0, Int.lt_trans f53 (by decide), fun t3 H11 a3 b3 g3 g30 y1 y2 y3 e11 ht3 => ?_⟩
      obtain ⟨rfl, rfl⟩ := Fs.one (by omega) (G1.s f0) (Fq.s (a := qA A1 A2 A3 A4 v' s2 r2) ⟨g3, g30, by rw [qA_eq]; exact y1, y2, y3⟩ f0)
      refine ⟨t3, _, 1, .int b1, rfl, rfl, SqT.of ht3, rfl, _, _, rfl, rfl, mulB bp.2 bb1 (by decide), ?_⟩
      obtain ⟨h1, i1, i2, i3, _⟩ := id F1
      obtain ⟨h2, i4, i5, i6, _⟩ := id G1
      refine ⟨p1 * b1 + a1 * q1, q1 * b1, rfl, Int.mul_ne_zero (by omega) b0, (B.mul bp.2 bb1).mono (by decide), fun D H12 p4 q4 ws e12 hD => ?_⟩
      refine ⟨D, p4, q4, rfl, ((e9.trans e10).trans e11).trans e12, hD, ?_⟩
      have := ws.up (h1 * h2)
      have j1 : h1 * h2 * (p1 * b1 + a1 * q1) = qA A1 A2 A3 A4 u' y' z' * f' + qA A1 A2 A3 A4 v' s2 r2 * e' := by rw [i1, i2, i5, i6]; grind
      have j2 : h1 * h2 * (q1 * b1) = e' * f' := by rw [i2, i6]; grind
      rwa [j1, j2] at this
    rintro σ H9 ⟨D, p4, q4, rfl, e9, hD, F4⟩
    have e89 := e8.trans e9
    have F3 : Fs (qC A1 A2 A3 A4 u' y' z') (e' * e' * e') p3 q3 := by
      refine Fs.down (k := gX * gX * gX) ?_ (Int.mul_pos (Int.mul_pos e0 e0) e0) (fun h => ?_)
      · rw [← qC_lin, ← gx1, ← gx2, ← gx3, show gX * gX * gX * (e' * e' * e') = gX * e' * (gX * e') * (gX * e') by grind, ← gx4]
        exact f3
      · have : gX ≠ 0 := fun h => ne1 (by rw [gx4, h, Int.zero_mul])
        exact Int.mul_ne_zero (Int.mul_ne_zero this this) this h
    obtain ⟨bp3, bq3⟩ : B 300 p3 ∧ B 300 q3 := by
      obtain ⟨g, x1, x2, x3, _⟩ := id F3
      have le : ∀ m n : Int, m = g * n → g ≠ 0 → n.natAbs ≤ m.natAbs := fun m n h h0 => by
        rw [h, Int.natAbs_mul]
        exact Nat.le_mul_of_pos_left _ (by omega)
      have g0 : g ≠ 0 := fun h => by
        have := Int.mul_pos (Int.mul_pos e0 e0) e0
        rw [x2, h, Int.zero_mul] at this
        omega
      exact ⟨⟨Nat.lt_of_le_of_lt (le _ _ x1 g0) (qX.mono (by decide : 199 ≤ 300)).1, by decide⟩, ⟨Nat.lt_of_le_of_lt (le _ _ x2 g0) ((B.mul (B.mul bXe bXe) bXe).mono (by decide : 53 + 53 + 53 ≤ 300)).1, by decide⟩⟩
    refine ⟨fun σ H' => σ = [some (.ref c), some (.ref t), some (.ref R), some (.ref W), some (.ref o1), some (.ref o2), some (.ref X), some (.ref Y), some (.ref T), some (.ref M), some (.ref N), some (.ref D), none, none, none, none] ∧ Ex0 H9 H', ?_, ?_⟩
    · refine ⟨_, rfl, _, rfl, X, Y, dX, dY, _, _, rfl, rfl, Ex0.ap e89 hX0, Ex0.ap e89 hY0, X, Y, _, u', y', z', e', v', s2, r2, f', rfl, Ex0.el e89 eX, Ex0.el e89 eY, bX.mono (by decide), bY.mono (by decide), bXe.mono (by decide), bYf.mono (by decide), nef, fun S H10 i0 i1 i2 mb lm e10 hS => ⟨⟨_, rfl⟩, ?_⟩⟩
      have bX1 : B3 23 u' y' z' := bX
      have be1 : B 64 (1 * e') := by rw [Int.one_mul]; exact bXe.mono (by decide)
      obtain ⟨bS, bmb⟩ := lm.B (n := 300) nef ⟨(B.add (B.mul bX.1 bYf) (B.mul bY.1 be1)).mono (by decide), (B.add (B.mul bX.2.1 bYf) (B.mul bY.2.1 be1)).mono (by decide), (B.add (B.mul bX.2.2 bYf) (B.mul bY.2.2 be1)).mono (by decide)⟩ (B.mul bXe bYf)
      have m0p := lm.pos
      have mlt : mb < 2 ^ 106 := by have := bmb.1; omega
      obtain ⟨gm, gm0, gm1, gm2, gm3, _, _⟩ := id lm
      obtain ⟨dS, rS, tS, hS0, _, _⟩ := id hS
      refine ⟨S, dS, _, rfl, hS0, S, A1, A2, A3, A4, i0, i1, i2, mb, rfl, hS, bz1, bS.mono (by decide), m0p, Int.lt_trans mlt (by decide), fun o H11 p q' g g0 w1 w2 w3 e11 ho => ?_⟩
      have F5 : Fs (qA A1 A2 A3 A4 u' y' z' * f' + qA A1 A2 A3 A4 v' s2 r2 * e') (e' * f') p q' := by
        refine Fs.of (k := gm) (A0 := tr A1 A2 A3 A4 i0 i1 i2) ⟨g, g0, w1, w2, w3⟩ ?_ gm3 m0p
        rw [← qA_eq, ← qA_lin, ← gm0, ← gm1, ← gm2, qA_eq, qA_eq, qA_eq]
        unfold tr
        grind
      obtain ⟨rfl, rfl⟩ := F4.one nef F5
      refine ⟨_, rfl, .tuple ([p4, q4].map .int), .tuple ([p4, q4].map .int), .tup (SqT.of ho) (dp_ints _), .tup (SqT.of (Ex0.ti (e10.trans e11) hD)) (dp_ints _), shaped_tints _, shaped_tints _, _, rfl, ?_⟩
      rw [PyData.eqv, eqv_ints, decide_eq_true rfl]
      refine iteF ?_
      have e911 := e10.trans e11
      refine ⟨_, rfl, X, dX, _, rfl, Ex0.ap (e89.trans e911) hX0, rfl, _, rfl, X, _, u', y', z', e', -3, 1, rfl, Ex0.el (e89.trans e911) eX, bX.mono (by decide), bXe.mono (by decide), by omega, ⟨by decide, by decide⟩, ⟨by decide, by decide⟩, by decide, fun S2 H12 j0 j1 j2 nb ln e12 hS2 => ?_⟩
      have be2 : B 117 (e' * 1) := B.mul (b := 64) bXe ⟨by decide, by decide⟩
      have l3 : B 64 (-3) := ⟨by decide, by decide⟩
      obtain ⟨bS2, bnb⟩ := ln.B (n := 300) (by omega) ⟨(B.mul bX.1 l3).mono (by decide), (B.mul bX.2.1 l3).mono (by decide), (B.mul bX.2.2 l3).mono (by decide)⟩ be2
      have n0p := ln.pos
      have nlt : nb < 2 ^ 117 := by have := bnb.1; omega
      obtain ⟨gn, gn0, gn1, gn2, gn3, _, _⟩ := id ln
      obtain ⟨dS2, rS2, tS2, hS20, _, _⟩ := id hS2
      refine ⟨S2, dS2, _, rfl, hS20, S2, A1, A2, A3, A4, j0, j1, j2, nb, rfl, hS2, bz1, bS2.mono (by decide), n0p, Int.lt_trans nlt (by decide), fun o' H13 p q' w e13 ho' => ?_⟩
      have e913 := (e911.trans e12).trans e13
      refine ⟨_, rfl, _, rfl, sl2, fun tt nt => ?_⟩
      have eT : Ex0 H13 (upd H13 tt (.tup [.int (-27), .int 1])) := Ex0.new nt
      obtain ⟨h3, i7, i8, i9, _⟩ := id F3
      refine ⟨N, tt, p3, q3, -27, 1, rfl, Ex0.ti ((e89.trans e913).trans eT) hN, upd_same, bp3.mono (by decide), ⟨by decide, by decide⟩, bq3.mono (by decide), ⟨by decide, by decide⟩, by omega, fun x H14 v0 w0 ws e14 hx => ?_⟩
      have F6 : Fs (-27 * qC A1 A2 A3 A4 u' y' z') (e' * e' * e') p q' := by
        refine Fs.of (k := gn * gn * gn) w ?_ ?_ (Int.mul_pos (Int.mul_pos n0p n0p) n0p)
        · rw [← qC_lin, ← gn0, ← gn1, ← gn2, norm_scale]; grind
        · rw [show gn * gn * gn * (nb * nb * nb) = gn * nb * (gn * nb) * (gn * nb) by grind, ← gn3, Int.mul_one]
      have F7 : Fs (-27 * qC A1 A2 A3 A4 u' y' z') (e' * e' * e') v0 w0 := by
        have := ws.up h3
        rwa [show h3 * (p3 * -27) = -27 * qC A1 A2 A3 A4 u' y' z' by rw [i7]; grind, show h3 * (q3 * 1) = e' * e' * e' by rw [i8, Int.mul_one]] at this
      obtain ⟨rfl, rfl⟩ := F6.one (Int.ne_of_gt (Int.mul_pos (Int.mul_pos e0 e0) e0)) F7
      refine ⟨.tuple ([p, q'].map .int), .tuple ([p, q'].map .int), .tup (SqT.of (Ex0.ti (eT.trans e14) ho')) (dp_ints _), .tup (SqT.of hx) (dp_ints _), shaped_tints _, shaped_tints _, _, rfl, ?_⟩
      rw [PyData.eqv, eqv_ints, decide_eq_true rfl]
      exact iteF ⟨rfl, (e913.trans eT).trans e14⟩
    rintro σ H10 ⟨rfl, e10⟩
    have e510 := e89.trans e10
    have e310 := (e4.trans e5).trans e510
    have ht10 : Ti H10 t [A1, A2, A3, A4] := Ex0.ti e310 (fv_tup e2.1 e3 ht2)
    have hR10 := Ex0.ri e310 hR3
    refine ⟨_, rfl, unI4 ht10 ?_⟩
    refine ⟨_, rfl, R, dR, _, rfl, Ex0.ap e310 hR1, rfl, R, _, rfl, hR10, fun E H11 e11 hE => ?_⟩
    obtain ⟨dE, rE, tE, hE0, _, _⟩ := id hE
    refine ⟨E, dE, _, rfl, hE0, E, A1, A2, A3, A4, 0, 1, 0, 1, rfl, hE, bz1, ⟨⟨by decide, by decide⟩, ⟨by decide, by decide⟩, ⟨by decide, by decide⟩⟩, by decide, by decide, fun Pm H12 a1 b1 a2 b2 a3 b3 w1 w2 w3 e12 hP => ?_⟩
    obtain ⟨rfl, rfl⟩ := (show Fq (-qA A1 A2 A3 A4 0 1 0) 1 a1 b1 from w1).unit
    obtain ⟨rfl, rfl⟩ := (show Fq (qB A1 A2 A3 A4 0 1 0) 1 a2 b2 from w2).unit
    obtain ⟨rfl, rfl⟩ := (show Fq (-qC A1 A2 A3 A4 0 1 0) 1 a3 b3 from w3).unit
    obtain ⟨k1', k2', k3'⟩ := qB_w A1 A2 A3 A4
    rw [k1', k2', k3'] at hP
    obtain ⟨bA1, bA2, bA3, bA4⟩ := bz
    have bAA : B 46 (A1 * A1) := B.mul bA1 bA1
    refine ⟨_, rfl, _, _, rfl, rfl, sl2, fun t1 n1 => ⟨_, rfl, _, rfl, _, _, rfl, rfl, mulB bA1 bA3 (by decide), sl2, fun t2 n2 => ⟨_, rfl, _, rfl, _, _, rfl, rfl, mulB bA1 bA1 (by decide), _, rfl, _, _, rfl, rfl, mulB bAA bA4 (by decide), _, _, rfl, rfl, sl2, fun t3 n3 => ⟨sl3, fun D2 n4 => ?_⟩⟩⟩⟩
    have z := t33_new (r1 := [0 - A2, 1]) (r2 := [A1 * A3, 1]) (r3 := [0 - A1 * A1 * A4, 1]) n1 n2 n3 n4
    have hP2 := Ex0.t33 z.1 hP
    refine ⟨d33 _ _ _, d33 _ _ _, hP2.dp, z.2.dp, shaped_33 _ _ _, shaped_33 _ _ _, _, rfl, ?_⟩
    rw [eqv_33]
    refine iteF ?_
    have e1013 := (e11.trans e12).trans z.1
    have e313 := e310.trans e1013
    refine ⟨_, rfl, R, dR, _, rfl, Ex0.ap e313 hR1, rfl, R, _, rfl, Ex0.ri e313 hR3, fun E' H14 e14 hE' => ?_⟩
    obtain ⟨dE', rE', tE', hE0', _, _⟩ := id hE'
    refine ⟨E', dE', _, rfl, hE0', E', A1, A2, A3, A4, 0, 0, 1, 1, rfl, hE', bz1, ⟨⟨by decide, by decide⟩, ⟨by decide, by decide⟩, ⟨by decide, by decide⟩⟩, by decide, by decide, fun Pm' H15 a1 b1 a2 b2 a3 b3 w1 w2 w3 e15 hP' => ?_⟩
    obtain ⟨rfl, rfl⟩ := (show Fq (-qA A1 A2 A3 A4 0 0 1) 1 a1 b1 from w1).unit
    obtain ⟨rfl, rfl⟩ := (show Fq (qB A1 A2 A3 A4 0 0 1) 1 a2 b2 from w2).unit
    obtain ⟨rfl, rfl⟩ := (show Fq (-qC A1 A2 A3 A4 0 0 1) 1 a3 b3 from w3).unit
    obtain ⟨k4', k5', k6'⟩ := qB_t A1 A2 A3 A4
    rw [k4', k5', k6'] at hP'
    have bAD : B 46 (A1 * A4) := B.mul bA1 bA4
    refine ⟨_, rfl, sl2, fun t4 n5 => ⟨_, rfl, _, rfl, _, _, rfl, rfl, mulB bA2 bA4 (by decide), sl2, fun t5 n6 => ⟨_, rfl, _, rfl, _, _, rfl, rfl, mulB bA1 bA4 (by decide), _, rfl, _, _, rfl, rfl, mulB bAD bA4 (by decide), sl2, fun t6 n7 => ⟨sl3, fun D3 n8 => ?_⟩⟩⟩⟩
    have z' := t33_new (r1 := [A3, 1]) (r2 := [A2 * A4, 1]) (r3 := [A1 * A4 * A4, 1]) n5 n6 n7 n8
    have hP3 := Ex0.t33 z'.1 hP'
    refine ⟨d33 _ _ _, d33 _ _ _, hP3.dp, z'.2.dp, shaped_33 _ _ _, shaped_33 _ _ _, ?_⟩
    rw [eqv_33]
    exact q _ (e2.trans (e3.trans (fv_ex e3.1 (e313.trans ((e14.trans e15).trans z'.1)))))
end
end K13
namespace K13
open PySem PySem.Spec PyProof.Rows L2 Fr
def sp_lawW (K : PySem.W.Frag) : Sp := fun vs H Q _ => ∃ (a : Addr) (ns : List Int), vs = [.ref a] ∧ SqL K H a (ns.map V.int) ∧ ns.length ≤ 63 ∧ ∀ H', Q (.bl true) H'
abbrev sp_law (K : PySem.W.Frag) (_ _ _ : Addr) : Sp := sp_lawW K
theorem low2 {u' y' z' b' : Int} (h : Low 1 2 (-1) 2 u' y' z' b') : u' = 1 ∧ y' = 2 ∧ z' = -1 ∧ b' = 2 := by
  obtain ⟨g, h1, h2, h3, h4, h5, _⟩ := h
  have gp : 0 < g := by
    rcases Int.lt_or_le 0 g with e | e
    · exact e
    · have := Int.mul_nonneg (show 0 ≤ -g by omega) (show 0 ≤ b' by omega)
      rw [Int.neg_mul] at this
      omega
  have hg : g = 1 := Int.eq_one_of_mul_eq_one_right (by omega) h1.symm
  subst hg
  omega
theorem fq72 {p q : Int} (h : Fq 7 2 p q) : p = 7 ∧ q = 2 := by
  obtain ⟨g, g0, h1, h2, _⟩ := h
  have hg : g = 1 := Int.eq_one_of_mul_eq_one_right (b := p - 3 * q) (by omega) (by grind)
  subst hg
  omega
section
variable {P : Program} {w : World} {K : PySem.W.Frag} {mg : Str → Option Value} {base : Heap} {C_Form C_Ring C_Element : Addr}
theorem ok_law0 (T : Txt K mg C_Form C_Ring C_Element) {f_ : Addr} {fd_ : FuncData} (F_ : Fun K "law" "law" s_law f_ fd_) : FnOk P w K mg base CX0 10 f_ fd_ ["_law_script"] (sp_law K C_Form C_Ring C_Element) := by
  obtain ⟨p_Element_norm, f_Element_norm, fd_Element_norm, R_Element_norm, b_Element_norm, G_Element_norm⟩ := (ok_Element_norm (P := P) (w := w) (base := base) T)
  obtain ⟨p_Element_polynomial, f_Element_polynomial, fd_Element_polynomial, R_Element_polynomial, b_Element_polynomial, G_Element_polynomial⟩ := (ok_Element_polynomial (P := P) (w := w) (base := base) T)
  obtain ⟨p_Element_trace, f_Element_trace, fd_Element_trace, R_Element_trace, b_Element_trace, G_Element_trace⟩ := (ok_Element_trace (P := P) (w := w) (base := base) T)
  obtain ⟨p_Form___init__, f_Form___init__, fd_Form___init__, R_Form___init__, b_Form___init__, G_Form___init__⟩ := (ok_Form___init__ (P := P) (w := w) (base := base) T)
  obtain ⟨p_Ring___init__, f_Ring___init__, fd_Ring___init__, R_Ring___init__, b_Ring___init__, G_Ring___init__⟩ := (ok_Ring___init__ (P := P) (w := w) (base := base) T)
  obtain ⟨p_Ring_element, f_Ring_element, fd_Ring_element, ds_Ring_element, R_Ring_element, b_Ring_element, v_Ring_element, d_Ring_element, G_Ring_element⟩ := (ok_Ring_element (P := P) (w := w) (base := base) T)
  obtain ⟨p_Ring_t, f_Ring_t, fd_Ring_t, R_Ring_t, b_Ring_t, G_Ring_t⟩ := (ok_Ring_t (P := P) (w := w) (base := base) T)
  obtain ⟨p_Ring_w, f_Ring_w, fd_Ring_w, R_Ring_w, b_Ring_w, G_Ring_w⟩ := (ok_Ring_w (P := P) (w := w) (base := base) T)
  obtain ⟨f_l_right, fd_l_right, g_l_right, k_l_right, b_l_right, G_l_right⟩ := (ok_l_right (P := P) (w := w) (base := base) T)
  obtain ⟨f_l_vat, fd_l_vat, g_l_vat, k_l_vat, b_l_vat, G_l_vat⟩ := (ok_l_vat (P := P) (w := w) (base := base) T)
  refine F_.ok sc_law (fun vs H Q E h => ?_) (fun cdv A outer s H vs Q E hr h => ?_)
  · first | (obtain ⟨rfl, _⟩ := h; rfl) | (obtain ⟨_, rfl, _⟩ := h; rfl) | (obtain ⟨_, _, rfl, _⟩ := h; rfl) | (obtain ⟨_, _, _, rfl, _⟩ := h; rfl) | (obtain ⟨_, _, _, _, rfl, _⟩ := h; rfl) | (obtain ⟨_, _, _, _, _, rfl, _⟩ := h; rfl) | (obtain ⟨_, _, _, _, _, _, rfl, _⟩ := h; rfl) | (obtain ⟨_, _, _, _, _, _, _, rfl, _⟩ := h; rfl) | (obtain ⟨_, _, _, _, _, _, _, _, rfl, _⟩ := h; rfl) | (obtain ⟨_, _, _, _, _, _, _, _, _, rfl, _⟩ := h; rfl) | (obtain ⟨_, _, _, _, _, _, _, _, _, _, rfl, _⟩ := h; rfl) | (obtain ⟨_, _, _, _, _, _, _, _, _, _, _, rfl, _⟩ := h; rfl) | (obtain ⟨_, _, _, _, _, _, _, _, _, _, _, _, rfl, _⟩ := h; rfl) | (obtain ⟨_, _, _, _, _, _, _, _, _, _, _, _, _, rfl, _⟩ := h; rfl) | (obtain ⟨_, _, _, _, _, _, _, _, _, _, _, _, _, _, rfl, _⟩ := h; rfl) | (obtain ⟨_, _, _, _, _, _, _, _, _, _, _, _, _, _, _, rfl, _⟩ := h; rfl) | (obtain ⟨_, _, _, _, _, _, _, _, _, _, _, _, _, _, _, _, rfl, _⟩ := h; rfl) | (obtain ⟨_, _, _, _, _, _, _, _, _, _, _, _, _, _, _, _, _, rfl, _⟩ := h; rfl) | (obtain ⟨_, _, _, _, _, _, _, _, _, _, _, _, _, _, _, _, _, _, rfl, _⟩ := h; rfl) | (obtain ⟨_, _, _, _, _, _, _, _, _, _, _, _, _, _, _, _, _, _, _, rfl, _⟩ := h; rfl) | (obtain ⟨_, _, _, _, _, _, _, _, _, _, _, _, _, _, _, _, _, _, _, _, rfl, _⟩ := h; rfl) | (obtain ⟨_, _, _, _, _, _, _, _, _, _, _, _, _, _, _, _, _, _, _, _, _, rfl, _⟩ := h; rfl) | (obtain ⟨_, _, _, _, _, _, _, _, _, _, _, _, _, _, _, _, _, _, _, _, _, _, rfl, _⟩ := h; rfl) | (obtain ⟨_, _, _, _, _, _, _, _, _, _, _, _, _, _, _, _, _, _, _, _, _, _, _, rfl, _⟩ := h; rfl)
  · obtain ⟨a, ns, rfl, hS, hn, q⟩ := h
    refine ⟨_, (pss_cons (ps_for PassesOwn.never rfl (pi_range1 (by rfl) T.b_range (pa_cons (pe_callB (call_max2 rfl) (by rfl) T.b_max (by decide +kernel) (pa_cons pe_int (pa_cons (pe_callB (call_min2 rfl) (by rfl) T.b_min (by decide +kernel) (pa_cons pe_int (pa_cons (pe_callB call_len_seq (by rfl) T.b_len PySem.boot_len (pa_cons (pv 0) pa_nil)) pa_nil))) pa_nil))) pa_nil)) (pg_name (i := 1) sc_law.nd rfl (.inl rfl))
      (pss_cons (ps_set (i := 2) sc_law.nd rfl (.inl rfl) (pe_call G_l_vat (hr.mono (by decide)) (by rfl) g_l_vat k_l_vat b_l_vat .nil pass0 (pa_cons (pv 0) (pa_cons (pv 1) pa_nil))))
    (pss_one (ps_if (PW.pt (pw_or (pt_not (pt_val (pe_call G_l_right (hr.mono (by decide)) (by rfl) g_l_right k_l_right b_l_right .nil pass0 (pa_cons (pv 2) pa_nil)))) (pw_or1 (pt_not (pt_val (pe_call G_l_right (hr.mono (by decide)) (by rfl) g_l_right k_l_right b_l_right .nil pass0 (pa_cons (pv 2) pa_nil)))))))
      (pss_one (ps_ret pe_bl))
      pss_nil))))
    (Evl.pss_cut (ps_set (i := 3) sc_law.nd rfl (.inl rfl) (pe_make R_Ring___init__ G_Ring___init__ (hr.mono (by decide)) (by rfl) T.g_Ring b_Ring___init__ .nil pass0 (pa_cons (pe_make R_Form___init__ G_Form___init__ (hr.mono (by decide)) (by rfl) T.g_Form b_Form___init__ .nil pass0 (pa_cons (pe_tup (pa_cons pe_int (pa_cons pe_int (pa_cons pe_int (pa_cons pe_int pa_nil))))) pa_nil)) pa_nil)))
    (Evl.pss_cut (ps_set (i := 4) sc_law.nd rfl (.inl rfl) (pe_meth (pv 3) T.cl_Ring R_Ring_element G_Ring_element (hr.mono (by decide)) d_Ring_element v_Ring_element pass0 (pa_cons (pe_tup (pa_cons pe_int (pa_cons pe_int (pa_cons (pe_un un_neg pe_int) pa_nil)))) pa_nil)))
    (Evl.pss_cut (ps_set (i := 5) sc_law.nd rfl (.inl rfl) (pe_lst (pa_cons (pe_prop (pv 4) T.cl_Element R_Element_trace G_Element_trace (hr.mono (by decide)) b_Element_trace .nil pass0 (by rfl)) (pa_cons (pe_prop (pe_meth0 (pv 3) T.cl_Ring R_Ring_w G_Ring_w (hr.mono (by decide)) b_Ring_w .nil pass0) T.cl_Element R_Element_polynomial G_Element_polynomial (hr.mono (by decide)) b_Element_polynomial .nil pass0 (by rfl)) (pa_cons (pe_prop (pe_meth0 (pv 3) T.cl_Ring R_Ring_t G_Ring_t (hr.mono (by decide)) b_Ring_t .nil pass0) T.cl_Element R_Element_norm G_Element_norm (hr.mono (by decide)) b_Element_norm .nil pass0 (by rfl)) (pa_cons (pe_prop (pe_meth (pv 3) T.cl_Ring R_Ring_element G_Ring_element (hr.mono (by decide)) b_Ring_element .nil pass0 (pa_cons (pe_tup (pa_cons pe_int (pa_cons pe_int (pa_cons (pe_un un_neg pe_int) pa_nil)))) (pa_cons pe_int pa_nil))) T.cl_Element R_Element_trace G_Element_trace (hr.mono (by decide)) b_Element_trace .nil pass0 (by rfl)) pa_nil))))))
    (pss_one (ps_ret (pe_and (pe_cmpR (op_eqD hr.units) (pv 5) (pe_lst (pa_cons (pe_tup (pa_cons pe_int (pa_cons pe_int pa_nil))) (pa_cons (pe_tup (pa_cons (pe_tup (pa_cons (pe_un un_neg pe_int) (pa_cons pe_int pa_nil))) (pa_cons (pe_tup (pa_cons pe_int (pa_cons pe_int pa_nil))) (pa_cons (pe_tup (pa_cons (pe_un un_neg pe_int) (pa_cons pe_int pa_nil))) pa_nil)))) (pa_cons (pe_tup (pa_cons (pe_un un_neg pe_int) (pa_cons pe_int pa_nil))) (pa_cons (pe_tup (pa_cons pe_int (pa_cons pe_int pa_nil))) pa_nil))))) (nomark _)) (pe_one (pe_cmpR (op_eqD hr.units) (pe_prop (pe_meth0 (pe_make R_Ring___init__ G_Ring___init__ (hr.mono (by decide)) (by rfl) T.g_Ring b_Ring___init__ .nil pass0 (pa_cons (pe_make R_Form___init__ G_Form___init__ (hr.mono (by decide)) (by rfl) T.g_Form b_Form___init__ .nil pass0 (pa_cons (pe_tup (pa_cons pe_int (pa_cons pe_int (pa_cons pe_int (pa_cons pe_int pa_nil))))) pa_nil)) pa_nil)) T.cl_Ring R_Ring_w G_Ring_w (hr.mono (by decide)) b_Ring_w .nil pass0) T.cl_Element R_Element_norm G_Element_norm (hr.mono (by decide)) b_Element_norm .nil pass0 (by rfl)) (pe_tup (pa_cons pe_int (pa_cons pe_int pa_nil))) (nomark _)))))))))), ?_⟩
    have hm : ∀ z : Int, z ≤ 63 → -(2 ^ 62) ≤ (if (if z < 4 then z else 4) > 1 then (if z < 4 then z else 4) else 1) ∧ (if (if z < 4 then z else 4) > 1 then (if z < 4 then z else 4) else 1) < 2 ^ 62 := fun z hz => by
      split <;> split <;> omega
    have hm2 := hm (((ns.map V.int).length : Nat) : Int) (by rw [List.length_map]; omega)
    refine ⟨_, rfl, a, _, rfl, .inl hS, _, _, rfl, _, _, rfl, _, rfl, hm2.1, hm2.2, ?_⟩
    refine for_range (lo := 0) (fun i σ H' => ∃ y1 y2, σ = [some (.ref a), y1, y2, none, none, none] ∧ Ex0 H H') ⟨none, none, rfl, Ex0.refl H⟩ ?_ ?_
    · rintro i σ H' hi ⟨y1, y2, rfl, e⟩
      refine ⟨_, rfl, _, rfl, a, ns, i, by show [V.ref a, V.int (0 + (i : Int))] = _; rw [Int.zero_add], e.sqL (fun z => z) hS, fun p H1 np e1 hv => ?_⟩
      have hp0 : H p = none := Fx.free e (fun z => z) np
      have e01 : Ex0 H H1 := e.trans e1
      refine ⟨_, rfl, p, rfl, hv, fun H3 e3 => ⟨_, rfl, ?_⟩⟩
      refine iteF ⟨_, rfl, p, rfl, e3.1, fun H4 e4 => ⟨_, rfl, ?_⟩⟩
      refine iteF ?_
      exact ⟨_, _, rfl, ex_fv e01 hp0 (e3.trans e4)⟩
    · rintro σ H' ⟨y1, y2, rfl, e⟩
      have B1 : B 1000 1 := ⟨by decide, by decide⟩
      have B2 : B 1000 2 := ⟨by decide, by decide⟩
      have Bz : B 1000 0 := ⟨by decide, by decide⟩
      have BB : B4 1000 1 1 2 1 := ⟨B1, B1, B2, B1⟩
      have B0' : B4 1000 0 1 1 0 := ⟨Bz, B1, B1, Bz⟩
      have B9 : ∀ {u y z : Int}, u.natAbs < 2 ^ 9000 → y.natAbs < 2 ^ 9000 → z.natAbs < 2 ^ 9000 → B3 9000 u y z := fun a b c => ⟨⟨a, by decide⟩, ⟨b, by decide⟩, ⟨c, by decide⟩⟩
      have sh : ∀ n ∈ [(1 : Int), 1, 2, 1], Short n := fun n h => by
        simp only [List.mem_cons, List.mem_nil_iff, or_false] at h
        rcases h with rfl | rfl | rfl | rfl <;> exact ⟨by decide, by decide⟩
      have sh0 : ∀ n ∈ [(0 : Int), 1, 1, 0], Short n := fun n h => by
        simp only [List.mem_cons, List.mem_nil_iff, or_false] at h
        rcases h with rfl | rfl | rfl | rfl <;> exact ⟨by decide, by decide⟩
      refine ⟨fun σ H2 => ∃ R : Addr, σ = [some (.ref a), y1, y2, some (.ref R), none, none] ∧ RingAt C_Form C_Ring H2 R [1, 1, 2, 1], ?_, ?_⟩
      · refine ⟨sl4, fun t nt x dx nx ndx _ => ?_⟩
        have ht : Ti (upd H' t (.tup [.int 1, .int 1, .int 2, .int 1])) t [1, 1, 2, 1] := upd_same
        refine ⟨x, dx, t, [1, 1, 2, 1], rfl, upd_same, made_at nx ndx ht, rfl, sh, fun H2 e2 h2 => ⟨rfl, ?_⟩⟩
        obtain ⟨e3, hx⟩ := fo_made nx ndx ht e2 h2
        intro y dy ny ndy _
        refine ⟨y, dy, x, [1, 1, 2, 1], rfl, upd_same, Ex0.fo (ex_two ny ndy) hx, fun H3 e4 h4 => ⟨rfl, ?_⟩⟩
        obtain ⟨e5, hy⟩ := ri_made ny ndy hx e4 h4
        exact ⟨y, rfl, hy⟩
      rintro σ H2 ⟨R, rfl, hR⟩
      refine ⟨fun σ H3 => ∃ Z : Addr, σ = [some (.ref a), y1, y2, some (.ref R), some (.ref Z), none] ∧ RingAt C_Form C_Ring H3 R [1, 1, 2, 1] ∧ ElAt C_Form C_Ring C_Element H3 Z [1, 1, 2, 1] 1 2 (-1) 1, ?_, ?_⟩
      · obtain ⟨dR, xR, hR1, hR2⟩ := id hR
        refine ⟨_, rfl, R, dR, _, rfl, hR1, rfl, _, rfl, sl3, fun t nt => ?_⟩
        have et : Ex0 H2 (upd H2 t (.tup [.int 1, .int 2, .int (-1)])) := Ex0.new nt
        refine ⟨R, t, _, 1, 2, -1, 1, rfl, Ex0.ri et hR, upd_same, ⟨by decide, by decide⟩, ⟨by decide, by decide⟩, ⟨by decide, by decide⟩, ⟨by decide, by decide⟩, by decide, fun Z H3 u' y' z' b' l1 e3 hZ => ?_⟩
        obtain ⟨rfl, rfl, rfl, rfl⟩ := low1 l1
        exact ⟨Z, rfl, Ex0.ri (et.trans e3) hR, hZ⟩
      rintro σ H3 ⟨Z, rfl, hR3, hZ⟩
      refine ⟨fun σ H8 => ∃ (L T1 P T2 T3 : Addr), σ = [some (.ref a), y1, y2, some (.ref R), some (.ref Z), some (.ref L)] ∧ H8 L = some (.lst [.ref T1, .ref P, .ref T2, .ref T3]) ∧ Ti H8 T1 [7, 1] ∧ T33 H8 P [-1, 1] [2, 1] [-1, 1] ∧ Ti H8 T2 [-1, 1] ∧ Ti H8 T3 [7, 2], ?_, ?_⟩
      · obtain ⟨dR, xR, hR1, hR2⟩ := id hR3
        obtain ⟨dZ, rZ, tZ, hZ0, _, _⟩ := id hZ
        refine ⟨_, rfl, Z, dZ, _, rfl, hZ0, Z, 1, 1, 2, 1, 1, 2, -1, 1, rfl, hZ, BB, B9 (by decide) (by decide) (by decide), by decide, by decide, fun T1 H4 p q' g g0 w1 w2 w3 e4 hT1 => ?_⟩
        obtain ⟨rfl, rfl⟩ := (show Fq 7 1 p q' from ⟨g, g0, w1, w2, w3⟩).unit
        refine ⟨_, rfl, R, dR, _, rfl, Ex0.ap e4 hR1, rfl, R, _, rfl, Ex0.ri e4 hR3, fun E H5 e5 hE => ?_⟩
        obtain ⟨dE, rE, tE, hE0, _, _⟩ := id hE
        refine ⟨E, dE, _, rfl, hE0, E, 1, 1, 2, 1, 0, 1, 0, 1, rfl, hE, BB, B9 (by decide) (by decide) (by decide), by decide, by decide, fun P H6 a1 b1 a2 b2 a3 b3 x1 x2 x3 e6 hP => ?_⟩
        obtain ⟨rfl, rfl⟩ := (show Fq (-1) 1 a1 b1 from x1).unit
        obtain ⟨rfl, rfl⟩ := (show Fq 2 1 a2 b2 from x2).unit
        obtain ⟨rfl, rfl⟩ := (show Fq (-1) 1 a3 b3 from x3).unit
        have e46 := (e4.trans e5).trans e6
        refine ⟨_, rfl, R, dR, _, rfl, Ex0.ap e46 hR1, rfl, R, _, rfl, Ex0.ri e46 hR3, fun E' H7 e7 hE' => ?_⟩
        obtain ⟨dE', rE', tE', hE0', _, _⟩ := id hE'
        refine ⟨E', dE', _, rfl, hE0', E', 1, 1, 2, 1, 0, 0, 1, 1, rfl, hE', BB, B9 (by decide) (by decide) (by decide), by decide, by decide, fun T2 H8 p q' w e8 hT2 => ?_⟩
        obtain ⟨rfl, rfl⟩ := (show Fq (-1) 1 p q' from w).unit
        have e48 := (e46.trans e7).trans e8
        refine ⟨_, rfl, R, dR, _, rfl, Ex0.ap e48 hR1, rfl, _, rfl, sl3, fun t nt => ?_⟩
        have et : Ex0 H8 (upd H8 t (.tup [.int 1, .int 2, .int (-1)])) := Ex0.new nt
        refine ⟨R, t, _, 1, 2, -1, 2, rfl, Ex0.ri (e48.trans et) hR3, upd_same, ⟨by decide, by decide⟩, ⟨by decide, by decide⟩, ⟨by decide, by decide⟩, ⟨by decide, by decide⟩, by decide, fun Z2 H9 u' y' z' b' l1 e9 hZ2 => ?_⟩
        obtain ⟨rfl, rfl, rfl, rfl⟩ := low2 l1
        obtain ⟨dZ2, rZ2, tZ2, hZ20, _, _⟩ := id hZ2
        refine ⟨Z2, dZ2, _, rfl, hZ20, Z2, 1, 1, 2, 1, 1, 2, -1, 2, rfl, hZ2, BB, B9 (by decide) (by decide) (by decide), by decide, by decide, fun T3 H10 p q' g g0 w1 w2 w3 e10 hT3 => ?_⟩
        obtain ⟨rfl, rfl⟩ := fq72 (show Fq 7 2 p q' from ⟨g, g0, w1, w2, w3⟩)
        refine ⟨sl4, fun L nL => ?_⟩
        have eL : Ex0 H10 (upd H10 L (.lst [.ref T1, .ref P, .ref T2, .ref T3])) := Ex0.new nL
        have e8L := ((et.trans e9).trans e10).trans eL
        exact ⟨L, T1, P, T2, T3, rfl, upd_same, Ex0.ti ((((e5.trans e6).trans e7).trans e8).trans e8L) hT1, Ex0.t33 ((e7.trans e8).trans e8L) hP, Ex0.ti e8L hT2, Ex0.ti eL hT3⟩
      rintro σ H8 ⟨L, T1, P, T2, T3, rfl, hL, h1, h2, h3, h4⟩
      refine ⟨_, rfl, sl2, fun a1 n1 => ⟨_, rfl, sl2, fun a2 n2 => ⟨sl2, fun a3 n3 => ⟨_, rfl, sl2, fun a4 n4 => ⟨sl3, fun a5 n5 => ⟨_, rfl, sl2, fun a6 n6 => ⟨sl2, fun a7 n7 => ⟨sl4, fun L2' n8 => ?_⟩⟩⟩⟩⟩⟩⟩⟩
      obtain ⟨z1, z2⟩ := t33_new (r1 := [-1, 1]) (r2 := [2, 1]) (r3 := [-1, 1]) n2 n3 n4 n5
      have m1 := Ex0.new (o := .tup [.int 7, .int 1]) n1
      have m6 := Ex0.new (o := .tup [.int (-1), .int 1]) n6
      have m7 := Ex0.new (o := .tup [.int 7, .int 2]) n7
      have m8 := Ex0.new (o := .lst [.ref a1, .ref a5, .ref a6, .ref a7]) n8
      have e58 := (m6.trans m7).trans m8
      have e18 := z1.trans e58
      have e08 := m1.trans e18
      refine ⟨.list [.tuple ([7, 1].map .int), d33 [-1, 1] [2, 1] [-1, 1], .tuple ([-1, 1].map .int), .tuple ([7, 2].map .int)], .list [.tuple ([7, 1].map .int), d33 [-1, 1] [2, 1] [-1, 1], .tuple ([-1, 1].map .int), .tuple ([7, 2].map .int)],
        .lst (SqL.of (Ex0.ap e08 hL)) (.cons (.tup (SqT.of (Ex0.ti e08 h1)) (dp_ints _)) (.cons (Ex0.t33 e08 h2).dp (.cons (.tup (SqT.of (Ex0.ti e08 h3)) (dp_ints _)) (.cons (.tup (SqT.of (Ex0.ti e08 h4)) (dp_ints _)) .nil)))),
        .lst (SqL.of upd_same) (.cons (.tup (SqT.of (Ex0.ap e18 upd_same)) (dp_ints [7, 1])) (.cons (Ex0.t33 e58 z2).dp (.cons (.tup (SqT.of (Ex0.ap (m7.trans m8) upd_same)) (dp_ints [-1, 1])) (.cons (.tup (SqT.of (Ex0.ap m8 upd_same)) (dp_ints [7, 2])) .nil)))), by decide, by decide, true, rfl, iteT ?_⟩
      refine ⟨sl4, fun t nt x dx nx ndx _ => ?_⟩
      have ht := fun (H : Hp) (n : H t = none) => (upd_same : upd H t (.tup [.int 0, .int 1, .int 1, .int 0]) t = some (.tup [.int 0, .int 1, .int 1, .int 0]))
      refine ⟨x, dx, t, [0, 1, 1, 0], rfl, upd_same, made_at nx ndx (ht _ nt), rfl, sh0, fun H5 e7 h5 => ⟨rfl, ?_⟩⟩
      obtain ⟨e8, hx⟩ := fo_made (ns := [0, 1, 1, 0]) nx ndx (ht _ nt) e7 h5
      intro y dy ny ndy _
      refine ⟨y, dy, x, [0, 1, 1, 0], rfl, upd_same, Ex0.fo (ex_two ny ndy) hx, fun H6 e9 h6 => ⟨rfl, ?_⟩⟩
      obtain ⟨e10, hy⟩ := ri_made ny ndy hx e9 h6
      obtain ⟨dR, xR, hR1, hR2⟩ := id hy
      refine ⟨y, dR, _, rfl, hR1, rfl, y, _, rfl, hy, fun E' H7 e11 hE => ?_⟩
      obtain ⟨dE, rE, tE, hE0, _, _⟩ := id hE
      refine ⟨E', dE, _, rfl, hE0, E', 0, 1, 1, 0, 0, 1, 0, 1, rfl, hE, B0', B9 (by decide) (by decide) (by decide), by decide, by decide, fun N H8' p q' w e12 hN => ?_⟩
      obtain ⟨rfl, rfl⟩ := (show Fq 0 1 p q' from w).unit
      refine ⟨sl2, fun l nl => ?_⟩
      refine ⟨.tuple ([0, 1].map .int), .tuple ([0, 1].map .int), .tup (SqT.of (Ex0.ti (Ex0.new nl) hN)) (dp_ints _), .tup (SqT.of upd_same) (dp_ints [0, 1]), by decide, by decide, ?_⟩
      exact q _
end
def e0 : Hd.Dd := ⟨fun K => He.ga K "is_any_integer", "is_any_integer", "is_any_integer", s_is_any_integer, []⟩
def e1 : Hd.Dd := ⟨fun K => He.ga K "is_short_integer", "is_short_integer", "is_short_integer", s_is_short_integer, []⟩
def e2 : Hd.Dd := ⟨fun K => He.ga K "are_short_integers", "are_short_integers", "are_short_integers", s_are_short_integers, []⟩
def e3 : Hd.Dd := ⟨fun K => He.ga K "check_integer", "check_integer", "check_integer", s_check_integer, []⟩
def e4 : Hd.Dd := ⟨fun K => He.ga K "shared_divisor", "shared_divisor", "shared_divisor", s_shared_divisor, []⟩
def e5 : Hd.Dd := ⟨fun K => He.ga K "fraction", "fraction", "fraction", s_fraction, []⟩
def e6 : Hd.Dd := ⟨fun K => He.ga K "check_form", "check_form", "check_form", s_check_form, []⟩
def e7 : Hd.Dd := ⟨fun K => He.ma K (He.ga K "Form") "__init__", "__init__", "Form.__init__", s_Form___init__, []⟩
def e8 : Hd.Dd := ⟨fun K => Hd.pa K (He.ga K "Form") "coefficients", "coefficients", "Form.coefficients", s_Form_coefficients, []⟩
def e9 : Hd.Dd := ⟨fun K => He.ma K (He.ga K "Form") "__eq__", "__eq__", "Form.__eq__", s_Form___eq__, []⟩
def e10 : Hd.Dd := ⟨fun K => He.ga K "table_of", "table_of", "table_of", s_table_of, []⟩
def e11 : Hd.Dd := ⟨fun K => He.ga K "product_by", "product_by", "product_by", s_product_by, []⟩
def e12 : Hd.Dd := ⟨fun K => He.ga K "determinant_by", "determinant_by", "determinant_by", s_determinant_by, []⟩
def e13 : Hd.Dd := ⟨fun K => He.ga K "map_by", "map_by", "map_by", s_map_by, []⟩
def e14 : Hd.Dd := ⟨fun K => He.ga K "trace_by", "trace_by", "trace_by", s_trace_by, []⟩
def e15 : Hd.Dd := ⟨fun K => He.ga K "polynomial_by", "polynomial_by", "polynomial_by", s_polynomial_by, []⟩
def e16 : Hd.Dd := ⟨fun K => He.ga K "check_bottom", "check_bottom", "check_bottom", s_check_bottom, []⟩
def e17 : Hd.Dd := ⟨fun K => He.ga K "table_for", "table_for", "table_for", s_table_for, []⟩
def e18 : Hd.Dd := ⟨fun K => He.ma K (He.ga K "Ring") "__init__", "__init__", "Ring.__init__", s_Ring___init__, []⟩
def e19 : Hd.Dd := ⟨fun K => Hd.pa K (He.ga K "Ring") "form", "form", "Ring.form", s_Ring_form, []⟩
def e20 : Hd.Dd := ⟨fun K => He.ma K (He.ga K "Ring") "one", "one", "Ring.one", s_Ring_one, []⟩
def e21 : Hd.Dd := ⟨fun K => He.ma K (He.ga K "Ring") "w", "w", "Ring.w", s_Ring_w, []⟩
def e22 : Hd.Dd := ⟨fun K => He.ma K (He.ga K "Ring") "t", "t", "Ring.t", s_Ring_t, []⟩
def e23 : Hd.Dd := ⟨fun K => He.ma K (He.ga K "Ring") "element", "element", "Ring.element", s_Ring_element, [.int 1]⟩
def e24 : Hd.Dd := ⟨fun K => He.ma K (He.ga K "Ring") "__eq__", "__eq__", "Ring.__eq__", s_Ring___eq__, []⟩
def e25 : Hd.Dd := ⟨fun K => He.ga K "check_one_ring", "check_one_ring", "check_one_ring", s_check_one_ring, []⟩
def e26 : Hd.Dd := ⟨fun K => He.ga K "mixed", "mixed", "mixed", s_mixed, []⟩
def e27 : Hd.Dd := ⟨fun K => He.ma K (He.ga K "Element") "__init__", "__init__", "Element.__init__", s_Element___init__, []⟩
def e28 : Hd.Dd := ⟨fun K => Hd.pa K (He.ga K "Element") "ring", "ring", "Element.ring", s_Element_ring, []⟩
def e29 : Hd.Dd := ⟨fun K => Hd.pa K (He.ga K "Element") "entries", "entries", "Element.entries", s_Element_entries, []⟩
def e30 : Hd.Dd := ⟨fun K => Hd.pa K (He.ga K "Element") "bottom", "bottom", "Element.bottom", s_Element_bottom, []⟩
def e31 : Hd.Dd := ⟨fun K => Hd.pa K (He.ga K "Element") "trace", "trace", "Element.trace", s_Element_trace, []⟩
def e32 : Hd.Dd := ⟨fun K => Hd.pa K (He.ga K "Element") "norm", "norm", "Element.norm", s_Element_norm, []⟩
def e33 : Hd.Dd := ⟨fun K => Hd.pa K (He.ga K "Element") "polynomial", "polynomial", "Element.polynomial", s_Element_polynomial, []⟩
def e34 : Hd.Dd := ⟨fun K => He.ma K (He.ga K "Element") "__add__", "__add__", "Element.__add__", s_Element___add__, []⟩
def e35 : Hd.Dd := ⟨fun K => He.ma K (He.ga K "Element") "__mul__", "__mul__", "Element.__mul__", s_Element___mul__, []⟩
def e36 : Hd.Dd := ⟨fun K => He.ma K (He.ga K "Element") "scaled", "scaled", "Element.scaled", s_Element_scaled, [.int 1]⟩
def e37 : Hd.Dd := ⟨fun K => He.ma K (He.ga K "Element") "__bool__", "__bool__", "Element.__bool__", s_Element___bool__, []⟩
def e38 : Hd.Dd := ⟨fun K => He.ga K "_law_vat", "_law_vat", "_law_vat", s_l_vat, []⟩
def e39 : Hd.Dd := ⟨fun K => He.ga K "_law_drip", "_law_drip", "_law_drip", s_l_drip, []⟩
def e40 : Hd.Dd := ⟨fun K => He.ga K "_law_some_of", "_law_some_of", "_law_some_of", s_l_some_of, []⟩
def e41 : Hd.Dd := ⟨fun K => He.ga K "_law_int", "_law_int", "_law_int", s_l_int, []⟩
def e42 : Hd.Dd := ⟨fun K => He.ga K "_law_share", "_law_share", "_law_share", s_l_share, []⟩
def e43 : Hd.Dd := ⟨fun K => He.ga K "_law_fraction", "_law_fraction", "_law_fraction", s_l_fraction, []⟩
def e44 : Hd.Dd := ⟨fun K => He.ga K "_law_rows", "_law_rows", "_law_rows", s_l_rows, []⟩
def e45 : Hd.Dd := ⟨fun K => He.ga K "_law_mixed", "_law_mixed", "_law_mixed", s_l_mixed, []⟩
def e46 : Hd.Dd := ⟨fun K => He.ga K "_law_images", "_law_images", "_law_images", s_l_images, []⟩
def e47 : Hd.Dd := ⟨fun K => He.ga K "_law_det", "_law_det", "_law_det", s_l_det, []⟩
def e48 : Hd.Dd := ⟨fun K => He.ga K "_law_minors", "_law_minors", "_law_minors", s_l_minors, []⟩
def e49 : Hd.Dd := ⟨fun K => He.ga K "_law_coefficients", "_law_coefficients", "_law_coefficients", s_l_coefficients, []⟩
def e50 : Hd.Dd := ⟨fun K => He.ga K "_law_drawn", "_law_drawn", "_law_drawn", s_l_drawn, []⟩
def e51 : Hd.Dd := ⟨fun K => He.ga K "_law_three", "_law_three", "_law_three", s_l_three, []⟩
def e52 : Hd.Dd := ⟨fun K => He.ga K "_law_opposite", "_law_opposite", "_law_opposite", s_l_opposite, []⟩
def e53 : Hd.Dd := ⟨fun K => He.ga K "_law_is_root", "_law_is_root", "_law_is_root", s_l_is_root, []⟩
def e54 : Hd.Dd := ⟨fun K => He.ga K "_law_times", "_law_times", "_law_times", s_l_times, []⟩
def e55 : Hd.Dd := ⟨fun K => He.ga K "_law_right", "_law_right", "_law_right", s_l_right, []⟩
def e56 : Hd.Dd := ⟨fun K => He.ga K "law", "law", "law", s_law, []⟩
def dd0 : List Hd.Dd := [e0, e1, e2, e3, e4, e5, e6, e7, e8, e9, e10, e11, e12, e13, e14, e15, e16, e17, e18, e19]
def dd1 : List Hd.Dd := [e20, e21, e22, e23, e24, e25, e26, e27, e28, e29, e30, e31, e32, e33, e34, e35, e36, e37, e38, e39]
def dd2 : List Hd.Dd := [e40, e41, e42, e43, e44, e45, e46, e47, e48, e49, e50, e51, e52, e53, e54, e55, e56]
def dd : List Hd.Dd := dd0 ++ (dd1 ++ (dd2))
def g0 : Hd.Fb := fun K => (fun K => (He.Fa.glo "Form").ok K) K
def g1 : Hd.Fb := fun K => (fun K => (He.Fa.cls "Form").ok K) K
def g2 : Hd.Fb := fun K => Hd.tyB "Form" K
def g3 : Hd.Fb := fun K => (fun K => (He.Fa.noat "Form" "_coefficients").ok K) K
def g4 : Hd.Fb := fun K => (fun K => (He.Fa.glo "Ring").ok K) K
def g5 : Hd.Fb := fun K => (fun K => (He.Fa.cls "Ring").ok K) K
def g6 : Hd.Fb := fun K => Hd.tyB "Ring" K
def g7 : Hd.Fb := fun K => (fun K => (He.Fa.noat "Ring" "_form").ok K) K
def g8 : Hd.Fb := fun K => (fun K => (He.Fa.glo "Element").ok K) K
def g9 : Hd.Fb := fun K => (fun K => (He.Fa.cls "Element").ok K) K
def g10 : Hd.Fb := fun K => Hd.tyB "Element" K
def g11 : Hd.Fb := fun K => (fun K => (He.Fa.noat "Element" "_ring").ok K) K
def g12 : Hd.Fb := fun K => (fun K => (He.Fa.noat "Element" "_entries").ok K) K
def g13 : Hd.Fb := fun K => (fun K => (He.Fa.noat "Element" "_bottom").ok K) K
def g14 : Hd.Fb := fun K => (fun K => (He.Fa.glo "is_any_integer").ok K) K
def g15 : Hd.Fb := fun K => (fun K => (He.Fa.glo "is_short_integer").ok K) K
def g16 : Hd.Fb := fun K => (fun K => (He.Fa.glo "are_short_integers").ok K) K
def g17 : Hd.Fb := fun K => (fun K => (He.Fa.glo "check_integer").ok K) K
def g18 : Hd.Fb := fun K => (fun K => (He.Fa.glo "shared_divisor").ok K) K
def g19 : Hd.Fb := fun K => (fun K => (He.Fa.glo "fraction").ok K) K
def g20 : Hd.Fb := fun K => (fun K => (He.Fa.glo "check_form").ok K) K
def g21 : Hd.Fb := fun K => (fun K => (He.Fa.mkr "Form").ok K) K
def g22 : Hd.Fb := fun K => Hd.propB "Form" "coefficients" K
def g23 : Hd.Fb := fun K => Hd.eqB "Form" K
def g24 : Hd.Fb := fun K => (fun K => (He.Fa.glo "table_of").ok K) K
def g25 : Hd.Fb := fun K => (fun K => (He.Fa.glo "product_by").ok K) K
def g26 : Hd.Fb := fun K => (fun K => (He.Fa.glo "determinant_by").ok K) K
def g27 : Hd.Fb := fun K => (fun K => (He.Fa.glo "map_by").ok K) K
def g28 : Hd.Fb := fun K => (fun K => (He.Fa.glo "trace_by").ok K) K
def g29 : Hd.Fb := fun K => (fun K => (He.Fa.glo "polynomial_by").ok K) K
def g30 : Hd.Fb := fun K => (fun K => (He.Fa.glo "check_bottom").ok K) K
def g31 : Hd.Fb := fun K => (fun K => (He.Fa.glo "table_for").ok K) K
def g32 : Hd.Fb := fun K => (fun K => (He.Fa.mkr "Ring").ok K) K
def g33 : Hd.Fb := fun K => Hd.propB "Ring" "form" K
def g34 : Hd.Fb := fun K => (fun K => (He.Fa.meth "Ring" "one").ok K) K
def g35 : Hd.Fb := fun K => (fun K => (He.Fa.meth "Ring" "w").ok K) K
def g36 : Hd.Fb := fun K => (fun K => (He.Fa.meth "Ring" "t").ok K) K
def g37 : Hd.Fb := fun K => (fun K => (He.Fa.meth "Ring" "element").ok K) K
def g38 : Hd.Fb := fun K => Hd.eqB "Ring" K
def g39 : Hd.Fb := fun K => (fun K => (He.Fa.glo "check_one_ring").ok K) K
def g40 : Hd.Fb := fun K => (fun K => (He.Fa.glo "mixed").ok K) K
def g41 : Hd.Fb := fun K => (fun K => (He.Fa.mkr "Element").ok K) K
def g42 : Hd.Fb := fun K => Hd.propB "Element" "ring" K
def g43 : Hd.Fb := fun K => Hd.propB "Element" "entries" K
def g44 : Hd.Fb := fun K => Hd.propB "Element" "bottom" K
def g45 : Hd.Fb := fun K => Hd.propB "Element" "trace" K
def g46 : Hd.Fb := fun K => Hd.propB "Element" "norm" K
def g47 : Hd.Fb := fun K => Hd.propB "Element" "polynomial" K
def g48 : Hd.Fb := fun K => Hd.binB "Element" "__add__" K
def g49 : Hd.Fb := fun K => Hd.binB "Element" "__mul__" K
def g50 : Hd.Fb := fun K => (fun K => (He.Fa.meth "Element" "scaled").ok K) K
def g51 : Hd.Fb := fun K => (fun K => (He.Fa.meth "Element" "__bool__").ok K) K
def g52 : Hd.Fb := fun K => (fun K => (He.Fa.glo "_law_vat").ok K) K
def g53 : Hd.Fb := fun K => (fun K => (He.Fa.glo "_law_drip").ok K) K
def g54 : Hd.Fb := fun K => (fun K => (He.Fa.glo "_law_some_of").ok K) K
def g55 : Hd.Fb := fun K => (fun K => (He.Fa.glo "_law_int").ok K) K
def g56 : Hd.Fb := fun K => (fun K => (He.Fa.glo "_law_share").ok K) K
def g57 : Hd.Fb := fun K => (fun K => (He.Fa.glo "_law_fraction").ok K) K
def g58 : Hd.Fb := fun K => (fun K => (He.Fa.glo "_law_rows").ok K) K
def g59 : Hd.Fb := fun K => (fun K => (He.Fa.glo "_law_mixed").ok K) K
def g60 : Hd.Fb := fun K => (fun K => (He.Fa.glo "_law_images").ok K) K
def g61 : Hd.Fb := fun K => (fun K => (He.Fa.glo "_law_det").ok K) K
def g62 : Hd.Fb := fun K => (fun K => (He.Fa.glo "_law_minors").ok K) K
def g63 : Hd.Fb := fun K => (fun K => (He.Fa.glo "_law_coefficients").ok K) K
def g64 : Hd.Fb := fun K => (fun K => (He.Fa.glo "_law_drawn").ok K) K
def g65 : Hd.Fb := fun K => (fun K => (He.Fa.glo "_law_three").ok K) K
def g66 : Hd.Fb := fun K => (fun K => (He.Fa.glo "_law_opposite").ok K) K
def g67 : Hd.Fb := fun K => (fun K => (He.Fa.glo "_law_is_root").ok K) K
def g68 : Hd.Fb := fun K => (fun K => (He.Fa.glo "_law_times").ok K) K
def g69 : Hd.Fb := fun K => (fun K => (He.Fa.glo "_law_right").ok K) K
def g70 : Hd.Fb := fun K => (fun K => (He.Fa.glo "law").ok K) K
def g71 : Hd.Fb := fun K => (fun K => (He.Fa.free "abs").ok K) K
def g72 : Hd.Fb := fun K => (fun K => (He.Fa.free "all").ok K) K
def g73 : Hd.Fb := fun K => (fun K => (He.Fa.free "any").ok K) K
def g74 : Hd.Fb := fun K => (fun K => (He.Fa.free "bool").ok K) K
def g75 : Hd.Fb := fun K => (fun K => (He.Fa.free "int").ok K) K
def g76 : Hd.Fb := fun K => (fun K => (He.Fa.free "isinstance").ok K) K
def g77 : Hd.Fb := fun K => (fun K => (He.Fa.free "len").ok K) K
def g78 : Hd.Fb := fun K => (fun K => (He.Fa.free "max").ok K) K
def g79 : Hd.Fb := fun K => (fun K => (He.Fa.free "min").ok K) K
def g80 : Hd.Fb := fun K => (fun K => (He.Fa.free "range").ok K) K
def g81 : Hd.Fb := fun K => (fun K => (He.Fa.free "tuple").ok K) K
def g82 : Hd.Fb := fun K => (fun K => (He.Fa.free "zip").ok K) K
def g83 : Hd.Fb := fun K => (fun K => (He.Fa.int "LIMIT" (1000000000000000000000000000000000000000000000000000000000000)).ok K) K
def g84 : Hd.Fb := fun K => Hd.bltB "gcd" "math.gcd" K
def g85 : Hd.Fb := fun K => Hd.refsB (fun K => He.ga K "UNITS") 3 K
def g86 : Hd.Fb := fun K => Hd.intsB (fun K => Hd.itA K (He.ga K "UNITS") 0) [1, 0, 0] K
def g87 : Hd.Fb := fun K => Hd.intsB (fun K => Hd.itA K (He.ga K "UNITS") 1) [0, 1, 0] K
def g88 : Hd.Fb := fun K => Hd.intsB (fun K => Hd.itA K (He.ga K "UNITS") 2) [0, 0, 1] K
def g89 : Hd.Fb := fun K => (fun K => (He.Fa.glo "UNITS").ok K) K
def fa0 : List Hd.Fb := [g0, g1, g2, g3, g4, g5, g6, g7, g8, g9, g10, g11, g12, g13, g14, g15, g16, g17, g18, g19]
def fa1 : List Hd.Fb := [g20, g21, g22, g23, g24, g25, g26, g27, g28, g29, g30, g31, g32, g33, g34, g35, g36, g37, g38, g39]
def fa2 : List Hd.Fb := [g40, g41, g42, g43, g44, g45, g46, g47, g48, g49, g50, g51, g52, g53, g54, g55, g56, g57, g58, g59]
def fa3 : List Hd.Fb := [g60, g61, g62, g63, g64, g65, g66, g67, g68, g69, g70, g71, g72, g73, g74, g75, g76, g77, g78, g79]
def fa4 : List Hd.Fb := [g80, g81, g82, g83, g84, g85, g86, g87, g88, g89]
def fa : List Hd.Fb := fa0 ++ (fa1 ++ (fa2 ++ (fa3 ++ (fa4))))
def names0 : List Str := ["_wall", "__name__", "RingError", "InvalidForm", "InvalidDouble", "InvalidElement", "InvalidOperation", "ParseError", "InvalidNumber", "Refused", "DIGITS", "LIMIT", "is_any_integer", "is_short_integer", "is_between", "are_short_integers", "is_written_integer", "check_integer", "check_between", "shared_divisor", "fraction", "double_value", "double_of", "Double", "plain_root", "rest_of", "form_value", "is_root_of", "check_form", "form_of"]
def names1 : List Str := ["Form", "UNITS", "table_of", "product_by", "determinant_by", "map_by", "trace_by", "polynomial_by", "check_bottom", "table_for", "Ring", "check_one_ring", "mixed", "term", "sum_text", "Element", "_law_vat", "_law_drip", "_law_some_of", "_law_int", "_law_share", "_law_fraction", "_law_rows", "_law_mixed", "_law_images", "_law_det", "_law_minors", "_law_coefficients", "_law_drawn", "_law_three"]
def names2 : List Str := ["_law_opposite", "_law_is_root", "_law_times", "_law_right"]
def names : List Str := names0 ++ (names1 ++ (names2))
abbrev RR : PySem.W.OpenRow := PySem.W.OpenLaw.row PySem.Challenge.rw_formrings_k13_whole_traces_norms_polynom
abbrev vw : Program := PySem.W.view RR.prog [0, 73]
abbrev hk : PySem.W.Hook := Hd.hookM 5 fa dd
def ob (s : PySem.W.SharedT) : Hd.AlM := Hd.obsMG 5 fa dd (HandSHeadRun.getT s)
theorem ob_eq (s : PySem.W.SharedT) : ob s = hk.obs s.abs := Hd.obsMG_eq (HandSHeadRun.getT_eq s)
theorem run (w : World) : HandSHeadRun.RunEqI RR vw hk ob 9000 names w := by
  unfold HandSHeadRun.RunEqI
  kernel_rfl
theorem facts {P : Program} {w : World} {K : PySem.W.Frag} {h : Heap} {mg : Str → Option Value} {f : Addr} (X : K.In h) (G : h.Ns mainGlobals mg) (hfa : mg ("law" : Str) = some (.ref f)) (c : Hd.SaysM fa dd K) :
    ∃ fd : FuncData, (∀ (s : Shared) (v : Value), BindsTo s fd ⟨[v], []⟩ [("_law_script", v)]) ∧ ∀ base : Heap, K.In base → base.Ns mainGlobals mg → FnOk P w K mg base CX0 10 f fd ["_law_script"] (sp_lawW K) := by
  obtain ⟨fd0, F0⟩ := c.def_ 0 (d := e0) rfl
  obtain ⟨fd1, F1⟩ := c.def_ 1 (d := e1) rfl
  obtain ⟨fd2, F2⟩ := c.def_ 2 (d := e2) rfl
  obtain ⟨fd3, F3⟩ := c.def_ 3 (d := e3) rfl
  obtain ⟨fd4, F4⟩ := c.def_ 4 (d := e4) rfl
  obtain ⟨fd5, F5⟩ := c.def_ 5 (d := e5) rfl
  obtain ⟨fd6, F6⟩ := c.def_ 6 (d := e6) rfl
  obtain ⟨fd7, F7⟩ := c.def_ 7 (d := e7) rfl
  obtain ⟨fd8, F8⟩ := c.def_ 8 (d := e8) rfl
  obtain ⟨fd9, F9⟩ := c.def_ 9 (d := e9) rfl
  obtain ⟨fd10, F10⟩ := c.def_ 10 (d := e10) rfl
  obtain ⟨fd11, F11⟩ := c.def_ 11 (d := e11) rfl
  obtain ⟨fd12, F12⟩ := c.def_ 12 (d := e12) rfl
  obtain ⟨fd13, F13⟩ := c.def_ 13 (d := e13) rfl
  obtain ⟨fd14, F14⟩ := c.def_ 14 (d := e14) rfl
  obtain ⟨fd15, F15⟩ := c.def_ 15 (d := e15) rfl
  obtain ⟨fd16, F16⟩ := c.def_ 16 (d := e16) rfl
  obtain ⟨fd17, F17⟩ := c.def_ 17 (d := e17) rfl
  obtain ⟨fd18, F18⟩ := c.def_ 18 (d := e18) rfl
  obtain ⟨fd19, F19⟩ := c.def_ 19 (d := e19) rfl
  obtain ⟨fd20, F20⟩ := c.def_ 20 (d := e20) rfl
  obtain ⟨fd21, F21⟩ := c.def_ 21 (d := e21) rfl
  obtain ⟨fd22, F22⟩ := c.def_ 22 (d := e22) rfl
  obtain ⟨fd23, F23⟩ := c.def_ 23 (d := e23) rfl
  obtain ⟨fd24, F24⟩ := c.def_ 24 (d := e24) rfl
  obtain ⟨fd25, F25⟩ := c.def_ 25 (d := e25) rfl
  obtain ⟨fd26, F26⟩ := c.def_ 26 (d := e26) rfl
  obtain ⟨fd27, F27⟩ := c.def_ 27 (d := e27) rfl
  obtain ⟨fd28, F28⟩ := c.def_ 28 (d := e28) rfl
  obtain ⟨fd29, F29⟩ := c.def_ 29 (d := e29) rfl
  obtain ⟨fd30, F30⟩ := c.def_ 30 (d := e30) rfl
  obtain ⟨fd31, F31⟩ := c.def_ 31 (d := e31) rfl
  obtain ⟨fd32, F32⟩ := c.def_ 32 (d := e32) rfl
  obtain ⟨fd33, F33⟩ := c.def_ 33 (d := e33) rfl
  obtain ⟨fd34, F34⟩ := c.def_ 34 (d := e34) rfl
  obtain ⟨fd35, F35⟩ := c.def_ 35 (d := e35) rfl
  obtain ⟨fd36, F36⟩ := c.def_ 36 (d := e36) rfl
  obtain ⟨fd37, F37⟩ := c.def_ 37 (d := e37) rfl
  obtain ⟨fd38, F38⟩ := c.def_ 38 (d := e38) rfl
  obtain ⟨fd39, F39⟩ := c.def_ 39 (d := e39) rfl
  obtain ⟨fd40, F40⟩ := c.def_ 40 (d := e40) rfl
  obtain ⟨fd41, F41⟩ := c.def_ 41 (d := e41) rfl
  obtain ⟨fd42, F42⟩ := c.def_ 42 (d := e42) rfl
  obtain ⟨fd43, F43⟩ := c.def_ 43 (d := e43) rfl
  obtain ⟨fd44, F44⟩ := c.def_ 44 (d := e44) rfl
  obtain ⟨fd45, F45⟩ := c.def_ 45 (d := e45) rfl
  obtain ⟨fd46, F46⟩ := c.def_ 46 (d := e46) rfl
  obtain ⟨fd47, F47⟩ := c.def_ 47 (d := e47) rfl
  obtain ⟨fd48, F48⟩ := c.def_ 48 (d := e48) rfl
  obtain ⟨fd49, F49⟩ := c.def_ 49 (d := e49) rfl
  obtain ⟨fd50, F50⟩ := c.def_ 50 (d := e50) rfl
  obtain ⟨fd51, F51⟩ := c.def_ 51 (d := e51) rfl
  obtain ⟨fd52, F52⟩ := c.def_ 52 (d := e52) rfl
  obtain ⟨fd53, F53⟩ := c.def_ 53 (d := e53) rfl
  obtain ⟨fd54, F54⟩ := c.def_ 54 (d := e54) rfl
  obtain ⟨fd55, F55⟩ := c.def_ 55 (d := e55) rfl
  obtain ⟨fd56, F56⟩ := c.def_ 56 (d := e56) rfl
  have T : Txt K mg (He.ga K "Form") (He.ga K "Ring") (He.ga K "Element") := ⟨He.glo_ok X G (c.fact 0 (f := g0) rfl),
    He.cls_ok (c.fact 1 (f := g1) rfl),
    Hd.ty_ok (c.fact 2 (f := g2) rfl),
    He.noat_ok (c.fact 3 (f := g3) rfl),
    He.glo_ok X G (c.fact 4 (f := g4) rfl),
    He.cls_ok (c.fact 5 (f := g5) rfl),
    Hd.ty_ok (c.fact 6 (f := g6) rfl),
    He.noat_ok (c.fact 7 (f := g7) rfl),
    He.glo_ok X G (c.fact 8 (f := g8) rfl),
    He.cls_ok (c.fact 9 (f := g9) rfl),
    Hd.ty_ok (c.fact 10 (f := g10) rfl),
    He.noat_ok (c.fact 11 (f := g11) rfl),
    He.noat_ok (c.fact 12 (f := g12) rfl),
    He.noat_ok (c.fact 13 (f := g13) rfl),
    ⟨_, _, He.glo_ok X G (c.fact 14 (f := g14) rfl), Hd.fun_of F0⟩,
    ⟨_, _, He.glo_ok X G (c.fact 15 (f := g15) rfl), Hd.fun_of F1⟩,
    ⟨_, _, He.glo_ok X G (c.fact 16 (f := g16) rfl), Hd.fun_of F2⟩,
    ⟨_, _, He.glo_ok X G (c.fact 17 (f := g17) rfl), Hd.fun_of F3⟩,
    ⟨_, _, He.glo_ok X G (c.fact 18 (f := g18) rfl), Hd.fun_of F4⟩,
    ⟨_, _, He.glo_ok X G (c.fact 19 (f := g19) rfl), Hd.fun_of F5⟩,
    ⟨_, _, He.glo_ok X G (c.fact 20 (f := g20) rfl), Hd.fun_of F6⟩,
    ⟨He.ga K "Form", _, _, He.mkr_ok (c.fact 21 (f := g21) rfl), Hd.fun_of F7⟩,
    ⟨_, _, _, Hd.prop_ok (c.fact 22 (f := g22) rfl), Hd.fun_of F8⟩,
    ⟨He.ga K "Form", _, _, Hd.eq_ok (c.fact 23 (f := g23) rfl), Hd.fun_of F9⟩,
    ⟨_, _, He.glo_ok X G (c.fact 24 (f := g24) rfl), Hd.fun_of F10⟩,
    ⟨_, _, He.glo_ok X G (c.fact 25 (f := g25) rfl), Hd.fun_of F11⟩,
    ⟨_, _, He.glo_ok X G (c.fact 26 (f := g26) rfl), Hd.fun_of F12⟩,
    ⟨_, _, He.glo_ok X G (c.fact 27 (f := g27) rfl), Hd.fun_of F13⟩,
    ⟨_, _, He.glo_ok X G (c.fact 28 (f := g28) rfl), Hd.fun_of F14⟩,
    ⟨_, _, He.glo_ok X G (c.fact 29 (f := g29) rfl), Hd.fun_of F15⟩,
    ⟨_, _, He.glo_ok X G (c.fact 30 (f := g30) rfl), Hd.fun_of F16⟩,
    ⟨_, _, He.glo_ok X G (c.fact 31 (f := g31) rfl), Hd.fun_of F17⟩,
    ⟨He.ga K "Ring", _, _, He.mkr_ok (c.fact 32 (f := g32) rfl), Hd.fun_of F18⟩,
    ⟨_, _, _, Hd.prop_ok (c.fact 33 (f := g33) rfl), Hd.fun_of F19⟩,
    ⟨He.ga K "Ring", _, _, He.meth_ok (c.fact 34 (f := g34) rfl), Hd.fun_of F20⟩,
    ⟨He.ga K "Ring", _, _, He.meth_ok (c.fact 35 (f := g35) rfl), Hd.fun_of F21⟩,
    ⟨He.ga K "Ring", _, _, He.meth_ok (c.fact 36 (f := g36) rfl), Hd.fun_of F22⟩,
    ⟨He.ga K "Ring", _, _, He.meth_ok (c.fact 37 (f := g37) rfl), F23⟩,
    ⟨He.ga K "Ring", _, _, Hd.eq_ok (c.fact 38 (f := g38) rfl), Hd.fun_of F24⟩,
    ⟨_, _, He.glo_ok X G (c.fact 39 (f := g39) rfl), Hd.fun_of F25⟩,
    ⟨_, _, He.glo_ok X G (c.fact 40 (f := g40) rfl), Hd.fun_of F26⟩,
    ⟨He.ga K "Element", _, _, He.mkr_ok (c.fact 41 (f := g41) rfl), Hd.fun_of F27⟩,
    ⟨_, _, _, Hd.prop_ok (c.fact 42 (f := g42) rfl), Hd.fun_of F28⟩,
    ⟨_, _, _, Hd.prop_ok (c.fact 43 (f := g43) rfl), Hd.fun_of F29⟩,
    ⟨_, _, _, Hd.prop_ok (c.fact 44 (f := g44) rfl), Hd.fun_of F30⟩,
    ⟨_, _, _, Hd.prop_ok (c.fact 45 (f := g45) rfl), Hd.fun_of F31⟩,
    ⟨_, _, _, Hd.prop_ok (c.fact 46 (f := g46) rfl), Hd.fun_of F32⟩,
    ⟨_, _, _, Hd.prop_ok (c.fact 47 (f := g47) rfl), Hd.fun_of F33⟩,
    ⟨He.ga K "Element", _, _, (fun z => ⟨z.1, z.2.1, z.2.2⟩ : _ → BinC K _ _ _) (Hd.bin_ok (c.fact 48 (f := g48) rfl)), Hd.fun_of F34⟩,
    ⟨He.ga K "Element", _, _, (fun z => ⟨z.1, z.2.1, z.2.2⟩ : _ → BinC K _ _ _) (Hd.bin_ok (c.fact 49 (f := g49) rfl)), Hd.fun_of F35⟩,
    ⟨He.ga K "Element", _, _, He.meth_ok (c.fact 50 (f := g50) rfl), F36⟩,
    ⟨He.ga K "Element", _, _, He.meth_ok (c.fact 51 (f := g51) rfl), Hd.fun_of F37⟩,
    ⟨_, _, He.glo_ok X G (c.fact 52 (f := g52) rfl), Hd.fun_of F38⟩,
    ⟨_, _, He.glo_ok X G (c.fact 53 (f := g53) rfl), Hd.fun_of F39⟩,
    ⟨_, _, He.glo_ok X G (c.fact 54 (f := g54) rfl), Hd.fun_of F40⟩,
    ⟨_, _, He.glo_ok X G (c.fact 55 (f := g55) rfl), Hd.fun_of F41⟩,
    ⟨_, _, He.glo_ok X G (c.fact 56 (f := g56) rfl), Hd.fun_of F42⟩,
    ⟨_, _, He.glo_ok X G (c.fact 57 (f := g57) rfl), Hd.fun_of F43⟩,
    ⟨_, _, He.glo_ok X G (c.fact 58 (f := g58) rfl), Hd.fun_of F44⟩,
    ⟨_, _, He.glo_ok X G (c.fact 59 (f := g59) rfl), Hd.fun_of F45⟩,
    ⟨_, _, He.glo_ok X G (c.fact 60 (f := g60) rfl), Hd.fun_of F46⟩,
    ⟨_, _, He.glo_ok X G (c.fact 61 (f := g61) rfl), Hd.fun_of F47⟩,
    ⟨_, _, He.glo_ok X G (c.fact 62 (f := g62) rfl), Hd.fun_of F48⟩,
    ⟨_, _, He.glo_ok X G (c.fact 63 (f := g63) rfl), Hd.fun_of F49⟩,
    ⟨_, _, He.glo_ok X G (c.fact 64 (f := g64) rfl), Hd.fun_of F50⟩,
    ⟨_, _, He.glo_ok X G (c.fact 65 (f := g65) rfl), Hd.fun_of F51⟩,
    ⟨_, _, He.glo_ok X G (c.fact 66 (f := g66) rfl), Hd.fun_of F52⟩,
    ⟨_, _, He.glo_ok X G (c.fact 67 (f := g67) rfl), Hd.fun_of F53⟩,
    ⟨_, _, He.glo_ok X G (c.fact 68 (f := g68) rfl), Hd.fun_of F54⟩,
    ⟨_, _, He.glo_ok X G (c.fact 69 (f := g69) rfl), Hd.fun_of F55⟩,
    ⟨_, _, He.glo_ok X G (c.fact 70 (f := g70) rfl), Hd.fun_of F56⟩,
    He.free_ok X G (c.fact 71 (f := g71) rfl),
    He.free_ok X G (c.fact 72 (f := g72) rfl),
    He.free_ok X G (c.fact 73 (f := g73) rfl),
    He.free_ok X G (c.fact 74 (f := g74) rfl),
    He.free_ok X G (c.fact 75 (f := g75) rfl),
    He.free_ok X G (c.fact 76 (f := g76) rfl),
    He.free_ok X G (c.fact 77 (f := g77) rfl),
    He.free_ok X G (c.fact 78 (f := g78) rfl),
    He.free_ok X G (c.fact 79 (f := g79) rfl),
    He.free_ok X G (c.fact 80 (f := g80) rfl),
    He.free_ok X G (c.fact 81 (f := g81) rfl),
    He.free_ok X G (c.fact 82 (f := g82) rfl),
    He.int_ok X G (c.fact 83 (f := g83) rfl),
    Hd.blt_ok X G (c.fact 84 (f := g84) rfl),
    ⟨_, He.glo_ok X G (c.fact 89 (f := g89) rfl), fun H => ⟨_, _, _, Hd.refs_ok (c.fact 85 (f := g85) rfl) H, Hd.ints_ok (c.fact 86 (f := g86) rfl) H, Hd.ints_ok (c.fact 87 (f := g87) rfl) H, Hd.ints_ok (c.fact 88 (f := g88) rfl) H⟩⟩⟩
  have e := hfa.symm.trans (He.glo_ok X G (c.fact 70 (f := g70) rfl))
  cases e
  have b := FunD.bindsA (ps := ["_law_script"]) F56 fun _ _ _ _ _ _ us hl => match us, hl with | [_], _ => rfl
  exact ⟨fd56, fun s v => b s [v] rfl, fun base _ _ => ok_law0 (P := P) (w := w) (base := base) T (Hd.fun_of F56)⟩
end K13
open PySem PySem.W PySem.Calls PyProof.Rows
set_option maxHeartbeats 0 in
theorem PySem.Challenge.cw_formrings_k13_whole_traces_norms_polynom_holds : PySem.Challenge.rw_formrings_k13_whole_traces_norms_polynom.Holds := by
  w_on; o_law
  refine HandSHeadRun.head_imp (r := OpenLaw.row PySem.Challenge.rw_formrings_k13_whole_traces_norms_polynom) (q := K13.vw) (H := K13.hk) (ob := K13.ob) (M := 9000) (loose := K13.names) (d := HandSHeadRun.topDef (OpenLaw.row PySem.Challenge.rw_formrings_k13_whole_traces_norms_polynom).prog 73) (kwd := []) K13.ob_eq K13.run (by kernel_rfl) (by kernel_rfl) (by kernel_rfl) (by rfl) (by first | assumption | decide +kernel) (by decide +kernel) ⟨rfl, rfl, rfl, rfl, rfl, by decide +kernel⟩ ?hw ?hc
  case hw => w_witness2
  case hc =>
    refine L2.walk_ofE (l := PySem.Challenge.rw_formrings_k13_whole_traces_norms_polynom) (n := 63) (k := 10) (x := "_law_script") (CX := L2.CX0) rfl (by decide) (by kernel_rfl) ⟨rfl, by decide, by decide⟩ ?F (fun _ _ _ _ z => z)
    intro w mg fa h Y G hmg0
    obtain ⟨K, KX, c⟩ := Y
    have hmg : mg ("law" : PySem.Str) = some (.ref fa) := by
      have e : (HandSHeadRun.topDef (OpenLaw.row PySem.Challenge.rw_formrings_k13_whole_traces_norms_polynom).prog 73).name = ("law" : PySem.Str) := by kernel_rfl
      rw [← e]
      exact hmg0
    obtain ⟨fd, hb, hF⟩ := K13.facts (P := (PySem.Challenge.rw_formrings_k13_whole_traces_norms_polynom).prog) (w := w) KX G hmg c
    exact ⟨K, fd, K13.sp_lawW K, KX, hb, fun H a ns hl _ hS => ⟨a, ns, rfl, hS, hl, fun _ => rfl⟩, hF⟩
