import PyProof.Rows.All
import Wide.All
import OpenK.AllK
import Wide.FinOn
import HandS.ForMost
import HandS.Wide
import HandS.WideBits
import HandS.Gcd
import HandS.IsInst
import HandS.Style
import HandS.Evl
import Flt.RightSqrt
import HandS.More
import HandS.OwnEq
import HandS.Property
import HandS.Star
import KE.KOpsOwn
import HandS.ForExc
import HandS.HeadHook1
import HandS.Walk
import HandS.Zip
import KE.GoesEnum
import HandS.HeadEnd
import HandS.Words
import OpenK.KOps
import KE.KCallOwn
import PyProof.ReprRoads
import PyProof.Rows.Range3
import KE.IntBitsLaws
import HandS.TupMul
import HandS.TupAny
import HandS.Text
import HandS.RaiseMore
import KE.KStateDown
import HandS.Base
import HandS.Call
import HandS.Ends
import HandS.Defaults
import HandS.Head0
import HandS.Head1
import HandS.Head2
import HandS.Head3
import HandS.HeadHook2
import PySem.Challenge.RW_formrings_k08_whole_doubles_led_by_chang
set_option Elab.async false
set_option linter.all false
set_option maxRecDepth 100000
set_option maxHeartbeats 4000000
namespace Fr
open PySem PySem.Spec PyProof.Rows L2
open Evl (Ex)
def Def (P : Program) (w : World) (K : PySem.W.Frag) (mg : Str → Option Value) (base : Heap) (k : Nat) (x : Str) (ps : List Str) (sp : Sp) : Prop :=
  ∃ f fd, mg x = some (.ref f) ∧ PySem.W.keepIn K (.ref f) = true ∧ Binds K fd ps [] ∧ FnOk P w K mg base CX0 k f fd ps sp
structure Fm (S : Addr → Prop) (I : Hp → Prop) : Prop where
  fresh : ∀ {H D}, I H → H D = none → ¬ S D
  stay : ∀ {H D o}, ¬ S D → I H → I (upd H D o)
def Fx (S : Addr → Prop) (I : Hp → Prop) (H H' : Hp) : Prop := I H' ∧ ∀ b o, ¬ S b → H b = some o → H' b = some o
section
variable {S : Addr → Prop} {I : Hp → Prop} {H H1 H2 : Hp}
theorem Fx.refl (i : I H) : Fx S I H H := ⟨i, fun _ _ _ h => h⟩
theorem Fx.trans (a : Fx S I H H1) (b : Fx S I H1 H2) : Fx S I H H2 := ⟨b.1, fun x o n h => b.2 x o n (a.2 x o n h)⟩
theorem Fx.new (m : Fm S I) (i : I H) {p : Addr} {o : HO} (h : H p = none) : Fx S I H (upd H p o) := ⟨m.stay (m.fresh i h) i, fun b u _ e => by
  rw [upd_ne (ne_of_none e h)]
  exact e⟩
theorem Fx.mut (m : Fm S I) (a : Fx S I H H1) (i : I H) {p : Addr} {o : HO} (h : H p = none) : Fx S I H (upd H1 p o) := ⟨m.stay (m.fresh i h) a.1, fun b u n e => by
  rw [upd_ne (ne_of_none e h)]
  exact a.2 b u n e⟩
theorem Fx.at (a : Fx S I H H1) {p : Addr} {o : HO} (n : ¬ S p) (h : H p = some o) : H1 p = some o := a.2 p o n h
theorem Fx.sqT {K : PySem.W.Frag} (a : Fx S I H H1) {p : Addr} {xs : List V} (n : ¬ S p) (h : SqT K H p xs) : SqT K H1 p xs := by
  rcases h with (h | ⟨o, h⟩) | h
  · exact .inl (.inl (a.2 _ _ n h))
  · exact .inl (.inr ⟨o, a.2 _ _ n h⟩)
  · exact .inr h
theorem Fx.sqL {K : PySem.W.Frag} (a : Fx S I H H1) {p : Addr} {xs : List V} (n : ¬ S p) (h : SqL K H p xs) : SqL K H1 p xs := by
  rcases h with (h | ⟨o, h⟩) | h
  · exact .inl (.inl (a.2 _ _ n h))
  · exact .inl (.inr ⟨o, a.2 _ _ n h⟩)
  · exact .inr h
theorem Fx.free (a : Fx S I H H1) {p : Addr} (n : ¬ S p) (h : H1 p = none) : H p = none := by
  cases e : H p with
  | none => rfl
  | some o => rw [a.2 p o n e] at h; cases h
theorem Fx.free' (m : Fm S I) (a : Fx S I H H1) {p : Addr} (h : H1 p = none) : H p = none := a.free (m.fresh a.1 h) h
end
abbrev S0 : Addr → Prop := fun _ => False
abbrev I0 : Hp → Prop := fun _ => True
theorem fm0 : Fm S0 I0 := ⟨fun _ _ h => h, fun _ _ => trivial⟩
abbrev Ex0 : Hp → Hp → Prop := Fx S0 I0
theorem Ex0.of {H H' : Hp} (h : ∀ b o, H b = some o → H' b = some o) : Ex0 H H' := ⟨trivial, fun b o _ e => h b o e⟩
theorem Ex0.ap {H H' : Hp} (h : Ex0 H H') {b : Addr} {o : HO} (e : H b = some o) : H' b = some o := h.2 b o (fun z => z) e
theorem Ex0.refl (H : Hp) : Ex0 H H := Fx.refl trivial
theorem Ex0.new {H : Hp} {p : Addr} {o : HO} (h : H p = none) : Ex0 H (upd H p o) := Fx.new fm0 trivial h
def Cs (S : Addr → Prop) (I : Hp → Prop) (H : Hp) (P : Nat → List V → Hp → Prop) (D : Addr) (i : Nat) (H' : Hp) : Prop := Fx S I H H' ∧ ∃ acc, H' D = some (.lst acc) ∧ acc.length ≤ i ∧ P i acc H'
section
variable {K : PySem.W.Frag} {S : Addr → Prop} {I : Hp → Prop} {σ : L2.St} {H : Hp} {Q : Addr → Hp → Prop} {te : TE} {vs : List Nat} {g : TG} {tt : TT} {P : Nat → List V → Hp → Prop}
theorem cs_yes (m : Fm S I) (i0 : I H) {D : Addr} {i : Nat} {acc : List V} {H' H4 : Hp} {y : V} (hD : H D = none) (p1 : Fx S I H H') (p2 : H' D = some (.lst acc)) (p3 : acc.length ≤ i) (hi : i < 1000000) (e : Fx S I H' H4) (h : P (i + 1) (acc ++ [y]) (upd H4 D (.lst (acc ++ [y])))) :
    ∃ acc', H4 D = some (.lst acc') ∧ acc'.length < sizeLine ∧ Cs S I H P D (i + 1) (upd H4 D (.lst (acc' ++ [y]))) :=
  ⟨acc, e.2 _ _ (m.fresh i0 hD) p2, Nat.lt_of_le_of_lt p3 (Nat.lt_of_lt_of_le hi (by decide)), Fx.mut m (p1.trans e) i0 hD, _, upd_same, by rw [List.length_append]; exact Nat.add_le_add_right p3 1, h⟩
theorem cs_no (m : Fm S I) (i0 : I H) {D : Addr} {i : Nat} {acc : List V} {H' H4 : Hp} (hD : H D = none) (p1 : Fx S I H H') (p2 : H' D = some (.lst acc)) (p3 : acc.length ≤ i) (e : Fx S I H' H4) (h : P (i + 1) acc H4) : Cs S I H P D (i + 1) H4 :=
  ⟨p1.trans e, acc, e.2 _ _ (m.fresh i0 hD) p2, Nat.le_succ_of_le p3, h⟩
theorem lcT (m : Fm S I) (i0 : I H) {a : Addr} {xs : List V} (hx : SqT K H a xs) (ha : ¬ S a) (P : Nat → List V → Hp → Prop) (p0 : ∀ D, H D = none → P 0 [] (upd H D (.lst [])))
    (hs : ∀ D i x acc H', H D = none → xs[i]? = some x → Fx S I H H' → H' D = some (.lst acc) → acc.length ≤ i → P i acc H' → g x (wipe σ vs) H' fun σ2 H2 => wipe σ2 vs = wipe σ vs ∧ tt σ2 H2 fun b H3 =>
      if b = true then te σ2 H3 fun y H4 => ∃ acc, H4 D = some (.lst acc) ∧ acc.length < sizeLine ∧ Cs S I H P D (i + 1) (upd H4 D (.lst (acc ++ [y]))) else Cs S I H P D (i + 1) H3)
    (q : ∀ D H' acc, H D = none → Fx S I H H' → H' D = some (.lst acc) → P xs.length acc H' → Q D H') :
    ∀ D, H D = none → ∃ W : Nat → Nat → Hp → Prop, (∃ m, W 0 m (upd H D (.lst []))) ∧ ∀ i m H, W i m H →
      ((Itt K a).stop i H ∧ Q D H) ∨ ((Itt K a).go i H ∧ ∃ Nx : Hp → Prop, (∀ H', Nx H' → ∃ m', m' < m ∧ W (i + 1) m' H') ∧ ∀ x H', (Itt K a).yld i H x H' → g x (wipe σ vs) H' fun σ2 H2 => wipe σ2 vs = wipe σ vs ∧ tt σ2 H2 fun b H3 =>
        if b = true then te σ2 H3 fun y H4 => ∃ acc, H4 D = some (.lst acc) ∧ acc.length < sizeLine ∧ Nx (upd H4 D (.lst (acc ++ [y]))) else Nx H3) := fun D hD =>
  lc_tup (xs := xs) (Cs S I H P D) ⟨Fx.new m i0 hD, [], upd_same, Nat.le_refl _, p0 D hD⟩ (fun i H' _ p => p.1.sqT ha hx)
    (fun i x H' hi p => by
      obtain ⟨p1, acc, p2, p3, p4⟩ := p
      exact hs D i x acc H' hD hi p1 p2 p3 p4)
    (fun H' p => by
      obtain ⟨p1, acc, p2, p3, p4⟩ := p
      exact q D H' acc hD p1 p2 p4)
theorem lcL (m : Fm S I) (i0 : I H) {a : Addr} {xs : List V} (hx : SqL K H a xs) (ha : ¬ S a) (P : Nat → List V → Hp → Prop) (p0 : ∀ D, H D = none → P 0 [] (upd H D (.lst [])))
    (hs : ∀ D i x acc H', H D = none → xs[i]? = some x → Fx S I H H' → H' D = some (.lst acc) → acc.length ≤ i → P i acc H' → g x (wipe σ vs) H' fun σ2 H2 => wipe σ2 vs = wipe σ vs ∧ tt σ2 H2 fun b H3 =>
      if b = true then te σ2 H3 fun y H4 => ∃ acc, H4 D = some (.lst acc) ∧ acc.length < sizeLine ∧ Cs S I H P D (i + 1) (upd H4 D (.lst (acc ++ [y]))) else Cs S I H P D (i + 1) H3)
    (q : ∀ D H' acc, H D = none → Fx S I H H' → H' D = some (.lst acc) → P xs.length acc H' → Q D H') :
    ∀ D, H D = none → ∃ W : Nat → Nat → Hp → Prop, (∃ m, W 0 m (upd H D (.lst []))) ∧ ∀ i m H, W i m H →
      ((Itl K a).stop i H ∧ Q D H) ∨ ((Itl K a).go i H ∧ ∃ Nx : Hp → Prop, (∀ H', Nx H' → ∃ m', m' < m ∧ W (i + 1) m' H') ∧ ∀ x H', (Itl K a).yld i H x H' → g x (wipe σ vs) H' fun σ2 H2 => wipe σ2 vs = wipe σ vs ∧ tt σ2 H2 fun b H3 =>
        if b = true then te σ2 H3 fun y H4 => ∃ acc, H4 D = some (.lst acc) ∧ acc.length < sizeLine ∧ Nx (upd H4 D (.lst (acc ++ [y]))) else Nx H3) := fun D hD =>
  lc_list (xs := xs) (Cs S I H P D) ⟨Fx.new m i0 hD, [], upd_same, Nat.le_refl _, p0 D hD⟩ (fun i H' _ p => p.1.sqL ha hx)
    (fun i x H' hi p => by
      obtain ⟨p1, acc, p2, p3, p4⟩ := p
      exact hs D i x acc H' hD hi p1 p2 p3 p4)
    (fun H' p => by
      obtain ⟨p1, acc, p2, p3, p4⟩ := p
      exact q D H' acc hD p1 p2 p4)
theorem lcR (m : Fm S I) (i0 : I H) {lo : Int} {n : Nat} (P : Nat → List V → Hp → Prop) (p0 : ∀ D, H D = none → P 0 [] (upd H D (.lst [])))
    (hs : ∀ D i acc H', H D = none → i < n → Fx S I H H' → H' D = some (.lst acc) → acc.length ≤ i → P i acc H' → g (.int (lo + i)) (wipe σ vs) H' fun σ2 H2 => wipe σ2 vs = wipe σ vs ∧ tt σ2 H2 fun b H3 =>
      if b = true then te σ2 H3 fun y H4 => ∃ acc, H4 D = some (.lst acc) ∧ acc.length < sizeLine ∧ Cs S I H P D (i + 1) (upd H4 D (.lst (acc ++ [y]))) else Cs S I H P D (i + 1) H3)
    (q : ∀ D H' acc, H D = none → Fx S I H H' → H' D = some (.lst acc) → P n acc H' → Q D H') :
    ∀ D, H D = none → ∃ W : Nat → Nat → Hp → Prop, (∃ m, W 0 m (upd H D (.lst []))) ∧ ∀ i m H, W i m H →
      ((Itr lo n).stop i H ∧ Q D H) ∨ ((Itr lo n).go i H ∧ ∃ Nx : Hp → Prop, (∀ H', Nx H' → ∃ m', m' < m ∧ W (i + 1) m' H') ∧ ∀ x H', (Itr lo n).yld i H x H' → g x (wipe σ vs) H' fun σ2 H2 => wipe σ2 vs = wipe σ vs ∧ tt σ2 H2 fun b H3 =>
        if b = true then te σ2 H3 fun y H4 => ∃ acc, H4 D = some (.lst acc) ∧ acc.length < sizeLine ∧ Nx (upd H4 D (.lst (acc ++ [y]))) else Nx H3) := fun D hD =>
  lc_range (lo := lo) (n := n) (Cs S I H P D) ⟨Fx.new m i0 hD, [], upd_same, Nat.le_refl _, p0 D hD⟩
    (fun i H' hi p => by
      obtain ⟨p1, acc, p2, p3, p4⟩ := p
      exact hs D i acc H' hD hi p1 p2 p3 p4)
    (fun H' p => by
      obtain ⟨p1, acc, p2, p3, p4⟩ := p
      exact q D H' acc hD p1 p2 p4)
end
theorem log_lt {i : Int} {a : Nat} (h : i.natAbs < 2 ^ a) (h0 : 0 < a) : i.natAbs.log2 < a := by
  by_cases z : i.natAbs = 0
  · rw [z]
    exact h0
  · exact (Nat.log2_lt z).mpr h
theorem mw {i j : Int} (h1 : -(2 ^ 250) < i) (h2 : i < 2 ^ 250) (h3 : -(2 ^ 250) < j) (h4 : j < 2 ^ 250) : CMulW i j :=
  wide_mul (a := 250) (b := 250) (by omega) (by omega) (by decide) (by decide) (by decide)
theorem dw {i j : Int} (h : 0 < j) (h4 : j < 2 ^ 250) : CDivW i j := wide_div (b := 250) h (by omega) (by decide) (by decide)
theorem iteB {b : Bool} {A B : Prop} (h1 : b = true → A) (h2 : b = false → B) : if b = true then A else B := by
  cases b with
  | true => rw [if_pos rfl]; exact h1 rfl
  | false => rw [if_neg Bool.false_ne_true]; exact h2 rfl
theorem iteD {c : Prop} [Decidable c] {A B : Prop} (h1 : c → A) (h2 : ¬ c → B) : if decide c = true then A else B :=
  iteB (fun h => h1 (of_decide_eq_true h)) (fun h => h2 (of_decide_eq_false h))
theorem iteN {c : Prop} [Decidable c] {A B : Prop} (h1 : ¬ c → A) (h2 : c → B) : if (!decide c) = true then A else B := by
  by_cases h : c
  · rw [decide_eq_true h]; exact iteF (h2 h)
  · rw [decide_eq_false h]; exact iteT (h1 h)
theorem dT {c : Prop} [Decidable c] {A B : Prop} (h : c) (a : A) : if decide c = true then A else B := by rw [decide_eq_true h, if_pos rfl]; exact a
theorem dF {c : Prop} [Decidable c] {A B : Prop} (h : ¬ c) (a : B) : if decide c = true then A else B := by rw [decide_eq_false h, if_neg Bool.false_ne_true]; exact a
theorem ndT {c : Prop} [Decidable c] {A B : Prop} (h : ¬ c) (a : A) : if (!decide c) = true then A else B := by rw [decide_eq_false h]; exact iteT a
theorem ndF {c : Prop} [Decidable c] {A B : Prop} (h : c) (a : B) : if (!decide c) = true then A else B := by rw [decide_eq_true h]; exact iteF a
theorem sl1 : 1 ≤ sizeLine := by decide
theorem sl2 : 2 ≤ sizeLine := by decide
theorem sl3 : 3 ≤ sizeLine := by decide
theorem sl4 : 4 ≤ sizeLine := by decide
theorem sl5 : 5 ≤ sizeLine := by decide
theorem sl6 : 6 ≤ sizeLine := by decide
theorem sl8 : 8 ≤ sizeLine := by decide
theorem slN {n : Nat} (h : n ≤ 1000000) : n ≤ sizeLine := Nat.le_trans h (by decide)
section
variable {X : Cx}
def rIsqrt : List V → Hp → VK → Prop := fun vs H Q => ∃ a : Int, vs = [.int a] ∧ 0 ≤ a ∧ a < 2 ^ 64 ∧ ∀ r : Int, 0 ≤ r → r * r ≤ a → a < (r + 1) * (r + 1) → Q (.int r) H
theorem cr_isqrt : CallR X (.builtin "math.isqrt") rIsqrt := by
  intro pins s σ H vs us Q I r h
  obtain ⟨a, rfl, h0, h1, q⟩ := h
  obtain ⟨u, rfl, ru⟩ := Vals.one r
  obtain ⟨t, rfl⟩ := ru
  have sp := PySem.Float64.isqrt_spec a.toNat
  refine PySem.W.mg_isqrt h0 h1 ⟨.int _, H, I.tok _, ⟨_, rfl⟩, q _ (Int.natCast_nonneg _) ?_ ?_⟩
  · have := sp.1
    have e : ((Float64.isqrt a.toNat * Float64.isqrt a.toNat : Nat) : Int) ≤ (a.toNat : Int) := Int.ofNat_le.mpr this
    rw [Int.toNat_of_nonneg h0] at e
    simpa using e
  · have := sp.2
    have e : (a.toNat : Int) < (((Float64.isqrt a.toNat + 1) * (Float64.isqrt a.toNat + 1) : Nat) : Int) := Int.ofNat_lt.mpr this
    rw [Int.toNat_of_nonneg h0] at e
    simpa using e
end
end Fr
namespace Fr
open PySem PySem.Spec PyProof.Rows L2
section
variable {X : Cx}
def CPowC (i j : Int) : Prop := 0 ≤ j ∧ (Builtin.Int.intBits i : Int) * j ≤ 2 ^ 27
theorem op_powC : OpR X (binaryOp .Pow) (rI CPowC fun i j => .int (i ^ j.toNat)) := opI fun _ _ _ _ _ _ _ hc q => PyProof.Rows.pow_int hc.1 hc.2 q
end
end Fr
namespace Fr
open PySem PySem.Spec PyProof.Rows L2
theorem deI {i j : Int} : decide (V.int i = V.int j) = decide (i = j) := by
  rw [dec_int]
  rfl
theorem iteE {i j : Int} {A B : Prop} (h1 : i = j → A) (h2 : i ≠ j → B) : if decide (V.int i = V.int j) = true then A else B := by
  rw [deI]
  exact iteD h1 h2
theorem iteEn {i j : Int} {A B : Prop} (h1 : i ≠ j → A) (h2 : i = j → B) : if (!decide (V.int i = V.int j)) = true then A else B := by
  rw [deI]
  exact iteN h1 h2
end Fr
namespace Fr
open PySem PySem.Spec PyProof.Rows L2
def inb (lo hi : Int) : V → Bool
  | .int i => decide (lo ≤ i) && decide (i ≤ hi)
  | _ => false
theorem in_b {lo hi : Int} {xs : List V} {v : V} (hv : v ∈ xs) (h : xs.all (inb lo hi) = true) : ∃ f : Int, v = .int f ∧ lo ≤ f ∧ f ≤ hi := by
  have := List.all_eq_true.mp h v hv
  cases v with
  | int i =>
    unfold inb at this
    rw [Bool.and_eq_true, decide_eq_true_iff, decide_eq_true_iff] at this
    exact ⟨i, rfl, this.1, this.2⟩
  | _ => cases this
theorem shaped_ints (ns : List Int) : SeqAt.shaped (.list (ns.map .int)) = true := by
  have h : PyData.canLayAll0 (ns.map PyData.int) = true ∧ PyData.depthAll (ns.map PyData.int) ≤ 1 := by
    induction ns with
    | nil => exact ⟨rfl, by simp [PyData.depthAll]⟩
    | cons n r ih =>
      refine ⟨?_, ?_⟩
      · rw [List.map_cons, PyData.canLayAll0, PyData.canLay0, ih.1]; rfl
      · rw [List.map_cons, PyData.depthAll, PyData.depth]; exact Nat.max_le.mpr ⟨by decide, ih.2⟩
  unfold SeqAt.shaped
  rw [PyData.canLay0, PyData.depth, h.1]
  simp
  omega
theorem dp_ints {K : PySem.W.Frag} {H : Hp} : ∀ ns : List Int, DpAll K H (ns.map V.int) (ns.map PyData.int)
  | [] => .nil
  | n :: r => .cons (.int n) (dp_ints r)
theorem eqv_ints : ∀ ns ms : List Int, PyData.eqvAll (ns.map PyData.int) (ms.map PyData.int) = decide (ns = ms)
  | [], [] => rfl
  | [], m :: ms => rfl
  | n :: ns, [] => rfl
  | n :: ns, m :: ms => by
    rw [List.map_cons, List.map_cons, PyData.eqvAll, PyData.eqv, eqv_ints ns ms]
    apply Bool.eq_iff_iff.mpr
    simp
def pr2 (q : Nat × Nat) : PyData := .tuple [.int (q.1 : Int), .int (q.2 : Int)]
theorem shaped_prs (fs : List (Nat × Nat)) : SeqAt.shaped (.tuple (fs.map pr2)) = true := by
  have h : PyData.canLayAll0 (fs.map pr2) = true ∧ PyData.depthAll (fs.map pr2) ≤ 2 := by
    induction fs with
    | nil => exact ⟨rfl, by simp [PyData.depthAll]⟩
    | cons n r ih =>
      refine ⟨?_, ?_⟩
      · rw [List.map_cons, PyData.canLayAll0, ih.1]; simp [pr2, PyData.canLay0, PyData.canLayAll0]
      · rw [List.map_cons, PyData.depthAll]; exact Nat.max_le.mpr ⟨by simp [pr2, PyData.depth, PyData.depthAll], ih.2⟩
  unfold SeqAt.shaped
  rw [PyData.canLay0, PyData.depth, h.1]
  simp
  omega
theorem eqv_prs : ∀ fs gs : List (Nat × Nat), PyData.eqvAll (fs.map pr2) (gs.map pr2) = decide (fs = gs)
  | [], [] => rfl
  | [], m :: ms => rfl
  | n :: ns, [] => rfl
  | (a, b) :: ns, (c, d) :: ms => by
    rw [List.map_cons, List.map_cons, PyData.eqvAll, eqv_prs ns ms]
    apply Bool.eq_iff_iff.mpr
    simp [pr2, PyData.eqv, PyData.eqvAll]
    omega
end Fr
namespace Fr
open PySem PySem.Spec PyProof.Rows L2
def B (a : Nat) (i : Int) : Prop := i.natAbs < 2 ^ a ∧ 0 < a
theorem two_pow_two {a : Nat} (h : 0 < a) : 2 ≤ 2 ^ a := by
  obtain ⟨k, rfl⟩ : ∃ k, a = k + 1 := ⟨a - 1, by omega⟩
  rw [Nat.pow_succ]
  have := Nat.two_pow_pos k
  omega
theorem pow_sum {a b : Nat} (ha : 0 < a) (hb : 0 < b) : 2 ^ a + 2 ^ b ≤ 2 ^ (a + b) := by
  rw [Nat.pow_add]
  have h1 := two_pow_two ha
  have h2 := two_pow_two hb
  generalize 2 ^ a = x at *
  generalize 2 ^ b = y at *
  have := Nat.mul_le_mul h1 (Nat.le_refl y)
  have := Nat.mul_le_mul (Nat.le_refl x) h2
  rcases Nat.le_total x y with h | h <;> omega
theorem B.mul {a b : Nat} {i j : Int} (h1 : B a i) (h2 : B b j) : B (a + b) (i * j) := ⟨wide_lt h1.1 h2.1, Nat.add_pos_left h1.2 _⟩
theorem B.add {a b : Nat} {i j : Int} (h1 : B a i) (h2 : B b j) : B (a + b) (i + j) :=
  ⟨Nat.lt_of_lt_of_le (by have := h1.1; have := h2.1; omega : (i + j).natAbs < 2 ^ a + 2 ^ b) (pow_sum h1.2 h2.2), Nat.add_pos_left h1.2 _⟩
theorem B.sub {a b : Nat} {i j : Int} (h1 : B a i) (h2 : B b j) : B (a + b) (i - j) :=
  ⟨Nat.lt_of_lt_of_le (by have := h1.1; have := h2.1; omega : (i - j).natAbs < 2 ^ a + 2 ^ b) (pow_sum h1.2 h2.2), Nat.add_pos_left h1.2 _⟩
theorem B.neg {a : Nat} {i : Int} (h1 : B a i) : B a (-i) := ⟨by rw [Int.natAbs_neg]; exact h1.1, h1.2⟩
theorem B.lit {i : Int} (h : i.natAbs < 2 ^ 64) : B 64 i := ⟨h, by decide⟩
theorem B.mono {a b : Nat} {i : Int} (h : B a i) (hab : a ≤ b) : B b i := ⟨Nat.lt_of_lt_of_le h.1 (Nat.pow_le_pow_right (by decide) hab), Nat.lt_of_lt_of_le h.2 hab⟩
theorem mulB {a b : Nat} {i j : Int} (h1 : B a i) (h2 : B b j) (h : a + b ≤ 1000000) : CMulW i j := wide_mul h1.1 h2.1 h1.2 h2.2 h
end Fr
namespace Fr
open PySem PySem.Spec PyProof.Rows L2
theorem shaped_tints (ns : List Int) : SeqAt.shaped (.tuple (ns.map .int)) = true := by
  have h : PyData.canLayAll0 (ns.map .int) = true ∧ PyData.depthAll (ns.map .int) ≤ 1 := by
    induction ns with
    | nil => exact ⟨rfl, by simp [PyData.depthAll]⟩
    | cons n r ih =>
      refine ⟨?_, ?_⟩
      · rw [List.map_cons, PyData.canLayAll0, ih.1]; simp [PyData.canLay0]
      · rw [List.map_cons, PyData.depthAll]; exact Nat.max_le.mpr ⟨by simp [PyData.depth], ih.2⟩
  unfold SeqAt.shaped
  rw [PyData.canLay0, PyData.depth, h.1]
  simp
  omega
end Fr
namespace Fr
open PySem PySem.Spec PyProof.Rows L2
section
variable {M : Model} {prog : Program} {w : World} {A : Around} {E : Value → Shared → Prop} {s : Shared} {K : PySem.W.Frag} {x C f : Addr} {ox : Obj} {od : Option Obj}
theorem ifBound_ne {args : List Value} {Q : Option Value → Shared → Prop} (X : K.In s.heap) (I : PySem.W.InstAt s.heap x ox C od) (hs : PySem.W.findIn K (.ref C) "__ne__" = some (some (.builtin "object.__ne__")))
    (h : wpAny M A (call (.builtin "object.__ne__") (.ref x :: args)) (fun v => Q (some v)) E s) : wpAny M A (callSpecialIfBound? (.ref x) "__ne__" args) Q E s := by
  simp only [callSpecialIfBound?, bindSpecialIfBound?]
  refine wpAny_holding (wpAny_bind (wpAny_bind (wpAny_bind (I.type.here ((PySem.W.looks_findIn X hs).here ?_)))))
  refine wpAny_bind (wpAny_askSetting (wpAny_ite ?_))
  have fin : wpAny M A (call (.builtin "object.__ne__") ([.ref x] ++ args) >>= fun v => pure (some v)) Q E s := wpAny_bind (wpAny_mono h (fun v s' h' => wpAny_pure h') fun _ _ h' => h')
  split
  · exact wpAny_bind (wpAny_of_eq (F.cmp_object.ne.bind _) (wpAny_pure (by exact fin)))
  · exact wpAny_tryCatch (wpAny_bind (wpAny_of_eq (F.cmp_object.ne.bind _) (wpAny_pure (by exact fin))))
def NeB (Q : Value → Shared → Prop) (v : Value) (s' : Shared) : Prop := ∃ b, v = .bool b ∧ Q (.bool (!b)) s'
theorem entry_ne {b : Value} {Q : Fin → Shared → Prop} (hu : A.units < cLine) (X : K.In s.heap) (I : PySem.W.InstAt s.heap x ox C od) (hs : PySem.W.findIn K (.ref C) "__eq__" = some (some (.ref f))) (hf : PySem.W.isFn K (.ref f) = true)
    (h : wpAny (model prog w) A (call (.ref f) [.ref x, b]) (NeB fun v s' => Q (.done (.ret v)) s') E s) : wpAny (model prog w) A (Builtin.«object.__ne__» ⟨[.ref x, b], []⟩) Q E s := by
  unfold Builtin.«object.__ne__»
  repeat (first | with_reducible refine wpAny_cRoomFor hu ?_ | (refine wpAny_bind (PySem.W.ifBound_K X I hs hf (wpAny_mono h (fun v s' hv => ?_) fun _ _ e => e))) | wp_step)
  all_goals (obtain ⟨b', rfl, q⟩ := hv)
  all_goals (repeat (first | wp_step))
  all_goals exact q
theorem ne_K {h₀ : Heap} {L : Addr} {m : Str → Option Value} {b tb : Value} {Q : Value → Shared → Prop} (hu : A.units + 1 < cLine) (F : Fr h₀ L s.heap m) (X₀ : K.In h₀) (I : PySem.W.InstAt s.heap x ox C od) (hb : PySem.W.Looks (model prog w) s.heap (typeOf b) tb) (hn : PySem.W.notFirst K C tb = true)
    (hne : PySem.W.findIn K (.ref C) "__ne__" = some (some (.builtin "object.__ne__"))) (hs : PySem.W.findIn K (.ref C) "__eq__" = some (some (.ref f))) (hf : PySem.W.isFn K (.ref f) = true) (hm : PySem.W.mroIn K C (.type "object") = some true)
    (h : wpAny (model prog w) A.in1 (call (.ref f) [.ref x, b]) (NeB Q) E s) : wpAny (model prog w) A (richCompare .NotEq (.ref x) b) Q E s := by
  have X := X₀.keeps F.keep
  have one : wpAny (model prog w) A (tryCompare (.ref x) "__ne__" b) (fun r s' => ∃ v, r = some v ∧ Q v s') E s := by
    unfold tryCompare
    refine wpAny_bind (ifBound_ne X I hne (wpAny_call (codeAny_call_builtin PySem.F.cmp_object.ne.plain PySem.F.cmpEntry_ne (PySem.W.check_slot PySem.F.cmpKind_ne PySem.F.cmpSplit_ne (I.type.andThen (PySem.W.looks_mroIn X hm)) (PySem.F.cmpArgs_ne _ _) ?_))))
    refine entry_ne (A := A.in1) hu X I hs hf (wpAny_mono h (fun v s' hv => ?_) fun _ _ e => e)
    obtain ⟨b', rfl, q⟩ := hv
    exact ⟨b', rfl, wpAny_pure ⟨_, rfl, q⟩⟩
  unfold richCompare
  simp only [oneThing_ref]
  refine wpAny_holding (wpAny_bind (wpAny_cRoomFor (Nat.lt_of_succ_lt hu) ?_))
  refine wpAny_bind (I.type.here (wpAny_bind (hb.here ?_)))
  split
  · rename_i q
    have e : PySem.W.subIn K tb (.ref C) = some false := by
      rcases Bool.or_eq_true_iff.mp hn with e | e
      · rw [beq_iff_eq.mp e] at q; simp at q
      · exact beq_iff_eq.mp e
    refine wpAny_bind ((PySem.W.looks_subIn X e).here ?_)
    simp only [Bool.false_eq_true, if_false]
    refine wpAny_bind (wpAny_mono one (fun r s' z => ?_) fun _ _ e => e)
    obtain ⟨v, rfl, hq⟩ := z
    exact wpAny_pure hq
  · refine wpAny_bind (wpAny_pure ?_)
    simp only [Bool.false_eq_true, if_false]
    refine wpAny_bind (wpAny_mono one (fun r s' z => ?_) fun _ _ e => e)
    obtain ⟨v, rfl, hq⟩ := z
    exact wpAny_pure hq
end
section
variable {X : Cx} {CX : CXT} {C f : Addr} {fd : FuncData} {ps : List Str} {k : Nat} {sp : Sp} {E : XK}
structure EqC (K : PySem.W.Frag) (C f : Addr) : Prop where
  eq : PySem.W.findIn K (.ref C) "__eq__" = some (some (.ref f))
  fn : PySem.W.isFn K (.ref f) = true
  ne : PySem.W.findIn K (.ref C) "__ne__" = some (some (.builtin "object.__ne__"))
  mo : PySem.W.mroIn K C (.type "object") = some true
def rEqI (K : PySem.W.Frag) (C : Addr) (sp : Sp) (E : XK) (neg : Bool) : R2 := fun x y H Q => ∃ a dx fs tb, x = .ref a ∧ H a = some (.ins C dx fs) ∧ TyX K H y tb ∧ PySem.W.notFirst K C tb = true ∧ sp [x, y] H (fun v H' => ∃ b, v = .bl b ∧ Q (.bl (if neg = true then !b else b)) H') E
theorem op_eqI (c : EqC X.K C f) (F : FnOk X.prog X.w X.K X.mg X.base CX k f fd ps sp) (hb : Binds X.K fd ps []) (hr : Room k X.A) (hx : Passes CX X E) : OpR X (compareOp .Eq) (rEqI X.K C sp E false) := by
  intro pins s σ H x y v u Q I rx ry h
  obtain ⟨a, dx, fs, tb, rfl, ha, ty, hn, q⟩ := h
  cases (show v = Value.ref a from rx)
  obtain ⟨mA, J, _⟩ := ins_get I.hok ha
  obtain ⟨od, J, _⟩ := J.look
  obtain ⟨m, hF⟩ := I.fr
  obtain ⟨P, kt, hP, _⟩ := kit_of I ry ty
  refine PySem.W.cmp_K (op := .Eq) hr.units0 hF I.ok.mod.kin J (kt.ty _ _ I.kIn hP) hn c.eq c.fn ?_
  refine wpAny_mono (run_fn (us := [.ref a, u]) (vs := [.ref a, y]) F hr hb .nil hx I (.cons rfl (.cons ry .nil)) q) (fun w s' z => ?_) fun _ _ x => x
  obtain ⟨z', H', I', rz, b, rfl, qz⟩ := z
  cases (show w = Value.bool b from rz)
  exact ⟨.bl b, H', I', rfl, qz⟩
theorem op_neI (c : EqC X.K C f) (F : FnOk X.prog X.w X.K X.mg X.base CX k f fd ps sp) (hb : Binds X.K fd ps []) (hr : Room (k + 1) X.A) (hx : Passes CX X E) : OpR X (compareOp .NotEq) (rEqI X.K C sp E true) := by
  intro pins s σ H x y v u Q I rx ry h
  obtain ⟨a, dx, fs, tb, rfl, ha, ty, hn, q⟩ := h
  cases (show v = Value.ref a from rx)
  obtain ⟨mA, J, _⟩ := ins_get I.hok ha
  obtain ⟨od, J, _⟩ := J.look
  obtain ⟨m, hF⟩ := I.fr
  obtain ⟨P, kt, hP, _⟩ := kit_of I ry ty
  refine ne_K (Nat.lt_of_le_of_lt (Nat.add_le_add_left (by decide : 1 ≤ 64) _) hr.units) hF I.ok.mod.kin J (kt.ty _ _ I.kIn hP) hn c.ne c.eq c.fn c.mo ?_
  refine wpAny_call (codeAny_mono ((F.raw hb .nil) X.A.in1 X.stack s H [.ref a, u] [.ref a, y] _ E hr.in1 I.env0.in1 (.cons rfl (.cons ry .nil)) q) fun r s' hq => ?_)
  cases r with
  | error e => exact hx pins σ H s e s' I hq
  | ok fl =>
    cases fl with
    | ret w =>
      obtain ⟨z', H', I', rz, b, rfl, qz⟩ := I.after hq
      cases (show w = Value.bool b from rz)
      exact ⟨b, rfl, .bl (!b), H', I', rfl, qz⟩
    | next => exact False.elim hq
    | brk => exact False.elim hq
    | cont => exact False.elim hq
structure TyI (K : PySem.W.Frag) (C : Addr) : Prop where
  ca : PySem.W.findIn K (.ref C) "__class__" = some (some (.builtin "object.__class__"))
  cn : PySem.W.specialIn K (.builtin "object.__class__") "__get__" = some (some (.builtin "getset_descriptor.__get__"))
  ct : PySem.W.takesIn K (.builtin "object.__class__") = some true
  cm : PySem.W.mroIn K C (.type "object") = some true
theorem ty_ins {K : PySem.W.Frag} {C a dx : Addr} {H : Hp} {fs : List (Str × V)} (t : TyI K C) (cl : Cls K C) (e : H a = some (.ins C dx fs)) : TyX K H (.ref a) (.ref C) := .base (.ins e cl t.ca t.cn t.ct t.cm)
theorem first_self {K : PySem.W.Frag} {C : Addr} : PySem.W.notFirst K C (.ref C) = true := by simp [PySem.W.notFirst]
theorem kit_self {K : PySem.W.Frag} {C : Addr} : PySem.W.kitOne K (.ref C) (.ref C) = some true := by simp [PySem.W.kitOne]
theorem un_negI (c : Meth X.K C "__neg__" f) (F : FnOk X.prog X.w X.K X.mg X.base CX k f fd ps sp) (hb : Binds X.K fd ps []) (hr : Room k X.A) (hx : Passes CX X E) :
    UnR X (unaryOp .USub) (fun x H Q => ∃ a dx fs, x = .ref a ∧ H a = some (.ins C dx fs) ∧ sp [x] H Q E) := by
  intro pins s σ H x v Q I rx h
  obtain ⟨a, dx, fs, rfl, ha, q⟩ := h
  cases (show v = Value.ref a from rx)
  obtain ⟨mA, J, _⟩ := ins_get I.hok ha
  obtain ⟨od, J, _⟩ := J.look
  obtain ⟨m, hF⟩ := I.fr
  exact PySem.W.ksp_neg hF I.ok.mod.kin J c.at_ c.fn (run_fn (us := [.ref a]) (vs := [.ref a]) F hr hb .nil hx I (.cons rfl .nil) q)
def MDef (R : Addr → Addr → Prop) (P : Program) (w : World) (K : PySem.W.Frag) (mg : Str → Option Value) (base : Heap) (k : Nat) (ps : List Str) (sp : Sp) : Prop :=
  ∃ p f fd, R p f ∧ Binds K fd ps [] ∧ FnOk P w K mg base CX0 k f fd ps sp
end
section
variable {X : Cx} {K : PySem.W.Frag}
theorem call_isiKK (hK : X.K = K) : CallR X (.builtin "isinstance") (rIsi K) := hK ▸ call_isi
end
section
variable {X : Cx}
theorem pi_or {tg l : Expr} {wa wb : TI} (a : PI X tg l wa) (b : PI X tg l wb) : PI X tg l (fun σ H R => wa σ H R ∨ wb σ H R) := ⟨fun pins s σ H R I h => h.elim (fun z => a.run pins s σ H R I z) (fun z => b.run pins s σ H R I z)⟩
end
abbrev XA (K : PySem.W.Frag) (x : Str) : Addr := He.ga K x
structure Xc (K : PySem.W.Frag) (mg : Str → Option Value) (x : Str) (bm : List Value) (newId : String) : Prop where
  g : mg x = some (.ref (XA K x))
  ex : PySem.W.excIn K (XA K x) bm newId = true
  kp : PySem.W.keepIn K (.ref (XA K x)) = true
  sb : PySem.W.subIn K (.ref (XA K x)) (.type "BaseException") = some true
  ty : PySem.W.typeIn K (.ref (XA K x)) = some (.type "type")
  te : PySem.W.exmOne K (.ref (XA K x)) (.ref (XA K x)) = some true
def DefX (P : Program) (w : World) (K : PySem.W.Frag) (mg : Str → Option Value) (base : Heap) (k : Nat) (x : Str) (ps : List Str) (sp : Sp) : Prop :=
  ∃ f fd, mg x = some (.ref f) ∧ PySem.W.keepIn K (.ref f) = true ∧ Binds K fd ps [] ∧ FnOk P w K mg base (L2.CX P w) k f fd ps sp
end Fr
set_option Elab.async false
set_option linter.all false
set_option maxRecDepth 100000
namespace Fr
open PySem PySem.Spec PyProof.Rows L2
set_option maxHeartbeats 1000000 in
theorem meets_en1 {v : Value} {o : Obj} {H : Heap → Prop} (B : Begins v o H) :
    Meets (Builtin.«enumerate.__new__» ⟨[.type "enumerate", v], []⟩) (fun _ R s => H s.heap ∧
      R (.ok (.ret (.ref (s.heap.push o).objs.size))) { s with heap := (s.heap.push o).push { cls := .type "enumerate", data := .fields #[.none, .bool false, .ref s.heap.objs.size, rawInt 0, .none, .none] } }) :=
  .of_wp fun prog w A R s h => by
    obtain ⟨hp, g, d, tk, os⟩ := s; obtain ⟨h1, h⟩ := h
    have hsub := sub_enumerate
    have q1 : ∀ {A' : Around} {E : Value → Shared → Prop} {Q : Value → Shared → Prop}, Q (.ref hp.objs.size) ⟨hp.push o, g, d, tk, os⟩ → wpAny (model prog w) A' (pyIter v) Q E ⟨hp, g, d, tk, os⟩ :=
      fun q => B.iter prog w _ _ ⟨hp, g, d, tk, os⟩ _ h1 q
    wp_walk using q1
    refine wpAny_stack_any fun st => wpAny_pure ?_
    split
    · rename_i c _ _ _ _ _
      cases (c == Value.type "enumerate")
      · wp_walk using q1
        exact ⟨_, rfl, h⟩
      · wp_walk using q1
        exact ⟨_, rfl, h⟩
    · wp_walk using q1
      exact ⟨_, rfl, h⟩
theorem call_en1 {prog : Program} {w : World} {A : Around} {E : Value → Shared → Prop} {s : Shared} {v : Value} {o : Obj} {H : Heap → Prop} {Q : Value → Shared → Prop} (B : Begins v o H) (h1 : H s.heap)
    (h : ∀ h', IsEnum h' (s.heap.objs.size + 1) s.heap.objs.size 0 .none → h'.get? s.heap.objs.size = some o → h'.objs.size = s.heap.objs.size + 2 →
      (∀ b o, s.heap.get? b = some o → h'.get? b = some o) → Q (.ref (s.heap.objs.size + 1)) { s with heap := h' }) :
    wpAny (model prog w) A (call (.type "enumerate") [v]) Q E s := by
  refine callType_new F.called_enumerate (by decide) (F.typeCall_enumerate_1 _) (F.newCall_enumerate_1 _) (fun obj => F.args_object_init_2 obj _) F.entry_enumerate_new (meets_en1 B) ⟨h1, ?_⟩
  have hz : (s.heap.push o).objs.size = s.heap.objs.size + 1 := Heap.size_push ..
  show _ ∧ _
  rw [hz]
  have he : IsEnum ((s.heap.push o).push { cls := .type "enumerate", data := .fields #[.none, .bool false, .ref s.heap.objs.size, rawInt 0, .none, .none] }) (s.heap.objs.size + 1) s.heap.objs.size 0 .none := by
    have := Heap.get?_push_size (s.heap.push o) (o := { cls := .type "enumerate", data := .fields #[.none, .bool false, .ref s.heap.objs.size, rawInt 0, .none, .none] }) rfl
    rw [hz] at this; exact this
  exact ⟨⟨_, he, rfl⟩, h _ he (Heap.get?_push_of_some _ (Heap.get?_push_size _ B.free)) (by rw [Heap.size_push, hz]) fun b o x => Heap.get?_push_of_some _ (Heap.get?_push_of_some _ x)⟩
def IteT (K : PySem.W.Frag) (a : Addr) : It :=
  ⟨fun i H => ∃ (xs : List V) (x : V), SqT K H a xs ∧ xs[i]? = some x, fun i H v H' => ∃ T x, v = .ref T ∧ H T = none ∧ H' = upd H T (.tup [.int (i : Nat), x]) ∧ ∀ xs, SqT K H a xs → xs[i]? = some x, fun i H => ∃ xs : List V, SqT K H a xs ∧ xs.length = i⟩
theorem turn_enumT {P : Program} {w : World} {K : PySem.W.Frag} {elts : List Expr} {kk : Nat} {tpos : Pos} (a e it : Addr) (hae : a ≠ it) :
    Turn P w K (.Tuple elts kk tpos) (IteT K a) [e, it] e (fun i h => (∃ old, IsEnum h e it ((i : Nat) : Int) old) ∧ h.IsTupleIter it a i ∧ e ≠ it) where
  mem := by simp
  obj := fun i h st b hb => by
    obtain ⟨⟨old, he⟩, ⟨o, ho, hc, hd⟩, _⟩ := st
    have e' : b = e ∨ b = it := by simpa using hb
    rcases e' with z | z
    · rw [z]; exact ⟨_, he, fun v q => nomatch q⟩
    · rw [z]; exact ⟨o, ho, fun v q => by rw [hd] at q; cases q⟩
  keep := fun i h h' st k => let ⟨⟨old, he⟩, hi, hne⟩ := st; ⟨⟨old, k e (by simp) _ he⟩, hi.at fun o q => k it (by simp) o q, hne⟩
  item := by
    intro X hP hw hK hc i pins s σ H E I hf st hg
    subst hP hw hK
    obtain ⟨⟨old, he⟩, hit, hne⟩ := st
    obtain ⟨xs, x, hq, hx⟩ := hg
    obtain ⟨its, rv, p, hz⟩ := I.tuple hq
    obtain ⟨u, hu, ru⟩ := rv.get hx
    have hel : e < s.heap.objs.size := Heap.lt_size he
    have hi : i < its.toArray.size := by
      have := (List.getElem?_eq_some_iff.mp hu).1
      simpa using this
    have hea : e ∉ [it, a] := fun z => by
      have z' : e = it ∨ e = a := by simpa using z
      rcases z' with z | z
      · exact hne z
      · obtain ⟨o, ho, hc', _⟩ := id p
        rw [← z, he] at ho
        cases ho
        injection hc' with z2
        exact absurd z2 (by decide)
    have D := Draws.tuple (prog := X.prog) (w := X.w) (A := X.A.in1) (I.ok.hd hc) it a hae its.toArray
    refine wpAny_pyNext_enum_itemC D he ⟨hit, p⟩ hi hne hea fun y h' tk hy ho hit' hT hsz hk => ?_
    obtain rfl : u = y := by
      have hu' : its.toArray[i]? = some u := by simpa using hu
      have hy' : its.toArray[i]? = some y := hy
      rw [hu'] at hy'
      exact Option.some.inj hy'
    refine ⟨_, rfl, wpAny_letOwnedTupleGo_enum (s := { s with heap := h', toks := tk + 1 }) ho fun h'' he' sb => ?_⟩
    have hT2 : h''.get? s.heap.objs.size = some { cls := .type "tuple", data := .seq #[.int i tk, u] } := (sb.2 _ (Nat.ne_of_gt hel)).trans hT
    have new : ObjOk X.prog X.w (upd H s.heap.objs.size (.tup [.int (i : Nat), x])) h'' s.heap.objs.size (.tup [.int (i : Nat), x]) :=
      ⟨by show 2 ≤ sizeLine; decide, [.int i tk, u], .cons ⟨_, rfl⟩ (.cons ru .nil), ⟨_, hT2, rfl, _, rfl⟩⟩
    have I1 : Inv X pins σ (upd H s.heap.objs.size (.tup [.int (i : Nat), x])) { s with heap := h'', toks := tk + 1 } :=
      I.turnedNew (ch := [e, it]) (fun b ob hb q => (sb.2 b (fun z => hb (by simp [z]))).trans (hk b ob (fun z => hb (by simp [z])) (fun z => hb (by simp [z])) q)) hf (Nat.le_refl _) new
    refine ⟨.ref s.heap.objs.size, _, I1, rfl, ⟨_, x, rfl, I.hok.fresh (Nat.le_refl _), rfl, fun ys hy => by rw [I.tuple_inj hy hq]; exact hx⟩, ⟨⟨u, ?_⟩, hit'.1.at fun o q => (sb.2 it (Ne.symm hne)).trans q, hne⟩, fun b hb => ?_⟩
    · have e1 : ((i + 1 : Nat) : Int) = (i : Int) + 1 := by omega
      rw [e1]; exact he'
    · have hb' : b < s.heap.objs.size := by
        have e' : b = e ∨ b = it := by simpa using hb
        rcases e' with z | z
        · rw [z]; exact hel
        · rw [z]; obtain ⟨_, q, _⟩ := hit; exact Heap.lt_size q
      rw [upd_ne (Nat.ne_of_lt hb')]
      exact (hf b hb).1
  done := by
    intro X hP hw hK hc i pins s σ H E I hf st hg
    subst hP hw hK
    obtain ⟨⟨old, he⟩, hit, hne⟩ := st
    obtain ⟨xs, hq, hx⟩ := hg
    obtain ⟨its, rv, p, hz⟩ := I.tuple hq
    obtain ⟨f0, f1, f2, f3, f4, f5⟩ := hf it (by simp)
    have hl := rv.length
    have D := Draws.tuple (prog := X.prog) (w := X.w) (A := X.A.in1) (I.ok.hd hc) it a hae its.toArray
    have hi : its.toArray.size = i := by simp; omega
    exact wpAny_pyNext_enum_endD D he (by rw [hi]; exact ⟨hit, p⟩) fun h' eb => ⟨rfl, I.turned (t' := s.toks) (fun b o hb q => eb b o hb q) f0 f1 f3 f4 f5⟩
  self := fun A i s Q E st h => let ⟨⟨_, he⟩, _⟩ := st; wpAny_pyIter_enum he h
def iEnumT (K : PySem.W.Frag) (ta : TA) : TI := fun σ H R => ta σ H fun vs H1 => ∃ a xs, vs = [.ref a] ∧ SqT K H1 a xs ∧ R (IteT K a) H1
theorem pi_enumT {X : Cx} {e : Expr} {ta : TA} {p pos tpos : Pos} {elts : List Expr} {kk : Nat} (hg : Gl X "enumerate") (hm : X.mg "enumerate" = none) (ha : PA X [e] ta) (hs : starEach [e] X.env = [(false, eval e X.env)] := by rfl) :
    PI X (.Tuple elts kk tpos) (.Call (.Name "enumerate" p) [e] [] pos) (iEnumT X.K ta) := by
  refine ⟨fun pins s σ H R I h => ?_⟩
  refine Call_ (ld_blt I hg hm boot_enumerate (PyProof.Rows.callWith_type1 (thn (ha.run pos pins s σ H _ I h) fun us s1 ⟨vs, H1, I1, r1, q1⟩ => ?_) hs rfl))
  obtain ⟨a, xs, ex, hq, q⟩ := q1
  subst ex
  cases r1 with
  | cons r rr =>
    cases rr
    cases r
    obtain ⟨its, rv, p', hz⟩ := I1.tuple hq
    have hal : a < s1.heap.objs.size := by obtain ⟨o, ho, _⟩ := id p'; exact Heap.lt_size ho
    refine call_en1 (begins_tuple a its.toArray) p' fun h' he hit hsz hk => wpAny_pyIter_enum he ?_
    have I2 : Inv X pins σ H1 { s1 with heap := h' } := I1.kept (t' := s1.toks) hk
    refine ⟨s1.heap.objs.size + 1, [s1.heap.objs.size + 1, s1.heap.objs.size], _, _, H1, rfl, I2, turn_enumT a (s1.heap.objs.size + 1) s1.heap.objs.size (Nat.ne_of_lt hal), ⟨⟨.none, he⟩, ⟨_, hit, rfl, rfl⟩, Nat.succ_ne_self _⟩, fun b hb => ?_, q⟩
    have e' : b = s1.heap.objs.size + 1 ∨ b = s1.heap.objs.size := by simpa using hb
    have hle : s1.heap.objs.size ≤ b := by
      rcases e' with z | z
      · rw [z]; exact Nat.le_add_right _ _
      · rw [z]; exact Nat.le_refl _
    exact I1.fpOk hle (I1.hok.fresh hle)
section
variable {K : PySem.W.Frag} {a b : Addr} {xs ys : List V}
theorem walk_enumT : Walk (IteT K a) xs.length (fun H => SqT K H a xs) (YPair (fun i => some (.int (i : Nat))) fun i => xs[i]?) :=
  ⟨fun i _ hi q => ⟨xs, xs[i], q, by simp [hi]⟩, fun _ q => ⟨xs, q, rfl⟩, fun i H v H' _ q y => by
    obtain ⟨T, x, rfl, hT, rfl, f⟩ := y
    exact ⟨T, _, x, rfl, hT, rfl, rfl, f xs q⟩⟩
theorem walk_zipT (hl : xs.length = ys.length) : Walk (RZ.ItzT K a b) xs.length (fun H => SqT K H a xs ∧ SqT K H b ys) (YPair (fun i => xs[i]?) fun i => ys[i]?) :=
  ⟨fun i _ hi q => ⟨xs, ys, xs[i], ys[i], q.1, q.2, by simp [hi], by simp [← hl, hi]⟩, fun _ q => ⟨xs, ys, q.1, q.2, .inl (Nat.le_refl _)⟩, fun i H v H' _ q y => by
    obtain ⟨T, x, y, rfl, hT, rfl, f1, f2⟩ := y
    exact ⟨T, x, y, rfl, hT, rfl, f1 xs q.1, f2 ys q.2⟩⟩
theorem walk_zipL (hl : xs.length = ys.length) : Walk (Itz K a b) xs.length (fun H => SqL K H a xs ∧ SqL K H b ys) (YPair (fun i => xs[i]?) fun i => ys[i]?) :=
  ⟨fun i _ hi q => ⟨xs, ys, xs[i], ys[i], q.1, q.2, by simp [hi], by simp [← hl, hi]⟩, fun _ q => ⟨xs, ys, q.1, q.2, .inl (Nat.le_refl _)⟩, fun i H v H' _ q y => by
    obtain ⟨T, x, y, rfl, hT, rfl, f1, f2⟩ := y
    exact ⟨T, x, y, rfl, hT, rfl, f1 xs q.1, f2 ys q.2⟩⟩
end
section
variable {S : Addr → Prop} {I : Hp → Prop} {H : Hp} {J : It} {n : Nat} {G : Hp → Prop} {fx fy : Nat → Option V} {g : TG} {tt : TT} {te : TE} {vs : List Nat} {σ : L2.St} {Q : Addr → Hp → Prop}
theorem lcP (w : Walk J n G (YPair fx fy)) (m : Fm S I) (i0 : I H) (hG : ∀ H', Fx S I H H' → G H') (P : Nat → List V → Hp → Prop) (p0 : ∀ D, H D = none → P 0 [] (upd H D (.lst [])))
    (hs : ∀ D i T x y acc H', H D = none → i < n → fx i = some x → fy i = some y → Fx S I H H' → H' D = some (.lst acc) → acc.length ≤ i → P i acc H' → H' T = none → g (.ref T) (wipe σ vs) (upd H' T (.tup [x, y])) fun σ2 H2 => wipe σ2 vs = wipe σ vs ∧ tt σ2 H2 fun b H3 =>
      if b = true then te σ2 H3 fun y H4 => ∃ acc, H4 D = some (.lst acc) ∧ acc.length < sizeLine ∧ Cs S I H P D (i + 1) (upd H4 D (.lst (acc ++ [y]))) else Cs S I H P D (i + 1) H3)
    (q : ∀ D H' acc, H D = none → Fx S I H H' → H' D = some (.lst acc) → P n acc H' → Q D H') :
    ∀ D, H D = none → ∃ W : Nat → Nat → Hp → Prop, (∃ m, W 0 m (upd H D (.lst []))) ∧ ∀ i m H, W i m H →
      (J.stop i H ∧ Q D H) ∨ (J.go i H ∧ ∃ Nx : Hp → Prop, (∀ H', Nx H' → ∃ m', m' < m ∧ W (i + 1) m' H') ∧ ∀ x H', J.yld i H x H' → g x (wipe σ vs) H' fun σ2 H2 => wipe σ2 vs = wipe σ vs ∧ tt σ2 H2 fun b H3 =>
        if b = true then te σ2 H3 fun y H4 => ∃ acc, H4 D = some (.lst acc) ∧ acc.length < sizeLine ∧ Nx (upd H4 D (.lst (acc ++ [y]))) else Nx H3) := fun D hD =>
  lc_it w (Cs S I H P D) ⟨Fx.new m i0 hD, [], upd_same, Nat.le_refl _, p0 D hD⟩ (fun i H' _ p => hG H' p.1)
    (fun i x H' H'' hi p y => by
      obtain ⟨p1, acc, p2, p3, p4⟩ := p
      obtain ⟨T, x, y, rfl, hT, rfl, f1, f2⟩ := y
      exact hs D i T x y acc H' hD hi f1 f2 p1 p2 p3 p4 hT)
    (fun H' p => by
      obtain ⟨p1, acc, p2, p3, p4⟩ := p
      exact q D H' acc hD p1 p2 p4)
theorem for_P (w : Walk J n G (YPair fx fy)) {g : TG} {tb : TS} {D : Ends} {σ : L2.St} {H : Hp} (Pv : Nat → L2.St → Hp → Prop) (h0 : Pv 0 σ H) (hG : ∀ i σ H, i ≤ n → Pv i σ H → G H)
    (hs : ∀ i T x y σ H, i < n → fx i = some x → fy i = some y → Pv i σ H → H T = none → g (.ref T) σ (upd H T (.tup [x, y])) fun σ2 H2 => tb { D with nx := Pv (i + 1), ct := Pv (i + 1), bk := D.nx } σ2 H2) (hd : ∀ σ H, Pv n σ H → D.nx σ H) :
    ∃ W : Nat → Nat → L2.St → Hp → Prop, (∃ m, W 0 m σ H) ∧ ∀ i m σ H, W i m σ H →
      (J.stop i H ∧ D.nx σ H) ∨ (J.go i H ∧ ∃ N : L2.St → Hp → Prop, (∀ σ' H', N σ' H' → ∃ m', m' < m ∧ W (i + 1) m' σ' H') ∧ ∀ x H', J.yld i H x H' → g x σ H' fun σ2 H2 => tb { D with nx := N, ct := N, bk := D.nx } σ2 H2) :=
  for_it w Pv h0 hG (fun i v σ H H' hi p y => by
    obtain ⟨T, x, y, rfl, hT, rfl, f1, f2⟩ := y
    exact hs i T x y σ H hi f1 f2 p hT) hd
end
end Fr
set_option Elab.async false
set_option linter.all false
set_option maxRecDepth 100000
namespace Fr
open PySem PySem.Spec PyProof.Rows L2
def Vat (c : Addr) (H : Hp) : Prop := ∃ x y z : Int, H c = some (.lst [.int x, .int y, .int z])
def Sv (c : Addr) : Addr → Prop := fun b => b = c
theorem fmV (c : Addr) : Fm (Sv c) (Vat c) := by
  constructor
  · intro H D i h e
    obtain ⟨x, y, z, q⟩ := i
    unfold Sv at e
    rw [e, q] at h
    cases h
  · intro H D o n i
    obtain ⟨x, y, z, q⟩ := i
    exact ⟨x, y, z, by rw [upd_ne (fun e => n e.symm)]; exact q⟩
abbrev Fv (c : Addr) : Hp → Hp → Prop := Fx (Sv c) (Vat c)
theorem vat_new {c l : Addr} {H : Hp} {o : HO} (hc : Vat c H) (hl : H l = none) : Vat c (upd H l o) := (fmV c).stay ((fmV c).fresh hc hl) hc
theorem fv_new {c l : Addr} {H : Hp} {o : HO} (hc : Vat c H) (hl : H l = none) : Fv c H (upd H l o) := Fx.new (fmV c) hc hl
theorem fv_ne {c l : Addr} {H : Hp} (hc : Vat c H) (hl : H l = none) : l ≠ c := (fmV c).fresh hc hl
theorem vat_ex {c : Addr} {H H' : Hp} (hc : Vat c H) (e : Ex0 H H') : Vat c H' := by
  obtain ⟨x, y, z, q⟩ := hc
  exact ⟨x, y, z, Ex0.ap e q⟩
theorem fv_ex {c : Addr} {H H' : Hp} (hc : Vat c H) (e : Ex0 H H') : Fv c H H' := ⟨vat_ex hc e, fun b o _ h => Ex0.ap e h⟩
theorem fv_tup {c a : Addr} {H H' : Hp} {xs : List V} (hc : Vat c H) (f : Fv c H H') (h : H a = some (.tup xs)) : H' a = some (.tup xs) := f.2 a _ (fun e => by
  obtain ⟨x, y, z, q⟩ := hc
  unfold Sv at e
  rw [e, q] at h
  cases h) h
theorem ex_fv {p : Addr} {H H1 H2 : Hp} (e : Ex0 H H1) (hp : H p = none) (f : Fv p H1 H2) : Ex0 H H2 := ⟨trivial, fun b o _ h => f.2 b o (fun z => by unfold Sv at z; rw [z, hp] at h; cases h) (Ex0.ap e h)⟩
theorem cut_map (ns : List Int) (lo hi : Option Int) : cutV (ns.map V.int) lo hi = ((ns.drop (HT.sIx (ns.map V.int).length 0 lo)).take (HT.sIx (ns.map V.int).length (ns.map V.int).length hi - HT.sIx (ns.map V.int).length 0 lo)).map V.int := by
  unfold cutV
  rw [← List.map_drop, ← List.map_take]
end Fr
set_option Elab.async false
set_option linter.all false
set_option maxRecDepth 100000
namespace Fr
open PySem PySem.Spec PyProof.Rows L2
def addAt (l : List Int) (k : Nat) (v : Int) : List Int := l.set k (l.getD k 0 + v)
def rowN (l : List Int) (k : Nat) (x : Int) (ys : List Int) : Nat → List Int
  | 0 => l
  | j + 1 => addAt (rowN l k x ys j) (k + j) (x * ys.getD j 0)
def prodN (xs ys : List Int) : Nat → List Int
  | 0 => List.replicate (xs.length + ys.length - 1) 0
  | i + 1 => rowN (prodN xs ys i) i (xs.getD i 0) ys ys.length
def prodL (xs ys : List Int) : List Int := prodN xs ys xs.length
theorem addAt_len (l : List Int) (k : Nat) (v : Int) : (addAt l k v).length = l.length := by unfold addAt; rw [List.length_set]
theorem rowN_len (l : List Int) (k : Nat) (x : Int) (ys : List Int) : ∀ j, (rowN l k x ys j).length = l.length
  | 0 => rfl
  | j + 1 => by rw [rowN, addAt_len, rowN_len l k x ys j]
theorem prodN_len (xs ys : List Int) : ∀ i, (prodN xs ys i).length = xs.length + ys.length - 1
  | 0 => by rw [prodN, List.length_replicate]
  | i + 1 => by rw [prodN, rowN_len, prodN_len xs ys i]
theorem prodL_len (xs ys : List Int) : (prodL xs ys).length = xs.length + ys.length - 1 := prodN_len xs ys _
theorem gD_mem {l : List Int} {k : Nat} (h : k < l.length) : l.getD k 0 ∈ l := by
  rw [List.getD_eq_getElem?_getD, List.getElem?_eq_getElem h]
  exact List.getElem_mem h
theorem getD_le {l : List Int} {m : Nat} (h : ∀ z ∈ l, z.natAbs ≤ m) (k : Nat) : (l.getD k 0).natAbs ≤ m := by
  by_cases hk : k < l.length
  · exact h _ (gD_mem hk)
  · rw [List.getD_eq_getElem?_getD, List.getElem?_eq_none (by omega)]
    exact Nat.zero_le _
theorem rowN_le {l : List Int} {k : Nat} {x : Int} {ys : List Int} {m M : Nat} (h : ∀ z ∈ l, z.natAbs ≤ m) (hy : ∀ y ∈ ys, (x * y).natAbs ≤ M) : ∀ j, j ≤ ys.length → ∀ z ∈ rowN l k x ys j, z.natAbs ≤ m + j * M
  | 0, _ => fun z hz => by have := h z hz; omega
  | j + 1, hj => fun z hz => by
    have ih := rowN_le (k := k) h hy j (by omega)
    have e : (j + 1) * M = j * M + M := by rw [Nat.add_mul, Nat.one_mul]
    rw [rowN] at hz
    unfold addAt at hz
    rcases List.mem_or_eq_of_mem_set hz with q | rfl
    · have := ih z q
      omega
    · have h1 := getD_le ih (k + j)
      have h2 := hy _ (gD_mem (show j < ys.length by omega))
      omega
theorem prodN_le {xs ys : List Int} {M : Nat} (h : ∀ x ∈ xs, ∀ y ∈ ys, (x * y).natAbs ≤ M) : ∀ i, i ≤ xs.length → ∀ z ∈ prodN xs ys i, z.natAbs ≤ i * (ys.length * M)
  | 0, _ => fun z hz => by
    rw [prodN] at hz
    rw [List.eq_of_mem_replicate hz]
    exact Nat.zero_le _
  | i + 1, hi => fun z hz => by
    have ih := prodN_le h i (by omega)
    have e : (i + 1) * (ys.length * M) = i * (ys.length * M) + ys.length * M := by rw [Nat.add_mul, Nat.one_mul]
    rw [prodN] at hz
    rw [e]
    exact rowN_le ih (fun y hy => h _ (gD_mem (by omega)) y hy) _ (Nat.le_refl _) z hz
theorem prodL_B {xs ys : List Int} {a b : Nat} (ha : ∀ x ∈ xs, B a x) (hb : ∀ y ∈ ys, B b y) (hp : 0 < a) : ∀ z ∈ prodL xs ys, B (a + b + xs.length * ys.length) z := fun z hz => by
  have h1 := prodN_le (M := 2 ^ (a + b)) (fun x hx y hy => Nat.le_of_lt (B.mul (ha x hx) (hb y hy)).1) xs.length (Nat.le_refl _) z hz
  refine ⟨?_, by omega⟩
  rw [← Nat.mul_assoc] at h1
  rw [Nat.pow_add 2 (a + b), Nat.mul_comm]
  exact Nat.lt_of_le_of_lt h1 (Nat.mul_lt_mul_of_pos_right Nat.lt_two_pow_self (Nat.two_pow_pos _))
theorem get_map {l : List Int} {k : Nat} (h : k < l.length) : (l.map V.int)[k]? = some (V.int (l.getD k 0)) := by
  rw [List.getElem?_map, List.getElem?_eq_getElem h, List.getD_eq_getElem?_getD, List.getElem?_eq_getElem h]
  rfl
theorem get_D {l : List Int} {k : Nat} {y : V} (h : (l.map V.int)[k]? = some y) : y = V.int (l.getD k 0) ∧ k < l.length := by
  have hk : k < l.length := by
    have := (List.getElem?_eq_some_iff.mp h).1
    rwa [List.length_map] at this
  rw [get_map hk] at h
  exact ⟨(Option.some.inj h).symm, hk⟩
theorem zeros (m : Nat) : (List.replicate m [V.int 0]).flatten = (List.replicate m (0 : Int)).map V.int := by
  induction m with
  | zero => rfl
  | succ m ih => rw [List.replicate_succ, List.replicate_succ, List.flatten_cons, ih]; rfl
def valN (xs : List Int) (x y : Int) : Nat → Int × Int
  | 0 => (0, 1)
  | i + 1 => ((valN xs x y i).1 * x + xs.getD i 0 * (valN xs x y i).2, (valN xs x y i).2 * y)
theorem valN_B {xs : List Int} {x y : Int} (hx : B 200 x) (hy : B 200 y) (h : ∀ z ∈ xs, B 200 z) : ∀ i, i ≤ 8 → B (1 + 3000 * i) (valN xs x y i).1 ∧ B (1 + 200 * i) (valN xs x y i).2
  | 0, _ => ⟨⟨by show (0 : Int).natAbs < 2 ^ 1; decide, by decide⟩, ⟨by show (1 : Int).natAbs < 2 ^ 1; decide, by decide⟩⟩
  | i + 1, hi => by
    obtain ⟨h1, h2⟩ := valN_B hx hy h i (by omega)
    have h3 : B 200 (xs.getD i 0) := ⟨Nat.lt_of_le_of_lt (getD_le (m := 2 ^ 200 - 1) (fun z hz => Nat.le_sub_one_of_lt (h z hz).1) i) (by decide), by decide⟩
    rw [valN]
    exact ⟨(B.add (B.mul h1 hx) (B.mul h3 h2)).mono (by omega), (B.mul h2 hy).mono (by omega)⟩
def partN (n : Nat) (e p q r s : Int) (i : Nat) : Nat → List Int
  | 0 => [e]
  | t + 1 => prodL (partN n e p q r s i t) (if (0 : Int) + (t : Int) < ((n : Int) - 1) - (i : Int) then [p, r] else [q, s])
def putN (row : List Int) (p q r s : Int) : Nat → List Int
  | 0 => List.replicate row.length 0
  | i + 1 => List.zipWith (· + ·) (putN row p q r s i) (partN row.length (row.getD i 0) p q r s i (row.length - 1))
theorem partN_len (n : Nat) (e p q r s : Int) (i : Nat) : ∀ t, (partN n e p q r s i t).length = t + 1
  | 0 => rfl
  | t + 1 => by
    rw [partN, prodL_len, partN_len n e p q r s i t]
    split <;> rfl
theorem partN_B {n : Nat} {e p q r s : Int} {i : Nat} (he : B 400 e) (hp : B 400 p) (hq : B 400 q) (hr : B 400 r) (hs : B 400 s) : ∀ t, t ≤ 10 → ∀ z ∈ partN n e p q r s i t, B (400 + 500 * t) z
  | 0, _ => fun z hz => by
    rw [partN] at hz
    have : z = e := by simpa using hz
    rw [this]
    exact he
  | t + 1, ht => fun z hz => by
    have ih := partN_B (n := n) (i := i) he hp hq hr hs t (by omega)
    rw [partN] at hz
    refine B.mono (prodL_B (a := 400 + 500 * t) (b := 400) ih (fun y hy => ?_) (by omega) z hz) ?_
    · split at hy <;> simp only [List.mem_cons, List.mem_nil_iff, or_false] at hy <;> rcases hy with rfl | rfl <;> assumption
    · rw [partN_len]
      split <;> simp <;> omega
theorem putN_len (row : List Int) (p q r s : Int) (h : row ≠ []) : ∀ i, (putN row p q r s i).length = row.length
  | 0 => by rw [putN, List.length_replicate]
  | i + 1 => by
    have := List.length_pos_iff.mpr h
    rw [putN, List.length_zipWith, putN_len row p q r s h i, partN_len]
    omega
theorem mem_zip {xs ys : List Int} {z : Int} (h : z ∈ List.zipWith (· + ·) xs ys) : ∃ x ∈ xs, ∃ y ∈ ys, z = x + y := by
  obtain ⟨k, hk, e⟩ := List.getElem_of_mem h
  rw [List.getElem_zipWith] at e
  rw [List.length_zipWith] at hk
  exact ⟨_, List.getElem_mem (by omega), _, List.getElem_mem (by omega), e.symm⟩
theorem putN_B {row : List Int} {p q r s : Int} (h : ∀ e ∈ row, B 400 e) (hl : row.length ≤ 11) (hp : B 400 p) (hq : B 400 q) (hr : B 400 r) (hs : B 400 s) : ∀ i, i ≤ row.length → ∀ z ∈ putN row p q r s i, B (1 + 6000 * i) z
  | 0, _ => fun z hz => by
    rw [putN] at hz
    rw [List.eq_of_mem_replicate hz]
    exact ⟨by decide, by decide⟩
  | i + 1, hi => fun z hz => by
    rw [putN] at hz
    obtain ⟨u, hu, v, hv, rfl⟩ := mem_zip hz
    exact (B.add (putN_B h hl hp hq hr hs i (by omega) u hu) (partN_B (h _ (gD_mem (by omega))) hp hq hr hs _ (by omega) v hv)).mono (by omega)
end Fr
set_option Elab.async false
set_option linter.all false
set_option maxRecDepth 100000
namespace K05M
def fv (a b c d x y : Int) : Int := a * x * x * x + b * x * x * y + c * x * y * y + d * y * y * y
def fdisc (a b c d : Int) : Int := b * b * c * c - 4 * a * c * c * c - 4 * b * b * b * d - 27 * a * a * d * d + 18 * a * b * c * d
def fl2 (a b c d p q r s : Int) : Int := 3 * a * p * p * r + b * p * (p * s + 2 * q * r) + c * q * (2 * p * s + q * r) + 3 * d * q * q * s
def fl3 (a b c d p q r s : Int) : Int := 3 * a * p * r * r + b * r * (2 * p * s + q * r) + c * s * (p * s + 2 * q * r) + 3 * d * q * s * s
theorem put1 (a b c d p q r s i j : Int) : fv (fv a b c d p q) (fl2 a b c d p q r s) (fl3 a b c d p q r s) (fv a b c d r s) i j = fv a b c d (i * p + j * r) (i * q + j * s) := by
  unfold fv fl2 fl3
  grind
theorem put2 (a b c d p q r s i j k m : Int) : fl2 (fv a b c d p q) (fl2 a b c d p q r s) (fl3 a b c d p q r s) (fv a b c d r s) i j k m = fl2 a b c d (i * p + j * r) (i * q + j * s) (k * p + m * r) (k * q + m * s) := by
  unfold fv fl2 fl3
  grind
theorem put3 (a b c d p q r s i j k m : Int) : fl3 (fv a b c d p q) (fl2 a b c d p q r s) (fl3 a b c d p q r s) (fv a b c d r s) i j k m = fl3 a b c d (i * p + j * r) (i * q + j * s) (k * p + m * r) (k * q + m * s) := by
  unfold fv fl2 fl3
  grind
theorem disc (a b c d p q r s : Int) : fdisc (fv a b c d p q) (fl2 a b c d p q r s) (fl3 a b c d p q r s) (fv a b c d r s) = (p * s - q * r) * (p * s - q * r) * (p * s - q * r) * (p * s - q * r) * (p * s - q * r) * (p * s - q * r) * fdisc a b c d := by
  unfold fdisc fv fl2 fl3
  grind
theorem fv_mul (e a b c d x y : Int) : fv (e * a) (e * b) (e * c) (e * d) x y = e * fv a b c d x y := by unfold fv; grind
theorem fl2_mul (e a b c d p q r s : Int) : fl2 (e * a) (e * b) (e * c) (e * d) p q r s = e * fl2 a b c d p q r s := by unfold fl2; grind
theorem fl3_mul (e a b c d p q r s : Int) : fl3 (e * a) (e * b) (e * c) (e * d) p q r s = e * fl3 a b c d p q r s := by unfold fl3; grind
theorem disc_neg (a b c d : Int) : fdisc (-1 * a) (-1 * b) (-1 * c) (-1 * d) = fdisc a b c d := by unfold fdisc; grind
theorem det_mul (p q r s i j k m : Int) : (i * p + j * r) * (k * q + m * s) - (i * q + j * s) * (k * p + m * r) = (i * m - j * k) * (p * s - q * r) := by grind
theorem fv_one (a b c d : Int) : fv a b c d 1 0 = a ∧ fv a b c d 0 1 = d ∧ fl2 a b c d 1 0 0 1 = b ∧ fl3 a b c d 1 0 0 1 = c := by
  unfold fv fl2 fl3
  refine ⟨?_, ?_, ?_, ?_⟩ <;> grind
theorem und (p q r s e : Int) (he : e = p * s - q * r) (h : e = 1 ∨ e = -1) : (e * s) * p + (-e * q) * r = 1 ∧ (e * s) * q + (-e * q) * s = 0 ∧ (-e * r) * p + (e * p) * r = 0 ∧ (-e * r) * q + (e * p) * s = 1 := by
  have h1 : e * e = 1 := by rcases h with rfl | rfl <;> decide
  refine ⟨?_, ?_, ?_, ?_⟩ <;> grind
end K05M
set_option Elab.async false
set_option linter.all false
namespace K06M
open K05M
def h0 (a b c d : Int) : Int := b * b - 3 * a * c
def h1 (a b c d : Int) : Int := b * c - 9 * a * d
def h2 (a b c d : Int) : Int := c * c - 3 * b * d
def g0 (a b c d : Int) : Int := 2 * b * b * b - 9 * a * b * c + 27 * a * a * d
def g1 (a b c d : Int) : Int := 3 * b * b * c - 18 * a * c * c + 27 * a * b * d
def g2 (a b c d : Int) : Int := -3 * b * c * c + 18 * b * b * d - 27 * a * c * d
def g3 (a b c d : Int) : Int := -2 * c * c * c + 9 * b * c * d - 27 * a * d * d
def dv (a b c x y : Int) : Int := a * x * x + b * x * y + c * y * y
def ddisc (a b c : Int) : Int := b * b - 4 * a * c
def dl (a b c p q r s : Int) : Int := 2 * a * p * r + b * (p * s + q * r) + 2 * c * q * s
theorem hdisc (a b c d : Int) : ddisc (h0 a b c d) (h1 a b c d) (h2 a b c d) = -3 * fdisc a b c d := by
  unfold ddisc h0 h1 h2 fdisc; grind
theorem gh0 (a b c d : Int) : h0 (g0 a b c d) (g1 a b c d) (g2 a b c d) (g3 a b c d) = 27 * fdisc a b c d * h0 a b c d := by
  unfold h0 g0 g1 g2 fdisc; grind
theorem gh1 (a b c d : Int) : h1 (g0 a b c d) (g1 a b c d) (g2 a b c d) (g3 a b c d) = 27 * fdisc a b c d * h1 a b c d := by
  unfold h1 g0 g1 g2 g3 fdisc; grind
theorem gh2 (a b c d : Int) : h2 (g0 a b c d) (g1 a b c d) (g2 a b c d) (g3 a b c d) = 27 * fdisc a b c d * h2 a b c d := by
  unfold h2 g1 g2 g3 fdisc; grind
theorem led0 (a b c d p q r s : Int) : h0 (fv a b c d p q) (fl2 a b c d p q r s) (fl3 a b c d p q r s) (fv a b c d r s) = (p * s - q * r) * (p * s - q * r) * dv (h0 a b c d) (h1 a b c d) (h2 a b c d) p q := by
  unfold h0 h1 h2 fv fl2 fl3 dv; grind
theorem led1 (a b c d p q r s : Int) : h1 (fv a b c d p q) (fl2 a b c d p q r s) (fl3 a b c d p q r s) (fv a b c d r s) = (p * s - q * r) * (p * s - q * r) * dl (h0 a b c d) (h1 a b c d) (h2 a b c d) p q r s := by
  unfold h0 h1 h2 fv fl2 fl3 dl; grind
theorem led2 (a b c d p q r s : Int) : h2 (fv a b c d p q) (fl2 a b c d p q r s) (fl3 a b c d p q r s) (fv a b c d r s) = (p * s - q * r) * (p * s - q * r) * dv (h0 a b c d) (h1 a b c d) (h2 a b c d) r s := by
  unfold h0 h1 h2 fv fl2 fl3 dv; grind
theorem syz (a b c d x y : Int) : 4 * dv (h0 a b c d) (h1 a b c d) (h2 a b c d) x y * dv (h0 a b c d) (h1 a b c d) (h2 a b c d) x y * dv (h0 a b c d) (h1 a b c d) (h2 a b c d) x y = fv (g0 a b c d) (g1 a b c d) (g2 a b c d) (g3 a b c d) x y * fv (g0 a b c d) (g1 a b c d) (g2 a b c d) (g3 a b c d) x y + 27 * fdisc a b c d * fv a b c d x y * fv a b c d x y := by
  unfold dv h0 h1 h2 g0 g1 g2 g3 fdisc fv; grind
theorem gdisc (a b c d : Int) : fdisc (g0 a b c d) (g1 a b c d) (g2 a b c d) (g3 a b c d) = 729 * fdisc a b c d * fdisc a b c d * fdisc a b c d := by
  unfold g0 g1 g2 g3 fdisc; grind
theorem gled0 (a b c d p q r s : Int) : g0 (fv a b c d p q) (fl2 a b c d p q r s) (fl3 a b c d p q r s) (fv a b c d r s) = (p * s - q * r) * (p * s - q * r) * (p * s - q * r) * fv (g0 a b c d) (g1 a b c d) (g2 a b c d) (g3 a b c d) p q := by
  unfold g0 g1 g2 g3 fv fl2 fl3; grind
theorem gled1 (a b c d p q r s : Int) : g1 (fv a b c d p q) (fl2 a b c d p q r s) (fl3 a b c d p q r s) (fv a b c d r s) = (p * s - q * r) * (p * s - q * r) * (p * s - q * r) * fl2 (g0 a b c d) (g1 a b c d) (g2 a b c d) (g3 a b c d) p q r s := by
  unfold g0 g1 g2 g3 fv fl2 fl3; grind
theorem gled2 (a b c d p q r s : Int) : g2 (fv a b c d p q) (fl2 a b c d p q r s) (fl3 a b c d p q r s) (fv a b c d r s) = (p * s - q * r) * (p * s - q * r) * (p * s - q * r) * fl3 (g0 a b c d) (g1 a b c d) (g2 a b c d) (g3 a b c d) p q r s := by
  unfold g0 g1 g2 g3 fv fl2 fl3; grind
theorem gled3 (a b c d p q r s : Int) : g3 (fv a b c d p q) (fl2 a b c d p q r s) (fl3 a b c d p q r s) (fv a b c d r s) = (p * s - q * r) * (p * s - q * r) * (p * s - q * r) * fv (g0 a b c d) (g1 a b c d) (g2 a b c d) (g3 a b c d) r s := by
  unfold g0 g1 g2 g3 fv fl2 fl3; grind
theorem h_mul (e a b c d : Int) : h0 (e * a) (e * b) (e * c) (e * d) = e * e * h0 a b c d ∧ h1 (e * a) (e * b) (e * c) (e * d) = e * e * h1 a b c d ∧ h2 (e * a) (e * b) (e * c) (e * d) = e * e * h2 a b c d := by
  unfold h0 h1 h2
  refine ⟨?_, ?_, ?_⟩ <;> grind
theorem g_mul (e a b c d : Int) : g0 (e * a) (e * b) (e * c) (e * d) = e * e * e * g0 a b c d ∧ g1 (e * a) (e * b) (e * c) (e * d) = e * e * e * g1 a b c d ∧ g2 (e * a) (e * b) (e * c) (e * d) = e * e * e * g2 a b c d ∧ g3 (e * a) (e * b) (e * c) (e * d) = e * e * e * g3 a b c d := by
  unfold g0 g1 g2 g3
  refine ⟨?_, ?_, ?_, ?_⟩ <;> grind
end K06M
namespace Gd
open PySem PySem.Spec PyProof.Rows L2 Fr
structure FnG (P : Program) (w : World) (K : PySem.W.Frag) (mg : Str → Option Value) (base : Heap) (k : Nat) (f : Addr) (fd : FuncData) (ps : List Str) (sp : Sp) : Prop where
  size : ∀ vs H Q E, sp vs H Q E → vs.length = ps.length
  runs : ∀ (A : Around) (out : List Env) (s : Shared) (H : Hp) (ar : Args) (us : List Value) (vs : List V) (Q : VK) (E : XK), A.guards = some [] → Room k A →
    Env0 P w K mg base A out s H → BindsTo s fd ar (ps.zip us) → Vals vs us → sp vs H Q E → codeAny (model P w) A (.call (.ref f) ar) (CR CX0 out P w H s Q E) s
def DefG (P : Program) (w : World) (K : PySem.W.Frag) (mg : Str → Option Value) (base : Heap) (k : Nat) (x : Str) (ps : List Str) (sp : Sp) : Prop :=
  ∃ f fd, mg x = some (.ref f) ∧ PySem.W.keepIn K (.ref f) = true ∧ Binds K fd ps [] ∧ FnG P w K mg base k f fd ps sp
def MDefG (R : Addr → Addr → Prop) (P : Program) (w : World) (K : PySem.W.Frag) (mg : Str → Option Value) (base : Heap) (k : Nat) (ps : List Str) (sp : Sp) : Prop :=
  ∃ p f fd, R p f ∧ Binds K fd ps [] ∧ FnG P w K mg base k f fd ps sp
theorem FnG.of {P : Program} {w : World} {K : PySem.W.Frag} {mg : Str → Option Value} {base : Heap} {k : Nat} {f : Addr} {fd : FuncData} {ps : List Str} {sp : Sp} (F : FnOk P w K mg base CX0 k f fd ps sp) : FnG P w K mg base k f fd ps sp :=
  ⟨F.len, fun A out s H ar us vs Q E _ hr => F.run A out s H ar us vs Q E hr⟩
section
variable {P : Program} {w : World} {K : PySem.W.Frag} {mg : Str → Option Value} {base : Heap}
theorem okG {x ql : Str} {st : Stmt} {f : Addr} {fd : FuncData} {N ps : List Str} {k : Nat} {sp : Sp} (F : Fun K x ql st f fd) (S : FnScope N ps (defScope st))
    (size : ∀ vs H Q E, sp vs H Q E → vs.length = ps.length)
    (body : ∀ (cv : Value) (A : Around) (out : List Env) (s : Shared) (H : Hp) (vs : List V) (Q : VK) (E : XK), A.guards = some [] →
      Room k (A.deeper (envOfC ql (defScope st) s.heap.objs.size f cv)) → sp vs H Q E →
      ∃ t, PSs (cxOf CX0 P w K mg base N ql (defScope st) f cv A out s H E).nox (defBody st) t ∧ t { nx := fun _ G => Q .non G, rt := Q } (start N vs) H) :
    FnG P w K mg base (k + 1) f fd ps sp := by
  obtain ⟨oc, od, kV, dc, pm, an, cv, ct, osl, rfl, lk, hc⟩ := F.ex
  constructor
  · exact size
  intro A out s H ar us vs Q E hg hr e0 hb r hs
  have hl := size _ _ _ _ hs
  have inK : K.In s.heap := e0.mod.kin.keeps (fun b o e => And.left (e0.bs b o e))
  have lm : s.heap.NoLimit := e0.mod.nolimit.keeps (fun b o e => And.left (e0.bs b o e))
  refine codeAny_call_function hr.depth (inK _ _ lk) rfl S.co S.gen rfl (PySem.W.codeRec_of inK hc) (hb _ _ _ _ ?_)
  have kd : ∀ y ∈ ps.zip us, (defScope st).names.lookup y.1 = some .local ∨ ((defScope st).names.lookup y.1 = some .cell ∧ ((cellsFrom (s.heap.objs.size + 1) (defScope st).names []).lookup y.1).isSome = true) := by
    rintro ⟨n, v⟩ hy
    have hp := S.par n (List.of_mem_zip hy).1
    rcases hp with z | z
    · left; exact z
    · right; exact ⟨z, PySem.W.cellsFrom_some _ _ _ (Or.inl z)⟩
  refine wpAny_newFunctionEnv_cells S.kind kd fun env he s1 z => ?_
  cases he
  refine ⟨lm.keeps z.toInCall.keep, codeAny_func ?_⟩
  obtain ⟨t, ht, hq⟩ := body cv A out s H vs Q E hg (hr.deeper _) hs
  have I := inv_start (CX := CX0) (E := E) S hr.hd e0 hl r z
  have fin : ∀ {σ' : L2.St} {G : Hp} {v : V} {u : Value} {s' : Shared}, Inv (cxOf CX0 P w K mg base N ql (defScope st) f cv A out s H E) [] σ' G s' → RelV v u → Q v G → CE out P w H s Q u s' := by
    intro σ' G v u s' J rv q
    exact ⟨v, G, J.os, J.bare, J.base, J.hok, rv, q⟩
  refine wpAny_mono (ht.nox.run [] s1 (start N vs) H _ I hq) (fun fl s' hs => ?_) fun _ _ z => z
  match fl, hs with
  | .ret u, hs => obtain ⟨v, _, G, J, rv, q⟩ := hs; exact fin J rv q
  | .next, hs => obtain ⟨_, G, J, q⟩ := hs; exact fin (u := Value.none) (v := V.non) J rfl q
  | .brk, hs => obtain ⟨_, _, _, q⟩ := hs; exact q.elim
  | .cont, hs => obtain ⟨_, _, _, q⟩ := hs; exact q.elim
end
section
variable {X : Cx} {k : Nat} {f C : Addr} {fd : FuncData} {ps : List Str} {sp : Sp} {x : Str} {p pos : Pos} {e : Expr} {es : List Expr} {t : TA}
theorem runG {A : Around} {pins : List (Addr × Obj)} {σ : L2.St} {H : Hp} {s : Shared} {Q : VK} {us : List Value} {vs : List V} (F : FnG X.prog X.w X.K X.mg X.base k f fd ps sp) (hg : A.guards = some []) (hr : Room k A)
    (e0 : Env0 X.prog X.w X.K X.mg X.base A X.stack s H) (hb : Binds X.K fd ps []) (I : Inv X pins σ H s) (r : Vals vs us) (h : sp vs H Q E0) : wpAny (model X.prog X.w) A (call (.ref f) us) (EP X pins σ Q) X.xe s := by
  have hl : (us ++ []).length = ps.length := by rw [List.append_nil, ← r.length]; exact F.size _ _ _ _ h
  have b := hb s us I.kIn hl
  rw [List.append_nil] at b
  refine wpAny_call (codeAny_mono (F.runs A X.stack s H ⟨us, []⟩ us vs Q E0 hg hr e0 b r h) fun z s' hq => ?_)
  match z, hq with
  | .error _, hq => exact hq.elim
  | .ok (.ret u), hq => exact I.after hq
  | .ok .next, hq => exact hq.elim
  | .ok .brk, hq => exact hq.elim
  | .ok .cont, hq => exact hq.elim
theorem pe_callG (F : FnG X.prog X.w X.K X.mg X.base k f fd ps sp) (hG : X.A.guards = some []) (hr : Room k X.A) (hg : Gl X x) (hm : X.mg x = some (.ref f)) (hk : PySem.W.keepIn X.K (.ref f) = true) (hb : Binds X.K fd ps [])
    (ha : PA X (e :: es) t) (hd : (x == ("__debug__" : Str)) = false := by decide) (he : starEach (e :: es) X.env = (false, eval e X.env) :: starEach es X.env := by rfl) (hp : (backTo pos (starEach es X.env)).any (·.1) = false := by rfl) :
    PE X (.Call (.Name x p) (e :: es) [] pos) (tCall sp [] E0 t) := by
  constructor
  intro pins s σ H Q I h
  refine wpAny_Call_Name_kw (ld_glob I hg hm ?_ hd)
  refine PySem.W.callWith_K (h₀ := X.base) I.ok.mod.kin hk (thn (ha.run pos pins s σ H _ I h) fun us s1 ⟨vs, H1, I1, r, q⟩ => ⟨I1.kIn, ?_⟩) he hp
  refine runG F hG hr I1.env0 hb I1 r ?_
  have q' : sp (vs ++ []) H1 Q E0 := q
  rwa [List.append_nil] at q'
theorem call_strI (c : Meth X.K C "__str__" f) (F : FnG X.prog X.w X.K X.mg X.base k f fd ps sp) (hb : Binds X.K fd ps []) (hG : X.A.guards = some []) (hr : Room (k + 2) X.A) :
    CallR X (.type "str") (fun xs H Q => ∃ a dx fs, xs = [.ref a] ∧ H a = some (.ins C dx fs) ∧ sp [.ref a] H (fun v G => ∃ y, v = .str y ∧ Q (.str y) G) E0) := by
  intro pins s σ H xs us Q I r h
  obtain ⟨a, dx, fs, rfl, ha, q⟩ := h
  obtain rfl := Vals.ref1 r
  obtain ⟨mA, J, _⟩ := ins_get I.hok ha
  obtain ⟨od, J, _⟩ := J.look
  have hu := hr.units
  refine PySem.W.kso_call (by show X.A.units + 1 + 1 < cLine; omega) I.kIn J c.at_ c.fn ?_
  refine wpAny_mono (runG (A := X.A.in1.in1) F hG hr.in1.in1 I.env0.in1.in1 hb I (.cons (show RelV (.ref a) (.ref a) from rfl) .nil) q) (fun u s' hq => ?_) fun _ _ z => z
  obtain ⟨v, H', I3, rv, y, rfl, q3⟩ := hq
  obtain ⟨tk, rfl⟩ := rv
  exact ⟨.str y, H', I3, ⟨tk, rfl⟩, q3⟩
theorem call_strD (hG : X.A.guards = some []) (hr : Room k X.A) :
    CallR X (.type "str") (fun xs H Q => ∃ (a : Addr) (d : PyData), xs = [.ref a] ∧ Dp X.K H (.ref a) d ∧ d.showable = true ∧ d.hasDict = false ∧ d.depth ≤ 40 ∧ d.shown.length ≤ sizeLine ∧ Q (.str d.shown) H) := by
  intro pins s σ H xs us Q I r h
  obtain ⟨a, d, rfl, hd, h1, h2, h3, h4, q⟩ := h
  obtain rfl := Vals.ref1 r
  obtain ⟨as, rd⟩ := Dp.reads I d _ _ hd (show RelV (.ref a) (.ref a) from rfl)
  have hu := hr.units
  refine str_of_reads rd h1 (fun z => by rw [h2] at z; cases z) hG (by omega) (fun _ _ z => z) (fun h' u tk hk => ?_) h4
  exact ⟨.str d.shown, H, I.kept hk, ⟨u, rfl⟩, q⟩
end
theorem law_callG {P : Program} {w : World} {K : PySem.W.Frag} {mg mb : Str → Option Value} {k : Nat} {fa a : Addr} {fd : FuncData} {x : Str} {sp : Sp} {s : Shared} {vs : List Value} {ns : List Int}
    (inK : K.In s.heap) (nsG : s.heap.Ns mainGlobals mg) (nsB : s.heap.Ns builtinsNs mb) (boot : ∀ y : Str, y ≠ "__name__" → mb y = bootBuiltins y) (lim : s.heap.NoLimit) (gens : s.gens = #[])
    (hat : s.heap.get? a = some { cls := .type "list", data := .seq vs.toArray }) (ii : IntsAre vs ns) (le : ns.length ≤ sizeLine) (room : Room k callerA)
    (F : ∀ base : Heap, K.In base → base.Ns mainGlobals mg → FnG P w K mg base k fa fd [x] sp) (bind : ∀ (s : Shared) (u : Value), BindsTo s fd ⟨[u], []⟩ [(x, u)])
    (prom : ∀ H : Hp, Only H → SqL K H a (ns.map V.int) → sp [.ref a] H (fun v _ => v = .bl true) E0) :
    codeAny (model P w) callerA (.call (.ref fa) ⟨[.ref a], []⟩) (fun r s' => r = .ok (.ret (.bool true)) ∧ OldK s.heap s'.heap ∧ s'.os = s.os ∧ AllBare s'.gens) s := by
  have vals := vals_ints ii
  have lens := ii.length
  have main : ∀ H : Hp, Only H → SqL K H a (ns.map V.int) → HOk P w H s.heap → (∀ b, H b ≠ none → b = a ∧ K.lookup a = none) →
      codeAny (model P w) callerA (.call (.ref fa) ⟨[.ref a], []⟩) (fun r s' => r = .ok (.ret (.bool true)) ∧ OldK s.heap s'.heap ∧ s'.os = s.os ∧ AllBare s'.gens) s := by
    intro H only sq ok one
    have stay : ∀ {b : Addr} {o : Obj}, s.heap.get? b = some o → (∀ ys n, o.data ≠ .seq ys n) → (hidT s.heap H).get? b = some o := by
      intro b o e nd
      refine hidT_get e ?_
      cases z : H b with
      | none => rfl
      | some u =>
        exfalso
        have z1 := (one b (by rw [z]; exact Option.some_ne_none _)).1
        rw [z1, hat] at e
        injection e with e
        exact nd _ _ (by rw [← e])
    have tabs : ∀ {b : Addr} {m : Str → Option Value}, s.heap.Ns b m → (hidT s.heap H).Ns b m := by
      rintro b m ⟨o, es, ep, e, d, r⟩
      exact ⟨o, es, ep, stay e (fun ys n z => by rw [d] at z; cases z), d, r⟩
    have inB : K.In (hidT s.heap H) := by
      intro b o e
      refine hidT_get (inK b o e) ?_
      cases z : H b with
      | none => rfl
      | some u =>
        exfalso
        obtain ⟨z1, z2⟩ := one b (by rw [z]; exact Option.some_ne_none _)
        rw [z1, z2] at e
        cases e
    obtain ⟨mc, lm1, lm2⟩ := lim
    have md : Mod K mg (hidT s.heap H) := ⟨inB, tabs nsG, ⟨mb, tabs nsB, boot⟩, ⟨mc, tabs lm1, lm2⟩⟩
    have e0 : Env0 P w K mg (hidT s.heap H) callerA [] s H := by
      refine ⟨rfl, md, fun b o e => of_hidT e, ?_, trivial, ?_, ok, .of_eq gens⟩
      · rw [hidT_size]; exact Nat.le_refl _
      · intro b hb; exact (List.not_mem_nil hb).elim
    refine codeAny_mono ((F _ inB (tabs nsG)).runs callerA [] s H ⟨[.ref a], []⟩ [.ref a] [.ref a] _ E0 rfl room e0 (bind s (.ref a)) (.cons (show RelV (.ref a) (.ref a) from rfl) .nil) (prom H only sq)) (fun r s' h => ?_)
    match r, h with
    | .error _, h => exact h.elim
    | .ok .next, h => exact h.elim
    | .ok .brk, h => exact h.elim
    | .ok .cont, h => exact h.elim
    | .ok (.ret u), h =>
      obtain ⟨v, G, os, bare, un, ok2, rv, q⟩ := h
      cases (show v = .bl true from q)
      cases (show u = Value.bool true from rv)
      refine ⟨rfl, OldK.of_keep (fun b o e => ?_), os, bare⟩
      cases z : H b with
      | none => exact un.keep b o e z (fun y => List.not_mem_nil y) (fun y => List.not_mem_nil y)
      | some u =>
        rcases only b with y | ⟨ob, xs, y⟩
        · rw [z] at y; cases y
        have y2 := un.frzs b ob _ y
        have p1 := (ok b _ y).1
        rw [e] at p1
        injection p1 with p1
        rw [p1]
        exact (ok2 b _ y2).1
  have size : vs.toArray.size ≤ sizeLine := by rw [List.size_toArray, lens]; exact le
  cases hk : K.lookup a with
  | some o =>
    have e := inK a o hk
    rw [hat] at e
    injection e with e
    refine main (fun _ => none) (fun _ => Or.inl rfl) (Or.inr ⟨o, vs.toArray, 0, hk, by rw [← e], by rw [← e], by rw [← e], ?_, by simpa using vals⟩) (fun b u z => by cases (show (none : Option HO) = some u from z)) (fun b z => absurd rfl z)
    exact size
  | none =>
    have at_ : ∀ b, b = a → (fun b => if b = a then some (HO.frz { cls := .type "list", data := .seq vs.toArray } (.lst (ns.map V.int))) else none : Hp) b = some (HO.frz { cls := .type "list", data := .seq vs.toArray } (.lst (ns.map V.int))) := fun b z => if_pos z
    have no_ : ∀ b, b ≠ a → (fun b => if b = a then some (HO.frz { cls := .type "list", data := .seq vs.toArray } (.lst (ns.map V.int))) else none : Hp) b = none := fun b z => if_neg z
    refine main (fun b => if b = a then some (HO.frz { cls := .type "list", data := .seq vs.toArray } (.lst (ns.map V.int))) else none) (fun b => ?_) (Or.inl (Or.inr ⟨_, at_ a rfl⟩)) (fun b u z => ?_) (fun b z => ?_)
    · by_cases y : b = a
      · exact Or.inr ⟨_, _, at_ b y⟩
      · exact Or.inl (no_ b y)
    · by_cases y : b = a
      · have z2 := (at_ b y).symm.trans z
        injection z2 with z2
        subst z2
        subst y
        exact ⟨hat, by rw [List.length_map]; exact le, vs, _, vals, hat⟩
      · have z2 := (no_ b y).symm.trans z
        cases z2
    · by_cases y : b = a
      · exact ⟨y, hk⟩
      · exact absurd (no_ b y) z
theorem walkG {l : PySem.W.OpenLaw} {n k : Nat} {q : Program} {loose : List Str} {XP : (Str → Option Value) → Heap → Prop} {YP : World → Heap → Prop} {d : DefRec} {x : Str}
    (most : l.most = some n) (le : n ≤ sizeLine) (df : d.params.defaults = []) (room : Room k callerA)
    (F : ∀ (w : World) (mg : Str → Option Value) (fa : Addr) (h : Heap), YP w h → h.Ns mainGlobals mg → mg d.name = some (.ref fa) →
      ∃ (K : PySem.W.Frag) (fd : FuncData) (sp : Sp), K.In h ∧ (∀ (s : Shared) (u : Value), BindsTo s fd ⟨[u], []⟩ [(x, u)]) ∧
        (∀ (H : Hp) (a : Addr) (ns : List Int), ns.length ≤ n → Only H → SqL K H a (ns.map V.int) → sp [.ref a] H (fun v _ => v = .bl true) E0) ∧
        ∀ base : Heap, K.In base → base.Ns mainGlobals mg → FnG l.prog w K mg base k fa fd [x] sp) :
    PySem.W.WalkO q loose XP YP l.row.toRowW d [] (fun f vs => PySem.call f vs) := by
  refine Att.attach_call most df (fun w _ s mg mb fa _ _ _ _ a vs ns G Y _ _ _ hm hobj hi hl hg => ?_)
  obtain ⟨K, fd, sp, inK, hb, hs, hF⟩ := F w mg fa _ Y G.T.g hm
  exact law_callG inK G.T.g G.T.b G.T.builtins G.T.nolimit hg hobj hi (Nat.le_trans hl le) room hF hb (fun H only z => hs H a ns hl only z)
end Gd
namespace TF
open PySem PySem.Spec PyProof.Rows L2 Fr
open K05M (fv fl2 fl3 fdisc)
open K06M
def topS (i : Nat) : Stmt := PySem.Challenge.pw_formrings_k08_whole_doubles_led_by_chang.main.body.getD i (.Pass ⟨0, 0, 0, 0⟩)
abbrev s_is_any_integer : Stmt := topS 12
abbrev N_is_any_integer : List Str := ["value"]
theorem sc_is_any_integer : FnScope N_is_any_integer ["value"] (defScope s_is_any_integer) := ⟨rfl, rfl, rfl, by decide +kernel, rfl, by decide +kernel, by decide +kernel⟩
abbrev s_is_short_integer : Stmt := topS 13
abbrev N_is_short_integer : List Str := ["value"]
theorem sc_is_short_integer : FnScope N_is_short_integer ["value"] (defScope s_is_short_integer) := ⟨rfl, rfl, rfl, by decide +kernel, rfl, by decide +kernel, by decide +kernel⟩
abbrev s_are_any_integers : Stmt := topS 15
abbrev N_are_any_integers : List Str := ["value", "many", "number"]
theorem sc_are_any_integers : FnScope N_are_any_integers ["value", "many"] (defScope s_are_any_integers) := ⟨rfl, rfl, rfl, by decide +kernel, rfl, by decide +kernel, by decide +kernel⟩
abbrev s_are_short_integers : Stmt := topS 16
abbrev N_are_short_integers : List Str := ["value", "many", "n"]
theorem sc_are_short_integers : FnScope N_are_short_integers ["value", "many"] (defScope s_are_short_integers) := ⟨rfl, rfl, rfl, by decide +kernel, rfl, by decide +kernel, by decide +kernel⟩
abbrev s_check_integer : Stmt := topS 18
abbrev N_check_integer : List Str := ["value"]
theorem sc_check_integer : FnScope N_check_integer ["value"] (defScope s_check_integer) := ⟨rfl, rfl, rfl, by decide +kernel, rfl, by decide +kernel, by decide +kernel⟩
abbrev s_determinant_of : Stmt := topS 21
abbrev N_determinant_of : List Str := ["change", "p", "q", "r", "s"]
theorem sc_determinant_of : FnScope N_determinant_of ["change"] (defScope s_determinant_of) := ⟨rfl, rfl, rfl, by decide +kernel, rfl, by decide +kernel, by decide +kernel⟩
abbrev s_is_change : Stmt := topS 22
abbrev N_is_change : List Str := ["value", "row"]
theorem sc_is_change : FnScope N_is_change ["value"] (defScope s_is_change) := ⟨rfl, rfl, rfl, by decide +kernel, rfl, by decide +kernel, by decide +kernel⟩
abbrev s_is_short_change : Stmt := topS 23
abbrev N_is_short_change : List Str := ["value", "row"]
theorem sc_is_short_change : FnScope N_is_short_change ["value"] (defScope s_is_short_change) := ⟨rfl, rfl, rfl, by decide +kernel, rfl, by decide +kernel, by decide +kernel⟩
abbrev s_check_change : Stmt := topS 24
abbrev N_check_change : List Str := ["value"]
theorem sc_check_change : FnScope N_check_change ["value"] (defScope s_check_change) := ⟨rfl, rfl, rfl, by decide +kernel, rfl, by decide +kernel, by decide +kernel⟩
abbrev s_both : Stmt := topS 25
abbrev N_both : List Str := ["first", "second", "p", "q", "r", "s", "i", "j", "k", "m"]
theorem sc_both : FnScope N_both ["first", "second"] (defScope s_both) := ⟨rfl, rfl, rfl, by decide +kernel, rfl, by decide +kernel, by decide +kernel⟩
abbrev s_taken_back : Stmt := topS 26
abbrev N_taken_back : List Str := ["change", "e", "p", "q", "r", "s"]
theorem sc_taken_back : FnScope N_taken_back ["change"] (defScope s_taken_back) := ⟨rfl, rfl, rfl, by decide +kernel, rfl, by decide +kernel, by decide +kernel⟩
abbrev s_joined : Stmt := topS 27
abbrev N_joined : List Str := ["first", "second"]
theorem sc_joined : FnScope N_joined ["first", "second"] (defScope s_joined) := ⟨rfl, rfl, rfl, by decide +kernel, rfl, by decide +kernel, by decide +kernel⟩
abbrev s_undone : Stmt := topS 28
abbrev N_undone : List Str := ["change"]
theorem sc_undone : FnScope N_undone ["change"] (defScope s_undone) := ⟨rfl, rfl, rfl, by decide +kernel, rfl, by decide +kernel, by decide +kernel⟩
abbrev s_shared_divisor : Stmt := topS 30
abbrev N_shared_divisor : List Str := ["numbers", "shared", "number"]
theorem sc_shared_divisor : FnScope N_shared_divisor ["numbers"] (defScope s_shared_divisor) := ⟨rfl, rfl, rfl, by decide +kernel, rfl, by decide +kernel, by decide +kernel⟩
abbrev s_double_value : Stmt := topS 32
abbrev N_double_value : List Str := ["coefficients", "x", "y", "first", "middle", "last"]
theorem sc_double_value : FnScope N_double_value ["coefficients", "x", "y"] (defScope s_double_value) := ⟨rfl, rfl, rfl, by decide +kernel, rfl, by decide +kernel, by decide +kernel⟩
abbrev s_double_discriminant : Stmt := topS 33
abbrev N_double_discriminant : List Str := ["coefficients", "first", "middle", "last"]
theorem sc_double_discriminant : FnScope N_double_discriminant ["coefficients"] (defScope s_double_discriminant) := ⟨rfl, rfl, rfl, by decide +kernel, rfl, by decide +kernel, by decide +kernel⟩
abbrev s_double_led : Stmt := topS 34
abbrev N_double_led : List Str := ["coefficients", "change", "first", "middle", "last", "p", "q", "r", "s", "between"]
theorem sc_double_led : FnScope N_double_led ["coefficients", "change"] (defScope s_double_led) := ⟨rfl, rfl, rfl, by decide +kernel, rfl, by decide +kernel, by decide +kernel⟩
abbrev s_double_of : Stmt := topS 35
abbrev N_double_of : List Str := ["coefficients", "double"]
theorem sc_double_of : FnScope N_double_of ["coefficients"] (defScope s_double_of) := ⟨rfl, rfl, rfl, by decide +kernel, rfl, by decide +kernel, by decide +kernel⟩
abbrev s_Double___init__ : Stmt := inClass (topS 36) 0
abbrev N_Double___init__ : List Str := ["self", "coefficients"]
theorem sc_Double___init__ : FnScope N_Double___init__ ["self", "coefficients"] (defScope s_Double___init__) := ⟨rfl, rfl, rfl, by decide +kernel, rfl, by decide +kernel, by decide +kernel⟩
abbrev s_Double_coefficients : Stmt := inClass (topS 36) 1
abbrev N_Double_coefficients : List Str := ["self"]
theorem sc_Double_coefficients : FnScope N_Double_coefficients ["self"] (defScope s_Double_coefficients) := ⟨rfl, rfl, rfl, by decide +kernel, rfl, by decide +kernel, by decide +kernel⟩
abbrev s_Double_discriminant : Stmt := inClass (topS 36) 2
abbrev N_Double_discriminant : List Str := ["self"]
theorem sc_Double_discriminant : FnScope N_Double_discriminant ["self"] (defScope s_Double_discriminant) := ⟨rfl, rfl, rfl, by decide +kernel, rfl, by decide +kernel, by decide +kernel⟩
abbrev s_Double_content : Stmt := inClass (topS 36) 3
abbrev N_Double_content : List Str := ["self"]
theorem sc_Double_content : FnScope N_Double_content ["self"] (defScope s_Double_content) := ⟨rfl, rfl, rfl, by decide +kernel, rfl, by decide +kernel, by decide +kernel⟩
abbrev s_Double___call__ : Stmt := inClass (topS 36) 4
abbrev N_Double___call__ : List Str := ["self", "x", "y"]
theorem sc_Double___call__ : FnScope N_Double___call__ ["self", "x", "y"] (defScope s_Double___call__) := ⟨rfl, rfl, rfl, by decide +kernel, rfl, by decide +kernel, by decide +kernel⟩
abbrev s_Double_led : Stmt := inClass (topS 36) 5
abbrev N_Double_led : List Str := ["self", "change"]
theorem sc_Double_led : FnScope N_Double_led ["self", "change"] (defScope s_Double_led) := ⟨rfl, rfl, rfl, by decide +kernel, rfl, by decide +kernel, by decide +kernel⟩
abbrev s_Double___neg__ : Stmt := inClass (topS 36) 6
abbrev N_Double___neg__ : List Str := ["self", "number"]
theorem sc_Double___neg__ : FnScope N_Double___neg__ ["self"] (defScope s_Double___neg__) := ⟨rfl, rfl, rfl, by decide +kernel, rfl, by decide +kernel, by decide +kernel⟩
abbrev s_Double___eq__ : Stmt := inClass (topS 36) 7
abbrev N_Double___eq__ : List Str := ["self", "other"]
theorem sc_Double___eq__ : FnScope N_Double___eq__ ["self", "other"] (defScope s_Double___eq__) := ⟨rfl, rfl, rfl, by decide +kernel, rfl, by decide +kernel, by decide +kernel⟩
abbrev s_Double___str__ : Stmt := inClass (topS 36) 8
abbrev N_Double___str__ : List Str := ["self"]
theorem sc_Double___str__ : FnScope N_Double___str__ ["self"] (defScope s_Double___str__) := ⟨rfl, rfl, rfl, by decide +kernel, rfl, by decide +kernel, by decide +kernel⟩
abbrev s_form_value : Stmt := topS 38
abbrev N_form_value : List Str := ["coefficients", "x", "y", "a", "b", "c", "d"]
theorem sc_form_value : FnScope N_form_value ["coefficients", "x", "y"] (defScope s_form_value) := ⟨rfl, rfl, rfl, by decide +kernel, rfl, by decide +kernel, by decide +kernel⟩
abbrev s_form_discriminant : Stmt := topS 39
abbrev N_form_discriminant : List Str := ["coefficients", "a", "b", "c", "d"]
theorem sc_form_discriminant : FnScope N_form_discriminant ["coefficients"] (defScope s_form_discriminant) := ⟨rfl, rfl, rfl, by decide +kernel, rfl, by decide +kernel, by decide +kernel⟩
abbrev s_form_led : Stmt := topS 40
abbrev N_form_led : List Str := ["coefficients", "change", "a", "b", "c", "d", "p", "q", "r", "s", "e", "second", "third"]
theorem sc_form_led : FnScope N_form_led ["coefficients", "change"] (defScope s_form_led) := ⟨rfl, rfl, rfl, by decide +kernel, rfl, by decide +kernel, by decide +kernel⟩
abbrev s_form_of : Stmt := topS 41
abbrev N_form_of : List Str := ["coefficients", "form"]
theorem sc_form_of : FnScope N_form_of ["coefficients"] (defScope s_form_of) := ⟨rfl, rfl, rfl, by decide +kernel, rfl, by decide +kernel, by decide +kernel⟩
abbrev s_Form___init__ : Stmt := inClass (topS 42) 0
abbrev N_Form___init__ : List Str := ["self", "coefficients"]
theorem sc_Form___init__ : FnScope N_Form___init__ ["self", "coefficients"] (defScope s_Form___init__) := ⟨rfl, rfl, rfl, by decide +kernel, rfl, by decide +kernel, by decide +kernel⟩
abbrev s_Form_coefficients : Stmt := inClass (topS 42) 2
abbrev N_Form_coefficients : List Str := ["self"]
theorem sc_Form_coefficients : FnScope N_Form_coefficients ["self"] (defScope s_Form_coefficients) := ⟨rfl, rfl, rfl, by decide +kernel, rfl, by decide +kernel, by decide +kernel⟩
abbrev s_Form_discriminant : Stmt := inClass (topS 42) 3
abbrev N_Form_discriminant : List Str := ["self"]
theorem sc_Form_discriminant : FnScope N_Form_discriminant ["self"] (defScope s_Form_discriminant) := ⟨rfl, rfl, rfl, by decide +kernel, rfl, by decide +kernel, by decide +kernel⟩
abbrev s_Form_content : Stmt := inClass (topS 42) 4
abbrev N_Form_content : List Str := ["self"]
theorem sc_Form_content : FnScope N_Form_content ["self"] (defScope s_Form_content) := ⟨rfl, rfl, rfl, by decide +kernel, rfl, by decide +kernel, by decide +kernel⟩
abbrev s_Form___call__ : Stmt := inClass (topS 42) 7
abbrev N_Form___call__ : List Str := ["self", "x", "y"]
theorem sc_Form___call__ : FnScope N_Form___call__ ["self", "x", "y"] (defScope s_Form___call__) := ⟨rfl, rfl, rfl, by decide +kernel, rfl, by decide +kernel, by decide +kernel⟩
abbrev s_Form_led : Stmt := inClass (topS 42) 8
abbrev N_Form_led : List Str := ["self", "change"]
theorem sc_Form_led : FnScope N_Form_led ["self", "change"] (defScope s_Form_led) := ⟨rfl, rfl, rfl, by decide +kernel, rfl, by decide +kernel, by decide +kernel⟩
abbrev s_Form___neg__ : Stmt := inClass (topS 42) 13
abbrev N_Form___neg__ : List Str := ["self", "number"]
theorem sc_Form___neg__ : FnScope N_Form___neg__ ["self"] (defScope s_Form___neg__) := ⟨rfl, rfl, rfl, by decide +kernel, rfl, by decide +kernel, by decide +kernel⟩
abbrev s_Form___eq__ : Stmt := inClass (topS 42) 17
abbrev N_Form___eq__ : List Str := ["self", "other"]
theorem sc_Form___eq__ : FnScope N_Form___eq__ ["self", "other"] (defScope s_Form___eq__) := ⟨rfl, rfl, rfl, by decide +kernel, rfl, by decide +kernel, by decide +kernel⟩
abbrev s_l_cask : Stmt := topS 44
abbrev N_l_cask : List Str := ["_law_script", "_law_spot", "_law_cell", "_law_great", "_law_mixed"]
theorem sc_l_cask : FnScope N_l_cask ["_law_script", "_law_spot"] (defScope s_l_cask) := ⟨rfl, rfl, rfl, by decide +kernel, rfl, by decide +kernel, by decide +kernel⟩
abbrev s_l_tap : Stmt := topS 45
abbrev N_l_tap : List Str := ["_law_cask_here", "_law_many_here", "_law_found", "_law_one_here", "_law_two"]
theorem sc_l_tap : FnScope N_l_tap ["_law_cask_here", "_law_many_here"] (defScope s_l_tap) := ⟨rfl, rfl, rfl, by decide +kernel, rfl, by decide +kernel, by decide +kernel⟩
abbrev s_l_one : Stmt := topS 46
abbrev N_l_one : List Str := ["_law_cask_here", "_law_items"]
theorem sc_l_one : FnScope N_l_one ["_law_cask_here", "_law_items"] (defScope s_l_one) := ⟨rfl, rfl, rfl, by decide +kernel, rfl, by decide +kernel, by decide +kernel⟩
abbrev s_l_number : Stmt := topS 47
abbrev N_l_number : List Str := ["_law_cask_here", "_law_size"]
theorem sc_l_number : FnScope N_l_number ["_law_cask_here"] (defScope s_l_number) := ⟨rfl, rfl, rfl, by decide +kernel, rfl, by decide +kernel, by decide +kernel⟩
abbrev s_l_numbers : Stmt := topS 48
abbrev N_l_numbers : List Str := ["_law_cask_here", "_law_many_here", "_law_turn"]
theorem sc_l_numbers : FnScope N_l_numbers ["_law_cask_here", "_law_many_here"] (defScope s_l_numbers) := ⟨rfl, rfl, rfl, by decide +kernel, rfl, by decide +kernel, by decide +kernel⟩
abbrev s_l_then : Stmt := topS 49
abbrev N_l_then : List Str := ["_law_first", "_law_second", "_law_p", "_law_q", "_law_r", "_law_s", "_law_i", "_law_j", "_law_k", "_law_l"]
theorem sc_l_then : FnScope N_l_then ["_law_first", "_law_second"] (defScope s_l_then) := ⟨rfl, rfl, rfl, by decide +kernel, rfl, by decide +kernel, by decide +kernel⟩
abbrev s_l_change : Stmt := topS 50
abbrev N_l_change : List Str := ["_law_cask_here", "_law_turns", "_law_found", "_law_turn", "_law_step", "_law_plain"]
theorem sc_l_change : FnScope N_l_change ["_law_cask_here", "_law_turns"] (defScope s_l_change) := ⟨rfl, rfl, rfl, by decide +kernel, rfl, by decide +kernel, by decide +kernel⟩
abbrev s_l_common : Stmt := topS 51
abbrev N_l_common : List Str := ["_law_numbers_here", "_law_found", "_law_number_here", "_law_one_here", "_law_other"]
theorem sc_l_common : FnScope N_l_common ["_law_numbers_here"] (defScope s_l_common) := ⟨rfl, rfl, rfl, by decide +kernel, rfl, by decide +kernel, by decide +kernel⟩
abbrev s_l_product : Stmt := topS 52
abbrev N_l_product : List Str := ["_law_one_here", "_law_other", "_law_found", "_law_at", "_law_first", "_law_to", "_law_second"]
theorem sc_l_product : FnScope N_l_product ["_law_one_here", "_law_other"] (defScope s_l_product) := ⟨rfl, rfl, rfl, by decide +kernel, rfl, by decide +kernel, by decide +kernel⟩
abbrev s_l_sum : Stmt := topS 53
abbrev N_l_sum : List Str := ["_law_one_here", "_law_other", "_law_first", "_law_second"]
theorem sc_l_sum : FnScope N_l_sum ["_law_one_here", "_law_other"] (defScope s_l_sum) := ⟨rfl, rfl, rfl, by decide +kernel, rfl, by decide +kernel, by decide +kernel⟩
abbrev s_l_many : Stmt := topS 54
abbrev N_l_many : List Str := ["_law_number_here", "_law_row", "_law_entry_here"]
theorem sc_l_many : FnScope N_l_many ["_law_number_here", "_law_row"] (defScope s_l_many) := ⟨rfl, rfl, rfl, by decide +kernel, rfl, by decide +kernel, by decide +kernel⟩
abbrev s_l_value : Stmt := topS 55
abbrev N_l_value : List Str := ["_law_row", "_law_x", "_law_y", "_law_found", "_law_power", "_law_at", "_law_entry_here"]
theorem sc_l_value : FnScope N_l_value ["_law_row", "_law_x", "_law_y"] (defScope s_l_value) := ⟨rfl, rfl, rfl, by decide +kernel, rfl, by decide +kernel, by decide +kernel⟩
abbrev s_l_put : Stmt := topS 56
abbrev N_l_put : List Str := ["_law_row", "_law_change_here", "_law_p", "_law_q", "_law_r", "_law_s", "_law_found", "_law_size", "_law_at", "_law_entry_here", "_law_part", "_law_turn"]
theorem sc_l_put : FnScope N_l_put ["_law_row", "_law_change_here"] (defScope s_l_put) := ⟨rfl, rfl, rfl, by decide +kernel, rfl, by decide +kernel, by decide +kernel⟩
abbrev s_l_entry : Stmt := topS 57
abbrev N_l_entry : List Str := ["_law_cask_here", "_law_size"]
theorem sc_l_entry : FnScope N_l_entry ["_law_cask_here"] (defScope s_l_entry) := ⟨rfl, rfl, rfl, by decide +kernel, rfl, by decide +kernel, by decide +kernel⟩
abbrev s_l_right : Stmt := topS 58
abbrev N_l_right : List Str := ["_law_cask_here", "_law_row", "_law_change_here", "_law_more", "_law_double", "_law_p", "_law_q", "_law_r", "_law_s", "_law_led", "_law_x", "_law_y", "_law_text", "_law_at", "_law_near", "_law_entry_here"]
theorem sc_l_right : FnScope N_l_right ["_law_cask_here"] (defScope s_l_right) := ⟨rfl, rfl, rfl, by decide +kernel, rfl, by decide +kernel, by decide +kernel⟩
abbrev s_law : Stmt := topS 59
abbrev N_law : List Str := ["_law_script", "_law_spot", "_law_cask_here", "_law_told"]
theorem sc_law : FnScope N_law ["_law_script"] (defScope s_law) := ⟨rfl, rfl, rfl, by decide +kernel, rfl, by decide +kernel, by decide +kernel⟩
structure Txt (K : PySem.W.Frag) (mg : Str → Option Value) (C_Form : Addr) (C_Double : Addr) : Prop where
  g_Form : mg "Form" = some (.ref C_Form)
  cl_Form : Cls K C_Form
  ty_Form : TyI K C_Form
  na_Form_coefficients : NoAttr K C_Form "_coefficients"
  g_Double : mg "Double" = some (.ref C_Double)
  cl_Double : Cls K C_Double
  ty_Double : TyI K C_Double
  na_Double_coefficients : NoAttr K C_Double "_coefficients"
  fo_Double_tuple : PySem.W.kitOne K (.type "tuple") (.ref C_Double) = some false ∧ PySem.W.notFirst K C_Double (.type "tuple") = true
  fo_Double_Form : PySem.W.kitOne K (.ref C_Form) (.ref C_Double) = some false ∧ PySem.W.notFirst K C_Double (.ref C_Form) = true
  d_is_any_integer : ∃ f fd, mg "is_any_integer" = some (.ref f) ∧ Fun K "is_any_integer" "is_any_integer" s_is_any_integer f fd
  d_is_short_integer : ∃ f fd, mg "is_short_integer" = some (.ref f) ∧ Fun K "is_short_integer" "is_short_integer" s_is_short_integer f fd
  d_are_any_integers : ∃ f fd, mg "are_any_integers" = some (.ref f) ∧ Fun K "are_any_integers" "are_any_integers" s_are_any_integers f fd
  d_are_short_integers : ∃ f fd, mg "are_short_integers" = some (.ref f) ∧ Fun K "are_short_integers" "are_short_integers" s_are_short_integers f fd
  d_check_integer : ∃ f fd, mg "check_integer" = some (.ref f) ∧ Fun K "check_integer" "check_integer" s_check_integer f fd
  d_determinant_of : ∃ f fd, mg "determinant_of" = some (.ref f) ∧ Fun K "determinant_of" "determinant_of" s_determinant_of f fd
  d_is_change : ∃ f fd, mg "is_change" = some (.ref f) ∧ Fun K "is_change" "is_change" s_is_change f fd
  d_is_short_change : ∃ f fd, mg "is_short_change" = some (.ref f) ∧ Fun K "is_short_change" "is_short_change" s_is_short_change f fd
  d_check_change : ∃ f fd, mg "check_change" = some (.ref f) ∧ Fun K "check_change" "check_change" s_check_change f fd
  d_both : ∃ f fd, mg "both" = some (.ref f) ∧ Fun K "both" "both" s_both f fd
  d_taken_back : ∃ f fd, mg "taken_back" = some (.ref f) ∧ Fun K "taken_back" "taken_back" s_taken_back f fd
  d_joined : ∃ f fd, mg "joined" = some (.ref f) ∧ Fun K "joined" "joined" s_joined f fd
  d_undone : ∃ f fd, mg "undone" = some (.ref f) ∧ Fun K "undone" "undone" s_undone f fd
  d_shared_divisor : ∃ f fd, mg "shared_divisor" = some (.ref f) ∧ Fun K "shared_divisor" "shared_divisor" s_shared_divisor f fd
  d_double_value : ∃ f fd, mg "double_value" = some (.ref f) ∧ Fun K "double_value" "double_value" s_double_value f fd
  d_double_discriminant : ∃ f fd, mg "double_discriminant" = some (.ref f) ∧ Fun K "double_discriminant" "double_discriminant" s_double_discriminant f fd
  d_double_led : ∃ f fd, mg "double_led" = some (.ref f) ∧ Fun K "double_led" "double_led" s_double_led f fd
  d_double_of : ∃ f fd, mg "double_of" = some (.ref f) ∧ Fun K "double_of" "double_of" s_double_of f fd
  e_Double___init__ : ∃ (p f : Addr) (fd : FuncData), Mk K C_Double f ∧ Fun K "__init__" "Double.__init__" s_Double___init__ f fd
  e_Double_coefficients : ∃ (p f : Addr) (fd : FuncData), PropOf K C_Double "coefficients" p f ∧ Fun K "coefficients" "Double.coefficients" s_Double_coefficients f fd
  e_Double_discriminant : ∃ (p f : Addr) (fd : FuncData), PropOf K C_Double "discriminant" p f ∧ Fun K "discriminant" "Double.discriminant" s_Double_discriminant f fd
  e_Double_content : ∃ (p f : Addr) (fd : FuncData), PropOf K C_Double "content" p f ∧ Fun K "content" "Double.content" s_Double_content f fd
  e_Double___call__ : ∃ (p f : Addr) (fd : FuncData), StX.CallO K C_Double f ∧ Fun K "__call__" "Double.__call__" s_Double___call__ f fd
  e_Double_led : ∃ (p f : Addr) (fd : FuncData), Meth K C_Double "led" f ∧ Fun K "led" "Double.led" s_Double_led f fd
  e_Double___neg__ : ∃ (p f : Addr) (fd : FuncData), Meth K C_Double "__neg__" f ∧ Fun K "__neg__" "Double.__neg__" s_Double___neg__ f fd
  e_Double___eq__ : ∃ (p f : Addr) (fd : FuncData), EqC K C_Double f ∧ Fun K "__eq__" "Double.__eq__" s_Double___eq__ f fd
  e_Double___str__ : ∃ (p f : Addr) (fd : FuncData), Meth K C_Double "__str__" f ∧ Fun K "__str__" "Double.__str__" s_Double___str__ f fd
  d_form_value : ∃ f fd, mg "form_value" = some (.ref f) ∧ Fun K "form_value" "form_value" s_form_value f fd
  d_form_discriminant : ∃ f fd, mg "form_discriminant" = some (.ref f) ∧ Fun K "form_discriminant" "form_discriminant" s_form_discriminant f fd
  d_form_led : ∃ f fd, mg "form_led" = some (.ref f) ∧ Fun K "form_led" "form_led" s_form_led f fd
  d_form_of : ∃ f fd, mg "form_of" = some (.ref f) ∧ Fun K "form_of" "form_of" s_form_of f fd
  e_Form___init__ : ∃ (p f : Addr) (fd : FuncData), Mk K C_Form f ∧ Fun K "__init__" "Form.__init__" s_Form___init__ f fd
  e_Form_coefficients : ∃ (p f : Addr) (fd : FuncData), PropOf K C_Form "coefficients" p f ∧ Fun K "coefficients" "Form.coefficients" s_Form_coefficients f fd
  e_Form_discriminant : ∃ (p f : Addr) (fd : FuncData), PropOf K C_Form "discriminant" p f ∧ Fun K "discriminant" "Form.discriminant" s_Form_discriminant f fd
  e_Form_content : ∃ (p f : Addr) (fd : FuncData), PropOf K C_Form "content" p f ∧ Fun K "content" "Form.content" s_Form_content f fd
  e_Form___call__ : ∃ (p f : Addr) (fd : FuncData), StX.CallO K C_Form f ∧ Fun K "__call__" "Form.__call__" s_Form___call__ f fd
  e_Form_led : ∃ (p f : Addr) (fd : FuncData), Meth K C_Form "led" f ∧ Fun K "led" "Form.led" s_Form_led f fd
  e_Form___neg__ : ∃ (p f : Addr) (fd : FuncData), Meth K C_Form "__neg__" f ∧ Fun K "__neg__" "Form.__neg__" s_Form___neg__ f fd
  e_Form___eq__ : ∃ (p f : Addr) (fd : FuncData), EqC K C_Form f ∧ Fun K "__eq__" "Form.__eq__" s_Form___eq__ f fd
  d_l_cask : ∃ f fd, mg "_law_cask" = some (.ref f) ∧ Fun K "_law_cask" "_law_cask" s_l_cask f fd
  d_l_tap : ∃ f fd, mg "_law_tap" = some (.ref f) ∧ Fun K "_law_tap" "_law_tap" s_l_tap f fd
  d_l_one : ∃ f fd, mg "_law_one" = some (.ref f) ∧ Fun K "_law_one" "_law_one" s_l_one f fd
  d_l_number : ∃ f fd, mg "_law_number" = some (.ref f) ∧ Fun K "_law_number" "_law_number" s_l_number f fd
  d_l_numbers : ∃ f fd, mg "_law_numbers" = some (.ref f) ∧ Fun K "_law_numbers" "_law_numbers" s_l_numbers f fd
  d_l_then : ∃ f fd, mg "_law_then" = some (.ref f) ∧ Fun K "_law_then" "_law_then" s_l_then f fd
  d_l_change : ∃ f fd, mg "_law_change" = some (.ref f) ∧ Fun K "_law_change" "_law_change" s_l_change f fd
  d_l_common : ∃ f fd, mg "_law_common" = some (.ref f) ∧ Fun K "_law_common" "_law_common" s_l_common f fd
  d_l_product : ∃ f fd, mg "_law_product" = some (.ref f) ∧ Fun K "_law_product" "_law_product" s_l_product f fd
  d_l_sum : ∃ f fd, mg "_law_sum" = some (.ref f) ∧ Fun K "_law_sum" "_law_sum" s_l_sum f fd
  d_l_many : ∃ f fd, mg "_law_many" = some (.ref f) ∧ Fun K "_law_many" "_law_many" s_l_many f fd
  d_l_value : ∃ f fd, mg "_law_value" = some (.ref f) ∧ Fun K "_law_value" "_law_value" s_l_value f fd
  d_l_put : ∃ f fd, mg "_law_put" = some (.ref f) ∧ Fun K "_law_put" "_law_put" s_l_put f fd
  d_l_entry : ∃ f fd, mg "_law_entry" = some (.ref f) ∧ Fun K "_law_entry" "_law_entry" s_l_entry f fd
  d_l_right : ∃ f fd, mg "_law_right" = some (.ref f) ∧ Fun K "_law_right" "_law_right" s_l_right f fd
  d_law : ∃ f fd, mg "law" = some (.ref f) ∧ Fun K "law" "law" s_law f fd
  b_abs : mg "abs" = none
  b_all : mg "all" = none
  b_bool : mg "bool" = none
  b_enumerate : mg "enumerate" = none
  b_int : mg "int" = none
  b_isinstance : mg "isinstance" = none
  b_len : mg "len" = none
  b_list : mg "list" = none
  b_max : mg "max" = none
  b_min : mg "min" = none
  b_range : mg "range" = none
  b_str : mg "str" = none
  b_sum : mg "sum" = none
  b_tuple : mg "tuple" = none
  b_zip : mg "zip" = none
  x_LIMIT : ∃ t, mg "LIMIT" = some (.int (1000000000000000000000000000000000000000000000000000000000000) t)
  m_gcd : mg "gcd" = some (.builtin "math.gcd")
def Short (i : Int) : Prop := -1000000000000000000000000000000000000000000000000000000000000 < i ∧ i < 1000000000000000000000000000000000000000000000000000000000000
theorem Short.b {i : Int} (h : Short i) : B 200 i := ⟨by have := h.1; have := h.2; omega, by decide⟩
def Ti (H : Hp) (a : Addr) (ns : List Int) : Prop := H a = some (.tup (ns.map V.int))
def T4 (H : Hp) (a : Addr) (p q r s : Int) : Prop := ∃ t1 t2, H a = some (.tup [.ref t1, .ref t2]) ∧ H t1 = some (.tup [.int p, .int q]) ∧ H t2 = some (.tup [.int r, .int s])
def FormAt (C : Addr) (H : Hp) (x : Addr) (ns : List Int) : Prop := ∃ dx t, H x = some (.ins C dx [(("_coefficients" : Str), .ref t)]) ∧ Ti H t ns
def ChOk (p q r s : Int) : Prop := Short p ∧ Short q ∧ Short r ∧ Short s ∧ (p * s - q * r = 1 ∨ p * s - q * r = -1)
theorem Ti.ex {H H' : Hp} {a : Addr} {ns : List Int} (h : Ti H a ns) (e : ∀ b xs, H b = some (.tup xs) → H' b = some (.tup xs)) : Ti H' a ns := e _ _ h
theorem T4.ex {H H' : Hp} {a : Addr} {p q r s : Int} (h : T4 H a p q r s) (e : ∀ b xs, H b = some (.tup xs) → H' b = some (.tup xs)) : T4 H' a p q r s := by
  obtain ⟨t1, t2, h0, h1, h2⟩ := h
  exact ⟨t1, t2, e _ _ h0, e _ _ h1, e _ _ h2⟩
theorem get_int {ns : List Int} {i : Nat} {x : V} (hx : (ns.map V.int)[i]? = some x) : ∃ n, ns[i]? = some n ∧ x = V.int n := by
  rw [List.getElem?_map] at hx
  cases e : ns[i]? with
  | none => rw [e] at hx; cases hx
  | some z => rw [e] at hx; exact ⟨z, rfl, (Option.some.inj hx).symm⟩
def gcdL (ns : List Int) : Nat := ns.foldl (fun g n => Nat.gcd g n.natAbs) 0
theorem gcdL_take {ns : List Int} {i : Nat} {n : Int} (h : ns[i]? = some n) : gcdL (ns.take (i + 1)) = Nat.gcd (gcdL (ns.take i)) n.natAbs := by
  unfold gcdL
  rw [List.take_add_one, h, List.foldl_append]
  rfl
def fled (a b c d p q r s : Int) : List Int := [(p * s - q * r) * fv a b c d p q, (p * s - q * r) * fl2 a b c d p q r s, (p * s - q * r) * fl3 a b c d p q r s, (p * s - q * r) * fv a b c d r s]
theorem un4 {K : PySem.W.Frag} {i j k l : Nat} {σ : L2.St} {H : Hp} {a : Addr} {p q r s : Int} {Q : L2.St → Hp → Prop} (h : T4 H a p q r s)
    (z : Q ((((σ.set i (some (.int p))).set j (some (.int q))).set k (some (.int r))).set l (some (.int s))) H) :
    gTup K 2 (gCons (gTup K 2 (gCons (gName i) (gCons (gName j) gNil))) (gCons (gTup K 2 (gCons (gName k) (gCons (gName l) gNil))) gNil)) (.ref a) σ H Q := by
  obtain ⟨t1, t2, h0, h1, h2⟩ := h
  refine ⟨a, _, rfl, SqT.of h0, rfl, _, _, rfl, ?_⟩
  refine ⟨t1, _, rfl, SqT.of h1, rfl, _, _, rfl, ?_⟩
  refine ⟨_, _, rfl, ⟨rfl, ?_⟩⟩
  refine ⟨_, _, rfl, ?_⟩
  refine ⟨t2, _, rfl, SqT.of h2, rfl, _, _, rfl, ?_⟩
  exact ⟨_, _, rfl, ⟨rfl, ⟨rfl, z⟩⟩⟩
theorem unI4 {K : PySem.W.Frag} {i j k l : Nat} {σ : L2.St} {H : Hp} {t : Addr} {a b c d : Int} {Q : L2.St → Hp → Prop} (h : Ti H t [a, b, c, d])
    (z : Q ((((σ.set i (some (.int a))).set j (some (.int b))).set k (some (.int c))).set l (some (.int d))) H) :
    gTup K 4 (gCons (gName i) (gCons (gName j) (gCons (gName k) (gCons (gName l) gNil)))) (.ref t) σ H Q :=
  ⟨t, _, rfl, SqT.of h, rfl, _, _, rfl, _, _, rfl, _, _, rfl, _, _, rfl, rfl, z⟩
theorem unI3 {K : PySem.W.Frag} {i j k : Nat} {σ : L2.St} {H : Hp} {t : Addr} {a b c : Int} {Q : L2.St → Hp → Prop} (h : Ti H t [a, b, c])
    (z : Q (((σ.set i (some (.int a))).set j (some (.int b))).set k (some (.int c))) H) :
    gTup K 3 (gCons (gName i) (gCons (gName j) (gCons (gName k) gNil))) (.ref t) σ H Q :=
  ⟨t, _, rfl, SqT.of h, rfl, _, _, rfl, _, _, rfl, _, _, rfl, rfl, z⟩
theorem t4_new {H : Hp} {t1 t2 x : Addr} {p q r s : Int} (n1 : H t1 = none) (n2 : upd H t1 (.tup [.int p, .int q]) t2 = none) (n3 : upd (upd H t1 (.tup [.int p, .int q])) t2 (.tup [.int r, .int s]) x = none) :
    Ex0 H (upd (upd (upd H t1 (.tup [.int p, .int q])) t2 (.tup [.int r, .int s])) x (.tup [.ref t1, .ref t2])) ∧ T4 (upd (upd (upd H t1 (.tup [.int p, .int q])) t2 (.tup [.int r, .int s])) x (.tup [.ref t1, .ref t2])) x p q r s :=
  ⟨((Ex0.new n1).trans (Ex0.new n2)).trans (Ex0.new n3), t1, t2, upd_same, Ex0.ap (Ex0.new n3) (Ex0.ap (Ex0.new n2) upd_same), Ex0.ap (Ex0.new n3) upd_same⟩
theorem Ex0.t4 {H H' : Hp} {a : Addr} {p q r s : Int} (e : Ex0 H H') (h : T4 H a p q r s) : T4 H' a p q r s := h.ex fun _ _ z => Ex0.ap e z
theorem Ex0.ti {H H' : Hp} {a : Addr} {ns : List Int} (e : Ex0 H H') (h : Ti H a ns) : Ti H' a ns := Ex0.ap e h
theorem Ex0.fo {C : Addr} {H H' : Hp} {x : Addr} {ns : List Int} (e : Ex0 H H') (h : FormAt C H x ns) : FormAt C H' x ns := by
  obtain ⟨dx, t, h1, h2⟩ := h
  exact ⟨dx, t, Ex0.ap e h1, Ex0.ap e h2⟩
section
def sp_is_any_integer (_ : PySem.W.Frag) (C C_D : Addr) : Sp := fun vs H Q _ => ∃ i : Int, vs = [.int i] ∧ Q (.bl true) H
def sp_is_short_integer (_ : PySem.W.Frag) (C C_D : Addr) : Sp := fun vs H Q _ => ∃ i : Int, vs = [.int i] ∧ Short i ∧ Q (.bl true) H
def sp_are_any_integers (_ : PySem.W.Frag) (C C_D : Addr) : Sp := fun vs H Q _ => ∃ (a : Addr) (ns : List Int), vs = [.ref a, .int (ns.length : Int)] ∧ Ti H a ns ∧ ns.length ≤ 1000 ∧ ∀ H', Ex0 H H' → Q (.bl true) H'
def sp_are_short_integers (_ : PySem.W.Frag) (C C_D : Addr) : Sp := fun vs H Q _ => ∃ (a : Addr) (ns : List Int), vs = [.ref a, .int (ns.length : Int)] ∧ Ti H a ns ∧ ns.length ≤ 1000 ∧ (∀ n ∈ ns, Short n) ∧ ∀ H', Ex0 H H' → Q (.bl true) H'
def sp_check_integer (_ : PySem.W.Frag) (C C_D : Addr) : Sp := fun vs H Q _ => ∃ i : Int, vs = [.int i] ∧ Short i ∧ Q .non H
def sp_determinant_of (_ : PySem.W.Frag) (C C_D : Addr) : Sp := fun vs H Q _ => ∃ (a : Addr) (p q r s : Int), vs = [.ref a] ∧ T4 H a p q r s ∧ B 200 p ∧ B 200 q ∧ B 200 r ∧ B 200 s ∧ Q (.int (p * s - q * r)) H
def sp_is_change (_ : PySem.W.Frag) (C C_D : Addr) : Sp := fun vs H Q _ => ∃ (a : Addr) (p q r s : Int), vs = [.ref a] ∧ T4 H a p q r s ∧ ChOk p q r s ∧ ∀ H', Ex0 H H' → Q (.bl true) H'
def sp_is_short_change (_ : PySem.W.Frag) (C C_D : Addr) : Sp := fun vs H Q _ => ∃ (a : Addr) (p q r s : Int), vs = [.ref a] ∧ T4 H a p q r s ∧ ChOk p q r s ∧ ∀ H', Ex0 H H' → Q (.bl true) H'
def sp_check_change (_ : PySem.W.Frag) (C C_D : Addr) : Sp := fun vs H Q _ => ∃ (a : Addr) (p q r s : Int), vs = [.ref a] ∧ T4 H a p q r s ∧ ChOk p q r s ∧ ∀ H', Ex0 H H' → Q .non H'
def sp_double_value (_ : PySem.W.Frag) (C C_D : Addr) : Sp := fun vs H Q _ => ∃ (t : Addr) (a b c x y : Int), vs = [.ref t, .int x, .int y] ∧ Ti H t [a, b, c] ∧ B 1000 a ∧ B 1000 b ∧ B 1000 c ∧ B 200 x ∧ B 200 y ∧ Q (.int (dv a b c x y)) H
def sp_double_discriminant (_ : PySem.W.Frag) (C C_D : Addr) : Sp := fun vs H Q _ => ∃ (t : Addr) (a b c : Int), vs = [.ref t] ∧ Ti H t [a, b, c] ∧ B 1000 a ∧ B 1000 b ∧ B 1000 c ∧ Q (.int (ddisc a b c)) H
def sp_double_led (_ : PySem.W.Frag) (C C_D : Addr) : Sp := fun vs H Q _ => ∃ (t u : Addr) (a b c p q r s : Int), vs = [.ref t, .ref u] ∧ Ti H t [a, b, c] ∧ T4 H u p q r s ∧ B 1000 a ∧ B 1000 b ∧ B 1000 c ∧ B 200 p ∧ B 200 q ∧ B 200 r ∧ B 200 s ∧ ∀ x H', Ex0 H H' → Ti H' x [dv a b c p q, dl a b c p q r s, dv a b c r s] → Q (.ref x) H'
def sp_double_of (_ : PySem.W.Frag) (C C_D : Addr) : Sp := fun vs H Q _ => ∃ (t : Addr) (ns : List Int), vs = [.ref t] ∧ Ti H t ns ∧ ∀ x H', Ex0 H H' → FormAt C_D H' x ns → Q (.ref x) H'
def sp_form_hessian (_ : PySem.W.Frag) (C C_D : Addr) : Sp := fun vs H Q _ => ∃ (t : Addr) (a b c d : Int), vs = [.ref t] ∧ Ti H t [a, b, c, d] ∧ B 1000 a ∧ B 1000 b ∧ B 1000 c ∧ B 1000 d ∧ ∀ x H', Ex0 H H' → Ti H' x [h0 a b c d, h1 a b c d, h2 a b c d] → Q (.ref x) H'
def sp_form_covariant (_ : PySem.W.Frag) (C C_D : Addr) : Sp := fun vs H Q _ => ∃ (t : Addr) (a b c d : Int), vs = [.ref t] ∧ Ti H t [a, b, c, d] ∧ B 1000 a ∧ B 1000 b ∧ B 1000 c ∧ B 1000 d ∧ ∀ x H', Ex0 H H' → Ti H' x [g0 a b c d, g1 a b c d, g2 a b c d, g3 a b c d] → Q (.ref x) H'
def sp_Double___init__ (_ : PySem.W.Frag) (C C_D : Addr) : Sp := fun vs H Q _ => ∃ (x dx t : Addr) (ns : List Int), vs = [.ref x, .ref t] ∧ H x = some (.ins C_D dx []) ∧ Ti H t ns ∧ ns.length = 3 ∧ (∀ n ∈ ns, Short n) ∧ ∀ H', (∀ b o, b ≠ x → H b = some o → H' b = some o) → H' x = some (.ins C_D dx [(("_coefficients" : Str), .ref t)]) → Q .non H'
def sp_Double_coefficients (_ : PySem.W.Frag) (C C_D : Addr) : Sp := fun vs H Q _ => ∃ (x : Addr) (ns : List Int), vs = [.ref x] ∧ FormAt C_D H x ns ∧ ∀ t, Ti H t ns → Q (.ref t) H
def sp_Double_discriminant (_ : PySem.W.Frag) (C C_D : Addr) : Sp := fun vs H Q _ => ∃ (x : Addr) (a b c : Int), vs = [.ref x] ∧ FormAt C_D H x [a, b, c] ∧ B 1000 a ∧ B 1000 b ∧ B 1000 c ∧ Q (.int (ddisc a b c)) H
def sp_Double___call__ (_ : PySem.W.Frag) (C C_D : Addr) : Sp := fun vs H Q _ => ∃ (z : Addr) (a b c x y : Int), vs = [.ref z, .int x, .int y] ∧ FormAt C_D H z [a, b, c] ∧ B 1000 a ∧ B 1000 b ∧ B 1000 c ∧ Short x ∧ Short y ∧ Q (.int (dv a b c x y)) H
def sp_Double_led (_ : PySem.W.Frag) (C C_D : Addr) : Sp := fun vs H Q _ => ∃ (z u : Addr) (a b c p q r s : Int), vs = [.ref z, .ref u] ∧ FormAt C_D H z [a, b, c] ∧ T4 H u p q r s ∧ B 1000 a ∧ B 1000 b ∧ B 1000 c ∧ ChOk p q r s ∧ ∀ x H', Ex0 H H' → FormAt C_D H' x [dv a b c p q, dl a b c p q r s, dv a b c r s] → Q (.ref x) H'
def sp_Form___eq__ (_ : PySem.W.Frag) (C C_D : Addr) : Sp := fun vs H Q _ => ∃ (x y : Addr) (ns ms : List Int), vs = [.ref x, .ref y] ∧ FormAt C H x ns ∧ FormAt C H y ms ∧ Q (.bl (decide (ns = ms))) H
def sp_check_form (_ : PySem.W.Frag) (C C_D : Addr) : Sp := fun vs H Q _ => ∃ (x : Addr) (ns : List Int), vs = [.ref x] ∧ FormAt C H x ns ∧ Q .non H
def sp_Form_hessian (_ : PySem.W.Frag) (C C_D : Addr) : Sp := fun vs H Q _ => ∃ (z : Addr) (a b c d : Int), vs = [.ref z] ∧ FormAt C H z [a, b, c, d] ∧ B 1000 a ∧ B 1000 b ∧ B 1000 c ∧ B 1000 d ∧ ∀ x H', Ex0 H H' → FormAt C_D H' x [h0 a b c d, h1 a b c d, h2 a b c d] → Q (.ref x) H'
def sp_Form_covariant (_ : PySem.W.Frag) (C C_D : Addr) : Sp := fun vs H Q _ => ∃ (z : Addr) (a b c d : Int), vs = [.ref z] ∧ FormAt C H z [a, b, c, d] ∧ B 1000 a ∧ B 1000 b ∧ B 1000 c ∧ B 1000 d ∧ ∀ x H', Ex0 H H' → FormAt C H' x [g0 a b c d, g1 a b c d, g2 a b c d, g3 a b c d] → Q (.ref x) H'
def sp_form_value (_ : PySem.W.Frag) (C C_D : Addr) : Sp := fun vs H Q _ => ∃ (t : Addr) (a b c d x y : Int), vs = [.ref t, .int x, .int y] ∧ Ti H t [a, b, c, d] ∧ B 1000 a ∧ B 1000 b ∧ B 1000 c ∧ B 1000 d ∧ B 200 x ∧ B 200 y ∧ Q (.int (fv a b c d x y)) H
def sp_form_discriminant (_ : PySem.W.Frag) (C C_D : Addr) : Sp := fun vs H Q _ => ∃ (t : Addr) (a b c d : Int), vs = [.ref t] ∧ Ti H t [a, b, c, d] ∧ B 1000 a ∧ B 1000 b ∧ B 1000 c ∧ B 1000 d ∧ Q (.int (fdisc a b c d)) H
def sp_form_led (_ : PySem.W.Frag) (C C_D : Addr) : Sp := fun vs H Q _ => ∃ (t u : Addr) (a b c d p q r s : Int), vs = [.ref t, .ref u] ∧ Ti H t [a, b, c, d] ∧ T4 H u p q r s ∧ B 1000 a ∧ B 1000 b ∧ B 1000 c ∧ B 1000 d ∧ B 200 p ∧ B 200 q ∧ B 200 r ∧ B 200 s ∧ ∀ x H', Ex0 H H' → Ti H' x (fled a b c d p q r s) → Q (.ref x) H'
def sp_form_of (_ : PySem.W.Frag) (C C_D : Addr) : Sp := fun vs H Q _ => ∃ (t : Addr) (ns : List Int), vs = [.ref t] ∧ Ti H t ns ∧ ∀ x H', Ex0 H H' → FormAt C H' x ns → Q (.ref x) H'
def sp_Form___init__ (_ : PySem.W.Frag) (C C_D : Addr) : Sp := fun vs H Q _ => ∃ (x dx t : Addr) (ns : List Int), vs = [.ref x, .ref t] ∧ H x = some (.ins C dx []) ∧ Ti H t ns ∧ ns.length = 4 ∧ (∀ n ∈ ns, Short n) ∧ ∀ H', (∀ b o, b ≠ x → H b = some o → H' b = some o) → H' x = some (.ins C dx [(("_coefficients" : Str), .ref t)]) → Q .non H'
def sp_Form_coefficients (_ : PySem.W.Frag) (C C_D : Addr) : Sp := fun vs H Q _ => ∃ (x : Addr) (ns : List Int), vs = [.ref x] ∧ FormAt C H x ns ∧ ∀ t, Ti H t ns → Q (.ref t) H
def sp_Form_discriminant (_ : PySem.W.Frag) (C C_D : Addr) : Sp := fun vs H Q _ => ∃ (x : Addr) (a b c d : Int), vs = [.ref x] ∧ FormAt C H x [a, b, c, d] ∧ B 1000 a ∧ B 1000 b ∧ B 1000 c ∧ B 1000 d ∧ Q (.int (fdisc a b c d)) H
def sp_Form___call__ (_ : PySem.W.Frag) (C C_D : Addr) : Sp := fun vs H Q _ => ∃ (z : Addr) (a b c d x y : Int), vs = [.ref z, .int x, .int y] ∧ FormAt C H z [a, b, c, d] ∧ B 1000 a ∧ B 1000 b ∧ B 1000 c ∧ B 1000 d ∧ Short x ∧ Short y ∧ Q (.int (fv a b c d x y)) H
def sp_Form_led (_ : PySem.W.Frag) (C C_D : Addr) : Sp := fun vs H Q _ => ∃ (z u : Addr) (a b c d p q r s : Int), vs = [.ref z, .ref u] ∧ FormAt C H z [a, b, c, d] ∧ T4 H u p q r s ∧ B 1000 a ∧ B 1000 b ∧ B 1000 c ∧ B 1000 d ∧ ChOk p q r s ∧ ∀ x H', Ex0 H H' → FormAt C H' x (fled a b c d p q r s) → Q (.ref x) H'
end
section
variable {P : Program} {w : World} {K : PySem.W.Frag} {mg : Str → Option Value} {base : Heap} {C_Form C_Double : Addr}
theorem ok_is_any_integer (T : Txt K mg C_Form C_Double) : Def P w K mg base 1 "is_any_integer" ["value"] (sp_is_any_integer K C_Form C_Double) := by
  obtain ⟨f_, fd_, g_, F_⟩ := T.d_is_any_integer
  refine ⟨f_, fd_, g_, F_.kp, F_.binds (ps := ["value"]) (fun _ _ _ _ _ _ us hl => match us, hl with | [_], _ => rfl), ?_⟩
  refine F_.ok sc_is_any_integer (fun vs H Q E h => ?_) (fun cdv A outer s H vs Q E hr h => ?_)
  · first | (obtain ⟨rfl, _⟩ := h; rfl) | (obtain ⟨_, rfl, _⟩ := h; rfl) | (obtain ⟨_, _, rfl, _⟩ := h; rfl) | (obtain ⟨_, _, _, rfl, _⟩ := h; rfl) | (obtain ⟨_, _, _, _, rfl, _⟩ := h; rfl) | (obtain ⟨_, _, _, _, _, rfl, _⟩ := h; rfl) | (obtain ⟨_, _, _, _, _, _, rfl, _⟩ := h; rfl) | (obtain ⟨_, _, _, _, _, _, _, rfl, _⟩ := h; rfl) | (obtain ⟨_, _, _, _, _, _, _, _, rfl, _⟩ := h; rfl) | (obtain ⟨_, _, _, _, _, _, _, _, _, rfl, _⟩ := h; rfl) | (obtain ⟨_, _, _, _, _, _, _, _, _, _, rfl, _⟩ := h; rfl) | (obtain ⟨_, _, _, _, _, _, _, _, _, _, _, rfl, _⟩ := h; rfl) | (obtain ⟨_, _, _, _, _, _, _, _, _, _, _, _, rfl, _⟩ := h; rfl) | (obtain ⟨_, _, _, _, _, _, _, _, _, _, _, _, _, rfl, _⟩ := h; rfl) | (obtain ⟨_, _, _, _, _, _, _, _, _, _, _, _, _, _, rfl, _⟩ := h; rfl) | (obtain ⟨_, _, _, _, _, _, _, _, _, _, _, _, _, _, _, rfl, _⟩ := h; rfl) | (obtain ⟨_, _, _, _, _, _, _, _, _, _, _, _, _, _, _, _, rfl, _⟩ := h; rfl) | (obtain ⟨_, _, _, _, _, _, _, _, _, _, _, _, _, _, _, _, _, rfl, _⟩ := h; rfl) | (obtain ⟨_, _, _, _, _, _, _, _, _, _, _, _, _, _, _, _, _, _, rfl, _⟩ := h; rfl) | (obtain ⟨_, _, _, _, _, _, _, _, _, _, _, _, _, _, _, _, _, _, _, rfl, _⟩ := h; rfl) | (obtain ⟨_, _, _, _, _, _, _, _, _, _, _, _, _, _, _, _, _, _, _, _, rfl, _⟩ := h; rfl) | (obtain ⟨_, _, _, _, _, _, _, _, _, _, _, _, _, _, _, _, _, _, _, _, _, rfl, _⟩ := h; rfl) | (obtain ⟨_, _, _, _, _, _, _, _, _, _, _, _, _, _, _, _, _, _, _, _, _, _, rfl, _⟩ := h; rfl) | (obtain ⟨_, _, _, _, _, _, _, _, _, _, _, _, _, _, _, _, _, _, _, _, _, _, _, rfl, _⟩ := h; rfl)
  · obtain ⟨i, rfl, q⟩ := h
    refine ⟨_, (pss_one (ps_ret (pe_and (pe_callB call_isi (by rfl) T.b_isinstance (by decide +kernel) (pa_cons (pv 0) (pa_cons (pe_bltn (v := .ty "int") (by rfl) T.b_int (by decide +kernel) rfl) pa_nil))) (pe_one (pe_not (pe_callB call_isi (by rfl) T.b_isinstance (by decide +kernel) (pa_cons (pv 0) (pa_cons (pe_bltn (v := .ty "bool") (by rfl) T.b_bool (by decide +kernel) rfl) pa_nil)))))))), ?_⟩
    refine ⟨_, rfl, _, _, _, _, true, rfl, .ty _, .base (.int i), kit_ty (by decide +kernel), _, rfl, iteT ?_⟩
    exact ⟨_, rfl, _, _, _, _, false, rfl, .ty _, .base (.int i), kit_ty (by decide +kernel), _, rfl, q⟩
theorem ok_is_short_integer (T : Txt K mg C_Form C_Double) : Def P w K mg base 2 "is_short_integer" ["value"] (sp_is_short_integer K C_Form C_Double) := by
  obtain ⟨f_, fd_, g_, F_⟩ := T.d_is_short_integer
  obtain ⟨f_is_any_integer, fd_is_any_integer, g_is_any_integer, k_is_any_integer, b_is_any_integer, G_is_any_integer⟩ := (ok_is_any_integer (P := P) (w := w) (base := base) T)
  refine ⟨f_, fd_, g_, F_.kp, F_.binds (ps := ["value"]) (fun _ _ _ _ _ _ us hl => match us, hl with | [_], _ => rfl), ?_⟩
  refine F_.ok sc_is_short_integer (fun vs H Q E h => ?_) (fun cdv A outer s H vs Q E hr h => ?_)
  · first | (obtain ⟨rfl, _⟩ := h; rfl) | (obtain ⟨_, rfl, _⟩ := h; rfl) | (obtain ⟨_, _, rfl, _⟩ := h; rfl) | (obtain ⟨_, _, _, rfl, _⟩ := h; rfl) | (obtain ⟨_, _, _, _, rfl, _⟩ := h; rfl) | (obtain ⟨_, _, _, _, _, rfl, _⟩ := h; rfl) | (obtain ⟨_, _, _, _, _, _, rfl, _⟩ := h; rfl) | (obtain ⟨_, _, _, _, _, _, _, rfl, _⟩ := h; rfl) | (obtain ⟨_, _, _, _, _, _, _, _, rfl, _⟩ := h; rfl) | (obtain ⟨_, _, _, _, _, _, _, _, _, rfl, _⟩ := h; rfl) | (obtain ⟨_, _, _, _, _, _, _, _, _, _, rfl, _⟩ := h; rfl) | (obtain ⟨_, _, _, _, _, _, _, _, _, _, _, rfl, _⟩ := h; rfl) | (obtain ⟨_, _, _, _, _, _, _, _, _, _, _, _, rfl, _⟩ := h; rfl) | (obtain ⟨_, _, _, _, _, _, _, _, _, _, _, _, _, rfl, _⟩ := h; rfl) | (obtain ⟨_, _, _, _, _, _, _, _, _, _, _, _, _, _, rfl, _⟩ := h; rfl) | (obtain ⟨_, _, _, _, _, _, _, _, _, _, _, _, _, _, _, rfl, _⟩ := h; rfl) | (obtain ⟨_, _, _, _, _, _, _, _, _, _, _, _, _, _, _, _, rfl, _⟩ := h; rfl) | (obtain ⟨_, _, _, _, _, _, _, _, _, _, _, _, _, _, _, _, _, rfl, _⟩ := h; rfl) | (obtain ⟨_, _, _, _, _, _, _, _, _, _, _, _, _, _, _, _, _, _, rfl, _⟩ := h; rfl) | (obtain ⟨_, _, _, _, _, _, _, _, _, _, _, _, _, _, _, _, _, _, _, rfl, _⟩ := h; rfl) | (obtain ⟨_, _, _, _, _, _, _, _, _, _, _, _, _, _, _, _, _, _, _, _, rfl, _⟩ := h; rfl) | (obtain ⟨_, _, _, _, _, _, _, _, _, _, _, _, _, _, _, _, _, _, _, _, _, rfl, _⟩ := h; rfl) | (obtain ⟨_, _, _, _, _, _, _, _, _, _, _, _, _, _, _, _, _, _, _, _, _, _, rfl, _⟩ := h; rfl) | (obtain ⟨_, _, _, _, _, _, _, _, _, _, _, _, _, _, _, _, _, _, _, _, _, _, _, rfl, _⟩ := h; rfl)
  · obtain ⟨i, rfl, hs, q⟩ := h
    obtain ⟨t_LIMIT, h_LIMIT⟩ := T.x_LIMIT
    refine ⟨_, (pss_one (ps_ret (pe_and (pe_call G_is_any_integer (hr.mono (by decide)) (by rfl) g_is_any_integer k_is_any_integer b_is_any_integer .nil pass0 (pa_cons (pv 0) pa_nil)) (pe_one (pe_chain op_lt op_lt (pe_un un_neg (pe_glob (v := .int 1000000000000000000000000000000000000000000000000000000000000) (by rfl) h_LIMIT ⟨_, rfl⟩)) (pv 0) (pe_glob (v := .int 1000000000000000000000000000000000000000000000000000000000000) (by rfl) h_LIMIT ⟨_, rfl⟩)))))), ?_⟩
    refine ⟨_, rfl, i, rfl, _, rfl, iteT ?_⟩
    refine ⟨_, rfl, _, rfl, _, _, rfl, rfl, _, rfl, dT hs.1 ⟨_, _, rfl, rfl, ?_⟩⟩
    show Q (.bl (decide (i < 1000000000000000000000000000000000000000000000000000000000000))) H
    rw [decide_eq_true hs.2]
    exact q
theorem ok_check_integer (T : Txt K mg C_Form C_Double) : Def P w K mg base 3 "check_integer" ["value"] (sp_check_integer K C_Form C_Double) := by
  obtain ⟨f_, fd_, g_, F_⟩ := T.d_check_integer
  obtain ⟨f_is_short_integer, fd_is_short_integer, g_is_short_integer, k_is_short_integer, b_is_short_integer, G_is_short_integer⟩ := (ok_is_short_integer (P := P) (w := w) (base := base) T)
  refine ⟨f_, fd_, g_, F_.kp, F_.binds (ps := ["value"]) (fun _ _ _ _ _ _ us hl => match us, hl with | [_], _ => rfl), ?_⟩
  refine F_.ok sc_check_integer (fun vs H Q E h => ?_) (fun cdv A outer s H vs Q E hr h => ?_)
  · first | (obtain ⟨rfl, _⟩ := h; rfl) | (obtain ⟨_, rfl, _⟩ := h; rfl) | (obtain ⟨_, _, rfl, _⟩ := h; rfl) | (obtain ⟨_, _, _, rfl, _⟩ := h; rfl) | (obtain ⟨_, _, _, _, rfl, _⟩ := h; rfl) | (obtain ⟨_, _, _, _, _, rfl, _⟩ := h; rfl) | (obtain ⟨_, _, _, _, _, _, rfl, _⟩ := h; rfl) | (obtain ⟨_, _, _, _, _, _, _, rfl, _⟩ := h; rfl) | (obtain ⟨_, _, _, _, _, _, _, _, rfl, _⟩ := h; rfl) | (obtain ⟨_, _, _, _, _, _, _, _, _, rfl, _⟩ := h; rfl) | (obtain ⟨_, _, _, _, _, _, _, _, _, _, rfl, _⟩ := h; rfl) | (obtain ⟨_, _, _, _, _, _, _, _, _, _, _, rfl, _⟩ := h; rfl) | (obtain ⟨_, _, _, _, _, _, _, _, _, _, _, _, rfl, _⟩ := h; rfl) | (obtain ⟨_, _, _, _, _, _, _, _, _, _, _, _, _, rfl, _⟩ := h; rfl) | (obtain ⟨_, _, _, _, _, _, _, _, _, _, _, _, _, _, rfl, _⟩ := h; rfl) | (obtain ⟨_, _, _, _, _, _, _, _, _, _, _, _, _, _, _, rfl, _⟩ := h; rfl) | (obtain ⟨_, _, _, _, _, _, _, _, _, _, _, _, _, _, _, _, rfl, _⟩ := h; rfl) | (obtain ⟨_, _, _, _, _, _, _, _, _, _, _, _, _, _, _, _, _, rfl, _⟩ := h; rfl) | (obtain ⟨_, _, _, _, _, _, _, _, _, _, _, _, _, _, _, _, _, _, rfl, _⟩ := h; rfl) | (obtain ⟨_, _, _, _, _, _, _, _, _, _, _, _, _, _, _, _, _, _, _, rfl, _⟩ := h; rfl) | (obtain ⟨_, _, _, _, _, _, _, _, _, _, _, _, _, _, _, _, _, _, _, _, rfl, _⟩ := h; rfl) | (obtain ⟨_, _, _, _, _, _, _, _, _, _, _, _, _, _, _, _, _, _, _, _, _, rfl, _⟩ := h; rfl) | (obtain ⟨_, _, _, _, _, _, _, _, _, _, _, _, _, _, _, _, _, _, _, _, _, _, rfl, _⟩ := h; rfl) | (obtain ⟨_, _, _, _, _, _, _, _, _, _, _, _, _, _, _, _, _, _, _, _, _, _, _, rfl, _⟩ := h; rfl)
  · obtain ⟨i, rfl, hs, q⟩ := h
    refine ⟨_, (pss_one (ps_if (pt_not (pt_val (pe_call G_is_short_integer (hr.mono (by decide)) (by rfl) g_is_short_integer k_is_short_integer b_is_short_integer .nil pass0 (pa_cons (pv 0) pa_nil))))
      pss_never
      pss_nil)), ?_⟩
    refine ⟨_, rfl, i, rfl, hs, _, rfl, ?_⟩
    exact iteF q
theorem ok_are_any_integers (T : Txt K mg C_Form C_Double) : Def P w K mg base 2 "are_any_integers" ["value", "many"] (sp_are_any_integers K C_Form C_Double) := by
  obtain ⟨f_, fd_, g_, F_⟩ := T.d_are_any_integers
  obtain ⟨f_is_any_integer, fd_is_any_integer, g_is_any_integer, k_is_any_integer, b_is_any_integer, G_is_any_integer⟩ := (ok_is_any_integer (P := P) (w := w) (base := base) T)
  refine ⟨f_, fd_, g_, F_.kp, F_.binds (ps := ["value", "many"]) (fun _ _ _ _ _ _ us hl => match us, hl with | [_, _], _ => rfl), ?_⟩
  refine F_.ok sc_are_any_integers (fun vs H Q E h => ?_) (fun cdv A outer s H vs Q E hr h => ?_)
  · first | (obtain ⟨rfl, _⟩ := h; rfl) | (obtain ⟨_, rfl, _⟩ := h; rfl) | (obtain ⟨_, _, rfl, _⟩ := h; rfl) | (obtain ⟨_, _, _, rfl, _⟩ := h; rfl) | (obtain ⟨_, _, _, _, rfl, _⟩ := h; rfl) | (obtain ⟨_, _, _, _, _, rfl, _⟩ := h; rfl) | (obtain ⟨_, _, _, _, _, _, rfl, _⟩ := h; rfl) | (obtain ⟨_, _, _, _, _, _, _, rfl, _⟩ := h; rfl) | (obtain ⟨_, _, _, _, _, _, _, _, rfl, _⟩ := h; rfl) | (obtain ⟨_, _, _, _, _, _, _, _, _, rfl, _⟩ := h; rfl) | (obtain ⟨_, _, _, _, _, _, _, _, _, _, rfl, _⟩ := h; rfl) | (obtain ⟨_, _, _, _, _, _, _, _, _, _, _, rfl, _⟩ := h; rfl) | (obtain ⟨_, _, _, _, _, _, _, _, _, _, _, _, rfl, _⟩ := h; rfl) | (obtain ⟨_, _, _, _, _, _, _, _, _, _, _, _, _, rfl, _⟩ := h; rfl) | (obtain ⟨_, _, _, _, _, _, _, _, _, _, _, _, _, _, rfl, _⟩ := h; rfl) | (obtain ⟨_, _, _, _, _, _, _, _, _, _, _, _, _, _, _, rfl, _⟩ := h; rfl) | (obtain ⟨_, _, _, _, _, _, _, _, _, _, _, _, _, _, _, _, rfl, _⟩ := h; rfl) | (obtain ⟨_, _, _, _, _, _, _, _, _, _, _, _, _, _, _, _, _, rfl, _⟩ := h; rfl) | (obtain ⟨_, _, _, _, _, _, _, _, _, _, _, _, _, _, _, _, _, _, rfl, _⟩ := h; rfl) | (obtain ⟨_, _, _, _, _, _, _, _, _, _, _, _, _, _, _, _, _, _, _, rfl, _⟩ := h; rfl) | (obtain ⟨_, _, _, _, _, _, _, _, _, _, _, _, _, _, _, _, _, _, _, _, rfl, _⟩ := h; rfl) | (obtain ⟨_, _, _, _, _, _, _, _, _, _, _, _, _, _, _, _, _, _, _, _, _, rfl, _⟩ := h; rfl) | (obtain ⟨_, _, _, _, _, _, _, _, _, _, _, _, _, _, _, _, _, _, _, _, _, _, rfl, _⟩ := h; rfl) | (obtain ⟨_, _, _, _, _, _, _, _, _, _, _, _, _, _, _, _, _, _, _, _, _, _, _, rfl, _⟩ := h; rfl)
  · obtain ⟨a, ns, rfl, ha, hl, q⟩ := h
    refine ⟨_, (pss_cons (ps_if (PW.pt (pw_or (pt_not (pt_val (pe_callB call_isi (by rfl) T.b_isinstance (by decide +kernel) (pa_cons (pv 0) (pa_cons (pe_bltn (v := .ty "tuple") (by rfl) T.b_tuple (by decide +kernel) rfl) pa_nil))))) (pw_or1 (pt_cmpR op_ne (pe_callB call_len_seq (by rfl) T.b_len PySem.boot_len (pa_cons (pv 0) pa_nil)) (pv 1) (nomark _)))))
      (pss_one (ps_ret pe_bl))
      pss_nil)
    (pss_one (ps_ret (pe_callB (cr_all rfl) (by rfl) T.b_all (by decide +kernel) (pa_cons (pe_lc (own := [("number", 2)]) (g := (gName 2)) rfl sc_are_any_integers.nd (pi_tup (pv 0)) (blkOk_by (N := N_are_any_integers) (sc := defScope s_are_any_integers) (by decide +kernel)) (fun _ _ _ _ _ => (pg_name (i := 2) sc_are_any_integers.nd rfl (.inl rfl))) (fun _ _ _ _ _ => pts_nil) (fun _ _ _ _ _ => (pe_call G_is_any_integer (hr.mono (by decide)) (by rfl) g_is_any_integer k_is_any_integer b_is_any_integer .nil pass0 (pa_cons (pv 2) pa_nil)))) pa_nil))))), ?_⟩
    refine ⟨_, rfl, _, _, _, _, true, rfl, .ty _, .base (.tup ha), kit_ty (by decide +kernel), _, rfl, ?_⟩
    refine iteF ⟨_, rfl, a, _, rfl, .inr (SqT.of ha), _, rfl, rfl, _, rfl, ?_⟩
    refine ndF (by rw [List.length_map]) ?_
    refine ⟨_, rfl, a, rfl, ⟨_, SqT.of ha⟩, ?_⟩
    refine lcT fm0 trivial (SqT.of ha) (fun z => z) (fun i acc _ => acc = (List.replicate i true).map V.bl) (fun _ _ => rfl) (fun D i x acc H' hD hx e hA hlen hp => ?_) (fun D H' acc hD e hA hp => ?_)
    · obtain ⟨n, hn, rfl⟩ := get_int hx
      have hi := (List.getElem?_eq_some_iff.mp hn).1
      refine ⟨rfl, ?_⟩
      refine ⟨_, rfl, n, rfl, ?_⟩
      refine cs_yes fm0 trivial hD e hA hlen (by omega) (Fx.refl trivial) ?_
      show acc ++ [V.bl true] = _
      rw [hp, List.replicate_succ', List.map_append]
      rfl
    · rw [List.length_map] at hp
      subst hp
      refine ⟨D, _, rfl, SqL.of hA, ?_⟩
      rw [show ((List.replicate ns.length true).all id) = true by simp]
      exact q H' e
theorem ok_are_short_integers (T : Txt K mg C_Form C_Double) : Def P w K mg base 3 "are_short_integers" ["value", "many"] (sp_are_short_integers K C_Form C_Double) := by
  obtain ⟨f_, fd_, g_, F_⟩ := T.d_are_short_integers
  refine ⟨f_, fd_, g_, F_.kp, F_.binds (ps := ["value", "many"]) (fun _ _ _ _ _ _ us hl => match us, hl with | [_, _], _ => rfl), ?_⟩
  refine F_.ok sc_are_short_integers (fun vs H Q E h => ?_) (fun cdv A outer s H vs Q E hr h => ?_)
  · first | (obtain ⟨rfl, _⟩ := h; rfl) | (obtain ⟨_, rfl, _⟩ := h; rfl) | (obtain ⟨_, _, rfl, _⟩ := h; rfl) | (obtain ⟨_, _, _, rfl, _⟩ := h; rfl) | (obtain ⟨_, _, _, _, rfl, _⟩ := h; rfl) | (obtain ⟨_, _, _, _, _, rfl, _⟩ := h; rfl) | (obtain ⟨_, _, _, _, _, _, rfl, _⟩ := h; rfl) | (obtain ⟨_, _, _, _, _, _, _, rfl, _⟩ := h; rfl) | (obtain ⟨_, _, _, _, _, _, _, _, rfl, _⟩ := h; rfl) | (obtain ⟨_, _, _, _, _, _, _, _, _, rfl, _⟩ := h; rfl) | (obtain ⟨_, _, _, _, _, _, _, _, _, _, rfl, _⟩ := h; rfl) | (obtain ⟨_, _, _, _, _, _, _, _, _, _, _, rfl, _⟩ := h; rfl) | (obtain ⟨_, _, _, _, _, _, _, _, _, _, _, _, rfl, _⟩ := h; rfl) | (obtain ⟨_, _, _, _, _, _, _, _, _, _, _, _, _, rfl, _⟩ := h; rfl) | (obtain ⟨_, _, _, _, _, _, _, _, _, _, _, _, _, _, rfl, _⟩ := h; rfl) | (obtain ⟨_, _, _, _, _, _, _, _, _, _, _, _, _, _, _, rfl, _⟩ := h; rfl) | (obtain ⟨_, _, _, _, _, _, _, _, _, _, _, _, _, _, _, _, rfl, _⟩ := h; rfl) | (obtain ⟨_, _, _, _, _, _, _, _, _, _, _, _, _, _, _, _, _, rfl, _⟩ := h; rfl) | (obtain ⟨_, _, _, _, _, _, _, _, _, _, _, _, _, _, _, _, _, _, rfl, _⟩ := h; rfl) | (obtain ⟨_, _, _, _, _, _, _, _, _, _, _, _, _, _, _, _, _, _, _, rfl, _⟩ := h; rfl) | (obtain ⟨_, _, _, _, _, _, _, _, _, _, _, _, _, _, _, _, _, _, _, _, rfl, _⟩ := h; rfl) | (obtain ⟨_, _, _, _, _, _, _, _, _, _, _, _, _, _, _, _, _, _, _, _, _, rfl, _⟩ := h; rfl) | (obtain ⟨_, _, _, _, _, _, _, _, _, _, _, _, _, _, _, _, _, _, _, _, _, _, rfl, _⟩ := h; rfl) | (obtain ⟨_, _, _, _, _, _, _, _, _, _, _, _, _, _, _, _, _, _, _, _, _, _, _, rfl, _⟩ := h; rfl)
  · obtain ⟨a, ns, rfl, ha, hl, hs, q⟩ := h
    obtain ⟨t_LIMIT, h_LIMIT⟩ := T.x_LIMIT
    refine ⟨_, (pss_cons (ps_if (PW.pt (pw_or (pt_not (pt_val (pe_callB call_isi (by rfl) T.b_isinstance (by decide +kernel) (pa_cons (pv 0) (pa_cons (pe_bltn (v := .ty "tuple") (by rfl) T.b_tuple (by decide +kernel) rfl) pa_nil))))) (pw_or1 (pt_cmpR op_ne (pe_callB call_len_seq (by rfl) T.b_len PySem.boot_len (pa_cons (pv 0) pa_nil)) (pv 1) (nomark _)))))
      (pss_one (ps_ret pe_bl))
      pss_nil)
    (pss_one (ps_ret (pe_callB (cr_all rfl) (by rfl) T.b_all (by decide +kernel) (pa_cons (pe_lc (own := [("n", 2)]) (g := (gName 2)) rfl sc_are_short_integers.nd (pi_tup (pv 0)) (blkOk_by (N := N_are_short_integers) (sc := defScope s_are_short_integers) (by decide +kernel)) (fun _ _ _ _ _ => (pg_name (i := 2) sc_are_short_integers.nd rfl (.inl rfl))) (fun _ _ _ _ _ => pts_nil) (fun _ _ _ _ _ => (pe_and (pe_callB (call_isiKK (K := K) rfl) (by rfl) T.b_isinstance (by decide +kernel) (pa_cons (pv 2) (pa_cons (pe_bltn (v := .ty "int") (by rfl) T.b_int (by decide +kernel) rfl) pa_nil))) (pe_and (pe_not (pe_callB (call_isiKK (K := K) rfl) (by rfl) T.b_isinstance (by decide +kernel) (pa_cons (pv 2) (pa_cons (pe_bltn (v := .ty "bool") (by rfl) T.b_bool (by decide +kernel) rfl) pa_nil)))) (pe_one (pe_chain op_lt op_lt (pe_un un_neg (pe_glob (v := .int 1000000000000000000000000000000000000000000000000000000000000) (by rfl) h_LIMIT ⟨_, rfl⟩)) (pv 2) (pe_glob (v := .int 1000000000000000000000000000000000000000000000000000000000000) (by rfl) h_LIMIT ⟨_, rfl⟩))))))) pa_nil))))), ?_⟩
    refine ⟨_, rfl, _, _, _, _, true, rfl, .ty _, .base (.tup ha), kit_ty (by decide +kernel), _, rfl, ?_⟩
    refine iteF ⟨_, rfl, a, _, rfl, .inr (SqT.of ha), _, rfl, rfl, _, rfl, ?_⟩
    refine ndF (by rw [List.length_map]) ?_
    refine ⟨_, rfl, a, rfl, ⟨_, SqT.of ha⟩, ?_⟩
    refine lcT fm0 trivial (SqT.of ha) (fun z => z) (fun i acc _ => acc = (List.replicate i true).map V.bl) (fun _ _ => rfl) (fun D i x acc H' hD hx e hA hlen hp => ?_) (fun D H' acc hD e hA hp => ?_)
    · obtain ⟨n, hn, rfl⟩ := get_int hx
      have hi := (List.getElem?_eq_some_iff.mp hn).1
      refine ⟨rfl, ?_⟩
      have hn2 := hs n (List.mem_of_getElem? hn)
      refine ⟨_, rfl, _, _, _, _, true, rfl, .ty _, .base (.int n), kit_ty (by decide +kernel), _, rfl, iteT ?_⟩
      refine ⟨_, rfl, _, _, _, _, false, rfl, .ty _, .base (.int n), kit_ty (by decide +kernel), _, rfl, _, rfl, iteT ?_⟩
      refine ⟨_, rfl, _, rfl, _, _, rfl, rfl, _, rfl, dT hn2.1 ⟨_, _, rfl, rfl, ?_⟩⟩
      simp only [decide_eq_true hn2.2]
      refine cs_yes fm0 trivial hD e hA hlen (by omega) (Fx.refl trivial) ?_
      show acc ++ [V.bl true] = _
      rw [hp, List.replicate_succ', List.map_append]
      rfl
    · rw [List.length_map] at hp
      subst hp
      refine ⟨D, _, rfl, SqL.of hA, ?_⟩
      rw [show ((List.replicate ns.length true).all id) = true by simp]
      exact q H' e
theorem ok_determinant_of (T : Txt K mg C_Form C_Double) : Def P w K mg base 1 "determinant_of" ["change"] (sp_determinant_of K C_Form C_Double) := by
  obtain ⟨f_, fd_, g_, F_⟩ := T.d_determinant_of
  refine ⟨f_, fd_, g_, F_.kp, F_.binds (ps := ["change"]) (fun _ _ _ _ _ _ us hl => match us, hl with | [_], _ => rfl), ?_⟩
  refine F_.ok sc_determinant_of (fun vs H Q E h => ?_) (fun cdv A outer s H vs Q E hr h => ?_)
  · first | (obtain ⟨rfl, _⟩ := h; rfl) | (obtain ⟨_, rfl, _⟩ := h; rfl) | (obtain ⟨_, _, rfl, _⟩ := h; rfl) | (obtain ⟨_, _, _, rfl, _⟩ := h; rfl) | (obtain ⟨_, _, _, _, rfl, _⟩ := h; rfl) | (obtain ⟨_, _, _, _, _, rfl, _⟩ := h; rfl) | (obtain ⟨_, _, _, _, _, _, rfl, _⟩ := h; rfl) | (obtain ⟨_, _, _, _, _, _, _, rfl, _⟩ := h; rfl) | (obtain ⟨_, _, _, _, _, _, _, _, rfl, _⟩ := h; rfl) | (obtain ⟨_, _, _, _, _, _, _, _, _, rfl, _⟩ := h; rfl) | (obtain ⟨_, _, _, _, _, _, _, _, _, _, rfl, _⟩ := h; rfl) | (obtain ⟨_, _, _, _, _, _, _, _, _, _, _, rfl, _⟩ := h; rfl) | (obtain ⟨_, _, _, _, _, _, _, _, _, _, _, _, rfl, _⟩ := h; rfl) | (obtain ⟨_, _, _, _, _, _, _, _, _, _, _, _, _, rfl, _⟩ := h; rfl) | (obtain ⟨_, _, _, _, _, _, _, _, _, _, _, _, _, _, rfl, _⟩ := h; rfl) | (obtain ⟨_, _, _, _, _, _, _, _, _, _, _, _, _, _, _, rfl, _⟩ := h; rfl) | (obtain ⟨_, _, _, _, _, _, _, _, _, _, _, _, _, _, _, _, rfl, _⟩ := h; rfl) | (obtain ⟨_, _, _, _, _, _, _, _, _, _, _, _, _, _, _, _, _, rfl, _⟩ := h; rfl) | (obtain ⟨_, _, _, _, _, _, _, _, _, _, _, _, _, _, _, _, _, _, rfl, _⟩ := h; rfl) | (obtain ⟨_, _, _, _, _, _, _, _, _, _, _, _, _, _, _, _, _, _, _, rfl, _⟩ := h; rfl) | (obtain ⟨_, _, _, _, _, _, _, _, _, _, _, _, _, _, _, _, _, _, _, _, rfl, _⟩ := h; rfl) | (obtain ⟨_, _, _, _, _, _, _, _, _, _, _, _, _, _, _, _, _, _, _, _, _, rfl, _⟩ := h; rfl) | (obtain ⟨_, _, _, _, _, _, _, _, _, _, _, _, _, _, _, _, _, _, _, _, _, _, rfl, _⟩ := h; rfl) | (obtain ⟨_, _, _, _, _, _, _, _, _, _, _, _, _, _, _, _, _, _, _, _, _, _, _, rfl, _⟩ := h; rfl)
  · obtain ⟨a, p, q', r, s', rfl, ⟨t1, t2, h0, h1, h2⟩, bp, bq, br, bs, q⟩ := h
    refine ⟨_, (pss_cons (ps_asg (pv 0) (pg_tup (by rfl) (pgs_cons (pg_tup (by rfl) (pgs_cons (pg_name (i := 1) sc_determinant_of.nd rfl (.inl rfl)) (pgs_cons (pg_name (i := 2) sc_determinant_of.nd rfl (.inl rfl)) pgs_nil))) (pgs_cons (pg_tup (by rfl) (pgs_cons (pg_name (i := 3) sc_determinant_of.nd rfl (.inl rfl)) (pgs_cons (pg_name (i := 4) sc_determinant_of.nd rfl (.inl rfl)) pgs_nil))) pgs_nil))))
    (pss_one (ps_ret (pe_op op_sub (pe_op op_mulW (pv 1) (pv 4)) (pe_op op_mulW (pv 2) (pv 3)))))), ?_⟩
    refine ⟨_, rfl, a, _, rfl, SqT.of h0, rfl, _, _, rfl, ?_⟩
    refine ⟨t1, _, rfl, SqT.of h1, rfl, _, _, rfl, ?_⟩
    refine ⟨_, _, rfl, ⟨rfl, ?_⟩⟩
    refine ⟨_, _, rfl, ?_⟩
    refine ⟨t2, _, rfl, SqT.of h2, rfl, _, _, rfl, ?_⟩
    refine ⟨_, _, rfl, ⟨rfl, ?_⟩⟩
    refine ⟨rfl, ?_⟩
    exact ⟨_, rfl, _, rfl, _, _, rfl, rfl, mulB (by with_reducible assumption) (by with_reducible assumption) (by decide), _, rfl, _, rfl, _, _, rfl, rfl, mulB (by with_reducible assumption) (by with_reducible assumption) (by decide), _, _, rfl, rfl, q⟩
theorem ok_is_change (T : Txt K mg C_Form C_Double) : Def P w K mg base 3 "is_change" ["value"] (sp_is_change K C_Form C_Double) := by
  obtain ⟨f_, fd_, g_, F_⟩ := T.d_is_change
  obtain ⟨f_are_any_integers, fd_are_any_integers, g_are_any_integers, k_are_any_integers, b_are_any_integers, G_are_any_integers⟩ := (ok_are_any_integers (P := P) (w := w) (base := base) T)
  obtain ⟨f_determinant_of, fd_determinant_of, g_determinant_of, k_determinant_of, b_determinant_of, G_determinant_of⟩ := (ok_determinant_of (P := P) (w := w) (base := base) T)
  refine ⟨f_, fd_, g_, F_.kp, F_.binds (ps := ["value"]) (fun _ _ _ _ _ _ us hl => match us, hl with | [_], _ => rfl), ?_⟩
  refine F_.ok sc_is_change (fun vs H Q E h => ?_) (fun cdv A outer s H vs Q E hr h => ?_)
  · first | (obtain ⟨rfl, _⟩ := h; rfl) | (obtain ⟨_, rfl, _⟩ := h; rfl) | (obtain ⟨_, _, rfl, _⟩ := h; rfl) | (obtain ⟨_, _, _, rfl, _⟩ := h; rfl) | (obtain ⟨_, _, _, _, rfl, _⟩ := h; rfl) | (obtain ⟨_, _, _, _, _, rfl, _⟩ := h; rfl) | (obtain ⟨_, _, _, _, _, _, rfl, _⟩ := h; rfl) | (obtain ⟨_, _, _, _, _, _, _, rfl, _⟩ := h; rfl) | (obtain ⟨_, _, _, _, _, _, _, _, rfl, _⟩ := h; rfl) | (obtain ⟨_, _, _, _, _, _, _, _, _, rfl, _⟩ := h; rfl) | (obtain ⟨_, _, _, _, _, _, _, _, _, _, rfl, _⟩ := h; rfl) | (obtain ⟨_, _, _, _, _, _, _, _, _, _, _, rfl, _⟩ := h; rfl) | (obtain ⟨_, _, _, _, _, _, _, _, _, _, _, _, rfl, _⟩ := h; rfl) | (obtain ⟨_, _, _, _, _, _, _, _, _, _, _, _, _, rfl, _⟩ := h; rfl) | (obtain ⟨_, _, _, _, _, _, _, _, _, _, _, _, _, _, rfl, _⟩ := h; rfl) | (obtain ⟨_, _, _, _, _, _, _, _, _, _, _, _, _, _, _, rfl, _⟩ := h; rfl) | (obtain ⟨_, _, _, _, _, _, _, _, _, _, _, _, _, _, _, _, rfl, _⟩ := h; rfl) | (obtain ⟨_, _, _, _, _, _, _, _, _, _, _, _, _, _, _, _, _, rfl, _⟩ := h; rfl) | (obtain ⟨_, _, _, _, _, _, _, _, _, _, _, _, _, _, _, _, _, _, rfl, _⟩ := h; rfl) | (obtain ⟨_, _, _, _, _, _, _, _, _, _, _, _, _, _, _, _, _, _, _, rfl, _⟩ := h; rfl) | (obtain ⟨_, _, _, _, _, _, _, _, _, _, _, _, _, _, _, _, _, _, _, _, rfl, _⟩ := h; rfl) | (obtain ⟨_, _, _, _, _, _, _, _, _, _, _, _, _, _, _, _, _, _, _, _, _, rfl, _⟩ := h; rfl) | (obtain ⟨_, _, _, _, _, _, _, _, _, _, _, _, _, _, _, _, _, _, _, _, _, _, rfl, _⟩ := h; rfl) | (obtain ⟨_, _, _, _, _, _, _, _, _, _, _, _, _, _, _, _, _, _, _, _, _, _, _, rfl, _⟩ := h; rfl)
  · obtain ⟨a, p, q', r, s', rfl, h4, hc, q⟩ := h
    obtain ⟨t1, t2, h0, h1, h2⟩ := id h4
    refine ⟨_, (pss_cons (ps_if (PW.pt (pw_or (pt_not (pt_val (pe_callB call_isi (by rfl) T.b_isinstance (by decide +kernel) (pa_cons (pv 0) (pa_cons (pe_bltn (v := .ty "tuple") (by rfl) T.b_tuple (by decide +kernel) rfl) pa_nil))))) (pw_or1 (pt_cmpR op_ne (pe_callB call_len_seq (by rfl) T.b_len PySem.boot_len (pa_cons (pv 0) pa_nil)) pe_int (nomark _)))))
      (pss_one (ps_ret pe_bl))
      pss_nil)
    (pss_cons (ps_if (pt_not (pt_val (pe_callB (cr_all rfl) (by rfl) T.b_all (by decide +kernel) (pa_cons (pe_lc (own := [("row", 1)]) (g := (gName 1)) rfl sc_is_change.nd (pi_tup (pv 0)) (blkOk_by (N := N_is_change) (sc := defScope s_is_change) (by decide +kernel)) (fun _ _ _ _ _ => (pg_name (i := 1) sc_is_change.nd rfl (.inl rfl))) (fun _ _ _ _ _ => pts_nil) (fun _ _ _ _ _ => (pe_call G_are_any_integers (hr.mono (by decide)) (by rfl) g_are_any_integers k_are_any_integers b_are_any_integers .nil pass0 (pa_cons (pv 1) (pa_cons pe_int pa_nil))))) pa_nil))))
      (pss_one (ps_ret pe_bl))
      pss_nil)
    (pss_one (ps_ret (pe_cmpR op_in_seq (pe_call G_determinant_of (hr.mono (by decide)) (by rfl) g_determinant_of k_determinant_of b_determinant_of .nil pass0 (pa_cons (pv 0) pa_nil)) (pe_tup (pa_cons pe_int (pa_cons (pe_un un_neg pe_int) pa_nil))) (by with_unfolding_all rfl)))))), ?_⟩
    refine ⟨_, rfl, _, _, _, _, true, rfl, .ty _, .base (.tup h0), kit_ty (by decide +kernel), _, rfl, ?_⟩
    refine iteF ⟨_, rfl, a, _, rfl, .inr (SqT.of h0), rfl, _, rfl, ?_⟩
    refine ndF rfl ?_
    refine ⟨_, rfl, a, rfl, ⟨_, SqT.of h0⟩, ?_⟩
    refine lcT fm0 trivial (SqT.of h0) (fun z => z) (fun i acc _ => acc = (List.replicate i true).map V.bl) (fun _ _ => rfl) (fun D i x acc H' hD hx e hA hlen hp => ?_) (fun D H' acc hD e hA hp => ?_)
    · have fin : ∀ (t : Addr) (u v : Int), x = .ref t → H t = some (.tup [.int u, .int v]) → i < 2 → ∃ t, x = .ref t ∧ ∃ u v, H' t = some (.tup [.int u, .int v]) ∧ i < 2 := fun t u v e1 e2 e3 => ⟨t, e1, u, v, Ex0.ap e e2, e3⟩
      obtain ⟨t, rfl, u, v, ht, hi⟩ : ∃ t, x = .ref t ∧ ∃ u v, H' t = some (.tup [.int u, .int v]) ∧ i < 2 := by
        match i, hx with
        | 0, hx => exact fin t1 p q' (Option.some.inj hx).symm h1 (by decide)
        | 1, hx => exact fin t2 r s' (Option.some.inj hx).symm h2 (by decide)
      refine ⟨rfl, ?_⟩
      refine ⟨_, rfl, t, [u, v], rfl, ht, by show 2 ≤ 1000; decide, fun H'' e'' => ?_⟩
      refine cs_yes fm0 trivial hD e hA hlen (by omega) e'' ?_
      rw [hp, List.replicate_succ', List.map_append]
      rfl
    · refine ⟨D, List.replicate 2 true, rfl, SqL.of (by rw [hA, hp]; rfl), _, rfl, ?_⟩
      refine ⟨_, rfl, a, p, q', r, s', rfl, Ex0.t4 e h4, hc.1.b, hc.2.1.b, hc.2.2.1.b, hc.2.2.2.1.b, _, rfl, sl2, fun u nu => ?_⟩
      refine ⟨u, _, rfl, .inr (SqT.of upd_same), rfl, rfl, ?_⟩
      have e1 : inV (.int (p * s' - q' * r)) [.int 1, .int (-1)] = true := by
        show ((1 : Int) == p * s' - q' * r || ((-1 : Int) == p * s' - q' * r || false)) = true
        rcases hc.2.2.2.2 with z | z <;> rw [z] <;> decide
      show Q (.bl (inV (.int (p * s' - q' * r)) [.int 1, .int (-1)])) _
      rw [e1]
      exact q _ (e.trans (Ex0.new nu))
theorem ok_is_short_change (T : Txt K mg C_Form C_Double) : Def P w K mg base 4 "is_short_change" ["value"] (sp_is_short_change K C_Form C_Double) := by
  obtain ⟨f_, fd_, g_, F_⟩ := T.d_is_short_change
  obtain ⟨f_are_short_integers, fd_are_short_integers, g_are_short_integers, k_are_short_integers, b_are_short_integers, G_are_short_integers⟩ := (ok_are_short_integers (P := P) (w := w) (base := base) T)
  obtain ⟨f_is_change, fd_is_change, g_is_change, k_is_change, b_is_change, G_is_change⟩ := (ok_is_change (P := P) (w := w) (base := base) T)
  refine ⟨f_, fd_, g_, F_.kp, F_.binds (ps := ["value"]) (fun _ _ _ _ _ _ us hl => match us, hl with | [_], _ => rfl), ?_⟩
  refine F_.ok sc_is_short_change (fun vs H Q E h => ?_) (fun cdv A outer s H vs Q E hr h => ?_)
  · first | (obtain ⟨rfl, _⟩ := h; rfl) | (obtain ⟨_, rfl, _⟩ := h; rfl) | (obtain ⟨_, _, rfl, _⟩ := h; rfl) | (obtain ⟨_, _, _, rfl, _⟩ := h; rfl) | (obtain ⟨_, _, _, _, rfl, _⟩ := h; rfl) | (obtain ⟨_, _, _, _, _, rfl, _⟩ := h; rfl) | (obtain ⟨_, _, _, _, _, _, rfl, _⟩ := h; rfl) | (obtain ⟨_, _, _, _, _, _, _, rfl, _⟩ := h; rfl) | (obtain ⟨_, _, _, _, _, _, _, _, rfl, _⟩ := h; rfl) | (obtain ⟨_, _, _, _, _, _, _, _, _, rfl, _⟩ := h; rfl) | (obtain ⟨_, _, _, _, _, _, _, _, _, _, rfl, _⟩ := h; rfl) | (obtain ⟨_, _, _, _, _, _, _, _, _, _, _, rfl, _⟩ := h; rfl) | (obtain ⟨_, _, _, _, _, _, _, _, _, _, _, _, rfl, _⟩ := h; rfl) | (obtain ⟨_, _, _, _, _, _, _, _, _, _, _, _, _, rfl, _⟩ := h; rfl) | (obtain ⟨_, _, _, _, _, _, _, _, _, _, _, _, _, _, rfl, _⟩ := h; rfl) | (obtain ⟨_, _, _, _, _, _, _, _, _, _, _, _, _, _, _, rfl, _⟩ := h; rfl) | (obtain ⟨_, _, _, _, _, _, _, _, _, _, _, _, _, _, _, _, rfl, _⟩ := h; rfl) | (obtain ⟨_, _, _, _, _, _, _, _, _, _, _, _, _, _, _, _, _, rfl, _⟩ := h; rfl) | (obtain ⟨_, _, _, _, _, _, _, _, _, _, _, _, _, _, _, _, _, _, rfl, _⟩ := h; rfl) | (obtain ⟨_, _, _, _, _, _, _, _, _, _, _, _, _, _, _, _, _, _, _, rfl, _⟩ := h; rfl) | (obtain ⟨_, _, _, _, _, _, _, _, _, _, _, _, _, _, _, _, _, _, _, _, rfl, _⟩ := h; rfl) | (obtain ⟨_, _, _, _, _, _, _, _, _, _, _, _, _, _, _, _, _, _, _, _, _, rfl, _⟩ := h; rfl) | (obtain ⟨_, _, _, _, _, _, _, _, _, _, _, _, _, _, _, _, _, _, _, _, _, _, rfl, _⟩ := h; rfl) | (obtain ⟨_, _, _, _, _, _, _, _, _, _, _, _, _, _, _, _, _, _, _, _, _, _, _, rfl, _⟩ := h; rfl)
  · obtain ⟨a, p, q', r, s', rfl, h4, hc, q⟩ := h
    refine ⟨_, (pss_one (ps_ret (pe_and (pe_call G_is_change (hr.mono (by decide)) (by rfl) g_is_change k_is_change b_is_change .nil pass0 (pa_cons (pv 0) pa_nil)) (pe_one (pe_callB (cr_all rfl) (by rfl) T.b_all (by decide +kernel) (pa_cons (pe_lc (own := [("row", 1)]) (g := (gName 1)) rfl sc_is_short_change.nd (pi_tup (pv 0)) (blkOk_by (N := N_is_short_change) (sc := defScope s_is_short_change) (by decide +kernel)) (fun _ _ _ _ _ => (pg_name (i := 1) sc_is_short_change.nd rfl (.inl rfl))) (fun _ _ _ _ _ => pts_nil) (fun _ _ _ _ _ => (pe_call G_are_short_integers (hr.mono (by decide)) (by rfl) g_are_short_integers k_are_short_integers b_are_short_integers .nil pass0 (pa_cons (pv 1) (pa_cons pe_int pa_nil))))) pa_nil)))))), ?_⟩
    refine ⟨_, rfl, a, p, q', r, s', rfl, h4, hc, fun H1 e1 => ⟨_, rfl, iteT ?_⟩⟩
    obtain ⟨t1, t2, h0, h1, h2⟩ := Ex0.t4 e1 h4
    refine ⟨_, rfl, a, rfl, ⟨_, SqT.of h0⟩, ?_⟩
    refine lcT fm0 trivial (SqT.of h0) (fun z => z) (fun i acc _ => acc = (List.replicate i true).map V.bl) (fun _ _ => rfl) (fun D i x acc H' hD hx e hA hlen hp => ?_) (fun D H' acc hD e hA hp => ?_)
    · have fin : ∀ (t : Addr) (u v : Int), x = .ref t → H1 t = some (.tup [.int u, .int v]) → Short u → Short v → i < 2 → ∃ t, x = .ref t ∧ ∃ u v, H' t = some (.tup [.int u, .int v]) ∧ Short u ∧ Short v ∧ i < 2 := fun t u v e1 e2 e3 e4 e5 => ⟨t, e1, u, v, Ex0.ap e e2, e3, e4, e5⟩
      obtain ⟨t, rfl, u, v, ht, su, sv, hi⟩ : ∃ t, x = .ref t ∧ ∃ u v, H' t = some (.tup [.int u, .int v]) ∧ Short u ∧ Short v ∧ i < 2 := by
        match i, hx with
        | 0, hx => exact fin t1 p q' (Option.some.inj hx).symm h1 hc.1 hc.2.1 (by decide)
        | 1, hx => exact fin t2 r s' (Option.some.inj hx).symm h2 hc.2.2.1 hc.2.2.2.1 (by decide)
      refine ⟨rfl, ?_⟩
      refine ⟨_, rfl, t, [u, v], rfl, ht, by show 2 ≤ 1000; decide, fun n hn => ?_, fun H'' e'' => ?_⟩
      · simp only [List.mem_cons, List.mem_nil_iff, or_false] at hn
        rcases hn with rfl | rfl
        · exact su
        · exact sv
      · refine cs_yes fm0 trivial hD e hA hlen (by omega) e'' ?_
        rw [hp, List.replicate_succ', List.map_append]
        rfl
    · refine ⟨D, List.replicate 2 true, rfl, SqL.of (by rw [hA, hp]; rfl), ?_⟩
      exact q _ (e1.trans e)
theorem ok_check_change (T : Txt K mg C_Form C_Double) : Def P w K mg base 5 "check_change" ["value"] (sp_check_change K C_Form C_Double) := by
  obtain ⟨f_, fd_, g_, F_⟩ := T.d_check_change
  obtain ⟨f_is_short_change, fd_is_short_change, g_is_short_change, k_is_short_change, b_is_short_change, G_is_short_change⟩ := (ok_is_short_change (P := P) (w := w) (base := base) T)
  refine ⟨f_, fd_, g_, F_.kp, F_.binds (ps := ["value"]) (fun _ _ _ _ _ _ us hl => match us, hl with | [_], _ => rfl), ?_⟩
  refine F_.ok sc_check_change (fun vs H Q E h => ?_) (fun cdv A outer s H vs Q E hr h => ?_)
  · first | (obtain ⟨rfl, _⟩ := h; rfl) | (obtain ⟨_, rfl, _⟩ := h; rfl) | (obtain ⟨_, _, rfl, _⟩ := h; rfl) | (obtain ⟨_, _, _, rfl, _⟩ := h; rfl) | (obtain ⟨_, _, _, _, rfl, _⟩ := h; rfl) | (obtain ⟨_, _, _, _, _, rfl, _⟩ := h; rfl) | (obtain ⟨_, _, _, _, _, _, rfl, _⟩ := h; rfl) | (obtain ⟨_, _, _, _, _, _, _, rfl, _⟩ := h; rfl) | (obtain ⟨_, _, _, _, _, _, _, _, rfl, _⟩ := h; rfl) | (obtain ⟨_, _, _, _, _, _, _, _, _, rfl, _⟩ := h; rfl) | (obtain ⟨_, _, _, _, _, _, _, _, _, _, rfl, _⟩ := h; rfl) | (obtain ⟨_, _, _, _, _, _, _, _, _, _, _, rfl, _⟩ := h; rfl) | (obtain ⟨_, _, _, _, _, _, _, _, _, _, _, _, rfl, _⟩ := h; rfl) | (obtain ⟨_, _, _, _, _, _, _, _, _, _, _, _, _, rfl, _⟩ := h; rfl) | (obtain ⟨_, _, _, _, _, _, _, _, _, _, _, _, _, _, rfl, _⟩ := h; rfl) | (obtain ⟨_, _, _, _, _, _, _, _, _, _, _, _, _, _, _, rfl, _⟩ := h; rfl) | (obtain ⟨_, _, _, _, _, _, _, _, _, _, _, _, _, _, _, _, rfl, _⟩ := h; rfl) | (obtain ⟨_, _, _, _, _, _, _, _, _, _, _, _, _, _, _, _, _, rfl, _⟩ := h; rfl) | (obtain ⟨_, _, _, _, _, _, _, _, _, _, _, _, _, _, _, _, _, _, rfl, _⟩ := h; rfl) | (obtain ⟨_, _, _, _, _, _, _, _, _, _, _, _, _, _, _, _, _, _, _, rfl, _⟩ := h; rfl) | (obtain ⟨_, _, _, _, _, _, _, _, _, _, _, _, _, _, _, _, _, _, _, _, rfl, _⟩ := h; rfl) | (obtain ⟨_, _, _, _, _, _, _, _, _, _, _, _, _, _, _, _, _, _, _, _, _, rfl, _⟩ := h; rfl) | (obtain ⟨_, _, _, _, _, _, _, _, _, _, _, _, _, _, _, _, _, _, _, _, _, _, rfl, _⟩ := h; rfl) | (obtain ⟨_, _, _, _, _, _, _, _, _, _, _, _, _, _, _, _, _, _, _, _, _, _, _, rfl, _⟩ := h; rfl)
  · obtain ⟨a, p, q', r, s', rfl, h4, hc, q⟩ := h
    refine ⟨_, (pss_one (ps_if (pt_not (pt_val (pe_call G_is_short_change (hr.mono (by decide)) (by rfl) g_is_short_change k_is_short_change b_is_short_change .nil pass0 (pa_cons (pv 0) pa_nil))))
      pss_never
      pss_nil)), ?_⟩
    refine ⟨_, rfl, a, p, q', r, s', rfl, h4, hc, fun H1 e1 => ⟨_, rfl, ?_⟩⟩
    exact iteF (q _ e1)
theorem ok_form_value (T : Txt K mg C_Form C_Double) : Def P w K mg base 1 "form_value" ["coefficients", "x", "y"] (sp_form_value K C_Form C_Double) := by
  obtain ⟨f_, fd_, g_, F_⟩ := T.d_form_value
  refine ⟨f_, fd_, g_, F_.kp, F_.binds (ps := ["coefficients", "x", "y"]) (fun _ _ _ _ _ _ us hl => match us, hl with | [_, _, _], _ => rfl), ?_⟩
  refine F_.ok sc_form_value (fun vs H Q E h => ?_) (fun cdv A outer s H vs Q E hr h => ?_)
  · first | (obtain ⟨rfl, _⟩ := h; rfl) | (obtain ⟨_, rfl, _⟩ := h; rfl) | (obtain ⟨_, _, rfl, _⟩ := h; rfl) | (obtain ⟨_, _, _, rfl, _⟩ := h; rfl) | (obtain ⟨_, _, _, _, rfl, _⟩ := h; rfl) | (obtain ⟨_, _, _, _, _, rfl, _⟩ := h; rfl) | (obtain ⟨_, _, _, _, _, _, rfl, _⟩ := h; rfl) | (obtain ⟨_, _, _, _, _, _, _, rfl, _⟩ := h; rfl) | (obtain ⟨_, _, _, _, _, _, _, _, rfl, _⟩ := h; rfl) | (obtain ⟨_, _, _, _, _, _, _, _, _, rfl, _⟩ := h; rfl) | (obtain ⟨_, _, _, _, _, _, _, _, _, _, rfl, _⟩ := h; rfl) | (obtain ⟨_, _, _, _, _, _, _, _, _, _, _, rfl, _⟩ := h; rfl) | (obtain ⟨_, _, _, _, _, _, _, _, _, _, _, _, rfl, _⟩ := h; rfl) | (obtain ⟨_, _, _, _, _, _, _, _, _, _, _, _, _, rfl, _⟩ := h; rfl) | (obtain ⟨_, _, _, _, _, _, _, _, _, _, _, _, _, _, rfl, _⟩ := h; rfl) | (obtain ⟨_, _, _, _, _, _, _, _, _, _, _, _, _, _, _, rfl, _⟩ := h; rfl) | (obtain ⟨_, _, _, _, _, _, _, _, _, _, _, _, _, _, _, _, rfl, _⟩ := h; rfl) | (obtain ⟨_, _, _, _, _, _, _, _, _, _, _, _, _, _, _, _, _, rfl, _⟩ := h; rfl) | (obtain ⟨_, _, _, _, _, _, _, _, _, _, _, _, _, _, _, _, _, _, rfl, _⟩ := h; rfl) | (obtain ⟨_, _, _, _, _, _, _, _, _, _, _, _, _, _, _, _, _, _, _, rfl, _⟩ := h; rfl) | (obtain ⟨_, _, _, _, _, _, _, _, _, _, _, _, _, _, _, _, _, _, _, _, rfl, _⟩ := h; rfl) | (obtain ⟨_, _, _, _, _, _, _, _, _, _, _, _, _, _, _, _, _, _, _, _, _, rfl, _⟩ := h; rfl) | (obtain ⟨_, _, _, _, _, _, _, _, _, _, _, _, _, _, _, _, _, _, _, _, _, _, rfl, _⟩ := h; rfl) | (obtain ⟨_, _, _, _, _, _, _, _, _, _, _, _, _, _, _, _, _, _, _, _, _, _, _, rfl, _⟩ := h; rfl)
  · obtain ⟨t, a, b, c, d, x, y, rfl, ht, ba, bb, bc, bd, bx, by', q⟩ := h
    refine ⟨_, (pss_cons (ps_asg (pv 0) (pg_tup (by rfl) (pgs_cons (pg_name (i := 3) sc_form_value.nd rfl (.inl rfl)) (pgs_cons (pg_name (i := 4) sc_form_value.nd rfl (.inl rfl)) (pgs_cons (pg_name (i := 5) sc_form_value.nd rfl (.inl rfl)) (pgs_cons (pg_name (i := 6) sc_form_value.nd rfl (.inl rfl)) pgs_nil))))))
    (pss_one (ps_ret (pe_op op_add (pe_op op_add (pe_op op_add (pe_op op_mulW (pe_op op_mulW (pe_op op_mulW (pv 3) (pv 1)) (pv 1)) (pv 1)) (pe_op op_mulW (pe_op op_mulW (pe_op op_mulW (pv 4) (pv 1)) (pv 1)) (pv 2))) (pe_op op_mulW (pe_op op_mulW (pe_op op_mulW (pv 5) (pv 1)) (pv 2)) (pv 2))) (pe_op op_mulW (pe_op op_mulW (pe_op op_mulW (pv 6) (pv 2)) (pv 2)) (pv 2)))))), ?_⟩
    refine ⟨_, rfl, unI4 ht ?_⟩
    exact ⟨_, rfl, _, rfl, _, _, rfl, rfl, mulB (by with_reducible assumption) (by with_reducible assumption) (by decide), _, rfl, _, _, rfl, rfl, mulB (B.mul (by with_reducible assumption) (by with_reducible assumption)) (by with_reducible assumption) (by decide), _, rfl, _, _, rfl, rfl, mulB (B.mul (B.mul (by with_reducible assumption) (by with_reducible assumption)) (by with_reducible assumption)) (by with_reducible assumption) (by decide), _, rfl, _, rfl, _, _, rfl, rfl, mulB (by with_reducible assumption) (by with_reducible assumption) (by decide), _, rfl, _, _, rfl, rfl, mulB (B.mul (by with_reducible assumption) (by with_reducible assumption)) (by with_reducible assumption) (by decide), _, rfl, _, _, rfl, rfl, mulB (B.mul (B.mul (by with_reducible assumption) (by with_reducible assumption)) (by with_reducible assumption)) (by with_reducible assumption) (by decide), _, _, rfl, rfl, _, rfl, _, rfl, _, _, rfl, rfl, mulB (by with_reducible assumption) (by with_reducible assumption) (by decide), _, rfl, _, _, rfl, rfl, mulB (B.mul (by with_reducible assumption) (by with_reducible assumption)) (by with_reducible assumption) (by decide), _, rfl, _, _, rfl, rfl, mulB (B.mul (B.mul (by with_reducible assumption) (by with_reducible assumption)) (by with_reducible assumption)) (by with_reducible assumption) (by decide), _, _, rfl, rfl, _, rfl, _, rfl, _, _, rfl, rfl, mulB (by with_reducible assumption) (by with_reducible assumption) (by decide), _, rfl, _, _, rfl, rfl, mulB (B.mul (by with_reducible assumption) (by with_reducible assumption)) (by with_reducible assumption) (by decide), _, rfl, _, _, rfl, rfl, mulB (B.mul (B.mul (by with_reducible assumption) (by with_reducible assumption)) (by with_reducible assumption)) (by with_reducible assumption) (by decide), _, _, rfl, rfl, q⟩
theorem ok_form_discriminant (T : Txt K mg C_Form C_Double) : Def P w K mg base 1 "form_discriminant" ["coefficients"] (sp_form_discriminant K C_Form C_Double) := by
  obtain ⟨f_, fd_, g_, F_⟩ := T.d_form_discriminant
  refine ⟨f_, fd_, g_, F_.kp, F_.binds (ps := ["coefficients"]) (fun _ _ _ _ _ _ us hl => match us, hl with | [_], _ => rfl), ?_⟩
  refine F_.ok sc_form_discriminant (fun vs H Q E h => ?_) (fun cdv A outer s H vs Q E hr h => ?_)
  · first | (obtain ⟨rfl, _⟩ := h; rfl) | (obtain ⟨_, rfl, _⟩ := h; rfl) | (obtain ⟨_, _, rfl, _⟩ := h; rfl) | (obtain ⟨_, _, _, rfl, _⟩ := h; rfl) | (obtain ⟨_, _, _, _, rfl, _⟩ := h; rfl) | (obtain ⟨_, _, _, _, _, rfl, _⟩ := h; rfl) | (obtain ⟨_, _, _, _, _, _, rfl, _⟩ := h; rfl) | (obtain ⟨_, _, _, _, _, _, _, rfl, _⟩ := h; rfl) | (obtain ⟨_, _, _, _, _, _, _, _, rfl, _⟩ := h; rfl) | (obtain ⟨_, _, _, _, _, _, _, _, _, rfl, _⟩ := h; rfl) | (obtain ⟨_, _, _, _, _, _, _, _, _, _, rfl, _⟩ := h; rfl) | (obtain ⟨_, _, _, _, _, _, _, _, _, _, _, rfl, _⟩ := h; rfl) | (obtain ⟨_, _, _, _, _, _, _, _, _, _, _, _, rfl, _⟩ := h; rfl) | (obtain ⟨_, _, _, _, _, _, _, _, _, _, _, _, _, rfl, _⟩ := h; rfl) | (obtain ⟨_, _, _, _, _, _, _, _, _, _, _, _, _, _, rfl, _⟩ := h; rfl) | (obtain ⟨_, _, _, _, _, _, _, _, _, _, _, _, _, _, _, rfl, _⟩ := h; rfl) | (obtain ⟨_, _, _, _, _, _, _, _, _, _, _, _, _, _, _, _, rfl, _⟩ := h; rfl) | (obtain ⟨_, _, _, _, _, _, _, _, _, _, _, _, _, _, _, _, _, rfl, _⟩ := h; rfl) | (obtain ⟨_, _, _, _, _, _, _, _, _, _, _, _, _, _, _, _, _, _, rfl, _⟩ := h; rfl) | (obtain ⟨_, _, _, _, _, _, _, _, _, _, _, _, _, _, _, _, _, _, _, rfl, _⟩ := h; rfl) | (obtain ⟨_, _, _, _, _, _, _, _, _, _, _, _, _, _, _, _, _, _, _, _, rfl, _⟩ := h; rfl) | (obtain ⟨_, _, _, _, _, _, _, _, _, _, _, _, _, _, _, _, _, _, _, _, _, rfl, _⟩ := h; rfl) | (obtain ⟨_, _, _, _, _, _, _, _, _, _, _, _, _, _, _, _, _, _, _, _, _, _, rfl, _⟩ := h; rfl) | (obtain ⟨_, _, _, _, _, _, _, _, _, _, _, _, _, _, _, _, _, _, _, _, _, _, _, rfl, _⟩ := h; rfl)
  · obtain ⟨t, a, b, c, d, rfl, ht, ba, bb, bc, bd, q⟩ := h
    refine ⟨_, (pss_cons (ps_asg (pv 0) (pg_tup (by rfl) (pgs_cons (pg_name (i := 1) sc_form_discriminant.nd rfl (.inl rfl)) (pgs_cons (pg_name (i := 2) sc_form_discriminant.nd rfl (.inl rfl)) (pgs_cons (pg_name (i := 3) sc_form_discriminant.nd rfl (.inl rfl)) (pgs_cons (pg_name (i := 4) sc_form_discriminant.nd rfl (.inl rfl)) pgs_nil))))))
    (pss_one (ps_ret (pe_op op_add (pe_op op_sub (pe_op op_sub (pe_op op_sub (pe_op op_mulW (pe_op op_mulW (pe_op op_mulW (pv 2) (pv 2)) (pv 3)) (pv 3)) (pe_op op_mulW (pe_op op_mulW (pe_op op_mulW (pe_op op_mulW pe_int (pv 1)) (pv 3)) (pv 3)) (pv 3))) (pe_op op_mulW (pe_op op_mulW (pe_op op_mulW (pe_op op_mulW pe_int (pv 2)) (pv 2)) (pv 2)) (pv 4))) (pe_op op_mulW (pe_op op_mulW (pe_op op_mulW (pe_op op_mulW pe_int (pv 1)) (pv 1)) (pv 4)) (pv 4))) (pe_op op_mulW (pe_op op_mulW (pe_op op_mulW (pe_op op_mulW pe_int (pv 1)) (pv 2)) (pv 3)) (pv 4)))))), ?_⟩
    refine ⟨_, rfl, unI4 ht ?_⟩
    exact ⟨_, rfl, _, rfl, _, _, rfl, rfl, mulB (by with_reducible assumption) (by with_reducible assumption) (by decide), _, rfl, _, _, rfl, rfl, mulB (B.mul (by with_reducible assumption) (by with_reducible assumption)) (by with_reducible assumption) (by decide), _, rfl, _, _, rfl, rfl, mulB (B.mul (B.mul (by with_reducible assumption) (by with_reducible assumption)) (by with_reducible assumption)) (by with_reducible assumption) (by decide), _, rfl, _, _, rfl, rfl, mulB (B.lit (by decide)) (by with_reducible assumption) (by decide), _, rfl, _, _, rfl, rfl, mulB (B.mul (B.lit (by decide)) (by with_reducible assumption)) (by with_reducible assumption) (by decide), _, rfl, _, _, rfl, rfl, mulB (B.mul (B.mul (B.lit (by decide)) (by with_reducible assumption)) (by with_reducible assumption)) (by with_reducible assumption) (by decide), _, rfl, _, _, rfl, rfl, mulB (B.mul (B.mul (B.mul (B.lit (by decide)) (by with_reducible assumption)) (by with_reducible assumption)) (by with_reducible assumption)) (by with_reducible assumption) (by decide), _, _, rfl, rfl, _, rfl, _, _, rfl, rfl, mulB (B.lit (by decide)) (by with_reducible assumption) (by decide), _, rfl, _, _, rfl, rfl, mulB (B.mul (B.lit (by decide)) (by with_reducible assumption)) (by with_reducible assumption) (by decide), _, rfl, _, _, rfl, rfl, mulB (B.mul (B.mul (B.lit (by decide)) (by with_reducible assumption)) (by with_reducible assumption)) (by with_reducible assumption) (by decide), _, rfl, _, _, rfl, rfl, mulB (B.mul (B.mul (B.mul (B.lit (by decide)) (by with_reducible assumption)) (by with_reducible assumption)) (by with_reducible assumption)) (by with_reducible assumption) (by decide), _, _, rfl, rfl, _, rfl, _, _, rfl, rfl, mulB (B.lit (by decide)) (by with_reducible assumption) (by decide), _, rfl, _, _, rfl, rfl, mulB (B.mul (B.lit (by decide)) (by with_reducible assumption)) (by with_reducible assumption) (by decide), _, rfl, _, _, rfl, rfl, mulB (B.mul (B.mul (B.lit (by decide)) (by with_reducible assumption)) (by with_reducible assumption)) (by with_reducible assumption) (by decide), _, rfl, _, _, rfl, rfl, mulB (B.mul (B.mul (B.mul (B.lit (by decide)) (by with_reducible assumption)) (by with_reducible assumption)) (by with_reducible assumption)) (by with_reducible assumption) (by decide), _, _, rfl, rfl, _, rfl, _, _, rfl, rfl, mulB (B.lit (by decide)) (by with_reducible assumption) (by decide), _, rfl, _, _, rfl, rfl, mulB (B.mul (B.lit (by decide)) (by with_reducible assumption)) (by with_reducible assumption) (by decide), _, rfl, _, _, rfl, rfl, mulB (B.mul (B.mul (B.lit (by decide)) (by with_reducible assumption)) (by with_reducible assumption)) (by with_reducible assumption) (by decide), _, rfl, _, _, rfl, rfl, mulB (B.mul (B.mul (B.mul (B.lit (by decide)) (by with_reducible assumption)) (by with_reducible assumption)) (by with_reducible assumption)) (by with_reducible assumption) (by decide), _, _, rfl, rfl, q⟩
theorem ok_double_value (T : Txt K mg C_Form C_Double) : Def P w K mg base 1 "double_value" ["coefficients", "x", "y"] (sp_double_value K C_Form C_Double) := by
  obtain ⟨f_, fd_, g_, F_⟩ := T.d_double_value
  refine ⟨f_, fd_, g_, F_.kp, F_.binds (ps := ["coefficients", "x", "y"]) (fun _ _ _ _ _ _ us hl => match us, hl with | [_, _, _], _ => rfl), ?_⟩
  refine F_.ok sc_double_value (fun vs H Q E h => ?_) (fun cdv A outer s H vs Q E hr h => ?_)
  · first | (obtain ⟨rfl, _⟩ := h; rfl) | (obtain ⟨_, rfl, _⟩ := h; rfl) | (obtain ⟨_, _, rfl, _⟩ := h; rfl) | (obtain ⟨_, _, _, rfl, _⟩ := h; rfl) | (obtain ⟨_, _, _, _, rfl, _⟩ := h; rfl) | (obtain ⟨_, _, _, _, _, rfl, _⟩ := h; rfl) | (obtain ⟨_, _, _, _, _, _, rfl, _⟩ := h; rfl) | (obtain ⟨_, _, _, _, _, _, _, rfl, _⟩ := h; rfl) | (obtain ⟨_, _, _, _, _, _, _, _, rfl, _⟩ := h; rfl) | (obtain ⟨_, _, _, _, _, _, _, _, _, rfl, _⟩ := h; rfl) | (obtain ⟨_, _, _, _, _, _, _, _, _, _, rfl, _⟩ := h; rfl) | (obtain ⟨_, _, _, _, _, _, _, _, _, _, _, rfl, _⟩ := h; rfl) | (obtain ⟨_, _, _, _, _, _, _, _, _, _, _, _, rfl, _⟩ := h; rfl) | (obtain ⟨_, _, _, _, _, _, _, _, _, _, _, _, _, rfl, _⟩ := h; rfl) | (obtain ⟨_, _, _, _, _, _, _, _, _, _, _, _, _, _, rfl, _⟩ := h; rfl) | (obtain ⟨_, _, _, _, _, _, _, _, _, _, _, _, _, _, _, rfl, _⟩ := h; rfl) | (obtain ⟨_, _, _, _, _, _, _, _, _, _, _, _, _, _, _, _, rfl, _⟩ := h; rfl) | (obtain ⟨_, _, _, _, _, _, _, _, _, _, _, _, _, _, _, _, _, rfl, _⟩ := h; rfl) | (obtain ⟨_, _, _, _, _, _, _, _, _, _, _, _, _, _, _, _, _, _, rfl, _⟩ := h; rfl) | (obtain ⟨_, _, _, _, _, _, _, _, _, _, _, _, _, _, _, _, _, _, _, rfl, _⟩ := h; rfl) | (obtain ⟨_, _, _, _, _, _, _, _, _, _, _, _, _, _, _, _, _, _, _, _, rfl, _⟩ := h; rfl) | (obtain ⟨_, _, _, _, _, _, _, _, _, _, _, _, _, _, _, _, _, _, _, _, _, rfl, _⟩ := h; rfl) | (obtain ⟨_, _, _, _, _, _, _, _, _, _, _, _, _, _, _, _, _, _, _, _, _, _, rfl, _⟩ := h; rfl) | (obtain ⟨_, _, _, _, _, _, _, _, _, _, _, _, _, _, _, _, _, _, _, _, _, _, _, rfl, _⟩ := h; rfl)
  · obtain ⟨t, a, b, c, x, y, rfl, ht, ba, bb, bc, bx, by', q⟩ := h
    refine ⟨_, (pss_cons (ps_asg (pv 0) (pg_tup (by rfl) (pgs_cons (pg_name (i := 3) sc_double_value.nd rfl (.inl rfl)) (pgs_cons (pg_name (i := 4) sc_double_value.nd rfl (.inl rfl)) (pgs_cons (pg_name (i := 5) sc_double_value.nd rfl (.inl rfl)) pgs_nil)))))
    (pss_one (ps_ret (pe_op op_add (pe_op op_add (pe_op op_mulW (pe_op op_mulW (pv 3) (pv 1)) (pv 1)) (pe_op op_mulW (pe_op op_mulW (pv 4) (pv 1)) (pv 2))) (pe_op op_mulW (pe_op op_mulW (pv 5) (pv 2)) (pv 2)))))), ?_⟩
    refine ⟨_, rfl, unI3 ht ?_⟩
    exact ⟨_, rfl, _, rfl, _, _, rfl, rfl, mulB (by with_reducible assumption) (by with_reducible assumption) (by decide), _, rfl, _, _, rfl, rfl, mulB (B.mul (by with_reducible assumption) (by with_reducible assumption)) (by with_reducible assumption) (by decide), _, rfl, _, rfl, _, _, rfl, rfl, mulB (by with_reducible assumption) (by with_reducible assumption) (by decide), _, rfl, _, _, rfl, rfl, mulB (B.mul (by with_reducible assumption) (by with_reducible assumption)) (by with_reducible assumption) (by decide), _, _, rfl, rfl, _, rfl, _, rfl, _, _, rfl, rfl, mulB (by with_reducible assumption) (by with_reducible assumption) (by decide), _, rfl, _, _, rfl, rfl, mulB (B.mul (by with_reducible assumption) (by with_reducible assumption)) (by with_reducible assumption) (by decide), _, _, rfl, rfl, q⟩
theorem ok_double_discriminant (T : Txt K mg C_Form C_Double) : Def P w K mg base 1 "double_discriminant" ["coefficients"] (sp_double_discriminant K C_Form C_Double) := by
  obtain ⟨f_, fd_, g_, F_⟩ := T.d_double_discriminant
  refine ⟨f_, fd_, g_, F_.kp, F_.binds (ps := ["coefficients"]) (fun _ _ _ _ _ _ us hl => match us, hl with | [_], _ => rfl), ?_⟩
  refine F_.ok sc_double_discriminant (fun vs H Q E h => ?_) (fun cdv A outer s H vs Q E hr h => ?_)
  · first | (obtain ⟨rfl, _⟩ := h; rfl) | (obtain ⟨_, rfl, _⟩ := h; rfl) | (obtain ⟨_, _, rfl, _⟩ := h; rfl) | (obtain ⟨_, _, _, rfl, _⟩ := h; rfl) | (obtain ⟨_, _, _, _, rfl, _⟩ := h; rfl) | (obtain ⟨_, _, _, _, _, rfl, _⟩ := h; rfl) | (obtain ⟨_, _, _, _, _, _, rfl, _⟩ := h; rfl) | (obtain ⟨_, _, _, _, _, _, _, rfl, _⟩ := h; rfl) | (obtain ⟨_, _, _, _, _, _, _, _, rfl, _⟩ := h; rfl) | (obtain ⟨_, _, _, _, _, _, _, _, _, rfl, _⟩ := h; rfl) | (obtain ⟨_, _, _, _, _, _, _, _, _, _, rfl, _⟩ := h; rfl) | (obtain ⟨_, _, _, _, _, _, _, _, _, _, _, rfl, _⟩ := h; rfl) | (obtain ⟨_, _, _, _, _, _, _, _, _, _, _, _, rfl, _⟩ := h; rfl) | (obtain ⟨_, _, _, _, _, _, _, _, _, _, _, _, _, rfl, _⟩ := h; rfl) | (obtain ⟨_, _, _, _, _, _, _, _, _, _, _, _, _, _, rfl, _⟩ := h; rfl) | (obtain ⟨_, _, _, _, _, _, _, _, _, _, _, _, _, _, _, rfl, _⟩ := h; rfl) | (obtain ⟨_, _, _, _, _, _, _, _, _, _, _, _, _, _, _, _, rfl, _⟩ := h; rfl) | (obtain ⟨_, _, _, _, _, _, _, _, _, _, _, _, _, _, _, _, _, rfl, _⟩ := h; rfl) | (obtain ⟨_, _, _, _, _, _, _, _, _, _, _, _, _, _, _, _, _, _, rfl, _⟩ := h; rfl) | (obtain ⟨_, _, _, _, _, _, _, _, _, _, _, _, _, _, _, _, _, _, _, rfl, _⟩ := h; rfl) | (obtain ⟨_, _, _, _, _, _, _, _, _, _, _, _, _, _, _, _, _, _, _, _, rfl, _⟩ := h; rfl) | (obtain ⟨_, _, _, _, _, _, _, _, _, _, _, _, _, _, _, _, _, _, _, _, _, rfl, _⟩ := h; rfl) | (obtain ⟨_, _, _, _, _, _, _, _, _, _, _, _, _, _, _, _, _, _, _, _, _, _, rfl, _⟩ := h; rfl) | (obtain ⟨_, _, _, _, _, _, _, _, _, _, _, _, _, _, _, _, _, _, _, _, _, _, _, rfl, _⟩ := h; rfl)
  · obtain ⟨t, a, b, c, rfl, ht, ba, bb, bc, q⟩ := h
    refine ⟨_, (pss_cons (ps_asg (pv 0) (pg_tup (by rfl) (pgs_cons (pg_name (i := 1) sc_double_discriminant.nd rfl (.inl rfl)) (pgs_cons (pg_name (i := 2) sc_double_discriminant.nd rfl (.inl rfl)) (pgs_cons (pg_name (i := 3) sc_double_discriminant.nd rfl (.inl rfl)) pgs_nil)))))
    (pss_one (ps_ret (pe_op op_sub (pe_op op_mulW (pv 2) (pv 2)) (pe_op op_mulW (pe_op op_mulW pe_int (pv 1)) (pv 3)))))), ?_⟩
    refine ⟨_, rfl, unI3 ht ?_⟩
    exact ⟨_, rfl, _, rfl, _, _, rfl, rfl, mulB (by with_reducible assumption) (by with_reducible assumption) (by decide), _, rfl, _, _, rfl, rfl, mulB (B.lit (by decide)) (by with_reducible assumption) (by decide), _, rfl, _, _, rfl, rfl, mulB (B.mul (B.lit (by decide)) (by with_reducible assumption)) (by with_reducible assumption) (by decide), _, _, rfl, rfl, q⟩
end
end TF
namespace TF
open PySem PySem.Spec PyProof.Rows L2 Fr
open K05M (fv fl2 fl3 fdisc)
open K06M
theorem putF_same {u v : V} : putF ("_coefficients" : Str) v [(("_coefficients" : Str), u)] = [(("_coefficients" : Str), v)] := by simp [putF]
theorem lk_same {u : V} : List.lookup ("_coefficients" : Str) [(("_coefficients" : Str), u)] = some u := by simp [List.lookup]
section
variable {P : Program} {w : World} {K : PySem.W.Frag} {mg : Str → Option Value} {base : Heap} {C_Form C_Double : Addr}
theorem ok_form_led (T : Txt K mg C_Form C_Double) : Def P w K mg base 2 "form_led" ["coefficients", "change"] (sp_form_led K C_Form C_Double) := by
  obtain ⟨f_, fd_, g_, F_⟩ := T.d_form_led
  obtain ⟨f_determinant_of, fd_determinant_of, g_determinant_of, k_determinant_of, b_determinant_of, G_determinant_of⟩ := (ok_determinant_of (P := P) (w := w) (base := base) T)
  obtain ⟨f_form_value, fd_form_value, g_form_value, k_form_value, b_form_value, G_form_value⟩ := (ok_form_value (P := P) (w := w) (base := base) T)
  refine ⟨f_, fd_, g_, F_.kp, F_.binds (ps := ["coefficients", "change"]) (fun _ _ _ _ _ _ us hl => match us, hl with | [_, _], _ => rfl), ?_⟩
  refine F_.ok sc_form_led (fun vs H Q E h => ?_) (fun cdv A outer s H vs Q E hr h => ?_)
  · first | (obtain ⟨rfl, _⟩ := h; rfl) | (obtain ⟨_, rfl, _⟩ := h; rfl) | (obtain ⟨_, _, rfl, _⟩ := h; rfl) | (obtain ⟨_, _, _, rfl, _⟩ := h; rfl) | (obtain ⟨_, _, _, _, rfl, _⟩ := h; rfl) | (obtain ⟨_, _, _, _, _, rfl, _⟩ := h; rfl) | (obtain ⟨_, _, _, _, _, _, rfl, _⟩ := h; rfl) | (obtain ⟨_, _, _, _, _, _, _, rfl, _⟩ := h; rfl) | (obtain ⟨_, _, _, _, _, _, _, _, rfl, _⟩ := h; rfl) | (obtain ⟨_, _, _, _, _, _, _, _, _, rfl, _⟩ := h; rfl) | (obtain ⟨_, _, _, _, _, _, _, _, _, _, rfl, _⟩ := h; rfl) | (obtain ⟨_, _, _, _, _, _, _, _, _, _, _, rfl, _⟩ := h; rfl) | (obtain ⟨_, _, _, _, _, _, _, _, _, _, _, _, rfl, _⟩ := h; rfl) | (obtain ⟨_, _, _, _, _, _, _, _, _, _, _, _, _, rfl, _⟩ := h; rfl) | (obtain ⟨_, _, _, _, _, _, _, _, _, _, _, _, _, _, rfl, _⟩ := h; rfl) | (obtain ⟨_, _, _, _, _, _, _, _, _, _, _, _, _, _, _, rfl, _⟩ := h; rfl) | (obtain ⟨_, _, _, _, _, _, _, _, _, _, _, _, _, _, _, _, rfl, _⟩ := h; rfl) | (obtain ⟨_, _, _, _, _, _, _, _, _, _, _, _, _, _, _, _, _, rfl, _⟩ := h; rfl) | (obtain ⟨_, _, _, _, _, _, _, _, _, _, _, _, _, _, _, _, _, _, rfl, _⟩ := h; rfl) | (obtain ⟨_, _, _, _, _, _, _, _, _, _, _, _, _, _, _, _, _, _, _, rfl, _⟩ := h; rfl) | (obtain ⟨_, _, _, _, _, _, _, _, _, _, _, _, _, _, _, _, _, _, _, _, rfl, _⟩ := h; rfl) | (obtain ⟨_, _, _, _, _, _, _, _, _, _, _, _, _, _, _, _, _, _, _, _, _, rfl, _⟩ := h; rfl) | (obtain ⟨_, _, _, _, _, _, _, _, _, _, _, _, _, _, _, _, _, _, _, _, _, _, rfl, _⟩ := h; rfl) | (obtain ⟨_, _, _, _, _, _, _, _, _, _, _, _, _, _, _, _, _, _, _, _, _, _, _, rfl, _⟩ := h; rfl)
  · obtain ⟨t, u, a, b, c, d, p, q', r, s', rfl, ht, h4, ba, bb, bc, bd, bp, bq, br, bs, q⟩ := h
    refine ⟨_, (pss_cons (ps_asg (pv 0) (pg_tup (by rfl) (pgs_cons (pg_name (i := 2) sc_form_led.nd rfl (.inl rfl)) (pgs_cons (pg_name (i := 3) sc_form_led.nd rfl (.inl rfl)) (pgs_cons (pg_name (i := 4) sc_form_led.nd rfl (.inl rfl)) (pgs_cons (pg_name (i := 5) sc_form_led.nd rfl (.inl rfl)) pgs_nil))))))
    (pss_cons (ps_asg (pv 1) (pg_tup (by rfl) (pgs_cons (pg_tup (by rfl) (pgs_cons (pg_name (i := 6) sc_form_led.nd rfl (.inl rfl)) (pgs_cons (pg_name (i := 7) sc_form_led.nd rfl (.inl rfl)) pgs_nil))) (pgs_cons (pg_tup (by rfl) (pgs_cons (pg_name (i := 8) sc_form_led.nd rfl (.inl rfl)) (pgs_cons (pg_name (i := 9) sc_form_led.nd rfl (.inl rfl)) pgs_nil))) pgs_nil))))
    (pss_cons (ps_set (i := 10) sc_form_led.nd rfl (.inl rfl) (pe_call G_determinant_of (hr.mono (by decide)) (by rfl) g_determinant_of k_determinant_of b_determinant_of .nil pass0 (pa_cons (pv 1) pa_nil)))
    (pss_cons (ps_set (i := 11) sc_form_led.nd rfl (.inl rfl) (pe_op op_add (pe_op op_add (pe_op op_add (pe_op op_mulW (pe_op op_mulW (pe_op op_mulW (pe_op op_mulW pe_int (pv 2)) (pv 6)) (pv 6)) (pv 8)) (pe_op op_mulW (pe_op op_mulW (pv 3) (pv 6)) (pe_op op_add (pe_op op_mulW (pv 6) (pv 9)) (pe_op op_mulW (pe_op op_mulW pe_int (pv 7)) (pv 8))))) (pe_op op_mulW (pe_op op_mulW (pv 4) (pv 7)) (pe_op op_add (pe_op op_mulW (pe_op op_mulW pe_int (pv 6)) (pv 9)) (pe_op op_mulW (pv 7) (pv 8))))) (pe_op op_mulW (pe_op op_mulW (pe_op op_mulW (pe_op op_mulW pe_int (pv 5)) (pv 7)) (pv 7)) (pv 9))))
    (pss_cons (ps_set (i := 12) sc_form_led.nd rfl (.inl rfl) (pe_op op_add (pe_op op_add (pe_op op_add (pe_op op_mulW (pe_op op_mulW (pe_op op_mulW (pe_op op_mulW pe_int (pv 2)) (pv 6)) (pv 8)) (pv 8)) (pe_op op_mulW (pe_op op_mulW (pv 3) (pv 8)) (pe_op op_add (pe_op op_mulW (pe_op op_mulW pe_int (pv 6)) (pv 9)) (pe_op op_mulW (pv 7) (pv 8))))) (pe_op op_mulW (pe_op op_mulW (pv 4) (pv 9)) (pe_op op_add (pe_op op_mulW (pv 6) (pv 9)) (pe_op op_mulW (pe_op op_mulW pe_int (pv 7)) (pv 8))))) (pe_op op_mulW (pe_op op_mulW (pe_op op_mulW (pe_op op_mulW pe_int (pv 5)) (pv 7)) (pv 9)) (pv 9))))
    (pss_one (ps_ret (pe_tup (pa_cons (pe_op op_mulW (pv 10) (pe_call G_form_value (hr.mono (by decide)) (by rfl) g_form_value k_form_value b_form_value .nil pass0 (pa_cons (pv 0) (pa_cons (pv 6) (pa_cons (pv 7) pa_nil))))) (pa_cons (pe_op op_mulW (pv 10) (pv 11)) (pa_cons (pe_op op_mulW (pv 10) (pv 12)) (pa_cons (pe_op op_mulW (pv 10) (pe_call G_form_value (hr.mono (by decide)) (by rfl) g_form_value k_form_value b_form_value .nil pass0 (pa_cons (pv 0) (pa_cons (pv 8) (pa_cons (pv 9) pa_nil))))) pa_nil)))))))))))), ?_⟩
    refine ⟨_, rfl, unI4 ht ?_⟩
    refine ⟨_, rfl, un4 h4 ?_⟩
    refine ⟨_, rfl, u, p, q', r, s', rfl, h4, bp, bq, br, bs, ?_⟩
    refine ⟨_, rfl, _, _, rfl, rfl, mulB (B.lit (by decide)) (by with_reducible assumption) (by decide), _, rfl, _, _, rfl, rfl, mulB (B.mul (B.lit (by decide)) (by with_reducible assumption)) (by with_reducible assumption) (by decide), _, rfl, _, _, rfl, rfl, mulB (B.mul (B.mul (B.lit (by decide)) (by with_reducible assumption)) (by with_reducible assumption)) (by with_reducible assumption) (by decide), _, rfl, _, _, rfl, rfl, mulB (B.mul (B.mul (B.mul (B.lit (by decide)) (by with_reducible assumption)) (by with_reducible assumption)) (by with_reducible assumption)) (by with_reducible assumption) (by decide), _, rfl, _, rfl, _, _, rfl, rfl, mulB (by with_reducible assumption) (by with_reducible assumption) (by decide), _, rfl, _, rfl, _, _, rfl, rfl, mulB (by with_reducible assumption) (by with_reducible assumption) (by decide), _, rfl, _, _, rfl, rfl, mulB (B.lit (by decide)) (by with_reducible assumption) (by decide), _, rfl, _, _, rfl, rfl, mulB (B.mul (B.lit (by decide)) (by with_reducible assumption)) (by with_reducible assumption) (by decide), _, _, rfl, rfl, _, _, rfl, rfl, mulB (B.mul (by with_reducible assumption) (by with_reducible assumption)) (B.add (B.mul (by with_reducible assumption) (by with_reducible assumption)) (B.mul (B.mul (B.lit (by decide)) (by with_reducible assumption)) (by with_reducible assumption))) (by decide), _, _, rfl, rfl, _, rfl, _, rfl, _, _, rfl, rfl, mulB (by with_reducible assumption) (by with_reducible assumption) (by decide), _, rfl, _, _, rfl, rfl, mulB (B.lit (by decide)) (by with_reducible assumption) (by decide), _, rfl, _, _, rfl, rfl, mulB (B.mul (B.lit (by decide)) (by with_reducible assumption)) (by with_reducible assumption) (by decide), _, rfl, _, rfl, _, _, rfl, rfl, mulB (by with_reducible assumption) (by with_reducible assumption) (by decide), _, _, rfl, rfl, _, _, rfl, rfl, mulB (B.mul (by with_reducible assumption) (by with_reducible assumption)) (B.add (B.mul (B.mul (B.lit (by decide)) (by with_reducible assumption)) (by with_reducible assumption)) (B.mul (by with_reducible assumption) (by with_reducible assumption))) (by decide), _, _, rfl, rfl, _, rfl, _, _, rfl, rfl, mulB (B.lit (by decide)) (by with_reducible assumption) (by decide), _, rfl, _, _, rfl, rfl, mulB (B.mul (B.lit (by decide)) (by with_reducible assumption)) (by with_reducible assumption) (by decide), _, rfl, _, _, rfl, rfl, mulB (B.mul (B.mul (B.lit (by decide)) (by with_reducible assumption)) (by with_reducible assumption)) (by with_reducible assumption) (by decide), _, rfl, _, _, rfl, rfl, mulB (B.mul (B.mul (B.mul (B.lit (by decide)) (by with_reducible assumption)) (by with_reducible assumption)) (by with_reducible assumption)) (by with_reducible assumption) (by decide), _, _, rfl, rfl, ?_⟩
    refine ⟨_, rfl, _, _, rfl, rfl, mulB (B.lit (by decide)) (by with_reducible assumption) (by decide), _, rfl, _, _, rfl, rfl, mulB (B.mul (B.lit (by decide)) (by with_reducible assumption)) (by with_reducible assumption) (by decide), _, rfl, _, _, rfl, rfl, mulB (B.mul (B.mul (B.lit (by decide)) (by with_reducible assumption)) (by with_reducible assumption)) (by with_reducible assumption) (by decide), _, rfl, _, _, rfl, rfl, mulB (B.mul (B.mul (B.mul (B.lit (by decide)) (by with_reducible assumption)) (by with_reducible assumption)) (by with_reducible assumption)) (by with_reducible assumption) (by decide), _, rfl, _, rfl, _, _, rfl, rfl, mulB (by with_reducible assumption) (by with_reducible assumption) (by decide), _, rfl, _, _, rfl, rfl, mulB (B.lit (by decide)) (by with_reducible assumption) (by decide), _, rfl, _, _, rfl, rfl, mulB (B.mul (B.lit (by decide)) (by with_reducible assumption)) (by with_reducible assumption) (by decide), _, rfl, _, rfl, _, _, rfl, rfl, mulB (by with_reducible assumption) (by with_reducible assumption) (by decide), _, _, rfl, rfl, _, _, rfl, rfl, mulB (B.mul (by with_reducible assumption) (by with_reducible assumption)) (B.add (B.mul (B.mul (B.lit (by decide)) (by with_reducible assumption)) (by with_reducible assumption)) (B.mul (by with_reducible assumption) (by with_reducible assumption))) (by decide), _, _, rfl, rfl, _, rfl, _, rfl, _, _, rfl, rfl, mulB (by with_reducible assumption) (by with_reducible assumption) (by decide), _, rfl, _, rfl, _, _, rfl, rfl, mulB (by with_reducible assumption) (by with_reducible assumption) (by decide), _, rfl, _, _, rfl, rfl, mulB (B.lit (by decide)) (by with_reducible assumption) (by decide), _, rfl, _, _, rfl, rfl, mulB (B.mul (B.lit (by decide)) (by with_reducible assumption)) (by with_reducible assumption) (by decide), _, _, rfl, rfl, _, _, rfl, rfl, mulB (B.mul (by with_reducible assumption) (by with_reducible assumption)) (B.add (B.mul (by with_reducible assumption) (by with_reducible assumption)) (B.mul (B.mul (B.lit (by decide)) (by with_reducible assumption)) (by with_reducible assumption))) (by decide), _, _, rfl, rfl, _, rfl, _, _, rfl, rfl, mulB (B.lit (by decide)) (by with_reducible assumption) (by decide), _, rfl, _, _, rfl, rfl, mulB (B.mul (B.lit (by decide)) (by with_reducible assumption)) (by with_reducible assumption) (by decide), _, rfl, _, _, rfl, rfl, mulB (B.mul (B.mul (B.lit (by decide)) (by with_reducible assumption)) (by with_reducible assumption)) (by with_reducible assumption) (by decide), _, rfl, _, _, rfl, rfl, mulB (B.mul (B.mul (B.mul (B.lit (by decide)) (by with_reducible assumption)) (by with_reducible assumption)) (by with_reducible assumption)) (by with_reducible assumption) (by decide), _, _, rfl, rfl, ?_⟩
    have be : B 800 (p * s' - q' * r) := B.sub (B.mul bp bs) (B.mul bq br)
    have b2 : B _ (3 * a * p * p * r + b * p * (p * s' + 2 * q' * r) + c * q' * (2 * p * s' + q' * r) + 3 * d * q' * q' * s') := (B.add (B.add (B.add (B.mul (B.mul (B.mul (B.mul (B.lit (by decide)) (by with_reducible assumption)) (by with_reducible assumption)) (by with_reducible assumption)) (by with_reducible assumption)) (B.mul (B.mul (by with_reducible assumption) (by with_reducible assumption)) (B.add (B.mul (by with_reducible assumption) (by with_reducible assumption)) (B.mul (B.mul (B.lit (by decide)) (by with_reducible assumption)) (by with_reducible assumption))))) (B.mul (B.mul (by with_reducible assumption) (by with_reducible assumption)) (B.add (B.mul (B.mul (B.lit (by decide)) (by with_reducible assumption)) (by with_reducible assumption)) (B.mul (by with_reducible assumption) (by with_reducible assumption))))) (B.mul (B.mul (B.mul (B.mul (B.lit (by decide)) (by with_reducible assumption)) (by with_reducible assumption)) (by with_reducible assumption)) (by with_reducible assumption)))
    have b3 : B _ (3 * a * p * r * r + b * r * (2 * p * s' + q' * r) + c * s' * (p * s' + 2 * q' * r) + 3 * d * q' * s' * s') := (B.add (B.add (B.add (B.mul (B.mul (B.mul (B.mul (B.lit (by decide)) (by with_reducible assumption)) (by with_reducible assumption)) (by with_reducible assumption)) (by with_reducible assumption)) (B.mul (B.mul (by with_reducible assumption) (by with_reducible assumption)) (B.add (B.mul (B.mul (B.lit (by decide)) (by with_reducible assumption)) (by with_reducible assumption)) (B.mul (by with_reducible assumption) (by with_reducible assumption))))) (B.mul (B.mul (by with_reducible assumption) (by with_reducible assumption)) (B.add (B.mul (by with_reducible assumption) (by with_reducible assumption)) (B.mul (B.mul (B.lit (by decide)) (by with_reducible assumption)) (by with_reducible assumption))))) (B.mul (B.mul (B.mul (B.mul (B.lit (by decide)) (by with_reducible assumption)) (by with_reducible assumption)) (by with_reducible assumption)) (by with_reducible assumption)))
    have f1 : B 6400 (fv a b c d p q') := B.add (B.add (B.add (B.mul (B.mul (B.mul ba bp) bp) bp) (B.mul (B.mul (B.mul bb bp) bp) bq)) (B.mul (B.mul (B.mul bc bp) bq) bq)) (B.mul (B.mul (B.mul bd bq) bq) bq)
    have f2 : B 6400 (fv a b c d r s') := B.add (B.add (B.add (B.mul (B.mul (B.mul ba br) br) br) (B.mul (B.mul (B.mul bb br) br) bs)) (B.mul (B.mul (B.mul bc br) bs) bs)) (B.mul (B.mul (B.mul bd bs) bs) bs)
    refine ⟨_, rfl, _, rfl, _, rfl, _, rfl, t, a, b, c, d, p, q', rfl, ht, ba, bb, bc, bd, bp, bq, _, _, rfl, rfl, mulB be f1 (by decide), ?_⟩
    refine ⟨_, rfl, _, rfl, _, _, rfl, rfl, mulB be b2 (by decide), _, rfl, _, rfl, _, _, rfl, rfl, mulB be b3 (by decide), ?_⟩
    refine ⟨_, rfl, _, rfl, _, rfl, _, rfl, t, a, b, c, d, r, s', rfl, ht, ba, bb, bc, bd, br, bs, _, _, rfl, rfl, mulB be f2 (by decide), sl4, fun x nx => ?_⟩
    exact q x _ (Ex0.new nx) upd_same
theorem ok_Form___init__ (T : Txt K mg C_Form C_Double) : MDef (fun p f => Mk K C_Form f) P w K mg base 4 ["self", "coefficients"] (sp_Form___init__ K C_Form C_Double) := by
  obtain ⟨p_, f_, fd_, R_, F_⟩ := T.e_Form___init__
  obtain ⟨f_are_short_integers, fd_are_short_integers, g_are_short_integers, k_are_short_integers, b_are_short_integers, G_are_short_integers⟩ := (ok_are_short_integers (P := P) (w := w) (base := base) T)
  refine ⟨p_, f_, fd_, R_, F_.binds (ps := ["self", "coefficients"]) (fun _ _ _ _ _ _ us hl => match us, hl with | [_, _], _ => rfl), ?_⟩
  refine F_.ok sc_Form___init__ (fun vs H Q E h => ?_) (fun cdv A outer s H vs Q E hr h => ?_)
  · first | (obtain ⟨rfl, _⟩ := h; rfl) | (obtain ⟨_, rfl, _⟩ := h; rfl) | (obtain ⟨_, _, rfl, _⟩ := h; rfl) | (obtain ⟨_, _, _, rfl, _⟩ := h; rfl) | (obtain ⟨_, _, _, _, rfl, _⟩ := h; rfl) | (obtain ⟨_, _, _, _, _, rfl, _⟩ := h; rfl) | (obtain ⟨_, _, _, _, _, _, rfl, _⟩ := h; rfl) | (obtain ⟨_, _, _, _, _, _, _, rfl, _⟩ := h; rfl) | (obtain ⟨_, _, _, _, _, _, _, _, rfl, _⟩ := h; rfl) | (obtain ⟨_, _, _, _, _, _, _, _, _, rfl, _⟩ := h; rfl) | (obtain ⟨_, _, _, _, _, _, _, _, _, _, rfl, _⟩ := h; rfl) | (obtain ⟨_, _, _, _, _, _, _, _, _, _, _, rfl, _⟩ := h; rfl) | (obtain ⟨_, _, _, _, _, _, _, _, _, _, _, _, rfl, _⟩ := h; rfl) | (obtain ⟨_, _, _, _, _, _, _, _, _, _, _, _, _, rfl, _⟩ := h; rfl) | (obtain ⟨_, _, _, _, _, _, _, _, _, _, _, _, _, _, rfl, _⟩ := h; rfl) | (obtain ⟨_, _, _, _, _, _, _, _, _, _, _, _, _, _, _, rfl, _⟩ := h; rfl) | (obtain ⟨_, _, _, _, _, _, _, _, _, _, _, _, _, _, _, _, rfl, _⟩ := h; rfl) | (obtain ⟨_, _, _, _, _, _, _, _, _, _, _, _, _, _, _, _, _, rfl, _⟩ := h; rfl) | (obtain ⟨_, _, _, _, _, _, _, _, _, _, _, _, _, _, _, _, _, _, rfl, _⟩ := h; rfl) | (obtain ⟨_, _, _, _, _, _, _, _, _, _, _, _, _, _, _, _, _, _, _, rfl, _⟩ := h; rfl) | (obtain ⟨_, _, _, _, _, _, _, _, _, _, _, _, _, _, _, _, _, _, _, _, rfl, _⟩ := h; rfl) | (obtain ⟨_, _, _, _, _, _, _, _, _, _, _, _, _, _, _, _, _, _, _, _, _, rfl, _⟩ := h; rfl) | (obtain ⟨_, _, _, _, _, _, _, _, _, _, _, _, _, _, _, _, _, _, _, _, _, _, rfl, _⟩ := h; rfl) | (obtain ⟨_, _, _, _, _, _, _, _, _, _, _, _, _, _, _, _, _, _, _, _, _, _, _, rfl, _⟩ := h; rfl)
  · obtain ⟨x, dx, t, ns, rfl, hx, ht, hl, hs, q⟩ := h
    refine ⟨_, (pss_cons (ps_if (pt_not (pt_val (pe_call G_are_short_integers (hr.mono (by decide)) (by rfl) g_are_short_integers k_are_short_integers b_are_short_integers .nil pass0 (pa_cons (pv 1) (pa_cons pe_int pa_nil)))))
      pss_never
      pss_nil)
    (pss_one (ps_fld (pv 0) (pe_callTy call_tuple_of (by rfl) T.b_tuple (by decide +kernel) (pa_cons (pv 1) pa_nil)) (by rfl)))), ?_⟩
    refine ⟨_, rfl, t, ns, by rw [hl]; rfl, ht, by omega, hs, fun H1 e1 => ⟨_, rfl, ?_⟩⟩
    refine iteF ⟨_, rfl, t, _, rfl, .inr ⟨SqT.of (Ex0.ti e1 ht), ?_⟩⟩
    refine ⟨_, rfl, x, C_Form, dx, _, rfl, e1.ap hx, T.cl_Form, T.na_Form_coefficients, (by decide : (0:Nat) < 1000), ?_⟩
    exact q _ (fun b o n e => by rw [upd_ne n]; exact e1.ap e) upd_same
theorem ok_form_of (T : Txt K mg C_Form C_Double) : Def P w K mg base 6 "form_of" ["coefficients"] (sp_form_of K C_Form C_Double) := by
  obtain ⟨f_, fd_, g_, F_⟩ := T.d_form_of
  obtain ⟨p_Form___init__, f_Form___init__, fd_Form___init__, R_Form___init__, b_Form___init__, G_Form___init__⟩ := (ok_Form___init__ (P := P) (w := w) (base := base) T)
  refine ⟨f_, fd_, g_, F_.kp, F_.binds (ps := ["coefficients"]) (fun _ _ _ _ _ _ us hl => match us, hl with | [_], _ => rfl), ?_⟩
  refine F_.ok sc_form_of (fun vs H Q E h => ?_) (fun cdv A outer s H vs Q E hr h => ?_)
  · first | (obtain ⟨rfl, _⟩ := h; rfl) | (obtain ⟨_, rfl, _⟩ := h; rfl) | (obtain ⟨_, _, rfl, _⟩ := h; rfl) | (obtain ⟨_, _, _, rfl, _⟩ := h; rfl) | (obtain ⟨_, _, _, _, rfl, _⟩ := h; rfl) | (obtain ⟨_, _, _, _, _, rfl, _⟩ := h; rfl) | (obtain ⟨_, _, _, _, _, _, rfl, _⟩ := h; rfl) | (obtain ⟨_, _, _, _, _, _, _, rfl, _⟩ := h; rfl) | (obtain ⟨_, _, _, _, _, _, _, _, rfl, _⟩ := h; rfl) | (obtain ⟨_, _, _, _, _, _, _, _, _, rfl, _⟩ := h; rfl) | (obtain ⟨_, _, _, _, _, _, _, _, _, _, rfl, _⟩ := h; rfl) | (obtain ⟨_, _, _, _, _, _, _, _, _, _, _, rfl, _⟩ := h; rfl) | (obtain ⟨_, _, _, _, _, _, _, _, _, _, _, _, rfl, _⟩ := h; rfl) | (obtain ⟨_, _, _, _, _, _, _, _, _, _, _, _, _, rfl, _⟩ := h; rfl) | (obtain ⟨_, _, _, _, _, _, _, _, _, _, _, _, _, _, rfl, _⟩ := h; rfl) | (obtain ⟨_, _, _, _, _, _, _, _, _, _, _, _, _, _, _, rfl, _⟩ := h; rfl) | (obtain ⟨_, _, _, _, _, _, _, _, _, _, _, _, _, _, _, _, rfl, _⟩ := h; rfl) | (obtain ⟨_, _, _, _, _, _, _, _, _, _, _, _, _, _, _, _, _, rfl, _⟩ := h; rfl) | (obtain ⟨_, _, _, _, _, _, _, _, _, _, _, _, _, _, _, _, _, _, rfl, _⟩ := h; rfl) | (obtain ⟨_, _, _, _, _, _, _, _, _, _, _, _, _, _, _, _, _, _, _, rfl, _⟩ := h; rfl) | (obtain ⟨_, _, _, _, _, _, _, _, _, _, _, _, _, _, _, _, _, _, _, _, rfl, _⟩ := h; rfl) | (obtain ⟨_, _, _, _, _, _, _, _, _, _, _, _, _, _, _, _, _, _, _, _, _, rfl, _⟩ := h; rfl) | (obtain ⟨_, _, _, _, _, _, _, _, _, _, _, _, _, _, _, _, _, _, _, _, _, _, rfl, _⟩ := h; rfl) | (obtain ⟨_, _, _, _, _, _, _, _, _, _, _, _, _, _, _, _, _, _, _, _, _, _, _, rfl, _⟩ := h; rfl)
  · obtain ⟨t, ns, rfl, ht, q⟩ := h
    refine ⟨_, (pss_cons (ps_set (i := 1) sc_form_of.nd rfl (.inl rfl) (pe_make R_Form___init__ G_Form___init__ (hr.mono (by decide)) (by rfl) T.g_Form b_Form___init__ .nil pass0 (pa_cons (pe_tup (pa_cons pe_int (pa_cons pe_int (pa_cons pe_int (pa_cons pe_int pa_nil))))) pa_nil)))
    (pss_cons (ps_fld (pv 1) (pv 0) (by rfl))
    (pss_one (ps_ret (pv 1))))), ?_⟩
    refine ⟨sl4, fun t0 n0 => ?_⟩
    intro x dx nx ndx ne
    have e0 : Ex0 H (upd H t0 (.tup [.int 0, .int 0, .int 0, .int 0])) := Ex0.new n0
    have hx0 : H x = none := Fx.free e0 (fun z => z) nx
    have hd0 : H dx = none := Fx.free e0 (fun z => z) ndx
    have nt : t0 ≠ x := ne_of_none (show upd H t0 (.tup [.int 0, .int 0, .int 0, .int 0]) t0 = some _ from upd_same) nx
    have nd : t0 ≠ dx := ne_of_none (show upd H t0 (.tup [.int 0, .int 0, .int 0, .int 0]) t0 = some _ from upd_same) ndx
    refine ⟨x, dx, t0, [0, 0, 0, 0], rfl, upd_same, ?_, rfl, fun n hn => ?_, fun H' e1 e2 => ⟨rfl, ?_⟩⟩
    · show (upd (upd (upd H t0 _) dx _) x _) t0 = _
      rw [upd_ne nt, upd_ne nd]
      exact upd_same
    · have : n = 0 := by simpa using hn
      rw [this]
      exact ⟨by decide, by decide⟩
    refine ⟨_, rfl, _, rfl, x, C_Form, dx, _, rfl, e2, T.cl_Form, T.na_Form_coefficients, (by decide : (1:Nat) < 1000), ?_⟩
    refine ⟨_, rfl, ?_⟩
    have ex : ∀ b o, H b = some o → b ≠ x ∧ H' b = some o := fun b o e => by
      have n1 : b ≠ x := ne_of_none e hx0
      have n2 : b ≠ dx := ne_of_none e hd0
      refine ⟨n1, e1 b o n1 ?_⟩
      rw [upd_ne n1, upd_ne n2]
      exact e0.ap e
    refine q x _ (Ex0.of fun b o e => ?_) ⟨dx, t, ?_, ?_⟩
    · rw [upd_ne (ex b o e).1]
      exact (ex b o e).2
    · rw [upd_same, putF_same]
    · show (upd H' x _) t = _
      rw [upd_ne (ex _ _ ht).1]
      exact (ex _ _ ht).2
theorem ok_Form_coefficients (T : Txt K mg C_Form C_Double) : MDef (fun p f => PropOf K C_Form "coefficients" p f) P w K mg base 1 ["self"] (sp_Form_coefficients K C_Form C_Double) := by
  obtain ⟨p_, f_, fd_, R_, F_⟩ := T.e_Form_coefficients
  refine ⟨p_, f_, fd_, R_, F_.binds (ps := ["self"]) (fun _ _ _ _ _ _ us hl => match us, hl with | [_], _ => rfl), ?_⟩
  refine F_.ok sc_Form_coefficients (fun vs H Q E h => ?_) (fun cdv A outer s H vs Q E hr h => ?_)
  · first | (obtain ⟨rfl, _⟩ := h; rfl) | (obtain ⟨_, rfl, _⟩ := h; rfl) | (obtain ⟨_, _, rfl, _⟩ := h; rfl) | (obtain ⟨_, _, _, rfl, _⟩ := h; rfl) | (obtain ⟨_, _, _, _, rfl, _⟩ := h; rfl) | (obtain ⟨_, _, _, _, _, rfl, _⟩ := h; rfl) | (obtain ⟨_, _, _, _, _, _, rfl, _⟩ := h; rfl) | (obtain ⟨_, _, _, _, _, _, _, rfl, _⟩ := h; rfl) | (obtain ⟨_, _, _, _, _, _, _, _, rfl, _⟩ := h; rfl) | (obtain ⟨_, _, _, _, _, _, _, _, _, rfl, _⟩ := h; rfl) | (obtain ⟨_, _, _, _, _, _, _, _, _, _, rfl, _⟩ := h; rfl) | (obtain ⟨_, _, _, _, _, _, _, _, _, _, _, rfl, _⟩ := h; rfl) | (obtain ⟨_, _, _, _, _, _, _, _, _, _, _, _, rfl, _⟩ := h; rfl) | (obtain ⟨_, _, _, _, _, _, _, _, _, _, _, _, _, rfl, _⟩ := h; rfl) | (obtain ⟨_, _, _, _, _, _, _, _, _, _, _, _, _, _, rfl, _⟩ := h; rfl) | (obtain ⟨_, _, _, _, _, _, _, _, _, _, _, _, _, _, _, rfl, _⟩ := h; rfl) | (obtain ⟨_, _, _, _, _, _, _, _, _, _, _, _, _, _, _, _, rfl, _⟩ := h; rfl) | (obtain ⟨_, _, _, _, _, _, _, _, _, _, _, _, _, _, _, _, _, rfl, _⟩ := h; rfl) | (obtain ⟨_, _, _, _, _, _, _, _, _, _, _, _, _, _, _, _, _, _, rfl, _⟩ := h; rfl) | (obtain ⟨_, _, _, _, _, _, _, _, _, _, _, _, _, _, _, _, _, _, _, rfl, _⟩ := h; rfl) | (obtain ⟨_, _, _, _, _, _, _, _, _, _, _, _, _, _, _, _, _, _, _, _, rfl, _⟩ := h; rfl) | (obtain ⟨_, _, _, _, _, _, _, _, _, _, _, _, _, _, _, _, _, _, _, _, _, rfl, _⟩ := h; rfl) | (obtain ⟨_, _, _, _, _, _, _, _, _, _, _, _, _, _, _, _, _, _, _, _, _, _, rfl, _⟩ := h; rfl) | (obtain ⟨_, _, _, _, _, _, _, _, _, _, _, _, _, _, _, _, _, _, _, _, _, _, _, rfl, _⟩ := h; rfl)
  · obtain ⟨x, ns, rfl, ⟨dx, t, hx, ht⟩, q⟩ := h
    refine ⟨_, (pss_one (ps_ret (pe_fld (pv 0) (by rfl)))), ?_⟩
    exact ⟨_, rfl, x, C_Form, dx, _, .ref t, rfl, hx, T.cl_Form, T.na_Form_coefficients, lk_same, q t ht⟩
theorem ok_Form_discriminant (T : Txt K mg C_Form C_Double) : MDef (fun p f => PropOf K C_Form "discriminant" p f) P w K mg base 2 ["self"] (sp_Form_discriminant K C_Form C_Double) := by
  obtain ⟨p_, f_, fd_, R_, F_⟩ := T.e_Form_discriminant
  obtain ⟨f_form_discriminant, fd_form_discriminant, g_form_discriminant, k_form_discriminant, b_form_discriminant, G_form_discriminant⟩ := (ok_form_discriminant (P := P) (w := w) (base := base) T)
  refine ⟨p_, f_, fd_, R_, F_.binds (ps := ["self"]) (fun _ _ _ _ _ _ us hl => match us, hl with | [_], _ => rfl), ?_⟩
  refine F_.ok sc_Form_discriminant (fun vs H Q E h => ?_) (fun cdv A outer s H vs Q E hr h => ?_)
  · first | (obtain ⟨rfl, _⟩ := h; rfl) | (obtain ⟨_, rfl, _⟩ := h; rfl) | (obtain ⟨_, _, rfl, _⟩ := h; rfl) | (obtain ⟨_, _, _, rfl, _⟩ := h; rfl) | (obtain ⟨_, _, _, _, rfl, _⟩ := h; rfl) | (obtain ⟨_, _, _, _, _, rfl, _⟩ := h; rfl) | (obtain ⟨_, _, _, _, _, _, rfl, _⟩ := h; rfl) | (obtain ⟨_, _, _, _, _, _, _, rfl, _⟩ := h; rfl) | (obtain ⟨_, _, _, _, _, _, _, _, rfl, _⟩ := h; rfl) | (obtain ⟨_, _, _, _, _, _, _, _, _, rfl, _⟩ := h; rfl) | (obtain ⟨_, _, _, _, _, _, _, _, _, _, rfl, _⟩ := h; rfl) | (obtain ⟨_, _, _, _, _, _, _, _, _, _, _, rfl, _⟩ := h; rfl) | (obtain ⟨_, _, _, _, _, _, _, _, _, _, _, _, rfl, _⟩ := h; rfl) | (obtain ⟨_, _, _, _, _, _, _, _, _, _, _, _, _, rfl, _⟩ := h; rfl) | (obtain ⟨_, _, _, _, _, _, _, _, _, _, _, _, _, _, rfl, _⟩ := h; rfl) | (obtain ⟨_, _, _, _, _, _, _, _, _, _, _, _, _, _, _, rfl, _⟩ := h; rfl) | (obtain ⟨_, _, _, _, _, _, _, _, _, _, _, _, _, _, _, _, rfl, _⟩ := h; rfl) | (obtain ⟨_, _, _, _, _, _, _, _, _, _, _, _, _, _, _, _, _, rfl, _⟩ := h; rfl) | (obtain ⟨_, _, _, _, _, _, _, _, _, _, _, _, _, _, _, _, _, _, rfl, _⟩ := h; rfl) | (obtain ⟨_, _, _, _, _, _, _, _, _, _, _, _, _, _, _, _, _, _, _, rfl, _⟩ := h; rfl) | (obtain ⟨_, _, _, _, _, _, _, _, _, _, _, _, _, _, _, _, _, _, _, _, rfl, _⟩ := h; rfl) | (obtain ⟨_, _, _, _, _, _, _, _, _, _, _, _, _, _, _, _, _, _, _, _, _, rfl, _⟩ := h; rfl) | (obtain ⟨_, _, _, _, _, _, _, _, _, _, _, _, _, _, _, _, _, _, _, _, _, _, rfl, _⟩ := h; rfl) | (obtain ⟨_, _, _, _, _, _, _, _, _, _, _, _, _, _, _, _, _, _, _, _, _, _, _, rfl, _⟩ := h; rfl)
  · obtain ⟨x, a, b, c, d, rfl, ⟨dx, t, hx, ht⟩, ba, bb, bc, bd, q⟩ := h
    refine ⟨_, (pss_one (ps_ret (pe_call G_form_discriminant (hr.mono (by decide)) (by rfl) g_form_discriminant k_form_discriminant b_form_discriminant .nil pass0 (pa_cons (pe_fld (pv 0) (by rfl)) pa_nil)))), ?_⟩
    exact ⟨_, rfl, x, C_Form, dx, _, .ref t, rfl, hx, T.cl_Form, T.na_Form_coefficients, lk_same, t, a, b, c, d, rfl, ht, ba, bb, bc, bd, q⟩
theorem ok_Form___call__ (T : Txt K mg C_Form C_Double) : MDef (fun p f => StX.CallO K C_Form f) P w K mg base 4 ["self", "x", "y"] (sp_Form___call__ K C_Form C_Double) := by
  obtain ⟨p_, f_, fd_, R_, F_⟩ := T.e_Form___call__
  obtain ⟨f_check_integer, fd_check_integer, g_check_integer, k_check_integer, b_check_integer, G_check_integer⟩ := (ok_check_integer (P := P) (w := w) (base := base) T)
  obtain ⟨f_form_value, fd_form_value, g_form_value, k_form_value, b_form_value, G_form_value⟩ := (ok_form_value (P := P) (w := w) (base := base) T)
  refine ⟨p_, f_, fd_, R_, F_.binds (ps := ["self", "x", "y"]) (fun _ _ _ _ _ _ us hl => match us, hl with | [_, _, _], _ => rfl), ?_⟩
  refine F_.ok sc_Form___call__ (fun vs H Q E h => ?_) (fun cdv A outer s H vs Q E hr h => ?_)
  · first | (obtain ⟨rfl, _⟩ := h; rfl) | (obtain ⟨_, rfl, _⟩ := h; rfl) | (obtain ⟨_, _, rfl, _⟩ := h; rfl) | (obtain ⟨_, _, _, rfl, _⟩ := h; rfl) | (obtain ⟨_, _, _, _, rfl, _⟩ := h; rfl) | (obtain ⟨_, _, _, _, _, rfl, _⟩ := h; rfl) | (obtain ⟨_, _, _, _, _, _, rfl, _⟩ := h; rfl) | (obtain ⟨_, _, _, _, _, _, _, rfl, _⟩ := h; rfl) | (obtain ⟨_, _, _, _, _, _, _, _, rfl, _⟩ := h; rfl) | (obtain ⟨_, _, _, _, _, _, _, _, _, rfl, _⟩ := h; rfl) | (obtain ⟨_, _, _, _, _, _, _, _, _, _, rfl, _⟩ := h; rfl) | (obtain ⟨_, _, _, _, _, _, _, _, _, _, _, rfl, _⟩ := h; rfl) | (obtain ⟨_, _, _, _, _, _, _, _, _, _, _, _, rfl, _⟩ := h; rfl) | (obtain ⟨_, _, _, _, _, _, _, _, _, _, _, _, _, rfl, _⟩ := h; rfl) | (obtain ⟨_, _, _, _, _, _, _, _, _, _, _, _, _, _, rfl, _⟩ := h; rfl) | (obtain ⟨_, _, _, _, _, _, _, _, _, _, _, _, _, _, _, rfl, _⟩ := h; rfl) | (obtain ⟨_, _, _, _, _, _, _, _, _, _, _, _, _, _, _, _, rfl, _⟩ := h; rfl) | (obtain ⟨_, _, _, _, _, _, _, _, _, _, _, _, _, _, _, _, _, rfl, _⟩ := h; rfl) | (obtain ⟨_, _, _, _, _, _, _, _, _, _, _, _, _, _, _, _, _, _, rfl, _⟩ := h; rfl) | (obtain ⟨_, _, _, _, _, _, _, _, _, _, _, _, _, _, _, _, _, _, _, rfl, _⟩ := h; rfl) | (obtain ⟨_, _, _, _, _, _, _, _, _, _, _, _, _, _, _, _, _, _, _, _, rfl, _⟩ := h; rfl) | (obtain ⟨_, _, _, _, _, _, _, _, _, _, _, _, _, _, _, _, _, _, _, _, _, rfl, _⟩ := h; rfl) | (obtain ⟨_, _, _, _, _, _, _, _, _, _, _, _, _, _, _, _, _, _, _, _, _, _, rfl, _⟩ := h; rfl) | (obtain ⟨_, _, _, _, _, _, _, _, _, _, _, _, _, _, _, _, _, _, _, _, _, _, _, rfl, _⟩ := h; rfl)
  · obtain ⟨z, a, b, c, d, x, y, rfl, ⟨dx, t, hx, ht⟩, ba, bb, bc, bd, sx, sy, q⟩ := h
    refine ⟨_, (pss_cons (ps_expr (pe_call G_check_integer (hr.mono (by decide)) (by rfl) g_check_integer k_check_integer b_check_integer .nil pass0 (pa_cons (pv 1) pa_nil)))
    (pss_cons (ps_expr (pe_call G_check_integer (hr.mono (by decide)) (by rfl) g_check_integer k_check_integer b_check_integer .nil pass0 (pa_cons (pv 2) pa_nil)))
    (pss_one (ps_ret (pe_call G_form_value (hr.mono (by decide)) (by rfl) g_form_value k_form_value b_form_value .nil pass0 (pa_cons (pe_fld (pv 0) (by rfl)) (pa_cons (pv 1) (pa_cons (pv 2) pa_nil)))))))), ?_⟩
    refine ⟨_, rfl, x, rfl, sx, _, rfl, y, rfl, sy, ?_⟩
    exact ⟨_, rfl, z, C_Form, dx, _, .ref t, rfl, hx, T.cl_Form, T.na_Form_coefficients, lk_same, _, rfl, _, rfl, t, a, b, c, d, x, y, rfl, ht, ba, bb, bc, bd, sx.b, sy.b, q⟩
theorem ok_Form_led (T : Txt K mg C_Form C_Double) : MDef (fun p f => Meth K C_Form "led" f) P w K mg base 7 ["self", "change"] (sp_Form_led K C_Form C_Double) := by
  obtain ⟨p_, f_, fd_, R_, F_⟩ := T.e_Form_led
  obtain ⟨f_check_change, fd_check_change, g_check_change, k_check_change, b_check_change, G_check_change⟩ := (ok_check_change (P := P) (w := w) (base := base) T)
  obtain ⟨f_form_led, fd_form_led, g_form_led, k_form_led, b_form_led, G_form_led⟩ := (ok_form_led (P := P) (w := w) (base := base) T)
  obtain ⟨f_form_of, fd_form_of, g_form_of, k_form_of, b_form_of, G_form_of⟩ := (ok_form_of (P := P) (w := w) (base := base) T)
  refine ⟨p_, f_, fd_, R_, F_.binds (ps := ["self", "change"]) (fun _ _ _ _ _ _ us hl => match us, hl with | [_, _], _ => rfl), ?_⟩
  refine F_.ok sc_Form_led (fun vs H Q E h => ?_) (fun cdv A outer s H vs Q E hr h => ?_)
  · first | (obtain ⟨rfl, _⟩ := h; rfl) | (obtain ⟨_, rfl, _⟩ := h; rfl) | (obtain ⟨_, _, rfl, _⟩ := h; rfl) | (obtain ⟨_, _, _, rfl, _⟩ := h; rfl) | (obtain ⟨_, _, _, _, rfl, _⟩ := h; rfl) | (obtain ⟨_, _, _, _, _, rfl, _⟩ := h; rfl) | (obtain ⟨_, _, _, _, _, _, rfl, _⟩ := h; rfl) | (obtain ⟨_, _, _, _, _, _, _, rfl, _⟩ := h; rfl) | (obtain ⟨_, _, _, _, _, _, _, _, rfl, _⟩ := h; rfl) | (obtain ⟨_, _, _, _, _, _, _, _, _, rfl, _⟩ := h; rfl) | (obtain ⟨_, _, _, _, _, _, _, _, _, _, rfl, _⟩ := h; rfl) | (obtain ⟨_, _, _, _, _, _, _, _, _, _, _, rfl, _⟩ := h; rfl) | (obtain ⟨_, _, _, _, _, _, _, _, _, _, _, _, rfl, _⟩ := h; rfl) | (obtain ⟨_, _, _, _, _, _, _, _, _, _, _, _, _, rfl, _⟩ := h; rfl) | (obtain ⟨_, _, _, _, _, _, _, _, _, _, _, _, _, _, rfl, _⟩ := h; rfl) | (obtain ⟨_, _, _, _, _, _, _, _, _, _, _, _, _, _, _, rfl, _⟩ := h; rfl) | (obtain ⟨_, _, _, _, _, _, _, _, _, _, _, _, _, _, _, _, rfl, _⟩ := h; rfl) | (obtain ⟨_, _, _, _, _, _, _, _, _, _, _, _, _, _, _, _, _, rfl, _⟩ := h; rfl) | (obtain ⟨_, _, _, _, _, _, _, _, _, _, _, _, _, _, _, _, _, _, rfl, _⟩ := h; rfl) | (obtain ⟨_, _, _, _, _, _, _, _, _, _, _, _, _, _, _, _, _, _, _, rfl, _⟩ := h; rfl) | (obtain ⟨_, _, _, _, _, _, _, _, _, _, _, _, _, _, _, _, _, _, _, _, rfl, _⟩ := h; rfl) | (obtain ⟨_, _, _, _, _, _, _, _, _, _, _, _, _, _, _, _, _, _, _, _, _, rfl, _⟩ := h; rfl) | (obtain ⟨_, _, _, _, _, _, _, _, _, _, _, _, _, _, _, _, _, _, _, _, _, _, rfl, _⟩ := h; rfl) | (obtain ⟨_, _, _, _, _, _, _, _, _, _, _, _, _, _, _, _, _, _, _, _, _, _, _, rfl, _⟩ := h; rfl)
  · obtain ⟨z, u, a, b, c, d, p, q', r, s', rfl, hz, h4, ba, bb, bc, bd, hc, q⟩ := h
    refine ⟨_, (pss_cons (ps_expr (pe_call G_check_change (hr.mono (by decide)) (by rfl) g_check_change k_check_change b_check_change .nil pass0 (pa_cons (pv 1) pa_nil)))
    (pss_one (ps_ret (pe_call G_form_of (hr.mono (by decide)) (by rfl) g_form_of k_form_of b_form_of .nil pass0 (pa_cons (pe_call G_form_led (hr.mono (by decide)) (by rfl) g_form_led k_form_led b_form_led .nil pass0 (pa_cons (pe_fld (pv 0) (by rfl)) (pa_cons (pv 1) pa_nil))) pa_nil))))), ?_⟩
    refine ⟨_, rfl, u, p, q', r, s', rfl, h4, hc, fun H1 e1 => ?_⟩
    obtain ⟨dx, t, hx, ht⟩ := Ex0.fo e1 hz
    refine ⟨_, rfl, z, C_Form, dx, _, .ref t, rfl, hx, T.cl_Form, T.na_Form_coefficients, lk_same, _, rfl, t, u, a, b, c, d, p, q', r, s', rfl, ht, Ex0.t4 e1 h4, ba, bb, bc, bd, hc.1.b, hc.2.1.b, hc.2.2.1.b, hc.2.2.2.1.b, fun x H2 e2 hx2 => ?_⟩
    exact ⟨x, _, rfl, hx2, fun y H3 e3 hy => q y H3 ((e1.trans e2).trans e3) hy⟩
theorem ok_Double___init__ (T : Txt K mg C_Form C_Double) : MDef (fun p f => Mk K C_Double f) P w K mg base 4 ["self", "coefficients"] (sp_Double___init__ K C_Form C_Double) := by
  obtain ⟨p_, f_, fd_, R_, F_⟩ := T.e_Double___init__
  obtain ⟨f_are_short_integers, fd_are_short_integers, g_are_short_integers, k_are_short_integers, b_are_short_integers, G_are_short_integers⟩ := (ok_are_short_integers (P := P) (w := w) (base := base) T)
  refine ⟨p_, f_, fd_, R_, F_.binds (ps := ["self", "coefficients"]) (fun _ _ _ _ _ _ us hl => match us, hl with | [_, _], _ => rfl), ?_⟩
  refine F_.ok sc_Double___init__ (fun vs H Q E h => ?_) (fun cdv A outer s H vs Q E hr h => ?_)
  · first | (obtain ⟨rfl, _⟩ := h; rfl) | (obtain ⟨_, rfl, _⟩ := h; rfl) | (obtain ⟨_, _, rfl, _⟩ := h; rfl) | (obtain ⟨_, _, _, rfl, _⟩ := h; rfl) | (obtain ⟨_, _, _, _, rfl, _⟩ := h; rfl) | (obtain ⟨_, _, _, _, _, rfl, _⟩ := h; rfl) | (obtain ⟨_, _, _, _, _, _, rfl, _⟩ := h; rfl) | (obtain ⟨_, _, _, _, _, _, _, rfl, _⟩ := h; rfl) | (obtain ⟨_, _, _, _, _, _, _, _, rfl, _⟩ := h; rfl) | (obtain ⟨_, _, _, _, _, _, _, _, _, rfl, _⟩ := h; rfl) | (obtain ⟨_, _, _, _, _, _, _, _, _, _, rfl, _⟩ := h; rfl) | (obtain ⟨_, _, _, _, _, _, _, _, _, _, _, rfl, _⟩ := h; rfl) | (obtain ⟨_, _, _, _, _, _, _, _, _, _, _, _, rfl, _⟩ := h; rfl) | (obtain ⟨_, _, _, _, _, _, _, _, _, _, _, _, _, rfl, _⟩ := h; rfl) | (obtain ⟨_, _, _, _, _, _, _, _, _, _, _, _, _, _, rfl, _⟩ := h; rfl) | (obtain ⟨_, _, _, _, _, _, _, _, _, _, _, _, _, _, _, rfl, _⟩ := h; rfl) | (obtain ⟨_, _, _, _, _, _, _, _, _, _, _, _, _, _, _, _, rfl, _⟩ := h; rfl) | (obtain ⟨_, _, _, _, _, _, _, _, _, _, _, _, _, _, _, _, _, rfl, _⟩ := h; rfl) | (obtain ⟨_, _, _, _, _, _, _, _, _, _, _, _, _, _, _, _, _, _, rfl, _⟩ := h; rfl) | (obtain ⟨_, _, _, _, _, _, _, _, _, _, _, _, _, _, _, _, _, _, _, rfl, _⟩ := h; rfl) | (obtain ⟨_, _, _, _, _, _, _, _, _, _, _, _, _, _, _, _, _, _, _, _, rfl, _⟩ := h; rfl) | (obtain ⟨_, _, _, _, _, _, _, _, _, _, _, _, _, _, _, _, _, _, _, _, _, rfl, _⟩ := h; rfl) | (obtain ⟨_, _, _, _, _, _, _, _, _, _, _, _, _, _, _, _, _, _, _, _, _, _, rfl, _⟩ := h; rfl) | (obtain ⟨_, _, _, _, _, _, _, _, _, _, _, _, _, _, _, _, _, _, _, _, _, _, _, rfl, _⟩ := h; rfl)
  · obtain ⟨x, dx, t, ns, rfl, hx, ht, hl, hs, q⟩ := h
    refine ⟨_, (pss_cons (ps_if (pt_not (pt_val (pe_call G_are_short_integers (hr.mono (by decide)) (by rfl) g_are_short_integers k_are_short_integers b_are_short_integers .nil pass0 (pa_cons (pv 1) (pa_cons pe_int pa_nil)))))
      pss_never
      pss_nil)
    (pss_one (ps_fld (pv 0) (pe_callTy call_tuple_of (by rfl) T.b_tuple (by decide +kernel) (pa_cons (pv 1) pa_nil)) (by rfl)))), ?_⟩
    refine ⟨_, rfl, t, ns, by rw [hl]; rfl, ht, by omega, hs, fun H1 e1 => ⟨_, rfl, ?_⟩⟩
    refine iteF ⟨_, rfl, t, _, rfl, .inr ⟨SqT.of (Ex0.ti e1 ht), ?_⟩⟩
    refine ⟨_, rfl, x, C_Double, dx, _, rfl, e1.ap hx, T.cl_Double, T.na_Double_coefficients, (by decide : (0:Nat) < 1000), ?_⟩
    exact q _ (fun b o n e => by rw [upd_ne n]; exact e1.ap e) upd_same
theorem ok_double_of (T : Txt K mg C_Form C_Double) : Def P w K mg base 6 "double_of" ["coefficients"] (sp_double_of K C_Form C_Double) := by
  obtain ⟨f_, fd_, g_, F_⟩ := T.d_double_of
  obtain ⟨p_Double___init__, f_Double___init__, fd_Double___init__, R_Double___init__, b_Double___init__, G_Double___init__⟩ := (ok_Double___init__ (P := P) (w := w) (base := base) T)
  refine ⟨f_, fd_, g_, F_.kp, F_.binds (ps := ["coefficients"]) (fun _ _ _ _ _ _ us hl => match us, hl with | [_], _ => rfl), ?_⟩
  refine F_.ok sc_double_of (fun vs H Q E h => ?_) (fun cdv A outer s H vs Q E hr h => ?_)
  · first | (obtain ⟨rfl, _⟩ := h; rfl) | (obtain ⟨_, rfl, _⟩ := h; rfl) | (obtain ⟨_, _, rfl, _⟩ := h; rfl) | (obtain ⟨_, _, _, rfl, _⟩ := h; rfl) | (obtain ⟨_, _, _, _, rfl, _⟩ := h; rfl) | (obtain ⟨_, _, _, _, _, rfl, _⟩ := h; rfl) | (obtain ⟨_, _, _, _, _, _, rfl, _⟩ := h; rfl) | (obtain ⟨_, _, _, _, _, _, _, rfl, _⟩ := h; rfl) | (obtain ⟨_, _, _, _, _, _, _, _, rfl, _⟩ := h; rfl) | (obtain ⟨_, _, _, _, _, _, _, _, _, rfl, _⟩ := h; rfl) | (obtain ⟨_, _, _, _, _, _, _, _, _, _, rfl, _⟩ := h; rfl) | (obtain ⟨_, _, _, _, _, _, _, _, _, _, _, rfl, _⟩ := h; rfl) | (obtain ⟨_, _, _, _, _, _, _, _, _, _, _, _, rfl, _⟩ := h; rfl) | (obtain ⟨_, _, _, _, _, _, _, _, _, _, _, _, _, rfl, _⟩ := h; rfl) | (obtain ⟨_, _, _, _, _, _, _, _, _, _, _, _, _, _, rfl, _⟩ := h; rfl) | (obtain ⟨_, _, _, _, _, _, _, _, _, _, _, _, _, _, _, rfl, _⟩ := h; rfl) | (obtain ⟨_, _, _, _, _, _, _, _, _, _, _, _, _, _, _, _, rfl, _⟩ := h; rfl) | (obtain ⟨_, _, _, _, _, _, _, _, _, _, _, _, _, _, _, _, _, rfl, _⟩ := h; rfl) | (obtain ⟨_, _, _, _, _, _, _, _, _, _, _, _, _, _, _, _, _, _, rfl, _⟩ := h; rfl) | (obtain ⟨_, _, _, _, _, _, _, _, _, _, _, _, _, _, _, _, _, _, _, rfl, _⟩ := h; rfl) | (obtain ⟨_, _, _, _, _, _, _, _, _, _, _, _, _, _, _, _, _, _, _, _, rfl, _⟩ := h; rfl) | (obtain ⟨_, _, _, _, _, _, _, _, _, _, _, _, _, _, _, _, _, _, _, _, _, rfl, _⟩ := h; rfl) | (obtain ⟨_, _, _, _, _, _, _, _, _, _, _, _, _, _, _, _, _, _, _, _, _, _, rfl, _⟩ := h; rfl) | (obtain ⟨_, _, _, _, _, _, _, _, _, _, _, _, _, _, _, _, _, _, _, _, _, _, _, rfl, _⟩ := h; rfl)
  · obtain ⟨t, ns, rfl, ht, q⟩ := h
    refine ⟨_, (pss_cons (ps_set (i := 1) sc_double_of.nd rfl (.inl rfl) (pe_make R_Double___init__ G_Double___init__ (hr.mono (by decide)) (by rfl) T.g_Double b_Double___init__ .nil pass0 (pa_cons (pe_tup (pa_cons pe_int (pa_cons pe_int (pa_cons pe_int pa_nil)))) pa_nil)))
    (pss_cons (ps_fld (pv 1) (pv 0) (by rfl))
    (pss_one (ps_ret (pv 1))))), ?_⟩
    refine ⟨sl3, fun t0 n0 => ?_⟩
    intro x dx nx ndx ne
    have e0 : Ex0 H (upd H t0 (.tup [.int 0, .int 0, .int 0])) := Ex0.new n0
    have hx0 : H x = none := Fx.free e0 (fun z => z) nx
    have hd0 : H dx = none := Fx.free e0 (fun z => z) ndx
    have nt : t0 ≠ x := ne_of_none (show upd H t0 (.tup [.int 0, .int 0, .int 0]) t0 = some _ from upd_same) nx
    have nd : t0 ≠ dx := ne_of_none (show upd H t0 (.tup [.int 0, .int 0, .int 0]) t0 = some _ from upd_same) ndx
    refine ⟨x, dx, t0, [0, 0, 0], rfl, upd_same, ?_, rfl, fun n hn => ?_, fun H' e1 e2 => ⟨rfl, ?_⟩⟩
    · show (upd (upd (upd H t0 _) dx _) x _) t0 = _
      rw [upd_ne nt, upd_ne nd]
      exact upd_same
    · have : n = 0 := by simpa using hn
      rw [this]
      exact ⟨by decide, by decide⟩
    refine ⟨_, rfl, _, rfl, x, C_Double, dx, _, rfl, e2, T.cl_Double, T.na_Double_coefficients, (by decide : (1:Nat) < 1000), ?_⟩
    refine ⟨_, rfl, ?_⟩
    have ex : ∀ b o, H b = some o → b ≠ x ∧ H' b = some o := fun b o e => by
      have n1 : b ≠ x := ne_of_none e hx0
      have n2 : b ≠ dx := ne_of_none e hd0
      refine ⟨n1, e1 b o n1 ?_⟩
      rw [upd_ne n1, upd_ne n2]
      exact e0.ap e
    refine q x _ (Ex0.of fun b o e => ?_) ⟨dx, t, ?_, ?_⟩
    · rw [upd_ne (ex b o e).1]
      exact (ex b o e).2
    · rw [upd_same, putF_same]
    · show (upd H' x _) t = _
      rw [upd_ne (ex _ _ ht).1]
      exact (ex _ _ ht).2
theorem ok_Double_coefficients (T : Txt K mg C_Form C_Double) : MDef (fun p f => PropOf K C_Double "coefficients" p f) P w K mg base 1 ["self"] (sp_Double_coefficients K C_Form C_Double) := by
  obtain ⟨p_, f_, fd_, R_, F_⟩ := T.e_Double_coefficients
  refine ⟨p_, f_, fd_, R_, F_.binds (ps := ["self"]) (fun _ _ _ _ _ _ us hl => match us, hl with | [_], _ => rfl), ?_⟩
  refine F_.ok sc_Double_coefficients (fun vs H Q E h => ?_) (fun cdv A outer s H vs Q E hr h => ?_)
  · first | (obtain ⟨rfl, _⟩ := h; rfl) | (obtain ⟨_, rfl, _⟩ := h; rfl) | (obtain ⟨_, _, rfl, _⟩ := h; rfl) | (obtain ⟨_, _, _, rfl, _⟩ := h; rfl) | (obtain ⟨_, _, _, _, rfl, _⟩ := h; rfl) | (obtain ⟨_, _, _, _, _, rfl, _⟩ := h; rfl) | (obtain ⟨_, _, _, _, _, _, rfl, _⟩ := h; rfl) | (obtain ⟨_, _, _, _, _, _, _, rfl, _⟩ := h; rfl) | (obtain ⟨_, _, _, _, _, _, _, _, rfl, _⟩ := h; rfl) | (obtain ⟨_, _, _, _, _, _, _, _, _, rfl, _⟩ := h; rfl) | (obtain ⟨_, _, _, _, _, _, _, _, _, _, rfl, _⟩ := h; rfl) | (obtain ⟨_, _, _, _, _, _, _, _, _, _, _, rfl, _⟩ := h; rfl) | (obtain ⟨_, _, _, _, _, _, _, _, _, _, _, _, rfl, _⟩ := h; rfl) | (obtain ⟨_, _, _, _, _, _, _, _, _, _, _, _, _, rfl, _⟩ := h; rfl) | (obtain ⟨_, _, _, _, _, _, _, _, _, _, _, _, _, _, rfl, _⟩ := h; rfl) | (obtain ⟨_, _, _, _, _, _, _, _, _, _, _, _, _, _, _, rfl, _⟩ := h; rfl) | (obtain ⟨_, _, _, _, _, _, _, _, _, _, _, _, _, _, _, _, rfl, _⟩ := h; rfl) | (obtain ⟨_, _, _, _, _, _, _, _, _, _, _, _, _, _, _, _, _, rfl, _⟩ := h; rfl) | (obtain ⟨_, _, _, _, _, _, _, _, _, _, _, _, _, _, _, _, _, _, rfl, _⟩ := h; rfl) | (obtain ⟨_, _, _, _, _, _, _, _, _, _, _, _, _, _, _, _, _, _, _, rfl, _⟩ := h; rfl) | (obtain ⟨_, _, _, _, _, _, _, _, _, _, _, _, _, _, _, _, _, _, _, _, rfl, _⟩ := h; rfl) | (obtain ⟨_, _, _, _, _, _, _, _, _, _, _, _, _, _, _, _, _, _, _, _, _, rfl, _⟩ := h; rfl) | (obtain ⟨_, _, _, _, _, _, _, _, _, _, _, _, _, _, _, _, _, _, _, _, _, _, rfl, _⟩ := h; rfl) | (obtain ⟨_, _, _, _, _, _, _, _, _, _, _, _, _, _, _, _, _, _, _, _, _, _, _, rfl, _⟩ := h; rfl)
  · obtain ⟨x, ns, rfl, ⟨dx, t, hx, ht⟩, q⟩ := h
    refine ⟨_, (pss_one (ps_ret (pe_fld (pv 0) (by rfl)))), ?_⟩
    exact ⟨_, rfl, x, C_Double, dx, _, .ref t, rfl, hx, T.cl_Double, T.na_Double_coefficients, lk_same, q t ht⟩
theorem ok_Double_discriminant (T : Txt K mg C_Form C_Double) : MDef (fun p f => PropOf K C_Double "discriminant" p f) P w K mg base 2 ["self"] (sp_Double_discriminant K C_Form C_Double) := by
  obtain ⟨p_, f_, fd_, R_, F_⟩ := T.e_Double_discriminant
  obtain ⟨f_double_discriminant, fd_double_discriminant, g_double_discriminant, k_double_discriminant, b_double_discriminant, G_double_discriminant⟩ := (ok_double_discriminant (P := P) (w := w) (base := base) T)
  refine ⟨p_, f_, fd_, R_, F_.binds (ps := ["self"]) (fun _ _ _ _ _ _ us hl => match us, hl with | [_], _ => rfl), ?_⟩
  refine F_.ok sc_Double_discriminant (fun vs H Q E h => ?_) (fun cdv A outer s H vs Q E hr h => ?_)
  · first | (obtain ⟨rfl, _⟩ := h; rfl) | (obtain ⟨_, rfl, _⟩ := h; rfl) | (obtain ⟨_, _, rfl, _⟩ := h; rfl) | (obtain ⟨_, _, _, rfl, _⟩ := h; rfl) | (obtain ⟨_, _, _, _, rfl, _⟩ := h; rfl) | (obtain ⟨_, _, _, _, _, rfl, _⟩ := h; rfl) | (obtain ⟨_, _, _, _, _, _, rfl, _⟩ := h; rfl) | (obtain ⟨_, _, _, _, _, _, _, rfl, _⟩ := h; rfl) | (obtain ⟨_, _, _, _, _, _, _, _, rfl, _⟩ := h; rfl) | (obtain ⟨_, _, _, _, _, _, _, _, _, rfl, _⟩ := h; rfl) | (obtain ⟨_, _, _, _, _, _, _, _, _, _, rfl, _⟩ := h; rfl) | (obtain ⟨_, _, _, _, _, _, _, _, _, _, _, rfl, _⟩ := h; rfl) | (obtain ⟨_, _, _, _, _, _, _, _, _, _, _, _, rfl, _⟩ := h; rfl) | (obtain ⟨_, _, _, _, _, _, _, _, _, _, _, _, _, rfl, _⟩ := h; rfl) | (obtain ⟨_, _, _, _, _, _, _, _, _, _, _, _, _, _, rfl, _⟩ := h; rfl) | (obtain ⟨_, _, _, _, _, _, _, _, _, _, _, _, _, _, _, rfl, _⟩ := h; rfl) | (obtain ⟨_, _, _, _, _, _, _, _, _, _, _, _, _, _, _, _, rfl, _⟩ := h; rfl) | (obtain ⟨_, _, _, _, _, _, _, _, _, _, _, _, _, _, _, _, _, rfl, _⟩ := h; rfl) | (obtain ⟨_, _, _, _, _, _, _, _, _, _, _, _, _, _, _, _, _, _, rfl, _⟩ := h; rfl) | (obtain ⟨_, _, _, _, _, _, _, _, _, _, _, _, _, _, _, _, _, _, _, rfl, _⟩ := h; rfl) | (obtain ⟨_, _, _, _, _, _, _, _, _, _, _, _, _, _, _, _, _, _, _, _, rfl, _⟩ := h; rfl) | (obtain ⟨_, _, _, _, _, _, _, _, _, _, _, _, _, _, _, _, _, _, _, _, _, rfl, _⟩ := h; rfl) | (obtain ⟨_, _, _, _, _, _, _, _, _, _, _, _, _, _, _, _, _, _, _, _, _, _, rfl, _⟩ := h; rfl) | (obtain ⟨_, _, _, _, _, _, _, _, _, _, _, _, _, _, _, _, _, _, _, _, _, _, _, rfl, _⟩ := h; rfl)
  · obtain ⟨x, a, b, c, rfl, ⟨dx, t, hx, ht⟩, ba, bb, bc, q⟩ := h
    refine ⟨_, (pss_one (ps_ret (pe_call G_double_discriminant (hr.mono (by decide)) (by rfl) g_double_discriminant k_double_discriminant b_double_discriminant .nil pass0 (pa_cons (pe_fld (pv 0) (by rfl)) pa_nil)))), ?_⟩
    exact ⟨_, rfl, x, C_Double, dx, _, .ref t, rfl, hx, T.cl_Double, T.na_Double_coefficients, lk_same, t, a, b, c, rfl, ht, ba, bb, bc, q⟩
theorem ok_Double___call__ (T : Txt K mg C_Form C_Double) : MDef (fun p f => StX.CallO K C_Double f) P w K mg base 4 ["self", "x", "y"] (sp_Double___call__ K C_Form C_Double) := by
  obtain ⟨p_, f_, fd_, R_, F_⟩ := T.e_Double___call__
  obtain ⟨f_check_integer, fd_check_integer, g_check_integer, k_check_integer, b_check_integer, G_check_integer⟩ := (ok_check_integer (P := P) (w := w) (base := base) T)
  obtain ⟨f_double_value, fd_double_value, g_double_value, k_double_value, b_double_value, G_double_value⟩ := (ok_double_value (P := P) (w := w) (base := base) T)
  refine ⟨p_, f_, fd_, R_, F_.binds (ps := ["self", "x", "y"]) (fun _ _ _ _ _ _ us hl => match us, hl with | [_, _, _], _ => rfl), ?_⟩
  refine F_.ok sc_Double___call__ (fun vs H Q E h => ?_) (fun cdv A outer s H vs Q E hr h => ?_)
  · first | (obtain ⟨rfl, _⟩ := h; rfl) | (obtain ⟨_, rfl, _⟩ := h; rfl) | (obtain ⟨_, _, rfl, _⟩ := h; rfl) | (obtain ⟨_, _, _, rfl, _⟩ := h; rfl) | (obtain ⟨_, _, _, _, rfl, _⟩ := h; rfl) | (obtain ⟨_, _, _, _, _, rfl, _⟩ := h; rfl) | (obtain ⟨_, _, _, _, _, _, rfl, _⟩ := h; rfl) | (obtain ⟨_, _, _, _, _, _, _, rfl, _⟩ := h; rfl) | (obtain ⟨_, _, _, _, _, _, _, _, rfl, _⟩ := h; rfl) | (obtain ⟨_, _, _, _, _, _, _, _, _, rfl, _⟩ := h; rfl) | (obtain ⟨_, _, _, _, _, _, _, _, _, _, rfl, _⟩ := h; rfl) | (obtain ⟨_, _, _, _, _, _, _, _, _, _, _, rfl, _⟩ := h; rfl) | (obtain ⟨_, _, _, _, _, _, _, _, _, _, _, _, rfl, _⟩ := h; rfl) | (obtain ⟨_, _, _, _, _, _, _, _, _, _, _, _, _, rfl, _⟩ := h; rfl) | (obtain ⟨_, _, _, _, _, _, _, _, _, _, _, _, _, _, rfl, _⟩ := h; rfl) | (obtain ⟨_, _, _, _, _, _, _, _, _, _, _, _, _, _, _, rfl, _⟩ := h; rfl) | (obtain ⟨_, _, _, _, _, _, _, _, _, _, _, _, _, _, _, _, rfl, _⟩ := h; rfl) | (obtain ⟨_, _, _, _, _, _, _, _, _, _, _, _, _, _, _, _, _, rfl, _⟩ := h; rfl) | (obtain ⟨_, _, _, _, _, _, _, _, _, _, _, _, _, _, _, _, _, _, rfl, _⟩ := h; rfl) | (obtain ⟨_, _, _, _, _, _, _, _, _, _, _, _, _, _, _, _, _, _, _, rfl, _⟩ := h; rfl) | (obtain ⟨_, _, _, _, _, _, _, _, _, _, _, _, _, _, _, _, _, _, _, _, rfl, _⟩ := h; rfl) | (obtain ⟨_, _, _, _, _, _, _, _, _, _, _, _, _, _, _, _, _, _, _, _, _, rfl, _⟩ := h; rfl) | (obtain ⟨_, _, _, _, _, _, _, _, _, _, _, _, _, _, _, _, _, _, _, _, _, _, rfl, _⟩ := h; rfl) | (obtain ⟨_, _, _, _, _, _, _, _, _, _, _, _, _, _, _, _, _, _, _, _, _, _, _, rfl, _⟩ := h; rfl)
  · obtain ⟨z, a, b, c, x, y, rfl, ⟨dx, t, hx, ht⟩, ba, bb, bc, sx, sy, q⟩ := h
    refine ⟨_, (pss_cons (ps_expr (pe_call G_check_integer (hr.mono (by decide)) (by rfl) g_check_integer k_check_integer b_check_integer .nil pass0 (pa_cons (pv 1) pa_nil)))
    (pss_cons (ps_expr (pe_call G_check_integer (hr.mono (by decide)) (by rfl) g_check_integer k_check_integer b_check_integer .nil pass0 (pa_cons (pv 2) pa_nil)))
    (pss_one (ps_ret (pe_call G_double_value (hr.mono (by decide)) (by rfl) g_double_value k_double_value b_double_value .nil pass0 (pa_cons (pe_fld (pv 0) (by rfl)) (pa_cons (pv 1) (pa_cons (pv 2) pa_nil)))))))), ?_⟩
    refine ⟨_, rfl, x, rfl, sx, _, rfl, y, rfl, sy, ?_⟩
    exact ⟨_, rfl, z, C_Double, dx, _, .ref t, rfl, hx, T.cl_Double, T.na_Double_coefficients, lk_same, _, rfl, _, rfl, t, a, b, c, x, y, rfl, ht, ba, bb, bc, sx.b, sy.b, q⟩
theorem ok_double_led (T : Txt K mg C_Form C_Double) : Def P w K mg base 2 "double_led" ["coefficients", "change"] (sp_double_led K C_Form C_Double) := by
  obtain ⟨f_, fd_, g_, F_⟩ := T.d_double_led
  obtain ⟨f_double_value, fd_double_value, g_double_value, k_double_value, b_double_value, G_double_value⟩ := (ok_double_value (P := P) (w := w) (base := base) T)
  refine ⟨f_, fd_, g_, F_.kp, F_.binds (ps := ["coefficients", "change"]) (fun _ _ _ _ _ _ us hl => match us, hl with | [_, _], _ => rfl), ?_⟩
  refine F_.ok sc_double_led (fun vs H Q E h => ?_) (fun cdv A outer s H vs Q E hr h => ?_)
  · first | (obtain ⟨rfl, _⟩ := h; rfl) | (obtain ⟨_, rfl, _⟩ := h; rfl) | (obtain ⟨_, _, rfl, _⟩ := h; rfl) | (obtain ⟨_, _, _, rfl, _⟩ := h; rfl) | (obtain ⟨_, _, _, _, rfl, _⟩ := h; rfl) | (obtain ⟨_, _, _, _, _, rfl, _⟩ := h; rfl) | (obtain ⟨_, _, _, _, _, _, rfl, _⟩ := h; rfl) | (obtain ⟨_, _, _, _, _, _, _, rfl, _⟩ := h; rfl) | (obtain ⟨_, _, _, _, _, _, _, _, rfl, _⟩ := h; rfl) | (obtain ⟨_, _, _, _, _, _, _, _, _, rfl, _⟩ := h; rfl) | (obtain ⟨_, _, _, _, _, _, _, _, _, _, rfl, _⟩ := h; rfl) | (obtain ⟨_, _, _, _, _, _, _, _, _, _, _, rfl, _⟩ := h; rfl) | (obtain ⟨_, _, _, _, _, _, _, _, _, _, _, _, rfl, _⟩ := h; rfl) | (obtain ⟨_, _, _, _, _, _, _, _, _, _, _, _, _, rfl, _⟩ := h; rfl) | (obtain ⟨_, _, _, _, _, _, _, _, _, _, _, _, _, _, rfl, _⟩ := h; rfl) | (obtain ⟨_, _, _, _, _, _, _, _, _, _, _, _, _, _, _, rfl, _⟩ := h; rfl) | (obtain ⟨_, _, _, _, _, _, _, _, _, _, _, _, _, _, _, _, rfl, _⟩ := h; rfl) | (obtain ⟨_, _, _, _, _, _, _, _, _, _, _, _, _, _, _, _, _, rfl, _⟩ := h; rfl) | (obtain ⟨_, _, _, _, _, _, _, _, _, _, _, _, _, _, _, _, _, _, rfl, _⟩ := h; rfl) | (obtain ⟨_, _, _, _, _, _, _, _, _, _, _, _, _, _, _, _, _, _, _, rfl, _⟩ := h; rfl) | (obtain ⟨_, _, _, _, _, _, _, _, _, _, _, _, _, _, _, _, _, _, _, _, rfl, _⟩ := h; rfl) | (obtain ⟨_, _, _, _, _, _, _, _, _, _, _, _, _, _, _, _, _, _, _, _, _, rfl, _⟩ := h; rfl) | (obtain ⟨_, _, _, _, _, _, _, _, _, _, _, _, _, _, _, _, _, _, _, _, _, _, rfl, _⟩ := h; rfl) | (obtain ⟨_, _, _, _, _, _, _, _, _, _, _, _, _, _, _, _, _, _, _, _, _, _, _, rfl, _⟩ := h; rfl)
  · obtain ⟨t, u, a, b, c, p, q', r, s', rfl, ht, h4, ba, bb, bc, bp, bq, br, bs, q⟩ := h
    refine ⟨_, (pss_cons (ps_asg (pv 0) (pg_tup (by rfl) (pgs_cons (pg_name (i := 2) sc_double_led.nd rfl (.inl rfl)) (pgs_cons (pg_name (i := 3) sc_double_led.nd rfl (.inl rfl)) (pgs_cons (pg_name (i := 4) sc_double_led.nd rfl (.inl rfl)) pgs_nil)))))
    (pss_cons (ps_asg (pv 1) (pg_tup (by rfl) (pgs_cons (pg_tup (by rfl) (pgs_cons (pg_name (i := 5) sc_double_led.nd rfl (.inl rfl)) (pgs_cons (pg_name (i := 6) sc_double_led.nd rfl (.inl rfl)) pgs_nil))) (pgs_cons (pg_tup (by rfl) (pgs_cons (pg_name (i := 7) sc_double_led.nd rfl (.inl rfl)) (pgs_cons (pg_name (i := 8) sc_double_led.nd rfl (.inl rfl)) pgs_nil))) pgs_nil))))
    (pss_cons (ps_set (i := 9) sc_double_led.nd rfl (.inl rfl) (pe_op op_add (pe_op op_add (pe_op op_mulW (pe_op op_mulW (pe_op op_mulW pe_int (pv 2)) (pv 5)) (pv 7)) (pe_op op_mulW (pv 3) (pe_op op_add (pe_op op_mulW (pv 5) (pv 8)) (pe_op op_mulW (pv 6) (pv 7))))) (pe_op op_mulW (pe_op op_mulW (pe_op op_mulW pe_int (pv 4)) (pv 6)) (pv 8))))
    (pss_one (ps_ret (pe_tup (pa_cons (pe_call G_double_value (hr.mono (by decide)) (by rfl) g_double_value k_double_value b_double_value .nil pass0 (pa_cons (pv 0) (pa_cons (pv 5) (pa_cons (pv 6) pa_nil)))) (pa_cons (pv 9) (pa_cons (pe_call G_double_value (hr.mono (by decide)) (by rfl) g_double_value k_double_value b_double_value .nil pass0 (pa_cons (pv 0) (pa_cons (pv 7) (pa_cons (pv 8) pa_nil)))) pa_nil))))))))), ?_⟩
    refine ⟨_, rfl, unI3 ht ?_⟩
    refine ⟨_, rfl, un4 h4 ?_⟩
    refine ⟨_, rfl, _, _, rfl, rfl, mulB (B.lit (by decide)) (by with_reducible assumption) (by decide), _, rfl, _, _, rfl, rfl, mulB (B.mul (B.lit (by decide)) (by with_reducible assumption)) (by with_reducible assumption) (by decide), _, rfl, _, _, rfl, rfl, mulB (B.mul (B.mul (B.lit (by decide)) (by with_reducible assumption)) (by with_reducible assumption)) (by with_reducible assumption) (by decide), _, rfl, _, rfl, _, rfl, _, _, rfl, rfl, mulB (by with_reducible assumption) (by with_reducible assumption) (by decide), _, rfl, _, rfl, _, _, rfl, rfl, mulB (by with_reducible assumption) (by with_reducible assumption) (by decide), _, _, rfl, rfl, _, _, rfl, rfl, mulB (by with_reducible assumption) (B.add (B.mul (by with_reducible assumption) (by with_reducible assumption)) (B.mul (by with_reducible assumption) (by with_reducible assumption))) (by decide), _, _, rfl, rfl, _, rfl, _, _, rfl, rfl, mulB (B.lit (by decide)) (by with_reducible assumption) (by decide), _, rfl, _, _, rfl, rfl, mulB (B.mul (B.lit (by decide)) (by with_reducible assumption)) (by with_reducible assumption) (by decide), _, rfl, _, _, rfl, rfl, mulB (B.mul (B.mul (B.lit (by decide)) (by with_reducible assumption)) (by with_reducible assumption)) (by with_reducible assumption) (by decide), _, _, rfl, rfl, ?_⟩
    refine ⟨_, rfl, _, rfl, _, rfl, t, a, b, c, p, q', rfl, ht, ba, bb, bc, bp, bq, ?_⟩
    refine ⟨_, rfl, _, rfl, _, rfl, _, rfl, t, a, b, c, r, s', rfl, ht, ba, bb, bc, br, bs, sl3, fun x nx => ?_⟩
    exact q x _ (Ex0.new nx) upd_same
theorem ok_Double_led (T : Txt K mg C_Form C_Double) : MDef (fun p f => Meth K C_Double "led" f) P w K mg base 7 ["self", "change"] (sp_Double_led K C_Form C_Double) := by
  obtain ⟨p_, f_, fd_, R_, F_⟩ := T.e_Double_led
  obtain ⟨f_check_change, fd_check_change, g_check_change, k_check_change, b_check_change, G_check_change⟩ := (ok_check_change (P := P) (w := w) (base := base) T)
  obtain ⟨f_double_led, fd_double_led, g_double_led, k_double_led, b_double_led, G_double_led⟩ := (ok_double_led (P := P) (w := w) (base := base) T)
  obtain ⟨f_double_of, fd_double_of, g_double_of, k_double_of, b_double_of, G_double_of⟩ := (ok_double_of (P := P) (w := w) (base := base) T)
  refine ⟨p_, f_, fd_, R_, F_.binds (ps := ["self", "change"]) (fun _ _ _ _ _ _ us hl => match us, hl with | [_, _], _ => rfl), ?_⟩
  refine F_.ok sc_Double_led (fun vs H Q E h => ?_) (fun cdv A outer s H vs Q E hr h => ?_)
  · first | (obtain ⟨rfl, _⟩ := h; rfl) | (obtain ⟨_, rfl, _⟩ := h; rfl) | (obtain ⟨_, _, rfl, _⟩ := h; rfl) | (obtain ⟨_, _, _, rfl, _⟩ := h; rfl) | (obtain ⟨_, _, _, _, rfl, _⟩ := h; rfl) | (obtain ⟨_, _, _, _, _, rfl, _⟩ := h; rfl) | (obtain ⟨_, _, _, _, _, _, rfl, _⟩ := h; rfl) | (obtain ⟨_, _, _, _, _, _, _, rfl, _⟩ := h; rfl) | (obtain ⟨_, _, _, _, _, _, _, _, rfl, _⟩ := h; rfl) | (obtain ⟨_, _, _, _, _, _, _, _, _, rfl, _⟩ := h; rfl) | (obtain ⟨_, _, _, _, _, _, _, _, _, _, rfl, _⟩ := h; rfl) | (obtain ⟨_, _, _, _, _, _, _, _, _, _, _, rfl, _⟩ := h; rfl) | (obtain ⟨_, _, _, _, _, _, _, _, _, _, _, _, rfl, _⟩ := h; rfl) | (obtain ⟨_, _, _, _, _, _, _, _, _, _, _, _, _, rfl, _⟩ := h; rfl) | (obtain ⟨_, _, _, _, _, _, _, _, _, _, _, _, _, _, rfl, _⟩ := h; rfl) | (obtain ⟨_, _, _, _, _, _, _, _, _, _, _, _, _, _, _, rfl, _⟩ := h; rfl) | (obtain ⟨_, _, _, _, _, _, _, _, _, _, _, _, _, _, _, _, rfl, _⟩ := h; rfl) | (obtain ⟨_, _, _, _, _, _, _, _, _, _, _, _, _, _, _, _, _, rfl, _⟩ := h; rfl) | (obtain ⟨_, _, _, _, _, _, _, _, _, _, _, _, _, _, _, _, _, _, rfl, _⟩ := h; rfl) | (obtain ⟨_, _, _, _, _, _, _, _, _, _, _, _, _, _, _, _, _, _, _, rfl, _⟩ := h; rfl) | (obtain ⟨_, _, _, _, _, _, _, _, _, _, _, _, _, _, _, _, _, _, _, _, rfl, _⟩ := h; rfl) | (obtain ⟨_, _, _, _, _, _, _, _, _, _, _, _, _, _, _, _, _, _, _, _, _, rfl, _⟩ := h; rfl) | (obtain ⟨_, _, _, _, _, _, _, _, _, _, _, _, _, _, _, _, _, _, _, _, _, _, rfl, _⟩ := h; rfl) | (obtain ⟨_, _, _, _, _, _, _, _, _, _, _, _, _, _, _, _, _, _, _, _, _, _, _, rfl, _⟩ := h; rfl)
  · obtain ⟨z, u, a, b, c, p, q', r, s', rfl, hz, h4, ba, bb, bc, hc, q⟩ := h
    refine ⟨_, (pss_cons (ps_expr (pe_call G_check_change (hr.mono (by decide)) (by rfl) g_check_change k_check_change b_check_change .nil pass0 (pa_cons (pv 1) pa_nil)))
    (pss_one (ps_ret (pe_call G_double_of (hr.mono (by decide)) (by rfl) g_double_of k_double_of b_double_of .nil pass0 (pa_cons (pe_call G_double_led (hr.mono (by decide)) (by rfl) g_double_led k_double_led b_double_led .nil pass0 (pa_cons (pe_fld (pv 0) (by rfl)) (pa_cons (pv 1) pa_nil))) pa_nil))))), ?_⟩
    refine ⟨_, rfl, u, p, q', r, s', rfl, h4, hc, fun H1 e1 => ?_⟩
    obtain ⟨dx, t, hx, ht⟩ := Ex0.fo e1 hz
    refine ⟨_, rfl, z, C_Double, dx, _, .ref t, rfl, hx, T.cl_Double, T.na_Double_coefficients, lk_same, _, rfl, t, u, a, b, c, p, q', r, s', rfl, ht, Ex0.t4 e1 h4, ba, bb, bc, hc.1.b, hc.2.1.b, hc.2.2.1.b, hc.2.2.2.1.b, fun x H2 e2 hx2 => ?_⟩
    exact ⟨x, _, rfl, hx2, fun y H3 e3 hy => q y H3 ((e1.trans e2).trans e3) hy⟩
theorem ok_Form___eq__ (T : Txt K mg C_Form C_Double) : MDef (fun p f => EqC K C_Form f) P w K mg base 1 ["self", "other"] (sp_Form___eq__ K C_Form C_Double) := by
  obtain ⟨p_, f_, fd_, R_, F_⟩ := T.e_Form___eq__
  refine ⟨p_, f_, fd_, R_, F_.binds (ps := ["self", "other"]) (fun _ _ _ _ _ _ us hl => match us, hl with | [_, _], _ => rfl), ?_⟩
  refine F_.ok sc_Form___eq__ (fun vs H Q E h => ?_) (fun cdv A outer s H vs Q E hr h => ?_)
  · first | (obtain ⟨rfl, _⟩ := h; rfl) | (obtain ⟨_, rfl, _⟩ := h; rfl) | (obtain ⟨_, _, rfl, _⟩ := h; rfl) | (obtain ⟨_, _, _, rfl, _⟩ := h; rfl) | (obtain ⟨_, _, _, _, rfl, _⟩ := h; rfl) | (obtain ⟨_, _, _, _, _, rfl, _⟩ := h; rfl) | (obtain ⟨_, _, _, _, _, _, rfl, _⟩ := h; rfl) | (obtain ⟨_, _, _, _, _, _, _, rfl, _⟩ := h; rfl) | (obtain ⟨_, _, _, _, _, _, _, _, rfl, _⟩ := h; rfl) | (obtain ⟨_, _, _, _, _, _, _, _, _, rfl, _⟩ := h; rfl) | (obtain ⟨_, _, _, _, _, _, _, _, _, _, rfl, _⟩ := h; rfl) | (obtain ⟨_, _, _, _, _, _, _, _, _, _, _, rfl, _⟩ := h; rfl) | (obtain ⟨_, _, _, _, _, _, _, _, _, _, _, _, rfl, _⟩ := h; rfl) | (obtain ⟨_, _, _, _, _, _, _, _, _, _, _, _, _, rfl, _⟩ := h; rfl) | (obtain ⟨_, _, _, _, _, _, _, _, _, _, _, _, _, _, rfl, _⟩ := h; rfl) | (obtain ⟨_, _, _, _, _, _, _, _, _, _, _, _, _, _, _, rfl, _⟩ := h; rfl) | (obtain ⟨_, _, _, _, _, _, _, _, _, _, _, _, _, _, _, _, rfl, _⟩ := h; rfl) | (obtain ⟨_, _, _, _, _, _, _, _, _, _, _, _, _, _, _, _, _, rfl, _⟩ := h; rfl) | (obtain ⟨_, _, _, _, _, _, _, _, _, _, _, _, _, _, _, _, _, _, rfl, _⟩ := h; rfl) | (obtain ⟨_, _, _, _, _, _, _, _, _, _, _, _, _, _, _, _, _, _, _, rfl, _⟩ := h; rfl) | (obtain ⟨_, _, _, _, _, _, _, _, _, _, _, _, _, _, _, _, _, _, _, _, rfl, _⟩ := h; rfl) | (obtain ⟨_, _, _, _, _, _, _, _, _, _, _, _, _, _, _, _, _, _, _, _, _, rfl, _⟩ := h; rfl) | (obtain ⟨_, _, _, _, _, _, _, _, _, _, _, _, _, _, _, _, _, _, _, _, _, _, rfl, _⟩ := h; rfl) | (obtain ⟨_, _, _, _, _, _, _, _, _, _, _, _, _, _, _, _, _, _, _, _, _, _, _, rfl, _⟩ := h; rfl)
  · obtain ⟨x, y, ns, ms, rfl, ⟨dx, t, hx, ht⟩, ⟨dy, u, hy, hu⟩, q⟩ := h
    refine ⟨_, (pss_one (ps_ret (pe_and (pe_callB call_isi (by rfl) T.b_isinstance (by decide +kernel) (pa_cons (pv 1) (pa_cons (pe_glob (v := .ref C_Form) (by rfl) T.g_Form rfl) pa_nil))) (pe_one (pe_cmpR (op_eqD hr.units) (pe_fld (pv 0) (by rfl)) (pe_fld (pv 1) (by rfl)) (nomark _)))))), ?_⟩
    refine ⟨_, rfl, _, _, _, _, true, rfl, .own _, ty_ins T.ty_Form T.cl_Form hy, kit_self, _, rfl, ?_⟩
    refine ⟨_, rfl, x, C_Form, dx, _, .ref t, rfl, hx, T.cl_Form, T.na_Form_coefficients, lk_same, _, rfl, y, C_Form, dy, _, .ref u, rfl, hy, T.cl_Form, T.na_Form_coefficients, lk_same, ?_⟩
    refine ⟨.tuple (ns.map .int), .tuple (ms.map .int), .tup (SqT.of ht) (dp_ints _), .tup (SqT.of hu) (dp_ints _), shaped_tints _, shaped_tints _, ?_⟩
    rw [PyData.eqv, eqv_ints]
    exact q
end
end TF
namespace TF
open PySem PySem.Spec PyProof.Rows L2 Fr
def sp_Double___eq__ (K : PySem.W.Frag) (C C_D : Addr) : Sp := fun vs H Q _ => ∃ (x : Addr) (w : V) (ns : List Int), vs = [.ref x, w] ∧ FormAt C_D H x ns ∧
  ((∃ (y : Addr) (ms : List Int), w = .ref y ∧ FormAt C_D H y ms ∧ Q (.bl (decide (ns = ms))) H) ∨ (∃ t, (t = Value.type "tuple" ∨ t = Value.ref C) ∧ TyX K H w t ∧ Q (.bl false) H))
section
variable {P : Program} {w : World} {K : PySem.W.Frag} {mg : Str → Option Value} {base : Heap} {C_Form C_Double : Addr}
theorem ok_Double___eq__ (T : Txt K mg C_Form C_Double) : MDef (fun p f => EqC K C_Double f) P w K mg base 1 ["self", "other"] (sp_Double___eq__ K C_Form C_Double) := by
  obtain ⟨p_, f_, fd_, R_, F_⟩ := T.e_Double___eq__
  refine ⟨p_, f_, fd_, R_, F_.binds (ps := ["self", "other"]) (fun _ _ _ _ _ _ us hl => match us, hl with | [_, _], _ => rfl), ?_⟩
  refine F_.ok sc_Double___eq__ (fun vs H Q E h => ?_) (fun cdv A outer s H vs Q E hr h => ?_)
  · first | (obtain ⟨rfl, _⟩ := h; rfl) | (obtain ⟨_, rfl, _⟩ := h; rfl) | (obtain ⟨_, _, rfl, _⟩ := h; rfl) | (obtain ⟨_, _, _, rfl, _⟩ := h; rfl) | (obtain ⟨_, _, _, _, rfl, _⟩ := h; rfl) | (obtain ⟨_, _, _, _, _, rfl, _⟩ := h; rfl) | (obtain ⟨_, _, _, _, _, _, rfl, _⟩ := h; rfl) | (obtain ⟨_, _, _, _, _, _, _, rfl, _⟩ := h; rfl) | (obtain ⟨_, _, _, _, _, _, _, _, rfl, _⟩ := h; rfl) | (obtain ⟨_, _, _, _, _, _, _, _, _, rfl, _⟩ := h; rfl) | (obtain ⟨_, _, _, _, _, _, _, _, _, _, rfl, _⟩ := h; rfl) | (obtain ⟨_, _, _, _, _, _, _, _, _, _, _, rfl, _⟩ := h; rfl) | (obtain ⟨_, _, _, _, _, _, _, _, _, _, _, _, rfl, _⟩ := h; rfl) | (obtain ⟨_, _, _, _, _, _, _, _, _, _, _, _, _, rfl, _⟩ := h; rfl) | (obtain ⟨_, _, _, _, _, _, _, _, _, _, _, _, _, _, rfl, _⟩ := h; rfl) | (obtain ⟨_, _, _, _, _, _, _, _, _, _, _, _, _, _, _, rfl, _⟩ := h; rfl) | (obtain ⟨_, _, _, _, _, _, _, _, _, _, _, _, _, _, _, _, rfl, _⟩ := h; rfl) | (obtain ⟨_, _, _, _, _, _, _, _, _, _, _, _, _, _, _, _, _, rfl, _⟩ := h; rfl) | (obtain ⟨_, _, _, _, _, _, _, _, _, _, _, _, _, _, _, _, _, _, rfl, _⟩ := h; rfl) | (obtain ⟨_, _, _, _, _, _, _, _, _, _, _, _, _, _, _, _, _, _, _, rfl, _⟩ := h; rfl) | (obtain ⟨_, _, _, _, _, _, _, _, _, _, _, _, _, _, _, _, _, _, _, _, rfl, _⟩ := h; rfl) | (obtain ⟨_, _, _, _, _, _, _, _, _, _, _, _, _, _, _, _, _, _, _, _, _, rfl, _⟩ := h; rfl) | (obtain ⟨_, _, _, _, _, _, _, _, _, _, _, _, _, _, _, _, _, _, _, _, _, _, rfl, _⟩ := h; rfl) | (obtain ⟨_, _, _, _, _, _, _, _, _, _, _, _, _, _, _, _, _, _, _, _, _, _, _, rfl, _⟩ := h; rfl)
  · obtain ⟨x, w, ns, rfl, ⟨dx, t, hx, ht⟩, h2⟩ := h
    refine ⟨_, (pss_one (ps_ret (pe_and (pe_callB call_isi (by rfl) T.b_isinstance (by decide +kernel) (pa_cons (pv 1) (pa_cons (pe_glob (v := .ref C_Double) (by rfl) T.g_Double rfl) pa_nil))) (pe_one (pe_cmpR (op_eqD hr.units) (pe_fld (pv 0) (by rfl)) (pe_fld (pv 1) (by rfl)) (nomark _)))))), ?_⟩
    rcases h2 with ⟨y, ms, rfl, ⟨dy, u, hy, hu⟩, q⟩ | ⟨t, ht2, ty, q⟩
    · refine ⟨_, rfl, _, _, _, _, true, rfl, .own _, ty_ins T.ty_Double T.cl_Double hy, kit_self, _, rfl, ?_⟩
      refine ⟨_, rfl, x, C_Double, dx, _, .ref _, rfl, hx, T.cl_Double, T.na_Double_coefficients, lk_same, _, rfl, y, C_Double, dy, _, .ref u, rfl, hy, T.cl_Double, T.na_Double_coefficients, lk_same, ?_⟩
      refine ⟨.tuple (ns.map .int), .tuple (ms.map .int), .tup (SqT.of ht) (dp_ints _), .tup (SqT.of hu) (dp_ints _), shaped_tints _, shaped_tints _, ?_⟩
      rw [PyData.eqv, eqv_ints]
      exact q
    · rcases ht2 with rfl | rfl
      · exact ⟨_, rfl, _, _, _, _, false, rfl, .own _, ty, T.fo_Double_tuple.1, _, rfl, q⟩
      · exact ⟨_, rfl, _, _, _, _, false, rfl, .own _, ty, T.fo_Double_Form.1, _, rfl, q⟩
end
end TF
namespace TF
open PySem PySem.Spec PyProof.Rows L2 Fr
open K05M (fv fl2 fl3 fdisc)
open K06M
theorem showable_ints {ns : List Int} (h : ∀ n ∈ ns, n.natAbs.log2 < 1920) : (PyData.tuple (ns.map .int)).showable = true := by
  show PyData.showableAll (ns.map .int) = true
  induction ns with
  | nil => rfl
  | cons n l ih =>
    show (decide (n.natAbs.log2 < 1920) && PyData.showableAll (l.map .int)) = true
    rw [decide_eq_true (h n (by simp)), ih fun z hz => h z (List.mem_cons_of_mem _ hz)]
    rfl
theorem noDict_ints (ns : List Int) : (PyData.tuple (ns.map .int)).hasDict = false := by
  show PyData.hasDictAll (ns.map .int) = false
  induction ns with
  | nil => rfl
  | cons n l ih => exact ih
theorem depth_ints (ns : List Int) : (PyData.tuple (ns.map .int)).depth ≤ 40 := by
  have h : ∀ l : List Int, PyData.depthAll (l.map .int) = 0 := fun l => by
    induction l with
    | nil => rfl
    | cons n l ih =>
      show max 0 (PyData.depthAll (l.map .int)) = 0
      rw [ih]
      rfl
  show PyData.depthAll (ns.map .int) + 1 ≤ 40
  rw [h]
  decide
section
def sp_Double___str__ (_ : PySem.W.Frag) (C C_D : Addr) : Sp := fun vs H Q _ => ∃ (x : Addr) (ns : List Int), vs = [.ref x] ∧ FormAt C_D H x ns ∧ (∀ n ∈ ns, n.natAbs.log2 < 1920) ∧ (PyData.tuple (ns.map .int)).shown.length ≤ sizeLine ∧ Q (.str (PyData.tuple (ns.map .int)).shown) H
def sp_both (_ : PySem.W.Frag) (C C_D : Addr) : Sp := fun vs H Q _ => ∃ (a b : Addr) (p q r s i j k m : Int), vs = [.ref a, .ref b] ∧ T4 H a p q r s ∧ T4 H b i j k m ∧ (B 200 p ∧ B 200 q ∧ B 200 r ∧ B 200 s) ∧ (B 200 i ∧ B 200 j ∧ B 200 k ∧ B 200 m) ∧ ∀ x H', Ex0 H H' → T4 H' x (i * p + j * r) (i * q + j * s) (k * p + m * r) (k * q + m * s) → Q (.ref x) H'
def sp_taken_back (_ : PySem.W.Frag) (C C_D : Addr) : Sp := fun vs H Q _ => ∃ (a : Addr) (p q r s : Int), vs = [.ref a] ∧ T4 H a p q r s ∧ (B 200 p ∧ B 200 q ∧ B 200 r ∧ B 200 s) ∧ ∀ x H', Ex0 H H' → T4 H' x ((p * s - q * r) * s) (-(p * s - q * r) * q) (-(p * s - q * r) * r) ((p * s - q * r) * p) → Q (.ref x) H'
def sp_joined (_ : PySem.W.Frag) (C C_D : Addr) : Sp := fun vs H Q _ => ∃ (a b : Addr) (p q r s i j k m : Int), vs = [.ref a, .ref b] ∧ T4 H a p q r s ∧ T4 H b i j k m ∧ ChOk p q r s ∧ ChOk i j k m ∧ ∀ x H', Ex0 H H' → T4 H' x (i * p + j * r) (i * q + j * s) (k * p + m * r) (k * q + m * s) → Q (.ref x) H'
def sp_undone (_ : PySem.W.Frag) (C C_D : Addr) : Sp := fun vs H Q _ => ∃ (a : Addr) (p q r s : Int), vs = [.ref a] ∧ T4 H a p q r s ∧ ChOk p q r s ∧ ∀ x H', Ex0 H H' → T4 H' x ((p * s - q * r) * s) (-(p * s - q * r) * q) (-(p * s - q * r) * r) ((p * s - q * r) * p) → Q (.ref x) H'
def sp_shared_divisor (_ : PySem.W.Frag) (C C_D : Addr) : Sp := fun vs H Q _ => ∃ (a : Addr) (ns : List Int), vs = [.ref a] ∧ Ti H a ns ∧ Q (.int (gcdL ns : Nat)) H
def sp_Form_content (_ : PySem.W.Frag) (C C_D : Addr) : Sp := fun vs H Q _ => ∃ (x : Addr) (ns : List Int), vs = [.ref x] ∧ FormAt C H x ns ∧ Q (.int (gcdL ns : Nat)) H
def sp_Form___neg__ (_ : PySem.W.Frag) (C C_D : Addr) : Sp := fun vs H Q _ => ∃ (z : Addr) (ns : List Int), vs = [.ref z] ∧ FormAt C H z ns ∧ ns.length ≤ 1000 ∧ ∀ x H', Ex0 H H' → FormAt C H' x (ns.map fun n => -n) → Q (.ref x) H'
def sp_Double_content (_ : PySem.W.Frag) (C C_D : Addr) : Sp := fun vs H Q _ => ∃ (x : Addr) (ns : List Int), vs = [.ref x] ∧ FormAt C_D H x ns ∧ Q (.int (gcdL ns : Nat)) H
def sp_Double___neg__ (_ : PySem.W.Frag) (C C_D : Addr) : Sp := fun vs H Q _ => ∃ (z : Addr) (ns : List Int), vs = [.ref z] ∧ FormAt C_D H z ns ∧ ns.length ≤ 1000 ∧ ∀ x H', Ex0 H H' → FormAt C_D H' x (ns.map fun n => -n) → Q (.ref x) H'
end
section
variable {P : Program} {w : World} {K : PySem.W.Frag} {mg : Str → Option Value} {base : Heap} {C_Form C_Double : Addr}
theorem ok_both (T : Txt K mg C_Form C_Double) : Def P w K mg base 1 "both" ["first", "second"] (sp_both K C_Form C_Double) := by
  obtain ⟨f_, fd_, g_, F_⟩ := T.d_both
  refine ⟨f_, fd_, g_, F_.kp, F_.binds (ps := ["first", "second"]) (fun _ _ _ _ _ _ us hl => match us, hl with | [_, _], _ => rfl), ?_⟩
  refine F_.ok sc_both (fun vs H Q E h => ?_) (fun cdv A outer s H vs Q E hr h => ?_)
  · first | (obtain ⟨rfl, _⟩ := h; rfl) | (obtain ⟨_, rfl, _⟩ := h; rfl) | (obtain ⟨_, _, rfl, _⟩ := h; rfl) | (obtain ⟨_, _, _, rfl, _⟩ := h; rfl) | (obtain ⟨_, _, _, _, rfl, _⟩ := h; rfl) | (obtain ⟨_, _, _, _, _, rfl, _⟩ := h; rfl) | (obtain ⟨_, _, _, _, _, _, rfl, _⟩ := h; rfl) | (obtain ⟨_, _, _, _, _, _, _, rfl, _⟩ := h; rfl) | (obtain ⟨_, _, _, _, _, _, _, _, rfl, _⟩ := h; rfl) | (obtain ⟨_, _, _, _, _, _, _, _, _, rfl, _⟩ := h; rfl) | (obtain ⟨_, _, _, _, _, _, _, _, _, _, rfl, _⟩ := h; rfl) | (obtain ⟨_, _, _, _, _, _, _, _, _, _, _, rfl, _⟩ := h; rfl) | (obtain ⟨_, _, _, _, _, _, _, _, _, _, _, _, rfl, _⟩ := h; rfl) | (obtain ⟨_, _, _, _, _, _, _, _, _, _, _, _, _, rfl, _⟩ := h; rfl) | (obtain ⟨_, _, _, _, _, _, _, _, _, _, _, _, _, _, rfl, _⟩ := h; rfl) | (obtain ⟨_, _, _, _, _, _, _, _, _, _, _, _, _, _, _, rfl, _⟩ := h; rfl) | (obtain ⟨_, _, _, _, _, _, _, _, _, _, _, _, _, _, _, _, rfl, _⟩ := h; rfl) | (obtain ⟨_, _, _, _, _, _, _, _, _, _, _, _, _, _, _, _, _, rfl, _⟩ := h; rfl) | (obtain ⟨_, _, _, _, _, _, _, _, _, _, _, _, _, _, _, _, _, _, rfl, _⟩ := h; rfl) | (obtain ⟨_, _, _, _, _, _, _, _, _, _, _, _, _, _, _, _, _, _, _, rfl, _⟩ := h; rfl) | (obtain ⟨_, _, _, _, _, _, _, _, _, _, _, _, _, _, _, _, _, _, _, _, rfl, _⟩ := h; rfl) | (obtain ⟨_, _, _, _, _, _, _, _, _, _, _, _, _, _, _, _, _, _, _, _, _, rfl, _⟩ := h; rfl) | (obtain ⟨_, _, _, _, _, _, _, _, _, _, _, _, _, _, _, _, _, _, _, _, _, _, rfl, _⟩ := h; rfl) | (obtain ⟨_, _, _, _, _, _, _, _, _, _, _, _, _, _, _, _, _, _, _, _, _, _, _, rfl, _⟩ := h; rfl)
  · obtain ⟨a, b, p, q', r, s', i, j, k, m, rfl, h4, h4', ⟨bp, bq, br, bs⟩, ⟨bi, bj, bk, bm⟩, q⟩ := h
    refine ⟨_, (pss_cons (ps_asg (pv 0) (pg_tup (by rfl) (pgs_cons (pg_tup (by rfl) (pgs_cons (pg_name (i := 2) sc_both.nd rfl (.inl rfl)) (pgs_cons (pg_name (i := 3) sc_both.nd rfl (.inl rfl)) pgs_nil))) (pgs_cons (pg_tup (by rfl) (pgs_cons (pg_name (i := 4) sc_both.nd rfl (.inl rfl)) (pgs_cons (pg_name (i := 5) sc_both.nd rfl (.inl rfl)) pgs_nil))) pgs_nil))))
    (pss_cons (ps_asg (pv 1) (pg_tup (by rfl) (pgs_cons (pg_tup (by rfl) (pgs_cons (pg_name (i := 6) sc_both.nd rfl (.inl rfl)) (pgs_cons (pg_name (i := 7) sc_both.nd rfl (.inl rfl)) pgs_nil))) (pgs_cons (pg_tup (by rfl) (pgs_cons (pg_name (i := 8) sc_both.nd rfl (.inl rfl)) (pgs_cons (pg_name (i := 9) sc_both.nd rfl (.inl rfl)) pgs_nil))) pgs_nil))))
    (pss_one (ps_ret (pe_tup (pa_cons (pe_tup (pa_cons (pe_op op_add (pe_op op_mulW (pv 6) (pv 2)) (pe_op op_mulW (pv 7) (pv 4))) (pa_cons (pe_op op_add (pe_op op_mulW (pv 6) (pv 3)) (pe_op op_mulW (pv 7) (pv 5))) pa_nil))) (pa_cons (pe_tup (pa_cons (pe_op op_add (pe_op op_mulW (pv 8) (pv 2)) (pe_op op_mulW (pv 9) (pv 4))) (pa_cons (pe_op op_add (pe_op op_mulW (pv 8) (pv 3)) (pe_op op_mulW (pv 9) (pv 5))) pa_nil))) pa_nil))))))), ?_⟩
    refine ⟨_, rfl, un4 h4 ?_⟩
    refine ⟨_, rfl, un4 h4' ?_⟩
    refine ⟨_, rfl, _, rfl, _, _, rfl, rfl, mulB (by with_reducible assumption) (by with_reducible assumption) (by decide), _, rfl, _, rfl, _, _, rfl, rfl, mulB (by with_reducible assumption) (by with_reducible assumption) (by decide), _, _, rfl, rfl, _, rfl, _, rfl, _, _, rfl, rfl, mulB (by with_reducible assumption) (by with_reducible assumption) (by decide), _, rfl, _, rfl, _, _, rfl, rfl, mulB (by with_reducible assumption) (by with_reducible assumption) (by decide), _, _, rfl, rfl, sl2, fun t1 n1 => ⟨_, rfl, _, rfl, _, _, rfl, rfl, mulB (by with_reducible assumption) (by with_reducible assumption) (by decide), _, rfl, _, rfl, _, _, rfl, rfl, mulB (by with_reducible assumption) (by with_reducible assumption) (by decide), _, _, rfl, rfl, _, rfl, _, rfl, _, _, rfl, rfl, mulB (by with_reducible assumption) (by with_reducible assumption) (by decide), _, rfl, _, rfl, _, _, rfl, rfl, mulB (by with_reducible assumption) (by with_reducible assumption) (by decide), _, _, rfl, rfl, sl2, fun t2 n2 => ⟨sl2, fun x nx => ?_⟩⟩⟩
    have z := t4_new n1 n2 nx
    exact q x _ z.1 z.2
theorem ok_taken_back (T : Txt K mg C_Form C_Double) : Def P w K mg base 2 "taken_back" ["change"] (sp_taken_back K C_Form C_Double) := by
  obtain ⟨f_, fd_, g_, F_⟩ := T.d_taken_back
  obtain ⟨f_determinant_of, fd_determinant_of, g_determinant_of, k_determinant_of, b_determinant_of, G_determinant_of⟩ := (ok_determinant_of (P := P) (w := w) (base := base) T)
  refine ⟨f_, fd_, g_, F_.kp, F_.binds (ps := ["change"]) (fun _ _ _ _ _ _ us hl => match us, hl with | [_], _ => rfl), ?_⟩
  refine F_.ok sc_taken_back (fun vs H Q E h => ?_) (fun cdv A outer s H vs Q E hr h => ?_)
  · first | (obtain ⟨rfl, _⟩ := h; rfl) | (obtain ⟨_, rfl, _⟩ := h; rfl) | (obtain ⟨_, _, rfl, _⟩ := h; rfl) | (obtain ⟨_, _, _, rfl, _⟩ := h; rfl) | (obtain ⟨_, _, _, _, rfl, _⟩ := h; rfl) | (obtain ⟨_, _, _, _, _, rfl, _⟩ := h; rfl) | (obtain ⟨_, _, _, _, _, _, rfl, _⟩ := h; rfl) | (obtain ⟨_, _, _, _, _, _, _, rfl, _⟩ := h; rfl) | (obtain ⟨_, _, _, _, _, _, _, _, rfl, _⟩ := h; rfl) | (obtain ⟨_, _, _, _, _, _, _, _, _, rfl, _⟩ := h; rfl) | (obtain ⟨_, _, _, _, _, _, _, _, _, _, rfl, _⟩ := h; rfl) | (obtain ⟨_, _, _, _, _, _, _, _, _, _, _, rfl, _⟩ := h; rfl) | (obtain ⟨_, _, _, _, _, _, _, _, _, _, _, _, rfl, _⟩ := h; rfl) | (obtain ⟨_, _, _, _, _, _, _, _, _, _, _, _, _, rfl, _⟩ := h; rfl) | (obtain ⟨_, _, _, _, _, _, _, _, _, _, _, _, _, _, rfl, _⟩ := h; rfl) | (obtain ⟨_, _, _, _, _, _, _, _, _, _, _, _, _, _, _, rfl, _⟩ := h; rfl) | (obtain ⟨_, _, _, _, _, _, _, _, _, _, _, _, _, _, _, _, rfl, _⟩ := h; rfl) | (obtain ⟨_, _, _, _, _, _, _, _, _, _, _, _, _, _, _, _, _, rfl, _⟩ := h; rfl) | (obtain ⟨_, _, _, _, _, _, _, _, _, _, _, _, _, _, _, _, _, _, rfl, _⟩ := h; rfl) | (obtain ⟨_, _, _, _, _, _, _, _, _, _, _, _, _, _, _, _, _, _, _, rfl, _⟩ := h; rfl) | (obtain ⟨_, _, _, _, _, _, _, _, _, _, _, _, _, _, _, _, _, _, _, _, rfl, _⟩ := h; rfl) | (obtain ⟨_, _, _, _, _, _, _, _, _, _, _, _, _, _, _, _, _, _, _, _, _, rfl, _⟩ := h; rfl) | (obtain ⟨_, _, _, _, _, _, _, _, _, _, _, _, _, _, _, _, _, _, _, _, _, _, rfl, _⟩ := h; rfl) | (obtain ⟨_, _, _, _, _, _, _, _, _, _, _, _, _, _, _, _, _, _, _, _, _, _, _, rfl, _⟩ := h; rfl)
  · obtain ⟨a, p, q', r, s', rfl, h4, ⟨bp, bq, br, bs⟩, q⟩ := h
    refine ⟨_, (pss_cons (ps_set (i := 1) sc_taken_back.nd rfl (.inl rfl) (pe_call G_determinant_of (hr.mono (by decide)) (by rfl) g_determinant_of k_determinant_of b_determinant_of .nil pass0 (pa_cons (pv 0) pa_nil)))
    (pss_cons (ps_asg (pv 0) (pg_tup (by rfl) (pgs_cons (pg_tup (by rfl) (pgs_cons (pg_name (i := 2) sc_taken_back.nd rfl (.inl rfl)) (pgs_cons (pg_name (i := 3) sc_taken_back.nd rfl (.inl rfl)) pgs_nil))) (pgs_cons (pg_tup (by rfl) (pgs_cons (pg_name (i := 4) sc_taken_back.nd rfl (.inl rfl)) (pgs_cons (pg_name (i := 5) sc_taken_back.nd rfl (.inl rfl)) pgs_nil))) pgs_nil))))
    (pss_one (ps_ret (pe_tup (pa_cons (pe_tup (pa_cons (pe_op op_mulW (pv 1) (pv 5)) (pa_cons (pe_op op_mulW (pe_un un_neg (pv 1)) (pv 3)) pa_nil))) (pa_cons (pe_tup (pa_cons (pe_op op_mulW (pe_un un_neg (pv 1)) (pv 4)) (pa_cons (pe_op op_mulW (pv 1) (pv 2)) pa_nil))) pa_nil))))))), ?_⟩
    refine ⟨_, rfl, a, p, q', r, s', rfl, h4, bp, bq, br, bs, ?_⟩
    have be : B 800 (p * s' - q' * r) := B.sub (B.mul bp bs) (B.mul bq br)
    refine ⟨_, rfl, un4 h4 ?_⟩
    refine ⟨_, rfl, _, rfl, _, _, rfl, rfl, mulB (by with_reducible assumption) (by with_reducible assumption) (by decide), _, rfl, _, rfl, _, rfl, _, _, rfl, rfl, mulB (B.neg (by with_reducible assumption)) (by with_reducible assumption) (by decide), sl2, fun t1 n1 => ⟨_, rfl, _, rfl, _, rfl, _, _, rfl, rfl, mulB (B.neg (by with_reducible assumption)) (by with_reducible assumption) (by decide), _, rfl, _, rfl, _, _, rfl, rfl, mulB (by with_reducible assumption) (by with_reducible assumption) (by decide), sl2, fun t2 n2 => ⟨sl2, fun x nx => ?_⟩⟩⟩
    have z := t4_new n1 n2 nx
    exact q x _ z.1 z.2
theorem ok_joined (T : Txt K mg C_Form C_Double) : Def P w K mg base 6 "joined" ["first", "second"] (sp_joined K C_Form C_Double) := by
  obtain ⟨f_, fd_, g_, F_⟩ := T.d_joined
  obtain ⟨f_both, fd_both, g_both, k_both, b_both, G_both⟩ := (ok_both (P := P) (w := w) (base := base) T)
  obtain ⟨f_check_change, fd_check_change, g_check_change, k_check_change, b_check_change, G_check_change⟩ := (ok_check_change (P := P) (w := w) (base := base) T)
  refine ⟨f_, fd_, g_, F_.kp, F_.binds (ps := ["first", "second"]) (fun _ _ _ _ _ _ us hl => match us, hl with | [_, _], _ => rfl), ?_⟩
  refine F_.ok sc_joined (fun vs H Q E h => ?_) (fun cdv A outer s H vs Q E hr h => ?_)
  · first | (obtain ⟨rfl, _⟩ := h; rfl) | (obtain ⟨_, rfl, _⟩ := h; rfl) | (obtain ⟨_, _, rfl, _⟩ := h; rfl) | (obtain ⟨_, _, _, rfl, _⟩ := h; rfl) | (obtain ⟨_, _, _, _, rfl, _⟩ := h; rfl) | (obtain ⟨_, _, _, _, _, rfl, _⟩ := h; rfl) | (obtain ⟨_, _, _, _, _, _, rfl, _⟩ := h; rfl) | (obtain ⟨_, _, _, _, _, _, _, rfl, _⟩ := h; rfl) | (obtain ⟨_, _, _, _, _, _, _, _, rfl, _⟩ := h; rfl) | (obtain ⟨_, _, _, _, _, _, _, _, _, rfl, _⟩ := h; rfl) | (obtain ⟨_, _, _, _, _, _, _, _, _, _, rfl, _⟩ := h; rfl) | (obtain ⟨_, _, _, _, _, _, _, _, _, _, _, rfl, _⟩ := h; rfl) | (obtain ⟨_, _, _, _, _, _, _, _, _, _, _, _, rfl, _⟩ := h; rfl) | (obtain ⟨_, _, _, _, _, _, _, _, _, _, _, _, _, rfl, _⟩ := h; rfl) | (obtain ⟨_, _, _, _, _, _, _, _, _, _, _, _, _, _, rfl, _⟩ := h; rfl) | (obtain ⟨_, _, _, _, _, _, _, _, _, _, _, _, _, _, _, rfl, _⟩ := h; rfl) | (obtain ⟨_, _, _, _, _, _, _, _, _, _, _, _, _, _, _, _, rfl, _⟩ := h; rfl) | (obtain ⟨_, _, _, _, _, _, _, _, _, _, _, _, _, _, _, _, _, rfl, _⟩ := h; rfl) | (obtain ⟨_, _, _, _, _, _, _, _, _, _, _, _, _, _, _, _, _, _, rfl, _⟩ := h; rfl) | (obtain ⟨_, _, _, _, _, _, _, _, _, _, _, _, _, _, _, _, _, _, _, rfl, _⟩ := h; rfl) | (obtain ⟨_, _, _, _, _, _, _, _, _, _, _, _, _, _, _, _, _, _, _, _, rfl, _⟩ := h; rfl) | (obtain ⟨_, _, _, _, _, _, _, _, _, _, _, _, _, _, _, _, _, _, _, _, _, rfl, _⟩ := h; rfl) | (obtain ⟨_, _, _, _, _, _, _, _, _, _, _, _, _, _, _, _, _, _, _, _, _, _, rfl, _⟩ := h; rfl) | (obtain ⟨_, _, _, _, _, _, _, _, _, _, _, _, _, _, _, _, _, _, _, _, _, _, _, rfl, _⟩ := h; rfl)
  · obtain ⟨a, b, p, q', r, s', i, j, k, m, rfl, h4, h4', hc, hc', q⟩ := h
    refine ⟨_, (pss_cons (ps_expr (pe_call G_check_change (hr.mono (by decide)) (by rfl) g_check_change k_check_change b_check_change .nil pass0 (pa_cons (pv 0) pa_nil)))
    (pss_cons (ps_expr (pe_call G_check_change (hr.mono (by decide)) (by rfl) g_check_change k_check_change b_check_change .nil pass0 (pa_cons (pv 1) pa_nil)))
    (pss_one (ps_ret (pe_call G_both (hr.mono (by decide)) (by rfl) g_both k_both b_both .nil pass0 (pa_cons (pv 0) (pa_cons (pv 1) pa_nil))))))), ?_⟩
    refine ⟨_, rfl, a, p, q', r, s', rfl, h4, hc, fun H1 e1 => ?_⟩
    refine ⟨_, rfl, b, i, j, k, m, rfl, Ex0.t4 e1 h4', hc', fun H2 e2 => ?_⟩
    refine ⟨_, rfl, _, rfl, a, b, p, q', r, s', i, j, k, m, rfl, Ex0.t4 (e1.trans e2) h4, Ex0.t4 (e1.trans e2) h4', ⟨hc.1.b, hc.2.1.b, hc.2.2.1.b, hc.2.2.2.1.b⟩, ⟨hc'.1.b, hc'.2.1.b, hc'.2.2.1.b, hc'.2.2.2.1.b⟩, fun x H3 e3 h3 => ?_⟩
    exact q x _ ((e1.trans e2).trans e3) h3
theorem ok_undone (T : Txt K mg C_Form C_Double) : Def P w K mg base 6 "undone" ["change"] (sp_undone K C_Form C_Double) := by
  obtain ⟨f_, fd_, g_, F_⟩ := T.d_undone
  obtain ⟨f_check_change, fd_check_change, g_check_change, k_check_change, b_check_change, G_check_change⟩ := (ok_check_change (P := P) (w := w) (base := base) T)
  obtain ⟨f_taken_back, fd_taken_back, g_taken_back, k_taken_back, b_taken_back, G_taken_back⟩ := (ok_taken_back (P := P) (w := w) (base := base) T)
  refine ⟨f_, fd_, g_, F_.kp, F_.binds (ps := ["change"]) (fun _ _ _ _ _ _ us hl => match us, hl with | [_], _ => rfl), ?_⟩
  refine F_.ok sc_undone (fun vs H Q E h => ?_) (fun cdv A outer s H vs Q E hr h => ?_)
  · first | (obtain ⟨rfl, _⟩ := h; rfl) | (obtain ⟨_, rfl, _⟩ := h; rfl) | (obtain ⟨_, _, rfl, _⟩ := h; rfl) | (obtain ⟨_, _, _, rfl, _⟩ := h; rfl) | (obtain ⟨_, _, _, _, rfl, _⟩ := h; rfl) | (obtain ⟨_, _, _, _, _, rfl, _⟩ := h; rfl) | (obtain ⟨_, _, _, _, _, _, rfl, _⟩ := h; rfl) | (obtain ⟨_, _, _, _, _, _, _, rfl, _⟩ := h; rfl) | (obtain ⟨_, _, _, _, _, _, _, _, rfl, _⟩ := h; rfl) | (obtain ⟨_, _, _, _, _, _, _, _, _, rfl, _⟩ := h; rfl) | (obtain ⟨_, _, _, _, _, _, _, _, _, _, rfl, _⟩ := h; rfl) | (obtain ⟨_, _, _, _, _, _, _, _, _, _, _, rfl, _⟩ := h; rfl) | (obtain ⟨_, _, _, _, _, _, _, _, _, _, _, _, rfl, _⟩ := h; rfl) | (obtain ⟨_, _, _, _, _, _, _, _, _, _, _, _, _, rfl, _⟩ := h; rfl) | (obtain ⟨_, _, _, _, _, _, _, _, _, _, _, _, _, _, rfl, _⟩ := h; rfl) | (obtain ⟨_, _, _, _, _, _, _, _, _, _, _, _, _, _, _, rfl, _⟩ := h; rfl) | (obtain ⟨_, _, _, _, _, _, _, _, _, _, _, _, _, _, _, _, rfl, _⟩ := h; rfl) | (obtain ⟨_, _, _, _, _, _, _, _, _, _, _, _, _, _, _, _, _, rfl, _⟩ := h; rfl) | (obtain ⟨_, _, _, _, _, _, _, _, _, _, _, _, _, _, _, _, _, _, rfl, _⟩ := h; rfl) | (obtain ⟨_, _, _, _, _, _, _, _, _, _, _, _, _, _, _, _, _, _, _, rfl, _⟩ := h; rfl) | (obtain ⟨_, _, _, _, _, _, _, _, _, _, _, _, _, _, _, _, _, _, _, _, rfl, _⟩ := h; rfl) | (obtain ⟨_, _, _, _, _, _, _, _, _, _, _, _, _, _, _, _, _, _, _, _, _, rfl, _⟩ := h; rfl) | (obtain ⟨_, _, _, _, _, _, _, _, _, _, _, _, _, _, _, _, _, _, _, _, _, _, rfl, _⟩ := h; rfl) | (obtain ⟨_, _, _, _, _, _, _, _, _, _, _, _, _, _, _, _, _, _, _, _, _, _, _, rfl, _⟩ := h; rfl)
  · obtain ⟨a, p, q', r, s', rfl, h4, hc, q⟩ := h
    refine ⟨_, (pss_cons (ps_expr (pe_call G_check_change (hr.mono (by decide)) (by rfl) g_check_change k_check_change b_check_change .nil pass0 (pa_cons (pv 0) pa_nil)))
    (pss_one (ps_ret (pe_call G_taken_back (hr.mono (by decide)) (by rfl) g_taken_back k_taken_back b_taken_back .nil pass0 (pa_cons (pv 0) pa_nil))))), ?_⟩
    refine ⟨_, rfl, a, p, q', r, s', rfl, h4, hc, fun H1 e1 => ?_⟩
    refine ⟨_, rfl, a, p, q', r, s', rfl, Ex0.t4 e1 h4, ⟨hc.1.b, hc.2.1.b, hc.2.2.1.b, hc.2.2.2.1.b⟩, fun x H3 e3 h3 => ?_⟩
    exact q x _ (e1.trans e3) h3
theorem ok_shared_divisor (T : Txt K mg C_Form C_Double) : Def P w K mg base 1 "shared_divisor" ["numbers"] (sp_shared_divisor K C_Form C_Double) := by
  obtain ⟨f_, fd_, g_, F_⟩ := T.d_shared_divisor
  refine ⟨f_, fd_, g_, F_.kp, F_.binds (ps := ["numbers"]) (fun _ _ _ _ _ _ us hl => match us, hl with | [_], _ => rfl), ?_⟩
  refine F_.ok sc_shared_divisor (fun vs H Q E h => ?_) (fun cdv A outer s H vs Q E hr h => ?_)
  · first | (obtain ⟨rfl, _⟩ := h; rfl) | (obtain ⟨_, rfl, _⟩ := h; rfl) | (obtain ⟨_, _, rfl, _⟩ := h; rfl) | (obtain ⟨_, _, _, rfl, _⟩ := h; rfl) | (obtain ⟨_, _, _, _, rfl, _⟩ := h; rfl) | (obtain ⟨_, _, _, _, _, rfl, _⟩ := h; rfl) | (obtain ⟨_, _, _, _, _, _, rfl, _⟩ := h; rfl) | (obtain ⟨_, _, _, _, _, _, _, rfl, _⟩ := h; rfl) | (obtain ⟨_, _, _, _, _, _, _, _, rfl, _⟩ := h; rfl) | (obtain ⟨_, _, _, _, _, _, _, _, _, rfl, _⟩ := h; rfl) | (obtain ⟨_, _, _, _, _, _, _, _, _, _, rfl, _⟩ := h; rfl) | (obtain ⟨_, _, _, _, _, _, _, _, _, _, _, rfl, _⟩ := h; rfl) | (obtain ⟨_, _, _, _, _, _, _, _, _, _, _, _, rfl, _⟩ := h; rfl) | (obtain ⟨_, _, _, _, _, _, _, _, _, _, _, _, _, rfl, _⟩ := h; rfl) | (obtain ⟨_, _, _, _, _, _, _, _, _, _, _, _, _, _, rfl, _⟩ := h; rfl) | (obtain ⟨_, _, _, _, _, _, _, _, _, _, _, _, _, _, _, rfl, _⟩ := h; rfl) | (obtain ⟨_, _, _, _, _, _, _, _, _, _, _, _, _, _, _, _, rfl, _⟩ := h; rfl) | (obtain ⟨_, _, _, _, _, _, _, _, _, _, _, _, _, _, _, _, _, rfl, _⟩ := h; rfl) | (obtain ⟨_, _, _, _, _, _, _, _, _, _, _, _, _, _, _, _, _, _, rfl, _⟩ := h; rfl) | (obtain ⟨_, _, _, _, _, _, _, _, _, _, _, _, _, _, _, _, _, _, _, rfl, _⟩ := h; rfl) | (obtain ⟨_, _, _, _, _, _, _, _, _, _, _, _, _, _, _, _, _, _, _, _, rfl, _⟩ := h; rfl) | (obtain ⟨_, _, _, _, _, _, _, _, _, _, _, _, _, _, _, _, _, _, _, _, _, rfl, _⟩ := h; rfl) | (obtain ⟨_, _, _, _, _, _, _, _, _, _, _, _, _, _, _, _, _, _, _, _, _, _, rfl, _⟩ := h; rfl) | (obtain ⟨_, _, _, _, _, _, _, _, _, _, _, _, _, _, _, _, _, _, _, _, _, _, _, rfl, _⟩ := h; rfl)
  · obtain ⟨a, ns, rfl, ha, q⟩ := h
    refine ⟨_, (pss_cons (ps_set (i := 1) sc_shared_divisor.nd rfl (.inl rfl) pe_int)
    (pss_cons (ps_for PassesOwn.never rfl (pi_tup (pv 0)) (pg_name (i := 2) sc_shared_divisor.nd rfl (.inl rfl))
      (pss_one (ps_set (i := 1) sc_shared_divisor.nd rfl (.inl rfl) (pe_callBfun cr_gcd (by rfl) T.m_gcd (pa_cons (pv 1) (pa_cons (pv 2) pa_nil))))))
    (pss_one (ps_ret (pv 1))))), ?_⟩
    refine ⟨_, rfl, a, rfl, ⟨_, SqT.of ha⟩, for_tup (xs := ns.map V.int) (fun i σ H' => ∃ y2, σ = [some (.ref a), some (.int (gcdL (ns.take i) : Nat)), y2] ∧ H = H') ⟨none, rfl, rfl⟩ (fun i σ H' _ ⟨_, _, e⟩ => e ▸ SqT.of ha) ?_ ?_⟩
    · rintro i x σ H' hx ⟨y2, rfl, rfl⟩
      obtain ⟨n, hn, rfl⟩ := get_int hx
      refine ⟨_, rfl, _, rfl, _, _, rfl, ?_⟩
      refine ⟨some (.int n), ?_, rfl⟩
      rw [gcdL_take hn]
      rfl
    · rintro σ H' ⟨y2, rfl, rfl⟩
      refine ⟨_, rfl, ?_⟩
      rw [List.length_map, List.take_length]
      exact q
theorem ok_Form_content (T : Txt K mg C_Form C_Double) : MDef (fun p f => PropOf K C_Form "content" p f) P w K mg base 2 ["self"] (sp_Form_content K C_Form C_Double) := by
  obtain ⟨p_, f_, fd_, R_, F_⟩ := T.e_Form_content
  obtain ⟨f_shared_divisor, fd_shared_divisor, g_shared_divisor, k_shared_divisor, b_shared_divisor, G_shared_divisor⟩ := (ok_shared_divisor (P := P) (w := w) (base := base) T)
  refine ⟨p_, f_, fd_, R_, F_.binds (ps := ["self"]) (fun _ _ _ _ _ _ us hl => match us, hl with | [_], _ => rfl), ?_⟩
  refine F_.ok sc_Form_content (fun vs H Q E h => ?_) (fun cdv A outer s H vs Q E hr h => ?_)
  · first | (obtain ⟨rfl, _⟩ := h; rfl) | (obtain ⟨_, rfl, _⟩ := h; rfl) | (obtain ⟨_, _, rfl, _⟩ := h; rfl) | (obtain ⟨_, _, _, rfl, _⟩ := h; rfl) | (obtain ⟨_, _, _, _, rfl, _⟩ := h; rfl) | (obtain ⟨_, _, _, _, _, rfl, _⟩ := h; rfl) | (obtain ⟨_, _, _, _, _, _, rfl, _⟩ := h; rfl) | (obtain ⟨_, _, _, _, _, _, _, rfl, _⟩ := h; rfl) | (obtain ⟨_, _, _, _, _, _, _, _, rfl, _⟩ := h; rfl) | (obtain ⟨_, _, _, _, _, _, _, _, _, rfl, _⟩ := h; rfl) | (obtain ⟨_, _, _, _, _, _, _, _, _, _, rfl, _⟩ := h; rfl) | (obtain ⟨_, _, _, _, _, _, _, _, _, _, _, rfl, _⟩ := h; rfl) | (obtain ⟨_, _, _, _, _, _, _, _, _, _, _, _, rfl, _⟩ := h; rfl) | (obtain ⟨_, _, _, _, _, _, _, _, _, _, _, _, _, rfl, _⟩ := h; rfl) | (obtain ⟨_, _, _, _, _, _, _, _, _, _, _, _, _, _, rfl, _⟩ := h; rfl) | (obtain ⟨_, _, _, _, _, _, _, _, _, _, _, _, _, _, _, rfl, _⟩ := h; rfl) | (obtain ⟨_, _, _, _, _, _, _, _, _, _, _, _, _, _, _, _, rfl, _⟩ := h; rfl) | (obtain ⟨_, _, _, _, _, _, _, _, _, _, _, _, _, _, _, _, _, rfl, _⟩ := h; rfl) | (obtain ⟨_, _, _, _, _, _, _, _, _, _, _, _, _, _, _, _, _, _, rfl, _⟩ := h; rfl) | (obtain ⟨_, _, _, _, _, _, _, _, _, _, _, _, _, _, _, _, _, _, _, rfl, _⟩ := h; rfl) | (obtain ⟨_, _, _, _, _, _, _, _, _, _, _, _, _, _, _, _, _, _, _, _, rfl, _⟩ := h; rfl) | (obtain ⟨_, _, _, _, _, _, _, _, _, _, _, _, _, _, _, _, _, _, _, _, _, rfl, _⟩ := h; rfl) | (obtain ⟨_, _, _, _, _, _, _, _, _, _, _, _, _, _, _, _, _, _, _, _, _, _, rfl, _⟩ := h; rfl) | (obtain ⟨_, _, _, _, _, _, _, _, _, _, _, _, _, _, _, _, _, _, _, _, _, _, _, rfl, _⟩ := h; rfl)
  · obtain ⟨x, ns, rfl, ⟨dx, t, hx, ht⟩, q⟩ := h
    refine ⟨_, (pss_one (ps_ret (pe_call G_shared_divisor (hr.mono (by decide)) (by rfl) g_shared_divisor k_shared_divisor b_shared_divisor .nil pass0 (pa_cons (pe_fld (pv 0) (by rfl)) pa_nil)))), ?_⟩
    exact ⟨_, rfl, x, C_Form, dx, _, .ref t, rfl, hx, T.cl_Form, T.na_Form_coefficients, lk_same, t, ns, rfl, ht, q⟩
theorem ok_Double_content (T : Txt K mg C_Form C_Double) : MDef (fun p f => PropOf K C_Double "content" p f) P w K mg base 2 ["self"] (sp_Double_content K C_Form C_Double) := by
  obtain ⟨p_, f_, fd_, R_, F_⟩ := T.e_Double_content
  obtain ⟨f_shared_divisor, fd_shared_divisor, g_shared_divisor, k_shared_divisor, b_shared_divisor, G_shared_divisor⟩ := (ok_shared_divisor (P := P) (w := w) (base := base) T)
  refine ⟨p_, f_, fd_, R_, F_.binds (ps := ["self"]) (fun _ _ _ _ _ _ us hl => match us, hl with | [_], _ => rfl), ?_⟩
  refine F_.ok sc_Double_content (fun vs H Q E h => ?_) (fun cdv A outer s H vs Q E hr h => ?_)
  · first | (obtain ⟨rfl, _⟩ := h; rfl) | (obtain ⟨_, rfl, _⟩ := h; rfl) | (obtain ⟨_, _, rfl, _⟩ := h; rfl) | (obtain ⟨_, _, _, rfl, _⟩ := h; rfl) | (obtain ⟨_, _, _, _, rfl, _⟩ := h; rfl) | (obtain ⟨_, _, _, _, _, rfl, _⟩ := h; rfl) | (obtain ⟨_, _, _, _, _, _, rfl, _⟩ := h; rfl) | (obtain ⟨_, _, _, _, _, _, _, rfl, _⟩ := h; rfl) | (obtain ⟨_, _, _, _, _, _, _, _, rfl, _⟩ := h; rfl) | (obtain ⟨_, _, _, _, _, _, _, _, _, rfl, _⟩ := h; rfl) | (obtain ⟨_, _, _, _, _, _, _, _, _, _, rfl, _⟩ := h; rfl) | (obtain ⟨_, _, _, _, _, _, _, _, _, _, _, rfl, _⟩ := h; rfl) | (obtain ⟨_, _, _, _, _, _, _, _, _, _, _, _, rfl, _⟩ := h; rfl) | (obtain ⟨_, _, _, _, _, _, _, _, _, _, _, _, _, rfl, _⟩ := h; rfl) | (obtain ⟨_, _, _, _, _, _, _, _, _, _, _, _, _, _, rfl, _⟩ := h; rfl) | (obtain ⟨_, _, _, _, _, _, _, _, _, _, _, _, _, _, _, rfl, _⟩ := h; rfl) | (obtain ⟨_, _, _, _, _, _, _, _, _, _, _, _, _, _, _, _, rfl, _⟩ := h; rfl) | (obtain ⟨_, _, _, _, _, _, _, _, _, _, _, _, _, _, _, _, _, rfl, _⟩ := h; rfl) | (obtain ⟨_, _, _, _, _, _, _, _, _, _, _, _, _, _, _, _, _, _, rfl, _⟩ := h; rfl) | (obtain ⟨_, _, _, _, _, _, _, _, _, _, _, _, _, _, _, _, _, _, _, rfl, _⟩ := h; rfl) | (obtain ⟨_, _, _, _, _, _, _, _, _, _, _, _, _, _, _, _, _, _, _, _, rfl, _⟩ := h; rfl) | (obtain ⟨_, _, _, _, _, _, _, _, _, _, _, _, _, _, _, _, _, _, _, _, _, rfl, _⟩ := h; rfl) | (obtain ⟨_, _, _, _, _, _, _, _, _, _, _, _, _, _, _, _, _, _, _, _, _, _, rfl, _⟩ := h; rfl) | (obtain ⟨_, _, _, _, _, _, _, _, _, _, _, _, _, _, _, _, _, _, _, _, _, _, _, rfl, _⟩ := h; rfl)
  · obtain ⟨x, ns, rfl, ⟨dx, t, hx, ht⟩, q⟩ := h
    refine ⟨_, (pss_one (ps_ret (pe_call G_shared_divisor (hr.mono (by decide)) (by rfl) g_shared_divisor k_shared_divisor b_shared_divisor .nil pass0 (pa_cons (pe_fld (pv 0) (by rfl)) pa_nil)))), ?_⟩
    exact ⟨_, rfl, x, C_Double, dx, _, .ref t, rfl, hx, T.cl_Double, T.na_Double_coefficients, lk_same, t, ns, rfl, ht, q⟩
theorem ok_Form___neg__ (T : Txt K mg C_Form C_Double) : MDef (fun p f => Meth K C_Form "__neg__" f) P w K mg base 7 ["self"] (sp_Form___neg__ K C_Form C_Double) := by
  obtain ⟨p_, f_, fd_, R_, F_⟩ := T.e_Form___neg__
  obtain ⟨f_form_of, fd_form_of, g_form_of, k_form_of, b_form_of, G_form_of⟩ := (ok_form_of (P := P) (w := w) (base := base) T)
  refine ⟨p_, f_, fd_, R_, F_.binds (ps := ["self"]) (fun _ _ _ _ _ _ us hl => match us, hl with | [_], _ => rfl), ?_⟩
  refine F_.ok sc_Form___neg__ (fun vs H Q E h => ?_) (fun cdv A outer s H vs Q E hr h => ?_)
  · first | (obtain ⟨rfl, _⟩ := h; rfl) | (obtain ⟨_, rfl, _⟩ := h; rfl) | (obtain ⟨_, _, rfl, _⟩ := h; rfl) | (obtain ⟨_, _, _, rfl, _⟩ := h; rfl) | (obtain ⟨_, _, _, _, rfl, _⟩ := h; rfl) | (obtain ⟨_, _, _, _, _, rfl, _⟩ := h; rfl) | (obtain ⟨_, _, _, _, _, _, rfl, _⟩ := h; rfl) | (obtain ⟨_, _, _, _, _, _, _, rfl, _⟩ := h; rfl) | (obtain ⟨_, _, _, _, _, _, _, _, rfl, _⟩ := h; rfl) | (obtain ⟨_, _, _, _, _, _, _, _, _, rfl, _⟩ := h; rfl) | (obtain ⟨_, _, _, _, _, _, _, _, _, _, rfl, _⟩ := h; rfl) | (obtain ⟨_, _, _, _, _, _, _, _, _, _, _, rfl, _⟩ := h; rfl) | (obtain ⟨_, _, _, _, _, _, _, _, _, _, _, _, rfl, _⟩ := h; rfl) | (obtain ⟨_, _, _, _, _, _, _, _, _, _, _, _, _, rfl, _⟩ := h; rfl) | (obtain ⟨_, _, _, _, _, _, _, _, _, _, _, _, _, _, rfl, _⟩ := h; rfl) | (obtain ⟨_, _, _, _, _, _, _, _, _, _, _, _, _, _, _, rfl, _⟩ := h; rfl) | (obtain ⟨_, _, _, _, _, _, _, _, _, _, _, _, _, _, _, _, rfl, _⟩ := h; rfl) | (obtain ⟨_, _, _, _, _, _, _, _, _, _, _, _, _, _, _, _, _, rfl, _⟩ := h; rfl) | (obtain ⟨_, _, _, _, _, _, _, _, _, _, _, _, _, _, _, _, _, _, rfl, _⟩ := h; rfl) | (obtain ⟨_, _, _, _, _, _, _, _, _, _, _, _, _, _, _, _, _, _, _, rfl, _⟩ := h; rfl) | (obtain ⟨_, _, _, _, _, _, _, _, _, _, _, _, _, _, _, _, _, _, _, _, rfl, _⟩ := h; rfl) | (obtain ⟨_, _, _, _, _, _, _, _, _, _, _, _, _, _, _, _, _, _, _, _, _, rfl, _⟩ := h; rfl) | (obtain ⟨_, _, _, _, _, _, _, _, _, _, _, _, _, _, _, _, _, _, _, _, _, _, rfl, _⟩ := h; rfl) | (obtain ⟨_, _, _, _, _, _, _, _, _, _, _, _, _, _, _, _, _, _, _, _, _, _, _, rfl, _⟩ := h; rfl)
  · obtain ⟨z, ns, rfl, ⟨dx, t, hx, ht⟩, hl, q⟩ := h
    refine ⟨_, (pss_one (ps_ret (pe_call G_form_of (hr.mono (by decide)) (by rfl) g_form_of k_form_of b_form_of .nil pass0 (pa_cons (pe_callTy call_tuple_of (by rfl) T.b_tuple (by decide +kernel) (pa_cons (pe_lc (own := [("number", 1)]) (g := (gName 1)) rfl sc_Form___neg__.nd (pi_tup (pe_fld (pv 0) (by rfl))) (blkOk_by (N := N_Form___neg__) (sc := defScope s_Form___neg__) (by decide +kernel)) (fun _ _ _ _ _ => (pg_name (i := 1) sc_Form___neg__.nd rfl (.inl rfl))) (fun _ _ _ _ _ => pts_nil) (fun _ _ _ _ _ => (pe_un un_neg (pv 1)))) pa_nil)) pa_nil)))), ?_⟩
    refine ⟨_, rfl, z, C_Form, dx, _, .ref t, rfl, hx, T.cl_Form, T.na_Form_coefficients, lk_same, t, rfl, ⟨_, SqT.of ht⟩, ?_⟩
    refine lcT fm0 trivial (SqT.of ht) (fun z => z) (fun i acc _ => acc = ((ns.take i).map fun n => -n).map V.int) (fun _ _ => rfl) (fun D i x acc H' hD hx' e hA hlen hp => ?_) (fun D H' acc hD e hA hp => ?_)
    · obtain ⟨n, hn, rfl⟩ := get_int hx'
      have hi := (List.getElem?_eq_some_iff.mp hn).1
      refine ⟨rfl, ?_⟩
      refine ⟨_, rfl, n, rfl, ?_⟩
      refine cs_yes fm0 trivial hD e hA hlen (by omega) (Fx.refl trivial) ?_
      rw [hp, List.take_add_one, hn, List.map_append, List.map_append]
      rfl
    · rw [List.length_map, List.take_length] at hp
      subst hp
      refine ⟨D, _, rfl, .inl ⟨SqL.of hA, fun p np => ?_⟩⟩
      exact ⟨p, ns.map fun n => -n, rfl, upd_same, fun x H3 e3 hx3 => q x H3 ((e.trans (Ex0.new np)).trans e3) hx3⟩
theorem ok_Double___neg__ (T : Txt K mg C_Form C_Double) : MDef (fun p f => Meth K C_Double "__neg__" f) P w K mg base 7 ["self"] (sp_Double___neg__ K C_Form C_Double) := by
  obtain ⟨p_, f_, fd_, R_, F_⟩ := T.e_Double___neg__
  obtain ⟨f_double_of, fd_double_of, g_double_of, k_double_of, b_double_of, G_double_of⟩ := (ok_double_of (P := P) (w := w) (base := base) T)
  refine ⟨p_, f_, fd_, R_, F_.binds (ps := ["self"]) (fun _ _ _ _ _ _ us hl => match us, hl with | [_], _ => rfl), ?_⟩
  refine F_.ok sc_Double___neg__ (fun vs H Q E h => ?_) (fun cdv A outer s H vs Q E hr h => ?_)
  · first | (obtain ⟨rfl, _⟩ := h; rfl) | (obtain ⟨_, rfl, _⟩ := h; rfl) | (obtain ⟨_, _, rfl, _⟩ := h; rfl) | (obtain ⟨_, _, _, rfl, _⟩ := h; rfl) | (obtain ⟨_, _, _, _, rfl, _⟩ := h; rfl) | (obtain ⟨_, _, _, _, _, rfl, _⟩ := h; rfl) | (obtain ⟨_, _, _, _, _, _, rfl, _⟩ := h; rfl) | (obtain ⟨_, _, _, _, _, _, _, rfl, _⟩ := h; rfl) | (obtain ⟨_, _, _, _, _, _, _, _, rfl, _⟩ := h; rfl) | (obtain ⟨_, _, _, _, _, _, _, _, _, rfl, _⟩ := h; rfl) | (obtain ⟨_, _, _, _, _, _, _, _, _, _, rfl, _⟩ := h; rfl) | (obtain ⟨_, _, _, _, _, _, _, _, _, _, _, rfl, _⟩ := h; rfl) | (obtain ⟨_, _, _, _, _, _, _, _, _, _, _, _, rfl, _⟩ := h; rfl) | (obtain ⟨_, _, _, _, _, _, _, _, _, _, _, _, _, rfl, _⟩ := h; rfl) | (obtain ⟨_, _, _, _, _, _, _, _, _, _, _, _, _, _, rfl, _⟩ := h; rfl) | (obtain ⟨_, _, _, _, _, _, _, _, _, _, _, _, _, _, _, rfl, _⟩ := h; rfl) | (obtain ⟨_, _, _, _, _, _, _, _, _, _, _, _, _, _, _, _, rfl, _⟩ := h; rfl) | (obtain ⟨_, _, _, _, _, _, _, _, _, _, _, _, _, _, _, _, _, rfl, _⟩ := h; rfl) | (obtain ⟨_, _, _, _, _, _, _, _, _, _, _, _, _, _, _, _, _, _, rfl, _⟩ := h; rfl) | (obtain ⟨_, _, _, _, _, _, _, _, _, _, _, _, _, _, _, _, _, _, _, rfl, _⟩ := h; rfl) | (obtain ⟨_, _, _, _, _, _, _, _, _, _, _, _, _, _, _, _, _, _, _, _, rfl, _⟩ := h; rfl) | (obtain ⟨_, _, _, _, _, _, _, _, _, _, _, _, _, _, _, _, _, _, _, _, _, rfl, _⟩ := h; rfl) | (obtain ⟨_, _, _, _, _, _, _, _, _, _, _, _, _, _, _, _, _, _, _, _, _, _, rfl, _⟩ := h; rfl) | (obtain ⟨_, _, _, _, _, _, _, _, _, _, _, _, _, _, _, _, _, _, _, _, _, _, _, rfl, _⟩ := h; rfl)
  · obtain ⟨z, ns, rfl, ⟨dx, t, hx, ht⟩, hl, q⟩ := h
    refine ⟨_, (pss_one (ps_ret (pe_call G_double_of (hr.mono (by decide)) (by rfl) g_double_of k_double_of b_double_of .nil pass0 (pa_cons (pe_callTy call_tuple_of (by rfl) T.b_tuple (by decide +kernel) (pa_cons (pe_lc (own := [("number", 1)]) (g := (gName 1)) rfl sc_Double___neg__.nd (pi_tup (pe_fld (pv 0) (by rfl))) (blkOk_by (N := N_Double___neg__) (sc := defScope s_Double___neg__) (by decide +kernel)) (fun _ _ _ _ _ => (pg_name (i := 1) sc_Double___neg__.nd rfl (.inl rfl))) (fun _ _ _ _ _ => pts_nil) (fun _ _ _ _ _ => (pe_un un_neg (pv 1)))) pa_nil)) pa_nil)))), ?_⟩
    refine ⟨_, rfl, z, C_Double, dx, _, .ref t, rfl, hx, T.cl_Double, T.na_Double_coefficients, lk_same, t, rfl, ⟨_, SqT.of ht⟩, ?_⟩
    refine lcT fm0 trivial (SqT.of ht) (fun z => z) (fun i acc _ => acc = ((ns.take i).map fun n => -n).map V.int) (fun _ _ => rfl) (fun D i x acc H' hD hx' e hA hlen hp => ?_) (fun D H' acc hD e hA hp => ?_)
    · obtain ⟨n, hn, rfl⟩ := get_int hx'
      have hi := (List.getElem?_eq_some_iff.mp hn).1
      refine ⟨rfl, ?_⟩
      refine ⟨_, rfl, n, rfl, ?_⟩
      refine cs_yes fm0 trivial hD e hA hlen (by omega) (Fx.refl trivial) ?_
      rw [hp, List.take_add_one, hn, List.map_append, List.map_append]
      rfl
    · rw [List.length_map, List.take_length] at hp
      subst hp
      refine ⟨D, _, rfl, .inl ⟨SqL.of hA, fun p np => ?_⟩⟩
      exact ⟨p, ns.map fun n => -n, rfl, upd_same, fun x H3 e3 hx3 => q x H3 ((e.trans (Ex0.new np)).trans e3) hx3⟩
theorem ok_Double___str__ (T : Txt K mg C_Form C_Double) : Gd.MDefG (fun p f => Meth K C_Double "__str__" f) P w K mg base 1 ["self"] (sp_Double___str__ K C_Form C_Double) := by
  obtain ⟨p_, f_, fd_, R_, F_⟩ := T.e_Double___str__
  refine ⟨p_, f_, fd_, R_, F_.binds (ps := ["self"]) (fun _ _ _ _ _ _ us hl => match us, hl with | [_], _ => rfl), ?_⟩
  refine Gd.okG F_ sc_Double___str__ (fun vs H Q E h => ?_) (fun cdv A outer s H vs Q E hG hr h => ?_)
  · first | (obtain ⟨rfl, _⟩ := h; rfl) | (obtain ⟨_, rfl, _⟩ := h; rfl) | (obtain ⟨_, _, rfl, _⟩ := h; rfl) | (obtain ⟨_, _, _, rfl, _⟩ := h; rfl) | (obtain ⟨_, _, _, _, rfl, _⟩ := h; rfl) | (obtain ⟨_, _, _, _, _, rfl, _⟩ := h; rfl) | (obtain ⟨_, _, _, _, _, _, rfl, _⟩ := h; rfl) | (obtain ⟨_, _, _, _, _, _, _, rfl, _⟩ := h; rfl) | (obtain ⟨_, _, _, _, _, _, _, _, rfl, _⟩ := h; rfl) | (obtain ⟨_, _, _, _, _, _, _, _, _, rfl, _⟩ := h; rfl) | (obtain ⟨_, _, _, _, _, _, _, _, _, _, rfl, _⟩ := h; rfl) | (obtain ⟨_, _, _, _, _, _, _, _, _, _, _, rfl, _⟩ := h; rfl) | (obtain ⟨_, _, _, _, _, _, _, _, _, _, _, _, rfl, _⟩ := h; rfl) | (obtain ⟨_, _, _, _, _, _, _, _, _, _, _, _, _, rfl, _⟩ := h; rfl) | (obtain ⟨_, _, _, _, _, _, _, _, _, _, _, _, _, _, rfl, _⟩ := h; rfl) | (obtain ⟨_, _, _, _, _, _, _, _, _, _, _, _, _, _, _, rfl, _⟩ := h; rfl) | (obtain ⟨_, _, _, _, _, _, _, _, _, _, _, _, _, _, _, _, rfl, _⟩ := h; rfl) | (obtain ⟨_, _, _, _, _, _, _, _, _, _, _, _, _, _, _, _, _, rfl, _⟩ := h; rfl) | (obtain ⟨_, _, _, _, _, _, _, _, _, _, _, _, _, _, _, _, _, _, rfl, _⟩ := h; rfl) | (obtain ⟨_, _, _, _, _, _, _, _, _, _, _, _, _, _, _, _, _, _, _, rfl, _⟩ := h; rfl) | (obtain ⟨_, _, _, _, _, _, _, _, _, _, _, _, _, _, _, _, _, _, _, _, rfl, _⟩ := h; rfl) | (obtain ⟨_, _, _, _, _, _, _, _, _, _, _, _, _, _, _, _, _, _, _, _, _, rfl, _⟩ := h; rfl) | (obtain ⟨_, _, _, _, _, _, _, _, _, _, _, _, _, _, _, _, _, _, _, _, _, _, rfl, _⟩ := h; rfl) | (obtain ⟨_, _, _, _, _, _, _, _, _, _, _, _, _, _, _, _, _, _, _, _, _, _, _, rfl, _⟩ := h; rfl)
  · obtain ⟨x, ns, rfl, ⟨dx, t, hx, ht⟩, h1, h2, q⟩ := h
    refine ⟨_, (pss_one (ps_ret (pe_callTy (Gd.call_strD hG hr) (by rfl) T.b_str (by decide +kernel) (pa_cons (pe_fld (pv 0) (by rfl)) pa_nil)))), ?_⟩
    refine ⟨_, rfl, x, C_Double, dx, _, .ref t, rfl, hx, T.cl_Double, T.na_Double_coefficients, lk_same, ?_⟩
    exact ⟨t, .tuple (ns.map .int), rfl, .tup (SqT.of ht) (dp_ints _), showable_ints h1, noDict_ints ns, depth_ints ns, h2, q⟩
end
end TF
namespace TF
open PySem PySem.Spec PyProof.Rows L2 Fr
def Gd (i : Nat) (p q r s : Int) : Prop := p.natAbs ≤ 2 ^ (20 * i) ∧ q.natAbs ≤ 2 ^ (20 * i) ∧ r.natAbs ≤ 2 ^ (20 * i) ∧ s.natAbs ≤ 2 ^ (20 * i) ∧ (p * s - q * r = 1 ∨ p * s - q * r = -1)
def sp_l_cask (K : PySem.W.Frag) (_ _ : Addr) : Sp := fun vs H Q _ => ∃ (a : Addr) (ns : List Int) (i : Nat), vs = [.ref a, .int (i : Int)] ∧ SqL K H a (ns.map V.int) ∧ ∀ p H', H p = none → Ex0 H H' → Vat p H' → Q (.ref p) H'
def sp_l_tap (_ : PySem.W.Frag) (_ _ : Addr) : Sp := fun vs H Q _ => ∃ (c : Addr) (t : Int), vs = [.ref c, .int t] ∧ Vat c H ∧ 0 < t ∧ t < 2 ^ 250 ∧ ∀ (r : Int) H', 0 ≤ r → r < t → Fv c H H' → Q (.int r) H'
def sp_l_one (K : PySem.W.Frag) (_ _ : Addr) : Sp := fun vs H Q _ => ∃ (c l : Addr) (xs : List V), vs = [.ref c, .ref l] ∧ Vat c H ∧ H l = some (.lst xs) ∧ l ≠ c ∧ xs ≠ [] ∧ xs.length ≤ 1000 ∧ ∀ v H', v ∈ xs → Fv c H H' → Q v H'
def sp_l_number (_ : PySem.W.Frag) (_ _ : Addr) : Sp := fun vs H Q _ => ∃ c : Addr, vs = [.ref c] ∧ Vat c H ∧ ∀ (n : Int) H', n.natAbs ≤ 10000000000000000000000000 → Fv c H H' → Q (.int n) H'
def sp_l_entry (_ : PySem.W.Frag) (_ _ : Addr) : Sp := fun vs H Q _ => ∃ c : Addr, vs = [.ref c] ∧ Vat c H ∧ ∀ (n : Int) H', n.natAbs ≤ 100000000000000000 → Fv c H H' → Q (.int n) H'
def sp_l_numbers (_ : PySem.W.Frag) (_ _ : Addr) : Sp := fun vs H Q _ => ∃ (c : Addr) (k : Nat), vs = [.ref c, .int (k : Int)] ∧ Vat c H ∧ k ≤ 1000 ∧ ∀ (t : Addr) (ns : List Int) H', Fv c H H' → Ti H' t ns → ns.length = k → (∀ n ∈ ns, n.natAbs ≤ 10000000000000000000000000) → Q (.ref t) H'
def sp_l_then (_ : PySem.W.Frag) (_ _ : Addr) : Sp := fun vs H Q _ => ∃ (a b : Addr) (p q r s i j k m : Int), vs = [.ref a, .ref b] ∧ T4 H a p q r s ∧ T4 H b i j k m ∧ B 400 p ∧ B 400 q ∧ B 400 r ∧ B 400 s ∧ B 400 i ∧ B 400 j ∧ B 400 k ∧ B 400 m ∧ ∀ x H', Ex0 H H' → T4 H' x (i * p + j * r) (i * q + j * s) (k * p + m * r) (k * q + m * s) → Q (.ref x) H'
def sp_l_change (_ : PySem.W.Frag) (_ _ : Addr) : Sp := fun vs H Q _ => ∃ (c : Addr) (t : Nat), vs = [.ref c, .int (t : Int)] ∧ Vat c H ∧ t ≤ 4 ∧ ∀ x p q r s H', Fv c H H' → T4 H' x p q r s → Gd t p q r s → Q (.ref x) H'
def sp_l_sense (_ : PySem.W.Frag) (_ _ : Addr) : Sp := fun vs H Q _ => ∃ (a : Addr) (p q r s : Int), vs = [.ref a] ∧ T4 H a p q r s ∧ B 400 p ∧ B 400 q ∧ B 400 r ∧ B 400 s ∧ Q (.int (p * s - q * r)) H
def sp_l_common (_ : PySem.W.Frag) (_ _ : Addr) : Sp := fun vs H Q _ => ∃ (a : Addr) (ns : List Int), vs = [.ref a] ∧ Ti H a ns ∧ Q (.int (gcdL ns : Nat)) H
theorem Gd.b {i : Nat} {p q r s : Int} (h : Gd i p q r s) (hi : i ≤ 4) : B 81 p ∧ B 81 q ∧ B 81 r ∧ B 81 s := by
  have h1 : 2 ^ (20 * i) < 2 ^ 81 := Nat.pow_lt_pow_right (by decide) (by omega)
  obtain ⟨a, b, c, d, _⟩ := h
  exact ⟨⟨Nat.lt_of_le_of_lt a h1, by decide⟩, ⟨Nat.lt_of_le_of_lt b h1, by decide⟩, ⟨Nat.lt_of_le_of_lt c h1, by decide⟩, ⟨Nat.lt_of_le_of_lt d h1, by decide⟩⟩
theorem Gd.mono {i j : Nat} {p q r s : Int} (h : Gd i p q r s) (hi : i ≤ j) : Gd j p q r s := by
  have h1 : 2 ^ (20 * i) ≤ 2 ^ (20 * j) := Nat.pow_le_pow_right (by decide) (by omega)
  obtain ⟨a, b, c, d, e⟩ := h
  exact ⟨Nat.le_trans a h1, Nat.le_trans b h1, Nat.le_trans c h1, Nat.le_trans d h1, e⟩
def Pl (i j k m : Int) : Prop := ∃ z : Int, z.natAbs ≤ 1000098 ∧ ((i = 1 ∧ j = z ∧ k = 0 ∧ m = 1) ∨ (i = 1 ∧ j = 0 ∧ k = z ∧ m = 1) ∨ (i = 0 ∧ j = 1 ∧ k = 1 ∧ m = 0) ∨ (i = -1 ∧ j = 0 ∧ k = 0 ∧ m = 1) ∨ (i = 0 ∧ j = 1 ∧ k = -1 ∧ m = 0))
theorem near {M : Nat} {x y z : Int} (hx : x.natAbs ≤ M) (hy : y.natAbs ≤ M) (hz : z.natAbs ≤ 1000098) : (x + z * y).natAbs ≤ M * 1048576 := by
  have h1 : (z * y).natAbs ≤ 1000098 * M := by rw [Int.natAbs_mul]; exact Nat.mul_le_mul hz hy
  omega
theorem Gd.step {n : Nat} {p q r s i j k m : Int} (h : Gd n p q r s) (g : Pl i j k m) : Gd (n + 1) (i * p + j * r) (i * q + j * s) (k * p + m * r) (k * q + m * s) := by
  obtain ⟨a, b, c, d, e⟩ := h
  obtain ⟨z, hz, g⟩ := g
  unfold Gd
  rw [show 20 * (n + 1) = 20 * n + 20 by omega, Nat.pow_add, show (2 : Nat) ^ 20 = 1048576 by decide]
  generalize 2 ^ (20 * n) = M at *
  have hM : M ≤ M * 1048576 := by omega
  have one : ∀ x : Int, x.natAbs ≤ M → x.natAbs ≤ M * 1048576 := fun x hx => Nat.le_trans hx hM
  have det : (i * p + j * r) * (k * q + m * s) - (i * q + j * s) * (k * p + m * r) = (i * m - j * k) * (p * s - q * r) := by grind
  have dd : ∀ u : Int, i * m - j * k = u → (u = 1 ∨ u = -1) → ((i * p + j * r) * (k * q + m * s) - (i * q + j * s) * (k * p + m * r) = 1 ∨ (i * p + j * r) * (k * q + m * s) - (i * q + j * s) * (k * p + m * r) = -1) := fun u hu hv => by
    rw [det, hu]
    rcases hv with rfl | rfl <;> rcases e with e | e <;> rw [e] <;> decide
  rcases g with ⟨rfl, rfl, rfl, rfl⟩ | ⟨rfl, rfl, rfl, rfl⟩ | ⟨rfl, rfl, rfl, rfl⟩ | ⟨rfl, rfl, rfl, rfl⟩ | ⟨rfl, rfl, rfl, rfl⟩
  · refine ⟨?_, ?_, ?_, ?_, dd 1 (by omega) (.inl rfl)⟩
    · rw [Int.one_mul]; exact near a c hz
    · rw [Int.one_mul]; exact near b d hz
    · rw [show 0 * p + 1 * r = r by omega]; exact one _ c
    · rw [show 0 * q + 1 * s = s by omega]; exact one _ d
  · refine ⟨?_, ?_, ?_, ?_, dd 1 (by omega) (.inl rfl)⟩
    · rw [show 1 * p + 0 * r = p by omega]; exact one _ a
    · rw [show 1 * q + 0 * s = q by omega]; exact one _ b
    · rw [Int.one_mul, Int.add_comm]; exact near c a hz
    · rw [Int.one_mul, Int.add_comm]; exact near d b hz
  · refine ⟨?_, ?_, ?_, ?_, dd (-1) (by decide) (.inr rfl)⟩
    · rw [show 0 * p + 1 * r = r by omega]; exact one _ c
    · rw [show 0 * q + 1 * s = s by omega]; exact one _ d
    · rw [show 1 * p + 0 * r = p by omega]; exact one _ a
    · rw [show 1 * q + 0 * s = q by omega]; exact one _ b
  · refine ⟨?_, ?_, ?_, ?_, dd (-1) (by decide) (.inr rfl)⟩
    · rw [show -1 * p + 0 * r = -p by omega, Int.natAbs_neg]; exact one _ a
    · rw [show -1 * q + 0 * s = -q by omega, Int.natAbs_neg]; exact one _ b
    · rw [show 0 * p + 1 * r = r by omega]; exact one _ c
    · rw [show 0 * q + 1 * s = s by omega]; exact one _ d
  · refine ⟨?_, ?_, ?_, ?_, dd 1 (by decide) (.inl rfl)⟩
    · rw [show 0 * p + 1 * r = r by omega]; exact one _ c
    · rw [show 0 * q + 1 * s = s by omega]; exact one _ d
    · rw [show -1 * p + 0 * r = -p by omega, Int.natAbs_neg]; exact one _ a
    · rw [show -1 * q + 0 * s = -q by omega, Int.natAbs_neg]; exact one _ b
theorem Pl.b {i j k m : Int} (g : Pl i j k m) : B 400 i ∧ B 400 j ∧ B 400 k ∧ B 400 m := by
  obtain ⟨z, hz, g⟩ := g
  have bz : B 400 z := ⟨Nat.lt_of_le_of_lt hz (by decide), by decide⟩
  have b0 : B 400 0 := ⟨by decide, by decide⟩
  have b1 : B 400 1 := ⟨by decide, by decide⟩
  have b2 : B 400 (-1) := ⟨by decide, by decide⟩
  rcases g with ⟨rfl, rfl, rfl, rfl⟩ | ⟨rfl, rfl, rfl, rfl⟩ | ⟨rfl, rfl, rfl, rfl⟩ | ⟨rfl, rfl, rfl, rfl⟩ | ⟨rfl, rfl, rfl, rfl⟩ <;> refine ⟨?_, ?_, ?_, ?_⟩ <;> assumption
section
variable {P : Program} {w : World} {K : PySem.W.Frag} {mg : Str → Option Value} {base : Heap} {C_Form C_Double : Addr}
theorem ok_l_cask (T : Txt K mg C_Form C_Double) : Def P w K mg base 1 "_law_cask" ["_law_script", "_law_spot"] (sp_l_cask K C_Form C_Double) := by
  obtain ⟨f_, fd_, g_, F_⟩ := T.d_l_cask
  refine ⟨f_, fd_, g_, F_.kp, F_.binds (ps := ["_law_script", "_law_spot"]) (fun _ _ _ _ _ _ us hl => match us, hl with | [_, _], _ => rfl), ?_⟩
  refine F_.ok sc_l_cask (fun vs H Q E h => ?_) (fun cdv A outer s H vs Q E hr h => ?_)
  · first | (obtain ⟨rfl, _⟩ := h; rfl) | (obtain ⟨_, rfl, _⟩ := h; rfl) | (obtain ⟨_, _, rfl, _⟩ := h; rfl) | (obtain ⟨_, _, _, rfl, _⟩ := h; rfl) | (obtain ⟨_, _, _, _, rfl, _⟩ := h; rfl) | (obtain ⟨_, _, _, _, _, rfl, _⟩ := h; rfl) | (obtain ⟨_, _, _, _, _, _, rfl, _⟩ := h; rfl) | (obtain ⟨_, _, _, _, _, _, _, rfl, _⟩ := h; rfl) | (obtain ⟨_, _, _, _, _, _, _, _, rfl, _⟩ := h; rfl) | (obtain ⟨_, _, _, _, _, _, _, _, _, rfl, _⟩ := h; rfl) | (obtain ⟨_, _, _, _, _, _, _, _, _, _, rfl, _⟩ := h; rfl) | (obtain ⟨_, _, _, _, _, _, _, _, _, _, _, rfl, _⟩ := h; rfl) | (obtain ⟨_, _, _, _, _, _, _, _, _, _, _, _, rfl, _⟩ := h; rfl) | (obtain ⟨_, _, _, _, _, _, _, _, _, _, _, _, _, rfl, _⟩ := h; rfl) | (obtain ⟨_, _, _, _, _, _, _, _, _, _, _, _, _, _, rfl, _⟩ := h; rfl) | (obtain ⟨_, _, _, _, _, _, _, _, _, _, _, _, _, _, _, rfl, _⟩ := h; rfl) | (obtain ⟨_, _, _, _, _, _, _, _, _, _, _, _, _, _, _, _, rfl, _⟩ := h; rfl) | (obtain ⟨_, _, _, _, _, _, _, _, _, _, _, _, _, _, _, _, _, rfl, _⟩ := h; rfl) | (obtain ⟨_, _, _, _, _, _, _, _, _, _, _, _, _, _, _, _, _, _, rfl, _⟩ := h; rfl) | (obtain ⟨_, _, _, _, _, _, _, _, _, _, _, _, _, _, _, _, _, _, _, rfl, _⟩ := h; rfl) | (obtain ⟨_, _, _, _, _, _, _, _, _, _, _, _, _, _, _, _, _, _, _, _, rfl, _⟩ := h; rfl) | (obtain ⟨_, _, _, _, _, _, _, _, _, _, _, _, _, _, _, _, _, _, _, _, _, rfl, _⟩ := h; rfl) | (obtain ⟨_, _, _, _, _, _, _, _, _, _, _, _, _, _, _, _, _, _, _, _, _, _, rfl, _⟩ := h; rfl) | (obtain ⟨_, _, _, _, _, _, _, _, _, _, _, _, _, _, _, _, _, _, _, _, _, _, _, rfl, _⟩ := h; rfl)
  · obtain ⟨a, ns, i, rfl, ha, q⟩ := h
    refine ⟨_, (Evl.pss_cut (ps_set (i := 2) sc_l_cask.nd rfl (.inl rfl) (pe_ifExp (pt_cmpR op_lt (pv 1) (pe_callB call_len_seq (by rfl) T.b_len PySem.boot_len (pa_cons (pv 0) pa_nil)) (nomark _)) (pe_callTy call_int1 (by rfl) T.b_int (by decide +kernel) (pa_cons (pe_ix ix_list (pv 0) (pv 1) (fun _ _ => rfl)) pa_nil)) (pe_op op_add (pe_op op_add (pe_op op_mul pe_int (pv 1)) pe_int) (pe_op op_mod (pe_callTy call_int1 (by rfl) T.b_int (by decide +kernel) (pa_cons (pe_callB (cr_sum rfl) (by rfl) T.b_sum (by decide +kernel) (pa_cons (pe_slice sl_list (pv 0) po_none (po_some pe_int)) pa_nil)) pa_nil)) pe_int))))
    (pss_cons (ps_set (i := 3) sc_l_cask.nd rfl (.inl rfl) (pe_op op_mod (pe_callTy call_int1 (by rfl) T.b_int (by decide +kernel) (pa_cons (pe_callB call_abs (by rfl) T.b_abs (by decide +kernel) (pa_cons (pv 2) pa_nil)) pa_nil)) (pe_op op_powC (pe_op op_pow pe_int pe_int) pe_int)))
    (pss_cons (ps_set (i := 4) sc_l_cask.nd rfl (.inl rfl) (pe_op op_mod (pe_callTy call_int1 (by rfl) T.b_int (by decide +kernel) (pa_cons (pe_op op_add (pe_op op_add (pe_op op_add (pe_op op_mul (pe_op op_mod (pv 3) pe_int) pe_int) (pe_op op_mul pe_int (pv 1))) (pe_op op_mul pe_int (pe_callTy call_int1 (by rfl) T.b_int (by decide +kernel) (pa_cons (pe_cmpR op_lt (pv 2) pe_int (nomark _)) pa_nil)))) pe_int) pa_nil)) pe_int))
    (pss_one (ps_ret (pe_lst (pa_cons (pe_callB (call_max2 rfl) (by rfl) T.b_max (by decide +kernel) (pa_cons pe_int (pa_cons (pe_op op_sub (pv 3) (pe_op op_pow pe_int pe_int)) pa_nil))) (pa_cons (pv 4) (pa_cons pe_int pa_nil))))))))), ?_⟩
    refine ⟨fun σ H' => ∃ cell : Int, σ = [some (.ref a), some (.int (i : Int)), some (.int cell), none, none] ∧ Ex0 H H', ?_, ?_⟩
    · refine ⟨_, rfl, _, rfl, a, _, rfl, .inl ha, _, _, rfl, rfl, _, rfl, iteD (fun g => ?_) (fun g => ?_)⟩
      · have hi : i < ns.length := by rw [List.length_map] at g; omega
        refine ⟨_, rfl, _, rfl, a, _, (i : Int), .int ns[i], rfl, rfl, ha, atI_nat (by rw [List.getElem?_map, List.getElem?_eq_getElem hi]; rfl), .inl ⟨_, rfl, ?_⟩⟩
        exact ⟨_, rfl, Ex0.refl H⟩
      · refine ⟨_, rfl, _, _, rfl, rfl, .inl ⟨by decide, by decide⟩, _, _, rfl, rfl, ?_⟩
        refine ⟨_, rfl, _, rfl, a, _, rfl, ha, fun p np => ?_⟩
        refine ⟨p, _, rfl, SqL.of (by rw [upd_same, cut_map]), .inl ⟨_, rfl, ?_⟩⟩
        refine ⟨_, _, rfl, rfl, (show (0 : Int) < 1000037 by decide), _, _, rfl, rfl, ?_⟩
        exact ⟨_, rfl, Ex0.new np⟩
    · rintro σ H' ⟨cell, rfl, e⟩
      refine ⟨_, rfl, cell, rfl, .inl ⟨_, rfl, ?_⟩⟩
      refine ⟨_, _, rfl, rfl, ⟨by decide, by decide, by decide⟩, _, _, rfl, rfl, ⟨by decide, by decide +kernel⟩, _, _, rfl, rfl, by show (0 : Int) < (10 ^ 57) ^ 8; decide +kernel, ?_⟩
      refine ⟨_, rfl, _, _, rfl, rfl, (show (0 : Int) < 2305843009213693907 by decide), _, _, rfl, rfl, .inr ⟨by decide, by decide⟩, _, rfl, _, _, rfl, rfl, .inl ⟨by decide, by decide⟩, _, _, rfl, rfl, ?_⟩
      refine ⟨_, rfl, _, _, rfl, rfl, .inr ⟨_, rfl, _, _, rfl, rfl, .inl ⟨by decide, by decide⟩, _, _, rfl, rfl, _, _, rfl, rfl, ?_⟩⟩
      refine .inl ⟨_, rfl, _, _, rfl, rfl, (show (0 : Int) < 2305843009213693951 by decide), ?_⟩
      refine ⟨_, rfl, _, _, rfl, rfl, ⟨by decide, by decide, by decide⟩, _, _, rfl, rfl, _, _, rfl, _, rfl, sl3, fun p hp => ?_⟩
      exact q p _ (Fx.free e (fun z => z) hp) (e.trans (Ex0.new hp)) ⟨_, _, _, upd_same⟩
theorem ok_l_tap (T : Txt K mg C_Form C_Double) : Def P w K mg base 1 "_law_tap" ["_law_cask_here", "_law_many_here"] (sp_l_tap K C_Form C_Double) := by
  obtain ⟨f_, fd_, g_, F_⟩ := T.d_l_tap
  refine ⟨f_, fd_, g_, F_.kp, F_.binds (ps := ["_law_cask_here", "_law_many_here"]) (fun _ _ _ _ _ _ us hl => match us, hl with | [_, _], _ => rfl), ?_⟩
  refine F_.ok sc_l_tap (fun vs H Q E h => ?_) (fun cdv A outer s H vs Q E hr h => ?_)
  · first | (obtain ⟨rfl, _⟩ := h; rfl) | (obtain ⟨_, rfl, _⟩ := h; rfl) | (obtain ⟨_, _, rfl, _⟩ := h; rfl) | (obtain ⟨_, _, _, rfl, _⟩ := h; rfl) | (obtain ⟨_, _, _, _, rfl, _⟩ := h; rfl) | (obtain ⟨_, _, _, _, _, rfl, _⟩ := h; rfl) | (obtain ⟨_, _, _, _, _, _, rfl, _⟩ := h; rfl) | (obtain ⟨_, _, _, _, _, _, _, rfl, _⟩ := h; rfl) | (obtain ⟨_, _, _, _, _, _, _, _, rfl, _⟩ := h; rfl) | (obtain ⟨_, _, _, _, _, _, _, _, _, rfl, _⟩ := h; rfl) | (obtain ⟨_, _, _, _, _, _, _, _, _, _, rfl, _⟩ := h; rfl) | (obtain ⟨_, _, _, _, _, _, _, _, _, _, _, rfl, _⟩ := h; rfl) | (obtain ⟨_, _, _, _, _, _, _, _, _, _, _, _, rfl, _⟩ := h; rfl) | (obtain ⟨_, _, _, _, _, _, _, _, _, _, _, _, _, rfl, _⟩ := h; rfl) | (obtain ⟨_, _, _, _, _, _, _, _, _, _, _, _, _, _, rfl, _⟩ := h; rfl) | (obtain ⟨_, _, _, _, _, _, _, _, _, _, _, _, _, _, _, rfl, _⟩ := h; rfl) | (obtain ⟨_, _, _, _, _, _, _, _, _, _, _, _, _, _, _, _, rfl, _⟩ := h; rfl) | (obtain ⟨_, _, _, _, _, _, _, _, _, _, _, _, _, _, _, _, _, rfl, _⟩ := h; rfl) | (obtain ⟨_, _, _, _, _, _, _, _, _, _, _, _, _, _, _, _, _, _, rfl, _⟩ := h; rfl) | (obtain ⟨_, _, _, _, _, _, _, _, _, _, _, _, _, _, _, _, _, _, _, rfl, _⟩ := h; rfl) | (obtain ⟨_, _, _, _, _, _, _, _, _, _, _, _, _, _, _, _, _, _, _, _, rfl, _⟩ := h; rfl) | (obtain ⟨_, _, _, _, _, _, _, _, _, _, _, _, _, _, _, _, _, _, _, _, _, rfl, _⟩ := h; rfl) | (obtain ⟨_, _, _, _, _, _, _, _, _, _, _, _, _, _, _, _, _, _, _, _, _, _, rfl, _⟩ := h; rfl) | (obtain ⟨_, _, _, _, _, _, _, _, _, _, _, _, _, _, _, _, _, _, _, _, _, _, _, rfl, _⟩ := h; rfl)
  · obtain ⟨c, t, rfl, ⟨x, y, z, hv⟩, h0, h1, q⟩ := h
    refine ⟨_, (pss_cons (ps_if (pt_cmpR op_gt (pe_ix ix_list (pv 0) pe_int (fun _ _ => rfl)) pe_int (nomark _))
      (pss_cons (ps_set (i := 2) sc_l_tap.nd rfl (.inl rfl) (pe_op op_mod (pe_callTy call_int1 (by rfl) T.b_int (by decide +kernel) (pa_cons (pe_ix ix_list (pv 0) pe_int (fun _ _ => rfl)) pa_nil)) (pv 1)))
    (pss_cons (ps_asg (pe_op op_fdivW (pe_ix ix_list (pv 0) pe_int (fun _ _ => rfl)) (pv 1)) (pg_sub (pv 0) pe_int set_list))
    (pss_one (ps_ret (pv 2)))))
      pss_nil)
    (pss_cons (ps_asg (pe_op op_add (pe_ix ix_list (pv 0) pe_int (fun _ _ => rfl)) pe_int) (pg_sub (pv 0) pe_int set_list))
    (pss_cons (ps_set (i := 3) sc_l_tap.nd rfl (.inl rfl) (pe_op op_mod (pe_callTy call_int1 (by rfl) T.b_int (by decide +kernel) (pa_cons (pe_op op_add (pe_ix ix_list (pv 0) pe_int (fun _ _ => rfl)) (pe_op op_mul pe_int (pe_ix ix_list (pv 0) pe_int (fun _ _ => rfl)))) pa_nil)) pe_int))
    (pss_cons (ps_set (i := 4) sc_l_tap.nd rfl (.inl rfl) (pe_op op_add (pe_op op_add (pe_op op_mul (pe_op op_mod (pe_callTy call_int1 (by rfl) T.b_int (by decide +kernel) (pa_cons (pe_op op_mul (pv 3) (pv 3)) pa_nil)) pe_int) pe_int) (pv 3)) (pe_op op_mul pe_int (pe_ix ix_list (pv 0) pe_int (fun _ _ => rfl)))))
    (pss_one (ps_ret (pe_op op_mod (pe_callTy call_int1 (by rfl) T.b_int (by decide +kernel) (pa_cons (pe_op op_fdivW (pv 4) pe_int) pa_nil)) (pv 1)))))))), ?_⟩
    have fv : ∀ (H' : Hp) (x' y' z' : Int), (∀ b o, b ≠ c → H b = some o → H' b = some o) → H' c = some (.lst [.int x', .int y', .int z']) → Fv c H H' := fun H' x' y' z' a b => ⟨⟨x', y', z', b⟩, a⟩
    refine ⟨_, rfl, c, _, 0, .int x, rfl, rfl, SqL.of hv, rfl, x, 0, rfl, rfl, _, rfl, iteD (fun g => ?_) (fun g => ?_)⟩
    · refine ⟨_, rfl, c, _, 0, .int x, rfl, rfl, SqL.of hv, rfl, .inl ⟨x, rfl, _, rfl, x, t, rfl, rfl, h0, ?_⟩⟩
      refine ⟨_, rfl, c, _, 0, .int x, rfl, rfl, SqL.of hv, rfl, _, rfl, x, t, rfl, rfl, dw h0 h1, ?_⟩
      refine ⟨_, rfl, c, _, 0, 0, rfl, rfl, hv, rfl, ?_⟩
      refine ⟨_, rfl, ?_⟩
      exact q _ _ (Int.emod_nonneg _ (by omega)) (Int.emod_lt_of_pos _ h0) (fv _ _ _ _ (fun b o n e => by rw [upd_ne n]; exact e) upd_same)
    · refine ⟨_, rfl, c, _, 2, .int z, rfl, rfl, SqL.of hv, rfl, _, 1, rfl, rfl, ?_⟩
      refine ⟨_, rfl, c, _, 2, 2, rfl, rfl, hv, rfl, ?_⟩
      have hv2 : upd H c (.lst [.int x, .int y, .int (z + 1)]) c = some (.lst [.int x, .int y, .int (z + 1)]) := upd_same
      refine ⟨_, rfl, c, _, 1, .int y, rfl, rfl, SqL.of hv2, rfl, _, rfl, c, _, 2, .int (z + 1), rfl, rfl, SqL.of hv2, rfl, _, _, rfl, rfl, .inl ⟨by decide, by decide⟩, _, _, rfl, rfl, .inl ⟨_, rfl, ?_⟩⟩
      refine ⟨_, _, rfl, rfl, (show (0 : Int) < 2305843009213693921 by decide), ?_⟩
      refine ⟨_, rfl, _, rfl, _, _, rfl, rfl, .inl ⟨by omega, by omega⟩, .inl ⟨_, rfl, ?_⟩⟩
      refine ⟨_, _, rfl, rfl, (show (0 : Int) < 2305843009213693951 by decide), _, _, rfl, rfl, .inr ⟨by decide, by decide⟩, ?_⟩
      refine ⟨_, rfl, _, _, rfl, rfl, _, rfl, c, _, 2, .int (z + 1), rfl, rfl, SqL.of hv2, rfl, _, _, rfl, rfl, .inl ⟨by decide, by decide⟩, _, _, rfl, rfl, ?_⟩
      refine ⟨_, rfl, _, _, rfl, rfl, dw (by decide) (by decide), .inl ⟨_, rfl, _, rfl, _, _, rfl, rfl, h0, ?_⟩⟩
      exact q _ _ (Int.emod_nonneg _ (by omega)) (Int.emod_lt_of_pos _ h0) (fv _ _ _ _ (fun b o n e => by rw [upd_ne n]; exact e) hv2)
theorem ok_l_one (T : Txt K mg C_Form C_Double) : Def P w K mg base 2 "_law_one" ["_law_cask_here", "_law_items"] (sp_l_one K C_Form C_Double) := by
  obtain ⟨f_, fd_, g_, F_⟩ := T.d_l_one
  obtain ⟨f_l_tap, fd_l_tap, g_l_tap, k_l_tap, b_l_tap, G_l_tap⟩ := (ok_l_tap (P := P) (w := w) (base := base) T)
  refine ⟨f_, fd_, g_, F_.kp, F_.binds (ps := ["_law_cask_here", "_law_items"]) (fun _ _ _ _ _ _ us hl => match us, hl with | [_, _], _ => rfl), ?_⟩
  refine F_.ok sc_l_one (fun vs H Q E h => ?_) (fun cdv A outer s H vs Q E hr h => ?_)
  · first | (obtain ⟨rfl, _⟩ := h; rfl) | (obtain ⟨_, rfl, _⟩ := h; rfl) | (obtain ⟨_, _, rfl, _⟩ := h; rfl) | (obtain ⟨_, _, _, rfl, _⟩ := h; rfl) | (obtain ⟨_, _, _, _, rfl, _⟩ := h; rfl) | (obtain ⟨_, _, _, _, _, rfl, _⟩ := h; rfl) | (obtain ⟨_, _, _, _, _, _, rfl, _⟩ := h; rfl) | (obtain ⟨_, _, _, _, _, _, _, rfl, _⟩ := h; rfl) | (obtain ⟨_, _, _, _, _, _, _, _, rfl, _⟩ := h; rfl) | (obtain ⟨_, _, _, _, _, _, _, _, _, rfl, _⟩ := h; rfl) | (obtain ⟨_, _, _, _, _, _, _, _, _, _, rfl, _⟩ := h; rfl) | (obtain ⟨_, _, _, _, _, _, _, _, _, _, _, rfl, _⟩ := h; rfl) | (obtain ⟨_, _, _, _, _, _, _, _, _, _, _, _, rfl, _⟩ := h; rfl) | (obtain ⟨_, _, _, _, _, _, _, _, _, _, _, _, _, rfl, _⟩ := h; rfl) | (obtain ⟨_, _, _, _, _, _, _, _, _, _, _, _, _, _, rfl, _⟩ := h; rfl) | (obtain ⟨_, _, _, _, _, _, _, _, _, _, _, _, _, _, _, rfl, _⟩ := h; rfl) | (obtain ⟨_, _, _, _, _, _, _, _, _, _, _, _, _, _, _, _, rfl, _⟩ := h; rfl) | (obtain ⟨_, _, _, _, _, _, _, _, _, _, _, _, _, _, _, _, _, rfl, _⟩ := h; rfl) | (obtain ⟨_, _, _, _, _, _, _, _, _, _, _, _, _, _, _, _, _, _, rfl, _⟩ := h; rfl) | (obtain ⟨_, _, _, _, _, _, _, _, _, _, _, _, _, _, _, _, _, _, _, rfl, _⟩ := h; rfl) | (obtain ⟨_, _, _, _, _, _, _, _, _, _, _, _, _, _, _, _, _, _, _, _, rfl, _⟩ := h; rfl) | (obtain ⟨_, _, _, _, _, _, _, _, _, _, _, _, _, _, _, _, _, _, _, _, _, rfl, _⟩ := h; rfl) | (obtain ⟨_, _, _, _, _, _, _, _, _, _, _, _, _, _, _, _, _, _, _, _, _, _, rfl, _⟩ := h; rfl) | (obtain ⟨_, _, _, _, _, _, _, _, _, _, _, _, _, _, _, _, _, _, _, _, _, _, _, rfl, _⟩ := h; rfl)
  · obtain ⟨c, l, xs, rfl, hc, hl, ne, hx, hz, q⟩ := h
    refine ⟨_, (pss_one (ps_ret (pe_ix ix_list (pv 1) (pe_call G_l_tap (hr.mono (by decide)) (by rfl) g_l_tap k_l_tap b_l_tap .nil pass0 (pa_cons (pv 0) (pa_cons (pe_callB call_len_seq (by rfl) T.b_len PySem.boot_len (pa_cons (pv 1) pa_nil)) pa_nil))) (fun _ _ => rfl)))), ?_⟩
    have h0 : 0 < xs.length := List.length_pos_iff.mpr hx
    refine ⟨_, rfl, _, rfl, _, rfl, l, xs, rfl, .inl (SqL.of hl), c, _, rfl, hc, by omega, by omega, fun r H' r0 r1 e => ?_⟩
    obtain ⟨j, rfl⟩ : ∃ j : Nat, r = (j : Int) := ⟨r.toNat, by omega⟩
    have hj : j < xs.length := by omega
    exact ⟨l, xs, _, xs[j], rfl, rfl, SqL.of (e.2 _ _ ne hl), atI_nat (List.getElem?_eq_getElem hj), q _ _ (List.getElem_mem hj) e⟩
theorem ok_l_number (T : Txt K mg C_Form C_Double) : Def P w K mg base 3 "_law_number" ["_law_cask_here"] (sp_l_number K C_Form C_Double) := by
  obtain ⟨f_, fd_, g_, F_⟩ := T.d_l_number
  obtain ⟨f_l_one, fd_l_one, g_l_one, k_l_one, b_l_one, G_l_one⟩ := (ok_l_one (P := P) (w := w) (base := base) T)
  obtain ⟨f_l_tap, fd_l_tap, g_l_tap, k_l_tap, b_l_tap, G_l_tap⟩ := (ok_l_tap (P := P) (w := w) (base := base) T)
  refine ⟨f_, fd_, g_, F_.kp, F_.binds (ps := ["_law_cask_here"]) (fun _ _ _ _ _ _ us hl => match us, hl with | [_], _ => rfl), ?_⟩
  refine F_.ok sc_l_number (fun vs H Q E h => ?_) (fun cdv A outer s H vs Q E hr h => ?_)
  · first | (obtain ⟨rfl, _⟩ := h; rfl) | (obtain ⟨_, rfl, _⟩ := h; rfl) | (obtain ⟨_, _, rfl, _⟩ := h; rfl) | (obtain ⟨_, _, _, rfl, _⟩ := h; rfl) | (obtain ⟨_, _, _, _, rfl, _⟩ := h; rfl) | (obtain ⟨_, _, _, _, _, rfl, _⟩ := h; rfl) | (obtain ⟨_, _, _, _, _, _, rfl, _⟩ := h; rfl) | (obtain ⟨_, _, _, _, _, _, _, rfl, _⟩ := h; rfl) | (obtain ⟨_, _, _, _, _, _, _, _, rfl, _⟩ := h; rfl) | (obtain ⟨_, _, _, _, _, _, _, _, _, rfl, _⟩ := h; rfl) | (obtain ⟨_, _, _, _, _, _, _, _, _, _, rfl, _⟩ := h; rfl) | (obtain ⟨_, _, _, _, _, _, _, _, _, _, _, rfl, _⟩ := h; rfl) | (obtain ⟨_, _, _, _, _, _, _, _, _, _, _, _, rfl, _⟩ := h; rfl) | (obtain ⟨_, _, _, _, _, _, _, _, _, _, _, _, _, rfl, _⟩ := h; rfl) | (obtain ⟨_, _, _, _, _, _, _, _, _, _, _, _, _, _, rfl, _⟩ := h; rfl) | (obtain ⟨_, _, _, _, _, _, _, _, _, _, _, _, _, _, _, rfl, _⟩ := h; rfl) | (obtain ⟨_, _, _, _, _, _, _, _, _, _, _, _, _, _, _, _, rfl, _⟩ := h; rfl) | (obtain ⟨_, _, _, _, _, _, _, _, _, _, _, _, _, _, _, _, _, rfl, _⟩ := h; rfl) | (obtain ⟨_, _, _, _, _, _, _, _, _, _, _, _, _, _, _, _, _, _, rfl, _⟩ := h; rfl) | (obtain ⟨_, _, _, _, _, _, _, _, _, _, _, _, _, _, _, _, _, _, _, rfl, _⟩ := h; rfl) | (obtain ⟨_, _, _, _, _, _, _, _, _, _, _, _, _, _, _, _, _, _, _, _, rfl, _⟩ := h; rfl) | (obtain ⟨_, _, _, _, _, _, _, _, _, _, _, _, _, _, _, _, _, _, _, _, _, rfl, _⟩ := h; rfl) | (obtain ⟨_, _, _, _, _, _, _, _, _, _, _, _, _, _, _, _, _, _, _, _, _, _, rfl, _⟩ := h; rfl) | (obtain ⟨_, _, _, _, _, _, _, _, _, _, _, _, _, _, _, _, _, _, _, _, _, _, _, rfl, _⟩ := h; rfl)
  · obtain ⟨c, rfl, hc, q⟩ := h
    refine ⟨_, (pss_cons (ps_set (i := 1) sc_l_number.nd rfl (.inl rfl) (pe_call G_l_one (hr.mono (by decide)) (by rfl) g_l_one k_l_one b_l_one .nil pass0 (pa_cons (pv 0) (pa_cons (pe_lst (pa_cons pe_int (pa_cons pe_int (pa_cons pe_int (pa_cons pe_int (pa_cons pe_int (pa_cons pe_int (pa_cons (pe_op op_pow pe_int pe_int) (pa_cons (pe_op op_pow pe_int pe_int) pa_nil))))))))) pa_nil))))
    (pss_one (ps_ret (pe_op op_sub (pe_call G_l_tap (hr.mono (by decide)) (by rfl) g_l_tap k_l_tap b_l_tap .nil pass0 (pa_cons (pv 0) (pa_cons (pe_op op_add (pe_op op_mul pe_int (pv 1)) pe_int) pa_nil))) (pv 1))))), ?_⟩
    refine ⟨_, rfl, _, _, rfl, rfl, ⟨by decide, by decide, by decide⟩, _, _, rfl, rfl, ⟨by decide, by decide, by decide⟩, slN (by decide), fun l nl => ?_⟩
    refine ⟨c, l, [.int 2, .int 4, .int 4, .int 9, .int 9, .int 30, .int 1000000000, .int 10000000000000000000000000], rfl, vat_new hc nl, upd_same, fv_ne hc nl, by simp, by decide, fun v H1 hv e1 => ?_⟩
    obtain ⟨f, rfl, f1, f2⟩ := in_b (lo := 2) (hi := 10000000000000000000000000) hv (by decide)
    have e2 : Fv c H H1 := (fv_new hc nl).trans e1
    refine ⟨_, rfl, _, rfl, _, _, rfl, rfl, .inl ⟨by decide, by decide⟩, _, _, rfl, rfl, c, _, rfl, e2.1, by omega, by omega, fun r H2 r0 r1 e3 => ?_⟩
    exact ⟨_, rfl, _, _, rfl, rfl, q _ _ (by omega) (e2.trans e3)⟩
theorem ok_l_entry (T : Txt K mg C_Form C_Double) : Def P w K mg base 3 "_law_entry" ["_law_cask_here"] (sp_l_entry K C_Form C_Double) := by
  obtain ⟨f_, fd_, g_, F_⟩ := T.d_l_entry
  obtain ⟨f_l_one, fd_l_one, g_l_one, k_l_one, b_l_one, G_l_one⟩ := (ok_l_one (P := P) (w := w) (base := base) T)
  obtain ⟨f_l_tap, fd_l_tap, g_l_tap, k_l_tap, b_l_tap, G_l_tap⟩ := (ok_l_tap (P := P) (w := w) (base := base) T)
  refine ⟨f_, fd_, g_, F_.kp, F_.binds (ps := ["_law_cask_here"]) (fun _ _ _ _ _ _ us hl => match us, hl with | [_], _ => rfl), ?_⟩
  refine F_.ok sc_l_entry (fun vs H Q E h => ?_) (fun cdv A outer s H vs Q E hr h => ?_)
  · first | (obtain ⟨rfl, _⟩ := h; rfl) | (obtain ⟨_, rfl, _⟩ := h; rfl) | (obtain ⟨_, _, rfl, _⟩ := h; rfl) | (obtain ⟨_, _, _, rfl, _⟩ := h; rfl) | (obtain ⟨_, _, _, _, rfl, _⟩ := h; rfl) | (obtain ⟨_, _, _, _, _, rfl, _⟩ := h; rfl) | (obtain ⟨_, _, _, _, _, _, rfl, _⟩ := h; rfl) | (obtain ⟨_, _, _, _, _, _, _, rfl, _⟩ := h; rfl) | (obtain ⟨_, _, _, _, _, _, _, _, rfl, _⟩ := h; rfl) | (obtain ⟨_, _, _, _, _, _, _, _, _, rfl, _⟩ := h; rfl) | (obtain ⟨_, _, _, _, _, _, _, _, _, _, rfl, _⟩ := h; rfl) | (obtain ⟨_, _, _, _, _, _, _, _, _, _, _, rfl, _⟩ := h; rfl) | (obtain ⟨_, _, _, _, _, _, _, _, _, _, _, _, rfl, _⟩ := h; rfl) | (obtain ⟨_, _, _, _, _, _, _, _, _, _, _, _, _, rfl, _⟩ := h; rfl) | (obtain ⟨_, _, _, _, _, _, _, _, _, _, _, _, _, _, rfl, _⟩ := h; rfl) | (obtain ⟨_, _, _, _, _, _, _, _, _, _, _, _, _, _, _, rfl, _⟩ := h; rfl) | (obtain ⟨_, _, _, _, _, _, _, _, _, _, _, _, _, _, _, _, rfl, _⟩ := h; rfl) | (obtain ⟨_, _, _, _, _, _, _, _, _, _, _, _, _, _, _, _, _, rfl, _⟩ := h; rfl) | (obtain ⟨_, _, _, _, _, _, _, _, _, _, _, _, _, _, _, _, _, _, rfl, _⟩ := h; rfl) | (obtain ⟨_, _, _, _, _, _, _, _, _, _, _, _, _, _, _, _, _, _, _, rfl, _⟩ := h; rfl) | (obtain ⟨_, _, _, _, _, _, _, _, _, _, _, _, _, _, _, _, _, _, _, _, rfl, _⟩ := h; rfl) | (obtain ⟨_, _, _, _, _, _, _, _, _, _, _, _, _, _, _, _, _, _, _, _, _, rfl, _⟩ := h; rfl) | (obtain ⟨_, _, _, _, _, _, _, _, _, _, _, _, _, _, _, _, _, _, _, _, _, _, rfl, _⟩ := h; rfl) | (obtain ⟨_, _, _, _, _, _, _, _, _, _, _, _, _, _, _, _, _, _, _, _, _, _, _, rfl, _⟩ := h; rfl)
  · obtain ⟨c, rfl, hc, q⟩ := h
    refine ⟨_, (pss_cons (ps_set (i := 1) sc_l_entry.nd rfl (.inl rfl) (pe_call G_l_one (hr.mono (by decide)) (by rfl) g_l_one k_l_one b_l_one .nil pass0 (pa_cons (pv 0) (pa_cons (pe_lst (pa_cons pe_int (pa_cons pe_int (pa_cons pe_int (pa_cons pe_int (pa_cons pe_int (pa_cons pe_int (pa_cons (pe_op op_pow pe_int pe_int) (pa_cons (pe_op op_pow pe_int pe_int) pa_nil))))))))) pa_nil))))
    (pss_one (ps_ret (pe_op op_sub (pe_call G_l_tap (hr.mono (by decide)) (by rfl) g_l_tap k_l_tap b_l_tap .nil pass0 (pa_cons (pv 0) (pa_cons (pe_op op_add (pe_op op_mul pe_int (pv 1)) pe_int) pa_nil))) (pv 1))))), ?_⟩
    refine ⟨_, rfl, _, _, rfl, rfl, ⟨by decide, by decide, by decide⟩, _, _, rfl, rfl, ⟨by decide, by decide, by decide⟩, slN (by decide), fun l nl => ?_⟩
    refine ⟨c, l, [.int 1, .int 2, .int 4, .int 4, .int 9, .int 30, .int 1000000000, .int 100000000000000000], rfl, vat_new hc nl, upd_same, fv_ne hc nl, by simp, by decide, fun v H1 hv e1 => ?_⟩
    obtain ⟨f, rfl, f1, f2⟩ := in_b (lo := 1) (hi := 100000000000000000) hv (by decide)
    have e2 : Fv c H H1 := (fv_new hc nl).trans e1
    refine ⟨_, rfl, _, rfl, _, _, rfl, rfl, .inl ⟨by decide, by decide⟩, _, _, rfl, rfl, c, _, rfl, e2.1, by omega, by omega, fun r H2 r0 r1 e3 => ?_⟩
    exact ⟨_, rfl, _, _, rfl, rfl, q _ _ (by omega) (e2.trans e3)⟩
theorem ok_l_numbers (T : Txt K mg C_Form C_Double) : Def P w K mg base 4 "_law_numbers" ["_law_cask_here", "_law_many_here"] (sp_l_numbers K C_Form C_Double) := by
  obtain ⟨f_, fd_, g_, F_⟩ := T.d_l_numbers
  obtain ⟨f_l_number, fd_l_number, g_l_number, k_l_number, b_l_number, G_l_number⟩ := (ok_l_number (P := P) (w := w) (base := base) T)
  refine ⟨f_, fd_, g_, F_.kp, F_.binds (ps := ["_law_cask_here", "_law_many_here"]) (fun _ _ _ _ _ _ us hl => match us, hl with | [_, _], _ => rfl), ?_⟩
  refine F_.ok sc_l_numbers (fun vs H Q E h => ?_) (fun cdv A outer s H vs Q E hr h => ?_)
  · first | (obtain ⟨rfl, _⟩ := h; rfl) | (obtain ⟨_, rfl, _⟩ := h; rfl) | (obtain ⟨_, _, rfl, _⟩ := h; rfl) | (obtain ⟨_, _, _, rfl, _⟩ := h; rfl) | (obtain ⟨_, _, _, _, rfl, _⟩ := h; rfl) | (obtain ⟨_, _, _, _, _, rfl, _⟩ := h; rfl) | (obtain ⟨_, _, _, _, _, _, rfl, _⟩ := h; rfl) | (obtain ⟨_, _, _, _, _, _, _, rfl, _⟩ := h; rfl) | (obtain ⟨_, _, _, _, _, _, _, _, rfl, _⟩ := h; rfl) | (obtain ⟨_, _, _, _, _, _, _, _, _, rfl, _⟩ := h; rfl) | (obtain ⟨_, _, _, _, _, _, _, _, _, _, rfl, _⟩ := h; rfl) | (obtain ⟨_, _, _, _, _, _, _, _, _, _, _, rfl, _⟩ := h; rfl) | (obtain ⟨_, _, _, _, _, _, _, _, _, _, _, _, rfl, _⟩ := h; rfl) | (obtain ⟨_, _, _, _, _, _, _, _, _, _, _, _, _, rfl, _⟩ := h; rfl) | (obtain ⟨_, _, _, _, _, _, _, _, _, _, _, _, _, _, rfl, _⟩ := h; rfl) | (obtain ⟨_, _, _, _, _, _, _, _, _, _, _, _, _, _, _, rfl, _⟩ := h; rfl) | (obtain ⟨_, _, _, _, _, _, _, _, _, _, _, _, _, _, _, _, rfl, _⟩ := h; rfl) | (obtain ⟨_, _, _, _, _, _, _, _, _, _, _, _, _, _, _, _, _, rfl, _⟩ := h; rfl) | (obtain ⟨_, _, _, _, _, _, _, _, _, _, _, _, _, _, _, _, _, _, rfl, _⟩ := h; rfl) | (obtain ⟨_, _, _, _, _, _, _, _, _, _, _, _, _, _, _, _, _, _, _, rfl, _⟩ := h; rfl) | (obtain ⟨_, _, _, _, _, _, _, _, _, _, _, _, _, _, _, _, _, _, _, _, rfl, _⟩ := h; rfl) | (obtain ⟨_, _, _, _, _, _, _, _, _, _, _, _, _, _, _, _, _, _, _, _, _, rfl, _⟩ := h; rfl) | (obtain ⟨_, _, _, _, _, _, _, _, _, _, _, _, _, _, _, _, _, _, _, _, _, _, rfl, _⟩ := h; rfl) | (obtain ⟨_, _, _, _, _, _, _, _, _, _, _, _, _, _, _, _, _, _, _, _, _, _, _, rfl, _⟩ := h; rfl)
  · obtain ⟨c, k, rfl, hc, hk, q⟩ := h
    refine ⟨_, (pss_one (ps_ret (pe_callTy call_tuple_of (by rfl) T.b_tuple (by decide +kernel) (pa_cons (pe_lc (own := [("_law_turn", 2)]) (g := (gName 2)) rfl sc_l_numbers.nd (pi_range1 (by rfl) T.b_range (pa_cons (pv 1) pa_nil)) (blkOk_by (N := N_l_numbers) (sc := defScope s_l_numbers) (by decide +kernel)) (fun _ _ _ _ _ => (pg_name (i := 2) sc_l_numbers.nd rfl (.inl rfl))) (fun _ _ _ _ _ => pts_nil) (fun _ _ _ _ _ => (pe_call G_l_number (hr.mono (by decide)) (by rfl) g_l_number k_l_number b_l_number .nil pass0 (pa_cons (pv 0) pa_nil)))) pa_nil)))), ?_⟩
    refine ⟨_, rfl, _, rfl, by omega, by omega, ?_⟩
    refine lcR (fmV c) hc (fun i acc _ => ∃ ns : List Int, acc = ns.map V.int ∧ ns.length = i ∧ ∀ n ∈ ns, n.natAbs ≤ 10000000000000000000000000) (fun _ _ => ⟨[], rfl, rfl, fun _ h => by cases h⟩) (fun D i acc H3 hD hi e3 hA hlen hp => ?_) (fun D H3 acc hD e3 hA hp => ?_)
    · obtain ⟨ns, rfl, hln, hns⟩ := hp
      have hi' : i < k := by simpa using hi
      refine ⟨rfl, ?_⟩
      refine ⟨_, rfl, c, rfl, e3.1, fun z H4 hz e4 => ?_⟩
      refine cs_yes (fmV c) hc hD e3 hA hlen (by omega) e4 ⟨ns ++ [z], by rw [List.map_append]; rfl, by rw [List.length_append, hln]; rfl, fun n hn => ?_⟩
      rcases List.mem_append.mp hn with h | h
      · exact hns n h
      · have : n = z := by simpa using h
        rw [this]
        exact hz
    · obtain ⟨ns, rfl, hln, hns⟩ := hp
      refine ⟨D, _, rfl, .inl ⟨SqL.of hA, fun p np => ?_⟩⟩
      exact q p ns _ (e3.trans (fv_new e3.1 np)) upd_same (by rw [hln]; simp) hns
theorem ok_l_then (T : Txt K mg C_Form C_Double) : Def P w K mg base 1 "_law_then" ["_law_first", "_law_second"] (sp_l_then K C_Form C_Double) := by
  obtain ⟨f_, fd_, g_, F_⟩ := T.d_l_then
  refine ⟨f_, fd_, g_, F_.kp, F_.binds (ps := ["_law_first", "_law_second"]) (fun _ _ _ _ _ _ us hl => match us, hl with | [_, _], _ => rfl), ?_⟩
  refine F_.ok sc_l_then (fun vs H Q E h => ?_) (fun cdv A outer s H vs Q E hr h => ?_)
  · first | (obtain ⟨rfl, _⟩ := h; rfl) | (obtain ⟨_, rfl, _⟩ := h; rfl) | (obtain ⟨_, _, rfl, _⟩ := h; rfl) | (obtain ⟨_, _, _, rfl, _⟩ := h; rfl) | (obtain ⟨_, _, _, _, rfl, _⟩ := h; rfl) | (obtain ⟨_, _, _, _, _, rfl, _⟩ := h; rfl) | (obtain ⟨_, _, _, _, _, _, rfl, _⟩ := h; rfl) | (obtain ⟨_, _, _, _, _, _, _, rfl, _⟩ := h; rfl) | (obtain ⟨_, _, _, _, _, _, _, _, rfl, _⟩ := h; rfl) | (obtain ⟨_, _, _, _, _, _, _, _, _, rfl, _⟩ := h; rfl) | (obtain ⟨_, _, _, _, _, _, _, _, _, _, rfl, _⟩ := h; rfl) | (obtain ⟨_, _, _, _, _, _, _, _, _, _, _, rfl, _⟩ := h; rfl) | (obtain ⟨_, _, _, _, _, _, _, _, _, _, _, _, rfl, _⟩ := h; rfl) | (obtain ⟨_, _, _, _, _, _, _, _, _, _, _, _, _, rfl, _⟩ := h; rfl) | (obtain ⟨_, _, _, _, _, _, _, _, _, _, _, _, _, _, rfl, _⟩ := h; rfl) | (obtain ⟨_, _, _, _, _, _, _, _, _, _, _, _, _, _, _, rfl, _⟩ := h; rfl) | (obtain ⟨_, _, _, _, _, _, _, _, _, _, _, _, _, _, _, _, rfl, _⟩ := h; rfl) | (obtain ⟨_, _, _, _, _, _, _, _, _, _, _, _, _, _, _, _, _, rfl, _⟩ := h; rfl) | (obtain ⟨_, _, _, _, _, _, _, _, _, _, _, _, _, _, _, _, _, _, rfl, _⟩ := h; rfl) | (obtain ⟨_, _, _, _, _, _, _, _, _, _, _, _, _, _, _, _, _, _, _, rfl, _⟩ := h; rfl) | (obtain ⟨_, _, _, _, _, _, _, _, _, _, _, _, _, _, _, _, _, _, _, _, rfl, _⟩ := h; rfl) | (obtain ⟨_, _, _, _, _, _, _, _, _, _, _, _, _, _, _, _, _, _, _, _, _, rfl, _⟩ := h; rfl) | (obtain ⟨_, _, _, _, _, _, _, _, _, _, _, _, _, _, _, _, _, _, _, _, _, _, rfl, _⟩ := h; rfl) | (obtain ⟨_, _, _, _, _, _, _, _, _, _, _, _, _, _, _, _, _, _, _, _, _, _, _, rfl, _⟩ := h; rfl)
  · obtain ⟨a, b, p, q', r, s', i, j, k, m, rfl, h4, h4', bp, bq, br, bs, bi, bj, bk, bm, q⟩ := h
    refine ⟨_, (pss_cons (ps_asg (pv 0) (pg_tup (by rfl) (pgs_cons (pg_tup (by rfl) (pgs_cons (pg_name (i := 2) sc_l_then.nd rfl (.inl rfl)) (pgs_cons (pg_name (i := 3) sc_l_then.nd rfl (.inl rfl)) pgs_nil))) (pgs_cons (pg_tup (by rfl) (pgs_cons (pg_name (i := 4) sc_l_then.nd rfl (.inl rfl)) (pgs_cons (pg_name (i := 5) sc_l_then.nd rfl (.inl rfl)) pgs_nil))) pgs_nil))))
    (pss_cons (ps_asg (pv 1) (pg_tup (by rfl) (pgs_cons (pg_tup (by rfl) (pgs_cons (pg_name (i := 6) sc_l_then.nd rfl (.inl rfl)) (pgs_cons (pg_name (i := 7) sc_l_then.nd rfl (.inl rfl)) pgs_nil))) (pgs_cons (pg_tup (by rfl) (pgs_cons (pg_name (i := 8) sc_l_then.nd rfl (.inl rfl)) (pgs_cons (pg_name (i := 9) sc_l_then.nd rfl (.inl rfl)) pgs_nil))) pgs_nil))))
    (pss_one (ps_ret (pe_tup (pa_cons (pe_tup (pa_cons (pe_op op_add (pe_op op_mulW (pv 6) (pv 2)) (pe_op op_mulW (pv 7) (pv 4))) (pa_cons (pe_op op_add (pe_op op_mulW (pv 6) (pv 3)) (pe_op op_mulW (pv 7) (pv 5))) pa_nil))) (pa_cons (pe_tup (pa_cons (pe_op op_add (pe_op op_mulW (pv 8) (pv 2)) (pe_op op_mulW (pv 9) (pv 4))) (pa_cons (pe_op op_add (pe_op op_mulW (pv 8) (pv 3)) (pe_op op_mulW (pv 9) (pv 5))) pa_nil))) pa_nil))))))), ?_⟩
    refine ⟨_, rfl, un4 h4 ?_⟩
    refine ⟨_, rfl, un4 h4' ?_⟩
    refine ⟨_, rfl, _, rfl, _, _, rfl, rfl, mulB (by with_reducible assumption) (by with_reducible assumption) (by decide), _, rfl, _, rfl, _, _, rfl, rfl, mulB (by with_reducible assumption) (by with_reducible assumption) (by decide), _, _, rfl, rfl, _, rfl, _, rfl, _, _, rfl, rfl, mulB (by with_reducible assumption) (by with_reducible assumption) (by decide), _, rfl, _, rfl, _, _, rfl, rfl, mulB (by with_reducible assumption) (by with_reducible assumption) (by decide), _, _, rfl, rfl, sl2, fun t1 n1 => ⟨_, rfl, _, rfl, _, _, rfl, rfl, mulB (by with_reducible assumption) (by with_reducible assumption) (by decide), _, rfl, _, rfl, _, _, rfl, rfl, mulB (by with_reducible assumption) (by with_reducible assumption) (by decide), _, _, rfl, rfl, _, rfl, _, rfl, _, _, rfl, rfl, mulB (by with_reducible assumption) (by with_reducible assumption) (by decide), _, rfl, _, rfl, _, _, rfl, rfl, mulB (by with_reducible assumption) (by with_reducible assumption) (by decide), _, _, rfl, rfl, sl2, fun t2 n2 => ⟨sl2, fun x nx => ?_⟩⟩⟩
    have z := t4_new n1 n2 nx
    exact q x _ z.1 z.2
theorem ok_l_common (T : Txt K mg C_Form C_Double) : Def P w K mg base 1 "_law_common" ["_law_numbers_here"] (sp_l_common K C_Form C_Double) := by
  obtain ⟨f_, fd_, g_, F_⟩ := T.d_l_common
  refine ⟨f_, fd_, g_, F_.kp, F_.binds (ps := ["_law_numbers_here"]) (fun _ _ _ _ _ _ us hl => match us, hl with | [_], _ => rfl), ?_⟩
  refine F_.ok sc_l_common (fun vs H Q E h => ?_) (fun cdv A outer s H vs Q E hr h => ?_)
  · first | (obtain ⟨rfl, _⟩ := h; rfl) | (obtain ⟨_, rfl, _⟩ := h; rfl) | (obtain ⟨_, _, rfl, _⟩ := h; rfl) | (obtain ⟨_, _, _, rfl, _⟩ := h; rfl) | (obtain ⟨_, _, _, _, rfl, _⟩ := h; rfl) | (obtain ⟨_, _, _, _, _, rfl, _⟩ := h; rfl) | (obtain ⟨_, _, _, _, _, _, rfl, _⟩ := h; rfl) | (obtain ⟨_, _, _, _, _, _, _, rfl, _⟩ := h; rfl) | (obtain ⟨_, _, _, _, _, _, _, _, rfl, _⟩ := h; rfl) | (obtain ⟨_, _, _, _, _, _, _, _, _, rfl, _⟩ := h; rfl) | (obtain ⟨_, _, _, _, _, _, _, _, _, _, rfl, _⟩ := h; rfl) | (obtain ⟨_, _, _, _, _, _, _, _, _, _, _, rfl, _⟩ := h; rfl) | (obtain ⟨_, _, _, _, _, _, _, _, _, _, _, _, rfl, _⟩ := h; rfl) | (obtain ⟨_, _, _, _, _, _, _, _, _, _, _, _, _, rfl, _⟩ := h; rfl) | (obtain ⟨_, _, _, _, _, _, _, _, _, _, _, _, _, _, rfl, _⟩ := h; rfl) | (obtain ⟨_, _, _, _, _, _, _, _, _, _, _, _, _, _, _, rfl, _⟩ := h; rfl) | (obtain ⟨_, _, _, _, _, _, _, _, _, _, _, _, _, _, _, _, rfl, _⟩ := h; rfl) | (obtain ⟨_, _, _, _, _, _, _, _, _, _, _, _, _, _, _, _, _, rfl, _⟩ := h; rfl) | (obtain ⟨_, _, _, _, _, _, _, _, _, _, _, _, _, _, _, _, _, _, rfl, _⟩ := h; rfl) | (obtain ⟨_, _, _, _, _, _, _, _, _, _, _, _, _, _, _, _, _, _, _, rfl, _⟩ := h; rfl) | (obtain ⟨_, _, _, _, _, _, _, _, _, _, _, _, _, _, _, _, _, _, _, _, rfl, _⟩ := h; rfl) | (obtain ⟨_, _, _, _, _, _, _, _, _, _, _, _, _, _, _, _, _, _, _, _, _, rfl, _⟩ := h; rfl) | (obtain ⟨_, _, _, _, _, _, _, _, _, _, _, _, _, _, _, _, _, _, _, _, _, _, rfl, _⟩ := h; rfl) | (obtain ⟨_, _, _, _, _, _, _, _, _, _, _, _, _, _, _, _, _, _, _, _, _, _, _, rfl, _⟩ := h; rfl)
  · obtain ⟨a, ns, rfl, ha, q⟩ := h
    refine ⟨_, (pss_cons (ps_set (i := 1) sc_l_common.nd rfl (.inl rfl) pe_int)
    (pss_cons (ps_for PassesOwn.never rfl (pi_tup (pv 0)) (pg_name (i := 2) sc_l_common.nd rfl (.inl rfl))
      (pss_cons (ps_par (i := 3) (j := 4) (by rfl) sc_l_common.nd rfl rfl (by decide) rfl rfl (pa_cons (pe_callB call_abs (by rfl) T.b_abs (by decide +kernel) (pa_cons (pv 2) pa_nil)) (pa_cons (pv 1) pa_nil)) (by rfl))
    (pss_cons (ps_while PassesOwn.never (pt_cmpR op_ne (pv 4) pe_int (nomark _))
      (pss_one (ps_par (i := 3) (j := 4) (by rfl) sc_l_common.nd rfl rfl (by decide) rfl rfl (pa_cons (pv 4) (pa_cons (pe_op op_mod (pe_callTy call_int1 (by rfl) T.b_int (by decide +kernel) (pa_cons (pv 3) pa_nil)) (pv 4)) pa_nil)) (by rfl))))
    (pss_one (ps_set (i := 1) sc_l_common.nd rfl (.inl rfl) (pv 3))))))
    (pss_one (ps_ret (pv 1))))), ?_⟩
    have ab : ∀ z : Int, (if z < 0 then -z else z) = (z.natAbs : Int) := fun z => by
      by_cases h : z < 0
      · rw [if_pos h]; omega
      · rw [if_neg h]; omega
    refine ⟨_, rfl, a, rfl, ⟨_, SqT.of ha⟩, for_tup (xs := ns.map V.int) (fun i σ H' => ∃ y2 y3 y4, σ = [some (.ref a), some (.int (gcdL (ns.take i) : Nat)), y2, y3, y4] ∧ H = H') ⟨none, none, none, rfl, rfl⟩ (fun i σ H' _ ⟨_, _, _, _, e⟩ => e ▸ SqT.of ha) ?_ ?_⟩
    · rintro i x σ H' hx ⟨y2, y3, y4, rfl, rfl⟩
      obtain ⟨n, hn, rfl⟩ := get_int hx
      refine ⟨_, rfl, n, rfl, _, rfl, _, _, rfl, ?_⟩
      rw [ab]
      refine ⟨fun m σ H' => ∃ x y : Nat, σ = [some (.ref a), some (.int (gcdL (ns.take i) : Nat)), some (.int n), some (.int (x : Int)), some (.int (y : Int))] ∧ H' = H ∧ Nat.gcd x y = gcdL (ns.take (i + 1)) ∧ m = y, ⟨_, _, _, rfl, rfl, by rw [gcdL_take hn, Nat.gcd_comm], rfl⟩, ?_⟩
      rintro m σ H' ⟨x, y, rfl, rfl, hg, rfl⟩
      refine ⟨_, rfl, rfl, _, rfl, iteEn (fun g => ?_) (fun g => ?_)⟩
      · have g0 : 0 < m := by omega
        refine ⟨fun σ' H'' => ∃ x' y' : Nat, σ' = [some (.ref a), some (.int (gcdL (ns.take i) : Nat)), some (.int n), some (.int (x' : Int)), some (.int (y' : Int))] ∧ H'' = H' ∧ Nat.gcd x' y' = gcdL (ns.take (i + 1)) ∧ y' < m, fun σ' H'' ⟨x', y', e1, e2, e3, e4⟩ => ⟨y', e4, x', y', e1, e2, e3, rfl⟩, ?_⟩
        refine ⟨_, rfl, _, rfl, .inl ⟨_, rfl, _, rfl, (x : Int), (m : Int), rfl, rfl, by omega, _, _, rfl, ?_⟩⟩
        refine ⟨m, x % m, rfl, rfl, ?_, Nat.mod_lt _ g0⟩
        rw [← hg, Nat.gcd_comm x m, Nat.gcd_rec m x, Nat.gcd_comm]
      · have : m = 0 := by omega
        subst this
        refine ⟨_, rfl, ?_⟩
        refine ⟨some (.int n), some (.int (x : Int)), some (.int ((0 : Nat) : Int)), ?_, rfl⟩
        rw [← hg, Nat.gcd_zero_right]
        rfl
    · rintro σ H' ⟨y2, y3, y4, rfl, rfl⟩
      refine ⟨_, rfl, ?_⟩
      rw [List.length_map, List.take_length]
      exact q
theorem ok_l_change (T : Txt K mg C_Form C_Double) : Def P w K mg base 3 "_law_change" ["_law_cask_here", "_law_turns"] (sp_l_change K C_Form C_Double) := by
  obtain ⟨f_, fd_, g_, F_⟩ := T.d_l_change
  obtain ⟨f_l_one, fd_l_one, g_l_one, k_l_one, b_l_one, G_l_one⟩ := (ok_l_one (P := P) (w := w) (base := base) T)
  obtain ⟨f_l_tap, fd_l_tap, g_l_tap, k_l_tap, b_l_tap, G_l_tap⟩ := (ok_l_tap (P := P) (w := w) (base := base) T)
  obtain ⟨f_l_then, fd_l_then, g_l_then, k_l_then, b_l_then, G_l_then⟩ := (ok_l_then (P := P) (w := w) (base := base) T)
  refine ⟨f_, fd_, g_, F_.kp, F_.binds (ps := ["_law_cask_here", "_law_turns"]) (fun _ _ _ _ _ _ us hl => match us, hl with | [_, _], _ => rfl), ?_⟩
  refine F_.ok sc_l_change (fun vs H Q E h => ?_) (fun cdv A outer s H vs Q E hr h => ?_)
  · first | (obtain ⟨rfl, _⟩ := h; rfl) | (obtain ⟨_, rfl, _⟩ := h; rfl) | (obtain ⟨_, _, rfl, _⟩ := h; rfl) | (obtain ⟨_, _, _, rfl, _⟩ := h; rfl) | (obtain ⟨_, _, _, _, rfl, _⟩ := h; rfl) | (obtain ⟨_, _, _, _, _, rfl, _⟩ := h; rfl) | (obtain ⟨_, _, _, _, _, _, rfl, _⟩ := h; rfl) | (obtain ⟨_, _, _, _, _, _, _, rfl, _⟩ := h; rfl) | (obtain ⟨_, _, _, _, _, _, _, _, rfl, _⟩ := h; rfl) | (obtain ⟨_, _, _, _, _, _, _, _, _, rfl, _⟩ := h; rfl) | (obtain ⟨_, _, _, _, _, _, _, _, _, _, rfl, _⟩ := h; rfl) | (obtain ⟨_, _, _, _, _, _, _, _, _, _, _, rfl, _⟩ := h; rfl) | (obtain ⟨_, _, _, _, _, _, _, _, _, _, _, _, rfl, _⟩ := h; rfl) | (obtain ⟨_, _, _, _, _, _, _, _, _, _, _, _, _, rfl, _⟩ := h; rfl) | (obtain ⟨_, _, _, _, _, _, _, _, _, _, _, _, _, _, rfl, _⟩ := h; rfl) | (obtain ⟨_, _, _, _, _, _, _, _, _, _, _, _, _, _, _, rfl, _⟩ := h; rfl) | (obtain ⟨_, _, _, _, _, _, _, _, _, _, _, _, _, _, _, _, rfl, _⟩ := h; rfl) | (obtain ⟨_, _, _, _, _, _, _, _, _, _, _, _, _, _, _, _, _, rfl, _⟩ := h; rfl) | (obtain ⟨_, _, _, _, _, _, _, _, _, _, _, _, _, _, _, _, _, _, rfl, _⟩ := h; rfl) | (obtain ⟨_, _, _, _, _, _, _, _, _, _, _, _, _, _, _, _, _, _, _, rfl, _⟩ := h; rfl) | (obtain ⟨_, _, _, _, _, _, _, _, _, _, _, _, _, _, _, _, _, _, _, _, rfl, _⟩ := h; rfl) | (obtain ⟨_, _, _, _, _, _, _, _, _, _, _, _, _, _, _, _, _, _, _, _, _, rfl, _⟩ := h; rfl) | (obtain ⟨_, _, _, _, _, _, _, _, _, _, _, _, _, _, _, _, _, _, _, _, _, _, rfl, _⟩ := h; rfl) | (obtain ⟨_, _, _, _, _, _, _, _, _, _, _, _, _, _, _, _, _, _, _, _, _, _, _, rfl, _⟩ := h; rfl)
  · obtain ⟨c, t, rfl, hc, ht, q⟩ := h
    refine ⟨_, (pss_cons (ps_set (i := 2) sc_l_change.nd rfl (.inl rfl) (pe_tup (pa_cons (pe_tup (pa_cons pe_int (pa_cons pe_int pa_nil))) (pa_cons (pe_tup (pa_cons pe_int (pa_cons pe_int pa_nil))) pa_nil))))
    (pss_cons (ps_for PassesOwn.never rfl (pi_range1 (by rfl) T.b_range (pa_cons (pe_call G_l_tap (hr.mono (by decide)) (by rfl) g_l_tap k_l_tap b_l_tap .nil pass0 (pa_cons (pv 0) (pa_cons (pe_op op_add (pv 1) pe_int) pa_nil))) pa_nil)) (pg_name (i := 3) sc_l_change.nd rfl (.inl rfl))
      (pss_cons (ps_set (i := 4) sc_l_change.nd rfl (.inl rfl) (pe_call G_l_one (hr.mono (by decide)) (by rfl) g_l_one k_l_one b_l_one .nil pass0 (pa_cons (pv 0) (pa_cons (pe_lst (pa_cons pe_int (pa_cons (pe_un un_neg pe_int) (pa_cons pe_int (pa_cons (pe_un un_neg pe_int) (pa_cons pe_int (pa_cons (pe_op op_add (pe_op op_pow pe_int pe_int) (pe_call G_l_tap (hr.mono (by decide)) (by rfl) g_l_tap k_l_tap b_l_tap .nil pass0 (pa_cons (pv 0) (pa_cons pe_int pa_nil)))) pa_nil))))))) pa_nil))))
    (pss_cons (ps_set (i := 5) sc_l_change.nd rfl (.inl rfl) (pe_call G_l_one (hr.mono (by decide)) (by rfl) g_l_one k_l_one b_l_one .nil pass0 (pa_cons (pv 0) (pa_cons (pe_lst (pa_cons (pe_tup (pa_cons (pe_tup (pa_cons pe_int (pa_cons (pv 4) pa_nil))) (pa_cons (pe_tup (pa_cons pe_int (pa_cons pe_int pa_nil))) pa_nil))) (pa_cons (pe_tup (pa_cons (pe_tup (pa_cons pe_int (pa_cons pe_int pa_nil))) (pa_cons (pe_tup (pa_cons (pv 4) (pa_cons pe_int pa_nil))) pa_nil))) (pa_cons (pe_tup (pa_cons (pe_tup (pa_cons pe_int (pa_cons pe_int pa_nil))) (pa_cons (pe_tup (pa_cons pe_int (pa_cons pe_int pa_nil))) pa_nil))) (pa_cons (pe_tup (pa_cons (pe_tup (pa_cons (pe_un un_neg pe_int) (pa_cons pe_int pa_nil))) (pa_cons (pe_tup (pa_cons pe_int (pa_cons pe_int pa_nil))) pa_nil))) (pa_cons (pe_tup (pa_cons (pe_tup (pa_cons pe_int (pa_cons pe_int pa_nil))) (pa_cons (pe_tup (pa_cons (pe_un un_neg pe_int) (pa_cons pe_int pa_nil))) pa_nil))) pa_nil)))))) pa_nil))))
    (pss_one (ps_set (i := 2) sc_l_change.nd rfl (.inl rfl) (pe_call G_l_then (hr.mono (by decide)) (by rfl) g_l_then k_l_then b_l_then .nil pass0 (pa_cons (pv 2) (pa_cons (pv 5) pa_nil))))))))
    (pss_one (ps_ret (pv 2))))), ?_⟩
    refine ⟨sl2, fun t1 n1 => ⟨sl2, fun t2 n2 => ⟨sl2, fun x0 n0 => ?_⟩⟩⟩
    have z0 := t4_new n1 n2 n0
    have f0 : Fv c H _ := fv_ex hc z0.1
    refine ⟨_, rfl, _, rfl, _, _, rfl, rfl, c, (t : Int) + 1, rfl, f0.1, by omega, by omega, fun u H1 u0 u1 e1 => ⟨_, rfl, by omega, by omega, ?_⟩⟩
    have i0 : T4 H1 x0 1 0 0 1 := z0.2.ex fun b xs z => fv_tup f0.1 e1 z
    refine for_range (lo := 0) (n := u.toNat) (fun i σ H' => ∃ x p q r s y3 y4 y5, σ = [some (.ref c), some (.int (t : Int)), some (.ref x), y3, y4, y5] ∧ Fv c H H' ∧ T4 H' x p q r s ∧ Gd i p q r s) ⟨x0, 1, 0, 0, 1, none, none, none, rfl, f0.trans e1, i0, (show Gd 0 1 0 0 1 from ⟨by decide, by decide, by decide, by decide, .inl (by decide)⟩)⟩ ?_ ?_
    · rintro i σ H' hi ⟨x, p, q', r, s', y3, y4, y5, rfl, e2, h4, hg⟩
      have hi4 : i < 4 := by omega
      refine ⟨_, rfl, _, rfl, _, rfl, _, _, rfl, rfl, ⟨by decide, by decide, by decide⟩, _, rfl, c, 99, rfl, e2.1, by decide, by decide, fun v H3 v0 v1 e3 => ⟨_, _, rfl, rfl, sl6, fun l nl => ?_⟩⟩
      have f3 : Fv c H' H3 := e3
      refine ⟨c, l, [.int 1, .int (-1), .int 2, .int (-3), .int 5, .int (1000000 + v)], rfl, vat_new f3.1 nl, upd_same, fv_ne f3.1 nl, by simp, by show 6 ≤ 1000; decide, fun y H4 hy e4 => ?_⟩
      obtain ⟨z, rfl, hz⟩ : ∃ z : Int, y = .int z ∧ z.natAbs ≤ 1000098 := by
        simp only [List.mem_cons, List.mem_nil_iff, or_false] at hy
        rcases hy with rfl | rfl | rfl | rfl | rfl | rfl
        · exact ⟨_, rfl, by decide⟩
        · exact ⟨_, rfl, by decide⟩
        · exact ⟨_, rfl, by decide⟩
        · exact ⟨_, rfl, by decide⟩
        · exact ⟨_, rfl, by decide⟩
        · exact ⟨_, rfl, by omega⟩
      have f4 : Fv c H' H4 := (f3.trans (fv_new f3.1 nl)).trans e4
      refine ⟨_, rfl, _, rfl, sl2, fun a1 m1 => ⟨sl2, fun a2 m2 => ⟨sl2, fun a3 m3 => ?_⟩⟩⟩
      have w1 := t4_new m1 m2 m3
      generalize upd (upd (upd H4 a1 (.tup [.int 1, .int z])) a2 (.tup [.int 0, .int 1])) a3 (.tup [.ref a1, .ref a2]) = Ha at w1 ⊢
      refine ⟨sl2, fun a1 m1 => ⟨_, rfl, sl2, fun a2 m2 => ⟨sl2, fun b3 m3 => ?_⟩⟩⟩
      have w2 := t4_new m1 m2 m3
      generalize upd (upd (upd Ha a1 (.tup [.int 1, .int 0])) a2 (.tup [.int z, .int 1])) b3 (.tup [.ref a1, .ref a2]) = Hb at w2 ⊢
      refine ⟨sl2, fun a1 m1 => ⟨sl2, fun a2 m2 => ⟨sl2, fun c3 m3 => ?_⟩⟩⟩
      have w3 := t4_new m1 m2 m3
      generalize upd (upd (upd Hb a1 (.tup [.int 0, .int 1])) a2 (.tup [.int 1, .int 0])) c3 (.tup [.ref a1, .ref a2]) = Hc at w3 ⊢
      refine ⟨_, rfl, sl2, fun a1 m1 => ⟨sl2, fun a2 m2 => ⟨sl2, fun d3 m3 => ?_⟩⟩⟩
      have w4 := t4_new m1 m2 m3
      generalize upd (upd (upd Hc a1 (.tup [.int (-1), .int 0])) a2 (.tup [.int 0, .int 1])) d3 (.tup [.ref a1, .ref a2]) = Hd at w4 ⊢
      refine ⟨sl2, fun a1 m1 => ⟨_, rfl, sl2, fun a2 m2 => ⟨sl2, fun g3 m3 => ?_⟩⟩⟩
      have w5 := t4_new m1 m2 m3
      generalize upd (upd (upd Hd a1 (.tup [.int 0, .int 1])) a2 (.tup [.int (-1), .int 0])) g3 (.tup [.ref a1, .ref a2]) = Hg at w5 ⊢
      refine ⟨sl5, fun l2 nl2 => ?_⟩
      have eg : Ex0 H4 Hg := (((w1.1.trans w2.1).trans w3.1).trans w4.1).trans w5.1
      have f5 : Fv c H' Hg := f4.trans (fv_ex f4.1 eg)
      have f6 : Fv c Hg (upd Hg l2 (.lst [.ref a3, .ref b3, .ref c3, .ref d3, .ref g3])) := fv_new f5.1 nl2
      refine ⟨c, l2, [.ref a3, .ref b3, .ref c3, .ref d3, .ref g3], rfl, f6.1, upd_same, fv_ne f5.1 nl2, by simp, by show 5 ≤ 1000; decide, fun y H6 hy e6 => ?_⟩
      have f7 : Fv c Hg H6 := f6.trans e6
      have up : ∀ {t : Addr} {i j k m : Int}, T4 Hg t i j k m → T4 H6 t i j k m := fun h => h.ex fun b xs z => fv_tup f5.1 f7 z
      obtain ⟨x2, i', j, k, m, rfl, h2, g2⟩ : ∃ x2 i' j k m, y = .ref x2 ∧ T4 H6 x2 i' j k m ∧ Pl i' j k m := by
        simp only [List.mem_cons, List.mem_nil_iff, or_false] at hy
        rcases hy with rfl | rfl | rfl | rfl | rfl
        · exact ⟨_, _, _, _, _, rfl, up (Ex0.t4 (((w2.1.trans w3.1).trans w4.1).trans w5.1) w1.2), z, hz, .inl ⟨rfl, rfl, rfl, rfl⟩⟩
        · exact ⟨_, _, _, _, _, rfl, up (Ex0.t4 ((w3.1.trans w4.1).trans w5.1) w2.2), z, hz, .inr (.inl ⟨rfl, rfl, rfl, rfl⟩)⟩
        · exact ⟨_, _, _, _, _, rfl, up (Ex0.t4 (w4.1.trans w5.1) w3.2), z, hz, .inr (.inr (.inl ⟨rfl, rfl, rfl, rfl⟩))⟩
        · exact ⟨_, _, _, _, _, rfl, up (Ex0.t4 w5.1 w4.2), z, hz, .inr (.inr (.inr (.inl ⟨rfl, rfl, rfl, rfl⟩)))⟩
        · exact ⟨_, _, _, _, _, rfl, up w5.2, z, hz, .inr (.inr (.inr (.inr ⟨rfl, rfl, rfl, rfl⟩)))⟩
      have f8 : Fv c H' H6 := f5.trans f7
      have h1 : T4 H6 x p q' r s' := h4.ex fun b xs z => fv_tup e2.1 f8 z
      have gb := hg.b (by omega)
      have pb := g2.b
      refine ⟨_, rfl, _, rfl, x, x2, p, q', r, s', i', j, k, m, rfl, h1, h2, gb.1.mono (by decide), gb.2.1.mono (by decide), gb.2.2.1.mono (by decide), gb.2.2.2.mono (by decide), pb.1, pb.2.1, pb.2.2.1, pb.2.2.2, fun x3 H7 e7 h7 => ?_⟩
      exact ⟨x3, _, _, _, _, _, _, _, rfl, (e2.trans f8).trans (fv_ex (e2.trans f8).1 e7), h7, hg.step g2⟩
    · rintro σ H' ⟨x, p, q', r, s', y3, y4, y5, rfl, e2, h4, hg⟩
      exact ⟨_, rfl, q x p q' r s' H' e2 h4 (hg.mono (by omega))⟩
end
end TF
namespace TF
open PySem PySem.Spec PyProof.Rows L2 Fr
open K05M (fv fl2 fl3 fdisc)
open K06M
def sp_l_product (_ : PySem.W.Frag) (_ _ : Addr) : Sp := fun vs H Q _ => ∃ (a b : Addr) (xs ys : List Int), vs = [.ref a, .ref b] ∧ Ti H a xs ∧ Ti H b ys ∧ (∀ x ∈ xs, B 10000 x) ∧ (∀ y ∈ ys, B 10000 y) ∧ 0 < xs.length ∧ xs.length ≤ 1000 ∧ ys.length ≤ 1000 ∧ ∀ t H', Ex0 H H' → Ti H' t (prodL xs ys) → Q (.ref t) H'
def sp_l_sum (_ : PySem.W.Frag) (_ _ : Addr) : Sp := fun vs H Q _ => ∃ (a b : Addr) (xs ys : List Int), vs = [.ref a, .ref b] ∧ Ti H a xs ∧ Ti H b ys ∧ xs.length = ys.length ∧ xs.length ≤ 1000 ∧ ∀ t H', Ex0 H H' → Ti H' t (List.zipWith (· + ·) xs ys) → Q (.ref t) H'
def sp_l_many (_ : PySem.W.Frag) (_ _ : Addr) : Sp := fun vs H Q _ => ∃ (n : Int) (a : Addr) (xs : List Int), vs = [.int n, .ref a] ∧ Ti H a xs ∧ B 100000 n ∧ (∀ x ∈ xs, B 100000 x) ∧ xs.length ≤ 1000 ∧ ∀ t H', Ex0 H H' → Ti H' t (xs.map fun x => n * x) → Q (.ref t) H'
def sp_l_value (_ : PySem.W.Frag) (_ _ : Addr) : Sp := fun vs H Q _ => ∃ (a : Addr) (xs : List Int) (x y : Int), vs = [.ref a, .int x, .int y] ∧ Ti H a xs ∧ B 200 x ∧ B 200 y ∧ (∀ z ∈ xs, B 200 z) ∧ xs.length ≤ 8 ∧ ∀ H', Ex0 H H' → Q (.int (valN xs x y xs.length).1) H'
def sp_l_put (_ : PySem.W.Frag) (_ _ : Addr) : Sp := fun vs H Q _ => ∃ (a u : Addr) (row : List Int) (p q r s : Int), vs = [.ref a, .ref u] ∧ Ti H a row ∧ T4 H u p q r s ∧ (∀ e ∈ row, B 400 e) ∧ 2 ≤ row.length ∧ row.length ≤ 11 ∧ B 400 p ∧ B 400 q ∧ B 400 r ∧ B 400 s ∧ ∀ t H', Ex0 H H' → Ti H' t (putN row p q r s row.length) → Q (.ref t) H'
def sp_l_led (_ : PySem.W.Frag) (_ _ : Addr) : Sp := fun vs H Q _ => ∃ (t u : Addr) (a b c d p q r s : Int), vs = [.ref t, .ref u] ∧ Ti H t [a, b, c, d] ∧ T4 H u p q r s ∧ B 400 a ∧ B 400 b ∧ B 400 c ∧ B 400 d ∧ B 400 p ∧ B 400 q ∧ B 400 r ∧ B 400 s ∧ ∀ x H', Ex0 H H' → Ti H' x (fled a b c d p q r s) → Q (.ref x) H'
def sp_l_discriminant (_ : PySem.W.Frag) (_ _ : Addr) : Sp := fun vs H Q _ => ∃ (t : Addr) (a b c d : Int), vs = [.ref t] ∧ Ti H t [a, b, c, d] ∧ B 400 a ∧ B 400 b ∧ B 400 c ∧ B 400 d ∧ Q (.int (fdisc a b c d)) H
theorem pl1 (e p r : Int) : prodL [e] [p, r] = [e * p, e * r] := by
  show [0 + e * p, 0 + e * r] = [e * p, e * r]
  simp only [Int.zero_add]
theorem pl2 (u v p r : Int) : prodL [u, v] [p, r] = [u * p, u * r + v * p, v * r] := by
  show [0 + u * p, 0 + u * r + v * p, 0 + v * r] = [u * p, u * r + v * p, v * r]
  simp only [Int.zero_add]
theorem pl3 (u v x p r : Int) : prodL [u, v, x] [p, r] = [u * p, u * r + v * p, v * r + x * p, x * r] := by
  show [0 + u * p, 0 + u * r + v * p, 0 + v * r + x * p, 0 + x * r] = [u * p, u * r + v * p, v * r + x * p, x * r]
  simp only [Int.zero_add]
theorem part0 (e p q r s : Int) : partN 4 e p q r s 0 3 = prodL (prodL (prodL [e] [p, r]) [p, r]) [p, r] := rfl
theorem part1 (e p q r s : Int) : partN 4 e p q r s 1 3 = prodL (prodL (prodL [e] [p, r]) [p, r]) [q, s] := rfl
theorem part2 (e p q r s : Int) : partN 4 e p q r s 2 3 = prodL (prodL (prodL [e] [p, r]) [q, s]) [q, s] := rfl
theorem part3 (e p q r s : Int) : partN 4 e p q r s 3 3 = prodL (prodL (prodL [e] [q, s]) [q, s]) [q, s] := rfl
theorem put_4 (a b c d p q r s : Int) : putN [a, b, c, d] p q r s 4 = List.zipWith (· + ·) (List.zipWith (· + ·) (List.zipWith (· + ·) (List.zipWith (· + ·) [0, 0, 0, 0] (partN 4 a p q r s 0 3)) (partN 4 b p q r s 1 3)) (partN 4 c p q r s 2 3)) (partN 4 d p q r s 3 3) := rfl
theorem put_list (a b c d p q r s : Int) : putN [a, b, c, d] p q r s 4 = [fv a b c d p q, fl2 a b c d p q r s, fl3 a b c d p q r s, fv a b c d r s] := by
  rw [put_4, part0, part1, part2, part3]
  simp only [pl1, pl2, pl3, List.zipWith_cons_cons, List.zipWith_nil_left, List.cons.injEq, and_true]
  unfold fv fl2 fl3
  refine ⟨?_, ?_, ?_, ?_⟩ <;> grind
theorem put_led (a b c d p q r s : Int) : ((putN [a, b, c, d] p q r s 4).map fun x => (p * s - q * r) * x) = fled a b c d p q r s := by
  rw [put_list]
  rfl
section
variable {P : Program} {w : World} {K : PySem.W.Frag} {mg : Str → Option Value} {base : Heap} {C_Form C_Double : Addr}
theorem ok_l_product (T : Txt K mg C_Form C_Double) : Def P w K mg base 1 "_law_product" ["_law_one_here", "_law_other"] (sp_l_product K C_Form C_Double) := by
  obtain ⟨f_, fd_, g_, F_⟩ := T.d_l_product
  refine ⟨f_, fd_, g_, F_.kp, F_.binds (ps := ["_law_one_here", "_law_other"]) (fun _ _ _ _ _ _ us hl => match us, hl with | [_, _], _ => rfl), ?_⟩
  refine F_.ok sc_l_product (fun vs H Q E h => ?_) (fun cdv A outer s H vs Q E hr h => ?_)
  · first | (obtain ⟨rfl, _⟩ := h; rfl) | (obtain ⟨_, rfl, _⟩ := h; rfl) | (obtain ⟨_, _, rfl, _⟩ := h; rfl) | (obtain ⟨_, _, _, rfl, _⟩ := h; rfl) | (obtain ⟨_, _, _, _, rfl, _⟩ := h; rfl) | (obtain ⟨_, _, _, _, _, rfl, _⟩ := h; rfl) | (obtain ⟨_, _, _, _, _, _, rfl, _⟩ := h; rfl) | (obtain ⟨_, _, _, _, _, _, _, rfl, _⟩ := h; rfl) | (obtain ⟨_, _, _, _, _, _, _, _, rfl, _⟩ := h; rfl) | (obtain ⟨_, _, _, _, _, _, _, _, _, rfl, _⟩ := h; rfl) | (obtain ⟨_, _, _, _, _, _, _, _, _, _, rfl, _⟩ := h; rfl) | (obtain ⟨_, _, _, _, _, _, _, _, _, _, _, rfl, _⟩ := h; rfl) | (obtain ⟨_, _, _, _, _, _, _, _, _, _, _, _, rfl, _⟩ := h; rfl) | (obtain ⟨_, _, _, _, _, _, _, _, _, _, _, _, _, rfl, _⟩ := h; rfl) | (obtain ⟨_, _, _, _, _, _, _, _, _, _, _, _, _, _, rfl, _⟩ := h; rfl) | (obtain ⟨_, _, _, _, _, _, _, _, _, _, _, _, _, _, _, rfl, _⟩ := h; rfl) | (obtain ⟨_, _, _, _, _, _, _, _, _, _, _, _, _, _, _, _, rfl, _⟩ := h; rfl) | (obtain ⟨_, _, _, _, _, _, _, _, _, _, _, _, _, _, _, _, _, rfl, _⟩ := h; rfl) | (obtain ⟨_, _, _, _, _, _, _, _, _, _, _, _, _, _, _, _, _, _, rfl, _⟩ := h; rfl) | (obtain ⟨_, _, _, _, _, _, _, _, _, _, _, _, _, _, _, _, _, _, _, rfl, _⟩ := h; rfl) | (obtain ⟨_, _, _, _, _, _, _, _, _, _, _, _, _, _, _, _, _, _, _, _, rfl, _⟩ := h; rfl) | (obtain ⟨_, _, _, _, _, _, _, _, _, _, _, _, _, _, _, _, _, _, _, _, _, rfl, _⟩ := h; rfl) | (obtain ⟨_, _, _, _, _, _, _, _, _, _, _, _, _, _, _, _, _, _, _, _, _, _, rfl, _⟩ := h; rfl) | (obtain ⟨_, _, _, _, _, _, _, _, _, _, _, _, _, _, _, _, _, _, _, _, _, _, _, rfl, _⟩ := h; rfl)
  · obtain ⟨a, b, xs, ys, rfl, ha, hb, bx, by', hx0, hx, hy, q⟩ := h
    refine ⟨_, (pss_cons (ps_set (i := 2) sc_l_product.nd rfl (.inl rfl) (pe_op op_rep (pe_lst (pa_cons pe_int pa_nil)) (pe_op op_sub (pe_op op_add (pe_callB call_len_seq (by rfl) T.b_len PySem.boot_len (pa_cons (pv 0) pa_nil)) (pe_callB call_len_seq (by rfl) T.b_len PySem.boot_len (pa_cons (pv 1) pa_nil))) pe_int)))
    (pss_cons (ps_for PassesOwn.never rfl (pi_enumT (by rfl) T.b_enumerate (pa_cons (pv 0) pa_nil)) (pg_tup (by rfl) (pgs_cons (pg_name (i := 3) sc_l_product.nd rfl (.inl rfl)) (pgs_cons (pg_name (i := 4) sc_l_product.nd rfl (.inl rfl)) pgs_nil)))
      (pss_one (ps_for PassesOwn.never rfl (pi_enumT (by rfl) T.b_enumerate (pa_cons (pv 1) pa_nil)) (pg_tup (by rfl) (pgs_cons (pg_name (i := 5) sc_l_product.nd rfl (.inl rfl)) (pgs_cons (pg_name (i := 6) sc_l_product.nd rfl (.inl rfl)) pgs_nil)))
      (pss_one (ps_asg (pe_op op_add (pe_ix ix_list (pv 2) (pe_op op_add (pv 3) (pv 5)) (fun _ _ => rfl)) (pe_op op_mulW (pv 4) (pv 6))) (pg_sub (pv 2) (pe_op op_add (pv 3) (pv 5)) set_list))))))
    (pss_one (ps_ret (pe_callTy call_tuple_of (by rfl) T.b_tuple (by decide +kernel) (pa_cons (pv 2) pa_nil)))))), ?_⟩
    refine ⟨sl1, fun l nl => ?_⟩
    have e0 : Ex0 H (upd H l (.lst [.int 0])) := Ex0.new nl
    refine ⟨_, rfl, a, _, rfl, .inr (SqT.of (Ex0.ti e0 ha)), _, rfl, b, _, rfl, .inr (SqT.of (Ex0.ti e0 hb)), _, _, rfl, rfl, _, _, rfl, rfl, ?_⟩
    rw [List.length_map, List.length_map]
    refine ⟨l, _, [.int 0], rfl, rfl, upd_same, by omega, by omega, Nat.le_trans (show ([V.int 0] : List V).length * ((xs.length : Int) + (ys.length : Int) - 1).toNat ≤ 2000 by show 1 * _ ≤ _; omega) (by decide), fun p np => ?_⟩
    have hp0 : H p = none := Fx.free e0 (fun z => z) np
    have e1 : Ex0 H (upd (upd H l (.lst [.int 0])) p (.lst (List.replicate ((xs.length : Int) + (ys.length : Int) - 1).toNat [V.int 0]).flatten)) := e0.trans (Ex0.new np)
    refine ⟨_, rfl, a, _, rfl, SqT.of (Ex0.ti e1 ha), for_P walk_enumT (fun i σ H' => ∃ y3 y4 y5 y6, σ = [some (.ref a), some (.ref b), some (.ref p), y3, y4, y5, y6] ∧ Ex0 H H' ∧ H' p = some (.lst ((prodN xs ys i).map V.int))) ⟨none, none, none, none, rfl, e1, ?_⟩ (fun i σ H' _ ⟨_, _, _, _, _, e, _⟩ => SqT.of (Ex0.ti e ha)) ?_ ?_⟩
    · rw [upd_same, zeros, prodN, show ((xs.length : Int) + (ys.length : Int) - 1).toNat = xs.length + ys.length - 1 by omega]
    · rintro i T x y σ H' hi fx fy ⟨y3, y4, y5, y6, rfl, e, hp⟩ hT
      obtain rfl := Option.some.inj fx
      obtain ⟨rfl, hi'⟩ := get_D fy
      have e2 : Ex0 H (upd H' T (.tup [.int (i : Int), .int (xs.getD i 0)])) := e.trans (Ex0.new hT)
      have hp2 : (upd H' T (.tup [.int (i : Int), .int (xs.getD i 0)])) p = some (.lst ((prodN xs ys i).map V.int)) := by rw [upd_ne (ne_of_none hp hT)]; exact hp
      refine ⟨T, _, rfl, SqT.of upd_same, rfl, _, _, rfl, _, _, rfl, rfl, ?_⟩
      refine ⟨_, rfl, b, _, rfl, SqT.of (Ex0.ti e2 hb), for_P walk_enumT (fun j σ H'' => ∃ y5 y6, σ = [some (.ref a), some (.ref b), some (.ref p), some (.int (i : Int)), some (.int (xs.getD i 0)), y5, y6] ∧ Ex0 H H'' ∧ H'' p = some (.lst ((rowN (prodN xs ys i) i (xs.getD i 0) ys j).map V.int))) ⟨y5, y6, rfl, e2, hp2⟩ (fun j σ H'' _ ⟨_, _, _, e, _⟩ => SqT.of (Ex0.ti e hb)) ?_ ?_⟩
      · rintro j T2 x2 y2 σ H'' hj fx2 fy2 ⟨y5, y6, rfl, e3, hp3⟩ hT2
        obtain rfl := Option.some.inj fx2
        obtain ⟨rfl, hj'⟩ := get_D fy2
        have e4 : Ex0 H (upd H'' T2 (.tup [.int (j : Int), .int (ys.getD j 0)])) := e3.trans (Ex0.new hT2)
        have hp4 : (upd H'' T2 (.tup [.int (j : Int), .int (ys.getD j 0)])) p = some (.lst ((rowN (prodN xs ys i) i (xs.getD i 0) ys j).map V.int)) := by rw [upd_ne (ne_of_none hp3 hT2)]; exact hp3
        have hk : i + j < (rowN (prodN xs ys i) i (xs.getD i 0) ys j).length := by rw [rowN_len, prodN_len]; omega
        have ij : (i : Int) + (j : Int) = ((i + j : Nat) : Int) := (Int.natCast_add i j).symm
        refine ⟨T2, _, rfl, SqT.of upd_same, rfl, _, _, rfl, _, _, rfl, rfl, ?_⟩
        refine ⟨_, rfl, _, rfl, _, rfl, _, _, rfl, rfl, p, _, _, _, rfl, rfl, SqL.of hp4, by rw [ij]; exact atI_nat (get_map hk), ?_⟩
        refine ⟨_, rfl, _, rfl, _, _, rfl, rfl, mulB (bx _ (gD_mem hi')) (by' _ (gD_mem hj')) (by decide), _, _, rfl, rfl, ?_⟩
        refine ⟨_, rfl, _, rfl, _, rfl, _, _, rfl, rfl, p, _, _, i + j, rfl, rfl, hp4, by rw [ij]; exact Evl.ixN_nat (by rw [List.length_map]; exact hk), ?_⟩
        refine ⟨_, _, rfl, Fx.mut fm0 e4 trivial hp0, ?_⟩
        rw [upd_same, rowN, addAt, List.map_set]
      · rintro σ H'' ⟨y5, y6, rfl, e3, hp3⟩
        rw [List.length_map] at hp3
        exact ⟨_, _, _, _, rfl, e3, hp3⟩
    · rintro σ H' ⟨y3, y4, y5, y6, rfl, e, hp⟩
      rw [List.length_map] at hp
      refine ⟨_, rfl, p, _, rfl, .inl ⟨SqL.of hp, fun u nu => ?_⟩⟩
      exact q u _ (e.trans (Ex0.new nu)) upd_same
theorem ok_l_sum (T : Txt K mg C_Form C_Double) : Def P w K mg base 1 "_law_sum" ["_law_one_here", "_law_other"] (sp_l_sum K C_Form C_Double) := by
  obtain ⟨f_, fd_, g_, F_⟩ := T.d_l_sum
  refine ⟨f_, fd_, g_, F_.kp, F_.binds (ps := ["_law_one_here", "_law_other"]) (fun _ _ _ _ _ _ us hl => match us, hl with | [_, _], _ => rfl), ?_⟩
  refine F_.ok sc_l_sum (fun vs H Q E h => ?_) (fun cdv A outer s H vs Q E hr h => ?_)
  · first | (obtain ⟨rfl, _⟩ := h; rfl) | (obtain ⟨_, rfl, _⟩ := h; rfl) | (obtain ⟨_, _, rfl, _⟩ := h; rfl) | (obtain ⟨_, _, _, rfl, _⟩ := h; rfl) | (obtain ⟨_, _, _, _, rfl, _⟩ := h; rfl) | (obtain ⟨_, _, _, _, _, rfl, _⟩ := h; rfl) | (obtain ⟨_, _, _, _, _, _, rfl, _⟩ := h; rfl) | (obtain ⟨_, _, _, _, _, _, _, rfl, _⟩ := h; rfl) | (obtain ⟨_, _, _, _, _, _, _, _, rfl, _⟩ := h; rfl) | (obtain ⟨_, _, _, _, _, _, _, _, _, rfl, _⟩ := h; rfl) | (obtain ⟨_, _, _, _, _, _, _, _, _, _, rfl, _⟩ := h; rfl) | (obtain ⟨_, _, _, _, _, _, _, _, _, _, _, rfl, _⟩ := h; rfl) | (obtain ⟨_, _, _, _, _, _, _, _, _, _, _, _, rfl, _⟩ := h; rfl) | (obtain ⟨_, _, _, _, _, _, _, _, _, _, _, _, _, rfl, _⟩ := h; rfl) | (obtain ⟨_, _, _, _, _, _, _, _, _, _, _, _, _, _, rfl, _⟩ := h; rfl) | (obtain ⟨_, _, _, _, _, _, _, _, _, _, _, _, _, _, _, rfl, _⟩ := h; rfl) | (obtain ⟨_, _, _, _, _, _, _, _, _, _, _, _, _, _, _, _, rfl, _⟩ := h; rfl) | (obtain ⟨_, _, _, _, _, _, _, _, _, _, _, _, _, _, _, _, _, rfl, _⟩ := h; rfl) | (obtain ⟨_, _, _, _, _, _, _, _, _, _, _, _, _, _, _, _, _, _, rfl, _⟩ := h; rfl) | (obtain ⟨_, _, _, _, _, _, _, _, _, _, _, _, _, _, _, _, _, _, _, rfl, _⟩ := h; rfl) | (obtain ⟨_, _, _, _, _, _, _, _, _, _, _, _, _, _, _, _, _, _, _, _, rfl, _⟩ := h; rfl) | (obtain ⟨_, _, _, _, _, _, _, _, _, _, _, _, _, _, _, _, _, _, _, _, _, rfl, _⟩ := h; rfl) | (obtain ⟨_, _, _, _, _, _, _, _, _, _, _, _, _, _, _, _, _, _, _, _, _, _, rfl, _⟩ := h; rfl) | (obtain ⟨_, _, _, _, _, _, _, _, _, _, _, _, _, _, _, _, _, _, _, _, _, _, _, rfl, _⟩ := h; rfl)
  · obtain ⟨a, b, xs, ys, rfl, ha, hb, hl, hx, q⟩ := h
    refine ⟨_, (pss_one (ps_ret (pe_callTy call_tuple_of (by rfl) T.b_tuple (by decide +kernel) (pa_cons (pe_lc (own := [("_law_first", 2), ("_law_second", 3)]) (g := (gTup K 2 (gCons (gName 2) (gCons (gName 3) gNil)))) rfl sc_l_sum.nd (RZ.pi_zipA (by rfl) T.b_zip (pa_cons (pv 0) (pa_cons (pv 1) pa_nil))) (blkOk_by (N := N_l_sum) (sc := defScope s_l_sum) (by decide +kernel)) (fun _ _ _ _ _ => (pg_tup (by rfl) (pgs_cons (pg_name (i := 2) sc_l_sum.nd rfl (.inl rfl)) (pgs_cons (pg_name (i := 3) sc_l_sum.nd rfl (.inl rfl)) pgs_nil)))) (fun _ _ _ _ _ => pts_nil) (fun _ _ _ _ _ => (pe_op op_add (pv 2) (pv 3)))) pa_nil)))), ?_⟩
    have hl2 : (xs.map V.int).length = (ys.map V.int).length := by rw [List.length_map, List.length_map]; exact hl
    refine ⟨_, rfl, _, rfl, a, b, _, _, rfl, .inr ⟨SqT.of ha, SqT.of hb, ?_⟩⟩
    refine lcP (walk_zipT hl2) fm0 trivial (fun H' e => ⟨SqT.of (Ex0.ti e ha), SqT.of (Ex0.ti e hb)⟩) (fun i acc _ => acc = ((List.zipWith (· + ·) xs ys).take i).map V.int) (fun _ _ => rfl) (fun D i T x y acc H' hD hi fx fy e hA hlen hp hT => ?_) (fun D H' acc hD e hA hp => ?_)
    · obtain ⟨rfl, hi1⟩ := get_D fx
      obtain ⟨rfl, hi2⟩ := get_D fy
      refine ⟨T, _, rfl, SqT.of upd_same, rfl, _, _, rfl, _, _, rfl, rfl, ⟨rfl, ?_⟩⟩
      refine ⟨_, rfl, _, rfl, _, _, rfl, rfl, ?_⟩
      refine cs_yes fm0 trivial hD e hA hlen (by omega) (Ex0.new hT) ?_
      rw [hp, List.take_add_one, List.map_append]
      congr 1
      rw [List.getElem?_zipWith, List.getElem?_eq_getElem hi1, List.getElem?_eq_getElem hi2, List.getD_eq_getElem?_getD, List.getD_eq_getElem?_getD, List.getElem?_eq_getElem hi1, List.getElem?_eq_getElem hi2]
      rfl
    · rw [List.length_map, List.take_of_length_le (by rw [List.length_zipWith]; omega)] at hp
      subst hp
      refine ⟨D, _, rfl, .inl ⟨SqL.of hA, fun p np => ?_⟩⟩
      exact q p _ (e.trans (Ex0.new np)) upd_same
theorem ok_l_many (T : Txt K mg C_Form C_Double) : Def P w K mg base 1 "_law_many" ["_law_number_here", "_law_row"] (sp_l_many K C_Form C_Double) := by
  obtain ⟨f_, fd_, g_, F_⟩ := T.d_l_many
  refine ⟨f_, fd_, g_, F_.kp, F_.binds (ps := ["_law_number_here", "_law_row"]) (fun _ _ _ _ _ _ us hl => match us, hl with | [_, _], _ => rfl), ?_⟩
  refine F_.ok sc_l_many (fun vs H Q E h => ?_) (fun cdv A outer s H vs Q E hr h => ?_)
  · first | (obtain ⟨rfl, _⟩ := h; rfl) | (obtain ⟨_, rfl, _⟩ := h; rfl) | (obtain ⟨_, _, rfl, _⟩ := h; rfl) | (obtain ⟨_, _, _, rfl, _⟩ := h; rfl) | (obtain ⟨_, _, _, _, rfl, _⟩ := h; rfl) | (obtain ⟨_, _, _, _, _, rfl, _⟩ := h; rfl) | (obtain ⟨_, _, _, _, _, _, rfl, _⟩ := h; rfl) | (obtain ⟨_, _, _, _, _, _, _, rfl, _⟩ := h; rfl) | (obtain ⟨_, _, _, _, _, _, _, _, rfl, _⟩ := h; rfl) | (obtain ⟨_, _, _, _, _, _, _, _, _, rfl, _⟩ := h; rfl) | (obtain ⟨_, _, _, _, _, _, _, _, _, _, rfl, _⟩ := h; rfl) | (obtain ⟨_, _, _, _, _, _, _, _, _, _, _, rfl, _⟩ := h; rfl) | (obtain ⟨_, _, _, _, _, _, _, _, _, _, _, _, rfl, _⟩ := h; rfl) | (obtain ⟨_, _, _, _, _, _, _, _, _, _, _, _, _, rfl, _⟩ := h; rfl) | (obtain ⟨_, _, _, _, _, _, _, _, _, _, _, _, _, _, rfl, _⟩ := h; rfl) | (obtain ⟨_, _, _, _, _, _, _, _, _, _, _, _, _, _, _, rfl, _⟩ := h; rfl) | (obtain ⟨_, _, _, _, _, _, _, _, _, _, _, _, _, _, _, _, rfl, _⟩ := h; rfl) | (obtain ⟨_, _, _, _, _, _, _, _, _, _, _, _, _, _, _, _, _, rfl, _⟩ := h; rfl) | (obtain ⟨_, _, _, _, _, _, _, _, _, _, _, _, _, _, _, _, _, _, rfl, _⟩ := h; rfl) | (obtain ⟨_, _, _, _, _, _, _, _, _, _, _, _, _, _, _, _, _, _, _, rfl, _⟩ := h; rfl) | (obtain ⟨_, _, _, _, _, _, _, _, _, _, _, _, _, _, _, _, _, _, _, _, rfl, _⟩ := h; rfl) | (obtain ⟨_, _, _, _, _, _, _, _, _, _, _, _, _, _, _, _, _, _, _, _, _, rfl, _⟩ := h; rfl) | (obtain ⟨_, _, _, _, _, _, _, _, _, _, _, _, _, _, _, _, _, _, _, _, _, _, rfl, _⟩ := h; rfl) | (obtain ⟨_, _, _, _, _, _, _, _, _, _, _, _, _, _, _, _, _, _, _, _, _, _, _, rfl, _⟩ := h; rfl)
  · obtain ⟨n, a, xs, rfl, ha, bn, bx, hx, q⟩ := h
    refine ⟨_, (pss_one (ps_ret (pe_callTy call_tuple_of (by rfl) T.b_tuple (by decide +kernel) (pa_cons (pe_lc (own := [("_law_entry_here", 2)]) (g := (gName 2)) rfl sc_l_many.nd (pi_tup (pv 1)) (blkOk_by (N := N_l_many) (sc := defScope s_l_many) (by decide +kernel)) (fun _ _ _ _ _ => (pg_name (i := 2) sc_l_many.nd rfl (.inl rfl))) (fun _ _ _ _ _ => pts_nil) (fun _ _ _ _ _ => (pe_op op_mulW (pv 0) (pv 2)))) pa_nil)))), ?_⟩
    refine ⟨_, rfl, a, rfl, ⟨_, SqT.of ha⟩, ?_⟩
    refine lcT fm0 trivial (SqT.of ha) (fun z => z) (fun i acc _ => acc = ((xs.take i).map fun x => n * x).map V.int) (fun _ _ => rfl) (fun D i x acc H' hD hx' e hA hlen hp => ?_) (fun D H' acc hD e hA hp => ?_)
    · obtain ⟨z, hz, rfl⟩ := get_int hx'
      have hi := (List.getElem?_eq_some_iff.mp hz).1
      refine ⟨rfl, ?_⟩
      refine ⟨_, rfl, _, rfl, _, _, rfl, rfl, mulB bn (bx _ (List.mem_of_getElem? hz)) (by decide), ?_⟩
      refine cs_yes fm0 trivial hD e hA hlen (by omega) (Fx.refl trivial) ?_
      rw [hp, List.take_add_one, hz, List.map_append, List.map_append]
      rfl
    · rw [List.length_map, List.take_length] at hp
      subst hp
      refine ⟨D, _, rfl, .inl ⟨SqL.of hA, fun p np => ?_⟩⟩
      exact q p _ (e.trans (Ex0.new np)) upd_same
theorem ok_l_value (T : Txt K mg C_Form C_Double) : Def P w K mg base 1 "_law_value" ["_law_row", "_law_x", "_law_y"] (sp_l_value K C_Form C_Double) := by
  obtain ⟨f_, fd_, g_, F_⟩ := T.d_l_value
  refine ⟨f_, fd_, g_, F_.kp, F_.binds (ps := ["_law_row", "_law_x", "_law_y"]) (fun _ _ _ _ _ _ us hl => match us, hl with | [_, _, _], _ => rfl), ?_⟩
  refine F_.ok sc_l_value (fun vs H Q E h => ?_) (fun cdv A outer s H vs Q E hr h => ?_)
  · first | (obtain ⟨rfl, _⟩ := h; rfl) | (obtain ⟨_, rfl, _⟩ := h; rfl) | (obtain ⟨_, _, rfl, _⟩ := h; rfl) | (obtain ⟨_, _, _, rfl, _⟩ := h; rfl) | (obtain ⟨_, _, _, _, rfl, _⟩ := h; rfl) | (obtain ⟨_, _, _, _, _, rfl, _⟩ := h; rfl) | (obtain ⟨_, _, _, _, _, _, rfl, _⟩ := h; rfl) | (obtain ⟨_, _, _, _, _, _, _, rfl, _⟩ := h; rfl) | (obtain ⟨_, _, _, _, _, _, _, _, rfl, _⟩ := h; rfl) | (obtain ⟨_, _, _, _, _, _, _, _, _, rfl, _⟩ := h; rfl) | (obtain ⟨_, _, _, _, _, _, _, _, _, _, rfl, _⟩ := h; rfl) | (obtain ⟨_, _, _, _, _, _, _, _, _, _, _, rfl, _⟩ := h; rfl) | (obtain ⟨_, _, _, _, _, _, _, _, _, _, _, _, rfl, _⟩ := h; rfl) | (obtain ⟨_, _, _, _, _, _, _, _, _, _, _, _, _, rfl, _⟩ := h; rfl) | (obtain ⟨_, _, _, _, _, _, _, _, _, _, _, _, _, _, rfl, _⟩ := h; rfl) | (obtain ⟨_, _, _, _, _, _, _, _, _, _, _, _, _, _, _, rfl, _⟩ := h; rfl) | (obtain ⟨_, _, _, _, _, _, _, _, _, _, _, _, _, _, _, _, rfl, _⟩ := h; rfl) | (obtain ⟨_, _, _, _, _, _, _, _, _, _, _, _, _, _, _, _, _, rfl, _⟩ := h; rfl) | (obtain ⟨_, _, _, _, _, _, _, _, _, _, _, _, _, _, _, _, _, _, rfl, _⟩ := h; rfl) | (obtain ⟨_, _, _, _, _, _, _, _, _, _, _, _, _, _, _, _, _, _, _, rfl, _⟩ := h; rfl) | (obtain ⟨_, _, _, _, _, _, _, _, _, _, _, _, _, _, _, _, _, _, _, _, rfl, _⟩ := h; rfl) | (obtain ⟨_, _, _, _, _, _, _, _, _, _, _, _, _, _, _, _, _, _, _, _, _, rfl, _⟩ := h; rfl) | (obtain ⟨_, _, _, _, _, _, _, _, _, _, _, _, _, _, _, _, _, _, _, _, _, _, rfl, _⟩ := h; rfl) | (obtain ⟨_, _, _, _, _, _, _, _, _, _, _, _, _, _, _, _, _, _, _, _, _, _, _, rfl, _⟩ := h; rfl)
  · obtain ⟨a, xs, x, y, rfl, ha, bx, by', bz, hx, q⟩ := h
    refine ⟨_, (pss_cons (ps_asg (pe_tup (pa_cons pe_int (pa_cons pe_int pa_nil))) (pg_tup (by rfl) (pgs_cons (pg_name (i := 3) sc_l_value.nd rfl (.inl rfl)) (pgs_cons (pg_name (i := 4) sc_l_value.nd rfl (.inl rfl)) pgs_nil))))
    (pss_cons (ps_for PassesOwn.never rfl (pi_enumT (by rfl) T.b_enumerate (pa_cons (pv 0) pa_nil)) (pg_tup (by rfl) (pgs_cons (pg_name (i := 5) sc_l_value.nd rfl (.inl rfl)) (pgs_cons (pg_name (i := 6) sc_l_value.nd rfl (.inl rfl)) pgs_nil)))
      (pss_cons (ps_set (i := 3) sc_l_value.nd rfl (.inl rfl) (pe_op op_add (pe_op op_mulW (pv 3) (pv 1)) (pe_op op_mulW (pv 6) (pv 4))))
    (pss_one (ps_set (i := 4) sc_l_value.nd rfl (.inl rfl) (pe_op op_mulW (pv 4) (pv 2))))))
    (pss_one (ps_ret (pv 3))))), ?_⟩
    refine ⟨sl2, fun t0 n0 => ⟨t0, _, rfl, SqT.of upd_same, rfl, _, _, rfl, _, _, rfl, rfl, ?_⟩⟩
    have e0 : Ex0 H (upd H t0 (.tup [.int 0, .int 1])) := Ex0.new n0
    refine ⟨_, rfl, a, _, rfl, SqT.of (Ex0.ti e0 ha), for_P walk_enumT (fun i σ H' => ∃ y5 y6, σ = [some (.ref a), some (.int x), some (.int y), some (.int (valN xs x y i).1), some (.int (valN xs x y i).2), y5, y6] ∧ Ex0 H H') ⟨none, none, rfl, e0⟩ (fun i σ H' _ ⟨_, _, _, e⟩ => SqT.of (Ex0.ti e ha)) ?_ ?_⟩
    · rintro i T u v σ H' hi fx fy ⟨y5, y6, rfl, e⟩ hT
      obtain rfl := Option.some.inj fx
      obtain ⟨rfl, hi'⟩ := get_D fy
      obtain ⟨b1, b2⟩ := valN_B bx by' bz i (by omega)
      have b3 : B 200 (xs.getD i 0) := bz _ (gD_mem hi')
      refine ⟨T, _, rfl, SqT.of upd_same, rfl, _, _, rfl, _, _, rfl, rfl, ?_⟩
      refine ⟨_, rfl, _, rfl, _, _, rfl, rfl, mulB b1 bx (by omega), _, rfl, _, rfl, _, _, rfl, rfl, mulB b3 b2 (by omega), _, _, rfl, rfl, ?_⟩
      refine ⟨_, rfl, _, rfl, _, _, rfl, rfl, mulB b2 by' (by omega), ?_⟩
      exact ⟨_, _, rfl, e.trans (Ex0.new hT)⟩
    · rintro σ H' ⟨y5, y6, rfl, e⟩
      refine ⟨_, rfl, ?_⟩
      rw [List.length_map]
      exact q H' e
theorem ok_l_put (T : Txt K mg C_Form C_Double) : Def P w K mg base 2 "_law_put" ["_law_row", "_law_change_here"] (sp_l_put K C_Form C_Double) := by
  obtain ⟨f_, fd_, g_, F_⟩ := T.d_l_put
  obtain ⟨f_l_product, fd_l_product, g_l_product, k_l_product, b_l_product, G_l_product⟩ := (ok_l_product (P := P) (w := w) (base := base) T)
  obtain ⟨f_l_sum, fd_l_sum, g_l_sum, k_l_sum, b_l_sum, G_l_sum⟩ := (ok_l_sum (P := P) (w := w) (base := base) T)
  refine ⟨f_, fd_, g_, F_.kp, F_.binds (ps := ["_law_row", "_law_change_here"]) (fun _ _ _ _ _ _ us hl => match us, hl with | [_, _], _ => rfl), ?_⟩
  refine F_.ok sc_l_put (fun vs H Q E h => ?_) (fun cdv A outer s H vs Q E hr h => ?_)
  · first | (obtain ⟨rfl, _⟩ := h; rfl) | (obtain ⟨_, rfl, _⟩ := h; rfl) | (obtain ⟨_, _, rfl, _⟩ := h; rfl) | (obtain ⟨_, _, _, rfl, _⟩ := h; rfl) | (obtain ⟨_, _, _, _, rfl, _⟩ := h; rfl) | (obtain ⟨_, _, _, _, _, rfl, _⟩ := h; rfl) | (obtain ⟨_, _, _, _, _, _, rfl, _⟩ := h; rfl) | (obtain ⟨_, _, _, _, _, _, _, rfl, _⟩ := h; rfl) | (obtain ⟨_, _, _, _, _, _, _, _, rfl, _⟩ := h; rfl) | (obtain ⟨_, _, _, _, _, _, _, _, _, rfl, _⟩ := h; rfl) | (obtain ⟨_, _, _, _, _, _, _, _, _, _, rfl, _⟩ := h; rfl) | (obtain ⟨_, _, _, _, _, _, _, _, _, _, _, rfl, _⟩ := h; rfl) | (obtain ⟨_, _, _, _, _, _, _, _, _, _, _, _, rfl, _⟩ := h; rfl) | (obtain ⟨_, _, _, _, _, _, _, _, _, _, _, _, _, rfl, _⟩ := h; rfl) | (obtain ⟨_, _, _, _, _, _, _, _, _, _, _, _, _, _, rfl, _⟩ := h; rfl) | (obtain ⟨_, _, _, _, _, _, _, _, _, _, _, _, _, _, _, rfl, _⟩ := h; rfl) | (obtain ⟨_, _, _, _, _, _, _, _, _, _, _, _, _, _, _, _, rfl, _⟩ := h; rfl) | (obtain ⟨_, _, _, _, _, _, _, _, _, _, _, _, _, _, _, _, _, rfl, _⟩ := h; rfl) | (obtain ⟨_, _, _, _, _, _, _, _, _, _, _, _, _, _, _, _, _, _, rfl, _⟩ := h; rfl) | (obtain ⟨_, _, _, _, _, _, _, _, _, _, _, _, _, _, _, _, _, _, _, rfl, _⟩ := h; rfl) | (obtain ⟨_, _, _, _, _, _, _, _, _, _, _, _, _, _, _, _, _, _, _, _, rfl, _⟩ := h; rfl) | (obtain ⟨_, _, _, _, _, _, _, _, _, _, _, _, _, _, _, _, _, _, _, _, _, rfl, _⟩ := h; rfl) | (obtain ⟨_, _, _, _, _, _, _, _, _, _, _, _, _, _, _, _, _, _, _, _, _, _, rfl, _⟩ := h; rfl) | (obtain ⟨_, _, _, _, _, _, _, _, _, _, _, _, _, _, _, _, _, _, _, _, _, _, _, rfl, _⟩ := h; rfl)
  · obtain ⟨a, u, row, p, q', r, s', rfl, ha, h4, br, hl2, hl, bp, bq, brr, bs, q⟩ := h
    refine ⟨_, (pss_cons (ps_asg (pv 1) (pg_tup (by rfl) (pgs_cons (pg_tup (by rfl) (pgs_cons (pg_name (i := 2) sc_l_put.nd rfl (.inl rfl)) (pgs_cons (pg_name (i := 3) sc_l_put.nd rfl (.inl rfl)) pgs_nil))) (pgs_cons (pg_tup (by rfl) (pgs_cons (pg_name (i := 4) sc_l_put.nd rfl (.inl rfl)) (pgs_cons (pg_name (i := 5) sc_l_put.nd rfl (.inl rfl)) pgs_nil))) pgs_nil))))
    (pss_cons (ps_par (i := 6) (j := 7) (by rfl) sc_l_put.nd rfl rfl (by decide) rfl rfl (pa_cons (pe_op op_repT (pe_tup (pa_cons pe_int pa_nil)) (pe_callB call_len_seq (by rfl) T.b_len PySem.boot_len (pa_cons (pv 0) pa_nil))) (pa_cons (pe_op op_sub (pe_callB call_len_seq (by rfl) T.b_len PySem.boot_len (pa_cons (pv 0) pa_nil)) pe_int) pa_nil)) (by rfl))
    (pss_cons (ps_for PassesOwn.never rfl (pi_enumT (by rfl) T.b_enumerate (pa_cons (pv 0) pa_nil)) (pg_tup (by rfl) (pgs_cons (pg_name (i := 8) sc_l_put.nd rfl (.inl rfl)) (pgs_cons (pg_name (i := 9) sc_l_put.nd rfl (.inl rfl)) pgs_nil)))
      (pss_cons (ps_set (i := 10) sc_l_put.nd rfl (.inl rfl) (pe_tup (pa_cons (pv 9) pa_nil)))
    (pss_cons (ps_for PassesOwn.never rfl (pi_range1 (by rfl) T.b_range (pa_cons (pv 7) pa_nil)) (pg_name (i := 11) sc_l_put.nd rfl (.inl rfl))
      (pss_one (ps_set (i := 10) sc_l_put.nd rfl (.inl rfl) (pe_call G_l_product (hr.mono (by decide)) (by rfl) g_l_product k_l_product b_l_product .nil pass0 (pa_cons (pv 10) (pa_cons (pe_ifExp (pt_cmpR op_lt (pv 11) (pe_op op_sub (pv 7) (pv 8)) (nomark _)) (pe_tup (pa_cons (pv 2) (pa_cons (pv 4) pa_nil))) (pe_tup (pa_cons (pv 3) (pa_cons (pv 5) pa_nil)))) pa_nil))))))
    (pss_one (ps_set (i := 6) sc_l_put.nd rfl (.inl rfl) (pe_call G_l_sum (hr.mono (by decide)) (by rfl) g_l_sum k_l_sum b_l_sum .nil pass0 (pa_cons (pv 6) (pa_cons (pv 10) pa_nil))))))))
    (pss_one (ps_ret (pv 6)))))), ?_⟩
    have hne : row ≠ [] := fun z => by rw [z] at hl2; simp at hl2
    refine ⟨_, rfl, un4 h4 ?_⟩
    refine ⟨sl1, fun t0 n0 => ⟨_, rfl, a, _, rfl, .inr (SqT.of (Ex0.ti (Ex0.new n0) ha)), ?_⟩⟩
    rw [List.length_map]
    refine ⟨t0, _, _, rfl, rfl, SqT.of upd_same, by simp, by omega, by omega, by decide, fun f0 nf0 => ?_⟩
    have e1 : Ex0 H (upd (upd H t0 (.tup [.int 0])) f0 (.tup (List.replicate (row.length : Int).toNat [V.int 0]).flatten)) := (Ex0.new n0).trans (Ex0.new nf0)
    refine ⟨_, rfl, a, _, rfl, .inr (SqT.of (Ex0.ti e1 ha)), _, _, rfl, rfl, _, _, rfl, ?_⟩
    rw [List.length_map]
    refine ⟨_, rfl, a, _, rfl, SqT.of (Ex0.ti e1 ha), for_P walk_enumT (fun i σ H' => ∃ f y8 y9 y10 y11, σ = [some (.ref a), some (.ref u), some (.int p), some (.int q'), some (.int r), some (.int s'), some (.ref f), some (.int ((row.length : Int) - 1)), y8, y9, y10, y11] ∧ Ex0 H H' ∧ Ti H' f (putN row p q' r s' i)) ⟨f0, none, none, none, none, rfl, e1, ?_⟩ (fun i σ H' _ ⟨_, _, _, _, _, _, e, _⟩ => SqT.of (Ex0.ti e ha)) ?_ ?_⟩
    · show (upd _ f0 _) f0 = _
      rw [upd_same, zeros, putN]
      rfl
    · rintro i T x y σ H' hi fx fy ⟨f, y8, y9, y10, y11, rfl, e, hf⟩ hT
      obtain rfl := Option.some.inj fx
      obtain ⟨rfl, hi'⟩ := get_D fy
      have e2 : Ex0 H' (upd H' T (.tup [.int (i : Int), .int (row.getD i 0)])) := Ex0.new hT
      refine ⟨T, _, rfl, SqT.of upd_same, rfl, _, _, rfl, _, _, rfl, rfl, ?_⟩
      refine ⟨_, rfl, sl1, fun t nt => ?_⟩
      have e3 : Ex0 H' (upd (upd H' T (.tup [.int (i : Int), .int (row.getD i 0)])) t (.tup [.int (row.getD i 0)])) := e2.trans (Ex0.new nt)
      refine ⟨_, rfl, _, rfl, by omega, by omega, ?_⟩
      refine for_range (lo := 0) (fun j σ H'' => ∃ t y11, σ = [some (.ref a), some (.ref u), some (.int p), some (.int q'), some (.int r), some (.int s'), some (.ref f), some (.int ((row.length : Int) - 1)), some (.int (i : Int)), some (.int (row.getD i 0)), some (.ref t), y11] ∧ Ex0 H' H'' ∧ Ti H'' t (partN row.length (row.getD i 0) p q' r s' i j)) ⟨t, y11, rfl, e3, upd_same⟩ ?_ ?_
      · rintro j σ H'' hj ⟨t, y11, rfl, e4, ht⟩
        have hj' : j ≤ 9 := by omega
        have bt := partN_B (n := row.length) (i := i) (br _ (gD_mem hi')) bp bq brr bs j (by omega)
        have lt := partN_len row.length (row.getD i 0) p q' r s' i j
        refine ⟨_, rfl, _, rfl, _, rfl, _, rfl, _, _, rfl, rfl, _, _, rfl, rfl, _, rfl, iteD (fun g => ?_) (fun g => ?_)⟩
        · refine ⟨_, rfl, _, rfl, sl2, fun v nv => ?_⟩
          refine ⟨t, v, _, [p, r], rfl, Ex0.ti (Ex0.new nv) ht, upd_same, fun z hz => (bt z hz).mono (by omega), fun z hz => ?_, by omega, by omega, by show 2 ≤ 1000; decide, fun t2 H3 e5 h5 => ?_⟩
          · simp only [List.mem_cons, List.mem_nil_iff, or_false] at hz
            rcases hz with rfl | rfl
            · exact bp.mono (by decide)
            · exact brr.mono (by decide)
          · refine ⟨t2, _, rfl, (e4.trans (Ex0.new nv)).trans e5, ?_⟩
            rw [partN, if_pos g]
            exact h5
        · refine ⟨_, rfl, _, rfl, sl2, fun v nv => ?_⟩
          refine ⟨t, v, _, [q', s'], rfl, Ex0.ti (Ex0.new nv) ht, upd_same, fun z hz => (bt z hz).mono (by omega), fun z hz => ?_, by omega, by omega, by show 2 ≤ 1000; decide, fun t2 H3 e5 h5 => ?_⟩
          · simp only [List.mem_cons, List.mem_nil_iff, or_false] at hz
            rcases hz with rfl | rfl
            · exact bq.mono (by decide)
            · exact bs.mono (by decide)
          · refine ⟨t2, _, rfl, (e4.trans (Ex0.new nv)).trans e5, ?_⟩
            rw [partN, if_neg g]
            exact h5
      · rintro σ H'' ⟨t, y11, rfl, e4, ht⟩
        rw [show ((row.length : Int) - 1).toNat = row.length - 1 by omega] at ht
        refine ⟨_, rfl, _, rfl, f, t, _, _, rfl, Ex0.ti e4 hf, ht, by rw [putN_len row p q' r s' hne, partN_len]; omega, by rw [putN_len row p q' r s' hne]; omega, fun f2 H3 e5 h5 => ?_⟩
        exact ⟨f2, _, _, _, _, rfl, (e.trans e4).trans e5, h5⟩
    · rintro σ H' ⟨f, y8, y9, y10, y11, rfl, e, hf⟩
      rw [List.length_map] at hf
      exact ⟨_, rfl, q f H' e hf⟩
end
end TF
namespace TF
open PySem PySem.Spec PyProof.Rows L2 Fr
theorem made_ex {H H' : Hp} {x dx : Addr} {o1 o2 : HO} (nx : H x = none) (ndx : H dx = none) (e1 : ∀ b o, b ≠ x → (upd (upd H dx o1) x o2) b = some o → H' b = some o) : Ex0 H H' := Ex0.of fun b o e => by
  have n1 : b ≠ x := ne_of_none e nx
  have n2 : b ≠ dx := ne_of_none e ndx
  refine e1 b o n1 ?_
  rw [upd_ne n1, upd_ne n2]
  exact e
theorem made_at {H : Hp} {x dx t : Addr} {o1 o2 : HO} {xs : List V} (nx : H x = none) (ndx : H dx = none) (h : H t = some (.tup xs)) : upd (upd H dx o1) x o2 t = some (.tup xs) := by
  rw [upd_ne (ne_of_none h nx), upd_ne (ne_of_none h ndx)]
  exact h
theorem ex_two {H : Hp} {x dx : Addr} {o1 o2 : HO} (nx : H x = none) (ndx : H dx = none) : Ex0 H (upd (upd H dx o1) x o2) := Ex0.of fun b o e => by
  rw [upd_ne (ne_of_none e nx), upd_ne (ne_of_none e ndx)]
  exact e
theorem fo_made {C : Addr} {H H' : Hp} {x dx t : Addr} {ns : List Int} {o1 o2 : HO} (nx : H x = none) (ndx : H dx = none) (ht : Ti H t ns) (e1 : ∀ b o, b ≠ x → (upd (upd H dx o1) x o2) b = some o → H' b = some o)
    (e2 : H' x = some (.ins C dx [(("_coefficients" : Str), .ref t)])) : Ex0 H H' ∧ FormAt C H' x ns :=
  ⟨made_ex nx ndx e1, dx, t, e2, Ex0.ti (made_ex nx ndx e1) ht⟩
end TF
namespace TF
open PySem PySem.Spec PyProof.Rows L2 Fr
open K05M (fv fl2 fl3 fdisc)
open K06M
theorem B.plus {n : Nat} {i j : Int} (h1 : B n i) (h2 : B n j) : B (n + 1) (i + j) := ⟨by
  have a := h1.1
  have b := h2.1
  rw [Nat.pow_succ]
  omega, by omega⟩
theorem B.less {n : Nat} {i j : Int} (h1 : B n i) (h2 : B n j) : B (n + 1) (i - j) := ⟨by
  have a := h1.1
  have b := h2.1
  rw [Nat.pow_succ]
  omega, by omega⟩
theorem short_B {i : Int} (h : B 190 i) : Short i := by
  have h1 : i.natAbs < 1569275433846670190958947355801916604025588861116008628224 := h.1
  exact ⟨by omega, by omega⟩
theorem e_B {e : Int} (h : e = 1 ∨ e = -1) : B 1 e := by
  rcases h with rfl | rfl <;> exact ⟨by decide, by decide⟩
theorem dv_B {a b c x y : Int} {n m : Nat} (ha : B n a) (hb : B n b) (hc : B n c) (hx : B m x) (hy : B m y) : B (n + m + m + 2) (dv a b c x y) :=
  B.plus (B.plus (B.mul (B.mul ha hx) hx) (B.mul (B.mul hb hx) hy)) ((B.mul (B.mul hc hy) hy).mono (by omega))
theorem gcd_dvd {g : Nat} : ∀ (ns : List Int) (x : Nat), g ∣ ns.foldl (fun g n => Nat.gcd g n.natAbs) x ↔ g ∣ x ∧ ∀ n ∈ ns, (g : Int) ∣ n
  | [], x => by simp
  | n :: ns, x => by
    rw [List.foldl_cons, gcd_dvd ns, Nat.dvd_gcd_iff, List.forall_mem_cons, Int.ofNat_dvd_left]
    constructor
    · rintro ⟨⟨h1, h2⟩, h3⟩; exact ⟨h1, h2, h3⟩
    · rintro ⟨h1, h2, h3⟩; exact ⟨⟨h1, h2⟩, h3⟩
theorem gcdL_dvd {g : Nat} {ns : List Int} : g ∣ gcdL ns ↔ ∀ n ∈ ns, (g : Int) ∣ n := by
  unfold gcdL
  rw [gcd_dvd]
  simp
theorem Gd.ok {p q r s : Int} (h : Gd 4 p q r s) : ChOk p q r s := by
  obtain ⟨h1, h2, h3, h4⟩ := h.b (Nat.le_refl _)
  exact ⟨short_B (h1.mono (by decide)), short_B (h2.mono (by decide)), short_B (h3.mono (by decide)), short_B (h4.mono (by decide)), h.2.2.2.2⟩
theorem join_ok {p q r s i j k m : Int} (h : Gd 4 p q r s) (g : Gd 4 i j k m) : ChOk (i * p + j * r) (i * q + j * s) (k * p + m * r) (k * q + m * s) := by
  obtain ⟨h1, h2, h3, h4⟩ := h.b (Nat.le_refl _)
  obtain ⟨g1, g2, g3, g4⟩ := g.b (Nat.le_refl _)
  refine ⟨short_B ((B.plus (B.mul g1 h1) (B.mul g2 h3)).mono (by decide)), short_B ((B.plus (B.mul g1 h2) (B.mul g2 h4)).mono (by decide)), short_B ((B.plus (B.mul g3 h1) (B.mul g4 h3)).mono (by decide)), short_B ((B.plus (B.mul g3 h2) (B.mul g4 h4)).mono (by decide)), ?_⟩
  rw [K05M.det_mul]
  rcases h.2.2.2.2 with e | e <;> rcases g.2.2.2.2 with f | f <;> rw [e, f] <;> decide
theorem und_ok {p q r s : Int} (h : Gd 4 p q r s) : ChOk ((p * s - q * r) * s) (-(p * s - q * r) * q) (-(p * s - q * r) * r) ((p * s - q * r) * p) := by
  obtain ⟨h1, h2, h3, h4⟩ := h.b (Nat.le_refl _)
  have e := e_B h.2.2.2.2
  refine ⟨short_B ((B.mul e h4).mono (by decide)), short_B ((B.mul e.neg h2).mono (by decide)), short_B ((B.mul e.neg h3).mono (by decide)), short_B ((B.mul e h1).mono (by decide)), ?_⟩
  rcases h.2.2.2.2 with f | f
  · left
    rw [f]
    grind
  · right
    rw [f]
    grind
theorem Ex0.q4 {H H' : Hp} {a : Addr} {p q r s : Int} (e : Ex0 H H') (h : T4 H a p q r s) : T4 H' a p q r s := h.ex fun _ _ z => Ex0.ap e z
theorem t4_fv {c : Addr} {H H' : Hp} {a : Addr} {p q r s : Int} (hc : Vat c H) (f : Fv c H H') (h : T4 H a p q r s) : T4 H' a p q r s := h.ex fun _ _ z => fv_tup hc f z
theorem fo_fv {C c : Addr} {H H' : Hp} {x : Addr} {ns : List Int} (hc : Vat c H) (f : Fv c H H') (h : FormAt C H x ns) : FormAt C H' x ns := by
  obtain ⟨dx, t, h1, h2⟩ := h
  refine ⟨dx, t, f.2 x _ (fun e => ?_) h1, fv_tup hc f h2⟩
  obtain ⟨u, v, z, q⟩ := hc
  unfold Sv at e
  rw [e, q] at h1
  cases h1
theorem tpart0 (e p q r s : Int) : partN 3 e p q r s 0 2 = prodL (prodL [e] [p, r]) [p, r] := rfl
theorem tpart1 (e p q r s : Int) : partN 3 e p q r s 1 2 = prodL (prodL [e] [p, r]) [q, s] := rfl
theorem tpart2 (e p q r s : Int) : partN 3 e p q r s 2 2 = prodL (prodL [e] [q, s]) [q, s] := rfl
theorem put_3 (a b c p q r s : Int) : putN [a, b, c] p q r s 3 = List.zipWith (· + ·) (List.zipWith (· + ·) (List.zipWith (· + ·) [0, 0, 0] (partN 3 a p q r s 0 2)) (partN 3 b p q r s 1 2)) (partN 3 c p q r s 2 2) := rfl
def dled (a b c p q r s : Int) : List Int := [dv a b c p q, dl a b c p q r s, dv a b c r s]
theorem put_dled (a b c p q r s : Int) : putN [a, b, c] p q r s 3 = dled a b c p q r s := by
  rw [put_3, tpart0, tpart1, tpart2]
  simp only [pl1, pl2, List.zipWith_cons_cons, List.zipWith_nil_left]
  unfold dled dv K06M.dl
  simp only [List.cons.injEq, and_true]
  refine ⟨?_, ?_, ?_⟩ <;> grind
theorem dput1 (a b c p q r s i j : Int) : dv (dv a b c p q) (dl a b c p q r s) (dv a b c r s) i j = dv a b c (i * p + j * r) (i * q + j * s) := by
  unfold dv K06M.dl
  grind
theorem dput2 (a b c p q r s i j k m : Int) : dl (dv a b c p q) (dl a b c p q r s) (dv a b c r s) i j k m = dl a b c (i * p + j * r) (i * q + j * s) (k * p + m * r) (k * q + m * s) := by
  unfold dv K06M.dl
  grind
theorem dcomp (a b c p q r s i j k m : Int) : dled (dv a b c p q) (dl a b c p q r s) (dv a b c r s) i j k m = dled a b c (i * p + j * r) (i * q + j * s) (k * p + m * r) (k * q + m * s) := by
  unfold dled
  rw [dput1, dput1, dput2]
theorem done_ (a b c : Int) : dled a b c 1 0 0 1 = [a, b, c] := by
  unfold dled dv K06M.dl
  simp
theorem dback (a b c p q r s : Int) (h : p * s - q * r = 1 ∨ p * s - q * r = -1) : dled (dv a b c p q) (dl a b c p q r s) (dv a b c r s) ((p * s - q * r) * s) (-(p * s - q * r) * q) (-(p * s - q * r) * r) ((p * s - q * r) * p) = [a, b, c] := by
  obtain ⟨u1, u2, u3, u4⟩ := K05M.und p q r s _ rfl h
  rw [dcomp, u1, u2, u3, u4]
  exact done_ a b c
theorem ddisc_led (a b c p q r s : Int) : ddisc (dv a b c p q) (dl a b c p q r s) (dv a b c r s) = (p * s - q * r) * (p * s - q * r) * ddisc a b c := by
  unfold ddisc dv K06M.dl
  grind
theorem ddisc_led1 (a b c p q r s : Int) (h : p * s - q * r = 1 ∨ p * s - q * r = -1) : ddisc (dv a b c p q) (dl a b c p q r s) (dv a b c r s) = ddisc a b c := by
  rw [ddisc_led]
  rcases h with h | h <;> rw [h] <;> simp
theorem ddvd_led {g a b c : Int} (p q r s : Int) (ha : g ∣ a) (hb : g ∣ b) (hc : g ∣ c) : ∀ n ∈ dled a b c p q r s, g ∣ n := by
  obtain ⟨a, rfl⟩ := ha
  obtain ⟨b, rfl⟩ := hb
  obtain ⟨c, rfl⟩ := hc
  intro n hn
  unfold dled dv K06M.dl at hn
  simp only [List.mem_cons, List.mem_nil_iff, or_false] at hn
  rcases hn with rfl | rfl | rfl
  · exact ⟨a * p * p + b * p * q + c * q * q, by grind⟩
  · exact ⟨2 * a * p * r + b * (p * s + q * r) + 2 * c * q * s, by grind⟩
  · exact ⟨a * r * r + b * r * s + c * s * s, by grind⟩
theorem dgcd_dvd (a b c p q r s : Int) : gcdL [a, b, c] ∣ gcdL (dled a b c p q r s) := by
  have h := (gcdL_dvd (g := gcdL [a, b, c]) (ns := [a, b, c])).mp (Nat.dvd_refl _)
  exact gcdL_dvd.mpr (ddvd_led p q r s (h a (by simp)) (h b (by simp)) (h c (by simp)))
theorem dgcd_led (a b c p q r s : Int) (h : p * s - q * r = 1 ∨ p * s - q * r = -1) : gcdL (dled a b c p q r s) = gcdL [a, b, c] := by
  refine Nat.dvd_antisymm ?_ (dgcd_dvd a b c p q r s)
  have := dgcd_dvd (dv a b c p q) (dl a b c p q r s) (dv a b c r s) ((p * s - q * r) * s) (-(p * s - q * r) * q) (-(p * s - q * r) * r) ((p * s - q * r) * p)
  rw [dback a b c p q r s h] at this
  exact this
theorem dval_3 (a b c x y : Int) : (valN [a, b, c] x y 3).1 = dv a b c x y := by
  show ((0 * x + a * 1) * x + b * (1 * y)) * x + c * (1 * y * y) = _
  unfold dv
  grind
theorem dval_led (a b c p q r s x y : Int) : dv (dv a b c p q) (dl a b c p q r s) (dv a b c r s) x y = dv a b c (p * x + r * y) (q * x + s * y) := by
  rw [dput1, Int.mul_comm x p, Int.mul_comm y r, Int.mul_comm x q, Int.mul_comm y s]
theorem dled_B {a b c p q r s : Int} (ha : B 84 a) (hb : B 84 b) (hc : B 84 c) (hp : B 81 p) (hq : B 81 q) (hr : B 81 r) (hs : B 81 s) : ∀ n ∈ dled a b c p q r s, B 1000 n := by
  have b2 : B 2 2 := ⟨by decide, by decide⟩
  have f1 : B 998 (dv a b c p q) := (dv_B ha hb hc hp hq).mono (by decide)
  have f3 : B 998 (dv a b c r s) := (dv_B ha hb hc hr hs).mono (by decide)
  have f2 : B 998 (dl a b c p q r s) := (B.plus (B.plus (n := 900) ((B.mul (B.mul (B.mul b2 ha) hp) hr).mono (by decide)) ((B.mul hb (B.plus (B.mul hp hs) (B.mul hq hr))).mono (by decide))) ((B.mul (B.mul (B.mul b2 hc) hq) hs).mono (by decide))).mono (by decide)
  intro n hn
  unfold dled at hn
  simp only [List.mem_cons, List.mem_nil_iff, or_false] at hn
  rcases hn with rfl | rfl | rfl
  · exact f1.mono (by decide)
  · exact f2.mono (by decide)
  · exact f3.mono (by decide)
end TF
namespace TF
open PySem PySem.Spec PyProof.Rows L2 Fr
open K05M (fv fl2 fl3 fdisc)
open K06M
theorem shaped_lints (ns : List Int) : SeqAt.shaped (.list (ns.map .int)) = true := by
  have h : PyData.canLayAll0 (ns.map .int) = true ∧ PyData.depthAll (ns.map .int) ≤ 1 := by
    induction ns with
    | nil => exact ⟨rfl, by simp [PyData.depthAll]⟩
    | cons n r ih =>
      refine ⟨?_, ?_⟩
      · rw [List.map_cons]
        simp [PyData.canLayAll0, PyData.canLay0, ih.1]
      · rw [List.map_cons]
        simp only [PyData.depthAll, PyData.depth]
        omega
  have h2 : PyData.depthAll (ns.map .int) = 0 := by
    clear h
    induction ns with
    | nil => rfl
    | cons n r ih => rw [List.map_cons]; simp only [PyData.depthAll, PyData.depth]; omega
  simp [SeqAt.shaped, PyData.canLay0, PyData.depth, h.1, h2]
abbrev dg (n : Int) : Str := Str.ofString (toString n)
theorem dg_len {n : Int} (h : n.natAbs ≤ 10000000000000000000000000) : n.natAbs.log2 < 1920 ∧ (dg n).length ≤ 1921 := by
  have l : n.natAbs.log2 < 1920 := by
    by_cases z : n.natAbs = 0
    · rw [z]; simp [Nat.log2_zero]
    · exact (Nat.log2_lt z).mpr (Nat.lt_of_le_of_lt h (by decide))
  exact ⟨l, int_text_len_1921 l⟩
theorem shown3 (a b c : Int) : (PyData.tuple ([a, b, c].map .int)).shown = (("(" : Str) ++ Str.join ", " ([a, b, c].map dg)) ++ (")" : Str) := rfl
theorem text_B {ns : List Int} (hn : ∀ n ∈ ns, n.natAbs ≤ 10000000000000000000000000) (hl : ns.length ≤ 8) : ((ns.map dg).map (·.length)).sum ≤ ns.length * 1921 := by
  clear hl
  induction ns with
  | nil => exact Nat.le_refl _
  | cons n l ih =>
    have h1 := (dg_len (hn n (by simp))).2
    have h2 := ih fun z hz => hn z (List.mem_cons_of_mem _ hz)
    simp only [List.map_cons, List.sum_cons, List.length_cons]
    omega
theorem join3_B {a b c : Int} (hn : ∀ n ∈ [a, b, c], n.natAbs ≤ 10000000000000000000000000) : (Str.join ", " ([a, b, c].map dg)).length ≤ 6000 := by
  have h := join_length_add ([a, b, c].map dg) (by simp)
  have h1 := (dg_len (hn a (by simp))).2
  have h2 := (dg_len (hn b (by simp))).2
  have h3 := (dg_len (hn c (by simp))).2
  have e : piled ([a, b, c].map dg) = (dg a).length + 2 + ((dg b).length + 2 + ((dg c).length + 2 + 0)) := by
    simp [piled, List.map]
    try omega
  omega
def spR (_ : PySem.W.Frag) (_ _ : Addr) : Sp := fun vs H Q _ => ∃ c : Addr, vs = [.ref c] ∧ Vat c H ∧ ∀ H', Fv c H H' → Q (.bl true) H'
abbrev sp_l_right := spR
section
variable {P : Program} {w : World} {K : PySem.W.Frag} {mg : Str → Option Value} {base : Heap} {C_Form C_Double : Addr}
theorem ok_l_right (T : Txt K mg C_Form C_Double) : Gd.DefG P w K mg base 10 "_law_right" ["_law_cask_here"] (sp_l_right K C_Form C_Double) := by
  obtain ⟨f_, fd_, g_, F_⟩ := T.d_l_right
  obtain ⟨p_Double___call__, f_Double___call__, fd_Double___call__, R_Double___call__, b_Double___call__, G_Double___call__⟩ := (ok_Double___call__ (P := P) (w := w) (base := base) T)
  obtain ⟨p_Double___eq__, f_Double___eq__, fd_Double___eq__, R_Double___eq__, b_Double___eq__, G_Double___eq__⟩ := (ok_Double___eq__ (P := P) (w := w) (base := base) T)
  obtain ⟨p_Double___init__, f_Double___init__, fd_Double___init__, R_Double___init__, b_Double___init__, G_Double___init__⟩ := (ok_Double___init__ (P := P) (w := w) (base := base) T)
  obtain ⟨p_Double___neg__, f_Double___neg__, fd_Double___neg__, R_Double___neg__, b_Double___neg__, G_Double___neg__⟩ := (ok_Double___neg__ (P := P) (w := w) (base := base) T)
  obtain ⟨p_Double___str__, f_Double___str__, fd_Double___str__, R_Double___str__, b_Double___str__, G_Double___str__⟩ := (ok_Double___str__ (P := P) (w := w) (base := base) T)
  obtain ⟨p_Double_coefficients, f_Double_coefficients, fd_Double_coefficients, R_Double_coefficients, b_Double_coefficients, G_Double_coefficients⟩ := (ok_Double_coefficients (P := P) (w := w) (base := base) T)
  obtain ⟨p_Double_content, f_Double_content, fd_Double_content, R_Double_content, b_Double_content, G_Double_content⟩ := (ok_Double_content (P := P) (w := w) (base := base) T)
  obtain ⟨p_Double_discriminant, f_Double_discriminant, fd_Double_discriminant, R_Double_discriminant, b_Double_discriminant, G_Double_discriminant⟩ := (ok_Double_discriminant (P := P) (w := w) (base := base) T)
  obtain ⟨p_Double_led, f_Double_led, fd_Double_led, R_Double_led, b_Double_led, G_Double_led⟩ := (ok_Double_led (P := P) (w := w) (base := base) T)
  obtain ⟨p_Form___init__, f_Form___init__, fd_Form___init__, R_Form___init__, b_Form___init__, G_Form___init__⟩ := (ok_Form___init__ (P := P) (w := w) (base := base) T)
  obtain ⟨f_l_change, fd_l_change, g_l_change, k_l_change, b_l_change, G_l_change⟩ := (ok_l_change (P := P) (w := w) (base := base) T)
  obtain ⟨f_l_common, fd_l_common, g_l_common, k_l_common, b_l_common, G_l_common⟩ := (ok_l_common (P := P) (w := w) (base := base) T)
  obtain ⟨f_l_entry, fd_l_entry, g_l_entry, k_l_entry, b_l_entry, G_l_entry⟩ := (ok_l_entry (P := P) (w := w) (base := base) T)
  obtain ⟨f_l_many, fd_l_many, g_l_many, k_l_many, b_l_many, G_l_many⟩ := (ok_l_many (P := P) (w := w) (base := base) T)
  obtain ⟨f_l_numbers, fd_l_numbers, g_l_numbers, k_l_numbers, b_l_numbers, G_l_numbers⟩ := (ok_l_numbers (P := P) (w := w) (base := base) T)
  obtain ⟨f_l_one, fd_l_one, g_l_one, k_l_one, b_l_one, G_l_one⟩ := (ok_l_one (P := P) (w := w) (base := base) T)
  obtain ⟨f_l_put, fd_l_put, g_l_put, k_l_put, b_l_put, G_l_put⟩ := (ok_l_put (P := P) (w := w) (base := base) T)
  obtain ⟨f_l_tap, fd_l_tap, g_l_tap, k_l_tap, b_l_tap, G_l_tap⟩ := (ok_l_tap (P := P) (w := w) (base := base) T)
  obtain ⟨f_l_value, fd_l_value, g_l_value, k_l_value, b_l_value, G_l_value⟩ := (ok_l_value (P := P) (w := w) (base := base) T)
  obtain ⟨f_joined, fd_joined, g_joined, k_joined, b_joined, G_joined⟩ := (ok_joined (P := P) (w := w) (base := base) T)
  obtain ⟨f_undone, fd_undone, g_undone, k_undone, b_undone, G_undone⟩ := (ok_undone (P := P) (w := w) (base := base) T)
  refine ⟨f_, fd_, g_, F_.kp, F_.binds (ps := ["_law_cask_here"]) (fun _ _ _ _ _ _ us hl => match us, hl with | [_], _ => rfl), ?_⟩
  refine Gd.okG F_ sc_l_right (fun vs H Q E h => ?_) (fun cdv A outer s H vs Q E hG hr h => ?_)
  · first | (obtain ⟨rfl, _⟩ := h; rfl) | (obtain ⟨_, rfl, _⟩ := h; rfl) | (obtain ⟨_, _, rfl, _⟩ := h; rfl) | (obtain ⟨_, _, _, rfl, _⟩ := h; rfl) | (obtain ⟨_, _, _, _, rfl, _⟩ := h; rfl) | (obtain ⟨_, _, _, _, _, rfl, _⟩ := h; rfl) | (obtain ⟨_, _, _, _, _, _, rfl, _⟩ := h; rfl) | (obtain ⟨_, _, _, _, _, _, _, rfl, _⟩ := h; rfl) | (obtain ⟨_, _, _, _, _, _, _, _, rfl, _⟩ := h; rfl) | (obtain ⟨_, _, _, _, _, _, _, _, _, rfl, _⟩ := h; rfl) | (obtain ⟨_, _, _, _, _, _, _, _, _, _, rfl, _⟩ := h; rfl) | (obtain ⟨_, _, _, _, _, _, _, _, _, _, _, rfl, _⟩ := h; rfl) | (obtain ⟨_, _, _, _, _, _, _, _, _, _, _, _, rfl, _⟩ := h; rfl) | (obtain ⟨_, _, _, _, _, _, _, _, _, _, _, _, _, rfl, _⟩ := h; rfl) | (obtain ⟨_, _, _, _, _, _, _, _, _, _, _, _, _, _, rfl, _⟩ := h; rfl) | (obtain ⟨_, _, _, _, _, _, _, _, _, _, _, _, _, _, _, rfl, _⟩ := h; rfl) | (obtain ⟨_, _, _, _, _, _, _, _, _, _, _, _, _, _, _, _, rfl, _⟩ := h; rfl) | (obtain ⟨_, _, _, _, _, _, _, _, _, _, _, _, _, _, _, _, _, rfl, _⟩ := h; rfl) | (obtain ⟨_, _, _, _, _, _, _, _, _, _, _, _, _, _, _, _, _, _, rfl, _⟩ := h; rfl) | (obtain ⟨_, _, _, _, _, _, _, _, _, _, _, _, _, _, _, _, _, _, _, rfl, _⟩ := h; rfl) | (obtain ⟨_, _, _, _, _, _, _, _, _, _, _, _, _, _, _, _, _, _, _, _, rfl, _⟩ := h; rfl) | (obtain ⟨_, _, _, _, _, _, _, _, _, _, _, _, _, _, _, _, _, _, _, _, _, rfl, _⟩ := h; rfl) | (obtain ⟨_, _, _, _, _, _, _, _, _, _, _, _, _, _, _, _, _, _, _, _, _, _, rfl, _⟩ := h; rfl) | (obtain ⟨_, _, _, _, _, _, _, _, _, _, _, _, _, _, _, _, _, _, _, _, _, _, _, rfl, _⟩ := h; rfl)
  · obtain ⟨c, rfl, hc, q⟩ := h
    refine ⟨_, (Evl.pss_cut (ps_par3 (i := 1) (j := 2) (l := 3) (by rfl) sc_l_right.nd rfl rfl rfl (by decide) (by decide) (by decide) rfl rfl rfl (pa_cons (pe_call G_l_numbers (hr.mono (by decide)) (by rfl) g_l_numbers k_l_numbers b_l_numbers .nil pass0 (pa_cons (pv 0) (pa_cons pe_int pa_nil))) (pa_cons (pe_call G_l_change (hr.mono (by decide)) (by rfl) g_l_change k_l_change b_l_change .nil pass0 (pa_cons (pv 0) (pa_cons pe_int pa_nil))) (pa_cons (pe_call G_l_change (hr.mono (by decide)) (by rfl) g_l_change k_l_change b_l_change .nil pass0 (pa_cons (pv 0) (pa_cons pe_int pa_nil))) pa_nil))) (by rfl))
    (Evl.pss_cut (ps_asg (pe_tup (pa_cons (pe_make R_Double___init__ G_Double___init__ (hr.mono (by decide)) (by rfl) T.g_Double b_Double___init__ .nil pass0 (pa_cons (pv 1) pa_nil)) (pa_cons (pe_ix ix_tup (pv 2) pe_int (fun _ _ => rfl)) (pa_cons (pe_ix ix_tup (pv 2) pe_int (fun _ _ => rfl)) pa_nil)))) (pg_tup (by rfl) (pgs_cons (pg_name (i := 4) sc_l_right.nd rfl (.inl rfl)) (pgs_cons (pg_tup (by rfl) (pgs_cons (pg_name (i := 5) sc_l_right.nd rfl (.inl rfl)) (pgs_cons (pg_name (i := 6) sc_l_right.nd rfl (.inl rfl)) pgs_nil))) (pgs_cons (pg_tup (by rfl) (pgs_cons (pg_name (i := 7) sc_l_right.nd rfl (.inl rfl)) (pgs_cons (pg_name (i := 8) sc_l_right.nd rfl (.inl rfl)) pgs_nil))) pgs_nil)))))
    (Evl.pss_cut (ps_set (i := 9) sc_l_right.nd rfl (.inl rfl) (pe_meth (pv 4) T.cl_Double R_Double_led G_Double_led (hr.mono (by decide)) b_Double_led .nil pass0 (pa_cons (pv 2) pa_nil)))
    (Evl.pss_cut (ps_if (PW.pt (pw_or (pt_cmpR (op_neD hr.units) (pe_prop (pv 4) T.cl_Double R_Double_coefficients G_Double_coefficients (hr.mono (by decide)) b_Double_coefficients .nil pass0 (by rfl)) (pv 1) (nomark _)) (pw_or1 (pt_cmpR (op_neD hr.units) (pe_prop (pv 9) T.cl_Double R_Double_coefficients G_Double_coefficients (hr.mono (by decide)) b_Double_coefficients .nil pass0 (by rfl)) (pe_call G_l_put (hr.mono (by decide)) (by rfl) g_l_put k_l_put b_l_put .nil pass0 (pa_cons (pv 1) (pa_cons (pv 2) pa_nil))) (nomark _)))))
      (pss_one (ps_ret pe_bl))
      pss_nil)
    (Evl.pss_cut (ps_if (PW.pt (pw_or (pt_cmpR op_ne (pe_prop (pv 9) T.cl_Double R_Double_discriminant G_Double_discriminant (hr.mono (by decide)) b_Double_discriminant .nil pass0 (by rfl)) (pe_op op_sub (pe_op op_mulW (pe_ix ix_tup (pv 1) pe_int (fun _ _ => rfl)) (pe_ix ix_tup (pv 1) pe_int (fun _ _ => rfl))) (pe_op op_mulW (pe_op op_mulW pe_int (pe_ix ix_tup (pv 1) pe_int (fun _ _ => rfl))) (pe_ix ix_tup (pv 1) pe_int (fun _ _ => rfl)))) (nomark _)) (pw_or1 (pt_cmpR op_ne (pe_prop (pv 9) T.cl_Double R_Double_content G_Double_content (hr.mono (by decide)) b_Double_content .nil pass0 (by rfl)) (pe_call G_l_common (hr.mono (by decide)) (by rfl) g_l_common k_l_common b_l_common .nil pass0 (pa_cons (pv 1) pa_nil)) (nomark _)))))
      (pss_one (ps_ret pe_bl))
      pss_nil)
    (Evl.pss_cut (ps_if (pt_cmpR (op_neD hr.units) (pe_lst (pa_cons (pe_prop (pv 4) T.cl_Double R_Double_discriminant G_Double_discriminant (hr.mono (by decide)) b_Double_discriminant .nil pass0 (by rfl)) (pa_cons (pe_prop (pv 4) T.cl_Double R_Double_content G_Double_content (hr.mono (by decide)) b_Double_content .nil pass0 (by rfl)) pa_nil))) (pe_lst (pa_cons (pe_prop (pv 9) T.cl_Double R_Double_discriminant G_Double_discriminant (hr.mono (by decide)) b_Double_discriminant .nil pass0 (by rfl)) (pa_cons (pe_prop (pv 9) T.cl_Double R_Double_content G_Double_content (hr.mono (by decide)) b_Double_content .nil pass0 (by rfl)) pa_nil))) (nomark _))
      (pss_one (ps_ret pe_bl))
      pss_nil)
    (Evl.pss_cut (ps_if (PW.pt (pw_or (pt_cmpR (op_neI R_Double___eq__ G_Double___eq__ b_Double___eq__ (hr.mono (by decide)) pass0) (pe_meth (pv 9) T.cl_Double R_Double_led G_Double_led (hr.mono (by decide)) b_Double_led .nil pass0 (pa_cons (pv 3) pa_nil)) (pe_meth (pv 4) T.cl_Double R_Double_led G_Double_led (hr.mono (by decide)) b_Double_led .nil pass0 (pa_cons (pe_call G_joined (hr.mono (by decide)) (by rfl) g_joined k_joined b_joined .nil pass0 (pa_cons (pv 2) (pa_cons (pv 3) pa_nil))) pa_nil)) (nomark _)) (pw_or1 (pt_cmpR (op_neI R_Double___eq__ G_Double___eq__ b_Double___eq__ (hr.mono (by decide)) pass0) (pe_meth (pv 9) T.cl_Double R_Double_led G_Double_led (hr.mono (by decide)) b_Double_led .nil pass0 (pa_cons (pe_call G_undone (hr.mono (by decide)) (by rfl) g_undone k_undone b_undone .nil pass0 (pa_cons (pv 2) pa_nil)) pa_nil)) (pv 4) (nomark _)))))
      (pss_one (ps_ret pe_bl))
      pss_nil)
    (Evl.pss_cut (ps_par (i := 10) (j := 11) (by rfl) sc_l_right.nd rfl rfl (by decide) rfl rfl (pa_cons (pe_call G_l_entry (hr.mono (by decide)) (by rfl) g_l_entry k_l_entry b_l_entry .nil pass0 (pa_cons (pv 0) pa_nil)) (pa_cons (pe_call G_l_entry (hr.mono (by decide)) (by rfl) g_l_entry k_l_entry b_l_entry .nil pass0 (pa_cons (pv 0) pa_nil)) pa_nil)) (by rfl))
    (Evl.pss_cut (ps_if (PW.pt (pw_or (pt_cmpR op_ne (StX.pe_callO (pv 4) R_Double___call__ (G_Double___call__.raw b_Double___call__ .nil) (hr.mono (by decide)) pass0 (pa_cons (pv 10) (pa_cons (pv 11) pa_nil))) (pe_call G_l_value (hr.mono (by decide)) (by rfl) g_l_value k_l_value b_l_value .nil pass0 (pa_cons (pv 1) (pa_cons (pv 10) (pa_cons (pv 11) pa_nil)))) (nomark _)) (pw_or1 (pt_cmpR op_ne (StX.pe_callO (pv 9) R_Double___call__ (G_Double___call__.raw b_Double___call__ .nil) (hr.mono (by decide)) pass0 (pa_cons (pv 10) (pa_cons (pv 11) pa_nil))) (StX.pe_callO (pv 4) R_Double___call__ (G_Double___call__.raw b_Double___call__ .nil) (hr.mono (by decide)) pass0 (pa_cons (pe_op op_add (pe_op op_mulW (pv 5) (pv 10)) (pe_op op_mulW (pv 7) (pv 11))) (pa_cons (pe_op op_add (pe_op op_mulW (pv 6) (pv 10)) (pe_op op_mulW (pv 8) (pv 11))) pa_nil))) (nomark _)))))
      (pss_one (ps_ret pe_bl))
      pss_nil)
    (Evl.pss_cut (ps_set (i := 12) sc_l_right.nd rfl (.inl rfl) (pe_op op_add_str (pe_op op_add_str pe_str (pe_join pe_str (pe_lc (own := [("_law_entry_here", 15)]) (g := (gName 15)) rfl sc_l_right.nd (pi_tup (pv 1)) (blkOk_by (N := N_l_right) (sc := defScope s_l_right) (by decide +kernel)) (fun _ _ _ _ _ => (pg_name (i := 15) sc_l_right.nd rfl (.inl rfl))) (fun _ _ _ _ _ => pts_nil) (fun _ _ _ _ _ => (pe_callTy call_str_int (by rfl) T.b_str (by decide +kernel) (pa_cons (pv 15) pa_nil)))))) pe_str))
    (Evl.pss_cut (ps_if (PW.pt (pw_or (pt_cmpR op_ne (pe_callTy (Gd.call_strI R_Double___str__ G_Double___str__ b_Double___str__ hG (hr.mono (by decide))) (by rfl) T.b_str (by decide +kernel) (pa_cons (pv 4) pa_nil)) (pv 12) (nomark _)) (pw_or (pt_cmpR (op_neD hr.units) (pe_prop (pe_un (un_negI R_Double___neg__ G_Double___neg__ b_Double___neg__ (hr.mono (by decide)) pass0) (pv 4)) T.cl_Double R_Double_coefficients G_Double_coefficients (hr.mono (by decide)) b_Double_coefficients .nil pass0 (by rfl)) (pe_call G_l_many (hr.mono (by decide)) (by rfl) g_l_many k_l_many b_l_many .nil pass0 (pa_cons (pe_un un_neg pe_int) (pa_cons (pv 1) pa_nil))) (nomark _)) (pw_or1 (pt_cmpR (op_neI R_Double___eq__ G_Double___eq__ b_Double___eq__ (hr.mono (by decide)) pass0) (pe_un (un_negI R_Double___neg__ G_Double___neg__ b_Double___neg__ (hr.mono (by decide)) pass0) (pe_un (un_negI R_Double___neg__ G_Double___neg__ b_Double___neg__ (hr.mono (by decide)) pass0) (pv 4))) (pv 4) (nomark _))))))
      (pss_one (ps_ret pe_bl))
      pss_nil)
    (Evl.pss_cut (ps_par (i := 13) (j := 14) (by rfl) sc_l_right.nd rfl rfl (by decide) rfl rfl (pa_cons (pe_call G_l_tap (hr.mono (by decide)) (by rfl) g_l_tap k_l_tap b_l_tap .nil pass0 (pa_cons (pv 0) (pa_cons pe_int pa_nil))) (pa_cons (pe_callTy call_list_of (by rfl) T.b_list (by decide +kernel) (pa_cons (pv 1) pa_nil)) pa_nil)) (by rfl))
    (Evl.pss_cut (ps_asg (pe_op op_add (pe_ix ix_list (pv 14) (pv 13) (fun _ _ => rfl)) (pe_call G_l_one (hr.mono (by decide)) (by rfl) g_l_one k_l_one b_l_one .nil pass0 (pa_cons (pv 0) (pa_cons (pe_lst (pa_cons pe_int (pa_cons (pe_un un_neg pe_int) (pa_cons (pe_op op_pow pe_int pe_int) pa_nil)))) pa_nil)))) (pg_sub (pv 14) (pv 13) set_list))
    (pss_cons (ps_if (PW.pt (pw_or (pt_cmpR (op_neI R_Double___eq__ G_Double___eq__ b_Double___eq__ (hr.mono (by decide)) pass0) (pv 4) (pe_make R_Double___init__ G_Double___init__ (hr.mono (by decide)) (by rfl) T.g_Double b_Double___init__ .nil pass0 (pa_cons (pv 1) pa_nil)) (nomark _)) (pw_or (pt_cmpR (op_eqI R_Double___eq__ G_Double___eq__ b_Double___eq__ (hr.mono (by decide)) pass0) (pv 4) (pe_make R_Double___init__ G_Double___init__ (hr.mono (by decide)) (by rfl) T.g_Double b_Double___init__ .nil pass0 (pa_cons (pe_callTy call_tuple_of (by rfl) T.b_tuple (by decide +kernel) (pa_cons (pv 14) pa_nil)) pa_nil)) (nomark _)) (pw_or (pt_cmpR (op_eqI R_Double___eq__ G_Double___eq__ b_Double___eq__ (hr.mono (by decide)) pass0) (pv 4) (pv 1) (nomark _)) (pw_or1 (pt_cmpR (op_eqI R_Double___eq__ G_Double___eq__ b_Double___eq__ (hr.mono (by decide)) pass0) (pv 4) (pe_make R_Form___init__ G_Form___init__ (hr.mono (by decide)) (by rfl) T.g_Form b_Form___init__ .nil pass0 (pa_cons (pe_op op_catT (pe_tup (pa_cons pe_int pa_nil)) (pv 1)) pa_nil)) (nomark _)))))))
      (pss_one (ps_ret pe_bl))
      pss_nil)
    (pss_one (ps_ret (pe_cmpR op_eq (pe_cmpR (op_eqI R_Double___eq__ G_Double___eq__ b_Double___eq__ (hr.mono (by decide)) pass0) (pv 4) (pe_un (un_negI R_Double___neg__ G_Double___neg__ b_Double___neg__ (hr.mono (by decide)) pass0) (pv 4)) (nomark _)) (pe_cmpR (op_eqD hr.units) (pv 1) (pe_tup (pa_cons pe_int (pa_cons pe_int (pa_cons pe_int pa_nil)))) (nomark _)) (nomark _)))))))))))))))))), ?_⟩
    refine ⟨fun σ H' => ∃ (t a b : Addr) (A1 A2 A3 p q' r s' i j k m : Int), σ = [some (.ref c), some (.ref t), some (.ref a), some (.ref b), none, none, none, none, none, none, none, none, none, none, none, none] ∧ Fv c H H' ∧ Ti H' t [A1, A2, A3] ∧ (∀ n ∈ [A1, A2, A3], n.natAbs ≤ 10000000000000000000000000) ∧ T4 H' a p q' r s' ∧ Gd 4 p q' r s' ∧ T4 H' b i j k m ∧ Gd 4 i j k m, ?_, ?_⟩
    · refine ⟨_, rfl, c, 3, rfl, hc, by decide, fun t ns H1 e1 h1 hl hn => ?_⟩
      refine ⟨_, rfl, c, 4, rfl, e1.1, by decide, fun a p q' r s' H2 e2 h2 g2 => ?_⟩
      refine ⟨_, rfl, c, 4, rfl, e2.1, by decide, fun b i j k m H3 e3 h3 g3 => ?_⟩
      refine ⟨_, _, _, rfl, ?_⟩
      obtain ⟨A1, A2, A3, rfl⟩ : ∃ A1 A2 A3, ns = [A1, A2, A3] := by
        match ns, hl with
        | [x, y, z], _ => exact ⟨x, y, z, rfl⟩
      exact ⟨t, a, b, A1, A2, A3, p, q', r, s', i, j, k, m, rfl, (e1.trans e2).trans e3, fv_tup e1.1 (e2.trans e3) h1, hn, t4_fv e2.1 e3 h2, g2, h3, g3⟩
    rintro σ H1 ⟨t, a, b, A1, A2, A3, p, q', r, s', i, j, k, m, rfl, e1, ht, hn, ha, ga, hb, gb⟩
    have sn : ∀ n ∈ [A1, A2, A3], Short n := fun n h => by have := hn n h; exact ⟨by omega, by omega⟩
    have bn : ∀ n ∈ [A1, A2, A3], B 84 n := fun n h => ⟨Nat.lt_of_le_of_lt (hn n h) (by decide), by decide⟩
    have b1 := bn A1 (by simp)
    have b2 := bn A2 (by simp)
    have b3 := bn A3 (by simp)
    have b4 : B 3 4 := ⟨by decide, by decide⟩
    obtain ⟨bp, bq, br, bs⟩ := ga.b (Nat.le_refl _)
    have det := ga.2.2.2.2
    refine ⟨fun σ H' => ∃ x : Addr, σ = [some (.ref c), some (.ref t), some (.ref a), some (.ref b), some (.ref x), some (.int p), some (.int q'), some (.int r), some (.int s'), none, none, none, none, none, none, none] ∧ Ex0 H1 H' ∧ FormAt C_Double H' x [A1, A2, A3], ?_, ?_⟩
    · refine ⟨_, rfl, fun x dx nx ndx _ => ?_⟩
      refine ⟨x, dx, t, [A1, A2, A3], rfl, upd_same, made_at nx ndx ht, rfl, sn, fun H2 e2 h2 => ⟨rfl, ?_⟩⟩
      obtain ⟨e3, hx⟩ := fo_made nx ndx ht e2 h2
      obtain ⟨t1, t2, g0, g1, g2⟩ := Ex0.q4 e3 ha
      have z0 : SqT K H2 a [V.ref t1, V.ref t2] := SqT.of g0
      refine ⟨_, rfl, a, _, 0, .ref t1, rfl, rfl, z0, rfl, _, rfl, a, _, 1, .ref t2, rfl, rfl, z0, rfl, sl3, fun u nu => ?_⟩
      have e4 : Ex0 H2 (upd H2 u (.tup [.ref x, .ref t1, .ref t2])) := Ex0.new nu
      refine ⟨u, _, rfl, SqT.of upd_same, rfl, _, _, rfl, _, _, rfl, ?_⟩
      refine ⟨t1, _, rfl, SqT.of (Ex0.ap e4 g1), rfl, _, _, rfl, ?_⟩
      refine ⟨_, _, rfl, ⟨rfl, ?_⟩⟩
      refine ⟨_, _, rfl, ?_⟩
      refine ⟨t2, _, rfl, SqT.of (Ex0.ap e4 g2), rfl, _, _, rfl, ?_⟩
      refine ⟨_, _, rfl, ⟨rfl, ⟨rfl, ?_⟩⟩⟩
      exact ⟨x, rfl, e3.trans e4, Ex0.fo e4 hx⟩
    rintro σ H2 ⟨x, rfl, e2, hx⟩
    refine ⟨fun σ H' => ∃ y : Addr, σ = [some (.ref c), some (.ref t), some (.ref a), some (.ref b), some (.ref x), some (.int p), some (.int q'), some (.int r), some (.int s'), some (.ref y), none, none, none, none, none, none] ∧ Ex0 H2 H' ∧ FormAt C_Double H' y (dled A1 A2 A3 p q' r s'), ?_, ?_⟩
    · obtain ⟨dx, tt, h1, h2⟩ := id hx
      refine ⟨_, rfl, x, dx, _, rfl, h1, rfl, _, rfl, x, a, A1, A2, A3, p, q', r, s', rfl, hx, Ex0.q4 e2 ha, b1.mono (by decide), b2.mono (by decide), b3.mono (by decide), ga.ok, fun y H3 e3 h3 => ?_⟩
      exact ⟨y, rfl, e3, h3⟩
    rintro σ H3 ⟨y, rfl, e3, hy⟩
    have lb := dled_B b1 b2 b3 bp bq br bs
    unfold dled at hy lb
    have e23 := e2.trans e3
    have ht3 := Ex0.ti e23 ht
    have ha3 := Ex0.q4 e23 ha
    have hb3 := Ex0.q4 e23 hb
    have hx3 := Ex0.fo e3 hx
    generalize hE1 : dv A1 A2 A3 p q' = E1 at hy lb
    generalize hE2 : K06M.dl A1 A2 A3 p q' r s' = E2 at hy lb
    generalize hE3 : dv A1 A2 A3 r s' = E3 at hy lb
    have l1 := lb E1 (by simp)
    have l2 := lb E2 (by simp)
    have l3 := lb E3 (by simp)
    have c1 : B 1000 A1 := b1.mono (by decide)
    have c2 : B 1000 A2 := b2.mono (by decide)
    have c3 : B 1000 A3 := b3.mono (by decide)
    have dledE : dled A1 A2 A3 p q' r s' = [E1, E2, E3] := by rw [← hE1, ← hE2, ← hE3]; rfl
    have gl : gcdL [E1, E2, E3] = gcdL [A1, A2, A3] := by rw [← dledE]; exact dgcd_led _ _ _ _ _ _ _ det
    have dc : ddisc E1 E2 E3 = ddisc A1 A2 A3 := by rw [← hE1, ← hE2, ← hE3]; exact ddisc_led1 _ _ _ _ _ _ _ det
    refine ⟨fun σ H' => σ = [some (.ref c), some (.ref t), some (.ref a), some (.ref b), some (.ref x), some (.int p), some (.int q'), some (.int r), some (.int s'), some (.ref y), none, none, none, none, none, none] ∧ Ex0 H3 H', ?_, ?_⟩
    · obtain ⟨dx, tx, hx1, hx2⟩ := id hx3
      obtain ⟨dy, ty, hy1, hy2⟩ := id hy
      refine ⟨_, rfl, x, dx, _, rfl, hx1, x, [A1, A2, A3], rfl, hx3, fun t1 h1 => ?_⟩
      refine ⟨_, rfl, .tuple ([A1, A2, A3].map .int), .tuple ([A1, A2, A3].map .int), .tup (SqT.of h1) (dp_ints _), .tup (SqT.of ht3) (dp_ints _), shaped_tints _, shaped_tints _, _, rfl, ?_⟩
      rw [PyData.eqv, eqv_ints]
      refine ndF rfl ?_
      refine ⟨_, rfl, y, dy, _, rfl, hy1, y, [E1, E2, E3], rfl, hy, fun t2 h2 => ?_⟩
      refine ⟨_, rfl, _, rfl, t, a, [A1, A2, A3], p, q', r, s', rfl, ht3, ha3, fun z hz => (bn z hz).mono (by decide), by show 2 ≤ 3; decide, by show 3 ≤ 11; decide, bp.mono (by decide), bq.mono (by decide), br.mono (by decide), bs.mono (by decide), fun t3 H4 e4 h3 => ?_⟩
      rw [show [A1, A2, A3].length = 3 from rfl, put_dled, dledE] at h3
      refine ⟨.tuple ([E1, E2, E3].map .int), .tuple ([E1, E2, E3].map .int), .tup (SqT.of (Ex0.ti e4 h2)) (dp_ints _), .tup (SqT.of h3) (dp_ints _), shaped_tints _, shaped_tints _, _, rfl, ?_⟩
      rw [PyData.eqv, eqv_ints]
      refine ndF rfl ?_
      exact ⟨rfl, e4⟩
    rintro σ H4 ⟨rfl, e4⟩
    refine ⟨fun σ H' => σ = [some (.ref c), some (.ref t), some (.ref a), some (.ref b), some (.ref x), some (.int p), some (.int q'), some (.int r), some (.int s'), some (.ref y), none, none, none, none, none, none] ∧ Ex0 H3 H', ?_, ?_⟩
    · have hy4 := Ex0.fo e4 hy
      have ht4 := Ex0.ti e4 ht3
      have st : SqT K H4 t [V.int A1, V.int A2, V.int A3] := SqT.of ht4
      obtain ⟨dy, ty, hy1, hy2⟩ := id hy4
      refine ⟨_, rfl, y, dy, _, rfl, hy1, y, E1, E2, E3, rfl, hy4, l1, l2, l3, ?_⟩
      refine ⟨_, rfl, t, _, 1, .int A2, rfl, rfl, st, rfl, _, rfl, t, _, 1, .int A2, rfl, rfl, st, rfl, _, _, rfl, rfl, mulB b2 b2 (by decide), ?_⟩
      refine ⟨_, rfl, t, _, 0, .int A1, rfl, rfl, st, rfl, _, _, rfl, rfl, mulB b4 b1 (by decide), _, rfl, t, _, 2, .int A3, rfl, rfl, st, rfl, _, _, rfl, rfl, mulB (B.mul b4 b1) b3 (by decide), _, _, rfl, rfl, ?_⟩
      refine ⟨rfl, _, rfl, ndF (by rw [dc]; rfl) ?_⟩
      refine ⟨_, rfl, y, dy, _, rfl, hy1, y, [E1, E2, E3], rfl, hy4, ?_⟩
      refine ⟨_, rfl, t, _, rfl, ht4, rfl, _, rfl, ndF (by rw [gl]) ?_⟩
      exact ⟨rfl, e4⟩
    rintro σ H5 ⟨rfl, e5⟩
    refine ⟨fun σ H' => σ = [some (.ref c), some (.ref t), some (.ref a), some (.ref b), some (.ref x), some (.int p), some (.int q'), some (.int r), some (.int s'), some (.ref y), none, none, none, none, none, none] ∧ Ex0 H3 H', ?_, ?_⟩
    · have hx4 := Ex0.fo e5 hx3
      obtain ⟨dx, tx, hx1, hx2⟩ := id hx4
      refine ⟨_, rfl, x, dx, _, rfl, hx1, x, A1, A2, A3, rfl, hx4, c1, c2, c3, ?_⟩
      refine ⟨_, rfl, x, dx, _, rfl, hx1, x, [A1, A2, A3], rfl, hx4, sl2, fun l1' n1 => ?_⟩
      have f1 : Ex0 H5 (upd H5 l1' (.lst [.int (ddisc A1 A2 A3), .int (gcdL [A1, A2, A3] : Nat)])) := Ex0.new n1
      have hy5 := Ex0.fo f1 (Ex0.fo e5 hy)
      obtain ⟨dy, ty, hy1, hy2⟩ := id hy5
      refine ⟨_, rfl, y, dy, _, rfl, hy1, y, E1, E2, E3, rfl, hy5, l1, l2, l3, ?_⟩
      refine ⟨_, rfl, y, dy, _, rfl, hy1, y, [E1, E2, E3], rfl, hy5, sl2, fun l2' n2 => ?_⟩
      rw [dc, gl]
      have f2 : Ex0 (upd H5 l1' (.lst [.int (ddisc A1 A2 A3), .int (gcdL [A1, A2, A3] : Nat)])) (upd (upd H5 l1' (.lst [.int (ddisc A1 A2 A3), .int (gcdL [A1, A2, A3] : Nat)])) l2' (.lst [.int (ddisc A1 A2 A3), .int (gcdL [A1, A2, A3] : Nat)])) := Ex0.new n2
      have k1 : upd H5 l1' (.lst [.int (ddisc A1 A2 A3), .int (gcdL [A1, A2, A3] : Nat)]) l1' = some (.lst [.int (ddisc A1 A2 A3), .int (gcdL [A1, A2, A3] : Nat)]) := upd_same
      refine ⟨.list ([ddisc A1 A2 A3, (gcdL [A1, A2, A3] : Nat)].map .int), .list ([ddisc A1 A2 A3, (gcdL [A1, A2, A3] : Nat)].map .int), .lst (SqL.of (Ex0.ap f2 k1)) (dp_ints [ddisc A1 A2 A3, (gcdL [A1, A2, A3] : Nat)]), .lst (SqL.of upd_same) (dp_ints [ddisc A1 A2 A3, (gcdL [A1, A2, A3] : Nat)]), shaped_lints _, shaped_lints _, _, rfl, ?_⟩
      rw [PyData.eqv, eqv_ints]
      refine ndF rfl ?_
      exact ⟨rfl, (e5.trans f1).trans f2⟩
    rintro σ H6 ⟨rfl, e6⟩
    refine ⟨fun σ H' => σ = [some (.ref c), some (.ref t), some (.ref a), some (.ref b), some (.ref x), some (.int p), some (.int q'), some (.int r), some (.int s'), some (.ref y), none, none, none, none, none, none] ∧ Ex0 H3 H', ?_, ?_⟩
    · have hx4 := Ex0.fo e6 hx3
      have hy4 := Ex0.fo e6 hy
      have ha4 := Ex0.q4 e6 ha3
      have hb4 := Ex0.q4 e6 hb3
      obtain ⟨dy, ty, hy1, hy2⟩ := id hy4
      refine ⟨_, rfl, y, dy, _, rfl, hy1, rfl, _, rfl, y, b, E1, E2, E3, i, j, k, m, rfl, hy4, hb4, l1, l2, l3, gb.ok, fun z1 H7 e7 hz1 => ?_⟩
      obtain ⟨dx, tx, hx1, hx2⟩ := Ex0.fo e7 hx4
      refine ⟨_, rfl, x, dx, _, rfl, hx1, rfl, _, rfl, _, rfl, a, b, p, q', r, s', i, j, k, m, rfl, Ex0.q4 e7 ha4, Ex0.q4 e7 hb4, ga.ok, gb.ok, fun w1 H8 e8 hw => ?_⟩
      refine ⟨x, w1, A1, A2, A3, _, _, _, _, rfl, Ex0.fo (e7.trans e8) hx4, hw, c1, c2, c3, join_ok ga gb, fun z2 H9 e9 hz2 => ?_⟩
      have hz3 := Ex0.fo (e8.trans e9) hz1
      obtain ⟨d1, u1, m1, m2⟩ := id hz3
      obtain ⟨d2, u2, n1, n2⟩ := id hz2
      have cm : dled E1 E2 E3 i j k m = dled A1 A2 A3 (i * p + j * r) (i * q' + j * s') (k * p + m * r) (k * q' + m * s') := by rw [← hE1, ← hE2, ← hE3]; exact dcomp _ _ _ _ _ _ _ _ _ _ _
      refine ⟨z1, d1, _, _, rfl, m1, ty_ins T.ty_Double T.cl_Double n1, first_self, z1, .ref z2, dled E1 E2 E3 i j k m, rfl, hz3, .inl ⟨z2, dled A1 A2 A3 (i * p + j * r) (i * q' + j * s') (k * p + m * r) (k * q' + m * s'), rfl, hz2, _, rfl, _, rfl, ?_⟩⟩
      rw [decide_eq_true cm]
      refine iteF ?_
      have e79 := (e7.trans e8).trans e9
      have hx5 := Ex0.fo e79 hx4
      have hy5 := Ex0.fo e79 hy4
      have ha5 := Ex0.q4 e79 ha4
      obtain ⟨dy, ty, hy1, hy2⟩ := id hy5
      refine ⟨_, rfl, y, dy, _, rfl, hy1, rfl, _, rfl, a, p, q', r, s', rfl, ha5, ga.ok, fun w2 H10 e10 hw2 => ?_⟩
      refine ⟨y, w2, E1, E2, E3, _, _, _, _, rfl, Ex0.fo e10 hy5, hw2, l1, l2, l3, und_ok ga, fun z4 H11 e11 hz4 => ?_⟩
      have hx6 := Ex0.fo (e10.trans e11) hx5
      obtain ⟨d1, u1, m1, m2⟩ := id hz4
      obtain ⟨d2, u2, n1, n2⟩ := id hx6
      have bk : dled E1 E2 E3 ((p * s' - q' * r) * s') (-(p * s' - q' * r) * q') (-(p * s' - q' * r) * r) ((p * s' - q' * r) * p) = [A1, A2, A3] := by rw [← hE1, ← hE2, ← hE3]; exact dback _ _ _ _ _ _ _ det
      refine ⟨_, rfl, z4, d1, _, _, rfl, m1, ty_ins T.ty_Double T.cl_Double n1, first_self, z4, .ref x, dled E1 E2 E3 ((p * s' - q' * r) * s') (-(p * s' - q' * r) * q') (-(p * s' - q' * r) * r) ((p * s' - q' * r) * p), rfl, hz4, .inl ⟨x, _, rfl, hx6, _, rfl, _, rfl, ?_⟩⟩
      rw [decide_eq_true bk]
      refine iteF ?_
      exact ⟨rfl, ((e6.trans e79).trans e10).trans e11⟩
    rintro σ H7 ⟨rfl, e7⟩
    have f7 : Fv c H H7 := e1.trans (fv_ex e1.1 (e23.trans e7))
    refine ⟨fun σ H' => ∃ X Y : Int, σ = [some (.ref c), some (.ref t), some (.ref a), some (.ref b), some (.ref x), some (.int p), some (.int q'), some (.int r), some (.int s'), some (.ref y), some (.int X), some (.int Y), none, none, none, none] ∧ X.natAbs ≤ 100000000000000000 ∧ Y.natAbs ≤ 100000000000000000 ∧ Fv c H7 H', ?_, ?_⟩
    · refine ⟨_, rfl, c, rfl, f7.1, fun X H8 hX e8 => ?_⟩
      refine ⟨_, rfl, c, rfl, e8.1, fun Y H9 hY e9 => ?_⟩
      exact ⟨_, _, rfl, X, Y, rfl, hX, hY, e8.trans e9⟩
    rintro σ H8 ⟨X, Y, rfl, hX, hY, e8⟩
    have ht8 : Ti H8 t [A1, A2, A3] := fv_tup f7.1 e8 (Ex0.ti e7 ht3)
    have hx8 := fo_fv f7.1 e8 (Ex0.fo e7 hx3)
    have hy8 := fo_fv f7.1 e8 (Ex0.fo e7 hy)
    have bX : B 60 X := ⟨Nat.lt_of_le_of_lt hX (by decide), by decide⟩
    have bY : B 60 Y := ⟨Nat.lt_of_le_of_lt hY (by decide), by decide⟩
    have sX : Short X := short_B (bX.mono (by decide))
    have sY : Short Y := short_B (bY.mono (by decide))
    have vl : dv E1 E2 E3 X Y = dv A1 A2 A3 (p * X + r * Y) (q' * X + s' * Y) := by rw [← hE1, ← hE2, ← hE3]; exact dval_led _ _ _ _ _ _ _ _ _
    have u1 : B 190 (p * X + r * Y) := (B.plus (B.mul bp bX) (B.mul br bY)).mono (by decide)
    have u2 : B 190 (q' * X + s' * Y) := (B.plus (B.mul bq bX) (B.mul bs bY)).mono (by decide)
    refine ⟨fun σ H' => σ = [some (.ref c), some (.ref t), some (.ref a), some (.ref b), some (.ref x), some (.int p), some (.int q'), some (.int r), some (.int s'), some (.ref y), some (.int X), some (.int Y), none, none, none, none] ∧ Ex0 H8 H', ?_, ?_⟩
    · obtain ⟨dx, tx, hx1, hx2⟩ := id hx8
      refine ⟨_, rfl, x, rfl, _, rfl, _, rfl, .inr ⟨_, _, hx1⟩, x, A1, A2, A3, X, Y, rfl, hx8, c1, c2, c3, sX, sY, ?_⟩
      refine ⟨_, rfl, _, rfl, _, rfl, t, [A1, A2, A3], X, Y, rfl, ht8, bX.mono (by decide), bY.mono (by decide), fun z hz => (bn z hz).mono (by decide), by show 3 ≤ 8; decide, fun H9 e9 => ?_⟩
      refine ⟨rfl, _, rfl, ndF (congrArg V.int (dval_3 A1 A2 A3 X Y).symm) ?_⟩
      obtain ⟨dx, tx, hx1, hx2⟩ := Ex0.fo e9 hx8
      obtain ⟨dy, ty, hy1, hy2⟩ := Ex0.fo e9 hy8
      refine ⟨_, rfl, y, rfl, _, rfl, _, rfl, .inr ⟨_, _, hy1⟩, y, E1, E2, E3, X, Y, rfl, Ex0.fo e9 hy8, l1, l2, l3, sX, sY, ?_⟩
      refine ⟨_, rfl, x, rfl, _, rfl, _, rfl, _, _, rfl, rfl, mulB bp bX (by decide), _, rfl, _, rfl, _, _, rfl, rfl, mulB br bY (by decide), _, _, rfl, rfl, ?_⟩
      refine ⟨_, rfl, _, rfl, _, _, rfl, rfl, mulB bq bX (by decide), _, rfl, _, rfl, _, _, rfl, rfl, mulB bs bY (by decide), _, _, rfl, rfl, ?_⟩
      refine ⟨.inr ⟨_, _, hx1⟩, x, A1, A2, A3, _, _, rfl, Ex0.fo e9 hx8, c1, c2, c3, short_B u1, short_B u2, ?_⟩
      refine ⟨rfl, _, rfl, ndF (congrArg V.int vl) ?_⟩
      exact ⟨rfl, e9⟩
    rintro σ H9 ⟨rfl, e9⟩
    have f9 : Fv c H H9 := (f7.trans e8).trans (fv_ex (f7.trans e8).1 e9)
    refine ⟨fun σ H' => σ = [some (.ref c), some (.ref t), some (.ref a), some (.ref b), some (.ref x), some (.int p), some (.int q'), some (.int r), some (.int s'), some (.ref y), some (.int X), some (.int Y), some (.str (("(" ++ Str.join ", " ([A1, A2, A3].map dg)) ++ ")")), none, none, none] ∧ Ex0 H9 H', ?_, ?_⟩
    · refine ⟨⟨_, rfl⟩, ?_⟩
      have ht9 := Ex0.ti e9 ht8
      refine ⟨_, rfl, t, rfl, ⟨_, SqT.of ht9⟩, ?_⟩
      refine lcT fm0 trivial (SqT.of ht9) (fun z => z) (fun i acc _ => acc = (([A1, A2, A3].take i).map dg).map V.str) (fun _ _ => rfl) (fun D i z acc H' hD hz e hA hlen hp => ?_) (fun D H' acc hD e hA hp => ?_)
      · obtain ⟨n, hn2, rfl⟩ := get_int hz
        have hi := (List.getElem?_eq_some_iff.mp hn2).1
        refine ⟨rfl, ?_⟩
        refine ⟨_, rfl, n, rfl, (dg_len (hn n (List.mem_of_getElem? hn2))).1, ?_⟩
        have hi3 : i < 3 := hi
        refine cs_yes fm0 trivial hD e hA hlen (by omega) (Fx.refl trivial) ?_
        rw [hp, List.take_add_one, hn2, List.map_append, List.map_append]
        rfl
      · subst hp
        have j6 := join3_B hn
        have tb := text_B hn (Nat.le_of_lt (show 3 < 8 by decide))
        have sz : sizeLine = 16777216 := sizeLine_eq
        refine ⟨_, D, [A1, A2, A3].map dg, rfl, rfl, .inl (SqL.of hA), ?_, ?_⟩
        · have : ([A1, A2, A3].map dg).length * (", " : Str).length = 6 := rfl
          rw [this]
          have : [A1, A2, A3].length * 1921 = 5763 := rfl
          omega
        rw [show Txt.join (", " : Str) ([A1, A2, A3].map dg) = Str.join ", " ([A1, A2, A3].map dg) from StrLaws.glued_eq_join _ _]
        refine ⟨_, _, rfl, rfl, ?_, ?_⟩
        · have : ("(" : Str).length = 1 := rfl
          show ("(" : Str).length + (Str.join ", " ([A1, A2, A3].map dg)).length ≤ sizeLine
          omega
        refine ⟨_, _, rfl, rfl, ?_, ?_⟩
        · have : ("(" : Str).length = 1 := rfl
          have : (")" : Str).length = 1 := rfl
          show (("(" : Str) ++ Str.join ", " ([A1, A2, A3].map dg)).length + (")" : Str).length ≤ sizeLine
          rw [strLen_append]
          omega
        exact ⟨rfl, e⟩
    rintro σ H10 ⟨rfl, e10⟩
    have ht10 := Ex0.ti (e9.trans e10) ht8
    have hx10 := Ex0.fo (e9.trans e10) hx8
    have f10 : Fv c H H10 := f9.trans (fv_ex f9.1 e10)
    refine ⟨fun σ H' => σ = [some (.ref c), some (.ref t), some (.ref a), some (.ref b), some (.ref x), some (.int p), some (.int q'), some (.int r), some (.int s'), some (.ref y), some (.int X), some (.int Y), some (.str (("(" ++ Str.join ", " ([A1, A2, A3].map dg)) ++ ")")), none, none, none] ∧ Ex0 H10 H', ?_, ?_⟩
    · obtain ⟨dx, tx, hx1, hx2⟩ := id hx10
      have j6 := join3_B hn
      have sz : sizeLine = 16777216 := sizeLine_eq
      refine ⟨_, rfl, x, dx, _, rfl, hx1, x, [A1, A2, A3], rfl, hx10, fun n hh => (dg_len (hn n hh)).1, ?_, _, rfl, ?_⟩
      · rw [shown3, strLen_append, strLen_append]
        have : ("(" : Str).length = 1 := rfl
        have : (")" : Str).length = 1 := rfl
        omega
      refine ⟨_, rfl, rfl, _, rfl, ndF (congrArg V.str (shown3 A1 A2 A3)) ?_⟩
      refine ⟨_, rfl, x, dx, _, rfl, hx1, x, [A1, A2, A3], rfl, hx10, by show 3 ≤ 1000; decide, fun z H11 e11 hz => ?_⟩
      obtain ⟨dz, tz, hz1, hz2⟩ := id hz
      refine ⟨z, dz, _, rfl, hz1, z, _, rfl, hz, fun t2 h2 => ?_⟩
      refine ⟨_, rfl, _, rfl, (-1), t, [A1, A2, A3], rfl, Ex0.ti e11 ht10, (show B 1 (-1) from ⟨by decide, by decide⟩).mono (by decide), fun n hh => (bn n hh).mono (by decide), by show 3 ≤ 1000; decide, fun t3 H12 e12 h3 => ?_⟩
      have ng : ([A1, A2, A3].map fun n => -1 * n) = [A1, A2, A3].map fun n => -n := by simp
      rw [ng] at h3
      refine ⟨.tuple (([A1, A2, A3].map fun n => -n).map .int), .tuple (([A1, A2, A3].map fun n => -n).map .int), .tup (SqT.of (Ex0.ti e12 h2)) (dp_ints _), .tup (SqT.of h3) (dp_ints _), shaped_tints _, shaped_tints _, _, rfl, ?_⟩
      rw [PyData.eqv, eqv_ints]
      refine ndF rfl ?_
      have hx12 := Ex0.fo (e11.trans e12) hx10
      obtain ⟨dx, tx, hx1, hx2⟩ := id hx12
      refine ⟨_, rfl, x, dx, _, rfl, hx1, x, [A1, A2, A3], rfl, hx12, by show 3 ≤ 1000; decide, fun z1 H13 e13 hz1 => ?_⟩
      obtain ⟨d1, u1, g1, g2⟩ := id hz1
      refine ⟨z1, d1, _, rfl, g1, z1, _, rfl, hz1, by show 3 ≤ 1000; decide, fun z2 H14 e14 hz2 => ?_⟩
      have hx14 := Ex0.fo (e13.trans e14) hx12
      obtain ⟨d2, u2, g3, g4⟩ := id hz2
      obtain ⟨dx, tx, hx1, hx2⟩ := id hx14
      have nn : (([A1, A2, A3].map fun n => -n).map fun n => -n) = [A1, A2, A3] := by simp
      refine ⟨_, rfl, z2, d2, _, _, rfl, g3, ty_ins T.ty_Double T.cl_Double hx1, first_self, z2, .ref x, _, rfl, hz2, .inl ⟨x, _, rfl, hx14, _, rfl, _, rfl, ?_⟩⟩
      rw [decide_eq_true nn]
      refine iteF ?_
      exact ⟨rfl, ((e11.trans e12).trans e13).trans e14⟩
    rintro σ H11 ⟨rfl, e11⟩
    have ht11 := Ex0.ti e11 ht10
    have hx11 := Ex0.fo e11 hx10
    have f11 : Fv c H H11 := f10.trans (fv_ex f10.1 e11)
    refine ⟨fun σ H' => ∃ (u l : Addr) (g : Int), σ = [some (.ref c), some (.ref t), some (.ref a), some (.ref b), some (.ref x), some (.int p), some (.int q'), some (.int r), some (.int s'), some (.ref y), some (.int X), some (.int Y), some (.str (("(" ++ Str.join ", " ([A1, A2, A3].map dg)) ++ ")")), some (.int g), some (.ref l), none] ∧ 0 ≤ g ∧ g < 3 ∧ Fv c H11 H' ∧ H11 l = none ∧ l ≠ c ∧ H' l = some (.lst ([A1, A2, A3].map V.int)), ?_, ?_⟩
    · refine ⟨_, rfl, c, 3, rfl, f11.1, by decide, by decide, fun g H12 g0 g1 f12 => ?_⟩
      refine ⟨_, rfl, t, _, rfl, .inr (SqT.of (fv_tup f11.1 f12 ht11)), fun l nl => ?_⟩
      exact ⟨_, _, rfl, t, l, g, rfl, g0, g1, f12.trans (fv_new f12.1 nl), Fx.free f12 (fv_ne f12.1 nl) nl, fv_ne f12.1 nl, upd_same⟩
    rintro σ H12 ⟨u, l, g, rfl, g0, g1, f12, nl, lc, hl⟩
    have ht12 := fv_tup f11.1 f12 ht11
    have hx12 := fo_fv f11.1 f12 hx11
    have f0 := f11.trans f12
    refine ⟨fun σ H' => ∃ C1 C2 C3 : Int, σ = [some (.ref c), some (.ref t), some (.ref a), some (.ref b), some (.ref x), some (.int p), some (.int q'), some (.int r), some (.int s'), some (.ref y), some (.int X), some (.int Y), some (.str (("(" ++ Str.join ", " ([A1, A2, A3].map dg)) ++ ")")), some (.int g), some (.ref l), none] ∧ Fv c H11 H' ∧ H' l = some (.lst ([C1, C2, C3].map V.int)) ∧ [A1, A2, A3] ≠ [C1, C2, C3] ∧ ∀ n ∈ [C1, C2, C3], Short n, ?_, ?_⟩
    · have at_ : atI ([A1, A2, A3].map V.int) g = some (.int ([A1, A2, A3].getD g.toNat 0)) := by
        obtain ⟨m, rfl⟩ := Int.eq_ofNat_of_zero_le g0
        exact atI_nat (get_map (by show m < 3; omega))
      refine ⟨_, rfl, _, rfl, l, _, _, _, rfl, rfl, SqL.of hl, at_, ?_⟩
      refine ⟨_, rfl, _, rfl, _, _, rfl, rfl, ⟨by decide, by decide, by decide⟩, sl3, fun l2 nl2 => ?_⟩
      refine ⟨c, l2, [.int 1, .int (-1), .int 1000000000], rfl, vat_new f0.1 nl2, upd_same, fv_ne f0.1 nl2, by simp, by show 3 ≤ 1000; decide, fun v H13 hv f13 => ?_⟩
      obtain ⟨d, rfl, d0, d1, d2⟩ : ∃ d : Int, v = .int d ∧ d ≠ 0 ∧ -1 ≤ d ∧ d ≤ 1000000000 := by
        simp only [List.mem_cons, List.mem_nil_iff, or_false] at hv
        rcases hv with rfl | rfl | rfl
        · exact ⟨_, rfl, by decide, by decide, by decide⟩
        · exact ⟨_, rfl, by decide, by decide, by decide⟩
        · exact ⟨_, rfl, by decide, by decide, by decide⟩
      have f13' : Fv c H12 H13 := (fv_new f0.1 nl2).trans f13
      have hl13 : H13 l = some (.lst ([A1, A2, A3].map V.int)) := f13'.2 l _ (fun e => lc e) hl
      refine ⟨_, _, rfl, rfl, _, rfl, _, rfl, l, _, g, g.toNat, rfl, rfl, hl13, ?_, ?_⟩
      · obtain ⟨m, rfl⟩ := Int.eq_ofNat_of_zero_le g0
        exact Evl.ixN_nat (by show m < 3; omega)
      have f14 : Fv c H11 (upd H13 l (.lst ((([A1, A2, A3].map V.int)).set g.toNat (.int ([A1, A2, A3].getD g.toNat 0 + d))))) := Fx.mut (fmV c) (f12.trans f13') f11.1 nl
      have s1 := sn A1 (by simp)
      have s2 := sn A2 (by simp)
      have s3 := sn A3 (by simp)
      have h1 := hn A1 (by simp)
      have h2 := hn A2 (by simp)
      have h3 := hn A3 (by simp)
      obtain hg | hg | hg : g = 0 ∨ g = 1 ∨ g = 2 := by omega
      · subst hg
        refine ⟨A1 + d, A2, A3, rfl, f14, upd_same, fun z => ?_, fun n hh => ?_⟩
        · simp only [List.cons.injEq, and_true] at z
          omega
        · simp only [List.mem_cons, List.mem_nil_iff, or_false] at hh
          rcases hh with rfl | rfl | rfl
          · exact ⟨by omega, by omega⟩
          · exact s2
          · exact s3
      · subst hg
        refine ⟨A1, A2 + d, A3, rfl, f14, upd_same, fun z => ?_, fun n hh => ?_⟩
        · simp only [List.cons.injEq, and_true, true_and] at z
          omega
        · simp only [List.mem_cons, List.mem_nil_iff, or_false] at hh
          rcases hh with rfl | rfl | rfl
          · exact s1
          · exact ⟨by omega, by omega⟩
          · exact s3
      · subst hg
        refine ⟨A1, A2, A3 + d, rfl, f14, upd_same, fun z => ?_, fun n hh => ?_⟩
        · simp only [List.cons.injEq, and_true, true_and] at z
          omega
        · simp only [List.mem_cons, List.mem_nil_iff, or_false] at hh
          rcases hh with rfl | rfl | rfl
          · exact s1
          · exact s2
          · exact ⟨by omega, by omega⟩
    rintro σ H13 ⟨C1, C2, C3, rfl, f13, hl13, ne, sc⟩
    have fz := f11.trans f13
    have ht13 := fv_tup f11.1 f13 ht11
    have hx13 := fo_fv f11.1 f13 hx11
    obtain ⟨dx, tx, hx1, hx2⟩ := id hx13
    refine ⟨_, rfl, _, rfl, fun z dz nz ndz _ => ?_⟩
    refine ⟨z, dz, t, [A1, A2, A3], rfl, upd_same, made_at nz ndz ht13, rfl, sn, fun H14 e14 h14 => ⟨rfl, ?_⟩⟩
    obtain ⟨e15, hz⟩ := fo_made nz ndz ht13 e14 h14
    have hx14 := Ex0.fo e15 hx13
    obtain ⟨dx, tx, hx1, hx2⟩ := id hx14
    obtain ⟨d2, t2, hz1, hz2⟩ := id hz
    refine ⟨x, dx, _, _, rfl, hx1, ty_ins T.ty_Double T.cl_Double hz1, first_self, x, .ref z, _, rfl, hx14, .inl ⟨z, _, rfl, hz, _, rfl, _, rfl, ?_⟩⟩
    rw [decide_eq_true rfl]
    refine iteF ?_
    refine ⟨_, rfl, _, rfl, l, _, rfl, .inl ⟨SqL.of (Ex0.ap e15 hl13), fun p1 np1 => ?_⟩⟩
    have e16 := Ex0.new (o := .tup ([C1, C2, C3].map V.int)) np1
    have hp1 : Ti (upd H14 p1 (.tup ([C1, C2, C3].map V.int))) p1 [C1, C2, C3] := upd_same
    intro z' dz' nz' ndz' _
    refine ⟨z', dz', p1, [C1, C2, C3], rfl, upd_same, made_at nz' ndz' hp1, rfl, sc, fun H15 e17 h15 => ⟨rfl, ?_⟩⟩
    obtain ⟨e18, hz'⟩ := fo_made nz' ndz' hp1 e17 h15
    have e19 := (e15.trans e16).trans e18
    have hx15 := Ex0.fo e19 hx13
    obtain ⟨dx, tx, hx1, hx2⟩ := id hx15
    obtain ⟨d2, t2, hz1, hz2⟩ := id hz'
    refine ⟨x, dx, _, _, rfl, hx1, ty_ins T.ty_Double T.cl_Double hz1, first_self, x, .ref z', _, rfl, hx15, .inl ⟨z', _, rfl, hz', _, rfl, _, rfl, ?_⟩⟩
    rw [decide_eq_false ne]
    refine iteF ?_
    have ht15 := Ex0.ti e19 ht13
    refine ⟨_, rfl, _, rfl, x, dx, _, .type "tuple", rfl, hx1, .base (.tup ht15), T.fo_Double_tuple.2, x, .ref t, _, rfl, hx15, .inr ⟨_, .inl rfl, .base (.tup ht15), _, rfl, _, rfl, ?_⟩⟩
    refine iteF ?_
    refine ⟨_, rfl, sl1, fun p2 np2 => ?_⟩
    have e20 : Ex0 H15 (upd H15 p2 (.tup [.int 0])) := Ex0.new np2
    refine ⟨_, rfl, p2, t, _, _, rfl, rfl, SqT.of upd_same, SqT.of (Ex0.ti e20 ht15), by simp, by show 1 + 3 ≤ sizeLine; rw [sizeLine_eq]; decide, (fun z => by cases z), fun _ p3 np3 => ?_⟩
    have e21 := Ex0.new (o := .tup ([.int 0] ++ [A1, A2, A3].map V.int)) np3
    have hp3 : Ti (upd (upd H15 p2 (.tup [.int 0])) p3 (.tup ([.int 0] ++ [A1, A2, A3].map V.int))) p3 [0, A1, A2, A3] := upd_same
    intro z3 dz3 nz3 ndz3 _
    refine ⟨z3, dz3, p3, [0, A1, A2, A3], rfl, upd_same, made_at nz3 ndz3 hp3, rfl, fun n hh => ?_, fun H16 e22 h16 => ⟨rfl, ?_⟩⟩
    · rcases List.mem_cons.mp hh with rfl | hh
      · exact ⟨by decide, by decide⟩
      · exact sn n hh
    obtain ⟨e23', hz3⟩ := fo_made nz3 ndz3 hp3 e22 h16
    have e24 := (e20.trans e21).trans e23'
    have hx16 := Ex0.fo e24 hx15
    have ht16 := Ex0.ti e24 ht15
    obtain ⟨dx, tx, hx1, hx2⟩ := id hx16
    obtain ⟨d2, t2, hz1, hz2⟩ := id hz3
    refine ⟨x, dx, _, .ref C_Form, rfl, hx1, ty_ins T.ty_Form T.cl_Form hz1, T.fo_Double_Form.2, x, .ref z3, _, rfl, hx16, .inr ⟨_, .inr rfl, ty_ins T.ty_Form T.cl_Form hz1, _, rfl, _, rfl, ?_⟩⟩
    refine iteF ?_
    refine ⟨_, rfl, _, rfl, x, dx, _, rfl, hx1, x, [A1, A2, A3], rfl, hx16, by show 3 ≤ 1000; decide, fun z4 H17 e25 hz4 => ?_⟩
    have hx17 := Ex0.fo e25 hx16
    obtain ⟨dx, tx, hx1, hx2⟩ := id hx17
    obtain ⟨d2, t2, hz1, hz2⟩ := id hz4
    refine ⟨x, dx, _, _, rfl, hx1, ty_ins T.ty_Double T.cl_Double hz1, first_self, x, .ref z4, _, rfl, hx17, .inl ⟨z4, _, rfl, hz4, _, rfl, ?_⟩⟩
    refine ⟨_, rfl, sl3, fun p4 np4 => ?_⟩
    have e26 : Ex0 H17 (upd H17 p4 (.tup [.int 0, .int 0, .int 0])) := Ex0.new np4
    refine ⟨.tuple ([A1, A2, A3].map .int), .tuple ([0, 0, 0].map .int), .tup (SqT.of (Ex0.ti (e25.trans e26) ht16)) (dp_ints _), .tup (SqT.of upd_same) (dp_ints [0, 0, 0]), shaped_tints _, shaped_tints _, ?_⟩
    rw [PyData.eqv, eqv_ints]
    have lst : decide ([A1, A2, A3] = [A1, A2, A3].map fun n => -n) = decide ([A1, A2, A3] = [0, 0, 0]) := by
      rw [decide_eq_decide]
      simp only [List.map_cons, List.map_nil, List.cons.injEq, and_true]
      omega
    refine ⟨rfl, ?_⟩
    have fin : Fv c H (upd H17 p4 (.tup [.int 0, .int 0, .int 0])) := fz.trans (fv_ex fz.1 (((e19.trans e24).trans e25).trans e26))
    have done := q _ fin
    rw [show (V.bl (if false = true then !decide ([A1, A2, A3] = [A1, A2, A3].map fun n => -n) else decide ([A1, A2, A3] = [A1, A2, A3].map fun n => -n))) = V.bl (decide ([A1, A2, A3] = [0, 0, 0])) from congrArg V.bl lst]
    rw [decide_eq_true rfl]
    exact done
end
end TF
set_option Elab.async false
set_option linter.all false
set_option maxRecDepth 100000
set_option maxHeartbeats 400000
namespace Hd
open PySem PySem.Spec PyProof.Rows L2 Fr
open He (ga ma eqO eqO_ok ba)
def pa (K : PySem.W.Frag) (C : Addr) (m : Str) : Addr := match PySem.W.recIn K (ma K C m) "property" with
  | some (.ref g :: _) => g
  | _ => 0
def itA (K : PySem.W.Frag) (a : Addr) (i : Nat) : Addr := match K.lookup a with
  | some ⟨_, _, .seq its _, _⟩ => (match its[i]? with
    | some (.ref b) => b
    | _ => 0)
  | _ => 0
structure Dd where
  at_ : PySem.W.Frag → Addr
  name : Str
  qual : Str
  st : Stmt
  dfl : List V := []
def fnA (K : PySem.W.Frag) (a : Addr) : He.FnW := match K.lookup a with
  | some ⟨_, _, .func fd, _⟩ => some (fd.name, fd.qualname, fd.params, fd.body, fd.scope, fd.globals, fd.closure, fd.builtins)
  | _ => none
def Dd.val (d : Dd) : He.FnW := some (d.name, d.qual, defArgs d.st, .stmts (defBody d.st), defScope d.st, mainGlobals, [], builtinsNs)
def Dd.ok (K : PySem.W.Frag) (d : Dd) : Bool := PySem.W.keepIn K (.ref (d.at_ K)) && (match K.lookup (d.at_ K) with
  | some ⟨_, _, .func fd, _⟩ => PySem.W.codeIn K fd.code d.qual && He.dflB K fd.defaults d.dfl
  | _ => false)
theorem Dd.funD {K : PySem.W.Frag} {d : Dd} (e : fnA K (d.at_ K) = d.val) (c : d.ok K = true) : ∃ fd, FunD K d.name d.qual (defArgs d.st) (defBody d.st) (defScope d.st) d.dfl [] (d.at_ K) fd := by
  obtain ⟨kp, c2⟩ := ba c
  unfold fnA at e
  cases hk : K.lookup (d.at_ K) with
  | none => rw [hk] at c2; cases c2
  | some o =>
    obtain ⟨oc, od, dt, osl⟩ := o
    rw [hk] at c2 e
    cases dt with
    | func fd =>
      obtain ⟨n1, n2, n3, n4, n5, n6, n7, n8, n9, n10, n11, n12, n13, n14, n15⟩ := fd
      have e0 : (some (n1, n2, n3, n4, n5, n6, n7, n15) : He.FnW) = some (d.name, d.qual, defArgs d.st, .stmts (defBody d.st), defScope d.st, mainGlobals, [], builtinsNs) := e
      simp only [Option.some.injEq, Prod.mk.injEq] at e0
      obtain ⟨h1, h2, h3, h4, h5, h6, h7, h8⟩ := e0
      subst h1 h2 h3 h4 h5 h6 h7 h8
      obtain ⟨k1, k2⟩ := ba (show (PySem.W.codeIn K n13 d.qual && He.dflB K n8 d.dfl) = true from c2)
      exact ⟨_, ⟨oc, od, n8, n9, n10, n11, n12, n13, n14, osl, rfl, hk, k1, He.dflB_ok k2, .inl rfl⟩, kp⟩
    | _ => cases c2
theorem fun_of {K : PySem.W.Frag} {x q : Str} {st : Stmt} {f : Addr} {fd : FuncData} (F : FunD K x q (defArgs st) (defBody st) (defScope st) [] [] f fd) : Fun K x q st f fd := by
  obtain ⟨⟨oc, od, dV, kV, doc, pm, an, cdv, ct, osl, e1, e2, e3, e4, e5⟩, kp⟩ := F
  rcases e4 with ⟨_, rfl⟩ | ⟨h, _⟩
  · exact ⟨⟨oc, od, kV, doc, pm, an, cdv, ct, osl, e1, e2, e3⟩, kp⟩
  · exact absurd rfl h
def refsP (o : Obj) : List Addr := match o.data with
  | .seq its _ => its.toList.flatMap He.refV
  | .dict es _ => es.toList.flatMap fun e => He.refV e.val
  | .func fd => He.refV fd.code ++ He.refV fd.defaults
  | .cls cd => [cd.ns]
  | .fields vs => (match o.cls with
    | .type c => (match c == "property" with
      | true => vs.toList.flatMap He.refV
      | false => [])
    | _ => [])
  | _ => []
def nxt (g : Addr → Option Obj) (as : List Addr) : List Addr := as.flatMap fun a => match g a with
  | some o => refsP o
  | none => []
def asM (g : Addr → Option Obj) : Nat → List Addr → List Addr
  | 0, as => as
  | n + 1, as => as ++ asM g n (nxt g as)
abbrev Fb : Type := PySem.W.Frag → Bool
abbrev AlM : Type := Bool × List He.FnW
def obsM (fa : List Fb) (fn : List Dd) (K : PySem.W.Frag) : AlM := ((fa.all fun f => f K) && fn.all fun d => d.ok K, fn.map fun d => fnA K (d.at_ K))
def valM (fn : List Dd) : AlM := (true, fn.map Dd.val)
def SaysM (fa : List Fb) (fn : List Dd) (K : PySem.W.Frag) : Prop := obsM fa fn K = valM fn
def obsMG (n : Nat) (fa : List Fb) (fn : List Dd) (g : Addr → Option Obj) : AlM := obsM fa fn (He.frG g (asM g n [mainGlobals]))
def hookM (n : Nat) (fa : List Fb) (fn : List Dd) : PySem.W.Hook where
  α := AlM
  obs := fun s => obsMG n fa fn s.heap.get?
  val := fun _ => valM fn
  says := fun _ h => ∃ K : PySem.W.Frag, K.In h ∧ SaysM fa fn K
  of := fun _ _ e => ⟨_, He.frG_in, e⟩
  keeps := fun _ _ _ ⟨K, hK, c⟩ k => ⟨K, PySem.W.Frag.In.keeps hK k, c⟩
theorem obsMG_eq {n : Nat} {fa : List Fb} {fn : List Dd} {g : Addr → Option Obj} {s : Shared} (h : ∀ a, g a = s.heap.get? a) : obsMG n fa fn g = (hookM n fa fn).obs s := by
  have e : g = s.heap.get? := funext h
  rw [e] <;> rfl
section
variable {fa : List Fb} {fn : List Dd} {K : PySem.W.Frag}
theorem SaysM.fact (c : SaysM fa fn K) (i : Nat) {f : Fb} (h : fa[i]? = some f := by rfl) : f K = true := by
  have c1 : ((fa.all fun f => f K) && fn.all fun d => d.ok K) = true := congrArg (fun z : AlM => z.1) c
  exact List.all_eq_true.mp (ba c1).1 f (List.mem_of_getElem? h)
theorem SaysM.def_ (c : SaysM fa fn K) (i : Nat) {d : Dd} (h : fn[i]? = some d := by rfl) : ∃ fd, FunD K d.name d.qual (defArgs d.st) (defBody d.st) (defScope d.st) d.dfl [] (d.at_ K) fd := by
  have c1 : ((fa.all fun f => f K) && fn.all fun d => d.ok K) = true := congrArg (fun z : AlM => z.1) c
  have c2 : fn.map (fun d => fnA K (d.at_ K)) = fn.map Dd.val := congrArg (fun z : AlM => z.2) c
  have c3 : (fn.map fun d => fnA K (d.at_ K))[i]? = (fn.map Dd.val)[i]? := by rw [c2]
  rw [List.getElem?_map, List.getElem?_map, h] at c3
  exact Dd.funD (Option.some.inj c3) (List.all_eq_true.mp (ba c1).2 d (List.mem_of_getElem? h))
end
def decO (a b : Option Bool) : Bool := decide (a = b)
theorem decO_ok {a b : Option Bool} (h : decO a b = true) : a = b := of_decide_eq_true h
def bltB (x : Str) (id : String) : Fb := fun K => eqO (PySem.W.nsIn K mainGlobals x) (some (some (.builtin id)))
theorem blt_ok {K : PySem.W.Frag} {h : Heap} {mg : Str → Option Value} (X : K.In h) (G : h.Ns mainGlobals mg) {x : Str} {id : String} (c : bltB x id K = true) : mg x = some (.builtin id) := PySem.W.mg_of X G (eqO_ok c)
def tyB (C : Str) : Fb := fun K => eqO (PySem.W.findIn K (.ref (ga K C)) "__class__") (some (some (.builtin "object.__class__"))) && (eqO (PySem.W.specialIn K (.builtin "object.__class__") "__get__") (some (some (.builtin "getset_descriptor.__get__"))) && (decO (PySem.W.takesIn K (.builtin "object.__class__")) (some true) && decO (PySem.W.mroIn K (ga K C) (.type "object")) (some true)))
theorem ty_ok {K : PySem.W.Frag} {C : Str} (c : tyB C K = true) : TyI K (ga K C) := by
  obtain ⟨c1, c⟩ := ba c
  obtain ⟨c2, c⟩ := ba c
  obtain ⟨c3, c4⟩ := ba c
  exact ⟨eqO_ok c1, eqO_ok c2, decO_ok c3, decO_ok c4⟩
def propB (C m : Str) : Fb := fun K => eqO (PySem.W.findIn K (.ref (ga K C)) m) (some (some (.ref (ma K (ga K C) m)))) && (eqO (PySem.W.specialIn K (.ref (ma K (ga K C) m)) "__get__") (some (some (.builtin "property.__get__"))) && (decO (PySem.W.takesIn K (.ref (ma K (ga K C) m))) (some true) && (match PySem.W.recIn K (ma K (ga K C) m) "property" with
  | some (.ref _ :: _) => true
  | _ => false)))
theorem prop_ok {K : PySem.W.Frag} {C m : Str} (c : propB C m K = true) : PropOf K (ga K C) m (ma K (ga K C) m) (pa K (ga K C) m) := by
  obtain ⟨c1, c⟩ := ba c
  obtain ⟨c2, c⟩ := ba c
  obtain ⟨c3, c4⟩ := ba c
  refine ⟨eqO_ok c1, eqO_ok c2, decO_ok c3, ?_⟩
  unfold pa
  cases hr : PySem.W.recIn K (ma K (ga K C) m) "property" with
  | none => rw [hr] at c4; cases c4
  | some l =>
    rw [hr] at c4
    cases l with
    | nil => cases c4
    | cons v rest =>
      cases v with
      | ref g => exact ⟨rest, rfl⟩
      | _ => cases c4
def eqB (C : Str) : Fb := fun K => eqO (PySem.W.findIn K (.ref (ga K C)) "__eq__") (some (some (.ref (ma K (ga K C) "__eq__")))) && (PySem.W.isFn K (.ref (ma K (ga K C) "__eq__")) && (eqO (PySem.W.findIn K (.ref (ga K C)) "__ne__") (some (some (.builtin "object.__ne__"))) && decO (PySem.W.mroIn K (ga K C) (.type "object")) (some true)))
theorem eq_ok {K : PySem.W.Frag} {C : Str} (c : eqB C K = true) : EqC K (ga K C) (ma K (ga K C) "__eq__") := by
  obtain ⟨c1, c⟩ := ba c
  obtain ⟨c2, c⟩ := ba c
  obtain ⟨c3, c4⟩ := ba c
  exact ⟨eqO_ok c1, c2, eqO_ok c3, decO_ok c4⟩
def callB (C : Str) : Fb := fun K => eqO (PySem.W.findIn K (.ref (ga K C)) "__call__") (some (some (.ref (ma K (ga K C) "__call__")))) && (PySem.W.isFn K (.ref (ma K (ga K C) "__call__")) && PySem.W.fnIn K (ma K (ga K C) "__call__"))
theorem call_ok {K : PySem.W.Frag} {C : Str} (c : callB C K = true) : StX.CallO K (ga K C) (ma K (ga K C) "__call__") := by
  obtain ⟨c1, c⟩ := ba c
  obtain ⟨c2, c3⟩ := ba c
  exact ⟨eqO_ok c1, c2, c3⟩
def binB (C m : Str) : Fb := fun K => eqO (PySem.W.findIn K (.ref (ga K C)) m) (some (some (.ref (ma K (ga K C) m)))) && (PySem.W.isFn K (.ref (ma K (ga K C) m)) && PySem.W.selfFirst K (ga K C))
theorem bin_ok {K : PySem.W.Frag} {C m : Str} (c : binB C m K = true) : PySem.W.findIn K (.ref (ga K C)) m = some (some (.ref (ma K (ga K C) m))) ∧ PySem.W.isFn K (.ref (ma K (ga K C) m)) = true ∧ PySem.W.selfFirst K (ga K C) = true := by
  obtain ⟨c1, c⟩ := ba c
  obtain ⟨c2, c3⟩ := ba c
  exact ⟨eqO_ok c1, c2, c3⟩
def intsB (a : PySem.W.Frag → Addr) (ns : List Int) : Fb := fun K => match K.lookup (a K) with
  | some ⟨.type c, _, .seq its _, _⟩ => decide (c = "tuple") && (decide (its.size ≤ sizeLine) && He.relAll (ns.map V.int) its.toList)
  | _ => false
theorem ints_ok {K : PySem.W.Frag} {a : PySem.W.Frag → Addr} {ns : List Int} (c : intsB a ns K = true) (H : Hp) : SqT K H (a K) (ns.map V.int) := by
  unfold intsB at c
  cases hk : K.lookup (a K) with
  | none => rw [hk] at c; cases c
  | some o =>
    obtain ⟨oc, od, dt, sl⟩ := o
    rw [hk] at c
    cases oc with
    | type t =>
      cases dt with
      | seq its m =>
        obtain ⟨c1, c⟩ := ba c
        obtain ⟨c2, c3⟩ := ba c
        exact .inr ⟨_, its, m, hk, congrArg Value.type (of_decide_eq_true c1), rfl, of_decide_eq_true c2, He.relAll_ok c3⟩
      | _ => cases c
    | _ => cases dt <;> cases c
def refsB (a : PySem.W.Frag → Addr) (n : Nat) : Fb := fun K => match K.lookup (a K) with
  | some ⟨.type c, _, .seq its _, _⟩ => decide (c = "tuple") && (decide (its.size ≤ sizeLine) && He.relAll ((List.range n).map fun i => V.ref (itA K (a K) i)) its.toList)
  | _ => false
theorem refs_ok {K : PySem.W.Frag} {a : PySem.W.Frag → Addr} {n : Nat} (c : refsB a n K = true) (H : Hp) : SqT K H (a K) ((List.range n).map fun i => V.ref (itA K (a K) i)) := by
  unfold refsB at c
  generalize hl : (List.range n).map (fun i => V.ref (itA K (a K) i)) = l at c ⊢
  cases hk : K.lookup (a K) with
  | none => rw [hk] at c; cases c
  | some o =>
    obtain ⟨oc, od, dt, sl⟩ := o
    rw [hk] at c
    cases oc with
    | type t =>
      cases dt with
      | seq its m =>
        obtain ⟨c1, c⟩ := ba c
        obtain ⟨c2, c3⟩ := ba c
        exact .inr ⟨_, its, m, hk, congrArg Value.type (of_decide_eq_true c1), rfl, of_decide_eq_true c2, He.relAll_ok c3⟩
      | _ => cases c
    | _ => cases dt <;> cases c
def foreB (C : Str) (t : String) : Fb := fun K => decO (PySem.W.kitOne K (.type t) (.ref (ga K C))) (some false) && PySem.W.notFirst K (ga K C) (.type t)
theorem fore_ok {K : PySem.W.Frag} {C : Str} {t : String} (c : foreB C t K = true) : PySem.W.kitOne K (.type t) (.ref (ga K C)) = some false ∧ PySem.W.notFirst K (ga K C) (.type t) = true := by
  obtain ⟨c1, c2⟩ := ba c
  exact ⟨decO_ok c1, c2⟩
def foreCB (C D : Str) : Fb := fun K => decO (PySem.W.kitOne K (.ref (ga K D)) (.ref (ga K C))) (some false) && PySem.W.notFirst K (ga K C) (.ref (ga K D))
theorem foreC_ok {K : PySem.W.Frag} {C D : Str} (c : foreCB C D K = true) : PySem.W.kitOne K (.ref (ga K D)) (.ref (ga K C)) = some false ∧ PySem.W.notFirst K (ga K C) (.ref (ga K D)) = true := by
  obtain ⟨c1, c2⟩ := ba c
  exact ⟨decO_ok c1, c2⟩
def xcB (x : Str) (bm : List Value) (newId : String) : Fb := fun K => He.Fa.ok K (.glo x) && (PySem.W.excIn K (ga K x) bm newId && (PySem.W.keepIn K (.ref (ga K x)) && (decO (PySem.W.subIn K (.ref (ga K x)) (.type "BaseException")) (some true) && (decide (PySem.W.typeIn K (.ref (ga K x)) = some (.type "type")) && decO (PySem.W.exmOne K (.ref (ga K x)) (.ref (ga K x))) (some true)))))
theorem xc_ok {K : PySem.W.Frag} {h : Heap} {mg : Str → Option Value} (X : K.In h) (G : h.Ns mainGlobals mg) {x : Str} {bm : List Value} {newId : String} (c : xcB x bm newId K = true) : Xc K mg x bm newId := by
  obtain ⟨c1, c⟩ := ba c
  obtain ⟨c2, c⟩ := ba c
  obtain ⟨c3, c⟩ := ba c
  obtain ⟨c4, c⟩ := ba c
  obtain ⟨c5, c6⟩ := ba c
  exact ⟨He.glo_ok X G c1, c2, c3, decO_ok c4, of_decide_eq_true c5, decO_ok c6⟩
end Hd
namespace TF
open PySem PySem.Spec PyProof.Rows L2 Fr
open K05M (fv fl2 fl3 fdisc)
open K06M
def sp_lawW (K : PySem.W.Frag) : Sp := fun vs H Q _ => ∃ (a : Addr) (ns : List Int), vs = [.ref a] ∧ SqL K H a (ns.map V.int) ∧ ns.length ≤ 63 ∧ ∀ H', Q (.bl true) H'
abbrev sp_law (K : PySem.W.Frag) (_ _ : Addr) : Sp := sp_lawW K
section
variable {P : Program} {w : World} {K : PySem.W.Frag} {mg : Str → Option Value} {base : Heap} {C_Form C_Double : Addr}
theorem ok_law0 (T : Txt K mg C_Form C_Double) {f_ : Addr} {fd_ : FuncData} (F_ : Fun K "law" "law" s_law f_ fd_) : Gd.FnG P w K mg base 11 f_ fd_ ["_law_script"] (sp_law K C_Form C_Double) := by
  obtain ⟨p_Double___call__, f_Double___call__, fd_Double___call__, R_Double___call__, b_Double___call__, G_Double___call__⟩ := (ok_Double___call__ (P := P) (w := w) (base := base) T)
  obtain ⟨p_Double___init__, f_Double___init__, fd_Double___init__, R_Double___init__, b_Double___init__, G_Double___init__⟩ := (ok_Double___init__ (P := P) (w := w) (base := base) T)
  obtain ⟨p_Double_coefficients, f_Double_coefficients, fd_Double_coefficients, R_Double_coefficients, b_Double_coefficients, G_Double_coefficients⟩ := (ok_Double_coefficients (P := P) (w := w) (base := base) T)
  obtain ⟨p_Double_content, f_Double_content, fd_Double_content, R_Double_content, b_Double_content, G_Double_content⟩ := (ok_Double_content (P := P) (w := w) (base := base) T)
  obtain ⟨p_Double_led, f_Double_led, fd_Double_led, R_Double_led, b_Double_led, G_Double_led⟩ := (ok_Double_led (P := P) (w := w) (base := base) T)
  obtain ⟨f_l_cask, fd_l_cask, g_l_cask, k_l_cask, b_l_cask, G_l_cask⟩ := (ok_l_cask (P := P) (w := w) (base := base) T)
  obtain ⟨f_l_right, fd_l_right, g_l_right, k_l_right, b_l_right, G_l_right⟩ := (ok_l_right (P := P) (w := w) (base := base) T)
  refine Gd.okG F_ sc_law (fun vs H Q E h => ?_) (fun cdv A outer s H vs Q E hG hr h => ?_)
  · first | (obtain ⟨rfl, _⟩ := h; rfl) | (obtain ⟨_, rfl, _⟩ := h; rfl) | (obtain ⟨_, _, rfl, _⟩ := h; rfl) | (obtain ⟨_, _, _, rfl, _⟩ := h; rfl) | (obtain ⟨_, _, _, _, rfl, _⟩ := h; rfl) | (obtain ⟨_, _, _, _, _, rfl, _⟩ := h; rfl) | (obtain ⟨_, _, _, _, _, _, rfl, _⟩ := h; rfl) | (obtain ⟨_, _, _, _, _, _, _, rfl, _⟩ := h; rfl) | (obtain ⟨_, _, _, _, _, _, _, _, rfl, _⟩ := h; rfl) | (obtain ⟨_, _, _, _, _, _, _, _, _, rfl, _⟩ := h; rfl) | (obtain ⟨_, _, _, _, _, _, _, _, _, _, rfl, _⟩ := h; rfl) | (obtain ⟨_, _, _, _, _, _, _, _, _, _, _, rfl, _⟩ := h; rfl) | (obtain ⟨_, _, _, _, _, _, _, _, _, _, _, _, rfl, _⟩ := h; rfl) | (obtain ⟨_, _, _, _, _, _, _, _, _, _, _, _, _, rfl, _⟩ := h; rfl) | (obtain ⟨_, _, _, _, _, _, _, _, _, _, _, _, _, _, rfl, _⟩ := h; rfl) | (obtain ⟨_, _, _, _, _, _, _, _, _, _, _, _, _, _, _, rfl, _⟩ := h; rfl) | (obtain ⟨_, _, _, _, _, _, _, _, _, _, _, _, _, _, _, _, rfl, _⟩ := h; rfl) | (obtain ⟨_, _, _, _, _, _, _, _, _, _, _, _, _, _, _, _, _, rfl, _⟩ := h; rfl) | (obtain ⟨_, _, _, _, _, _, _, _, _, _, _, _, _, _, _, _, _, _, rfl, _⟩ := h; rfl) | (obtain ⟨_, _, _, _, _, _, _, _, _, _, _, _, _, _, _, _, _, _, _, rfl, _⟩ := h; rfl) | (obtain ⟨_, _, _, _, _, _, _, _, _, _, _, _, _, _, _, _, _, _, _, _, rfl, _⟩ := h; rfl) | (obtain ⟨_, _, _, _, _, _, _, _, _, _, _, _, _, _, _, _, _, _, _, _, _, rfl, _⟩ := h; rfl) | (obtain ⟨_, _, _, _, _, _, _, _, _, _, _, _, _, _, _, _, _, _, _, _, _, _, rfl, _⟩ := h; rfl) | (obtain ⟨_, _, _, _, _, _, _, _, _, _, _, _, _, _, _, _, _, _, _, _, _, _, _, rfl, _⟩ := h; rfl)
  · obtain ⟨a, ns, rfl, hS, hn, q⟩ := h
    refine ⟨_, (pss_cons (ps_for PassesOwn.never rfl (pi_range1 (by rfl) T.b_range (pa_cons (pe_callB (call_max2 rfl) (by rfl) T.b_max (by decide +kernel) (pa_cons pe_int (pa_cons (pe_callB (call_min2 rfl) (by rfl) T.b_min (by decide +kernel) (pa_cons pe_int (pa_cons (pe_callB call_len_seq (by rfl) T.b_len PySem.boot_len (pa_cons (pv 0) pa_nil)) pa_nil))) pa_nil))) pa_nil)) (pg_name (i := 1) sc_law.nd rfl (.inl rfl))
      (pss_cons (ps_set (i := 2) sc_law.nd rfl (.inl rfl) (pe_call G_l_cask (hr.mono (by decide)) (by rfl) g_l_cask k_l_cask b_l_cask .nil pass0 (pa_cons (pv 0) (pa_cons (pv 1) pa_nil))))
    (pss_one (ps_if (PW.pt (pw_or (pt_not (pt_val (Gd.pe_callG G_l_right hG (hr.mono (by decide)) (by rfl) g_l_right k_l_right b_l_right (pa_cons (pv 2) pa_nil)))) (pw_or1 (pt_not (pt_val (Gd.pe_callG G_l_right hG (hr.mono (by decide)) (by rfl) g_l_right k_l_right b_l_right (pa_cons (pv 2) pa_nil)))))))
      (pss_one (ps_ret pe_bl))
      pss_nil))))
    (Evl.pss_cut (ps_set (i := 3) sc_law.nd rfl (.inl rfl) (pe_lst (pa_cons (StX.pe_callO (pe_make R_Double___init__ G_Double___init__ (hr.mono (by decide)) (by rfl) T.g_Double b_Double___init__ .nil pass0 (pa_cons (pe_tup (pa_cons pe_int (pa_cons pe_int (pa_cons pe_int pa_nil)))) pa_nil)) R_Double___call__ (G_Double___call__.raw b_Double___call__ .nil) (hr.mono (by decide)) pass0 (pa_cons pe_int (pa_cons (pe_un un_neg pe_int) pa_nil))) (pa_cons (pe_prop (pe_meth (pe_make R_Double___init__ G_Double___init__ (hr.mono (by decide)) (by rfl) T.g_Double b_Double___init__ .nil pass0 (pa_cons (pe_tup (pa_cons pe_int (pa_cons pe_int (pa_cons pe_int pa_nil)))) pa_nil)) T.cl_Double R_Double_led G_Double_led (hr.mono (by decide)) b_Double_led .nil pass0 (pa_cons (pe_tup (pa_cons (pe_tup (pa_cons pe_int (pa_cons pe_int pa_nil))) (pa_cons (pe_tup (pa_cons pe_int (pa_cons pe_int pa_nil))) pa_nil))) pa_nil)) T.cl_Double R_Double_coefficients G_Double_coefficients (hr.mono (by decide)) b_Double_coefficients .nil pass0 (by rfl)) (pa_cons (pe_prop (pe_make R_Double___init__ G_Double___init__ (hr.mono (by decide)) (by rfl) T.g_Double b_Double___init__ .nil pass0 (pa_cons (pe_tup (pa_cons pe_int (pa_cons pe_int (pa_cons (pe_un un_neg pe_int) pa_nil)))) pa_nil)) T.cl_Double R_Double_content G_Double_content (hr.mono (by decide)) b_Double_content .nil pass0 (by rfl)) pa_nil)))))
    (pss_one (ps_ret (pe_and (pe_cmpR (op_eqD hr.units) (pv 3) (pe_lst (pa_cons pe_int (pa_cons (pe_tup (pa_cons pe_int (pa_cons pe_int (pa_cons pe_int pa_nil)))) (pa_cons pe_int pa_nil)))) (nomark _)) (pe_one (pe_cmpR op_eq (pe_prop (pe_make R_Double___init__ G_Double___init__ (hr.mono (by decide)) (by rfl) T.g_Double b_Double___init__ .nil pass0 (pa_cons (pe_tup (pa_cons pe_int (pa_cons pe_int (pa_cons pe_int pa_nil)))) pa_nil)) T.cl_Double R_Double_content G_Double_content (hr.mono (by decide)) b_Double_content .nil pass0 (by rfl)) pe_int (nomark _)))))))), ?_⟩
    have hm : ∀ z : Int, z ≤ 63 → -(2 ^ 62) ≤ (if (if z < 3 then z else 3) > 1 then (if z < 3 then z else 3) else 1) ∧ (if (if z < 3 then z else 3) > 1 then (if z < 3 then z else 3) else 1) < 2 ^ 62 := fun z hz => by
      split <;> split <;> omega
    have hm2 := hm (((ns.map V.int).length : Nat) : Int) (by rw [List.length_map]; omega)
    refine ⟨_, rfl, a, _, rfl, .inl hS, _, _, rfl, _, _, rfl, _, rfl, hm2.1, hm2.2, ?_⟩
    refine for_range (lo := 0) (fun i σ H' => ∃ y1 y2, σ = [some (.ref a), y1, y2, none] ∧ Ex0 H H') ⟨none, none, rfl, Ex0.refl H⟩ ?_ ?_
    · rintro i σ H' hi ⟨y1, y2, rfl, e⟩
      refine ⟨_, rfl, _, rfl, a, ns, i, by show [V.ref a, V.int (0 + (i : Int))] = _; rw [Int.zero_add], e.sqL (fun z => z) hS, fun p H1 np e1 hv => ?_⟩
      have hp0 : H p = none := Fx.free e (fun z => z) np
      have e01 : Ex0 H H1 := e.trans e1
      refine ⟨_, rfl, p, rfl, hv, fun H3 e3 => ⟨_, rfl, ?_⟩⟩
      refine iteF ⟨_, rfl, p, rfl, e3.1, fun H4 e4 => ⟨_, rfl, ?_⟩⟩
      refine iteF ?_
      exact ⟨_, _, rfl, ex_fv e01 hp0 (e3.trans e4)⟩
    · rintro σ H' ⟨y1, y2, rfl, e⟩
      have B1 : B 1000 1 := ⟨by decide, by decide⟩
      have B2 : B 1000 2 := ⟨by decide, by decide⟩
      have B0 : B 1000 0 := ⟨by decide, by decide⟩
      have S0 : Short 0 := ⟨by decide, by decide⟩
      have S1 : Short 1 := ⟨by decide, by decide⟩
      have S2 : Short (-1) := ⟨by decide, by decide⟩
      have S3 : Short 3 := ⟨by decide, by decide⟩
      have sh1 : ∀ n ∈ [(1 : Int), 0, 2], Short n := fun n h => by
        simp only [List.mem_cons, List.mem_nil_iff, or_false] at h
        rcases h with rfl | rfl | rfl <;> exact ⟨by decide, by decide⟩
      have sh2 : ∀ n ∈ [(4 : Int), 6, -2], Short n := fun n h => by
        simp only [List.mem_cons, List.mem_nil_iff, or_false] at h
        rcases h with rfl | rfl | rfl <;> exact ⟨by decide, by decide⟩
      have sh3 : ∀ n ∈ [(0 : Int), 0, 0], Short n := fun n h => by
        simp only [List.mem_cons, List.mem_nil_iff, or_false] at h
        rcases h with rfl | rfl | rfl <;> exact ⟨by decide, by decide⟩
      refine ⟨fun σ H2 => ∃ (l t1 : Addr), σ = [some (.ref a), y1, y2, some (.ref l)] ∧ H2 l = some (.lst [.int 11, .ref t1, .int 2]) ∧ Ti H2 t1 [2, 4, 3], ?_, ?_⟩
      · refine ⟨sl3, fun t nt => ?_⟩
        intro x dx nx ndx _
        have ht : Ti (upd H' t (.tup [.int 1, .int 0, .int 2])) t [1, 0, 2] := upd_same
        refine ⟨x, dx, t, [1, 0, 2], rfl, upd_same, made_at nx ndx ht, rfl, sh1, fun H2 e2 h2 => ⟨rfl, ?_⟩⟩
        obtain ⟨e3, hx⟩ := fo_made nx ndx ht e2 h2
        obtain ⟨dd, tt, hx1, hx2⟩ := id hx
        refine ⟨x, rfl, _, rfl, .inr ⟨_, _, hx1⟩, x, 1, 0, 2, 3, -1, rfl, hx, B1, B0, B2, S3, S2, ?_⟩
        refine ⟨sl3, fun t2 nt2 => ?_⟩
        have ht2 : Ti (upd H2 t2 (.tup [.int 1, .int 0, .int 2])) t2 [1, 0, 2] := upd_same
        intro x2 dx2 nx2 ndx2 _
        refine ⟨x2, dx2, t2, [1, 0, 2], rfl, upd_same, made_at nx2 ndx2 ht2, rfl, sh1, fun H3 e4 h4 => ⟨rfl, ?_⟩⟩
        obtain ⟨e5, hw⟩ := fo_made nx2 ndx2 ht2 e4 h4
        obtain ⟨dd, tt, hw1, hw2⟩ := id hw
        refine ⟨x2, dd, _, rfl, hw1, rfl, sl2, fun a1 m1 => ⟨sl2, fun a2 m2 => ⟨sl2, fun a3 m3 => ?_⟩⟩⟩
        have w1 := t4_new m1 m2 m3
        refine ⟨x2, a3, 1, 0, 2, 0, 1, 1, 1, rfl, Ex0.fo w1.1 hw, w1.2, B1, B0, B2, ⟨S0, S1, S1, S1, .inr (by decide)⟩, fun z1 H4 e6 hz1 => ?_⟩
        have hz1' : FormAt C_Double H4 z1 [2, 4, 3] := hz1
        obtain ⟨dd, tt, hz2, hz3⟩ := id hz1'
        refine ⟨z1, dd, _, rfl, hz2, z1, _, rfl, hz1', fun t5 ht5 => ?_⟩
        refine ⟨_, rfl, sl3, fun t3 nt3 => ?_⟩
        have e7 : Ex0 H4 (upd H4 t3 (.tup [.int 4, .int 6, .int (-2)])) := Ex0.new nt3
        have ht3 : Ti (upd H4 t3 (.tup [.int 4, .int 6, .int (-2)])) t3 [4, 6, -2] := upd_same
        intro x3 dx3 nx3 ndx3 _
        refine ⟨x3, dx3, t3, [4, 6, -2], rfl, upd_same, made_at nx3 ndx3 ht3, rfl, sh2, fun H5 e8 h8 => ⟨rfl, ?_⟩⟩
        obtain ⟨e9, hv⟩ := fo_made nx3 ndx3 ht3 e8 h8
        obtain ⟨dd, tt, hv1, hv2⟩ := id hv
        refine ⟨x3, dd, _, rfl, hv1, x3, [4, 6, -2], rfl, hv, sl3, fun l nl => ?_⟩
        have e10 := Ex0.new (o := .lst [.int 11, .ref t5, .int 2]) nl
        exact ⟨l, t5, rfl, upd_same, Ex0.ti ((e7.trans e9).trans e10) ht5⟩
      rintro σ H2 ⟨l, t1, rfl, hl, h1⟩
      refine ⟨_, rfl, sl3, fun t4 n4 => ⟨sl3, fun l2 nl2 => ?_⟩⟩
      have e1 : Ex0 H2 (upd H2 t4 (.tup [.int 2, .int 4, .int 3])) := Ex0.new n4
      have e2 : Ex0 (upd H2 t4 (.tup [.int 2, .int 4, .int 3])) (upd (upd H2 t4 (.tup [.int 2, .int 4, .int 3])) l2 (.lst [.int 11, .ref t4, .int 2])) := Ex0.new nl2
      have h4 : Ti (upd H2 t4 (.tup [.int 2, .int 4, .int 3])) t4 [2, 4, 3] := upd_same
      have e12 := e1.trans e2
      refine ⟨.list [.int 11, .tuple ([2, 4, 3].map .int), .int 2], .list [.int 11, .tuple ([2, 4, 3].map .int), .int 2], .lst (SqL.of (Ex0.ap e12 hl)) (.cons (.int _) (.cons (.tup (SqT.of (Ex0.ti e12 h1)) (dp_ints _)) (.cons (.int _) .nil))), .lst (SqL.of upd_same) (.cons (.int _) (.cons (.tup (SqT.of (Ex0.ti e2 h4)) (dp_ints _)) (.cons (.int _) .nil))), by decide +kernel, by decide +kernel, _, rfl, ?_⟩
      refine iteT ?_
      refine ⟨sl3, fun t6 n6 => ?_⟩
      intro x4 dx4 nx4 ndx4 _
      refine ⟨x4, dx4, t6, [0, 0, 0], rfl, upd_same, made_at nx4 ndx4 upd_same, rfl, sh3, fun H7 e13 h13 => ⟨rfl, ?_⟩⟩
      obtain ⟨e14, hu⟩ := fo_made nx4 ndx4 (show Ti _ t6 [0, 0, 0] from upd_same) e13 h13
      obtain ⟨dd, tt, hu1, hu2⟩ := id hu
      refine ⟨x4, dd, _, rfl, hu1, x4, [0, 0, 0], rfl, hu, rfl, ?_⟩
      exact q H7
end
def e0 : Hd.Dd := ⟨fun K => He.ga K "is_any_integer", "is_any_integer", "is_any_integer", s_is_any_integer, []⟩
def e1 : Hd.Dd := ⟨fun K => He.ga K "is_short_integer", "is_short_integer", "is_short_integer", s_is_short_integer, []⟩
def e2 : Hd.Dd := ⟨fun K => He.ga K "are_any_integers", "are_any_integers", "are_any_integers", s_are_any_integers, []⟩
def e3 : Hd.Dd := ⟨fun K => He.ga K "are_short_integers", "are_short_integers", "are_short_integers", s_are_short_integers, []⟩
def e4 : Hd.Dd := ⟨fun K => He.ga K "check_integer", "check_integer", "check_integer", s_check_integer, []⟩
def e5 : Hd.Dd := ⟨fun K => He.ga K "determinant_of", "determinant_of", "determinant_of", s_determinant_of, []⟩
def e6 : Hd.Dd := ⟨fun K => He.ga K "is_change", "is_change", "is_change", s_is_change, []⟩
def e7 : Hd.Dd := ⟨fun K => He.ga K "is_short_change", "is_short_change", "is_short_change", s_is_short_change, []⟩
def e8 : Hd.Dd := ⟨fun K => He.ga K "check_change", "check_change", "check_change", s_check_change, []⟩
def e9 : Hd.Dd := ⟨fun K => He.ga K "both", "both", "both", s_both, []⟩
def e10 : Hd.Dd := ⟨fun K => He.ga K "taken_back", "taken_back", "taken_back", s_taken_back, []⟩
def e11 : Hd.Dd := ⟨fun K => He.ga K "joined", "joined", "joined", s_joined, []⟩
def e12 : Hd.Dd := ⟨fun K => He.ga K "undone", "undone", "undone", s_undone, []⟩
def e13 : Hd.Dd := ⟨fun K => He.ga K "shared_divisor", "shared_divisor", "shared_divisor", s_shared_divisor, []⟩
def e14 : Hd.Dd := ⟨fun K => He.ga K "double_value", "double_value", "double_value", s_double_value, []⟩
def e15 : Hd.Dd := ⟨fun K => He.ga K "double_discriminant", "double_discriminant", "double_discriminant", s_double_discriminant, []⟩
def e16 : Hd.Dd := ⟨fun K => He.ga K "double_led", "double_led", "double_led", s_double_led, []⟩
def e17 : Hd.Dd := ⟨fun K => He.ga K "double_of", "double_of", "double_of", s_double_of, []⟩
def e18 : Hd.Dd := ⟨fun K => He.ma K (He.ga K "Double") "__init__", "__init__", "Double.__init__", s_Double___init__, []⟩
def e19 : Hd.Dd := ⟨fun K => Hd.pa K (He.ga K "Double") "coefficients", "coefficients", "Double.coefficients", s_Double_coefficients, []⟩
def e20 : Hd.Dd := ⟨fun K => Hd.pa K (He.ga K "Double") "discriminant", "discriminant", "Double.discriminant", s_Double_discriminant, []⟩
def e21 : Hd.Dd := ⟨fun K => Hd.pa K (He.ga K "Double") "content", "content", "Double.content", s_Double_content, []⟩
def e22 : Hd.Dd := ⟨fun K => He.ma K (He.ga K "Double") "__call__", "__call__", "Double.__call__", s_Double___call__, []⟩
def e23 : Hd.Dd := ⟨fun K => He.ma K (He.ga K "Double") "led", "led", "Double.led", s_Double_led, []⟩
def e24 : Hd.Dd := ⟨fun K => He.ma K (He.ga K "Double") "__neg__", "__neg__", "Double.__neg__", s_Double___neg__, []⟩
def e25 : Hd.Dd := ⟨fun K => He.ma K (He.ga K "Double") "__eq__", "__eq__", "Double.__eq__", s_Double___eq__, []⟩
def e26 : Hd.Dd := ⟨fun K => He.ma K (He.ga K "Double") "__str__", "__str__", "Double.__str__", s_Double___str__, []⟩
def e27 : Hd.Dd := ⟨fun K => He.ga K "form_value", "form_value", "form_value", s_form_value, []⟩
def e28 : Hd.Dd := ⟨fun K => He.ga K "form_discriminant", "form_discriminant", "form_discriminant", s_form_discriminant, []⟩
def e29 : Hd.Dd := ⟨fun K => He.ga K "form_led", "form_led", "form_led", s_form_led, []⟩
def e30 : Hd.Dd := ⟨fun K => He.ga K "form_of", "form_of", "form_of", s_form_of, []⟩
def e31 : Hd.Dd := ⟨fun K => He.ma K (He.ga K "Form") "__init__", "__init__", "Form.__init__", s_Form___init__, []⟩
def e32 : Hd.Dd := ⟨fun K => Hd.pa K (He.ga K "Form") "coefficients", "coefficients", "Form.coefficients", s_Form_coefficients, []⟩
def e33 : Hd.Dd := ⟨fun K => Hd.pa K (He.ga K "Form") "discriminant", "discriminant", "Form.discriminant", s_Form_discriminant, []⟩
def e34 : Hd.Dd := ⟨fun K => Hd.pa K (He.ga K "Form") "content", "content", "Form.content", s_Form_content, []⟩
def e35 : Hd.Dd := ⟨fun K => He.ma K (He.ga K "Form") "__call__", "__call__", "Form.__call__", s_Form___call__, []⟩
def e36 : Hd.Dd := ⟨fun K => He.ma K (He.ga K "Form") "led", "led", "Form.led", s_Form_led, []⟩
def e37 : Hd.Dd := ⟨fun K => He.ma K (He.ga K "Form") "__neg__", "__neg__", "Form.__neg__", s_Form___neg__, []⟩
def e38 : Hd.Dd := ⟨fun K => He.ma K (He.ga K "Form") "__eq__", "__eq__", "Form.__eq__", s_Form___eq__, []⟩
def e39 : Hd.Dd := ⟨fun K => He.ga K "_law_cask", "_law_cask", "_law_cask", s_l_cask, []⟩
def e40 : Hd.Dd := ⟨fun K => He.ga K "_law_tap", "_law_tap", "_law_tap", s_l_tap, []⟩
def e41 : Hd.Dd := ⟨fun K => He.ga K "_law_one", "_law_one", "_law_one", s_l_one, []⟩
def e42 : Hd.Dd := ⟨fun K => He.ga K "_law_number", "_law_number", "_law_number", s_l_number, []⟩
def e43 : Hd.Dd := ⟨fun K => He.ga K "_law_numbers", "_law_numbers", "_law_numbers", s_l_numbers, []⟩
def e44 : Hd.Dd := ⟨fun K => He.ga K "_law_then", "_law_then", "_law_then", s_l_then, []⟩
def e45 : Hd.Dd := ⟨fun K => He.ga K "_law_change", "_law_change", "_law_change", s_l_change, []⟩
def e46 : Hd.Dd := ⟨fun K => He.ga K "_law_common", "_law_common", "_law_common", s_l_common, []⟩
def e47 : Hd.Dd := ⟨fun K => He.ga K "_law_product", "_law_product", "_law_product", s_l_product, []⟩
def e48 : Hd.Dd := ⟨fun K => He.ga K "_law_sum", "_law_sum", "_law_sum", s_l_sum, []⟩
def e49 : Hd.Dd := ⟨fun K => He.ga K "_law_many", "_law_many", "_law_many", s_l_many, []⟩
def e50 : Hd.Dd := ⟨fun K => He.ga K "_law_value", "_law_value", "_law_value", s_l_value, []⟩
def e51 : Hd.Dd := ⟨fun K => He.ga K "_law_put", "_law_put", "_law_put", s_l_put, []⟩
def e52 : Hd.Dd := ⟨fun K => He.ga K "_law_entry", "_law_entry", "_law_entry", s_l_entry, []⟩
def e53 : Hd.Dd := ⟨fun K => He.ga K "_law_right", "_law_right", "_law_right", s_l_right, []⟩
def e54 : Hd.Dd := ⟨fun K => He.ga K "law", "law", "law", s_law, []⟩
def dd0 : List Hd.Dd := [e0, e1, e2, e3, e4, e5, e6, e7, e8, e9, e10, e11, e12, e13, e14, e15, e16, e17, e18, e19]
def dd1 : List Hd.Dd := [e20, e21, e22, e23, e24, e25, e26, e27, e28, e29, e30, e31, e32, e33, e34, e35, e36, e37, e38, e39]
def dd2 : List Hd.Dd := [e40, e41, e42, e43, e44, e45, e46, e47, e48, e49, e50, e51, e52, e53, e54]
def dd : List Hd.Dd := dd0 ++ (dd1 ++ (dd2))
def g0 : Hd.Fb := fun K => (fun K => (He.Fa.glo "Form").ok K) K
def g1 : Hd.Fb := fun K => (fun K => (He.Fa.cls "Form").ok K) K
def g2 : Hd.Fb := fun K => Hd.tyB "Form" K
def g3 : Hd.Fb := fun K => (fun K => (He.Fa.noat "Form" "_coefficients").ok K) K
def g4 : Hd.Fb := fun K => (fun K => (He.Fa.glo "Double").ok K) K
def g5 : Hd.Fb := fun K => (fun K => (He.Fa.cls "Double").ok K) K
def g6 : Hd.Fb := fun K => Hd.tyB "Double" K
def g7 : Hd.Fb := fun K => (fun K => (He.Fa.noat "Double" "_coefficients").ok K) K
def g8 : Hd.Fb := fun K => Hd.foreB "Double" "tuple" K
def g9 : Hd.Fb := fun K => Hd.foreCB "Double" "Form" K
def g10 : Hd.Fb := fun K => (fun K => (He.Fa.glo "is_any_integer").ok K) K
def g11 : Hd.Fb := fun K => (fun K => (He.Fa.glo "is_short_integer").ok K) K
def g12 : Hd.Fb := fun K => (fun K => (He.Fa.glo "are_any_integers").ok K) K
def g13 : Hd.Fb := fun K => (fun K => (He.Fa.glo "are_short_integers").ok K) K
def g14 : Hd.Fb := fun K => (fun K => (He.Fa.glo "check_integer").ok K) K
def g15 : Hd.Fb := fun K => (fun K => (He.Fa.glo "determinant_of").ok K) K
def g16 : Hd.Fb := fun K => (fun K => (He.Fa.glo "is_change").ok K) K
def g17 : Hd.Fb := fun K => (fun K => (He.Fa.glo "is_short_change").ok K) K
def g18 : Hd.Fb := fun K => (fun K => (He.Fa.glo "check_change").ok K) K
def g19 : Hd.Fb := fun K => (fun K => (He.Fa.glo "both").ok K) K
def g20 : Hd.Fb := fun K => (fun K => (He.Fa.glo "taken_back").ok K) K
def g21 : Hd.Fb := fun K => (fun K => (He.Fa.glo "joined").ok K) K
def g22 : Hd.Fb := fun K => (fun K => (He.Fa.glo "undone").ok K) K
def g23 : Hd.Fb := fun K => (fun K => (He.Fa.glo "shared_divisor").ok K) K
def g24 : Hd.Fb := fun K => (fun K => (He.Fa.glo "double_value").ok K) K
def g25 : Hd.Fb := fun K => (fun K => (He.Fa.glo "double_discriminant").ok K) K
def g26 : Hd.Fb := fun K => (fun K => (He.Fa.glo "double_led").ok K) K
def g27 : Hd.Fb := fun K => (fun K => (He.Fa.glo "double_of").ok K) K
def g28 : Hd.Fb := fun K => (fun K => (He.Fa.mkr "Double").ok K) K
def g29 : Hd.Fb := fun K => Hd.propB "Double" "coefficients" K
def g30 : Hd.Fb := fun K => Hd.propB "Double" "discriminant" K
def g31 : Hd.Fb := fun K => Hd.propB "Double" "content" K
def g32 : Hd.Fb := fun K => Hd.callB "Double" K
def g33 : Hd.Fb := fun K => (fun K => (He.Fa.meth "Double" "led").ok K) K
def g34 : Hd.Fb := fun K => (fun K => (He.Fa.meth "Double" "__neg__").ok K) K
def g35 : Hd.Fb := fun K => Hd.eqB "Double" K
def g36 : Hd.Fb := fun K => (fun K => (He.Fa.meth "Double" "__str__").ok K) K
def g37 : Hd.Fb := fun K => (fun K => (He.Fa.glo "form_value").ok K) K
def g38 : Hd.Fb := fun K => (fun K => (He.Fa.glo "form_discriminant").ok K) K
def g39 : Hd.Fb := fun K => (fun K => (He.Fa.glo "form_led").ok K) K
def g40 : Hd.Fb := fun K => (fun K => (He.Fa.glo "form_of").ok K) K
def g41 : Hd.Fb := fun K => (fun K => (He.Fa.mkr "Form").ok K) K
def g42 : Hd.Fb := fun K => Hd.propB "Form" "coefficients" K
def g43 : Hd.Fb := fun K => Hd.propB "Form" "discriminant" K
def g44 : Hd.Fb := fun K => Hd.propB "Form" "content" K
def g45 : Hd.Fb := fun K => Hd.callB "Form" K
def g46 : Hd.Fb := fun K => (fun K => (He.Fa.meth "Form" "led").ok K) K
def g47 : Hd.Fb := fun K => (fun K => (He.Fa.meth "Form" "__neg__").ok K) K
def g48 : Hd.Fb := fun K => Hd.eqB "Form" K
def g49 : Hd.Fb := fun K => (fun K => (He.Fa.glo "_law_cask").ok K) K
def g50 : Hd.Fb := fun K => (fun K => (He.Fa.glo "_law_tap").ok K) K
def g51 : Hd.Fb := fun K => (fun K => (He.Fa.glo "_law_one").ok K) K
def g52 : Hd.Fb := fun K => (fun K => (He.Fa.glo "_law_number").ok K) K
def g53 : Hd.Fb := fun K => (fun K => (He.Fa.glo "_law_numbers").ok K) K
def g54 : Hd.Fb := fun K => (fun K => (He.Fa.glo "_law_then").ok K) K
def g55 : Hd.Fb := fun K => (fun K => (He.Fa.glo "_law_change").ok K) K
def g56 : Hd.Fb := fun K => (fun K => (He.Fa.glo "_law_common").ok K) K
def g57 : Hd.Fb := fun K => (fun K => (He.Fa.glo "_law_product").ok K) K
def g58 : Hd.Fb := fun K => (fun K => (He.Fa.glo "_law_sum").ok K) K
def g59 : Hd.Fb := fun K => (fun K => (He.Fa.glo "_law_many").ok K) K
def g60 : Hd.Fb := fun K => (fun K => (He.Fa.glo "_law_value").ok K) K
def g61 : Hd.Fb := fun K => (fun K => (He.Fa.glo "_law_put").ok K) K
def g62 : Hd.Fb := fun K => (fun K => (He.Fa.glo "_law_entry").ok K) K
def g63 : Hd.Fb := fun K => (fun K => (He.Fa.glo "_law_right").ok K) K
def g64 : Hd.Fb := fun K => (fun K => (He.Fa.glo "law").ok K) K
def g65 : Hd.Fb := fun K => (fun K => (He.Fa.free "abs").ok K) K
def g66 : Hd.Fb := fun K => (fun K => (He.Fa.free "all").ok K) K
def g67 : Hd.Fb := fun K => (fun K => (He.Fa.free "bool").ok K) K
def g68 : Hd.Fb := fun K => (fun K => (He.Fa.free "enumerate").ok K) K
def g69 : Hd.Fb := fun K => (fun K => (He.Fa.free "int").ok K) K
def g70 : Hd.Fb := fun K => (fun K => (He.Fa.free "isinstance").ok K) K
def g71 : Hd.Fb := fun K => (fun K => (He.Fa.free "len").ok K) K
def g72 : Hd.Fb := fun K => (fun K => (He.Fa.free "list").ok K) K
def g73 : Hd.Fb := fun K => (fun K => (He.Fa.free "max").ok K) K
def g74 : Hd.Fb := fun K => (fun K => (He.Fa.free "min").ok K) K
def g75 : Hd.Fb := fun K => (fun K => (He.Fa.free "range").ok K) K
def g76 : Hd.Fb := fun K => (fun K => (He.Fa.free "str").ok K) K
def g77 : Hd.Fb := fun K => (fun K => (He.Fa.free "sum").ok K) K
def g78 : Hd.Fb := fun K => (fun K => (He.Fa.free "tuple").ok K) K
def g79 : Hd.Fb := fun K => (fun K => (He.Fa.free "zip").ok K) K
def g80 : Hd.Fb := fun K => (fun K => (He.Fa.int "LIMIT" (1000000000000000000000000000000000000000000000000000000000000)).ok K) K
def g81 : Hd.Fb := fun K => Hd.bltB "gcd" "math.gcd" K
def fa0 : List Hd.Fb := [g0, g1, g2, g3, g4, g5, g6, g7, g8, g9, g10, g11, g12, g13, g14, g15, g16, g17, g18, g19]
def fa1 : List Hd.Fb := [g20, g21, g22, g23, g24, g25, g26, g27, g28, g29, g30, g31, g32, g33, g34, g35, g36, g37, g38, g39]
def fa2 : List Hd.Fb := [g40, g41, g42, g43, g44, g45, g46, g47, g48, g49, g50, g51, g52, g53, g54, g55, g56, g57, g58, g59]
def fa3 : List Hd.Fb := [g60, g61, g62, g63, g64, g65, g66, g67, g68, g69, g70, g71, g72, g73, g74, g75, g76, g77, g78, g79]
def fa4 : List Hd.Fb := [g80, g81]
def fa : List Hd.Fb := fa0 ++ (fa1 ++ (fa2 ++ (fa3 ++ (fa4))))
def names0 : List Str := ["_wall", "__name__", "RingError", "InvalidForm", "InvalidChange", "InvalidDouble", "ParseError", "InvalidNumber", "DIGITS", "LIMIT", "is_any_integer", "is_short_integer", "is_between", "are_any_integers", "are_short_integers", "is_written_integer", "check_integer", "check_between", "determinant_of", "is_change", "is_short_change", "check_change", "both", "taken_back", "joined", "undone", "shared_divisor", "double_value", "double_discriminant", "double_led"]
def names1 : List Str := ["double_of", "Double", "form_value", "form_discriminant", "form_led", "form_of", "Form", "_law_cask", "_law_tap", "_law_one", "_law_number", "_law_numbers", "_law_then", "_law_change", "_law_common", "_law_product", "_law_sum", "_law_many", "_law_value", "_law_put", "_law_entry", "_law_right"]
def names : List Str := names0 ++ (names1)
abbrev RR : PySem.W.OpenRow := PySem.W.OpenLaw.row PySem.Challenge.rw_formrings_k08_whole_doubles_led_by_chang
abbrev vw : Program := PySem.W.view RR.prog [0, 59]
abbrev hk : PySem.W.Hook := Hd.hookM 5 fa dd
def ob (s : PySem.W.SharedT) : Hd.AlM := Hd.obsMG 5 fa dd (HandSHeadRun.getT s)
theorem ob_eq (s : PySem.W.SharedT) : ob s = hk.obs s.abs := Hd.obsMG_eq (HandSHeadRun.getT_eq s)
theorem run (w : World) : HandSHeadRun.RunEqI RR vw hk ob 9000 names w := by
  unfold HandSHeadRun.RunEqI
  kernel_rfl
theorem facts {P : Program} {w : World} {K : PySem.W.Frag} {h : Heap} {mg : Str → Option Value} {f : Addr} (X : K.In h) (G : h.Ns mainGlobals mg) (hfa : mg ("law" : Str) = some (.ref f)) (c : Hd.SaysM fa dd K) :
    ∃ fd : FuncData, (∀ (s : Shared) (v : Value), BindsTo s fd ⟨[v], []⟩ [("_law_script", v)]) ∧ ∀ base : Heap, K.In base → base.Ns mainGlobals mg → Gd.FnG P w K mg base 11 f fd ["_law_script"] (sp_lawW K) := by
  obtain ⟨fd0, F0⟩ := c.def_ 0 (d := e0) rfl
  obtain ⟨fd1, F1⟩ := c.def_ 1 (d := e1) rfl
  obtain ⟨fd2, F2⟩ := c.def_ 2 (d := e2) rfl
  obtain ⟨fd3, F3⟩ := c.def_ 3 (d := e3) rfl
  obtain ⟨fd4, F4⟩ := c.def_ 4 (d := e4) rfl
  obtain ⟨fd5, F5⟩ := c.def_ 5 (d := e5) rfl
  obtain ⟨fd6, F6⟩ := c.def_ 6 (d := e6) rfl
  obtain ⟨fd7, F7⟩ := c.def_ 7 (d := e7) rfl
  obtain ⟨fd8, F8⟩ := c.def_ 8 (d := e8) rfl
  obtain ⟨fd9, F9⟩ := c.def_ 9 (d := e9) rfl
  obtain ⟨fd10, F10⟩ := c.def_ 10 (d := e10) rfl
  obtain ⟨fd11, F11⟩ := c.def_ 11 (d := e11) rfl
  obtain ⟨fd12, F12⟩ := c.def_ 12 (d := e12) rfl
  obtain ⟨fd13, F13⟩ := c.def_ 13 (d := e13) rfl
  obtain ⟨fd14, F14⟩ := c.def_ 14 (d := e14) rfl
  obtain ⟨fd15, F15⟩ := c.def_ 15 (d := e15) rfl
  obtain ⟨fd16, F16⟩ := c.def_ 16 (d := e16) rfl
  obtain ⟨fd17, F17⟩ := c.def_ 17 (d := e17) rfl
  obtain ⟨fd18, F18⟩ := c.def_ 18 (d := e18) rfl
  obtain ⟨fd19, F19⟩ := c.def_ 19 (d := e19) rfl
  obtain ⟨fd20, F20⟩ := c.def_ 20 (d := e20) rfl
  obtain ⟨fd21, F21⟩ := c.def_ 21 (d := e21) rfl
  obtain ⟨fd22, F22⟩ := c.def_ 22 (d := e22) rfl
  obtain ⟨fd23, F23⟩ := c.def_ 23 (d := e23) rfl
  obtain ⟨fd24, F24⟩ := c.def_ 24 (d := e24) rfl
  obtain ⟨fd25, F25⟩ := c.def_ 25 (d := e25) rfl
  obtain ⟨fd26, F26⟩ := c.def_ 26 (d := e26) rfl
  obtain ⟨fd27, F27⟩ := c.def_ 27 (d := e27) rfl
  obtain ⟨fd28, F28⟩ := c.def_ 28 (d := e28) rfl
  obtain ⟨fd29, F29⟩ := c.def_ 29 (d := e29) rfl
  obtain ⟨fd30, F30⟩ := c.def_ 30 (d := e30) rfl
  obtain ⟨fd31, F31⟩ := c.def_ 31 (d := e31) rfl
  obtain ⟨fd32, F32⟩ := c.def_ 32 (d := e32) rfl
  obtain ⟨fd33, F33⟩ := c.def_ 33 (d := e33) rfl
  obtain ⟨fd34, F34⟩ := c.def_ 34 (d := e34) rfl
  obtain ⟨fd35, F35⟩ := c.def_ 35 (d := e35) rfl
  obtain ⟨fd36, F36⟩ := c.def_ 36 (d := e36) rfl
  obtain ⟨fd37, F37⟩ := c.def_ 37 (d := e37) rfl
  obtain ⟨fd38, F38⟩ := c.def_ 38 (d := e38) rfl
  obtain ⟨fd39, F39⟩ := c.def_ 39 (d := e39) rfl
  obtain ⟨fd40, F40⟩ := c.def_ 40 (d := e40) rfl
  obtain ⟨fd41, F41⟩ := c.def_ 41 (d := e41) rfl
  obtain ⟨fd42, F42⟩ := c.def_ 42 (d := e42) rfl
  obtain ⟨fd43, F43⟩ := c.def_ 43 (d := e43) rfl
  obtain ⟨fd44, F44⟩ := c.def_ 44 (d := e44) rfl
  obtain ⟨fd45, F45⟩ := c.def_ 45 (d := e45) rfl
  obtain ⟨fd46, F46⟩ := c.def_ 46 (d := e46) rfl
  obtain ⟨fd47, F47⟩ := c.def_ 47 (d := e47) rfl
  obtain ⟨fd48, F48⟩ := c.def_ 48 (d := e48) rfl
  obtain ⟨fd49, F49⟩ := c.def_ 49 (d := e49) rfl
  obtain ⟨fd50, F50⟩ := c.def_ 50 (d := e50) rfl
  obtain ⟨fd51, F51⟩ := c.def_ 51 (d := e51) rfl
  obtain ⟨fd52, F52⟩ := c.def_ 52 (d := e52) rfl
  obtain ⟨fd53, F53⟩ := c.def_ 53 (d := e53) rfl
  obtain ⟨fd54, F54⟩ := c.def_ 54 (d := e54) rfl
  have T : Txt K mg (He.ga K "Form") (He.ga K "Double") := ⟨He.glo_ok X G (c.fact 0 (f := g0) rfl),
    He.cls_ok (c.fact 1 (f := g1) rfl),
    Hd.ty_ok (c.fact 2 (f := g2) rfl),
    He.noat_ok (c.fact 3 (f := g3) rfl),
    He.glo_ok X G (c.fact 4 (f := g4) rfl),
    He.cls_ok (c.fact 5 (f := g5) rfl),
    Hd.ty_ok (c.fact 6 (f := g6) rfl),
    He.noat_ok (c.fact 7 (f := g7) rfl),
    Hd.fore_ok (c.fact 8 (f := g8) rfl),
    Hd.foreC_ok (c.fact 9 (f := g9) rfl),
    ⟨_, _, He.glo_ok X G (c.fact 10 (f := g10) rfl), Hd.fun_of F0⟩,
    ⟨_, _, He.glo_ok X G (c.fact 11 (f := g11) rfl), Hd.fun_of F1⟩,
    ⟨_, _, He.glo_ok X G (c.fact 12 (f := g12) rfl), Hd.fun_of F2⟩,
    ⟨_, _, He.glo_ok X G (c.fact 13 (f := g13) rfl), Hd.fun_of F3⟩,
    ⟨_, _, He.glo_ok X G (c.fact 14 (f := g14) rfl), Hd.fun_of F4⟩,
    ⟨_, _, He.glo_ok X G (c.fact 15 (f := g15) rfl), Hd.fun_of F5⟩,
    ⟨_, _, He.glo_ok X G (c.fact 16 (f := g16) rfl), Hd.fun_of F6⟩,
    ⟨_, _, He.glo_ok X G (c.fact 17 (f := g17) rfl), Hd.fun_of F7⟩,
    ⟨_, _, He.glo_ok X G (c.fact 18 (f := g18) rfl), Hd.fun_of F8⟩,
    ⟨_, _, He.glo_ok X G (c.fact 19 (f := g19) rfl), Hd.fun_of F9⟩,
    ⟨_, _, He.glo_ok X G (c.fact 20 (f := g20) rfl), Hd.fun_of F10⟩,
    ⟨_, _, He.glo_ok X G (c.fact 21 (f := g21) rfl), Hd.fun_of F11⟩,
    ⟨_, _, He.glo_ok X G (c.fact 22 (f := g22) rfl), Hd.fun_of F12⟩,
    ⟨_, _, He.glo_ok X G (c.fact 23 (f := g23) rfl), Hd.fun_of F13⟩,
    ⟨_, _, He.glo_ok X G (c.fact 24 (f := g24) rfl), Hd.fun_of F14⟩,
    ⟨_, _, He.glo_ok X G (c.fact 25 (f := g25) rfl), Hd.fun_of F15⟩,
    ⟨_, _, He.glo_ok X G (c.fact 26 (f := g26) rfl), Hd.fun_of F16⟩,
    ⟨_, _, He.glo_ok X G (c.fact 27 (f := g27) rfl), Hd.fun_of F17⟩,
    ⟨He.ga K "Double", _, _, He.mkr_ok (c.fact 28 (f := g28) rfl), Hd.fun_of F18⟩,
    ⟨_, _, _, Hd.prop_ok (c.fact 29 (f := g29) rfl), Hd.fun_of F19⟩,
    ⟨_, _, _, Hd.prop_ok (c.fact 30 (f := g30) rfl), Hd.fun_of F20⟩,
    ⟨_, _, _, Hd.prop_ok (c.fact 31 (f := g31) rfl), Hd.fun_of F21⟩,
    ⟨He.ga K "Double", _, _, Hd.call_ok (c.fact 32 (f := g32) rfl), Hd.fun_of F22⟩,
    ⟨He.ga K "Double", _, _, He.meth_ok (c.fact 33 (f := g33) rfl), Hd.fun_of F23⟩,
    ⟨He.ga K "Double", _, _, He.meth_ok (c.fact 34 (f := g34) rfl), Hd.fun_of F24⟩,
    ⟨He.ga K "Double", _, _, Hd.eq_ok (c.fact 35 (f := g35) rfl), Hd.fun_of F25⟩,
    ⟨He.ga K "Double", _, _, He.meth_ok (c.fact 36 (f := g36) rfl), Hd.fun_of F26⟩,
    ⟨_, _, He.glo_ok X G (c.fact 37 (f := g37) rfl), Hd.fun_of F27⟩,
    ⟨_, _, He.glo_ok X G (c.fact 38 (f := g38) rfl), Hd.fun_of F28⟩,
    ⟨_, _, He.glo_ok X G (c.fact 39 (f := g39) rfl), Hd.fun_of F29⟩,
    ⟨_, _, He.glo_ok X G (c.fact 40 (f := g40) rfl), Hd.fun_of F30⟩,
    ⟨He.ga K "Form", _, _, He.mkr_ok (c.fact 41 (f := g41) rfl), Hd.fun_of F31⟩,
    ⟨_, _, _, Hd.prop_ok (c.fact 42 (f := g42) rfl), Hd.fun_of F32⟩,
    ⟨_, _, _, Hd.prop_ok (c.fact 43 (f := g43) rfl), Hd.fun_of F33⟩,
    ⟨_, _, _, Hd.prop_ok (c.fact 44 (f := g44) rfl), Hd.fun_of F34⟩,
    ⟨He.ga K "Form", _, _, Hd.call_ok (c.fact 45 (f := g45) rfl), Hd.fun_of F35⟩,
    ⟨He.ga K "Form", _, _, He.meth_ok (c.fact 46 (f := g46) rfl), Hd.fun_of F36⟩,
    ⟨He.ga K "Form", _, _, He.meth_ok (c.fact 47 (f := g47) rfl), Hd.fun_of F37⟩,
    ⟨He.ga K "Form", _, _, Hd.eq_ok (c.fact 48 (f := g48) rfl), Hd.fun_of F38⟩,
    ⟨_, _, He.glo_ok X G (c.fact 49 (f := g49) rfl), Hd.fun_of F39⟩,
    ⟨_, _, He.glo_ok X G (c.fact 50 (f := g50) rfl), Hd.fun_of F40⟩,
    ⟨_, _, He.glo_ok X G (c.fact 51 (f := g51) rfl), Hd.fun_of F41⟩,
    ⟨_, _, He.glo_ok X G (c.fact 52 (f := g52) rfl), Hd.fun_of F42⟩,
    ⟨_, _, He.glo_ok X G (c.fact 53 (f := g53) rfl), Hd.fun_of F43⟩,
    ⟨_, _, He.glo_ok X G (c.fact 54 (f := g54) rfl), Hd.fun_of F44⟩,
    ⟨_, _, He.glo_ok X G (c.fact 55 (f := g55) rfl), Hd.fun_of F45⟩,
    ⟨_, _, He.glo_ok X G (c.fact 56 (f := g56) rfl), Hd.fun_of F46⟩,
    ⟨_, _, He.glo_ok X G (c.fact 57 (f := g57) rfl), Hd.fun_of F47⟩,
    ⟨_, _, He.glo_ok X G (c.fact 58 (f := g58) rfl), Hd.fun_of F48⟩,
    ⟨_, _, He.glo_ok X G (c.fact 59 (f := g59) rfl), Hd.fun_of F49⟩,
    ⟨_, _, He.glo_ok X G (c.fact 60 (f := g60) rfl), Hd.fun_of F50⟩,
    ⟨_, _, He.glo_ok X G (c.fact 61 (f := g61) rfl), Hd.fun_of F51⟩,
    ⟨_, _, He.glo_ok X G (c.fact 62 (f := g62) rfl), Hd.fun_of F52⟩,
    ⟨_, _, He.glo_ok X G (c.fact 63 (f := g63) rfl), Hd.fun_of F53⟩,
    ⟨_, _, He.glo_ok X G (c.fact 64 (f := g64) rfl), Hd.fun_of F54⟩,
    He.free_ok X G (c.fact 65 (f := g65) rfl),
    He.free_ok X G (c.fact 66 (f := g66) rfl),
    He.free_ok X G (c.fact 67 (f := g67) rfl),
    He.free_ok X G (c.fact 68 (f := g68) rfl),
    He.free_ok X G (c.fact 69 (f := g69) rfl),
    He.free_ok X G (c.fact 70 (f := g70) rfl),
    He.free_ok X G (c.fact 71 (f := g71) rfl),
    He.free_ok X G (c.fact 72 (f := g72) rfl),
    He.free_ok X G (c.fact 73 (f := g73) rfl),
    He.free_ok X G (c.fact 74 (f := g74) rfl),
    He.free_ok X G (c.fact 75 (f := g75) rfl),
    He.free_ok X G (c.fact 76 (f := g76) rfl),
    He.free_ok X G (c.fact 77 (f := g77) rfl),
    He.free_ok X G (c.fact 78 (f := g78) rfl),
    He.free_ok X G (c.fact 79 (f := g79) rfl),
    He.int_ok X G (c.fact 80 (f := g80) rfl),
    Hd.blt_ok X G (c.fact 81 (f := g81) rfl)⟩
  have e := hfa.symm.trans (He.glo_ok X G (c.fact 64 (f := g64) rfl))
  cases e
  have b := FunD.bindsA (ps := ["_law_script"]) F54 fun _ _ _ _ _ _ us hl => match us, hl with | [_], _ => rfl
  exact ⟨fd54, fun s v => b s [v] rfl, fun base _ _ => ok_law0 (P := P) (w := w) (base := base) T (Hd.fun_of F54)⟩
end TF
open PySem PySem.W PySem.Calls PyProof.Rows
set_option maxHeartbeats 0 in
theorem PySem.Challenge.cw_formrings_k08_whole_doubles_led_by_chang_holds : PySem.Challenge.rw_formrings_k08_whole_doubles_led_by_chang.Holds := by
  w_on; o_law
  refine HandSHeadRun.head_imp (r := OpenLaw.row PySem.Challenge.rw_formrings_k08_whole_doubles_led_by_chang) (q := TF.vw) (H := TF.hk) (ob := TF.ob) (M := 9000) (loose := TF.names) (d := HandSHeadRun.topDef (OpenLaw.row PySem.Challenge.rw_formrings_k08_whole_doubles_led_by_chang).prog 59) (kwd := []) TF.ob_eq TF.run (by kernel_rfl) (by kernel_rfl) (by kernel_rfl) (by rfl) (by first | assumption | decide +kernel) (by decide +kernel) ⟨rfl, rfl, rfl, rfl, rfl, by decide +kernel⟩ ?hw ?hc
  case hw => w_witness2
  case hc =>
    refine Gd.walkG (l := PySem.Challenge.rw_formrings_k08_whole_doubles_led_by_chang) (n := 63) (k := 11) (x := "_law_script") rfl (by decide) (by kernel_rfl) ⟨rfl, by decide, by decide⟩ ?F
    intro w mg fa h Y G hmg0
    obtain ⟨K, KX, c⟩ := Y
    have hmg : mg ("law" : PySem.Str) = some (.ref fa) := by
      have e : (HandSHeadRun.topDef (OpenLaw.row PySem.Challenge.rw_formrings_k08_whole_doubles_led_by_chang).prog 59).name = ("law" : PySem.Str) := by kernel_rfl
      rw [← e]
      exact hmg0
    obtain ⟨fd, hb, hF⟩ := TF.facts (P := (PySem.Challenge.rw_formrings_k08_whole_doubles_led_by_chang).prog) (w := w) KX G hmg c
    exact ⟨K, fd, TF.sp_lawW K, KX, hb, fun H a ns hl _ hS => ⟨a, ns, rfl, hS, hl, fun _ => rfl⟩, hF⟩
