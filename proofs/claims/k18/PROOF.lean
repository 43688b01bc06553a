import PyProof.Rows.All
import Wide.All
import OpenK.AllK
import Wide.FinOn
import HandS.ForMost
import HandS.Wide
import HandS.WideBits
import HandS.Gcd
import HandS.IsInst
import HandS.Style
import HandS.Evl
import Flt.RightSqrt
import HandS.More
import HandS.OwnEq
import HandS.Property
import HandS.Star
import KE.KOpsOwn
import HandS.ForExc
import HandS.HeadHook1
import OpenK.KMeth
import HandS.Walk
import HandS.Zip
import KE.GoesEnum
import OpenK.KOps
import PyProof.Rows.Range3
import PyProof.Conv_bool
import HandS.List
import PyProof.ConsumeWalk
import PyProof.TupleIter
import KE.GoesZip
import KE.GoesMore
import HandS.HeadEnd
import HandS.Words
import KE.KCallOwn
import KE.KFmtOwn
import HandS.FStr
import PyProof.ReprRoads
import HandS.Text
import HandS.Defaults
import KE.IntBitsLaws
import HandS.TupMul
import HandS.TupAny
import HandS.TryOnly
import HandS.RaiseMore
import KE.KStateDown
import HandS.Base
import HandS.Call
import HandS.Ends
import HandS.Head0
import HandS.Head1
import HandS.Head2
import HandS.Head3
import HandS.HeadHook2
import PySem.Challenge.RW_formrings_k18_whole_texts_and_equality_o
set_option Elab.async false
set_option linter.all false
set_option maxRecDepth 100000
set_option maxHeartbeats 4000000
namespace Fr
open PySem PySem.Spec PyProof.Rows L2
open Evl (Ex)
def Def (P : Program) (w : World) (K : PySem.W.Frag) (mg : Str → Option Value) (base : Heap) (k : Nat) (x : Str) (ps : List Str) (sp : Sp) : Prop :=
  ∃ f fd, mg x = some (.ref f) ∧ PySem.W.keepIn K (.ref f) = true ∧ Binds K fd ps [] ∧ FnOk P w K mg base CX0 k f fd ps sp
structure Fm (S : Addr → Prop) (I : Hp → Prop) : Prop where
  fresh : ∀ {H D}, I H → H D = none → ¬ S D
  stay : ∀ {H D o}, ¬ S D → I H → I (upd H D o)
def Fx (S : Addr → Prop) (I : Hp → Prop) (H H' : Hp) : Prop := I H' ∧ ∀ b o, ¬ S b → H b = some o → H' b = some o
section
variable {S : Addr → Prop} {I : Hp → Prop} {H H1 H2 : Hp}
theorem Fx.refl (i : I H) : Fx S I H H := ⟨i, fun _ _ _ h => h⟩
theorem Fx.trans (a : Fx S I H H1) (b : Fx S I H1 H2) : Fx S I H H2 := ⟨b.1, fun x o n h => b.2 x o n (a.2 x o n h)⟩
theorem Fx.new (m : Fm S I) (i : I H) {p : Addr} {o : HO} (h : H p = none) : Fx S I H (upd H p o) := ⟨m.stay (m.fresh i h) i, fun b u _ e => by
  rw [upd_ne (ne_of_none e h)]
  exact e⟩
theorem Fx.mut (m : Fm S I) (a : Fx S I H H1) (i : I H) {p : Addr} {o : HO} (h : H p = none) : Fx S I H (upd H1 p o) := ⟨m.stay (m.fresh i h) a.1, fun b u n e => by
  rw [upd_ne (ne_of_none e h)]
  exact a.2 b u n e⟩
theorem Fx.at (a : Fx S I H H1) {p : Addr} {o : HO} (n : ¬ S p) (h : H p = some o) : H1 p = some o := a.2 p o n h
theorem Fx.sqT {K : PySem.W.Frag} (a : Fx S I H H1) {p : Addr} {xs : List V} (n : ¬ S p) (h : SqT K H p xs) : SqT K H1 p xs := by
  rcases h with (h | ⟨o, h⟩) | h
  · exact .inl (.inl (a.2 _ _ n h))
  · exact .inl (.inr ⟨o, a.2 _ _ n h⟩)
  · exact .inr h
theorem Fx.sqL {K : PySem.W.Frag} (a : Fx S I H H1) {p : Addr} {xs : List V} (n : ¬ S p) (h : SqL K H p xs) : SqL K H1 p xs := by
  rcases h with (h | ⟨o, h⟩) | h
  · exact .inl (.inl (a.2 _ _ n h))
  · exact .inl (.inr ⟨o, a.2 _ _ n h⟩)
  · exact .inr h
theorem Fx.free (a : Fx S I H H1) {p : Addr} (n : ¬ S p) (h : H1 p = none) : H p = none := by
  cases e : H p with
  | none => rfl
  | some o => rw [a.2 p o n e] at h; cases h
theorem Fx.free' (m : Fm S I) (a : Fx S I H H1) {p : Addr} (h : H1 p = none) : H p = none := a.free (m.fresh a.1 h) h
end
abbrev S0 : Addr → Prop := fun _ => False
abbrev I0 : Hp → Prop := fun _ => True
theorem fm0 : Fm S0 I0 := ⟨fun _ _ h => h, fun _ _ => trivial⟩
abbrev Ex0 : Hp → Hp → Prop := Fx S0 I0
theorem Ex0.of {H H' : Hp} (h : ∀ b o, H b = some o → H' b = some o) : Ex0 H H' := ⟨trivial, fun b o _ e => h b o e⟩
theorem Ex0.ap {H H' : Hp} (h : Ex0 H H') {b : Addr} {o : HO} (e : H b = some o) : H' b = some o := h.2 b o (fun z => z) e
theorem Ex0.refl (H : Hp) : Ex0 H H := Fx.refl trivial
theorem Ex0.new {H : Hp} {p : Addr} {o : HO} (h : H p = none) : Ex0 H (upd H p o) := Fx.new fm0 trivial h
def Cs (S : Addr → Prop) (I : Hp → Prop) (H : Hp) (P : Nat → List V → Hp → Prop) (D : Addr) (i : Nat) (H' : Hp) : Prop := Fx S I H H' ∧ ∃ acc, H' D = some (.lst acc) ∧ acc.length ≤ i ∧ P i acc H'
section
variable {K : PySem.W.Frag} {S : Addr → Prop} {I : Hp → Prop} {σ : L2.St} {H : Hp} {Q : Addr → Hp → Prop} {te : TE} {vs : List Nat} {g : TG} {tt : TT} {P : Nat → List V → Hp → Prop}
theorem cs_yes (m : Fm S I) (i0 : I H) {D : Addr} {i : Nat} {acc : List V} {H' H4 : Hp} {y : V} (hD : H D = none) (p1 : Fx S I H H') (p2 : H' D = some (.lst acc)) (p3 : acc.length ≤ i) (hi : i < 1000000) (e : Fx S I H' H4) (h : P (i + 1) (acc ++ [y]) (upd H4 D (.lst (acc ++ [y])))) :
    ∃ acc', H4 D = some (.lst acc') ∧ acc'.length < sizeLine ∧ Cs S I H P D (i + 1) (upd H4 D (.lst (acc' ++ [y]))) :=
  ⟨acc, e.2 _ _ (m.fresh i0 hD) p2, Nat.lt_of_le_of_lt p3 (Nat.lt_of_lt_of_le hi (by decide)), Fx.mut m (p1.trans e) i0 hD, _, upd_same, by rw [List.length_append]; exact Nat.add_le_add_right p3 1, h⟩
theorem cs_no (m : Fm S I) (i0 : I H) {D : Addr} {i : Nat} {acc : List V} {H' H4 : Hp} (hD : H D = none) (p1 : Fx S I H H') (p2 : H' D = some (.lst acc)) (p3 : acc.length ≤ i) (e : Fx S I H' H4) (h : P (i + 1) acc H4) : Cs S I H P D (i + 1) H4 :=
  ⟨p1.trans e, acc, e.2 _ _ (m.fresh i0 hD) p2, Nat.le_succ_of_le p3, h⟩
theorem lcT (m : Fm S I) (i0 : I H) {a : Addr} {xs : List V} (hx : SqT K H a xs) (ha : ¬ S a) (P : Nat → List V → Hp → Prop) (p0 : ∀ D, H D = none → P 0 [] (upd H D (.lst [])))
    (hs : ∀ D i x acc H', H D = none → xs[i]? = some x → Fx S I H H' → H' D = some (.lst acc) → acc.length ≤ i → P i acc H' → g x (wipe σ vs) H' fun σ2 H2 => wipe σ2 vs = wipe σ vs ∧ tt σ2 H2 fun b H3 =>
      if b = true then te σ2 H3 fun y H4 => ∃ acc, H4 D = some (.lst acc) ∧ acc.length < sizeLine ∧ Cs S I H P D (i + 1) (upd H4 D (.lst (acc ++ [y]))) else Cs S I H P D (i + 1) H3)
    (q : ∀ D H' acc, H D = none → Fx S I H H' → H' D = some (.lst acc) → P xs.length acc H' → Q D H') :
    ∀ D, H D = none → ∃ W : Nat → Nat → Hp → Prop, (∃ m, W 0 m (upd H D (.lst []))) ∧ ∀ i m H, W i m H →
      ((Itt K a).stop i H ∧ Q D H) ∨ ((Itt K a).go i H ∧ ∃ Nx : Hp → Prop, (∀ H', Nx H' → ∃ m', m' < m ∧ W (i + 1) m' H') ∧ ∀ x H', (Itt K a).yld i H x H' → g x (wipe σ vs) H' fun σ2 H2 => wipe σ2 vs = wipe σ vs ∧ tt σ2 H2 fun b H3 =>
        if b = true then te σ2 H3 fun y H4 => ∃ acc, H4 D = some (.lst acc) ∧ acc.length < sizeLine ∧ Nx (upd H4 D (.lst (acc ++ [y]))) else Nx H3) := fun D hD =>
  lc_tup (xs := xs) (Cs S I H P D) ⟨Fx.new m i0 hD, [], upd_same, Nat.le_refl _, p0 D hD⟩ (fun i H' _ p => p.1.sqT ha hx)
    (fun i x H' hi p => by
      obtain ⟨p1, acc, p2, p3, p4⟩ := p
      exact hs D i x acc H' hD hi p1 p2 p3 p4)
    (fun H' p => by
      obtain ⟨p1, acc, p2, p3, p4⟩ := p
      exact q D H' acc hD p1 p2 p4)
theorem lcL (m : Fm S I) (i0 : I H) {a : Addr} {xs : List V} (hx : SqL K H a xs) (ha : ¬ S a) (P : Nat → List V → Hp → Prop) (p0 : ∀ D, H D = none → P 0 [] (upd H D (.lst [])))
    (hs : ∀ D i x acc H', H D = none → xs[i]? = some x → Fx S I H H' → H' D = some (.lst acc) → acc.length ≤ i → P i acc H' → g x (wipe σ vs) H' fun σ2 H2 => wipe σ2 vs = wipe σ vs ∧ tt σ2 H2 fun b H3 =>
      if b = true then te σ2 H3 fun y H4 => ∃ acc, H4 D = some (.lst acc) ∧ acc.length < sizeLine ∧ Cs S I H P D (i + 1) (upd H4 D (.lst (acc ++ [y]))) else Cs S I H P D (i + 1) H3)
    (q : ∀ D H' acc, H D = none → Fx S I H H' → H' D = some (.lst acc) → P xs.length acc H' → Q D H') :
    ∀ D, H D = none → ∃ W : Nat → Nat → Hp → Prop, (∃ m, W 0 m (upd H D (.lst []))) ∧ ∀ i m H, W i m H →
      ((Itl K a).stop i H ∧ Q D H) ∨ ((Itl K a).go i H ∧ ∃ Nx : Hp → Prop, (∀ H', Nx H' → ∃ m', m' < m ∧ W (i + 1) m' H') ∧ ∀ x H', (Itl K a).yld i H x H' → g x (wipe σ vs) H' fun σ2 H2 => wipe σ2 vs = wipe σ vs ∧ tt σ2 H2 fun b H3 =>
        if b = true then te σ2 H3 fun y H4 => ∃ acc, H4 D = some (.lst acc) ∧ acc.length < sizeLine ∧ Nx (upd H4 D (.lst (acc ++ [y]))) else Nx H3) := fun D hD =>
  lc_list (xs := xs) (Cs S I H P D) ⟨Fx.new m i0 hD, [], upd_same, Nat.le_refl _, p0 D hD⟩ (fun i H' _ p => p.1.sqL ha hx)
    (fun i x H' hi p => by
      obtain ⟨p1, acc, p2, p3, p4⟩ := p
      exact hs D i x acc H' hD hi p1 p2 p3 p4)
    (fun H' p => by
      obtain ⟨p1, acc, p2, p3, p4⟩ := p
      exact q D H' acc hD p1 p2 p4)
theorem lcR (m : Fm S I) (i0 : I H) {lo : Int} {n : Nat} (P : Nat → List V → Hp → Prop) (p0 : ∀ D, H D = none → P 0 [] (upd H D (.lst [])))
    (hs : ∀ D i acc H', H D = none → i < n → Fx S I H H' → H' D = some (.lst acc) → acc.length ≤ i → P i acc H' → g (.int (lo + i)) (wipe σ vs) H' fun σ2 H2 => wipe σ2 vs = wipe σ vs ∧ tt σ2 H2 fun b H3 =>
      if b = true then te σ2 H3 fun y H4 => ∃ acc, H4 D = some (.lst acc) ∧ acc.length < sizeLine ∧ Cs S I H P D (i + 1) (upd H4 D (.lst (acc ++ [y]))) else Cs S I H P D (i + 1) H3)
    (q : ∀ D H' acc, H D = none → Fx S I H H' → H' D = some (.lst acc) → P n acc H' → Q D H') :
    ∀ D, H D = none → ∃ W : Nat → Nat → Hp → Prop, (∃ m, W 0 m (upd H D (.lst []))) ∧ ∀ i m H, W i m H →
      ((Itr lo n).stop i H ∧ Q D H) ∨ ((Itr lo n).go i H ∧ ∃ Nx : Hp → Prop, (∀ H', Nx H' → ∃ m', m' < m ∧ W (i + 1) m' H') ∧ ∀ x H', (Itr lo n).yld i H x H' → g x (wipe σ vs) H' fun σ2 H2 => wipe σ2 vs = wipe σ vs ∧ tt σ2 H2 fun b H3 =>
        if b = true then te σ2 H3 fun y H4 => ∃ acc, H4 D = some (.lst acc) ∧ acc.length < sizeLine ∧ Nx (upd H4 D (.lst (acc ++ [y]))) else Nx H3) := fun D hD =>
  lc_range (lo := lo) (n := n) (Cs S I H P D) ⟨Fx.new m i0 hD, [], upd_same, Nat.le_refl _, p0 D hD⟩
    (fun i H' hi p => by
      obtain ⟨p1, acc, p2, p3, p4⟩ := p
      exact hs D i acc H' hD hi p1 p2 p3 p4)
    (fun H' p => by
      obtain ⟨p1, acc, p2, p3, p4⟩ := p
      exact q D H' acc hD p1 p2 p4)
end
theorem log_lt {i : Int} {a : Nat} (h : i.natAbs < 2 ^ a) (h0 : 0 < a) : i.natAbs.log2 < a := by
  by_cases z : i.natAbs = 0
  · rw [z]
    exact h0
  · exact (Nat.log2_lt z).mpr h
theorem mw {i j : Int} (h1 : -(2 ^ 250) < i) (h2 : i < 2 ^ 250) (h3 : -(2 ^ 250) < j) (h4 : j < 2 ^ 250) : CMulW i j :=
  wide_mul (a := 250) (b := 250) (by omega) (by omega) (by decide) (by decide) (by decide)
theorem dw {i j : Int} (h : 0 < j) (h4 : j < 2 ^ 250) : CDivW i j := wide_div (b := 250) h (by omega) (by decide) (by decide)
theorem iteB {b : Bool} {A B : Prop} (h1 : b = true → A) (h2 : b = false → B) : if b = true then A else B := by
  cases b with
  | true => rw [if_pos rfl]; exact h1 rfl
  | false => rw [if_neg Bool.false_ne_true]; exact h2 rfl
theorem iteD {c : Prop} [Decidable c] {A B : Prop} (h1 : c → A) (h2 : ¬ c → B) : if decide c = true then A else B :=
  iteB (fun h => h1 (of_decide_eq_true h)) (fun h => h2 (of_decide_eq_false h))
theorem iteN {c : Prop} [Decidable c] {A B : Prop} (h1 : ¬ c → A) (h2 : c → B) : if (!decide c) = true then A else B := by
  by_cases h : c
  · rw [decide_eq_true h]; exact iteF (h2 h)
  · rw [decide_eq_false h]; exact iteT (h1 h)
theorem dT {c : Prop} [Decidable c] {A B : Prop} (h : c) (a : A) : if decide c = true then A else B := by rw [decide_eq_true h, if_pos rfl]; exact a
theorem dF {c : Prop} [Decidable c] {A B : Prop} (h : ¬ c) (a : B) : if decide c = true then A else B := by rw [decide_eq_false h, if_neg Bool.false_ne_true]; exact a
theorem ndT {c : Prop} [Decidable c] {A B : Prop} (h : ¬ c) (a : A) : if (!decide c) = true then A else B := by rw [decide_eq_false h]; exact iteT a
theorem ndF {c : Prop} [Decidable c] {A B : Prop} (h : c) (a : B) : if (!decide c) = true then A else B := by rw [decide_eq_true h]; exact iteF a
theorem sl1 : 1 ≤ sizeLine := by decide
theorem sl2 : 2 ≤ sizeLine := by decide
theorem sl3 : 3 ≤ sizeLine := by decide
theorem sl4 : 4 ≤ sizeLine := by decide
theorem sl5 : 5 ≤ sizeLine := by decide
theorem sl6 : 6 ≤ sizeLine := by decide
theorem sl8 : 8 ≤ sizeLine := by decide
theorem slN {n : Nat} (h : n ≤ 1000000) : n ≤ sizeLine := Nat.le_trans h (by decide)
section
variable {X : Cx}
def rIsqrt : List V → Hp → VK → Prop := fun vs H Q => ∃ a : Int, vs = [.int a] ∧ 0 ≤ a ∧ a < 2 ^ 64 ∧ ∀ r : Int, 0 ≤ r → r * r ≤ a → a < (r + 1) * (r + 1) → Q (.int r) H
theorem cr_isqrt : CallR X (.builtin "math.isqrt") rIsqrt := by
  intro pins s σ H vs us Q I r h
  obtain ⟨a, rfl, h0, h1, q⟩ := h
  obtain ⟨u, rfl, ru⟩ := Vals.one r
  obtain ⟨t, rfl⟩ := ru
  have sp := PySem.Float64.isqrt_spec a.toNat
  refine PySem.W.mg_isqrt h0 h1 ⟨.int _, H, I.tok _, ⟨_, rfl⟩, q _ (Int.natCast_nonneg _) ?_ ?_⟩
  · have := sp.1
    have e : ((Float64.isqrt a.toNat * Float64.isqrt a.toNat : Nat) : Int) ≤ (a.toNat : Int) := Int.ofNat_le.mpr this
    rw [Int.toNat_of_nonneg h0] at e
    simpa using e
  · have := sp.2
    have e : (a.toNat : Int) < (((Float64.isqrt a.toNat + 1) * (Float64.isqrt a.toNat + 1) : Nat) : Int) := Int.ofNat_lt.mpr this
    rw [Int.toNat_of_nonneg h0] at e
    simpa using e
end
end Fr
namespace Fr
open PySem PySem.Spec PyProof.Rows L2
section
variable {X : Cx}
def CPowC (i j : Int) : Prop := 0 ≤ j ∧ (Builtin.Int.intBits i : Int) * j ≤ 2 ^ 27
theorem op_powC : OpR X (binaryOp .Pow) (rI CPowC fun i j => .int (i ^ j.toNat)) := opI fun _ _ _ _ _ _ _ hc q => PyProof.Rows.pow_int hc.1 hc.2 q
end
end Fr
namespace Fr
open PySem PySem.Spec PyProof.Rows L2
theorem deI {i j : Int} : decide (V.int i = V.int j) = decide (i = j) := by
  rw [dec_int]
  rfl
theorem iteE {i j : Int} {A B : Prop} (h1 : i = j → A) (h2 : i ≠ j → B) : if decide (V.int i = V.int j) = true then A else B := by
  rw [deI]
  exact iteD h1 h2
theorem iteEn {i j : Int} {A B : Prop} (h1 : i ≠ j → A) (h2 : i = j → B) : if (!decide (V.int i = V.int j)) = true then A else B := by
  rw [deI]
  exact iteN h1 h2
end Fr
namespace Fr
open PySem PySem.Spec PyProof.Rows L2
def inb (lo hi : Int) : V → Bool
  | .int i => decide (lo ≤ i) && decide (i ≤ hi)
  | _ => false
theorem in_b {lo hi : Int} {xs : List V} {v : V} (hv : v ∈ xs) (h : xs.all (inb lo hi) = true) : ∃ f : Int, v = .int f ∧ lo ≤ f ∧ f ≤ hi := by
  have := List.all_eq_true.mp h v hv
  cases v with
  | int i =>
    unfold inb at this
    rw [Bool.and_eq_true, decide_eq_true_iff, decide_eq_true_iff] at this
    exact ⟨i, rfl, this.1, this.2⟩
  | _ => cases this
theorem shaped_ints (ns : List Int) : SeqAt.shaped (.list (ns.map .int)) = true := by
  have h : PyData.canLayAll0 (ns.map PyData.int) = true ∧ PyData.depthAll (ns.map PyData.int) ≤ 1 := by
    induction ns with
    | nil => exact ⟨rfl, by simp [PyData.depthAll]⟩
    | cons n r ih =>
      refine ⟨?_, ?_⟩
      · rw [List.map_cons, PyData.canLayAll0, PyData.canLay0, ih.1]; rfl
      · rw [List.map_cons, PyData.depthAll, PyData.depth]; exact Nat.max_le.mpr ⟨by decide, ih.2⟩
  unfold SeqAt.shaped
  rw [PyData.canLay0, PyData.depth, h.1]
  simp
  omega
theorem dp_ints {K : PySem.W.Frag} {H : Hp} : ∀ ns : List Int, DpAll K H (ns.map V.int) (ns.map PyData.int)
  | [] => .nil
  | n :: r => .cons (.int n) (dp_ints r)
theorem eqv_ints : ∀ ns ms : List Int, PyData.eqvAll (ns.map PyData.int) (ms.map PyData.int) = decide (ns = ms)
  | [], [] => rfl
  | [], m :: ms => rfl
  | n :: ns, [] => rfl
  | n :: ns, m :: ms => by
    rw [List.map_cons, List.map_cons, PyData.eqvAll, PyData.eqv, eqv_ints ns ms]
    apply Bool.eq_iff_iff.mpr
    simp
def pr2 (q : Nat × Nat) : PyData := .tuple [.int (q.1 : Int), .int (q.2 : Int)]
theorem shaped_prs (fs : List (Nat × Nat)) : SeqAt.shaped (.tuple (fs.map pr2)) = true := by
  have h : PyData.canLayAll0 (fs.map pr2) = true ∧ PyData.depthAll (fs.map pr2) ≤ 2 := by
    induction fs with
    | nil => exact ⟨rfl, by simp [PyData.depthAll]⟩
    | cons n r ih =>
      refine ⟨?_, ?_⟩
      · rw [List.map_cons, PyData.canLayAll0, ih.1]; simp [pr2, PyData.canLay0, PyData.canLayAll0]
      · rw [List.map_cons, PyData.depthAll]; exact Nat.max_le.mpr ⟨by simp [pr2, PyData.depth, PyData.depthAll], ih.2⟩
  unfold SeqAt.shaped
  rw [PyData.canLay0, PyData.depth, h.1]
  simp
  omega
theorem eqv_prs : ∀ fs gs : List (Nat × Nat), PyData.eqvAll (fs.map pr2) (gs.map pr2) = decide (fs = gs)
  | [], [] => rfl
  | [], m :: ms => rfl
  | n :: ns, [] => rfl
  | (a, b) :: ns, (c, d) :: ms => by
    rw [List.map_cons, List.map_cons, PyData.eqvAll, eqv_prs ns ms]
    apply Bool.eq_iff_iff.mpr
    simp [pr2, PyData.eqv, PyData.eqvAll]
    omega
end Fr
namespace Fr
open PySem PySem.Spec PyProof.Rows L2
def B (a : Nat) (i : Int) : Prop := i.natAbs < 2 ^ a ∧ 0 < a
theorem two_pow_two {a : Nat} (h : 0 < a) : 2 ≤ 2 ^ a := by
  obtain ⟨k, rfl⟩ : ∃ k, a = k + 1 := ⟨a - 1, by omega⟩
  rw [Nat.pow_succ]
  have := Nat.two_pow_pos k
  omega
theorem pow_sum {a b : Nat} (ha : 0 < a) (hb : 0 < b) : 2 ^ a + 2 ^ b ≤ 2 ^ (a + b) := by
  rw [Nat.pow_add]
  have h1 := two_pow_two ha
  have h2 := two_pow_two hb
  generalize 2 ^ a = x at *
  generalize 2 ^ b = y at *
  have := Nat.mul_le_mul h1 (Nat.le_refl y)
  have := Nat.mul_le_mul (Nat.le_refl x) h2
  rcases Nat.le_total x y with h | h <;> omega
theorem B.mul {a b : Nat} {i j : Int} (h1 : B a i) (h2 : B b j) : B (a + b) (i * j) := ⟨wide_lt h1.1 h2.1, Nat.add_pos_left h1.2 _⟩
theorem B.add {a b : Nat} {i j : Int} (h1 : B a i) (h2 : B b j) : B (a + b) (i + j) :=
  ⟨Nat.lt_of_lt_of_le (by have := h1.1; have := h2.1; omega : (i + j).natAbs < 2 ^ a + 2 ^ b) (pow_sum h1.2 h2.2), Nat.add_pos_left h1.2 _⟩
theorem B.sub {a b : Nat} {i j : Int} (h1 : B a i) (h2 : B b j) : B (a + b) (i - j) :=
  ⟨Nat.lt_of_lt_of_le (by have := h1.1; have := h2.1; omega : (i - j).natAbs < 2 ^ a + 2 ^ b) (pow_sum h1.2 h2.2), Nat.add_pos_left h1.2 _⟩
theorem B.neg {a : Nat} {i : Int} (h1 : B a i) : B a (-i) := ⟨by rw [Int.natAbs_neg]; exact h1.1, h1.2⟩
theorem B.lit {i : Int} (h : i.natAbs < 2 ^ 64) : B 64 i := ⟨h, by decide⟩
theorem B.mono {a b : Nat} {i : Int} (h : B a i) (hab : a ≤ b) : B b i := ⟨Nat.lt_of_lt_of_le h.1 (Nat.pow_le_pow_right (by decide) hab), Nat.lt_of_lt_of_le h.2 hab⟩
theorem mulB {a b : Nat} {i j : Int} (h1 : B a i) (h2 : B b j) (h : a + b ≤ 1000000) : CMulW i j := wide_mul h1.1 h2.1 h1.2 h2.2 h
end Fr
namespace Fr
open PySem PySem.Spec PyProof.Rows L2
theorem shaped_tints (ns : List Int) : SeqAt.shaped (.tuple (ns.map .int)) = true := by
  have h : PyData.canLayAll0 (ns.map .int) = true ∧ PyData.depthAll (ns.map .int) ≤ 1 := by
    induction ns with
    | nil => exact ⟨rfl, by simp [PyData.depthAll]⟩
    | cons n r ih =>
      refine ⟨?_, ?_⟩
      · rw [List.map_cons, PyData.canLayAll0, ih.1]; simp [PyData.canLay0]
      · rw [List.map_cons, PyData.depthAll]; exact Nat.max_le.mpr ⟨by simp [PyData.depth], ih.2⟩
  unfold SeqAt.shaped
  rw [PyData.canLay0, PyData.depth, h.1]
  simp
  omega
end Fr
namespace Fr
open PySem PySem.Spec PyProof.Rows L2
section
variable {M : Model} {prog : Program} {w : World} {A : Around} {E : Value → Shared → Prop} {s : Shared} {K : PySem.W.Frag} {x C f : Addr} {ox : Obj} {od : Option Obj}
theorem ifBound_ne {args : List Value} {Q : Option Value → Shared → Prop} (X : K.In s.heap) (I : PySem.W.InstAt s.heap x ox C od) (hs : PySem.W.findIn K (.ref C) "__ne__" = some (some (.builtin "object.__ne__")))
    (h : wpAny M A (call (.builtin "object.__ne__") (.ref x :: args)) (fun v => Q (some v)) E s) : wpAny M A (callSpecialIfBound? (.ref x) "__ne__" args) Q E s := by
  simp only [callSpecialIfBound?, bindSpecialIfBound?]
  refine wpAny_holding (wpAny_bind (wpAny_bind (wpAny_bind (I.type.here ((PySem.W.looks_findIn X hs).here ?_)))))
  refine wpAny_bind (wpAny_askSetting (wpAny_ite ?_))
  have fin : wpAny M A (call (.builtin "object.__ne__") ([.ref x] ++ args) >>= fun v => pure (some v)) Q E s := wpAny_bind (wpAny_mono h (fun v s' h' => wpAny_pure h') fun _ _ h' => h')
  split
  · exact wpAny_bind (wpAny_of_eq (F.cmp_object.ne.bind _) (wpAny_pure (by exact fin)))
  · exact wpAny_tryCatch (wpAny_bind (wpAny_of_eq (F.cmp_object.ne.bind _) (wpAny_pure (by exact fin))))
def NeB (Q : Value → Shared → Prop) (v : Value) (s' : Shared) : Prop := ∃ b, v = .bool b ∧ Q (.bool (!b)) s'
theorem entry_ne {b : Value} {Q : Fin → Shared → Prop} (hu : A.units < cLine) (X : K.In s.heap) (I : PySem.W.InstAt s.heap x ox C od) (hs : PySem.W.findIn K (.ref C) "__eq__" = some (some (.ref f))) (hf : PySem.W.isFn K (.ref f) = true)
    (h : wpAny (model prog w) A (call (.ref f) [.ref x, b]) (NeB fun v s' => Q (.done (.ret v)) s') E s) : wpAny (model prog w) A (Builtin.«object.__ne__» ⟨[.ref x, b], []⟩) Q E s := by
  unfold Builtin.«object.__ne__»
  repeat (first | with_reducible refine wpAny_cRoomFor hu ?_ | (refine wpAny_bind (PySem.W.ifBound_K X I hs hf (wpAny_mono h (fun v s' hv => ?_) fun _ _ e => e))) | wp_step)
  all_goals (obtain ⟨b', rfl, q⟩ := hv)
  all_goals (repeat (first | wp_step))
  all_goals exact q
theorem ne_K {h₀ : Heap} {L : Addr} {m : Str → Option Value} {b tb : Value} {Q : Value → Shared → Prop} (hu : A.units + 1 < cLine) (F : Fr h₀ L s.heap m) (X₀ : K.In h₀) (I : PySem.W.InstAt s.heap x ox C od) (hb : PySem.W.Looks (model prog w) s.heap (typeOf b) tb) (hn : PySem.W.notFirst K C tb = true)
    (hne : PySem.W.findIn K (.ref C) "__ne__" = some (some (.builtin "object.__ne__"))) (hs : PySem.W.findIn K (.ref C) "__eq__" = some (some (.ref f))) (hf : PySem.W.isFn K (.ref f) = true) (hm : PySem.W.mroIn K C (.type "object") = some true)
    (h : wpAny (model prog w) A.in1 (call (.ref f) [.ref x, b]) (NeB Q) E s) : wpAny (model prog w) A (richCompare .NotEq (.ref x) b) Q E s := by
  have X := X₀.keeps F.keep
  have one : wpAny (model prog w) A (tryCompare (.ref x) "__ne__" b) (fun r s' => ∃ v, r = some v ∧ Q v s') E s := by
    unfold tryCompare
    refine wpAny_bind (ifBound_ne X I hne (wpAny_call (codeAny_call_builtin PySem.F.cmp_object.ne.plain PySem.F.cmpEntry_ne (PySem.W.check_slot PySem.F.cmpKind_ne PySem.F.cmpSplit_ne (I.type.andThen (PySem.W.looks_mroIn X hm)) (PySem.F.cmpArgs_ne _ _) ?_))))
    refine entry_ne (A := A.in1) hu X I hs hf (wpAny_mono h (fun v s' hv => ?_) fun _ _ e => e)
    obtain ⟨b', rfl, q⟩ := hv
    exact ⟨b', rfl, wpAny_pure ⟨_, rfl, q⟩⟩
  unfold richCompare
  simp only [oneThing_ref]
  refine wpAny_holding (wpAny_bind (wpAny_cRoomFor (Nat.lt_of_succ_lt hu) ?_))
  refine wpAny_bind (I.type.here (wpAny_bind (hb.here ?_)))
  split
  · rename_i q
    have e : PySem.W.subIn K tb (.ref C) = some false := by
      rcases Bool.or_eq_true_iff.mp hn with e | e
      · rw [beq_iff_eq.mp e] at q; simp at q
      · exact beq_iff_eq.mp e
    refine wpAny_bind ((PySem.W.looks_subIn X e).here ?_)
    simp only [Bool.false_eq_true, if_false]
    refine wpAny_bind (wpAny_mono one (fun r s' z => ?_) fun _ _ e => e)
    obtain ⟨v, rfl, hq⟩ := z
    exact wpAny_pure hq
  · refine wpAny_bind (wpAny_pure ?_)
    simp only [Bool.false_eq_true, if_false]
    refine wpAny_bind (wpAny_mono one (fun r s' z => ?_) fun _ _ e => e)
    obtain ⟨v, rfl, hq⟩ := z
    exact wpAny_pure hq
end
section
variable {X : Cx} {CX : CXT} {C f : Addr} {fd : FuncData} {ps : List Str} {k : Nat} {sp : Sp} {E : XK}
structure EqC (K : PySem.W.Frag) (C f : Addr) : Prop where
  eq : PySem.W.findIn K (.ref C) "__eq__" = some (some (.ref f))
  fn : PySem.W.isFn K (.ref f) = true
  ne : PySem.W.findIn K (.ref C) "__ne__" = some (some (.builtin "object.__ne__"))
  mo : PySem.W.mroIn K C (.type "object") = some true
def rEqI (K : PySem.W.Frag) (C : Addr) (sp : Sp) (E : XK) (neg : Bool) : R2 := fun x y H Q => ∃ a dx fs tb, x = .ref a ∧ H a = some (.ins C dx fs) ∧ TyX K H y tb ∧ PySem.W.notFirst K C tb = true ∧ sp [x, y] H (fun v H' => ∃ b, v = .bl b ∧ Q (.bl (if neg = true then !b else b)) H') E
theorem op_eqI (c : EqC X.K C f) (F : FnOk X.prog X.w X.K X.mg X.base CX k f fd ps sp) (hb : Binds X.K fd ps []) (hr : Room k X.A) (hx : Passes CX X E) : OpR X (compareOp .Eq) (rEqI X.K C sp E false) := by
  intro pins s σ H x y v u Q I rx ry h
  obtain ⟨a, dx, fs, tb, rfl, ha, ty, hn, q⟩ := h
  cases (show v = Value.ref a from rx)
  obtain ⟨mA, J, _⟩ := ins_get I.hok ha
  obtain ⟨od, J, _⟩ := J.look
  obtain ⟨m, hF⟩ := I.fr
  obtain ⟨P, kt, hP, _⟩ := kit_of I ry ty
  refine PySem.W.cmp_K (op := .Eq) hr.units0 hF I.ok.mod.kin J (kt.ty _ _ I.kIn hP) hn c.eq c.fn ?_
  refine wpAny_mono (run_fn (us := [.ref a, u]) (vs := [.ref a, y]) F hr hb .nil hx I (.cons rfl (.cons ry .nil)) q) (fun w s' z => ?_) fun _ _ x => x
  obtain ⟨z', H', I', rz, b, rfl, qz⟩ := z
  cases (show w = Value.bool b from rz)
  exact ⟨.bl b, H', I', rfl, qz⟩
theorem op_neI (c : EqC X.K C f) (F : FnOk X.prog X.w X.K X.mg X.base CX k f fd ps sp) (hb : Binds X.K fd ps []) (hr : Room (k + 1) X.A) (hx : Passes CX X E) : OpR X (compareOp .NotEq) (rEqI X.K C sp E true) := by
  intro pins s σ H x y v u Q I rx ry h
  obtain ⟨a, dx, fs, tb, rfl, ha, ty, hn, q⟩ := h
  cases (show v = Value.ref a from rx)
  obtain ⟨mA, J, _⟩ := ins_get I.hok ha
  obtain ⟨od, J, _⟩ := J.look
  obtain ⟨m, hF⟩ := I.fr
  obtain ⟨P, kt, hP, _⟩ := kit_of I ry ty
  refine ne_K (Nat.lt_of_le_of_lt (Nat.add_le_add_left (by decide : 1 ≤ 64) _) hr.units) hF I.ok.mod.kin J (kt.ty _ _ I.kIn hP) hn c.ne c.eq c.fn c.mo ?_
  refine wpAny_call (codeAny_mono ((F.raw hb .nil) X.A.in1 X.stack s H [.ref a, u] [.ref a, y] _ E hr.in1 I.env0.in1 (.cons rfl (.cons ry .nil)) q) fun r s' hq => ?_)
  cases r with
  | error e => exact hx pins σ H s e s' I hq
  | ok fl =>
    cases fl with
    | ret w =>
      obtain ⟨z', H', I', rz, b, rfl, qz⟩ := I.after hq
      cases (show w = Value.bool b from rz)
      exact ⟨b, rfl, .bl (!b), H', I', rfl, qz⟩
    | next => exact False.elim hq
    | brk => exact False.elim hq
    | cont => exact False.elim hq
structure TyI (K : PySem.W.Frag) (C : Addr) : Prop where
  ca : PySem.W.findIn K (.ref C) "__class__" = some (some (.builtin "object.__class__"))
  cn : PySem.W.specialIn K (.builtin "object.__class__") "__get__" = some (some (.builtin "getset_descriptor.__get__"))
  ct : PySem.W.takesIn K (.builtin "object.__class__") = some true
  cm : PySem.W.mroIn K C (.type "object") = some true
theorem ty_ins {K : PySem.W.Frag} {C a dx : Addr} {H : Hp} {fs : List (Str × V)} (t : TyI K C) (cl : Cls K C) (e : H a = some (.ins C dx fs)) : TyX K H (.ref a) (.ref C) := .base (.ins e cl t.ca t.cn t.ct t.cm)
theorem first_self {K : PySem.W.Frag} {C : Addr} : PySem.W.notFirst K C (.ref C) = true := by simp [PySem.W.notFirst]
theorem kit_self {K : PySem.W.Frag} {C : Addr} : PySem.W.kitOne K (.ref C) (.ref C) = some true := by simp [PySem.W.kitOne]
theorem un_negI (c : Meth X.K C "__neg__" f) (F : FnOk X.prog X.w X.K X.mg X.base CX k f fd ps sp) (hb : Binds X.K fd ps []) (hr : Room k X.A) (hx : Passes CX X E) :
    UnR X (unaryOp .USub) (fun x H Q => ∃ a dx fs, x = .ref a ∧ H a = some (.ins C dx fs) ∧ sp [x] H Q E) := by
  intro pins s σ H x v Q I rx h
  obtain ⟨a, dx, fs, rfl, ha, q⟩ := h
  cases (show v = Value.ref a from rx)
  obtain ⟨mA, J, _⟩ := ins_get I.hok ha
  obtain ⟨od, J, _⟩ := J.look
  obtain ⟨m, hF⟩ := I.fr
  exact PySem.W.ksp_neg hF I.ok.mod.kin J c.at_ c.fn (run_fn (us := [.ref a]) (vs := [.ref a]) F hr hb .nil hx I (.cons rfl .nil) q)
def MDef (R : Addr → Addr → Prop) (P : Program) (w : World) (K : PySem.W.Frag) (mg : Str → Option Value) (base : Heap) (k : Nat) (ps : List Str) (sp : Sp) : Prop :=
  ∃ p f fd, R p f ∧ Binds K fd ps [] ∧ FnOk P w K mg base CX0 k f fd ps sp
end
section
variable {X : Cx} {K : PySem.W.Frag}
theorem call_isiKK (hK : X.K = K) : CallR X (.builtin "isinstance") (rIsi K) := hK ▸ call_isi
end
section
variable {X : Cx}
theorem pi_or {tg l : Expr} {wa wb : TI} (a : PI X tg l wa) (b : PI X tg l wb) : PI X tg l (fun σ H R => wa σ H R ∨ wb σ H R) := ⟨fun pins s σ H R I h => h.elim (fun z => a.run pins s σ H R I z) (fun z => b.run pins s σ H R I z)⟩
end
abbrev XA (K : PySem.W.Frag) (x : Str) : Addr := He.ga K x
structure Xc (K : PySem.W.Frag) (mg : Str → Option Value) (x : Str) (bm : List Value) (newId : String) : Prop where
  g : mg x = some (.ref (XA K x))
  ex : PySem.W.excIn K (XA K x) bm newId = true
  kp : PySem.W.keepIn K (.ref (XA K x)) = true
  sb : PySem.W.subIn K (.ref (XA K x)) (.type "BaseException") = some true
  ty : PySem.W.typeIn K (.ref (XA K x)) = some (.type "type")
  te : PySem.W.exmOne K (.ref (XA K x)) (.ref (XA K x)) = some true
def DefX (P : Program) (w : World) (K : PySem.W.Frag) (mg : Str → Option Value) (base : Heap) (k : Nat) (x : Str) (ps : List Str) (sp : Sp) : Prop :=
  ∃ f fd, mg x = some (.ref f) ∧ PySem.W.keepIn K (.ref f) = true ∧ Binds K fd ps [] ∧ FnOk P w K mg base (L2.CX P w) k f fd ps sp
end Fr
set_option Elab.async false
set_option linter.all false
set_option maxRecDepth 100000
namespace Fr
open PySem PySem.Spec PyProof.Rows L2
section
variable {X : Cx} {CX : CXT} {C f : Addr} {fd : FuncData} {ps : List Str} {k : Nat} {sp : Sp} {E : XK}
structure BinC (K : PySem.W.Frag) (C : Addr) (m : Str) (f : Addr) : Prop where
  at_ : PySem.W.findIn K (.ref C) m = some (some (.ref f))
  fn : PySem.W.isFn K (.ref f) = true
  sf : PySem.W.selfFirst K C = true
def rBinI (C : Addr) (sp : Sp) (E : XK) : R2 := fun x y H Q => ∃ a b dx dy fx fy, x = .ref a ∧ y = .ref b ∧ H a = some (.ins C dx fx) ∧ H b = some (.ins C dy fy) ∧ sp [x, y] H (fun v H' => (∃ r, v = .ref r) ∧ Q v H') E
theorem op_binI {op : Operator} (c : BinC X.K C (PySem.dunder op.info.2) f) (F : FnOk X.prog X.w X.K X.mg X.base CX k f fd ps sp) (hb : Binds X.K fd ps []) (hr : Room k X.A) (hx : Passes CX X E) : OpR X (binaryOp op) (rBinI C sp E) := by
  intro pins s σ H x y v u Q I rx ry h
  obtain ⟨a, b, dx, dy, fx, fy, rfl, rfl, ha, hbb, q⟩ := h
  cases (show v = Value.ref a from rx)
  cases (show u = Value.ref b from ry)
  obtain ⟨mA, J, _⟩ := ins_get I.hok ha
  obtain ⟨od, J, _⟩ := J.look
  obtain ⟨mB, J2, _⟩ := ins_get I.hok hbb
  obtain ⟨od2, J2, _⟩ := J2.look
  obtain ⟨m, hF⟩ := I.fr
  refine PySem.W.binop_K hF I.ok.mod.kin J J2.type c.sf c.at_ c.fn ?_
  refine wpAny_mono (run_fn (us := [.ref a, .ref b]) (vs := [.ref a, .ref b]) F hr hb .nil hx I (.cons rfl (.cons rfl .nil)) q) (fun w s' z => ?_) fun _ _ x => x
  obtain ⟨z', H', I', rz, ⟨r, rfl⟩, qz⟩ := z
  cases (show w = Value.ref r from rz)
  exact ⟨.ref r, H', I', rfl, qz⟩
def MDefD (R : Addr → Addr → Prop) (P : Program) (w : World) (K : PySem.W.Frag) (mg : Str → Option Value) (base : Heap) (k : Nat) (ps : List Str) (dvs : List V) (sp : Sp) : Prop :=
  ∃ p f fd ds, R p f ∧ Binds K fd ps [] ∧ Vals dvs ds ∧ Binds K fd ps ds ∧ FnOk P w K mg base CX0 k f fd ps sp
variable {K : PySem.W.Frag}
theorem pi_tupK (hK : X.K = K) {tg l : Expr} {tl : TE} (hl : PE X l tl) : PI X tg l (iTup K tl) := hK ▸ pi_tup hl
theorem pi_listK (hK : X.K = K) {tg l : Expr} {tl : TE} (hl : PE X l tl) : PI X tg l (iList K tl) := hK ▸ pi_list hl
theorem ix_tupK (hK : X.K = K) : IxR X (rIxT K) := hK ▸ ix_tup
theorem ix_listK (hK : X.K = K) : IxR X (rIxL K) := hK ▸ ix_list
def rTupOf (K : PySem.W.Frag) : List V → Hp → VK → Prop := fun xs H Q => ∃ p ys, xs = [.ref p] ∧ ((SqL K H p ys ∧ ∀ l, H l = none → Q (.ref l) (upd H l (.tup ys))) ∨ (SqT K H p ys ∧ Q (.ref p) H))
theorem call_tuple_ofK (hK : X.K = K) : CallR X (.type "tuple") (rTupOf K) := hK ▸ call_tuple_of
theorem cr_sumK (hK : X.K = K) (hc : X.calm = true) : CallR X (.builtin "sum") (rSum K) := hK ▸ cr_sum hc
theorem cr_allK (hK : X.K = K) (hc : X.calm = true) : CallR X (.builtin "all") (rAll K) := hK ▸ cr_all hc
end
end Fr
set_option Elab.async false
set_option linter.all false
set_option maxRecDepth 100000
namespace Fr
open PySem PySem.Spec PyProof.Rows L2
set_option maxHeartbeats 1000000 in
theorem meets_en1 {v : Value} {o : Obj} {H : Heap → Prop} (B : Begins v o H) :
    Meets (Builtin.«enumerate.__new__» ⟨[.type "enumerate", v], []⟩) (fun _ R s => H s.heap ∧
      R (.ok (.ret (.ref (s.heap.push o).objs.size))) { s with heap := (s.heap.push o).push { cls := .type "enumerate", data := .fields #[.none, .bool false, .ref s.heap.objs.size, rawInt 0, .none, .none] } }) :=
  .of_wp fun prog w A R s h => by
    obtain ⟨hp, g, d, tk, os⟩ := s; obtain ⟨h1, h⟩ := h
    have hsub := sub_enumerate
    have q1 : ∀ {A' : Around} {E : Value → Shared → Prop} {Q : Value → Shared → Prop}, Q (.ref hp.objs.size) ⟨hp.push o, g, d, tk, os⟩ → wpAny (model prog w) A' (pyIter v) Q E ⟨hp, g, d, tk, os⟩ :=
      fun q => B.iter prog w _ _ ⟨hp, g, d, tk, os⟩ _ h1 q
    wp_walk using q1
    refine wpAny_stack_any fun st => wpAny_pure ?_
    split
    · rename_i c _ _ _ _ _
      cases (c == Value.type "enumerate")
      · wp_walk using q1
        exact ⟨_, rfl, h⟩
      · wp_walk using q1
        exact ⟨_, rfl, h⟩
    · wp_walk using q1
      exact ⟨_, rfl, h⟩
theorem call_en1 {prog : Program} {w : World} {A : Around} {E : Value → Shared → Prop} {s : Shared} {v : Value} {o : Obj} {H : Heap → Prop} {Q : Value → Shared → Prop} (B : Begins v o H) (h1 : H s.heap)
    (h : ∀ h', IsEnum h' (s.heap.objs.size + 1) s.heap.objs.size 0 .none → h'.get? s.heap.objs.size = some o → h'.objs.size = s.heap.objs.size + 2 →
      (∀ b o, s.heap.get? b = some o → h'.get? b = some o) → Q (.ref (s.heap.objs.size + 1)) { s with heap := h' }) :
    wpAny (model prog w) A (call (.type "enumerate") [v]) Q E s := by
  refine callType_new F.called_enumerate (by decide) (F.typeCall_enumerate_1 _) (F.newCall_enumerate_1 _) (fun obj => F.args_object_init_2 obj _) F.entry_enumerate_new (meets_en1 B) ⟨h1, ?_⟩
  have hz : (s.heap.push o).objs.size = s.heap.objs.size + 1 := Heap.size_push ..
  show _ ∧ _
  rw [hz]
  have he : IsEnum ((s.heap.push o).push { cls := .type "enumerate", data := .fields #[.none, .bool false, .ref s.heap.objs.size, rawInt 0, .none, .none] }) (s.heap.objs.size + 1) s.heap.objs.size 0 .none := by
    have := Heap.get?_push_size (s.heap.push o) (o := { cls := .type "enumerate", data := .fields #[.none, .bool false, .ref s.heap.objs.size, rawInt 0, .none, .none] }) rfl
    rw [hz] at this; exact this
  exact ⟨⟨_, he, rfl⟩, h _ he (Heap.get?_push_of_some _ (Heap.get?_push_size _ B.free)) (by rw [Heap.size_push, hz]) fun b o x => Heap.get?_push_of_some _ (Heap.get?_push_of_some _ x)⟩
def IteT (K : PySem.W.Frag) (a : Addr) : It :=
  ⟨fun i H => ∃ (xs : List V) (x : V), SqT K H a xs ∧ xs[i]? = some x, fun i H v H' => ∃ T x, v = .ref T ∧ H T = none ∧ H' = upd H T (.tup [.int (i : Nat), x]) ∧ ∀ xs, SqT K H a xs → xs[i]? = some x, fun i H => ∃ xs : List V, SqT K H a xs ∧ xs.length = i⟩
theorem turn_enumT {P : Program} {w : World} {K : PySem.W.Frag} {elts : List Expr} {kk : Nat} {tpos : Pos} (a e it : Addr) (hae : a ≠ it) :
    Turn P w K (.Tuple elts kk tpos) (IteT K a) [e, it] e (fun i h => (∃ old, IsEnum h e it ((i : Nat) : Int) old) ∧ h.IsTupleIter it a i ∧ e ≠ it) where
  mem := by simp
  obj := fun i h st b hb => by
    obtain ⟨⟨old, he⟩, ⟨o, ho, hc, hd⟩, _⟩ := st
    have e' : b = e ∨ b = it := by simpa using hb
    rcases e' with z | z
    · rw [z]; exact ⟨_, he, fun v q => nomatch q⟩
    · rw [z]; exact ⟨o, ho, fun v q => by rw [hd] at q; cases q⟩
  keep := fun i h h' st k => let ⟨⟨old, he⟩, hi, hne⟩ := st; ⟨⟨old, k e (by simp) _ he⟩, hi.at fun o q => k it (by simp) o q, hne⟩
  item := by
    intro X hP hw hK hc i pins s σ H E I hf st hg
    subst hP hw hK
    obtain ⟨⟨old, he⟩, hit, hne⟩ := st
    obtain ⟨xs, x, hq, hx⟩ := hg
    obtain ⟨its, rv, p, hz⟩ := I.tuple hq
    obtain ⟨u, hu, ru⟩ := rv.get hx
    have hel : e < s.heap.objs.size := Heap.lt_size he
    have hi : i < its.toArray.size := by
      have := (List.getElem?_eq_some_iff.mp hu).1
      simpa using this
    have hea : e ∉ [it, a] := fun z => by
      have z' : e = it ∨ e = a := by simpa using z
      rcases z' with z | z
      · exact hne z
      · obtain ⟨o, ho, hc', _⟩ := id p
        rw [← z, he] at ho
        cases ho
        injection hc' with z2
        exact absurd z2 (by decide)
    have D := Draws.tuple (prog := X.prog) (w := X.w) (A := X.A.in1) (I.ok.hd hc) it a hae its.toArray
    refine wpAny_pyNext_enum_itemC D he ⟨hit, p⟩ hi hne hea fun y h' tk hy ho hit' hT hsz hk => ?_
    obtain rfl : u = y := by
      have hu' : its.toArray[i]? = some u := by simpa using hu
      have hy' : its.toArray[i]? = some y := hy
      rw [hu'] at hy'
      exact Option.some.inj hy'
    refine ⟨_, rfl, wpAny_letOwnedTupleGo_enum (s := { s with heap := h', toks := tk + 1 }) ho fun h'' he' sb => ?_⟩
    have hT2 : h''.get? s.heap.objs.size = some { cls := .type "tuple", data := .seq #[.int i tk, u] } := (sb.2 _ (Nat.ne_of_gt hel)).trans hT
    have new : ObjOk X.prog X.w (upd H s.heap.objs.size (.tup [.int (i : Nat), x])) h'' s.heap.objs.size (.tup [.int (i : Nat), x]) :=
      ⟨by show 2 ≤ sizeLine; decide, [.int i tk, u], .cons ⟨_, rfl⟩ (.cons ru .nil), ⟨_, hT2, rfl, _, rfl⟩⟩
    have I1 : Inv X pins σ (upd H s.heap.objs.size (.tup [.int (i : Nat), x])) { s with heap := h'', toks := tk + 1 } :=
      I.turnedNew (ch := [e, it]) (fun b ob hb q => (sb.2 b (fun z => hb (by simp [z]))).trans (hk b ob (fun z => hb (by simp [z])) (fun z => hb (by simp [z])) q)) hf (Nat.le_refl _) new
    refine ⟨.ref s.heap.objs.size, _, I1, rfl, ⟨_, x, rfl, I.hok.fresh (Nat.le_refl _), rfl, fun ys hy => by rw [I.tuple_inj hy hq]; exact hx⟩, ⟨⟨u, ?_⟩, hit'.1.at fun o q => (sb.2 it (Ne.symm hne)).trans q, hne⟩, fun b hb => ?_⟩
    · have e1 : ((i + 1 : Nat) : Int) = (i : Int) + 1 := by omega
      rw [e1]; exact he'
    · have hb' : b < s.heap.objs.size := by
        have e' : b = e ∨ b = it := by simpa using hb
        rcases e' with z | z
        · rw [z]; exact hel
        · rw [z]; obtain ⟨_, q, _⟩ := hit; exact Heap.lt_size q
      rw [upd_ne (Nat.ne_of_lt hb')]
      exact (hf b hb).1
  done := by
    intro X hP hw hK hc i pins s σ H E I hf st hg
    subst hP hw hK
    obtain ⟨⟨old, he⟩, hit, hne⟩ := st
    obtain ⟨xs, hq, hx⟩ := hg
    obtain ⟨its, rv, p, hz⟩ := I.tuple hq
    obtain ⟨f0, f1, f2, f3, f4, f5⟩ := hf it (by simp)
    have hl := rv.length
    have D := Draws.tuple (prog := X.prog) (w := X.w) (A := X.A.in1) (I.ok.hd hc) it a hae its.toArray
    have hi : its.toArray.size = i := by simp; omega
    exact wpAny_pyNext_enum_endD D he (by rw [hi]; exact ⟨hit, p⟩) fun h' eb => ⟨rfl, I.turned (t' := s.toks) (fun b o hb q => eb b o hb q) f0 f1 f3 f4 f5⟩
  self := fun A i s Q E st h => let ⟨⟨_, he⟩, _⟩ := st; wpAny_pyIter_enum he h
def iEnumT (K : PySem.W.Frag) (ta : TA) : TI := fun σ H R => ta σ H fun vs H1 => ∃ a xs, vs = [.ref a] ∧ SqT K H1 a xs ∧ R (IteT K a) H1
theorem pi_enumT {X : Cx} {e : Expr} {ta : TA} {p pos tpos : Pos} {elts : List Expr} {kk : Nat} (hg : Gl X "enumerate") (hm : X.mg "enumerate" = none) (ha : PA X [e] ta) (hs : starEach [e] X.env = [(false, eval e X.env)] := by rfl) :
    PI X (.Tuple elts kk tpos) (.Call (.Name "enumerate" p) [e] [] pos) (iEnumT X.K ta) := by
  refine ⟨fun pins s σ H R I h => ?_⟩
  refine Call_ (ld_blt I hg hm boot_enumerate (PyProof.Rows.callWith_type1 (thn (ha.run pos pins s σ H _ I h) fun us s1 ⟨vs, H1, I1, r1, q1⟩ => ?_) hs rfl))
  obtain ⟨a, xs, ex, hq, q⟩ := q1
  subst ex
  cases r1 with
  | cons r rr =>
    cases rr
    cases r
    obtain ⟨its, rv, p', hz⟩ := I1.tuple hq
    have hal : a < s1.heap.objs.size := by obtain ⟨o, ho, _⟩ := id p'; exact Heap.lt_size ho
    refine call_en1 (begins_tuple a its.toArray) p' fun h' he hit hsz hk => wpAny_pyIter_enum he ?_
    have I2 : Inv X pins σ H1 { s1 with heap := h' } := I1.kept (t' := s1.toks) hk
    refine ⟨s1.heap.objs.size + 1, [s1.heap.objs.size + 1, s1.heap.objs.size], _, _, H1, rfl, I2, turn_enumT a (s1.heap.objs.size + 1) s1.heap.objs.size (Nat.ne_of_lt hal), ⟨⟨.none, he⟩, ⟨_, hit, rfl, rfl⟩, Nat.succ_ne_self _⟩, fun b hb => ?_, q⟩
    have e' : b = s1.heap.objs.size + 1 ∨ b = s1.heap.objs.size := by simpa using hb
    have hle : s1.heap.objs.size ≤ b := by
      rcases e' with z | z
      · rw [z]; exact Nat.le_add_right _ _
      · rw [z]; exact Nat.le_refl _
    exact I1.fpOk hle (I1.hok.fresh hle)
section
variable {K : PySem.W.Frag} {a b : Addr} {xs ys : List V}
theorem walk_enumT : Walk (IteT K a) xs.length (fun H => SqT K H a xs) (YPair (fun i => some (.int (i : Nat))) fun i => xs[i]?) :=
  ⟨fun i _ hi q => ⟨xs, xs[i], q, by simp [hi]⟩, fun _ q => ⟨xs, q, rfl⟩, fun i H v H' _ q y => by
    obtain ⟨T, x, rfl, hT, rfl, f⟩ := y
    exact ⟨T, _, x, rfl, hT, rfl, rfl, f xs q⟩⟩
theorem walk_zipT (hl : xs.length = ys.length) : Walk (RZ.ItzT K a b) xs.length (fun H => SqT K H a xs ∧ SqT K H b ys) (YPair (fun i => xs[i]?) fun i => ys[i]?) :=
  ⟨fun i _ hi q => ⟨xs, ys, xs[i], ys[i], q.1, q.2, by simp [hi], by simp [← hl, hi]⟩, fun _ q => ⟨xs, ys, q.1, q.2, .inl (Nat.le_refl _)⟩, fun i H v H' _ q y => by
    obtain ⟨T, x, y, rfl, hT, rfl, f1, f2⟩ := y
    exact ⟨T, x, y, rfl, hT, rfl, f1 xs q.1, f2 ys q.2⟩⟩
theorem walk_zipL (hl : xs.length = ys.length) : Walk (Itz K a b) xs.length (fun H => SqL K H a xs ∧ SqL K H b ys) (YPair (fun i => xs[i]?) fun i => ys[i]?) :=
  ⟨fun i _ hi q => ⟨xs, ys, xs[i], ys[i], q.1, q.2, by simp [hi], by simp [← hl, hi]⟩, fun _ q => ⟨xs, ys, q.1, q.2, .inl (Nat.le_refl _)⟩, fun i H v H' _ q y => by
    obtain ⟨T, x, y, rfl, hT, rfl, f1, f2⟩ := y
    exact ⟨T, x, y, rfl, hT, rfl, f1 xs q.1, f2 ys q.2⟩⟩
end
section
variable {S : Addr → Prop} {I : Hp → Prop} {H : Hp} {J : It} {n : Nat} {G : Hp → Prop} {fx fy : Nat → Option V} {g : TG} {tt : TT} {te : TE} {vs : List Nat} {σ : L2.St} {Q : Addr → Hp → Prop}
theorem lcP (w : Walk J n G (YPair fx fy)) (m : Fm S I) (i0 : I H) (hG : ∀ H', Fx S I H H' → G H') (P : Nat → List V → Hp → Prop) (p0 : ∀ D, H D = none → P 0 [] (upd H D (.lst [])))
    (hs : ∀ D i T x y acc H', H D = none → i < n → fx i = some x → fy i = some y → Fx S I H H' → H' D = some (.lst acc) → acc.length ≤ i → P i acc H' → H' T = none → g (.ref T) (wipe σ vs) (upd H' T (.tup [x, y])) fun σ2 H2 => wipe σ2 vs = wipe σ vs ∧ tt σ2 H2 fun b H3 =>
      if b = true then te σ2 H3 fun y H4 => ∃ acc, H4 D = some (.lst acc) ∧ acc.length < sizeLine ∧ Cs S I H P D (i + 1) (upd H4 D (.lst (acc ++ [y]))) else Cs S I H P D (i + 1) H3)
    (q : ∀ D H' acc, H D = none → Fx S I H H' → H' D = some (.lst acc) → P n acc H' → Q D H') :
    ∀ D, H D = none → ∃ W : Nat → Nat → Hp → Prop, (∃ m, W 0 m (upd H D (.lst []))) ∧ ∀ i m H, W i m H →
      (J.stop i H ∧ Q D H) ∨ (J.go i H ∧ ∃ Nx : Hp → Prop, (∀ H', Nx H' → ∃ m', m' < m ∧ W (i + 1) m' H') ∧ ∀ x H', J.yld i H x H' → g x (wipe σ vs) H' fun σ2 H2 => wipe σ2 vs = wipe σ vs ∧ tt σ2 H2 fun b H3 =>
        if b = true then te σ2 H3 fun y H4 => ∃ acc, H4 D = some (.lst acc) ∧ acc.length < sizeLine ∧ Nx (upd H4 D (.lst (acc ++ [y]))) else Nx H3) := fun D hD =>
  lc_it w (Cs S I H P D) ⟨Fx.new m i0 hD, [], upd_same, Nat.le_refl _, p0 D hD⟩ (fun i H' _ p => hG H' p.1)
    (fun i x H' H'' hi p y => by
      obtain ⟨p1, acc, p2, p3, p4⟩ := p
      obtain ⟨T, x, y, rfl, hT, rfl, f1, f2⟩ := y
      exact hs D i T x y acc H' hD hi f1 f2 p1 p2 p3 p4 hT)
    (fun H' p => by
      obtain ⟨p1, acc, p2, p3, p4⟩ := p
      exact q D H' acc hD p1 p2 p4)
theorem for_P (w : Walk J n G (YPair fx fy)) {g : TG} {tb : TS} {D : Ends} {σ : L2.St} {H : Hp} (Pv : Nat → L2.St → Hp → Prop) (h0 : Pv 0 σ H) (hG : ∀ i σ H, i ≤ n → Pv i σ H → G H)
    (hs : ∀ i T x y σ H, i < n → fx i = some x → fy i = some y → Pv i σ H → H T = none → g (.ref T) σ (upd H T (.tup [x, y])) fun σ2 H2 => tb { D with nx := Pv (i + 1), ct := Pv (i + 1), bk := D.nx } σ2 H2) (hd : ∀ σ H, Pv n σ H → D.nx σ H) :
    ∃ W : Nat → Nat → L2.St → Hp → Prop, (∃ m, W 0 m σ H) ∧ ∀ i m σ H, W i m σ H →
      (J.stop i H ∧ D.nx σ H) ∨ (J.go i H ∧ ∃ N : L2.St → Hp → Prop, (∀ σ' H', N σ' H' → ∃ m', m' < m ∧ W (i + 1) m' σ' H') ∧ ∀ x H', J.yld i H x H' → g x σ H' fun σ2 H2 => tb { D with nx := N, ct := N, bk := D.nx } σ2 H2) :=
  for_it w Pv h0 hG (fun i v σ H H' hi p y => by
    obtain ⟨T, x, y, rfl, hT, rfl, f1, f2⟩ := y
    exact hs i T x y σ H hi f1 f2 p hT) hd
end
end Fr
set_option Elab.async false
set_option linter.all false
set_option maxRecDepth 100000
namespace Fr
open PySem PySem.Spec PyProof.Rows L2
section
variable {prog : Program} {w : World}
theorem meets_bool_own {a : Addr} : MeetsIn prog w (Builtin.«bool.__new__» ⟨[.type "bool", .ref a], []⟩) (fun A R s => wpAny (model prog w) A.in1 (truthy (.ref a)) (fun b s' => R (.ok (.ret (.bool b))) s') (fun e s' => R (.error e) s') s) :=
  fun A R s h => by
    have f1 := F.conv_sub_bool
    repeat (any_goals (first | assumption | (refine wpAny_bind (m := truthy (.ref a)) (wpAny_mono h (fun b s' hb => ?_) fun _ _ y => y)) | wp_step))
theorem call_bool_ref {A : Around} {E : Value → Shared → Prop} {s : Shared} {a : Addr} {Q : Value → Shared → Prop} (h : wpAny (model prog w) A.in1.in1 (truthy (.ref a)) (fun b s' => Q (.bool b) s') E s) :
    wpAny (model prog w) A (call (.type "bool") [.ref a]) Q E s :=
  callType_newIn F.called_bool F.newNe_bool (F.typeCall_bool_1 _) (F.newCall_bool_1 _) (fun obj => F.args_object_init_2 obj _) F.entry_bool_new meets_bool_own
    (wpAny_mono h (fun b s' q => ⟨rfl, q⟩) fun _ _ y => y)
end
section
variable {X : Cx} {CX : CXT} {C f : Addr} {fd : FuncData} {ps : List Str} {k : Nat} {sp : Sp} {E : XK}
theorem call_boolI (c : Meth X.K C "__bool__" f) (F : FnOk X.prog X.w X.K X.mg X.base CX k f fd ps sp) (hb : Binds X.K fd ps []) (hr : Room (k + 2) X.A) (hx : Passes CX X E) :
    CallR X (.type "bool") (fun xs H Q => ∃ a dx fs, xs = [.ref a] ∧ H a = some (.ins C dx fs) ∧ sp [.ref a] H (fun v H' => ∃ b, v = .bl b ∧ Q (.bl b) H') E) := by
  intro pins s σ H xs us Q I r h
  obtain ⟨a, dx, fs, rfl, ha, q⟩ := h
  obtain rfl := Vals.ref1 r
  obtain ⟨mA, J, _⟩ := ins_get I.hok ha
  obtain ⟨od, J, _⟩ := J.look
  obtain ⟨m, hF⟩ := I.fr
  have hl : [Value.ref a].length = ps.length := (F.len _ _ _ _ q)
  refine call_bool_ref (PySem.W.truthy_K hF I.ok.mod.kin J c.at_ c.fn ?_)
  refine wpAny_call (codeAny_mono (F.run X.A.in1.in1 X.stack s H ⟨[.ref a], []⟩ [.ref a] [.ref a] _ E hr.in1.in1 I.env0.in1.in1 (hb s [.ref a] I.kIn hl) (.cons rfl .nil) q) fun r s' hq => ?_)
  cases r with
  | error e => exact hx pins σ H s e s' I hq
  | ok fl =>
    cases fl with
    | ret u =>
      obtain ⟨v, H', I3, rv, b, rfl, q3⟩ := I.after hq
      cases (show u = Value.bool b from rv)
      exact ⟨.bl b, H', I3, rfl, q3⟩
    | next => exact False.elim hq
    | brk => exact False.elim hq
    | cont => exact False.elim hq
end
end Fr
set_option Elab.async false
set_option linter.all false
set_option maxRecDepth 100000
namespace Fr
open PySem PySem.Spec PyProof.Rows L2
theorem iter_anyT {prog : Program} {w : World} {A : Around} {E : Value → Shared → Prop} {s : Shared} {l : Addr} {items : Array Value} {Q : Value → Shared → Prop} (hl : s.heap.IsTuple l items)
    (h : ∀ s₂ : Shared, s₂ = { s with heap := s.heap.push { cls := .type "tuple_iterator", data := .fields #[.ref l, .int 0 0] } } →
      (s₂.heap.IsTupleIter s.heap.objs.size l 0 ∧ s₂.heap.IsTuple l items) → l ≠ s.heap.objs.size → Q (.ref s.heap.objs.size) s₂) : wpAny (model prog w) A (pyIter (.ref l)) Q E s := by
  have hlt : l < s.heap.objs.size := by obtain ⟨_, e, _⟩ := hl; exact Heap.lt_size e
  exact wpAny_pyIter_tuple hl (h _ rfl ⟨⟨_, Heap.get?_push_size _ rfl, rfl, rfl⟩, hl.push _⟩ (Nat.ne_of_lt hlt))
theorem ints_at : ∀ {us : List Value} {ns : List Int}, IntsAre us ns → ∀ (i : Nat) (v : Value), us[i]? = some v → ∃ n t, v = .int n t ∧ ns[i]? = some n
  | _, _, .nil, i, v, h => by simp at h
  | _, _, .cons n t r, 0, v, h => ⟨n, t, (Option.some.inj h).symm, rfl⟩
  | _, _, .cons n t r, i + 1, v, h => ints_at r i v h
theorem truth_ints {prog : Program} {w : World} {A : Around} {ns : List Int} {its : List Value} (e : IntsAre its ns) :
    TruthOf prog w A (fun i v => its.toArray[i]? = some v) (fun i => (ns.map (fun n => n != 0)).getD i false) := fun i v s Q E hv hq => by
  have hv' : its[i]? = some v := by simpa using hv
  obtain ⟨n, t, rfl, hn⟩ := ints_at e i v hv'
  have hg : (ns.map (fun n => n != 0)).getD i false = (n != 0) := by rw [List.getD_eq_getElem?_getD, List.getElem?_map, hn] <;> rfl
  have hq' : Q ((ns.map (fun n => n != 0)).getD i false) s := hq
  rw [hg] at hq'
  exact P.truthy_int hq'
section
variable {X : Cx}
def rAnyT (K : PySem.W.Frag) : List V → Hp → VK → Prop := fun vs H Q => ∃ (a : Addr) (ns : List Int), vs = [V.ref a] ∧ SqT K H a (ns.map V.int) ∧ Q (.bl (ns.any (fun n => n != 0))) H
theorem cr_anyT (hc : X.calm = true) : CallR X (.builtin "any") (rAnyT X.K) := by
  intro pins s σ H vs us Q I r h
  obtain ⟨a, ns, rfl, hs, q⟩ := h
  obtain ⟨its, rv, hl, _⟩ := I.tuple hs
  rw [Vals.ref1 r]
  have hb := Vals.ints rv
  have hl' : s.heap.IsTuple a its.toArray := by
    obtain ⟨o, e1, e2, n, e3⟩ := hl
    exact ⟨o, e1, e2, n, e3⟩
  have hlen : its.length = ns.length := by rw [← rv.length, List.length_map]
  refine call_any_walk (iter_anyT hl' fun s₂ e2 st hne => ?_)
  subst e2
  refine ⟨_, _, _, _, _, _, _, rfl, Walks.tuple (A := X.A.in1) (I.ok.hd hc) _ a hne its.toArray, st, truth_ints hb, fun h' tk hk => ?_⟩
  refine ⟨.bl _, H, I.kept fun b o eo => hk b o (fun hmem => ?_) (Heap.get?_push_of_some _ eo), ?_, q⟩
  · rcases List.mem_cons.mp hmem with e1 | hmem
    · exact absurd (e1 ▸ Heap.lt_size eo) (Nat.lt_irrefl _)
    · cases hmem
  · show Value.bool _ = Value.bool _
    have := any_range (ns.map (fun n => n != 0))
    rw [List.length_map] at this
    rw [List.size_toArray, hlen, this, List.any_map]
    rfl
end
end Fr
set_option Elab.async false
set_option linter.all false
set_option maxRecDepth 100000
namespace Fr
open PySem PySem.Spec PyProof.Rows L2
def Vat (c : Addr) (H : Hp) : Prop := ∃ x y z : Int, H c = some (.lst [.int x, .int y, .int z])
def Sv (c : Addr) : Addr → Prop := fun b => b = c
theorem fmV (c : Addr) : Fm (Sv c) (Vat c) := by
  constructor
  · intro H D i h e
    obtain ⟨x, y, z, q⟩ := i
    unfold Sv at e
    rw [e, q] at h
    cases h
  · intro H D o n i
    obtain ⟨x, y, z, q⟩ := i
    exact ⟨x, y, z, by rw [upd_ne (fun e => n e.symm)]; exact q⟩
abbrev Fv (c : Addr) : Hp → Hp → Prop := Fx (Sv c) (Vat c)
theorem vat_new {c l : Addr} {H : Hp} {o : HO} (hc : Vat c H) (hl : H l = none) : Vat c (upd H l o) := (fmV c).stay ((fmV c).fresh hc hl) hc
theorem fv_new {c l : Addr} {H : Hp} {o : HO} (hc : Vat c H) (hl : H l = none) : Fv c H (upd H l o) := Fx.new (fmV c) hc hl
theorem fv_ne {c l : Addr} {H : Hp} (hc : Vat c H) (hl : H l = none) : l ≠ c := (fmV c).fresh hc hl
theorem vat_ex {c : Addr} {H H' : Hp} (hc : Vat c H) (e : Ex0 H H') : Vat c H' := by
  obtain ⟨x, y, z, q⟩ := hc
  exact ⟨x, y, z, Ex0.ap e q⟩
theorem fv_ex {c : Addr} {H H' : Hp} (hc : Vat c H) (e : Ex0 H H') : Fv c H H' := ⟨vat_ex hc e, fun b o _ h => Ex0.ap e h⟩
theorem fv_tup {c a : Addr} {H H' : Hp} {xs : List V} (hc : Vat c H) (f : Fv c H H') (h : H a = some (.tup xs)) : H' a = some (.tup xs) := f.2 a _ (fun e => by
  obtain ⟨x, y, z, q⟩ := hc
  unfold Sv at e
  rw [e, q] at h
  cases h) h
theorem ex_fv {p : Addr} {H H1 H2 : Hp} (e : Ex0 H H1) (hp : H p = none) (f : Fv p H1 H2) : Ex0 H H2 := ⟨trivial, fun b o _ h => f.2 b o (fun z => by unfold Sv at z; rw [z, hp] at h; cases h) (Ex0.ap e h)⟩
theorem cut_map (ns : List Int) (lo hi : Option Int) : cutV (ns.map V.int) lo hi = ((ns.drop (HT.sIx (ns.map V.int).length 0 lo)).take (HT.sIx (ns.map V.int).length (ns.map V.int).length hi - HT.sIx (ns.map V.int).length 0 lo)).map V.int := by
  unfold cutV
  rw [← List.map_drop, ← List.map_take]
end Fr
set_option Elab.async false
set_option linter.all false
set_option maxRecDepth 100000
namespace Fr
open PySem PySem.Spec PyProof.Rows L2
@[reducible] def SqK (k : Bool) (K : PySem.W.Frag) (H : Hp) (a : Addr) (xs : List V) : Prop := match k with
  | true => SqT K H a xs
  | false => SqL K H a xs
@[reducible] def IterK (k : Bool) (h : Heap) (it l : Addr) (i : Nat) : Prop := match k with
  | true => h.IsTupleIter it l i
  | false => h.IsListIter it l i
@[reducible] def HasK (k : Bool) (h : Heap) (l : Addr) (items : Array Value) : Prop := match k with
  | true => h.IsTuple l items
  | false => h.IsList l items
theorem IterK.cell {k : Bool} {h : Heap} {it l : Addr} {i : Nat} (q : IterK k h it l i) : ∃ o, h.get? it = some o ∧ ∀ v, o.data ≠ .cell v := by
  cases k <;> obtain ⟨o, e, _, d⟩ := q <;> exact ⟨o, e, fun v z => by rw [d] at z; cases z⟩
theorem IterK.look {k : Bool} {h h' : Heap} {it l : Addr} {i : Nat} (q : IterK k h it l i) (e : ∀ o, h.get? it = some o → h'.get? it = some o) : IterK k h' it l i := by
  cases k
  · exact Heap.IsListIter.at q fun o z => e o z
  · exact Heap.IsTupleIter.at q fun o z => e o z
theorem drawsK {k : Bool} {prog : Program} {w : World} {A : Around} (hh : A.handled = none) (it l : Addr) (hne : l ≠ it) (items : Array Value) :
    Draws prog w A it [it, l] items.size (fun i v => items[i]? = some v) (fun i h => IterK k h it l i ∧ HasK k h l items) := by
  cases k
  · exact Draws.list hh it l hne items
  · exact Draws.tuple hh it l hne items
section
variable {X : Cx} {pins : List (Addr × Obj)} {σ : L2.St} {H : Hp} {s : Shared}
theorem hasK (I : Inv X pins σ H s) {k : Bool} {a : Addr} {xs : List V} (q : SqK k X.K H a xs) : ∃ its : List Value, Vals xs its ∧ HasK k s.heap a its.toArray ∧ a < s.heap.objs.size := by
  cases k
  · obtain ⟨its, rv, p, _⟩ := I.list q
    exact ⟨its, rv, p.isList, p.lt⟩
  · obtain ⟨its, rv, p, _⟩ := I.tuple q
    exact ⟨its, rv, p, by obtain ⟨o, e, _⟩ := id p; exact Heap.lt_size e⟩
theorem sqK_inj (I : Inv X pins σ H s) {k : Bool} {a : Addr} {xs ys : List V} (q : SqK k X.K H a xs) (r : SqK k X.K H a ys) : xs = ys := by
  cases k
  · exact I.list_inj q r
  · exact I.tuple_inj q r
end
def ItzK (K : PySem.W.Frag) (k1 k2 : Bool) (a b : Addr) : It where
  go := fun i H => ∃ (xs ys : List V) (x y : V), SqK k1 K H a xs ∧ SqK k2 K H b ys ∧ xs[i]? = some x ∧ ys[i]? = some y
  yld := fun i H v H' => ∃ T x y, v = .ref T ∧ H T = none ∧ H' = upd H T (.tup [x, y]) ∧ (∀ xs, SqK k1 K H a xs → xs[i]? = some x) ∧ ∀ ys, SqK k2 K H b ys → ys[i]? = some y
  stop := fun i H => ∃ xs ys : List V, SqK k1 K H a xs ∧ SqK k2 K H b ys ∧ xs.length = i ∧ ys.length = i
theorem in5 {c z TI TO i1 i2 : Addr} (h : c ∈ [z, TI, TO, i1, i2]) : c = z ∨ c = TI ∨ c = TO ∨ c = i1 ∨ c = i2 := by simpa using h
theorem turn_zipK {P : Program} {w : World} {K : PySem.W.Frag} {elts : List Expr} {kk : Nat} {tpos : Pos} {k1 k2 : Bool} {a b z TI TO i1 i2 : Addr} (S : ZipSep2 z TI TO i1 i2 [i1, a] [i2, b]) (na : a ≠ i1) (nb : b ≠ i2) :
    Turn P w K (.Tuple elts kk tpos) (ItzK K k1 k2 a b) [z, TI, TO, i1, i2] z (fun i h => IsZip h z TI TO .none ∧ IsTupOf2 h TI (.ref i1) (.ref i2) ∧ (∃ x y, IsTupOf2 h TO x y) ∧ IterK k1 h i1 a i ∧ IterK k2 h i2 b i) where
  mem := by simp
  obj := fun i h st c hc => by
    obtain ⟨hz, hTI, ⟨x, y, hTO⟩, q1, q2⟩ := st
    rcases in5 hc with q | q | q | q | q <;> rw [q]
    · exact ⟨_, hz, fun v q => nomatch q⟩
    · exact ⟨_, hTI, fun v q => nomatch q⟩
    · exact ⟨_, hTO, fun v q => nomatch q⟩
    · exact q1.cell
    · exact q2.cell
  keep := fun i h h' st kp => by
    obtain ⟨hz, hTI, ⟨x, y, hTO⟩, q1, q2⟩ := st
    exact ⟨kp z (by simp) _ hz, kp TI (by simp) _ hTI, ⟨x, y, kp TO (by simp) _ hTO⟩, q1.look fun o q => kp i1 (by simp) o q, q2.look fun o q => kp i2 (by simp) o q⟩
  item := by
    intro X hP hw hK hc i pins s σ H E I hf st hg
    subst hP hw hK
    obtain ⟨hz, hTI, ⟨x0, y0, hTO⟩, q1, q2⟩ := st
    obtain ⟨xs, ys, x, y, hqx, hqy, hx, hy⟩ := hg
    obtain ⟨its1, rv1, p1, _⟩ := hasK I hqx
    obtain ⟨its2, rv2, p2, _⟩ := hasK I hqy
    obtain ⟨u1, hu1, ru1⟩ := rv1.get hx
    obtain ⟨u2, hu2, ru2⟩ := rv2.get hy
    have hzl : z < s.heap.objs.size := Heap.lt_size hz
    have D1 := drawsK (k := k1) (prog := X.prog) (w := X.w) (A := X.A.in1) (I.ok.hd hc) i1 a na its1.toArray
    have D2 := drawsK (k := k2) (prog := X.prog) (w := X.w) (A := X.A.in1) (I.ok.hd hc) i2 b nb its2.toArray
    have l1 : i < its1.toArray.size := by
      have := (List.getElem?_eq_some_iff.mp hu1).1
      simpa using this
    have l2 : i < its2.toArray.size := by
      have := (List.getElem?_eq_some_iff.mp hu2).1
      simpa using this
    refine wpAny_pyNext_zipD2_item S D1 D2 hz hTI hTO ⟨q1, p1⟩ ⟨q2, p2⟩ l1 l2 fun y1 y2 h' tk e1 e2 z' TO' st1 st2 hT hsz hk => ?_
    obtain rfl : u1 = y1 := by
      have a1 : its1.toArray[i]? = some u1 := by simpa using hu1
      have a2 : its1.toArray[i]? = some y1 := e1
      rw [a1] at a2
      exact Option.some.inj a2
    obtain rfl : u2 = y2 := by
      have a1 : its2.toArray[i]? = some u2 := by simpa using hu2
      have a2 : its2.toArray[i]? = some y2 := e2
      rw [a1] at a2
      exact Option.some.inj a2
    refine ⟨_, rfl, wpAny_letOwnedTupleGo_zip (s := { s with heap := h', toks := tk }) z' fun h'' z'' sb => ?_⟩
    have hT2 : h''.get? s.heap.objs.size = some { cls := .type "tuple", data := .seq #[u1, u2] } := (sb.2 _ (Nat.ne_of_gt hzl)).trans hT
    have new : ObjOk X.prog X.w (upd H s.heap.objs.size (.tup [x, y])) h'' s.heap.objs.size (.tup [x, y]) :=
      ⟨by show 2 ≤ sizeLine; decide, [u1, u2], .cons ru1 (.cons ru2 .nil), ⟨_, hT2, rfl, _, rfl⟩⟩
    have I1 : Inv X pins σ (upd H s.heap.objs.size (.tup [x, y])) { s with heap := h'', toks := tk } :=
      I.turnedNew (ch := [z, TI, TO, i1, i2]) (fun c o hb q => (sb.2 c (fun e => hb (by simp [e]))).trans (hk c o (fun e => hb (by simp [e])) (fun e => hb (by simp [e])) (fun e => hb (by simp [e])) (fun e => hb (by simp [e])) q)) hf (Nat.le_refl _) new
    refine ⟨.ref s.heap.objs.size, _, I1, rfl, ⟨_, x, y, rfl, I.hok.fresh (Nat.le_refl _), rfl, fun l hl => by rw [sqK_inj I hl hqx]; exact hx, fun l hl => by rw [sqK_inj I hl hqy]; exact hy⟩, ⟨z'', ?_, ⟨u1, u2, ?_⟩, ?_, ?_⟩, fun c hcm => ?_⟩
    · exact (sb.2 _ S.TIz).trans (hk _ _ S.TIz S.TITO S.TIi1 S.TIi2 hTI)
    · exact (sb.2 _ S.TOz).trans TO'
    · exact st1.1.look fun o q => (sb.2 _ (Ne.symm S.zi1)).trans q
    · exact st2.1.look fun o q => (sb.2 _ (Ne.symm S.zi2)).trans q
    · have hlt : c < s.heap.objs.size := by
        rcases in5 hcm with q | q | q | q | q <;> rw [q]
        · exact hzl
        · exact Heap.lt_size hTI
        · exact Heap.lt_size hTO
        · obtain ⟨_, e, _⟩ := q1.cell; exact Heap.lt_size e
        · obtain ⟨_, e, _⟩ := q2.cell; exact Heap.lt_size e
      rw [upd_ne (Nat.ne_of_lt hlt)]
      exact (hf c hcm).1
  done := by
    intro X hP hw hK hc i pins s σ H E I hf st hg
    subst hP hw hK
    obtain ⟨hz, hTI, ⟨x0, y0, hTO⟩, q1, q2⟩ := st
    obtain ⟨xs, ys, hqx, hqy, ex, ey⟩ := hg
    obtain ⟨its1, rv1, p1, _⟩ := hasK I hqx
    obtain ⟨its2, rv2, p2, _⟩ := hasK I hqy
    have D1 := drawsK (k := k1) (prog := X.prog) (w := X.w) (A := X.A.in1) (I.ok.hd hc) i1 a na its1.toArray
    have D2 := drawsK (k := k2) (prog := X.prog) (w := X.w) (A := X.A.in1) (I.ok.hd hc) i2 b nb its2.toArray
    have l1 : its1.toArray.size = i := by have := rv1.length; simp; omega
    have l2 : its2.toArray.size = i := by have := rv2.length; simp; omega
    exact wpAny_pyNext_zipD2_end S D1 D2 hz hTI hTO ⟨q1, p1⟩ ⟨q2, p2⟩ (by omega) (by omega) (.inl (by omega)) fun h' tk hk => ⟨rfl, I.turnedL (ch := [z, TI, TO, i1, i2]) (fun c o hb q =>
      hk c o (fun e => hb (by simp [e])) (fun e => hb (by simp [e])) (fun e => hb (by simp [e])) (fun e => hb (by simp [e])) q) hf⟩
  self := fun A i s Q E st h => wpAny_pyIter_zip st.1 h
def iZipK (K : PySem.W.Frag) (k1 k2 : Bool) (ta : TA) : TI := fun σ H R => ta σ H fun vs H1 => ∃ a b xs ys, vs = [.ref a, .ref b] ∧ SqK k1 K H1 a xs ∧ SqK k2 K H1 b ys ∧ R (ItzK K k1 k2 a b) H1
theorem pi_zipK (k1 k2 : Bool) {X : Cx} {e e2 : Expr} {ta : TA} {p pos tpos : Pos} {elts : List Expr} {kk : Nat} (hg : Gl X "zip") (hm : X.mg "zip" = none) (ha : PA X [e, e2] ta)
    (hs : starEach [e, e2] X.env = (false, eval e X.env) :: starEach [e2] X.env := by rfl) (hpl : (backTo pos (starEach [e2] X.env)).any (·.1) = false := by rfl) :
    PI X (.Tuple elts kk tpos) (.Call (.Name "zip" p) [e, e2] [] pos) (iZipK X.K k1 k2 ta) := by
  refine ⟨fun pins s σ H R I h => Call_ (ld_blt I hg hm PyProof.Rows.boot_zip (PyProof.Rows.callWith_type1 (thn (ha.run pos pins s σ H _ I h) fun us s1 ⟨vs, H1, I1, r1, a, b, xs, ys, ex, hqx, hqy, q⟩ => ?_) hs hpl))⟩
  subst ex
  cases r1 with
  | cons r rr =>
    cases rr with
    | cons r' rr =>
      cases rr
      cases r
      cases r'
      obtain ⟨its1, rv1, p1, b1⟩ := hasK I1 hqx
      obtain ⟨its2, rv2, p2, b2⟩ := hasK I1 hqy
      generalize hn : s1.heap.objs.size = n at b1 b2
      have fin : ∀ h', IsZip h' (n + 4) (n + 2) (n + 3) .none → IsTupOf2 h' (n + 2) (.ref n) (.ref (n + 1)) → IsTupOf2 h' (n + 3) .none .none → IterK k1 h' n a 0 → IterK k2 h' (n + 1) b 0 →
          (∀ c o, s1.heap.get? c = some o → h'.get? c = some o) → wpAny (model X.prog X.w) X.A (pyIter (.ref (n + 4))) (PIE X pins σ (.Tuple elts kk tpos) R) X.xe { s1 with heap := h' } := fun h' hz hTI hTO h1 h2 hk => by
        refine wpAny_pyIter_zip hz ?_
        have I2 : Inv X pins σ H1 { s1 with heap := h' } := I1.kept (t' := s1.toks) hk
        have S : ZipSep2 (n + 4) (n + 2) (n + 3) n (n + 1) [n, a] [n + 1, b] := by
          have a1 : ∀ j : Nat, (n + j : Nat) ≠ a := fun j e => Nat.lt_irrefl n (Nat.lt_of_le_of_lt (Nat.le_add_right n j) (by rw [e]; exact b1))
          have a2 : ∀ j : Nat, (n + j : Nat) ≠ b := fun j e => Nat.lt_irrefl n (Nat.lt_of_le_of_lt (Nat.le_add_right n j) (by rw [e]; exact b2))
          have q : ∀ i j : Nat, i ≠ j → (n + i : Nat) ≠ n + j := fun i j h e => h (by omega)
          have o2 : ∀ {x y z : Addr}, x ≠ y → x ≠ z → x ∉ [y, z] := fun h1 h2 h => by simp [h1, h2] at h
          exact ⟨q 2 4 (by decide), q 3 4 (by decide), q 2 3 (by decide), q 2 0 (by decide), by simp, o2 (q 4 0 (by decide)) (a1 4), o2 (q 3 0 (by decide)) (a1 3), q 2 1 (by decide), by simp, o2 (q 4 1 (by decide)) (a2 4), o2 (q 3 1 (by decide)) (a2 3), o2 (q 0 1 (by decide)) (a2 0), o2 (q 1 0 (by decide)) (a1 1)⟩
        refine ⟨n + 4, [n + 4, n + 2, n + 3, n, n + 1], _, ItzK X.K k1 k2 a b, H1, rfl, I2, turn_zipK S (Nat.ne_of_lt b1) (Nat.ne_of_lt (Nat.lt_succ_of_lt b2)), ⟨hz, hTI, ⟨_, _, hTO⟩, h1, h2⟩, fun c hcm => ?_, q⟩
        have hle : s1.heap.objs.size ≤ c := by
          rcases in5 hcm with z | z | z | z | z <;> rw [z] <;> omega
        exact I1.fpOk hle (I1.hok.fresh hle)
      subst hn
      cases k1 <;> cases k2
      · exact zip_begins2 (begins_list a its1.toArray) (begins_list b its2.toArray) p1 p2 fun h' hz hTI hTO h1 h2 _ hk => fin h' hz hTI hTO ⟨_, h1, rfl, rfl⟩ ⟨_, h2, rfl, rfl⟩ hk
      · exact zip_begins2 (begins_list a its1.toArray) (begins_tuple b its2.toArray) p1 p2 fun h' hz hTI hTO h1 h2 _ hk => fin h' hz hTI hTO ⟨_, h1, rfl, rfl⟩ ⟨_, h2, rfl, rfl⟩ hk
      · exact zip_begins2 (begins_tuple a its1.toArray) (begins_list b its2.toArray) p1 p2 fun h' hz hTI hTO h1 h2 _ hk => fin h' hz hTI hTO ⟨_, h1, rfl, rfl⟩ ⟨_, h2, rfl, rfl⟩ hk
      · exact zip_begins2 (begins_tuple a its1.toArray) (begins_tuple b its2.toArray) p1 p2 fun h' hz hTI hTO h1 h2 _ hk => fin h' hz hTI hTO ⟨_, h1, rfl, rfl⟩ ⟨_, h2, rfl, rfl⟩ hk
theorem walk_zipK {K : PySem.W.Frag} {k1 k2 : Bool} {a b : Addr} {xs ys : List V} (hl : xs.length = ys.length) : Walk (ItzK K k1 k2 a b) xs.length (fun H => SqK k1 K H a xs ∧ SqK k2 K H b ys) (YPair (fun i => xs[i]?) fun i => ys[i]?) :=
  ⟨fun i _ hi q => ⟨xs, ys, xs[i], ys[i], q.1, q.2, by simp [hi], by simp [← hl, hi]⟩, fun _ q => ⟨xs, ys, q.1, q.2, rfl, hl.symm⟩, fun i H v H' _ q y => by
    obtain ⟨T, x, y, rfl, hT, rfl, f1, f2⟩ := y
    exact ⟨T, x, y, rfl, hT, rfl, f1 xs q.1, f2 ys q.2⟩⟩
end Fr
set_option Elab.async false
set_option linter.all false
set_option maxRecDepth 100000
namespace Fr
open PySem PySem.Spec PyProof.Rows L2
def addAt (l : List Int) (k : Nat) (v : Int) : List Int := l.set k (l.getD k 0 + v)
def rowN (l : List Int) (k : Nat) (x : Int) (ys : List Int) : Nat → List Int
  | 0 => l
  | j + 1 => addAt (rowN l k x ys j) (k + j) (x * ys.getD j 0)
def prodN (xs ys : List Int) : Nat → List Int
  | 0 => List.replicate (xs.length + ys.length - 1) 0
  | i + 1 => rowN (prodN xs ys i) i (xs.getD i 0) ys ys.length
def prodL (xs ys : List Int) : List Int := prodN xs ys xs.length
theorem addAt_len (l : List Int) (k : Nat) (v : Int) : (addAt l k v).length = l.length := by unfold addAt; rw [List.length_set]
theorem rowN_len (l : List Int) (k : Nat) (x : Int) (ys : List Int) : ∀ j, (rowN l k x ys j).length = l.length
  | 0 => rfl
  | j + 1 => by rw [rowN, addAt_len, rowN_len l k x ys j]
theorem prodN_len (xs ys : List Int) : ∀ i, (prodN xs ys i).length = xs.length + ys.length - 1
  | 0 => by rw [prodN, List.length_replicate]
  | i + 1 => by rw [prodN, rowN_len, prodN_len xs ys i]
theorem prodL_len (xs ys : List Int) : (prodL xs ys).length = xs.length + ys.length - 1 := prodN_len xs ys _
theorem gD_mem {l : List Int} {k : Nat} (h : k < l.length) : l.getD k 0 ∈ l := by
  rw [List.getD_eq_getElem?_getD, List.getElem?_eq_getElem h]
  exact List.getElem_mem h
theorem getD_le {l : List Int} {m : Nat} (h : ∀ z ∈ l, z.natAbs ≤ m) (k : Nat) : (l.getD k 0).natAbs ≤ m := by
  by_cases hk : k < l.length
  · exact h _ (gD_mem hk)
  · rw [List.getD_eq_getElem?_getD, List.getElem?_eq_none (by omega)]
    exact Nat.zero_le _
theorem rowN_le {l : List Int} {k : Nat} {x : Int} {ys : List Int} {m M : Nat} (h : ∀ z ∈ l, z.natAbs ≤ m) (hy : ∀ y ∈ ys, (x * y).natAbs ≤ M) : ∀ j, j ≤ ys.length → ∀ z ∈ rowN l k x ys j, z.natAbs ≤ m + j * M
  | 0, _ => fun z hz => by have := h z hz; omega
  | j + 1, hj => fun z hz => by
    have ih := rowN_le (k := k) h hy j (by omega)
    have e : (j + 1) * M = j * M + M := by rw [Nat.add_mul, Nat.one_mul]
    rw [rowN] at hz
    unfold addAt at hz
    rcases List.mem_or_eq_of_mem_set hz with q | rfl
    · have := ih z q
      omega
    · have h1 := getD_le ih (k + j)
      have h2 := hy _ (gD_mem (show j < ys.length by omega))
      omega
theorem prodN_le {xs ys : List Int} {M : Nat} (h : ∀ x ∈ xs, ∀ y ∈ ys, (x * y).natAbs ≤ M) : ∀ i, i ≤ xs.length → ∀ z ∈ prodN xs ys i, z.natAbs ≤ i * (ys.length * M)
  | 0, _ => fun z hz => by
    rw [prodN] at hz
    rw [List.eq_of_mem_replicate hz]
    exact Nat.zero_le _
  | i + 1, hi => fun z hz => by
    have ih := prodN_le h i (by omega)
    have e : (i + 1) * (ys.length * M) = i * (ys.length * M) + ys.length * M := by rw [Nat.add_mul, Nat.one_mul]
    rw [prodN] at hz
    rw [e]
    exact rowN_le ih (fun y hy => h _ (gD_mem (by omega)) y hy) _ (Nat.le_refl _) z hz
theorem prodL_B {xs ys : List Int} {a b : Nat} (ha : ∀ x ∈ xs, B a x) (hb : ∀ y ∈ ys, B b y) (hp : 0 < a) : ∀ z ∈ prodL xs ys, B (a + b + xs.length * ys.length) z := fun z hz => by
  have h1 := prodN_le (M := 2 ^ (a + b)) (fun x hx y hy => Nat.le_of_lt (B.mul (ha x hx) (hb y hy)).1) xs.length (Nat.le_refl _) z hz
  refine ⟨?_, by omega⟩
  rw [← Nat.mul_assoc] at h1
  rw [Nat.pow_add 2 (a + b), Nat.mul_comm]
  exact Nat.lt_of_le_of_lt h1 (Nat.mul_lt_mul_of_pos_right Nat.lt_two_pow_self (Nat.two_pow_pos _))
theorem get_map {l : List Int} {k : Nat} (h : k < l.length) : (l.map V.int)[k]? = some (V.int (l.getD k 0)) := by
  rw [List.getElem?_map, List.getElem?_eq_getElem h, List.getD_eq_getElem?_getD, List.getElem?_eq_getElem h]
  rfl
theorem get_D {l : List Int} {k : Nat} {y : V} (h : (l.map V.int)[k]? = some y) : y = V.int (l.getD k 0) ∧ k < l.length := by
  have hk : k < l.length := by
    have := (List.getElem?_eq_some_iff.mp h).1
    rwa [List.length_map] at this
  rw [get_map hk] at h
  exact ⟨(Option.some.inj h).symm, hk⟩
theorem zeros (m : Nat) : (List.replicate m [V.int 0]).flatten = (List.replicate m (0 : Int)).map V.int := by
  induction m with
  | zero => rfl
  | succ m ih => rw [List.replicate_succ, List.replicate_succ, List.flatten_cons, ih]; rfl
def valN (xs : List Int) (x y : Int) : Nat → Int × Int
  | 0 => (0, 1)
  | i + 1 => ((valN xs x y i).1 * x + xs.getD i 0 * (valN xs x y i).2, (valN xs x y i).2 * y)
theorem valN_B {xs : List Int} {x y : Int} (hx : B 200 x) (hy : B 200 y) (h : ∀ z ∈ xs, B 200 z) : ∀ i, i ≤ 8 → B (1 + 3000 * i) (valN xs x y i).1 ∧ B (1 + 200 * i) (valN xs x y i).2
  | 0, _ => ⟨⟨by show (0 : Int).natAbs < 2 ^ 1; decide, by decide⟩, ⟨by show (1 : Int).natAbs < 2 ^ 1; decide, by decide⟩⟩
  | i + 1, hi => by
    obtain ⟨h1, h2⟩ := valN_B hx hy h i (by omega)
    have h3 : B 200 (xs.getD i 0) := ⟨Nat.lt_of_le_of_lt (getD_le (m := 2 ^ 200 - 1) (fun z hz => Nat.le_sub_one_of_lt (h z hz).1) i) (by decide), by decide⟩
    rw [valN]
    exact ⟨(B.add (B.mul h1 hx) (B.mul h3 h2)).mono (by omega), (B.mul h2 hy).mono (by omega)⟩
def partN (n : Nat) (e p q r s : Int) (i : Nat) : Nat → List Int
  | 0 => [e]
  | t + 1 => prodL (partN n e p q r s i t) (if (0 : Int) + (t : Int) < ((n : Int) - 1) - (i : Int) then [p, r] else [q, s])
def putN (row : List Int) (p q r s : Int) : Nat → List Int
  | 0 => List.replicate row.length 0
  | i + 1 => List.zipWith (· + ·) (putN row p q r s i) (partN row.length (row.getD i 0) p q r s i (row.length - 1))
theorem partN_len (n : Nat) (e p q r s : Int) (i : Nat) : ∀ t, (partN n e p q r s i t).length = t + 1
  | 0 => rfl
  | t + 1 => by
    rw [partN, prodL_len, partN_len n e p q r s i t]
    split <;> rfl
theorem partN_B {n : Nat} {e p q r s : Int} {i : Nat} (he : B 400 e) (hp : B 400 p) (hq : B 400 q) (hr : B 400 r) (hs : B 400 s) : ∀ t, t ≤ 10 → ∀ z ∈ partN n e p q r s i t, B (400 + 500 * t) z
  | 0, _ => fun z hz => by
    rw [partN] at hz
    have : z = e := by simpa using hz
    rw [this]
    exact he
  | t + 1, ht => fun z hz => by
    have ih := partN_B (n := n) (i := i) he hp hq hr hs t (by omega)
    rw [partN] at hz
    refine B.mono (prodL_B (a := 400 + 500 * t) (b := 400) ih (fun y hy => ?_) (by omega) z hz) ?_
    · split at hy <;> simp only [List.mem_cons, List.mem_nil_iff, or_false] at hy <;> rcases hy with rfl | rfl <;> assumption
    · rw [partN_len]
      split <;> simp <;> omega
theorem putN_len (row : List Int) (p q r s : Int) (h : row ≠ []) : ∀ i, (putN row p q r s i).length = row.length
  | 0 => by rw [putN, List.length_replicate]
  | i + 1 => by
    have := List.length_pos_iff.mpr h
    rw [putN, List.length_zipWith, putN_len row p q r s h i, partN_len]
    omega
theorem mem_zip {xs ys : List Int} {z : Int} (h : z ∈ List.zipWith (· + ·) xs ys) : ∃ x ∈ xs, ∃ y ∈ ys, z = x + y := by
  obtain ⟨k, hk, e⟩ := List.getElem_of_mem h
  rw [List.getElem_zipWith] at e
  rw [List.length_zipWith] at hk
  exact ⟨_, List.getElem_mem (by omega), _, List.getElem_mem (by omega), e.symm⟩
theorem putN_B {row : List Int} {p q r s : Int} (h : ∀ e ∈ row, B 400 e) (hl : row.length ≤ 11) (hp : B 400 p) (hq : B 400 q) (hr : B 400 r) (hs : B 400 s) : ∀ i, i ≤ row.length → ∀ z ∈ putN row p q r s i, B (1 + 6000 * i) z
  | 0, _ => fun z hz => by
    rw [putN] at hz
    rw [List.eq_of_mem_replicate hz]
    exact ⟨by decide, by decide⟩
  | i + 1, hi => fun z hz => by
    rw [putN] at hz
    obtain ⟨u, hu, v, hv, rfl⟩ := mem_zip hz
    exact (B.add (putN_B h hl hp hq hr hs i (by omega) u hu) (partN_B (h _ (gD_mem (by omega))) hp hq hr hs _ (by omega) v hv)).mono (by omega)
end Fr
set_option Elab.async false
set_option linter.all false
set_option maxRecDepth 100000
namespace Fr
open PySem PySem.Spec PyProof.Rows L2
def CDivNW (_ j : Int) : Prop := j ≠ 0 ∧ j.natAbs.log2 < 9000
theorem op_fdivNW {X : Cx} : OpR X (binaryOp .FloorDiv) (rI CDivNW fun i j => .int (i.fdiv j)) := opI fun _ _ _ _ _ _ _ hc q => floordiv_int hc.1 q (.inl (PyProof.noPylong_of_log2 hc.2))
structure Bz (M : Nat) (p q one other u v u' v' : Int) : Prop where
  o : 0 ≤ other
  pos : 0 ≤ one ∨ (u = 1 ∧ u' = 0)
  e1 : u * p + v * q = one
  e2 : u' * p + v' * q = other
  d : one * u' - other * u = q ∨ one * u' - other * u = -q
  s : (0 ≤ u ∧ u' ≤ 0) ∨ (u ≤ 0 ∧ 0 ≤ u')
  bu : u.natAbs ≤ q.natAbs + 1
  bu' : u'.natAbs ≤ q.natAbs + 1
  g : Nat.gcd one.natAbs other.natAbs = 1
  b1 : one.natAbs ≤ M
  b2 : other.natAbs ≤ M
  z : q = 0 → other = 0 ∧ v = 0
theorem Bz.init {M : Nat} {p q : Int} (hq : 0 ≤ q) (g : Nat.gcd p.natAbs q.natAbs = 1) (h1 : p.natAbs ≤ M) (h2 : q.natAbs ≤ M) : Bz M p q p q 1 0 0 1 :=
  ⟨hq, .inr ⟨rfl, rfl⟩, by simp, by simp, .inr (by simp), .inl ⟨by decide, by decide⟩, by show 1 ≤ _; omega, by show 0 ≤ _; omega, g, h1, h2, fun h => ⟨h, rfl⟩⟩
theorem Bz.step {M : Nat} {p q one other u v u' v' : Int} (h : Bz M p q one other u v u' v') (ho : other ≠ 0) :
    Bz M p q other (one - one / other * other) u' v' (u - one / other * u') (v - one / other * v') ∧ (one - one / other * other).toNat < other.toNat := by
  have o0 : 0 < other := by have := h.o; omega
  have hr : one - one / other * other = one % other := by
    have := Int.emod_add_mul_ediv one other
    rw [Int.mul_comm other] at this
    omega
  have r0 := Int.emod_nonneg one ho
  have r1 := Int.emod_lt_of_pos one o0
  have s' : (0 ≤ u' ∧ u - one / other * u' ≤ 0) ∨ (u' ≤ 0 ∧ 0 ≤ u - one / other * u') := by
    rcases h.pos with hp | ⟨rfl, rfl⟩
    · have t0 : 0 ≤ one / other := Int.ediv_nonneg hp h.o
      rcases h.s with ⟨a, b⟩ | ⟨a, b⟩
      · right
        have := Int.mul_nonneg t0 (show 0 ≤ -u' by omega)
        rw [Int.mul_neg] at this
        exact ⟨b, by omega⟩
      · left
        have := Int.mul_nonneg t0 b
        exact ⟨b, by omega⟩
    · right
      simp
  have dd : other * (u - one / other * u') - (one - one / other * other) * u' = -(one * u' - other * u) := by grind
  have d' : other * (u - one / other * u') - (one - one / other * other) * u' = q ∨ other * (u - one / other * u') - (one - one / other * other) * u' = -q := by
    rw [dd]
    rcases h.d with e | e <;> rw [e]
    · exact .inr rfl
    · exact .inl (by omega)
  have bu'' : (u - one / other * u').natAbs ≤ q.natAbs + 1 := by
    rw [hr] at d'
    generalize u - one / other * u' = w at *
    have k1 : other * w - (one % other) * u' = q ∨ other * w - (one % other) * u' = -q := d'
    rcases s' with ⟨a, b⟩ | ⟨a, b⟩
    · have m1 := Int.mul_nonneg r0 a
      have m2 := Int.mul_le_mul_of_nonneg_right (show (1 : Int) ≤ other by omega) (show 0 ≤ -w by omega)
      rw [Int.one_mul, Int.mul_neg] at m2
      omega
    · have m1 := Int.mul_nonneg r0 (show 0 ≤ -u' by omega)
      have m2 := Int.mul_le_mul_of_nonneg_right (show (1 : Int) ≤ other by omega) b
      rw [Int.one_mul] at m2
      rw [Int.mul_neg] at m1
      omega
  have gg : Nat.gcd other.natAbs (one - one / other * other).natAbs = 1 := by
    have h1 : Nat.gcd other.natAbs (one - one / other * other).natAbs ∣ other.natAbs := Nat.gcd_dvd_left _ _
    have h2 : Nat.gcd other.natAbs (one - one / other * other).natAbs ∣ (one - one / other * other).natAbs := Nat.gcd_dvd_right _ _
    generalize Nat.gcd other.natAbs (one - one / other * other).natAbs = k at *
    have i1 := Int.ofNat_dvd_left.mpr h1
    have i2 := Int.ofNat_dvd_left.mpr h2
    have i3 : (k : Int) ∣ one := by
      have := Int.dvd_add i2 (Int.dvd_mul_of_dvd_right i1 (b := one / other))
      rwa [show one - one / other * other + one / other * other = one by omega] at this
    have i4 : k ∣ Nat.gcd one.natAbs other.natAbs := Nat.dvd_gcd (Int.ofNat_dvd_left.mp i3) h1
    rw [h.g] at i4
    exact Nat.dvd_one.mp i4
  refine ⟨⟨by rw [hr]; exact r0, .inl h.o, h.e2, ?_, d', s', h.bu', bu'', gg, h.b2, ?_, fun z => absurd (h.z z).1 ho⟩, ?_⟩
  · have a := h.e1
    have b := h.e2
    generalize one / other = t at *
    rw [← a, ← b]
    grind
  · rw [hr]
    have := h.b2
    omega
  · rw [hr]
    omega
theorem Bz.fin {M : Nat} {p q one u v u' v' : Int} (h : Bz M p q one 0 u v u' v') (hp : p.natAbs ≤ M) : (p * u - q * (0 - v) = 1 ∨ p * u - q * (0 - v) = -1) ∧ u.natAbs ≤ q.natAbs + 1 ∧ v.natAbs ≤ M + (q.natAbs + 1) * M := by
  have g := h.g
  rw [show (0 : Int).natAbs = 0 from rfl, Nat.gcd_zero_right] at g
  have e := h.e1
  refine ⟨?_, h.bu, ?_⟩
  · have : p * u - q * (0 - v) = one := by rw [← e]; grind
    rw [this]
    omega
  · by_cases hq : q = 0
    · rw [(h.z hq).2]
      exact Nat.zero_le _
    · have h1 : v.natAbs ≤ (v * q).natAbs := by
        rw [Int.natAbs_mul]
        exact Nat.le_mul_of_pos_right _ (by omega)
      have h2 : v * q = one - u * p := by omega
      have h3 : (u * p).natAbs ≤ (q.natAbs + 1) * M := by
        rw [Int.natAbs_mul]
        exact Nat.mul_le_mul h.bu hp
      have h4 := h.b1
      rw [h2] at h1
      omega
theorem Bz.bv {M : Nat} {p q one other u v u' v' : Int} (h : Bz M p q one other u v u' v') (ho : other ≠ 0) (hp : p.natAbs ≤ M) : v'.natAbs ≤ M + (q.natAbs + 1) * M := by
  have hq : q ≠ 0 := fun z => ho (h.z z).1
  have e := h.e2
  have h1 : v'.natAbs ≤ (v' * q).natAbs := by
    rw [Int.natAbs_mul]
    exact Nat.le_mul_of_pos_right _ (by omega)
  have h2 : v' * q = other - u' * p := by omega
  have h3 : (u' * p).natAbs ≤ (q.natAbs + 1) * M := by
    rw [Int.natAbs_mul]
    exact Nat.mul_le_mul h.bu' hp
  have h4 := h.b2
  rw [h2] at h1
  omega
end Fr
set_option Elab.async false
set_option linter.all false
set_option maxRecDepth 100000
namespace Fr
open PySem PySem.Spec PyProof.Rows L2
@[reducible] def Itk (K : PySem.W.Frag) (k : Bool) (a : Addr) : It := match k with
  | true => Itt K a
  | false => Itl K a
theorem or_slot {K : PySem.W.Frag} {k : Bool} {a : Addr} {xs : List V} {i : Nat} {σ : L2.St} {H : Hp} {R : It → Hp → Prop} (e : σ[i]? = some (some (.ref a))) (h : SqK k K H a xs) (z : R (Itk K k a) H) :
    iList K (tVar i) σ H R ∨ iTup K (tVar i) σ H R := by
  cases k
  · exact .inl ⟨_, e, a, rfl, ⟨xs, h⟩, z⟩
  · exact .inr ⟨_, e, a, rfl, ⟨xs, h⟩, z⟩
section
variable {K : PySem.W.Frag} {k : Bool} {a : Addr} {xs : List V} {g : TG} {tb : TS} {D : Ends} {σ : L2.St} {H : Hp}
theorem for_K (J : Nat → L2.St → Hp → Prop) (start : J 0 σ H) (stays : ∀ i σ H, i ≤ xs.length → J i σ H → SqK k K H a xs)
    (turn : ∀ i x σ H, xs[i]? = some x → J i σ H → g x σ H fun σ2 H2 => tb { D with nx := J (i + 1), ct := J (i + 1), bk := D.nx } σ2 H2)
    (after : ∀ σ H, J xs.length σ H → D.nx σ H) :
    ∃ V : Nat → Nat → L2.St → Hp → Prop, (∃ n, V 0 n σ H) ∧ ∀ i n σ H, V i n σ H → ((Itk K k a).stop i H ∧ D.nx σ H) ∨
      ((Itk K k a).go i H ∧ ∃ N : L2.St → Hp → Prop, (∀ σ1 H1, N σ1 H1 → ∃ n1, n1 < n ∧ V (i + 1) n1 σ1 H1) ∧
        ∀ x H1, (Itk K k a).yld i H x H1 → g x σ H1 fun σ2 H2 => tb { D with nx := N, ct := N, bk := D.nx } σ2 H2) := by
  cases k
  · exact for_list J start stays turn after
  · exact for_tup J start stays turn after
end
section
variable {K : PySem.W.Frag} {S : Addr → Prop} {I : Hp → Prop} {σ : L2.St} {H : Hp} {Q : Addr → Hp → Prop} {te : TE} {vs : List Nat} {g : TG} {tt : TT}
theorem lcK {k : Bool} (m : Fm S I) (i0 : I H) {a : Addr} {xs : List V} (hx : SqK k K H a xs) (ha : ¬ S a) (P : Nat → List V → Hp → Prop) (p0 : ∀ D, H D = none → P 0 [] (upd H D (.lst [])))
    (hs : ∀ D i x acc H', H D = none → xs[i]? = some x → Fx S I H H' → H' D = some (.lst acc) → acc.length ≤ i → P i acc H' → g x (wipe σ vs) H' fun σ2 H2 => wipe σ2 vs = wipe σ vs ∧ tt σ2 H2 fun b H3 =>
      if b = true then te σ2 H3 fun y H4 => ∃ acc, H4 D = some (.lst acc) ∧ acc.length < sizeLine ∧ Cs S I H P D (i + 1) (upd H4 D (.lst (acc ++ [y]))) else Cs S I H P D (i + 1) H3)
    (q : ∀ D H' acc, H D = none → Fx S I H H' → H' D = some (.lst acc) → P xs.length acc H' → Q D H') :
    ∀ D, H D = none → ∃ V : Nat → Nat → Hp → Prop, (∃ n, V 0 n (upd H D (.lst []))) ∧ ∀ i n H, V i n H →
      ((Itk K k a).stop i H ∧ Q D H) ∨ ((Itk K k a).go i H ∧ ∃ N : Hp → Prop, (∀ H1, N H1 → ∃ n1, n1 < n ∧ V (i + 1) n1 H1) ∧ ∀ x H1, (Itk K k a).yld i H x H1 → g x (wipe σ vs) H1 fun σ2 H2 => wipe σ2 vs = wipe σ vs ∧ tt σ2 H2 fun b H3 =>
        if b = true then te σ2 H3 fun y H4 => ∃ acc, H4 D = some (.lst acc) ∧ acc.length < sizeLine ∧ N (upd H4 D (.lst (acc ++ [y]))) else N H3) := by
  cases k
  · exact lcL m i0 hx ha P p0 hs q
  · exact lcT m i0 hx ha P p0 hs q
end
end Fr
set_option Elab.async false
set_option linter.all false
set_option maxRecDepth 100000
namespace K05M
def fv (a b c d x y : Int) : Int := a * x * x * x + b * x * x * y + c * x * y * y + d * y * y * y
def fdisc (a b c d : Int) : Int := b * b * c * c - 4 * a * c * c * c - 4 * b * b * b * d - 27 * a * a * d * d + 18 * a * b * c * d
def fl2 (a b c d p q r s : Int) : Int := 3 * a * p * p * r + b * p * (p * s + 2 * q * r) + c * q * (2 * p * s + q * r) + 3 * d * q * q * s
def fl3 (a b c d p q r s : Int) : Int := 3 * a * p * r * r + b * r * (2 * p * s + q * r) + c * s * (p * s + 2 * q * r) + 3 * d * q * s * s
theorem put1 (a b c d p q r s i j : Int) : fv (fv a b c d p q) (fl2 a b c d p q r s) (fl3 a b c d p q r s) (fv a b c d r s) i j = fv a b c d (i * p + j * r) (i * q + j * s) := by
  unfold fv fl2 fl3
  grind
theorem put2 (a b c d p q r s i j k m : Int) : fl2 (fv a b c d p q) (fl2 a b c d p q r s) (fl3 a b c d p q r s) (fv a b c d r s) i j k m = fl2 a b c d (i * p + j * r) (i * q + j * s) (k * p + m * r) (k * q + m * s) := by
  unfold fv fl2 fl3
  grind
theorem put3 (a b c d p q r s i j k m : Int) : fl3 (fv a b c d p q) (fl2 a b c d p q r s) (fl3 a b c d p q r s) (fv a b c d r s) i j k m = fl3 a b c d (i * p + j * r) (i * q + j * s) (k * p + m * r) (k * q + m * s) := by
  unfold fv fl2 fl3
  grind
theorem disc (a b c d p q r s : Int) : fdisc (fv a b c d p q) (fl2 a b c d p q r s) (fl3 a b c d p q r s) (fv a b c d r s) = (p * s - q * r) * (p * s - q * r) * (p * s - q * r) * (p * s - q * r) * (p * s - q * r) * (p * s - q * r) * fdisc a b c d := by
  unfold fdisc fv fl2 fl3
  grind
theorem fv_mul (e a b c d x y : Int) : fv (e * a) (e * b) (e * c) (e * d) x y = e * fv a b c d x y := by unfold fv; grind
theorem fl2_mul (e a b c d p q r s : Int) : fl2 (e * a) (e * b) (e * c) (e * d) p q r s = e * fl2 a b c d p q r s := by unfold fl2; grind
theorem fl3_mul (e a b c d p q r s : Int) : fl3 (e * a) (e * b) (e * c) (e * d) p q r s = e * fl3 a b c d p q r s := by unfold fl3; grind
theorem disc_neg (a b c d : Int) : fdisc (-1 * a) (-1 * b) (-1 * c) (-1 * d) = fdisc a b c d := by unfold fdisc; grind
theorem det_mul (p q r s i j k m : Int) : (i * p + j * r) * (k * q + m * s) - (i * q + j * s) * (k * p + m * r) = (i * m - j * k) * (p * s - q * r) := by grind
theorem fv_one (a b c d : Int) : fv a b c d 1 0 = a ∧ fv a b c d 0 1 = d ∧ fl2 a b c d 1 0 0 1 = b ∧ fl3 a b c d 1 0 0 1 = c := by
  unfold fv fl2 fl3
  refine ⟨?_, ?_, ?_, ?_⟩ <;> grind
theorem und (p q r s e : Int) (he : e = p * s - q * r) (h : e = 1 ∨ e = -1) : (e * s) * p + (-e * q) * r = 1 ∧ (e * s) * q + (-e * q) * s = 0 ∧ (-e * r) * p + (e * p) * r = 0 ∧ (-e * r) * q + (e * p) * s = 1 := by
  have h1 : e * e = 1 := by rcases h with rfl | rfl <;> decide
  refine ⟨?_, ?_, ?_, ?_⟩ <;> grind
end K05M
namespace Gd
open PySem PySem.Spec PyProof.Rows L2 Fr
structure FnG (P : Program) (w : World) (K : PySem.W.Frag) (mg : Str → Option Value) (base : Heap) (k : Nat) (f : Addr) (fd : FuncData) (ps : List Str) (sp : Sp) : Prop where
  size : ∀ vs H Q E, sp vs H Q E → vs.length = ps.length
  runs : ∀ (A : Around) (out : List Env) (s : Shared) (H : Hp) (ar : Args) (us : List Value) (vs : List V) (Q : VK) (E : XK), A.guards = some [] → Room k A →
    Env0 P w K mg base A out s H → BindsTo s fd ar (ps.zip us) → Vals vs us → sp vs H Q E → codeAny (model P w) A (.call (.ref f) ar) (CR CX0 out P w H s Q E) s
def DefG (P : Program) (w : World) (K : PySem.W.Frag) (mg : Str → Option Value) (base : Heap) (k : Nat) (x : Str) (ps : List Str) (sp : Sp) : Prop :=
  ∃ f fd, mg x = some (.ref f) ∧ PySem.W.keepIn K (.ref f) = true ∧ Binds K fd ps [] ∧ FnG P w K mg base k f fd ps sp
def MDefG (R : Addr → Addr → Prop) (P : Program) (w : World) (K : PySem.W.Frag) (mg : Str → Option Value) (base : Heap) (k : Nat) (ps : List Str) (sp : Sp) : Prop :=
  ∃ p f fd, R p f ∧ Binds K fd ps [] ∧ FnG P w K mg base k f fd ps sp
theorem FnG.of {P : Program} {w : World} {K : PySem.W.Frag} {mg : Str → Option Value} {base : Heap} {k : Nat} {f : Addr} {fd : FuncData} {ps : List Str} {sp : Sp} (F : FnOk P w K mg base CX0 k f fd ps sp) : FnG P w K mg base k f fd ps sp :=
  ⟨F.len, fun A out s H ar us vs Q E _ hr => F.run A out s H ar us vs Q E hr⟩
section
variable {P : Program} {w : World} {K : PySem.W.Frag} {mg : Str → Option Value} {base : Heap}
theorem okG {x ql : Str} {st : Stmt} {f : Addr} {fd : FuncData} {N ps : List Str} {k : Nat} {sp : Sp} (F : Fun K x ql st f fd) (S : FnScope N ps (defScope st))
    (size : ∀ vs H Q E, sp vs H Q E → vs.length = ps.length)
    (body : ∀ (cv : Value) (A : Around) (out : List Env) (s : Shared) (H : Hp) (vs : List V) (Q : VK) (E : XK), A.guards = some [] →
      Room k (A.deeper (envOfC ql (defScope st) s.heap.objs.size f cv)) → sp vs H Q E →
      ∃ t, PSs (cxOf CX0 P w K mg base N ql (defScope st) f cv A out s H E).nox (defBody st) t ∧ t { nx := fun _ G => Q .non G, rt := Q } (start N vs) H) :
    FnG P w K mg base (k + 1) f fd ps sp := by
  obtain ⟨oc, od, kV, dc, pm, an, cv, ct, osl, rfl, lk, hc⟩ := F.ex
  constructor
  · exact size
  intro A out s H ar us vs Q E hg hr e0 hb r hs
  have hl := size _ _ _ _ hs
  have inK : K.In s.heap := e0.mod.kin.keeps (fun b o e => And.left (e0.bs b o e))
  have lm : s.heap.NoLimit := e0.mod.nolimit.keeps (fun b o e => And.left (e0.bs b o e))
  refine codeAny_call_function hr.depth (inK _ _ lk) rfl S.co S.gen rfl (PySem.W.codeRec_of inK hc) (hb _ _ _ _ ?_)
  have kd : ∀ y ∈ ps.zip us, (defScope st).names.lookup y.1 = some .local ∨ ((defScope st).names.lookup y.1 = some .cell ∧ ((cellsFrom (s.heap.objs.size + 1) (defScope st).names []).lookup y.1).isSome = true) := by
    rintro ⟨n, v⟩ hy
    have hp := S.par n (List.of_mem_zip hy).1
    rcases hp with z | z
    · left; exact z
    · right; exact ⟨z, PySem.W.cellsFrom_some _ _ _ (Or.inl z)⟩
  refine wpAny_newFunctionEnv_cells S.kind kd fun env he s1 z => ?_
  cases he
  refine ⟨lm.keeps z.toInCall.keep, codeAny_func ?_⟩
  obtain ⟨t, ht, hq⟩ := body cv A out s H vs Q E hg (hr.deeper _) hs
  have I := inv_start (CX := CX0) (E := E) S hr.hd e0 hl r z
  have fin : ∀ {σ' : L2.St} {G : Hp} {v : V} {u : Value} {s' : Shared}, Inv (cxOf CX0 P w K mg base N ql (defScope st) f cv A out s H E) [] σ' G s' → RelV v u → Q v G → CE out P w H s Q u s' := by
    intro σ' G v u s' J rv q
    exact ⟨v, G, J.os, J.bare, J.base, J.hok, rv, q⟩
  refine wpAny_mono (ht.nox.run [] s1 (start N vs) H _ I hq) (fun fl s' hs => ?_) fun _ _ z => z
  match fl, hs with
  | .ret u, hs => obtain ⟨v, _, G, J, rv, q⟩ := hs; exact fin J rv q
  | .next, hs => obtain ⟨_, G, J, q⟩ := hs; exact fin (u := Value.none) (v := V.non) J rfl q
  | .brk, hs => obtain ⟨_, _, _, q⟩ := hs; exact q.elim
  | .cont, hs => obtain ⟨_, _, _, q⟩ := hs; exact q.elim
end
section
variable {X : Cx} {k : Nat} {f C : Addr} {fd : FuncData} {ps : List Str} {sp : Sp} {x : Str} {p pos : Pos} {e : Expr} {es : List Expr} {t : TA}
theorem runG {A : Around} {pins : List (Addr × Obj)} {σ : L2.St} {H : Hp} {s : Shared} {Q : VK} {us : List Value} {vs : List V} (F : FnG X.prog X.w X.K X.mg X.base k f fd ps sp) (hg : A.guards = some []) (hr : Room k A)
    (e0 : Env0 X.prog X.w X.K X.mg X.base A X.stack s H) (hb : Binds X.K fd ps []) (I : Inv X pins σ H s) (r : Vals vs us) (h : sp vs H Q E0) : wpAny (model X.prog X.w) A (call (.ref f) us) (EP X pins σ Q) X.xe s := by
  have hl : (us ++ []).length = ps.length := by rw [List.append_nil, ← r.length]; exact F.size _ _ _ _ h
  have b := hb s us I.kIn hl
  rw [List.append_nil] at b
  refine wpAny_call (codeAny_mono (F.runs A X.stack s H ⟨us, []⟩ us vs Q E0 hg hr e0 b r h) fun z s' hq => ?_)
  match z, hq with
  | .error _, hq => exact hq.elim
  | .ok (.ret u), hq => exact I.after hq
  | .ok .next, hq => exact hq.elim
  | .ok .brk, hq => exact hq.elim
  | .ok .cont, hq => exact hq.elim
theorem pe_callG (F : FnG X.prog X.w X.K X.mg X.base k f fd ps sp) (hG : X.A.guards = some []) (hr : Room k X.A) (hg : Gl X x) (hm : X.mg x = some (.ref f)) (hk : PySem.W.keepIn X.K (.ref f) = true) (hb : Binds X.K fd ps [])
    (ha : PA X (e :: es) t) (hd : (x == ("__debug__" : Str)) = false := by decide) (he : starEach (e :: es) X.env = (false, eval e X.env) :: starEach es X.env := by rfl) (hp : (backTo pos (starEach es X.env)).any (·.1) = false := by rfl) :
    PE X (.Call (.Name x p) (e :: es) [] pos) (tCall sp [] E0 t) := by
  constructor
  intro pins s σ H Q I h
  refine wpAny_Call_Name_kw (ld_glob I hg hm ?_ hd)
  refine PySem.W.callWith_K (h₀ := X.base) I.ok.mod.kin hk (thn (ha.run pos pins s σ H _ I h) fun us s1 ⟨vs, H1, I1, r, q⟩ => ⟨I1.kIn, ?_⟩) he hp
  refine runG F hG hr I1.env0 hb I1 r ?_
  have q' : sp (vs ++ []) H1 Q E0 := q
  rwa [List.append_nil] at q'
theorem call_strI (c : Meth X.K C "__str__" f) (F : FnG X.prog X.w X.K X.mg X.base k f fd ps sp) (hb : Binds X.K fd ps []) (hG : X.A.guards = some []) (hr : Room (k + 2) X.A) :
    CallR X (.type "str") (fun xs H Q => ∃ a dx fs, xs = [.ref a] ∧ H a = some (.ins C dx fs) ∧ sp [.ref a] H (fun v G => ∃ y, v = .str y ∧ Q (.str y) G) E0) := by
  intro pins s σ H xs us Q I r h
  obtain ⟨a, dx, fs, rfl, ha, q⟩ := h
  obtain rfl := Vals.ref1 r
  obtain ⟨mA, J, _⟩ := ins_get I.hok ha
  obtain ⟨od, J, _⟩ := J.look
  have hu := hr.units
  refine PySem.W.kso_call (by show X.A.units + 1 + 1 < cLine; omega) I.kIn J c.at_ c.fn ?_
  refine wpAny_mono (runG (A := X.A.in1.in1) F hG hr.in1.in1 I.env0.in1.in1 hb I (.cons (show RelV (.ref a) (.ref a) from rfl) .nil) q) (fun u s' hq => ?_) fun _ _ z => z
  obtain ⟨v, H', I3, rv, y, rfl, q3⟩ := hq
  obtain ⟨tk, rfl⟩ := rv
  exact ⟨.str y, H', I3, ⟨tk, rfl⟩, q3⟩
theorem call_strD (hG : X.A.guards = some []) (hr : Room k X.A) :
    CallR X (.type "str") (fun xs H Q => ∃ (a : Addr) (d : PyData), xs = [.ref a] ∧ Dp X.K H (.ref a) d ∧ d.showable = true ∧ d.hasDict = false ∧ d.depth ≤ 40 ∧ d.shown.length ≤ sizeLine ∧ Q (.str d.shown) H) := by
  intro pins s σ H xs us Q I r h
  obtain ⟨a, d, rfl, hd, h1, h2, h3, h4, q⟩ := h
  obtain rfl := Vals.ref1 r
  obtain ⟨as, rd⟩ := Dp.reads I d _ _ hd (show RelV (.ref a) (.ref a) from rfl)
  have hu := hr.units
  refine str_of_reads rd h1 (fun z => by rw [h2] at z; cases z) hG (by omega) (fun _ _ z => z) (fun h' u tk hk => ?_) h4
  exact ⟨.str d.shown, H, I.kept hk, ⟨u, rfl⟩, q⟩
end
section
variable {X : Cx} {k : Nat} {f C : Addr} {fd : FuncData} {ps : List Str} {sp : Sp} {pos : Pos} {e : Expr} {te : TE}
structure FmtC (K : PySem.W.Frag) (C : Addr) : Prop where
  fm : PySem.W.findIn K (.ref C) "__format__" = some (some (.builtin "object.__format__"))
  mr : PySem.W.mroIn K C (.type "object") = some true
theorem pe_fmtI (m : FmtC X.K C) (c : Meth X.K C "__str__" f) (F : FnG X.prog X.w X.K X.mg X.base k f fd ps sp) (hb : Binds X.K fd ps []) (hG : X.A.guards = some []) (hr : Room (k + 1) X.A) (he : PE X e te) :
    PE X (.FormattedValue e (-1) none pos) (fun σ H Q => te σ H fun x H1 => ∃ a dx fs, x = .ref a ∧ H1 a = some (.ins C dx fs) ∧ sp [.ref a] H1 (fun v G => ∃ y, v = .str y ∧ Q (.str y) G) E0) := by
  constructor
  intro pins s σ H Q I h
  refine wpAny_FormattedValue_plain (thn (he.run pins s σ H _ I h) fun v s1 hv => ?_)
  obtain ⟨x, H1, I1, r1, a, dx, fs, rfl, ha, q⟩ := hv
  cases (show v = .ref a from r1)
  obtain ⟨mA, J, _⟩ := ins_get I1.hok ha
  obtain ⟨od, J, _⟩ := J.look
  have hu := hr.units
  refine PySem.W.kfo_fieldS (by show X.A.units + 1 < cLine; omega) I1.kIn J m.fm m.mr c.at_ c.fn ?_
  have I2 := I1.tok (s1.toks + 1)
  refine wpAny_mono (runG (A := X.A.in1) F hG hr.in1 I2.env0.in1 hb I2 (.cons (show RelV (.ref a) (.ref a) from rfl) .nil) q) (fun u s' hq => ?_) fun _ _ z => z
  obtain ⟨v, H', I3, rv, y, rfl, q3⟩ := hq
  obtain ⟨tk, rfl⟩ := rv
  exact ⟨.str y, H', I3, ⟨tk, rfl⟩, q3⟩
end
theorem law_callG {P : Program} {w : World} {K : PySem.W.Frag} {mg mb : Str → Option Value} {k : Nat} {fa a : Addr} {fd : FuncData} {x : Str} {sp : Sp} {s : Shared} {vs : List Value} {ns : List Int}
    (inK : K.In s.heap) (nsG : s.heap.Ns mainGlobals mg) (nsB : s.heap.Ns builtinsNs mb) (boot : ∀ y : Str, y ≠ "__name__" → mb y = bootBuiltins y) (lim : s.heap.NoLimit) (gens : s.gens = #[])
    (hat : s.heap.get? a = some { cls := .type "list", data := .seq vs.toArray }) (ii : IntsAre vs ns) (le : ns.length ≤ sizeLine) (room : Room k callerA)
    (F : ∀ base : Heap, K.In base → base.Ns mainGlobals mg → FnG P w K mg base k fa fd [x] sp) (bind : ∀ (s : Shared) (u : Value), BindsTo s fd ⟨[u], []⟩ [(x, u)])
    (prom : ∀ H : Hp, Only H → SqL K H a (ns.map V.int) → sp [.ref a] H (fun v _ => v = .bl true) E0) :
    codeAny (model P w) callerA (.call (.ref fa) ⟨[.ref a], []⟩) (fun r s' => r = .ok (.ret (.bool true)) ∧ OldK s.heap s'.heap ∧ s'.os = s.os ∧ AllBare s'.gens) s := by
  have vals := vals_ints ii
  have lens := ii.length
  have main : ∀ H : Hp, Only H → SqL K H a (ns.map V.int) → HOk P w H s.heap → (∀ b, H b ≠ none → b = a ∧ K.lookup a = none) →
      codeAny (model P w) callerA (.call (.ref fa) ⟨[.ref a], []⟩) (fun r s' => r = .ok (.ret (.bool true)) ∧ OldK s.heap s'.heap ∧ s'.os = s.os ∧ AllBare s'.gens) s := by
    intro H only sq ok one
    have stay : ∀ {b : Addr} {o : Obj}, s.heap.get? b = some o → (∀ ys n, o.data ≠ .seq ys n) → (hidT s.heap H).get? b = some o := by
      intro b o e nd
      refine hidT_get e ?_
      cases z : H b with
      | none => rfl
      | some u =>
        exfalso
        have z1 := (one b (by rw [z]; exact Option.some_ne_none _)).1
        rw [z1, hat] at e
        injection e with e
        exact nd _ _ (by rw [← e])
    have tabs : ∀ {b : Addr} {m : Str → Option Value}, s.heap.Ns b m → (hidT s.heap H).Ns b m := by
      rintro b m ⟨o, es, ep, e, d, r⟩
      exact ⟨o, es, ep, stay e (fun ys n z => by rw [d] at z; cases z), d, r⟩
    have inB : K.In (hidT s.heap H) := by
      intro b o e
      refine hidT_get (inK b o e) ?_
      cases z : H b with
      | none => rfl
      | some u =>
        exfalso
        obtain ⟨z1, z2⟩ := one b (by rw [z]; exact Option.some_ne_none _)
        rw [z1, z2] at e
        cases e
    obtain ⟨mc, lm1, lm2⟩ := lim
    have md : Mod K mg (hidT s.heap H) := ⟨inB, tabs nsG, ⟨mb, tabs nsB, boot⟩, ⟨mc, tabs lm1, lm2⟩⟩
    have e0 : Env0 P w K mg (hidT s.heap H) callerA [] s H := by
      refine ⟨rfl, md, fun b o e => of_hidT e, ?_, trivial, ?_, ok, .of_eq gens⟩
      · rw [hidT_size]; exact Nat.le_refl _
      · intro b hb; exact (List.not_mem_nil hb).elim
    refine codeAny_mono ((F _ inB (tabs nsG)).runs callerA [] s H ⟨[.ref a], []⟩ [.ref a] [.ref a] _ E0 rfl room e0 (bind s (.ref a)) (.cons (show RelV (.ref a) (.ref a) from rfl) .nil) (prom H only sq)) (fun r s' h => ?_)
    match r, h with
    | .error _, h => exact h.elim
    | .ok .next, h => exact h.elim
    | .ok .brk, h => exact h.elim
    | .ok .cont, h => exact h.elim
    | .ok (.ret u), h =>
      obtain ⟨v, G, os, bare, un, ok2, rv, q⟩ := h
      cases (show v = .bl true from q)
      cases (show u = Value.bool true from rv)
      refine ⟨rfl, OldK.of_keep (fun b o e => ?_), os, bare⟩
      cases z : H b with
      | none => exact un.keep b o e z (fun y => List.not_mem_nil y) (fun y => List.not_mem_nil y)
      | some u =>
        rcases only b with y | ⟨ob, xs, y⟩
        · rw [z] at y; cases y
        have y2 := un.frzs b ob _ y
        have p1 := (ok b _ y).1
        rw [e] at p1
        injection p1 with p1
        rw [p1]
        exact (ok2 b _ y2).1
  have size : vs.toArray.size ≤ sizeLine := by rw [List.size_toArray, lens]; exact le
  cases hk : K.lookup a with
  | some o =>
    have e := inK a o hk
    rw [hat] at e
    injection e with e
    refine main (fun _ => none) (fun _ => Or.inl rfl) (Or.inr ⟨o, vs.toArray, 0, hk, by rw [← e], by rw [← e], by rw [← e], ?_, by simpa using vals⟩) (fun b u z => by cases (show (none : Option HO) = some u from z)) (fun b z => absurd rfl z)
    exact size
  | none =>
    have at_ : ∀ b, b = a → (fun b => if b = a then some (HO.frz { cls := .type "list", data := .seq vs.toArray } (.lst (ns.map V.int))) else none : Hp) b = some (HO.frz { cls := .type "list", data := .seq vs.toArray } (.lst (ns.map V.int))) := fun b z => if_pos z
    have no_ : ∀ b, b ≠ a → (fun b => if b = a then some (HO.frz { cls := .type "list", data := .seq vs.toArray } (.lst (ns.map V.int))) else none : Hp) b = none := fun b z => if_neg z
    refine main (fun b => if b = a then some (HO.frz { cls := .type "list", data := .seq vs.toArray } (.lst (ns.map V.int))) else none) (fun b => ?_) (Or.inl (Or.inr ⟨_, at_ a rfl⟩)) (fun b u z => ?_) (fun b z => ?_)
    · by_cases y : b = a
      · exact Or.inr ⟨_, _, at_ b y⟩
      · exact Or.inl (no_ b y)
    · by_cases y : b = a
      · have z2 := (at_ b y).symm.trans z
        injection z2 with z2
        subst z2
        subst y
        exact ⟨hat, by rw [List.length_map]; exact le, vs, _, vals, hat⟩
      · have z2 := (no_ b y).symm.trans z
        cases z2
    · by_cases y : b = a
      · exact ⟨y, hk⟩
      · exact absurd (no_ b y) z
theorem walkG {l : PySem.W.OpenLaw} {n k : Nat} {q : Program} {loose : List Str} {XP : (Str → Option Value) → Heap → Prop} {YP : World → Heap → Prop} {d : DefRec} {x : Str}
    (most : l.most = some n) (le : n ≤ sizeLine) (df : d.params.defaults = []) (room : Room k callerA)
    (F : ∀ (w : World) (mg : Str → Option Value) (fa : Addr) (h : Heap), YP w h → h.Ns mainGlobals mg → mg d.name = some (.ref fa) →
      ∃ (K : PySem.W.Frag) (fd : FuncData) (sp : Sp), K.In h ∧ (∀ (s : Shared) (u : Value), BindsTo s fd ⟨[u], []⟩ [(x, u)]) ∧
        (∀ (H : Hp) (a : Addr) (ns : List Int), ns.length ≤ n → Only H → SqL K H a (ns.map V.int) → sp [.ref a] H (fun v _ => v = .bl true) E0) ∧
        ∀ base : Heap, K.In base → base.Ns mainGlobals mg → FnG l.prog w K mg base k fa fd [x] sp) :
    PySem.W.WalkO q loose XP YP l.row.toRowW d [] (fun f vs => PySem.call f vs) := by
  refine Att.attach_call most df (fun w _ s mg mb fa _ _ _ _ a vs ns G Y _ _ _ hm hobj hi hl hg => ?_)
  obtain ⟨K, fd, sp, inK, hb, hs, hF⟩ := F w mg fa _ Y G.T.g hm
  exact law_callG inK G.T.g G.T.b G.T.builtins G.T.nolimit hg hobj hi (Nat.le_trans hl le) room hF hb (fun H only z => hs H a ns hl only z)
end Gd
namespace TxtM
open PySem PySem.Spec PyProof.Rows L2
abbrev dg (n : Int) : Str := Str.ofString (toString n)
def tl (z : Str) : List Nat := z.cps.toList
theorem tl_app (x y : Str) : tl (x ++ y) = tl x ++ tl y := by
  show (x.cps ++ y.cps).toList = _
  rw [Array.toList_append]
  rfl
theorem tl_ext {x y : Str} (h : tl x = tl y) : x = y := by
  obtain ⟨⟨a⟩⟩ := x
  obtain ⟨⟨b⟩⟩ := y
  have : a = b := h
  rw [this]
theorem tl_empty : tl Str.empty = [] := rfl
theorem tl_nil : tl ("" : Str) = [] := by decide +kernel
theorem tl_minus : tl ("-" : Str) = [45] := by decide +kernel
theorem tl_plus : tl ("+" : Str) = [43] := by decide +kernel
theorem tl_zero : tl ("0" : Str) = [48] := by decide +kernel
theorem len_tl (x : Str) : x.length = (tl x).length := by
  show x.cps.size = x.cps.toList.length
  simp
theorem tl_join (ws : List Str) : tl (Str.join "" ws) = (ws.map tl).flatten := by
  induction ws with
  | nil => rfl
  | cons x l ih =>
    cases l with
    | nil => simp [Str.join]
    | cons y r =>
      show tl (x ++ "" ++ Str.join "" (y :: r)) = _
      rw [tl_app, tl_app, ih, tl_nil]
      simp
def trm (n : Int) (nm : Str) : Str := if n.natAbs = 1 ∧ nm ≠ "" then nm else (Str.empty ++ dg n.natAbs) ++ nm
def wst (ws : List Str) (p : Int × Str) : List Str := (if p.1 < 0 then ws ++ [("-" : Str)] else if 0 < p.1 ∧ 0 < ws.length then ws ++ [("+" : Str)] else ws) ++ (if p.1 ≠ 0 then [trm p.1 p.2] else [])
def nms : List Str := ["", "w", "t"]
def wds (ns : List Int) (i : Nat) : List Str := ((ns.zip nms).take i).foldl wst []
def sumS (ns : List Int) : Str := if 0 < (wds ns 3).length then Str.join "" (wds ns 3) else ("0" : Str)
def ltrm (n : Int) (nm : Str) : Str := ((if n < 0 then ("-" : Str) else "+") ++ (if nm ≠ "" ∧ n.natAbs = 1 then ("" : Str) else dg n.natAbs)) ++ nm
def lst (s : Str) (p : Int × Str) : Str := if p.1 ≠ 0 then s ++ ltrm p.1 p.2 else s
def lds (ns : List Int) (i : Nat) : Str := ((ns.zip nms).take i).foldl lst ("" : Str)
def orZero (s : Str) : Str := if s = "" then ("0" : Str) else s
def strip (s : Str) : Str := if cutS s none (some 1) = "+" then cutS s (some 1) none else s
def lawS (ns : List Int) : Str := strip (orZero (lds ns 3))
def Rel (ws : List Str) (s : Str) : Prop := (ws = [] ∧ tl s = []) ∨ (ws ≠ [] ∧ (tl s = 43 :: (ws.map tl).flatten ∨ (tl s = (ws.map tl).flatten ∧ ∃ r, tl s = 45 :: r)))
theorem tl_ltrm (n : Int) (nm : Str) : tl (ltrm n nm) = (if n < 0 then 45 else 43) :: tl (trm n nm) := by
  have sg : tl (if n < 0 then ("-" : Str) else "+") = [if n < 0 then 45 else 43] := by
    by_cases h : n < 0
    · rw [if_pos h, if_pos h, tl_minus]
    · rw [if_neg h, if_neg h, tl_plus]
  have sz : tl (trm n nm) = tl (if nm ≠ "" ∧ n.natAbs = 1 then ("" : Str) else dg n.natAbs) ++ tl nm := by
    unfold trm
    by_cases h : n.natAbs = 1 ∧ nm ≠ ""
    · rw [if_pos h, if_pos (And.intro h.2 h.1), tl_nil]; rfl
    · rw [if_neg h, if_neg (fun z => h (And.intro z.2 z.1)), tl_app, tl_app, tl_empty]; rfl
  unfold ltrm
  rw [tl_app, tl_app, sg, sz]
  rfl
theorem Rel.step {ws : List Str} {s : Str} (h : Rel ws s) (p : Int × Str) : Rel (wst ws p) (lst s p) := by
  obtain ⟨n, nm⟩ := p
  unfold wst lst
  by_cases n0 : n = 0
  · subst n0
    simpa using h
  have hne : n ≠ 0 := n0
  simp only [if_pos hne]
  right
  refine ⟨by split <;> simp, ?_⟩
  have e : tl (s ++ ltrm n nm) = tl s ++ ((if n < 0 then 45 else 43) :: tl (trm n nm)) := by rw [tl_app, tl_ltrm]
  rw [e]
  rcases h with ⟨rfl, h⟩ | ⟨hw, h⟩
  · rw [h]
    by_cases neg : n < 0
    · right
      simp only [if_pos neg, List.nil_append]
      refine ⟨?_, _, rfl⟩
      simp [tl_minus]
    · left
      simp only [if_neg neg, List.nil_append]
      simp
  · have hl : 0 < ws.length := List.length_pos_iff.mpr hw
    by_cases neg : n < 0
    · simp only [if_pos neg]
      rcases h with h | ⟨h, r, hr⟩
      · left
        rw [h]
        simp [tl_minus]
      · right
        refine ⟨?_, ?_⟩
        · rw [h]; simp [tl_minus]
        · rw [hr]; exact ⟨_, rfl⟩
    · have pos : 0 < n := by omega
      simp only [if_neg neg, if_pos (show 0 < n ∧ 0 < ws.length from ⟨pos, hl⟩)]
      rcases h with h | ⟨h, r, hr⟩
      · left
        rw [h]
        simp [tl_plus]
      · right
        refine ⟨?_, ?_⟩
        · rw [h]; simp [tl_plus]
        · rw [hr]; exact ⟨_, rfl⟩
theorem rel (l : List (Int × Str)) : ∀ (ws : List Str) (s : Str), Rel ws s → Rel (l.foldl wst ws) (l.foldl lst s) := by
  induction l with
  | nil => intro ws s h; exact h
  | cons p l ih => intro ws s h; exact ih _ _ (h.step p)
theorem cut1 (z : Str) : tl (cutS z none (some 1)) = (tl z).take 1 := by
  unfold cutS tl
  have h1 : HT.sIx z.length 0 none = 0 := rfl
  rw [h1]
  have h2 : HT.sIx z.length z.length (some 1) = min 1 z.length := by
    unfold HT.sIx
    simp
    try omega
  rw [h2]
  have : z.length = z.cps.toList.length := by show z.cps.size = _; simp
  rw [this]
  simp
theorem cut2 (z : Str) : tl (cutS z (some 1) none) = (tl z).drop 1 := by
  unfold cutS tl
  have h1 : HT.sIx z.length z.length none = z.length := rfl
  rw [h1]
  have h2 : HT.sIx z.length 0 (some 1) = min 1 z.length := by
    unfold HT.sIx
    simp
    try omega
  rw [h2]
  have e : z.length = z.cps.toList.length := by show z.cps.size = _; simp
  rw [e]
  cases hz : z.cps.toList with
  | nil => simp
  | cons a l => simp
theorem law_sum (ns : List Int) : lawS ns = sumS ns := by
  have h := rel ((ns.zip nms).take 3) [] "" (.inl ⟨rfl, tl_nil⟩)
  unfold lawS sumS
  rw [show ((ns.zip nms).take 3).foldl wst [] = wds ns 3 from rfl, show ((ns.zip nms).take 3).foldl lst "" = lds ns 3 from rfl] at h
  apply tl_ext
  rcases h with ⟨hw, hs⟩ | ⟨hw, h⟩
  · have e : lds ns 3 = "" := tl_ext (by rw [hs, tl_nil])
    rw [e, hw]
    decide +kernel
  · have hl : 0 < (wds ns 3).length := List.length_pos_iff.mpr hw
    rw [if_pos hl, tl_join]
    have ne : lds ns 3 ≠ "" := fun z => by
      rw [z, tl_nil] at h
      rcases h with h | ⟨_, r, h⟩ <;> cases h
    unfold orZero
    rw [if_neg ne]
    unfold strip
    rcases h with h | ⟨h, r, hr⟩
    · rw [if_pos (tl_ext (by rw [cut1, h, tl_plus]; rfl)), cut2, h]
      rfl
    · rw [if_neg (fun z => by have z2 := congrArg tl z; rw [cut1, hr, tl_plus] at z2; cases z2)]
      exact h
end TxtM
namespace RG
open PySem PySem.Spec PyProof.Rows L2 Fr
def Un (K : PySem.W.Frag) (H : Hp) (A : Addr) : Prop := ∃ a b c, SqT K H A [.ref a, .ref b, .ref c] ∧ SqT K H a [.int 1, .int 0, .int 0] ∧ SqT K H b [.int 0, .int 1, .int 0] ∧ SqT K H c [.int 0, .int 0, .int 1]
theorem un_k {K : PySem.W.Frag} {H : Hp} {A a b c : Addr} {o0 o1 o2 o3 : Option Addr} {s0 s1 s2 s3 : Array (Option Value)} {n0 n1 n2 n3 : Nat} {t0 t1 t2 t3 t4 t5 t6 t7 t8 : Tok}
    (h0 : K.lookup A = some ⟨.type "tuple", o0, .seq #[.ref a, .ref b, .ref c] n0, s0⟩) (h1 : K.lookup a = some ⟨.type "tuple", o1, .seq #[.int 1 t0, .int 0 t1, .int 0 t2] n1, s1⟩)
    (h2 : K.lookup b = some ⟨.type "tuple", o2, .seq #[.int 0 t3, .int 1 t4, .int 0 t5] n2, s2⟩) (h3 : K.lookup c = some ⟨.type "tuple", o3, .seq #[.int 0 t6, .int 0 t7, .int 1 t8] n3, s3⟩) : Un K H A :=
  ⟨a, b, c, .inr ⟨_, _, _, h0, rfl, rfl, by show 3 ≤ sizeLine; decide, .cons rfl (.cons rfl (.cons rfl .nil))⟩, .inr ⟨_, _, _, h1, rfl, rfl, by show 3 ≤ sizeLine; decide, .cons ⟨_, rfl⟩ (.cons ⟨_, rfl⟩ (.cons ⟨_, rfl⟩ .nil))⟩,
    .inr ⟨_, _, _, h2, rfl, rfl, by show 3 ≤ sizeLine; decide, .cons ⟨_, rfl⟩ (.cons ⟨_, rfl⟩ (.cons ⟨_, rfl⟩ .nil))⟩, .inr ⟨_, _, _, h3, rfl, rfl, by show 3 ≤ sizeLine; decide, .cons ⟨_, rfl⟩ (.cons ⟨_, rfl⟩ (.cons ⟨_, rfl⟩ .nil))⟩⟩
def topS (i : Nat) : Stmt := PySem.Challenge.pw_formrings_k18_whole_texts_and_equality_o.main.body.getD i (.Pass ⟨0, 0, 0, 0⟩)
abbrev s_is_any_integer : Stmt := topS 14
abbrev N_is_any_integer : List Str := ["value"]
theorem sc_is_any_integer : FnScope N_is_any_integer ["value"] (defScope s_is_any_integer) := ⟨rfl, rfl, rfl, by decide +kernel, rfl, by decide +kernel, by decide +kernel⟩
abbrev s_is_short_integer : Stmt := topS 15
abbrev N_is_short_integer : List Str := ["value"]
theorem sc_is_short_integer : FnScope N_is_short_integer ["value"] (defScope s_is_short_integer) := ⟨rfl, rfl, rfl, by decide +kernel, rfl, by decide +kernel, by decide +kernel⟩
abbrev s_are_short_integers : Stmt := topS 17
abbrev N_are_short_integers : List Str := ["value", "many", "n"]
theorem sc_are_short_integers : FnScope N_are_short_integers ["value", "many"] (defScope s_are_short_integers) := ⟨rfl, rfl, rfl, by decide +kernel, rfl, by decide +kernel, by decide +kernel⟩
abbrev s_check_integer : Stmt := topS 19
abbrev N_check_integer : List Str := ["value"]
theorem sc_check_integer : FnScope N_check_integer ["value"] (defScope s_check_integer) := ⟨rfl, rfl, rfl, by decide +kernel, rfl, by decide +kernel, by decide +kernel⟩
abbrev s_shared_divisor : Stmt := topS 22
abbrev N_shared_divisor : List Str := ["numbers", "shared", "number"]
theorem sc_shared_divisor : FnScope N_shared_divisor ["numbers"] (defScope s_shared_divisor) := ⟨rfl, rfl, rfl, by decide +kernel, rfl, by decide +kernel, by decide +kernel⟩
abbrev s_check_form : Stmt := topS 33
abbrev N_check_form : List Str := ["value"]
theorem sc_check_form : FnScope N_check_form ["value"] (defScope s_check_form) := ⟨rfl, rfl, rfl, by decide +kernel, rfl, by decide +kernel, by decide +kernel⟩
abbrev s_Form___init__ : Stmt := inClass (topS 35) 0
abbrev N_Form___init__ : List Str := ["self", "coefficients"]
theorem sc_Form___init__ : FnScope N_Form___init__ ["self", "coefficients"] (defScope s_Form___init__) := ⟨rfl, rfl, rfl, by decide +kernel, rfl, by decide +kernel, by decide +kernel⟩
abbrev s_Form_coefficients : Stmt := inClass (topS 35) 2
abbrev N_Form_coefficients : List Str := ["self"]
theorem sc_Form_coefficients : FnScope N_Form_coefficients ["self"] (defScope s_Form_coefficients) := ⟨rfl, rfl, rfl, by decide +kernel, rfl, by decide +kernel, by decide +kernel⟩
abbrev s_Form___eq__ : Stmt := inClass (topS 35) 17
abbrev N_Form___eq__ : List Str := ["self", "other"]
theorem sc_Form___eq__ : FnScope N_Form___eq__ ["self", "other"] (defScope s_Form___eq__) := ⟨rfl, rfl, rfl, by decide +kernel, rfl, by decide +kernel, by decide +kernel⟩
abbrev s_Form___str__ : Stmt := inClass (topS 35) 18
abbrev N_Form___str__ : List Str := ["self"]
theorem sc_Form___str__ : FnScope N_Form___str__ ["self"] (defScope s_Form___str__) := ⟨rfl, rfl, rfl, by decide +kernel, rfl, by decide +kernel, by decide +kernel⟩
abbrev s_table_of : Stmt := topS 38
abbrev N_table_of : List Str := ["coefficients", "a", "b", "c", "d"]
theorem sc_table_of : FnScope N_table_of ["coefficients"] (defScope s_table_of) := ⟨rfl, rfl, rfl, by decide +kernel, rfl, by decide +kernel, by decide +kernel⟩
abbrev s_product_by : Stmt := topS 39
abbrev N_product_by : List Str := ["table", "first", "second", "a", "b", "c", "d", "e", "f", "g", "h", "i", "u", "x", "y", "v", "z", "s", "left", "middle", "right"]
theorem sc_product_by : FnScope N_product_by ["table", "first", "second"] (defScope s_product_by) := ⟨rfl, rfl, rfl, by decide +kernel, rfl, by decide +kernel, by decide +kernel⟩
abbrev s_check_bottom : Stmt := topS 41
abbrev N_check_bottom : List Str := ["bottom"]
theorem sc_check_bottom : FnScope N_check_bottom ["bottom"] (defScope s_check_bottom) := ⟨rfl, rfl, rfl, by decide +kernel, rfl, by decide +kernel, by decide +kernel⟩
abbrev s_table_for : Stmt := topS 42
abbrev N_table_for : List Str := ["ring"]
theorem sc_table_for : FnScope N_table_for ["ring"] (defScope s_table_for) := ⟨rfl, rfl, rfl, by decide +kernel, rfl, by decide +kernel, by decide +kernel⟩
abbrev s_Ring___init__ : Stmt := inClass (topS 43) 0
abbrev N_Ring___init__ : List Str := ["self", "form"]
theorem sc_Ring___init__ : FnScope N_Ring___init__ ["self", "form"] (defScope s_Ring___init__) := ⟨rfl, rfl, rfl, by decide +kernel, rfl, by decide +kernel, by decide +kernel⟩
abbrev s_Ring_form : Stmt := inClass (topS 43) 1
abbrev N_Ring_form : List Str := ["self"]
theorem sc_Ring_form : FnScope N_Ring_form ["self"] (defScope s_Ring_form) := ⟨rfl, rfl, rfl, by decide +kernel, rfl, by decide +kernel, by decide +kernel⟩
abbrev s_Ring_one : Stmt := inClass (topS 43) 3
abbrev N_Ring_one : List Str := ["self"]
theorem sc_Ring_one : FnScope N_Ring_one ["self"] (defScope s_Ring_one) := ⟨rfl, rfl, rfl, by decide +kernel, rfl, by decide +kernel, by decide +kernel⟩
abbrev s_Ring_w : Stmt := inClass (topS 43) 4
abbrev N_Ring_w : List Str := ["self"]
theorem sc_Ring_w : FnScope N_Ring_w ["self"] (defScope s_Ring_w) := ⟨rfl, rfl, rfl, by decide +kernel, rfl, by decide +kernel, by decide +kernel⟩
abbrev s_Ring_t : Stmt := inClass (topS 43) 5
abbrev N_Ring_t : List Str := ["self"]
theorem sc_Ring_t : FnScope N_Ring_t ["self"] (defScope s_Ring_t) := ⟨rfl, rfl, rfl, by decide +kernel, rfl, by decide +kernel, by decide +kernel⟩
abbrev s_Ring_element : Stmt := inClass (topS 43) 6
abbrev N_Ring_element : List Str := ["self", "entries", "bottom"]
theorem sc_Ring_element : FnScope N_Ring_element ["self", "entries", "bottom"] (defScope s_Ring_element) := ⟨rfl, rfl, rfl, by decide +kernel, rfl, by decide +kernel, by decide +kernel⟩
abbrev s_Ring___eq__ : Stmt := inClass (topS 43) 7
abbrev N_Ring___eq__ : List Str := ["self", "other"]
theorem sc_Ring___eq__ : FnScope N_Ring___eq__ ["self", "other"] (defScope s_Ring___eq__) := ⟨rfl, rfl, rfl, by decide +kernel, rfl, by decide +kernel, by decide +kernel⟩
abbrev s_Ring___str__ : Stmt := inClass (topS 43) 8
abbrev N_Ring___str__ : List Str := ["self"]
theorem sc_Ring___str__ : FnScope N_Ring___str__ ["self"] (defScope s_Ring___str__) := ⟨rfl, rfl, rfl, by decide +kernel, rfl, by decide +kernel, by decide +kernel⟩
abbrev s_check_one_ring : Stmt := topS 44
abbrev N_check_one_ring : List Str := ["first", "second"]
theorem sc_check_one_ring : FnScope N_check_one_ring ["first", "second"] (defScope s_check_one_ring) := ⟨rfl, rfl, rfl, by decide +kernel, rfl, by decide +kernel, by decide +kernel⟩
abbrev s_mixed : Stmt := topS 45
abbrev N_mixed : List Str := ["first", "second", "sign", "top", "bottom", "entries", "one", "other"]
theorem sc_mixed : FnScope N_mixed ["first", "second", "sign"] (defScope s_mixed) := ⟨rfl, rfl, rfl, by decide +kernel, rfl, by decide +kernel, by decide +kernel⟩
abbrev s_term : Stmt := topS 46
abbrev N_term : List Str := ["number", "name", "size"]
theorem sc_term : FnScope N_term ["number", "name"] (defScope s_term) := ⟨rfl, rfl, rfl, by decide +kernel, rfl, by decide +kernel, by decide +kernel⟩
abbrev s_sum_text : Stmt := topS 47
abbrev N_sum_text : List Str := ["entries", "words", "number", "name"]
theorem sc_sum_text : FnScope N_sum_text ["entries"] (defScope s_sum_text) := ⟨rfl, rfl, rfl, by decide +kernel, rfl, by decide +kernel, by decide +kernel⟩
abbrev s_Element___init__ : Stmt := inClass (topS 48) 0
abbrev N_Element___init__ : List Str := ["self", "ring", "entries", "bottom", "shared", "number"]
theorem sc_Element___init__ : FnScope N_Element___init__ ["self", "ring", "entries", "bottom"] (defScope s_Element___init__) := ⟨rfl, rfl, rfl, by decide +kernel, rfl, by decide +kernel, by decide +kernel⟩
abbrev s_Element_ring : Stmt := inClass (topS 48) 1
abbrev N_Element_ring : List Str := ["self"]
theorem sc_Element_ring : FnScope N_Element_ring ["self"] (defScope s_Element_ring) := ⟨rfl, rfl, rfl, by decide +kernel, rfl, by decide +kernel, by decide +kernel⟩
abbrev s_Element_entries : Stmt := inClass (topS 48) 2
abbrev N_Element_entries : List Str := ["self"]
theorem sc_Element_entries : FnScope N_Element_entries ["self"] (defScope s_Element_entries) := ⟨rfl, rfl, rfl, by decide +kernel, rfl, by decide +kernel, by decide +kernel⟩
abbrev s_Element_bottom : Stmt := inClass (topS 48) 3
abbrev N_Element_bottom : List Str := ["self"]
theorem sc_Element_bottom : FnScope N_Element_bottom ["self"] (defScope s_Element_bottom) := ⟨rfl, rfl, rfl, by decide +kernel, rfl, by decide +kernel, by decide +kernel⟩
abbrev s_Element___add__ : Stmt := inClass (topS 48) 8
abbrev N_Element___add__ : List Str := ["self", "other"]
theorem sc_Element___add__ : FnScope N_Element___add__ ["self", "other"] (defScope s_Element___add__) := ⟨rfl, rfl, rfl, by decide +kernel, rfl, by decide +kernel, by decide +kernel⟩
abbrev s_Element___sub__ : Stmt := inClass (topS 48) 9
abbrev N_Element___sub__ : List Str := ["self", "other"]
theorem sc_Element___sub__ : FnScope N_Element___sub__ ["self", "other"] (defScope s_Element___sub__) := ⟨rfl, rfl, rfl, by decide +kernel, rfl, by decide +kernel, by decide +kernel⟩
abbrev s_Element___mul__ : Stmt := inClass (topS 48) 10
abbrev N_Element___mul__ : List Str := ["self", "other", "entries"]
theorem sc_Element___mul__ : FnScope N_Element___mul__ ["self", "other"] (defScope s_Element___mul__) := ⟨rfl, rfl, rfl, by decide +kernel, rfl, by decide +kernel, by decide +kernel⟩
abbrev s_Element___neg__ : Stmt := inClass (topS 48) 11
abbrev N_Element___neg__ : List Str := ["self", "number"]
theorem sc_Element___neg__ : FnScope N_Element___neg__ ["self"] (defScope s_Element___neg__) := ⟨rfl, rfl, rfl, by decide +kernel, rfl, by decide +kernel, by decide +kernel⟩
abbrev s_Element___bool__ : Stmt := inClass (topS 48) 15
abbrev N_Element___bool__ : List Str := ["self"]
theorem sc_Element___bool__ : FnScope N_Element___bool__ ["self"] (defScope s_Element___bool__) := ⟨rfl, rfl, rfl, by decide +kernel, rfl, by decide +kernel, by decide +kernel⟩
abbrev s_Element___eq__ : Stmt := inClass (topS 48) 16
abbrev N_Element___eq__ : List Str := ["self", "other"]
theorem sc_Element___eq__ : FnScope N_Element___eq__ ["self", "other"] (defScope s_Element___eq__) := ⟨rfl, rfl, rfl, by decide +kernel, rfl, by decide +kernel, by decide +kernel⟩
abbrev s_Element___str__ : Stmt := inClass (topS 48) 17
abbrev N_Element___str__ : List Str := ["self", "words"]
theorem sc_Element___str__ : FnScope N_Element___str__ ["self"] (defScope s_Element___str__) := ⟨rfl, rfl, rfl, by decide +kernel, rfl, by decide +kernel, by decide +kernel⟩
abbrev s_l_vat : Stmt := topS 50
abbrev N_l_vat : List Str := ["_law_script", "_law_spot", "_law_cell", "_law_great"]
theorem sc_l_vat : FnScope N_l_vat ["_law_script", "_law_spot"] (defScope s_l_vat) := ⟨rfl, rfl, rfl, by decide +kernel, rfl, by decide +kernel, by decide +kernel⟩
abbrev s_l_drip : Stmt := topS 51
abbrev N_l_drip : List Str := ["_law_vat_here", "_law_total", "_law_found", "_law_one", "_law_two"]
theorem sc_l_drip : FnScope N_l_drip ["_law_vat_here", "_law_total"] (defScope s_l_drip) := ⟨rfl, rfl, rfl, by decide +kernel, rfl, by decide +kernel, by decide +kernel⟩
abbrev s_l_some_of : Stmt := topS 52
abbrev N_l_some_of : List Str := ["_law_vat_here", "_law_items"]
theorem sc_l_some_of : FnScope N_l_some_of ["_law_vat_here", "_law_items"] (defScope s_l_some_of) := ⟨rfl, rfl, rfl, by decide +kernel, rfl, by decide +kernel, by decide +kernel⟩
abbrev s_l_int : Stmt := topS 53
abbrev N_l_int : List Str := ["_law_vat_here", "_law_most"]
theorem sc_l_int : FnScope N_l_int ["_law_vat_here"] (defScope s_l_int) := ⟨rfl, rfl, rfl, by decide +kernel, rfl, by decide +kernel, by decide +kernel⟩
abbrev s_l_share : Stmt := topS 54
abbrev N_l_share : List Str := ["_law_one", "_law_other"]
theorem sc_l_share : FnScope N_l_share ["_law_one", "_law_other"] (defScope s_l_share) := ⟨rfl, rfl, rfl, by decide +kernel, rfl, by decide +kernel, by decide +kernel⟩
abbrev s_l_lowest : Stmt := topS 55
abbrev N_l_lowest : List Str := ["_law_entries", "_law_bottom", "_law_share_here", "_law_entry"]
theorem sc_l_lowest : FnScope N_l_lowest ["_law_entries", "_law_bottom"] (defScope s_l_lowest) := ⟨rfl, rfl, rfl, by decide +kernel, rfl, by decide +kernel, by decide +kernel⟩
abbrev s_l_coefficients : Stmt := topS 56
abbrev N_l_coefficients : List Str := ["_law_vat_here", "_law_way", "_law_found", "_law_factor", "_law_turn", "_law_entry"]
theorem sc_l_coefficients : FnScope N_l_coefficients ["_law_vat_here"] (defScope s_l_coefficients) := ⟨rfl, rfl, rfl, by decide +kernel, rfl, by decide +kernel, by decide +kernel⟩
abbrev s_l_drawn : Stmt := topS 57
abbrev N_l_drawn : List Str := ["_law_vat_here", "_law_factor", "_law_bottom", "_law_turn"]
theorem sc_l_drawn : FnScope N_l_drawn ["_law_vat_here"] (defScope s_l_drawn) := ⟨rfl, rfl, rfl, by decide +kernel, rfl, by decide +kernel, by decide +kernel⟩
abbrev s_l_term : Stmt := topS 58
abbrev N_l_term : List Str := ["_law_entry", "_law_name", "_law_size"]
theorem sc_l_term : FnScope N_l_term ["_law_entry", "_law_name"] (defScope s_l_term) := ⟨rfl, rfl, rfl, by decide +kernel, rfl, by decide +kernel, by decide +kernel⟩
abbrev s_l_text : Stmt := topS 59
abbrev N_l_text : List Str := ["_law_entries", "_law_bottom", "_law_found", "_law_entry", "_law_name"]
theorem sc_l_text : FnScope N_l_text ["_law_entries", "_law_bottom"] (defScope s_l_text) := ⟨rfl, rfl, rfl, by decide +kernel, rfl, by decide +kernel, by decide +kernel⟩
abbrev s_l_small : Stmt := topS 60
abbrev N_l_small : List Str := ["_law_vat_here", "_law_found", "_law_turn"]
theorem sc_l_small : FnScope N_l_small ["_law_vat_here"] (defScope s_l_small) := ⟨rfl, rfl, rfl, by decide +kernel, rfl, by decide +kernel, by decide +kernel⟩
abbrev s_l_right : Stmt := topS 61
abbrev N_l_right : List Str := ["_law_vat_here", "_law_form", "_law_more", "_law_ring", "_law_other", "_law_again", "_law_some", "_law_entries", "_law_bottom", "_law_element", "_law_due", "_law_number"]
theorem sc_l_right : FnScope N_l_right ["_law_vat_here"] (defScope s_l_right) := ⟨rfl, rfl, rfl, by decide +kernel, rfl, by decide +kernel, by decide +kernel⟩
abbrev s_law : Stmt := topS 62
abbrev N_law : List Str := ["_law_script", "_law_spot", "_law_vat_here", "_law_ring", "_law_told"]
theorem sc_law : FnScope N_law ["_law_script"] (defScope s_law) := ⟨rfl, rfl, rfl, by decide +kernel, rfl, by decide +kernel, by decide +kernel⟩
structure Txt (K : PySem.W.Frag) (mg : Str → Option Value) (C_Form : Addr) (C_Ring : Addr) (C_Element : Addr) : Prop where
  g_Form : mg "Form" = some (.ref C_Form)
  cl_Form : Cls K C_Form
  ty_Form : TyI K C_Form
  na_Form_coefficients : NoAttr K C_Form "_coefficients"
  fm_Form : PySem.W.findIn K (.ref C_Form) "__format__" = some (some (.builtin "object.__format__")) ∧ PySem.W.mroIn K C_Form (.type "object") = some true
  g_Ring : mg "Ring" = some (.ref C_Ring)
  cl_Ring : Cls K C_Ring
  ty_Ring : TyI K C_Ring
  na_Ring_form : NoAttr K C_Ring "_form"
  fo_Ring_Form : PySem.W.kitOne K (.ref C_Form) (.ref C_Ring) = some false ∧ PySem.W.notFirst K C_Ring (.ref C_Form) = true
  fo_Ring_str : PySem.W.kitOne K (.type "str") (.ref C_Ring) = some false ∧ PySem.W.notFirst K C_Ring (.type "str") = true
  fo_Ring_NoneType : PySem.W.kitOne K (.type "NoneType") (.ref C_Ring) = some false ∧ PySem.W.notFirst K C_Ring (.type "NoneType") = true
  g_Element : mg "Element" = some (.ref C_Element)
  cl_Element : Cls K C_Element
  ty_Element : TyI K C_Element
  na_Element_ring : NoAttr K C_Element "_ring"
  na_Element_entries : NoAttr K C_Element "_entries"
  na_Element_bottom : NoAttr K C_Element "_bottom"
  fo_Element_tuple : PySem.W.kitOne K (.type "tuple") (.ref C_Element) = some false ∧ PySem.W.notFirst K C_Element (.type "tuple") = true
  fo_Element_NoneType : PySem.W.kitOne K (.type "NoneType") (.ref C_Element) = some false ∧ PySem.W.notFirst K C_Element (.type "NoneType") = true
  fo_Element_str : PySem.W.kitOne K (.type "str") (.ref C_Element) = some false ∧ PySem.W.notFirst K C_Element (.type "str") = true
  d_is_any_integer : ∃ f fd, mg "is_any_integer" = some (.ref f) ∧ Fun K "is_any_integer" "is_any_integer" s_is_any_integer f fd
  d_is_short_integer : ∃ f fd, mg "is_short_integer" = some (.ref f) ∧ Fun K "is_short_integer" "is_short_integer" s_is_short_integer f fd
  d_are_short_integers : ∃ f fd, mg "are_short_integers" = some (.ref f) ∧ Fun K "are_short_integers" "are_short_integers" s_are_short_integers f fd
  d_check_integer : ∃ f fd, mg "check_integer" = some (.ref f) ∧ Fun K "check_integer" "check_integer" s_check_integer f fd
  d_shared_divisor : ∃ f fd, mg "shared_divisor" = some (.ref f) ∧ Fun K "shared_divisor" "shared_divisor" s_shared_divisor f fd
  d_check_form : ∃ f fd, mg "check_form" = some (.ref f) ∧ Fun K "check_form" "check_form" s_check_form f fd
  e_Form___init__ : ∃ (p f : Addr) (fd : FuncData), Mk K C_Form f ∧ Fun K "__init__" "Form.__init__" s_Form___init__ f fd
  e_Form_coefficients : ∃ (p f : Addr) (fd : FuncData), PropOf K C_Form "coefficients" p f ∧ Fun K "coefficients" "Form.coefficients" s_Form_coefficients f fd
  e_Form___eq__ : ∃ (p f : Addr) (fd : FuncData), EqC K C_Form f ∧ Fun K "__eq__" "Form.__eq__" s_Form___eq__ f fd
  e_Form___str__ : ∃ (p f : Addr) (fd : FuncData), Meth K C_Form "__str__" f ∧ Fun K "__str__" "Form.__str__" s_Form___str__ f fd
  d_table_of : ∃ f fd, mg "table_of" = some (.ref f) ∧ Fun K "table_of" "table_of" s_table_of f fd
  d_product_by : ∃ f fd, mg "product_by" = some (.ref f) ∧ Fun K "product_by" "product_by" s_product_by f fd
  d_check_bottom : ∃ f fd, mg "check_bottom" = some (.ref f) ∧ Fun K "check_bottom" "check_bottom" s_check_bottom f fd
  d_table_for : ∃ f fd, mg "table_for" = some (.ref f) ∧ Fun K "table_for" "table_for" s_table_for f fd
  e_Ring___init__ : ∃ (p f : Addr) (fd : FuncData), Mk K C_Ring f ∧ Fun K "__init__" "Ring.__init__" s_Ring___init__ f fd
  e_Ring_form : ∃ (p f : Addr) (fd : FuncData), PropOf K C_Ring "form" p f ∧ Fun K "form" "Ring.form" s_Ring_form f fd
  e_Ring_one : ∃ (p f : Addr) (fd : FuncData), Meth K C_Ring "one" f ∧ Fun K "one" "Ring.one" s_Ring_one f fd
  e_Ring_w : ∃ (p f : Addr) (fd : FuncData), Meth K C_Ring "w" f ∧ Fun K "w" "Ring.w" s_Ring_w f fd
  e_Ring_t : ∃ (p f : Addr) (fd : FuncData), Meth K C_Ring "t" f ∧ Fun K "t" "Ring.t" s_Ring_t f fd
  e_Ring_element : ∃ (p f : Addr) (fd : FuncData), Meth K C_Ring "element" f ∧ FunD K "element" "Ring.element" (defArgs s_Ring_element) (defBody s_Ring_element) (defScope s_Ring_element) [.int 1] [] f fd
  e_Ring___eq__ : ∃ (p f : Addr) (fd : FuncData), EqC K C_Ring f ∧ Fun K "__eq__" "Ring.__eq__" s_Ring___eq__ f fd
  e_Ring___str__ : ∃ (p f : Addr) (fd : FuncData), Meth K C_Ring "__str__" f ∧ Fun K "__str__" "Ring.__str__" s_Ring___str__ f fd
  d_check_one_ring : ∃ f fd, mg "check_one_ring" = some (.ref f) ∧ Fun K "check_one_ring" "check_one_ring" s_check_one_ring f fd
  d_mixed : ∃ f fd, mg "mixed" = some (.ref f) ∧ Fun K "mixed" "mixed" s_mixed f fd
  d_term : ∃ f fd, mg "term" = some (.ref f) ∧ Fun K "term" "term" s_term f fd
  d_sum_text : ∃ f fd, mg "sum_text" = some (.ref f) ∧ Fun K "sum_text" "sum_text" s_sum_text f fd
  e_Element___init__ : ∃ (p f : Addr) (fd : FuncData), Mk K C_Element f ∧ Fun K "__init__" "Element.__init__" s_Element___init__ f fd
  e_Element_ring : ∃ (p f : Addr) (fd : FuncData), PropOf K C_Element "ring" p f ∧ Fun K "ring" "Element.ring" s_Element_ring f fd
  e_Element_entries : ∃ (p f : Addr) (fd : FuncData), PropOf K C_Element "entries" p f ∧ Fun K "entries" "Element.entries" s_Element_entries f fd
  e_Element_bottom : ∃ (p f : Addr) (fd : FuncData), PropOf K C_Element "bottom" p f ∧ Fun K "bottom" "Element.bottom" s_Element_bottom f fd
  e_Element___add__ : ∃ (p f : Addr) (fd : FuncData), BinC K C_Element "__add__" f ∧ Fun K "__add__" "Element.__add__" s_Element___add__ f fd
  e_Element___sub__ : ∃ (p f : Addr) (fd : FuncData), BinC K C_Element "__sub__" f ∧ Fun K "__sub__" "Element.__sub__" s_Element___sub__ f fd
  e_Element___mul__ : ∃ (p f : Addr) (fd : FuncData), BinC K C_Element "__mul__" f ∧ Fun K "__mul__" "Element.__mul__" s_Element___mul__ f fd
  e_Element___neg__ : ∃ (p f : Addr) (fd : FuncData), Meth K C_Element "__neg__" f ∧ Fun K "__neg__" "Element.__neg__" s_Element___neg__ f fd
  e_Element___bool__ : ∃ (p f : Addr) (fd : FuncData), Meth K C_Element "__bool__" f ∧ Fun K "__bool__" "Element.__bool__" s_Element___bool__ f fd
  e_Element___eq__ : ∃ (p f : Addr) (fd : FuncData), EqC K C_Element f ∧ Fun K "__eq__" "Element.__eq__" s_Element___eq__ f fd
  e_Element___str__ : ∃ (p f : Addr) (fd : FuncData), Meth K C_Element "__str__" f ∧ Fun K "__str__" "Element.__str__" s_Element___str__ f fd
  d_l_vat : ∃ f fd, mg "_law_vat" = some (.ref f) ∧ Fun K "_law_vat" "_law_vat" s_l_vat f fd
  d_l_drip : ∃ f fd, mg "_law_drip" = some (.ref f) ∧ Fun K "_law_drip" "_law_drip" s_l_drip f fd
  d_l_some_of : ∃ f fd, mg "_law_some_of" = some (.ref f) ∧ Fun K "_law_some_of" "_law_some_of" s_l_some_of f fd
  d_l_int : ∃ f fd, mg "_law_int" = some (.ref f) ∧ Fun K "_law_int" "_law_int" s_l_int f fd
  d_l_share : ∃ f fd, mg "_law_share" = some (.ref f) ∧ Fun K "_law_share" "_law_share" s_l_share f fd
  d_l_lowest : ∃ f fd, mg "_law_lowest" = some (.ref f) ∧ Fun K "_law_lowest" "_law_lowest" s_l_lowest f fd
  d_l_coefficients : ∃ f fd, mg "_law_coefficients" = some (.ref f) ∧ Fun K "_law_coefficients" "_law_coefficients" s_l_coefficients f fd
  d_l_drawn : ∃ f fd, mg "_law_drawn" = some (.ref f) ∧ Fun K "_law_drawn" "_law_drawn" s_l_drawn f fd
  d_l_term : ∃ f fd, mg "_law_term" = some (.ref f) ∧ Fun K "_law_term" "_law_term" s_l_term f fd
  d_l_text : ∃ f fd, mg "_law_text" = some (.ref f) ∧ Fun K "_law_text" "_law_text" s_l_text f fd
  d_l_small : ∃ f fd, mg "_law_small" = some (.ref f) ∧ Fun K "_law_small" "_law_small" s_l_small f fd
  d_l_right : ∃ f fd, mg "_law_right" = some (.ref f) ∧ Fun K "_law_right" "_law_right" s_l_right f fd
  d_law : ∃ f fd, mg "law" = some (.ref f) ∧ Fun K "law" "law" s_law f fd
  b_abs : mg "abs" = none
  b_all : mg "all" = none
  b_any : mg "any" = none
  b_bool : mg "bool" = none
  b_int : mg "int" = none
  b_isinstance : mg "isinstance" = none
  b_len : mg "len" = none
  b_max : mg "max" = none
  b_min : mg "min" = none
  b_range : mg "range" = none
  b_str : mg "str" = none
  b_tuple : mg "tuple" = none
  b_zip : mg "zip" = none
  x_LIMIT : ∃ t, mg "LIMIT" = some (.int (1000000000000000000000000000000000000000000000000000000000000) t)
  m_gcd : mg "gcd" = some (.builtin "math.gcd")
  k_UNITS : ∃ A, mg "UNITS" = some (.ref A) ∧ ∀ H, Un K H A
def Short (i : Int) : Prop := -1000000000000000000000000000000000000000000000000000000000000 < i ∧ i < 1000000000000000000000000000000000000000000000000000000000000
theorem Short.b {i : Int} (h : Short i) : B 200 i := ⟨by have := h.1; have := h.2; omega, by decide⟩
def Ti (H : Hp) (a : Addr) (ns : List Int) : Prop := H a = some (.tup (ns.map V.int))
def T4 (H : Hp) (a : Addr) (p q r s : Int) : Prop := ∃ t1 t2, H a = some (.tup [.ref t1, .ref t2]) ∧ H t1 = some (.tup [.int p, .int q]) ∧ H t2 = some (.tup [.int r, .int s])
def Tq (K : PySem.W.Frag) (H : Hp) (a : Addr) (ns : List Int) : Prop := SqT K H a (ns.map V.int)
theorem Ti.q {K : PySem.W.Frag} {H : Hp} {a : Addr} {ns : List Int} (h : Ti H a ns) : Tq K H a ns := SqT.of h
def T33 (H : Hp) (a : Addr) (r1 r2 r3 : List Int) : Prop := ∃ t1 t2 t3, H a = some (.tup [.ref t1, .ref t2, .ref t3]) ∧ Ti H t1 r1 ∧ Ti H t2 r2 ∧ Ti H t3 r3
def L33 (H : Hp) (a : Addr) (r1 r2 r3 : List Int) : Prop := ∃ t1 t2 t3, H a = some (.lst [.ref t1, .ref t2, .ref t3]) ∧ Ti H t1 r1 ∧ Ti H t2 r2 ∧ Ti H t3 r3
def M33 (K : PySem.W.Frag) (H : Hp) (a : Addr) (r1 r2 r3 : List Int) : Prop := ∃ t1 t2 t3, H a = some (.lst [.ref t1, .ref t2, .ref t3]) ∧ Tq K H t1 r1 ∧ Tq K H t2 r2 ∧ Tq K H t3 r3
def FormAt (C : Addr) (H : Hp) (x : Addr) (ns : List Int) : Prop := ∃ dx t, H x = some (.ins C dx [(("_coefficients" : Str), .ref t)]) ∧ Ti H t ns
def ChOk (p q r s : Int) : Prop := Short p ∧ Short q ∧ Short r ∧ Short s ∧ (p * s - q * r = 1 ∨ p * s - q * r = -1)
theorem Ti.ex {H H' : Hp} {a : Addr} {ns : List Int} (h : Ti H a ns) (e : ∀ b xs, H b = some (.tup xs) → H' b = some (.tup xs)) : Ti H' a ns := e _ _ h
theorem T4.ex {H H' : Hp} {a : Addr} {p q r s : Int} (h : T4 H a p q r s) (e : ∀ b xs, H b = some (.tup xs) → H' b = some (.tup xs)) : T4 H' a p q r s := by
  obtain ⟨t1, t2, h0, h1, h2⟩ := h
  exact ⟨t1, t2, e _ _ h0, e _ _ h1, e _ _ h2⟩
theorem get_int {ns : List Int} {i : Nat} {x : V} (hx : (ns.map V.int)[i]? = some x) : ∃ n, ns[i]? = some n ∧ x = V.int n := by
  rw [List.getElem?_map] at hx
  cases e : ns[i]? with
  | none => rw [e] at hx; cases hx
  | some z => rw [e] at hx; exact ⟨z, rfl, (Option.some.inj hx).symm⟩
def gcdL (ns : List Int) : Nat := ns.foldl (fun g n => Nat.gcd g n.natAbs) 0
theorem gcdL_take {ns : List Int} {i : Nat} {n : Int} (h : ns[i]? = some n) : gcdL (ns.take (i + 1)) = Nat.gcd (gcdL (ns.take i)) n.natAbs := by
  unfold gcdL
  rw [List.take_add_one, h, List.foldl_append]
  rfl
def fv (a b c d x y : Int) : Int := a * x * x * x + b * x * x * y + c * x * y * y + d * y * y * y
def fdisc (a b c d : Int) : Int := b * b * c * c - 4 * a * c * c * c - 4 * b * b * b * d - 27 * a * a * d * d + 18 * a * b * c * d
def fl2 (a b c d p q r s : Int) : Int := 3 * a * p * p * r + b * p * (p * s + 2 * q * r) + c * q * (2 * p * s + q * r) + 3 * d * q * q * s
def fl3 (a b c d p q r s : Int) : Int := 3 * a * p * r * r + b * r * (2 * p * s + q * r) + c * s * (p * s + 2 * q * r) + 3 * d * q * s * s
def fled (a b c d p q r s : Int) : List Int := [(p * s - q * r) * fv a b c d p q, (p * s - q * r) * fl2 a b c d p q r s, (p * s - q * r) * fl3 a b c d p q r s, (p * s - q * r) * fv a b c d r s]
theorem un4 {K : PySem.W.Frag} {i j k l : Nat} {σ : L2.St} {H : Hp} {a : Addr} {p q r s : Int} {Q : L2.St → Hp → Prop} (h : T4 H a p q r s)
    (z : Q ((((σ.set i (some (.int p))).set j (some (.int q))).set k (some (.int r))).set l (some (.int s))) H) :
    gTup K 2 (gCons (gTup K 2 (gCons (gName i) (gCons (gName j) gNil))) (gCons (gTup K 2 (gCons (gName k) (gCons (gName l) gNil))) gNil)) (.ref a) σ H Q := by
  obtain ⟨t1, t2, h0, h1, h2⟩ := h
  refine ⟨a, _, rfl, SqT.of h0, rfl, _, _, rfl, ?_⟩
  refine ⟨t1, _, rfl, SqT.of h1, rfl, _, _, rfl, ?_⟩
  refine ⟨_, _, rfl, ⟨rfl, ?_⟩⟩
  refine ⟨_, _, rfl, ?_⟩
  refine ⟨t2, _, rfl, SqT.of h2, rfl, _, _, rfl, ?_⟩
  exact ⟨_, _, rfl, ⟨rfl, ⟨rfl, z⟩⟩⟩
theorem unI4 {K : PySem.W.Frag} {i j k l : Nat} {σ : L2.St} {H : Hp} {t : Addr} {a b c d : Int} {Q : L2.St → Hp → Prop} (h : Ti H t [a, b, c, d])
    (z : Q ((((σ.set i (some (.int a))).set j (some (.int b))).set k (some (.int c))).set l (some (.int d))) H) :
    gTup K 4 (gCons (gName i) (gCons (gName j) (gCons (gName k) (gCons (gName l) gNil)))) (.ref t) σ H Q :=
  ⟨t, _, rfl, SqT.of h, rfl, _, _, rfl, _, _, rfl, _, _, rfl, _, _, rfl, rfl, z⟩
theorem t4_new {H : Hp} {t1 t2 x : Addr} {p q r s : Int} (n1 : H t1 = none) (n2 : upd H t1 (.tup [.int p, .int q]) t2 = none) (n3 : upd (upd H t1 (.tup [.int p, .int q])) t2 (.tup [.int r, .int s]) x = none) :
    Ex0 H (upd (upd (upd H t1 (.tup [.int p, .int q])) t2 (.tup [.int r, .int s])) x (.tup [.ref t1, .ref t2])) ∧ T4 (upd (upd (upd H t1 (.tup [.int p, .int q])) t2 (.tup [.int r, .int s])) x (.tup [.ref t1, .ref t2])) x p q r s :=
  ⟨((Ex0.new n1).trans (Ex0.new n2)).trans (Ex0.new n3), t1, t2, upd_same, Ex0.ap (Ex0.new n3) (Ex0.ap (Ex0.new n2) upd_same), Ex0.ap (Ex0.new n3) upd_same⟩
theorem Ex0.t4 {H H' : Hp} {a : Addr} {p q r s : Int} (e : Ex0 H H') (h : T4 H a p q r s) : T4 H' a p q r s := h.ex fun _ _ z => Ex0.ap e z
theorem Ex0.ti {H H' : Hp} {a : Addr} {ns : List Int} (e : Ex0 H H') (h : Ti H a ns) : Ti H' a ns := Ex0.ap e h
theorem Ex0.fo {C : Addr} {H H' : Hp} {x : Addr} {ns : List Int} (e : Ex0 H H') (h : FormAt C H x ns) : FormAt C H' x ns := by
  obtain ⟨dx, t, h1, h2⟩ := h
  exact ⟨dx, t, Ex0.ap e h1, Ex0.ap e h2⟩
def RingAt (C C_R : Addr) (H : Hp) (r : Addr) (ns : List Int) : Prop := ∃ dr x, H r = some (.ins C_R dr [(("_form" : Str), .ref x)]) ∧ FormAt C H x ns
def ElAt (C C_R C_E : Addr) (H : Hp) (e : Addr) (ns : List Int) (u y z b : Int) : Prop := ∃ de r t, H e = some (.ins C_E de [(("_ring" : Str), .ref r), (("_entries" : Str), .ref t), (("_bottom" : Str), .int b)]) ∧ RingAt C C_R H r ns ∧ Ti H t [u, y, z]
theorem Ex0.tq {K : PySem.W.Frag} {H H' : Hp} {a : Addr} {ns : List Int} (e : Ex0 H H') (h : Tq K H a ns) : Tq K H' a ns := e.sqT (fun z => z) h
theorem Ex0.t33 {H H' : Hp} {a : Addr} {r1 r2 r3 : List Int} (e : Ex0 H H') (h : T33 H a r1 r2 r3) : T33 H' a r1 r2 r3 := by
  obtain ⟨t1, t2, t3, h0, h1, h2, h3⟩ := h
  exact ⟨t1, t2, t3, Ex0.ap e h0, Ex0.ap e h1, Ex0.ap e h2, Ex0.ap e h3⟩
theorem Ex0.l33 {H H' : Hp} {a : Addr} {r1 r2 r3 : List Int} (e : Ex0 H H') (h : L33 H a r1 r2 r3) : L33 H' a r1 r2 r3 := by
  obtain ⟨t1, t2, t3, h0, h1, h2, h3⟩ := h
  exact ⟨t1, t2, t3, Ex0.ap e h0, Ex0.ap e h1, Ex0.ap e h2, Ex0.ap e h3⟩
theorem Ex0.ri {C C_R : Addr} {H H' : Hp} {r : Addr} {ns : List Int} (e : Ex0 H H') (h : RingAt C C_R H r ns) : RingAt C C_R H' r ns := by
  obtain ⟨dr, x, h1, h2⟩ := h
  exact ⟨dr, x, Ex0.ap e h1, Ex0.fo e h2⟩
theorem Ex0.el {C C_R C_E : Addr} {H H' : Hp} {x : Addr} {ns : List Int} {u y z b : Int} (e : Ex0 H H') (h : ElAt C C_R C_E H x ns u y z b) : ElAt C C_R C_E H' x ns u y z b := by
  obtain ⟨de, r, t, h1, h2, h3⟩ := h
  exact ⟨de, r, t, Ex0.ap e h1, Ex0.ri e h2, Ex0.ti e h3⟩
theorem unq3 {K : PySem.W.Frag} {i j k : Nat} {σ : L2.St} {H : Hp} {t : Addr} {a b c : Int} {Q : L2.St → Hp → Prop} (h : Tq K H t [a, b, c])
    (z : Q (((σ.set i (some (.int a))).set j (some (.int b))).set k (some (.int c))) H) :
    gTup K 3 (gCons (gName i) (gCons (gName j) (gCons (gName k) gNil))) (.ref t) σ H Q :=
  ⟨t, _, rfl, h, rfl, _, _, rfl, _, _, rfl, _, _, rfl, rfl, z⟩
def w1 (a b c d : Int) : List Int := [-a * c, b, -a]
def w2 (a b c d : Int) : List Int := [-a * d, 0, 0]
def w3 (a b c d : Int) : List Int := [-b * d, d, -c]
def m0 (a d g u y z v s r : Int) : Int := u * v + y * s * a + (y * r + z * s) * d + z * r * g
def m1 (b e h u y z v s r : Int) : Int := u * s + y * v + y * s * b + (y * r + z * s) * e + z * r * h
def m2 (c f i u y z v s r : Int) : Int := u * r + z * v + y * s * c + (y * r + z * s) * f + z * r * i
def pr (a b c d u y z v s r : Int) : List Int := [m0 (-a * c) (-a * d) (-b * d) u y z v s r, m1 b 0 d u y z v s r, m2 (-a) 0 (-c) u y z v s r]
def tr (a b c d u y z : Int) : Int := 3 * u + b * y - c * z
section
def sp_is_any_integer (_ : PySem.W.Frag) (C C_R C_E : Addr) : Sp := fun vs H Q _ => ∃ i : Int, vs = [.int i] ∧ Q (.bl true) H
def sp_is_short_integer (_ : PySem.W.Frag) (C C_R C_E : Addr) : Sp := fun vs H Q _ => ∃ i : Int, vs = [.int i] ∧ Short i ∧ Q (.bl true) H
def sp_are_short_integers (_ : PySem.W.Frag) (C C_R C_E : Addr) : Sp := fun vs H Q _ => ∃ (a : Addr) (ns : List Int), vs = [.ref a, .int (ns.length : Int)] ∧ Ti H a ns ∧ ns.length ≤ 1000 ∧ (∀ n ∈ ns, Short n) ∧ ∀ H', Ex0 H H' → Q (.bl true) H'
def sp_check_integer (_ : PySem.W.Frag) (C C_R C_E : Addr) : Sp := fun vs H Q _ => ∃ i : Int, vs = [.int i] ∧ Short i ∧ Q .non H
def sp_shared_divisor (K : PySem.W.Frag) (C C_R C_E : Addr) : Sp := fun vs H Q _ => ∃ (a : Addr) (ns : List Int), vs = [.ref a] ∧ Tq K H a ns ∧ Q (.int (gcdL ns : Nat)) H
def sp_Form___init__ (_ : PySem.W.Frag) (C C_R C_E : Addr) : Sp := fun vs H Q _ => ∃ (x dx t : Addr) (ns : List Int), vs = [.ref x, .ref t] ∧ H x = some (.ins C dx []) ∧ Ti H t ns ∧ ns.length = 4 ∧ (∀ n ∈ ns, Short n) ∧ ∀ H', (∀ b o, b ≠ x → H b = some o → H' b = some o) → H' x = some (.ins C dx [(("_coefficients" : Str), .ref t)]) → Q .non H'
def sp_Form_coefficients (_ : PySem.W.Frag) (C C_R C_E : Addr) : Sp := fun vs H Q _ => ∃ (x : Addr) (ns : List Int), vs = [.ref x] ∧ FormAt C H x ns ∧ ∀ t, Ti H t ns → Q (.ref t) H
def sp_Form___eq__ (_ : PySem.W.Frag) (C C_R C_E : Addr) : Sp := fun vs H Q _ => ∃ (x y : Addr) (ns ms : List Int), vs = [.ref x, .ref y] ∧ FormAt C H x ns ∧ FormAt C H y ms ∧ Q (.bl (decide (ns = ms))) H
end
section
variable {P : Program} {w : World} {K : PySem.W.Frag} {mg : Str → Option Value} {base : Heap} {C_Form C_Ring C_Element : Addr}
theorem ok_is_any_integer (T : Txt K mg C_Form C_Ring C_Element) : Def P w K mg base 1 "is_any_integer" ["value"] (sp_is_any_integer K C_Form C_Ring C_Element) := by
  obtain ⟨f_, fd_, g_, F_⟩ := T.d_is_any_integer
  refine ⟨f_, fd_, g_, F_.kp, F_.binds (ps := ["value"]) (fun _ _ _ _ _ _ us hl => match us, hl with | [_], _ => rfl), ?_⟩
  refine F_.ok sc_is_any_integer (fun vs H Q E h => ?_) (fun cdv A outer s H vs Q E hr h => ?_)
  · first | (obtain ⟨rfl, _⟩ := h; rfl) | (obtain ⟨_, rfl, _⟩ := h; rfl) | (obtain ⟨_, _, rfl, _⟩ := h; rfl) | (obtain ⟨_, _, _, rfl, _⟩ := h; rfl) | (obtain ⟨_, _, _, _, rfl, _⟩ := h; rfl) | (obtain ⟨_, _, _, _, _, rfl, _⟩ := h; rfl) | (obtain ⟨_, _, _, _, _, _, rfl, _⟩ := h; rfl) | (obtain ⟨_, _, _, _, _, _, _, rfl, _⟩ := h; rfl) | (obtain ⟨_, _, _, _, _, _, _, _, rfl, _⟩ := h; rfl) | (obtain ⟨_, _, _, _, _, _, _, _, _, rfl, _⟩ := h; rfl) | (obtain ⟨_, _, _, _, _, _, _, _, _, _, rfl, _⟩ := h; rfl) | (obtain ⟨_, _, _, _, _, _, _, _, _, _, _, rfl, _⟩ := h; rfl) | (obtain ⟨_, _, _, _, _, _, _, _, _, _, _, _, rfl, _⟩ := h; rfl) | (obtain ⟨_, _, _, _, _, _, _, _, _, _, _, _, _, rfl, _⟩ := h; rfl) | (obtain ⟨_, _, _, _, _, _, _, _, _, _, _, _, _, _, rfl, _⟩ := h; rfl) | (obtain ⟨_, _, _, _, _, _, _, _, _, _, _, _, _, _, _, rfl, _⟩ := h; rfl) | (obtain ⟨_, _, _, _, _, _, _, _, _, _, _, _, _, _, _, _, rfl, _⟩ := h; rfl) | (obtain ⟨_, _, _, _, _, _, _, _, _, _, _, _, _, _, _, _, _, rfl, _⟩ := h; rfl) | (obtain ⟨_, _, _, _, _, _, _, _, _, _, _, _, _, _, _, _, _, _, rfl, _⟩ := h; rfl) | (obtain ⟨_, _, _, _, _, _, _, _, _, _, _, _, _, _, _, _, _, _, _, rfl, _⟩ := h; rfl) | (obtain ⟨_, _, _, _, _, _, _, _, _, _, _, _, _, _, _, _, _, _, _, _, rfl, _⟩ := h; rfl) | (obtain ⟨_, _, _, _, _, _, _, _, _, _, _, _, _, _, _, _, _, _, _, _, _, rfl, _⟩ := h; rfl) | (obtain ⟨_, _, _, _, _, _, _, _, _, _, _, _, _, _, _, _, _, _, _, _, _, _, rfl, _⟩ := h; rfl) | (obtain ⟨_, _, _, _, _, _, _, _, _, _, _, _, _, _, _, _, _, _, _, _, _, _, _, rfl, _⟩ := h; rfl)
  · obtain ⟨i, rfl, q⟩ := h
    refine ⟨_, (pss_one (ps_ret (pe_and (pe_callB call_isi (by rfl) T.b_isinstance (by decide +kernel) (pa_cons (pv 0) (pa_cons (pe_bltn (v := .ty "int") (by rfl) T.b_int (by decide +kernel) rfl) pa_nil))) (pe_one (pe_not (pe_callB call_isi (by rfl) T.b_isinstance (by decide +kernel) (pa_cons (pv 0) (pa_cons (pe_bltn (v := .ty "bool") (by rfl) T.b_bool (by decide +kernel) rfl) pa_nil)))))))), ?_⟩
    refine ⟨_, rfl, _, _, _, _, true, rfl, .ty _, .base (.int i), kit_ty (by decide +kernel), _, rfl, iteT ?_⟩
    exact ⟨_, rfl, _, _, _, _, false, rfl, .ty _, .base (.int i), kit_ty (by decide +kernel), _, rfl, q⟩
theorem ok_is_short_integer (T : Txt K mg C_Form C_Ring C_Element) : Def P w K mg base 2 "is_short_integer" ["value"] (sp_is_short_integer K C_Form C_Ring C_Element) := by
  obtain ⟨f_, fd_, g_, F_⟩ := T.d_is_short_integer
  obtain ⟨f_is_any_integer, fd_is_any_integer, g_is_any_integer, k_is_any_integer, b_is_any_integer, G_is_any_integer⟩ := (ok_is_any_integer (P := P) (w := w) (base := base) T)
  refine ⟨f_, fd_, g_, F_.kp, F_.binds (ps := ["value"]) (fun _ _ _ _ _ _ us hl => match us, hl with | [_], _ => rfl), ?_⟩
  refine F_.ok sc_is_short_integer (fun vs H Q E h => ?_) (fun cdv A outer s H vs Q E hr h => ?_)
  · first | (obtain ⟨rfl, _⟩ := h; rfl) | (obtain ⟨_, rfl, _⟩ := h; rfl) | (obtain ⟨_, _, rfl, _⟩ := h; rfl) | (obtain ⟨_, _, _, rfl, _⟩ := h; rfl) | (obtain ⟨_, _, _, _, rfl, _⟩ := h; rfl) | (obtain ⟨_, _, _, _, _, rfl, _⟩ := h; rfl) | (obtain ⟨_, _, _, _, _, _, rfl, _⟩ := h; rfl) | (obtain ⟨_, _, _, _, _, _, _, rfl, _⟩ := h; rfl) | (obtain ⟨_, _, _, _, _, _, _, _, rfl, _⟩ := h; rfl) | (obtain ⟨_, _, _, _, _, _, _, _, _, rfl, _⟩ := h; rfl) | (obtain ⟨_, _, _, _, _, _, _, _, _, _, rfl, _⟩ := h; rfl) | (obtain ⟨_, _, _, _, _, _, _, _, _, _, _, rfl, _⟩ := h; rfl) | (obtain ⟨_, _, _, _, _, _, _, _, _, _, _, _, rfl, _⟩ := h; rfl) | (obtain ⟨_, _, _, _, _, _, _, _, _, _, _, _, _, rfl, _⟩ := h; rfl) | (obtain ⟨_, _, _, _, _, _, _, _, _, _, _, _, _, _, rfl, _⟩ := h; rfl) | (obtain ⟨_, _, _, _, _, _, _, _, _, _, _, _, _, _, _, rfl, _⟩ := h; rfl) | (obtain ⟨_, _, _, _, _, _, _, _, _, _, _, _, _, _, _, _, rfl, _⟩ := h; rfl) | (obtain ⟨_, _, _, _, _, _, _, _, _, _, _, _, _, _, _, _, _, rfl, _⟩ := h; rfl) | (obtain ⟨_, _, _, _, _, _, _, _, _, _, _, _, _, _, _, _, _, _, rfl, _⟩ := h; rfl) | (obtain ⟨_, _, _, _, _, _, _, _, _, _, _, _, _, _, _, _, _, _, _, rfl, _⟩ := h; rfl) | (obtain ⟨_, _, _, _, _, _, _, _, _, _, _, _, _, _, _, _, _, _, _, _, rfl, _⟩ := h; rfl) | (obtain ⟨_, _, _, _, _, _, _, _, _, _, _, _, _, _, _, _, _, _, _, _, _, rfl, _⟩ := h; rfl) | (obtain ⟨_, _, _, _, _, _, _, _, _, _, _, _, _, _, _, _, _, _, _, _, _, _, rfl, _⟩ := h; rfl) | (obtain ⟨_, _, _, _, _, _, _, _, _, _, _, _, _, _, _, _, _, _, _, _, _, _, _, rfl, _⟩ := h; rfl)
  · obtain ⟨i, rfl, hs, q⟩ := h
    obtain ⟨t_LIMIT, h_LIMIT⟩ := T.x_LIMIT
    refine ⟨_, (pss_one (ps_ret (pe_and (pe_call G_is_any_integer (hr.mono (by decide)) (by rfl) g_is_any_integer k_is_any_integer b_is_any_integer .nil pass0 (pa_cons (pv 0) pa_nil)) (pe_one (pe_chain op_lt op_lt (pe_un un_neg (pe_glob (v := .int 1000000000000000000000000000000000000000000000000000000000000) (by rfl) h_LIMIT ⟨_, rfl⟩)) (pv 0) (pe_glob (v := .int 1000000000000000000000000000000000000000000000000000000000000) (by rfl) h_LIMIT ⟨_, rfl⟩)))))), ?_⟩
    refine ⟨_, rfl, i, rfl, _, rfl, iteT ?_⟩
    refine ⟨_, rfl, _, rfl, _, _, rfl, rfl, _, rfl, dT hs.1 ⟨_, _, rfl, rfl, ?_⟩⟩
    show Q (.bl (decide (i < 1000000000000000000000000000000000000000000000000000000000000))) H
    rw [decide_eq_true hs.2]
    exact q
theorem ok_check_integer (T : Txt K mg C_Form C_Ring C_Element) : Def P w K mg base 3 "check_integer" ["value"] (sp_check_integer K C_Form C_Ring C_Element) := by
  obtain ⟨f_, fd_, g_, F_⟩ := T.d_check_integer
  obtain ⟨f_is_short_integer, fd_is_short_integer, g_is_short_integer, k_is_short_integer, b_is_short_integer, G_is_short_integer⟩ := (ok_is_short_integer (P := P) (w := w) (base := base) T)
  refine ⟨f_, fd_, g_, F_.kp, F_.binds (ps := ["value"]) (fun _ _ _ _ _ _ us hl => match us, hl with | [_], _ => rfl), ?_⟩
  refine F_.ok sc_check_integer (fun vs H Q E h => ?_) (fun cdv A outer s H vs Q E hr h => ?_)
  · first | (obtain ⟨rfl, _⟩ := h; rfl) | (obtain ⟨_, rfl, _⟩ := h; rfl) | (obtain ⟨_, _, rfl, _⟩ := h; rfl) | (obtain ⟨_, _, _, rfl, _⟩ := h; rfl) | (obtain ⟨_, _, _, _, rfl, _⟩ := h; rfl) | (obtain ⟨_, _, _, _, _, rfl, _⟩ := h; rfl) | (obtain ⟨_, _, _, _, _, _, rfl, _⟩ := h; rfl) | (obtain ⟨_, _, _, _, _, _, _, rfl, _⟩ := h; rfl) | (obtain ⟨_, _, _, _, _, _, _, _, rfl, _⟩ := h; rfl) | (obtain ⟨_, _, _, _, _, _, _, _, _, rfl, _⟩ := h; rfl) | (obtain ⟨_, _, _, _, _, _, _, _, _, _, rfl, _⟩ := h; rfl) | (obtain ⟨_, _, _, _, _, _, _, _, _, _, _, rfl, _⟩ := h; rfl) | (obtain ⟨_, _, _, _, _, _, _, _, _, _, _, _, rfl, _⟩ := h; rfl) | (obtain ⟨_, _, _, _, _, _, _, _, _, _, _, _, _, rfl, _⟩ := h; rfl) | (obtain ⟨_, _, _, _, _, _, _, _, _, _, _, _, _, _, rfl, _⟩ := h; rfl) | (obtain ⟨_, _, _, _, _, _, _, _, _, _, _, _, _, _, _, rfl, _⟩ := h; rfl) | (obtain ⟨_, _, _, _, _, _, _, _, _, _, _, _, _, _, _, _, rfl, _⟩ := h; rfl) | (obtain ⟨_, _, _, _, _, _, _, _, _, _, _, _, _, _, _, _, _, rfl, _⟩ := h; rfl) | (obtain ⟨_, _, _, _, _, _, _, _, _, _, _, _, _, _, _, _, _, _, rfl, _⟩ := h; rfl) | (obtain ⟨_, _, _, _, _, _, _, _, _, _, _, _, _, _, _, _, _, _, _, rfl, _⟩ := h; rfl) | (obtain ⟨_, _, _, _, _, _, _, _, _, _, _, _, _, _, _, _, _, _, _, _, rfl, _⟩ := h; rfl) | (obtain ⟨_, _, _, _, _, _, _, _, _, _, _, _, _, _, _, _, _, _, _, _, _, rfl, _⟩ := h; rfl) | (obtain ⟨_, _, _, _, _, _, _, _, _, _, _, _, _, _, _, _, _, _, _, _, _, _, rfl, _⟩ := h; rfl) | (obtain ⟨_, _, _, _, _, _, _, _, _, _, _, _, _, _, _, _, _, _, _, _, _, _, _, rfl, _⟩ := h; rfl)
  · obtain ⟨i, rfl, hs, q⟩ := h
    refine ⟨_, (pss_one (ps_if (pt_not (pt_val (pe_call G_is_short_integer (hr.mono (by decide)) (by rfl) g_is_short_integer k_is_short_integer b_is_short_integer .nil pass0 (pa_cons (pv 0) pa_nil))))
      pss_never
      pss_nil)), ?_⟩
    refine ⟨_, rfl, i, rfl, hs, _, rfl, ?_⟩
    exact iteF q
theorem ok_are_short_integers (T : Txt K mg C_Form C_Ring C_Element) : Def P w K mg base 3 "are_short_integers" ["value", "many"] (sp_are_short_integers K C_Form C_Ring C_Element) := by
  obtain ⟨f_, fd_, g_, F_⟩ := T.d_are_short_integers
  refine ⟨f_, fd_, g_, F_.kp, F_.binds (ps := ["value", "many"]) (fun _ _ _ _ _ _ us hl => match us, hl with | [_, _], _ => rfl), ?_⟩
  refine F_.ok sc_are_short_integers (fun vs H Q E h => ?_) (fun cdv A outer s H vs Q E hr h => ?_)
  · first | (obtain ⟨rfl, _⟩ := h; rfl) | (obtain ⟨_, rfl, _⟩ := h; rfl) | (obtain ⟨_, _, rfl, _⟩ := h; rfl) | (obtain ⟨_, _, _, rfl, _⟩ := h; rfl) | (obtain ⟨_, _, _, _, rfl, _⟩ := h; rfl) | (obtain ⟨_, _, _, _, _, rfl, _⟩ := h; rfl) | (obtain ⟨_, _, _, _, _, _, rfl, _⟩ := h; rfl) | (obtain ⟨_, _, _, _, _, _, _, rfl, _⟩ := h; rfl) | (obtain ⟨_, _, _, _, _, _, _, _, rfl, _⟩ := h; rfl) | (obtain ⟨_, _, _, _, _, _, _, _, _, rfl, _⟩ := h; rfl) | (obtain ⟨_, _, _, _, _, _, _, _, _, _, rfl, _⟩ := h; rfl) | (obtain ⟨_, _, _, _, _, _, _, _, _, _, _, rfl, _⟩ := h; rfl) | (obtain ⟨_, _, _, _, _, _, _, _, _, _, _, _, rfl, _⟩ := h; rfl) | (obtain ⟨_, _, _, _, _, _, _, _, _, _, _, _, _, rfl, _⟩ := h; rfl) | (obtain ⟨_, _, _, _, _, _, _, _, _, _, _, _, _, _, rfl, _⟩ := h; rfl) | (obtain ⟨_, _, _, _, _, _, _, _, _, _, _, _, _, _, _, rfl, _⟩ := h; rfl) | (obtain ⟨_, _, _, _, _, _, _, _, _, _, _, _, _, _, _, _, rfl, _⟩ := h; rfl) | (obtain ⟨_, _, _, _, _, _, _, _, _, _, _, _, _, _, _, _, _, rfl, _⟩ := h; rfl) | (obtain ⟨_, _, _, _, _, _, _, _, _, _, _, _, _, _, _, _, _, _, rfl, _⟩ := h; rfl) | (obtain ⟨_, _, _, _, _, _, _, _, _, _, _, _, _, _, _, _, _, _, _, rfl, _⟩ := h; rfl) | (obtain ⟨_, _, _, _, _, _, _, _, _, _, _, _, _, _, _, _, _, _, _, _, rfl, _⟩ := h; rfl) | (obtain ⟨_, _, _, _, _, _, _, _, _, _, _, _, _, _, _, _, _, _, _, _, _, rfl, _⟩ := h; rfl) | (obtain ⟨_, _, _, _, _, _, _, _, _, _, _, _, _, _, _, _, _, _, _, _, _, _, rfl, _⟩ := h; rfl) | (obtain ⟨_, _, _, _, _, _, _, _, _, _, _, _, _, _, _, _, _, _, _, _, _, _, _, rfl, _⟩ := h; rfl)
  · obtain ⟨a, ns, rfl, ha, hl, hs, q⟩ := h
    obtain ⟨t_LIMIT, h_LIMIT⟩ := T.x_LIMIT
    refine ⟨_, (pss_cons (ps_if (PW.pt (pw_or (pt_not (pt_val (pe_callB call_isi (by rfl) T.b_isinstance (by decide +kernel) (pa_cons (pv 0) (pa_cons (pe_bltn (v := .ty "tuple") (by rfl) T.b_tuple (by decide +kernel) rfl) pa_nil))))) (pw_or1 (pt_cmpR op_ne (pe_callB call_len_seq (by rfl) T.b_len PySem.boot_len (pa_cons (pv 0) pa_nil)) (pv 1) (nomark _)))))
      (pss_one (ps_ret pe_bl))
      pss_nil)
    (pss_one (ps_ret (pe_callB (cr_all rfl) (by rfl) T.b_all (by decide +kernel) (pa_cons (pe_lc (own := [("n", 2)]) (g := (gName 2)) rfl sc_are_short_integers.nd (pi_tup (pv 0)) (blkOk_by (N := N_are_short_integers) (sc := defScope s_are_short_integers) (by decide +kernel)) (fun _ _ _ _ _ => (pg_name (i := 2) sc_are_short_integers.nd rfl (.inl rfl))) (fun _ _ _ _ _ => pts_nil) (fun _ _ _ _ _ => (pe_and (pe_callB (call_isiKK (K := K) rfl) (by rfl) T.b_isinstance (by decide +kernel) (pa_cons (pv 2) (pa_cons (pe_bltn (v := .ty "int") (by rfl) T.b_int (by decide +kernel) rfl) pa_nil))) (pe_and (pe_not (pe_callB (call_isiKK (K := K) rfl) (by rfl) T.b_isinstance (by decide +kernel) (pa_cons (pv 2) (pa_cons (pe_bltn (v := .ty "bool") (by rfl) T.b_bool (by decide +kernel) rfl) pa_nil)))) (pe_one (pe_chain op_lt op_lt (pe_un un_neg (pe_glob (v := .int 1000000000000000000000000000000000000000000000000000000000000) (by rfl) h_LIMIT ⟨_, rfl⟩)) (pv 2) (pe_glob (v := .int 1000000000000000000000000000000000000000000000000000000000000) (by rfl) h_LIMIT ⟨_, rfl⟩))))))) pa_nil))))), ?_⟩
    refine ⟨_, rfl, _, _, _, _, true, rfl, .ty _, .base (.tup ha), kit_ty (by decide +kernel), _, rfl, ?_⟩
    refine iteF ⟨_, rfl, a, _, rfl, .inr (SqT.of ha), _, rfl, rfl, _, rfl, ?_⟩
    refine ndF (by rw [List.length_map]) ?_
    refine ⟨_, rfl, a, rfl, ⟨_, SqT.of ha⟩, ?_⟩
    refine lcT fm0 trivial (SqT.of ha) (fun z => z) (fun i acc _ => acc = (List.replicate i true).map V.bl) (fun _ _ => rfl) (fun D i x acc H' hD hx e hA hlen hp => ?_) (fun D H' acc hD e hA hp => ?_)
    · obtain ⟨n, hn, rfl⟩ := get_int hx
      have hi := (List.getElem?_eq_some_iff.mp hn).1
      refine ⟨rfl, ?_⟩
      have hn2 := hs n (List.mem_of_getElem? hn)
      refine ⟨_, rfl, _, _, _, _, true, rfl, .ty _, .base (.int n), kit_ty (by decide +kernel), _, rfl, iteT ?_⟩
      refine ⟨_, rfl, _, _, _, _, false, rfl, .ty _, .base (.int n), kit_ty (by decide +kernel), _, rfl, _, rfl, iteT ?_⟩
      refine ⟨_, rfl, _, rfl, _, _, rfl, rfl, _, rfl, dT hn2.1 ⟨_, _, rfl, rfl, ?_⟩⟩
      simp only [decide_eq_true hn2.2]
      refine cs_yes fm0 trivial hD e hA hlen (by omega) (Fx.refl trivial) ?_
      show acc ++ [V.bl true] = _
      rw [hp, List.replicate_succ', List.map_append]
      rfl
    · rw [List.length_map] at hp
      subst hp
      refine ⟨D, _, rfl, SqL.of hA, ?_⟩
      rw [show ((List.replicate ns.length true).all id) = true by simp]
      exact q H' e
theorem ok_shared_divisor (T : Txt K mg C_Form C_Ring C_Element) : Def P w K mg base 1 "shared_divisor" ["numbers"] (sp_shared_divisor K C_Form C_Ring C_Element) := by
  obtain ⟨f_, fd_, g_, F_⟩ := T.d_shared_divisor
  refine ⟨f_, fd_, g_, F_.kp, F_.binds (ps := ["numbers"]) (fun _ _ _ _ _ _ us hl => match us, hl with | [_], _ => rfl), ?_⟩
  refine F_.ok sc_shared_divisor (fun vs H Q E h => ?_) (fun cdv A outer s H vs Q E hr h => ?_)
  · first | (obtain ⟨rfl, _⟩ := h; rfl) | (obtain ⟨_, rfl, _⟩ := h; rfl) | (obtain ⟨_, _, rfl, _⟩ := h; rfl) | (obtain ⟨_, _, _, rfl, _⟩ := h; rfl) | (obtain ⟨_, _, _, _, rfl, _⟩ := h; rfl) | (obtain ⟨_, _, _, _, _, rfl, _⟩ := h; rfl) | (obtain ⟨_, _, _, _, _, _, rfl, _⟩ := h; rfl) | (obtain ⟨_, _, _, _, _, _, _, rfl, _⟩ := h; rfl) | (obtain ⟨_, _, _, _, _, _, _, _, rfl, _⟩ := h; rfl) | (obtain ⟨_, _, _, _, _, _, _, _, _, rfl, _⟩ := h; rfl) | (obtain ⟨_, _, _, _, _, _, _, _, _, _, rfl, _⟩ := h; rfl) | (obtain ⟨_, _, _, _, _, _, _, _, _, _, _, rfl, _⟩ := h; rfl) | (obtain ⟨_, _, _, _, _, _, _, _, _, _, _, _, rfl, _⟩ := h; rfl) | (obtain ⟨_, _, _, _, _, _, _, _, _, _, _, _, _, rfl, _⟩ := h; rfl) | (obtain ⟨_, _, _, _, _, _, _, _, _, _, _, _, _, _, rfl, _⟩ := h; rfl) | (obtain ⟨_, _, _, _, _, _, _, _, _, _, _, _, _, _, _, rfl, _⟩ := h; rfl) | (obtain ⟨_, _, _, _, _, _, _, _, _, _, _, _, _, _, _, _, rfl, _⟩ := h; rfl) | (obtain ⟨_, _, _, _, _, _, _, _, _, _, _, _, _, _, _, _, _, rfl, _⟩ := h; rfl) | (obtain ⟨_, _, _, _, _, _, _, _, _, _, _, _, _, _, _, _, _, _, rfl, _⟩ := h; rfl) | (obtain ⟨_, _, _, _, _, _, _, _, _, _, _, _, _, _, _, _, _, _, _, rfl, _⟩ := h; rfl) | (obtain ⟨_, _, _, _, _, _, _, _, _, _, _, _, _, _, _, _, _, _, _, _, rfl, _⟩ := h; rfl) | (obtain ⟨_, _, _, _, _, _, _, _, _, _, _, _, _, _, _, _, _, _, _, _, _, rfl, _⟩ := h; rfl) | (obtain ⟨_, _, _, _, _, _, _, _, _, _, _, _, _, _, _, _, _, _, _, _, _, _, rfl, _⟩ := h; rfl) | (obtain ⟨_, _, _, _, _, _, _, _, _, _, _, _, _, _, _, _, _, _, _, _, _, _, _, rfl, _⟩ := h; rfl)
  · obtain ⟨a, ns, rfl, ha, q⟩ := h
    refine ⟨_, (pss_cons (ps_set (i := 1) sc_shared_divisor.nd rfl (.inl rfl) pe_int)
    (pss_cons (ps_for PassesOwn.never rfl (pi_tup (pv 0)) (pg_name (i := 2) sc_shared_divisor.nd rfl (.inl rfl))
      (pss_one (ps_set (i := 1) sc_shared_divisor.nd rfl (.inl rfl) (pe_callBfun cr_gcd (by rfl) T.m_gcd (pa_cons (pv 1) (pa_cons (pv 2) pa_nil))))))
    (pss_one (ps_ret (pv 1))))), ?_⟩
    refine ⟨_, rfl, a, rfl, ⟨_, ha⟩, for_tup (xs := ns.map V.int) (fun i σ H' => ∃ y2, σ = [some (.ref a), some (.int (gcdL (ns.take i) : Nat)), y2] ∧ H = H') ⟨none, rfl, rfl⟩ (fun i σ H' _ ⟨_, _, e⟩ => e ▸ ha) ?_ ?_⟩
    · rintro i x σ H' hx ⟨y2, rfl, rfl⟩
      obtain ⟨n, hn, rfl⟩ := get_int hx
      refine ⟨_, rfl, _, rfl, _, _, rfl, ?_⟩
      refine ⟨some (.int n), ?_, rfl⟩
      rw [gcdL_take hn]
      rfl
    · rintro σ H' ⟨y2, rfl, rfl⟩
      refine ⟨_, rfl, ?_⟩
      rw [List.length_map, List.take_length]
      exact q
end
end RG
namespace RG
open PySem PySem.Spec PyProof.Rows L2 Fr
theorem putF_same {u v : V} : putF ("_coefficients" : Str) v [(("_coefficients" : Str), u)] = [(("_coefficients" : Str), v)] := by simp [putF]
theorem lk_same {x : Str} {u : V} : List.lookup x [(x, u)] = some u := by simp [List.lookup]
section
variable {P : Program} {w : World} {K : PySem.W.Frag} {mg : Str → Option Value} {base : Heap} {C_Form C_Ring C_Element : Addr}
theorem ok_Form___init__ (T : Txt K mg C_Form C_Ring C_Element) : MDef (fun p f => Mk K C_Form f) P w K mg base 4 ["self", "coefficients"] (sp_Form___init__ K C_Form C_Ring C_Element) := by
  obtain ⟨p_, f_, fd_, R_, F_⟩ := T.e_Form___init__
  obtain ⟨f_are_short_integers, fd_are_short_integers, g_are_short_integers, k_are_short_integers, b_are_short_integers, G_are_short_integers⟩ := (ok_are_short_integers (P := P) (w := w) (base := base) T)
  refine ⟨p_, f_, fd_, R_, F_.binds (ps := ["self", "coefficients"]) (fun _ _ _ _ _ _ us hl => match us, hl with | [_, _], _ => rfl), ?_⟩
  refine F_.ok sc_Form___init__ (fun vs H Q E h => ?_) (fun cdv A outer s H vs Q E hr h => ?_)
  · first | (obtain ⟨rfl, _⟩ := h; rfl) | (obtain ⟨_, rfl, _⟩ := h; rfl) | (obtain ⟨_, _, rfl, _⟩ := h; rfl) | (obtain ⟨_, _, _, rfl, _⟩ := h; rfl) | (obtain ⟨_, _, _, _, rfl, _⟩ := h; rfl) | (obtain ⟨_, _, _, _, _, rfl, _⟩ := h; rfl) | (obtain ⟨_, _, _, _, _, _, rfl, _⟩ := h; rfl) | (obtain ⟨_, _, _, _, _, _, _, rfl, _⟩ := h; rfl) | (obtain ⟨_, _, _, _, _, _, _, _, rfl, _⟩ := h; rfl) | (obtain ⟨_, _, _, _, _, _, _, _, _, rfl, _⟩ := h; rfl) | (obtain ⟨_, _, _, _, _, _, _, _, _, _, rfl, _⟩ := h; rfl) | (obtain ⟨_, _, _, _, _, _, _, _, _, _, _, rfl, _⟩ := h; rfl) | (obtain ⟨_, _, _, _, _, _, _, _, _, _, _, _, rfl, _⟩ := h; rfl) | (obtain ⟨_, _, _, _, _, _, _, _, _, _, _, _, _, rfl, _⟩ := h; rfl) | (obtain ⟨_, _, _, _, _, _, _, _, _, _, _, _, _, _, rfl, _⟩ := h; rfl) | (obtain ⟨_, _, _, _, _, _, _, _, _, _, _, _, _, _, _, rfl, _⟩ := h; rfl) | (obtain ⟨_, _, _, _, _, _, _, _, _, _, _, _, _, _, _, _, rfl, _⟩ := h; rfl) | (obtain ⟨_, _, _, _, _, _, _, _, _, _, _, _, _, _, _, _, _, rfl, _⟩ := h; rfl) | (obtain ⟨_, _, _, _, _, _, _, _, _, _, _, _, _, _, _, _, _, _, rfl, _⟩ := h; rfl) | (obtain ⟨_, _, _, _, _, _, _, _, _, _, _, _, _, _, _, _, _, _, _, rfl, _⟩ := h; rfl) | (obtain ⟨_, _, _, _, _, _, _, _, _, _, _, _, _, _, _, _, _, _, _, _, rfl, _⟩ := h; rfl) | (obtain ⟨_, _, _, _, _, _, _, _, _, _, _, _, _, _, _, _, _, _, _, _, _, rfl, _⟩ := h; rfl) | (obtain ⟨_, _, _, _, _, _, _, _, _, _, _, _, _, _, _, _, _, _, _, _, _, _, rfl, _⟩ := h; rfl) | (obtain ⟨_, _, _, _, _, _, _, _, _, _, _, _, _, _, _, _, _, _, _, _, _, _, _, rfl, _⟩ := h; rfl)
  · obtain ⟨x, dx, t, ns, rfl, hx, ht, hl, hs, q⟩ := h
    refine ⟨_, (pss_cons (ps_if (pt_not (pt_val (pe_call G_are_short_integers (hr.mono (by decide)) (by rfl) g_are_short_integers k_are_short_integers b_are_short_integers .nil pass0 (pa_cons (pv 1) (pa_cons pe_int pa_nil)))))
      pss_never
      pss_nil)
    (pss_one (ps_fld (pv 0) (pe_callTy call_tuple_of (by rfl) T.b_tuple (by decide +kernel) (pa_cons (pv 1) pa_nil)) (by rfl)))), ?_⟩
    refine ⟨_, rfl, t, ns, by rw [hl]; rfl, ht, by omega, hs, fun H1 e1 => ⟨_, rfl, ?_⟩⟩
    refine iteF ⟨_, rfl, t, _, rfl, .inr ⟨SqT.of (Ex0.ti e1 ht), ?_⟩⟩
    refine ⟨_, rfl, x, C_Form, dx, _, rfl, e1.ap hx, T.cl_Form, T.na_Form_coefficients, (by decide : (0:Nat) < 1000), ?_⟩
    exact q _ (fun b o n e => by rw [upd_ne n]; exact e1.ap e) upd_same
theorem ok_Form_coefficients (T : Txt K mg C_Form C_Ring C_Element) : MDef (fun p f => PropOf K C_Form "coefficients" p f) P w K mg base 1 ["self"] (sp_Form_coefficients K C_Form C_Ring C_Element) := by
  obtain ⟨p_, f_, fd_, R_, F_⟩ := T.e_Form_coefficients
  refine ⟨p_, f_, fd_, R_, F_.binds (ps := ["self"]) (fun _ _ _ _ _ _ us hl => match us, hl with | [_], _ => rfl), ?_⟩
  refine F_.ok sc_Form_coefficients (fun vs H Q E h => ?_) (fun cdv A outer s H vs Q E hr h => ?_)
  · first | (obtain ⟨rfl, _⟩ := h; rfl) | (obtain ⟨_, rfl, _⟩ := h; rfl) | (obtain ⟨_, _, rfl, _⟩ := h; rfl) | (obtain ⟨_, _, _, rfl, _⟩ := h; rfl) | (obtain ⟨_, _, _, _, rfl, _⟩ := h; rfl) | (obtain ⟨_, _, _, _, _, rfl, _⟩ := h; rfl) | (obtain ⟨_, _, _, _, _, _, rfl, _⟩ := h; rfl) | (obtain ⟨_, _, _, _, _, _, _, rfl, _⟩ := h; rfl) | (obtain ⟨_, _, _, _, _, _, _, _, rfl, _⟩ := h; rfl) | (obtain ⟨_, _, _, _, _, _, _, _, _, rfl, _⟩ := h; rfl) | (obtain ⟨_, _, _, _, _, _, _, _, _, _, rfl, _⟩ := h; rfl) | (obtain ⟨_, _, _, _, _, _, _, _, _, _, _, rfl, _⟩ := h; rfl) | (obtain ⟨_, _, _, _, _, _, _, _, _, _, _, _, rfl, _⟩ := h; rfl) | (obtain ⟨_, _, _, _, _, _, _, _, _, _, _, _, _, rfl, _⟩ := h; rfl) | (obtain ⟨_, _, _, _, _, _, _, _, _, _, _, _, _, _, rfl, _⟩ := h; rfl) | (obtain ⟨_, _, _, _, _, _, _, _, _, _, _, _, _, _, _, rfl, _⟩ := h; rfl) | (obtain ⟨_, _, _, _, _, _, _, _, _, _, _, _, _, _, _, _, rfl, _⟩ := h; rfl) | (obtain ⟨_, _, _, _, _, _, _, _, _, _, _, _, _, _, _, _, _, rfl, _⟩ := h; rfl) | (obtain ⟨_, _, _, _, _, _, _, _, _, _, _, _, _, _, _, _, _, _, rfl, _⟩ := h; rfl) | (obtain ⟨_, _, _, _, _, _, _, _, _, _, _, _, _, _, _, _, _, _, _, rfl, _⟩ := h; rfl) | (obtain ⟨_, _, _, _, _, _, _, _, _, _, _, _, _, _, _, _, _, _, _, _, rfl, _⟩ := h; rfl) | (obtain ⟨_, _, _, _, _, _, _, _, _, _, _, _, _, _, _, _, _, _, _, _, _, rfl, _⟩ := h; rfl) | (obtain ⟨_, _, _, _, _, _, _, _, _, _, _, _, _, _, _, _, _, _, _, _, _, _, rfl, _⟩ := h; rfl) | (obtain ⟨_, _, _, _, _, _, _, _, _, _, _, _, _, _, _, _, _, _, _, _, _, _, _, rfl, _⟩ := h; rfl)
  · obtain ⟨x, ns, rfl, ⟨dx, t, hx, ht⟩, q⟩ := h
    refine ⟨_, (pss_one (ps_ret (pe_fld (pv 0) (by rfl)))), ?_⟩
    exact ⟨_, rfl, x, C_Form, dx, _, .ref t, rfl, hx, T.cl_Form, T.na_Form_coefficients, lk_same, q t ht⟩
theorem ok_Form___eq__ (T : Txt K mg C_Form C_Ring C_Element) : MDef (fun p f => EqC K C_Form f) P w K mg base 1 ["self", "other"] (sp_Form___eq__ K C_Form C_Ring C_Element) := by
  obtain ⟨p_, f_, fd_, R_, F_⟩ := T.e_Form___eq__
  refine ⟨p_, f_, fd_, R_, F_.binds (ps := ["self", "other"]) (fun _ _ _ _ _ _ us hl => match us, hl with | [_, _], _ => rfl), ?_⟩
  refine F_.ok sc_Form___eq__ (fun vs H Q E h => ?_) (fun cdv A outer s H vs Q E hr h => ?_)
  · first | (obtain ⟨rfl, _⟩ := h; rfl) | (obtain ⟨_, rfl, _⟩ := h; rfl) | (obtain ⟨_, _, rfl, _⟩ := h; rfl) | (obtain ⟨_, _, _, rfl, _⟩ := h; rfl) | (obtain ⟨_, _, _, _, rfl, _⟩ := h; rfl) | (obtain ⟨_, _, _, _, _, rfl, _⟩ := h; rfl) | (obtain ⟨_, _, _, _, _, _, rfl, _⟩ := h; rfl) | (obtain ⟨_, _, _, _, _, _, _, rfl, _⟩ := h; rfl) | (obtain ⟨_, _, _, _, _, _, _, _, rfl, _⟩ := h; rfl) | (obtain ⟨_, _, _, _, _, _, _, _, _, rfl, _⟩ := h; rfl) | (obtain ⟨_, _, _, _, _, _, _, _, _, _, rfl, _⟩ := h; rfl) | (obtain ⟨_, _, _, _, _, _, _, _, _, _, _, rfl, _⟩ := h; rfl) | (obtain ⟨_, _, _, _, _, _, _, _, _, _, _, _, rfl, _⟩ := h; rfl) | (obtain ⟨_, _, _, _, _, _, _, _, _, _, _, _, _, rfl, _⟩ := h; rfl) | (obtain ⟨_, _, _, _, _, _, _, _, _, _, _, _, _, _, rfl, _⟩ := h; rfl) | (obtain ⟨_, _, _, _, _, _, _, _, _, _, _, _, _, _, _, rfl, _⟩ := h; rfl) | (obtain ⟨_, _, _, _, _, _, _, _, _, _, _, _, _, _, _, _, rfl, _⟩ := h; rfl) | (obtain ⟨_, _, _, _, _, _, _, _, _, _, _, _, _, _, _, _, _, rfl, _⟩ := h; rfl) | (obtain ⟨_, _, _, _, _, _, _, _, _, _, _, _, _, _, _, _, _, _, rfl, _⟩ := h; rfl) | (obtain ⟨_, _, _, _, _, _, _, _, _, _, _, _, _, _, _, _, _, _, _, rfl, _⟩ := h; rfl) | (obtain ⟨_, _, _, _, _, _, _, _, _, _, _, _, _, _, _, _, _, _, _, _, rfl, _⟩ := h; rfl) | (obtain ⟨_, _, _, _, _, _, _, _, _, _, _, _, _, _, _, _, _, _, _, _, _, rfl, _⟩ := h; rfl) | (obtain ⟨_, _, _, _, _, _, _, _, _, _, _, _, _, _, _, _, _, _, _, _, _, _, rfl, _⟩ := h; rfl) | (obtain ⟨_, _, _, _, _, _, _, _, _, _, _, _, _, _, _, _, _, _, _, _, _, _, _, rfl, _⟩ := h; rfl)
  · obtain ⟨x, y, ns, ms, rfl, ⟨dx, t, hx, ht⟩, ⟨dy, u, hy, hu⟩, q⟩ := h
    refine ⟨_, (pss_one (ps_ret (pe_and (pe_callB call_isi (by rfl) T.b_isinstance (by decide +kernel) (pa_cons (pv 1) (pa_cons (pe_glob (v := .ref C_Form) (by rfl) T.g_Form rfl) pa_nil))) (pe_one (pe_cmpR (op_eqD hr.units) (pe_fld (pv 0) (by rfl)) (pe_fld (pv 1) (by rfl)) (nomark _)))))), ?_⟩
    refine ⟨_, rfl, _, _, _, _, true, rfl, .own _, ty_ins T.ty_Form T.cl_Form hy, kit_self, _, rfl, ?_⟩
    refine ⟨_, rfl, x, C_Form, dx, _, .ref t, rfl, hx, T.cl_Form, T.na_Form_coefficients, lk_same, _, rfl, y, C_Form, dy, _, .ref u, rfl, hy, T.cl_Form, T.na_Form_coefficients, lk_same, ?_⟩
    refine ⟨.tuple (ns.map .int), .tuple (ms.map .int), .tup (SqT.of ht) (dp_ints _), .tup (SqT.of hu) (dp_ints _), shaped_tints _, shaped_tints _, ?_⟩
    rw [PyData.eqv, eqv_ints]
    exact q
end
end RG
namespace RG
open PySem PySem.Spec PyProof.Rows L2 Fr
def Low (u y z b u' y' z' b' : Int) : Prop := ∃ g : Int, u = g * u' ∧ y = g * y' ∧ z = g * z' ∧ b = g * b' ∧ 0 < b' ∧ Nat.gcd (gcdL [u', y', z']) b'.natAbs = 1
def B4 (n : Nat) (a b c d : Int) : Prop := B n a ∧ B n b ∧ B n c ∧ B n d
def B3 (n : Nat) (a b c : Int) : Prop := B n a ∧ B n b ∧ B n c
section
def sp_fraction (_ : PySem.W.Frag) (C C_R C_E : Addr) : Sp := fun vs H Q _ => ∃ a b : Int, vs = [.int a, .int b] ∧ 0 < b ∧ b < 2 ^ 3000 ∧ ∀ x H' p q g, 0 < g → a = g * p → b = g * q → Nat.gcd p.natAbs q.natAbs = 1 → Ex0 H H' → Ti H' x [p, q] → Q (.ref x) H'
def sp_check_form (_ : PySem.W.Frag) (C C_R C_E : Addr) : Sp := fun vs H Q _ => ∃ (x : Addr) (ns : List Int), vs = [.ref x] ∧ FormAt C H x ns ∧ Q .non H
def sp_check_bottom (_ : PySem.W.Frag) (C C_R C_E : Addr) : Sp := fun vs H Q _ => ∃ i : Int, vs = [.int i] ∧ Short i ∧ i ≠ 0 ∧ Q .non H
def sp_table_of (_ : PySem.W.Frag) (C C_R C_E : Addr) : Sp := fun vs H Q _ => ∃ (t : Addr) (a b c d : Int), vs = [.ref t] ∧ Ti H t [a, b, c, d] ∧ B4 1000 a b c d ∧ ∀ x H', Ex0 H H' → T33 H' x (w1 a b c d) (w2 a b c d) (w3 a b c d) → Q (.ref x) H'
def sp_product_by (K : PySem.W.Frag) (C C_R C_E : Addr) : Sp := fun vs H Q _ => ∃ (t l r : Addr) (a b c d e f g h i u x y v z s : Int), vs = [.ref t, .ref l, .ref r] ∧ T33 H t [a, b, c] [d, e, f] [g, h, i] ∧ Tq K H l [u, x, y] ∧ Tq K H r [v, z, s] ∧ B3 2100 a b c ∧ B3 2100 d e f ∧ B3 2100 g h i ∧ B3 9000 u x y ∧ B3 1000 v z s ∧ ∀ o H', Ex0 H H' → Ti H' o [m0 a d g u x y v z s, m1 b e h u x y v z s, m2 c f i u x y v z s] → Q (.ref o) H'
def sp_map_by (K : PySem.W.Frag) (C C_R C_E : Addr) : Sp := fun vs H Q _ => ∃ (t l : Addr) (a b c d e f g h i u x y : Int), vs = [.ref t, .ref l] ∧ T33 H t [a, b, c] [d, e, f] [g, h, i] ∧ Tq K H l [u, x, y] ∧ B3 2100 a b c ∧ B3 2100 d e f ∧ B3 2100 g h i ∧ B3 9000 u x y ∧ ∀ o H', Ex0 H H' → M33 K H' o [m0 a d g u x y 1 0 0, m1 b e h u x y 1 0 0, m2 c f i u x y 1 0 0] [m0 a d g u x y 0 1 0, m1 b e h u x y 0 1 0, m2 c f i u x y 0 1 0] [m0 a d g u x y 0 0 1, m1 b e h u x y 0 0 1, m2 c f i u x y 0 0 1] → Q (.ref o) H'
def sp_trace_by (K : PySem.W.Frag) (C C_R C_E : Addr) : Sp := fun vs H Q _ => ∃ (t l : Addr) (a b c d e f g h i u x y : Int), vs = [.ref t, .ref l] ∧ T33 H t [a, b, c] [d, e, f] [g, h, i] ∧ Tq K H l [u, x, y] ∧ B3 2100 a b c ∧ B3 2100 d e f ∧ B3 2100 g h i ∧ B3 9000 u x y ∧ ∀ H', Ex0 H H' → Q (.int (m0 a d g u x y 1 0 0 + m1 b e h u x y 0 1 0 + m2 c f i u x y 0 0 1)) H'
def sp_table_for (_ : PySem.W.Frag) (C C_R C_E : Addr) : Sp := fun vs H Q _ => ∃ (r : Addr) (a b c d : Int), vs = [.ref r] ∧ RingAt C C_R H r [a, b, c, d] ∧ B4 1000 a b c d ∧ ∀ x H', Ex0 H H' → T33 H' x (w1 a b c d) (w2 a b c d) (w3 a b c d) → Q (.ref x) H'
def sp_Ring___init__ (_ : PySem.W.Frag) (C C_R C_E : Addr) : Sp := fun vs H Q _ => ∃ (x dx f : Addr) (ns : List Int), vs = [.ref x, .ref f] ∧ H x = some (.ins C_R dx []) ∧ FormAt C H f ns ∧ ∀ H', (∀ b o, b ≠ x → H b = some o → H' b = some o) → H' x = some (.ins C_R dx [(("_form" : Str), .ref f)]) → Q .non H'
def sp_Ring_form (_ : PySem.W.Frag) (C C_R C_E : Addr) : Sp := fun vs H Q _ => ∃ (r : Addr) (ns : List Int), vs = [.ref r] ∧ RingAt C C_R H r ns ∧ ∀ f, FormAt C H f ns → Q (.ref f) H
def sp_Ring___eq__ (K : PySem.W.Frag) (C C_R C_E : Addr) : Sp := fun vs H Q _ => ∃ (x : Addr) (w : V) (ns : List Int), vs = [.ref x, w] ∧ RingAt C C_R H x ns ∧ ((∃ (y : Addr) (ms : List Int), w = .ref y ∧ RingAt C C_R H y ms ∧ Q (.bl (decide (ns = ms))) H) ∨ (∃ t, PySem.W.kitOne K t (.ref C_R) = some false ∧ TyX K H w t ∧ Q (.bl false) H))
def sp_Ring_element (K : PySem.W.Frag) (C C_R C_E : Addr) : Sp := fun vs H Q _ => ∃ (r t : Addr) (ns : List Int) (u y z b : Int), vs = [.ref r, .ref t, .int b] ∧ RingAt C C_R H r ns ∧ Ti H t [u, y, z] ∧ Short u ∧ Short y ∧ Short z ∧ Short b ∧ b ≠ 0 ∧ ∀ x H' u' y' z' b', Low u y z b u' y' z' b' → Ex0 H H' → ElAt C C_R C_E H' x ns u' y' z' b' → Q (.ref x) H'
def sp_check_one_ring (_ : PySem.W.Frag) (C C_R C_E : Addr) : Sp := fun vs H Q _ => ∃ (x x' : Addr) (ns : List Int) (u y z b v s r e : Int), vs = [.ref x, .ref x'] ∧ ElAt C C_R C_E H x ns u y z b ∧ ElAt C C_R C_E H x' ns v s r e ∧ Q .non H
def sp_Element___init__ (K : PySem.W.Frag) (C C_R C_E : Addr) : Sp := fun vs H Q _ => ∃ (x dx r t : Addr) (u y z b : Int), vs = [.ref x, .ref r, .ref t, .int b] ∧ H x = some (.ins C_E dx []) ∧ Tq K H t [u, y, z] ∧ b ≠ 0 ∧ B 3000 b ∧ ∀ H' t' u' y' z' b', Low u y z b u' y' z' b' → (∀ c o, c ≠ x → H c = some o → H' c = some o) → t' ≠ x → H' x = some (.ins C_E dx [(("_ring" : Str), .ref r), (("_entries" : Str), .ref t'), (("_bottom" : Str), .int b')]) → Ti H' t' [u', y', z'] → Q .non H'
def sp_Element_ring (_ : PySem.W.Frag) (C C_R C_E : Addr) : Sp := fun vs H Q _ => ∃ (x : Addr) (ns : List Int) (u y z b : Int), vs = [.ref x] ∧ ElAt C C_R C_E H x ns u y z b ∧ ∀ r, RingAt C C_R H r ns → Q (.ref r) H
def sp_Element_trace (_ : PySem.W.Frag) (C C_R C_E : Addr) : Sp := fun vs H Q _ => ∃ (x : Addr) (a b c d u y z e : Int), vs = [.ref x] ∧ ElAt C C_R C_E H x [a, b, c, d] u y z e ∧ B4 1000 a b c d ∧ B3 9000 u y z ∧ 0 < e ∧ e < 2 ^ 3000 ∧ ∀ o H' p q g, 0 < g → tr a b c d u y z = g * p → e = g * q → Nat.gcd p.natAbs q.natAbs = 1 → Ex0 H H' → Ti H' o [p, q] → Q (.ref o) H'
def sp_Element___mul__ (_ : PySem.W.Frag) (C C_R C_E : Addr) : Sp := fun vs H Q _ => ∃ (x x' : Addr) (a b c d u y z e v s r f : Int), vs = [.ref x, .ref x'] ∧ ElAt C C_R C_E H x [a, b, c, d] u y z e ∧ ElAt C C_R C_E H x' [a, b, c, d] v s r f ∧ B4 1000 a b c d ∧ B3 9000 u y z ∧ B3 1000 v s r ∧ B 1000 e ∧ B 1000 f ∧ e * f ≠ 0 ∧ ∀ o H' u' y' z' b', Low (m0 (-a * c) (-a * d) (-b * d) u y z v s r) (m1 b 0 d u y z v s r) (m2 (-a) 0 (-c) u y z v s r) (e * f) u' y' z' b' → Ex0 H H' → ElAt C C_R C_E H' o [a, b, c, d] u' y' z' b' → Q (.ref o) H'
end
theorem un33 {K : PySem.W.Frag} {i1 i2 i3 i4 i5 i6 i7 i8 i9 : Nat} {σ : L2.St} {H : Hp} {t : Addr} {a b c d e f g h i : Int} {Q : L2.St → Hp → Prop} (q : T33 H t [a, b, c] [d, e, f] [g, h, i])
    (z : Q (((((((((σ.set i1 (some (.int a))).set i2 (some (.int b))).set i3 (some (.int c))).set i4 (some (.int d))).set i5 (some (.int e))).set i6 (some (.int f))).set i7 (some (.int g))).set i8 (some (.int h))).set i9 (some (.int i))) H) :
    gTup K 3 (gCons (gTup K 3 (gCons (gName i1) (gCons (gName i2) (gCons (gName i3) gNil)))) (gCons (gTup K 3 (gCons (gName i4) (gCons (gName i5) (gCons (gName i6) gNil)))) (gCons (gTup K 3 (gCons (gName i7) (gCons (gName i8) (gCons (gName i9) gNil)))) gNil))) (.ref t) σ H Q := by
  obtain ⟨t1, t2, t3, h0, h1, h2, h3⟩ := q
  refine ⟨t, _, rfl, SqT.of h0, rfl, _, _, rfl, ?_⟩
  refine ⟨t1, _, rfl, SqT.of h1, rfl, _, _, rfl, _, _, rfl, _, _, rfl, ⟨rfl, ?_⟩⟩
  refine ⟨_, _, rfl, ?_⟩
  refine ⟨t2, _, rfl, SqT.of h2, rfl, _, _, rfl, _, _, rfl, _, _, rfl, ⟨rfl, ?_⟩⟩
  refine ⟨_, _, rfl, ?_⟩
  exact ⟨t3, _, rfl, SqT.of h3, rfl, _, _, rfl, _, _, rfl, _, _, rfl, ⟨rfl, ⟨rfl, z⟩⟩⟩
theorem t33_new {H : Hp} {t1 t2 t3 x : Addr} {r1 r2 r3 : List Int} (n1 : H t1 = none) (n2 : upd H t1 (.tup (r1.map V.int)) t2 = none) (n3 : upd (upd H t1 (.tup (r1.map V.int))) t2 (.tup (r2.map V.int)) t3 = none)
    (n4 : upd (upd (upd H t1 (.tup (r1.map V.int))) t2 (.tup (r2.map V.int))) t3 (.tup (r3.map V.int)) x = none) :
    Ex0 H (upd (upd (upd (upd H t1 (.tup (r1.map V.int))) t2 (.tup (r2.map V.int))) t3 (.tup (r3.map V.int))) x (.tup [.ref t1, .ref t2, .ref t3])) ∧
      T33 (upd (upd (upd (upd H t1 (.tup (r1.map V.int))) t2 (.tup (r2.map V.int))) t3 (.tup (r3.map V.int))) x (.tup [.ref t1, .ref t2, .ref t3])) x r1 r2 r3 :=
  ⟨(((Ex0.new n1).trans (Ex0.new n2)).trans (Ex0.new n3)).trans (Ex0.new n4), t1, t2, t3, upd_same, Ex0.ap (Ex0.new n4) (Ex0.ap (Ex0.new n3) (Ex0.ap (Ex0.new n2) upd_same)), Ex0.ap (Ex0.new n4) (Ex0.ap (Ex0.new n3) upd_same), Ex0.ap (Ex0.new n4) upd_same⟩
inductive Tis (H : Hp) : List V → List (List Int) → Prop where
  | nil : Tis H [] []
  | cons {t : Addr} {r : List Int} {xs : List V} {rs : List (List Int)} (h : Ti H t r) (q : Tis H xs rs) : Tis H (.ref t :: xs) (r :: rs)
theorem Tis.mono {H H' : Hp} {xs : List V} {rs : List (List Int)} (r : Tis H xs rs) (e : ∀ t zs, H t = some (.tup zs) → H' t = some (.tup zs)) : Tis H' xs rs := by
  induction r with
  | nil => exact .nil
  | cons h _ ih => exact .cons (e _ _ h) ih
theorem Tis.snoc {H : Hp} {xs : List V} {rs : List (List Int)} (r : Tis H xs rs) {t : Addr} {r1 : List Int} (h : Ti H t r1) : Tis H (xs ++ [.ref t]) (rs ++ [r1]) := by
  induction r with
  | nil => exact .cons h .nil
  | cons h' _ ih => exact .cons h' ih
theorem Tis.len {H : Hp} {xs : List V} {rs : List (List Int)} (r : Tis H xs rs) : xs.length = rs.length := by
  induction r with
  | nil => rfl
  | cons _ _ ih => rw [List.length_cons, List.length_cons, ih]
theorem Tis.three {H : Hp} {xs : List V} {r1 r2 r3 : List Int} (r : Tis H xs [r1, r2, r3]) : ∃ t1 t2 t3, xs = [.ref t1, .ref t2, .ref t3] ∧ Ti H t1 r1 ∧ Ti H t2 r2 ∧ Ti H t3 r3 := by
  cases r with
  | cons h1 r =>
    cases r with
    | cons h2 r =>
      cases r with
      | cons h3 r =>
        cases r
        exact ⟨_, _, _, rfl, h1, h2, h3⟩
def Uv (i : Nat) (v z s : Int) : Prop := (i = 0 ∧ v = 1 ∧ z = 0 ∧ s = 0) ∨ (i = 1 ∧ v = 0 ∧ z = 1 ∧ s = 0) ∨ (i = 2 ∧ v = 0 ∧ z = 0 ∧ s = 1)
theorem Uv.b {i : Nat} {v z s : Int} (h : Uv i v z s) : i < 3 ∧ B3 1000 v z s := by
  have b0 : B 1000 0 := ⟨by decide, by decide⟩
  have b1 : B 1000 1 := ⟨by decide, by decide⟩
  rcases h with ⟨rfl, rfl, rfl, rfl⟩ | ⟨rfl, rfl, rfl, rfl⟩ | ⟨rfl, rfl, rfl, rfl⟩
  · exact ⟨by decide, b1, b0, b0⟩
  · exact ⟨by decide, b0, b1, b0⟩
  · exact ⟨by decide, b0, b0, b1⟩
theorem unit_at {K : PySem.W.Frag} {H H' : Hp} {a b c : Addr} {i : Nat} {x : V} (h1 : SqT K H a [.int 1, .int 0, .int 0]) (h2 : SqT K H b [.int 0, .int 1, .int 0]) (h3 : SqT K H c [.int 0, .int 0, .int 1]) (e : Ex0 H H')
    (hx : [V.ref a, .ref b, .ref c][i]? = some x) : ∃ t v z s, x = .ref t ∧ Tq K H' t [v, z, s] ∧ Uv i v z s := by
  match i, hx with
  | 0, hx => exact ⟨a, 1, 0, 0, (Option.some.inj hx).symm, Ex0.tq e h1, .inl ⟨rfl, rfl, rfl, rfl⟩⟩
  | 1, hx => exact ⟨b, 0, 1, 0, (Option.some.inj hx).symm, Ex0.tq e h2, .inr (.inl ⟨rfl, rfl, rfl, rfl⟩)⟩
  | 2, hx => exact ⟨c, 0, 0, 1, (Option.some.inj hx).symm, Ex0.tq e h3, .inr (.inr ⟨rfl, rfl, rfl, rfl⟩)⟩
theorem B.pl {n : Nat} {i j : Int} (h1 : B n i) (h2 : B n j) : B (n + 1) (i + j) := ⟨by
  have a := h1.1
  have b := h2.1
  rw [Nat.pow_succ]
  omega, by omega⟩
theorem m_B {n m k : Nat} {A D G u x y v z s : Int} (ha : B k A) (hd : B k D) (hg : B k G) (hu : B3 n u x y) (hv : B3 m v z s) : B (n + m + k + 4) (m0 A D G u x y v z s) ∧ B (n + m + k + 4) (m1 A D G u x y v z s) ∧ B (n + m + k + 4) (m2 A D G u x y v z s) := by
  obtain ⟨h1, h2, h3⟩ := hu
  obtain ⟨k1, k2, k3⟩ := hv
  have k0 := ha.2
  have pl : ∀ {i j l : Nat} {p q : Int}, B i p → B j q → i < l → j < l → B l (p + q) := fun {i j l p q} h g hi hj => (B.pl (n := l - 1) (h.mono (by omega)) (g.mono (by omega))).mono (by omega)
  unfold m0 m1 m2
  have mid := pl (l := n + m + 1) (B.mul h2 k3) (B.mul h3 k2) (by omega) (by omega)
  have lA := B.mul (B.mul h2 k2) ha
  have lD := B.mul mid hd
  have lG := B.mul (B.mul h3 k3) hg
  refine ⟨?_, ?_, ?_⟩
  · exact pl (pl (l := n + m + k + 3) (pl (l := n + m + k + 2) (B.mul h1 k1) lA (by omega) (by omega)) lD (by omega) (by omega)) lG (by omega) (by omega)
  · exact pl (pl (l := n + m + k + 3) (pl (l := n + m + k + 2) (pl (l := n + m + 1) (B.mul h1 k2) (B.mul h2 k1) (by omega) (by omega)) lA (by omega) (by omega)) lD (by omega) (by omega)) lG (by omega) (by omega)
  · exact pl (pl (l := n + m + k + 3) (pl (l := n + m + k + 2) (pl (l := n + m + 1) (B.mul h1 k3) (B.mul h3 k1) (by omega) (by omega)) lA (by omega) (by omega)) lD (by omega) (by omega)) lG (by omega) (by omega)
theorem out_g {g : Nat} {n : Int} (h : (g : Int) ∣ n) : n = (g : Int) * (n / (g : Int)) := (Int.mul_ediv_cancel' h).symm
theorem gcd_out {a b : Int} (h : b ≠ 0) : ∃ p q : Int, 0 < Nat.gcd a.natAbs b.natAbs ∧ a = (Nat.gcd a.natAbs b.natAbs : Int) * p ∧ b = (Nat.gcd a.natAbs b.natAbs : Int) * q ∧ Nat.gcd p.natAbs q.natAbs = 1 := by
  have g0 : 0 < Nat.gcd a.natAbs b.natAbs := Nat.gcd_pos_of_pos_right _ (by omega)
  have d1 : ((Nat.gcd a.natAbs b.natAbs : Nat) : Int) ∣ a := Int.ofNat_dvd_left.mpr (Nat.gcd_dvd_left _ _)
  have d2 : ((Nat.gcd a.natAbs b.natAbs : Nat) : Int) ∣ b := Int.ofNat_dvd_left.mpr (Nat.gcd_dvd_right _ _)
  refine ⟨a / (Nat.gcd a.natAbs b.natAbs : Int), b / (Nat.gcd a.natAbs b.natAbs : Int), g0, out_g d1, out_g d2, ?_⟩
  rw [Int.natAbs_ediv_of_dvd d1, Int.natAbs_ediv_of_dvd d2]
  show Nat.gcd (a.natAbs / Nat.gcd a.natAbs b.natAbs) (b.natAbs / Nat.gcd a.natAbs b.natAbs) = 1
  rw [Nat.gcd_div (Nat.gcd_dvd_left _ _) (Nat.gcd_dvd_right _ _), Nat.div_self g0]
end RG
namespace RG
open PySem PySem.Spec PyProof.Rows L2 Fr
theorem dw3 {i j : Int} (h : 0 < j) (h4 : j < 2 ^ 3000) : CDivW i j := wide_div (b := 3000) h (by omega) (by decide) (by decide)
theorem lkR {a b c : V} : List.lookup ("_ring" : Str) [(("_ring" : Str), a), (("_entries" : Str), b), (("_bottom" : Str), c)] = some a := rfl
theorem lkE {a b c : V} : List.lookup ("_entries" : Str) [(("_ring" : Str), a), (("_entries" : Str), b), (("_bottom" : Str), c)] = some b := rfl
theorem lkB {a b c : V} : List.lookup ("_bottom" : Str) [(("_ring" : Str), a), (("_entries" : Str), b), (("_bottom" : Str), c)] = some c := rfl
theorem made_ex {H H' : Hp} {x dx : Addr} {o1 o2 : HO} (nx : H x = none) (ndx : H dx = none) (e1 : ∀ b o, b ≠ x → (upd (upd H dx o1) x o2) b = some o → H' b = some o) : Ex0 H H' := Ex0.of fun b o e => by
  have n1 : b ≠ x := ne_of_none e nx
  have n2 : b ≠ dx := ne_of_none e ndx
  refine e1 b o n1 ?_
  rw [upd_ne n1, upd_ne n2]
  exact e
theorem made_at {H : Hp} {x dx t : Addr} {o1 o2 : HO} {xs : List V} (nx : H x = none) (ndx : H dx = none) (h : H t = some (.tup xs)) : upd (upd H dx o1) x o2 t = some (.tup xs) := by
  rw [upd_ne (ne_of_none h nx), upd_ne (ne_of_none h ndx)]
  exact h
theorem gcd_dvd {g : Nat} : ∀ (ns : List Int) (x : Nat), g ∣ ns.foldl (fun g n => Nat.gcd g n.natAbs) x ↔ g ∣ x ∧ ∀ n ∈ ns, (g : Int) ∣ n
  | [], x => by simp
  | n :: ns, x => by
    rw [List.foldl_cons, gcd_dvd ns, Nat.dvd_gcd_iff, List.forall_mem_cons, Int.ofNat_dvd_left]
    constructor
    · rintro ⟨⟨h1, h2⟩, h3⟩; exact ⟨h1, h2, h3⟩
    · rintro ⟨h1, h2, h3⟩; exact ⟨⟨h1, h2⟩, h3⟩
theorem gcdL_dvd {g : Nat} {ns : List Int} : g ∣ gcdL ns ↔ ∀ n ∈ ns, (g : Int) ∣ n := by
  unfold gcdL
  rw [gcd_dvd]
  simp
theorem gcd3 {g : Nat} {u y z : Int} : g ∣ gcdL [u, y, z] ↔ (g : Int) ∣ u ∧ (g : Int) ∣ y ∧ (g : Int) ∣ z := by
  rw [gcdL_dvd]
  simp
theorem low_of (u y z b : Int) (h : b ≠ 0) (hb : B 3000 b) : ∃ (g u' y' z' b' : Int), g = (if b < 0 then -((gcdL [(gcdL [u, y, z] : Int), b] : Nat) : Int) else ((gcdL [(gcdL [u, y, z] : Int), b] : Nat) : Int)) ∧ g ≠ 0 ∧ B 3000 g ∧ u = g * u' ∧ y = g * y' ∧ z = g * z' ∧ b = g * b' ∧ 0 < b' ∧ Nat.gcd (gcdL [u', y', z']) b'.natAbs = 1 := by
  have hG : ∀ d : Nat, d ∣ gcdL [(gcdL [u, y, z] : Int), b] ↔ ((d : Int) ∣ u ∧ (d : Int) ∣ y ∧ (d : Int) ∣ z) ∧ (d : Int) ∣ b := fun d => by
    rw [gcdL_dvd, List.forall_mem_cons, Int.natCast_dvd_natCast, gcd3]
    simp
  generalize gcdL [(gcdL [u, y, z] : Int), b] = G at hG ⊢
  obtain ⟨⟨d1, d2, d3⟩, d4⟩ := (hG G).mp (Nat.dvd_refl _)
  have G0 : 0 < G := by
    rcases Nat.eq_zero_or_pos G with e | e
    · rw [e] at d4
      exact absurd (Int.zero_dvd.mp d4) h
    · exact e
  have Gb : G ≤ b.natAbs := Nat.le_of_dvd (by omega) (Int.ofNat_dvd_left.mp d4)
  have bG : B 3000 (G : Int) := ⟨Nat.lt_of_le_of_lt Gb hb.1, by decide⟩
  obtain ⟨u0, rfl⟩ := d1
  obtain ⟨y0, rfl⟩ := d2
  obtain ⟨z0, rfl⟩ := d3
  obtain ⟨b0, rfl⟩ := d4
  have one : ∀ d : Nat, (d : Int) ∣ u0 → (d : Int) ∣ y0 → (d : Int) ∣ z0 → (d : Int) ∣ b0 → d = 1 := fun d e1 e2 e3 e4 => by
    have m : ∀ x : Int, (d : Int) ∣ x → ((G * d : Nat) : Int) ∣ (G : Int) * x := fun x hx => by rw [Int.natCast_mul]; exact Int.mul_dvd_mul_left _ hx
    have k : G * d ∣ G * 1 := by rw [Nat.mul_one]; exact (hG (G * d)).mpr ⟨⟨m _ e1, m _ e2, m _ e3⟩, m _ e4⟩
    exact Nat.dvd_one.mp (Nat.dvd_of_mul_dvd_mul_left G0 k)
  have fin : ∀ u' y' z' b' : Int, (∀ d : Nat, (d : Int) ∣ u' → (d : Int) ∣ u0) → (∀ d : Nat, (d : Int) ∣ y' → (d : Int) ∣ y0) → (∀ d : Nat, (d : Int) ∣ z' → (d : Int) ∣ z0) → (∀ d : Nat, (d : Int) ∣ b' → (d : Int) ∣ b0) → Nat.gcd (gcdL [u', y', z']) b'.natAbs = 1 := fun u' y' z' b' e1 e2 e3 e4 => by
    obtain ⟨f1, f2, f3⟩ := gcd3.mp (Nat.gcd_dvd_left (gcdL [u', y', z']) b'.natAbs)
    exact one _ (e1 _ f1) (e2 _ f2) (e3 _ f3) (e4 _ (Int.ofNat_dvd_left.mpr (Nat.gcd_dvd_right (gcdL [u', y', z']) b'.natAbs)))
  by_cases n : (G : Int) * b0 < 0
  · rw [if_pos n]
    have b1 : b0 < 0 := by
      rcases Int.lt_or_le b0 0 with e | e
      · exact e
      · have := Int.mul_nonneg (show (0 : Int) ≤ G by omega) e
        omega
    exact ⟨_, -u0, -y0, -z0, -b0, rfl, by omega, bG.neg, by rw [Int.neg_mul_neg], by rw [Int.neg_mul_neg], by rw [Int.neg_mul_neg], by rw [Int.neg_mul_neg], by omega, fin _ _ _ _ (fun d => Int.dvd_neg.mp) (fun d => Int.dvd_neg.mp) (fun d => Int.dvd_neg.mp) (fun d => Int.dvd_neg.mp)⟩
  · rw [if_neg n]
    have b1 : 0 < b0 := by
      rcases Int.lt_or_le 0 b0 with e | e
      · exact e
      · have := Int.mul_nonneg (show (0 : Int) ≤ G by omega) (show 0 ≤ -b0 by omega)
        rw [Int.mul_neg] at this
        omega
    exact ⟨_, u0, y0, z0, b0, rfl, by omega, bG, rfl, rfl, rfl, rfl, b1, fin _ _ _ _ (fun d => id) (fun d => id) (fun d => id) (fun d => id)⟩
section
variable {P : Program} {w : World} {K : PySem.W.Frag} {mg : Str → Option Value} {base : Heap} {C_Form C_Ring C_Element : Addr}
theorem ok_check_form (T : Txt K mg C_Form C_Ring C_Element) : Def P w K mg base 1 "check_form" ["value"] (sp_check_form K C_Form C_Ring C_Element) := by
  obtain ⟨f_, fd_, g_, F_⟩ := T.d_check_form
  refine ⟨f_, fd_, g_, F_.kp, F_.binds (ps := ["value"]) (fun _ _ _ _ _ _ us hl => match us, hl with | [_], _ => rfl), ?_⟩
  refine F_.ok sc_check_form (fun vs H Q E h => ?_) (fun cdv A outer s H vs Q E hr h => ?_)
  · first | (obtain ⟨rfl, _⟩ := h; rfl) | (obtain ⟨_, rfl, _⟩ := h; rfl) | (obtain ⟨_, _, rfl, _⟩ := h; rfl) | (obtain ⟨_, _, _, rfl, _⟩ := h; rfl) | (obtain ⟨_, _, _, _, rfl, _⟩ := h; rfl) | (obtain ⟨_, _, _, _, _, rfl, _⟩ := h; rfl) | (obtain ⟨_, _, _, _, _, _, rfl, _⟩ := h; rfl) | (obtain ⟨_, _, _, _, _, _, _, rfl, _⟩ := h; rfl) | (obtain ⟨_, _, _, _, _, _, _, _, rfl, _⟩ := h; rfl) | (obtain ⟨_, _, _, _, _, _, _, _, _, rfl, _⟩ := h; rfl) | (obtain ⟨_, _, _, _, _, _, _, _, _, _, rfl, _⟩ := h; rfl) | (obtain ⟨_, _, _, _, _, _, _, _, _, _, _, rfl, _⟩ := h; rfl) | (obtain ⟨_, _, _, _, _, _, _, _, _, _, _, _, rfl, _⟩ := h; rfl) | (obtain ⟨_, _, _, _, _, _, _, _, _, _, _, _, _, rfl, _⟩ := h; rfl) | (obtain ⟨_, _, _, _, _, _, _, _, _, _, _, _, _, _, rfl, _⟩ := h; rfl) | (obtain ⟨_, _, _, _, _, _, _, _, _, _, _, _, _, _, _, rfl, _⟩ := h; rfl) | (obtain ⟨_, _, _, _, _, _, _, _, _, _, _, _, _, _, _, _, rfl, _⟩ := h; rfl) | (obtain ⟨_, _, _, _, _, _, _, _, _, _, _, _, _, _, _, _, _, rfl, _⟩ := h; rfl) | (obtain ⟨_, _, _, _, _, _, _, _, _, _, _, _, _, _, _, _, _, _, rfl, _⟩ := h; rfl) | (obtain ⟨_, _, _, _, _, _, _, _, _, _, _, _, _, _, _, _, _, _, _, rfl, _⟩ := h; rfl) | (obtain ⟨_, _, _, _, _, _, _, _, _, _, _, _, _, _, _, _, _, _, _, _, rfl, _⟩ := h; rfl) | (obtain ⟨_, _, _, _, _, _, _, _, _, _, _, _, _, _, _, _, _, _, _, _, _, rfl, _⟩ := h; rfl) | (obtain ⟨_, _, _, _, _, _, _, _, _, _, _, _, _, _, _, _, _, _, _, _, _, _, rfl, _⟩ := h; rfl) | (obtain ⟨_, _, _, _, _, _, _, _, _, _, _, _, _, _, _, _, _, _, _, _, _, _, _, rfl, _⟩ := h; rfl)
  · obtain ⟨x, ns, rfl, ⟨dx, t, hx, ht⟩, q⟩ := h
    refine ⟨_, (pss_one (ps_if (pt_not (pt_val (pe_callB call_isi (by rfl) T.b_isinstance (by decide +kernel) (pa_cons (pv 0) (pa_cons (pe_glob (v := .ref C_Form) (by rfl) T.g_Form rfl) pa_nil)))))
      pss_never
      pss_nil)), ?_⟩
    refine ⟨_, rfl, _, _, _, _, true, rfl, .own _, ty_ins T.ty_Form T.cl_Form hx, kit_self, _, rfl, ?_⟩
    exact iteF q
theorem ok_check_bottom (T : Txt K mg C_Form C_Ring C_Element) : Def P w K mg base 4 "check_bottom" ["bottom"] (sp_check_bottom K C_Form C_Ring C_Element) := by
  obtain ⟨f_, fd_, g_, F_⟩ := T.d_check_bottom
  obtain ⟨f_check_integer, fd_check_integer, g_check_integer, k_check_integer, b_check_integer, G_check_integer⟩ := (ok_check_integer (P := P) (w := w) (base := base) T)
  refine ⟨f_, fd_, g_, F_.kp, F_.binds (ps := ["bottom"]) (fun _ _ _ _ _ _ us hl => match us, hl with | [_], _ => rfl), ?_⟩
  refine F_.ok sc_check_bottom (fun vs H Q E h => ?_) (fun cdv A outer s H vs Q E hr h => ?_)
  · first | (obtain ⟨rfl, _⟩ := h; rfl) | (obtain ⟨_, rfl, _⟩ := h; rfl) | (obtain ⟨_, _, rfl, _⟩ := h; rfl) | (obtain ⟨_, _, _, rfl, _⟩ := h; rfl) | (obtain ⟨_, _, _, _, rfl, _⟩ := h; rfl) | (obtain ⟨_, _, _, _, _, rfl, _⟩ := h; rfl) | (obtain ⟨_, _, _, _, _, _, rfl, _⟩ := h; rfl) | (obtain ⟨_, _, _, _, _, _, _, rfl, _⟩ := h; rfl) | (obtain ⟨_, _, _, _, _, _, _, _, rfl, _⟩ := h; rfl) | (obtain ⟨_, _, _, _, _, _, _, _, _, rfl, _⟩ := h; rfl) | (obtain ⟨_, _, _, _, _, _, _, _, _, _, rfl, _⟩ := h; rfl) | (obtain ⟨_, _, _, _, _, _, _, _, _, _, _, rfl, _⟩ := h; rfl) | (obtain ⟨_, _, _, _, _, _, _, _, _, _, _, _, rfl, _⟩ := h; rfl) | (obtain ⟨_, _, _, _, _, _, _, _, _, _, _, _, _, rfl, _⟩ := h; rfl) | (obtain ⟨_, _, _, _, _, _, _, _, _, _, _, _, _, _, rfl, _⟩ := h; rfl) | (obtain ⟨_, _, _, _, _, _, _, _, _, _, _, _, _, _, _, rfl, _⟩ := h; rfl) | (obtain ⟨_, _, _, _, _, _, _, _, _, _, _, _, _, _, _, _, rfl, _⟩ := h; rfl) | (obtain ⟨_, _, _, _, _, _, _, _, _, _, _, _, _, _, _, _, _, rfl, _⟩ := h; rfl) | (obtain ⟨_, _, _, _, _, _, _, _, _, _, _, _, _, _, _, _, _, _, rfl, _⟩ := h; rfl) | (obtain ⟨_, _, _, _, _, _, _, _, _, _, _, _, _, _, _, _, _, _, _, rfl, _⟩ := h; rfl) | (obtain ⟨_, _, _, _, _, _, _, _, _, _, _, _, _, _, _, _, _, _, _, _, rfl, _⟩ := h; rfl) | (obtain ⟨_, _, _, _, _, _, _, _, _, _, _, _, _, _, _, _, _, _, _, _, _, rfl, _⟩ := h; rfl) | (obtain ⟨_, _, _, _, _, _, _, _, _, _, _, _, _, _, _, _, _, _, _, _, _, _, rfl, _⟩ := h; rfl) | (obtain ⟨_, _, _, _, _, _, _, _, _, _, _, _, _, _, _, _, _, _, _, _, _, _, _, rfl, _⟩ := h; rfl)
  · obtain ⟨i, rfl, hs, h0, q⟩ := h
    refine ⟨_, (pss_cons (ps_expr (pe_call G_check_integer (hr.mono (by decide)) (by rfl) g_check_integer k_check_integer b_check_integer .nil pass0 (pa_cons (pv 0) pa_nil)))
    (pss_one (ps_if (pt_cmpR op_eq (pv 0) pe_int (nomark _))
      pss_never
      pss_nil))), ?_⟩
    refine ⟨_, rfl, i, rfl, hs, ?_⟩
    refine ⟨_, rfl, rfl, _, rfl, iteE (fun e => absurd e h0) (fun _ => q)⟩
theorem ok_table_of (T : Txt K mg C_Form C_Ring C_Element) : Def P w K mg base 1 "table_of" ["coefficients"] (sp_table_of K C_Form C_Ring C_Element) := by
  obtain ⟨f_, fd_, g_, F_⟩ := T.d_table_of
  refine ⟨f_, fd_, g_, F_.kp, F_.binds (ps := ["coefficients"]) (fun _ _ _ _ _ _ us hl => match us, hl with | [_], _ => rfl), ?_⟩
  refine F_.ok sc_table_of (fun vs H Q E h => ?_) (fun cdv A outer s H vs Q E hr h => ?_)
  · first | (obtain ⟨rfl, _⟩ := h; rfl) | (obtain ⟨_, rfl, _⟩ := h; rfl) | (obtain ⟨_, _, rfl, _⟩ := h; rfl) | (obtain ⟨_, _, _, rfl, _⟩ := h; rfl) | (obtain ⟨_, _, _, _, rfl, _⟩ := h; rfl) | (obtain ⟨_, _, _, _, _, rfl, _⟩ := h; rfl) | (obtain ⟨_, _, _, _, _, _, rfl, _⟩ := h; rfl) | (obtain ⟨_, _, _, _, _, _, _, rfl, _⟩ := h; rfl) | (obtain ⟨_, _, _, _, _, _, _, _, rfl, _⟩ := h; rfl) | (obtain ⟨_, _, _, _, _, _, _, _, _, rfl, _⟩ := h; rfl) | (obtain ⟨_, _, _, _, _, _, _, _, _, _, rfl, _⟩ := h; rfl) | (obtain ⟨_, _, _, _, _, _, _, _, _, _, _, rfl, _⟩ := h; rfl) | (obtain ⟨_, _, _, _, _, _, _, _, _, _, _, _, rfl, _⟩ := h; rfl) | (obtain ⟨_, _, _, _, _, _, _, _, _, _, _, _, _, rfl, _⟩ := h; rfl) | (obtain ⟨_, _, _, _, _, _, _, _, _, _, _, _, _, _, rfl, _⟩ := h; rfl) | (obtain ⟨_, _, _, _, _, _, _, _, _, _, _, _, _, _, _, rfl, _⟩ := h; rfl) | (obtain ⟨_, _, _, _, _, _, _, _, _, _, _, _, _, _, _, _, rfl, _⟩ := h; rfl) | (obtain ⟨_, _, _, _, _, _, _, _, _, _, _, _, _, _, _, _, _, rfl, _⟩ := h; rfl) | (obtain ⟨_, _, _, _, _, _, _, _, _, _, _, _, _, _, _, _, _, _, rfl, _⟩ := h; rfl) | (obtain ⟨_, _, _, _, _, _, _, _, _, _, _, _, _, _, _, _, _, _, _, rfl, _⟩ := h; rfl) | (obtain ⟨_, _, _, _, _, _, _, _, _, _, _, _, _, _, _, _, _, _, _, _, rfl, _⟩ := h; rfl) | (obtain ⟨_, _, _, _, _, _, _, _, _, _, _, _, _, _, _, _, _, _, _, _, _, rfl, _⟩ := h; rfl) | (obtain ⟨_, _, _, _, _, _, _, _, _, _, _, _, _, _, _, _, _, _, _, _, _, _, rfl, _⟩ := h; rfl) | (obtain ⟨_, _, _, _, _, _, _, _, _, _, _, _, _, _, _, _, _, _, _, _, _, _, _, rfl, _⟩ := h; rfl)
  · obtain ⟨t, a, b, c, d, rfl, ht, ⟨ba, bb, bc, bd⟩, q⟩ := h
    refine ⟨_, (pss_cons (ps_asg (pv 0) (pg_tup (by rfl) (pgs_cons (pg_name (i := 1) sc_table_of.nd rfl (.inl rfl)) (pgs_cons (pg_name (i := 2) sc_table_of.nd rfl (.inl rfl)) (pgs_cons (pg_name (i := 3) sc_table_of.nd rfl (.inl rfl)) (pgs_cons (pg_name (i := 4) sc_table_of.nd rfl (.inl rfl)) pgs_nil))))))
    (pss_one (ps_ret (pe_tup (pa_cons (pe_tup (pa_cons (pe_op op_mulW (pe_un un_neg (pv 1)) (pv 3)) (pa_cons (pv 2) (pa_cons (pe_un un_neg (pv 1)) pa_nil)))) (pa_cons (pe_tup (pa_cons (pe_op op_mulW (pe_un un_neg (pv 1)) (pv 4)) (pa_cons pe_int (pa_cons pe_int pa_nil)))) (pa_cons (pe_tup (pa_cons (pe_op op_mulW (pe_un un_neg (pv 2)) (pv 4)) (pa_cons (pv 4) (pa_cons (pe_un un_neg (pv 3)) pa_nil)))) pa_nil))))))), ?_⟩
    refine ⟨_, rfl, unI4 ht ?_⟩
    refine ⟨_, rfl, _, rfl, _, rfl, _, _, rfl, rfl, mulB (B.neg (by with_reducible assumption)) (by with_reducible assumption) (by decide), _, rfl, _, rfl, _, rfl, sl3, fun t1 n1 => ⟨_, rfl, _, rfl, _, rfl, _, _, rfl, rfl, mulB (B.neg (by with_reducible assumption)) (by with_reducible assumption) (by decide), sl3, fun t2 n2 => ⟨_, rfl, _, rfl, _, rfl, _, _, rfl, rfl, mulB (B.neg (by with_reducible assumption)) (by with_reducible assumption) (by decide), _, rfl, _, rfl, _, rfl, sl3, fun t3 n3 => ⟨sl3, fun x nx => ?_⟩⟩⟩⟩
    have z := t33_new (r1 := w1 a b c d) (r2 := w2 a b c d) (r3 := w3 a b c d) n1 n2 n3 nx
    exact q x _ z.1 z.2
theorem ok_product_by (T : Txt K mg C_Form C_Ring C_Element) : Def P w K mg base 1 "product_by" ["table", "first", "second"] (sp_product_by K C_Form C_Ring C_Element) := by
  obtain ⟨f_, fd_, g_, F_⟩ := T.d_product_by
  refine ⟨f_, fd_, g_, F_.kp, F_.binds (ps := ["table", "first", "second"]) (fun _ _ _ _ _ _ us hl => match us, hl with | [_, _, _], _ => rfl), ?_⟩
  refine F_.ok sc_product_by (fun vs H Q E h => ?_) (fun cdv A outer s H vs Q E hr h => ?_)
  · first | (obtain ⟨rfl, _⟩ := h; rfl) | (obtain ⟨_, rfl, _⟩ := h; rfl) | (obtain ⟨_, _, rfl, _⟩ := h; rfl) | (obtain ⟨_, _, _, rfl, _⟩ := h; rfl) | (obtain ⟨_, _, _, _, rfl, _⟩ := h; rfl) | (obtain ⟨_, _, _, _, _, rfl, _⟩ := h; rfl) | (obtain ⟨_, _, _, _, _, _, rfl, _⟩ := h; rfl) | (obtain ⟨_, _, _, _, _, _, _, rfl, _⟩ := h; rfl) | (obtain ⟨_, _, _, _, _, _, _, _, rfl, _⟩ := h; rfl) | (obtain ⟨_, _, _, _, _, _, _, _, _, rfl, _⟩ := h; rfl) | (obtain ⟨_, _, _, _, _, _, _, _, _, _, rfl, _⟩ := h; rfl) | (obtain ⟨_, _, _, _, _, _, _, _, _, _, _, rfl, _⟩ := h; rfl) | (obtain ⟨_, _, _, _, _, _, _, _, _, _, _, _, rfl, _⟩ := h; rfl) | (obtain ⟨_, _, _, _, _, _, _, _, _, _, _, _, _, rfl, _⟩ := h; rfl) | (obtain ⟨_, _, _, _, _, _, _, _, _, _, _, _, _, _, rfl, _⟩ := h; rfl) | (obtain ⟨_, _, _, _, _, _, _, _, _, _, _, _, _, _, _, rfl, _⟩ := h; rfl) | (obtain ⟨_, _, _, _, _, _, _, _, _, _, _, _, _, _, _, _, rfl, _⟩ := h; rfl) | (obtain ⟨_, _, _, _, _, _, _, _, _, _, _, _, _, _, _, _, _, rfl, _⟩ := h; rfl) | (obtain ⟨_, _, _, _, _, _, _, _, _, _, _, _, _, _, _, _, _, _, rfl, _⟩ := h; rfl) | (obtain ⟨_, _, _, _, _, _, _, _, _, _, _, _, _, _, _, _, _, _, _, rfl, _⟩ := h; rfl) | (obtain ⟨_, _, _, _, _, _, _, _, _, _, _, _, _, _, _, _, _, _, _, _, rfl, _⟩ := h; rfl) | (obtain ⟨_, _, _, _, _, _, _, _, _, _, _, _, _, _, _, _, _, _, _, _, _, rfl, _⟩ := h; rfl) | (obtain ⟨_, _, _, _, _, _, _, _, _, _, _, _, _, _, _, _, _, _, _, _, _, _, rfl, _⟩ := h; rfl) | (obtain ⟨_, _, _, _, _, _, _, _, _, _, _, _, _, _, _, _, _, _, _, _, _, _, _, rfl, _⟩ := h; rfl)
  · obtain ⟨t, l, r, a, b, c, d, e, f, g, h', i, u, x, y, v, z, s', rfl, ht, hl, hr, ⟨ba, bb, bc⟩, ⟨bd, be, bf⟩, ⟨bg, bh, bi⟩, ⟨bu, bx, by'⟩, ⟨bv, bz, bs⟩, q⟩ := h
    refine ⟨_, (Evl.pss_cut (ps_asg (pv 0) (pg_tup (by rfl) (pgs_cons (pg_tup (by rfl) (pgs_cons (pg_name (i := 3) sc_product_by.nd rfl (.inl rfl)) (pgs_cons (pg_name (i := 4) sc_product_by.nd rfl (.inl rfl)) (pgs_cons (pg_name (i := 5) sc_product_by.nd rfl (.inl rfl)) pgs_nil)))) (pgs_cons (pg_tup (by rfl) (pgs_cons (pg_name (i := 6) sc_product_by.nd rfl (.inl rfl)) (pgs_cons (pg_name (i := 7) sc_product_by.nd rfl (.inl rfl)) (pgs_cons (pg_name (i := 8) sc_product_by.nd rfl (.inl rfl)) pgs_nil)))) (pgs_cons (pg_tup (by rfl) (pgs_cons (pg_name (i := 9) sc_product_by.nd rfl (.inl rfl)) (pgs_cons (pg_name (i := 10) sc_product_by.nd rfl (.inl rfl)) (pgs_cons (pg_name (i := 11) sc_product_by.nd rfl (.inl rfl)) pgs_nil)))) pgs_nil)))))
    (Evl.pss_cut (ps_asg (pv 1) (pg_tup (by rfl) (pgs_cons (pg_name (i := 12) sc_product_by.nd rfl (.inl rfl)) (pgs_cons (pg_name (i := 13) sc_product_by.nd rfl (.inl rfl)) (pgs_cons (pg_name (i := 14) sc_product_by.nd rfl (.inl rfl)) pgs_nil)))))
    (Evl.pss_cut (ps_asg (pv 2) (pg_tup (by rfl) (pgs_cons (pg_name (i := 15) sc_product_by.nd rfl (.inl rfl)) (pgs_cons (pg_name (i := 16) sc_product_by.nd rfl (.inl rfl)) (pgs_cons (pg_name (i := 17) sc_product_by.nd rfl (.inl rfl)) pgs_nil)))))
    (pss_cons (ps_par3 (i := 18) (j := 19) (l := 20) (by rfl) sc_product_by.nd rfl rfl rfl (by decide) (by decide) (by decide) rfl rfl rfl (pa_cons (pe_op op_mulW (pv 13) (pv 16)) (pa_cons (pe_op op_add (pe_op op_mulW (pv 13) (pv 17)) (pe_op op_mulW (pv 14) (pv 16))) (pa_cons (pe_op op_mulW (pv 14) (pv 17)) pa_nil))) (by rfl))
    (pss_one (ps_ret (pe_tup (pa_cons (pe_op op_add (pe_op op_add (pe_op op_add (pe_op op_mulW (pv 12) (pv 15)) (pe_op op_mulW (pv 18) (pv 3))) (pe_op op_mulW (pv 19) (pv 6))) (pe_op op_mulW (pv 20) (pv 9))) (pa_cons (pe_op op_add (pe_op op_add (pe_op op_add (pe_op op_add (pe_op op_mulW (pv 12) (pv 16)) (pe_op op_mulW (pv 13) (pv 15))) (pe_op op_mulW (pv 18) (pv 4))) (pe_op op_mulW (pv 19) (pv 7))) (pe_op op_mulW (pv 20) (pv 10))) (pa_cons (pe_op op_add (pe_op op_add (pe_op op_add (pe_op op_add (pe_op op_mulW (pv 12) (pv 17)) (pe_op op_mulW (pv 14) (pv 15))) (pe_op op_mulW (pv 18) (pv 5))) (pe_op op_mulW (pv 19) (pv 8))) (pe_op op_mulW (pv 20) (pv 11))) pa_nil)))))))))), ?_⟩
    refine ⟨fun σ H' => σ = [some (.ref t), some (.ref l), some (.ref r), some (.int a), some (.int b), some (.int c), some (.int d), some (.int e), some (.int f), some (.int g), some (.int h'), some (.int i), none, none, none, none, none, none, none, none, none] ∧ H' = H, ⟨_, rfl, un33 ht ⟨rfl, rfl⟩⟩, ?_⟩
    rintro σ H' ⟨rfl, rfl⟩
    refine ⟨fun σ H'' => σ = [some (.ref t), some (.ref l), some (.ref r), some (.int a), some (.int b), some (.int c), some (.int d), some (.int e), some (.int f), some (.int g), some (.int h'), some (.int i), some (.int u), some (.int x), some (.int y), none, none, none, none, none, none] ∧ H'' = H', ⟨_, rfl, unq3 hl ⟨rfl, rfl⟩⟩, ?_⟩
    rintro σ H'' ⟨rfl, rfl⟩
    refine ⟨fun σ H' => σ = [some (.ref t), some (.ref l), some (.ref r), some (.int a), some (.int b), some (.int c), some (.int d), some (.int e), some (.int f), some (.int g), some (.int h'), some (.int i), some (.int u), some (.int x), some (.int y), some (.int v), some (.int z), some (.int s'), none, none, none] ∧ H' = H'', ⟨_, rfl, unq3 hr ⟨rfl, rfl⟩⟩, ?_⟩
    rintro σ H' ⟨rfl, rfl⟩
    refine ⟨_, rfl, _, rfl, _, _, rfl, rfl, mulB (by with_reducible assumption) (by with_reducible assumption) (by decide), _, rfl, _, rfl, _, _, rfl, rfl, mulB (by with_reducible assumption) (by with_reducible assumption) (by decide), _, rfl, _, rfl, _, _, rfl, rfl, mulB (by with_reducible assumption) (by with_reducible assumption) (by decide), _, _, rfl, rfl, _, rfl, _, rfl, _, _, rfl, rfl, mulB (by with_reducible assumption) (by with_reducible assumption) (by decide), ?_⟩
    have bL : B 10000 (x * z) := B.mul bx bz
    have bM : B 10001 (x * s' + y * z) := B.pl (B.mul bx bs) (B.mul by' bz)
    have bR : B 10000 (y * s') := B.mul by' bs
    refine ⟨_, _, _, rfl, ?_⟩
    refine ⟨_, rfl, _, rfl, _, _, rfl, rfl, mulB (by with_reducible assumption) (by with_reducible assumption) (by decide), _, rfl, _, rfl, _, _, rfl, rfl, mulB (by with_reducible assumption) (by with_reducible assumption) (by decide), _, _, rfl, rfl, _, rfl, _, rfl, _, _, rfl, rfl, mulB (by with_reducible assumption) (by with_reducible assumption) (by decide), _, _, rfl, rfl, _, rfl, _, rfl, _, _, rfl, rfl, mulB (by with_reducible assumption) (by with_reducible assumption) (by decide), _, _, rfl, rfl, _, rfl, _, rfl, _, _, rfl, rfl, mulB (by with_reducible assumption) (by with_reducible assumption) (by decide), _, rfl, _, rfl, _, _, rfl, rfl, mulB (by with_reducible assumption) (by with_reducible assumption) (by decide), _, _, rfl, rfl, _, rfl, _, rfl, _, _, rfl, rfl, mulB (by with_reducible assumption) (by with_reducible assumption) (by decide), _, _, rfl, rfl, _, rfl, _, rfl, _, _, rfl, rfl, mulB (by with_reducible assumption) (by with_reducible assumption) (by decide), _, _, rfl, rfl, _, rfl, _, rfl, _, _, rfl, rfl, mulB (by with_reducible assumption) (by with_reducible assumption) (by decide), _, _, rfl, rfl, _, rfl, _, rfl, _, _, rfl, rfl, mulB (by with_reducible assumption) (by with_reducible assumption) (by decide), _, rfl, _, rfl, _, _, rfl, rfl, mulB (by with_reducible assumption) (by with_reducible assumption) (by decide), _, _, rfl, rfl, _, rfl, _, rfl, _, _, rfl, rfl, mulB (by with_reducible assumption) (by with_reducible assumption) (by decide), _, _, rfl, rfl, _, rfl, _, rfl, _, _, rfl, rfl, mulB (by with_reducible assumption) (by with_reducible assumption) (by decide), _, _, rfl, rfl, _, rfl, _, rfl, _, _, rfl, rfl, mulB (by with_reducible assumption) (by with_reducible assumption) (by decide), _, _, rfl, rfl, sl3, fun o no => ?_⟩
    exact q o _ (Ex0.new no) upd_same
end
end RG
namespace RG
open PySem PySem.Spec PyProof.Rows L2 Fr
theorem tq_upd {K : PySem.W.Frag} {H : Hp} {t x C dx : Addr} {ns : List Int} {fs fs' : List (Str × V)} (h : Tq K H t ns) (hx : H x = some (.ins C dx fs)) : Tq K (upd H x (.ins C dx fs')) t ns := by
  rcases h with h | h
  · left
    rcases h with h | ⟨o, h⟩
    · left
      rw [upd_ne (ne_of h hx (by intro z; cases z))]
      exact h
    · right
      refine ⟨o, ?_⟩
      rw [upd_ne (ne_of h hx (by intro z; cases z))]
      exact h
  · exact .inr h
theorem B0 {n : Nat} (h : 0 < n) : B n 0 := ⟨by show (0 : Int).natAbs < 2 ^ n; exact Nat.two_pow_pos n, h⟩
theorem Tis.upd {H : Hp} {D : Addr} {acc : List V} {o : HO} {xs : List V} {rs : List (List Int)} (hD : H D = some (.lst acc)) (r : Tis H xs rs) : Tis (upd H D o) xs rs := r.mono fun t zs h => by
  rw [upd_ne (ne_of h hD (by intro z; cases z))]
  exact h
section
variable {P : Program} {w : World} {K : PySem.W.Frag} {mg : Str → Option Value} {base : Heap} {C_Form C_Ring C_Element : Addr}
theorem ok_Ring___init__ (T : Txt K mg C_Form C_Ring C_Element) : MDef (fun p f => Mk K C_Ring f) P w K mg base 2 ["self", "form"] (sp_Ring___init__ K C_Form C_Ring C_Element) := by
  obtain ⟨p_, f_, fd_, R_, F_⟩ := T.e_Ring___init__
  obtain ⟨f_check_form, fd_check_form, g_check_form, k_check_form, b_check_form, G_check_form⟩ := (ok_check_form (P := P) (w := w) (base := base) T)
  refine ⟨p_, f_, fd_, R_, F_.binds (ps := ["self", "form"]) (fun _ _ _ _ _ _ us hl => match us, hl with | [_, _], _ => rfl), ?_⟩
  refine F_.ok sc_Ring___init__ (fun vs H Q E h => ?_) (fun cdv A outer s H vs Q E hr h => ?_)
  · first | (obtain ⟨rfl, _⟩ := h; rfl) | (obtain ⟨_, rfl, _⟩ := h; rfl) | (obtain ⟨_, _, rfl, _⟩ := h; rfl) | (obtain ⟨_, _, _, rfl, _⟩ := h; rfl) | (obtain ⟨_, _, _, _, rfl, _⟩ := h; rfl) | (obtain ⟨_, _, _, _, _, rfl, _⟩ := h; rfl) | (obtain ⟨_, _, _, _, _, _, rfl, _⟩ := h; rfl) | (obtain ⟨_, _, _, _, _, _, _, rfl, _⟩ := h; rfl) | (obtain ⟨_, _, _, _, _, _, _, _, rfl, _⟩ := h; rfl) | (obtain ⟨_, _, _, _, _, _, _, _, _, rfl, _⟩ := h; rfl) | (obtain ⟨_, _, _, _, _, _, _, _, _, _, rfl, _⟩ := h; rfl) | (obtain ⟨_, _, _, _, _, _, _, _, _, _, _, rfl, _⟩ := h; rfl) | (obtain ⟨_, _, _, _, _, _, _, _, _, _, _, _, rfl, _⟩ := h; rfl) | (obtain ⟨_, _, _, _, _, _, _, _, _, _, _, _, _, rfl, _⟩ := h; rfl) | (obtain ⟨_, _, _, _, _, _, _, _, _, _, _, _, _, _, rfl, _⟩ := h; rfl) | (obtain ⟨_, _, _, _, _, _, _, _, _, _, _, _, _, _, _, rfl, _⟩ := h; rfl) | (obtain ⟨_, _, _, _, _, _, _, _, _, _, _, _, _, _, _, _, rfl, _⟩ := h; rfl) | (obtain ⟨_, _, _, _, _, _, _, _, _, _, _, _, _, _, _, _, _, rfl, _⟩ := h; rfl) | (obtain ⟨_, _, _, _, _, _, _, _, _, _, _, _, _, _, _, _, _, _, rfl, _⟩ := h; rfl) | (obtain ⟨_, _, _, _, _, _, _, _, _, _, _, _, _, _, _, _, _, _, _, rfl, _⟩ := h; rfl) | (obtain ⟨_, _, _, _, _, _, _, _, _, _, _, _, _, _, _, _, _, _, _, _, rfl, _⟩ := h; rfl) | (obtain ⟨_, _, _, _, _, _, _, _, _, _, _, _, _, _, _, _, _, _, _, _, _, rfl, _⟩ := h; rfl) | (obtain ⟨_, _, _, _, _, _, _, _, _, _, _, _, _, _, _, _, _, _, _, _, _, _, rfl, _⟩ := h; rfl) | (obtain ⟨_, _, _, _, _, _, _, _, _, _, _, _, _, _, _, _, _, _, _, _, _, _, _, rfl, _⟩ := h; rfl)
  · obtain ⟨x, dx, f, ns, rfl, hx, hf, q⟩ := h
    refine ⟨_, (pss_cons (ps_expr (pe_call G_check_form (hr.mono (by decide)) (by rfl) g_check_form k_check_form b_check_form .nil pass0 (pa_cons (pv 1) pa_nil)))
    (pss_one (ps_fld (pv 0) (pv 1) (by rfl)))), ?_⟩
    refine ⟨_, rfl, f, ns, rfl, hf, ?_⟩
    refine ⟨_, rfl, _, rfl, x, C_Ring, dx, _, rfl, hx, T.cl_Ring, T.na_Ring_form, (by decide : (0:Nat) < 1000), ?_⟩
    exact q _ (fun b o n e => by rw [upd_ne n]; exact e) upd_same
theorem ok_Ring_form (T : Txt K mg C_Form C_Ring C_Element) : MDef (fun p f => PropOf K C_Ring "form" p f) P w K mg base 1 ["self"] (sp_Ring_form K C_Form C_Ring C_Element) := by
  obtain ⟨p_, f_, fd_, R_, F_⟩ := T.e_Ring_form
  refine ⟨p_, f_, fd_, R_, F_.binds (ps := ["self"]) (fun _ _ _ _ _ _ us hl => match us, hl with | [_], _ => rfl), ?_⟩
  refine F_.ok sc_Ring_form (fun vs H Q E h => ?_) (fun cdv A outer s H vs Q E hr h => ?_)
  · first | (obtain ⟨rfl, _⟩ := h; rfl) | (obtain ⟨_, rfl, _⟩ := h; rfl) | (obtain ⟨_, _, rfl, _⟩ := h; rfl) | (obtain ⟨_, _, _, rfl, _⟩ := h; rfl) | (obtain ⟨_, _, _, _, rfl, _⟩ := h; rfl) | (obtain ⟨_, _, _, _, _, rfl, _⟩ := h; rfl) | (obtain ⟨_, _, _, _, _, _, rfl, _⟩ := h; rfl) | (obtain ⟨_, _, _, _, _, _, _, rfl, _⟩ := h; rfl) | (obtain ⟨_, _, _, _, _, _, _, _, rfl, _⟩ := h; rfl) | (obtain ⟨_, _, _, _, _, _, _, _, _, rfl, _⟩ := h; rfl) | (obtain ⟨_, _, _, _, _, _, _, _, _, _, rfl, _⟩ := h; rfl) | (obtain ⟨_, _, _, _, _, _, _, _, _, _, _, rfl, _⟩ := h; rfl) | (obtain ⟨_, _, _, _, _, _, _, _, _, _, _, _, rfl, _⟩ := h; rfl) | (obtain ⟨_, _, _, _, _, _, _, _, _, _, _, _, _, rfl, _⟩ := h; rfl) | (obtain ⟨_, _, _, _, _, _, _, _, _, _, _, _, _, _, rfl, _⟩ := h; rfl) | (obtain ⟨_, _, _, _, _, _, _, _, _, _, _, _, _, _, _, rfl, _⟩ := h; rfl) | (obtain ⟨_, _, _, _, _, _, _, _, _, _, _, _, _, _, _, _, rfl, _⟩ := h; rfl) | (obtain ⟨_, _, _, _, _, _, _, _, _, _, _, _, _, _, _, _, _, rfl, _⟩ := h; rfl) | (obtain ⟨_, _, _, _, _, _, _, _, _, _, _, _, _, _, _, _, _, _, rfl, _⟩ := h; rfl) | (obtain ⟨_, _, _, _, _, _, _, _, _, _, _, _, _, _, _, _, _, _, _, rfl, _⟩ := h; rfl) | (obtain ⟨_, _, _, _, _, _, _, _, _, _, _, _, _, _, _, _, _, _, _, _, rfl, _⟩ := h; rfl) | (obtain ⟨_, _, _, _, _, _, _, _, _, _, _, _, _, _, _, _, _, _, _, _, _, rfl, _⟩ := h; rfl) | (obtain ⟨_, _, _, _, _, _, _, _, _, _, _, _, _, _, _, _, _, _, _, _, _, _, rfl, _⟩ := h; rfl) | (obtain ⟨_, _, _, _, _, _, _, _, _, _, _, _, _, _, _, _, _, _, _, _, _, _, _, rfl, _⟩ := h; rfl)
  · obtain ⟨r, ns, rfl, ⟨dr, x, hrr, hx⟩, q⟩ := h
    refine ⟨_, (pss_one (ps_ret (pe_fld (pv 0) (by rfl)))), ?_⟩
    exact ⟨_, rfl, r, C_Ring, dr, _, .ref x, rfl, hrr, T.cl_Ring, T.na_Ring_form, lk_same, q x hx⟩
theorem ok_Ring___eq__ (T : Txt K mg C_Form C_Ring C_Element) : MDef (fun p f => EqC K C_Ring f) P w K mg base 2 ["self", "other"] (sp_Ring___eq__ K C_Form C_Ring C_Element) := by
  obtain ⟨p_, f_, fd_, R_, F_⟩ := T.e_Ring___eq__
  obtain ⟨p_Form___eq__, f_Form___eq__, fd_Form___eq__, R_Form___eq__, b_Form___eq__, G_Form___eq__⟩ := (ok_Form___eq__ (P := P) (w := w) (base := base) T)
  refine ⟨p_, f_, fd_, R_, F_.binds (ps := ["self", "other"]) (fun _ _ _ _ _ _ us hl => match us, hl with | [_, _], _ => rfl), ?_⟩
  refine F_.ok sc_Ring___eq__ (fun vs H Q E h => ?_) (fun cdv A outer s H vs Q E hr h => ?_)
  · first | (obtain ⟨rfl, _⟩ := h; rfl) | (obtain ⟨_, rfl, _⟩ := h; rfl) | (obtain ⟨_, _, rfl, _⟩ := h; rfl) | (obtain ⟨_, _, _, rfl, _⟩ := h; rfl) | (obtain ⟨_, _, _, _, rfl, _⟩ := h; rfl) | (obtain ⟨_, _, _, _, _, rfl, _⟩ := h; rfl) | (obtain ⟨_, _, _, _, _, _, rfl, _⟩ := h; rfl) | (obtain ⟨_, _, _, _, _, _, _, rfl, _⟩ := h; rfl) | (obtain ⟨_, _, _, _, _, _, _, _, rfl, _⟩ := h; rfl) | (obtain ⟨_, _, _, _, _, _, _, _, _, rfl, _⟩ := h; rfl) | (obtain ⟨_, _, _, _, _, _, _, _, _, _, rfl, _⟩ := h; rfl) | (obtain ⟨_, _, _, _, _, _, _, _, _, _, _, rfl, _⟩ := h; rfl) | (obtain ⟨_, _, _, _, _, _, _, _, _, _, _, _, rfl, _⟩ := h; rfl) | (obtain ⟨_, _, _, _, _, _, _, _, _, _, _, _, _, rfl, _⟩ := h; rfl) | (obtain ⟨_, _, _, _, _, _, _, _, _, _, _, _, _, _, rfl, _⟩ := h; rfl) | (obtain ⟨_, _, _, _, _, _, _, _, _, _, _, _, _, _, _, rfl, _⟩ := h; rfl) | (obtain ⟨_, _, _, _, _, _, _, _, _, _, _, _, _, _, _, _, rfl, _⟩ := h; rfl) | (obtain ⟨_, _, _, _, _, _, _, _, _, _, _, _, _, _, _, _, _, rfl, _⟩ := h; rfl) | (obtain ⟨_, _, _, _, _, _, _, _, _, _, _, _, _, _, _, _, _, _, rfl, _⟩ := h; rfl) | (obtain ⟨_, _, _, _, _, _, _, _, _, _, _, _, _, _, _, _, _, _, _, rfl, _⟩ := h; rfl) | (obtain ⟨_, _, _, _, _, _, _, _, _, _, _, _, _, _, _, _, _, _, _, _, rfl, _⟩ := h; rfl) | (obtain ⟨_, _, _, _, _, _, _, _, _, _, _, _, _, _, _, _, _, _, _, _, _, rfl, _⟩ := h; rfl) | (obtain ⟨_, _, _, _, _, _, _, _, _, _, _, _, _, _, _, _, _, _, _, _, _, _, rfl, _⟩ := h; rfl) | (obtain ⟨_, _, _, _, _, _, _, _, _, _, _, _, _, _, _, _, _, _, _, _, _, _, _, rfl, _⟩ := h; rfl)
  · obtain ⟨x, w, ns, rfl, ⟨dx, f, hx, hf⟩, h2⟩ := h
    obtain ⟨df, t, hf1, hf2⟩ := id hf
    refine ⟨_, (pss_one (ps_ret (pe_and (pe_callB call_isi (by rfl) T.b_isinstance (by decide +kernel) (pa_cons (pv 1) (pa_cons (pe_glob (v := .ref C_Ring) (by rfl) T.g_Ring rfl) pa_nil))) (pe_one (pe_cmpR (op_eqI R_Form___eq__ G_Form___eq__ b_Form___eq__ (hr.mono (by decide)) pass0) (pe_fld (pv 0) (by rfl)) (pe_fld (pv 1) (by rfl)) (nomark _)))))), ?_⟩
    rcases h2 with ⟨y, ms, rfl, ⟨dy, f', hy, hf'⟩, q⟩ | ⟨t, kt, ty, q⟩
    case inr => exact ⟨_, rfl, _, _, _, _, false, rfl, .own _, ty, kt, _, rfl, q⟩
    obtain ⟨df', t', hf3, hf4⟩ := id hf'
    refine ⟨_, rfl, _, _, _, _, true, rfl, .own _, ty_ins T.ty_Ring T.cl_Ring hy, kit_self, _, rfl, ?_⟩
    refine ⟨_, rfl, x, C_Ring, dx, _, .ref f, rfl, hx, T.cl_Ring, T.na_Ring_form, lk_same, _, rfl, y, C_Ring, dy, _, .ref f', rfl, hy, T.cl_Ring, T.na_Ring_form, lk_same, ?_⟩
    exact ⟨f, df, _, _, rfl, hf1, ty_ins T.ty_Form T.cl_Form hf3, first_self, f, f', ns, ms, rfl, hf, hf', _, rfl, q⟩
theorem ok_table_for (T : Txt K mg C_Form C_Ring C_Element) : Def P w K mg base 3 "table_for" ["ring"] (sp_table_for K C_Form C_Ring C_Element) := by
  obtain ⟨f_, fd_, g_, F_⟩ := T.d_table_for
  obtain ⟨p_Form_coefficients, f_Form_coefficients, fd_Form_coefficients, R_Form_coefficients, b_Form_coefficients, G_Form_coefficients⟩ := (ok_Form_coefficients (P := P) (w := w) (base := base) T)
  obtain ⟨p_Ring_form, f_Ring_form, fd_Ring_form, R_Ring_form, b_Ring_form, G_Ring_form⟩ := (ok_Ring_form (P := P) (w := w) (base := base) T)
  obtain ⟨f_table_of, fd_table_of, g_table_of, k_table_of, b_table_of, G_table_of⟩ := (ok_table_of (P := P) (w := w) (base := base) T)
  refine ⟨f_, fd_, g_, F_.kp, F_.binds (ps := ["ring"]) (fun _ _ _ _ _ _ us hl => match us, hl with | [_], _ => rfl), ?_⟩
  refine F_.ok sc_table_for (fun vs H Q E h => ?_) (fun cdv A outer s H vs Q E hr h => ?_)
  · first | (obtain ⟨rfl, _⟩ := h; rfl) | (obtain ⟨_, rfl, _⟩ := h; rfl) | (obtain ⟨_, _, rfl, _⟩ := h; rfl) | (obtain ⟨_, _, _, rfl, _⟩ := h; rfl) | (obtain ⟨_, _, _, _, rfl, _⟩ := h; rfl) | (obtain ⟨_, _, _, _, _, rfl, _⟩ := h; rfl) | (obtain ⟨_, _, _, _, _, _, rfl, _⟩ := h; rfl) | (obtain ⟨_, _, _, _, _, _, _, rfl, _⟩ := h; rfl) | (obtain ⟨_, _, _, _, _, _, _, _, rfl, _⟩ := h; rfl) | (obtain ⟨_, _, _, _, _, _, _, _, _, rfl, _⟩ := h; rfl) | (obtain ⟨_, _, _, _, _, _, _, _, _, _, rfl, _⟩ := h; rfl) | (obtain ⟨_, _, _, _, _, _, _, _, _, _, _, rfl, _⟩ := h; rfl) | (obtain ⟨_, _, _, _, _, _, _, _, _, _, _, _, rfl, _⟩ := h; rfl) | (obtain ⟨_, _, _, _, _, _, _, _, _, _, _, _, _, rfl, _⟩ := h; rfl) | (obtain ⟨_, _, _, _, _, _, _, _, _, _, _, _, _, _, rfl, _⟩ := h; rfl) | (obtain ⟨_, _, _, _, _, _, _, _, _, _, _, _, _, _, _, rfl, _⟩ := h; rfl) | (obtain ⟨_, _, _, _, _, _, _, _, _, _, _, _, _, _, _, _, rfl, _⟩ := h; rfl) | (obtain ⟨_, _, _, _, _, _, _, _, _, _, _, _, _, _, _, _, _, rfl, _⟩ := h; rfl) | (obtain ⟨_, _, _, _, _, _, _, _, _, _, _, _, _, _, _, _, _, _, rfl, _⟩ := h; rfl) | (obtain ⟨_, _, _, _, _, _, _, _, _, _, _, _, _, _, _, _, _, _, _, rfl, _⟩ := h; rfl) | (obtain ⟨_, _, _, _, _, _, _, _, _, _, _, _, _, _, _, _, _, _, _, _, rfl, _⟩ := h; rfl) | (obtain ⟨_, _, _, _, _, _, _, _, _, _, _, _, _, _, _, _, _, _, _, _, _, rfl, _⟩ := h; rfl) | (obtain ⟨_, _, _, _, _, _, _, _, _, _, _, _, _, _, _, _, _, _, _, _, _, _, rfl, _⟩ := h; rfl) | (obtain ⟨_, _, _, _, _, _, _, _, _, _, _, _, _, _, _, _, _, _, _, _, _, _, _, rfl, _⟩ := h; rfl)
  · obtain ⟨r, a, b, c, d, rfl, hR, bz, q⟩ := h
    obtain ⟨dr, x, hrr, hx⟩ := id hR
    refine ⟨_, (pss_one (ps_ret (pe_call G_table_of (hr.mono (by decide)) (by rfl) g_table_of k_table_of b_table_of .nil pass0 (pa_cons (pe_prop (pe_prop (pv 0) T.cl_Ring R_Ring_form G_Ring_form (hr.mono (by decide)) b_Ring_form .nil pass0 (by rfl)) T.cl_Form R_Form_coefficients G_Form_coefficients (hr.mono (by decide)) b_Form_coefficients .nil pass0 (by rfl)) pa_nil)))), ?_⟩
    refine ⟨_, rfl, r, dr, _, rfl, hrr, r, _, rfl, hR, fun f hf => ?_⟩
    obtain ⟨df, tf, hf1, hf2⟩ := id hf
    refine ⟨f, df, _, rfl, hf1, f, _, rfl, hf, fun t ht => ?_⟩
    exact ⟨t, a, b, c, d, rfl, ht, bz, fun o H1 e1 ho => q o H1 e1 ho⟩
theorem ok_Element_ring (T : Txt K mg C_Form C_Ring C_Element) : MDef (fun p f => PropOf K C_Element "ring" p f) P w K mg base 1 ["self"] (sp_Element_ring K C_Form C_Ring C_Element) := by
  obtain ⟨p_, f_, fd_, R_, F_⟩ := T.e_Element_ring
  refine ⟨p_, f_, fd_, R_, F_.binds (ps := ["self"]) (fun _ _ _ _ _ _ us hl => match us, hl with | [_], _ => rfl), ?_⟩
  refine F_.ok sc_Element_ring (fun vs H Q E h => ?_) (fun cdv A outer s H vs Q E hr h => ?_)
  · first | (obtain ⟨rfl, _⟩ := h; rfl) | (obtain ⟨_, rfl, _⟩ := h; rfl) | (obtain ⟨_, _, rfl, _⟩ := h; rfl) | (obtain ⟨_, _, _, rfl, _⟩ := h; rfl) | (obtain ⟨_, _, _, _, rfl, _⟩ := h; rfl) | (obtain ⟨_, _, _, _, _, rfl, _⟩ := h; rfl) | (obtain ⟨_, _, _, _, _, _, rfl, _⟩ := h; rfl) | (obtain ⟨_, _, _, _, _, _, _, rfl, _⟩ := h; rfl) | (obtain ⟨_, _, _, _, _, _, _, _, rfl, _⟩ := h; rfl) | (obtain ⟨_, _, _, _, _, _, _, _, _, rfl, _⟩ := h; rfl) | (obtain ⟨_, _, _, _, _, _, _, _, _, _, rfl, _⟩ := h; rfl) | (obtain ⟨_, _, _, _, _, _, _, _, _, _, _, rfl, _⟩ := h; rfl) | (obtain ⟨_, _, _, _, _, _, _, _, _, _, _, _, rfl, _⟩ := h; rfl) | (obtain ⟨_, _, _, _, _, _, _, _, _, _, _, _, _, rfl, _⟩ := h; rfl) | (obtain ⟨_, _, _, _, _, _, _, _, _, _, _, _, _, _, rfl, _⟩ := h; rfl) | (obtain ⟨_, _, _, _, _, _, _, _, _, _, _, _, _, _, _, rfl, _⟩ := h; rfl) | (obtain ⟨_, _, _, _, _, _, _, _, _, _, _, _, _, _, _, _, rfl, _⟩ := h; rfl) | (obtain ⟨_, _, _, _, _, _, _, _, _, _, _, _, _, _, _, _, _, rfl, _⟩ := h; rfl) | (obtain ⟨_, _, _, _, _, _, _, _, _, _, _, _, _, _, _, _, _, _, rfl, _⟩ := h; rfl) | (obtain ⟨_, _, _, _, _, _, _, _, _, _, _, _, _, _, _, _, _, _, _, rfl, _⟩ := h; rfl) | (obtain ⟨_, _, _, _, _, _, _, _, _, _, _, _, _, _, _, _, _, _, _, _, rfl, _⟩ := h; rfl) | (obtain ⟨_, _, _, _, _, _, _, _, _, _, _, _, _, _, _, _, _, _, _, _, _, rfl, _⟩ := h; rfl) | (obtain ⟨_, _, _, _, _, _, _, _, _, _, _, _, _, _, _, _, _, _, _, _, _, _, rfl, _⟩ := h; rfl) | (obtain ⟨_, _, _, _, _, _, _, _, _, _, _, _, _, _, _, _, _, _, _, _, _, _, _, rfl, _⟩ := h; rfl)
  · obtain ⟨x, ns, u, y, z, b, rfl, ⟨de, r, t, he, hr, ht⟩, q⟩ := h
    refine ⟨_, (pss_one (ps_ret (pe_fld (pv 0) (by rfl)))), ?_⟩
    exact ⟨_, rfl, x, C_Element, de, _, .ref r, rfl, he, T.cl_Element, T.na_Element_ring, lkR, q r hr⟩
theorem ok_check_one_ring (T : Txt K mg C_Form C_Ring C_Element) : Def P w K mg base 4 "check_one_ring" ["first", "second"] (sp_check_one_ring K C_Form C_Ring C_Element) := by
  obtain ⟨f_, fd_, g_, F_⟩ := T.d_check_one_ring
  obtain ⟨p_Element_ring, f_Element_ring, fd_Element_ring, R_Element_ring, b_Element_ring, G_Element_ring⟩ := (ok_Element_ring (P := P) (w := w) (base := base) T)
  obtain ⟨p_Ring___eq__, f_Ring___eq__, fd_Ring___eq__, R_Ring___eq__, b_Ring___eq__, G_Ring___eq__⟩ := (ok_Ring___eq__ (P := P) (w := w) (base := base) T)
  refine ⟨f_, fd_, g_, F_.kp, F_.binds (ps := ["first", "second"]) (fun _ _ _ _ _ _ us hl => match us, hl with | [_, _], _ => rfl), ?_⟩
  refine F_.ok sc_check_one_ring (fun vs H Q E h => ?_) (fun cdv A outer s H vs Q E hr h => ?_)
  · first | (obtain ⟨rfl, _⟩ := h; rfl) | (obtain ⟨_, rfl, _⟩ := h; rfl) | (obtain ⟨_, _, rfl, _⟩ := h; rfl) | (obtain ⟨_, _, _, rfl, _⟩ := h; rfl) | (obtain ⟨_, _, _, _, rfl, _⟩ := h; rfl) | (obtain ⟨_, _, _, _, _, rfl, _⟩ := h; rfl) | (obtain ⟨_, _, _, _, _, _, rfl, _⟩ := h; rfl) | (obtain ⟨_, _, _, _, _, _, _, rfl, _⟩ := h; rfl) | (obtain ⟨_, _, _, _, _, _, _, _, rfl, _⟩ := h; rfl) | (obtain ⟨_, _, _, _, _, _, _, _, _, rfl, _⟩ := h; rfl) | (obtain ⟨_, _, _, _, _, _, _, _, _, _, rfl, _⟩ := h; rfl) | (obtain ⟨_, _, _, _, _, _, _, _, _, _, _, rfl, _⟩ := h; rfl) | (obtain ⟨_, _, _, _, _, _, _, _, _, _, _, _, rfl, _⟩ := h; rfl) | (obtain ⟨_, _, _, _, _, _, _, _, _, _, _, _, _, rfl, _⟩ := h; rfl) | (obtain ⟨_, _, _, _, _, _, _, _, _, _, _, _, _, _, rfl, _⟩ := h; rfl) | (obtain ⟨_, _, _, _, _, _, _, _, _, _, _, _, _, _, _, rfl, _⟩ := h; rfl) | (obtain ⟨_, _, _, _, _, _, _, _, _, _, _, _, _, _, _, _, rfl, _⟩ := h; rfl) | (obtain ⟨_, _, _, _, _, _, _, _, _, _, _, _, _, _, _, _, _, rfl, _⟩ := h; rfl) | (obtain ⟨_, _, _, _, _, _, _, _, _, _, _, _, _, _, _, _, _, _, rfl, _⟩ := h; rfl) | (obtain ⟨_, _, _, _, _, _, _, _, _, _, _, _, _, _, _, _, _, _, _, rfl, _⟩ := h; rfl) | (obtain ⟨_, _, _, _, _, _, _, _, _, _, _, _, _, _, _, _, _, _, _, _, rfl, _⟩ := h; rfl) | (obtain ⟨_, _, _, _, _, _, _, _, _, _, _, _, _, _, _, _, _, _, _, _, _, rfl, _⟩ := h; rfl) | (obtain ⟨_, _, _, _, _, _, _, _, _, _, _, _, _, _, _, _, _, _, _, _, _, _, rfl, _⟩ := h; rfl) | (obtain ⟨_, _, _, _, _, _, _, _, _, _, _, _, _, _, _, _, _, _, _, _, _, _, _, rfl, _⟩ := h; rfl)
  · obtain ⟨x, x', ns, u, y, z, b, v, s', r', e, rfl, h1, h2, q⟩ := h
    obtain ⟨d1, r1, t1, g1, g2, g3⟩ := id h1
    obtain ⟨d2, r2, t2, k1, k2, k3⟩ := id h2
    refine ⟨_, (pss_one (ps_if (pt_cmpR (op_neI R_Ring___eq__ G_Ring___eq__ b_Ring___eq__ (hr.mono (by decide)) pass0) (pe_prop (pv 0) T.cl_Element R_Element_ring G_Element_ring (hr.mono (by decide)) b_Element_ring .nil pass0 (by rfl)) (pe_prop (pv 1) T.cl_Element R_Element_ring G_Element_ring (hr.mono (by decide)) b_Element_ring .nil pass0 (by rfl)) (nomark _))
      pss_never
      pss_nil)), ?_⟩
    refine ⟨_, rfl, x, d1, _, rfl, g1, x, ns, u, y, z, b, rfl, h1, fun q1 hq1 => ?_⟩
    refine ⟨_, rfl, x', d2, _, rfl, k1, x', ns, v, s', r', e, rfl, h2, fun q2 hq2 => ?_⟩
    obtain ⟨d3, f3, m1, m2⟩ := id hq1
    obtain ⟨d4, f4, n1, n2⟩ := id hq2
    refine ⟨q1, d3, _, _, rfl, m1, ty_ins T.ty_Ring T.cl_Ring n1, first_self, q1, .ref q2, ns, rfl, hq1, .inl ⟨q2, ns, rfl, hq2, _, rfl, _, rfl, ?_⟩⟩
    rw [decide_eq_true rfl]
    exact iteF q
theorem ok_Element___init__ (T : Txt K mg C_Form C_Ring C_Element) : MDef (fun p f => Mk K C_Element f) P w K mg base 2 ["self", "ring", "entries", "bottom"] (sp_Element___init__ K C_Form C_Ring C_Element) := by
  obtain ⟨p_, f_, fd_, R_, F_⟩ := T.e_Element___init__
  obtain ⟨f_shared_divisor, fd_shared_divisor, g_shared_divisor, k_shared_divisor, b_shared_divisor, G_shared_divisor⟩ := (ok_shared_divisor (P := P) (w := w) (base := base) T)
  refine ⟨p_, f_, fd_, R_, F_.binds (ps := ["self", "ring", "entries", "bottom"]) (fun _ _ _ _ _ _ us hl => match us, hl with | [_, _, _, _], _ => rfl), ?_⟩
  refine F_.ok sc_Element___init__ (fun vs H Q E h => ?_) (fun cdv A outer s H vs Q E hr h => ?_)
  · first | (obtain ⟨rfl, _⟩ := h; rfl) | (obtain ⟨_, rfl, _⟩ := h; rfl) | (obtain ⟨_, _, rfl, _⟩ := h; rfl) | (obtain ⟨_, _, _, rfl, _⟩ := h; rfl) | (obtain ⟨_, _, _, _, rfl, _⟩ := h; rfl) | (obtain ⟨_, _, _, _, _, rfl, _⟩ := h; rfl) | (obtain ⟨_, _, _, _, _, _, rfl, _⟩ := h; rfl) | (obtain ⟨_, _, _, _, _, _, _, rfl, _⟩ := h; rfl) | (obtain ⟨_, _, _, _, _, _, _, _, rfl, _⟩ := h; rfl) | (obtain ⟨_, _, _, _, _, _, _, _, _, rfl, _⟩ := h; rfl) | (obtain ⟨_, _, _, _, _, _, _, _, _, _, rfl, _⟩ := h; rfl) | (obtain ⟨_, _, _, _, _, _, _, _, _, _, _, rfl, _⟩ := h; rfl) | (obtain ⟨_, _, _, _, _, _, _, _, _, _, _, _, rfl, _⟩ := h; rfl) | (obtain ⟨_, _, _, _, _, _, _, _, _, _, _, _, _, rfl, _⟩ := h; rfl) | (obtain ⟨_, _, _, _, _, _, _, _, _, _, _, _, _, _, rfl, _⟩ := h; rfl) | (obtain ⟨_, _, _, _, _, _, _, _, _, _, _, _, _, _, _, rfl, _⟩ := h; rfl) | (obtain ⟨_, _, _, _, _, _, _, _, _, _, _, _, _, _, _, _, rfl, _⟩ := h; rfl) | (obtain ⟨_, _, _, _, _, _, _, _, _, _, _, _, _, _, _, _, _, rfl, _⟩ := h; rfl) | (obtain ⟨_, _, _, _, _, _, _, _, _, _, _, _, _, _, _, _, _, _, rfl, _⟩ := h; rfl) | (obtain ⟨_, _, _, _, _, _, _, _, _, _, _, _, _, _, _, _, _, _, _, rfl, _⟩ := h; rfl) | (obtain ⟨_, _, _, _, _, _, _, _, _, _, _, _, _, _, _, _, _, _, _, _, rfl, _⟩ := h; rfl) | (obtain ⟨_, _, _, _, _, _, _, _, _, _, _, _, _, _, _, _, _, _, _, _, _, rfl, _⟩ := h; rfl) | (obtain ⟨_, _, _, _, _, _, _, _, _, _, _, _, _, _, _, _, _, _, _, _, _, _, rfl, _⟩ := h; rfl) | (obtain ⟨_, _, _, _, _, _, _, _, _, _, _, _, _, _, _, _, _, _, _, _, _, _, _, rfl, _⟩ := h; rfl)
  · obtain ⟨x, dx, r, t, u, y, z, b, rfl, hx, ht, hb, bb, q⟩ := h
    refine ⟨_, (pss_cons (ps_set (i := 4) sc_Element___init__.nd rfl (.inr rfl) (pe_call G_shared_divisor (hr.mono (by decide)) (by rfl) g_shared_divisor k_shared_divisor b_shared_divisor .nil pass0 (pa_cons (pe_tup (pa_cons (pe_call G_shared_divisor (hr.mono (by decide)) (by rfl) g_shared_divisor k_shared_divisor b_shared_divisor .nil pass0 (pa_cons (pv 2) pa_nil)) (pa_cons (pv 3) pa_nil))) pa_nil)))
    (Evl.pss_cut (ps_if (pt_cmpR op_lt (pv 3) pe_int (nomark _))
      (pss_one (ps_set (i := 4) sc_Element___init__.nd rfl (.inr rfl) (pe_un un_neg (pv 4))))
      pss_nil)
    (pss_cons (ps_fld (pv 0) (pv 1) (by rfl))
    (pss_cons (ps_fld (pv 0) (pe_callTy call_tuple_of (by rfl) T.b_tuple (by decide +kernel) (pa_cons (pe_lc (own := [("number", 5)]) (g := (gName 5)) rfl sc_Element___init__.nd (pi_tup (pv 2)) (blkOk_by (N := N_Element___init__) (sc := defScope s_Element___init__) (by decide +kernel)) (fun _ _ _ _ _ => (pg_name (i := 5) sc_Element___init__.nd rfl (.inl rfl))) (fun _ _ _ _ _ => pts_nil) (fun _ _ _ _ _ => (pe_op op_fdivNW (pv 5) (pv 4)))) pa_nil)) (by rfl))
    (pss_one (ps_fld (pv 0) (pe_op op_fdivNW (pv 3) (pv 4)) (by rfl))))))), ?_⟩
    obtain ⟨g, u', y', z', b', eg, g0, bg, eu, ey, ez, eb, b0, hg⟩ := low_of u y z b hb bb
    refine ⟨_, rfl, t, [u, y, z], rfl, ht, _, rfl, sl2, fun T0 nT => ?_⟩
    refine ⟨T0, [(gcdL [u, y, z] : Int), b], rfl, SqT.of upd_same, ?_⟩
    refine ⟨fun σ H' => σ = [some (.ref x), some (.ref r), some (.ref t), some (.int b), some (.int g), none] ∧ Ex0 H H' ∧ H' x = some (.ins C_Element dx []), ?_, ?_⟩
    · have ex : Ex0 H (upd H T0 (.tup [.int (gcdL [u, y, z] : Int), .int b])) := Ex0.new nT
      refine ⟨_, rfl, _, _, rfl, rfl, _, rfl, iteD (fun n => ?_) (fun n => ?_)⟩
      · rw [if_pos n] at eg
        subst eg
        exact ⟨_, rfl, _, rfl, rfl, ex, ex.ap hx⟩
      · rw [if_neg n] at eg
        subst eg
        exact ⟨rfl, ex, ex.ap hx⟩
    rintro σ H1 ⟨rfl, e1, hx1⟩
    have ht1 := Ex0.tq e1 ht
    have dv : ∀ n m : Int, n = g * m → n.fdiv g = m := fun n m h => by rw [h]; exact Int.mul_fdiv_cancel_left m g0
    have cd : ∀ n : Int, CDivNW n g := fun n => ⟨g0, by have := log_lt bg.1 bg.2; omega⟩
    refine ⟨_, rfl, _, rfl, x, C_Element, dx, _, rfl, hx1, T.cl_Element, T.na_Element_ring, (by decide : (0:Nat) < 1000), ?_⟩
    have hxr : upd H1 x (.ins C_Element dx (putF ("_ring" : Str) (.ref r) [])) x = some (.ins C_Element dx (putF ("_ring" : Str) (.ref r) [])) := upd_same
    have ht2 : Tq K (upd H1 x (.ins C_Element dx (putF ("_ring" : Str) (.ref r) []))) t [u, y, z] := tq_upd ht1 hx1
    generalize hH2 : upd H1 x (.ins C_Element dx (putF ("_ring" : Str) (.ref r) [])) = H2 at hxr ht2 ⊢
    refine ⟨_, rfl, t, rfl, ⟨_, ht2⟩, ?_⟩
    refine lcT fm0 trivial ht2 (fun z => z) (fun i acc _ => acc = (([u', y', z'] : List Int).take i).map V.int) (fun _ _ => rfl) (fun D i n acc H' hD hn e hA hlen hp => ?_) (fun D H' acc hD e hA hp => ?_)
    · obtain ⟨m, hm, rfl⟩ := get_int hn
      refine ⟨rfl, ?_⟩
      refine ⟨_, rfl, _, rfl, m, g, rfl, rfl, cd m, ?_⟩
      have hi : i < 3 := (List.getElem?_eq_some_iff.mp hm).1
      refine cs_yes fm0 trivial hD e hA hlen (by omega) (Fx.refl trivial) ?_
      have hh : m.fdiv g = ([u', y', z'] : List Int).getD i 0 := by
        match i, hm with
        | 0, hm => exact dv m u' ((Option.some.inj hm).symm.trans eu)
        | 1, hm => exact dv m y' ((Option.some.inj hm).symm.trans ey)
        | 2, hm => exact dv m z' ((Option.some.inj hm).symm.trans ez)
      show acc ++ [V.int (m.fdiv g)] = _
      rw [hp, hh]
      match i, hi with
      | 0, _ => rfl
      | 1, _ => rfl
      | 2, _ => rfl
    · refine ⟨D, _, rfl, .inl ⟨SqL.of hA, fun p np => ?_⟩⟩
      have hp' : acc = [.int u', .int y', .int z'] := hp
      subst hp'
      have hx3 := Ex0.ap (Fx.trans e (Ex0.new (o := .tup [.int u', .int y', .int z']) np)) hxr
      refine ⟨_, rfl, x, C_Element, dx, _, rfl, hx3, T.cl_Element, T.na_Element_entries, (by decide : (1:Nat) < 1000), ?_⟩
      refine ⟨_, rfl, _, rfl, b, g, rfl, rfl, cd b, _, rfl, x, C_Element, dx, _, rfl, upd_same, T.cl_Element, T.na_Element_bottom, (by decide : (2:Nat) < 1000), ?_⟩
      have npx : p ≠ x := (ne_of_none (Ex0.ap e hxr) np).symm
      refine q _ p u' y' z' b' ⟨g, eu, ey, ez, eb, b0, hg⟩ (fun c o n ec => ?_) npx ?_ ?_
      · rw [upd_ne n, upd_ne n]
        refine Ex0.ap (Ex0.new np) (Ex0.ap e ?_)
        rw [← hH2, upd_ne n]
        exact Ex0.ap e1 ec
      · rw [upd_same]
        show some (HO.ins C_Element dx (putF ("_bottom" : Str) (.int (b.fdiv g)) _)) = _
        rw [dv b b' eb]
        rfl
      · show upd (upd _ x _) x _ p = _
        rw [upd_ne npx, upd_ne npx]
        exact upd_same
end
end RG
namespace RG
open PySem PySem.Spec PyProof.Rows L2 Fr
theorem w_B {a b c d : Int} (h : B4 1000 a b c d) : B3 2100 (-a * c) b (-a) ∧ B3 2100 (-a * d) 0 0 ∧ B3 2100 (-b * d) d (-c) := by
  obtain ⟨ba, bb, bc, bd⟩ := h
  have z : B 2100 0 := B0 (by decide)
  exact ⟨⟨(B.mul ba.neg bc).mono (by decide), bb.mono (by decide), ba.neg.mono (by decide)⟩, ⟨(B.mul ba.neg bd).mono (by decide), z, z⟩, ⟨(B.mul bb.neg bd).mono (by decide), bd.mono (by decide), bc.neg.mono (by decide)⟩⟩
theorem B3.mono {n m : Nat} {a b c : Int} (h : B3 n a b c) (k : n ≤ m) : B3 m a b c := ⟨h.1.mono k, h.2.1.mono k, h.2.2.mono k⟩
theorem B4.mono {n m : Nat} {a b c d : Int} (h : B4 n a b c d) (k : n ≤ m) : B4 m a b c d := ⟨h.1.mono k, h.2.1.mono k, h.2.2.1.mono k, h.2.2.2.mono k⟩
theorem tr_eq (a b c d u y z : Int) : m0 (-a * c) (-a * d) (-b * d) u y z 1 0 0 + m1 b 0 d u y z 0 1 0 + m2 (-a) 0 (-c) u y z 0 0 1 = tr a b c d u y z := by
  unfold m0 m1 m2 tr
  grind
theorem el_made {C C_R C_E : Addr} {H H' : Hp} {x dx r t t' : Addr} {ns : List Int} {u y z b : Int} {o1 o2 : HO} (nx : H x = none) (ndx : H dx = none) (hr : RingAt C C_R H r ns) (e1 : ∀ c o, c ≠ x → (upd (upd H dx o1) x o2) c = some o → H' c = some o)
    (e2 : H' x = some (.ins C_E dx [(("_ring" : Str), .ref r), (("_entries" : Str), .ref t'), (("_bottom" : Str), .int b)])) (e3 : Ti H' t' [u, y, z]) : Ex0 H H' ∧ ElAt C C_R C_E H' x ns u y z b := by
  have ex := made_ex nx ndx e1
  exact ⟨ex, dx, r, t', e2, Ex0.ri ex hr, e3⟩
section
variable {P : Program} {w : World} {K : PySem.W.Frag} {mg : Str → Option Value} {base : Heap} {C_Form C_Ring C_Element : Addr}
theorem ok_Ring_element (T : Txt K mg C_Form C_Ring C_Element) : MDefD (fun p f => Meth K C_Ring "element" f) P w K mg base 6 ["self", "entries", "bottom"] [.int 1] (sp_Ring_element K C_Form C_Ring C_Element) := by
  obtain ⟨p_, f_, fd_, R_, F_⟩ := T.e_Ring_element
  obtain ⟨p_Element___init__, f_Element___init__, fd_Element___init__, R_Element___init__, b_Element___init__, G_Element___init__⟩ := (ok_Element___init__ (P := P) (w := w) (base := base) T)
  obtain ⟨f_are_short_integers, fd_are_short_integers, g_are_short_integers, k_are_short_integers, b_are_short_integers, G_are_short_integers⟩ := (ok_are_short_integers (P := P) (w := w) (base := base) T)
  obtain ⟨f_check_bottom, fd_check_bottom, g_check_bottom, k_check_bottom, b_check_bottom, G_check_bottom⟩ := (ok_check_bottom (P := P) (w := w) (base := base) T)
  obtain ⟨ds_, v_, d_⟩ := F_.binds1 (ps := ["self", "entries", "bottom"]) 2 0 (by simp) (by rfl) (fun _ _ _ _ _ _ _ us its l1 l2 => match us, its, l1, l2 with | [_, _], [_], _, _ => ⟨_, rfl, rfl⟩)
  obtain ⟨dz_, w_, b_⟩ := F_.binds1 (ps := ["self", "entries", "bottom"]) 3 1 (by simp) (by rfl) (fun _ _ _ _ _ _ _ us its l1 l2 => match us, its, l1, l2 with | [_, _, _], [_], _, _ => ⟨_, rfl, rfl⟩)
  cases w_
  refine ⟨p_, f_, fd_, ds_, R_, b_, v_, d_, ?_⟩
  refine FunD.ok F_ sc_Ring_element (fun vs H Q E h => ?_) (fun cdv A outer s H vs Q E hr h => ?_)
  · first | (obtain ⟨rfl, _⟩ := h; rfl) | (obtain ⟨_, rfl, _⟩ := h; rfl) | (obtain ⟨_, _, rfl, _⟩ := h; rfl) | (obtain ⟨_, _, _, rfl, _⟩ := h; rfl) | (obtain ⟨_, _, _, _, rfl, _⟩ := h; rfl) | (obtain ⟨_, _, _, _, _, rfl, _⟩ := h; rfl) | (obtain ⟨_, _, _, _, _, _, rfl, _⟩ := h; rfl) | (obtain ⟨_, _, _, _, _, _, _, rfl, _⟩ := h; rfl) | (obtain ⟨_, _, _, _, _, _, _, _, rfl, _⟩ := h; rfl) | (obtain ⟨_, _, _, _, _, _, _, _, _, rfl, _⟩ := h; rfl) | (obtain ⟨_, _, _, _, _, _, _, _, _, _, rfl, _⟩ := h; rfl) | (obtain ⟨_, _, _, _, _, _, _, _, _, _, _, rfl, _⟩ := h; rfl) | (obtain ⟨_, _, _, _, _, _, _, _, _, _, _, _, rfl, _⟩ := h; rfl) | (obtain ⟨_, _, _, _, _, _, _, _, _, _, _, _, _, rfl, _⟩ := h; rfl) | (obtain ⟨_, _, _, _, _, _, _, _, _, _, _, _, _, _, rfl, _⟩ := h; rfl) | (obtain ⟨_, _, _, _, _, _, _, _, _, _, _, _, _, _, _, rfl, _⟩ := h; rfl) | (obtain ⟨_, _, _, _, _, _, _, _, _, _, _, _, _, _, _, _, rfl, _⟩ := h; rfl) | (obtain ⟨_, _, _, _, _, _, _, _, _, _, _, _, _, _, _, _, _, rfl, _⟩ := h; rfl) | (obtain ⟨_, _, _, _, _, _, _, _, _, _, _, _, _, _, _, _, _, _, rfl, _⟩ := h; rfl) | (obtain ⟨_, _, _, _, _, _, _, _, _, _, _, _, _, _, _, _, _, _, _, rfl, _⟩ := h; rfl) | (obtain ⟨_, _, _, _, _, _, _, _, _, _, _, _, _, _, _, _, _, _, _, _, rfl, _⟩ := h; rfl) | (obtain ⟨_, _, _, _, _, _, _, _, _, _, _, _, _, _, _, _, _, _, _, _, _, rfl, _⟩ := h; rfl) | (obtain ⟨_, _, _, _, _, _, _, _, _, _, _, _, _, _, _, _, _, _, _, _, _, _, rfl, _⟩ := h; rfl) | (obtain ⟨_, _, _, _, _, _, _, _, _, _, _, _, _, _, _, _, _, _, _, _, _, _, _, rfl, _⟩ := h; rfl)
  · obtain ⟨r, t, ns, u, y, z, b, rfl, hR, ht, su, sy, sz, sb, hb, q⟩ := h
    refine ⟨_, (pss_cons (ps_if (pt_not (pt_val (pe_call G_are_short_integers (hr.mono (by decide)) (by rfl) g_are_short_integers k_are_short_integers b_are_short_integers .nil pass0 (pa_cons (pv 1) (pa_cons pe_int pa_nil)))))
      pss_never
      pss_nil)
    (pss_cons (ps_expr (pe_call G_check_bottom (hr.mono (by decide)) (by rfl) g_check_bottom k_check_bottom b_check_bottom .nil pass0 (pa_cons (pv 2) pa_nil)))
    (pss_one (ps_ret (pe_make R_Element___init__ G_Element___init__ (hr.mono (by decide)) (by rfl) T.g_Element b_Element___init__ .nil pass0 (pa_cons (pv 0) (pa_cons (pv 1) (pa_cons (pv 2) pa_nil)))))))), ?_⟩
    refine ⟨_, rfl, t, [u, y, z], rfl, ht, by show 3 ≤ 1000; decide, fun n hn => ?_, fun H1 e1 => ⟨_, rfl, ?_⟩⟩
    · simp only [List.mem_cons, List.mem_nil_iff, or_false] at hn
      rcases hn with rfl | rfl | rfl <;> assumption
    refine iteF ⟨_, rfl, b, rfl, sb, hb, ?_⟩
    refine ⟨_, rfl, _, rfl, _, rfl, fun x dx nx ndx _ => ?_⟩
    have ht1 := Ex0.ti e1 ht
    refine ⟨x, dx, r, t, u, y, z, b, rfl, upd_same, SqT.of (made_at nx ndx ht1), hb, sb.b.mono (by decide), fun H2 t' u' y' z' b' low e2 nt e3 ht' => ⟨rfl, ?_⟩⟩
    obtain ⟨f1, f2⟩ := el_made (t := t) nx ndx (Ex0.ri e1 hR) e2 e3 ht'
    exact q x H2 u' y' z' b' low (e1.trans f1) f2
theorem ok_Element___mul__ (T : Txt K mg C_Form C_Ring C_Element) : MDef (fun p f => BinC K C_Element "__mul__" f) P w K mg base 5 ["self", "other"] (sp_Element___mul__ K C_Form C_Ring C_Element) := by
  obtain ⟨p_, f_, fd_, R_, F_⟩ := T.e_Element___mul__
  obtain ⟨p_Element___init__, f_Element___init__, fd_Element___init__, R_Element___init__, b_Element___init__, G_Element___init__⟩ := (ok_Element___init__ (P := P) (w := w) (base := base) T)
  obtain ⟨f_check_one_ring, fd_check_one_ring, g_check_one_ring, k_check_one_ring, b_check_one_ring, G_check_one_ring⟩ := (ok_check_one_ring (P := P) (w := w) (base := base) T)
  obtain ⟨f_product_by, fd_product_by, g_product_by, k_product_by, b_product_by, G_product_by⟩ := (ok_product_by (P := P) (w := w) (base := base) T)
  obtain ⟨f_table_for, fd_table_for, g_table_for, k_table_for, b_table_for, G_table_for⟩ := (ok_table_for (P := P) (w := w) (base := base) T)
  refine ⟨p_, f_, fd_, R_, F_.binds (ps := ["self", "other"]) (fun _ _ _ _ _ _ us hl => match us, hl with | [_, _], _ => rfl), ?_⟩
  refine F_.ok sc_Element___mul__ (fun vs H Q E h => ?_) (fun cdv A outer s H vs Q E hr h => ?_)
  · first | (obtain ⟨rfl, _⟩ := h; rfl) | (obtain ⟨_, rfl, _⟩ := h; rfl) | (obtain ⟨_, _, rfl, _⟩ := h; rfl) | (obtain ⟨_, _, _, rfl, _⟩ := h; rfl) | (obtain ⟨_, _, _, _, rfl, _⟩ := h; rfl) | (obtain ⟨_, _, _, _, _, rfl, _⟩ := h; rfl) | (obtain ⟨_, _, _, _, _, _, rfl, _⟩ := h; rfl) | (obtain ⟨_, _, _, _, _, _, _, rfl, _⟩ := h; rfl) | (obtain ⟨_, _, _, _, _, _, _, _, rfl, _⟩ := h; rfl) | (obtain ⟨_, _, _, _, _, _, _, _, _, rfl, _⟩ := h; rfl) | (obtain ⟨_, _, _, _, _, _, _, _, _, _, rfl, _⟩ := h; rfl) | (obtain ⟨_, _, _, _, _, _, _, _, _, _, _, rfl, _⟩ := h; rfl) | (obtain ⟨_, _, _, _, _, _, _, _, _, _, _, _, rfl, _⟩ := h; rfl) | (obtain ⟨_, _, _, _, _, _, _, _, _, _, _, _, _, rfl, _⟩ := h; rfl) | (obtain ⟨_, _, _, _, _, _, _, _, _, _, _, _, _, _, rfl, _⟩ := h; rfl) | (obtain ⟨_, _, _, _, _, _, _, _, _, _, _, _, _, _, _, rfl, _⟩ := h; rfl) | (obtain ⟨_, _, _, _, _, _, _, _, _, _, _, _, _, _, _, _, rfl, _⟩ := h; rfl) | (obtain ⟨_, _, _, _, _, _, _, _, _, _, _, _, _, _, _, _, _, rfl, _⟩ := h; rfl) | (obtain ⟨_, _, _, _, _, _, _, _, _, _, _, _, _, _, _, _, _, _, rfl, _⟩ := h; rfl) | (obtain ⟨_, _, _, _, _, _, _, _, _, _, _, _, _, _, _, _, _, _, _, rfl, _⟩ := h; rfl) | (obtain ⟨_, _, _, _, _, _, _, _, _, _, _, _, _, _, _, _, _, _, _, _, rfl, _⟩ := h; rfl) | (obtain ⟨_, _, _, _, _, _, _, _, _, _, _, _, _, _, _, _, _, _, _, _, _, rfl, _⟩ := h; rfl) | (obtain ⟨_, _, _, _, _, _, _, _, _, _, _, _, _, _, _, _, _, _, _, _, _, _, rfl, _⟩ := h; rfl) | (obtain ⟨_, _, _, _, _, _, _, _, _, _, _, _, _, _, _, _, _, _, _, _, _, _, _, rfl, _⟩ := h; rfl)
  · obtain ⟨x, x', a, b, c, d, u, y, z, e, v, s', r', f, rfl, h1, h2, bz, bu, bv, be, bf, hne, q⟩ := h
    obtain ⟨dx, r, t, hx, hR, ht⟩ := id h1
    obtain ⟨dx2, r2, t2, hx2, hR2, ht2⟩ := id h2
    obtain ⟨v1, v2, v3⟩ := w_B bz
    refine ⟨_, (pss_cons (ps_if (pt_not (pt_val (pe_callB call_isi (by rfl) T.b_isinstance (by decide +kernel) (pa_cons (pv 1) (pa_cons (pe_glob (v := .ref C_Element) (by rfl) T.g_Element rfl) pa_nil)))))
      (pss_one ps_never)
      pss_nil)
    (pss_cons (ps_expr (pe_call G_check_one_ring (hr.mono (by decide)) (by rfl) g_check_one_ring k_check_one_ring b_check_one_ring .nil pass0 (pa_cons (pv 0) (pa_cons (pv 1) pa_nil))))
    (pss_cons (ps_set (i := 2) sc_Element___mul__.nd rfl (.inl rfl) (pe_call G_product_by (hr.mono (by decide)) (by rfl) g_product_by k_product_by b_product_by .nil pass0 (pa_cons (pe_call G_table_for (hr.mono (by decide)) (by rfl) g_table_for k_table_for b_table_for .nil pass0 (pa_cons (pe_fld (pv 0) (by rfl)) pa_nil)) (pa_cons (pe_fld (pv 0) (by rfl)) (pa_cons (pe_fld (pv 1) (by rfl)) pa_nil)))))
    (pss_one (ps_ret (pe_make R_Element___init__ G_Element___init__ (hr.mono (by decide)) (by rfl) T.g_Element b_Element___init__ .nil pass0 (pa_cons (pe_fld (pv 0) (by rfl)) (pa_cons (pv 2) (pa_cons (pe_op op_mulW (pe_fld (pv 0) (by rfl)) (pe_fld (pv 1) (by rfl))) pa_nil))))))))), ?_⟩
    refine ⟨_, rfl, _, _, _, _, true, rfl, .own _, ty_ins T.ty_Element T.cl_Element hx2, kit_self, _, rfl, ?_⟩
    refine iteF ⟨_, rfl, _, rfl, x, x', _, u, y, z, e, v, s', r', f, rfl, h1, h2, ?_⟩
    refine ⟨_, rfl, x, C_Element, dx, _, .ref r, rfl, hx, T.cl_Element, T.na_Element_ring, lkR, r, a, b, c, d, rfl, hR, bz, fun T1 H1 e1 hT => ?_⟩
    refine ⟨_, rfl, x, C_Element, dx, _, .ref t, rfl, e1.ap hx, T.cl_Element, T.na_Element_entries, lkE, ?_⟩
    refine ⟨_, rfl, x', C_Element, dx2, _, .ref t2, rfl, e1.ap hx2, T.cl_Element, T.na_Element_entries, lkE, ?_⟩
    refine ⟨T1, t, t2, _, _, _, _, _, _, _, _, _, u, y, z, v, s', r', rfl, hT, (Ex0.ti e1 ht).q, (Ex0.ti e1 ht2).q, v1, v2, v3, bu, bv, fun o H2 e2 ho => ?_⟩
    have e12 := e1.trans e2
    refine ⟨_, rfl, x, C_Element, dx, _, .ref r, rfl, Ex0.ap e12 hx, T.cl_Element, T.na_Element_ring, lkR, _, rfl, ?_⟩
    refine ⟨_, rfl, x, C_Element, dx, _, .int e, rfl, Ex0.ap e12 hx, T.cl_Element, T.na_Element_bottom, lkB, ?_⟩
    refine ⟨_, rfl, x', C_Element, dx2, _, .int f, rfl, Ex0.ap e12 hx2, T.cl_Element, T.na_Element_bottom, lkB, e, f, rfl, rfl, mulB be bf (by decide), fun y0 dy nx ndx _ => ?_⟩
    refine ⟨y0, dy, r, o, _, _, _, e * f, rfl, upd_same, SqT.of (made_at nx ndx ho), hne, (B.mul be bf).mono (by decide), fun H3 t' u' y' z' b' low e3 nt e4 ht' => ⟨rfl, ?_⟩⟩
    obtain ⟨f1, f2⟩ := el_made (t := o) nx ndx (Ex0.ri e12 hR) e3 e4 ht'
    exact q y0 H3 u' y' z' b' low (e12.trans f1) f2
end
end RG
namespace RG
open PySem PySem.Spec PyProof.Rows L2 Fr
theorem l33_new {H : Hp} {t1 t2 t3 x : Addr} {r1 r2 r3 : List Int} (n1 : H t1 = none) (n2 : upd H t1 (.tup (r1.map V.int)) t2 = none) (n3 : upd (upd H t1 (.tup (r1.map V.int))) t2 (.tup (r2.map V.int)) t3 = none)
    (n4 : upd (upd (upd H t1 (.tup (r1.map V.int))) t2 (.tup (r2.map V.int))) t3 (.tup (r3.map V.int)) x = none) :
    Ex0 H (upd (upd (upd (upd H t1 (.tup (r1.map V.int))) t2 (.tup (r2.map V.int))) t3 (.tup (r3.map V.int))) x (.lst [.ref t1, .ref t2, .ref t3])) ∧
      L33 (upd (upd (upd (upd H t1 (.tup (r1.map V.int))) t2 (.tup (r2.map V.int))) t3 (.tup (r3.map V.int))) x (.lst [.ref t1, .ref t2, .ref t3])) x r1 r2 r3 :=
  ⟨(((Ex0.new n1).trans (Ex0.new n2)).trans (Ex0.new n3)).trans (Ex0.new n4), t1, t2, t3, upd_same, Ex0.ap (Ex0.new n4) (Ex0.ap (Ex0.new n3) (Ex0.ap (Ex0.new n2) upd_same)), Ex0.ap (Ex0.new n4) (Ex0.ap (Ex0.new n3) upd_same), Ex0.ap (Ex0.new n4) upd_same⟩
theorem unL33 {K : PySem.W.Frag} {i1 i2 i3 i4 i5 i6 i7 i8 i9 : Nat} {σ : L2.St} {H : Hp} {t : Addr} {a b c d e f g h i : Int} {Q : L2.St → Hp → Prop} (q : L33 H t [a, b, c] [d, e, f] [g, h, i])
    (z : Q (((((((((σ.set i1 (some (.int a))).set i2 (some (.int b))).set i3 (some (.int c))).set i4 (some (.int d))).set i5 (some (.int e))).set i6 (some (.int f))).set i7 (some (.int g))).set i8 (some (.int h))).set i9 (some (.int i))) H) :
    gLst K 3 (gCons (gTup K 3 (gCons (gName i1) (gCons (gName i2) (gCons (gName i3) gNil)))) (gCons (gTup K 3 (gCons (gName i4) (gCons (gName i5) (gCons (gName i6) gNil)))) (gCons (gTup K 3 (gCons (gName i7) (gCons (gName i8) (gCons (gName i9) gNil)))) gNil))) (.ref t) σ H Q := by
  obtain ⟨t1, t2, t3, h0, h1, h2, h3⟩ := q
  refine ⟨t, _, rfl, SqL.of h0, rfl, _, _, rfl, ?_⟩
  refine ⟨t1, _, rfl, SqT.of h1, rfl, _, _, rfl, _, _, rfl, _, _, rfl, ⟨rfl, ?_⟩⟩
  refine ⟨_, _, rfl, ?_⟩
  refine ⟨t2, _, rfl, SqT.of h2, rfl, _, _, rfl, _, _, rfl, _, _, rfl, ⟨rfl, ?_⟩⟩
  refine ⟨_, _, rfl, ?_⟩
  exact ⟨t3, _, rfl, SqT.of h3, rfl, _, _, rfl, _, _, rfl, _, _, rfl, ⟨rfl, ⟨rfl, z⟩⟩⟩
theorem unM33 {K : PySem.W.Frag} {i1 i2 i3 i4 i5 i6 i7 i8 i9 : Nat} {σ : L2.St} {H : Hp} {t : Addr} {a b c d e f g h i : Int} {Q : L2.St → Hp → Prop} (q : M33 K H t [a, b, c] [d, e, f] [g, h, i])
    (z : Q (((((((((σ.set i1 (some (.int a))).set i2 (some (.int b))).set i3 (some (.int c))).set i4 (some (.int d))).set i5 (some (.int e))).set i6 (some (.int f))).set i7 (some (.int g))).set i8 (some (.int h))).set i9 (some (.int i))) H) :
    gLst K 3 (gCons (gTup K 3 (gCons (gName i1) (gCons (gName i2) (gCons (gName i3) gNil)))) (gCons (gTup K 3 (gCons (gName i4) (gCons (gName i5) (gCons (gName i6) gNil)))) (gCons (gTup K 3 (gCons (gName i7) (gCons (gName i8) (gCons (gName i9) gNil)))) gNil))) (.ref t) σ H Q := by
  obtain ⟨t1, t2, t3, h0, h1, h2, h3⟩ := q
  refine ⟨t, _, rfl, SqL.of h0, rfl, _, _, rfl, ?_⟩
  refine ⟨t1, _, rfl, h1, rfl, _, _, rfl, _, _, rfl, _, _, rfl, ⟨rfl, ?_⟩⟩
  refine ⟨_, _, rfl, ?_⟩
  refine ⟨t2, _, rfl, h2, rfl, _, _, rfl, _, _, rfl, _, _, rfl, ⟨rfl, ?_⟩⟩
  refine ⟨_, _, rfl, ?_⟩
  exact ⟨t3, _, rfl, h3, rfl, _, _, rfl, _, _, rfl, _, _, rfl, ⟨rfl, ⟨rfl, z⟩⟩⟩
def det3 (a b c d e f g h i : Int) : Int := a * (e * i - f * h) - b * (d * i - f * g) + c * (d * h - e * g)
def mn (a b c d e f g h i : Int) : Int := a * e - b * d + a * i - c * g + e * i - f * h
def Fq (a b p q : Int) : Prop := ∃ g : Int, 0 < g ∧ a = g * p ∧ b = g * q ∧ Nat.gcd p.natAbs q.natAbs = 1
section
def sp_determinant_by (_ : PySem.W.Frag) (C C_R C_E : Addr) : Sp := fun vs H Q _ => ∃ (t : Addr) (a b c d e f g h i : Int), vs = [.ref t] ∧ T33 H t [a, b, c] [d, e, f] [g, h, i] ∧ B3 20000 a b c ∧ B3 20000 d e f ∧ B3 20000 g h i ∧ Q (.int (det3 a b c d e f g h i)) H
def plA (a b c d e f g h i u x y : Int) : Int := m0 a d g u x y 1 0 0 + m1 b e h u x y 0 1 0 + m2 c f i u x y 0 0 1
def plB (a b c d e f g h i u x y : Int) : Int := mn (m0 a d g u x y 1 0 0) (m1 b e h u x y 1 0 0) (m2 c f i u x y 1 0 0) (m0 a d g u x y 0 1 0) (m1 b e h u x y 0 1 0) (m2 c f i u x y 0 1 0) (m0 a d g u x y 0 0 1) (m1 b e h u x y 0 0 1) (m2 c f i u x y 0 0 1)
def plC (a b c d e f g h i u x y : Int) : Int := det3 (m0 a d g u x y 1 0 0) (m1 b e h u x y 1 0 0) (m2 c f i u x y 1 0 0) (m0 a d g u x y 0 1 0) (m1 b e h u x y 0 1 0) (m2 c f i u x y 0 1 0) (m0 a d g u x y 0 0 1) (m1 b e h u x y 0 0 1) (m2 c f i u x y 0 0 1)
def sp_polynomial_by (K : PySem.W.Frag) (C C_R C_E : Addr) : Sp := fun vs H Q _ => ∃ (t l : Addr) (a b c d e f g h i u x y : Int), vs = [.ref t, .ref l] ∧ T33 H t [a, b, c] [d, e, f] [g, h, i] ∧ Tq K H l [u, x, y] ∧ B3 2100 a b c ∧ B3 2100 d e f ∧ B3 2100 g h i ∧ B3 9000 u x y ∧ ∀ o H', Ex0 H H' → Ti H' o [-plA a b c d e f g h i u x y, plB a b c d e f g h i u x y, -plC a b c d e f g h i u x y] → Q (.ref o) H'
def sp_Element_entries (_ : PySem.W.Frag) (C C_R C_E : Addr) : Sp := fun vs H Q _ => ∃ (x : Addr) (ns : List Int) (u y z b : Int), vs = [.ref x] ∧ ElAt C C_R C_E H x ns u y z b ∧ ∀ t, Ti H t [u, y, z] → Q (.ref t) H
def sp_Element_bottom (_ : PySem.W.Frag) (C C_R C_E : Addr) : Sp := fun vs H Q _ => ∃ (x : Addr) (ns : List Int) (u y z b : Int), vs = [.ref x] ∧ ElAt C C_R C_E H x ns u y z b ∧ Q (.int b) H
def qA (a b c d u y z : Int) : Int := plA (-a * c) b (-a) (-a * d) 0 0 (-b * d) d (-c) u y z
def qB (a b c d u y z : Int) : Int := plB (-a * c) b (-a) (-a * d) 0 0 (-b * d) d (-c) u y z
def qC (a b c d u y z : Int) : Int := plC (-a * c) b (-a) (-a * d) 0 0 (-b * d) d (-c) u y z
def sp_Element_norm (_ : PySem.W.Frag) (C C_R C_E : Addr) : Sp := fun vs H Q _ => ∃ (x : Addr) (a b c d u y z e : Int), vs = [.ref x] ∧ ElAt C C_R C_E H x [a, b, c, d] u y z e ∧ B4 1000 a b c d ∧ B3 9000 u y z ∧ 0 < e ∧ e < 2 ^ 900 ∧ ∀ o H' p q, Fq (qC a b c d u y z) (e * e * e) p q → Ex0 H H' → Ti H' o [p, q] → Q (.ref o) H'
def sp_Element_polynomial (_ : PySem.W.Frag) (C C_R C_E : Addr) : Sp := fun vs H Q _ => ∃ (x : Addr) (a b c d u y z e : Int), vs = [.ref x] ∧ ElAt C C_R C_E H x [a, b, c, d] u y z e ∧ B4 1000 a b c d ∧ B3 9000 u y z ∧ 0 < e ∧ e < 2 ^ 900 ∧ ∀ o H' p1 q1 p2 q2 p3 q3, Fq (-qA a b c d u y z) e p1 q1 → Fq (qB a b c d u y z) (e * e) p2 q2 → Fq (-qC a b c d u y z) (e * e * e) p3 q3 → Ex0 H H' → T33 H' o [p1, q1] [p2, q2] [p3, q3] → Q (.ref o) H'
def sp_Ring_one (_ : PySem.W.Frag) (C C_R C_E : Addr) : Sp := fun vs H Q _ => ∃ (r : Addr) (ns : List Int), vs = [.ref r] ∧ RingAt C C_R H r ns ∧ ∀ x H', Ex0 H H' → ElAt C C_R C_E H' x ns 1 0 0 1 → Q (.ref x) H'
def sp_Ring_w (_ : PySem.W.Frag) (C C_R C_E : Addr) : Sp := fun vs H Q _ => ∃ (r : Addr) (ns : List Int), vs = [.ref r] ∧ RingAt C C_R H r ns ∧ ∀ x H', Ex0 H H' → ElAt C C_R C_E H' x ns 0 1 0 1 → Q (.ref x) H'
def sp_Ring_t (_ : PySem.W.Frag) (C C_R C_E : Addr) : Sp := fun vs H Q _ => ∃ (r : Addr) (ns : List Int), vs = [.ref r] ∧ RingAt C C_R H r ns ∧ ∀ x H', Ex0 H H' → ElAt C C_R C_E H' x ns 0 0 1 1 → Q (.ref x) H'
def sp_mixed (_ : PySem.W.Frag) (C C_R C_E : Addr) : Sp := fun vs H Q _ => ∃ (x x' : Addr) (ns ms : List Int) (u y z e v s r f n : Int), vs = [.ref x, .ref x', .int n] ∧ ElAt C C_R C_E H x ns u y z e ∧ ElAt C C_R C_E H x' ms v s r f ∧ B3 9000 u y z ∧ B3 9000 v s r ∧ B 1000 e ∧ B 1000 f ∧ e * f ≠ 0 ∧ (n = 1 ∨ n = -1) ∧ ∀ o H' u' y' z' b', Low (u * f + v * (n * e)) (y * f + s * (n * e)) (z * f + r * (n * e)) (e * f) u' y' z' b' → Ex0 H H' → ElAt C C_R C_E H' o ns u' y' z' b' → Q (.ref o) H'
def sp_Element___add__ (_ : PySem.W.Frag) (C C_R C_E : Addr) : Sp := fun vs H Q _ => ∃ (x x' : Addr) (ns : List Int) (u y z e v s r f : Int), vs = [.ref x, .ref x'] ∧ ElAt C C_R C_E H x ns u y z e ∧ ElAt C C_R C_E H x' ns v s r f ∧ B3 9000 u y z ∧ B3 9000 v s r ∧ B 1000 e ∧ B 1000 f ∧ e * f ≠ 0 ∧ ∀ o H' u' y' z' b', Low (u * f + v * (1 * e)) (y * f + s * (1 * e)) (z * f + r * (1 * e)) (e * f) u' y' z' b' → Ex0 H H' → ElAt C C_R C_E H' o ns u' y' z' b' → Q (.ref o) H'
def sp_Element_scaled (_ : PySem.W.Frag) (C C_R C_E : Addr) : Sp := fun vs H Q _ => ∃ (x : Addr) (ns : List Int) (u y z e n m : Int), vs = [.ref x, .int n, .int m] ∧ ElAt C C_R C_E H x ns u y z e ∧ B3 9000 u y z ∧ B 1000 e ∧ e ≠ 0 ∧ Short n ∧ Short m ∧ m ≠ 0 ∧ ∀ o H' u' y' z' b', Low (u * n) (y * n) (z * n) (e * m) u' y' z' b' → Ex0 H H' → ElAt C C_R C_E H' o ns u' y' z' b' → Q (.ref o) H'
def sp_Element___bool__ (_ : PySem.W.Frag) (C C_R C_E : Addr) : Sp := fun vs H Q _ => ∃ (x : Addr) (ns : List Int) (u y z b : Int), vs = [.ref x] ∧ ElAt C C_R C_E H x ns u y z b ∧ Q (.bl ([u, y, z].any (fun n => n != 0))) H
end
section
variable {P : Program} {w : World} {K : PySem.W.Frag} {mg : Str → Option Value} {base : Heap} {C_Form C_Ring C_Element : Addr}
theorem ok_Element_entries (T : Txt K mg C_Form C_Ring C_Element) : MDef (fun p f => PropOf K C_Element "entries" p f) P w K mg base 1 ["self"] (sp_Element_entries K C_Form C_Ring C_Element) := by
  obtain ⟨p_, f_, fd_, R_, F_⟩ := T.e_Element_entries
  refine ⟨p_, f_, fd_, R_, F_.binds (ps := ["self"]) (fun _ _ _ _ _ _ us hl => match us, hl with | [_], _ => rfl), ?_⟩
  refine F_.ok sc_Element_entries (fun vs H Q E h => ?_) (fun cdv A outer s H vs Q E hr h => ?_)
  · first | (obtain ⟨rfl, _⟩ := h; rfl) | (obtain ⟨_, rfl, _⟩ := h; rfl) | (obtain ⟨_, _, rfl, _⟩ := h; rfl) | (obtain ⟨_, _, _, rfl, _⟩ := h; rfl) | (obtain ⟨_, _, _, _, rfl, _⟩ := h; rfl) | (obtain ⟨_, _, _, _, _, rfl, _⟩ := h; rfl) | (obtain ⟨_, _, _, _, _, _, rfl, _⟩ := h; rfl) | (obtain ⟨_, _, _, _, _, _, _, rfl, _⟩ := h; rfl) | (obtain ⟨_, _, _, _, _, _, _, _, rfl, _⟩ := h; rfl) | (obtain ⟨_, _, _, _, _, _, _, _, _, rfl, _⟩ := h; rfl) | (obtain ⟨_, _, _, _, _, _, _, _, _, _, rfl, _⟩ := h; rfl) | (obtain ⟨_, _, _, _, _, _, _, _, _, _, _, rfl, _⟩ := h; rfl) | (obtain ⟨_, _, _, _, _, _, _, _, _, _, _, _, rfl, _⟩ := h; rfl) | (obtain ⟨_, _, _, _, _, _, _, _, _, _, _, _, _, rfl, _⟩ := h; rfl) | (obtain ⟨_, _, _, _, _, _, _, _, _, _, _, _, _, _, rfl, _⟩ := h; rfl) | (obtain ⟨_, _, _, _, _, _, _, _, _, _, _, _, _, _, _, rfl, _⟩ := h; rfl) | (obtain ⟨_, _, _, _, _, _, _, _, _, _, _, _, _, _, _, _, rfl, _⟩ := h; rfl) | (obtain ⟨_, _, _, _, _, _, _, _, _, _, _, _, _, _, _, _, _, rfl, _⟩ := h; rfl) | (obtain ⟨_, _, _, _, _, _, _, _, _, _, _, _, _, _, _, _, _, _, rfl, _⟩ := h; rfl) | (obtain ⟨_, _, _, _, _, _, _, _, _, _, _, _, _, _, _, _, _, _, _, rfl, _⟩ := h; rfl) | (obtain ⟨_, _, _, _, _, _, _, _, _, _, _, _, _, _, _, _, _, _, _, _, rfl, _⟩ := h; rfl) | (obtain ⟨_, _, _, _, _, _, _, _, _, _, _, _, _, _, _, _, _, _, _, _, _, rfl, _⟩ := h; rfl) | (obtain ⟨_, _, _, _, _, _, _, _, _, _, _, _, _, _, _, _, _, _, _, _, _, _, rfl, _⟩ := h; rfl) | (obtain ⟨_, _, _, _, _, _, _, _, _, _, _, _, _, _, _, _, _, _, _, _, _, _, _, rfl, _⟩ := h; rfl)
  · obtain ⟨x, ns, u, y, z, b, rfl, ⟨de, r, t, he, hr, ht⟩, q⟩ := h
    refine ⟨_, (pss_one (ps_ret (pe_fld (pv 0) (by rfl)))), ?_⟩
    exact ⟨_, rfl, x, C_Element, de, _, .ref t, rfl, he, T.cl_Element, T.na_Element_entries, lkE, q t ht⟩
theorem ok_Element_bottom (T : Txt K mg C_Form C_Ring C_Element) : MDef (fun p f => PropOf K C_Element "bottom" p f) P w K mg base 1 ["self"] (sp_Element_bottom K C_Form C_Ring C_Element) := by
  obtain ⟨p_, f_, fd_, R_, F_⟩ := T.e_Element_bottom
  refine ⟨p_, f_, fd_, R_, F_.binds (ps := ["self"]) (fun _ _ _ _ _ _ us hl => match us, hl with | [_], _ => rfl), ?_⟩
  refine F_.ok sc_Element_bottom (fun vs H Q E h => ?_) (fun cdv A outer s H vs Q E hr h => ?_)
  · first | (obtain ⟨rfl, _⟩ := h; rfl) | (obtain ⟨_, rfl, _⟩ := h; rfl) | (obtain ⟨_, _, rfl, _⟩ := h; rfl) | (obtain ⟨_, _, _, rfl, _⟩ := h; rfl) | (obtain ⟨_, _, _, _, rfl, _⟩ := h; rfl) | (obtain ⟨_, _, _, _, _, rfl, _⟩ := h; rfl) | (obtain ⟨_, _, _, _, _, _, rfl, _⟩ := h; rfl) | (obtain ⟨_, _, _, _, _, _, _, rfl, _⟩ := h; rfl) | (obtain ⟨_, _, _, _, _, _, _, _, rfl, _⟩ := h; rfl) | (obtain ⟨_, _, _, _, _, _, _, _, _, rfl, _⟩ := h; rfl) | (obtain ⟨_, _, _, _, _, _, _, _, _, _, rfl, _⟩ := h; rfl) | (obtain ⟨_, _, _, _, _, _, _, _, _, _, _, rfl, _⟩ := h; rfl) | (obtain ⟨_, _, _, _, _, _, _, _, _, _, _, _, rfl, _⟩ := h; rfl) | (obtain ⟨_, _, _, _, _, _, _, _, _, _, _, _, _, rfl, _⟩ := h; rfl) | (obtain ⟨_, _, _, _, _, _, _, _, _, _, _, _, _, _, rfl, _⟩ := h; rfl) | (obtain ⟨_, _, _, _, _, _, _, _, _, _, _, _, _, _, _, rfl, _⟩ := h; rfl) | (obtain ⟨_, _, _, _, _, _, _, _, _, _, _, _, _, _, _, _, rfl, _⟩ := h; rfl) | (obtain ⟨_, _, _, _, _, _, _, _, _, _, _, _, _, _, _, _, _, rfl, _⟩ := h; rfl) | (obtain ⟨_, _, _, _, _, _, _, _, _, _, _, _, _, _, _, _, _, _, rfl, _⟩ := h; rfl) | (obtain ⟨_, _, _, _, _, _, _, _, _, _, _, _, _, _, _, _, _, _, _, rfl, _⟩ := h; rfl) | (obtain ⟨_, _, _, _, _, _, _, _, _, _, _, _, _, _, _, _, _, _, _, _, rfl, _⟩ := h; rfl) | (obtain ⟨_, _, _, _, _, _, _, _, _, _, _, _, _, _, _, _, _, _, _, _, _, rfl, _⟩ := h; rfl) | (obtain ⟨_, _, _, _, _, _, _, _, _, _, _, _, _, _, _, _, _, _, _, _, _, _, rfl, _⟩ := h; rfl) | (obtain ⟨_, _, _, _, _, _, _, _, _, _, _, _, _, _, _, _, _, _, _, _, _, _, _, rfl, _⟩ := h; rfl)
  · obtain ⟨x, ns, u, y, z, b, rfl, ⟨de, r, t, he, hr, ht⟩, q⟩ := h
    refine ⟨_, (pss_one (ps_ret (pe_fld (pv 0) (by rfl)))), ?_⟩
    exact ⟨_, rfl, x, C_Element, de, _, .int b, rfl, he, T.cl_Element, T.na_Element_bottom, lkB, q⟩
theorem ok_Element___bool__ (T : Txt K mg C_Form C_Ring C_Element) : MDef (fun p f => Meth K C_Element "__bool__" f) P w K mg base 1 ["self"] (sp_Element___bool__ K C_Form C_Ring C_Element) := by
  obtain ⟨p_, f_, fd_, R_, F_⟩ := T.e_Element___bool__
  refine ⟨p_, f_, fd_, R_, F_.binds (ps := ["self"]) (fun _ _ _ _ _ _ us hl => match us, hl with | [_], _ => rfl), ?_⟩
  refine F_.ok sc_Element___bool__ (fun vs H Q E h => ?_) (fun cdv A outer s H vs Q E hr h => ?_)
  · first | (obtain ⟨rfl, _⟩ := h; rfl) | (obtain ⟨_, rfl, _⟩ := h; rfl) | (obtain ⟨_, _, rfl, _⟩ := h; rfl) | (obtain ⟨_, _, _, rfl, _⟩ := h; rfl) | (obtain ⟨_, _, _, _, rfl, _⟩ := h; rfl) | (obtain ⟨_, _, _, _, _, rfl, _⟩ := h; rfl) | (obtain ⟨_, _, _, _, _, _, rfl, _⟩ := h; rfl) | (obtain ⟨_, _, _, _, _, _, _, rfl, _⟩ := h; rfl) | (obtain ⟨_, _, _, _, _, _, _, _, rfl, _⟩ := h; rfl) | (obtain ⟨_, _, _, _, _, _, _, _, _, rfl, _⟩ := h; rfl) | (obtain ⟨_, _, _, _, _, _, _, _, _, _, rfl, _⟩ := h; rfl) | (obtain ⟨_, _, _, _, _, _, _, _, _, _, _, rfl, _⟩ := h; rfl) | (obtain ⟨_, _, _, _, _, _, _, _, _, _, _, _, rfl, _⟩ := h; rfl) | (obtain ⟨_, _, _, _, _, _, _, _, _, _, _, _, _, rfl, _⟩ := h; rfl) | (obtain ⟨_, _, _, _, _, _, _, _, _, _, _, _, _, _, rfl, _⟩ := h; rfl) | (obtain ⟨_, _, _, _, _, _, _, _, _, _, _, _, _, _, _, rfl, _⟩ := h; rfl) | (obtain ⟨_, _, _, _, _, _, _, _, _, _, _, _, _, _, _, _, rfl, _⟩ := h; rfl) | (obtain ⟨_, _, _, _, _, _, _, _, _, _, _, _, _, _, _, _, _, rfl, _⟩ := h; rfl) | (obtain ⟨_, _, _, _, _, _, _, _, _, _, _, _, _, _, _, _, _, _, rfl, _⟩ := h; rfl) | (obtain ⟨_, _, _, _, _, _, _, _, _, _, _, _, _, _, _, _, _, _, _, rfl, _⟩ := h; rfl) | (obtain ⟨_, _, _, _, _, _, _, _, _, _, _, _, _, _, _, _, _, _, _, _, rfl, _⟩ := h; rfl) | (obtain ⟨_, _, _, _, _, _, _, _, _, _, _, _, _, _, _, _, _, _, _, _, _, rfl, _⟩ := h; rfl) | (obtain ⟨_, _, _, _, _, _, _, _, _, _, _, _, _, _, _, _, _, _, _, _, _, _, rfl, _⟩ := h; rfl) | (obtain ⟨_, _, _, _, _, _, _, _, _, _, _, _, _, _, _, _, _, _, _, _, _, _, _, rfl, _⟩ := h; rfl)
  · obtain ⟨x, ns, u, y, z, b, rfl, ⟨de, r, t, he, hr, ht⟩, q⟩ := h
    refine ⟨_, (pss_one (ps_ret (pe_callB (cr_anyT rfl) (by rfl) T.b_any (by decide +kernel) (pa_cons (pe_fld (pv 0) (by rfl)) pa_nil)))), ?_⟩
    exact ⟨_, rfl, x, C_Element, de, _, .ref t, rfl, he, T.cl_Element, T.na_Element_entries, lkE, t, [u, y, z], rfl, SqT.of ht, q⟩
end
end RG
namespace RG
open PySem PySem.Spec PyProof.Rows L2 Fr
theorem pow2 (e : Int) : e ^ (2 : Int).toNat = e * e := by
  show e ^ 2 = _
  rw [Int.pow_succ, Int.pow_succ, Int.pow_zero, Int.one_mul]
theorem pow3 (e : Int) : e ^ (3 : Int).toNat = e * e * e := by
  show e ^ 3 = _
  rw [Int.pow_succ, Int.pow_succ, Int.pow_succ, Int.pow_zero, Int.one_mul]
theorem cpow {e : Int} {k : Int} (h0 : 0 < e) (h1 : e < 2 ^ 900) (hk : 0 ≤ k ∧ k ≤ 3) : CPowC e k := by
  refine ⟨hk.1, ?_⟩
  have : Builtin.Int.intBits e ≤ 900 := intBits_le_iff.mpr (by
    have : ((e.natAbs : Nat) : Int) < ((2 ^ 900 : Nat) : Int) := by
      rw [Int.natAbs_of_nonneg (by omega)]
      exact_mod_cast h1
    exact Int.ofNat_lt.mp this)
  have h3 : (Builtin.Int.intBits e : Int) * k ≤ 900 * 3 := Int.mul_le_mul (by omega) hk.2 hk.1 (by decide)
  omega
theorem cube_lt {e : Int} (h0 : 0 < e) (h1 : e < 2 ^ 900) : e * e * e < 2 ^ 3000 := by
  have a1 : e * e ≤ 2 ^ 900 * 2 ^ 900 := Int.mul_le_mul (by omega) (by omega) (by omega) (by decide)
  have a2 : e * e * e ≤ (2 ^ 900 * 2 ^ 900) * 2 ^ 900 := Int.mul_le_mul a1 (by omega) (by omega) (by decide)
  exact Int.lt_of_le_of_lt a2 (by decide)
theorem sq_lt {e : Int} (h0 : 0 < e) (h1 : e < 2 ^ 900) : e * e < 2 ^ 3000 := by
  have a1 : e * e ≤ 2 ^ 900 * 2 ^ 900 := Int.mul_le_mul (by omega) (by omega) (by omega) (by decide)
  exact Int.lt_of_le_of_lt a1 (by decide)
theorem low1 {u y z u' y' z' b' : Int} (h : Low u y z 1 u' y' z' b') : u' = u ∧ y' = y ∧ z' = z ∧ b' = 1 := by
  obtain ⟨g, h1, h2, h3, h4, h5, _⟩ := h
  have g0 : 0 < g := by
    rcases Int.lt_or_le 0 g with k | k
    · exact k
    · have := Int.mul_nonneg (show 0 ≤ -g by omega) (show 0 ≤ b' by omega)
      rw [Int.neg_mul] at this
      omega
  have g1 : g = 1 := by
    rcases Int.lt_or_le 1 g with k | k
    · have := Int.mul_le_mul_of_nonneg_left (show 1 ≤ b' by omega) (show 0 ≤ g by omega)
      omega
    · omega
  subst g1
  omega
theorem tq_made {K : PySem.W.Frag} {H : Hp} {x dx t : Addr} {o1 o2 : HO} {ns : List Int} (nx : H x = none) (ndx : H dx = none) (h : Tq K H t ns) : Tq K (upd (upd H dx o1) x o2) t ns := by
  rcases h with h | h
  · left
    rcases h with h | ⟨o, h⟩
    · left
      rw [upd_ne (ne_of_none h nx), upd_ne (ne_of_none h ndx)]
      exact h
    · right
      refine ⟨o, ?_⟩
      rw [upd_ne (ne_of_none h nx), upd_ne (ne_of_none h ndx)]
      exact h
  · exact .inr h
section
variable {P : Program} {w : World} {K : PySem.W.Frag} {mg : Str → Option Value} {base : Heap} {C_Form C_Ring C_Element : Addr}
theorem ok_Ring_one (T : Txt K mg C_Form C_Ring C_Element) : MDef (fun p f => Meth K C_Ring "one" f) P w K mg base 4 ["self"] (sp_Ring_one K C_Form C_Ring C_Element) := by
  obtain ⟨p_, f_, fd_, R_, F_⟩ := T.e_Ring_one
  obtain ⟨p_Element___init__, f_Element___init__, fd_Element___init__, R_Element___init__, b_Element___init__, G_Element___init__⟩ := (ok_Element___init__ (P := P) (w := w) (base := base) T)
  refine ⟨p_, f_, fd_, R_, F_.binds (ps := ["self"]) (fun _ _ _ _ _ _ us hl => match us, hl with | [_], _ => rfl), ?_⟩
  refine F_.ok sc_Ring_one (fun vs H Q E h => ?_) (fun cdv A outer s H vs Q E hr h => ?_)
  · first | (obtain ⟨rfl, _⟩ := h; rfl) | (obtain ⟨_, rfl, _⟩ := h; rfl) | (obtain ⟨_, _, rfl, _⟩ := h; rfl) | (obtain ⟨_, _, _, rfl, _⟩ := h; rfl) | (obtain ⟨_, _, _, _, rfl, _⟩ := h; rfl) | (obtain ⟨_, _, _, _, _, rfl, _⟩ := h; rfl) | (obtain ⟨_, _, _, _, _, _, rfl, _⟩ := h; rfl) | (obtain ⟨_, _, _, _, _, _, _, rfl, _⟩ := h; rfl) | (obtain ⟨_, _, _, _, _, _, _, _, rfl, _⟩ := h; rfl) | (obtain ⟨_, _, _, _, _, _, _, _, _, rfl, _⟩ := h; rfl) | (obtain ⟨_, _, _, _, _, _, _, _, _, _, rfl, _⟩ := h; rfl) | (obtain ⟨_, _, _, _, _, _, _, _, _, _, _, rfl, _⟩ := h; rfl) | (obtain ⟨_, _, _, _, _, _, _, _, _, _, _, _, rfl, _⟩ := h; rfl) | (obtain ⟨_, _, _, _, _, _, _, _, _, _, _, _, _, rfl, _⟩ := h; rfl) | (obtain ⟨_, _, _, _, _, _, _, _, _, _, _, _, _, _, rfl, _⟩ := h; rfl) | (obtain ⟨_, _, _, _, _, _, _, _, _, _, _, _, _, _, _, rfl, _⟩ := h; rfl) | (obtain ⟨_, _, _, _, _, _, _, _, _, _, _, _, _, _, _, _, rfl, _⟩ := h; rfl) | (obtain ⟨_, _, _, _, _, _, _, _, _, _, _, _, _, _, _, _, _, rfl, _⟩ := h; rfl) | (obtain ⟨_, _, _, _, _, _, _, _, _, _, _, _, _, _, _, _, _, _, rfl, _⟩ := h; rfl) | (obtain ⟨_, _, _, _, _, _, _, _, _, _, _, _, _, _, _, _, _, _, _, rfl, _⟩ := h; rfl) | (obtain ⟨_, _, _, _, _, _, _, _, _, _, _, _, _, _, _, _, _, _, _, _, rfl, _⟩ := h; rfl) | (obtain ⟨_, _, _, _, _, _, _, _, _, _, _, _, _, _, _, _, _, _, _, _, _, rfl, _⟩ := h; rfl) | (obtain ⟨_, _, _, _, _, _, _, _, _, _, _, _, _, _, _, _, _, _, _, _, _, _, rfl, _⟩ := h; rfl) | (obtain ⟨_, _, _, _, _, _, _, _, _, _, _, _, _, _, _, _, _, _, _, _, _, _, _, rfl, _⟩ := h; rfl)
  · obtain ⟨r, ns, rfl, hR, q⟩ := h
    obtain ⟨A_UNITS, h_UNITS, i_UNITS⟩ := T.k_UNITS
    refine ⟨_, (pss_one (ps_ret (pe_make R_Element___init__ G_Element___init__ (hr.mono (by decide)) (by rfl) T.g_Element b_Element___init__ .nil pass0 (pa_cons (pv 0) (pa_cons (pe_ix ix_tup (pe_glob (v := .ref A_UNITS) (by rfl) h_UNITS rfl) pe_int (fun _ _ => rfl)) (pa_cons pe_int pa_nil)))))), ?_⟩
    obtain ⟨U1, U2, U3, hU, k1, k2, k3⟩ := i_UNITS H
    refine ⟨_, rfl, A_UNITS, _, 0, .ref U1, rfl, rfl, hU, rfl, fun x dx nx ndx _ => ?_⟩
    refine ⟨x, dx, r, U1, 1, 0, 0, 1, rfl, upd_same, tq_made nx ndx k1, by decide, ⟨by decide, by decide⟩, fun H2 t' u' y' z' b' low e2 nt e3 ht' => ⟨rfl, ?_⟩⟩
    obtain ⟨rfl, rfl, rfl, rfl⟩ := low1 low
    obtain ⟨f1, f2⟩ := el_made (t := U1) nx ndx hR e2 e3 ht'
    exact q x H2 f1 f2
theorem ok_mixed (T : Txt K mg C_Form C_Ring C_Element) : Def P w K mg base 4 "mixed" ["first", "second", "sign"] (sp_mixed K C_Form C_Ring C_Element) := by
  obtain ⟨f_, fd_, g_, F_⟩ := T.d_mixed
  obtain ⟨p_Element___init__, f_Element___init__, fd_Element___init__, R_Element___init__, b_Element___init__, G_Element___init__⟩ := (ok_Element___init__ (P := P) (w := w) (base := base) T)
  obtain ⟨p_Element_bottom, f_Element_bottom, fd_Element_bottom, R_Element_bottom, b_Element_bottom, G_Element_bottom⟩ := (ok_Element_bottom (P := P) (w := w) (base := base) T)
  obtain ⟨p_Element_entries, f_Element_entries, fd_Element_entries, R_Element_entries, b_Element_entries, G_Element_entries⟩ := (ok_Element_entries (P := P) (w := w) (base := base) T)
  obtain ⟨p_Element_ring, f_Element_ring, fd_Element_ring, R_Element_ring, b_Element_ring, G_Element_ring⟩ := (ok_Element_ring (P := P) (w := w) (base := base) T)
  refine ⟨f_, fd_, g_, F_.kp, F_.binds (ps := ["first", "second", "sign"]) (fun _ _ _ _ _ _ us hl => match us, hl with | [_, _, _], _ => rfl), ?_⟩
  refine F_.ok sc_mixed (fun vs H Q E h => ?_) (fun cdv A outer s H vs Q E hr h => ?_)
  · first | (obtain ⟨rfl, _⟩ := h; rfl) | (obtain ⟨_, rfl, _⟩ := h; rfl) | (obtain ⟨_, _, rfl, _⟩ := h; rfl) | (obtain ⟨_, _, _, rfl, _⟩ := h; rfl) | (obtain ⟨_, _, _, _, rfl, _⟩ := h; rfl) | (obtain ⟨_, _, _, _, _, rfl, _⟩ := h; rfl) | (obtain ⟨_, _, _, _, _, _, rfl, _⟩ := h; rfl) | (obtain ⟨_, _, _, _, _, _, _, rfl, _⟩ := h; rfl) | (obtain ⟨_, _, _, _, _, _, _, _, rfl, _⟩ := h; rfl) | (obtain ⟨_, _, _, _, _, _, _, _, _, rfl, _⟩ := h; rfl) | (obtain ⟨_, _, _, _, _, _, _, _, _, _, rfl, _⟩ := h; rfl) | (obtain ⟨_, _, _, _, _, _, _, _, _, _, _, rfl, _⟩ := h; rfl) | (obtain ⟨_, _, _, _, _, _, _, _, _, _, _, _, rfl, _⟩ := h; rfl) | (obtain ⟨_, _, _, _, _, _, _, _, _, _, _, _, _, rfl, _⟩ := h; rfl) | (obtain ⟨_, _, _, _, _, _, _, _, _, _, _, _, _, _, rfl, _⟩ := h; rfl) | (obtain ⟨_, _, _, _, _, _, _, _, _, _, _, _, _, _, _, rfl, _⟩ := h; rfl) | (obtain ⟨_, _, _, _, _, _, _, _, _, _, _, _, _, _, _, _, rfl, _⟩ := h; rfl) | (obtain ⟨_, _, _, _, _, _, _, _, _, _, _, _, _, _, _, _, _, rfl, _⟩ := h; rfl) | (obtain ⟨_, _, _, _, _, _, _, _, _, _, _, _, _, _, _, _, _, _, rfl, _⟩ := h; rfl) | (obtain ⟨_, _, _, _, _, _, _, _, _, _, _, _, _, _, _, _, _, _, _, rfl, _⟩ := h; rfl) | (obtain ⟨_, _, _, _, _, _, _, _, _, _, _, _, _, _, _, _, _, _, _, _, rfl, _⟩ := h; rfl) | (obtain ⟨_, _, _, _, _, _, _, _, _, _, _, _, _, _, _, _, _, _, _, _, _, rfl, _⟩ := h; rfl) | (obtain ⟨_, _, _, _, _, _, _, _, _, _, _, _, _, _, _, _, _, _, _, _, _, _, rfl, _⟩ := h; rfl) | (obtain ⟨_, _, _, _, _, _, _, _, _, _, _, _, _, _, _, _, _, _, _, _, _, _, _, rfl, _⟩ := h; rfl)
  · obtain ⟨x, x', ns, ms, u, y, z, e, v, s', r, f, n, rfl, h1, h2, bu, bv, be, bf, hne, hn, q⟩ := h
    obtain ⟨d1, r1, t1, g1, g2, g3⟩ := id h1
    obtain ⟨d2, r2, t2, k1, k2, k3⟩ := id h2
    refine ⟨_, (pss_cons (ps_asg (pe_tup (pa_cons (pe_op op_mulW (pv 2) (pe_prop (pv 0) T.cl_Element R_Element_bottom G_Element_bottom (hr.mono (by decide)) b_Element_bottom .nil pass0 (by rfl))) (pa_cons (pe_prop (pv 1) T.cl_Element R_Element_bottom G_Element_bottom (hr.mono (by decide)) b_Element_bottom .nil pass0 (by rfl)) pa_nil))) (pg_tup (by rfl) (pgs_cons (pg_name (i := 3) sc_mixed.nd rfl (.inr rfl)) (pgs_cons (pg_name (i := 4) sc_mixed.nd rfl (.inr rfl)) pgs_nil))))
    (pss_cons (ps_set (i := 5) sc_mixed.nd rfl (.inl rfl) (pe_callTy call_tuple_of (by rfl) T.b_tuple (by decide +kernel) (pa_cons (pe_lc (own := [("one", 6), ("other", 7)]) (g := (gTup K 2 (gCons (gName 6) (gCons (gName 7) gNil)))) rfl sc_mixed.nd (RZ.pi_zipA (by rfl) T.b_zip (pa_cons (pe_prop (pv 0) T.cl_Element R_Element_entries G_Element_entries (hr.mono (by decide)) b_Element_entries .nil pass0 (by rfl)) (pa_cons (pe_prop (pv 1) T.cl_Element R_Element_entries G_Element_entries (hr.mono (by decide)) b_Element_entries .nil pass0 (by rfl)) pa_nil))) (blkOk_by (N := N_mixed) (sc := defScope s_mixed) (by decide +kernel)) (fun _ _ _ _ _ => (pg_tup (by rfl) (pgs_cons (pg_name (i := 6) sc_mixed.nd rfl (.inl rfl)) (pgs_cons (pg_name (i := 7) sc_mixed.nd rfl (.inl rfl)) pgs_nil)))) (fun _ _ _ _ _ => pts_nil) (fun _ _ _ _ _ => (pe_op op_add (pe_op op_mulW (pv 6) (pv 4)) (pe_op op_mulW (pv 7) (pv 3))))) pa_nil)))
    (pss_one (ps_ret (pe_make R_Element___init__ G_Element___init__ (hr.mono (by decide)) (by rfl) T.g_Element b_Element___init__ .nil pass0 (pa_cons (pe_prop (pv 0) T.cl_Element R_Element_ring G_Element_ring (hr.mono (by decide)) b_Element_ring .nil pass0 (by rfl)) (pa_cons (pv 5) (pa_cons (pe_op op_mulW (pe_prop (pv 0) T.cl_Element R_Element_bottom G_Element_bottom (hr.mono (by decide)) b_Element_bottom .nil pass0 (by rfl)) (pe_prop (pv 1) T.cl_Element R_Element_bottom G_Element_bottom (hr.mono (by decide)) b_Element_bottom .nil pass0 (by rfl))) pa_nil)))))))), ?_⟩
    have bn : B 2 n := by rcases hn with rfl | rfl <;> exact ⟨by decide, by decide⟩
    refine ⟨_, rfl, _, rfl, x, d1, _, rfl, g1, x, ns, u, y, z, e, rfl, h1, _, _, rfl, rfl, mulB bn be (by decide), ?_⟩
    refine ⟨_, rfl, x', d2, _, rfl, k1, x', ms, v, s', r, f, rfl, h2, sl2, fun p np => ?_⟩
    have e0 : Ex0 H (upd H p (.tup [.int (n * e), .int f])) := Ex0.new np
    refine ⟨p, _, rfl, SqT.of upd_same, rfl, _, _, rfl, _, _, rfl, rfl, ?_⟩
    have h1' := Ex0.el e0 h1
    have h2' := Ex0.el e0 h2
    have g1' := Ex0.ap e0 g1
    have k1' := Ex0.ap e0 k1
    generalize upd H p (.tup [.int (n * e), .int f]) = H1 at e0 h1' h2' g1' k1' ⊢
    refine ⟨_, rfl, x, d1, _, rfl, g1', x, ns, u, y, z, e, rfl, h1', fun t ht => ?_⟩
    refine ⟨_, rfl, x', d2, _, rfl, k1', x', ms, v, s', r, f, rfl, h2', fun t' ht' => ⟨t, t', _, _, rfl, .inr ⟨SqT.of ht, SqT.of ht', ?_⟩⟩⟩
    refine lcP (walk_zipT (K := K) (xs := ([u, y, z] : List Int).map V.int) (ys := ([v, s', r] : List Int).map V.int) rfl) fm0 trivial (fun H' e => ⟨SqT.of (Ex0.ti e ht), SqT.of (Ex0.ti e ht')⟩) (fun i acc _ => acc = (([u * f + v * (n * e), y * f + s' * (n * e), z * f + r * (n * e)] : List Int).take i).map V.int) (fun _ _ => rfl) (fun D i T x1 y1 acc H' hD hi fx fy e3 hA hlen hp hT => ?_) (fun D H' acc hD e3 hA hp => ?_)
    · obtain ⟨k, hk, rfl⟩ := get_int fx
      obtain ⟨l, hl, rfl⟩ := get_int fy
      have hi3 : i < 3 := hi
      have bk : B 9000 k := by
        match i, hk with
        | 0, hk => rw [← Option.some.inj hk]; exact bu.1
        | 1, hk => rw [← Option.some.inj hk]; exact bu.2.1
        | 2, hk => rw [← Option.some.inj hk]; exact bu.2.2
      have bl : B 9000 l := by
        match i, hl with
        | 0, hk => rw [← Option.some.inj hk]; exact bv.1
        | 1, hk => rw [← Option.some.inj hk]; exact bv.2.1
        | 2, hk => rw [← Option.some.inj hk]; exact bv.2.2
      refine ⟨T, _, rfl, SqT.of upd_same, rfl, _, _, rfl, _, _, rfl, rfl, ⟨rfl, ?_⟩⟩
      refine ⟨_, rfl, _, rfl, _, _, rfl, rfl, mulB bk bf (by decide), _, rfl, _, rfl, _, _, rfl, rfl, mulB bl (B.mul bn be) (by decide), _, _, rfl, rfl, ?_⟩
      refine cs_yes fm0 trivial hD e3 hA hlen (by omega) (Ex0.new hT) ?_
      show acc ++ [V.int (k * f + l * (n * e))] = _
      rw [hp]
      match i, hk, hl with
      | 0, hk, hl => rw [← Option.some.inj hk, ← Option.some.inj hl]; rfl
      | 1, hk, hl => rw [← Option.some.inj hk, ← Option.some.inj hl]; rfl
      | 2, hk, hl => rw [← Option.some.inj hk, ← Option.some.inj hl]; rfl
    · refine ⟨D, _, rfl, .inl ⟨SqL.of hA, fun p2 np2 => ?_⟩⟩
      have hp' : acc = [.int (u * f + v * (n * e)), .int (y * f + s' * (n * e)), .int (z * f + r * (n * e))] := hp
      subst hp'
      have e4 : Ex0 H1 (upd H' p2 (.tup [.int (u * f + v * (n * e)), .int (y * f + s' * (n * e)), .int (z * f + r * (n * e))])) := Fx.trans e3 (Ex0.new np2)
      have hT : Ti (upd H' p2 (.tup [.int (u * f + v * (n * e)), .int (y * f + s' * (n * e)), .int (z * f + r * (n * e))])) p2 [u * f + v * (n * e), y * f + s' * (n * e), z * f + r * (n * e)] := upd_same
      have g2' := Ex0.ap e4 g1'
      have k2' := Ex0.ap e4 k1'
      have h3 := Ex0.el e4 h1'
      have h4 := Ex0.el e4 h2'
      have e5 := e0.trans e4
      generalize upd H' p2 (.tup [.int (u * f + v * (n * e)), .int (y * f + s' * (n * e)), .int (z * f + r * (n * e))]) = H2 at hT g2' k2' h3 h4 e5 ⊢
      refine ⟨_, rfl, x, d1, _, rfl, g2', x, ns, u, y, z, e, rfl, h3, fun R hR => ⟨_, rfl, ?_⟩⟩
      refine ⟨_, rfl, x, d1, _, rfl, g2', x, ns, u, y, z, e, rfl, h3, ?_⟩
      refine ⟨_, rfl, x', d2, _, rfl, k2', x', ms, v, s', r, f, rfl, h4, _, _, rfl, rfl, mulB be bf (by decide), fun y0 dy nx ndx _ => ?_⟩
      refine ⟨y0, dy, R, p2, _, _, _, e * f, rfl, upd_same, SqT.of (made_at nx ndx hT), hne, (B.mul be bf).mono (by decide), fun H3 t3 u' y' z' b' low e6 nt e7 ht3 => ⟨rfl, ?_⟩⟩
      obtain ⟨f1, f2⟩ := el_made (t := p2) nx ndx hR e6 e7 ht3
      exact q y0 H3 u' y' z' b' low (e5.trans f1) f2
theorem ok_Element___add__ (T : Txt K mg C_Form C_Ring C_Element) : MDef (fun p f => BinC K C_Element "__add__" f) P w K mg base 5 ["self", "other"] (sp_Element___add__ K C_Form C_Ring C_Element) := by
  obtain ⟨p_, f_, fd_, R_, F_⟩ := T.e_Element___add__
  obtain ⟨f_check_one_ring, fd_check_one_ring, g_check_one_ring, k_check_one_ring, b_check_one_ring, G_check_one_ring⟩ := (ok_check_one_ring (P := P) (w := w) (base := base) T)
  obtain ⟨f_mixed, fd_mixed, g_mixed, k_mixed, b_mixed, G_mixed⟩ := (ok_mixed (P := P) (w := w) (base := base) T)
  refine ⟨p_, f_, fd_, R_, F_.binds (ps := ["self", "other"]) (fun _ _ _ _ _ _ us hl => match us, hl with | [_, _], _ => rfl), ?_⟩
  refine F_.ok sc_Element___add__ (fun vs H Q E h => ?_) (fun cdv A outer s H vs Q E hr h => ?_)
  · first | (obtain ⟨rfl, _⟩ := h; rfl) | (obtain ⟨_, rfl, _⟩ := h; rfl) | (obtain ⟨_, _, rfl, _⟩ := h; rfl) | (obtain ⟨_, _, _, rfl, _⟩ := h; rfl) | (obtain ⟨_, _, _, _, rfl, _⟩ := h; rfl) | (obtain ⟨_, _, _, _, _, rfl, _⟩ := h; rfl) | (obtain ⟨_, _, _, _, _, _, rfl, _⟩ := h; rfl) | (obtain ⟨_, _, _, _, _, _, _, rfl, _⟩ := h; rfl) | (obtain ⟨_, _, _, _, _, _, _, _, rfl, _⟩ := h; rfl) | (obtain ⟨_, _, _, _, _, _, _, _, _, rfl, _⟩ := h; rfl) | (obtain ⟨_, _, _, _, _, _, _, _, _, _, rfl, _⟩ := h; rfl) | (obtain ⟨_, _, _, _, _, _, _, _, _, _, _, rfl, _⟩ := h; rfl) | (obtain ⟨_, _, _, _, _, _, _, _, _, _, _, _, rfl, _⟩ := h; rfl) | (obtain ⟨_, _, _, _, _, _, _, _, _, _, _, _, _, rfl, _⟩ := h; rfl) | (obtain ⟨_, _, _, _, _, _, _, _, _, _, _, _, _, _, rfl, _⟩ := h; rfl) | (obtain ⟨_, _, _, _, _, _, _, _, _, _, _, _, _, _, _, rfl, _⟩ := h; rfl) | (obtain ⟨_, _, _, _, _, _, _, _, _, _, _, _, _, _, _, _, rfl, _⟩ := h; rfl) | (obtain ⟨_, _, _, _, _, _, _, _, _, _, _, _, _, _, _, _, _, rfl, _⟩ := h; rfl) | (obtain ⟨_, _, _, _, _, _, _, _, _, _, _, _, _, _, _, _, _, _, rfl, _⟩ := h; rfl) | (obtain ⟨_, _, _, _, _, _, _, _, _, _, _, _, _, _, _, _, _, _, _, rfl, _⟩ := h; rfl) | (obtain ⟨_, _, _, _, _, _, _, _, _, _, _, _, _, _, _, _, _, _, _, _, rfl, _⟩ := h; rfl) | (obtain ⟨_, _, _, _, _, _, _, _, _, _, _, _, _, _, _, _, _, _, _, _, _, rfl, _⟩ := h; rfl) | (obtain ⟨_, _, _, _, _, _, _, _, _, _, _, _, _, _, _, _, _, _, _, _, _, _, rfl, _⟩ := h; rfl) | (obtain ⟨_, _, _, _, _, _, _, _, _, _, _, _, _, _, _, _, _, _, _, _, _, _, _, rfl, _⟩ := h; rfl)
  · obtain ⟨x, x', ns, u, y, z, e, v, s', r', f, rfl, h1, h2, bu, bv, be, bf, hne, q⟩ := h
    obtain ⟨dx, r, t, hx, hR, ht⟩ := id h1
    obtain ⟨dx2, r2, t2, hx2, hR2, ht2⟩ := id h2
    refine ⟨_, (pss_cons (ps_if (pt_not (pt_val (pe_callB call_isi (by rfl) T.b_isinstance (by decide +kernel) (pa_cons (pv 1) (pa_cons (pe_glob (v := .ref C_Element) (by rfl) T.g_Element rfl) pa_nil)))))
      (pss_one ps_never)
      pss_nil)
    (pss_cons (ps_expr (pe_call G_check_one_ring (hr.mono (by decide)) (by rfl) g_check_one_ring k_check_one_ring b_check_one_ring .nil pass0 (pa_cons (pv 0) (pa_cons (pv 1) pa_nil))))
    (pss_one (ps_ret (pe_call G_mixed (hr.mono (by decide)) (by rfl) g_mixed k_mixed b_mixed .nil pass0 (pa_cons (pv 0) (pa_cons (pv 1) (pa_cons pe_int pa_nil)))))))), ?_⟩
    refine ⟨_, rfl, _, _, _, _, true, rfl, .own _, ty_ins T.ty_Element T.cl_Element hx2, kit_self, _, rfl, ?_⟩
    refine iteF ⟨_, rfl, _, rfl, x, x', _, u, y, z, e, v, s', r', f, rfl, h1, h2, ?_⟩
    exact ⟨_, rfl, _, rfl, x, x', ns, ns, u, y, z, e, v, s', r', f, 1, rfl, h1, h2, bu, bv, be, bf, hne, .inl rfl, fun o H' u' y' z' b' low e1 ho => q o H' u' y' z' b' low e1 ho⟩
theorem ok_Ring_w (T : Txt K mg C_Form C_Ring C_Element) : MDef (fun p f => Meth K C_Ring "w" f) P w K mg base 4 ["self"] (sp_Ring_w K C_Form C_Ring C_Element) := by
  obtain ⟨p_, f_, fd_, R_, F_⟩ := T.e_Ring_w
  obtain ⟨p_Element___init__, f_Element___init__, fd_Element___init__, R_Element___init__, b_Element___init__, G_Element___init__⟩ := (ok_Element___init__ (P := P) (w := w) (base := base) T)
  refine ⟨p_, f_, fd_, R_, F_.binds (ps := ["self"]) (fun _ _ _ _ _ _ us hl => match us, hl with | [_], _ => rfl), ?_⟩
  refine F_.ok sc_Ring_w (fun vs H Q E h => ?_) (fun cdv A outer s H vs Q E hr h => ?_)
  · first | (obtain ⟨rfl, _⟩ := h; rfl) | (obtain ⟨_, rfl, _⟩ := h; rfl) | (obtain ⟨_, _, rfl, _⟩ := h; rfl) | (obtain ⟨_, _, _, rfl, _⟩ := h; rfl) | (obtain ⟨_, _, _, _, rfl, _⟩ := h; rfl) | (obtain ⟨_, _, _, _, _, rfl, _⟩ := h; rfl) | (obtain ⟨_, _, _, _, _, _, rfl, _⟩ := h; rfl) | (obtain ⟨_, _, _, _, _, _, _, rfl, _⟩ := h; rfl) | (obtain ⟨_, _, _, _, _, _, _, _, rfl, _⟩ := h; rfl) | (obtain ⟨_, _, _, _, _, _, _, _, _, rfl, _⟩ := h; rfl) | (obtain ⟨_, _, _, _, _, _, _, _, _, _, rfl, _⟩ := h; rfl) | (obtain ⟨_, _, _, _, _, _, _, _, _, _, _, rfl, _⟩ := h; rfl) | (obtain ⟨_, _, _, _, _, _, _, _, _, _, _, _, rfl, _⟩ := h; rfl) | (obtain ⟨_, _, _, _, _, _, _, _, _, _, _, _, _, rfl, _⟩ := h; rfl) | (obtain ⟨_, _, _, _, _, _, _, _, _, _, _, _, _, _, rfl, _⟩ := h; rfl) | (obtain ⟨_, _, _, _, _, _, _, _, _, _, _, _, _, _, _, rfl, _⟩ := h; rfl) | (obtain ⟨_, _, _, _, _, _, _, _, _, _, _, _, _, _, _, _, rfl, _⟩ := h; rfl) | (obtain ⟨_, _, _, _, _, _, _, _, _, _, _, _, _, _, _, _, _, rfl, _⟩ := h; rfl) | (obtain ⟨_, _, _, _, _, _, _, _, _, _, _, _, _, _, _, _, _, _, rfl, _⟩ := h; rfl) | (obtain ⟨_, _, _, _, _, _, _, _, _, _, _, _, _, _, _, _, _, _, _, rfl, _⟩ := h; rfl) | (obtain ⟨_, _, _, _, _, _, _, _, _, _, _, _, _, _, _, _, _, _, _, _, rfl, _⟩ := h; rfl) | (obtain ⟨_, _, _, _, _, _, _, _, _, _, _, _, _, _, _, _, _, _, _, _, _, rfl, _⟩ := h; rfl) | (obtain ⟨_, _, _, _, _, _, _, _, _, _, _, _, _, _, _, _, _, _, _, _, _, _, rfl, _⟩ := h; rfl) | (obtain ⟨_, _, _, _, _, _, _, _, _, _, _, _, _, _, _, _, _, _, _, _, _, _, _, rfl, _⟩ := h; rfl)
  · obtain ⟨r, ns, rfl, hR, q⟩ := h
    obtain ⟨A_UNITS, h_UNITS, i_UNITS⟩ := T.k_UNITS
    refine ⟨_, (pss_one (ps_ret (pe_make R_Element___init__ G_Element___init__ (hr.mono (by decide)) (by rfl) T.g_Element b_Element___init__ .nil pass0 (pa_cons (pv 0) (pa_cons (pe_ix ix_tup (pe_glob (v := .ref A_UNITS) (by rfl) h_UNITS rfl) pe_int (fun _ _ => rfl)) (pa_cons pe_int pa_nil)))))), ?_⟩
    obtain ⟨U1, U2, U3, hU, k1, k2, k3⟩ := i_UNITS H
    refine ⟨_, rfl, A_UNITS, _, 1, .ref U2, rfl, rfl, hU, rfl, fun x dx nx ndx _ => ?_⟩
    refine ⟨x, dx, r, U2, 0, 1, 0, 1, rfl, upd_same, tq_made nx ndx k2, by decide, ⟨by decide, by decide⟩, fun H2 t' u' y' z' b' low e2 nt e3 ht' => ⟨rfl, ?_⟩⟩
    obtain ⟨rfl, rfl, rfl, rfl⟩ := low1 low
    obtain ⟨f1, f2⟩ := el_made (t := U2) nx ndx hR e2 e3 ht'
    exact q x H2 f1 f2
theorem ok_Ring_t (T : Txt K mg C_Form C_Ring C_Element) : MDef (fun p f => Meth K C_Ring "t" f) P w K mg base 4 ["self"] (sp_Ring_t K C_Form C_Ring C_Element) := by
  obtain ⟨p_, f_, fd_, R_, F_⟩ := T.e_Ring_t
  obtain ⟨p_Element___init__, f_Element___init__, fd_Element___init__, R_Element___init__, b_Element___init__, G_Element___init__⟩ := (ok_Element___init__ (P := P) (w := w) (base := base) T)
  refine ⟨p_, f_, fd_, R_, F_.binds (ps := ["self"]) (fun _ _ _ _ _ _ us hl => match us, hl with | [_], _ => rfl), ?_⟩
  refine F_.ok sc_Ring_t (fun vs H Q E h => ?_) (fun cdv A outer s H vs Q E hr h => ?_)
  · first | (obtain ⟨rfl, _⟩ := h; rfl) | (obtain ⟨_, rfl, _⟩ := h; rfl) | (obtain ⟨_, _, rfl, _⟩ := h; rfl) | (obtain ⟨_, _, _, rfl, _⟩ := h; rfl) | (obtain ⟨_, _, _, _, rfl, _⟩ := h; rfl) | (obtain ⟨_, _, _, _, _, rfl, _⟩ := h; rfl) | (obtain ⟨_, _, _, _, _, _, rfl, _⟩ := h; rfl) | (obtain ⟨_, _, _, _, _, _, _, rfl, _⟩ := h; rfl) | (obtain ⟨_, _, _, _, _, _, _, _, rfl, _⟩ := h; rfl) | (obtain ⟨_, _, _, _, _, _, _, _, _, rfl, _⟩ := h; rfl) | (obtain ⟨_, _, _, _, _, _, _, _, _, _, rfl, _⟩ := h; rfl) | (obtain ⟨_, _, _, _, _, _, _, _, _, _, _, rfl, _⟩ := h; rfl) | (obtain ⟨_, _, _, _, _, _, _, _, _, _, _, _, rfl, _⟩ := h; rfl) | (obtain ⟨_, _, _, _, _, _, _, _, _, _, _, _, _, rfl, _⟩ := h; rfl) | (obtain ⟨_, _, _, _, _, _, _, _, _, _, _, _, _, _, rfl, _⟩ := h; rfl) | (obtain ⟨_, _, _, _, _, _, _, _, _, _, _, _, _, _, _, rfl, _⟩ := h; rfl) | (obtain ⟨_, _, _, _, _, _, _, _, _, _, _, _, _, _, _, _, rfl, _⟩ := h; rfl) | (obtain ⟨_, _, _, _, _, _, _, _, _, _, _, _, _, _, _, _, _, rfl, _⟩ := h; rfl) | (obtain ⟨_, _, _, _, _, _, _, _, _, _, _, _, _, _, _, _, _, _, rfl, _⟩ := h; rfl) | (obtain ⟨_, _, _, _, _, _, _, _, _, _, _, _, _, _, _, _, _, _, _, rfl, _⟩ := h; rfl) | (obtain ⟨_, _, _, _, _, _, _, _, _, _, _, _, _, _, _, _, _, _, _, _, rfl, _⟩ := h; rfl) | (obtain ⟨_, _, _, _, _, _, _, _, _, _, _, _, _, _, _, _, _, _, _, _, _, rfl, _⟩ := h; rfl) | (obtain ⟨_, _, _, _, _, _, _, _, _, _, _, _, _, _, _, _, _, _, _, _, _, _, rfl, _⟩ := h; rfl) | (obtain ⟨_, _, _, _, _, _, _, _, _, _, _, _, _, _, _, _, _, _, _, _, _, _, _, rfl, _⟩ := h; rfl)
  · obtain ⟨r, ns, rfl, hR, q⟩ := h
    obtain ⟨A_UNITS, h_UNITS, i_UNITS⟩ := T.k_UNITS
    refine ⟨_, (pss_one (ps_ret (pe_make R_Element___init__ G_Element___init__ (hr.mono (by decide)) (by rfl) T.g_Element b_Element___init__ .nil pass0 (pa_cons (pv 0) (pa_cons (pe_ix ix_tup (pe_glob (v := .ref A_UNITS) (by rfl) h_UNITS rfl) pe_int (fun _ _ => rfl)) (pa_cons pe_int pa_nil)))))), ?_⟩
    obtain ⟨U1, U2, U3, hU, k1, k2, k3⟩ := i_UNITS H
    refine ⟨_, rfl, A_UNITS, _, 2, .ref U3, rfl, rfl, hU, rfl, fun x dx nx ndx _ => ?_⟩
    refine ⟨x, dx, r, U3, 0, 0, 1, 1, rfl, upd_same, tq_made nx ndx k3, by decide, ⟨by decide, by decide⟩, fun H2 t' u' y' z' b' low e2 nt e3 ht' => ⟨rfl, ?_⟩⟩
    obtain ⟨rfl, rfl, rfl, rfl⟩ := low1 low
    obtain ⟨f1, f2⟩ := el_made (t := U3) nx ndx hR e2 e3 ht'
    exact q x H2 f1 f2
end
end RG
namespace RG
open PySem PySem.Spec PyProof.Rows L2 Fr
def sp_l_vat (K : PySem.W.Frag) (_ _ _ : Addr) : Sp := fun vs H Q _ => ∃ (a : Addr) (ns : List Int) (i : Nat), vs = [.ref a, .int (i : Int)] ∧ SqL K H a (ns.map V.int) ∧ ∀ p H', H p = none → Ex0 H H' → Vat p H' → Q (.ref p) H'
def sp_l_drip (_ : PySem.W.Frag) (_ _ _ : Addr) : Sp := fun vs H Q _ => ∃ (c : Addr) (t : Int), vs = [.ref c, .int t] ∧ Vat c H ∧ 0 < t ∧ t < 2 ^ 250 ∧ ∀ (r : Int) H', 0 ≤ r → r < t → Fv c H H' → Q (.int r) H'
def sp_l_some_of (K : PySem.W.Frag) (_ _ _ : Addr) : Sp := fun vs H Q _ => ∃ (c l : Addr) (xs : List V), vs = [.ref c, .ref l] ∧ Vat c H ∧ H l = some (.lst xs) ∧ l ≠ c ∧ xs ≠ [] ∧ xs.length ≤ 1000 ∧ ∀ v H', v ∈ xs → Fv c H H' → Q v H'
def sp_l_int (_ : PySem.W.Frag) (_ _ _ : Addr) : Sp := fun vs H Q _ => ∃ c : Addr, vs = [.ref c] ∧ Vat c H ∧ ∀ (n : Int) H', n.natAbs ≤ 1000000 → Fv c H H' → Q (.int n) H'
def sp_l_rows (_ : PySem.W.Frag) (_ _ _ : Addr) : Sp := fun vs H Q _ => ∃ (t : Addr) (a b c d : Int), vs = [.ref t] ∧ Ti H t [a, b, c, d] ∧ B4 1000 a b c d ∧ ∀ x H', Ex0 H H' → L33 H' x (w1 a b c d) (w2 a b c d) (w3 a b c d) → Q (.ref x) H'
def sp_l_det (_ : PySem.W.Frag) (_ _ _ : Addr) : Sp := fun vs H Q _ => ∃ (t : Addr) (a b c d e f g h i : Int), vs = [.ref t] ∧ L33 H t [a, b, c] [d, e, f] [g, h, i] ∧ B3 40000 a b c ∧ B3 40000 d e f ∧ B3 40000 g h i ∧ Q (.int (det3 a b c d e f g h i)) H
def sp_l_minors (_ : PySem.W.Frag) (_ _ _ : Addr) : Sp := fun vs H Q _ => ∃ (t : Addr) (a b c d e f g h i : Int), vs = [.ref t] ∧ L33 H t [a, b, c] [d, e, f] [g, h, i] ∧ B3 40000 a b c ∧ B3 40000 d e f ∧ B3 40000 g h i ∧ ∀ x H', Ex0 H H' → Ti H' x [a + e + i, mn a b c d e f g h i] → Q (.ref x) H'
def sp_l_coefficients (_ : PySem.W.Frag) (_ _ _ : Addr) : Sp := fun vs H Q _ => ∃ c : Addr, vs = [.ref c] ∧ Vat c H ∧ ∀ t (a b e d : Int) H', Fv c H H' → Ti H' t [a, b, e, d] → (∀ n ∈ [a, b, e, d], n.natAbs ≤ 6000000) → Q (.ref t) H'
section
variable {P : Program} {w : World} {K : PySem.W.Frag} {mg : Str → Option Value} {base : Heap} {C_Form C_Ring C_Element : Addr}
theorem ok_l_vat (T : Txt K mg C_Form C_Ring C_Element) : Def P w K mg base 1 "_law_vat" ["_law_script", "_law_spot"] (sp_l_vat K C_Form C_Ring C_Element) := by
  obtain ⟨f_, fd_, g_, F_⟩ := T.d_l_vat
  refine ⟨f_, fd_, g_, F_.kp, F_.binds (ps := ["_law_script", "_law_spot"]) (fun _ _ _ _ _ _ us hl => match us, hl with | [_, _], _ => rfl), ?_⟩
  refine F_.ok sc_l_vat (fun vs H Q E h => ?_) (fun cdv A outer s H vs Q E hr h => ?_)
  · first | (obtain ⟨rfl, _⟩ := h; rfl) | (obtain ⟨_, rfl, _⟩ := h; rfl) | (obtain ⟨_, _, rfl, _⟩ := h; rfl) | (obtain ⟨_, _, _, rfl, _⟩ := h; rfl) | (obtain ⟨_, _, _, _, rfl, _⟩ := h; rfl) | (obtain ⟨_, _, _, _, _, rfl, _⟩ := h; rfl) | (obtain ⟨_, _, _, _, _, _, rfl, _⟩ := h; rfl) | (obtain ⟨_, _, _, _, _, _, _, rfl, _⟩ := h; rfl) | (obtain ⟨_, _, _, _, _, _, _, _, rfl, _⟩ := h; rfl) | (obtain ⟨_, _, _, _, _, _, _, _, _, rfl, _⟩ := h; rfl) | (obtain ⟨_, _, _, _, _, _, _, _, _, _, rfl, _⟩ := h; rfl) | (obtain ⟨_, _, _, _, _, _, _, _, _, _, _, rfl, _⟩ := h; rfl) | (obtain ⟨_, _, _, _, _, _, _, _, _, _, _, _, rfl, _⟩ := h; rfl) | (obtain ⟨_, _, _, _, _, _, _, _, _, _, _, _, _, rfl, _⟩ := h; rfl) | (obtain ⟨_, _, _, _, _, _, _, _, _, _, _, _, _, _, rfl, _⟩ := h; rfl) | (obtain ⟨_, _, _, _, _, _, _, _, _, _, _, _, _, _, _, rfl, _⟩ := h; rfl) | (obtain ⟨_, _, _, _, _, _, _, _, _, _, _, _, _, _, _, _, rfl, _⟩ := h; rfl) | (obtain ⟨_, _, _, _, _, _, _, _, _, _, _, _, _, _, _, _, _, rfl, _⟩ := h; rfl) | (obtain ⟨_, _, _, _, _, _, _, _, _, _, _, _, _, _, _, _, _, _, rfl, _⟩ := h; rfl) | (obtain ⟨_, _, _, _, _, _, _, _, _, _, _, _, _, _, _, _, _, _, _, rfl, _⟩ := h; rfl) | (obtain ⟨_, _, _, _, _, _, _, _, _, _, _, _, _, _, _, _, _, _, _, _, rfl, _⟩ := h; rfl) | (obtain ⟨_, _, _, _, _, _, _, _, _, _, _, _, _, _, _, _, _, _, _, _, _, rfl, _⟩ := h; rfl) | (obtain ⟨_, _, _, _, _, _, _, _, _, _, _, _, _, _, _, _, _, _, _, _, _, _, rfl, _⟩ := h; rfl) | (obtain ⟨_, _, _, _, _, _, _, _, _, _, _, _, _, _, _, _, _, _, _, _, _, _, _, rfl, _⟩ := h; rfl)
  · obtain ⟨a, ns, i, rfl, ha, q⟩ := h
    refine ⟨_, (Evl.pss_cut (ps_set (i := 2) sc_l_vat.nd rfl (.inl rfl) (pe_ifExp (pt_cmpR op_lt (pv 1) (pe_callB call_len_seq (by rfl) T.b_len PySem.boot_len (pa_cons (pv 0) pa_nil)) (nomark _)) (pe_callTy call_int1 (by rfl) T.b_int (by decide +kernel) (pa_cons (pe_ix ix_list (pv 0) (pv 1) (fun _ _ => rfl)) pa_nil)) (pe_op op_add (pe_op op_mul pe_int (pv 1)) pe_int)))
    (pss_cons (ps_set (i := 3) sc_l_vat.nd rfl (.inl rfl) (pe_op op_mod (pe_callTy call_int1 (by rfl) T.b_int (by decide +kernel) (pa_cons (pe_callB call_abs (by rfl) T.b_abs (by decide +kernel) (pa_cons (pv 2) pa_nil)) pa_nil)) (pe_op op_powC (pe_op op_pow pe_int pe_int) pe_int)))
    (pss_one (ps_ret (pe_lst (pa_cons (pe_callB (call_max2 rfl) (by rfl) T.b_max (by decide +kernel) (pa_cons pe_int (pa_cons (pe_op op_sub (pv 3) (pe_op op_pow pe_int pe_int)) pa_nil))) (pa_cons (pe_op op_add (pe_op op_add (pe_op op_add (pe_op op_mul (pe_op op_mod (pe_callTy call_int1 (by rfl) T.b_int (by decide +kernel) (pa_cons (pv 3) pa_nil)) pe_int) pe_int) (pe_op op_mul pe_int (pv 1))) (pe_op op_mul pe_int (pe_callTy call_int1 (by rfl) T.b_int (by decide +kernel) (pa_cons (pe_cmpR op_lt (pv 2) pe_int (nomark _)) pa_nil)))) pe_int) (pa_cons pe_int pa_nil)))))))), ?_⟩
    refine ⟨fun σ H' => ∃ cell : Int, σ = [some (.ref a), some (.int (i : Int)), some (.int cell), none] ∧ Ex0 H H', ?_, ?_⟩
    · refine ⟨_, rfl, _, rfl, a, _, rfl, .inl ha, _, _, rfl, rfl, _, rfl, iteD (fun g => ?_) (fun g => ?_)⟩
      · have hi : i < ns.length := by rw [List.length_map] at g; omega
        refine ⟨_, rfl, _, rfl, a, _, (i : Int), .int ns[i], rfl, rfl, ha, atI_nat (by rw [List.getElem?_map, List.getElem?_eq_getElem hi]; rfl), .inl ⟨_, rfl, ?_⟩⟩
        exact ⟨_, rfl, Ex0.refl H⟩
      · refine ⟨_, rfl, _, _, rfl, rfl, .inl ⟨by decide, by decide⟩, _, _, rfl, rfl, ?_⟩
        exact ⟨_, rfl, Ex0.refl H⟩
    · rintro σ H' ⟨cell, rfl, e⟩
      refine ⟨_, rfl, cell, rfl, .inl ⟨_, rfl, ?_⟩⟩
      refine ⟨_, _, rfl, rfl, ⟨by decide, by decide, by decide⟩, _, _, rfl, rfl, ⟨by decide, by decide +kernel⟩, _, _, rfl, rfl, by show (0 : Int) < (10 ^ 54) ^ 6; decide +kernel, ?_⟩
      refine ⟨_, rfl, _, _, rfl, rfl, ⟨by decide, by decide, by decide⟩, _, _, rfl, rfl, _, _, rfl, ?_⟩
      refine ⟨_, rfl, .inl ⟨_, rfl, _, _, rfl, rfl, (show (0 : Int) < 2147483587 by decide), _, _, rfl, rfl, .inr ⟨by decide, by decide⟩, _, rfl, _, _, rfl, rfl, .inl ⟨by decide, by decide⟩, _, _, rfl, rfl, ?_⟩⟩
      refine ⟨_, rfl, _, _, rfl, rfl, .inr ⟨_, rfl, _, _, rfl, rfl, .inl ⟨by decide, by decide⟩, _, _, rfl, rfl, _, _, rfl, rfl, ?_⟩⟩
      refine ⟨sl3, fun p hp => ?_⟩
      exact q p _ (Fx.free e (fun z => z) hp) (e.trans (Ex0.new hp)) ⟨_, _, _, upd_same⟩
theorem ok_l_drip (T : Txt K mg C_Form C_Ring C_Element) : Def P w K mg base 1 "_law_drip" ["_law_vat_here", "_law_total"] (sp_l_drip K C_Form C_Ring C_Element) := by
  obtain ⟨f_, fd_, g_, F_⟩ := T.d_l_drip
  refine ⟨f_, fd_, g_, F_.kp, F_.binds (ps := ["_law_vat_here", "_law_total"]) (fun _ _ _ _ _ _ us hl => match us, hl with | [_, _], _ => rfl), ?_⟩
  refine F_.ok sc_l_drip (fun vs H Q E h => ?_) (fun cdv A outer s H vs Q E hr h => ?_)
  · first | (obtain ⟨rfl, _⟩ := h; rfl) | (obtain ⟨_, rfl, _⟩ := h; rfl) | (obtain ⟨_, _, rfl, _⟩ := h; rfl) | (obtain ⟨_, _, _, rfl, _⟩ := h; rfl) | (obtain ⟨_, _, _, _, rfl, _⟩ := h; rfl) | (obtain ⟨_, _, _, _, _, rfl, _⟩ := h; rfl) | (obtain ⟨_, _, _, _, _, _, rfl, _⟩ := h; rfl) | (obtain ⟨_, _, _, _, _, _, _, rfl, _⟩ := h; rfl) | (obtain ⟨_, _, _, _, _, _, _, _, rfl, _⟩ := h; rfl) | (obtain ⟨_, _, _, _, _, _, _, _, _, rfl, _⟩ := h; rfl) | (obtain ⟨_, _, _, _, _, _, _, _, _, _, rfl, _⟩ := h; rfl) | (obtain ⟨_, _, _, _, _, _, _, _, _, _, _, rfl, _⟩ := h; rfl) | (obtain ⟨_, _, _, _, _, _, _, _, _, _, _, _, rfl, _⟩ := h; rfl) | (obtain ⟨_, _, _, _, _, _, _, _, _, _, _, _, _, rfl, _⟩ := h; rfl) | (obtain ⟨_, _, _, _, _, _, _, _, _, _, _, _, _, _, rfl, _⟩ := h; rfl) | (obtain ⟨_, _, _, _, _, _, _, _, _, _, _, _, _, _, _, rfl, _⟩ := h; rfl) | (obtain ⟨_, _, _, _, _, _, _, _, _, _, _, _, _, _, _, _, rfl, _⟩ := h; rfl) | (obtain ⟨_, _, _, _, _, _, _, _, _, _, _, _, _, _, _, _, _, rfl, _⟩ := h; rfl) | (obtain ⟨_, _, _, _, _, _, _, _, _, _, _, _, _, _, _, _, _, _, rfl, _⟩ := h; rfl) | (obtain ⟨_, _, _, _, _, _, _, _, _, _, _, _, _, _, _, _, _, _, _, rfl, _⟩ := h; rfl) | (obtain ⟨_, _, _, _, _, _, _, _, _, _, _, _, _, _, _, _, _, _, _, _, rfl, _⟩ := h; rfl) | (obtain ⟨_, _, _, _, _, _, _, _, _, _, _, _, _, _, _, _, _, _, _, _, _, rfl, _⟩ := h; rfl) | (obtain ⟨_, _, _, _, _, _, _, _, _, _, _, _, _, _, _, _, _, _, _, _, _, _, rfl, _⟩ := h; rfl) | (obtain ⟨_, _, _, _, _, _, _, _, _, _, _, _, _, _, _, _, _, _, _, _, _, _, _, rfl, _⟩ := h; rfl)
  · obtain ⟨c, t, rfl, ⟨x, y, z, hv⟩, h0, h1, q⟩ := h
    refine ⟨_, (pss_cons (ps_if (pt_cmpR op_gt (pe_ix ix_list (pv 0) pe_int (fun _ _ => rfl)) pe_int (nomark _))
      (pss_cons (ps_set (i := 2) sc_l_drip.nd rfl (.inl rfl) (pe_op op_mod (pe_callTy call_int1 (by rfl) T.b_int (by decide +kernel) (pa_cons (pe_ix ix_list (pv 0) pe_int (fun _ _ => rfl)) pa_nil)) (pv 1)))
    (pss_cons (ps_asg (pe_op op_fdivW (pe_ix ix_list (pv 0) pe_int (fun _ _ => rfl)) (pv 1)) (pg_sub (pv 0) pe_int set_list))
    (pss_one (ps_ret (pv 2)))))
      pss_nil)
    (pss_cons (ps_asg (pe_op op_add (pe_ix ix_list (pv 0) pe_int (fun _ _ => rfl)) pe_int) (pg_sub (pv 0) pe_int set_list))
    (pss_cons (ps_set (i := 3) sc_l_drip.nd rfl (.inl rfl) (pe_op op_mod (pe_callTy call_int1 (by rfl) T.b_int (by decide +kernel) (pa_cons (pe_op op_add (pe_ix ix_list (pv 0) pe_int (fun _ _ => rfl)) (pe_op op_mul pe_int (pe_ix ix_list (pv 0) pe_int (fun _ _ => rfl)))) pa_nil)) pe_int))
    (pss_cons (ps_set (i := 4) sc_l_drip.nd rfl (.inl rfl) (pe_op op_add (pe_op op_mul (pe_op op_mod (pe_callTy call_int1 (by rfl) T.b_int (by decide +kernel) (pa_cons (pe_op op_add (pe_op op_mul (pv 3) (pv 3)) (pe_op op_mul pe_int (pe_ix ix_list (pv 0) pe_int (fun _ _ => rfl)))) pa_nil)) pe_int) pe_int) (pv 3)))
    (pss_one (ps_ret (pe_op op_mod (pe_callTy call_int1 (by rfl) T.b_int (by decide +kernel) (pa_cons (pe_op op_fdivW (pv 4) pe_int) pa_nil)) (pv 1)))))))), ?_⟩
    have fv : ∀ (H' : Hp) (x' y' z' : Int), (∀ b o, b ≠ c → H b = some o → H' b = some o) → H' c = some (.lst [.int x', .int y', .int z']) → Fv c H H' := fun H' x' y' z' a b => ⟨⟨x', y', z', b⟩, a⟩
    refine ⟨_, rfl, c, _, 0, .int x, rfl, rfl, SqL.of hv, rfl, x, 0, rfl, rfl, _, rfl, iteD (fun g => ?_) (fun g => ?_)⟩
    · refine ⟨_, rfl, c, _, 0, .int x, rfl, rfl, SqL.of hv, rfl, .inl ⟨x, rfl, _, rfl, x, t, rfl, rfl, h0, ?_⟩⟩
      refine ⟨_, rfl, c, _, 0, .int x, rfl, rfl, SqL.of hv, rfl, _, rfl, x, t, rfl, rfl, dw h0 h1, ?_⟩
      refine ⟨_, rfl, c, _, 0, 0, rfl, rfl, hv, rfl, ?_⟩
      refine ⟨_, rfl, ?_⟩
      exact q _ _ (Int.emod_nonneg _ (by omega)) (Int.emod_lt_of_pos _ h0) (fv _ _ _ _ (fun b o n e => by rw [upd_ne n]; exact e) upd_same)
    · refine ⟨_, rfl, c, _, 2, .int z, rfl, rfl, SqL.of hv, rfl, _, 1, rfl, rfl, ?_⟩
      refine ⟨_, rfl, c, _, 2, 2, rfl, rfl, hv, rfl, ?_⟩
      have hv2 : upd H c (.lst [.int x, .int y, .int (z + 1)]) c = some (.lst [.int x, .int y, .int (z + 1)]) := upd_same
      refine ⟨_, rfl, c, _, 1, .int y, rfl, rfl, SqL.of hv2, rfl, _, rfl, c, _, 2, .int (z + 1), rfl, rfl, SqL.of hv2, rfl, _, _, rfl, rfl, .inl ⟨by decide, by decide⟩, _, _, rfl, rfl, .inl ⟨_, rfl, ?_⟩⟩
      refine ⟨_, _, rfl, rfl, (show (0 : Int) < 2305843009213693951 by decide), ?_⟩
      refine ⟨_, rfl, _, rfl, _, _, rfl, rfl, .inl ⟨by omega, by omega⟩, ?_⟩
      refine ⟨_, rfl, c, _, 2, .int (z + 1), rfl, rfl, SqL.of hv2, rfl, _, _, rfl, rfl, .inl ⟨by decide, by decide⟩, _, _, rfl, rfl, .inl ⟨_, rfl, ?_⟩⟩
      refine ⟨_, _, rfl, rfl, (show (0 : Int) < 2305843009213693951 by decide), _, _, rfl, rfl, .inr ⟨by decide, by decide⟩, ?_⟩
      refine ⟨_, rfl, _, _, rfl, rfl, ?_⟩
      refine ⟨_, rfl, _, _, rfl, rfl, dw (by decide) (by decide), .inl ⟨_, rfl, _, rfl, _, _, rfl, rfl, h0, ?_⟩⟩
      exact q _ _ (Int.emod_nonneg _ (by omega)) (Int.emod_lt_of_pos _ h0) (fv _ _ _ _ (fun b o n e => by rw [upd_ne n]; exact e) hv2)
theorem ok_l_some_of (T : Txt K mg C_Form C_Ring C_Element) : Def P w K mg base 2 "_law_some_of" ["_law_vat_here", "_law_items"] (sp_l_some_of K C_Form C_Ring C_Element) := by
  obtain ⟨f_, fd_, g_, F_⟩ := T.d_l_some_of
  obtain ⟨f_l_drip, fd_l_drip, g_l_drip, k_l_drip, b_l_drip, G_l_drip⟩ := (ok_l_drip (P := P) (w := w) (base := base) T)
  refine ⟨f_, fd_, g_, F_.kp, F_.binds (ps := ["_law_vat_here", "_law_items"]) (fun _ _ _ _ _ _ us hl => match us, hl with | [_, _], _ => rfl), ?_⟩
  refine F_.ok sc_l_some_of (fun vs H Q E h => ?_) (fun cdv A outer s H vs Q E hr h => ?_)
  · first | (obtain ⟨rfl, _⟩ := h; rfl) | (obtain ⟨_, rfl, _⟩ := h; rfl) | (obtain ⟨_, _, rfl, _⟩ := h; rfl) | (obtain ⟨_, _, _, rfl, _⟩ := h; rfl) | (obtain ⟨_, _, _, _, rfl, _⟩ := h; rfl) | (obtain ⟨_, _, _, _, _, rfl, _⟩ := h; rfl) | (obtain ⟨_, _, _, _, _, _, rfl, _⟩ := h; rfl) | (obtain ⟨_, _, _, _, _, _, _, rfl, _⟩ := h; rfl) | (obtain ⟨_, _, _, _, _, _, _, _, rfl, _⟩ := h; rfl) | (obtain ⟨_, _, _, _, _, _, _, _, _, rfl, _⟩ := h; rfl) | (obtain ⟨_, _, _, _, _, _, _, _, _, _, rfl, _⟩ := h; rfl) | (obtain ⟨_, _, _, _, _, _, _, _, _, _, _, rfl, _⟩ := h; rfl) | (obtain ⟨_, _, _, _, _, _, _, _, _, _, _, _, rfl, _⟩ := h; rfl) | (obtain ⟨_, _, _, _, _, _, _, _, _, _, _, _, _, rfl, _⟩ := h; rfl) | (obtain ⟨_, _, _, _, _, _, _, _, _, _, _, _, _, _, rfl, _⟩ := h; rfl) | (obtain ⟨_, _, _, _, _, _, _, _, _, _, _, _, _, _, _, rfl, _⟩ := h; rfl) | (obtain ⟨_, _, _, _, _, _, _, _, _, _, _, _, _, _, _, _, rfl, _⟩ := h; rfl) | (obtain ⟨_, _, _, _, _, _, _, _, _, _, _, _, _, _, _, _, _, rfl, _⟩ := h; rfl) | (obtain ⟨_, _, _, _, _, _, _, _, _, _, _, _, _, _, _, _, _, _, rfl, _⟩ := h; rfl) | (obtain ⟨_, _, _, _, _, _, _, _, _, _, _, _, _, _, _, _, _, _, _, rfl, _⟩ := h; rfl) | (obtain ⟨_, _, _, _, _, _, _, _, _, _, _, _, _, _, _, _, _, _, _, _, rfl, _⟩ := h; rfl) | (obtain ⟨_, _, _, _, _, _, _, _, _, _, _, _, _, _, _, _, _, _, _, _, _, rfl, _⟩ := h; rfl) | (obtain ⟨_, _, _, _, _, _, _, _, _, _, _, _, _, _, _, _, _, _, _, _, _, _, rfl, _⟩ := h; rfl) | (obtain ⟨_, _, _, _, _, _, _, _, _, _, _, _, _, _, _, _, _, _, _, _, _, _, _, rfl, _⟩ := h; rfl)
  · obtain ⟨c, l, xs, rfl, hc, hl, ne, hx, hz, q⟩ := h
    refine ⟨_, (pss_one (ps_ret (pe_ix ix_list (pv 1) (pe_call G_l_drip (hr.mono (by decide)) (by rfl) g_l_drip k_l_drip b_l_drip .nil pass0 (pa_cons (pv 0) (pa_cons (pe_callB call_len_seq (by rfl) T.b_len PySem.boot_len (pa_cons (pv 1) pa_nil)) pa_nil))) (fun _ _ => rfl)))), ?_⟩
    have h0 : 0 < xs.length := List.length_pos_iff.mpr hx
    refine ⟨_, rfl, _, rfl, _, rfl, l, xs, rfl, .inl (SqL.of hl), c, _, rfl, hc, by omega, by omega, fun r H' r0 r1 e => ?_⟩
    obtain ⟨j, rfl⟩ : ∃ j : Nat, r = (j : Int) := ⟨r.toNat, by omega⟩
    have hj : j < xs.length := by omega
    exact ⟨l, xs, _, xs[j], rfl, rfl, SqL.of (e.2 _ _ ne hl), atI_nat (List.getElem?_eq_getElem hj), q _ _ (List.getElem_mem hj) e⟩
theorem ok_l_int (T : Txt K mg C_Form C_Ring C_Element) : Def P w K mg base 3 "_law_int" ["_law_vat_here"] (sp_l_int K C_Form C_Ring C_Element) := by
  obtain ⟨f_, fd_, g_, F_⟩ := T.d_l_int
  obtain ⟨f_l_drip, fd_l_drip, g_l_drip, k_l_drip, b_l_drip, G_l_drip⟩ := (ok_l_drip (P := P) (w := w) (base := base) T)
  obtain ⟨f_l_some_of, fd_l_some_of, g_l_some_of, k_l_some_of, b_l_some_of, G_l_some_of⟩ := (ok_l_some_of (P := P) (w := w) (base := base) T)
  refine ⟨f_, fd_, g_, F_.kp, F_.binds (ps := ["_law_vat_here"]) (fun _ _ _ _ _ _ us hl => match us, hl with | [_], _ => rfl), ?_⟩
  refine F_.ok sc_l_int (fun vs H Q E h => ?_) (fun cdv A outer s H vs Q E hr h => ?_)
  · first | (obtain ⟨rfl, _⟩ := h; rfl) | (obtain ⟨_, rfl, _⟩ := h; rfl) | (obtain ⟨_, _, rfl, _⟩ := h; rfl) | (obtain ⟨_, _, _, rfl, _⟩ := h; rfl) | (obtain ⟨_, _, _, _, rfl, _⟩ := h; rfl) | (obtain ⟨_, _, _, _, _, rfl, _⟩ := h; rfl) | (obtain ⟨_, _, _, _, _, _, rfl, _⟩ := h; rfl) | (obtain ⟨_, _, _, _, _, _, _, rfl, _⟩ := h; rfl) | (obtain ⟨_, _, _, _, _, _, _, _, rfl, _⟩ := h; rfl) | (obtain ⟨_, _, _, _, _, _, _, _, _, rfl, _⟩ := h; rfl) | (obtain ⟨_, _, _, _, _, _, _, _, _, _, rfl, _⟩ := h; rfl) | (obtain ⟨_, _, _, _, _, _, _, _, _, _, _, rfl, _⟩ := h; rfl) | (obtain ⟨_, _, _, _, _, _, _, _, _, _, _, _, rfl, _⟩ := h; rfl) | (obtain ⟨_, _, _, _, _, _, _, _, _, _, _, _, _, rfl, _⟩ := h; rfl) | (obtain ⟨_, _, _, _, _, _, _, _, _, _, _, _, _, _, rfl, _⟩ := h; rfl) | (obtain ⟨_, _, _, _, _, _, _, _, _, _, _, _, _, _, _, rfl, _⟩ := h; rfl) | (obtain ⟨_, _, _, _, _, _, _, _, _, _, _, _, _, _, _, _, rfl, _⟩ := h; rfl) | (obtain ⟨_, _, _, _, _, _, _, _, _, _, _, _, _, _, _, _, _, rfl, _⟩ := h; rfl) | (obtain ⟨_, _, _, _, _, _, _, _, _, _, _, _, _, _, _, _, _, _, rfl, _⟩ := h; rfl) | (obtain ⟨_, _, _, _, _, _, _, _, _, _, _, _, _, _, _, _, _, _, _, rfl, _⟩ := h; rfl) | (obtain ⟨_, _, _, _, _, _, _, _, _, _, _, _, _, _, _, _, _, _, _, _, rfl, _⟩ := h; rfl) | (obtain ⟨_, _, _, _, _, _, _, _, _, _, _, _, _, _, _, _, _, _, _, _, _, rfl, _⟩ := h; rfl) | (obtain ⟨_, _, _, _, _, _, _, _, _, _, _, _, _, _, _, _, _, _, _, _, _, _, rfl, _⟩ := h; rfl) | (obtain ⟨_, _, _, _, _, _, _, _, _, _, _, _, _, _, _, _, _, _, _, _, _, _, _, rfl, _⟩ := h; rfl)
  · obtain ⟨c, rfl, hc, q⟩ := h
    refine ⟨_, (pss_cons (ps_set (i := 1) sc_l_int.nd rfl (.inl rfl) (pe_call G_l_some_of (hr.mono (by decide)) (by rfl) g_l_some_of k_l_some_of b_l_some_of .nil pass0 (pa_cons (pv 0) (pa_cons (pe_lst (pa_cons pe_int (pa_cons pe_int (pa_cons pe_int (pa_cons pe_int (pa_cons pe_int (pa_cons pe_int (pa_cons (pe_op op_pow pe_int pe_int) pa_nil)))))))) pa_nil))))
    (pss_one (ps_ret (pe_op op_sub (pe_call G_l_drip (hr.mono (by decide)) (by rfl) g_l_drip k_l_drip b_l_drip .nil pass0 (pa_cons (pv 0) (pa_cons (pe_op op_add (pe_op op_mul pe_int (pv 1)) pe_int) pa_nil))) (pv 1))))), ?_⟩
    refine ⟨_, rfl, _, _, rfl, rfl, ⟨by decide, by decide, by decide⟩, slN (by decide), fun l nl => ?_⟩
    refine ⟨c, l, [.int 1, .int 3, .int 3, .int 9, .int 9, .int 50, .int 1000000], rfl, vat_new hc nl, upd_same, fv_ne hc nl, by simp, by decide, fun v H1 hv e1 => ?_⟩
    obtain ⟨f, rfl, f1, f2⟩ := in_b (lo := 1) (hi := 1000000) hv (by decide)
    have e2 : Fv c H H1 := (fv_new hc nl).trans e1
    refine ⟨_, rfl, _, rfl, _, _, rfl, rfl, .inl ⟨by decide, by decide⟩, _, _, rfl, rfl, c, _, rfl, e2.1, by omega, by omega, fun r H2 r0 r1 e3 => ?_⟩
    exact ⟨_, rfl, _, _, rfl, rfl, q _ _ (by omega) (e2.trans e3)⟩
theorem ok_l_coefficients (T : Txt K mg C_Form C_Ring C_Element) : Def P w K mg base 4 "_law_coefficients" ["_law_vat_here"] (sp_l_coefficients K C_Form C_Ring C_Element) := by
  obtain ⟨f_, fd_, g_, F_⟩ := T.d_l_coefficients
  obtain ⟨f_l_drip, fd_l_drip, g_l_drip, k_l_drip, b_l_drip, G_l_drip⟩ := (ok_l_drip (P := P) (w := w) (base := base) T)
  obtain ⟨f_l_int, fd_l_int, g_l_int, k_l_int, b_l_int, G_l_int⟩ := (ok_l_int (P := P) (w := w) (base := base) T)
  obtain ⟨f_l_some_of, fd_l_some_of, g_l_some_of, k_l_some_of, b_l_some_of, G_l_some_of⟩ := (ok_l_some_of (P := P) (w := w) (base := base) T)
  refine ⟨f_, fd_, g_, F_.kp, F_.binds (ps := ["_law_vat_here"]) (fun _ _ _ _ _ _ us hl => match us, hl with | [_], _ => rfl), ?_⟩
  refine F_.ok sc_l_coefficients (fun vs H Q E h => ?_) (fun cdv A outer s H vs Q E hr h => ?_)
  · first | (obtain ⟨rfl, _⟩ := h; rfl) | (obtain ⟨_, rfl, _⟩ := h; rfl) | (obtain ⟨_, _, rfl, _⟩ := h; rfl) | (obtain ⟨_, _, _, rfl, _⟩ := h; rfl) | (obtain ⟨_, _, _, _, rfl, _⟩ := h; rfl) | (obtain ⟨_, _, _, _, _, rfl, _⟩ := h; rfl) | (obtain ⟨_, _, _, _, _, _, rfl, _⟩ := h; rfl) | (obtain ⟨_, _, _, _, _, _, _, rfl, _⟩ := h; rfl) | (obtain ⟨_, _, _, _, _, _, _, _, rfl, _⟩ := h; rfl) | (obtain ⟨_, _, _, _, _, _, _, _, _, rfl, _⟩ := h; rfl) | (obtain ⟨_, _, _, _, _, _, _, _, _, _, rfl, _⟩ := h; rfl) | (obtain ⟨_, _, _, _, _, _, _, _, _, _, _, rfl, _⟩ := h; rfl) | (obtain ⟨_, _, _, _, _, _, _, _, _, _, _, _, rfl, _⟩ := h; rfl) | (obtain ⟨_, _, _, _, _, _, _, _, _, _, _, _, _, rfl, _⟩ := h; rfl) | (obtain ⟨_, _, _, _, _, _, _, _, _, _, _, _, _, _, rfl, _⟩ := h; rfl) | (obtain ⟨_, _, _, _, _, _, _, _, _, _, _, _, _, _, _, rfl, _⟩ := h; rfl) | (obtain ⟨_, _, _, _, _, _, _, _, _, _, _, _, _, _, _, _, rfl, _⟩ := h; rfl) | (obtain ⟨_, _, _, _, _, _, _, _, _, _, _, _, _, _, _, _, _, rfl, _⟩ := h; rfl) | (obtain ⟨_, _, _, _, _, _, _, _, _, _, _, _, _, _, _, _, _, _, rfl, _⟩ := h; rfl) | (obtain ⟨_, _, _, _, _, _, _, _, _, _, _, _, _, _, _, _, _, _, _, rfl, _⟩ := h; rfl) | (obtain ⟨_, _, _, _, _, _, _, _, _, _, _, _, _, _, _, _, _, _, _, _, rfl, _⟩ := h; rfl) | (obtain ⟨_, _, _, _, _, _, _, _, _, _, _, _, _, _, _, _, _, _, _, _, _, rfl, _⟩ := h; rfl) | (obtain ⟨_, _, _, _, _, _, _, _, _, _, _, _, _, _, _, _, _, _, _, _, _, _, rfl, _⟩ := h; rfl) | (obtain ⟨_, _, _, _, _, _, _, _, _, _, _, _, _, _, _, _, _, _, _, _, _, _, _, rfl, _⟩ := h; rfl)
  · obtain ⟨c, rfl, hc, q⟩ := h
    refine ⟨_, (pss_cons (ps_set (i := 1) sc_l_coefficients.nd rfl (.inl rfl) (pe_call G_l_drip (hr.mono (by decide)) (by rfl) g_l_drip k_l_drip b_l_drip .nil pass0 (pa_cons (pv 0) (pa_cons pe_int pa_nil))))
    (Evl.pss_cut (ps_set (i := 2) sc_l_coefficients.nd rfl (.inl rfl) (pe_callTy call_tuple_of (by rfl) T.b_tuple (by decide +kernel) (pa_cons (pe_lc (own := [("_law_turn", 4)]) (g := (gName 4)) rfl sc_l_coefficients.nd (pi_range1 (by rfl) T.b_range (pa_cons pe_int pa_nil)) (blkOk_by (N := N_l_coefficients) (sc := defScope s_l_coefficients) (by decide +kernel)) (fun _ _ _ _ _ => (pg_name (i := 4) sc_l_coefficients.nd rfl (.inl rfl))) (fun _ _ _ _ _ => pts_nil) (fun _ _ _ _ _ => (pe_call G_l_int (hr.mono (by decide)) (by rfl) g_l_int k_l_int b_l_int .nil pass0 (pa_cons (pv 0) pa_nil)))) pa_nil)))
    (pss_cons (ps_if (pt_cmpR op_eq (pv 1) pe_int (nomark _))
      (pss_one (ps_ret (pe_op op_catT (pe_tup (pa_cons pe_int (pa_cons pe_int pa_nil))) (pe_slice sl_tupA (pv 2) (po_some pe_int) po_none))))
      pss_nil)
    (pss_cons (ps_if (pt_cmpR op_eq (pv 1) pe_int (nomark _))
      (pss_cons (ps_set (i := 3) sc_l_coefficients.nd rfl (.inr rfl) (pe_call G_l_some_of (hr.mono (by decide)) (by rfl) g_l_some_of k_l_some_of b_l_some_of .nil pass0 (pa_cons (pv 0) (pa_cons (pe_lst (pa_cons pe_int (pa_cons pe_int (pa_cons pe_int pa_nil)))) pa_nil))))
    (pss_one (ps_ret (pe_callTy call_tuple_of (by rfl) T.b_tuple (by decide +kernel) (pa_cons (pe_lc (own := [("_law_entry", 5)]) (g := (gName 5)) rfl sc_l_coefficients.nd (pi_tup (pv 2)) (blkOk_by (N := N_l_coefficients) (sc := defScope s_l_coefficients) (by decide +kernel)) (fun _ _ _ _ _ => (pg_name (i := 5) sc_l_coefficients.nd rfl (.inl rfl))) (fun _ _ _ _ _ => pts_nil) (fun _ _ _ _ _ => (pe_op op_mulW (pv 3) (pv 5)))) pa_nil)))))
      pss_nil)
    (pss_one (ps_ret (pe_ifExp (pt_cmpR op_eq (pv 1) pe_int (nomark _)) (pe_call G_l_some_of (hr.mono (by decide)) (by rfl) g_l_some_of k_l_some_of b_l_some_of .nil pass0 (pa_cons (pv 0) (pa_cons (pe_lst (pa_cons (pe_tup (pa_cons pe_int (pa_cons pe_int (pa_cons pe_int (pa_cons pe_int pa_nil))))) (pa_cons (pe_tup (pa_cons pe_int (pa_cons pe_int (pa_cons (pe_un un_neg pe_int) (pa_cons (pe_un un_neg pe_int) pa_nil))))) (pa_cons (pe_tup (pa_cons pe_int (pa_cons pe_int (pa_cons pe_int (pa_cons pe_int pa_nil))))) (pa_cons (pe_tup (pa_cons pe_int (pa_cons pe_int (pa_cons pe_int (pa_cons (pe_un un_neg pe_int) pa_nil))))) pa_nil))))) pa_nil))) (pv 2)))))))), ?_⟩
    refine ⟨_, rfl, c, 8, rfl, hc, by decide, by decide, fun way H1 w0 w1 e1 => ?_⟩
    refine ⟨fun σ H' => ∃ (t : Addr) (a b e d : Int), σ = [some (.ref c), some (.int way), some (.ref t), none, none, none] ∧ Fv c H H' ∧ Ti H' t [a, b, e, d] ∧ (∀ n ∈ [a, b, e, d], n.natAbs ≤ 1000000), ?_, ?_⟩
    · refine ⟨_, rfl, by decide, by decide, ?_⟩
      refine lcR (fmV c) e1.1 (fun i acc _ => ∃ ns : List Int, acc = ns.map V.int ∧ ns.length = i ∧ ∀ n ∈ ns, n.natAbs ≤ 1000000) (fun _ _ => ⟨[], rfl, rfl, fun _ h => by cases h⟩) (fun D i acc H3 hD hi e3 hA hlen hp => ?_) (fun D H3 acc hD e3 hA hp => ?_)
      · obtain ⟨ns, rfl, hln, hns⟩ := hp
        have hi' : i < 4 := by simpa using hi
        refine ⟨rfl, ?_⟩
        refine ⟨_, rfl, c, rfl, e3.1, fun z H4 hz e4 => ?_⟩
        refine cs_yes (fmV c) e1.1 hD e3 hA hlen (by omega) e4 ⟨ns ++ [z], by rw [List.map_append]; rfl, by rw [List.length_append, hln]; rfl, fun n hn => ?_⟩
        rcases List.mem_append.mp hn with h | h
        · exact hns n h
        · have : n = z := by simpa using h
          rw [this]
          exact hz
      · obtain ⟨ns, rfl, hln, hns⟩ := hp
        refine ⟨D, _, rfl, .inl ⟨SqL.of hA, fun p np => ?_⟩⟩
        obtain ⟨A1, A2, A3, A4, rfl⟩ : ∃ A1 A2 A3 A4, ns = [A1, A2, A3, A4] := by
          have hln' : ns.length = 4 := by simpa using hln
          match ns, hln' with
          | [x, y, z, u], _ => exact ⟨x, y, z, u, rfl⟩
        exact ⟨p, A1, A2, A3, A4, rfl, e1.trans (e3.trans (fv_new e3.1 np)), upd_same, hns⟩
    rintro σ H2 ⟨t, a, b, e, d, rfl, e2, ht, hn⟩
    have wk : ∀ n ∈ [a, b, e, d], n.natAbs ≤ 6000000 := fun n h => Nat.le_trans (hn n h) (by decide)
    have hb : ∀ n ∈ [a, b, e, d], B 1000 n := fun n h => ⟨Nat.lt_of_le_of_lt (hn n h) (by decide), by decide⟩
    refine ⟨_, rfl, rfl, _, rfl, iteE (fun g => ?_) (fun g => ?_)⟩
    · refine ⟨sl2, fun t0 n0 => ?_⟩
      have e3 : Fv c H2 (upd H2 t0 (.tup [.int 0, .int 0])) := fv_new e2.1 n0
      have ht3 := fv_tup e2.1 e3 ht
      refine ⟨_, rfl, 2, rfl, t, _, rfl, SqT.of ht3, fun z => absurd (show (2 : Nat) = 0 from z.1) (by decide), fun _ p np => ?_⟩
      have e4 : Fv c (upd H2 t0 (.tup [.int 0, .int 0])) (upd (upd H2 t0 (.tup [.int 0, .int 0])) p (.tup [.int e, .int d])) := fv_new e3.1 np
      refine ⟨t0, p, _, [.int e, .int d], rfl, rfl, SqT.of (fv_tup e3.1 e4 upd_same), SqT.of upd_same, by simp, by show 4 ≤ sizeLine; decide, fun z => absurd z (by simp), fun _ p2 np2 => ?_⟩
      refine q p2 0 0 e d _ (e2.trans (e3.trans (e4.trans (fv_new e4.1 np2)))) upd_same (fun n h => ?_)
      simp only [List.mem_cons, List.mem_nil_iff, or_false] at h
      rcases h with rfl | rfl | rfl | rfl
      · decide
      · decide
      · exact wk _ (by simp)
      · exact wk _ (by simp)
    refine ⟨_, rfl, rfl, _, rfl, iteE (fun g1 => ?_) (fun g1 => ?_)⟩
    · refine ⟨_, rfl, sl3, fun l nl => ?_⟩
      refine ⟨c, l, [.int 2, .int 3, .int 6], rfl, vat_new e2.1 nl, upd_same, fv_ne e2.1 nl, by simp, by decide, fun v H3 hv e3 => ?_⟩
      obtain ⟨f, rfl, f1, f2⟩ := in_b (lo := 2) (hi := 6) hv (by decide)
      have e4 : Fv c H2 H3 := (fv_new e2.1 nl).trans e3
      have ht3 := fv_tup e2.1 e4 ht
      have bf : B 1000 f := ⟨Nat.lt_of_le_of_lt (by omega : f.natAbs ≤ 6) (by decide), by decide⟩
      refine ⟨_, rfl, t, rfl, ⟨_, SqT.of ht3⟩, ?_⟩
      refine lcT fm0 trivial (SqT.of ht3) (fun z => z) (fun i acc _ => acc = (([a, b, e, d].take i).map fun x => f * x).map V.int) (fun _ _ => rfl) (fun D i x acc H' hD hx' e5 hA hlen hp => ?_) (fun D H' acc hD e5 hA hp => ?_)
      · obtain ⟨z, hz, rfl⟩ := get_int hx'
        have hi := (List.getElem?_eq_some_iff.mp hz).1
        refine ⟨rfl, ?_⟩
        refine ⟨_, rfl, _, rfl, _, _, rfl, rfl, mulB bf (hb _ (List.mem_of_getElem? hz)) (by decide), ?_⟩
        refine cs_yes fm0 trivial hD e5 hA hlen (by show i < 1000000; have : i < 4 := hi; omega) (Fx.refl trivial) ?_
        rw [hp, List.take_add_one, hz, List.map_append, List.map_append]
        rfl
      · rw [List.length_map, List.take_length] at hp
        subst hp
        refine ⟨D, _, rfl, .inl ⟨SqL.of hA, fun p np => ?_⟩⟩
        refine q p (f * a) (f * b) (f * e) (f * d) _ (e2.trans (e4.trans (fv_ex e4.1 (Fx.trans e5 (Ex0.new np))))) upd_same (fun n h => ?_)
        have six : ∀ x ∈ [a, b, e, d], (f * x).natAbs ≤ 6000000 := fun x hx => by
          rw [Int.natAbs_mul]
          exact Nat.mul_le_mul (by omega : f.natAbs ≤ 6) (hn x hx)
        simp only [List.mem_cons, List.mem_nil_iff, or_false] at h
        rcases h with rfl | rfl | rfl | rfl <;> exact six _ (by simp)
    · refine ⟨_, rfl, rfl, _, rfl, iteE (fun g2 => ?_) (fun g2 => ?_)⟩
      · refine ⟨_, rfl, sl4, fun t1 n1 => ⟨_, rfl, _, rfl, sl4, fun t2 n2 => ⟨sl4, fun t3 n3 => ⟨_, rfl, sl4, fun t4 n4 => ⟨sl4, fun l nl => ?_⟩⟩⟩⟩⟩
        have f1 := fv_new (o := .tup [.int 1, .int 1, .int 2, .int 1]) e2.1 n1
        have f2 := fv_new (o := .tup [.int 1, .int 2, .int (-1), .int (-1)]) f1.1 n2
        have f3 := fv_new (o := .tup [.int 0, .int 1, .int 1, .int 0]) f2.1 n3
        have f4 := fv_new (o := .tup [.int 1, .int 0, .int 0, .int (-2)]) f3.1 n4
        have f5 := fv_new (o := .lst [.ref t1, .ref t2, .ref t3, .ref t4]) f4.1 nl
        refine ⟨c, l, [.ref t1, .ref t2, .ref t3, .ref t4], rfl, f5.1, upd_same, fv_ne f4.1 nl, by simp, by show 4 ≤ 1000; decide, fun v H3 hv e3 => ?_⟩
        have k4 := f5.trans e3
        have k3 := f4.trans k4
        have k2 := f3.trans k3
        have k1 := f2.trans k2
        have all := e2.trans (f1.trans k1)
        have sm : ∀ ns : List Int, (ns.all fun n => decide (n.natAbs ≤ 6000000)) = true → ∀ n ∈ ns, n.natAbs ≤ 6000000 := fun ns h n hn => of_decide_eq_true (List.all_eq_true.mp h n hn)
        simp only [List.mem_cons, List.mem_nil_iff, or_false] at hv
        rcases hv with rfl | rfl | rfl | rfl
        · exact q t1 1 1 2 1 _ all (fv_tup f1.1 k1 upd_same) (sm _ (by decide))
        · exact q t2 1 2 (-1) (-1) _ all (fv_tup f2.1 k2 upd_same) (sm _ (by decide))
        · exact q t3 0 1 1 0 _ all (fv_tup f3.1 k3 upd_same) (sm _ (by decide))
        · exact q t4 1 0 0 (-2) _ all (fv_tup f4.1 k4 upd_same) (sm _ (by decide))
      · exact ⟨_, rfl, q t a b e d _ e2 ht wk⟩
end
end RG
namespace RG
open PySem PySem.Spec PyProof.Rows L2 Fr
def sp_Element___eq__ (K : PySem.W.Frag) (C C_R C_E : Addr) : Sp := fun vs H Q _ => ∃ (x : Addr) (w : V) (ns : List Int) (u y z b : Int), vs = [.ref x, w] ∧ ElAt C C_R C_E H x ns u y z b ∧
  ((∃ (x' : Addr) (ms : List Int) (v s r e : Int), w = .ref x' ∧ ElAt C C_R C_E H x' ms v s r e ∧ Q (.bl (decide (ns = ms ∧ u = v ∧ y = s ∧ z = r ∧ b = e))) H) ∨ (∃ t, PySem.W.kitOne K t (.ref C_E) = some false ∧ TyX K H w t ∧ Q (.bl false) H))
def sp_Element_is_whole (_ : PySem.W.Frag) (C C_R C_E : Addr) : Sp := fun vs H Q _ => ∃ (x : Addr) (ns : List Int) (u y z b : Int), vs = [.ref x] ∧ ElAt C C_R C_E H x ns u y z b ∧ Q (.bl (decide (b = 1))) H
def sp_Element___neg__ (_ : PySem.W.Frag) (C C_R C_E : Addr) : Sp := fun vs H Q _ => ∃ (x : Addr) (ns : List Int) (u y z e : Int), vs = [.ref x] ∧ ElAt C C_R C_E H x ns u y z e ∧ e ≠ 0 ∧ B 1000 e ∧ ∀ o H' u' y' z' b', Low (-u) (-y) (-z) e u' y' z' b' → Ex0 H H' → ElAt C C_R C_E H' o ns u' y' z' b' → Q (.ref o) H'
def sp_Element___sub__ (_ : PySem.W.Frag) (C C_R C_E : Addr) : Sp := fun vs H Q _ => ∃ (x x' : Addr) (ns : List Int) (u y z e v s r f : Int), vs = [.ref x, .ref x'] ∧ ElAt C C_R C_E H x ns u y z e ∧ ElAt C C_R C_E H x' ns v s r f ∧ B3 9000 u y z ∧ B3 9000 v s r ∧ B 1000 e ∧ B 1000 f ∧ e * f ≠ 0 ∧ ∀ o H' u' y' z' b', Low (u * f + v * (-1 * e)) (y * f + s * (-1 * e)) (z * f + r * (-1 * e)) (e * f) u' y' z' b' → Ex0 H H' → ElAt C C_R C_E H' o ns u' y' z' b' → Q (.ref o) H'
section
variable {P : Program} {w : World} {K : PySem.W.Frag} {mg : Str → Option Value} {base : Heap} {C_Form C_Ring C_Element : Addr}
theorem ok_Element___eq__ (T : Txt K mg C_Form C_Ring C_Element) : MDef (fun p f => EqC K C_Element f) P w K mg base 4 ["self", "other"] (sp_Element___eq__ K C_Form C_Ring C_Element) := by
  obtain ⟨p_, f_, fd_, R_, F_⟩ := T.e_Element___eq__
  obtain ⟨p_Ring___eq__, f_Ring___eq__, fd_Ring___eq__, R_Ring___eq__, b_Ring___eq__, G_Ring___eq__⟩ := (ok_Ring___eq__ (P := P) (w := w) (base := base) T)
  refine ⟨p_, f_, fd_, R_, F_.binds (ps := ["self", "other"]) (fun _ _ _ _ _ _ us hl => match us, hl with | [_, _], _ => rfl), ?_⟩
  refine F_.ok sc_Element___eq__ (fun vs H Q E h => ?_) (fun cdv A outer s H vs Q E hr h => ?_)
  · first | (obtain ⟨rfl, _⟩ := h; rfl) | (obtain ⟨_, rfl, _⟩ := h; rfl) | (obtain ⟨_, _, rfl, _⟩ := h; rfl) | (obtain ⟨_, _, _, rfl, _⟩ := h; rfl) | (obtain ⟨_, _, _, _, rfl, _⟩ := h; rfl) | (obtain ⟨_, _, _, _, _, rfl, _⟩ := h; rfl) | (obtain ⟨_, _, _, _, _, _, rfl, _⟩ := h; rfl) | (obtain ⟨_, _, _, _, _, _, _, rfl, _⟩ := h; rfl) | (obtain ⟨_, _, _, _, _, _, _, _, rfl, _⟩ := h; rfl) | (obtain ⟨_, _, _, _, _, _, _, _, _, rfl, _⟩ := h; rfl) | (obtain ⟨_, _, _, _, _, _, _, _, _, _, rfl, _⟩ := h; rfl) | (obtain ⟨_, _, _, _, _, _, _, _, _, _, _, rfl, _⟩ := h; rfl) | (obtain ⟨_, _, _, _, _, _, _, _, _, _, _, _, rfl, _⟩ := h; rfl) | (obtain ⟨_, _, _, _, _, _, _, _, _, _, _, _, _, rfl, _⟩ := h; rfl) | (obtain ⟨_, _, _, _, _, _, _, _, _, _, _, _, _, _, rfl, _⟩ := h; rfl) | (obtain ⟨_, _, _, _, _, _, _, _, _, _, _, _, _, _, _, rfl, _⟩ := h; rfl) | (obtain ⟨_, _, _, _, _, _, _, _, _, _, _, _, _, _, _, _, rfl, _⟩ := h; rfl) | (obtain ⟨_, _, _, _, _, _, _, _, _, _, _, _, _, _, _, _, _, rfl, _⟩ := h; rfl) | (obtain ⟨_, _, _, _, _, _, _, _, _, _, _, _, _, _, _, _, _, _, rfl, _⟩ := h; rfl) | (obtain ⟨_, _, _, _, _, _, _, _, _, _, _, _, _, _, _, _, _, _, _, rfl, _⟩ := h; rfl) | (obtain ⟨_, _, _, _, _, _, _, _, _, _, _, _, _, _, _, _, _, _, _, _, rfl, _⟩ := h; rfl) | (obtain ⟨_, _, _, _, _, _, _, _, _, _, _, _, _, _, _, _, _, _, _, _, _, rfl, _⟩ := h; rfl) | (obtain ⟨_, _, _, _, _, _, _, _, _, _, _, _, _, _, _, _, _, _, _, _, _, _, rfl, _⟩ := h; rfl) | (obtain ⟨_, _, _, _, _, _, _, _, _, _, _, _, _, _, _, _, _, _, _, _, _, _, _, rfl, _⟩ := h; rfl)
  · obtain ⟨x, w, ns, u, y, z, b, rfl, ⟨dx, r1, t1, hx, hR, ht⟩, h2⟩ := h
    refine ⟨_, (pss_cons (ps_if (PW.pt (pw_or (pt_not (pt_val (pe_callB call_isi (by rfl) T.b_isinstance (by decide +kernel) (pa_cons (pv 1) (pa_cons (pe_glob (v := .ref C_Element) (by rfl) T.g_Element rfl) pa_nil))))) (pw_or1 (pt_cmpR (op_neI R_Ring___eq__ G_Ring___eq__ b_Ring___eq__ (hr.mono (by decide)) pass0) (pe_fld (pv 0) (by rfl)) (pe_fld (pv 1) (by rfl)) (nomark _)))))
      (pss_one (ps_ret pe_bl))
      pss_nil)
    (pss_one (ps_ret (pe_and (pe_cmpR (op_eqD hr.units) (pe_fld (pv 0) (by rfl)) (pe_fld (pv 1) (by rfl)) (nomark _)) (pe_one (pe_cmpR op_eq (pe_fld (pv 0) (by rfl)) (pe_fld (pv 1) (by rfl)) (nomark _))))))), ?_⟩
    rcases h2 with ⟨x', ms, v, s', r, e, rfl, ⟨dx', r2, t2, hx', hR', ht'⟩, q⟩ | ⟨t, kt, ty, q⟩
    · refine ⟨_, rfl, _, _, _, _, true, rfl, .own _, ty_ins T.ty_Element T.cl_Element hx', kit_self, _, rfl, iteF ?_⟩
      obtain ⟨d3, f3, m1, m2⟩ := id hR
      obtain ⟨d4, f4, n1, n2⟩ := id hR'
      refine ⟨_, rfl, x, C_Element, dx, _, .ref r1, rfl, hx, T.cl_Element, T.na_Element_ring, lkR, _, rfl, x', C_Element, dx', _, .ref r2, rfl, hx', T.cl_Element, T.na_Element_ring, lkR, ?_⟩
      refine ⟨r1, d3, _, _, rfl, m1, ty_ins T.ty_Ring T.cl_Ring n1, first_self, r1, .ref r2, ns, rfl, hR, .inl ⟨r2, ms, rfl, hR', _, rfl, _, rfl, iteN (fun hn => ?_) (fun hn => ?_)⟩⟩
      · rw [decide_eq_false (fun h => hn h.1)] at q
        exact q
      · refine ⟨_, rfl, x, C_Element, dx, _, .ref t1, rfl, hx, T.cl_Element, T.na_Element_entries, lkE, _, rfl, x', C_Element, dx', _, .ref t2, rfl, hx', T.cl_Element, T.na_Element_entries, lkE, .tuple ([u, y, z].map .int), .tuple ([v, s', r].map .int), .tup (SqT.of ht) (dp_ints _), .tup (SqT.of ht') (dp_ints _), shaped_tints _, shaped_tints _, ?_⟩
        rw [PyData.eqv, eqv_ints]
        refine ⟨_, rfl, iteD (fun k => ?_) (fun k => ?_)⟩
        · refine ⟨_, rfl, x, C_Element, dx, _, .int b, rfl, hx, T.cl_Element, T.na_Element_bottom, lkB, _, rfl, x', C_Element, dx', _, .int e, rfl, hx', T.cl_Element, T.na_Element_bottom, lkB, rfl, ?_⟩
          have : decide (V.int b = V.int e) = decide (ns = ms ∧ u = v ∧ y = s' ∧ z = r ∧ b = e) := by
            rw [deI]
            simp only [List.cons.injEq, and_true] at k
            simp [hn, k]
          rw [this]
          exact q
        · have : decide (ns = ms ∧ u = v ∧ y = s' ∧ z = r ∧ b = e) = false := decide_eq_false fun h => k (by rw [h.2.1, h.2.2.1, h.2.2.2.1])
          rw [this] at q
          exact q
    · exact ⟨_, rfl, _, _, _, _, false, rfl, .own _, ty, kt, _, rfl, iteT q⟩
theorem ok_Element___neg__ (T : Txt K mg C_Form C_Ring C_Element) : MDef (fun p f => Meth K C_Element "__neg__" f) P w K mg base 4 ["self"] (sp_Element___neg__ K C_Form C_Ring C_Element) := by
  obtain ⟨p_, f_, fd_, R_, F_⟩ := T.e_Element___neg__
  obtain ⟨p_Element___init__, f_Element___init__, fd_Element___init__, R_Element___init__, b_Element___init__, G_Element___init__⟩ := (ok_Element___init__ (P := P) (w := w) (base := base) T)
  refine ⟨p_, f_, fd_, R_, F_.binds (ps := ["self"]) (fun _ _ _ _ _ _ us hl => match us, hl with | [_], _ => rfl), ?_⟩
  refine F_.ok sc_Element___neg__ (fun vs H Q E h => ?_) (fun cdv A outer s H vs Q E hr h => ?_)
  · first | (obtain ⟨rfl, _⟩ := h; rfl) | (obtain ⟨_, rfl, _⟩ := h; rfl) | (obtain ⟨_, _, rfl, _⟩ := h; rfl) | (obtain ⟨_, _, _, rfl, _⟩ := h; rfl) | (obtain ⟨_, _, _, _, rfl, _⟩ := h; rfl) | (obtain ⟨_, _, _, _, _, rfl, _⟩ := h; rfl) | (obtain ⟨_, _, _, _, _, _, rfl, _⟩ := h; rfl) | (obtain ⟨_, _, _, _, _, _, _, rfl, _⟩ := h; rfl) | (obtain ⟨_, _, _, _, _, _, _, _, rfl, _⟩ := h; rfl) | (obtain ⟨_, _, _, _, _, _, _, _, _, rfl, _⟩ := h; rfl) | (obtain ⟨_, _, _, _, _, _, _, _, _, _, rfl, _⟩ := h; rfl) | (obtain ⟨_, _, _, _, _, _, _, _, _, _, _, rfl, _⟩ := h; rfl) | (obtain ⟨_, _, _, _, _, _, _, _, _, _, _, _, rfl, _⟩ := h; rfl) | (obtain ⟨_, _, _, _, _, _, _, _, _, _, _, _, _, rfl, _⟩ := h; rfl) | (obtain ⟨_, _, _, _, _, _, _, _, _, _, _, _, _, _, rfl, _⟩ := h; rfl) | (obtain ⟨_, _, _, _, _, _, _, _, _, _, _, _, _, _, _, rfl, _⟩ := h; rfl) | (obtain ⟨_, _, _, _, _, _, _, _, _, _, _, _, _, _, _, _, rfl, _⟩ := h; rfl) | (obtain ⟨_, _, _, _, _, _, _, _, _, _, _, _, _, _, _, _, _, rfl, _⟩ := h; rfl) | (obtain ⟨_, _, _, _, _, _, _, _, _, _, _, _, _, _, _, _, _, _, rfl, _⟩ := h; rfl) | (obtain ⟨_, _, _, _, _, _, _, _, _, _, _, _, _, _, _, _, _, _, _, rfl, _⟩ := h; rfl) | (obtain ⟨_, _, _, _, _, _, _, _, _, _, _, _, _, _, _, _, _, _, _, _, rfl, _⟩ := h; rfl) | (obtain ⟨_, _, _, _, _, _, _, _, _, _, _, _, _, _, _, _, _, _, _, _, _, rfl, _⟩ := h; rfl) | (obtain ⟨_, _, _, _, _, _, _, _, _, _, _, _, _, _, _, _, _, _, _, _, _, _, rfl, _⟩ := h; rfl) | (obtain ⟨_, _, _, _, _, _, _, _, _, _, _, _, _, _, _, _, _, _, _, _, _, _, _, rfl, _⟩ := h; rfl)
  · obtain ⟨x, ns, u, y, z, e, rfl, ⟨d1, r1, t1, g1, g2, g3⟩, he, be, q⟩ := h
    refine ⟨_, (pss_one (ps_ret (pe_make R_Element___init__ G_Element___init__ (hr.mono (by decide)) (by rfl) T.g_Element b_Element___init__ .nil pass0 (pa_cons (pe_fld (pv 0) (by rfl)) (pa_cons (pe_callTy call_tuple_of (by rfl) T.b_tuple (by decide +kernel) (pa_cons (pe_lc (own := [("number", 1)]) (g := (gName 1)) rfl sc_Element___neg__.nd (pi_tup (pe_fld (pv 0) (by rfl))) (blkOk_by (N := N_Element___neg__) (sc := defScope s_Element___neg__) (by decide +kernel)) (fun _ _ _ _ _ => (pg_name (i := 1) sc_Element___neg__.nd rfl (.inl rfl))) (fun _ _ _ _ _ => pts_nil) (fun _ _ _ _ _ => (pe_un un_neg (pv 1)))) pa_nil)) (pa_cons (pe_fld (pv 0) (by rfl)) pa_nil)))))), ?_⟩
    refine ⟨_, rfl, x, C_Element, d1, _, .ref r1, rfl, g1, T.cl_Element, T.na_Element_ring, lkR, ?_⟩
    refine ⟨_, rfl, x, C_Element, d1, _, .ref t1, rfl, g1, T.cl_Element, T.na_Element_entries, lkE, t1, rfl, ⟨_, SqT.of g3⟩, ?_⟩
    refine lcT fm0 trivial (SqT.of g3) (fun z => z) (fun i acc _ => acc = (([-u, -y, -z] : List Int).take i).map V.int) (fun _ _ => rfl) (fun D i k acc H' hD hk e1 hA hlen hp => ?_) (fun D H' acc hD e1 hA hp => ?_)
    · obtain ⟨m', hm', rfl⟩ := get_int hk
      have hi : i < 3 := (List.getElem?_eq_some_iff.mp hm').1
      refine ⟨rfl, ?_⟩
      refine ⟨_, rfl, _, rfl, ?_⟩
      refine cs_yes fm0 trivial hD e1 hA hlen (by omega) (Fx.refl trivial) ?_
      show acc ++ [V.int (-m')] = _
      rw [hp]
      match i, hm' with
      | 0, hm => rw [← Option.some.inj hm]; rfl
      | 1, hm => rw [← Option.some.inj hm]; rfl
      | 2, hm => rw [← Option.some.inj hm]; rfl
    · refine ⟨D, _, rfl, .inl ⟨SqL.of hA, fun p np => ?_⟩⟩
      have hp' : acc = [.int (-u), .int (-y), .int (-z)] := hp
      subst hp'
      have e2 : Ex0 H (upd H' p (.tup [.int (-u), .int (-y), .int (-z)])) := Fx.trans e1 (Ex0.new np)
      refine ⟨_, rfl, x, C_Element, d1, _, .int e, rfl, Ex0.ap e2 g1, T.cl_Element, T.na_Element_bottom, lkB, fun y0 dy nx ndx _ => ?_⟩
      refine ⟨y0, dy, r1, p, _, _, _, e, rfl, upd_same, SqT.of (made_at nx ndx upd_same), he, be.mono (by decide), fun H3 t' u' y' z' b' low e3 nt e4 ht' => ⟨rfl, ?_⟩⟩
      obtain ⟨f1, f2⟩ := el_made (t := p) nx ndx (Ex0.ri e2 g2) e3 e4 ht'
      exact q y0 H3 u' y' z' b' low (e2.trans f1) f2
theorem ok_Element___sub__ (T : Txt K mg C_Form C_Ring C_Element) : MDef (fun p f => BinC K C_Element "__sub__" f) P w K mg base 5 ["self", "other"] (sp_Element___sub__ K C_Form C_Ring C_Element) := by
  obtain ⟨p_, f_, fd_, R_, F_⟩ := T.e_Element___sub__
  obtain ⟨f_check_one_ring, fd_check_one_ring, g_check_one_ring, k_check_one_ring, b_check_one_ring, G_check_one_ring⟩ := (ok_check_one_ring (P := P) (w := w) (base := base) T)
  obtain ⟨f_mixed, fd_mixed, g_mixed, k_mixed, b_mixed, G_mixed⟩ := (ok_mixed (P := P) (w := w) (base := base) T)
  refine ⟨p_, f_, fd_, R_, F_.binds (ps := ["self", "other"]) (fun _ _ _ _ _ _ us hl => match us, hl with | [_, _], _ => rfl), ?_⟩
  refine F_.ok sc_Element___sub__ (fun vs H Q E h => ?_) (fun cdv A outer s H vs Q E hr h => ?_)
  · first | (obtain ⟨rfl, _⟩ := h; rfl) | (obtain ⟨_, rfl, _⟩ := h; rfl) | (obtain ⟨_, _, rfl, _⟩ := h; rfl) | (obtain ⟨_, _, _, rfl, _⟩ := h; rfl) | (obtain ⟨_, _, _, _, rfl, _⟩ := h; rfl) | (obtain ⟨_, _, _, _, _, rfl, _⟩ := h; rfl) | (obtain ⟨_, _, _, _, _, _, rfl, _⟩ := h; rfl) | (obtain ⟨_, _, _, _, _, _, _, rfl, _⟩ := h; rfl) | (obtain ⟨_, _, _, _, _, _, _, _, rfl, _⟩ := h; rfl) | (obtain ⟨_, _, _, _, _, _, _, _, _, rfl, _⟩ := h; rfl) | (obtain ⟨_, _, _, _, _, _, _, _, _, _, rfl, _⟩ := h; rfl) | (obtain ⟨_, _, _, _, _, _, _, _, _, _, _, rfl, _⟩ := h; rfl) | (obtain ⟨_, _, _, _, _, _, _, _, _, _, _, _, rfl, _⟩ := h; rfl) | (obtain ⟨_, _, _, _, _, _, _, _, _, _, _, _, _, rfl, _⟩ := h; rfl) | (obtain ⟨_, _, _, _, _, _, _, _, _, _, _, _, _, _, rfl, _⟩ := h; rfl) | (obtain ⟨_, _, _, _, _, _, _, _, _, _, _, _, _, _, _, rfl, _⟩ := h; rfl) | (obtain ⟨_, _, _, _, _, _, _, _, _, _, _, _, _, _, _, _, rfl, _⟩ := h; rfl) | (obtain ⟨_, _, _, _, _, _, _, _, _, _, _, _, _, _, _, _, _, rfl, _⟩ := h; rfl) | (obtain ⟨_, _, _, _, _, _, _, _, _, _, _, _, _, _, _, _, _, _, rfl, _⟩ := h; rfl) | (obtain ⟨_, _, _, _, _, _, _, _, _, _, _, _, _, _, _, _, _, _, _, rfl, _⟩ := h; rfl) | (obtain ⟨_, _, _, _, _, _, _, _, _, _, _, _, _, _, _, _, _, _, _, _, rfl, _⟩ := h; rfl) | (obtain ⟨_, _, _, _, _, _, _, _, _, _, _, _, _, _, _, _, _, _, _, _, _, rfl, _⟩ := h; rfl) | (obtain ⟨_, _, _, _, _, _, _, _, _, _, _, _, _, _, _, _, _, _, _, _, _, _, rfl, _⟩ := h; rfl) | (obtain ⟨_, _, _, _, _, _, _, _, _, _, _, _, _, _, _, _, _, _, _, _, _, _, _, rfl, _⟩ := h; rfl)
  · obtain ⟨x, x', ns, u, y, z, e, v, s', r', f, rfl, h1, h2, bu, bv, be, bf, hne, q⟩ := h
    obtain ⟨dx, r, t, hx, hR, ht⟩ := id h1
    obtain ⟨dx2, r2, t2, hx2, hR2, ht2⟩ := id h2
    refine ⟨_, (pss_cons (ps_if (pt_not (pt_val (pe_callB call_isi (by rfl) T.b_isinstance (by decide +kernel) (pa_cons (pv 1) (pa_cons (pe_glob (v := .ref C_Element) (by rfl) T.g_Element rfl) pa_nil)))))
      (pss_one ps_never)
      pss_nil)
    (pss_cons (ps_expr (pe_call G_check_one_ring (hr.mono (by decide)) (by rfl) g_check_one_ring k_check_one_ring b_check_one_ring .nil pass0 (pa_cons (pv 0) (pa_cons (pv 1) pa_nil))))
    (pss_one (ps_ret (pe_call G_mixed (hr.mono (by decide)) (by rfl) g_mixed k_mixed b_mixed .nil pass0 (pa_cons (pv 0) (pa_cons (pv 1) (pa_cons (pe_un un_neg pe_int) pa_nil)))))))), ?_⟩
    refine ⟨_, rfl, _, _, _, _, true, rfl, .own _, ty_ins T.ty_Element T.cl_Element hx2, kit_self, _, rfl, ?_⟩
    refine iteF ⟨_, rfl, _, rfl, x, x', _, u, y, z, e, v, s', r', f, rfl, h1, h2, ?_⟩
    exact ⟨_, rfl, _, rfl, _, rfl, x, x', ns, ns, u, y, z, e, v, s', r', f, -1, rfl, h1, h2, bu, bv, be, bf, hne, .inr rfl, fun o H' u' y' z' b' low e1 ho => q o H' u' y' z' b' low e1 ho⟩
end
end RG
namespace RG
open PySem PySem.Spec PyProof.Rows L2 Fr
theorem dvd_low {d c a1 a2 a3 : Nat} (h1 : d ∣ c * a1) (h2 : d ∣ c * a2) (h3 : d ∣ c * a3) : d ∣ c * Nat.gcd (Nat.gcd a1 a2) a3 := by
  rw [← Nat.gcd_mul_left, ← Nat.gcd_mul_left]
  exact Nat.dvd_gcd (Nat.dvd_gcd h1 h2) h3
theorem gcdL3 (a b c : Int) : gcdL [a, b, c] = Nat.gcd (Nat.gcd a.natAbs b.natAbs) c.natAbs := by
  unfold gcdL
  simp only [List.foldl, Nat.gcd_zero_left]
theorem low_dvd {a1 a2 a3 a4 c1 c2 c3 c4 : Int} (hg : Nat.gcd (gcdL [a1, a2, a3]) a4.natAbs = 1) (k1 : a1 * c4 = c1 * a4) (k2 : a2 * c4 = c2 * a4) (k3 : a3 * c4 = c3 * a4) : a4.natAbs ∣ c4.natAbs := by
  have f : ∀ a c : Int, a * c4 = c * a4 → a4.natAbs ∣ c4.natAbs * a.natAbs := fun a c h => by
    rw [← Int.natAbs_mul, Int.mul_comm, h, Int.natAbs_mul]
    exact Nat.dvd_mul_left _ _
  have := dvd_low (f _ _ k1) (f _ _ k2) (f _ _ k3)
  rw [← gcdL3] at this
  exact Nat.Coprime.dvd_of_dvd_mul_right (Nat.Coprime.symm hg) this
theorem Low.uniq {u y z b v s r e a1 a2 a3 a4 c1 c2 c3 c4 : Int} (h : Low u y z b a1 a2 a3 a4) (h' : Low v s r e c1 c2 c3 c4) (hb : b ≠ 0) (he : e ≠ 0) (k1 : u * e = v * b) (k2 : y * e = s * b) (k3 : z * e = r * b) :
    a1 = c1 ∧ a2 = c2 ∧ a3 = c3 ∧ a4 = c4 := by
  obtain ⟨g, h1, h2, h3, h4, h5, h6⟩ := h
  obtain ⟨g', h1', h2', h3', h4', h5', h6'⟩ := h'
  have g0 : g ≠ 0 := fun z => hb (by rw [h4, z, Int.zero_mul])
  have g0' : g' ≠ 0 := fun z => he (by rw [h4', z, Int.zero_mul])
  have can : ∀ a c : Int, g * a * (g' * c4) = g' * c * (g * a4) → a * c4 = c * a4 := fun a c k => by
    refine Int.eq_of_mul_eq_mul_left (Int.mul_ne_zero g0 g0') (a := g * g') ?_
    rw [show g * g' * (a * c4) = g * a * (g' * c4) by grind, k]
    grind
  have m1 := can a1 c1 (by rw [← h1, ← h4', ← h1', ← h4]; exact k1)
  have m2 := can a2 c2 (by rw [← h2, ← h4', ← h2', ← h4]; exact k2)
  have m3 := can a3 c3 (by rw [← h3, ← h4', ← h3', ← h4]; exact k3)
  have d1 := low_dvd h6 m1 m2 m3
  have d2 := low_dvd h6' m1.symm m2.symm m3.symm
  have e4 : a4 = c4 := by
    have := Nat.dvd_antisymm d1 d2
    omega
  subst e4
  have ne : a4 ≠ 0 := by omega
  exact ⟨Int.eq_of_mul_eq_mul_right ne m1, Int.eq_of_mul_eq_mul_right ne m2, Int.eq_of_mul_eq_mul_right ne m3, rfl⟩
theorem Low.self {u y z b : Int} (hb : 0 < b) (h : Nat.gcd (gcdL [u, y, z]) b.natAbs = 1) : Low u y z b u y z b := ⟨1, by omega, by omega, by omega, by omega, hb, h⟩
theorem Low.low {u y z b a1 a2 a3 a4 : Int} (h : Low u y z b a1 a2 a3 a4) : Low a1 a2 a3 a4 a1 a2 a3 a4 := by
  obtain ⟨g, h1, h2, h3, h4, h5, h6⟩ := h
  exact Low.self h5 h6
theorem Low.pos {u y z b u' y' z' b' : Int} (h : Low u y z b u' y' z' b') : 0 < b' := by
  obtain ⟨_, _, _, _, _, h, _⟩ := h
  exact h
theorem Low.B {u y z b u' y' z' b' : Int} {n m : Nat} (h : Low u y z b u' y' z' b') (hb : b ≠ 0) (h1 : B3 n u y z) (h2 : B m b) : B3 n u' y' z' ∧ Fr.B m b' := by
  obtain ⟨g, e1, e2, e3, e4, _, _⟩ := h
  have g0 : g ≠ 0 := fun z => hb (by rw [e4, z, Int.zero_mul])
  have le : ∀ p q : Int, p = g * q → q.natAbs ≤ p.natAbs := fun p q e => by
    rw [e, Int.natAbs_mul]
    exact Nat.le_mul_of_pos_left _ (by omega)
  exact ⟨⟨⟨Nat.lt_of_le_of_lt (le _ _ e1) h1.1.1, h1.1.2⟩, ⟨Nat.lt_of_le_of_lt (le _ _ e2) h1.2.1.1, h1.2.1.2⟩, ⟨Nat.lt_of_le_of_lt (le _ _ e3) h1.2.2.1, h1.2.2.2⟩⟩, ⟨Nat.lt_of_le_of_lt (le _ _ e4) h2.1, h2.2⟩⟩
theorem Low.neg {u y z b a1 a2 a3 a4 : Int} (h : Low u y z b a1 a2 a3 a4) : Low (-u) (-y) (-z) b (-a1) (-a2) (-a3) a4 := by
  obtain ⟨g, h1, h2, h3, h4, h5, h6⟩ := h
  refine ⟨g, by rw [h1, Int.mul_neg], by rw [h2, Int.mul_neg], by rw [h3, Int.mul_neg], h4, h5, ?_⟩
  rw [gcdL3] at h6 ⊢
  simpa only [Int.natAbs_neg] using h6
end RG
namespace RG
open PySem PySem.Spec PyProof.Rows L2 Fr
theorem ex_two {H : Hp} {x dx : Addr} {o1 o2 : HO} (nx : H x = none) (ndx : H dx = none) : Ex0 H (upd (upd H dx o1) x o2) := Ex0.of fun b o e => by
  rw [upd_ne (ne_of_none e nx), upd_ne (ne_of_none e ndx)]
  exact e
theorem fo_made {C : Addr} {H H' : Hp} {x dx t : Addr} {ns : List Int} {o1 o2 : HO} (nx : H x = none) (ndx : H dx = none) (ht : Ti H t ns) (e1 : ∀ b o, b ≠ x → (upd (upd H dx o1) x o2) b = some o → H' b = some o)
    (e2 : H' x = some (.ins C dx [(("_coefficients" : Str), .ref t)])) : Ex0 H H' ∧ FormAt C H' x ns :=
  ⟨made_ex nx ndx e1, dx, t, e2, Ex0.ti (made_ex nx ndx e1) ht⟩
theorem ri_made {C C_R : Addr} {H H' : Hp} {x dx f : Addr} {ns : List Int} {o1 o2 : HO} (nx : H x = none) (ndx : H dx = none) (hf : FormAt C H f ns) (e1 : ∀ b o, b ≠ x → (upd (upd H dx o1) x o2) b = some o → H' b = some o)
    (e2 : H' x = some (.ins C_R dx [(("_form" : Str), .ref f)])) : Ex0 H H' ∧ RingAt C C_R H' x ns :=
  ⟨made_ex nx ndx e1, dx, f, e2, Ex0.fo (made_ex nx ndx e1) hf⟩
theorem fo_fv {C c : Addr} {H H' : Hp} {x : Addr} {ns : List Int} (hc : Vat c H) (f : Fv c H H') (h : FormAt C H x ns) : FormAt C H' x ns := by
  obtain ⟨dx, t, h1, h2⟩ := h
  refine ⟨dx, t, f.2 x _ (fun e => ?_) h1, fv_tup hc f h2⟩
  obtain ⟨u, v, z, q⟩ := hc
  unfold Sv at e
  rw [e, q] at h1
  cases h1
theorem ri_fv {C C_R c : Addr} {H H' : Hp} {x : Addr} {ns : List Int} (hc : Vat c H) (f : Fv c H H') (h : RingAt C C_R H x ns) : RingAt C C_R H' x ns := by
  obtain ⟨dx, t, h1, h2⟩ := h
  refine ⟨dx, t, f.2 x _ (fun e => ?_) h1, fo_fv hc f h2⟩
  obtain ⟨u, v, z, q⟩ := hc
  unfold Sv at e
  rw [e, q] at h1
  cases h1
theorem lst_fv {c a : Addr} {H H' : Hp} {t1 t2 t3 : Addr} (hc : Vat c H) (f : Fv c H H') (h : H a = some (.lst [.ref t1, .ref t2, .ref t3])) : H' a = some (.lst [.ref t1, .ref t2, .ref t3]) := f.2 a _ (fun e => by
  obtain ⟨x, y, z, q⟩ := hc
  unfold Sv at e
  subst e
  rw [q] at h
  cases h) h
theorem l33_fv {c : Addr} {H H' : Hp} {a : Addr} {r1 r2 r3 : List Int} (hc : Vat c H) (f : Fv c H H') (h : L33 H a r1 r2 r3) : L33 H' a r1 r2 r3 := by
  obtain ⟨t1, t2, t3, h0, h1, h2, h3⟩ := h
  exact ⟨t1, t2, t3, lst_fv hc f h0, fv_tup hc f h1, fv_tup hc f h2, fv_tup hc f h3⟩
theorem el_fv {C C_R C_E c : Addr} {H H' : Hp} {x : Addr} {ns : List Int} {u y z b : Int} (hc : Vat c H) (f : Fv c H H') (h : ElAt C C_R C_E H x ns u y z b) : ElAt C C_R C_E H' x ns u y z b := by
  obtain ⟨dx, r, t, h1, h2, h3⟩ := h
  refine ⟨dx, r, t, f.2 x _ (fun e => ?_) h1, ri_fv hc f h2, fv_tup hc f h3⟩
  obtain ⟨u, v, z, q⟩ := hc
  unfold Sv at e
  rw [e, q] at h1
  cases h1
end RG
namespace RG
open PySem PySem.Spec PyProof.Rows L2 Fr
open TxtM (dg trm wst wds sumS nms)
theorem showable_ints {ns : List Int} (h : ∀ n ∈ ns, n.natAbs.log2 < 1920) : (PyData.tuple (ns.map .int)).showable = true := by
  show PyData.showableAll (ns.map .int) = true
  induction ns with
  | nil => rfl
  | cons n l ih =>
    show (decide (n.natAbs.log2 < 1920) && PyData.showableAll (l.map .int)) = true
    rw [decide_eq_true (h n (by simp)), ih fun z hz => h z (List.mem_cons_of_mem _ hz)]
    rfl
theorem noDict_ints (ns : List Int) : (PyData.tuple (ns.map .int)).hasDict = false := by
  show PyData.hasDictAll (ns.map .int) = false
  induction ns with
  | nil => rfl
  | cons n l ih => exact ih
theorem depth_ints (ns : List Int) : (PyData.tuple (ns.map .int)).depth ≤ 40 := by
  have h : ∀ l : List Int, PyData.depthAll (l.map .int) = 0 := fun l => by
    induction l with
    | nil => rfl
    | cons n l ih =>
      show max 0 (PyData.depthAll (l.map .int)) = 0
      rw [ih]
      rfl
  show PyData.depthAll (ns.map .int) + 1 ≤ 40
  rw [h]
  decide
abbrev tupS (ns : List Int) : Str := (PyData.tuple (ns.map .int)).shown
abbrev L19 (n : Int) : Prop := n.natAbs.log2 < 1920
def ringS (ns : List Int) : Str := ("ring of " : Str) ++ tupS ns
def elS (ns : List Int) (b : Int) : Str := if b = 1 then sumS ns else ((("(" : Str) ++ sumS ns) ++ ")/") ++ dg b
theorem dg_le {n : Int} (h : L19 n) : (dg n).length ≤ 1921 := int_text_len_1921 h
theorem trm_le {n : Int} {nm : Str} (h : L19 n) (hm : nm.length ≤ 1) : (trm n nm).length ≤ 1922 := by
  unfold trm
  split
  · omega
  · have h2 : (dg n.natAbs).length ≤ 1921 := dg_le (by show (Int.natAbs (n.natAbs : Int)).log2 < 1920; rw [Int.natAbs_natCast]; exact h)
    rw [strLen_append, strLen_append]
    have : Str.empty.length = 0 := rfl
    omega
def Wl (i : Nat) (ws : List Str) : Prop := (ws.map (·.length)).sum ≤ 2000 * i ∧ ws.length ≤ 2 * i
theorem Wl.step {i : Nat} {ws : List Str} (h : Wl i ws) {n : Int} {nm : Str} (hn : L19 n) (hm : nm.length ≤ 1) : Wl (i + 1) (wst ws (n, nm)) := by
  have t := trm_le hn hm
  have a1 : ("-" : Str).length = 1 := rfl
  have a2 : ("+" : Str).length = 1 := rfl
  obtain ⟨h1, h2⟩ := h
  unfold wst
  constructor
  · rw [List.map_append, List.sum_append]
    have b1 : ((if n < 0 then ws ++ [("-" : Str)] else if 0 < n ∧ 0 < ws.length then ws ++ [("+" : Str)] else ws).map (·.length)).sum ≤ 2000 * i + 1 := by
      split
      · simp only [List.map_append, List.sum_append, List.map_cons, List.map_nil, List.sum_cons, List.sum_nil]; omega
      · split
        · simp only [List.map_append, List.sum_append, List.map_cons, List.map_nil, List.sum_cons, List.sum_nil]; omega
        · omega
    have b2 : ((if n ≠ 0 then [trm n nm] else []).map (·.length)).sum ≤ 1922 := by
      split
      · simp only [List.map_cons, List.map_nil, List.sum_cons, List.sum_nil]; omega
      · simp
    exact Nat.le_trans (Nat.add_le_add b1 b2) (by omega)
  · rw [List.length_append]
    have b1 : (if n < 0 then ws ++ [("-" : Str)] else if 0 < n ∧ 0 < ws.length then ws ++ [("+" : Str)] else ws).length ≤ 2 * i + 1 := by
      split
      · simp; omega
      · split
        · simp; omega
        · omega
    have b2 : (if n ≠ 0 then [trm n nm] else []).length ≤ 1 := by split <;> simp
    exact Nat.le_trans (Nat.add_le_add b1 b2) (by omega)
theorem wds_succ {ns : List Int} {i : Nat} {n : Int} {nm : Str} (h1 : ns[i]? = some n) (h2 : nms[i]? = some nm) : wds ns (i + 1) = wst (wds ns i) (n, nm) := by
  unfold wds
  have : (ns.zip nms)[i]? = some (n, nm) := by
    rw [List.getElem?_zip_eq_some]
    exact ⟨h1, h2⟩
  rw [List.take_add_one, this, List.foldl_append]
  rfl
def sp_Form___str__ (_ : PySem.W.Frag) (C C_R C_E : Addr) : Sp := fun vs H Q _ => ∃ (x : Addr) (ns : List Int), vs = [.ref x] ∧ FormAt C H x ns ∧ (∀ n ∈ ns, L19 n) ∧ (tupS ns).length ≤ sizeLine ∧ Q (.str (tupS ns)) H
def sp_Ring___str__ (_ : PySem.W.Frag) (C C_R C_E : Addr) : Sp := fun vs H Q _ => ∃ (x : Addr) (ns : List Int), vs = [.ref x] ∧ RingAt C C_R H x ns ∧ (∀ n ∈ ns, L19 n) ∧ (tupS ns).length + 8 ≤ sizeLine ∧ Q (.str (ringS ns)) H
def sp_term (_ : PySem.W.Frag) (C C_R C_E : Addr) : Sp := fun vs H Q _ => ∃ (n : Int) (nm : Str), vs = [.int n, .str nm] ∧ L19 n ∧ nm.length ≤ 1 ∧ Q (.str (trm n nm)) H
def sp_sum_text (_ : PySem.W.Frag) (C C_R C_E : Addr) : Sp := fun vs H Q _ => ∃ (a : Addr) (u y z : Int), vs = [.ref a] ∧ Ti H a [u, y, z] ∧ L19 u ∧ L19 y ∧ L19 z ∧ ∀ H', Ex0 H H' → Q (.str (sumS [u, y, z])) H'
def sp_Element___str__ (_ : PySem.W.Frag) (C C_R C_E : Addr) : Sp := fun vs H Q _ => ∃ (x : Addr) (ns : List Int) (u y z b : Int), vs = [.ref x] ∧ ElAt C C_R C_E H x ns u y z b ∧ L19 u ∧ L19 y ∧ L19 z ∧ L19 b ∧ ∀ H', Ex0 H H' → Q (.str (elS [u, y, z] b)) H'
theorem sum_le {u y z : Int} (h1 : L19 u) (h2 : L19 y) (h3 : L19 z) : (sumS [u, y, z]).length ≤ 6000 := by
  have w0 : Wl 0 (wds [u, y, z] 0) := ⟨Nat.le_refl _, Nat.le_refl _⟩
  have w1 := w0.step (nm := "") h1 (by decide)
  have w2 := w1.step (nm := "w") h2 (by decide)
  have w3 := w2.step (nm := "t") h3 (by decide)
  have e : wst (wst (wst (wds [u, y, z] 0) (u, "")) (y, "w")) (z, "t") = wds [u, y, z] 3 := rfl
  rw [e] at w3
  unfold sumS
  split
  · have : ∀ ws : List Str, (Str.join "" ws).length = (ws.map (·.length)).sum := fun ws => by
      rw [TxtM.len_tl, TxtM.tl_join, List.length_flatten, List.map_map]
      congr 1
    rw [this]
    exact w3.1
  · decide
section
variable {P : Program} {w : World} {K : PySem.W.Frag} {mg : Str → Option Value} {base : Heap} {C_Form C_Ring C_Element : Addr}
theorem ok_Form___str__ (T : Txt K mg C_Form C_Ring C_Element) : Gd.MDefG (fun p f => Meth K C_Form "__str__" f) P w K mg base 1 ["self"] (sp_Form___str__ K C_Form C_Ring C_Element) := by
  obtain ⟨p_, f_, fd_, R_, F_⟩ := T.e_Form___str__
  refine ⟨p_, f_, fd_, R_, F_.binds (ps := ["self"]) (fun _ _ _ _ _ _ us hl => match us, hl with | [_], _ => rfl), ?_⟩
  refine Gd.okG F_ sc_Form___str__ (fun vs H Q E h => ?_) (fun cdv A outer s H vs Q E hG hr h => ?_)
  · first | (obtain ⟨rfl, _⟩ := h; rfl) | (obtain ⟨_, rfl, _⟩ := h; rfl) | (obtain ⟨_, _, rfl, _⟩ := h; rfl) | (obtain ⟨_, _, _, rfl, _⟩ := h; rfl) | (obtain ⟨_, _, _, _, rfl, _⟩ := h; rfl) | (obtain ⟨_, _, _, _, _, rfl, _⟩ := h; rfl) | (obtain ⟨_, _, _, _, _, _, rfl, _⟩ := h; rfl) | (obtain ⟨_, _, _, _, _, _, _, rfl, _⟩ := h; rfl) | (obtain ⟨_, _, _, _, _, _, _, _, rfl, _⟩ := h; rfl) | (obtain ⟨_, _, _, _, _, _, _, _, _, rfl, _⟩ := h; rfl) | (obtain ⟨_, _, _, _, _, _, _, _, _, _, rfl, _⟩ := h; rfl) | (obtain ⟨_, _, _, _, _, _, _, _, _, _, _, rfl, _⟩ := h; rfl) | (obtain ⟨_, _, _, _, _, _, _, _, _, _, _, _, rfl, _⟩ := h; rfl) | (obtain ⟨_, _, _, _, _, _, _, _, _, _, _, _, _, rfl, _⟩ := h; rfl) | (obtain ⟨_, _, _, _, _, _, _, _, _, _, _, _, _, _, rfl, _⟩ := h; rfl) | (obtain ⟨_, _, _, _, _, _, _, _, _, _, _, _, _, _, _, rfl, _⟩ := h; rfl) | (obtain ⟨_, _, _, _, _, _, _, _, _, _, _, _, _, _, _, _, rfl, _⟩ := h; rfl) | (obtain ⟨_, _, _, _, _, _, _, _, _, _, _, _, _, _, _, _, _, rfl, _⟩ := h; rfl) | (obtain ⟨_, _, _, _, _, _, _, _, _, _, _, _, _, _, _, _, _, _, rfl, _⟩ := h; rfl) | (obtain ⟨_, _, _, _, _, _, _, _, _, _, _, _, _, _, _, _, _, _, _, rfl, _⟩ := h; rfl) | (obtain ⟨_, _, _, _, _, _, _, _, _, _, _, _, _, _, _, _, _, _, _, _, rfl, _⟩ := h; rfl) | (obtain ⟨_, _, _, _, _, _, _, _, _, _, _, _, _, _, _, _, _, _, _, _, _, rfl, _⟩ := h; rfl) | (obtain ⟨_, _, _, _, _, _, _, _, _, _, _, _, _, _, _, _, _, _, _, _, _, _, rfl, _⟩ := h; rfl) | (obtain ⟨_, _, _, _, _, _, _, _, _, _, _, _, _, _, _, _, _, _, _, _, _, _, _, rfl, _⟩ := h; rfl)
  · obtain ⟨x, ns, rfl, ⟨dx, t, hx, ht⟩, h1, h2, q⟩ := h
    refine ⟨_, (pss_one (ps_ret (pe_callTy (Gd.call_strD hG hr) (by rfl) T.b_str (by decide +kernel) (pa_cons (pe_fld (pv 0) (by rfl)) pa_nil)))), ?_⟩
    refine ⟨_, rfl, x, C_Form, dx, _, .ref t, rfl, hx, T.cl_Form, T.na_Form_coefficients, lk_same, ?_⟩
    exact ⟨t, .tuple (ns.map .int), rfl, .tup (SqT.of ht) (dp_ints _), showable_ints h1, noDict_ints ns, depth_ints ns, h2, q⟩
theorem ok_Ring___str__ (T : Txt K mg C_Form C_Ring C_Element) : Gd.MDefG (fun p f => Meth K C_Ring "__str__" f) P w K mg base 4 ["self"] (sp_Ring___str__ K C_Form C_Ring C_Element) := by
  obtain ⟨p_, f_, fd_, R_, F_⟩ := T.e_Ring___str__
  obtain ⟨p_Form___str__, f_Form___str__, fd_Form___str__, R_Form___str__, b_Form___str__, G_Form___str__⟩ := (ok_Form___str__ (P := P) (w := w) (base := base) T)
  refine ⟨p_, f_, fd_, R_, F_.binds (ps := ["self"]) (fun _ _ _ _ _ _ us hl => match us, hl with | [_], _ => rfl), ?_⟩
  refine Gd.okG F_ sc_Ring___str__ (fun vs H Q E h => ?_) (fun cdv A outer s H vs Q E hG hr h => ?_)
  · first | (obtain ⟨rfl, _⟩ := h; rfl) | (obtain ⟨_, rfl, _⟩ := h; rfl) | (obtain ⟨_, _, rfl, _⟩ := h; rfl) | (obtain ⟨_, _, _, rfl, _⟩ := h; rfl) | (obtain ⟨_, _, _, _, rfl, _⟩ := h; rfl) | (obtain ⟨_, _, _, _, _, rfl, _⟩ := h; rfl) | (obtain ⟨_, _, _, _, _, _, rfl, _⟩ := h; rfl) | (obtain ⟨_, _, _, _, _, _, _, rfl, _⟩ := h; rfl) | (obtain ⟨_, _, _, _, _, _, _, _, rfl, _⟩ := h; rfl) | (obtain ⟨_, _, _, _, _, _, _, _, _, rfl, _⟩ := h; rfl) | (obtain ⟨_, _, _, _, _, _, _, _, _, _, rfl, _⟩ := h; rfl) | (obtain ⟨_, _, _, _, _, _, _, _, _, _, _, rfl, _⟩ := h; rfl) | (obtain ⟨_, _, _, _, _, _, _, _, _, _, _, _, rfl, _⟩ := h; rfl) | (obtain ⟨_, _, _, _, _, _, _, _, _, _, _, _, _, rfl, _⟩ := h; rfl) | (obtain ⟨_, _, _, _, _, _, _, _, _, _, _, _, _, _, rfl, _⟩ := h; rfl) | (obtain ⟨_, _, _, _, _, _, _, _, _, _, _, _, _, _, _, rfl, _⟩ := h; rfl) | (obtain ⟨_, _, _, _, _, _, _, _, _, _, _, _, _, _, _, _, rfl, _⟩ := h; rfl) | (obtain ⟨_, _, _, _, _, _, _, _, _, _, _, _, _, _, _, _, _, rfl, _⟩ := h; rfl) | (obtain ⟨_, _, _, _, _, _, _, _, _, _, _, _, _, _, _, _, _, _, rfl, _⟩ := h; rfl) | (obtain ⟨_, _, _, _, _, _, _, _, _, _, _, _, _, _, _, _, _, _, _, rfl, _⟩ := h; rfl) | (obtain ⟨_, _, _, _, _, _, _, _, _, _, _, _, _, _, _, _, _, _, _, _, rfl, _⟩ := h; rfl) | (obtain ⟨_, _, _, _, _, _, _, _, _, _, _, _, _, _, _, _, _, _, _, _, _, rfl, _⟩ := h; rfl) | (obtain ⟨_, _, _, _, _, _, _, _, _, _, _, _, _, _, _, _, _, _, _, _, _, _, rfl, _⟩ := h; rfl) | (obtain ⟨_, _, _, _, _, _, _, _, _, _, _, _, _, _, _, _, _, _, _, _, _, _, _, rfl, _⟩ := h; rfl)
  · obtain ⟨x, ns, rfl, ⟨dx, f, hx, hf⟩, h1, h2, q⟩ := h
    obtain ⟨df, tf, hf1, hf2⟩ := id hf
    refine ⟨_, (pss_one (ps_ret (pe_joined (PJ.cons pe_str (PJ.cons (Gd.pe_fmtI ⟨T.fm_Form.1, T.fm_Form.2⟩ R_Form___str__ G_Form___str__ b_Form___str__ hG (hr.mono (by decide)) (pe_fld (pv 0) (by rfl))) PJ.nil))))), ?_⟩
    have e8 : ("ring of " : Str).length = 8 := rfl
    have em : Str.empty ++ ("ring of " : Str) = "ring of " := TxtM.tl_ext (by rw [TxtM.tl_app, TxtM.tl_empty]; rfl)
    refine ⟨_, rfl, ?_, ?_⟩
    · show (Str.empty ++ ("ring of " : Str)).length ≤ sizeLine
      rw [em, e8, sizeLine_eq]
      decide
    rw [em]
    refine ⟨_, rfl, x, C_Ring, dx, _, .ref f, rfl, hx, T.cl_Ring, T.na_Ring_form, lk_same, f, df, _, rfl, hf1, f, ns, rfl, hf, h1, by omega, _, rfl, _, rfl, ?_, q⟩
    rw [strLen_append, e8]
    omega
theorem ok_term (T : Txt K mg C_Form C_Ring C_Element) : Def P w K mg base 1 "term" ["number", "name"] (sp_term K C_Form C_Ring C_Element) := by
  obtain ⟨f_, fd_, g_, F_⟩ := T.d_term
  refine ⟨f_, fd_, g_, F_.kp, F_.binds (ps := ["number", "name"]) (fun _ _ _ _ _ _ us hl => match us, hl with | [_, _], _ => rfl), ?_⟩
  refine F_.ok sc_term (fun vs H Q E h => ?_) (fun cdv A outer s H vs Q E hr h => ?_)
  · first | (obtain ⟨rfl, _⟩ := h; rfl) | (obtain ⟨_, rfl, _⟩ := h; rfl) | (obtain ⟨_, _, rfl, _⟩ := h; rfl) | (obtain ⟨_, _, _, rfl, _⟩ := h; rfl) | (obtain ⟨_, _, _, _, rfl, _⟩ := h; rfl) | (obtain ⟨_, _, _, _, _, rfl, _⟩ := h; rfl) | (obtain ⟨_, _, _, _, _, _, rfl, _⟩ := h; rfl) | (obtain ⟨_, _, _, _, _, _, _, rfl, _⟩ := h; rfl) | (obtain ⟨_, _, _, _, _, _, _, _, rfl, _⟩ := h; rfl) | (obtain ⟨_, _, _, _, _, _, _, _, _, rfl, _⟩ := h; rfl) | (obtain ⟨_, _, _, _, _, _, _, _, _, _, rfl, _⟩ := h; rfl) | (obtain ⟨_, _, _, _, _, _, _, _, _, _, _, rfl, _⟩ := h; rfl) | (obtain ⟨_, _, _, _, _, _, _, _, _, _, _, _, rfl, _⟩ := h; rfl) | (obtain ⟨_, _, _, _, _, _, _, _, _, _, _, _, _, rfl, _⟩ := h; rfl) | (obtain ⟨_, _, _, _, _, _, _, _, _, _, _, _, _, _, rfl, _⟩ := h; rfl) | (obtain ⟨_, _, _, _, _, _, _, _, _, _, _, _, _, _, _, rfl, _⟩ := h; rfl) | (obtain ⟨_, _, _, _, _, _, _, _, _, _, _, _, _, _, _, _, rfl, _⟩ := h; rfl) | (obtain ⟨_, _, _, _, _, _, _, _, _, _, _, _, _, _, _, _, _, rfl, _⟩ := h; rfl) | (obtain ⟨_, _, _, _, _, _, _, _, _, _, _, _, _, _, _, _, _, _, rfl, _⟩ := h; rfl) | (obtain ⟨_, _, _, _, _, _, _, _, _, _, _, _, _, _, _, _, _, _, _, rfl, _⟩ := h; rfl) | (obtain ⟨_, _, _, _, _, _, _, _, _, _, _, _, _, _, _, _, _, _, _, _, rfl, _⟩ := h; rfl) | (obtain ⟨_, _, _, _, _, _, _, _, _, _, _, _, _, _, _, _, _, _, _, _, _, rfl, _⟩ := h; rfl) | (obtain ⟨_, _, _, _, _, _, _, _, _, _, _, _, _, _, _, _, _, _, _, _, _, _, rfl, _⟩ := h; rfl) | (obtain ⟨_, _, _, _, _, _, _, _, _, _, _, _, _, _, _, _, _, _, _, _, _, _, _, rfl, _⟩ := h; rfl)
  · obtain ⟨n, nm, rfl, hn, hm, q⟩ := h
    refine ⟨_, (pss_cons (ps_set (i := 2) sc_term.nd rfl (.inl rfl) (pe_callB call_abs (by rfl) T.b_abs (by decide +kernel) (pa_cons (pv 0) pa_nil)))
    (pss_cons (ps_if (PW.pt (pw_and (pt_cmpR op_eq (pv 2) pe_int (nomark _)) (pw_and1 (pt_cmpR op_ne (pv 1) pe_str (nomark _)))))
      (pss_one (ps_ret (pv 1)))
      pss_nil)
    (pss_one (ps_ret (pe_joined (PJ.cons (pe_fmt (pv 2)) (PJ.cons (pe_fmt (pv 1)) PJ.nil))))))), ?_⟩
    have ab : (if n < 0 then -n else n) = (n.natAbs : Int) := by
      by_cases h : n < 0
      · rw [if_pos h]; omega
      · rw [if_neg h]; omega
    refine ⟨_, rfl, n, rfl, ?_⟩
    rw [ab]
    have hd : ((n.natAbs : Int).natAbs).log2 < 1920 := by rw [Int.natAbs_natCast]; exact hn
    have last : trm n nm = (Str.empty ++ dg n.natAbs) ++ nm → tJs [tFmt (tVar 2), tFmt (tVar 1)] Str.empty [some (.int n), some (.str nm), some (.int (n.natAbs : Int))] H fun out H1 => Q (.str out) H1 := fun e => by
      have l1 := dg_le (n := (n.natAbs : Int)) hd
      have e0 : Str.empty.length = 0 := rfl
      have sz : sizeLine = 16777216 := sizeLine_eq
      refine ⟨_, rfl, .inr ⟨_, rfl, hd, _, rfl, ?_, ?_⟩⟩
      · rw [strLen_append]; show _ + (dg (n.natAbs : Int)).length ≤ _; omega
      refine ⟨_, rfl, .inl ⟨_, rfl, by omega, _, rfl, ?_, ?_⟩⟩
      · rw [strLen_append, strLen_append]; show _ + (dg (n.natAbs : Int)).length + _ ≤ _; omega
      have q' := q
      rw [e] at q'
      exact q'
    refine ⟨_, rfl, rfl, _, rfl, iteE (fun h1 => ?_) (fun h1 => ?_)⟩
    · refine ⟨_, rfl, rfl, _, rfl, ?_⟩
      by_cases h2 : nm = ""
      · rw [decide_eq_true (congrArg V.str h2)]
        refine iteF (last ?_)
        unfold trm
        rw [if_neg (fun z => z.2 h2)]
      · rw [decide_eq_false (fun z => h2 (V.str.inj z))]
        refine iteT ⟨_, rfl, ?_⟩
        unfold trm at q
        rw [if_pos (And.intro (by omega) h2)] at q
        exact q
    · refine iteF (last ?_)
      unfold trm
      rw [if_neg (fun z => h1 (by omega))]
theorem ok_sum_text (T : Txt K mg C_Form C_Ring C_Element) : Def P w K mg base 2 "sum_text" ["entries"] (sp_sum_text K C_Form C_Ring C_Element) := by
  obtain ⟨f_, fd_, g_, F_⟩ := T.d_sum_text
  obtain ⟨f_term, fd_term, g_term, k_term, b_term, G_term⟩ := (ok_term (P := P) (w := w) (base := base) T)
  refine ⟨f_, fd_, g_, F_.kp, F_.binds (ps := ["entries"]) (fun _ _ _ _ _ _ us hl => match us, hl with | [_], _ => rfl), ?_⟩
  refine F_.ok sc_sum_text (fun vs H Q E h => ?_) (fun cdv A outer s H vs Q E hr h => ?_)
  · first | (obtain ⟨rfl, _⟩ := h; rfl) | (obtain ⟨_, rfl, _⟩ := h; rfl) | (obtain ⟨_, _, rfl, _⟩ := h; rfl) | (obtain ⟨_, _, _, rfl, _⟩ := h; rfl) | (obtain ⟨_, _, _, _, rfl, _⟩ := h; rfl) | (obtain ⟨_, _, _, _, _, rfl, _⟩ := h; rfl) | (obtain ⟨_, _, _, _, _, _, rfl, _⟩ := h; rfl) | (obtain ⟨_, _, _, _, _, _, _, rfl, _⟩ := h; rfl) | (obtain ⟨_, _, _, _, _, _, _, _, rfl, _⟩ := h; rfl) | (obtain ⟨_, _, _, _, _, _, _, _, _, rfl, _⟩ := h; rfl) | (obtain ⟨_, _, _, _, _, _, _, _, _, _, rfl, _⟩ := h; rfl) | (obtain ⟨_, _, _, _, _, _, _, _, _, _, _, rfl, _⟩ := h; rfl) | (obtain ⟨_, _, _, _, _, _, _, _, _, _, _, _, rfl, _⟩ := h; rfl) | (obtain ⟨_, _, _, _, _, _, _, _, _, _, _, _, _, rfl, _⟩ := h; rfl) | (obtain ⟨_, _, _, _, _, _, _, _, _, _, _, _, _, _, rfl, _⟩ := h; rfl) | (obtain ⟨_, _, _, _, _, _, _, _, _, _, _, _, _, _, _, rfl, _⟩ := h; rfl) | (obtain ⟨_, _, _, _, _, _, _, _, _, _, _, _, _, _, _, _, rfl, _⟩ := h; rfl) | (obtain ⟨_, _, _, _, _, _, _, _, _, _, _, _, _, _, _, _, _, rfl, _⟩ := h; rfl) | (obtain ⟨_, _, _, _, _, _, _, _, _, _, _, _, _, _, _, _, _, _, rfl, _⟩ := h; rfl) | (obtain ⟨_, _, _, _, _, _, _, _, _, _, _, _, _, _, _, _, _, _, _, rfl, _⟩ := h; rfl) | (obtain ⟨_, _, _, _, _, _, _, _, _, _, _, _, _, _, _, _, _, _, _, _, rfl, _⟩ := h; rfl) | (obtain ⟨_, _, _, _, _, _, _, _, _, _, _, _, _, _, _, _, _, _, _, _, _, rfl, _⟩ := h; rfl) | (obtain ⟨_, _, _, _, _, _, _, _, _, _, _, _, _, _, _, _, _, _, _, _, _, _, rfl, _⟩ := h; rfl) | (obtain ⟨_, _, _, _, _, _, _, _, _, _, _, _, _, _, _, _, _, _, _, _, _, _, _, rfl, _⟩ := h; rfl)
  · obtain ⟨a, u, y, z, rfl, ha, hu, hy, hz, q⟩ := h
    refine ⟨_, (pss_cons (ps_set (i := 1) sc_sum_text.nd rfl (.inl rfl) (pe_lst pa_nil))
    (pss_cons (ps_for PassesOwn.never rfl (RZ.pi_zipA (by rfl) T.b_zip (pa_cons (pv 0) (pa_cons (pe_tup (pa_cons pe_str (pa_cons pe_str (pa_cons pe_str pa_nil)))) pa_nil))) (pg_tup (by rfl) (pgs_cons (pg_name (i := 2) sc_sum_text.nd rfl (.inl rfl)) (pgs_cons (pg_name (i := 3) sc_sum_text.nd rfl (.inl rfl)) pgs_nil)))
      (Evl.pss_cut (ps_if (pt_cmpR op_lt (pv 2) pe_int (nomark _))
      (pss_one (ps_expr (pe_bm PySem.F.plainAttrs_list PySem.F.slot_list_append PySem.F.type_list_append mt_append (pv 1) (pa_cons pe_str pa_nil))))
      (pss_one (ps_if (PW.pt (pw_and (pt_cmpR op_gt (pv 2) pe_int (nomark _)) (pw_and1 (pt_cmpR op_gt (pe_callB call_len_seq (by rfl) T.b_len PySem.boot_len (pa_cons (pv 1) pa_nil)) pe_int (nomark _)))))
      (pss_one (ps_expr (pe_bm PySem.F.plainAttrs_list PySem.F.slot_list_append PySem.F.type_list_append mt_append (pv 1) (pa_cons pe_str pa_nil))))
      pss_nil)))
    (pss_one (ps_if (pt_cmpR op_ne (pv 2) pe_int (nomark _))
      (pss_one (ps_expr (pe_bm PySem.F.plainAttrs_list PySem.F.slot_list_append PySem.F.type_list_append mt_append (pv 1) (pa_cons (pe_call G_term (hr.mono (by decide)) (by rfl) g_term k_term b_term .nil pass0 (pa_cons (pv 2) (pa_cons (pv 3) pa_nil))) pa_nil))))
      pss_nil))))
    (pss_one (ps_ret (pe_ifExp (pt_cmpR op_gt (pe_callB call_len_seq (by rfl) T.b_len PySem.boot_len (pa_cons (pv 1) pa_nil)) pe_int (nomark _)) (pe_join pe_str (pv 1)) pe_str))))), ?_⟩
    have sz : sizeLine = 16777216 := sizeLine_eq
    refine ⟨slN (by decide), fun W nW => ?_⟩
    have e1 : Ex0 H (upd H W (.lst [])) := Ex0.new nW
    refine ⟨_, rfl, sl3, fun Z nZ => ?_⟩
    have e2 : Ex0 (upd H W (.lst [])) (upd (upd H W (.lst [])) Z (.tup [.str "", .str "w", .str "t"])) := Ex0.new nZ
    have hZ : (upd (upd H W (.lst [])) Z (.tup [.str "", .str "w", .str "t"])) Z = some (.tup (nms.map V.str)) := upd_same
    have hW : (upd (upd H W (.lst [])) Z (.tup [.str "", .str "w", .str "t"])) W = some (.lst ((wds [u, y, z] 0).map V.str)) := by
      rw [upd_ne (ne_of_none (show upd H W (.lst []) W = some _ from upd_same) nZ), upd_same]
      rfl
    have e12 := e1.trans e2
    have nZH : H Z = none := Fx.free e1 (fun z => z) nZ
    generalize upd (upd H W (.lst [])) Z (.tup [.str "", .str "w", .str "t"]) = H0 at e12 hZ hW ⊢
    refine ⟨a, Z, _, _, rfl, .inr ⟨SqT.of (Ex0.ti e12 ha), SqT.of hZ, ?_⟩⟩
    have WZ : W ≠ Z := fun e => by rw [e, hZ] at hW; cases hW
    refine for_P (walk_zipT (K := K) (xs := ([u, y, z] : List Int).map V.int) (ys := nms.map V.str) rfl) (fun i σ H' => ∃ y2 y3, σ = [some (.ref a), some (.ref W), y2, y3] ∧ Ex0 H H' ∧ H' Z = some (.tup (nms.map V.str)) ∧ H' W = some (.lst ((wds [u, y, z] i).map V.str)) ∧ Wl i (wds [u, y, z] i)) ⟨none, none, rfl, e12, hZ, hW, ⟨Nat.le_refl _, Nat.le_refl _⟩⟩ (fun i σ H' _ ⟨_, _, _, e, h1, _⟩ => ⟨SqT.of (Ex0.ti e ha), SqT.of h1⟩) ?_ ?_
    · rintro i T x1 y1 σ H' hi fx fy ⟨y2, y3, rfl, e3, hZ3, hW3, wl⟩ nT
      obtain ⟨n, hn, rfl⟩ := get_int fx
      rw [List.getElem?_map] at fy
      obtain ⟨nm, hnm, rfl⟩ : ∃ nm, nms[i]? = some nm ∧ y1 = V.str nm := by
        cases e : nms[i]? with
        | none => rw [e] at fy; cases fy
        | some z => rw [e] at fy; exact ⟨z, rfl, (Option.some.inj fy).symm⟩
      have hi3 : i < 3 := hi
      have ln : L19 n := by
        match i, hn with
        | 0, hn => rw [← Option.some.inj hn]; exact hu
        | 1, hn => rw [← Option.some.inj hn]; exact hy
        | 2, hn => rw [← Option.some.inj hn]; exact hz
      have lm : nm.length ≤ 1 := by
        match i, hnm with
        | 0, hn => rw [← Option.some.inj hn]; decide
        | 1, hn => rw [← Option.some.inj hn]; decide
        | 2, hn => rw [← Option.some.inj hn]; decide
      have e4 : Ex0 H (upd H' T (.tup [.int n, .str nm])) := e3.trans (Ex0.new nT)
      have hZ4 : upd H' T (.tup [.int n, .str nm]) Z = some (.tup (nms.map V.str)) := Ex0.ap (Ex0.new nT) hZ3
      have hW4 : upd H' T (.tup [.int n, .str nm]) W = some (.lst ((wds [u, y, z] i).map V.str)) := by rw [upd_ne (ne_of_none hW3 nT)]; exact hW3
      refine ⟨T, _, rfl, SqT.of upd_same, rfl, _, _, rfl, _, _, rfl, rfl, ?_⟩
      generalize upd H' T (.tup [.int n, .str nm]) = H4 at e4 hZ4 hW4 ⊢
      have wn := wl.step (nm := nm) ln lm
      rw [← wds_succ hn hnm] at wn
      have up : ∀ ws : List Str, Ex0 H (upd H4 W (.lst (ws.map V.str))) := fun ws => Fx.mut fm0 e4 trivial nW
      have uz : ∀ ws : List Str, upd H4 W (.lst (ws.map V.str)) Z = some (.tup (nms.map V.str)) := fun ws => by rw [upd_ne WZ.symm]; exact hZ4
      refine ⟨fun σ H' => σ = [some (.ref a), some (.ref W), some (.int n), some (.str nm)] ∧ Ex0 H H' ∧ H' Z = some (.tup (nms.map V.str)) ∧ H' W = some (.lst ((if n < 0 then wds [u, y, z] i ++ [("-" : Str)] else if 0 < n ∧ 0 < (wds [u, y, z] i).length then wds [u, y, z] i ++ [("+" : Str)] else wds [u, y, z] i).map V.str)), ?_, ?_⟩
      · have lw : ((wds [u, y, z] i).map V.str).length < sizeLine := by rw [List.length_map, sz]; have := wl.2; omega
        refine ⟨_, rfl, _, _, rfl, rfl, _, rfl, iteD (fun h1 => ?_) (fun h1 => ?_)⟩
        · refine ⟨_, rfl, .inl ⟨rfl, _, SqL.of hW4⟩, W, _, _, rfl, rfl, hW4, lw, ?_⟩
          rw [if_pos h1]
          have m : (wds [u, y, z] i).map V.str ++ [V.str "-"] = (wds [u, y, z] i ++ [("-" : Str)]).map V.str := by rw [List.map_append]; rfl
          rw [m]
          exact ⟨rfl, up _, uz _, upd_same⟩
        · rw [if_neg h1]
          refine ⟨_, rfl, _, _, rfl, rfl, _, rfl, iteD (fun h2 => ?_) (fun h2 => ?_)⟩
          · refine ⟨_, rfl, W, _, rfl, .inl (SqL.of hW4), _, _, rfl, rfl, _, rfl, iteD (fun h3 => ?_) (fun h3 => ?_)⟩
            · rw [List.length_map] at h3
              refine ⟨_, rfl, .inl ⟨rfl, _, SqL.of hW4⟩, W, _, _, rfl, rfl, hW4, lw, ?_⟩
              rw [if_pos (And.intro (by omega) (by omega))]
              have m : (wds [u, y, z] i).map V.str ++ [V.str "+"] = (wds [u, y, z] i ++ [("+" : Str)]).map V.str := by rw [List.map_append]; rfl
              rw [m]
              exact ⟨rfl, up _, uz _, upd_same⟩
            · rw [List.length_map] at h3
              rw [if_neg (fun z => h3 (by have := z.2; omega))]
              exact ⟨rfl, e4, hZ4, hW4⟩
          · refine iteF ?_
            rw [if_neg (fun z => h2 (by have := z.1; omega))]
            exact ⟨rfl, e4, hZ4, hW4⟩
      rintro σ H5 ⟨rfl, e5, hZ5, hW5⟩
      refine ⟨_, rfl, rfl, _, rfl, iteEn (fun h1 => ?_) (fun h1 => ?_)⟩
      · refine ⟨_, rfl, .inl ⟨rfl, _, SqL.of hW5⟩, _, rfl, _, rfl, n, nm, rfl, ln, lm, ?_⟩
        have ws : wds [u, y, z] (i + 1) = (if n < 0 then wds [u, y, z] i ++ [("-" : Str)] else if 0 < n ∧ 0 < (wds [u, y, z] i).length then wds [u, y, z] i ++ [("+" : Str)] else wds [u, y, z] i) ++ [trm n nm] := by
          rw [wds_succ hn hnm]
          unfold wst
          simp only [if_pos (show n ≠ 0 from h1)]
        refine ⟨W, _, _, rfl, rfl, hW5, ?_, ?_⟩
        · have l2 := wn.2
          rw [ws, List.length_append] at l2
          rw [List.length_map, sz]
          have : [trm n nm].length = 1 := rfl
          omega
        rw [show ∀ l : List Str, l.map V.str ++ [V.str (trm n nm)] = (l ++ [trm n nm]).map V.str from fun l => by rw [List.map_append]; rfl, ← ws]
        refine ⟨_, _, rfl, Fx.mut fm0 e5 trivial nW, ?_, upd_same, wn⟩
        rw [upd_ne WZ.symm]
        exact hZ5
      · have ws : wds [u, y, z] (i + 1) = (if n < 0 then wds [u, y, z] i ++ [("-" : Str)] else if 0 < n ∧ 0 < (wds [u, y, z] i).length then wds [u, y, z] i ++ [("+" : Str)] else wds [u, y, z] i) := by
          rw [wds_succ hn hnm]
          unfold wst
          simp only [if_neg (fun z => z h1 : ¬ n ≠ 0), List.append_nil]
        rw [ws]
        rw [ws] at wn
        exact ⟨_, _, rfl, e5, hZ5, hW5, wn⟩
    rintro σ H' ⟨y2, y3, rfl, e3, hZ3, hW3, wl⟩
    have wl' : Wl 3 (wds [u, y, z] 3) := wl
    have hW' : H' W = some (.lst ((wds [u, y, z] 3).map V.str)) := hW3
    refine ⟨_, rfl, W, _, rfl, .inl (SqL.of hW'), _, _, rfl, rfl, _, rfl, iteD (fun h1 => ?_) (fun h1 => ?_)⟩
    · rw [List.length_map] at h1
      refine ⟨⟨_, rfl⟩, _, rfl, _, W, wds [u, y, z] 3, rfl, rfl, .inl (SqL.of hW'), ?_, ?_⟩
      · have : ("" : Str).length = 0 := rfl
        rw [this]
        have := wl'.1
        omega
      have e9 : Txt.join ("" : Str) (wds [u, y, z] 3) = sumS [u, y, z] := by
        rw [show Txt.join ("" : Str) (wds [u, y, z] 3) = Str.join "" (wds [u, y, z] 3) from StrLaws.glued_eq_join _ _]
        unfold sumS
        rw [if_pos (by omega)]
      rw [e9]
      exact q _ e3
    · rw [List.length_map] at h1
      have e9 : ("0" : Str) = sumS [u, y, z] := by
        unfold sumS
        rw [if_neg (by omega)]
      rw [e9]
      exact q _ e3
theorem ok_Element___str__ (T : Txt K mg C_Form C_Ring C_Element) : Gd.MDefG (fun p f => Meth K C_Element "__str__" f) P w K mg base 3 ["self"] (sp_Element___str__ K C_Form C_Ring C_Element) := by
  obtain ⟨p_, f_, fd_, R_, F_⟩ := T.e_Element___str__
  obtain ⟨f_sum_text, fd_sum_text, g_sum_text, k_sum_text, b_sum_text, G_sum_text⟩ := (ok_sum_text (P := P) (w := w) (base := base) T)
  refine ⟨p_, f_, fd_, R_, F_.binds (ps := ["self"]) (fun _ _ _ _ _ _ us hl => match us, hl with | [_], _ => rfl), ?_⟩
  refine Gd.okG F_ sc_Element___str__ (fun vs H Q E h => ?_) (fun cdv A outer s H vs Q E hG hr h => ?_)
  · first | (obtain ⟨rfl, _⟩ := h; rfl) | (obtain ⟨_, rfl, _⟩ := h; rfl) | (obtain ⟨_, _, rfl, _⟩ := h; rfl) | (obtain ⟨_, _, _, rfl, _⟩ := h; rfl) | (obtain ⟨_, _, _, _, rfl, _⟩ := h; rfl) | (obtain ⟨_, _, _, _, _, rfl, _⟩ := h; rfl) | (obtain ⟨_, _, _, _, _, _, rfl, _⟩ := h; rfl) | (obtain ⟨_, _, _, _, _, _, _, rfl, _⟩ := h; rfl) | (obtain ⟨_, _, _, _, _, _, _, _, rfl, _⟩ := h; rfl) | (obtain ⟨_, _, _, _, _, _, _, _, _, rfl, _⟩ := h; rfl) | (obtain ⟨_, _, _, _, _, _, _, _, _, _, rfl, _⟩ := h; rfl) | (obtain ⟨_, _, _, _, _, _, _, _, _, _, _, rfl, _⟩ := h; rfl) | (obtain ⟨_, _, _, _, _, _, _, _, _, _, _, _, rfl, _⟩ := h; rfl) | (obtain ⟨_, _, _, _, _, _, _, _, _, _, _, _, _, rfl, _⟩ := h; rfl) | (obtain ⟨_, _, _, _, _, _, _, _, _, _, _, _, _, _, rfl, _⟩ := h; rfl) | (obtain ⟨_, _, _, _, _, _, _, _, _, _, _, _, _, _, _, rfl, _⟩ := h; rfl) | (obtain ⟨_, _, _, _, _, _, _, _, _, _, _, _, _, _, _, _, rfl, _⟩ := h; rfl) | (obtain ⟨_, _, _, _, _, _, _, _, _, _, _, _, _, _, _, _, _, rfl, _⟩ := h; rfl) | (obtain ⟨_, _, _, _, _, _, _, _, _, _, _, _, _, _, _, _, _, _, rfl, _⟩ := h; rfl) | (obtain ⟨_, _, _, _, _, _, _, _, _, _, _, _, _, _, _, _, _, _, _, rfl, _⟩ := h; rfl) | (obtain ⟨_, _, _, _, _, _, _, _, _, _, _, _, _, _, _, _, _, _, _, _, rfl, _⟩ := h; rfl) | (obtain ⟨_, _, _, _, _, _, _, _, _, _, _, _, _, _, _, _, _, _, _, _, _, rfl, _⟩ := h; rfl) | (obtain ⟨_, _, _, _, _, _, _, _, _, _, _, _, _, _, _, _, _, _, _, _, _, _, rfl, _⟩ := h; rfl) | (obtain ⟨_, _, _, _, _, _, _, _, _, _, _, _, _, _, _, _, _, _, _, _, _, _, _, rfl, _⟩ := h; rfl)
  · obtain ⟨x, ns, u, y, z, b, rfl, ⟨dx, r, t, hx, hR, ht⟩, hu, hy, hz, hb, q⟩ := h
    refine ⟨_, (pss_cons (ps_set (i := 1) sc_Element___str__.nd rfl (.inl rfl) (pe_call G_sum_text (hr.mono (by decide)) (by rfl) g_sum_text k_sum_text b_sum_text .nil pass0 (pa_cons (pe_fld (pv 0) (by rfl)) pa_nil)))
    (pss_cons (ps_if (pt_cmpR op_eq (pe_fld (pv 0) (by rfl)) pe_int (nomark _))
      (pss_one (ps_ret (pe_callTy SkE.call_str_str (by rfl) T.b_str (by decide +kernel) (pa_cons (pv 1) pa_nil))))
      pss_nil)
    (pss_one (ps_ret (pe_joined (PJ.cons pe_str (PJ.cons (pe_fmt (pv 1)) (PJ.cons pe_str (PJ.cons (pe_fmt (pe_fld (pv 0) (by rfl))) PJ.nil))))))))), ?_⟩
    have sz : sizeLine = 16777216 := sizeLine_eq
    have sl := sum_le hu hy hz
    have sb := dg_le hb
    refine ⟨_, rfl, x, C_Element, dx, _, .ref t, rfl, hx, T.cl_Element, T.na_Element_entries, lkE, t, u, y, z, rfl, ht, hu, hy, hz, fun H1 e1 => ?_⟩
    have hx1 := Ex0.ap e1 hx
    refine ⟨_, rfl, x, C_Element, dx, _, .int b, rfl, hx1, T.cl_Element, T.na_Element_bottom, lkB, rfl, _, rfl, iteE (fun h1 => ?_) (fun h1 => ?_)⟩
    · refine ⟨_, rfl, _, rfl, ?_⟩
      have := q _ e1
      unfold elS at this
      rw [if_pos h1] at this
      exact this
    · have em : Str.empty ++ ("(" : Str) = "(" := TxtM.tl_ext (by rw [TxtM.tl_app, TxtM.tl_empty]; rfl)
      have k1 : ("(" : Str).length = 1 := rfl
      have k2 : (")/" : Str).length = 2 := rfl
      refine ⟨_, rfl, ?_, ?_⟩
      · show (Str.empty ++ ("(" : Str)).length ≤ sizeLine
        rw [em, k1, sz]
        decide
      rw [em]
      refine ⟨_, rfl, .inl ⟨_, rfl, by omega, _, rfl, ?_, ?_⟩⟩
      · rw [strLen_append]; omega
      refine ⟨_, rfl, ?_, ?_⟩
      · rw [strLen_append, strLen_append]; omega
      refine ⟨_, rfl, x, C_Element, dx, _, .int b, rfl, hx1, T.cl_Element, T.na_Element_bottom, lkB, .inr ⟨_, rfl, hb, _, rfl, ?_, ?_⟩⟩
      · rw [strLen_append, strLen_append, strLen_append]; show _ + (dg b).length ≤ _; omega
      have := q _ e1
      unfold elS at this
      rw [if_neg h1] at this
      exact this
end
end RG
namespace RG
open PySem PySem.Spec PyProof.Rows L2 Fr
open TxtM (dg ltrm lst lds orZero strip lawS sumS nms)
def sp_l_share (_ : PySem.W.Frag) (_ _ _ : Addr) : Sp := fun vs H Q _ => ∃ (i j : Int), vs = [.int i, .int j] ∧ Q (.int ((Nat.gcd i.natAbs j.natAbs : Nat) : Int)) H
def PrT (H : Hp) (x : Addr) (u y z b : Int) : Prop := ∃ t, H x = some (.tup [.ref t, .int b]) ∧ Ti H t [u, y, z]
theorem PrT.ex {H H' : Hp} {x : Addr} {u y z b : Int} (e : Ex0 H H') (h : PrT H x u y z b) : PrT H' x u y z b := by
  obtain ⟨t, h1, h2⟩ := h
  exact ⟨t, Ex0.ap e h1, Ex0.ap e h2⟩
def sp_l_lowest (K : PySem.W.Frag) (_ _ _ : Addr) : Sp := fun vs H Q _ => ∃ (a : Addr) (k : Bool) (u y z b : Int), vs = [.ref a, .int b] ∧ SqK k K H a (([u, y, z] : List Int).map V.int) ∧ b ≠ 0 ∧ B 3000 b ∧ ∀ x H' u' y' z' b', Low u y z b u' y' z' b' → Ex0 H H' → PrT H' x u' y' z' b' → Q (.ref x) H'
def sp_l_drawn (_ : PySem.W.Frag) (_ _ _ : Addr) : Sp := fun vs H Q _ => ∃ c : Addr, vs = [.ref c] ∧ Vat c H ∧ ∀ o t u y z b H', Fv c H H' → H' o = some (.tup [.ref t, .int b]) → Ti H' t [u, y, z] → u.natAbs ≤ 6000000 → y.natAbs ≤ 6000000 → z.natAbs ≤ 6000000 → b ≠ 0 → b.natAbs ≤ 600000000000000000000 → Q (.ref o) H'
def sp_l_small (_ : PySem.W.Frag) (_ _ _ : Addr) : Sp := fun vs H Q _ => ∃ c : Addr, vs = [.ref c] ∧ Vat c H ∧ ∀ o t u y z b H', Fv c H H' → H' o = some (.tup [.ref t, .int b]) → Ti H' t [u, y, z] → u.natAbs ≤ 6000000 → y.natAbs ≤ 6000000 → z.natAbs ≤ 6000000 → b ≠ 0 → b.natAbs ≤ 600000000000000000000 → Q (.ref o) H'
def sp_l_term (_ : PySem.W.Frag) (_ _ _ : Addr) : Sp := fun vs H Q _ => ∃ (n : Int) (nm : Str), vs = [.int n, .str nm] ∧ L19 n ∧ nm.length ≤ 1 ∧ Q (.str (ltrm n nm)) H
def sp_l_text (_ : PySem.W.Frag) (_ _ _ : Addr) : Sp := fun vs H Q _ => ∃ (a : Addr) (u y z b : Int), vs = [.ref a, .int b] ∧ Ti H a [u, y, z] ∧ L19 u ∧ L19 y ∧ L19 z ∧ L19 b ∧ ∀ H', Ex0 H H' → Q (.str (elS [u, y, z] b)) H'
theorem lds_succ {ns : List Int} {i : Nat} {n : Int} {nm : Str} (h1 : ns[i]? = some n) (h2 : nms[i]? = some nm) : lds ns (i + 1) = lst (lds ns i) (n, nm) := by
  unfold lds
  have : (ns.zip nms)[i]? = some (n, nm) := by
    rw [List.getElem?_zip_eq_some]
    exact ⟨h1, h2⟩
  rw [List.take_add_one, this, List.foldl_append]
  rfl
theorem ltrm_le {n : Int} {nm : Str} (h : L19 n) (hm : nm.length ≤ 1) : (ltrm n nm).length ≤ 1923 := by
  have h2 : (dg n.natAbs).length ≤ 1921 := dg_le (by show (Int.natAbs (n.natAbs : Int)).log2 < 1920; rw [Int.natAbs_natCast]; exact h)
  have a1 : ("-" : Str).length = 1 := rfl
  have a2 : ("+" : Str).length = 1 := rfl
  have a3 : ("" : Str).length = 0 := rfl
  unfold ltrm
  rw [strLen_append, strLen_append]
  have b1 : (if n < 0 then ("-" : Str) else "+").length = 1 := by split <;> rfl
  have b2 : (if nm ≠ "" ∧ n.natAbs = 1 then ("" : Str) else dg n.natAbs).length ≤ 1921 := by split <;> omega
  omega
theorem gcd_turn (b u y z : Int) : Nat.gcd (Nat.gcd (Nat.gcd b.natAbs u.natAbs) y.natAbs) z.natAbs = gcdL [(gcdL [u, y, z] : Int), b] := by
  unfold gcdL
  simp only [List.foldl, Nat.gcd_zero_left, Int.natAbs_natCast]
  simp only [Nat.gcd_assoc]
  rw [Nat.gcd_comm b.natAbs]
  simp only [Nat.gcd_assoc]
section
variable {P : Program} {w : World} {K : PySem.W.Frag} {mg : Str → Option Value} {base : Heap} {C_Form C_Ring C_Element : Addr}
theorem ok_l_share (T : Txt K mg C_Form C_Ring C_Element) : Def P w K mg base 1 "_law_share" ["_law_one", "_law_other"] (sp_l_share K C_Form C_Ring C_Element) := by
  obtain ⟨f_, fd_, g_, F_⟩ := T.d_l_share
  refine ⟨f_, fd_, g_, F_.kp, F_.binds (ps := ["_law_one", "_law_other"]) (fun _ _ _ _ _ _ us hl => match us, hl with | [_, _], _ => rfl), ?_⟩
  refine F_.ok sc_l_share (fun vs H Q E h => ?_) (fun cdv A outer s H vs Q E hr h => ?_)
  · first | (obtain ⟨rfl, _⟩ := h; rfl) | (obtain ⟨_, rfl, _⟩ := h; rfl) | (obtain ⟨_, _, rfl, _⟩ := h; rfl) | (obtain ⟨_, _, _, rfl, _⟩ := h; rfl) | (obtain ⟨_, _, _, _, rfl, _⟩ := h; rfl) | (obtain ⟨_, _, _, _, _, rfl, _⟩ := h; rfl) | (obtain ⟨_, _, _, _, _, _, rfl, _⟩ := h; rfl) | (obtain ⟨_, _, _, _, _, _, _, rfl, _⟩ := h; rfl) | (obtain ⟨_, _, _, _, _, _, _, _, rfl, _⟩ := h; rfl) | (obtain ⟨_, _, _, _, _, _, _, _, _, rfl, _⟩ := h; rfl) | (obtain ⟨_, _, _, _, _, _, _, _, _, _, rfl, _⟩ := h; rfl) | (obtain ⟨_, _, _, _, _, _, _, _, _, _, _, rfl, _⟩ := h; rfl) | (obtain ⟨_, _, _, _, _, _, _, _, _, _, _, _, rfl, _⟩ := h; rfl) | (obtain ⟨_, _, _, _, _, _, _, _, _, _, _, _, _, rfl, _⟩ := h; rfl) | (obtain ⟨_, _, _, _, _, _, _, _, _, _, _, _, _, _, rfl, _⟩ := h; rfl) | (obtain ⟨_, _, _, _, _, _, _, _, _, _, _, _, _, _, _, rfl, _⟩ := h; rfl) | (obtain ⟨_, _, _, _, _, _, _, _, _, _, _, _, _, _, _, _, rfl, _⟩ := h; rfl) | (obtain ⟨_, _, _, _, _, _, _, _, _, _, _, _, _, _, _, _, _, rfl, _⟩ := h; rfl) | (obtain ⟨_, _, _, _, _, _, _, _, _, _, _, _, _, _, _, _, _, _, rfl, _⟩ := h; rfl) | (obtain ⟨_, _, _, _, _, _, _, _, _, _, _, _, _, _, _, _, _, _, _, rfl, _⟩ := h; rfl) | (obtain ⟨_, _, _, _, _, _, _, _, _, _, _, _, _, _, _, _, _, _, _, _, rfl, _⟩ := h; rfl) | (obtain ⟨_, _, _, _, _, _, _, _, _, _, _, _, _, _, _, _, _, _, _, _, _, rfl, _⟩ := h; rfl) | (obtain ⟨_, _, _, _, _, _, _, _, _, _, _, _, _, _, _, _, _, _, _, _, _, _, rfl, _⟩ := h; rfl) | (obtain ⟨_, _, _, _, _, _, _, _, _, _, _, _, _, _, _, _, _, _, _, _, _, _, _, rfl, _⟩ := h; rfl)
  · obtain ⟨i, j, rfl, q⟩ := h
    refine ⟨_, (pss_cons (ps_par (i := 0) (j := 1) (by rfl) sc_l_share.nd rfl rfl (by decide) rfl rfl (pa_cons (pe_callB call_abs (by rfl) T.b_abs (by decide +kernel) (pa_cons (pv 0) pa_nil)) (pa_cons (pe_callB call_abs (by rfl) T.b_abs (by decide +kernel) (pa_cons (pv 1) pa_nil)) pa_nil)) (by rfl))
    (pss_cons (ps_while PassesOwn.never (pt_cmpR op_gt (pv 1) pe_int (nomark _))
      (pss_one (ps_par (i := 0) (j := 1) (by rfl) sc_l_share.nd rfl rfl (by decide) rfl rfl (pa_cons (pv 1) (pa_cons (pe_op op_mod (pv 0) (pv 1)) pa_nil)) (by rfl))))
    (pss_one (ps_ret (pv 0))))), ?_⟩
    have ab : ∀ z : Int, (if z < 0 then -z else z) = (z.natAbs : Int) := fun z => by
      by_cases h : z < 0
      · rw [if_pos h]; omega
      · rw [if_neg h]; omega
    refine ⟨_, rfl, i, rfl, _, rfl, j, rfl, _, _, rfl, ?_⟩
    rw [ab, ab]
    refine ⟨fun m σ H' => ∃ x y : Nat, σ = [some (.int (x : Int)), some (.int (y : Int))] ∧ H' = H ∧ Nat.gcd x y = Nat.gcd i.natAbs j.natAbs ∧ m = y, ⟨_, _, _, rfl, rfl, rfl, rfl⟩, ?_⟩
    rintro m σ H' ⟨x, y, rfl, rfl, hg, rfl⟩
    refine ⟨_, rfl, _, _, rfl, rfl, _, rfl, iteD (fun g => ?_) (fun g => ?_)⟩
    · refine ⟨fun σ' H'' => ∃ x' y' : Nat, σ' = [some (.int (x' : Int)), some (.int (y' : Int))] ∧ H'' = H' ∧ Nat.gcd x' y' = Nat.gcd i.natAbs j.natAbs ∧ y' < m, fun σ' H'' ⟨x', y', e1, e2, e3, e4⟩ => ⟨y', e4, x', y', e1, e2, e3, rfl⟩, ?_⟩
      refine ⟨_, rfl, _, rfl, _, rfl, (x : Int), (m : Int), rfl, rfl, g, _, _, rfl, ?_⟩
      refine ⟨m, x % m, rfl, rfl, ?_, Nat.mod_lt _ (by omega)⟩
      rw [← hg, Nat.gcd_comm x m, Nat.gcd_rec m x, Nat.gcd_comm]
    · have : m = 0 := by omega
      subst this
      refine ⟨_, rfl, ?_⟩
      rw [Nat.gcd_zero_right] at hg
      rw [hg]
      exact q
theorem ok_l_lowest (T : Txt K mg C_Form C_Ring C_Element) : Def P w K mg base 2 "_law_lowest" ["_law_entries", "_law_bottom"] (sp_l_lowest K C_Form C_Ring C_Element) := by
  obtain ⟨f_, fd_, g_, F_⟩ := T.d_l_lowest
  obtain ⟨f_l_share, fd_l_share, g_l_share, k_l_share, b_l_share, G_l_share⟩ := (ok_l_share (P := P) (w := w) (base := base) T)
  refine ⟨f_, fd_, g_, F_.kp, F_.binds (ps := ["_law_entries", "_law_bottom"]) (fun _ _ _ _ _ _ us hl => match us, hl with | [_, _], _ => rfl), ?_⟩
  refine F_.ok sc_l_lowest (fun vs H Q E h => ?_) (fun cdv A outer s H vs Q E hr h => ?_)
  · first | (obtain ⟨rfl, _⟩ := h; rfl) | (obtain ⟨_, rfl, _⟩ := h; rfl) | (obtain ⟨_, _, rfl, _⟩ := h; rfl) | (obtain ⟨_, _, _, rfl, _⟩ := h; rfl) | (obtain ⟨_, _, _, _, rfl, _⟩ := h; rfl) | (obtain ⟨_, _, _, _, _, rfl, _⟩ := h; rfl) | (obtain ⟨_, _, _, _, _, _, rfl, _⟩ := h; rfl) | (obtain ⟨_, _, _, _, _, _, _, rfl, _⟩ := h; rfl) | (obtain ⟨_, _, _, _, _, _, _, _, rfl, _⟩ := h; rfl) | (obtain ⟨_, _, _, _, _, _, _, _, _, rfl, _⟩ := h; rfl) | (obtain ⟨_, _, _, _, _, _, _, _, _, _, rfl, _⟩ := h; rfl) | (obtain ⟨_, _, _, _, _, _, _, _, _, _, _, rfl, _⟩ := h; rfl) | (obtain ⟨_, _, _, _, _, _, _, _, _, _, _, _, rfl, _⟩ := h; rfl) | (obtain ⟨_, _, _, _, _, _, _, _, _, _, _, _, _, rfl, _⟩ := h; rfl) | (obtain ⟨_, _, _, _, _, _, _, _, _, _, _, _, _, _, rfl, _⟩ := h; rfl) | (obtain ⟨_, _, _, _, _, _, _, _, _, _, _, _, _, _, _, rfl, _⟩ := h; rfl) | (obtain ⟨_, _, _, _, _, _, _, _, _, _, _, _, _, _, _, _, rfl, _⟩ := h; rfl) | (obtain ⟨_, _, _, _, _, _, _, _, _, _, _, _, _, _, _, _, _, rfl, _⟩ := h; rfl) | (obtain ⟨_, _, _, _, _, _, _, _, _, _, _, _, _, _, _, _, _, _, rfl, _⟩ := h; rfl) | (obtain ⟨_, _, _, _, _, _, _, _, _, _, _, _, _, _, _, _, _, _, _, rfl, _⟩ := h; rfl) | (obtain ⟨_, _, _, _, _, _, _, _, _, _, _, _, _, _, _, _, _, _, _, _, rfl, _⟩ := h; rfl) | (obtain ⟨_, _, _, _, _, _, _, _, _, _, _, _, _, _, _, _, _, _, _, _, _, rfl, _⟩ := h; rfl) | (obtain ⟨_, _, _, _, _, _, _, _, _, _, _, _, _, _, _, _, _, _, _, _, _, _, rfl, _⟩ := h; rfl) | (obtain ⟨_, _, _, _, _, _, _, _, _, _, _, _, _, _, _, _, _, _, _, _, _, _, _, rfl, _⟩ := h; rfl)
  · obtain ⟨a, k, u, y, z, b, rfl, ha, hb, bb, q⟩ := h
    refine ⟨_, (pss_cons (ps_set (i := 2) sc_l_lowest.nd rfl (.inr rfl) (pe_callB call_abs (by rfl) T.b_abs (by decide +kernel) (pa_cons (pv 1) pa_nil)))
    (pss_cons (ps_for PassesOwn.never rfl (pi_or (pi_list (pv 0)) (pi_tup (pv 0))) (pg_name (i := 3) sc_l_lowest.nd rfl (.inl rfl))
      (pss_one (ps_set (i := 2) sc_l_lowest.nd rfl (.inr rfl) (pe_call G_l_share (hr.mono (by decide)) (by rfl) g_l_share k_l_share b_l_share .nil pass0 (pa_cons (pv 2) (pa_cons (pv 3) pa_nil))))))
    (Evl.pss_cut (ps_set (i := 2) sc_l_lowest.nd rfl (.inr rfl) (pe_ifExp (pt_cmpR op_gt (pv 1) pe_int (nomark _)) (pv 2) (pe_op op_sub pe_int (pv 2))))
    (pss_one (ps_ret (pe_tup (pa_cons (pe_callTy call_tuple_of (by rfl) T.b_tuple (by decide +kernel) (pa_cons (pe_lc (own := [("_law_entry", 3)]) (g := (gName 3)) rfl sc_l_lowest.nd (pi_or (pi_list (pv 0)) (pi_tup (pv 0))) (blkOk_by (N := N_l_lowest) (sc := defScope s_l_lowest) (by decide +kernel)) (fun _ _ _ _ _ => (pg_name (i := 3) sc_l_lowest.nd rfl (.inl rfl))) (fun _ _ _ _ _ => pts_nil) (fun _ _ _ _ _ => (pe_op op_fdivNW (pv 3) (pv 2)))) pa_nil)) (pa_cons (pe_op op_fdivNW (pv 1) (pv 2)) pa_nil)))))))), ?_⟩
    obtain ⟨g, u', y', z', b', eg, g0, bg, eu, ey, ez, eb, b0, hg⟩ := low_of u y z b hb bb
    have ab : ∀ z : Int, (if z < 0 then -z else z) = (z.natAbs : Int) := fun z => by
      by_cases h : z < 0
      · rw [if_pos h]; omega
      · rw [if_neg h]; omega
    refine ⟨_, rfl, b, rfl, ?_⟩
    rw [ab]
    refine or_slot rfl ha ?_
    refine for_K (xs := ([u, y, z] : List Int).map V.int) (fun i σ H' => ∃ y3, σ = [some (.ref a), some (.int b), some (.int ((([u, y, z] : List Int).take i).foldl (fun (x : Nat) n => Nat.gcd x n.natAbs) b.natAbs : Nat)), y3] ∧ H = H') ⟨none, rfl, rfl⟩ (fun i σ H' _ ⟨_, _, e⟩ => e ▸ ha) ?_ ?_
    · rintro i x σ H' hx ⟨y3, rfl, rfl⟩
      obtain ⟨n, hn, rfl⟩ := get_int hx
      refine ⟨_, rfl, _, rfl, _, _, rfl, ?_⟩
      refine ⟨some (.int n), ?_, rfl⟩
      rw [List.take_add_one, hn, List.foldl_append]
      rfl
    rintro σ H' ⟨y3, rfl, rfl⟩
    refine ⟨fun σ H' => ∃ y3, σ = [some (.ref a), some (.int b), some (.int g), y3] ∧ H' = H, ?_, ?_⟩
    · have hG : (([u, y, z] : List Int).take (([u, y, z] : List Int).map V.int).length).foldl (fun (x : Nat) n => Nat.gcd x n.natAbs) b.natAbs = gcdL [(gcdL [u, y, z] : Int), b] := gcd_turn b u y z
      rw [hG]
      refine ⟨_, rfl, _, _, rfl, rfl, _, rfl, iteD (fun k => ?_) (fun k => ?_)⟩
      · rw [if_neg (by omega)] at eg
        subst eg
        exact ⟨_, rfl, _, rfl, rfl⟩
      · rw [if_pos (by omega)] at eg
        subst eg
        refine ⟨_, rfl, _, _, rfl, rfl, y3, ?_, rfl⟩
        rw [← Int.zero_sub]
        rfl
    rintro σ H' ⟨y3, rfl, rfl⟩
    have dv : ∀ n m : Int, n = g * m → n.fdiv g = m := fun n m h => by rw [h]; exact Int.mul_fdiv_cancel_left m g0
    have cd : ∀ n : Int, CDivNW n g := fun n => ⟨g0, by have := log_lt bg.1 bg.2; omega⟩
    refine or_slot rfl ha ?_
    refine lcK fm0 trivial ha (fun z => z) (fun i acc _ => acc = (([u', y', z'] : List Int).take i).map V.int) (fun _ _ => rfl) (fun D i n acc H2 hD hn e hA hlen hp => ?_) (fun D H2 acc hD e hA hp => ?_)
    · obtain ⟨m, hm, rfl⟩ := get_int hn
      refine ⟨rfl, ?_⟩
      refine ⟨_, rfl, _, rfl, m, g, rfl, rfl, cd m, ?_⟩
      have hi : i < 3 := (List.getElem?_eq_some_iff.mp hm).1
      refine cs_yes fm0 trivial hD e hA hlen (by omega) (Fx.refl trivial) ?_
      have hh : m.fdiv g = ([u', y', z'] : List Int).getD i 0 := by
        match i, hm with
        | 0, hm => exact dv m u' ((Option.some.inj hm).symm.trans eu)
        | 1, hm => exact dv m y' ((Option.some.inj hm).symm.trans ey)
        | 2, hm => exact dv m z' ((Option.some.inj hm).symm.trans ez)
      show acc ++ [V.int (m.fdiv g)] = _
      rw [hp, hh]
      match i, hi with
      | 0, _ => rfl
      | 1, _ => rfl
      | 2, _ => rfl
    · refine ⟨D, _, rfl, .inl ⟨SqL.of hA, fun p np => ?_⟩⟩
      have hp' : acc = [.int u', .int y', .int z'] := hp
      subst hp'
      refine ⟨_, rfl, _, rfl, b, g, rfl, rfl, cd b, sl2, fun o no => ?_⟩
      refine q o _ u' y' z' b' ⟨g, eu, ey, ez, eb, b0, hg⟩ (Fx.trans e ((Ex0.new np).trans (Ex0.new no))) ⟨p, ?_, Ex0.ap (Ex0.new no) upd_same⟩
      simp only [dv _ _ eb]
      exact upd_same
theorem ok_l_drawn (T : Txt K mg C_Form C_Ring C_Element) : Def P w K mg base 4 "_law_drawn" ["_law_vat_here"] (sp_l_drawn K C_Form C_Ring C_Element) := by
  obtain ⟨f_, fd_, g_, F_⟩ := T.d_l_drawn
  obtain ⟨f_l_int, fd_l_int, g_l_int, k_l_int, b_l_int, G_l_int⟩ := (ok_l_int (P := P) (w := w) (base := base) T)
  obtain ⟨f_l_some_of, fd_l_some_of, g_l_some_of, k_l_some_of, b_l_some_of, G_l_some_of⟩ := (ok_l_some_of (P := P) (w := w) (base := base) T)
  refine ⟨f_, fd_, g_, F_.kp, F_.binds (ps := ["_law_vat_here"]) (fun _ _ _ _ _ _ us hl => match us, hl with | [_], _ => rfl), ?_⟩
  refine F_.ok sc_l_drawn (fun vs H Q E h => ?_) (fun cdv A outer s H vs Q E hr h => ?_)
  · first | (obtain ⟨rfl, _⟩ := h; rfl) | (obtain ⟨_, rfl, _⟩ := h; rfl) | (obtain ⟨_, _, rfl, _⟩ := h; rfl) | (obtain ⟨_, _, _, rfl, _⟩ := h; rfl) | (obtain ⟨_, _, _, _, rfl, _⟩ := h; rfl) | (obtain ⟨_, _, _, _, _, rfl, _⟩ := h; rfl) | (obtain ⟨_, _, _, _, _, _, rfl, _⟩ := h; rfl) | (obtain ⟨_, _, _, _, _, _, _, rfl, _⟩ := h; rfl) | (obtain ⟨_, _, _, _, _, _, _, _, rfl, _⟩ := h; rfl) | (obtain ⟨_, _, _, _, _, _, _, _, _, rfl, _⟩ := h; rfl) | (obtain ⟨_, _, _, _, _, _, _, _, _, _, rfl, _⟩ := h; rfl) | (obtain ⟨_, _, _, _, _, _, _, _, _, _, _, rfl, _⟩ := h; rfl) | (obtain ⟨_, _, _, _, _, _, _, _, _, _, _, _, rfl, _⟩ := h; rfl) | (obtain ⟨_, _, _, _, _, _, _, _, _, _, _, _, _, rfl, _⟩ := h; rfl) | (obtain ⟨_, _, _, _, _, _, _, _, _, _, _, _, _, _, rfl, _⟩ := h; rfl) | (obtain ⟨_, _, _, _, _, _, _, _, _, _, _, _, _, _, _, rfl, _⟩ := h; rfl) | (obtain ⟨_, _, _, _, _, _, _, _, _, _, _, _, _, _, _, _, rfl, _⟩ := h; rfl) | (obtain ⟨_, _, _, _, _, _, _, _, _, _, _, _, _, _, _, _, _, rfl, _⟩ := h; rfl) | (obtain ⟨_, _, _, _, _, _, _, _, _, _, _, _, _, _, _, _, _, _, rfl, _⟩ := h; rfl) | (obtain ⟨_, _, _, _, _, _, _, _, _, _, _, _, _, _, _, _, _, _, _, rfl, _⟩ := h; rfl) | (obtain ⟨_, _, _, _, _, _, _, _, _, _, _, _, _, _, _, _, _, _, _, _, rfl, _⟩ := h; rfl) | (obtain ⟨_, _, _, _, _, _, _, _, _, _, _, _, _, _, _, _, _, _, _, _, _, rfl, _⟩ := h; rfl) | (obtain ⟨_, _, _, _, _, _, _, _, _, _, _, _, _, _, _, _, _, _, _, _, _, _, rfl, _⟩ := h; rfl) | (obtain ⟨_, _, _, _, _, _, _, _, _, _, _, _, _, _, _, _, _, _, _, _, _, _, _, rfl, _⟩ := h; rfl)
  · obtain ⟨c, rfl, hc, q⟩ := h
    refine ⟨_, (pss_cons (ps_set (i := 1) sc_l_drawn.nd rfl (.inr rfl) (pe_call G_l_some_of (hr.mono (by decide)) (by rfl) g_l_some_of k_l_some_of b_l_some_of .nil pass0 (pa_cons (pv 0) (pa_cons (pe_lst (pa_cons pe_int (pa_cons pe_int (pa_cons pe_int (pa_cons pe_int (pa_cons (pe_un un_neg pe_int) (pa_cons pe_int pa_nil))))))) pa_nil))))
    (pss_cons (ps_set (i := 2) sc_l_drawn.nd rfl (.inl rfl) (pe_call G_l_some_of (hr.mono (by decide)) (by rfl) g_l_some_of k_l_some_of b_l_some_of .nil pass0 (pa_cons (pv 0) (pa_cons (pe_lst (pa_cons pe_int (pa_cons pe_int (pa_cons pe_int (pa_cons pe_int (pa_cons pe_int (pa_cons (pe_un un_neg pe_int) (pa_cons (pe_op op_pow pe_int pe_int) pa_nil)))))))) pa_nil))))
    (pss_one (ps_ret (pe_tup (pa_cons (pe_callTy call_tuple_of (by rfl) T.b_tuple (by decide +kernel) (pa_cons (pe_lc (own := [("_law_turn", 3)]) (g := (gName 3)) rfl sc_l_drawn.nd (pi_range1 (by rfl) T.b_range (pa_cons pe_int pa_nil)) (blkOk_by (N := N_l_drawn) (sc := defScope s_l_drawn) (by decide +kernel)) (fun _ _ _ _ _ => (pg_name (i := 3) sc_l_drawn.nd rfl (.inl rfl))) (fun _ _ _ _ _ => pts_nil) (fun _ _ _ _ _ => (pe_op op_mulW (pv 1) (pe_call G_l_int (hr.mono (by decide)) (by rfl) g_l_int k_l_int b_l_int .nil pass0 (pa_cons (pv 0) pa_nil))))) pa_nil)) (pa_cons (pe_op op_mulW (pv 1) (pv 2)) pa_nil))))))), ?_⟩
    refine ⟨_, rfl, _, rfl, slN (by decide), fun l nl => ?_⟩
    refine ⟨c, l, [.int 1, .int 1, .int 1, .int 2, .int (-1), .int 6], rfl, vat_new hc nl, upd_same, fv_ne hc nl, by simp, by decide, fun v H1 hv e1 => ?_⟩
    obtain ⟨f, rfl, f0, f6⟩ : ∃ f : Int, v = .int f ∧ f ≠ 0 ∧ f.natAbs ≤ 6 := by
      simp only [List.mem_cons, List.mem_nil_iff, or_false] at hv
      rcases hv with rfl | rfl | rfl | rfl | rfl | rfl <;> exact ⟨_, rfl, by decide, by decide⟩
    have e2 : Fv c H H1 := (fv_new hc nl).trans e1
    refine ⟨_, rfl, _, rfl, _, _, rfl, rfl, ⟨by decide, by decide, by decide⟩, slN (by decide), fun l2 nl2 => ?_⟩
    refine ⟨c, l2, [.int 1, .int 1, .int 1, .int 2, .int 3, .int (-4), .int 100000000000000000000], rfl, vat_new e2.1 nl2, upd_same, fv_ne e2.1 nl2, by simp, by decide, fun v H2 hv e3 => ?_⟩
    obtain ⟨g, rfl, g0, g6⟩ : ∃ f : Int, v = .int f ∧ f ≠ 0 ∧ f.natAbs ≤ 100000000000000000000 := by
      simp only [List.mem_cons, List.mem_nil_iff, or_false] at hv
      rcases hv with rfl | rfl | rfl | rfl | rfl | rfl | rfl <;> exact ⟨_, rfl, by decide, by decide⟩
    have e4 : Fv c H H2 := e2.trans ((fv_new e2.1 nl2).trans e3)
    have bf : B 1000 f := ⟨Nat.lt_of_le_of_lt f6 (by decide), by decide⟩
    have bg : B 1000 g := ⟨Nat.lt_of_le_of_lt g6 (by decide), by decide⟩
    refine ⟨_, rfl, by decide, by decide, ?_⟩
    refine lcR (fmV c) e4.1 (fun i acc _ => ∃ ns : List Int, acc = ns.map V.int ∧ ns.length = i ∧ ∀ n ∈ ns, n.natAbs ≤ 6000000) (fun _ _ => ⟨[], rfl, rfl, fun _ h => by cases h⟩) (fun D i acc H3 hD hi e5 hA hlen hp => ?_) (fun D H3 acc hD e5 hA hp => ?_)
    · obtain ⟨ns, rfl, hln, hns⟩ := hp
      have hi' : i < 3 := by simpa using hi
      refine ⟨rfl, ?_⟩
      refine ⟨_, rfl, _, rfl, c, rfl, e5.1, fun z H4 hz e6 => ?_⟩
      have bz : B 1000 z := ⟨Nat.lt_of_le_of_lt hz (by decide), by decide⟩
      refine ⟨_, _, rfl, rfl, mulB bf bz (by decide), ?_⟩
      refine cs_yes (fmV c) e4.1 hD e5 hA hlen (by omega) e6 ⟨ns ++ [f * z], by rw [List.map_append]; rfl, by rw [List.length_append, hln]; rfl, fun n hn => ?_⟩
      rcases List.mem_append.mp hn with h | h
      · exact hns n h
      · have : n = f * z := by simpa using h
        rw [this, Int.natAbs_mul]
        exact Nat.mul_le_mul f6 hz
    · obtain ⟨ns, rfl, hln, hns⟩ := hp
      refine ⟨D, _, rfl, .inl ⟨SqL.of hA, fun p np => ?_⟩⟩
      obtain ⟨A1, A2, A3, rfl⟩ : ∃ A1 A2 A3, ns = [A1, A2, A3] := by
        have hln' : ns.length = 3 := by simpa using hln
        match ns, hln' with
        | [x, y, z], _ => exact ⟨x, y, z, rfl⟩
      refine ⟨_, rfl, _, rfl, _, _, rfl, rfl, mulB bf bg (by decide), sl2, fun o no => ?_⟩
      have e6 : Fv c H3 (upd H3 p (.tup [.int A1, .int A2, .int A3])) := fv_new e5.1 np
      have e7 := fv_new (o := .tup [.ref p, .int (f * g)]) e6.1 no
      refine q o p A1 A2 A3 (f * g) _ (e4.trans ((e5.trans e6).trans e7)) upd_same (fv_tup e6.1 e7 upd_same) (hns _ (by simp)) (hns _ (by simp)) (hns _ (by simp)) (Int.mul_ne_zero f0 g0) ?_
      rw [Int.natAbs_mul]
      exact Nat.mul_le_mul f6 g6
theorem ok_l_small (T : Txt K mg C_Form C_Ring C_Element) : Def P w K mg base 4 "_law_small" ["_law_vat_here"] (sp_l_small K C_Form C_Ring C_Element) := by
  obtain ⟨f_, fd_, g_, F_⟩ := T.d_l_small
  obtain ⟨f_l_int, fd_l_int, g_l_int, k_l_int, b_l_int, G_l_int⟩ := (ok_l_int (P := P) (w := w) (base := base) T)
  obtain ⟨f_l_some_of, fd_l_some_of, g_l_some_of, k_l_some_of, b_l_some_of, G_l_some_of⟩ := (ok_l_some_of (P := P) (w := w) (base := base) T)
  refine ⟨f_, fd_, g_, F_.kp, F_.binds (ps := ["_law_vat_here"]) (fun _ _ _ _ _ _ us hl => match us, hl with | [_], _ => rfl), ?_⟩
  refine F_.ok sc_l_small (fun vs H Q E h => ?_) (fun cdv A outer s H vs Q E hr h => ?_)
  · first | (obtain ⟨rfl, _⟩ := h; rfl) | (obtain ⟨_, rfl, _⟩ := h; rfl) | (obtain ⟨_, _, rfl, _⟩ := h; rfl) | (obtain ⟨_, _, _, rfl, _⟩ := h; rfl) | (obtain ⟨_, _, _, _, rfl, _⟩ := h; rfl) | (obtain ⟨_, _, _, _, _, rfl, _⟩ := h; rfl) | (obtain ⟨_, _, _, _, _, _, rfl, _⟩ := h; rfl) | (obtain ⟨_, _, _, _, _, _, _, rfl, _⟩ := h; rfl) | (obtain ⟨_, _, _, _, _, _, _, _, rfl, _⟩ := h; rfl) | (obtain ⟨_, _, _, _, _, _, _, _, _, rfl, _⟩ := h; rfl) | (obtain ⟨_, _, _, _, _, _, _, _, _, _, rfl, _⟩ := h; rfl) | (obtain ⟨_, _, _, _, _, _, _, _, _, _, _, rfl, _⟩ := h; rfl) | (obtain ⟨_, _, _, _, _, _, _, _, _, _, _, _, rfl, _⟩ := h; rfl) | (obtain ⟨_, _, _, _, _, _, _, _, _, _, _, _, _, rfl, _⟩ := h; rfl) | (obtain ⟨_, _, _, _, _, _, _, _, _, _, _, _, _, _, rfl, _⟩ := h; rfl) | (obtain ⟨_, _, _, _, _, _, _, _, _, _, _, _, _, _, _, rfl, _⟩ := h; rfl) | (obtain ⟨_, _, _, _, _, _, _, _, _, _, _, _, _, _, _, _, rfl, _⟩ := h; rfl) | (obtain ⟨_, _, _, _, _, _, _, _, _, _, _, _, _, _, _, _, _, rfl, _⟩ := h; rfl) | (obtain ⟨_, _, _, _, _, _, _, _, _, _, _, _, _, _, _, _, _, _, rfl, _⟩ := h; rfl) | (obtain ⟨_, _, _, _, _, _, _, _, _, _, _, _, _, _, _, _, _, _, _, rfl, _⟩ := h; rfl) | (obtain ⟨_, _, _, _, _, _, _, _, _, _, _, _, _, _, _, _, _, _, _, _, rfl, _⟩ := h; rfl) | (obtain ⟨_, _, _, _, _, _, _, _, _, _, _, _, _, _, _, _, _, _, _, _, _, rfl, _⟩ := h; rfl) | (obtain ⟨_, _, _, _, _, _, _, _, _, _, _, _, _, _, _, _, _, _, _, _, _, _, rfl, _⟩ := h; rfl) | (obtain ⟨_, _, _, _, _, _, _, _, _, _, _, _, _, _, _, _, _, _, _, _, _, _, _, rfl, _⟩ := h; rfl)
  · obtain ⟨c, rfl, hc, q⟩ := h
    refine ⟨_, (pss_cons (ps_set (i := 1) sc_l_small.nd rfl (.inl rfl) (pe_callTy call_tuple_of (by rfl) T.b_tuple (by decide +kernel) (pa_cons (pe_lc (own := [("_law_turn", 2)]) (g := (gName 2)) rfl sc_l_small.nd (pi_range1 (by rfl) T.b_range (pa_cons pe_int pa_nil)) (blkOk_by (N := N_l_small) (sc := defScope s_l_small) (by decide +kernel)) (fun _ _ _ _ _ => (pg_name (i := 2) sc_l_small.nd rfl (.inl rfl))) (fun _ _ _ _ _ => pts_nil) (fun _ _ _ _ _ => (pe_call G_l_some_of (hr.mono (by decide)) (by rfl) g_l_some_of k_l_some_of b_l_some_of .nil pass0 (pa_cons (pv 0) (pa_cons (pe_lst (pa_cons pe_int (pa_cons pe_int (pa_cons pe_int (pa_cons (pe_un un_neg pe_int) (pa_cons pe_int (pa_cons (pe_call G_l_int (hr.mono (by decide)) (by rfl) g_l_int k_l_int b_l_int .nil pass0 (pa_cons (pv 0) pa_nil)) pa_nil))))))) pa_nil))))) pa_nil)))
    (pss_one (ps_ret (pe_tup (pa_cons (pv 1) (pa_cons (pe_call G_l_some_of (hr.mono (by decide)) (by rfl) g_l_some_of k_l_some_of b_l_some_of .nil pass0 (pa_cons (pv 0) (pa_cons (pe_lst (pa_cons pe_int (pa_cons pe_int (pa_cons pe_int (pa_cons (pe_un un_neg pe_int) (pa_cons pe_int pa_nil)))))) pa_nil))) pa_nil)))))), ?_⟩
    have eW : Fv c H H := Fx.refl hc
    refine ⟨_, rfl, by decide, by decide, ?_⟩
    refine lcR (fmV c) hc (fun i acc _ => ∃ ns : List Int, acc = ns.map V.int ∧ ns.length = i ∧ ∀ n ∈ ns, n.natAbs ≤ 6000000) (fun _ _ => ⟨[], rfl, rfl, fun _ h => by cases h⟩) (fun D i acc H3 hD hi e5 hA hlen hp => ?_) (fun D H3 acc hD e5 hA hp => ?_)
    · obtain ⟨ns, rfl, hln, hns⟩ := hp
      have hi' : i < 3 := by simpa using hi
      refine ⟨rfl, ?_⟩
      refine ⟨_, rfl, _, rfl, _, rfl, c, rfl, e5.1, fun z H4 hz e6 => ?_⟩
      refine ⟨by show 6 ≤ sizeLine; rw [sizeLine_eq]; decide, fun l nl => ?_⟩
      refine ⟨c, l, [.int 0, .int 0, .int 1, .int (-1), .int 2, .int z], rfl, vat_new e6.1 nl, upd_same, fv_ne e6.1 nl, by simp, by show 6 ≤ 1000; decide, fun v H5 hv e7 => ?_⟩
      obtain ⟨f, rfl, f6⟩ : ∃ f : Int, v = .int f ∧ f.natAbs ≤ 6000000 := by
        simp only [List.mem_cons, List.mem_nil_iff, or_false] at hv
        rcases hv with rfl | rfl | rfl | rfl | rfl | rfl
        · exact ⟨_, rfl, by decide⟩
        · exact ⟨_, rfl, by decide⟩
        · exact ⟨_, rfl, by decide⟩
        · exact ⟨_, rfl, by decide⟩
        · exact ⟨_, rfl, by decide⟩
        · exact ⟨_, rfl, by omega⟩
      refine cs_yes (fmV c) hc hD e5 hA hlen (by omega) (e6.trans ((fv_new e6.1 nl).trans e7)) ⟨ns ++ [f], by rw [List.map_append]; rfl, by rw [List.length_append, hln]; rfl, fun n hn => ?_⟩
      rcases List.mem_append.mp hn with h | h
      · exact hns n h
      · have : n = f := by simpa using h
        rw [this]
        exact f6
    · obtain ⟨ns, rfl, hln, hns⟩ := hp
      refine ⟨D, _, rfl, .inl ⟨SqL.of hA, fun p np => ?_⟩⟩
      obtain ⟨A1, A2, A3, rfl⟩ : ∃ A1 A2 A3, ns = [A1, A2, A3] := by
        have hln' : ns.length = 3 := by simpa using hln
        match ns, hln' with
        | [x, y, z], _ => exact ⟨x, y, z, rfl⟩
      have e6 : Fv c H3 (upd H3 p (.tup [.int A1, .int A2, .int A3])) := fv_new e5.1 np
      refine ⟨_, rfl, _, rfl, _, rfl, slN (by decide), fun l2 nl2 => ?_⟩
      have e8 := fv_new (o := .lst [.int 1, .int 1, .int 2, .int (-3), .int 12]) e6.1 nl2
      refine ⟨c, l2, [.int 1, .int 1, .int 2, .int (-3), .int 12], rfl, e8.1, upd_same, fv_ne e6.1 nl2, by simp, by decide, fun v H2 hv e3 => ?_⟩
      obtain ⟨g, rfl, g0, g6⟩ : ∃ f : Int, v = .int f ∧ f ≠ 0 ∧ f.natAbs ≤ 600000000000000000000 := by
        simp only [List.mem_cons, List.mem_nil_iff, or_false] at hv
        rcases hv with rfl | rfl | rfl | rfl | rfl <;> exact ⟨_, rfl, by decide, by decide⟩
      refine ⟨sl2, fun o no => ?_⟩
      have e9 : Fv c H H2 := ((e5.trans e6).trans e8).trans e3
      have e7 := fv_new (o := .tup [.ref p, .int g]) e9.1 no
      refine q o p A1 A2 A3 g _ (e9.trans e7) upd_same (fv_tup e6.1 ((e8.trans e3).trans e7) upd_same) (hns _ (by simp)) (hns _ (by simp)) (hns _ (by simp)) g0 g6
theorem ok_l_term (T : Txt K mg C_Form C_Ring C_Element) : Def P w K mg base 1 "_law_term" ["_law_entry", "_law_name"] (sp_l_term K C_Form C_Ring C_Element) := by
  obtain ⟨f_, fd_, g_, F_⟩ := T.d_l_term
  refine ⟨f_, fd_, g_, F_.kp, F_.binds (ps := ["_law_entry", "_law_name"]) (fun _ _ _ _ _ _ us hl => match us, hl with | [_, _], _ => rfl), ?_⟩
  refine F_.ok sc_l_term (fun vs H Q E h => ?_) (fun cdv A outer s H vs Q E hr h => ?_)
  · first | (obtain ⟨rfl, _⟩ := h; rfl) | (obtain ⟨_, rfl, _⟩ := h; rfl) | (obtain ⟨_, _, rfl, _⟩ := h; rfl) | (obtain ⟨_, _, _, rfl, _⟩ := h; rfl) | (obtain ⟨_, _, _, _, rfl, _⟩ := h; rfl) | (obtain ⟨_, _, _, _, _, rfl, _⟩ := h; rfl) | (obtain ⟨_, _, _, _, _, _, rfl, _⟩ := h; rfl) | (obtain ⟨_, _, _, _, _, _, _, rfl, _⟩ := h; rfl) | (obtain ⟨_, _, _, _, _, _, _, _, rfl, _⟩ := h; rfl) | (obtain ⟨_, _, _, _, _, _, _, _, _, rfl, _⟩ := h; rfl) | (obtain ⟨_, _, _, _, _, _, _, _, _, _, rfl, _⟩ := h; rfl) | (obtain ⟨_, _, _, _, _, _, _, _, _, _, _, rfl, _⟩ := h; rfl) | (obtain ⟨_, _, _, _, _, _, _, _, _, _, _, _, rfl, _⟩ := h; rfl) | (obtain ⟨_, _, _, _, _, _, _, _, _, _, _, _, _, rfl, _⟩ := h; rfl) | (obtain ⟨_, _, _, _, _, _, _, _, _, _, _, _, _, _, rfl, _⟩ := h; rfl) | (obtain ⟨_, _, _, _, _, _, _, _, _, _, _, _, _, _, _, rfl, _⟩ := h; rfl) | (obtain ⟨_, _, _, _, _, _, _, _, _, _, _, _, _, _, _, _, rfl, _⟩ := h; rfl) | (obtain ⟨_, _, _, _, _, _, _, _, _, _, _, _, _, _, _, _, _, rfl, _⟩ := h; rfl) | (obtain ⟨_, _, _, _, _, _, _, _, _, _, _, _, _, _, _, _, _, _, rfl, _⟩ := h; rfl) | (obtain ⟨_, _, _, _, _, _, _, _, _, _, _, _, _, _, _, _, _, _, _, rfl, _⟩ := h; rfl) | (obtain ⟨_, _, _, _, _, _, _, _, _, _, _, _, _, _, _, _, _, _, _, _, rfl, _⟩ := h; rfl) | (obtain ⟨_, _, _, _, _, _, _, _, _, _, _, _, _, _, _, _, _, _, _, _, _, rfl, _⟩ := h; rfl) | (obtain ⟨_, _, _, _, _, _, _, _, _, _, _, _, _, _, _, _, _, _, _, _, _, _, rfl, _⟩ := h; rfl) | (obtain ⟨_, _, _, _, _, _, _, _, _, _, _, _, _, _, _, _, _, _, _, _, _, _, _, rfl, _⟩ := h; rfl)
  · obtain ⟨n, nm, rfl, hn, hm, q⟩ := h
    refine ⟨_, (Evl.pss_cut (ps_set (i := 2) sc_l_term.nd rfl (.inl rfl) (pe_ifExp (PW.pt (pw_and (pt_cmpR op_ne (pv 1) pe_str (nomark _)) (pw_and1 (pt_cmpR op_eq (pe_callB call_abs (by rfl) T.b_abs (by decide +kernel) (pa_cons (pv 0) pa_nil)) pe_int (nomark _))))) pe_str (pe_callTy call_str_int (by rfl) T.b_str (by decide +kernel) (pa_cons (pe_callB call_abs (by rfl) T.b_abs (by decide +kernel) (pa_cons (pv 0) pa_nil)) pa_nil))))
    (pss_one (ps_ret (pe_op op_add_str (pe_op op_add_str (pe_ifExp (pt_cmpR op_lt (pv 0) pe_int (nomark _)) pe_str pe_str) (pv 2)) (pv 1))))), ?_⟩
    have ab : (if n < 0 then -n else n) = (n.natAbs : Int) := by
      by_cases h : n < 0
      · rw [if_pos h]; omega
      · rw [if_neg h]; omega
    have hd : ((n.natAbs : Int).natAbs).log2 < 1920 := by rw [Int.natAbs_natCast]; exact hn
    have sz : sizeLine = 16777216 := sizeLine_eq
    have dl := dg_le (n := (n.natAbs : Int)) hd
    refine ⟨fun σ H' => σ = [some (.int n), some (.str nm), some (.str (if nm ≠ "" ∧ n.natAbs = 1 then ("" : Str) else dg n.natAbs))] ∧ H' = H, ?_, ?_⟩
    · refine ⟨_, rfl, rfl, _, rfl, ?_⟩
      by_cases h2 : nm = ""
      · refine ndF (congrArg V.str h2) ⟨_, rfl, n, rfl, ?_⟩
        rw [ab, if_neg (fun z => z.1 h2)]
        exact ⟨_, rfl, hd, rfl, rfl⟩
      · refine ndT (fun z => h2 (V.str.inj z)) ⟨_, rfl, n, rfl, ?_⟩
        rw [ab]
        refine ⟨rfl, _, rfl, iteE (fun h1 => ?_) (fun h1 => ?_)⟩
        · rw [if_pos (And.intro h2 (by omega))]
          exact ⟨rfl, rfl⟩
        · rw [if_neg (fun z => h1 (by omega))]
          refine ⟨_, rfl, n, rfl, ?_⟩
          rw [ab]
          exact ⟨_, rfl, hd, rfl, rfl⟩
    rintro σ H' ⟨rfl, rfl⟩
    have l2 : (if nm ≠ "" ∧ n.natAbs = 1 then ("" : Str) else dg n.natAbs).length ≤ 1921 := by
      have : ("" : Str).length = 0 := rfl
      split <;> omega
    have k1 : ("-" : Str).length = 1 := rfl
    have k2 : ("+" : Str).length = 1 := rfl
    unfold ltrm at q
    refine ⟨_, rfl, _, _, rfl, rfl, _, rfl, iteD (fun h => ?_) (fun h => ?_)⟩
    · rw [if_pos h] at q
      refine ⟨_, rfl, _, _, rfl, rfl, ?_, _, rfl, _, _, rfl, rfl, ?_, q⟩
      · omega
      · rw [strLen_append]; omega
    · rw [if_neg h] at q
      refine ⟨_, rfl, _, _, rfl, rfl, ?_, _, rfl, _, _, rfl, rfl, ?_, q⟩
      · omega
      · rw [strLen_append]; omega
theorem ok_l_text (T : Txt K mg C_Form C_Ring C_Element) : Def P w K mg base 2 "_law_text" ["_law_entries", "_law_bottom"] (sp_l_text K C_Form C_Ring C_Element) := by
  obtain ⟨f_, fd_, g_, F_⟩ := T.d_l_text
  obtain ⟨f_l_term, fd_l_term, g_l_term, k_l_term, b_l_term, G_l_term⟩ := (ok_l_term (P := P) (w := w) (base := base) T)
  refine ⟨f_, fd_, g_, F_.kp, F_.binds (ps := ["_law_entries", "_law_bottom"]) (fun _ _ _ _ _ _ us hl => match us, hl with | [_, _], _ => rfl), ?_⟩
  refine F_.ok sc_l_text (fun vs H Q E h => ?_) (fun cdv A outer s H vs Q E hr h => ?_)
  · first | (obtain ⟨rfl, _⟩ := h; rfl) | (obtain ⟨_, rfl, _⟩ := h; rfl) | (obtain ⟨_, _, rfl, _⟩ := h; rfl) | (obtain ⟨_, _, _, rfl, _⟩ := h; rfl) | (obtain ⟨_, _, _, _, rfl, _⟩ := h; rfl) | (obtain ⟨_, _, _, _, _, rfl, _⟩ := h; rfl) | (obtain ⟨_, _, _, _, _, _, rfl, _⟩ := h; rfl) | (obtain ⟨_, _, _, _, _, _, _, rfl, _⟩ := h; rfl) | (obtain ⟨_, _, _, _, _, _, _, _, rfl, _⟩ := h; rfl) | (obtain ⟨_, _, _, _, _, _, _, _, _, rfl, _⟩ := h; rfl) | (obtain ⟨_, _, _, _, _, _, _, _, _, _, rfl, _⟩ := h; rfl) | (obtain ⟨_, _, _, _, _, _, _, _, _, _, _, rfl, _⟩ := h; rfl) | (obtain ⟨_, _, _, _, _, _, _, _, _, _, _, _, rfl, _⟩ := h; rfl) | (obtain ⟨_, _, _, _, _, _, _, _, _, _, _, _, _, rfl, _⟩ := h; rfl) | (obtain ⟨_, _, _, _, _, _, _, _, _, _, _, _, _, _, rfl, _⟩ := h; rfl) | (obtain ⟨_, _, _, _, _, _, _, _, _, _, _, _, _, _, _, rfl, _⟩ := h; rfl) | (obtain ⟨_, _, _, _, _, _, _, _, _, _, _, _, _, _, _, _, rfl, _⟩ := h; rfl) | (obtain ⟨_, _, _, _, _, _, _, _, _, _, _, _, _, _, _, _, _, rfl, _⟩ := h; rfl) | (obtain ⟨_, _, _, _, _, _, _, _, _, _, _, _, _, _, _, _, _, _, rfl, _⟩ := h; rfl) | (obtain ⟨_, _, _, _, _, _, _, _, _, _, _, _, _, _, _, _, _, _, _, rfl, _⟩ := h; rfl) | (obtain ⟨_, _, _, _, _, _, _, _, _, _, _, _, _, _, _, _, _, _, _, _, rfl, _⟩ := h; rfl) | (obtain ⟨_, _, _, _, _, _, _, _, _, _, _, _, _, _, _, _, _, _, _, _, _, rfl, _⟩ := h; rfl) | (obtain ⟨_, _, _, _, _, _, _, _, _, _, _, _, _, _, _, _, _, _, _, _, _, _, rfl, _⟩ := h; rfl) | (obtain ⟨_, _, _, _, _, _, _, _, _, _, _, _, _, _, _, _, _, _, _, _, _, _, _, rfl, _⟩ := h; rfl)
  · obtain ⟨a, u, y, z, b, rfl, ha, hu, hy, hz, hb, q⟩ := h
    refine ⟨_, (pss_cons (ps_set (i := 2) sc_l_text.nd rfl (.inl rfl) pe_str)
    (Evl.pss_cut (ps_for PassesOwn.never rfl (RZ.pi_zipA (by rfl) T.b_zip (pa_cons (pv 0) (pa_cons (pe_tup (pa_cons pe_str (pa_cons pe_str (pa_cons pe_str pa_nil)))) pa_nil))) (pg_tup (by rfl) (pgs_cons (pg_name (i := 3) sc_l_text.nd rfl (.inl rfl)) (pgs_cons (pg_name (i := 4) sc_l_text.nd rfl (.inl rfl)) pgs_nil)))
      (pss_one (ps_if (pt_cmpR op_ne (pv 3) pe_int (nomark _))
      (pss_one (ps_set (i := 2) sc_l_text.nd rfl (.inl rfl) (pe_op op_add_str (pv 2) (pe_call G_l_term (hr.mono (by decide)) (by rfl) g_l_term k_l_term b_l_term .nil pass0 (pa_cons (pv 3) (pa_cons (pv 4) pa_nil))))))
      pss_nil)))
    (Evl.pss_cut (ps_set (i := 2) sc_l_text.nd rfl (.inl rfl) (pe_ifExp (pt_cmpR op_eq (pv 2) pe_str (nomark _)) pe_str (pv 2)))
    (Evl.pss_cut (ps_set (i := 2) sc_l_text.nd rfl (.inl rfl) (pe_ifExp (pt_cmpR op_eq (pe_slice sl_str (pv 2) po_none (po_some pe_int)) pe_str (nomark _)) (pe_slice sl_str (pv 2) (po_some pe_int) po_none) (pv 2)))
    (pss_one (ps_ret (pe_ifExp (pt_cmpR op_eq (pv 1) pe_int (nomark _)) (pv 2) (pe_op op_add_str (pe_op op_add_str (pe_op op_add_str pe_str (pv 2)) pe_str) (pe_callTy call_str_int (by rfl) T.b_str (by decide +kernel) (pa_cons (pv 1) pa_nil)))))))))), ?_⟩
    have sz : sizeLine = 16777216 := sizeLine_eq
    have l0 : ("" : Str).length = 0 := rfl
    refine ⟨fun σ H' => ∃ y3 y4, σ = [some (.ref a), some (.int b), some (.str (lds [u, y, z] 3)), y3, y4] ∧ Ex0 H H' ∧ (lds [u, y, z] 3).length ≤ 6000, ?_, ?_⟩
    · refine ⟨_, rfl, sl3, fun Z nZ => ?_⟩
      have e2 : Ex0 H (upd H Z (.tup [.str "", .str "w", .str "t"])) := Ex0.new nZ
      have hZ : (upd H Z (.tup [.str "", .str "w", .str "t"])) Z = some (.tup (nms.map V.str)) := upd_same
      generalize upd H Z (.tup [.str "", .str "w", .str "t"]) = H0 at e2 hZ ⊢
      refine ⟨a, Z, _, _, rfl, .inr ⟨SqT.of (Ex0.ti e2 ha), SqT.of hZ, ?_⟩⟩
      refine for_P (walk_zipT (K := K) (xs := ([u, y, z] : List Int).map V.int) (ys := nms.map V.str) rfl) (fun i σ H' => ∃ y3 y4, σ = [some (.ref a), some (.int b), some (.str (lds [u, y, z] i)), y3, y4] ∧ Ex0 H H' ∧ H' Z = some (.tup (nms.map V.str)) ∧ (lds [u, y, z] i).length ≤ 2000 * i) ⟨none, none, rfl, e2, hZ, by show ("" : Str).length ≤ _; omega⟩ (fun i σ H' _ ⟨_, _, _, e, h1, _⟩ => ⟨SqT.of (Ex0.ti e ha), SqT.of h1⟩) ?_ ?_
      · rintro i T x1 y1 σ H' hi fx fy ⟨y3, y4, rfl, e3, hZ3, hl⟩ nT
        obtain ⟨n, hn, rfl⟩ := get_int fx
        rw [List.getElem?_map] at fy
        obtain ⟨nm, hnm, rfl⟩ : ∃ nm, nms[i]? = some nm ∧ y1 = V.str nm := by
          cases e : nms[i]? with
          | none => rw [e] at fy; cases fy
          | some z => rw [e] at fy; exact ⟨z, rfl, (Option.some.inj fy).symm⟩
        have hi3 : i < 3 := hi
        have ln : L19 n := by
          match i, hn with
          | 0, hn => rw [← Option.some.inj hn]; exact hu
          | 1, hn => rw [← Option.some.inj hn]; exact hy
          | 2, hn => rw [← Option.some.inj hn]; exact hz
        have lm : nm.length ≤ 1 := by
          match i, hnm with
          | 0, hn => rw [← Option.some.inj hn]; decide
          | 1, hn => rw [← Option.some.inj hn]; decide
          | 2, hn => rw [← Option.some.inj hn]; decide
        have e4 : Ex0 H (upd H' T (.tup [.int n, .str nm])) := e3.trans (Ex0.new nT)
        have hZ4 : upd H' T (.tup [.int n, .str nm]) Z = some (.tup (nms.map V.str)) := Ex0.ap (Ex0.new nT) hZ3
        refine ⟨T, _, rfl, SqT.of upd_same, rfl, _, _, rfl, _, _, rfl, rfl, ?_⟩
        generalize upd H' T (.tup [.int n, .str nm]) = H4 at e4 hZ4 ⊢
        have tl := ltrm_le ln lm
        refine ⟨_, rfl, rfl, _, rfl, iteEn (fun h1 => ?_) (fun h1 => ?_)⟩
        · have ws : lds [u, y, z] (i + 1) = lds [u, y, z] i ++ ltrm n nm := by
            rw [lds_succ hn hnm]
            unfold TxtM.lst
            rw [if_pos (show n ≠ 0 from h1)]
          refine ⟨_, rfl, _, rfl, _, rfl, n, nm, rfl, ln, lm, _, _, rfl, rfl, by omega, ?_⟩
          refine ⟨some (.int n), some (.str nm), ?_, e4, hZ4, ?_⟩
          · rw [ws]; rfl
          · rw [ws, strLen_append]; omega
        · have ws : lds [u, y, z] (i + 1) = lds [u, y, z] i := by
            rw [lds_succ hn hnm]
            unfold TxtM.lst
            rw [if_neg (fun z => z h1)]
          refine ⟨some (.int n), some (.str nm), ?_, e4, hZ4, ?_⟩
          · rw [ws]; rfl
          · rw [ws]; omega
      · rintro σ H' ⟨y3, y4, rfl, e3, hZ3, hl⟩
        exact ⟨y3, y4, rfl, e3, hl⟩
    rintro σ H1 ⟨y3, y4, rfl, e1, hl⟩
    generalize hs : lds [u, y, z] 3 = s1 at hl ⊢
    refine ⟨fun σ H' => σ = [some (.ref a), some (.int b), some (.str (orZero s1)), y3, y4] ∧ H' = H1, ?_, ?_⟩
    · refine ⟨_, rfl, rfl, _, rfl, ?_⟩
      unfold orZero
      by_cases h2 : s1 = ""
      · rw [if_pos h2]
        exact dT (congrArg V.str h2) ⟨rfl, rfl⟩
      · rw [if_neg h2]
        exact dF (fun z => h2 (V.str.inj z)) ⟨_, rfl, rfl, rfl⟩
    rintro σ H2 ⟨rfl, rfl⟩
    refine ⟨fun σ H' => σ = [some (.ref a), some (.int b), some (.str (strip (orZero s1))), y3, y4] ∧ H' = H2, ?_, ?_⟩
    · have lz : (orZero s1).length ≤ 6000 := by
        have : ("0" : Str).length = 1 := rfl
        unfold orZero
        split <;> omega
      refine ⟨_, rfl, _, rfl, _, rfl, by omega, rfl, _, rfl, ?_⟩
      unfold TxtM.strip
      by_cases h2 : cutS (orZero s1) none (some 1) = "+"
      · rw [if_pos h2]
        refine dT (congrArg V.str h2) ⟨_, rfl, _, rfl, _, rfl, by omega, rfl, rfl⟩
      · rw [if_neg h2]
        exact dF (fun z => h2 (V.str.inj z)) ⟨_, rfl, rfl, rfl⟩
    rintro σ H3 ⟨rfl, rfl⟩
    have es : strip (orZero s1) = sumS [u, y, z] := by
      rw [← TxtM.law_sum]
      unfold lawS
      rw [hs]
    rw [es]
    have sl := sum_le hu hy hz
    have sb := dg_le hb
    refine ⟨_, rfl, rfl, _, rfl, iteE (fun h1 => ?_) (fun h1 => ?_)⟩
    · have := q _ e1
      unfold elS at this
      rw [if_pos h1] at this
      exact ⟨_, rfl, this⟩
    · have k1 : ("(" : Str).length = 1 := rfl
      have k2 : (")/" : Str).length = 2 := rfl
      refine ⟨_, rfl, _, _, rfl, rfl, by omega, _, _, rfl, rfl, ?_, _, rfl, _, rfl, hb, _, _, rfl, rfl, ?_, ?_⟩
      · rw [strLen_append]; omega
      · rw [strLen_append, strLen_append]; show _ + (dg b).length ≤ _; omega
      have := q _ e1
      unfold elS at this
      rw [if_neg h1] at this
      exact this
end
end RG
namespace RG
open PySem PySem.Spec PyProof.Rows L2 Fr
open TxtM (dg sumS)
theorem l19 {n : Int} (h : n.natAbs ≤ 600000000000000000000) : L19 n := by
  show n.natAbs.log2 < 1920
  by_cases z : n.natAbs = 0
  · rw [z]; simp [Nat.log2_zero]
  · exact (Nat.log2_lt z).mpr (Nat.lt_of_le_of_lt h (by decide))
theorem sh20 {n : Int} (h : n.natAbs ≤ 600000000000000000000) : Short n := ⟨by omega, by omega⟩
theorem Low.le {u y z b u' y' z' b' : Int} (h : Low u y z b u' y' z' b') (hb : b ≠ 0) : u'.natAbs ≤ u.natAbs ∧ y'.natAbs ≤ y.natAbs ∧ z'.natAbs ≤ z.natAbs ∧ b'.natAbs ≤ b.natAbs := by
  obtain ⟨g, e1, e2, e3, e4, _, _⟩ := h
  have g0 : g ≠ 0 := fun z => hb (by rw [e4, z, Int.zero_mul])
  have le : ∀ p q : Int, p = g * q → q.natAbs ≤ p.natAbs := fun p q e => by
    rw [e, Int.natAbs_mul]
    exact Nat.le_mul_of_pos_left _ (by omega)
  exact ⟨le _ _ e1, le _ _ e2, le _ _ e3, le _ _ e4⟩
theorem Low.plus {u y z b u2 y2 z2 b2 : Int} (h : Low (u * 1 + 1 * (1 * b)) (y * 1 + 0 * (1 * b)) (z * 1 + 0 * (1 * b)) (b * 1) u2 y2 z2 b2) (hb : 0 < b) : ¬ (u = u2 ∧ y = y2 ∧ z = z2 ∧ b = b2) := by
  obtain ⟨g, e1, e2, e3, e4, _, _⟩ := h
  rintro ⟨rfl, rfl, rfl, rfl⟩
  have g1 : g = 1 := by
    have : (g - 1) * b = 0 := by grind
    rcases Int.mul_eq_zero.mp this with h | h <;> omega
  subst g1
  omega
theorem shown4 (a b c d : Int) : tupS [a, b, c, d] = (("(" : Str) ++ Str.join ", " ([a, b, c, d].map dg)) ++ (")" : Str) := rfl
theorem ring4 (a b c d : Int) : ringS [a, b, c, d] = (("ring of (" : Str) ++ Str.join ", " ([a, b, c, d].map dg)) ++ (")" : Str) := by
  unfold ringS
  rw [shown4]
  apply TxtM.tl_ext
  simp only [TxtM.tl_app]
  rw [show TxtM.tl ("ring of (" : Str) = TxtM.tl ("ring of " : Str) ++ TxtM.tl ("(" : Str) by decide +kernel]
  simp only [List.append_assoc]
theorem join4_B {a b c d : Int} (hn : ∀ n ∈ [a, b, c, d], n.natAbs ≤ 600000000000000000000) : (Str.join ", " ([a, b, c, d].map dg)).length ≤ 8000 ∧ (([a, b, c, d].map dg).map (·.length)).sum ≤ 8000 := by
  have h := join_length_add ([a, b, c, d].map dg) (by simp)
  have h1 := dg_le (l19 (hn a (by simp)))
  have h2 := dg_le (l19 (hn b (by simp)))
  have h3 := dg_le (l19 (hn c (by simp)))
  have h4 := dg_le (l19 (hn d (by simp)))
  have e : piled ([a, b, c, d].map dg) = (dg a).length + 2 + ((dg b).length + 2 + ((dg c).length + 2 + ((dg d).length + 2 + 0))) := by
    simp [piled, List.map]
    try omega
  refine ⟨by omega, ?_⟩
  simp only [List.map_cons, List.map_nil, List.sum_cons, List.sum_nil]
  omega
def Prd (H : Hp) (x : Addr) (r : Int × Int × Int × Int) : Prop := PrT H x r.1 r.2.1 r.2.2.1 r.2.2.2 ∧ r.1.natAbs ≤ 6000000 ∧ r.2.1.natAbs ≤ 6000000 ∧ r.2.2.1.natAbs ≤ 6000000 ∧ r.2.2.2 ≠ 0 ∧ r.2.2.2.natAbs ≤ 600000000000000000000
theorem Prd.ex {H H' : Hp} {x : Addr} {r : Int × Int × Int × Int} (e : ∀ b xs, H b = some (.tup xs) → H' b = some (.tup xs)) (h : Prd H x r) : Prd H' x r := by
  obtain ⟨⟨t, h1, h2⟩, h3⟩ := h
  exact ⟨⟨t, e _ _ h1, e _ _ h2⟩, h3⟩
def sp_l_right (_ : PySem.W.Frag) (_ _ _ : Addr) : Sp := fun vs H Q _ => ∃ c : Addr, vs = [.ref c] ∧ Vat c H ∧ ∀ H', Fv c H H' → Q (.bl true) H'
section
variable {P : Program} {w : World} {K : PySem.W.Frag} {mg : Str → Option Value} {base : Heap} {C_Form C_Ring C_Element : Addr}
theorem ok_l_right (T : Txt K mg C_Form C_Ring C_Element) : Gd.DefG P w K mg base 9 "_law_right" ["_law_vat_here"] (sp_l_right K C_Form C_Ring C_Element) := by
  obtain ⟨f_, fd_, g_, F_⟩ := T.d_l_right
  obtain ⟨p_Element___add__, f_Element___add__, fd_Element___add__, R_Element___add__, b_Element___add__, G_Element___add__⟩ := (ok_Element___add__ (P := P) (w := w) (base := base) T)
  obtain ⟨p_Element___eq__, f_Element___eq__, fd_Element___eq__, R_Element___eq__, b_Element___eq__, G_Element___eq__⟩ := (ok_Element___eq__ (P := P) (w := w) (base := base) T)
  obtain ⟨p_Element___neg__, f_Element___neg__, fd_Element___neg__, R_Element___neg__, b_Element___neg__, G_Element___neg__⟩ := (ok_Element___neg__ (P := P) (w := w) (base := base) T)
  obtain ⟨p_Element___str__, f_Element___str__, fd_Element___str__, R_Element___str__, b_Element___str__, G_Element___str__⟩ := (ok_Element___str__ (P := P) (w := w) (base := base) T)
  obtain ⟨p_Form___init__, f_Form___init__, fd_Form___init__, R_Form___init__, b_Form___init__, G_Form___init__⟩ := (ok_Form___init__ (P := P) (w := w) (base := base) T)
  obtain ⟨p_Form___str__, f_Form___str__, fd_Form___str__, R_Form___str__, b_Form___str__, G_Form___str__⟩ := (ok_Form___str__ (P := P) (w := w) (base := base) T)
  obtain ⟨p_Ring___eq__, f_Ring___eq__, fd_Ring___eq__, R_Ring___eq__, b_Ring___eq__, G_Ring___eq__⟩ := (ok_Ring___eq__ (P := P) (w := w) (base := base) T)
  obtain ⟨p_Ring___init__, f_Ring___init__, fd_Ring___init__, R_Ring___init__, b_Ring___init__, G_Ring___init__⟩ := (ok_Ring___init__ (P := P) (w := w) (base := base) T)
  obtain ⟨p_Ring___str__, f_Ring___str__, fd_Ring___str__, R_Ring___str__, b_Ring___str__, G_Ring___str__⟩ := (ok_Ring___str__ (P := P) (w := w) (base := base) T)
  obtain ⟨p_Ring_element, f_Ring_element, fd_Ring_element, ds_Ring_element, R_Ring_element, b_Ring_element, v_Ring_element, d_Ring_element, G_Ring_element⟩ := (ok_Ring_element (P := P) (w := w) (base := base) T)
  obtain ⟨p_Ring_form, f_Ring_form, fd_Ring_form, R_Ring_form, b_Ring_form, G_Ring_form⟩ := (ok_Ring_form (P := P) (w := w) (base := base) T)
  obtain ⟨p_Ring_one, f_Ring_one, fd_Ring_one, R_Ring_one, b_Ring_one, G_Ring_one⟩ := (ok_Ring_one (P := P) (w := w) (base := base) T)
  obtain ⟨f_l_coefficients, fd_l_coefficients, g_l_coefficients, k_l_coefficients, b_l_coefficients, G_l_coefficients⟩ := (ok_l_coefficients (P := P) (w := w) (base := base) T)
  obtain ⟨f_l_drawn, fd_l_drawn, g_l_drawn, k_l_drawn, b_l_drawn, G_l_drawn⟩ := (ok_l_drawn (P := P) (w := w) (base := base) T)
  obtain ⟨f_l_lowest, fd_l_lowest, g_l_lowest, k_l_lowest, b_l_lowest, G_l_lowest⟩ := (ok_l_lowest (P := P) (w := w) (base := base) T)
  obtain ⟨f_l_small, fd_l_small, g_l_small, k_l_small, b_l_small, G_l_small⟩ := (ok_l_small (P := P) (w := w) (base := base) T)
  obtain ⟨f_l_text, fd_l_text, g_l_text, k_l_text, b_l_text, G_l_text⟩ := (ok_l_text (P := P) (w := w) (base := base) T)
  refine ⟨f_, fd_, g_, F_.kp, F_.binds (ps := ["_law_vat_here"]) (fun _ _ _ _ _ _ us hl => match us, hl with | [_], _ => rfl), ?_⟩
  refine Gd.okG F_ sc_l_right (fun vs H Q E h => ?_) (fun cdv A outer s H vs Q E hG hr h => ?_)
  · first | (obtain ⟨rfl, _⟩ := h; rfl) | (obtain ⟨_, rfl, _⟩ := h; rfl) | (obtain ⟨_, _, rfl, _⟩ := h; rfl) | (obtain ⟨_, _, _, rfl, _⟩ := h; rfl) | (obtain ⟨_, _, _, _, rfl, _⟩ := h; rfl) | (obtain ⟨_, _, _, _, _, rfl, _⟩ := h; rfl) | (obtain ⟨_, _, _, _, _, _, rfl, _⟩ := h; rfl) | (obtain ⟨_, _, _, _, _, _, _, rfl, _⟩ := h; rfl) | (obtain ⟨_, _, _, _, _, _, _, _, rfl, _⟩ := h; rfl) | (obtain ⟨_, _, _, _, _, _, _, _, _, rfl, _⟩ := h; rfl) | (obtain ⟨_, _, _, _, _, _, _, _, _, _, rfl, _⟩ := h; rfl) | (obtain ⟨_, _, _, _, _, _, _, _, _, _, _, rfl, _⟩ := h; rfl) | (obtain ⟨_, _, _, _, _, _, _, _, _, _, _, _, rfl, _⟩ := h; rfl) | (obtain ⟨_, _, _, _, _, _, _, _, _, _, _, _, _, rfl, _⟩ := h; rfl) | (obtain ⟨_, _, _, _, _, _, _, _, _, _, _, _, _, _, rfl, _⟩ := h; rfl) | (obtain ⟨_, _, _, _, _, _, _, _, _, _, _, _, _, _, _, rfl, _⟩ := h; rfl) | (obtain ⟨_, _, _, _, _, _, _, _, _, _, _, _, _, _, _, _, rfl, _⟩ := h; rfl) | (obtain ⟨_, _, _, _, _, _, _, _, _, _, _, _, _, _, _, _, _, rfl, _⟩ := h; rfl) | (obtain ⟨_, _, _, _, _, _, _, _, _, _, _, _, _, _, _, _, _, _, rfl, _⟩ := h; rfl) | (obtain ⟨_, _, _, _, _, _, _, _, _, _, _, _, _, _, _, _, _, _, _, rfl, _⟩ := h; rfl) | (obtain ⟨_, _, _, _, _, _, _, _, _, _, _, _, _, _, _, _, _, _, _, _, rfl, _⟩ := h; rfl) | (obtain ⟨_, _, _, _, _, _, _, _, _, _, _, _, _, _, _, _, _, _, _, _, _, rfl, _⟩ := h; rfl) | (obtain ⟨_, _, _, _, _, _, _, _, _, _, _, _, _, _, _, _, _, _, _, _, _, _, rfl, _⟩ := h; rfl) | (obtain ⟨_, _, _, _, _, _, _, _, _, _, _, _, _, _, _, _, _, _, _, _, _, _, _, rfl, _⟩ := h; rfl)
  · obtain ⟨c, rfl, hc, q⟩ := h
    refine ⟨_, (Evl.pss_cut (ps_par (i := 1) (j := 2) (by rfl) sc_l_right.nd rfl rfl (by decide) rfl rfl (pa_cons (pe_call G_l_coefficients (hr.mono (by decide)) (by rfl) g_l_coefficients k_l_coefficients b_l_coefficients .nil pass0 (pa_cons (pv 0) pa_nil)) (pa_cons (pe_call G_l_coefficients (hr.mono (by decide)) (by rfl) g_l_coefficients k_l_coefficients b_l_coefficients .nil pass0 (pa_cons (pv 0) pa_nil)) pa_nil)) (by rfl))
    (Evl.pss_cut (ps_par3 (i := 3) (j := 4) (l := 5) (by rfl) sc_l_right.nd rfl rfl rfl (by decide) (by decide) (by decide) rfl rfl rfl (pa_cons (pe_make R_Ring___init__ G_Ring___init__ (hr.mono (by decide)) (by rfl) T.g_Ring b_Ring___init__ .nil pass0 (pa_cons (pe_make R_Form___init__ G_Form___init__ (hr.mono (by decide)) (by rfl) T.g_Form b_Form___init__ .nil pass0 (pa_cons (pv 1) pa_nil)) pa_nil)) (pa_cons (pe_make R_Ring___init__ G_Ring___init__ (hr.mono (by decide)) (by rfl) T.g_Ring b_Ring___init__ .nil pass0 (pa_cons (pe_make R_Form___init__ G_Form___init__ (hr.mono (by decide)) (by rfl) T.g_Form b_Form___init__ .nil pass0 (pa_cons (pv 2) pa_nil)) pa_nil)) (pa_cons (pe_make R_Ring___init__ G_Ring___init__ (hr.mono (by decide)) (by rfl) T.g_Ring b_Ring___init__ .nil pass0 (pa_cons (pe_make R_Form___init__ G_Form___init__ (hr.mono (by decide)) (by rfl) T.g_Form b_Form___init__ .nil pass0 (pa_cons (pv 1) pa_nil)) pa_nil)) pa_nil))) (by rfl))
    (Evl.pss_cut (ps_if (PW.pt (pw_or (pt_cmpR op_ne (pe_callTy (Gd.call_strI R_Ring___str__ G_Ring___str__ b_Ring___str__ hG (hr.mono (by decide))) (by rfl) T.b_str (by decide +kernel) (pa_cons (pv 3) pa_nil)) (pe_op op_add_str (pe_op op_add_str pe_str (pe_join pe_str (pe_lc (own := [("_law_number", 11)]) (g := (gName 11)) rfl sc_l_right.nd (pi_tup (pv 1)) (blkOk_by (N := N_l_right) (sc := defScope s_l_right) (by decide +kernel)) (fun _ _ _ _ _ => (pg_name (i := 11) sc_l_right.nd rfl (.inl rfl))) (fun _ _ _ _ _ => pts_nil) (fun _ _ _ _ _ => (pe_callTy call_str_int (by rfl) T.b_str (by decide +kernel) (pa_cons (pv 11) pa_nil)))))) pe_str) (nomark _)) (pw_or1 (pt_cmpR (op_neI R_Ring___eq__ G_Ring___eq__ b_Ring___eq__ (hr.mono (by decide)) pass0) (pv 3) (pv 5) (nomark _)))))
      (pss_one (ps_ret pe_bl))
      pss_nil)
    (Evl.pss_cut (ps_if (PW.pt (pw_or (pt_cmpR op_ne (pe_cmpR (op_eqI R_Ring___eq__ G_Ring___eq__ b_Ring___eq__ (hr.mono (by decide)) pass0) (pv 3) (pv 4) (nomark _)) (pe_cmpR (op_eqD hr.units) (pv 1) (pv 2) (nomark _)) (nomark _)) (pw_or (pt_cmpR (op_eqI R_Ring___eq__ G_Ring___eq__ b_Ring___eq__ (hr.mono (by decide)) pass0) (pv 3) (pe_make R_Form___init__ G_Form___init__ (hr.mono (by decide)) (by rfl) T.g_Form b_Form___init__ .nil pass0 (pa_cons (pv 1) pa_nil)) (nomark _)) (pw_or (pt_cmpR (op_eqI R_Ring___eq__ G_Ring___eq__ b_Ring___eq__ (hr.mono (by decide)) pass0) (pv 3) (pe_callTy (Gd.call_strI R_Ring___str__ G_Ring___str__ b_Ring___str__ hG (hr.mono (by decide))) (by rfl) T.b_str (by decide +kernel) (pa_cons (pv 3) pa_nil)) (nomark _)) (pw_or1 (pt_cmpR (op_eqI R_Ring___eq__ G_Ring___eq__ b_Ring___eq__ (hr.mono (by decide)) pass0) (pv 3) pe_non (nomark _)))))))
      (pss_one (ps_ret pe_bl))
      pss_nil)
    (Evl.pss_cut (ps_set (i := 6) sc_l_right.nd rfl (.inl rfl) (pe_lst (pa_cons (pe_call G_l_small (hr.mono (by decide)) (by rfl) g_l_small k_l_small b_l_small .nil pass0 (pa_cons (pv 0) pa_nil)) (pa_cons (pe_call G_l_small (hr.mono (by decide)) (by rfl) g_l_small k_l_small b_l_small .nil pass0 (pa_cons (pv 0) pa_nil)) (pa_cons (pe_call G_l_drawn (hr.mono (by decide)) (by rfl) g_l_drawn k_l_drawn b_l_drawn .nil pass0 (pa_cons (pv 0) pa_nil)) (pa_cons (pe_tup (pa_cons (pe_tup (pa_cons pe_int (pa_cons pe_int (pa_cons pe_int pa_nil)))) (pa_cons pe_int pa_nil))) (pa_cons (pe_tup (pa_cons (pe_tup (pa_cons pe_int (pa_cons pe_int (pa_cons (pe_un un_neg pe_int) pa_nil)))) (pa_cons pe_int pa_nil))) (pa_cons (pe_tup (pa_cons (pe_tup (pa_cons pe_int (pa_cons (pe_un un_neg pe_int) (pa_cons pe_int pa_nil)))) (pa_cons pe_int pa_nil))) pa_nil))))))))
    (pss_cons (ps_for PassesOwn.never rfl (pi_list (pv 6)) (pg_tup (by rfl) (pgs_cons (pg_name (i := 7) sc_l_right.nd rfl (.inl rfl)) (pgs_cons (pg_name (i := 8) sc_l_right.nd rfl (.inl rfl)) pgs_nil)))
      (Evl.pss_cut (ps_par (i := 9) (j := 10) (by rfl) sc_l_right.nd rfl rfl (by decide) rfl rfl (pa_cons (pe_meth (pv 3) T.cl_Ring R_Ring_element G_Ring_element (hr.mono (by decide)) b_Ring_element .nil pass0 (pa_cons (pv 7) (pa_cons (pv 8) pa_nil))) (pa_cons (pe_call G_l_lowest (hr.mono (by decide)) (by rfl) g_l_lowest k_l_lowest b_l_lowest .nil pass0 (pa_cons (pv 7) (pa_cons (pv 8) pa_nil))) pa_nil)) (by rfl))
    (Evl.pss_cut (ps_if (PW.pt (pw_or (pt_cmpR op_ne (pe_callTy (Gd.call_strI R_Element___str__ G_Element___str__ b_Element___str__ hG (hr.mono (by decide))) (by rfl) T.b_str (by decide +kernel) (pa_cons (pv 9) pa_nil)) (pe_call G_l_text (hr.mono (by decide)) (by rfl) g_l_text k_l_text b_l_text .nil pass0 (pa_cons (pe_ix ix_tup (pv 10) pe_int (fun _ _ => rfl)) (pa_cons (pe_ix ix_tup (pv 10) pe_int (fun _ _ => rfl)) pa_nil))) (nomark _)) (pw_or1 (pt_cmpR (op_neI R_Element___eq__ G_Element___eq__ b_Element___eq__ (hr.mono (by decide)) pass0) (pv 9) (pe_meth (pv 5) T.cl_Ring R_Ring_element G_Ring_element (hr.mono (by decide)) b_Ring_element .nil pass0 (pa_cons (pe_ix ix_tup (pv 10) pe_int (fun _ _ => rfl)) (pa_cons (pe_ix ix_tup (pv 10) pe_int (fun _ _ => rfl)) pa_nil))) (nomark _)))))
      (pss_one (ps_ret pe_bl))
      pss_nil)
    (Evl.pss_cut (ps_if (pt_cmpR op_ne (pe_cmpR (op_eqI R_Element___eq__ G_Element___eq__ b_Element___eq__ (hr.mono (by decide)) pass0) (pv 9) (pe_meth (pv 4) T.cl_Ring R_Ring_element G_Ring_element (hr.mono (by decide)) b_Ring_element .nil pass0 (pa_cons (pv 7) (pa_cons (pv 8) pa_nil))) (nomark _)) (pe_cmpR (op_eqD hr.units) (pv 1) (pv 2) (nomark _)) (nomark _))
      (pss_one (ps_ret pe_bl))
      pss_nil)
    (Evl.pss_cut (ps_if (PW.pt (pw_or (pt_cmpR (op_eqI R_Element___eq__ G_Element___eq__ b_Element___eq__ (hr.mono (by decide)) pass0) (pv 9) (pe_callTy (Gd.call_strI R_Element___str__ G_Element___str__ b_Element___str__ hG (hr.mono (by decide))) (by rfl) T.b_str (by decide +kernel) (pa_cons (pv 9) pa_nil)) (nomark _)) (pw_or1 (pt_cmpR (op_eqI R_Element___eq__ G_Element___eq__ b_Element___eq__ (hr.mono (by decide)) pass0) (pv 9) (pe_ix ix_tup (pv 10) pe_int (fun _ _ => rfl)) (nomark _)))))
      (pss_one (ps_ret pe_bl))
      pss_nil)
    (pss_one (ps_if (PW.pt (pw_or (pt_cmpR (op_eqI R_Element___eq__ G_Element___eq__ b_Element___eq__ (hr.mono (by decide)) pass0) (pv 9) (pe_op (op_binI R_Element___add__ G_Element___add__ b_Element___add__ (hr.mono (by decide)) pass0) (pv 9) (pe_meth0 (pv 3) T.cl_Ring R_Ring_one G_Ring_one (hr.mono (by decide)) b_Ring_one .nil pass0)) (nomark _)) (pw_or1 (pt_cmpR op_ne (pe_cmpR (op_eqI R_Element___eq__ G_Element___eq__ b_Element___eq__ (hr.mono (by decide)) pass0) (pv 9) (pe_un (un_negI R_Element___neg__ G_Element___neg__ b_Element___neg__ (hr.mono (by decide)) pass0) (pv 9)) (nomark _)) (pe_cmpR (op_eqD hr.units) (pe_ix ix_tup (pv 10) pe_int (fun _ _ => rfl)) (pe_tup (pa_cons pe_int (pa_cons pe_int (pa_cons pe_int pa_nil)))) (nomark _)) (nomark _)))))
      (pss_one (ps_ret pe_bl))
      pss_nil)))))))
    (pss_one (ps_ret (pe_cmpR op_eq (pe_callTy (Gd.call_strI R_Form___str__ G_Form___str__ b_Form___str__ hG (hr.mono (by decide))) (by rfl) T.b_str (by decide +kernel) (pa_cons (pe_prop (pv 3) T.cl_Ring R_Ring_form G_Ring_form (hr.mono (by decide)) b_Ring_form .nil pass0 (by rfl)) pa_nil)) (pe_op op_add_str (pe_op op_add_str pe_str (pe_join pe_str (pe_lc (own := [("_law_number", 11)]) (g := (gName 11)) rfl sc_l_right.nd (pi_tup (pv 1)) (blkOk_by (N := N_l_right) (sc := defScope s_l_right) (by decide +kernel)) (fun _ _ _ _ _ => (pg_name (i := 11) sc_l_right.nd rfl (.inl rfl))) (fun _ _ _ _ _ => pts_nil) (fun _ _ _ _ _ => (pe_callTy call_str_int (by rfl) T.b_str (by decide +kernel) (pa_cons (pv 11) pa_nil)))))) pe_str) (nomark _)))))))))), ?_⟩
    refine ⟨fun σ H' => ∃ (t t2 : Addr) (A1 A2 A3 A4 B1 B2 B3 B4 : Int), σ = [some (.ref c), some (.ref t), some (.ref t2), none, none, none, none, none, none, none, none, none] ∧ Fv c H H' ∧ Ti H' t [A1, A2, A3, A4] ∧ Ti H' t2 [B1, B2, B3, B4] ∧ (∀ n ∈ [A1, A2, A3, A4], n.natAbs ≤ 6000000) ∧ (∀ n ∈ [B1, B2, B3, B4], n.natAbs ≤ 6000000), ?_, ?_⟩
    · refine ⟨_, rfl, c, rfl, hc, fun t A1 A2 A3 A4 H1 e1 ht hn => ?_⟩
      refine ⟨_, rfl, c, rfl, e1.1, fun t2 B1 B2 B3 B4 H2 e2 ht2 hn2 => ?_⟩
      exact ⟨_, _, rfl, t, t2, A1, A2, A3, A4, B1, B2, B3, B4, rfl, e1.trans e2, fv_tup e1.1 e2 ht, ht2, hn, hn2⟩
    rintro σ H1 ⟨t, t2, A1, A2, A3, A4, B1, B2, B3, B4, rfl, f1, ht, ht2, hn, hn2⟩
    have sn : ∀ n ∈ [A1, A2, A3, A4], Short n := fun n h => sh20 (Nat.le_trans (hn n h) (by decide))
    have sn2 : ∀ n ∈ [B1, B2, B3, B4], Short n := fun n h => sh20 (Nat.le_trans (hn2 n h) (by decide))
    have ln : ∀ n ∈ [A1, A2, A3, A4], n.natAbs ≤ 600000000000000000000 := fun n h => Nat.le_trans (hn n h) (by decide)
    refine ⟨fun σ H' => ∃ (R O A : Addr), σ = [some (.ref c), some (.ref t), some (.ref t2), some (.ref R), some (.ref O), some (.ref A), none, none, none, none, none, none] ∧ Ex0 H1 H' ∧ RingAt C_Form C_Ring H' R [A1, A2, A3, A4] ∧ RingAt C_Form C_Ring H' O [B1, B2, B3, B4] ∧ RingAt C_Form C_Ring H' A [A1, A2, A3, A4], ?_, ?_⟩
    · refine ⟨_, rfl, fun x dx nx ndx _ => ?_⟩
      refine ⟨x, dx, t, [A1, A2, A3, A4], rfl, upd_same, made_at nx ndx ht, rfl, sn, fun H2 e2 h2 => ⟨rfl, ?_⟩⟩
      obtain ⟨e3, hx⟩ := fo_made nx ndx ht e2 h2
      intro y dy ny ndy _
      refine ⟨y, dy, x, [A1, A2, A3, A4], rfl, upd_same, Ex0.fo (ex_two ny ndy) hx, fun H3 e4 h4 => ⟨rfl, ?_⟩⟩
      obtain ⟨e5, hy⟩ := ri_made ny ndy hx e4 h4
      have e35 := e3.trans e5
      have ht3 := Ex0.ti e35 ht2
      refine ⟨_, rfl, fun x2 dx2 nx2 ndx2 _ => ?_⟩
      refine ⟨x2, dx2, t2, [B1, B2, B3, B4], rfl, upd_same, made_at nx2 ndx2 ht3, rfl, sn2, fun H4 e6 h6 => ⟨rfl, ?_⟩⟩
      obtain ⟨e7, hx2⟩ := fo_made nx2 ndx2 ht3 e6 h6
      intro y2 dy2 ny2 ndy2 _
      refine ⟨y2, dy2, x2, [B1, B2, B3, B4], rfl, upd_same, Ex0.fo (ex_two ny2 ndy2) hx2, fun H5 e8 h8 => ⟨rfl, ?_⟩⟩
      obtain ⟨e9, hy2⟩ := ri_made ny2 ndy2 hx2 e8 h8
      have e79 := e7.trans e9
      have ht5 := Ex0.ti (e35.trans e79) ht
      refine ⟨_, rfl, fun x3 dx3 nx3 ndx3 _ => ?_⟩
      refine ⟨x3, dx3, t, [A1, A2, A3, A4], rfl, upd_same, made_at nx3 ndx3 ht5, rfl, sn, fun H6 e10 h10 => ⟨rfl, ?_⟩⟩
      obtain ⟨e11, hx3⟩ := fo_made nx3 ndx3 ht5 e10 h10
      intro y3 dy3 ny3 ndy3 _
      refine ⟨y3, dy3, x3, [A1, A2, A3, A4], rfl, upd_same, Ex0.fo (ex_two ny3 ndy3) hx3, fun H7 e12 h12 => ⟨rfl, ?_⟩⟩
      obtain ⟨e13, hy3⟩ := ri_made ny3 ndy3 hx3 e12 h12
      have e113 := e11.trans e13
      exact ⟨_, _, _, rfl, y, y2, y3, rfl, (e35.trans e79).trans e113, Ex0.ri (e79.trans e113) hy, Ex0.ri e113 hy2, hy3⟩
    rintro σ H2 ⟨R, O, A, rfl, e2, hR, hO, hA_⟩
    have ht3 := Ex0.ti e2 ht
    obtain ⟨dR, xR, hR1, hR2⟩ := id hR
    obtain ⟨dO, xO, hO1, hO2⟩ := id hO
    obtain ⟨dA, xA, hA1, hA2⟩ := id hA_
    have sz : sizeLine = 16777216 := sizeLine_eq
    have j4 := join4_B ln
    have k1 : ("(" : Str).length = 1 := rfl
    have k2 : (")" : Str).length = 1 := rfl
    have k9 : ("ring of (" : Str).length = 9 := rfl
    have k8 : ("ring of " : Str).length = 8 := rfl
    have tl4 : (tupS [A1, A2, A3, A4]).length + 8 ≤ sizeLine := by
      rw [shown4, strLen_append, strLen_append]
      omega
    refine ⟨fun σ H' => σ = [some (.ref c), some (.ref t), some (.ref t2), some (.ref R), some (.ref O), some (.ref A), none, none, none, none, none, none] ∧ Ex0 H2 H', ?_, ?_⟩
    · refine ⟨_, rfl, R, dR, _, rfl, hR1, R, [A1, A2, A3, A4], rfl, hR, fun n h => l19 (ln n h), tl4, _, rfl, ?_⟩
      refine ⟨⟨_, rfl⟩, ?_⟩
      refine ⟨_, rfl, t, rfl, ⟨_, SqT.of ht3⟩, ?_⟩
      refine lcT fm0 trivial (SqT.of ht3) (fun z => z) (fun i acc _ => acc = (([A1, A2, A3, A4].take i).map dg).map V.str) (fun _ _ => rfl) (fun D i z acc H' hD hz e hA hlen hp => ?_) (fun D H' acc hD e hA hp => ?_)
      · obtain ⟨n, hn2, rfl⟩ := get_int hz
        have hi := (List.getElem?_eq_some_iff.mp hn2).1
        refine ⟨rfl, ?_⟩
        refine ⟨_, rfl, n, rfl, l19 (ln n (List.mem_of_getElem? hn2)), ?_⟩
        have hi4 : i < 4 := hi
        refine cs_yes fm0 trivial hD e hA hlen (by omega) (Fx.refl trivial) ?_
        rw [hp, List.take_add_one, hn2, List.map_append, List.map_append]
        rfl
      subst hp
      refine ⟨_, D, [A1, A2, A3, A4].map dg, rfl, rfl, .inl (SqL.of hA), ?_, ?_⟩
      · have : ([A1, A2, A3, A4].map dg).length * (", " : Str).length = 8 := rfl
        rw [this]
        omega
      rw [show Txt.join (", " : Str) ([A1, A2, A3, A4].map dg) = Str.join ", " ([A1, A2, A3, A4].map dg) from StrLaws.glued_eq_join _ _]
      refine ⟨_, _, rfl, rfl, by rw [k9]; omega, _, _, rfl, rfl, by rw [strLen_append, k9, k2]; omega, ?_⟩
      have hR' := Ex0.ri e hR
      have hA' := Ex0.ri e hA_
      refine ⟨rfl, _, rfl, ndF (congrArg V.str (ring4 A1 A2 A3 A4)) ?_⟩
      refine ⟨_, rfl, _, rfl, R, dR, _, _, rfl, Ex0.ap e hR1, ty_ins T.ty_Ring T.cl_Ring (Ex0.ap e hA1), first_self, R, .ref A, _, rfl, hR', .inl ⟨A, _, rfl, hA', _, rfl, _, rfl, ?_⟩⟩
      rw [decide_eq_true rfl]
      exact iteF ⟨rfl, e⟩
    rintro σ H3 ⟨rfl, e3⟩
    refine ⟨fun σ H' => σ = [some (.ref c), some (.ref t), some (.ref t2), some (.ref R), some (.ref O), some (.ref A), none, none, none, none, none, none] ∧ Ex0 H3 H', ?_, ?_⟩
    · have hR' := Ex0.ri e3 hR
      have hO' := Ex0.ri e3 hO
      have ht4 := Ex0.ti e3 ht3
      refine ⟨_, rfl, _, rfl, R, dR, _, _, rfl, Ex0.ap e3 hR1, ty_ins T.ty_Ring T.cl_Ring (Ex0.ap e3 hO1), first_self, R, .ref O, _, rfl, hR', .inl ⟨O, _, rfl, hO', _, rfl, ?_⟩⟩
      refine ⟨_, rfl, _, rfl, .tuple ([A1, A2, A3, A4].map .int), .tuple ([B1, B2, B3, B4].map .int), .tup (SqT.of ht4) (dp_ints _), .tup (SqT.of (Ex0.ti (e2.trans e3) ht2)) (dp_ints _), shaped_tints _, shaped_tints _, ?_⟩
      rw [PyData.eqv, eqv_ints]
      refine ⟨rfl, _, rfl, ndF rfl ?_⟩
      refine ⟨_, rfl, _, rfl, fun x dx nx ndx _ => ?_⟩
      refine ⟨x, dx, t, [A1, A2, A3, A4], rfl, upd_same, made_at nx ndx ht4, rfl, sn, fun H4 e4 h4 => ⟨rfl, ?_⟩⟩
      obtain ⟨e5, hx⟩ := fo_made nx ndx ht4 e4 h4
      obtain ⟨dx', tx, hx1, hx2⟩ := id hx
      have hR4 := Ex0.ri e5 hR'
      have g4 := Ex0.ap (e3.trans e5) hR1
      refine ⟨R, dR, _, _, rfl, g4, ty_ins T.ty_Form T.cl_Form hx1, T.fo_Ring_Form.2, R, .ref x, _, rfl, hR4, .inr ⟨_, T.fo_Ring_Form.1, ty_ins T.ty_Form T.cl_Form hx1, _, rfl, _, rfl, iteF ?_⟩⟩
      refine ⟨_, rfl, _, rfl, R, dR, _, rfl, g4, R, _, rfl, hR4, fun n h => l19 (ln n h), tl4, _, rfl, ?_⟩
      refine ⟨R, dR, _, _, rfl, g4, .base (.str _), T.fo_Ring_str.2, R, .str _, _, rfl, hR4, .inr ⟨_, T.fo_Ring_str.1, .base (.str _), _, rfl, _, rfl, iteF ?_⟩⟩
      refine ⟨_, rfl, R, dR, _, _, rfl, g4, .base .non, T.fo_Ring_NoneType.2, R, .non, _, rfl, hR4, .inr ⟨_, T.fo_Ring_NoneType.1, .base .non, _, rfl, _, rfl, iteF ?_⟩⟩
      exact ⟨rfl, e5⟩
    rintro σ H4 ⟨rfl, e4⟩
    have e24 := e3.trans e4
    have f4 : Fv c H H4 := f1.trans (fv_ex f1.1 (e2.trans e24))
    have hR4 := Ex0.ri e24 hR
    have hO4 := Ex0.ri e24 hO
    have hA4 := Ex0.ri e24 hA_
    have ht4 := Ex0.ti e24 ht3
    have ht24 := Ex0.ti (e2.trans e24) ht2
    refine ⟨fun σ H' => ∃ (L : Addr) (xs : List V), σ = [some (.ref c), some (.ref t), some (.ref t2), some (.ref R), some (.ref O), some (.ref A), some (.ref L), none, none, none, none, none] ∧ Fv c H4 H' ∧ H' L = some (.lst xs) ∧ ∀ v ∈ xs, ∃ o r, v = .ref o ∧ Prd H' o r, ?_, ?_⟩
    · refine ⟨_, rfl, c, rfl, f4.1, fun o1 t1 u1 y1 z1 b1 H5 g1 p1 q1 k11 k12 k13 k14 k15 => ?_⟩
      refine ⟨_, rfl, c, rfl, g1.1, fun o2 t2' u2 y2 z2 b2 H6 g2 p2 q2 k21 k22 k23 k24 k25 => ?_⟩
      refine ⟨_, rfl, c, rfl, g2.1, fun o3 t3 u3 y3 z3 b3 H7 g3 p3 q3 k31 k32 k33 k34 k35 => ?_⟩
      refine ⟨sl3, fun a4 n4 => ⟨sl2, fun o4 m4 => ⟨_, rfl, sl3, fun a5 n5 => ⟨sl2, fun o5 m5 => ⟨_, rfl, sl3, fun a6 n6 => ⟨sl2, fun o6 m6 => ⟨sl6, fun L nL => ?_⟩⟩⟩⟩⟩⟩⟩
      have w1 := Ex0.new (o := .tup [.int 0, .int 0, .int 0]) n4
      have w2 := Ex0.new (o := .tup [.ref a4, .int 5]) m4
      have w3 := Ex0.new (o := .tup [.int 0, .int 0, .int (-1)]) n5
      have w4 := Ex0.new (o := .tup [.ref a5, .int 1]) m5
      have w5 := Ex0.new (o := .tup [.int 0, .int (-1), .int 1]) n6
      have w6 := Ex0.new (o := .tup [.ref a6, .int 1]) m6
      have w7 := Ex0.new (o := .lst [.ref o1, .ref o2, .ref o3, .ref o4, .ref o5, .ref o6]) nL
      have w67 := w6.trans w7
      have w57 := w5.trans w67
      have w47 := w4.trans w57
      have w37 := w3.trans w47
      have w27 := w2.trans w37
      have w17 := w1.trans w27
      have g13 := (g1.trans g2).trans g3
      refine ⟨L, _, rfl, g13.trans (fv_ex g13.1 w17), upd_same, ?_⟩
      intro v hv
      have small : ∀ {o a : Addr} {H' Hb : Hp} {u y z b : Int}, Ex0 Hb H' → Hb o = some (.tup [.ref a, .int b]) → Ti Hb a [u, y, z] → u.natAbs ≤ 6000000 → y.natAbs ≤ 6000000 → z.natAbs ≤ 6000000 → b ≠ 0 → b.natAbs ≤ 600000000000000000000 → Prd H' o (u, y, z, b) := fun e h1 h2 b1 b2 b3 b4 b5 => ⟨⟨_, Ex0.ap e h1, Ex0.ti e h2⟩, b1, b2, b3, b4, b5⟩
      simp only [List.mem_cons, List.mem_nil_iff, or_false] at hv
      rcases hv with rfl | rfl | rfl | rfl | rfl | rfl
      · exact ⟨o1, _, rfl, small w17 (fv_tup g1.1 (g2.trans g3) p1) (fv_tup g1.1 (g2.trans g3) q1) k11 k12 k13 k14 k15⟩
      · exact ⟨o2, _, rfl, small w17 (fv_tup g2.1 g3 p2) (fv_tup g2.1 g3 q2) k21 k22 k23 k24 k25⟩
      · exact ⟨o3, _, rfl, small w17 p3 q3 k31 k32 k33 k34 k35⟩
      · exact ⟨o4, (0, 0, 0, 5), rfl, small w37 upd_same (Ex0.ap w2 upd_same) (by decide) (by decide) (by decide) (by decide) (by decide)⟩
      · exact ⟨o5, (0, 0, -1, 1), rfl, small w57 upd_same (Ex0.ap w4 upd_same) (by decide) (by decide) (by decide) (by decide) (by decide)⟩
      · exact ⟨o6, (0, -1, 1, 1), rfl, small w7 upd_same (Ex0.ap w6 upd_same) (by decide) (by decide) (by decide) (by decide) (by decide)⟩
    rintro σ H5 ⟨L, xs, rfl, f5, hL, hall⟩
    have hR5 := ri_fv f4.1 f5 hR4
    have hO5 := ri_fv f4.1 f5 hO4
    have hA5 := ri_fv f4.1 f5 hA4
    have ht5 := fv_tup f4.1 f5 ht4
    have ht25 := fv_tup f4.1 f5 ht24
    obtain ⟨dR5, xR5, hR51, _⟩ := id hR5
    obtain ⟨dO5, xO5, hO51, _⟩ := id hO5
    obtain ⟨dA5, xA5, hA51, _⟩ := id hA5
    refine ⟨_, rfl, L, rfl, ⟨_, SqL.of hL⟩, ?_⟩
    refine for_list (fun i σ H' => ∃ y7 y8 y9 y10, σ = [some (.ref c), some (.ref t), some (.ref t2), some (.ref R), some (.ref O), some (.ref A), some (.ref L), y7, y8, y9, y10, none] ∧ Ex0 H5 H') ⟨none, none, none, none, rfl, Ex0.refl _⟩ (fun i σ H' _ ⟨_, _, _, _, _, e⟩ => SqL.of (Ex0.ap e hL)) ?_ ?_
    · rintro i x σ H' hx ⟨y7, y8, y9, y10, rfl, e⟩
      obtain ⟨o, r, rfl, ⟨⟨tt, g1, g2⟩, b1, b2, b3, nb, bb⟩⟩ := hall x (List.mem_of_getElem? hx)
      obtain ⟨u, y, z, b⟩ := r
      refine ⟨o, _, rfl, SqT.of (Ex0.ap e g1), rfl, _, _, rfl, _, _, rfl, rfl, ?_⟩
      have s6 : ∀ {n : Int}, n.natAbs ≤ 6000000 → Short n := fun h => sh20 (Nat.le_trans h (by decide))
      have gt := Ex0.ti e g2
      refine ⟨fun σ H' => ∃ (X D : Addr) (u' y' z' b' : Int), σ = [some (.ref c), some (.ref t), some (.ref t2), some (.ref R), some (.ref O), some (.ref A), some (.ref L), some (.ref tt), some (.int b), some (.ref X), some (.ref D), none] ∧ Ex0 H5 H' ∧ ElAt C_Form C_Ring C_Element H' X [A1, A2, A3, A4] u' y' z' b' ∧ PrT H' D u' y' z' b' ∧ Low u y z b u' y' z' b', ?_, ?_⟩
      · refine ⟨_, rfl, R, dR5, _, rfl, Ex0.ap e hR51, rfl, _, rfl, _, rfl, R, tt, _, u, y, z, b, rfl, Ex0.ri e hR5, gt, s6 b1, s6 b2, s6 b3, sh20 bb, nb, fun X H6 u' y' z' b' l1 e6 hX => ?_⟩
        refine ⟨_, rfl, _, rfl, tt, true, u, y, z, b, rfl, SqT.of (Ex0.ti e6 gt), nb, ⟨Nat.lt_of_le_of_lt bb (by decide), by decide⟩, fun D H7 v s' r f l2 e7 hD => ?_⟩
        obtain ⟨rfl, rfl, rfl, rfl⟩ := l1.uniq l2 nb nb rfl rfl rfl
        exact ⟨_, _, rfl, X, D, _, _, _, _, rfl, (e.trans e6).trans e7, Ex0.el e7 hX, hD, l1⟩
      clear e gt
      rintro σ H6 ⟨X, D, u', y', z', b', rfl, e6, hX, ⟨tD, hD1, hD2⟩, l1⟩
      have le := l1.le nb
      have bp := l1.pos
      have m1 : u'.natAbs ≤ 600000000000000000000 := Nat.le_trans le.1 (Nat.le_trans b1 (by decide))
      have m2 : y'.natAbs ≤ 600000000000000000000 := Nat.le_trans le.2.1 (Nat.le_trans b2 (by decide))
      have m3 : z'.natAbs ≤ 600000000000000000000 := Nat.le_trans le.2.2.1 (Nat.le_trans b3 (by decide))
      have m4 : b'.natAbs ≤ 600000000000000000000 := Nat.le_trans le.2.2.2 bb
      have BB : ∀ {n : Int} {k : Nat}, n.natAbs ≤ 600000000000000000000 → 70 ≤ k → B k n := fun h hk => ⟨Nat.lt_of_le_of_lt h (Nat.lt_of_lt_of_le (by decide : 600000000000000000000 < 2 ^ 70) (Nat.pow_le_pow_right (by decide) hk)), by omega⟩
      obtain ⟨dX, rX, tX, hX0, _, _⟩ := id hX
      refine ⟨fun σ H' => σ = [some (.ref c), some (.ref t), some (.ref t2), some (.ref R), some (.ref O), some (.ref A), some (.ref L), some (.ref tt), some (.int b), some (.ref X), some (.ref D), none] ∧ Ex0 H6 H', ?_, ?_⟩
      · refine ⟨_, rfl, X, dX, _, rfl, hX0, X, _, u', y', z', b', rfl, hX, l19 m1, l19 m2, l19 m3, l19 m4, fun H7 e7 => ⟨_, rfl, ?_⟩⟩
        refine ⟨_, rfl, D, _, 0, .ref tD, rfl, rfl, SqT.of (Ex0.ap e7 hD1), rfl, _, rfl, D, _, 1, .int b', rfl, rfl, SqT.of (Ex0.ap e7 hD1), rfl, tD, u', y', z', b', rfl, Ex0.ti e7 hD2, l19 m1, l19 m2, l19 m3, l19 m4, fun H8 e8 => ?_⟩
        have e78 := e7.trans e8
        refine ⟨rfl, _, rfl, ndF rfl ?_⟩
        refine ⟨_, rfl, _, rfl, A, dA5, _, rfl, Ex0.ap (e6.trans e78) hA51, rfl, _, rfl, D, _, 0, .ref tD, rfl, rfl, SqT.of (Ex0.ap e78 hD1), rfl, _, rfl, D, _, 1, .int b', rfl, rfl, SqT.of (Ex0.ap e78 hD1), rfl, ?_⟩
        refine ⟨A, tD, _, u', y', z', b', rfl, Ex0.ri (e6.trans e78) hA5, Ex0.ti e78 hD2, sh20 m1, sh20 m2, sh20 m3, sh20 m4, by omega, fun Y H9 v s' r f l3 e9 hY => ?_⟩
        obtain ⟨rfl, rfl, rfl, rfl⟩ := l1.low.uniq l3 (by omega) (by omega) rfl rfl rfl
        obtain ⟨dY, rY, tY, hY0, _, _⟩ := id hY
        have e79 := e78.trans e9
        refine ⟨X, dX, _, _, rfl, Ex0.ap e79 hX0, ty_ins T.ty_Element T.cl_Element hY0, first_self, X, .ref Y, _, _, _, _, _, rfl, Ex0.el e79 hX, .inl ⟨Y, _, _, _, _, _, rfl, hY, _, rfl, _, rfl, ?_⟩⟩
        rw [decide_eq_true ⟨rfl, rfl, rfl, rfl, rfl⟩]
        exact iteF ⟨rfl, e79⟩
      rintro σ H7 ⟨rfl, e7⟩
      refine ⟨fun σ H' => σ = [some (.ref c), some (.ref t), some (.ref t2), some (.ref R), some (.ref O), some (.ref A), some (.ref L), some (.ref tt), some (.int b), some (.ref X), some (.ref D), none] ∧ Ex0 H7 H', ?_, ?_⟩
      · have e67 := e6.trans e7
        refine ⟨_, rfl, _, rfl, O, dO5, _, rfl, Ex0.ap e67 hO51, rfl, _, rfl, _, rfl, O, tt, _, u, y, z, b, rfl, Ex0.ri e67 hO5, Ex0.ti e67 g2, s6 b1, s6 b2, s6 b3, sh20 bb, nb, fun Y H8 v s' r f l3 e8 hY => ?_⟩
        obtain ⟨rfl, rfl, rfl, rfl⟩ := l1.uniq l3 nb nb rfl rfl rfl
        obtain ⟨dY, rY, tY, hY0, _, _⟩ := id hY
        have e78 := e7.trans e8
        have e58 := e6.trans e78
        refine ⟨X, dX, _, _, rfl, Ex0.ap e78 hX0, ty_ins T.ty_Element T.cl_Element hY0, first_self, X, .ref Y, _, _, _, _, _, rfl, Ex0.el e78 hX, .inl ⟨Y, _, _, _, _, _, rfl, hY, _, rfl, ?_⟩⟩
        refine ⟨_, rfl, _, rfl, .tuple ([A1, A2, A3, A4].map .int), .tuple ([B1, B2, B3, B4].map .int), .tup (SqT.of (Ex0.ti e58 ht5)) (dp_ints _), .tup (SqT.of (Ex0.ti e58 ht25)) (dp_ints _), shaped_tints _, shaped_tints _, ?_⟩
        rw [PyData.eqv, eqv_ints]
        refine ⟨rfl, _, rfl, ndF ?_ ⟨rfl, e8⟩⟩
        refine congrArg V.bl (decide_eq_decide.mpr ?_)
        simp
      rintro σ H8 ⟨rfl, e8⟩
      refine ⟨fun σ H' => σ = [some (.ref c), some (.ref t), some (.ref t2), some (.ref R), some (.ref O), some (.ref A), some (.ref L), some (.ref tt), some (.int b), some (.ref X), some (.ref D), none] ∧ Ex0 H8 H', ?_, ?_⟩
      · have e68 := e7.trans e8
        refine ⟨_, rfl, _, rfl, X, dX, _, rfl, Ex0.ap e68 hX0, X, _, u', y', z', b', rfl, Ex0.el e68 hX, l19 m1, l19 m2, l19 m3, l19 m4, fun H9 e9 => ⟨_, rfl, ?_⟩⟩
        have e69 := e68.trans e9
        refine ⟨X, dX, _, _, rfl, Ex0.ap e69 hX0, .base (.str _), T.fo_Element_str.2, X, .str _, _, _, _, _, _, rfl, Ex0.el e69 hX, .inr ⟨_, T.fo_Element_str.1, .base (.str _), _, rfl, _, rfl, iteF ?_⟩⟩
        refine ⟨_, rfl, _, rfl, D, _, 0, .ref tD, rfl, rfl, SqT.of (Ex0.ap e69 hD1), rfl, X, dX, _, _, rfl, Ex0.ap e69 hX0, .base (.tup (Ex0.ti e69 hD2)), T.fo_Element_tuple.2, X, .ref tD, _, _, _, _, _, rfl, Ex0.el e69 hX, .inr ⟨_, T.fo_Element_tuple.1, .base (.tup (Ex0.ti e69 hD2)), _, rfl, _, rfl, iteF ?_⟩⟩
        exact ⟨rfl, e9⟩
      rintro σ H9 ⟨rfl, e9⟩
      have e69 := (e7.trans e8).trans e9
      have e59 := e6.trans e69
      refine ⟨_, rfl, _, rfl, _, rfl, R, dR5, _, rfl, Ex0.ap e59 hR51, rfl, R, _, rfl, Ex0.ri e59 hR5, fun Y Ha ea hY => ?_⟩
      have e6a := e69.trans ea
      obtain ⟨dY, rY, tY, hY0, _, _⟩ := id hY
      have b0 : B 1000 0 := ⟨by decide, by decide⟩
      have b1' : B 1000 1 := ⟨by decide, by decide⟩
      refine ⟨X, Y, dX, dY, _, _, rfl, rfl, Ex0.ap e6a hX0, hY0, X, Y, _, u', y', z', b', 1, 0, 0, 1, rfl, Ex0.el e6a hX, hY, ⟨BB m1 (by decide), BB m2 (by decide), BB m3 (by decide)⟩, ⟨b1'.mono (by decide), b0.mono (by decide), b0.mono (by decide)⟩, BB m4 (by decide), b1', by omega, fun S Hb i0 i1 i2 ib lm eb hS => ⟨⟨_, rfl⟩, ?_⟩⟩
      obtain ⟨dS, rS, tS, hS0, _, _⟩ := id hS
      have e6b := e6a.trans eb
      refine ⟨X, dX, _, _, rfl, Ex0.ap e6b hX0, ty_ins T.ty_Element T.cl_Element hS0, first_self, X, .ref S, _, _, _, _, _, rfl, Ex0.el e6b hX, .inl ⟨S, _, _, _, _, _, rfl, hS, _, rfl, _, rfl, ?_⟩⟩
      rw [decide_eq_false (fun h => lm.plus bp h.2)]
      refine iteF ?_
      refine ⟨_, rfl, _, rfl, X, dX, _, rfl, Ex0.ap e6b hX0, X, _, u', y', z', b', rfl, Ex0.el e6b hX, by omega, BB m4 (by decide), fun N Hc j0 j1 j2 jb ln2 ec hN => ?_⟩
      obtain ⟨rfl, rfl, rfl, rfl⟩ := l1.low.neg.uniq ln2 (by omega) (by omega) rfl rfl rfl
      obtain ⟨dN, rN, tN, hN0, _, _⟩ := id hN
      have e6c := e6b.trans ec
      refine ⟨X, dX, _, _, rfl, Ex0.ap e6c hX0, ty_ins T.ty_Element T.cl_Element hN0, first_self, X, .ref N, _, _, _, _, _, rfl, Ex0.el e6c hX, .inl ⟨N, _, _, _, _, _, rfl, hN, _, rfl, ?_⟩⟩
      refine ⟨_, rfl, D, _, 0, .ref tD, rfl, rfl, SqT.of (Ex0.ap e6c hD1), rfl, sl3, fun zz nz => ?_⟩
      have ez := Ex0.new (o := .tup [.int 0, .int 0, .int 0]) nz
      refine ⟨.tuple ([u', y', z'].map .int), .tuple ([0, 0, 0].map .int), .tup (SqT.of (Ex0.ti (e6c.trans ez) hD2)) (dp_ints _), .tup (SqT.of upd_same) (dp_ints [0, 0, 0]), shaped_tints _, shaped_tints _, ?_⟩
      rw [PyData.eqv, eqv_ints]
      refine ⟨rfl, _, rfl, ndF ?_ ?_⟩
      · refine congrArg V.bl (decide_eq_decide.mpr ?_)
        simp
        omega
      · exact ⟨_, _, _, _, rfl, (e6.trans e6c).trans ez⟩
    rintro σ H6 ⟨y7, y8, y9, y10, rfl, e6⟩
    have hR6 := Ex0.ri e6 hR5
    have ht6 := Ex0.ti e6 ht5
    have fin : Fv c H H6 := (f4.trans f5).trans (fv_ex (f4.trans f5).1 e6)
    refine ⟨_, rfl, R, dR5, _, rfl, Ex0.ap e6 hR51, R, _, rfl, hR6, fun f hf => ?_⟩
    obtain ⟨df, tf, hf1, hf2⟩ := id hf
    refine ⟨f, df, _, rfl, hf1, f, _, rfl, hf, fun n h => l19 (ln n h), by omega, _, rfl, ?_⟩
    refine ⟨⟨_, rfl⟩, ?_⟩
    refine ⟨_, rfl, t, rfl, ⟨_, SqT.of ht6⟩, ?_⟩
    refine lcT fm0 trivial (SqT.of ht6) (fun z => z) (fun i acc _ => acc = (([A1, A2, A3, A4].take i).map dg).map V.str) (fun _ _ => rfl) (fun D i z acc H' hD hz e hA hlen hp => ?_) (fun D H' acc hD e hA hp => ?_)
    · obtain ⟨n, hn2, rfl⟩ := get_int hz
      have hi := (List.getElem?_eq_some_iff.mp hn2).1
      refine ⟨rfl, ?_⟩
      refine ⟨_, rfl, n, rfl, l19 (ln n (List.mem_of_getElem? hn2)), ?_⟩
      have hi4 : i < 4 := hi
      refine cs_yes fm0 trivial hD e hA hlen (by omega) (Fx.refl trivial) ?_
      rw [hp, List.take_add_one, hn2, List.map_append, List.map_append]
      rfl
    subst hp
    refine ⟨_, D, [A1, A2, A3, A4].map dg, rfl, rfl, .inl (SqL.of hA), ?_, ?_⟩
    · have : ([A1, A2, A3, A4].map dg).length * (", " : Str).length = 8 := rfl
      rw [this]
      omega
    rw [show Txt.join (", " : Str) ([A1, A2, A3, A4].map dg) = Str.join ", " ([A1, A2, A3, A4].map dg) from StrLaws.glued_eq_join _ _]
    refine ⟨_, _, rfl, rfl, by rw [k1]; omega, _, _, rfl, rfl, by rw [strLen_append, k1, k2]; omega, ?_⟩
    refine ⟨rfl, ?_⟩
    rw [decide_eq_true (congrArg V.str (shown4 A1 A2 A3 A4))]
    exact q _ (fin.trans (fv_ex fin.1 e))
end
end RG
set_option Elab.async false
set_option linter.all false
set_option maxRecDepth 100000
namespace Hd
open PySem PySem.Spec PyProof.Rows L2 Fr
open He (ga ma eqO eqO_ok ba)
def pa (K : PySem.W.Frag) (C : Addr) (m : Str) : Addr := match PySem.W.recIn K (ma K C m) "property" with
  | some (.ref g :: _) => g
  | _ => 0
def itA (K : PySem.W.Frag) (a : Addr) (i : Nat) : Addr := match K.lookup a with
  | some ⟨_, _, .seq its _, _⟩ => (match its[i]? with
    | some (.ref b) => b
    | _ => 0)
  | _ => 0
structure Dd where
  at_ : PySem.W.Frag → Addr
  name : Str
  qual : Str
  st : Stmt
  dfl : List V := []
def fnA (K : PySem.W.Frag) (a : Addr) : He.FnW := match K.lookup a with
  | some ⟨_, _, .func fd, _⟩ => some (fd.name, fd.qualname, fd.params, fd.body, fd.scope, fd.globals, fd.closure, fd.builtins)
  | _ => none
def Dd.val (d : Dd) : He.FnW := some (d.name, d.qual, defArgs d.st, .stmts (defBody d.st), defScope d.st, mainGlobals, [], builtinsNs)
def Dd.ok (K : PySem.W.Frag) (d : Dd) : Bool := PySem.W.keepIn K (.ref (d.at_ K)) && (match K.lookup (d.at_ K) with
  | some ⟨_, _, .func fd, _⟩ => PySem.W.codeIn K fd.code d.qual && He.dflB K fd.defaults d.dfl
  | _ => false)
theorem Dd.funD {K : PySem.W.Frag} {d : Dd} (e : fnA K (d.at_ K) = d.val) (c : d.ok K = true) : ∃ fd, FunD K d.name d.qual (defArgs d.st) (defBody d.st) (defScope d.st) d.dfl [] (d.at_ K) fd := by
  obtain ⟨kp, c2⟩ := ba c
  unfold fnA at e
  cases hk : K.lookup (d.at_ K) with
  | none => rw [hk] at c2; cases c2
  | some o =>
    obtain ⟨oc, od, dt, osl⟩ := o
    rw [hk] at c2 e
    cases dt with
    | func fd =>
      obtain ⟨n1, n2, n3, n4, n5, n6, n7, n8, n9, n10, n11, n12, n13, n14, n15⟩ := fd
      have e0 : (some (n1, n2, n3, n4, n5, n6, n7, n15) : He.FnW) = some (d.name, d.qual, defArgs d.st, .stmts (defBody d.st), defScope d.st, mainGlobals, [], builtinsNs) := e
      simp only [Option.some.injEq, Prod.mk.injEq] at e0
      obtain ⟨h1, h2, h3, h4, h5, h6, h7, h8⟩ := e0
      subst h1 h2 h3 h4 h5 h6 h7 h8
      obtain ⟨k1, k2⟩ := ba (show (PySem.W.codeIn K n13 d.qual && He.dflB K n8 d.dfl) = true from c2)
      exact ⟨_, ⟨oc, od, n8, n9, n10, n11, n12, n13, n14, osl, rfl, hk, k1, He.dflB_ok k2, .inl rfl⟩, kp⟩
    | _ => cases c2
theorem fun_of {K : PySem.W.Frag} {x q : Str} {st : Stmt} {f : Addr} {fd : FuncData} (F : FunD K x q (defArgs st) (defBody st) (defScope st) [] [] f fd) : Fun K x q st f fd := by
  obtain ⟨⟨oc, od, dV, kV, doc, pm, an, cdv, ct, osl, e1, e2, e3, e4, e5⟩, kp⟩ := F
  rcases e4 with ⟨_, rfl⟩ | ⟨h, _⟩
  · exact ⟨⟨oc, od, kV, doc, pm, an, cdv, ct, osl, e1, e2, e3⟩, kp⟩
  · exact absurd rfl h
def refsP (o : Obj) : List Addr := match o.data with
  | .seq its _ => its.toList.flatMap He.refV
  | .dict es _ => es.toList.flatMap fun e => He.refV e.val
  | .func fd => He.refV fd.code ++ He.refV fd.defaults
  | .cls cd => [cd.ns]
  | .fields vs => (match o.cls with
    | .type c => (match c == "property" with
      | true => vs.toList.flatMap He.refV
      | false => [])
    | _ => [])
  | _ => []
def nxt (g : Addr → Option Obj) (as : List Addr) : List Addr := as.flatMap fun a => match g a with
  | some o => refsP o
  | none => []
def asM (g : Addr → Option Obj) : Nat → List Addr → List Addr
  | 0, as => as
  | n + 1, as => as ++ asM g n (nxt g as)
abbrev Fb : Type := PySem.W.Frag → Bool
abbrev AlM : Type := Bool × List He.FnW
def obsM (fa : List Fb) (fn : List Dd) (K : PySem.W.Frag) : AlM := ((fa.all fun f => f K) && fn.all fun d => d.ok K, fn.map fun d => fnA K (d.at_ K))
def valM (fn : List Dd) : AlM := (true, fn.map Dd.val)
def SaysM (fa : List Fb) (fn : List Dd) (K : PySem.W.Frag) : Prop := obsM fa fn K = valM fn
def obsMG (n : Nat) (fa : List Fb) (fn : List Dd) (g : Addr → Option Obj) : AlM := obsM fa fn (He.frG g (asM g n [mainGlobals]))
def hookM (n : Nat) (fa : List Fb) (fn : List Dd) : PySem.W.Hook where
  α := AlM
  obs := fun s => obsMG n fa fn s.heap.get?
  val := fun _ => valM fn
  says := fun _ h => ∃ K : PySem.W.Frag, K.In h ∧ SaysM fa fn K
  of := fun _ _ e => ⟨_, He.frG_in, e⟩
  keeps := fun _ _ _ ⟨K, hK, c⟩ k => ⟨K, PySem.W.Frag.In.keeps hK k, c⟩
theorem obsMG_eq {n : Nat} {fa : List Fb} {fn : List Dd} {g : Addr → Option Obj} {s : Shared} (h : ∀ a, g a = s.heap.get? a) : obsMG n fa fn g = (hookM n fa fn).obs s := by
  have e : g = s.heap.get? := funext h
  rw [e] <;> rfl
section
variable {fa : List Fb} {fn : List Dd} {K : PySem.W.Frag}
theorem SaysM.fact (c : SaysM fa fn K) (i : Nat) {f : Fb} (h : fa[i]? = some f := by rfl) : f K = true := by
  have c1 : ((fa.all fun f => f K) && fn.all fun d => d.ok K) = true := congrArg (fun z : AlM => z.1) c
  exact List.all_eq_true.mp (ba c1).1 f (List.mem_of_getElem? h)
theorem SaysM.def_ (c : SaysM fa fn K) (i : Nat) {d : Dd} (h : fn[i]? = some d := by rfl) : ∃ fd, FunD K d.name d.qual (defArgs d.st) (defBody d.st) (defScope d.st) d.dfl [] (d.at_ K) fd := by
  have c1 : ((fa.all fun f => f K) && fn.all fun d => d.ok K) = true := congrArg (fun z : AlM => z.1) c
  have c2 : fn.map (fun d => fnA K (d.at_ K)) = fn.map Dd.val := congrArg (fun z : AlM => z.2) c
  have c3 : (fn.map fun d => fnA K (d.at_ K))[i]? = (fn.map Dd.val)[i]? := by rw [c2]
  rw [List.getElem?_map, List.getElem?_map, h] at c3
  exact Dd.funD (Option.some.inj c3) (List.all_eq_true.mp (ba c1).2 d (List.mem_of_getElem? h))
end
def decO (a b : Option Bool) : Bool := decide (a = b)
theorem decO_ok {a b : Option Bool} (h : decO a b = true) : a = b := of_decide_eq_true h
def bltB (x : Str) (id : String) : Fb := fun K => eqO (PySem.W.nsIn K mainGlobals x) (some (some (.builtin id)))
theorem blt_ok {K : PySem.W.Frag} {h : Heap} {mg : Str → Option Value} (X : K.In h) (G : h.Ns mainGlobals mg) {x : Str} {id : String} (c : bltB x id K = true) : mg x = some (.builtin id) := PySem.W.mg_of X G (eqO_ok c)
def tyB (C : Str) : Fb := fun K => eqO (PySem.W.findIn K (.ref (ga K C)) "__class__") (some (some (.builtin "object.__class__"))) && (eqO (PySem.W.specialIn K (.builtin "object.__class__") "__get__") (some (some (.builtin "getset_descriptor.__get__"))) && (decO (PySem.W.takesIn K (.builtin "object.__class__")) (some true) && decO (PySem.W.mroIn K (ga K C) (.type "object")) (some true)))
theorem ty_ok {K : PySem.W.Frag} {C : Str} (c : tyB C K = true) : TyI K (ga K C) := by
  obtain ⟨c1, c⟩ := ba c
  obtain ⟨c2, c⟩ := ba c
  obtain ⟨c3, c4⟩ := ba c
  exact ⟨eqO_ok c1, eqO_ok c2, decO_ok c3, decO_ok c4⟩
def propB (C m : Str) : Fb := fun K => eqO (PySem.W.findIn K (.ref (ga K C)) m) (some (some (.ref (ma K (ga K C) m)))) && (eqO (PySem.W.specialIn K (.ref (ma K (ga K C) m)) "__get__") (some (some (.builtin "property.__get__"))) && (decO (PySem.W.takesIn K (.ref (ma K (ga K C) m))) (some true) && (match PySem.W.recIn K (ma K (ga K C) m) "property" with
  | some (.ref _ :: _) => true
  | _ => false)))
theorem prop_ok {K : PySem.W.Frag} {C m : Str} (c : propB C m K = true) : PropOf K (ga K C) m (ma K (ga K C) m) (pa K (ga K C) m) := by
  obtain ⟨c1, c⟩ := ba c
  obtain ⟨c2, c⟩ := ba c
  obtain ⟨c3, c4⟩ := ba c
  refine ⟨eqO_ok c1, eqO_ok c2, decO_ok c3, ?_⟩
  unfold pa
  cases hr : PySem.W.recIn K (ma K (ga K C) m) "property" with
  | none => rw [hr] at c4; cases c4
  | some l =>
    rw [hr] at c4
    cases l with
    | nil => cases c4
    | cons v rest =>
      cases v with
      | ref g => exact ⟨rest, rfl⟩
      | _ => cases c4
def eqB (C : Str) : Fb := fun K => eqO (PySem.W.findIn K (.ref (ga K C)) "__eq__") (some (some (.ref (ma K (ga K C) "__eq__")))) && (PySem.W.isFn K (.ref (ma K (ga K C) "__eq__")) && (eqO (PySem.W.findIn K (.ref (ga K C)) "__ne__") (some (some (.builtin "object.__ne__"))) && decO (PySem.W.mroIn K (ga K C) (.type "object")) (some true)))
theorem eq_ok {K : PySem.W.Frag} {C : Str} (c : eqB C K = true) : EqC K (ga K C) (ma K (ga K C) "__eq__") := by
  obtain ⟨c1, c⟩ := ba c
  obtain ⟨c2, c⟩ := ba c
  obtain ⟨c3, c4⟩ := ba c
  exact ⟨eqO_ok c1, c2, eqO_ok c3, decO_ok c4⟩
def callB (C : Str) : Fb := fun K => eqO (PySem.W.findIn K (.ref (ga K C)) "__call__") (some (some (.ref (ma K (ga K C) "__call__")))) && (PySem.W.isFn K (.ref (ma K (ga K C) "__call__")) && PySem.W.fnIn K (ma K (ga K C) "__call__"))
theorem call_ok {K : PySem.W.Frag} {C : Str} (c : callB C K = true) : StX.CallO K (ga K C) (ma K (ga K C) "__call__") := by
  obtain ⟨c1, c⟩ := ba c
  obtain ⟨c2, c3⟩ := ba c
  exact ⟨eqO_ok c1, c2, c3⟩
def binB (C m : Str) : Fb := fun K => eqO (PySem.W.findIn K (.ref (ga K C)) m) (some (some (.ref (ma K (ga K C) m)))) && (PySem.W.isFn K (.ref (ma K (ga K C) m)) && PySem.W.selfFirst K (ga K C))
theorem bin_ok {K : PySem.W.Frag} {C m : Str} (c : binB C m K = true) : PySem.W.findIn K (.ref (ga K C)) m = some (some (.ref (ma K (ga K C) m))) ∧ PySem.W.isFn K (.ref (ma K (ga K C) m)) = true ∧ PySem.W.selfFirst K (ga K C) = true := by
  obtain ⟨c1, c⟩ := ba c
  obtain ⟨c2, c3⟩ := ba c
  exact ⟨eqO_ok c1, c2, c3⟩
def intsB (a : PySem.W.Frag → Addr) (ns : List Int) : Fb := fun K => match K.lookup (a K) with
  | some ⟨.type c, _, .seq its _, _⟩ => decide (c = "tuple") && (decide (its.size ≤ sizeLine) && He.relAll (ns.map V.int) its.toList)
  | _ => false
theorem ints_ok {K : PySem.W.Frag} {a : PySem.W.Frag → Addr} {ns : List Int} (c : intsB a ns K = true) (H : Hp) : SqT K H (a K) (ns.map V.int) := by
  unfold intsB at c
  cases hk : K.lookup (a K) with
  | none => rw [hk] at c; cases c
  | some o =>
    obtain ⟨oc, od, dt, sl⟩ := o
    rw [hk] at c
    cases oc with
    | type t =>
      cases dt with
      | seq its m =>
        obtain ⟨c1, c⟩ := ba c
        obtain ⟨c2, c3⟩ := ba c
        exact .inr ⟨_, its, m, hk, congrArg Value.type (of_decide_eq_true c1), rfl, of_decide_eq_true c2, He.relAll_ok c3⟩
      | _ => cases c
    | _ => cases dt <;> cases c
def refsB (a : PySem.W.Frag → Addr) (n : Nat) : Fb := fun K => match K.lookup (a K) with
  | some ⟨.type c, _, .seq its _, _⟩ => decide (c = "tuple") && (decide (its.size ≤ sizeLine) && He.relAll ((List.range n).map fun i => V.ref (itA K (a K) i)) its.toList)
  | _ => false
theorem refs_ok {K : PySem.W.Frag} {a : PySem.W.Frag → Addr} {n : Nat} (c : refsB a n K = true) (H : Hp) : SqT K H (a K) ((List.range n).map fun i => V.ref (itA K (a K) i)) := by
  unfold refsB at c
  generalize hl : (List.range n).map (fun i => V.ref (itA K (a K) i)) = l at c ⊢
  cases hk : K.lookup (a K) with
  | none => rw [hk] at c; cases c
  | some o =>
    obtain ⟨oc, od, dt, sl⟩ := o
    rw [hk] at c
    cases oc with
    | type t =>
      cases dt with
      | seq its m =>
        obtain ⟨c1, c⟩ := ba c
        obtain ⟨c2, c3⟩ := ba c
        exact .inr ⟨_, its, m, hk, congrArg Value.type (of_decide_eq_true c1), rfl, of_decide_eq_true c2, He.relAll_ok c3⟩
      | _ => cases c
    | _ => cases dt <;> cases c
def foreB (C : Str) (t : String) : Fb := fun K => decO (PySem.W.kitOne K (.type t) (.ref (ga K C))) (some false) && PySem.W.notFirst K (ga K C) (.type t)
theorem fore_ok {K : PySem.W.Frag} {C : Str} {t : String} (c : foreB C t K = true) : PySem.W.kitOne K (.type t) (.ref (ga K C)) = some false ∧ PySem.W.notFirst K (ga K C) (.type t) = true := by
  obtain ⟨c1, c2⟩ := ba c
  exact ⟨decO_ok c1, c2⟩
def foreCB (C D : Str) : Fb := fun K => decO (PySem.W.kitOne K (.ref (ga K D)) (.ref (ga K C))) (some false) && PySem.W.notFirst K (ga K C) (.ref (ga K D))
theorem foreC_ok {K : PySem.W.Frag} {C D : Str} (c : foreCB C D K = true) : PySem.W.kitOne K (.ref (ga K D)) (.ref (ga K C)) = some false ∧ PySem.W.notFirst K (ga K C) (.ref (ga K D)) = true := by
  obtain ⟨c1, c2⟩ := ba c
  exact ⟨decO_ok c1, c2⟩
def fmtB (C : Str) : Fb := fun K => eqO (PySem.W.findIn K (.ref (ga K C)) "__format__") (some (some (.builtin "object.__format__"))) && decO (PySem.W.mroIn K (ga K C) (.type "object")) (some true)
theorem fmt_ok {K : PySem.W.Frag} {C : Str} (c : fmtB C K = true) : PySem.W.findIn K (.ref (ga K C)) "__format__" = some (some (.builtin "object.__format__")) ∧ PySem.W.mroIn K (ga K C) (.type "object") = some true := by
  obtain ⟨c1, c2⟩ := ba c
  exact ⟨eqO_ok c1, decO_ok c2⟩
def xcB (x : Str) (bm : List Value) (newId : String) : Fb := fun K => He.Fa.ok K (.glo x) && (PySem.W.excIn K (ga K x) bm newId && (PySem.W.keepIn K (.ref (ga K x)) && (decO (PySem.W.subIn K (.ref (ga K x)) (.type "BaseException")) (some true) && (decide (PySem.W.typeIn K (.ref (ga K x)) = some (.type "type")) && decO (PySem.W.exmOne K (.ref (ga K x)) (.ref (ga K x))) (some true)))))
theorem xc_ok {K : PySem.W.Frag} {h : Heap} {mg : Str → Option Value} (X : K.In h) (G : h.Ns mainGlobals mg) {x : Str} {bm : List Value} {newId : String} (c : xcB x bm newId K = true) : Xc K mg x bm newId := by
  obtain ⟨c1, c⟩ := ba c
  obtain ⟨c2, c⟩ := ba c
  obtain ⟨c3, c⟩ := ba c
  obtain ⟨c4, c⟩ := ba c
  obtain ⟨c5, c6⟩ := ba c
  exact ⟨He.glo_ok X G c1, c2, c3, decO_ok c4, of_decide_eq_true c5, decO_ok c6⟩
end Hd
namespace RG
open PySem PySem.Spec PyProof.Rows L2 Fr
def sp_lawW (K : PySem.W.Frag) : Sp := fun vs H Q _ => ∃ (a : Addr) (ns : List Int), vs = [.ref a] ∧ SqL K H a (ns.map V.int) ∧ ns.length ≤ 63 ∧ ∀ H', Q (.bl true) H'
abbrev sp_law (K : PySem.W.Frag) (_ _ _ : Addr) : Sp := sp_lawW K
section
variable {P : Program} {w : World} {K : PySem.W.Frag} {mg : Str → Option Value} {base : Heap} {C_Form C_Ring C_Element : Addr}
theorem ok_law0 (T : Txt K mg C_Form C_Ring C_Element) {f_ : Addr} {fd_ : FuncData} (F_ : Fun K "law" "law" s_law f_ fd_) : Gd.FnG P w K mg base 10 f_ fd_ ["_law_script"] (sp_law K C_Form C_Ring C_Element) := by
  obtain ⟨p_Element___neg__, f_Element___neg__, fd_Element___neg__, R_Element___neg__, b_Element___neg__, G_Element___neg__⟩ := (ok_Element___neg__ (P := P) (w := w) (base := base) T)
  obtain ⟨p_Element___str__, f_Element___str__, fd_Element___str__, R_Element___str__, b_Element___str__, G_Element___str__⟩ := (ok_Element___str__ (P := P) (w := w) (base := base) T)
  obtain ⟨p_Form___init__, f_Form___init__, fd_Form___init__, R_Form___init__, b_Form___init__, G_Form___init__⟩ := (ok_Form___init__ (P := P) (w := w) (base := base) T)
  obtain ⟨p_Ring___init__, f_Ring___init__, fd_Ring___init__, R_Ring___init__, b_Ring___init__, G_Ring___init__⟩ := (ok_Ring___init__ (P := P) (w := w) (base := base) T)
  obtain ⟨p_Ring___str__, f_Ring___str__, fd_Ring___str__, R_Ring___str__, b_Ring___str__, G_Ring___str__⟩ := (ok_Ring___str__ (P := P) (w := w) (base := base) T)
  obtain ⟨p_Ring_element, f_Ring_element, fd_Ring_element, ds_Ring_element, R_Ring_element, b_Ring_element, v_Ring_element, d_Ring_element, G_Ring_element⟩ := (ok_Ring_element (P := P) (w := w) (base := base) T)
  obtain ⟨p_Ring_t, f_Ring_t, fd_Ring_t, R_Ring_t, b_Ring_t, G_Ring_t⟩ := (ok_Ring_t (P := P) (w := w) (base := base) T)
  obtain ⟨f_l_right, fd_l_right, g_l_right, k_l_right, b_l_right, G_l_right⟩ := (ok_l_right (P := P) (w := w) (base := base) T)
  obtain ⟨f_l_vat, fd_l_vat, g_l_vat, k_l_vat, b_l_vat, G_l_vat⟩ := (ok_l_vat (P := P) (w := w) (base := base) T)
  refine Gd.okG F_ sc_law (fun vs H Q E h => ?_) (fun cdv A outer s H vs Q E hG hr h => ?_)
  · first | (obtain ⟨rfl, _⟩ := h; rfl) | (obtain ⟨_, rfl, _⟩ := h; rfl) | (obtain ⟨_, _, rfl, _⟩ := h; rfl) | (obtain ⟨_, _, _, rfl, _⟩ := h; rfl) | (obtain ⟨_, _, _, _, rfl, _⟩ := h; rfl) | (obtain ⟨_, _, _, _, _, rfl, _⟩ := h; rfl) | (obtain ⟨_, _, _, _, _, _, rfl, _⟩ := h; rfl) | (obtain ⟨_, _, _, _, _, _, _, rfl, _⟩ := h; rfl) | (obtain ⟨_, _, _, _, _, _, _, _, rfl, _⟩ := h; rfl) | (obtain ⟨_, _, _, _, _, _, _, _, _, rfl, _⟩ := h; rfl) | (obtain ⟨_, _, _, _, _, _, _, _, _, _, rfl, _⟩ := h; rfl) | (obtain ⟨_, _, _, _, _, _, _, _, _, _, _, rfl, _⟩ := h; rfl) | (obtain ⟨_, _, _, _, _, _, _, _, _, _, _, _, rfl, _⟩ := h; rfl) | (obtain ⟨_, _, _, _, _, _, _, _, _, _, _, _, _, rfl, _⟩ := h; rfl) | (obtain ⟨_, _, _, _, _, _, _, _, _, _, _, _, _, _, rfl, _⟩ := h; rfl) | (obtain ⟨_, _, _, _, _, _, _, _, _, _, _, _, _, _, _, rfl, _⟩ := h; rfl) | (obtain ⟨_, _, _, _, _, _, _, _, _, _, _, _, _, _, _, _, rfl, _⟩ := h; rfl) | (obtain ⟨_, _, _, _, _, _, _, _, _, _, _, _, _, _, _, _, _, rfl, _⟩ := h; rfl) | (obtain ⟨_, _, _, _, _, _, _, _, _, _, _, _, _, _, _, _, _, _, rfl, _⟩ := h; rfl) | (obtain ⟨_, _, _, _, _, _, _, _, _, _, _, _, _, _, _, _, _, _, _, rfl, _⟩ := h; rfl) | (obtain ⟨_, _, _, _, _, _, _, _, _, _, _, _, _, _, _, _, _, _, _, _, rfl, _⟩ := h; rfl) | (obtain ⟨_, _, _, _, _, _, _, _, _, _, _, _, _, _, _, _, _, _, _, _, _, rfl, _⟩ := h; rfl) | (obtain ⟨_, _, _, _, _, _, _, _, _, _, _, _, _, _, _, _, _, _, _, _, _, _, rfl, _⟩ := h; rfl) | (obtain ⟨_, _, _, _, _, _, _, _, _, _, _, _, _, _, _, _, _, _, _, _, _, _, _, rfl, _⟩ := h; rfl)
  · obtain ⟨a, ns, rfl, hS, hn, q⟩ := h
    refine ⟨_, (pss_cons (ps_for PassesOwn.never rfl (pi_range1 (by rfl) T.b_range (pa_cons (pe_callB (call_max2 rfl) (by rfl) T.b_max (by decide +kernel) (pa_cons pe_int (pa_cons (pe_callB (call_min2 rfl) (by rfl) T.b_min (by decide +kernel) (pa_cons pe_int (pa_cons (pe_callB call_len_seq (by rfl) T.b_len PySem.boot_len (pa_cons (pv 0) pa_nil)) pa_nil))) pa_nil))) pa_nil)) (pg_name (i := 1) sc_law.nd rfl (.inl rfl))
      (pss_cons (ps_set (i := 2) sc_law.nd rfl (.inl rfl) (pe_call G_l_vat (hr.mono (by decide)) (by rfl) g_l_vat k_l_vat b_l_vat .nil pass0 (pa_cons (pv 0) (pa_cons (pv 1) pa_nil))))
    (pss_one (ps_if (PW.pt (pw_or (pt_not (pt_val (Gd.pe_callG G_l_right hG (hr.mono (by decide)) (by rfl) g_l_right k_l_right b_l_right (pa_cons (pv 2) pa_nil)))) (pw_or1 (pt_not (pt_val (Gd.pe_callG G_l_right hG (hr.mono (by decide)) (by rfl) g_l_right k_l_right b_l_right (pa_cons (pv 2) pa_nil)))))))
      (pss_one (ps_ret pe_bl))
      pss_nil))))
    (Evl.pss_cut (ps_set (i := 3) sc_law.nd rfl (.inl rfl) (pe_make R_Ring___init__ G_Ring___init__ (hr.mono (by decide)) (by rfl) T.g_Ring b_Ring___init__ .nil pass0 (pa_cons (pe_make R_Form___init__ G_Form___init__ (hr.mono (by decide)) (by rfl) T.g_Form b_Form___init__ .nil pass0 (pa_cons (pe_tup (pa_cons pe_int (pa_cons pe_int (pa_cons pe_int (pa_cons pe_int pa_nil))))) pa_nil)) pa_nil)))
    (Evl.pss_cut (ps_set (i := 4) sc_law.nd rfl (.inl rfl) (pe_lst (pa_cons (pe_callTy (Gd.call_strI R_Element___str__ G_Element___str__ b_Element___str__ hG (hr.mono (by decide))) (by rfl) T.b_str (by decide +kernel) (pa_cons (pe_meth (pv 3) T.cl_Ring R_Ring_element G_Ring_element (hr.mono (by decide)) b_Ring_element .nil pass0 (pa_cons (pe_tup (pa_cons pe_int (pa_cons pe_int (pa_cons (pe_un un_neg pe_int) pa_nil)))) (pa_cons pe_int pa_nil))) pa_nil)) (pa_cons (pe_callTy (Gd.call_strI R_Element___str__ G_Element___str__ b_Element___str__ hG (hr.mono (by decide))) (by rfl) T.b_str (by decide +kernel) (pa_cons (pe_meth (pv 3) T.cl_Ring R_Ring_element G_Ring_element (hr.mono (by decide)) d_Ring_element v_Ring_element pass0 (pa_cons (pe_tup (pa_cons (pe_un un_neg pe_int) (pa_cons pe_int (pa_cons (pe_un un_neg pe_int) pa_nil)))) pa_nil)) pa_nil)) (pa_cons (pe_callTy (Gd.call_strI R_Element___str__ G_Element___str__ b_Element___str__ hG (hr.mono (by decide))) (by rfl) T.b_str (by decide +kernel) (pa_cons (pe_un (un_negI R_Element___neg__ G_Element___neg__ b_Element___neg__ (hr.mono (by decide)) pass0) (pe_meth0 (pv 3) T.cl_Ring R_Ring_t G_Ring_t (hr.mono (by decide)) b_Ring_t .nil pass0)) pa_nil)) pa_nil)))))
    (Evl.pss_cut (ps_expr (pe_bm PySem.F.plainAttrs_list PySem.F.slot_list_append PySem.F.type_list_append mt_append (pv 4) (pa_cons (pe_callTy (Gd.call_strI R_Element___str__ G_Element___str__ b_Element___str__ hG (hr.mono (by decide))) (by rfl) T.b_str (by decide +kernel) (pa_cons (pe_meth (pv 3) T.cl_Ring R_Ring_element G_Ring_element (hr.mono (by decide)) b_Ring_element .nil pass0 (pa_cons (pe_tup (pa_cons pe_int (pa_cons pe_int (pa_cons pe_int pa_nil)))) (pa_cons pe_int pa_nil))) pa_nil)) pa_nil)))
    (pss_one (ps_ret (pe_and (pe_cmpR (op_eqD hr.units) (pv 4) (pe_lst (pa_cons pe_str (pa_cons pe_str (pa_cons pe_str (pa_cons pe_str pa_nil))))) (nomark _)) (pe_one (pe_cmpR op_eq (pe_callTy (Gd.call_strI R_Ring___str__ G_Ring___str__ b_Ring___str__ hG (hr.mono (by decide))) (by rfl) T.b_str (by decide +kernel) (pa_cons (pv 3) pa_nil)) pe_str (nomark _)))))))))), ?_⟩
    have hm : ∀ z : Int, z ≤ 63 → -(2 ^ 62) ≤ (if (if z < 4 then z else 4) > 1 then (if z < 4 then z else 4) else 1) ∧ (if (if z < 4 then z else 4) > 1 then (if z < 4 then z else 4) else 1) < 2 ^ 62 := fun z hz => by
      split <;> split <;> omega
    have hm2 := hm (((ns.map V.int).length : Nat) : Int) (by rw [List.length_map]; omega)
    refine ⟨_, rfl, a, _, rfl, .inl hS, _, _, rfl, _, _, rfl, _, rfl, hm2.1, hm2.2, ?_⟩
    refine for_range (lo := 0) (fun i σ H' => ∃ y1 y2, σ = [some (.ref a), y1, y2, none, none] ∧ Ex0 H H') ⟨none, none, rfl, Ex0.refl H⟩ ?_ ?_
    · rintro i σ H' hi ⟨y1, y2, rfl, e⟩
      refine ⟨_, rfl, _, rfl, a, ns, i, by show [V.ref a, V.int (0 + (i : Int))] = _; rw [Int.zero_add], e.sqL (fun z => z) hS, fun p H1 np e1 hv => ?_⟩
      have hp0 : H p = none := Fx.free e (fun z => z) np
      have e01 : Ex0 H H1 := e.trans e1
      refine ⟨_, rfl, p, rfl, hv, fun H3 e3 => ⟨_, rfl, ?_⟩⟩
      refine iteF ⟨_, rfl, p, rfl, e3.1, fun H4 e4 => ⟨_, rfl, ?_⟩⟩
      refine iteF ?_
      exact ⟨_, _, rfl, ex_fv e01 hp0 (e3.trans e4)⟩
    · rintro σ H' ⟨y1, y2, rfl, e⟩
      have sh : ∀ n ∈ [(1 : Int), 1, 2, 1], Short n := fun n h => by
        simp only [List.mem_cons, List.mem_nil_iff, or_false] at h
        rcases h with rfl | rfl | rfl | rfl <;> exact ⟨by decide, by decide⟩
      refine ⟨fun σ H2 => ∃ R : Addr, σ = [some (.ref a), y1, y2, some (.ref R), none] ∧ RingAt C_Form C_Ring H2 R [1, 1, 2, 1], ?_, ?_⟩
      · refine ⟨sl4, fun t nt x dx nx ndx _ => ?_⟩
        have ht : Ti (upd H' t (.tup [.int 1, .int 1, .int 2, .int 1])) t [1, 1, 2, 1] := upd_same
        refine ⟨x, dx, t, [1, 1, 2, 1], rfl, upd_same, made_at nx ndx ht, rfl, sh, fun H2 e2 h2 => ⟨rfl, ?_⟩⟩
        obtain ⟨e3, hx⟩ := fo_made nx ndx ht e2 h2
        intro y dy ny ndy _
        refine ⟨y, dy, x, [1, 1, 2, 1], rfl, upd_same, Ex0.fo (ex_two ny ndy) hx, fun H3 e4 h4 => ⟨rfl, ?_⟩⟩
        obtain ⟨e5, hy⟩ := ri_made ny ndy hx e4 h4
        exact ⟨y, rfl, hy⟩
      rintro σ H2 ⟨R, rfl, hR⟩
      obtain ⟨dR, xR, hR1, hR2⟩ := id hR
      have el : ∀ ns b s, elS ns b = s → elS ns b = s := fun _ _ _ h => h
      have s0 : ∀ {n : Int}, n.natAbs ≤ 100 → Short n := fun h => sh20 (Nat.le_trans h (by decide))
      have l0 : ∀ {n : Int}, n.natAbs ≤ 100 → L19 n := fun h => l19 (Nat.le_trans h (by decide))
      refine ⟨fun σ H3 => ∃ L : Addr, σ = [some (.ref a), y1, y2, some (.ref R), some (.ref L)] ∧ Ex0 H2 H3 ∧ H2 L = none ∧ H3 L = some (.lst [.str (elS [1, 2, -1] 2), .str (elS [-3, 3, -2] 1), .str (elS [0, 0, -1] 1)]), ?_, ?_⟩
      · refine ⟨_, rfl, R, dR, _, rfl, hR1, rfl, _, rfl, sl3, fun t nt => ?_⟩
        have et : Ex0 H2 (upd H2 t (.tup [.int 1, .int 2, .int (-1)])) := Ex0.new nt
        refine ⟨R, t, _, 1, 2, -1, 2, rfl, Ex0.ri et hR, upd_same, s0 (by decide), s0 (by decide), s0 (by decide), s0 (by decide), by decide, fun X H3 u' y' z' b' l1 e3 hX => ?_⟩
        obtain ⟨rfl, rfl, rfl, rfl⟩ := (Low.self (u := 1) (y := 2) (z := -1) (b := 2) (by decide) (by decide)).uniq l1 (by decide) (by decide) rfl rfl rfl
        obtain ⟨dX, rX, tX, hX0, _, _⟩ := id hX
        refine ⟨X, dX, _, rfl, hX0, X, _, 1, 2, -1, 2, rfl, hX, l0 (by decide), l0 (by decide), l0 (by decide), l0 (by decide), fun H4 e4 => ⟨_, rfl, ?_⟩⟩
        have e24 := (et.trans e3).trans e4
        refine ⟨_, rfl, R, dR, _, rfl, Ex0.ap e24 hR1, rfl, _, rfl, _, rfl, sl3, fun t2 nt2 => ?_⟩
        have et2 : Ex0 H4 (upd H4 t2 (.tup [.int (-3), .int 3, .int (-2)])) := Ex0.new nt2
        refine ⟨R, t2, _, -3, 3, -2, 1, rfl, Ex0.ri (e24.trans et2) hR, upd_same, s0 (by decide), s0 (by decide), s0 (by decide), s0 (by decide), by decide, fun X2 H5 u' y' z' b' l2 e5 hX2 => ?_⟩
        obtain ⟨rfl, rfl, rfl, rfl⟩ := (Low.self (u := -3) (y := 3) (z := -2) (b := 1) (by decide) (by decide)).uniq l2 (by decide) (by decide) rfl rfl rfl
        obtain ⟨dX2, rX2, tX2, hX20, _, _⟩ := id hX2
        refine ⟨X2, dX2, _, rfl, hX20, X2, _, -3, 3, -2, 1, rfl, hX2, l0 (by decide), l0 (by decide), l0 (by decide), l0 (by decide), fun H6 e6 => ⟨_, rfl, ?_⟩⟩
        have e26 := ((e24.trans et2).trans e5).trans e6
        refine ⟨_, rfl, R, dR, _, rfl, Ex0.ap e26 hR1, rfl, R, _, rfl, Ex0.ri e26 hR, fun X3 H7 e7 hX3 => ?_⟩
        obtain ⟨dX3, rX3, tX3, hX30, _, _⟩ := id hX3
        refine ⟨X3, dX3, _, rfl, hX30, X3, _, 0, 0, 1, 1, rfl, hX3, by decide, ⟨by decide, by decide⟩, fun X4 H8 u' y' z' b' l3 e8 hX4 => ?_⟩
        obtain ⟨rfl, rfl, rfl, rfl⟩ := (Low.self (u := 0) (y := 0) (z := -1) (b := 1) (by decide) (by decide)).uniq l3 (by decide) (by decide) rfl rfl rfl
        obtain ⟨dX4, rX4, tX4, hX40, _, _⟩ := id hX4
        refine ⟨X4, dX4, _, rfl, hX40, X4, _, 0, 0, -1, 1, rfl, hX4, l0 (by decide), l0 (by decide), l0 (by decide), l0 (by decide), fun H9 e9 => ⟨_, rfl, ?_⟩⟩
        have e29 := ((e26.trans e7).trans e8).trans e9
        refine ⟨sl3, fun L nL => ?_⟩
        exact ⟨L, rfl, e29.trans (Ex0.new nL), Fx.free e29 (fun z => z) nL, upd_same⟩
      rintro σ H3 ⟨L, rfl, e3, nL, hL⟩
      refine ⟨fun σ H4 => σ = [some (.ref a), y1, y2, some (.ref R), some (.ref L)] ∧ Ex0 H2 H4 ∧ H4 L = some (.lst [.str (elS [1, 2, -1] 2), .str (elS [-3, 3, -2] 1), .str (elS [0, 0, -1] 1), .str (elS [1, 1, 0] 2)]), ?_, ?_⟩
      · refine ⟨_, rfl, .inl ⟨rfl, _, SqL.of hL⟩, ?_⟩
        refine ⟨_, rfl, R, dR, _, rfl, Ex0.ap e3 hR1, rfl, sl3, fun t nt => ?_⟩
        have et : Ex0 H3 (upd H3 t (.tup [.int 2, .int 2, .int 0])) := Ex0.new nt
        refine ⟨R, t, _, 2, 2, 0, 4, rfl, Ex0.ri (e3.trans et) hR, upd_same, s0 (by decide), s0 (by decide), s0 (by decide), s0 (by decide), by decide, fun X H4 u' y' z' b' l1 e4 hX => ?_⟩
        obtain ⟨rfl, rfl, rfl, rfl⟩ := (Low.self (u := 1) (y := 1) (z := 0) (b := 2) (by decide) (by decide)).uniq l1 (by decide) (by decide) rfl rfl rfl
        obtain ⟨dX, rX, tX, hX0, _, _⟩ := id hX
        refine ⟨X, dX, _, rfl, hX0, X, _, 1, 1, 0, 2, rfl, hX, l0 (by decide), l0 (by decide), l0 (by decide), l0 (by decide), fun H5 e5 => ⟨_, rfl, ?_⟩⟩
        have e35 := (et.trans e4).trans e5
        refine ⟨L, _, _, rfl, rfl, Ex0.ap e35 hL, by decide, ?_⟩
        exact ⟨rfl, Fx.mut fm0 (e3.trans e35) trivial nL, upd_same⟩
      rintro σ H4 ⟨rfl, e4, hL4⟩
      have k1 : elS [1, 2, -1] 2 = "(1+2w-t)/2" := by decide +kernel
      have k2 : elS [-3, 3, -2] 1 = "-3+3w-2t" := by decide +kernel
      have k3 : elS [0, 0, -1] 1 = "-t" := by decide +kernel
      have k4 : elS [1, 1, 0] 2 = "(1+w)/2" := by decide +kernel
      rw [k1, k2, k3, k4] at hL4
      refine ⟨_, rfl, sl4, fun L2 nL2 => ?_⟩
      have e5 := Ex0.new (o := .lst [.str "(1+2w-t)/2", .str "-3+3w-2t", .str "-t", .str "(1+w)/2"]) nL2
      refine ⟨.list [.str "(1+2w-t)/2", .str "-3+3w-2t", .str "-t", .str "(1+w)/2"], .list [.str "(1+2w-t)/2", .str "-3+3w-2t", .str "-t", .str "(1+w)/2"], .lst (SqL.of (Ex0.ap e5 hL4)) (.cons (.str _) (.cons (.str _) (.cons (.str _) (.cons (.str _) .nil)))), .lst (SqL.of upd_same) (.cons (.str _) (.cons (.str _) (.cons (.str _) (.cons (.str _) .nil)))), by decide +kernel, by decide +kernel, ?_⟩
      have kk : PyData.eqv (.list [.str "(1+2w-t)/2", .str "-3+3w-2t", .str "-t", .str "(1+w)/2"]) (.list [.str "(1+2w-t)/2", .str "-3+3w-2t", .str "-t", .str "(1+w)/2"]) = true := by decide +kernel
      rw [kk]
      have e25 := e4.trans e5
      refine ⟨_, rfl, iteT ?_⟩
      refine ⟨_, rfl, R, dR, _, rfl, Ex0.ap e25 hR1, R, _, rfl, Ex0.ri e25 hR, fun n h => ?_, by decide +kernel, _, rfl, rfl, ?_⟩
      · simp only [List.mem_cons, List.mem_nil_iff, or_false] at h
        rcases h with rfl | rfl | rfl | rfl <;> exact l0 (by decide)
      rw [decide_eq_true (show V.str (ringS [1, 1, 2, 1]) = V.str "ring of (1, 1, 2, 1)" from congrArg V.str (by decide +kernel))]
      exact q _
end
def e0 : Hd.Dd := ⟨fun K => He.ga K "is_any_integer", "is_any_integer", "is_any_integer", s_is_any_integer, []⟩
def e1 : Hd.Dd := ⟨fun K => He.ga K "is_short_integer", "is_short_integer", "is_short_integer", s_is_short_integer, []⟩
def e2 : Hd.Dd := ⟨fun K => He.ga K "are_short_integers", "are_short_integers", "are_short_integers", s_are_short_integers, []⟩
def e3 : Hd.Dd := ⟨fun K => He.ga K "check_integer", "check_integer", "check_integer", s_check_integer, []⟩
def e4 : Hd.Dd := ⟨fun K => He.ga K "shared_divisor", "shared_divisor", "shared_divisor", s_shared_divisor, []⟩
def e5 : Hd.Dd := ⟨fun K => He.ga K "check_form", "check_form", "check_form", s_check_form, []⟩
def e6 : Hd.Dd := ⟨fun K => He.ma K (He.ga K "Form") "__init__", "__init__", "Form.__init__", s_Form___init__, []⟩
def e7 : Hd.Dd := ⟨fun K => Hd.pa K (He.ga K "Form") "coefficients", "coefficients", "Form.coefficients", s_Form_coefficients, []⟩
def e8 : Hd.Dd := ⟨fun K => He.ma K (He.ga K "Form") "__eq__", "__eq__", "Form.__eq__", s_Form___eq__, []⟩
def e9 : Hd.Dd := ⟨fun K => He.ma K (He.ga K "Form") "__str__", "__str__", "Form.__str__", s_Form___str__, []⟩
def e10 : Hd.Dd := ⟨fun K => He.ga K "table_of", "table_of", "table_of", s_table_of, []⟩
def e11 : Hd.Dd := ⟨fun K => He.ga K "product_by", "product_by", "product_by", s_product_by, []⟩
def e12 : Hd.Dd := ⟨fun K => He.ga K "check_bottom", "check_bottom", "check_bottom", s_check_bottom, []⟩
def e13 : Hd.Dd := ⟨fun K => He.ga K "table_for", "table_for", "table_for", s_table_for, []⟩
def e14 : Hd.Dd := ⟨fun K => He.ma K (He.ga K "Ring") "__init__", "__init__", "Ring.__init__", s_Ring___init__, []⟩
def e15 : Hd.Dd := ⟨fun K => Hd.pa K (He.ga K "Ring") "form", "form", "Ring.form", s_Ring_form, []⟩
def e16 : Hd.Dd := ⟨fun K => He.ma K (He.ga K "Ring") "one", "one", "Ring.one", s_Ring_one, []⟩
def e17 : Hd.Dd := ⟨fun K => He.ma K (He.ga K "Ring") "w", "w", "Ring.w", s_Ring_w, []⟩
def e18 : Hd.Dd := ⟨fun K => He.ma K (He.ga K "Ring") "t", "t", "Ring.t", s_Ring_t, []⟩
def e19 : Hd.Dd := ⟨fun K => He.ma K (He.ga K "Ring") "element", "element", "Ring.element", s_Ring_element, [.int 1]⟩
def e20 : Hd.Dd := ⟨fun K => He.ma K (He.ga K "Ring") "__eq__", "__eq__", "Ring.__eq__", s_Ring___eq__, []⟩
def e21 : Hd.Dd := ⟨fun K => He.ma K (He.ga K "Ring") "__str__", "__str__", "Ring.__str__", s_Ring___str__, []⟩
def e22 : Hd.Dd := ⟨fun K => He.ga K "check_one_ring", "check_one_ring", "check_one_ring", s_check_one_ring, []⟩
def e23 : Hd.Dd := ⟨fun K => He.ga K "mixed", "mixed", "mixed", s_mixed, []⟩
def e24 : Hd.Dd := ⟨fun K => He.ga K "term", "term", "term", s_term, []⟩
def e25 : Hd.Dd := ⟨fun K => He.ga K "sum_text", "sum_text", "sum_text", s_sum_text, []⟩
def e26 : Hd.Dd := ⟨fun K => He.ma K (He.ga K "Element") "__init__", "__init__", "Element.__init__", s_Element___init__, []⟩
def e27 : Hd.Dd := ⟨fun K => Hd.pa K (He.ga K "Element") "ring", "ring", "Element.ring", s_Element_ring, []⟩
def e28 : Hd.Dd := ⟨fun K => Hd.pa K (He.ga K "Element") "entries", "entries", "Element.entries", s_Element_entries, []⟩
def e29 : Hd.Dd := ⟨fun K => Hd.pa K (He.ga K "Element") "bottom", "bottom", "Element.bottom", s_Element_bottom, []⟩
def e30 : Hd.Dd := ⟨fun K => He.ma K (He.ga K "Element") "__add__", "__add__", "Element.__add__", s_Element___add__, []⟩
def e31 : Hd.Dd := ⟨fun K => He.ma K (He.ga K "Element") "__sub__", "__sub__", "Element.__sub__", s_Element___sub__, []⟩
def e32 : Hd.Dd := ⟨fun K => He.ma K (He.ga K "Element") "__mul__", "__mul__", "Element.__mul__", s_Element___mul__, []⟩
def e33 : Hd.Dd := ⟨fun K => He.ma K (He.ga K "Element") "__neg__", "__neg__", "Element.__neg__", s_Element___neg__, []⟩
def e34 : Hd.Dd := ⟨fun K => He.ma K (He.ga K "Element") "__bool__", "__bool__", "Element.__bool__", s_Element___bool__, []⟩
def e35 : Hd.Dd := ⟨fun K => He.ma K (He.ga K "Element") "__eq__", "__eq__", "Element.__eq__", s_Element___eq__, []⟩
def e36 : Hd.Dd := ⟨fun K => He.ma K (He.ga K "Element") "__str__", "__str__", "Element.__str__", s_Element___str__, []⟩
def e37 : Hd.Dd := ⟨fun K => He.ga K "_law_vat", "_law_vat", "_law_vat", s_l_vat, []⟩
def e38 : Hd.Dd := ⟨fun K => He.ga K "_law_drip", "_law_drip", "_law_drip", s_l_drip, []⟩
def e39 : Hd.Dd := ⟨fun K => He.ga K "_law_some_of", "_law_some_of", "_law_some_of", s_l_some_of, []⟩
def e40 : Hd.Dd := ⟨fun K => He.ga K "_law_int", "_law_int", "_law_int", s_l_int, []⟩
def e41 : Hd.Dd := ⟨fun K => He.ga K "_law_share", "_law_share", "_law_share", s_l_share, []⟩
def e42 : Hd.Dd := ⟨fun K => He.ga K "_law_lowest", "_law_lowest", "_law_lowest", s_l_lowest, []⟩
def e43 : Hd.Dd := ⟨fun K => He.ga K "_law_coefficients", "_law_coefficients", "_law_coefficients", s_l_coefficients, []⟩
def e44 : Hd.Dd := ⟨fun K => He.ga K "_law_drawn", "_law_drawn", "_law_drawn", s_l_drawn, []⟩
def e45 : Hd.Dd := ⟨fun K => He.ga K "_law_term", "_law_term", "_law_term", s_l_term, []⟩
def e46 : Hd.Dd := ⟨fun K => He.ga K "_law_text", "_law_text", "_law_text", s_l_text, []⟩
def e47 : Hd.Dd := ⟨fun K => He.ga K "_law_small", "_law_small", "_law_small", s_l_small, []⟩
def e48 : Hd.Dd := ⟨fun K => He.ga K "_law_right", "_law_right", "_law_right", s_l_right, []⟩
def e49 : Hd.Dd := ⟨fun K => He.ga K "law", "law", "law", s_law, []⟩
def dd0 : List Hd.Dd := [e0, e1, e2, e3, e4, e5, e6, e7, e8, e9, e10, e11, e12, e13, e14, e15, e16, e17, e18, e19]
def dd1 : List Hd.Dd := [e20, e21, e22, e23, e24, e25, e26, e27, e28, e29, e30, e31, e32, e33, e34, e35, e36, e37, e38, e39]
def dd2 : List Hd.Dd := [e40, e41, e42, e43, e44, e45, e46, e47, e48, e49]
def dd : List Hd.Dd := dd0 ++ (dd1 ++ (dd2))
def g0 : Hd.Fb := fun K => (fun K => (He.Fa.glo "Form").ok K) K
def g1 : Hd.Fb := fun K => (fun K => (He.Fa.cls "Form").ok K) K
def g2 : Hd.Fb := fun K => Hd.tyB "Form" K
def g3 : Hd.Fb := fun K => (fun K => (He.Fa.noat "Form" "_coefficients").ok K) K
def g4 : Hd.Fb := fun K => Hd.fmtB "Form" K
def g5 : Hd.Fb := fun K => (fun K => (He.Fa.glo "Ring").ok K) K
def g6 : Hd.Fb := fun K => (fun K => (He.Fa.cls "Ring").ok K) K
def g7 : Hd.Fb := fun K => Hd.tyB "Ring" K
def g8 : Hd.Fb := fun K => (fun K => (He.Fa.noat "Ring" "_form").ok K) K
def g9 : Hd.Fb := fun K => Hd.foreCB "Ring" "Form" K
def g10 : Hd.Fb := fun K => Hd.foreB "Ring" "str" K
def g11 : Hd.Fb := fun K => Hd.foreB "Ring" "NoneType" K
def g12 : Hd.Fb := fun K => (fun K => (He.Fa.glo "Element").ok K) K
def g13 : Hd.Fb := fun K => (fun K => (He.Fa.cls "Element").ok K) K
def g14 : Hd.Fb := fun K => Hd.tyB "Element" K
def g15 : Hd.Fb := fun K => (fun K => (He.Fa.noat "Element" "_ring").ok K) K
def g16 : Hd.Fb := fun K => (fun K => (He.Fa.noat "Element" "_entries").ok K) K
def g17 : Hd.Fb := fun K => (fun K => (He.Fa.noat "Element" "_bottom").ok K) K
def g18 : Hd.Fb := fun K => Hd.foreB "Element" "tuple" K
def g19 : Hd.Fb := fun K => Hd.foreB "Element" "NoneType" K
def g20 : Hd.Fb := fun K => Hd.foreB "Element" "str" K
def g21 : Hd.Fb := fun K => (fun K => (He.Fa.glo "is_any_integer").ok K) K
def g22 : Hd.Fb := fun K => (fun K => (He.Fa.glo "is_short_integer").ok K) K
def g23 : Hd.Fb := fun K => (fun K => (He.Fa.glo "are_short_integers").ok K) K
def g24 : Hd.Fb := fun K => (fun K => (He.Fa.glo "check_integer").ok K) K
def g25 : Hd.Fb := fun K => (fun K => (He.Fa.glo "shared_divisor").ok K) K
def g26 : Hd.Fb := fun K => (fun K => (He.Fa.glo "check_form").ok K) K
def g27 : Hd.Fb := fun K => (fun K => (He.Fa.mkr "Form").ok K) K
def g28 : Hd.Fb := fun K => Hd.propB "Form" "coefficients" K
def g29 : Hd.Fb := fun K => Hd.eqB "Form" K
def g30 : Hd.Fb := fun K => (fun K => (He.Fa.meth "Form" "__str__").ok K) K
def g31 : Hd.Fb := fun K => (fun K => (He.Fa.glo "table_of").ok K) K
def g32 : Hd.Fb := fun K => (fun K => (He.Fa.glo "product_by").ok K) K
def g33 : Hd.Fb := fun K => (fun K => (He.Fa.glo "check_bottom").ok K) K
def g34 : Hd.Fb := fun K => (fun K => (He.Fa.glo "table_for").ok K) K
def g35 : Hd.Fb := fun K => (fun K => (He.Fa.mkr "Ring").ok K) K
def g36 : Hd.Fb := fun K => Hd.propB "Ring" "form" K
def g37 : Hd.Fb := fun K => (fun K => (He.Fa.meth "Ring" "one").ok K) K
def g38 : Hd.Fb := fun K => (fun K => (He.Fa.meth "Ring" "w").ok K) K
def g39 : Hd.Fb := fun K => (fun K => (He.Fa.meth "Ring" "t").ok K) K
def g40 : Hd.Fb := fun K => (fun K => (He.Fa.meth "Ring" "element").ok K) K
def g41 : Hd.Fb := fun K => Hd.eqB "Ring" K
def g42 : Hd.Fb := fun K => (fun K => (He.Fa.meth "Ring" "__str__").ok K) K
def g43 : Hd.Fb := fun K => (fun K => (He.Fa.glo "check_one_ring").ok K) K
def g44 : Hd.Fb := fun K => (fun K => (He.Fa.glo "mixed").ok K) K
def g45 : Hd.Fb := fun K => (fun K => (He.Fa.glo "term").ok K) K
def g46 : Hd.Fb := fun K => (fun K => (He.Fa.glo "sum_text").ok K) K
def g47 : Hd.Fb := fun K => (fun K => (He.Fa.mkr "Element").ok K) K
def g48 : Hd.Fb := fun K => Hd.propB "Element" "ring" K
def g49 : Hd.Fb := fun K => Hd.propB "Element" "entries" K
def g50 : Hd.Fb := fun K => Hd.propB "Element" "bottom" K
def g51 : Hd.Fb := fun K => Hd.binB "Element" "__add__" K
def g52 : Hd.Fb := fun K => Hd.binB "Element" "__sub__" K
def g53 : Hd.Fb := fun K => Hd.binB "Element" "__mul__" K
def g54 : Hd.Fb := fun K => (fun K => (He.Fa.meth "Element" "__neg__").ok K) K
def g55 : Hd.Fb := fun K => (fun K => (He.Fa.meth "Element" "__bool__").ok K) K
def g56 : Hd.Fb := fun K => Hd.eqB "Element" K
def g57 : Hd.Fb := fun K => (fun K => (He.Fa.meth "Element" "__str__").ok K) K
def g58 : Hd.Fb := fun K => (fun K => (He.Fa.glo "_law_vat").ok K) K
def g59 : Hd.Fb := fun K => (fun K => (He.Fa.glo "_law_drip").ok K) K
def g60 : Hd.Fb := fun K => (fun K => (He.Fa.glo "_law_some_of").ok K) K
def g61 : Hd.Fb := fun K => (fun K => (He.Fa.glo "_law_int").ok K) K
def g62 : Hd.Fb := fun K => (fun K => (He.Fa.glo "_law_share").ok K) K
def g63 : Hd.Fb := fun K => (fun K => (He.Fa.glo "_law_lowest").ok K) K
def g64 : Hd.Fb := fun K => (fun K => (He.Fa.glo "_law_coefficients").ok K) K
def g65 : Hd.Fb := fun K => (fun K => (He.Fa.glo "_law_drawn").ok K) K
def g66 : Hd.Fb := fun K => (fun K => (He.Fa.glo "_law_term").ok K) K
def g67 : Hd.Fb := fun K => (fun K => (He.Fa.glo "_law_text").ok K) K
def g68 : Hd.Fb := fun K => (fun K => (He.Fa.glo "_law_small").ok K) K
def g69 : Hd.Fb := fun K => (fun K => (He.Fa.glo "_law_right").ok K) K
def g70 : Hd.Fb := fun K => (fun K => (He.Fa.glo "law").ok K) K
def g71 : Hd.Fb := fun K => (fun K => (He.Fa.free "abs").ok K) K
def g72 : Hd.Fb := fun K => (fun K => (He.Fa.free "all").ok K) K
def g73 : Hd.Fb := fun K => (fun K => (He.Fa.free "any").ok K) K
def g74 : Hd.Fb := fun K => (fun K => (He.Fa.free "bool").ok K) K
def g75 : Hd.Fb := fun K => (fun K => (He.Fa.free "int").ok K) K
def g76 : Hd.Fb := fun K => (fun K => (He.Fa.free "isinstance").ok K) K
def g77 : Hd.Fb := fun K => (fun K => (He.Fa.free "len").ok K) K
def g78 : Hd.Fb := fun K => (fun K => (He.Fa.free "max").ok K) K
def g79 : Hd.Fb := fun K => (fun K => (He.Fa.free "min").ok K) K
def g80 : Hd.Fb := fun K => (fun K => (He.Fa.free "range").ok K) K
def g81 : Hd.Fb := fun K => (fun K => (He.Fa.free "str").ok K) K
def g82 : Hd.Fb := fun K => (fun K => (He.Fa.free "tuple").ok K) K
def g83 : Hd.Fb := fun K => (fun K => (He.Fa.free "zip").ok K) K
def g84 : Hd.Fb := fun K => (fun K => (He.Fa.int "LIMIT" (1000000000000000000000000000000000000000000000000000000000000)).ok K) K
def g85 : Hd.Fb := fun K => Hd.bltB "gcd" "math.gcd" K
def g86 : Hd.Fb := fun K => Hd.refsB (fun K => He.ga K "UNITS") 3 K
def g87 : Hd.Fb := fun K => Hd.intsB (fun K => Hd.itA K (He.ga K "UNITS") 0) [1, 0, 0] K
def g88 : Hd.Fb := fun K => Hd.intsB (fun K => Hd.itA K (He.ga K "UNITS") 1) [0, 1, 0] K
def g89 : Hd.Fb := fun K => Hd.intsB (fun K => Hd.itA K (He.ga K "UNITS") 2) [0, 0, 1] K
def g90 : Hd.Fb := fun K => (fun K => (He.Fa.glo "UNITS").ok K) K
def fa0 : List Hd.Fb := [g0, g1, g2, g3, g4, g5, g6, g7, g8, g9, g10, g11, g12, g13, g14, g15, g16, g17, g18, g19]
def fa1 : List Hd.Fb := [g20, g21, g22, g23, g24, g25, g26, g27, g28, g29, g30, g31, g32, g33, g34, g35, g36, g37, g38, g39]
def fa2 : List Hd.Fb := [g40, g41, g42, g43, g44, g45, g46, g47, g48, g49, g50, g51, g52, g53, g54, g55, g56, g57, g58, g59]
def fa3 : List Hd.Fb := [g60, g61, g62, g63, g64, g65, g66, g67, g68, g69, g70, g71, g72, g73, g74, g75, g76, g77, g78, g79]
def fa4 : List Hd.Fb := [g80, g81, g82, g83, g84, g85, g86, g87, g88, g89, g90]
def fa : List Hd.Fb := fa0 ++ (fa1 ++ (fa2 ++ (fa3 ++ (fa4))))
def names0 : List Str := ["_wall", "__name__", "RingError", "InvalidForm", "InvalidDouble", "InvalidElement", "InvalidOperation", "ParseError", "InvalidNumber", "Refused", "DIGITS", "LIMIT", "is_any_integer", "is_short_integer", "is_between", "are_short_integers", "is_written_integer", "check_integer", "check_between", "shared_divisor", "double_value", "double_of", "Double", "plain_root", "rest_of", "form_value", "is_root_of", "check_form", "form_of", "Form"]
def names1 : List Str := ["UNITS", "table_of", "product_by", "check_bottom", "table_for", "Ring", "check_one_ring", "mixed", "term", "sum_text", "Element", "_law_vat", "_law_drip", "_law_some_of", "_law_int", "_law_share", "_law_lowest", "_law_coefficients", "_law_drawn", "_law_term", "_law_text", "_law_small", "_law_right"]
def names : List Str := names0 ++ (names1)
abbrev RR : PySem.W.OpenRow := PySem.W.OpenLaw.row PySem.Challenge.rw_formrings_k18_whole_texts_and_equality_o
abbrev vw : Program := PySem.W.view RR.prog [0, 62]
abbrev hk : PySem.W.Hook := Hd.hookM 5 fa dd
def ob (s : PySem.W.SharedT) : Hd.AlM := Hd.obsMG 5 fa dd (HandSHeadRun.getT s)
theorem ob_eq (s : PySem.W.SharedT) : ob s = hk.obs s.abs := Hd.obsMG_eq (HandSHeadRun.getT_eq s)
theorem run (w : World) : HandSHeadRun.RunEqI RR vw hk ob 12000 names w := by
  unfold HandSHeadRun.RunEqI
  kernel_rfl
theorem facts {P : Program} {w : World} {K : PySem.W.Frag} {h : Heap} {mg : Str → Option Value} {f : Addr} (X : K.In h) (G : h.Ns mainGlobals mg) (hfa : mg ("law" : Str) = some (.ref f)) (c : Hd.SaysM fa dd K) :
    ∃ fd : FuncData, (∀ (s : Shared) (v : Value), BindsTo s fd ⟨[v], []⟩ [("_law_script", v)]) ∧ ∀ base : Heap, K.In base → base.Ns mainGlobals mg → Gd.FnG P w K mg base 10 f fd ["_law_script"] (sp_lawW K) := by
  obtain ⟨fd0, F0⟩ := c.def_ 0 (d := e0) rfl
  obtain ⟨fd1, F1⟩ := c.def_ 1 (d := e1) rfl
  obtain ⟨fd2, F2⟩ := c.def_ 2 (d := e2) rfl
  obtain ⟨fd3, F3⟩ := c.def_ 3 (d := e3) rfl
  obtain ⟨fd4, F4⟩ := c.def_ 4 (d := e4) rfl
  obtain ⟨fd5, F5⟩ := c.def_ 5 (d := e5) rfl
  obtain ⟨fd6, F6⟩ := c.def_ 6 (d := e6) rfl
  obtain ⟨fd7, F7⟩ := c.def_ 7 (d := e7) rfl
  obtain ⟨fd8, F8⟩ := c.def_ 8 (d := e8) rfl
  obtain ⟨fd9, F9⟩ := c.def_ 9 (d := e9) rfl
  obtain ⟨fd10, F10⟩ := c.def_ 10 (d := e10) rfl
  obtain ⟨fd11, F11⟩ := c.def_ 11 (d := e11) rfl
  obtain ⟨fd12, F12⟩ := c.def_ 12 (d := e12) rfl
  obtain ⟨fd13, F13⟩ := c.def_ 13 (d := e13) rfl
  obtain ⟨fd14, F14⟩ := c.def_ 14 (d := e14) rfl
  obtain ⟨fd15, F15⟩ := c.def_ 15 (d := e15) rfl
  obtain ⟨fd16, F16⟩ := c.def_ 16 (d := e16) rfl
  obtain ⟨fd17, F17⟩ := c.def_ 17 (d := e17) rfl
  obtain ⟨fd18, F18⟩ := c.def_ 18 (d := e18) rfl
  obtain ⟨fd19, F19⟩ := c.def_ 19 (d := e19) rfl
  obtain ⟨fd20, F20⟩ := c.def_ 20 (d := e20) rfl
  obtain ⟨fd21, F21⟩ := c.def_ 21 (d := e21) rfl
  obtain ⟨fd22, F22⟩ := c.def_ 22 (d := e22) rfl
  obtain ⟨fd23, F23⟩ := c.def_ 23 (d := e23) rfl
  obtain ⟨fd24, F24⟩ := c.def_ 24 (d := e24) rfl
  obtain ⟨fd25, F25⟩ := c.def_ 25 (d := e25) rfl
  obtain ⟨fd26, F26⟩ := c.def_ 26 (d := e26) rfl
  obtain ⟨fd27, F27⟩ := c.def_ 27 (d := e27) rfl
  obtain ⟨fd28, F28⟩ := c.def_ 28 (d := e28) rfl
  obtain ⟨fd29, F29⟩ := c.def_ 29 (d := e29) rfl
  obtain ⟨fd30, F30⟩ := c.def_ 30 (d := e30) rfl
  obtain ⟨fd31, F31⟩ := c.def_ 31 (d := e31) rfl
  obtain ⟨fd32, F32⟩ := c.def_ 32 (d := e32) rfl
  obtain ⟨fd33, F33⟩ := c.def_ 33 (d := e33) rfl
  obtain ⟨fd34, F34⟩ := c.def_ 34 (d := e34) rfl
  obtain ⟨fd35, F35⟩ := c.def_ 35 (d := e35) rfl
  obtain ⟨fd36, F36⟩ := c.def_ 36 (d := e36) rfl
  obtain ⟨fd37, F37⟩ := c.def_ 37 (d := e37) rfl
  obtain ⟨fd38, F38⟩ := c.def_ 38 (d := e38) rfl
  obtain ⟨fd39, F39⟩ := c.def_ 39 (d := e39) rfl
  obtain ⟨fd40, F40⟩ := c.def_ 40 (d := e40) rfl
  obtain ⟨fd41, F41⟩ := c.def_ 41 (d := e41) rfl
  obtain ⟨fd42, F42⟩ := c.def_ 42 (d := e42) rfl
  obtain ⟨fd43, F43⟩ := c.def_ 43 (d := e43) rfl
  obtain ⟨fd44, F44⟩ := c.def_ 44 (d := e44) rfl
  obtain ⟨fd45, F45⟩ := c.def_ 45 (d := e45) rfl
  obtain ⟨fd46, F46⟩ := c.def_ 46 (d := e46) rfl
  obtain ⟨fd47, F47⟩ := c.def_ 47 (d := e47) rfl
  obtain ⟨fd48, F48⟩ := c.def_ 48 (d := e48) rfl
  obtain ⟨fd49, F49⟩ := c.def_ 49 (d := e49) rfl
  have T : Txt K mg (He.ga K "Form") (He.ga K "Ring") (He.ga K "Element") := ⟨He.glo_ok X G (c.fact 0 (f := g0) rfl),
    He.cls_ok (c.fact 1 (f := g1) rfl),
    Hd.ty_ok (c.fact 2 (f := g2) rfl),
    He.noat_ok (c.fact 3 (f := g3) rfl),
    Hd.fmt_ok (c.fact 4 (f := g4) rfl),
    He.glo_ok X G (c.fact 5 (f := g5) rfl),
    He.cls_ok (c.fact 6 (f := g6) rfl),
    Hd.ty_ok (c.fact 7 (f := g7) rfl),
    He.noat_ok (c.fact 8 (f := g8) rfl),
    Hd.foreC_ok (c.fact 9 (f := g9) rfl),
    Hd.fore_ok (c.fact 10 (f := g10) rfl),
    Hd.fore_ok (c.fact 11 (f := g11) rfl),
    He.glo_ok X G (c.fact 12 (f := g12) rfl),
    He.cls_ok (c.fact 13 (f := g13) rfl),
    Hd.ty_ok (c.fact 14 (f := g14) rfl),
    He.noat_ok (c.fact 15 (f := g15) rfl),
    He.noat_ok (c.fact 16 (f := g16) rfl),
    He.noat_ok (c.fact 17 (f := g17) rfl),
    Hd.fore_ok (c.fact 18 (f := g18) rfl),
    Hd.fore_ok (c.fact 19 (f := g19) rfl),
    Hd.fore_ok (c.fact 20 (f := g20) rfl),
    ⟨_, _, He.glo_ok X G (c.fact 21 (f := g21) rfl), Hd.fun_of F0⟩,
    ⟨_, _, He.glo_ok X G (c.fact 22 (f := g22) rfl), Hd.fun_of F1⟩,
    ⟨_, _, He.glo_ok X G (c.fact 23 (f := g23) rfl), Hd.fun_of F2⟩,
    ⟨_, _, He.glo_ok X G (c.fact 24 (f := g24) rfl), Hd.fun_of F3⟩,
    ⟨_, _, He.glo_ok X G (c.fact 25 (f := g25) rfl), Hd.fun_of F4⟩,
    ⟨_, _, He.glo_ok X G (c.fact 26 (f := g26) rfl), Hd.fun_of F5⟩,
    ⟨He.ga K "Form", _, _, He.mkr_ok (c.fact 27 (f := g27) rfl), Hd.fun_of F6⟩,
    ⟨_, _, _, Hd.prop_ok (c.fact 28 (f := g28) rfl), Hd.fun_of F7⟩,
    ⟨He.ga K "Form", _, _, Hd.eq_ok (c.fact 29 (f := g29) rfl), Hd.fun_of F8⟩,
    ⟨He.ga K "Form", _, _, He.meth_ok (c.fact 30 (f := g30) rfl), Hd.fun_of F9⟩,
    ⟨_, _, He.glo_ok X G (c.fact 31 (f := g31) rfl), Hd.fun_of F10⟩,
    ⟨_, _, He.glo_ok X G (c.fact 32 (f := g32) rfl), Hd.fun_of F11⟩,
    ⟨_, _, He.glo_ok X G (c.fact 33 (f := g33) rfl), Hd.fun_of F12⟩,
    ⟨_, _, He.glo_ok X G (c.fact 34 (f := g34) rfl), Hd.fun_of F13⟩,
    ⟨He.ga K "Ring", _, _, He.mkr_ok (c.fact 35 (f := g35) rfl), Hd.fun_of F14⟩,
    ⟨_, _, _, Hd.prop_ok (c.fact 36 (f := g36) rfl), Hd.fun_of F15⟩,
    ⟨He.ga K "Ring", _, _, He.meth_ok (c.fact 37 (f := g37) rfl), Hd.fun_of F16⟩,
    ⟨He.ga K "Ring", _, _, He.meth_ok (c.fact 38 (f := g38) rfl), Hd.fun_of F17⟩,
    ⟨He.ga K "Ring", _, _, He.meth_ok (c.fact 39 (f := g39) rfl), Hd.fun_of F18⟩,
    ⟨He.ga K "Ring", _, _, He.meth_ok (c.fact 40 (f := g40) rfl), F19⟩,
    ⟨He.ga K "Ring", _, _, Hd.eq_ok (c.fact 41 (f := g41) rfl), Hd.fun_of F20⟩,
    ⟨He.ga K "Ring", _, _, He.meth_ok (c.fact 42 (f := g42) rfl), Hd.fun_of F21⟩,
    ⟨_, _, He.glo_ok X G (c.fact 43 (f := g43) rfl), Hd.fun_of F22⟩,
    ⟨_, _, He.glo_ok X G (c.fact 44 (f := g44) rfl), Hd.fun_of F23⟩,
    ⟨_, _, He.glo_ok X G (c.fact 45 (f := g45) rfl), Hd.fun_of F24⟩,
    ⟨_, _, He.glo_ok X G (c.fact 46 (f := g46) rfl), Hd.fun_of F25⟩,
    ⟨He.ga K "Element", _, _, He.mkr_ok (c.fact 47 (f := g47) rfl), Hd.fun_of F26⟩,
    ⟨_, _, _, Hd.prop_ok (c.fact 48 (f := g48) rfl), Hd.fun_of F27⟩,
    ⟨_, _, _, Hd.prop_ok (c.fact 49 (f := g49) rfl), Hd.fun_of F28⟩,
    ⟨_, _, _, Hd.prop_ok (c.fact 50 (f := g50) rfl), Hd.fun_of F29⟩,
    ⟨He.ga K "Element", _, _, (fun z => ⟨z.1, z.2.1, z.2.2⟩ : _ → BinC K _ _ _) (Hd.bin_ok (c.fact 51 (f := g51) rfl)), Hd.fun_of F30⟩,
    ⟨He.ga K "Element", _, _, (fun z => ⟨z.1, z.2.1, z.2.2⟩ : _ → BinC K _ _ _) (Hd.bin_ok (c.fact 52 (f := g52) rfl)), Hd.fun_of F31⟩,
    ⟨He.ga K "Element", _, _, (fun z => ⟨z.1, z.2.1, z.2.2⟩ : _ → BinC K _ _ _) (Hd.bin_ok (c.fact 53 (f := g53) rfl)), Hd.fun_of F32⟩,
    ⟨He.ga K "Element", _, _, He.meth_ok (c.fact 54 (f := g54) rfl), Hd.fun_of F33⟩,
    ⟨He.ga K "Element", _, _, He.meth_ok (c.fact 55 (f := g55) rfl), Hd.fun_of F34⟩,
    ⟨He.ga K "Element", _, _, Hd.eq_ok (c.fact 56 (f := g56) rfl), Hd.fun_of F35⟩,
    ⟨He.ga K "Element", _, _, He.meth_ok (c.fact 57 (f := g57) rfl), Hd.fun_of F36⟩,
    ⟨_, _, He.glo_ok X G (c.fact 58 (f := g58) rfl), Hd.fun_of F37⟩,
    ⟨_, _, He.glo_ok X G (c.fact 59 (f := g59) rfl), Hd.fun_of F38⟩,
    ⟨_, _, He.glo_ok X G (c.fact 60 (f := g60) rfl), Hd.fun_of F39⟩,
    ⟨_, _, He.glo_ok X G (c.fact 61 (f := g61) rfl), Hd.fun_of F40⟩,
    ⟨_, _, He.glo_ok X G (c.fact 62 (f := g62) rfl), Hd.fun_of F41⟩,
    ⟨_, _, He.glo_ok X G (c.fact 63 (f := g63) rfl), Hd.fun_of F42⟩,
    ⟨_, _, He.glo_ok X G (c.fact 64 (f := g64) rfl), Hd.fun_of F43⟩,
    ⟨_, _, He.glo_ok X G (c.fact 65 (f := g65) rfl), Hd.fun_of F44⟩,
    ⟨_, _, He.glo_ok X G (c.fact 66 (f := g66) rfl), Hd.fun_of F45⟩,
    ⟨_, _, He.glo_ok X G (c.fact 67 (f := g67) rfl), Hd.fun_of F46⟩,
    ⟨_, _, He.glo_ok X G (c.fact 68 (f := g68) rfl), Hd.fun_of F47⟩,
    ⟨_, _, He.glo_ok X G (c.fact 69 (f := g69) rfl), Hd.fun_of F48⟩,
    ⟨_, _, He.glo_ok X G (c.fact 70 (f := g70) rfl), Hd.fun_of F49⟩,
    He.free_ok X G (c.fact 71 (f := g71) rfl),
    He.free_ok X G (c.fact 72 (f := g72) rfl),
    He.free_ok X G (c.fact 73 (f := g73) rfl),
    He.free_ok X G (c.fact 74 (f := g74) rfl),
    He.free_ok X G (c.fact 75 (f := g75) rfl),
    He.free_ok X G (c.fact 76 (f := g76) rfl),
    He.free_ok X G (c.fact 77 (f := g77) rfl),
    He.free_ok X G (c.fact 78 (f := g78) rfl),
    He.free_ok X G (c.fact 79 (f := g79) rfl),
    He.free_ok X G (c.fact 80 (f := g80) rfl),
    He.free_ok X G (c.fact 81 (f := g81) rfl),
    He.free_ok X G (c.fact 82 (f := g82) rfl),
    He.free_ok X G (c.fact 83 (f := g83) rfl),
    He.int_ok X G (c.fact 84 (f := g84) rfl),
    Hd.blt_ok X G (c.fact 85 (f := g85) rfl),
    ⟨_, He.glo_ok X G (c.fact 90 (f := g90) rfl), fun H => ⟨_, _, _, Hd.refs_ok (c.fact 86 (f := g86) rfl) H, Hd.ints_ok (c.fact 87 (f := g87) rfl) H, Hd.ints_ok (c.fact 88 (f := g88) rfl) H, Hd.ints_ok (c.fact 89 (f := g89) rfl) H⟩⟩⟩
  have e := hfa.symm.trans (He.glo_ok X G (c.fact 70 (f := g70) rfl))
  cases e
  have b := FunD.bindsA (ps := ["_law_script"]) F49 fun _ _ _ _ _ _ us hl => match us, hl with | [_], _ => rfl
  exact ⟨fd49, fun s v => b s [v] rfl, fun base _ _ => ok_law0 (P := P) (w := w) (base := base) T (Hd.fun_of F49)⟩
end RG
open PySem PySem.W PySem.Calls PyProof.Rows
set_option maxHeartbeats 0 in
theorem PySem.Challenge.cw_formrings_k18_whole_texts_and_equality_o_holds : PySem.Challenge.rw_formrings_k18_whole_texts_and_equality_o.Holds := by
  w_on; o_law
  refine HandSHeadRun.head_imp (r := OpenLaw.row PySem.Challenge.rw_formrings_k18_whole_texts_and_equality_o) (q := RG.vw) (H := RG.hk) (ob := RG.ob) (M := 12000) (loose := RG.names) (d := HandSHeadRun.topDef (OpenLaw.row PySem.Challenge.rw_formrings_k18_whole_texts_and_equality_o).prog 62) (kwd := []) RG.ob_eq RG.run (by kernel_rfl) (by kernel_rfl) (by kernel_rfl) (by rfl) (by first | assumption | decide +kernel) (by decide +kernel) ⟨rfl, rfl, rfl, rfl, rfl, by decide +kernel⟩ ?hw ?hc
  case hw => w_witness2
  case hc =>
    refine Gd.walkG (l := PySem.Challenge.rw_formrings_k18_whole_texts_and_equality_o) (n := 63) (k := 10) (x := "_law_script") rfl (by decide) (by kernel_rfl) ⟨rfl, by decide, by decide⟩ ?F
    intro w mg fa h Y G hmg0
    obtain ⟨K, KX, c⟩ := Y
    have hmg : mg ("law" : PySem.Str) = some (.ref fa) := by
      have e : (HandSHeadRun.topDef (OpenLaw.row PySem.Challenge.rw_formrings_k18_whole_texts_and_equality_o).prog 62).name = ("law" : PySem.Str) := by kernel_rfl
      rw [← e]
      exact hmg0
    obtain ⟨fd, hb, hF⟩ := RG.facts (P := (PySem.Challenge.rw_formrings_k18_whole_texts_and_equality_o).prog) (w := w) KX G hmg c
    exact ⟨K, fd, RG.sp_lawW K, KX, hb, fun H a ns hl _ hS => ⟨a, ns, rfl, hS, hl, fun _ => rfl⟩, hF⟩
