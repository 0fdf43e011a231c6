import Derived.Test.YtkpebabbnndopaaGreatDoorRows
import Derived.Test.YtkpebabbnndopaaGreatDoorC07
import Derived.Test.YtkpebabbnndopaaGreatDoorC01
import Derived.Test.YtkpebabbnndopaaGreatDoorC04
import Derived.WalkKit
import Derived.WalkSpells
import Derived.WalkLawsBesides
import Derived.Deep.WholeRow
import Derived.Test.YtkpebabbnndopaaGreatDoorC03
import Derived.Defers
import Derived.Conc.MuLone
import Derived.Test.YtkpebabbnndopaaGreatDoorC05
/- epochref.Part, which calls itself. -/
namespace Go.Proofs.YtkpebabbnndopaaGreatDoor
open Go.RowKit

/-- 'ret' of an array that was stored into the result's cell -/
abbrev C0 : Array Value := Cells8 fun _ => 0

/-- the world behind the two new blocks of a call of the kind (box of a secret, result's cell), then a callee: the result's cell is as it was -/
theorem cell1 (w w1 : World) (A : Obj) (hb1 : Below ((w.alloc A).alloc (.cells C0 51)).heap.size ((w.alloc A).alloc (.cells C0 51)) w1) :
    w1.heap[w.heap.size + 1]? = some (.cells C0 51 (0, 0)) ∧ Below w.heap.size w w1 ∧ w.heap.size + 2 ≤ w1.heap.size := by
  have hsz := hb1.size
  simp at hsz
  refine ⟨?_, (((Below.refl _ w).alloc (Nat.le_refl _) _).alloc (by simp) _).trans (hb1.mono (by simp; omega)), by omega⟩
  rw [hb1.block _ (by simp)]
  have e := (MapKept.heap_alloc (w.alloc A) (.cells C0 51)).1
  simp only [World.size_alloc] at e
  exact e

set_option maxHeartbeats 1000000 in
theorem refPart_any (k : Nat) : ∀ (s : Nat → Int) (_ : ∀ i, 0 ≤ s i ∧ s i < 256) (f t m : Int) (w : World), 0 ≤ f → t ≤ 16 → f ≤ m → m < t → t - f ≤ k + 1 →
    Calls Tryz.prog 79 #[Agg8 s, .int .i64 f, .int .i64 t, .int .i64 m, .int .i64 (m + 1)] w fun e w' => e = .returned (Agg8 (LeafB k s f t m)) ∧ Below w.heap.size w w' := by
  induction k with
  | zero =>
    intro s hs f t m w hf ht hfm hmt htf
    obtain rfl : f = m := by omega
    obtain rfl : t = f + 1 := by omega
    go_enter Tryz.func79, Tryz.ntmps79
    go_wp2_with fail
    exact bodyPost_ret (v := Agg8 s) (by simp [results, Tryz.results79, go_sem]) rfl ⟨rfl, ((Below.refl _ w).alloc (Nat.le_refl _) _).alloc (by simp) _⟩
  | succ k ih =>
    intro s hs f t m w hf ht hfm hmt htf
    by_cases h1 : t - f ≤ 1
    · obtain rfl : f = m := by omega
      obtain rfl : t = f + 1 := by omega
      rw [LeafB_one _ _ _ _ _ h1]
      go_enter Tryz.func79, Tryz.ntmps79
      go_wp2_with fail
      exact bodyPost_ret (v := Agg8 s) (by simp [results, Tryz.results79, go_sem]) rfl ⟨rfl, ((Below.refl _ w).alloc (Nat.le_refl _) _).alloc (by simp) _⟩
    · have hsp := SplitI_bd (t - f) (by omega)
      have HSP : Hid (∀ W, Calls Tryz.prog 110 #[.int .i64 (t - f)] W fun e w' => e = .returned (.int .i64 (SplitI (t - f))) ∧ w' = W) := fun W => split_any (t - f) (by omega) (by omega) W
      by_cases h2 : m < f + SplitI (t - f)
      · rw [LeafB_left _ _ _ _ _ (by omega) h2]
        by_cases hne : m = f
        · subst hne
          obtain ⟨L, hL⟩ : ∃ L, DerB s lLeft 0 = L := ⟨_, rfl⟩
          have hLb : ∀ i, 0 ≤ L i ∧ L i < 256 := fun i => by rw [← hL]; exact DerB_bd _ _ _ _
          have HD : Hid (∀ W, Calls Tryz.prog 31 #[Agg8 s, .string ⟨#[108, 101, 102, 116]⟩, .int .i64 0] W fun e w' => e = .returned (Agg8 L) ∧ Below W.heap.size W w') := fun W => by
            have h := refDerive_any s hs ⟨#[108, 101, 102, 116]⟩ (by decide) 0 W
            rw [← hL]
            exact h
          rw [hL]
          clear hL
          have HP : Hid (∀ W, Calls Tryz.prog 79 #[Agg8 L, .int .i64 (m), .int .i64 (m + SplitI (t - m)), .int .i64 m, .int .i64 (m + 1)] W fun e w' => e = .returned (Agg8 (LeafB k L (m) (m + SplitI (t - m)) m)) ∧ Below W.heap.size W w') := fun W => ih L hLb _ _ m W (by omega) (by omega) (by omega) (by omega) (by omega)
          obtain ⟨X, hX⟩ : ∃ X, LeafB k L (m) (m + SplitI (t - m)) m = X := ⟨_, rfl⟩
          rw [hX] at HP ⊢
          obtain ⟨q, hq⟩ : ∃ q, SplitI (t - m) = q := ⟨_, rfl⟩
          rw [hq] at HP HSP hsp h2
          clear hX ih hq hLb
          have hnt : ¬ t = m + 1 := by omega
          go_enter Tryz.func79, Tryz.ntmps79
          go_wp2_with (first | (go_at_call 110; refine (HSP.out _).mono ?_; rintro e w' ⟨rfl, rfl⟩))
          refine (HD.out _).mono ?_
          rintro e w1 ⟨rfl, b1⟩
          obtain ⟨c1, d1, z1⟩ := cell1 _ _ _ b1
          clear b1
          go_wp2_with fail
          refine (HP.out _).mono ?_
          rintro e w2 ⟨rfl, b2⟩
          have c2 : w2.heap[w.heap.size + 1]? = some (.cells C0 51 (0, 0)) := by rw [b2.block _ (by simp; omega), Below.heap_alloc _ _ _ (by omega), c1]
          have d2 : Below w.heap.size w w2 := (d1.alloc (by omega) _).trans (b2.mono (by simp; omega))
          clear b2 c1 d1 HP HD HSP
          go_wp2_with (refine wpList_store_row rfl 51 _ _ rfl (w.heap.size + 1) (Cells8 X) rfl rfl 51 C0 c2 (by kernel_rfl) rfl (by simp [Value.oneCell']) ?_)
          exact bodyPost_ret (v := Agg8 X) (results_cell_row rfl _ _ (w.heap.size + 1) 51 (Cells8 X) (0, 0) _ rfl (setRow_heap _ _ _ _ _ _ c2) Tryz.underlying51 rfl (by kernel_rfl)) rfl ⟨rfl, below_setRow d2 (by omega) _⟩
        · have hnf : ¬ f = m := fun h => hne h.symm
          obtain ⟨L, hL⟩ : ∃ L, DerB s lLeft 0 = L := ⟨_, rfl⟩
          have hLb : ∀ i, 0 ≤ L i ∧ L i < 256 := fun i => by rw [← hL]; exact DerB_bd _ _ _ _
          have HD : Hid (∀ W, Calls Tryz.prog 31 #[Agg8 s, .string ⟨#[108, 101, 102, 116]⟩, .int .i64 0] W fun e w' => e = .returned (Agg8 L) ∧ Below W.heap.size W w') := fun W => by
            have h := refDerive_any s hs ⟨#[108, 101, 102, 116]⟩ (by decide) 0 W
            rw [← hL]
            exact h
          rw [hL]
          clear hL
          have HP : Hid (∀ W, Calls Tryz.prog 79 #[Agg8 L, .int .i64 (f), .int .i64 (f + SplitI (t - f)), .int .i64 m, .int .i64 (m + 1)] W fun e w' => e = .returned (Agg8 (LeafB k L (f) (f + SplitI (t - f)) m)) ∧ Below W.heap.size W w') := fun W => ih L hLb _ _ m W (by omega) (by omega) (by omega) (by omega) (by omega)
          obtain ⟨X, hX⟩ : ∃ X, LeafB k L (f) (f + SplitI (t - f)) m = X := ⟨_, rfl⟩
          rw [hX] at HP ⊢
          obtain ⟨q, hq⟩ : ∃ q, SplitI (t - f) = q := ⟨_, rfl⟩
          rw [hq] at HP HSP hsp h2
          clear hX ih hq hLb
          clear hne
          go_enter Tryz.func79, Tryz.ntmps79
          go_wp2_with (first | (go_at_call 110; refine (HSP.out _).mono ?_; rintro e w' ⟨rfl, rfl⟩))
          refine (HD.out _).mono ?_
          rintro e w1 ⟨rfl, b1⟩
          obtain ⟨c1, d1, z1⟩ := cell1 _ _ _ b1
          clear b1
          go_wp2_with fail
          refine (HP.out _).mono ?_
          rintro e w2 ⟨rfl, b2⟩
          have c2 : w2.heap[w.heap.size + 1]? = some (.cells C0 51 (0, 0)) := by rw [b2.block _ (by simp; omega), Below.heap_alloc _ _ _ (by omega), c1]
          have d2 : Below w.heap.size w w2 := (d1.alloc (by omega) _).trans (b2.mono (by simp; omega))
          clear b2 c1 d1 HP HD HSP
          go_wp2_with (refine wpList_store_row rfl 51 _ _ rfl (w.heap.size + 1) (Cells8 X) rfl rfl 51 C0 c2 (by kernel_rfl) rfl (by simp [Value.oneCell']) ?_)
          exact bodyPost_ret (v := Agg8 X) (results_cell_row rfl _ _ (w.heap.size + 1) 51 (Cells8 X) (0, 0) _ rfl (setRow_heap _ _ _ _ _ _ c2) Tryz.underlying51 rfl (by kernel_rfl)) rfl ⟨rfl, below_setRow d2 (by omega) _⟩
      · rw [LeafB_right _ _ _ _ _ (by omega) h2]
        have hnf : ¬ f = m := by omega
        obtain ⟨L, hL⟩ : ∃ L, DerB s lRight 0 = L := ⟨_, rfl⟩
        have hLb : ∀ i, 0 ≤ L i ∧ L i < 256 := fun i => by rw [← hL]; exact DerB_bd _ _ _ _
        have HD : Hid (∀ W, Calls Tryz.prog 31 #[Agg8 s, .string ⟨#[114, 105, 103, 104, 116]⟩, .int .i64 0] W fun e w' => e = .returned (Agg8 L) ∧ Below W.heap.size W w') := fun W => by
          have h := refDerive_any s hs ⟨#[114, 105, 103, 104, 116]⟩ (by decide) 0 W
          rw [← hL]
          exact h
        rw [hL]
        clear hL
        have HP : Hid (∀ W, Calls Tryz.prog 79 #[Agg8 L, .int .i64 (f + SplitI (t - f)), .int .i64 (t), .int .i64 m, .int .i64 (m + 1)] W fun e w' => e = .returned (Agg8 (LeafB k L (f + SplitI (t - f)) (t) m)) ∧ Below W.heap.size W w') := fun W => ih L hLb _ _ m W (by omega) (by omega) (by omega) (by omega) (by omega)
        obtain ⟨X, hX⟩ : ∃ X, LeafB k L (f + SplitI (t - f)) (t) m = X := ⟨_, rfl⟩
        rw [hX] at HP ⊢
        obtain ⟨q, hq⟩ : ∃ q, SplitI (t - f) = q := ⟨_, rfl⟩
        rw [hq] at HP HSP hsp h2
        clear hX ih hq hLb
        skip
        go_enter Tryz.func79, Tryz.ntmps79
        go_wp2_with (first | (go_at_call 110; refine (HSP.out _).mono ?_; rintro e w' ⟨rfl, rfl⟩))
        refine (HD.out _).mono ?_
        rintro e w1 ⟨rfl, b1⟩
        obtain ⟨c1, d1, z1⟩ := cell1 _ _ _ b1
        clear b1
        go_wp2_with fail
        refine (HP.out _).mono ?_
        rintro e w2 ⟨rfl, b2⟩
        have c2 : w2.heap[w.heap.size + 1]? = some (.cells C0 51 (0, 0)) := by rw [b2.block _ (by simp; omega), Below.heap_alloc _ _ _ (by omega), c1]
        have d2 : Below w.heap.size w w2 := (d1.alloc (by omega) _).trans (b2.mono (by simp; omega))
        clear b2 c1 d1 HP HD HSP
        go_wp2_with (refine wpList_store_row rfl 51 _ _ rfl (w.heap.size + 1) (Cells8 X) rfl rfl 51 C0 c2 (by kernel_rfl) rfl (by simp [Value.oneCell']) ?_)
        exact bodyPost_ret (v := Agg8 X) (results_cell_row rfl _ _ (w.heap.size + 1) 51 (Cells8 X) (0, 0) _ rfl (setRow_heap _ _ _ _ _ _ c2) Tryz.underlying51 rfl (by kernel_rfl)) rfl ⟨rfl, below_setRow d2 (by omega) _⟩
end Go.Proofs.YtkpebabbnndopaaGreatDoor

/- Leaf. -/
namespace Go.Proofs.YtkpebabbnndopaaGreatDoor
open Go.RowKit

/-- the leaf that is come to is LeafB's -/
theorem spl_leaf (k : Nat) : ∀ (f t : Nat) (s : Nat → Int) (m : Nat), f ≤ m → m < t → t - f ≤ k + 1 → ((⟨f, t, s⟩ : PartD).spl k m).s = LeafB k s f t m := by
  induction k with
  | zero => intro f t s m h1 h2 h3; rfl
  | succ k ih =>
    intro f t s m h1 h2 h3
    by_cases hgt : t - f ≤ 1
    · rw [PartD.spl_one _ _ _ hgt, LeafB_one _ _ _ _ _ (by omega)]
    · have e : ((t : Int) - f) = ((t - f : Nat) : Int) := by omega
      have hb := SplitN_bd (t - f) (by omega)
      by_cases hm : m < f + SplitN (t - f)
      · rw [PartD.spl_left k ⟨f, t, s⟩ m hgt hm, LeafB_left _ _ _ _ _ (by omega) (by rw [e, SplitN_eq]; omega)]
        have := ih f (f + SplitN (t - f)) (DerB s lLeft 0) m h1 hm (by omega)
        rw [e, SplitN_eq]
        exact this
      · rw [PartD.spl_right k ⟨f, t, s⟩ m hgt hm, LeafB_right _ _ _ _ _ (by omega) (by rw [e, SplitN_eq]; omega)]
        have := ih (f + SplitN (t - f)) t (DerB s lRight 0) m (by omega) h2 (by omega)
        rw [e, SplitN_eq]
        exact this
end Go.Proofs.YtkpebabbnndopaaGreatDoor

/- What is kept, as plain data. -/
namespace Go.Proofs.YtkpebabbnndopaaGreatDoor
open Go.RowKit

theorem node_norm (k : Nat) : ∀ m f t a b, NodeB k f t a b = true → t - f ≤ m + 1 → NodeB m f t a b = true ∧ ∀ s, PartB k s f t a b = PartB m s f t a b := by
  induction k with
  | zero =>
    intro m f t a b h hm
    simp [NodeB] at h
    obtain ⟨rfl, rfl⟩ := h
    refine ⟨NodeB_zero _ _ _, fun s => ?_⟩
    cases m with
    | zero => rfl
    | succ m => rw [PartB_succ, if_pos ⟨rfl, rfl⟩]; rfl
  | succ k ih =>
    intro m f t a b h hm
    by_cases e : f = a ∧ t = b
    · obtain ⟨rfl, rfl⟩ := e
      refine ⟨NodeB_zero _ _ _, fun s => ?_⟩
      rw [PartB_succ, if_pos ⟨rfl, rfl⟩]
      cases m with
      | zero => rfl
      | succ m => rw [PartB_succ, if_pos ⟨rfl, rfl⟩]
    · rw [NodeB_succ, decide_eq_false e, Bool.false_or, Bool.and_eq_true, decide_eq_true_eq] at h
      obtain ⟨h2, h3⟩ := h
      have hq := SplitN_bd (t - f) h2
      obtain ⟨m, rfl⟩ : ∃ m', m = m' + 1 := ⟨m - 1, by omega⟩
      by_cases ha : a < f + SplitN (t - f)
      · rw [if_pos ha] at h3
        obtain ⟨x1, x2⟩ := ih m _ _ _ _ h3 (by omega)
        refine ⟨?_, fun s => ?_⟩
        · rw [NodeB_succ, decide_eq_false e, Bool.false_or, Bool.and_eq_true, if_pos ha]; exact ⟨by simpa using h2, x1⟩
        · rw [PartB_succ, PartB_succ, if_neg e, if_neg e, if_pos ha, if_pos ha]; exact x2 _
      · rw [if_neg ha] at h3
        obtain ⟨x1, x2⟩ := ih m _ _ _ _ h3 (by omega)
        refine ⟨?_, fun s => ?_⟩
        · rw [NodeB_succ, decide_eq_false e, Bool.false_or, Bool.and_eq_true, if_neg ha]; exact ⟨by simpa using h2, x1⟩
        · rw [PartB_succ, PartB_succ, if_neg e, if_neg e, if_neg ha, if_neg ha]; exact x2 _
/-- a part of a group's tree; its secret -/
def St.node (st : St) (a b : Nat) : Prop := NodeB 16 0 st.n a b = true
def St.part (st : St) (a b : Nat) : Nat → Int := PartB 16 st.s 0 st.n a b
theorem St.node_all (st : St) : st.node 0 st.n := NodeB_zero _ _ _
theorem St.part_all (st : St) : st.part 0 st.n = st.s := by unfold St.part; rw [PartB_succ, if_pos ⟨rfl, rfl⟩]
theorem St.node_in {st : St} (ok : st.Ok) {a b : Nat} (h : st.node a b) : a < b ∧ b ≤ st.n := by
  have := NodeB_in _ _ _ _ _ h ok.n1
  omega
theorem St.halves {st : St} (ok : st.Ok) {a b : Nat} (h : st.node a b) (h2 : 2 ≤ b - a) :
    (st.node a (a + SplitN (b - a)) ∧ st.part a (a + SplitN (b - a)) = DerB (st.part a b) lLeft 0) ∧ (st.node (a + SplitN (b - a)) b ∧ st.part (a + SplitN (b - a)) b = DerB (st.part a b) lRight 0) := by
  have h16 := ok.n16
  obtain ⟨⟨x1, x2⟩, x3, x4⟩ := part_halves 16 st.s 0 st.n a b h ok.n1 h2
  obtain ⟨y1, y2⟩ := node_norm 17 16 0 st.n _ _ x1 (by omega)
  obtain ⟨y3, y4⟩ := node_norm 17 16 0 st.n _ _ x3 (by omega)
  exact ⟨⟨y1, by unfold St.part; rw [← y2, x2]⟩, y3, by unfold St.part; rw [← y4, x4]⟩
theorem St.part_bd {st : St} (ok : st.Ok) (a b : Nat) : ∀ i, 0 ≤ st.part a b i ∧ st.part a b i < 256 := PartB_bd _ _ _ _ _ _ ok.hs
theorem St.part_leaf {st : St} (ok : st.Ok) (m : Nat) (h : m < st.n) : st.node m (m + 1) ∧ st.part m (m + 1) = LeafM st.s st.n m := by
  have h16 := ok.n16
  obtain ⟨x1, x2⟩ := PartB_leaf 16 st.s 0 st.n m (by omega) h (by omega)
  exact ⟨x2, x1⟩
/-- an item that is kept -/
structure It where
  kind : Nat
  f : Nat
  t : Nat
  g : Nat
  s : Nat → Int
def It.cells (x : It) : List Value := [.int .i64 x.kind, .int .i64 x.f, .int .i64 x.t, .int .i64 x.g, .int .u8 (x.s 0), .int .u8 (x.s 1), .int .u8 (x.s 2), .int .u8 (x.s 3), .int .u8 (x.s 4), .int .u8 (x.s 5), .int .u8 (x.s 6), .int .u8 (x.s 7)]
def itCells (l : List It) : List Value := l.flatMap It.cells
theorem itCells_length (l : List It) : (itCells l).length = l.length * 12 := by
  induction l with
  | nil => rfl
  | cons x l ih =>
    have : itCells (x :: l) = x.cells ++ itCells l := rfl
    rw [this, List.length_append, ih, List.length_cons]
    have : x.cells.length = 12 := rfl
    omega
theorem itCells_append (l m : List It) : itCells (l ++ m) = itCells l ++ itCells m := by unfold itCells; rw [List.flatMap_append]
theorem itCells_one (l : List It) : ∀ u, u ∈ itCells l → u.oneCell' = true := by
  intro u hu
  unfold itCells at hu
  obtain ⟨x, _, hx⟩ := List.mem_flatMap.1 hu
  unfold It.cells at hx
  simp at hx
  rcases hx with rfl | rfl | rfl | rfl | rfl | rfl | rfl | rfl | rfl | rfl | rfl | rfl <;> rfl
/-- has one of the members from f to t - 1 begun? -/
def St.begun (st : St) (f t : Nat) : Bool := (List.range (t - f)).any fun i => (st.m (f + i)).begun
theorem St.begun_self (st : St) (f : Nat) : st.begun f f = false := by unfold St.begun; rw [Nat.sub_self]; rfl
theorem St.begun_step (st : St) (f t : Nat) (h : f ≤ t) : st.begun f (t + 1) = (st.begun f t || (st.m t).begun) := by
  unfold St.begun
  have e : t + 1 - f = (t - f) + 1 := by omega
  rw [e, List.range_succ, List.any_append]
  have e2 : f + (t - f) = t := by omega
  simp [e2]
/-- the parts of the tree that are kept -/
def St.parts (st : St) : Nat → Nat → Nat → List It
  | 0, f, t => if st.begun f t then [] else [⟨0, f, t, 0, st.part f t⟩]
  | k + 1, f, t => if st.begun f t then (if t - f = 1 then [] else st.parts k f (f + SplitN (t - f)) ++ st.parts k (f + SplitN (t - f)) t) else [⟨0, f, t, 0, st.part f t⟩]
theorem St.parts_not (st : St) (k f t : Nat) (h : st.begun f t = false) : st.parts k f t = [⟨0, f, t, 0, st.part f t⟩] := by
  cases k <;> (unfold St.parts; rw [h]; rfl)
theorem St.parts_one (st : St) (k f t : Nat) (h : st.begun f t = true) (h1 : t - f = 1) : st.parts k f t = [] := by
  cases k with
  | zero => unfold St.parts; rw [h]; rfl
  | succ k => unfold St.parts; rw [h, if_pos rfl, if_pos h1]
theorem St.parts_two (st : St) (k f t : Nat) (h : st.begun f t = true) (h1 : ¬ t - f = 1) : st.parts (k + 1) f t = st.parts k f (f + SplitN (t - f)) ++ st.parts k (f + SplitN (t - f)) t := by
  rw [St.parts, h, if_pos rfl, if_neg h1]
theorem St.parts_len (st : St) (k : Nat) : ∀ f t, f < t → (st.parts k f t).length ≤ t - f := by
  induction k with
  | zero => intro f t h; unfold St.parts; split <;> simp; omega
  | succ k ih =>
    intro f t h
    rw [St.parts]
    split
    · split
      · simp
      · have hq := SplitN_bd (t - f) (by omega)
        have h1 := ih f (f + SplitN (t - f)) (by omega)
        have h2 := ih (f + SplitN (t - f)) t (by omega)
        rw [List.length_append]
        omega
    · simp; omega
def St.ratAt (st : St) (who gen : Nat) : Nat → Int := RatM st.s st.n who gen
def St.heads (st : St) : Nat → List It
  | 0 => []
  | i + 1 => st.heads i ++ (if (st.m i).begun && decide ((st.m i).next ≤ 65535) then [⟨1, i, i + 1, (st.m i).next, st.ratAt i (st.m i).next⟩] else [])
theorem St.heads_len (st : St) (n : Nat) : (st.heads n).length ≤ n := by
  induction n with
  | zero => exact Nat.le_refl _
  | succ n ih => rw [St.heads, List.length_append]; split <;> simp <;> omega
/-- the keys of one member that were passed over; of all -/
def St.kept1 (st : St) (i : Nat) : List Nat → List It := List.map fun g => ⟨2, i, i + 1, g, KeyM st.s st.n i g⟩
def St.kepts (st : St) : Nat → List It
  | 0 => []
  | i + 1 => st.kepts i ++ st.kept1 i (st.m i).over
theorem St.kepts_len (st : St) (ok : st.Ok) (n : Nat) : (st.kepts n).length ≤ 4 * n := by
  induction n with
  | zero => exact Nat.le_refl _
  | succ n ih =>
    have := (ok.m n).2.1
    rw [St.kepts, List.length_append]
    unfold St.kept1
    rw [List.length_map]
    omega
/-- P13 -/
def St.dump (st : St) : List It := if st.closed then [] else st.parts 16 0 st.n ++ st.heads st.n ++ st.kepts st.n
end Go.Proofs.YtkpebabbnndopaaGreatDoor

/- (*Group).derive: the atomic count. -/
namespace Go.Proofs.YtkpebabbnndopaaGreatDoor
open Go.RowKit

theorem ctr_add (k : Nat) : wrap64 (IntKind.i64.wrap k + 1) = IntKind.i64.wrap (k + 1 : Nat) := by
  simp only [wrap64, IntKind.wrap_i64]; omega
theorem atomicAdd_any (b : Nat) (cs : Array Value) (t : TypeId) (k : Nat) (w : World) (h : w.heap[b]? = some (.cells cs t (0, 0))) (hc : cs[ctrOff]? = some (ctr k)) :
    Calls Tryz.prog 88 #[.pointer (some ⟨b, ctrOff, none⟩), .int .i64 1] w fun e w' => e = .returned (ctr (k + 1)) ∧ w' = w.setCell ⟨b, ctrOff, none⟩ (ctr (k + 1)) := by
  have c1 : w.cell? ⟨b, ctrOff, none⟩ = some (ctr k) := by rw [cell_of_row _ _ _ _ _ _ h, hc]
  have f1 : w.frozen? ⟨b, ctrOff, none⟩ = false := frozen_of_row _ _ _ _ _ h
  have hadd := run_call_add (P := Tryz.prog) Tryz.func123 (by kernel_rfl) (by kernel_rfl) (by kernel_rfl) .i64 (by kernel_rfl) (y := 1) (s := wrap64 (IntKind.i64.wrap k + 1)) c1 f1 (by simp [go_sem, wrap64, IntKind.wrap_i64])
  rw [ctr_add] at hadd
  show Calls _ _ _ _ fun e w' => e = .returned (.int .i64 (IntKind.i64.wrap (k + 1 : Nat))) ∧ w' = w.setCell ⟨b, ctrOff, none⟩ (.int .i64 (IntKind.i64.wrap (k + 1 : Nat)))
  generalize IntKind.i64.wrap (k + 1 : Nat) = y at *
  clear c1 f1 h hc
  go_enter Tryz.func88, Tryz.ntmps88
  go_wp2_with fail
  go_ret
  exact ⟨rfl, rfl⟩
theorem atomicLoad_any (b : Nat) (cs : Array Value) (t : TypeId) (k : Nat) (w : World) (h : w.heap[b]? = some (.cells cs t (0, 0))) (hc : cs[ctrOff]? = some (ctr k)) :
    Calls Tryz.prog 57 #[.pointer (some ⟨b, ctrOff, none⟩)] w fun e w' => e = .returned (ctr k) ∧ w' = w := by
  have c1 : w.cell? ⟨b, ctrOff, none⟩ = some (ctr k) := by rw [cell_of_row _ _ _ _ _ _ h, hc]
  have hl := run_call_load (P := Tryz.prog) Tryz.func96 (by kernel_rfl) (by kernel_rfl) (by kernel_rfl) .i64 (by kernel_rfl) c1
  show Calls _ _ _ _ fun e w' => e = .returned (.int .i64 (IntKind.i64.wrap k)) ∧ w' = w
  generalize IntKind.i64.wrap k = y at *
  clear c1 h hc
  go_enter Tryz.func57, Tryz.ntmps57
  go_wp2_with fail
  go_ret
  exact ⟨rfl, rfl⟩
theorem derive_g (c : Nat) : Drv 46 #[.pointer (some ⟨c, 0, none⟩)] (some c) := by
  refine ⟨fun args W => by simp [callFunc, go_sem, Tryz.func46, Tryz.f46], fun s hs l hl n W hq => ?_⟩
  obtain ⟨cs, t, k, h, hc⟩ := hq c rfl
  have hlt : c < W.heap.size := (Array.getElem?_eq_some_iff.1 h).1
  have HD : Hid (∀ W, Calls Tryz.prog 30 #[Agg8 s, .string l, .int .i64 n] W fun e w' => e = .returned (Agg8 (DerB s l.data.toList n)) ∧ Below W.heap.size W w') := fun W => derive_any s hs l hl n W
  obtain ⟨D, hD⟩ : ∃ D, DerB s l.data.toList n = D := ⟨_, rfl⟩
  rw [hD] at HD ⊢
  clear hD hs hl
  obtain ⟨W2, hW2⟩ : ∃ W2, ((W.alloc (.cells (Cells8 s) 51)).alloc (.cells (Cells8 fun _ => 0) 51)) = W2 := ⟨_, rfl⟩
  have h2 : W2.heap[c]? = some (.cells cs t (0, 0)) := by rw [← hW2, Below.heap_alloc _ _ _ (by simp; omega), Below.heap_alloc _ _ _ hlt, h]
  have k2 : W2.heap[W.heap.size]? = some (.cells (Cells8 s) 51 (0, 0)) := by rw [← hW2, Below.heap_alloc _ _ _ (by simp), (MapKept.heap_alloc _ _).1]
  have r2 : W2.heap[W.heap.size + 1]? = some (.cells (Cells8 fun _ => 0) 51 (0, 0)) := by
    rw [← hW2]
    have e := (MapKept.heap_alloc (W.alloc (.cells (Cells8 s) 51)) (.cells (Cells8 fun _ => 0) 51)).1
    simp only [World.size_alloc] at e
    exact e
  have b2 : Below W.heap.size W W2 := by rw [← hW2]; exact ((Below.refl _ W).alloc (Nat.le_refl _) _).alloc (by simp) _
  have HA : Hid (Calls Tryz.prog 88 #[.pointer (some ⟨c, ctrOff, none⟩), .int .i64 1] W2 fun e w' => e = .returned (ctr (k + 1)) ∧ w' = W2.setCell ⟨c, ctrOff, none⟩ (ctr (k + 1))) := atomicAdd_any c cs t k W2 h2 hc
  obtain ⟨W3, hW3⟩ : ∃ W3, W2.setCell ⟨c, ctrOff, none⟩ (ctr (k + 1)) = W3 := ⟨_, rfl⟩
  have t3 : Tick (some c) 1 W W3 := by
    refine ⟨?_, ?_, ?_, ?_, fun i hi hn => ?_, fun d hd cs' t' k' e1 e2 => ?_⟩
    · rw [← hW3]; exact b2.os
    · rw [← hW3]; exact b2.tape
    · rw [← hW3]; exact b2.output
    · rw [← hW3]; simpa [World.setCell] using b2.size
    · rw [← hW3, Below.heap_setCell _ _ _ _ (fun e => hn (by rw [show i = c from e])), b2.block _ hi]
    · cases hd
      rw [h] at e1
      cases e1
      rw [hc] at e2
      have e3 : ctr (k + 1) = ctr (k' + 1) := by
        unfold ctr at e2 ⊢
        simp only [Option.some.injEq, Value.int.injEq, true_and, IntKind.wrap_i64] at e2 ⊢
        push_cast
        omega
      rw [← hW3, setCell_eq_setRow W2 c ctrOff cs _ (0, 0) _ h2, setRow_heap _ _ _ _ _ _ h2, e3]
  have k3 : W3.heap[W.heap.size]? = some (.cells (Cells8 s) 51 (0, 0)) := by rw [← hW3, heap_setCell_other _ _ _ _ (by show W.heap.size ≠ c; omega), k2]
  have r3 : W3.heap[W.heap.size + 1]? = some (.cells (Cells8 fun _ => 0) 51 (0, 0)) := by rw [← hW3, heap_setCell_other _ _ _ _ (by show W.heap.size + 1 ≠ c; omega), r2]
  have z3 : W.heap.size + 2 ≤ W3.heap.size := by
    have := (Array.getElem?_eq_some_iff.1 r3).1
    omega
  have HW2 : Hid (((W.alloc (.cells (Cells8 s) 51)).alloc (.cells (Cells8 fun _ => 0) 51)) = W2) := hW2
  rw [hW3] at HA
  clear hW2 hW3 h2 k2 r2 b2 h hc
  show Calls Tryz.prog 46 #[.pointer (some ⟨c, 0, none⟩), Agg8 s, .string l, .int .i64 n] W _
  go_enter Tryz.func46, Tryz.ntmps46
  go_wp2_with fail
  rw [HW2.out]
  refine HA.out.mono ?_
  rintro e w' ⟨rfl, rfl⟩
  clear HA HW2
  generalize ctr (k + 1) = y at *
  go_wp2_with (refine wpList_load_row rfl 51 _ rfl W.heap.size rfl 51 (Cells8 s) (0, 0) _ k3 Tryz.underlying51 rfl (by kernel_rfl) ?_)
  refine (HD.out _).mono ?_
  rintro e w4 ⟨rfl, b4⟩
  have r4 : w4.heap[W.heap.size + 1]? = some (.cells (Cells8 fun _ => 0) 51 (0, 0)) := by rw [b4.block _ (by omega), r3]
  have t4 := t3.below b4
  clear t3 b4 k3 r3
  go_wp2_with (refine wpList_store_row rfl 51 _ _ rfl (W.heap.size + 1) (Cells8 D) rfl rfl 51 (Cells8 fun _ => 0) r4 (by kernel_rfl) rfl (Cells8_one _) ?_)
  exact bodyPost_ret (v := Agg8 D) (results_cell_row rfl _ _ (W.heap.size + 1) 51 (Cells8 D) (0, 0) _ rfl (setRow_heap _ _ _ _ _ _ r4) Tryz.underlying51 rfl (by kernel_rfl)) rfl ⟨rfl, t4.setRow (by omega) _⟩
end Go.Proofs.YtkpebabbnndopaaGreatDoor

/- A function that defers calls of builtins: what is asked where it leaves. -/
namespace Go.Proofs.YtkpebabbnndopaaGreatDoor
open Go.RowKit

/-- the deferred calls, each a builtin that gives a value; then the results -/
def LeavesB (P : Program) (fn : Func) (tmps : Array Value) (R : Ending → World → Prop) : List Deferred → World → Prop
  | [], w => ∃ v, (results fn tmps).run P w = .ok v w ∧ R (.returned v) w
  | d :: ds, w => ∃ b ts t cs v w', d.target = .builtin b ts t cs ∧ (invoke d.target d.args).run P w = .ok (.value v) w' ∧ LeavesB P fn tmps R ds w'
def bodyPostB (P : Program) (fn : Func) (R : Ending → World → Prop) : Exit → Act → World → Prop
  | .normal, a, w | .ret, a, w => LeavesB P fn a.tmps R a.defers w
  | .outgrown, _, w => R .outgrown w
  | _, _, _ => False

theorem step_deferB {P : Program} {fr : Frame} {cs : List Frame} {w w' : World} {d : Deferred} {ds : List Deferred} {b : Builtin} {ts : Array TypeId} {t : TypeId} {ks : Array Bool} {v : Value}
    (hm : fr.mode = .returning) (hd : fr.defers = d :: ds) (ht : d.target = .builtin b ts t ks) (hi : (invoke d.target d.args).run P w = .ok (.value v) w') :
    step P (lone fr cs w) = .next (lone { fr with defers := ds } cs w') := by
  obtain ⟨t, a⟩ := d
  simp only at ht hi
  subst ht
  refine step_lone_go ?_
  simp [stepG, unwind, callDeferred, hm, hd, hi]

theorem leavesB_steps {P : Program} {fn : Func} {tmps : Array Value} {R : Ending → World → Prop} : ∀ (ds : List Deferred) (w : World) (fr : Frame)
    (cs : List Frame), fr.mode = .returning → fr.defers = ds → fr.tmps = tmps → P.funcs[fr.fn]? = some fn → fr.kind = .normal → LeavesB P fn tmps R ds w →
    ∃ e w' fr', R e w' ∧ Comes P (lone fr cs w) (lone fr' cs w') e ∧ fr'.fn = fr.fn ∧ fr'.leaving P w' e := by
  intro ds
  induction ds with
  | nil =>
    intro w fr cs hu hd ht hf hk h
    obtain ⟨v, hr, hR⟩ := h
    exact ⟨.returned v, w, fr, hR, Steps.refl P _, rfl, hu, hd, hk, fn, hf, ht ▸ hr⟩
  | cons d ds ih =>
    intro w fr cs hu hd ht hf hk h
    obtain ⟨b, ts, t, ks, v, w', htar, hinv, hrest⟩ := h
    have h1 := step_deferB (cs := cs) hu hd htar hinv
    obtain ⟨e', w'', fr', hR', hs', hfn', hl'⟩ := ih w' { fr with defers := ds } cs hu rfl ht hf hk hrest
    exact ⟨e', w'', fr', hR', Comes.of_steps (.one h1) hs', hfn', hl'⟩

theorem calls_of_wpB {P : Program} {f : FuncId} {fn : Func} {c : Code} {args : Array Value} {w : World} {R : Ending → World → Prop}
    (hf : P.funcs[f]? = some fn) (hb : fn.body = some c)
    (h : c.wp P (bodyPostB P fn R) { tmps := args ++ Array.replicate (fn.ntmps - args.size) undef, defers := [] } w) : Calls P f args w R := by
  intro cs
  let b : Frame := { (default : Frame) with fn := f, kind := .normal }
  have henter : Frame.enter P f args .normal =
      b.at { tmps := args ++ Array.replicate (fn.ntmps - args.size) undef, defers := [] } [.code c] := by
    simp [Frame.enter, Frame.at, hf, hb, b]
  obtain ⟨e, a', w', hq, harr⟩ := h b [] cs
  rw [← henter] at harr
  cases e with
  | normal =>
    obtain ⟨e', w'', fr', hR, hs, hfn, hl⟩ := leavesB_steps a'.defers w' { b.at a' [] with mode := .returning } cs rfl rfl rfl hf rfl hq
    exact ⟨e', w'', fr', hR, Comes.of_steps (Steps.trans harr (.one step_end)) hs, hfn, hl⟩
  | ret =>
    obtain ⟨todo, hs₀⟩ := harr
    obtain ⟨e', w'', fr', hR, hs, hfn, hl⟩ := leavesB_steps a'.defers w' { b.at a' todo with mode := .returning } cs rfl rfl rfl hf rfl hq
    exact ⟨e', w'', fr', hR, Comes.of_steps hs₀ hs, hfn, hl⟩
  | panic chain => exact hq.elim
  | exit id => exact hq.elim
  | goto l => exact hq.elim
  | outgrown => exact ⟨.outgrown, w', b, hq, harr.resolve_left (by simp [b]), rfl, trivial⟩
end Go.Proofs.YtkpebabbnndopaaGreatDoor

/- A function that defers calls of builtins and of functions: what is asked where it leaves. -/
namespace Go.Proofs.YtkpebabbnndopaaGreatDoor
open Go.RowKit

/-- the deferred calls: builtins that give a value, functions that return; then the results -/
def LeavesM (P : Program) (fn : Func) (tmps : Array Value) (R : Ending → World → Prop) : List Deferred → World → Prop
  | [], w => ∃ v, (results fn tmps).run P w = .ok v w ∧ R (.returned v) w
  | d :: ds, w => (∃ b ts t cs v w', d.target = .builtin b ts t cs ∧ (invoke d.target d.args).run P w = .ok (.value v) w' ∧ LeavesM P fn tmps R ds w') ∨
      (∃ fv cap f args, d.target = .fn fv cap ∧ (invoke d.target d.args).run P w = .ok (.enter f args) w ∧ CallsD P f args .returning w fun e u' w' => (∃ v, e = .returned v) ∧ u' = .returning ∧ LeavesM P fn tmps R ds w')
def bodyPostM (P : Program) (fn : Func) (R : Ending → World → Prop) : Exit → Act → World → Prop
  | .normal, a, w | .ret, a, w => LeavesM P fn a.tmps R a.defers w
  | .outgrown, _, w => R .outgrown w
  | _, _, _ => False
theorem leavesM_steps {P : Program} {fn : Func} {tmps : Array Value} {R : Ending → World → Prop} : ∀ (ds : List Deferred) (w : World) (fr : Frame)
    (cs : List Frame), fr.mode = .returning → fr.defers = ds → fr.tmps = tmps → P.funcs[fr.fn]? = some fn → fr.kind = .normal → LeavesM P fn tmps R ds w →
    ∃ e w' fr', R e w' ∧ Comes P (lone fr cs w) (lone fr' cs w') e ∧ fr'.fn = fr.fn ∧ fr'.leaving P w' e := by
  intro ds
  induction ds with
  | nil =>
    intro w fr cs hu hd ht hf hk h
    obtain ⟨v, hr, hR⟩ := h
    exact ⟨.returned v, w, fr, hR, Steps.refl P _, rfl, hu, hd, hk, fn, hf, ht ▸ hr⟩
  | cons d ds ih =>
    intro w fr cs hu hd ht hf hk h
    rcases h with ⟨b, ts, t, ks, v, w', htar, hinv, hrest⟩ | ⟨fv, cap, f, args, htar, hinv, hcall⟩
    · have h1 := step_deferB (cs := cs) hu hd htar hinv
      obtain ⟨e', w'', fr', hR', hs', hfn', hl'⟩ := ih w' { fr with defers := ds } cs hu rfl ht hf hk hrest
      exact ⟨e', w'', fr', hR', Comes.of_steps (.one h1) hs', hfn', hl'⟩
    · have h1 := step_defer (cs := cs) (by rw [hu]; simp) hd htar hinv
      obtain ⟨e, u', w', frX, ⟨⟨v, rfl⟩, rfl, hR⟩, hsteps, hkX, hgo⟩ := hcall { fr with defers := ds } cs hu
      have h2 := step_going_returned (c := { { fr with defers := ds } with mode := .returning }) (cs := cs) hkX hgo
      obtain ⟨e', w'', fr', hR', hs', hfn', hl'⟩ := ih w' { { { fr with defers := ds } with mode := .returning } with mode := settle .returning } cs rfl rfl ht hf hk hR
      exact ⟨e', w'', fr', hR', Comes.of_steps (.head h1 (Steps.trans hsteps (.one h2))) hs', hfn', hl'⟩
theorem calls_of_wpM {P : Program} {f : FuncId} {fn : Func} {c : Code} {args : Array Value} {w : World} {R : Ending → World → Prop}
    (hf : P.funcs[f]? = some fn) (hb : fn.body = some c)
    (h : c.wp P (bodyPostM P fn R) { tmps := args ++ Array.replicate (fn.ntmps - args.size) undef, defers := [] } w) : Calls P f args w R := by
  intro cs
  let b : Frame := { (default : Frame) with fn := f, kind := .normal }
  have henter : Frame.enter P f args .normal =
      b.at { tmps := args ++ Array.replicate (fn.ntmps - args.size) undef, defers := [] } [.code c] := by
    simp [Frame.enter, Frame.at, hf, hb, b]
  obtain ⟨e, a', w', hq, harr⟩ := h b [] cs
  rw [← henter] at harr
  cases e with
  | normal =>
    obtain ⟨e', w'', fr', hR, hs, hfn, hl⟩ := leavesM_steps a'.defers w' { b.at a' [] with mode := .returning } cs rfl rfl rfl hf rfl hq
    exact ⟨e', w'', fr', hR, Comes.of_steps (Steps.trans harr (.one step_end)) hs, hfn, hl⟩
  | ret =>
    obtain ⟨todo, hs₀⟩ := harr
    obtain ⟨e', w'', fr', hR, hs, hfn, hl⟩ := leavesM_steps a'.defers w' { b.at a' todo with mode := .returning } cs rfl rfl rfl hf rfl hq
    exact ⟨e', w'', fr', hR, Comes.of_steps hs₀ hs, hfn, hl⟩
  | panic chain => exact hq.elim
  | exit id => exact hq.elim
  | goto l => exact hq.elim
  | outgrown => exact ⟨.outgrown, w', b, hq, harr.resolve_left (by simp [b]), rfl, trivial⟩
end Go.Proofs.YtkpebabbnndopaaGreatDoor

/- The mutex at the head of a group's block; Work. -/
namespace Go.Proofs.YtkpebabbnndopaaGreatDoor
open Go.RowKit
set_option linter.unusedVariables false

abbrev muL : Go.Conc.Locks.MuLink := { lock := 41, unlock := 42, ilock := 84, iunlock := 85, lockSlow := 115, unlockSlow := 118, disable := 111, enable := 113, acquire := 114, relMerge := 116, cas32 := 112, add32 := 117, tMutex := 92, tIMutex := 90, tPMutex := 162, tPIMutex := 202, tPI32 := 204, tUP := 206, tNoCopy := 87, tU32 := 88 }
theorem muLib : Go.Conc.Locks.MuLib Tryz.prog muL :=
  ⟨Tryz.func41, Tryz.func42, Tryz.func84, Tryz.func85, Tryz.func111, Tryz.func113, Tryz.func114, Tryz.func116, Tryz.func112, Tryz.func117,
   Tryz.underlying90, Tryz.runUnderlying90, Tryz.sizeOf90, Tryz.isAgg90, Tryz.zeroValue90,
   Tryz.underlying92, Tryz.runUnderlying92, Tryz.sizeOf92, Tryz.isAgg92, Tryz.zeroValue92,
   Tryz.underlying162, Tryz.runUnderlying162, Tryz.sizeOf162, Tryz.isAgg162, Tryz.zeroValue162,
   Tryz.underlying202, Tryz.runUnderlying202, Tryz.sizeOf202, Tryz.isAgg202, Tryz.zeroValue202,
   Tryz.underlying204, Tryz.runUnderlying204, Tryz.sizeOf204, Tryz.isAgg204, Tryz.zeroValue204,
   Tryz.underlying206, Tryz.runUnderlying206, Tryz.sizeOf206, Tryz.isAgg206, Tryz.zeroValue206,
   Tryz.underlying87, Tryz.runUnderlying87, Tryz.sizeOf87, Tryz.isAgg87, Tryz.zeroValue87,
   Tryz.underlying21, Tryz.runUnderlying21, Tryz.sizeOf21, Tryz.isAgg21, Tryz.zeroValue21, (by kernel_rfl)⟩
abbrev i32 (k : Int) : Value := .int .i32 k
/-- a mutex in a block is taken -/
theorem lock_row (b o : Nat) (cs : Array Value) (t : TypeId) (w : World) (h : w.heap[b]? = some (.cells cs t (0, 0))) (h0 : cs[o]? = some (i32 0)) :
    Calls Tryz.prog 41 #[.pointer (some ⟨b, o, none⟩)] w fun e w' => e = .returned (.tuple #[]) ∧ w' = w.setRow b (cs.setIfInBounds o (i32 1)) :=
  (MuLone.lock_free muLib ⟨b, o, none⟩ w (by rw [cell_of_row _ _ _ _ _ _ h, h0]) (frozen_of_row _ _ _ _ _ h)).mono fun e w' ⟨h1, h2⟩ => ⟨h1, by rw [h2, setCell_eq_setRow w b o cs _ (0, 0) _ h]⟩
/-- and given back, in a deferred call -/
theorem unlock_row (b o : Nat) (cs : Array Value) (t : TypeId) (w : World) (h : w.heap[b]? = some (.cells cs t (0, 0))) (h0 : cs[o]? = some (i32 1)) :
    CallsD Tryz.prog 42 #[.pointer (some ⟨b, o, none⟩)] .returning w fun e u' w' => (∃ v, e = .returned v) ∧ u' = .returning ∧ w' = w.setRow b (cs.setIfInBounds o (i32 0)) :=
  (MuLone.unlock_deferred muLib ⟨b, o, none⟩ .returning w (by rw [cell_of_row _ _ _ _ _ _ h, h0]) (frozen_of_row _ _ _ _ _ h)).mono fun e u' w' ⟨h1, h2, h3⟩ => ⟨⟨_, h2⟩, h1, by rw [h3, setCell_eq_setRow w b o cs _ (0, 0) _ h]⟩
theorem set_lock {cs : Array Value} {o : Nat} {v u : Value} (h : cs[o]? = some v) : (cs.setIfInBounds o u)[o]? = some u := by
  rw [Array.getElem?_setIfInBounds, if_pos rfl, if_pos (Array.getElem?_eq_some_iff.1 h).1]
theorem set_back {cs : Array Value} {o : Nat} {v u : Value} (h : cs[o]? = some v) : (cs.setIfInBounds o u).setIfInBounds o v = cs := by
  rw [Array.setIfInBounds_setIfInBounds]
  apply Array.ext_getElem?
  intro j
  rw [Array.getElem?_setIfInBounds]
  split
  · rename_i e
    subst e
    rw [if_pos (Array.getElem?_eq_some_iff.1 h).1, h]
  · rfl
/-- the row set to what it was -/
theorem setRow_back {w : World} {b : Nat} {cs r : Array Value} {t : TypeId} (h : w.heap[b]? = some (.cells cs t (0, 0))) : ((w.setRow b r).setRow b cs).heap[b]? = w.heap[b]? := by
  rw [setRow_heap _ _ _ _ _ _ (setRow_heap _ _ _ _ _ _ h), h]
set_option maxHeartbeats 1000000 in
theorem gwork_any (b : Nat) (cs : Array Value) (t : TypeId) (k : Nat) (w : World) (h : w.heap[b]? = some (.cells cs t (0, 0))) (hl : cs[0]? = some (i32 0)) (hc : cs[ctrOff]? = some (ctr k)) :
    Calls Tryz.prog 23 #[.pointer (some ⟨b, 0, none⟩)] w fun e w' => e = .returned (ctr k) ∧ w' = (w.setRow b (cs.setIfInBounds 0 (i32 1))).setRow b cs := by
  obtain ⟨w1, hw1⟩ : ∃ w1, w.setRow b (cs.setIfInBounds 0 (i32 1)) = w1 := ⟨_, rfl⟩
  have r1 : w1.heap[b]? = some (.cells (cs.setIfInBounds 0 (i32 1)) t (0, 0)) := by rw [← hw1]; exact setRow_heap _ _ _ _ _ _ h
  have HK : Hid (Calls Tryz.prog 41 #[.pointer (some ⟨b, 0, none⟩)] w fun e w' => e = .returned (.tuple #[]) ∧ w' = w1) := by rw [← hw1]; exact lock_row b 0 cs t w h hl
  have HL : Hid (Calls Tryz.prog 57 #[.pointer (some ⟨b, ctrOff, none⟩)] w1 fun e w' => e = .returned (ctr k) ∧ w' = w1) := atomicLoad_any b _ t k w1 r1 (by rw [Array.getElem?_setIfInBounds, if_neg (by show 0 ≠ 330; omega)]; exact hc)
  have HU : Hid (CallsD Tryz.prog 42 #[.pointer (some ⟨b, 0, none⟩)] .returning w1 fun e u' w' => (∃ v, e = .returned v) ∧ u' = .returning ∧ w' = w1.setRow b cs) := by
    have := unlock_row b 0 _ t w1 r1 (set_lock hl)
    rw [set_back hl] at this
    exact this
  rw [hw1]
  generalize ctr k = y at *
  clear h hc hl r1 hw1
  refine calls_of_wpM Tryz.func23 rfl ?_
  simp only [Tryz.ntmps23, List.size_toArray, List.length_cons, List.length_nil, Nat.reduceAdd, Nat.reduceSub, Array.replicate_succ,
     Array.replicate_zero, List.push_toArray, List.append_toArray, List.nil_append, List.cons_append]
  go_wp2_with (first | (go_at_call 41; refine HK.out.mono ?_; rintro e w' ⟨rfl, rfl⟩) | (go_at_call 57; refine HL.out.mono ?_; rintro e w' ⟨rfl, rfl⟩))
  refine .inr ⟨_, _, 42, #[.pointer (some ⟨b, 0, none⟩)], rfl, by simp [go_sem], HU.out.mono fun e u' w' ⟨h1, h2, h3⟩ => ⟨h1, h2, ?_⟩⟩
  exact ⟨_, results_tmp rfl _ _ _, rfl, h3⟩
end Go.Proofs.YtkpebabbnndopaaGreatDoor

/- isSpent, hasSecret. -/
namespace Go.Proofs.YtkpebabbnndopaaGreatDoor
open Go.RowKit

theorem isSpent_any (g : Int) (b o : Nat) (w : World) (h : w.cell? ⟨b, o + 1, none⟩ = some (.int .i64 g)) :
    Calls Tryz.prog 86 #[.pointer (some ⟨b, o, none⟩)] w fun e w' => e = .returned (.bool (!(GenB g))) ∧ w' = w := by
  have HG : Hid (∀ W, Calls Tryz.prog 80 #[.int .i64 g] W fun e w' => e = .returned (.bool (GenB g)) ∧ w' = W) := fun W => isGeneration_any g W
  go_enter Tryz.func86, Tryz.ntmps86
  go_wp2_with (go_at_call 80; refine (HG.out _).mono ?_; rintro e w' ⟨rfl, rfl⟩)
  go_ret
  exact ⟨rfl, rfl⟩
theorem hasSecret_any (bg : Bool) (g : Int) (b o : Nat) (w : World) (h0 : w.cell? ⟨b, o, none⟩ = some (.bool bg)) (h : w.cell? ⟨b, o + 1, none⟩ = some (.int .i64 g)) :
    Calls Tryz.prog 53 #[.pointer (some ⟨b, o, none⟩)] w fun e w' => e = .returned (.bool (bg && GenB g)) ∧ w' = w := by
  have HG : Hid (∀ W, W.cell? ⟨b, o + 1, none⟩ = some (.int .i64 g) → Calls Tryz.prog 86 #[.pointer (some ⟨b, o, none⟩)] W fun e w' => e = .returned (.bool (!(GenB g))) ∧ w' = W) := fun W hW => isSpent_any g b o W hW
  cases bg with
  | true =>
    go_enter Tryz.func53, Tryz.ntmps53
    go_wp2_with (go_at_call 86; refine (HG.out _ h).mono ?_; rintro e w' ⟨rfl, rfl⟩)
    go_ret
    exact ⟨by simp, rfl⟩
  | false =>
    go_enter Tryz.func53, Tryz.ntmps53
    go_wp2_with fail
    go_ret
    exact ⟨by simp, rfl⟩
end Go.Proofs.YtkpebabbnndopaaGreatDoor
