/- The small methods of a part of the tree; wholeTree. -/
import Derived.Test.YtkpebabbnndopaaRows
import Derived.Test.YtkpebabbnndopaaTreeL
import Derived.Test.YtkpebabbnndopaaTree1
import Derived.WalkKit
import Derived.WalkSpells
import Derived.WalkLawsBesides
import Derived.Deep.WholeRow
namespace Go.Proofs.Ytkpebabbnndopaa
open Go.RowKit

theorem size_any (f t : Int) (s : Nat → Int) (hf : 0 ≤ f) (ht : t ≤ 16) (hft : f ≤ t) (w : World) :
    Calls Try.prog 38 #[AggP f t s] w fun e w' => e = .returned (.int .i64 (t - f)) ∧ w' = w.alloc (.cells (CellsP f t s) 53) := by
  go_enter Try.func38, Try.ntmps38
  go_wp2_with fail
  go_ret
  exact ⟨rfl, rfl⟩
theorem has_any (f t : Int) (s : Nat → Int) (m : Int) (w : World) :
    Calls Try.prog 40 #[AggP f t s, .int .i64 m] w fun e w' => e = .returned (.bool (decide (f ≤ m ∧ m < t))) ∧ w' = w.alloc (.cells (CellsP f t s) 53) := by
  by_cases h : f ≤ m
  · go_enter Try.func40, Try.ntmps40
    go_wp2_with fail
    go_ret
    exact ⟨by simp [h], rfl⟩
  · go_enter Try.func40, Try.ntmps40
    go_wp2_with fail
    go_ret
    exact ⟨by simp; omega, rfl⟩
/-- the closure that find hands on -/
theorem find1_any (f t : Int) (s : Nat → Int) (m : Int) (mb : Nat) (w : World) (h : w.cell? ⟨mb, 0, none⟩ = some (.int .i64 m)) :
    Calls Try.prog 46 #[AggP f t s, .pointer (some ⟨mb, 0, none⟩)] w fun e w' => e = .returned (.bool (decide (f ≤ m ∧ m < t))) ∧ Below w.heap.size w w' := by
  have HH : Hid (∀ W, Calls Try.prog 40 #[AggP f t s, .int .i64 m] W fun e w' => e = .returned (.bool (decide (f ≤ m ∧ m < t))) ∧ w' = W.alloc (.cells (CellsP f t s) 53)) := fun W => has_any f t s m W
  have hb := block_lt_of_cell h
  have h' : (w.alloc (.cells (CellsP f t s) 53)).cell? ⟨mb, 0, none⟩ = some (.int .i64 m) := by rw [← h]; exact ((Below.refl _ w).alloc (Nat.le_refl _) _).cell (p := ⟨mb, 0, none⟩) hb
  obtain ⟨B, hB⟩ : ∃ B, decide (f ≤ m ∧ m < t) = B := ⟨_, rfl⟩
  rw [hB] at HH ⊢
  clear hB h
  go_enter Try.func46, Try.ntmps46
  go_wp2_with (go_at_call 40; refine (HH.out _).mono ?_; rintro e w' ⟨rfl, rfl⟩)
  go_ret
  exact ⟨rfl, ((Below.refl _ w).alloc (Nat.le_refl _) _).alloc (by simp) _⟩
/-- a new tree's cells -/
def TZ1 (Z : Array Value) : Array Value := Z.setIfInBounds 160 (.int .i64 1)
def TZ (Z : Array Value) (n : Int) (s : Nat → Int) : Array Value := putL (TZ1 Z) 0 (CellsP 0 n s).toList
theorem TC1_size : (TZ1 Try.zeroCells56).size = 161 := by kernel_rfl
theorem TC1_one : (TZ1 Try.zeroCells56).all (·.oneCell') = true := by kernel_rfl
theorem TC_size (n : Int) (s : Nat → Int) : (TZ Try.zeroCells56 n s).size = 161 := by unfold TZ; rw [putL_size, TC1_size]
theorem all_one_put : ∀ (l : List Value) (cs : Array Value) (o : Nat), cs.all (·.oneCell') = true → (∀ v ∈ l, v.oneCell' = true) → (putL cs o l).all (·.oneCell') = true
  | [], _, _, h, _ => h
  | v :: r, cs, o, h, hl => all_one_put r _ _ (by
      rw [Array.all_eq_true_iff_forall_mem] at h ⊢
      intro x hx
      rcases Array.mem_or_eq_of_mem_setIfInBounds hx with h1 | h1
      · exact h x h1
      · rw [h1]; exact hl v List.mem_cons_self) (fun x hx => hl x (List.mem_cons_of_mem _ hx))
theorem partCells_one (f t : Int) (s : Nat → Int) : ∀ v ∈ (CellsP f t s).toList, v.oneCell' = true := by
  intro v hv
  simp at hv
  rcases hv with rfl | rfl | rfl | rfl | rfl | rfl | rfl | rfl | rfl | rfl <;> rfl
theorem TC_one (n : Int) (s : Nat → Int) : (TZ Try.zeroCells56 n s).all (·.oneCell') = true := all_one_put _ _ _ TC1_one (partCells_one _ _ _)
theorem TC_tree (n : Nat) (hn : n ≤ 16) (s : Nat → Int) (hs : ∀ i, 0 ≤ s i ∧ s i < 256) : TreeAt (TZ Try.zeroCells56 n s) 0 [⟨0, n, s⟩] := by
  refine ⟨by simp, ?_, ?_, ?_⟩
  · have := putL_at (CellsP 0 n s).toList (TZ1 Try.zeroCells56) 0 (by rw [TC1_size]; show 0 + 10 ≤ 161; omega)
    exact this
  · unfold TZ
    rw [putL_out _ _ _ _ (.inr (by show 0 + 10 ≤ 0 + 160; omega))]
    kernel_rfl
  · intro p hp
    simp at hp
    subst hp
    exact ⟨Nat.zero_le _, hn, hs⟩
set_option maxHeartbeats 4000000 in
set_option maxRecDepth 50000 in
theorem wholeTree_any (s : Nat → Int) (n : Int) (w : World) :
    Calls Try.prog 25 #[Agg8 s, .int .i64 n] w fun e w' => e = .returned (.agg (TZ Try.zeroCells56 n s)) ∧ Below w.heap.size w w' := by
  obtain ⟨w0, hw0⟩ : ∃ w0, (((w.alloc (.cells (Cells8 s) 23)).alloc (.cells Try.zeroCells56 56)).alloc (.cells Try.zeroCells56 56)) = w0 := ⟨_, rfl⟩
  have a0 : w0.heap[w.heap.size]? = some (.cells (Cells8 s) 23 (0, 0)) := by rw [← hw0, Below.heap_alloc _ _ _ (by simp; omega), Below.heap_alloc _ _ _ (by simp), (MapKept.heap_alloc _ _).1]
  have a1 : w0.heap[w.heap.size + 1]? = some (.cells Try.zeroCells56 56 (0, 0)) := by
    rw [← hw0, Below.heap_alloc _ _ _ (by simp)]
    have e := (MapKept.heap_alloc (w.alloc (.cells (Cells8 s) 23)) (.cells Try.zeroCells56 56)).1
    simp only [World.size_alloc] at e
    exact e
  have a2 : w0.heap[w.heap.size + 1 + 1]? = some (.cells Try.zeroCells56 56 (0, 0)) := by
    rw [← hw0]
    have e := (MapKept.heap_alloc ((w.alloc (.cells (Cells8 s) 23)).alloc (.cells Try.zeroCells56 56)) (.cells Try.zeroCells56 56)).1
    simp only [World.size_alloc] at e
    exact e
  have b0 : Below w.heap.size w w0 := by rw [← hw0]; exact (((Below.refl _ w).alloc (Nat.le_refl _) _).alloc (by simp) _).alloc (by simp; omega) _
  obtain ⟨w1, hw1⟩ : ∃ w1, w0.setRow (w.heap.size + 1 + 1) (TZ1 Try.zeroCells56) = w1 := ⟨_, rfl⟩
  have c0 : w1.heap[w.heap.size]? = some (.cells (Cells8 s) 23 (0, 0)) := by rw [← hw1, setRow_other _ _ _ _ (by omega), a0]
  have c1 : w1.heap[w.heap.size + 1]? = some (.cells Try.zeroCells56 56 (0, 0)) := by rw [← hw1, setRow_other _ _ _ _ (by omega), a1]
  have c2 : w1.heap[w.heap.size + 1 + 1]? = some (.cells (TZ1 Try.zeroCells56) 56 (0, 0)) := by rw [← hw1]; exact setRow_heap _ _ _ _ _ _ a2
  have b1 : Below w.heap.size w w1 := by rw [← hw1]; exact below_setRow b0 (by omega) _
  obtain ⟨w2, hw2⟩ : ∃ w2, w1.setCells (w.heap.size + 1 + 1) 0 (CellsP 0 n s).toList = w2 := ⟨_, rfl⟩
  have e2 := hw2
  rw [setCells_row _ w1 _ 0 (TZ1 Try.zeroCells56) _ c2] at e2
  have d1 : w2.heap[w.heap.size + 1]? = some (.cells Try.zeroCells56 56 (0, 0)) := by rw [← e2, setRow_other _ _ _ _ (by omega), c1]
  have d2 : w2.heap[w.heap.size + 1 + 1]? = some (.cells (TZ Try.zeroCells56 n s) 56 (0, 0)) := by rw [← e2]; exact setRow_heap _ _ _ _ _ _ c2
  have b2 : Below w.heap.size w w2 := by rw [← e2]; exact below_setRow b1 (by omega) _
  have t1 : w1.there (w.heap.size + 1 + 1) 0 10 := fun j hj => by
    rw [cell_of_row _ _ _ _ _ _ c2, Array.getElem?_eq_getElem (by rw [TC1_size]; omega)]
    exact ⟨rfl, frozen_of_row _ _ _ _ _ c2⟩
  have HW0 : Hid ((((w.alloc (.cells (Cells8 s) 23)).alloc (.cells Try.zeroCells56 56)).alloc (.cells Try.zeroCells56 56)) = w0) := hw0
  have HW1 : Hid (w0.setRow (w.heap.size + 1 + 1) (Try.zeroCells56.setIfInBounds 160 (.int .i64 1)) = w1) := hw1
  have HW2 : Hid (w1.setCells (w.heap.size + 1 + 1) 0 (CellsP 0 n s).toList = w2) := hw2
  clear hw0 hw1 hw2 e2 b0 b1
  go_enter Try.func25, Try.ntmps25
  go_wp2_with (first
    | (rw [HW0.out]; refine wpList_store_row rfl 56 _ _ rfl (w.heap.size + 1 + 1) (Try.zeroCells56.setIfInBounds 160 (.int .i64 1)) rfl rfl 56 Try.zeroCells56 a2 (by kernel_rfl) rfl TC1_one ?_; rw [HW1.out])
    | refine wpList_load_row rfl 23 _ rfl w.heap.size rfl 23 (Cells8 s) (0, 0) _ c0 Try.underlying23 rfl (by kernel_rfl) ?_
    | (refine wpList_store_mid rfl 53 _ _ rfl (w.heap.size + 1 + 1) 0 (CellsP 0 n s) rfl rfl t1 (by kernel_rfl) (by simp [Value.oneCell']) ?_; rw [HW2.out])
    | refine wpList_load_row rfl 56 _ rfl (w.heap.size + 1 + 1) rfl 56 (TZ Try.zeroCells56 n s) (0, 0) _ d2 Try.underlying56 rfl (by kernel_rfl) ?_
    | refine wpList_store_row rfl 56 _ _ rfl (w.heap.size + 1) (TZ Try.zeroCells56 n s) rfl rfl 56 Try.zeroCells56 d1 (by kernel_rfl) (by rw [TC_size]; kernel_rfl) (TC_one n s) ?_)
  exact bodyPost_ret (v := .agg (TZ Try.zeroCells56 n s)) (results_cell_row rfl _ _ (w.heap.size + 1) 56 (TZ Try.zeroCells56 n s) (0, 0) _ rfl (setRow_heap _ _ _ _ _ _ d1) Try.underlying56 rfl (by rw [TC_size]; kernel_rfl)) rfl ⟨rfl, below_setRow b2 (by omega) _⟩
end Go.Proofs.Ytkpebabbnndopaa
