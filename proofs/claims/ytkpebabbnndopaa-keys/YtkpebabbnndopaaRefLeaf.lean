/- epochref.Leaf. -/
import Derived.Test.YtkpebabbnndopaaRefKey
import Derived.WalkKit
import Derived.WalkSpells
import Derived.WalkLawsBesides
import Derived.Deep.WholeRow
import Derived.Deep.LoopGhost
namespace Go.Proofs.Ytkpebabbnndopaa
open Go.RowKit

set_option maxHeartbeats 1000000 in
theorem refLeaf_any (s : Nat → Int) (hs : ∀ i, 0 ≤ s i ∧ s i < 256) (n m : Int) (w : World) :
    Calls Try.prog 14 #[Agg8 s, .int .i64 n, .int .i64 m] w fun e w' => e = .returned (.tuple #[Agg8 (LeafV s n m), .int .i64 (LeafE n m)]) ∧ Below w.heap.size w w' := by
  have HM : Hid (∀ W, Calls Try.prog 27 #[.int .i64 n, .int .i64 m] W fun e w' => e = .returned (.bool (FitB n m)) ∧ w' = W) := fun W => fits_any n m W
  cases hfit : FitB n m with
  | false =>
    have e1 : LeafV s n m = fun _ => 0 := by unfold LeafV; rw [hfit]; rfl
    have e2 : LeafE n m = 1 := by unfold LeafE; rw [hfit]; rfl
    rw [e1, e2]
    rw [hfit] at HM
    clear e1 e2 hfit
    go_enter Try.func14, Try.ntmps14
    go_wp2_with (go_at_call 27; refine (HM.out _).mono ?_; rintro e w' ⟨rfl, rfl⟩)
    obtain ⟨c1, d1, _⟩ := cell1 w _ (.cells (Cells8 s) 23) (Below.refl _ _)
    exact bodyPost_ret (v := .tuple #[.agg C0, .int .i64 1]) (results_row_tmp rfl _ _ (w.heap.size + 1) 23 C0 (0, 0) _ (.int .i64 1) rfl rfl c1 Try.underlying23 rfl (by kernel_rfl)) rfl ⟨rfl, d1⟩
  | true =>
    obtain ⟨f1, f2, f3, f4⟩ := (fitB_iff n m).1 hfit
    have e1 : LeafV s n m = LeafM s n m := by unfold LeafV; rw [hfit]; rfl
    have e2 : LeafE n m = 0 := by unfold LeafE; rw [hfit]; rfl
    rw [e1, e2]
    rw [hfit] at HM
    clear e1 e2 hfit
    have HP : Hid (∀ W, Calls Try.prog 28 #[Agg8 s, .int .i64 0, .int .i64 n, .int .i64 m, .int .i64 (m + 1)] W fun e w' => e = .returned (Agg8 (LeafM s n m)) ∧ Below W.heap.size W w') := fun W => refPart_any 16 s hs 0 n m W (by omega) (by omega) (by omega) (by omega) (by omega)
    obtain ⟨X, hX⟩ : ∃ X, LeafM s n m = X := ⟨_, rfl⟩
    rw [hX] at HP ⊢
    clear hX
    go_enter Try.func14, Try.ntmps14
    go_wp2_with (go_at_call 27; refine (HM.out _).mono ?_; rintro e w' ⟨rfl, rfl⟩)
    refine (HP.out _).mono ?_
    rintro e w1 ⟨rfl, b1⟩
    obtain ⟨c1, d1, z1⟩ := cell1 _ _ _ b1
    clear b1
    have c2 : (w1.alloc (.cells (Cells8 X) 23)).heap[w.heap.size + 1]? = some (.cells C0 23 (0, 0)) := by rw [Below.heap_alloc _ _ _ (by omega), c1]
    go_wp2_with (refine wpList_store_row rfl 23 _ _ rfl (w.heap.size + 1) (Cells8 X) rfl rfl 23 C0 c2 (by kernel_rfl) rfl (by simp [Value.oneCell']) ?_)
    exact bodyPost_ret (v := .tuple #[.agg (Cells8 X), .int .i64 0]) (results_row_tmp rfl _ _ (w.heap.size + 1) 23 (Cells8 X) (0, 0) _ (.int .i64 0) rfl rfl (setRow_heap _ _ _ _ _ _ c2) Try.underlying23 rfl (by kernel_rfl)) rfl ⟨rfl, below_setRow (d1.alloc (by omega) _) (by omega) _⟩
end Go.Proofs.Ytkpebabbnndopaa
