/- epochref.Ratchet, Leaf, Key. -/
import Derived.Test.YtpmcllcpjddooaaRefPart
import Derived.WalkKit
import Derived.WalkSpells
import Derived.WalkLawsBesides
import Derived.Deep.WholeRow
import Derived.Deep.LoopGhost
namespace Go.Proofs.Ytpmcllcpjddooaa
open Go.RowKit

set_option maxHeartbeats 1000000 in
theorem refRatchet_any (s : Nat → Int) (hs : ∀ i, 0 ≤ s i ∧ s i < 256) (n m : Int) (hn : n ≤ 16) (hm0 : 0 ≤ m) (hm : m < n) (g : Nat) (hg : g ≤ 65535) (w : World) :
    Calls Try.prog 34 #[Agg8 s, .int .i64 n, .int .i64 m, .int .i64 g] w fun e w' => e = .returned (Agg8 (RatM s n m g)) ∧ Below w.heap.size w w' := by
  have HP : Hid (∀ W, Calls Try.prog 28 #[Agg8 s, .int .i64 0, .int .i64 n, .int .i64 m, .int .i64 (m + 1)] W fun e w' => e = .returned (Agg8 (LeafM s n m)) ∧ Below W.heap.size W w') := fun W => refPart_any 16 s hs 0 n m W (by omega) (by omega) (by omega) (by omega) (by omega)
  have hLb : ∀ i, 0 ≤ LeafM s n m i ∧ LeafM s n m i < 256 := LeafB_bd _ _ _ _ _ hs
  unfold RatM
  obtain ⟨L, hL⟩ : ∃ L, LeafM s n m = L := ⟨_, rfl⟩
  rw [hL] at HP hLb ⊢
  clear hL hs
  have HD0 : Hid (∀ W, Calls Try.prog 8 #[Agg8 L, .string ⟨#[114, 97, 116, 99, 104, 101, 116]⟩, .int .i64 0] W fun e w' => e = .returned (Agg8 (DerB L lRatchet 0)) ∧ Below W.heap.size W w') := fun W => refDerive_any L hLb ⟨#[114, 97, 116, 99, 104, 101, 116]⟩ (by decide) 0 W
  have hRb : ∀ i, 0 ≤ DerB L lRatchet 0 i ∧ DerB L lRatchet 0 i < 256 := DerB_bd _ _ _
  obtain ⟨R, hR⟩ : ∃ R, DerB L lRatchet 0 = R := ⟨_, rfl⟩
  rw [hR] at HD0 hRb ⊢
  clear hR hLb
  have HD : Hid (∀ (j : Nat) W, Calls Try.prog 8 #[Agg8 (RatB R j), .string ⟨#[110, 101, 120, 116]⟩, .int .i64 j] W fun e w' => e = .returned (Agg8 (RatB R (j + 1))) ∧ Below W.heap.size W w') := fun j W => refDerive_any (RatB R j) (RatB_bd R hRb j) ⟨#[110, 101, 120, 116]⟩ (by decide) j W
  obtain ⟨Z, hZ⟩ : ∃ Z, RatB R = Z := ⟨_, rfl⟩
  have hZ0 : R = Z 0 := by rw [← hZ]; rfl
  rw [hZ] at HD ⊢
  clear hZ hRb
  subst hZ0
  go_enter Try.func34, Try.ntmps34
  go_wp2_with fail
  refine (HP.out _).mono ?_
  rintro e w1 ⟨rfl, b1⟩
  obtain ⟨c1, d1, z1⟩ := cell1 _ _ _ b1
  clear b1
  go_wp2_with fail
  refine (HD0.out _).mono ?_
  rintro e w2 ⟨rfl, b2⟩
  have c2 : w2.heap[w.heap.size + 1]? = some (.cells C0 23 (0, 0)) := by rw [b2.block _ (by simp; omega), Below.heap_alloc _ _ _ (by omega), c1]
  have d2 : Below w.heap.size w w2 := (d1.alloc (by omega) _).trans (b2.mono (by simp; omega))
  have z2 : w.heap.size + 2 ≤ w2.heap.size := by have := b2.size; simp at this; omega
  clear b2 c1 d1 z1 HP HD0
  go_wp2_with fail
  go_loopg [11] g (fun k i wr => ∃ j : Nat, j + k = g ∧ i = .int .i64 j ∧ Below w.heap.size w wr ∧ w2.heap.size < wr.heap.size ∧ wr.heap[w.heap.size + 1]? = some (.cells C0 23 (0, 0)) ∧ wr.heap[w2.heap.size]? = some (.cells (Cells8 (Z j)) 23 (0, 0)))
  case atStart => exact ⟨0, by omega, rfl, d2.alloc (by omega) _, by simp, by rw [Below.heap_alloc _ _ _ (by omega), c2], (MapKept.heap_alloc _ _).1⟩
  case round =>
    obtain ⟨j, hj, rfl, e1, e2, e3, e4⟩ := hrel
    clear c2 d2
    by_cases hlt : j < g
    · go_wp2_with (refine wpList_load_row rfl 23 _ rfl w2.heap.size rfl 23 (Cells8 (Z j)) (0, 0) _ e4 Try.underlying23 rfl (by kernel_rfl) ?_)
      refine (HD.out j _).mono ?_
      rintro e w3 ⟨rfl, b3⟩
      have f1 : Below w.heap.size w w3 := e1.trans (b3.mono (by omega))
      have f2 : w2.heap.size < w3.heap.size := by have := b3.size; omega
      have f3 : w3.heap[w.heap.size + 1]? = some (.cells C0 23 (0, 0)) := by rw [b3.block _ (by omega), e3]
      have f4 : w3.heap[w2.heap.size]? = some (.cells (Cells8 (Z j)) 23 (0, 0)) := by rw [b3.block _ (by omega), e4]
      clear e1 e2 e3 e4 b3
      go_wp2_with (refine wpList_store_row rfl 23 _ _ rfl w2.heap.size (Cells8 (Z (j + 1))) rfl rfl 23 (Cells8 (Z j)) f4 (by kernel_rfl) rfl (by simp [Value.oneCell']) ?_)
      go_roundg (gk - 1)
      case measure => omega
      case rel => exact ⟨j + 1, by omega, by go_num, below_setRow f1 (by omega) _, by simp; omega, by rw [setRow_other _ _ _ _ (by omega), f3], setRow_heap _ _ _ _ _ _ f4⟩
    · obtain rfl : j = g := by omega
      go_wp2_with (first | refine wpList_load_row rfl 23 _ rfl w2.heap.size rfl 23 (Cells8 (Z j)) (0, 0) _ e4 Try.underlying23 rfl (by kernel_rfl) ?_ | refine wpList_store_row rfl 23 _ _ rfl (w.heap.size + 1) (Cells8 (Z j)) rfl rfl 23 C0 e3 (by kernel_rfl) rfl (by simp [Value.oneCell']) ?_)
      exact bodyPost_ret (v := Agg8 (Z j)) (results_cell_row rfl _ _ (w.heap.size + 1) 23 (Cells8 (Z j)) (0, 0) _ rfl (setRow_heap _ _ _ _ _ _ e3) Try.underlying23 rfl (by kernel_rfl)) rfl ⟨rfl, below_setRow e1 (by omega) _⟩
end Go.Proofs.Ytpmcllcpjddooaa
