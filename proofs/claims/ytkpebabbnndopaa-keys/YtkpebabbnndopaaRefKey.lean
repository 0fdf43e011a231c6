/- epochref.Ratchet, Leaf, Key. -/
import Derived.Test.YtkpebabbnndopaaRefPart
import Derived.WalkKit
import Derived.WalkSpells
import Derived.WalkLawsBesides
import Derived.Deep.WholeRow
import Derived.Deep.LoopGhost
namespace Go.Proofs.Ytkpebabbnndopaa
open Go.RowKit

set_option maxHeartbeats 1000000 in
theorem refRatchet_any (s : Nat → Int) (hs : ∀ i, 0 ≤ s i ∧ s i < 256) (n m : Int) (hn : n ≤ 16) (hm0 : 0 ≤ m) (hm : m < n) (g : Nat) (hg : g ≤ 65535) (w : World) :
    Calls Try.prog 34 #[Agg8 s, .int .i64 n, .int .i64 m, .int .i64 g] w fun e w' => e = .returned (Agg8 (RatM s n m g)) ∧ Below w.heap.size w w' := by
  have HP : Hid (∀ W, Calls Try.prog 28 #[Agg8 s, .int .i64 0, .int .i64 n, .int .i64 m, .int .i64 (m + 1)] W fun e w' => e = .returned (Agg8 (LeafM s n m)) ∧ Below W.heap.size W w') := fun W => refPart_any 16 s hs 0 n m W (by omega) (by omega) (by omega) (by omega) (by omega)
  have hLb : ∀ i, 0 ≤ LeafM s n m i ∧ LeafM s n m i < 256 := LeafB_bd _ _ _ _ _ hs
  unfold RatM
  obtain ⟨L, hL⟩ : ∃ L, LeafM s n m = L := ⟨_, rfl⟩
  rw [hL] at HP hLb ⊢
  clear hL hs
  have HD0 : Hid (∀ W, Calls Try.prog 8 #[Agg8 L, .string ⟨#[114, 97, 116, 99, 104, 101, 116]⟩, .int .i64 0] W fun e w' => e = .returned (Agg8 (DerB L lRatchet 0)) ∧ Below W.heap.size W w') := fun W => refDerive_any L hLb ⟨#[114, 97, 116, 99, 104, 101, 116]⟩ (by decide) 0 W
  have hRb : ∀ i, 0 ≤ DerB L lRatchet 0 i ∧ DerB L lRatchet 0 i < 256 := DerB_bd _ _ _
  obtain ⟨R, hR⟩ : ∃ R, DerB L lRatchet 0 = R := ⟨_, rfl⟩
  rw [hR] at HD0 hRb ⊢
  clear hR hLb
  have HD : Hid (∀ (j : Nat) W, Calls Try.prog 8 #[Agg8 (RatB R j), .string ⟨#[110, 101, 120, 116]⟩, .int .i64 j] W fun e w' => e = .returned (Agg8 (RatB R (j + 1))) ∧ Below W.heap.size W w') := fun j W => refDerive_any (RatB R j) (RatB_bd R hRb j) ⟨#[110, 101, 120, 116]⟩ (by decide) j W
  obtain ⟨Z, hZ⟩ : ∃ Z, RatB R = Z := ⟨_, rfl⟩
  have hZ0 : R = Z 0 := by rw [← hZ]; rfl
  rw [hZ] at HD ⊢
  clear hZ hRb
  subst hZ0
  go_enter Try.func34, Try.ntmps34
  go_wp2_with fail
  refine (HP.out _).mono ?_
  rintro e w1 ⟨rfl, b1⟩
  obtain ⟨c1, d1, z1⟩ := cell1 _ _ _ b1
  clear b1
  go_wp2_with fail
  refine (HD0.out _).mono ?_
  rintro e w2 ⟨rfl, b2⟩
  have c2 : w2.heap[w.heap.size + 1]? = some (.cells C0 23 (0, 0)) := by rw [b2.block _ (by simp; omega), Below.heap_alloc _ _ _ (by omega), c1]
  have d2 : Below w.heap.size w w2 := (d1.alloc (by omega) _).trans (b2.mono (by simp; omega))
  have z2 : w.heap.size + 2 ≤ w2.heap.size := by have := b2.size; simp at this; omega
  clear b2 c1 d1 z1 HP HD0
  go_wp2_with fail
  go_loopg [11] g (fun k i wr => ∃ j : Nat, j + k = g ∧ i = .int .i64 j ∧ Below w.heap.size w wr ∧ w2.heap.size < wr.heap.size ∧ wr.heap[w.heap.size + 1]? = some (.cells C0 23 (0, 0)) ∧ wr.heap[w2.heap.size]? = some (.cells (Cells8 (Z j)) 23 (0, 0)))
  case atStart => exact ⟨0, by omega, rfl, d2.alloc (by omega) _, by simp, by rw [Below.heap_alloc _ _ _ (by omega), c2], (MapKept.heap_alloc _ _).1⟩
  case round =>
    obtain ⟨j, hj, rfl, e1, e2, e3, e4⟩ := hrel
    clear c2 d2
    by_cases hlt : j < g
    · go_wp2_with (refine wpList_load_row rfl 23 _ rfl w2.heap.size rfl 23 (Cells8 (Z j)) (0, 0) _ e4 Try.underlying23 rfl (by kernel_rfl) ?_)
      refine (HD.out j _).mono ?_
      rintro e w3 ⟨rfl, b3⟩
      have f1 : Below w.heap.size w w3 := e1.trans (b3.mono (by omega))
      have f2 : w2.heap.size < w3.heap.size := by have := b3.size; omega
      have f3 : w3.heap[w.heap.size + 1]? = some (.cells C0 23 (0, 0)) := by rw [b3.block _ (by omega), e3]
      have f4 : w3.heap[w2.heap.size]? = some (.cells (Cells8 (Z j)) 23 (0, 0)) := by rw [b3.block _ (by omega), e4]
      clear e1 e2 e3 e4 b3
      go_wp2_with (refine wpList_store_row rfl 23 _ _ rfl w2.heap.size (Cells8 (Z (j + 1))) rfl rfl 23 (Cells8 (Z j)) f4 (by kernel_rfl) rfl (by simp [Value.oneCell']) ?_)
      go_roundg (gk - 1)
      case measure => omega
      case rel => exact ⟨j + 1, by omega, by go_num, below_setRow f1 (by omega) _, by simp; omega, by rw [setRow_other _ _ _ _ (by omega), f3], setRow_heap _ _ _ _ _ _ f4⟩
    · obtain rfl : j = g := by omega
      go_wp2_with (first | refine wpList_load_row rfl 23 _ rfl w2.heap.size rfl 23 (Cells8 (Z j)) (0, 0) _ e4 Try.underlying23 rfl (by kernel_rfl) ?_ | refine wpList_store_row rfl 23 _ _ rfl (w.heap.size + 1) (Cells8 (Z j)) rfl rfl 23 C0 e3 (by kernel_rfl) rfl (by simp [Value.oneCell']) ?_)
      exact bodyPost_ret (v := Agg8 (Z j)) (results_cell_row rfl _ _ (w.heap.size + 1) 23 (Cells8 (Z j)) (0, 0) _ rfl (setRow_heap _ _ _ _ _ _ e3) Try.underlying23 rfl (by kernel_rfl)) rfl ⟨rfl, below_setRow e1 (by omega) _⟩

set_option maxHeartbeats 1000000 in
theorem refKey_any (s : Nat → Int) (hs : ∀ i, 0 ≤ s i ∧ s i < 256) (n m g : Int) (w : World) :
    Calls Try.prog 16 #[Agg8 s, .int .i64 n, .int .i64 m, .int .i64 g] w fun e w' => e = .returned (.tuple #[Agg8 (KeyV s n m g), .int .i64 (KeyE n m g)]) ∧ Below w.heap.size w w' := by
  have HM : Hid (∀ W, Calls Try.prog 27 #[.int .i64 n, .int .i64 m] W fun e w' => e = .returned (.bool (FitB n m)) ∧ w' = W) := fun W => fits_any n m W
  obtain ⟨c0, d0, _⟩ := cell1 w _ (.cells (Cells8 s) 23) (Below.refl _ _)
  have C1 : Hid (((w.alloc (.cells (Cells8 s) 23)).alloc (.cells C0 23)).heap[w.heap.size + 1]? = some (.cells C0 23 (0, 0))) := c0
  clear c0
  cases hfit : FitB n m with
  | false =>
    have e1 : KeyV s n m g = fun _ => 0 := by unfold KeyV; rw [hfit]; rfl
    have e2 : KeyE n m g = 1 := by unfold KeyE; rw [hfit]; rfl
    rw [e1, e2]
    rw [hfit] at HM
    clear e1 e2 hfit hs
    go_enter Try.func16, Try.ntmps16
    go_wp2_with (go_at_call 27; refine (HM.out _).mono ?_; rintro e w' ⟨rfl, rfl⟩)
    exact bodyPost_ret (v := .tuple #[.agg C0, .int .i64 1]) (results_row_tmp rfl _ _ (w.heap.size + 1) 23 C0 (0, 0) _ (.int .i64 1) rfl rfl C1.out Try.underlying23 rfl (by kernel_rfl)) rfl ⟨rfl, d0⟩
  | true =>
    obtain ⟨f1, f2, f3, f4⟩ := (fitB_iff n m).1 hfit
    cases hgen : GenB g with
    | false =>
      have e1 : KeyV s n m g = fun _ => 0 := by unfold KeyV; rw [hfit, hgen]; rfl
      have e2 : KeyE n m g = 8 := by unfold KeyE; rw [hfit, hgen]; rfl
      rw [e1, e2]
      rw [hfit] at HM
      have hg : ¬ (0 ≤ g ∧ g ≤ 65535) := fun h => by rw [(genB_iff g).2 h] at hgen; cases hgen
      clear e1 e2 hfit hgen hs
      by_cases hneg : g < 0
      · go_enter Try.func16, Try.ntmps16
        go_wp2_with (go_at_call 27; refine (HM.out _).mono ?_; rintro e w' ⟨rfl, rfl⟩)
        exact bodyPost_ret (v := .tuple #[.agg C0, .int .i64 8]) (results_row_tmp rfl _ _ (w.heap.size + 1) 23 C0 (0, 0) _ (.int .i64 8) rfl rfl C1.out Try.underlying23 rfl (by kernel_rfl)) rfl ⟨rfl, d0⟩
      · have hbig : 65535 < g := by omega
        clear hg
        go_enter Try.func16, Try.ntmps16
        go_wp2_with (go_at_call 27; refine (HM.out _).mono ?_; rintro e w' ⟨rfl, rfl⟩)
        exact bodyPost_ret (v := .tuple #[.agg C0, .int .i64 8]) (results_row_tmp rfl _ _ (w.heap.size + 1) 23 C0 (0, 0) _ (.int .i64 8) rfl rfl C1.out Try.underlying23 rfl (by kernel_rfl)) rfl ⟨rfl, d0⟩
    | true =>
      obtain ⟨g0, g1⟩ := (genB_iff g).1 hgen
      obtain ⟨k, rfl⟩ : ∃ k : Nat, g = k := ⟨g.toNat, by omega⟩
      have e1 : KeyV s n m k = KeyM s n m k := by unfold KeyV; rw [hfit, hgen]; rfl
      have e2 : KeyE n m k = 0 := by unfold KeyE; rw [hfit, hgen]; rfl
      rw [e1, e2]
      rw [hfit] at HM
      have HR : Hid (∀ W, Calls Try.prog 34 #[Agg8 s, .int .i64 n, .int .i64 m, .int .i64 k] W fun e w' => e = .returned (Agg8 (RatM s n m k)) ∧ Below W.heap.size W w') := fun W => refRatchet_any s hs n m f2 f3 f4 k (by omega) W
      unfold KeyM
      have hRb : ∀ i, 0 ≤ RatM s n m k i ∧ RatM s n m k i < 256 := RatB_bd _ (DerB_bd _ _ _) k
      obtain ⟨R, hR⟩ : ∃ R, RatM s n m k = R := ⟨_, rfl⟩
      rw [hR] at HR hRb ⊢
      have HD : Hid (∀ W, Calls Try.prog 8 #[Agg8 R, .string ⟨#[107, 101, 121]⟩, .int .i64 k] W fun e w' => e = .returned (Agg8 (DerB R lKey k)) ∧ Below W.heap.size W w') := fun W => refDerive_any R hRb ⟨#[107, 101, 121]⟩ (by decide) k W
      obtain ⟨Y, hY⟩ : ∃ Y, DerB R lKey k = Y := ⟨_, rfl⟩
      rw [hY] at HD ⊢
      clear e1 e2 hR hfit hgen hs hY hRb C1 d0
      go_enter Try.func16, Try.ntmps16
      go_wp2_with (go_at_call 27; refine (HM.out _).mono ?_; rintro e w' ⟨rfl, rfl⟩)
      refine (HR.out _).mono ?_
      rintro e w1 ⟨rfl, b1⟩
      obtain ⟨c1, d1, z1⟩ := cell1 _ _ _ b1
      clear b1
      go_wp2_with fail
      refine (HD.out _).mono ?_
      rintro e w2 ⟨rfl, b2⟩
      have c2 : (w2.alloc (.cells (Cells8 Y) 23)).heap[w.heap.size + 1]? = some (.cells C0 23 (0, 0)) := by
        have := b2.size
        simp at this
        rw [Below.heap_alloc _ _ _ (by omega), b2.block _ (by simp; omega), Below.heap_alloc _ _ _ (by omega), c1]
      have d2 : Below w.heap.size w w2 := (d1.alloc (by omega) _).trans (b2.mono (by simp; omega))
      have z2 : w.heap.size + 2 ≤ w2.heap.size := by have := b2.size; simp at this; omega
      clear b2 c1 d1 HM HR HD
      go_wp2_with (refine wpList_store_row rfl 23 _ _ rfl (w.heap.size + 1) (Cells8 Y) rfl rfl 23 C0 c2 (by kernel_rfl) rfl (by simp [Value.oneCell']) ?_)
      exact bodyPost_ret (v := .tuple #[.agg (Cells8 Y), .int .i64 0]) (results_row_tmp rfl _ _ (w.heap.size + 1) 23 (Cells8 Y) (0, 0) _ (.int .i64 0) rfl rfl (setRow_heap _ _ _ _ _ _ c2) Try.underlying23 rfl (by kernel_rfl)) rfl ⟨rfl, below_setRow (d2.alloc (by omega) _) (by omega) _⟩
end Go.Proofs.Ytkpebabbnndopaa
