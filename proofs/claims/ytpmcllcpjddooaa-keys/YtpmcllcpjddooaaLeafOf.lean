/- leafOf, Leaf, epochref.Leaf. -/
import Derived.Test.YtpmcllcpjddooaaHalves
import Derived.Test.YtpmcllcpjddooaaRefPart
import Derived.WalkKit
import Derived.WalkSpells
import Derived.WalkLawsBesides
import Derived.Deep.WholeRow
import Derived.Deep.MidRow
import Derived.Deep.LoopGhost
namespace Go.Proofs.Ytpmcllcpjddooaa
open Go.RowKit

theorem secret_range {w : World} {g : Nat} {f t : Int} {s : Nat → Int} {ty : TypeId} (h : w.heap[g]? = some (.cells (CellsP f t s) ty (0, 0))) : w.rangeAt g 2 (Cells8 s).toList :=
  World.rangeAt_of_block h 2 8

set_option maxHeartbeats 2000000 in
theorem leafOf_any (s : Nat → Int) (hs : ∀ i, 0 ≤ s i ∧ s i < 256) (n m : Int) (hn : n ≤ 16) (hm0 : 0 ≤ m) (hm : m < n) (w : World) :
    Calls Try.prog 25 #[AggP 0 n s, .int .i64 m] w fun e w' => e = .returned (Agg8 (LeafM s n m)) ∧ Below w.heap.size w w' := by
  unfold LeafM
  obtain ⟨X, hX⟩ : ∃ X, LeafB 16 s 0 n m = X := ⟨_, rfl⟩
  rw [hX]
  have HX : Hid (LeafB 16 s 0 n m = X) := hX
  clear hX
  go_enter Try.func25, Try.ntmps25
  go_wp2_with fail
  go_loopg [] 16 (fun k wr => ∃ (f t : Int) (x : Nat → Int), (∀ i, 0 ≤ x i ∧ x i < 256) ∧ 0 ≤ f ∧ t ≤ 16 ∧ f ≤ m ∧ m < t ∧ t - f ≤ k ∧ Hid (LeafB k x f t m = X) ∧ Below w.heap.size w wr ∧ w.heap.size + 2 ≤ wr.heap.size ∧ wr.heap[w.heap.size]? = some (.cells (CellsP f t x) 55 (0, 0)) ∧ wr.heap[w.heap.size + 1]? = some (.cells C0 23 (0, 0)))
  case atStart =>
    refine ⟨0, n, s, hs, by omega, by omega, by omega, by omega, by omega, HX, ((Below.refl _ w).alloc (Nat.le_refl _) _).alloc (by simp) _, by simp, ?_, ?_⟩
    · rw [Below.heap_alloc _ _ _ (by simp), (MapKept.heap_alloc _ _).1]
    · have e := (MapKept.heap_alloc (w.alloc (.cells (CellsP 0 n s) 55)) (.cells C0 23)).1
      simp only [World.size_alloc] at e
      exact e
  case round =>
    obtain ⟨f, t, x, hx, h1, h2, h3, h4, h5, HL, b1, b2, b3, b4⟩ := hrel
    have HSZ : Hid (∀ W, Calls Try.prog 36 #[AggP f t x] W fun e w' => e = .returned (.int .i64 (t - f)) ∧ w' = W.alloc (.cells (CellsP f t x) 55)) := fun W => size_any f t x h1 h2 (by omega) W
    have c3 : (wr.alloc (.cells (CellsP f t x) 55)).heap[w.heap.size]? = some (.cells (CellsP f t x) 55 (0, 0)) := by rw [Below.heap_alloc _ _ _ (by omega), b3]
    have c4 : (wr.alloc (.cells (CellsP f t x) 55)).heap[w.heap.size + 1]? = some (.cells C0 23 (0, 0)) := by rw [Below.heap_alloc _ _ _ (by omega), b4]
    by_cases hlt : 1 < t - f
    · obtain ⟨k, rfl⟩ : ∃ k, gk = k + 1 := ⟨gk - 1, by omega⟩
      have hsp := SplitI_bd (t - f) (by omega)
      have HH : Hid (∀ W, Calls Try.prog 37 #[AggP f t x] W fun e w' => e = .returned (.tuple #[AggP f (f + SplitI (t - f)) (DerB x lLeft 0), AggP (f + SplitI (t - f)) t (DerB x lRight 0)]) ∧ Below W.heap.size W w') := fun W => halves_any f t x hx h1 h2 (by omega) W
      obtain ⟨A, hA⟩ : ∃ A, DerB x lLeft 0 = A := ⟨_, rfl⟩
      obtain ⟨B, hB⟩ : ∃ B, DerB x lRight 0 = B := ⟨_, rfl⟩
      have hAb : ∀ i, 0 ≤ A i ∧ A i < 256 := fun i => by rw [← hA]; exact DerB_bd _ _ _ _
      have hBb : ∀ i, 0 ≤ B i ∧ B i < 256 := fun i => by rw [← hB]; exact DerB_bd _ _ _ _
      have HA : Hid (m < f + SplitI (t - f) → LeafB k A f (f + SplitI (t - f)) m = X) := fun h => by rw [← hA, ← LeafB_left _ _ _ _ _ hlt h]; exact HL.out
      have HB : Hid (¬ m < f + SplitI (t - f) → LeafB k B (f + SplitI (t - f)) t m = X) := fun h => by rw [← hB, ← LeafB_right _ _ _ _ _ hlt h]; exact HL.out
      rw [hA, hB] at HH
      obtain ⟨q, hq⟩ : ∃ q, f + SplitI (t - f) = q := ⟨_, rfl⟩
      rw [hq] at HH HA HB
      have hq1 : f < q ∧ q < t := by omega
      clear hA hB hq hsp HL
      go_wp2_with (first | refine wpList_load_row rfl 55 _ rfl w.heap.size rfl 55 (CellsP f t x) (0, 0) _ b3 Try.underlying55 rfl (by kernel_rfl) ?_ | (go_at_call 36; refine (HSZ.out _).mono ?_; rintro e w' ⟨rfl, rfl⟩) | refine wpList_load_row rfl 55 _ rfl w.heap.size rfl 55 (CellsP f t x) (0, 0) _ c3 Try.underlying55 rfl (by kernel_rfl) ?_)
      refine (HH.out _).mono ?_
      rintro e w1 ⟨rfl, d1⟩
      have e1 : Below w.heap.size w w1 := (b1.alloc (by omega) _).trans (d1.mono (by simp; omega))
      have e2 : w.heap.size + 2 ≤ w1.heap.size := by have := d1.size; simp at this; omega
      have e3 : w1.heap[w.heap.size]? = some (.cells (CellsP f t x) 55 (0, 0)) := by rw [d1.block _ (by simp; omega), c3]
      have e4 : w1.heap[w.heap.size + 1]? = some (.cells C0 23 (0, 0)) := by rw [d1.block _ (by simp; omega), c4]
      clear d1 b1 b2 b3 b4 c3 c4 HH HSZ
      go_wp2_with fail
      refine (has_any f q A m _).mono ?_
      rintro e wz ⟨rfl, hz⟩
      have z5 : wz.heap[w1.heap.size]? = some (.cells (CellsP f q A) 55 (0, 0)) := by
        rw [hz, Below.heap_alloc _ _ _ (by simp; omega), Below.heap_alloc _ _ _ (by simp), (MapKept.heap_alloc _ _).1]
      have z6 : wz.heap[w1.heap.size + 1]? = some (.cells (CellsP q t B) 55 (0, 0)) := by
        rw [hz, Below.heap_alloc _ _ _ (by simp)]
        have e := (MapKept.heap_alloc (w1.alloc (.cells (CellsP f q A) 55)) (.cells (CellsP q t B) 55)).1
        simp only [World.size_alloc] at e
        exact e
      have z3 : wz.heap[w.heap.size]? = some (.cells (CellsP f t x) 55 (0, 0)) := by
        rw [hz, Below.heap_alloc _ _ _ (by simp; omega), Below.heap_alloc _ _ _ (by simp; omega), Below.heap_alloc _ _ _ (by omega), e3]
      have z4 : wz.heap[w.heap.size + 1]? = some (.cells C0 23 (0, 0)) := by
        rw [hz, Below.heap_alloc _ _ _ (by simp; omega), Below.heap_alloc _ _ _ (by simp; omega), Below.heap_alloc _ _ _ (by omega), e4]
      have z1 : Below w.heap.size w wz := by rw [hz]; exact ((e1.alloc (by omega) _).alloc (by simp; omega) _).alloc (by simp; omega) _
      have z2 : w.heap.size + 2 ≤ wz.heap.size := by rw [hz]; simp; omega
      clear hz e1 e3 e4
      by_cases hmq : m < q
      · have hdec : decide (f ≤ m ∧ m < q) = true := by simp; omega
        rw [hdec]
        have HA' : Hid (LeafB k A f q m = X) := HA.out hmq
        clear HA HB hdec
        go_wp2_with (first | refine wpList_load_row rfl 55 _ rfl w1.heap.size rfl 55 (CellsP f q A) (0, 0) _ z5 Try.underlying55 rfl (by kernel_rfl) ?_ | refine wpList_store_row rfl 55 _ _ rfl w.heap.size (CellsP f q A) rfl rfl 55 (CellsP f t x) z3 (by kernel_rfl) rfl (by simp [Value.oneCell']) ?_)
        go_roundg k
        case measure => omega
        case rel => exact ⟨f, q, A, hAb, by omega, by omega, by omega, by omega, by omega, HA', below_setRow z1 (by omega) _, by simp; omega, setRow_heap _ _ _ _ _ _ z3, by rw [setRow_other _ _ _ _ (by omega), z4]⟩
      · have hdec : decide (f ≤ m ∧ m < q) = false := by simp; omega
        rw [hdec]
        have HB' : Hid (LeafB k B q t m = X) := HB.out (by omega)
        clear HA HB hdec
        go_wp2_with (first | refine wpList_load_row rfl 55 _ rfl (w1.heap.size + 1) rfl 55 (CellsP q t B) (0, 0) _ z6 Try.underlying55 rfl (by kernel_rfl) ?_ | refine wpList_store_row rfl 55 _ _ rfl w.heap.size (CellsP q t B) rfl rfl 55 (CellsP f t x) z3 (by kernel_rfl) rfl (by simp [Value.oneCell']) ?_)
        go_roundg k
        case measure => omega
        case rel => exact ⟨q, t, B, hBb, by omega, by omega, by omega, by omega, by omega, HB', below_setRow z1 (by omega) _, by simp; omega, setRow_heap _ _ _ _ _ _ z3, by rw [setRow_other _ _ _ _ (by omega), z4]⟩
    · have hL : LeafB gk x f t m = x := LeafB_one _ _ _ _ _ (by omega)
      have r3 := secret_range c3
      go_wp2_with (first | refine wpList_load_row rfl 55 _ rfl w.heap.size rfl 55 (CellsP f t x) (0, 0) _ b3 Try.underlying55 rfl (by kernel_rfl) ?_ | (go_at_call 36; refine (HSZ.out _).mono ?_; rintro e w' ⟨rfl, rfl⟩) | refine wpList_load_mid rfl 23 _ rfl w.heap.size 2 rfl (Cells8 x).toList _ r3 Try.underlying23 rfl (by kernel_rfl) ?_ | refine wpList_store_row rfl 23 _ _ rfl (w.heap.size + 1) (Cells8 x) rfl rfl 23 C0 c4 (by kernel_rfl) rfl (by simp [Value.oneCell']) ?_)
      have hXx : X = x := by rw [← HL.out, hL]
      subst hXx
      exact bodyPost_ret (v := Agg8 X) (results_cell_row rfl _ _ (w.heap.size + 1) 23 (Cells8 X) (0, 0) _ rfl (setRow_heap _ _ _ _ _ _ c4) Try.underlying23 rfl (by kernel_rfl)) rfl ⟨rfl, below_setRow (b1.alloc (by omega) _) (by omega) _⟩

/-- what Leaf answers -/
def LeafV (s : Nat → Int) (n m : Int) : Nat → Int := if FitB n m then LeafM s n m else fun _ => 0
def LeafE (n m : Int) : Int := if FitB n m then 0 else 1
theorem fitB_iff (n m : Int) : FitB n m = true ↔ 1 ≤ n ∧ n ≤ 16 ∧ 0 ≤ m ∧ m < n := by simp [FitB]
theorem LeafV_bd (s : Nat → Int) (hs : ∀ i, 0 ≤ s i ∧ s i < 256) (n m : Int) : ∀ i, 0 ≤ LeafV s n m i ∧ LeafV s n m i < 256 := by
  unfold LeafV
  split
  · exact LeafB_bd _ _ _ _ _ hs
  · intro i; simp

set_option maxHeartbeats 1000000 in
theorem leaf_any (s : Nat → Int) (hs : ∀ i, 0 ≤ s i ∧ s i < 256) (n m : Int) (w : World) :
    Calls Try.prog 13 #[Agg8 s, .int .i64 n, .int .i64 m] w fun e w' => e = .returned (.tuple #[Agg8 (LeafV s n m), .int .i64 (LeafE n m)]) ∧ Below w.heap.size w w' := by
  have HM : Hid (∀ W, Calls Try.prog 24 #[.int .i64 n, .int .i64 m] W fun e w' => e = .returned (.bool (FitB n m)) ∧ w' = W) := fun W => hasMember_any n m W
  cases hfit : FitB n m with
  | false =>
    have e1 : LeafV s n m = fun _ => 0 := by unfold LeafV; rw [hfit]; rfl
    have e2 : LeafE n m = 1 := by unfold LeafE; rw [hfit]; rfl
    rw [e1, e2]
    rw [hfit] at HM
    clear e1 e2 hfit
    go_enter Try.func13, Try.ntmps13
    go_wp2_with (go_at_call 24; refine (HM.out _).mono ?_; rintro e w' ⟨rfl, rfl⟩)
    obtain ⟨c1, d1, _⟩ := cell1 w _ (.cells (Cells8 s) 23) (Below.refl _ _)
    exact bodyPost_ret (v := .tuple #[.agg C0, .int .i64 1]) (results_row_tmp rfl _ _ (w.heap.size + 1) 23 C0 (0, 0) _ (.int .i64 1) rfl rfl c1 Try.underlying23 rfl (by kernel_rfl)) rfl ⟨rfl, d1⟩
  | true =>
    obtain ⟨f1, f2, f3, f4⟩ := (fitB_iff n m).1 hfit
    have e1 : LeafV s n m = LeafM s n m := by unfold LeafV; rw [hfit]; rfl
    have e2 : LeafE n m = 0 := by unfold LeafE; rw [hfit]; rfl
    rw [e1, e2]
    rw [hfit] at HM
    clear e1 e2 hfit
    have HT : Hid (∀ W, Calls Try.prog 26 #[Agg8 s, .int .i64 n] W fun e w' => e = .returned (AggP 0 n s) ∧ Below W.heap.size W w') := fun W => wholeTree_any s n W
    have HL : Hid (∀ W, Calls Try.prog 25 #[AggP 0 n s, .int .i64 m] W fun e w' => e = .returned (Agg8 (LeafM s n m)) ∧ Below W.heap.size W w') := fun W => leafOf_any s hs n m f2 f3 f4 W
    obtain ⟨X, hX⟩ : ∃ X, LeafM s n m = X := ⟨_, rfl⟩
    rw [hX] at HL ⊢
    clear hX
    go_enter Try.func13, Try.ntmps13
    go_wp2_with (go_at_call 24; refine (HM.out _).mono ?_; rintro e w' ⟨rfl, rfl⟩)
    refine (HT.out _).mono ?_
    rintro e w1 ⟨rfl, b1⟩
    obtain ⟨c1, d1, z1⟩ := cell1 _ _ _ b1
    clear b1
    go_wp2_with fail
    refine (HL.out _).mono ?_
    rintro e w2 ⟨rfl, b2⟩
    have c2 : w2.heap[w.heap.size + 1]? = some (.cells C0 23 (0, 0)) := by rw [b2.block _ (by omega), c1]
    have d2 : Below w.heap.size w w2 := d1.trans (b2.mono (by omega))
    clear b2 c1 d1
    go_wp2_with (refine wpList_store_row rfl 23 _ _ rfl (w.heap.size + 1) (Cells8 X) rfl rfl 23 C0 c2 (by kernel_rfl) rfl (by simp [Value.oneCell']) ?_)
    exact bodyPost_ret (v := .tuple #[.agg (Cells8 X), .int .i64 0]) (results_row_tmp rfl _ _ (w.heap.size + 1) 23 (Cells8 X) (0, 0) _ (.int .i64 0) rfl rfl (setRow_heap _ _ _ _ _ _ c2) Try.underlying23 rfl (by kernel_rfl)) rfl ⟨rfl, below_setRow d2 (by omega) _⟩

set_option maxHeartbeats 1000000 in
theorem refLeaf_any (s : Nat → Int) (hs : ∀ i, 0 ≤ s i ∧ s i < 256) (n m : Int) (w : World) :
    Calls Try.prog 14 #[Agg8 s, .int .i64 n, .int .i64 m] w fun e w' => e = .returned (.tuple #[Agg8 (LeafV s n m), .int .i64 (LeafE n m)]) ∧ Below w.heap.size w w' := by
  have HM : Hid (∀ W, Calls Try.prog 27 #[.int .i64 n, .int .i64 m] W fun e w' => e = .returned (.bool (FitB n m)) ∧ w' = W) := fun W => fits_any n m W
  cases hfit : FitB n m with
  | false =>
    have e1 : LeafV s n m = fun _ => 0 := by unfold LeafV; rw [hfit]; rfl
    have e2 : LeafE n m = 1 := by unfold LeafE; rw [hfit]; rfl
    rw [e1, e2]
    rw [hfit] at HM
    clear e1 e2 hfit
    go_enter Try.func14, Try.ntmps14
    go_wp2_with (go_at_call 27; refine (HM.out _).mono ?_; rintro e w' ⟨rfl, rfl⟩)
    obtain ⟨c1, d1, _⟩ := cell1 w _ (.cells (Cells8 s) 23) (Below.refl _ _)
    exact bodyPost_ret (v := .tuple #[.agg C0, .int .i64 1]) (results_row_tmp rfl _ _ (w.heap.size + 1) 23 C0 (0, 0) _ (.int .i64 1) rfl rfl c1 Try.underlying23 rfl (by kernel_rfl)) rfl ⟨rfl, d1⟩
  | true =>
    obtain ⟨f1, f2, f3, f4⟩ := (fitB_iff n m).1 hfit
    have e1 : LeafV s n m = LeafM s n m := by unfold LeafV; rw [hfit]; rfl
    have e2 : LeafE n m = 0 := by unfold LeafE; rw [hfit]; rfl
    rw [e1, e2]
    rw [hfit] at HM
    clear e1 e2 hfit
    have HP : Hid (∀ W, Calls Try.prog 28 #[Agg8 s, .int .i64 0, .int .i64 n, .int .i64 m, .int .i64 (m + 1)] W fun e w' => e = .returned (Agg8 (LeafM s n m)) ∧ Below W.heap.size W w') := fun W => refPart_any 16 s hs 0 n m W (by omega) (by omega) (by omega) (by omega) (by omega)
    obtain ⟨X, hX⟩ : ∃ X, LeafM s n m = X := ⟨_, rfl⟩
    rw [hX] at HP ⊢
    clear hX
    go_enter Try.func14, Try.ntmps14
    go_wp2_with (go_at_call 27; refine (HM.out _).mono ?_; rintro e w' ⟨rfl, rfl⟩)
    refine (HP.out _).mono ?_
    rintro e w1 ⟨rfl, b1⟩
    obtain ⟨c1, d1, z1⟩ := cell1 _ _ _ b1
    clear b1
    have c2 : (w1.alloc (.cells (Cells8 X) 23)).heap[w.heap.size + 1]? = some (.cells C0 23 (0, 0)) := by rw [Below.heap_alloc _ _ _ (by omega), c1]
    go_wp2_with (refine wpList_store_row rfl 23 _ _ rfl (w.heap.size + 1) (Cells8 X) rfl rfl 23 C0 c2 (by kernel_rfl) rfl (by simp [Value.oneCell']) ?_)
    exact bodyPost_ret (v := .tuple #[.agg (Cells8 X), .int .i64 0]) (results_row_tmp rfl _ _ (w.heap.size + 1) 23 (Cells8 X) (0, 0) _ (.int .i64 0) rfl rfl (setRow_heap _ _ _ _ _ _ c2) Try.underlying23 rfl (by kernel_rfl)) rfl ⟨rfl, below_setRow (d1.alloc (by omega) _) (by omega) _⟩
end Go.Proofs.Ytpmcllcpjddooaa
