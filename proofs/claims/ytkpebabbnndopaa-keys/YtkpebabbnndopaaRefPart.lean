/- epochref.Part, which calls itself. -/
import Derived.Test.YtkpebabbnndopaaRows
import Derived.Test.YtkpebabbnndopaaRef
import Derived.Test.YtkpebabbnndopaaPureS
import Derived.Test.YtkpebabbnndopaaFit
import Derived.WalkKit
import Derived.WalkSpells
import Derived.WalkLawsBesides
import Derived.Deep.WholeRow
namespace Go.Proofs.Ytkpebabbnndopaa
open Go.RowKit

/-- 'ret' of an array that was stored into the result's cell -/
abbrev C0 : Array Value := Cells8 fun _ => 0

/-- the world behind the two new blocks of a call of the kind (box of a secret, result's cell), then a callee: the result's cell is as it was -/
theorem cell1 (w w1 : World) (A : Obj) (hb1 : Below ((w.alloc A).alloc (.cells C0 23)).heap.size ((w.alloc A).alloc (.cells C0 23)) w1) :
    w1.heap[w.heap.size + 1]? = some (.cells C0 23 (0, 0)) ∧ Below w.heap.size w w1 ∧ w.heap.size + 2 ≤ w1.heap.size := by
  have hsz := hb1.size
  simp at hsz
  refine ⟨?_, (((Below.refl _ w).alloc (Nat.le_refl _) _).alloc (by simp) _).trans (hb1.mono (by simp; omega)), by omega⟩
  rw [hb1.block _ (by simp)]
  have e := (MapKept.heap_alloc (w.alloc A) (.cells C0 23)).1
  simp only [World.size_alloc] at e
  exact e

set_option maxHeartbeats 1000000 in
theorem refPart_any (k : Nat) : ∀ (s : Nat → Int) (_ : ∀ i, 0 ≤ s i ∧ s i < 256) (f t m : Int) (w : World), 0 ≤ f → t ≤ 16 → f ≤ m → m < t → t - f ≤ k + 1 →
    Calls Try.prog 28 #[Agg8 s, .int .i64 f, .int .i64 t, .int .i64 m, .int .i64 (m + 1)] w fun e w' => e = .returned (Agg8 (LeafB k s f t m)) ∧ Below w.heap.size w w' := by
  induction k with
  | zero =>
    intro s hs f t m w hf ht hfm hmt htf
    obtain rfl : f = m := by omega
    obtain rfl : t = f + 1 := by omega
    go_enter Try.func28, Try.ntmps28
    go_wp2_with fail
    exact bodyPost_ret (v := Agg8 s) (by simp [results, Try.results28, go_sem]) rfl ⟨rfl, ((Below.refl _ w).alloc (Nat.le_refl _) _).alloc (by simp) _⟩
  | succ k ih =>
    intro s hs f t m w hf ht hfm hmt htf
    by_cases h1 : t - f ≤ 1
    · obtain rfl : f = m := by omega
      obtain rfl : t = f + 1 := by omega
      rw [LeafB_one _ _ _ _ _ h1]
      go_enter Try.func28, Try.ntmps28
      go_wp2_with fail
      exact bodyPost_ret (v := Agg8 s) (by simp [results, Try.results28, go_sem]) rfl ⟨rfl, ((Below.refl _ w).alloc (Nat.le_refl _) _).alloc (by simp) _⟩
    · have hsp := SplitI_bd (t - f) (by omega)
      have HSP : Hid (∀ W, Calls Try.prog 42 #[.int .i64 (t - f)] W fun e w' => e = .returned (.int .i64 (SplitI (t - f))) ∧ w' = W) := fun W => split_any (t - f) (by omega) (by omega) W
      by_cases h2 : m < f + SplitI (t - f)
      · rw [LeafB_left _ _ _ _ _ (by omega) h2]
        by_cases hne : m = f
        · subst hne
          obtain ⟨L, hL⟩ : ∃ L, DerB s lLeft 0 = L := ⟨_, rfl⟩
          have hLb : ∀ i, 0 ≤ L i ∧ L i < 256 := fun i => by rw [← hL]; exact DerB_bd _ _ _ _
          have HD : Hid (∀ W, Calls Try.prog 8 #[Agg8 s, .string ⟨#[108, 101, 102, 116]⟩, .int .i64 0] W fun e w' => e = .returned (Agg8 L) ∧ Below W.heap.size W w') := fun W => by
            have h := refDerive_any s hs ⟨#[108, 101, 102, 116]⟩ (by decide) 0 W
            rw [← hL]
            exact h
          rw [hL]
          clear hL
          have HP : Hid (∀ W, Calls Try.prog 28 #[Agg8 L, .int .i64 (m), .int .i64 (m + SplitI (t - m)), .int .i64 m, .int .i64 (m + 1)] W fun e w' => e = .returned (Agg8 (LeafB k L (m) (m + SplitI (t - m)) m)) ∧ Below W.heap.size W w') := fun W => ih L hLb _ _ m W (by omega) (by omega) (by omega) (by omega) (by omega)
          obtain ⟨X, hX⟩ : ∃ X, LeafB k L (m) (m + SplitI (t - m)) m = X := ⟨_, rfl⟩
          rw [hX] at HP ⊢
          obtain ⟨q, hq⟩ : ∃ q, SplitI (t - m) = q := ⟨_, rfl⟩
          rw [hq] at HP HSP hsp h2
          clear hX ih hq hLb
          have hnt : ¬ t = m + 1 := by omega
          go_enter Try.func28, Try.ntmps28
          go_wp2_with (first | (go_at_call 42; refine (HSP.out _).mono ?_; rintro e w' ⟨rfl, rfl⟩))
          refine (HD.out _).mono ?_
          rintro e w1 ⟨rfl, b1⟩
          obtain ⟨c1, d1, z1⟩ := cell1 _ _ _ b1
          clear b1
          go_wp2_with fail
          refine (HP.out _).mono ?_
          rintro e w2 ⟨rfl, b2⟩
          have c2 : w2.heap[w.heap.size + 1]? = some (.cells C0 23 (0, 0)) := by rw [b2.block _ (by simp; omega), Below.heap_alloc _ _ _ (by omega), c1]
          have d2 : Below w.heap.size w w2 := (d1.alloc (by omega) _).trans (b2.mono (by simp; omega))
          clear b2 c1 d1 HP HD HSP
          go_wp2_with (refine wpList_store_row rfl 23 _ _ rfl (w.heap.size + 1) (Cells8 X) rfl rfl 23 C0 c2 (by kernel_rfl) rfl (by simp [Value.oneCell']) ?_)
          exact bodyPost_ret (v := Agg8 X) (results_cell_row rfl _ _ (w.heap.size + 1) 23 (Cells8 X) (0, 0) _ rfl (setRow_heap _ _ _ _ _ _ c2) Try.underlying23 rfl (by kernel_rfl)) rfl ⟨rfl, below_setRow d2 (by omega) _⟩
        · have hnf : ¬ f = m := fun h => hne h.symm
          obtain ⟨L, hL⟩ : ∃ L, DerB s lLeft 0 = L := ⟨_, rfl⟩
          have hLb : ∀ i, 0 ≤ L i ∧ L i < 256 := fun i => by rw [← hL]; exact DerB_bd _ _ _ _
          have HD : Hid (∀ W, Calls Try.prog 8 #[Agg8 s, .string ⟨#[108, 101, 102, 116]⟩, .int .i64 0] W fun e w' => e = .returned (Agg8 L) ∧ Below W.heap.size W w') := fun W => by
            have h := refDerive_any s hs ⟨#[108, 101, 102, 116]⟩ (by decide) 0 W
            rw [← hL]
            exact h
          rw [hL]
          clear hL
          have HP : Hid (∀ W, Calls Try.prog 28 #[Agg8 L, .int .i64 (f), .int .i64 (f + SplitI (t - f)), .int .i64 m, .int .i64 (m + 1)] W fun e w' => e = .returned (Agg8 (LeafB k L (f) (f + SplitI (t - f)) m)) ∧ Below W.heap.size W w') := fun W => ih L hLb _ _ m W (by omega) (by omega) (by omega) (by omega) (by omega)
          obtain ⟨X, hX⟩ : ∃ X, LeafB k L (f) (f + SplitI (t - f)) m = X := ⟨_, rfl⟩
          rw [hX] at HP ⊢
          obtain ⟨q, hq⟩ : ∃ q, SplitI (t - f) = q := ⟨_, rfl⟩
          rw [hq] at HP HSP hsp h2
          clear hX ih hq hLb
          clear hne
          go_enter Try.func28, Try.ntmps28
          go_wp2_with (first | (go_at_call 42; refine (HSP.out _).mono ?_; rintro e w' ⟨rfl, rfl⟩))
          refine (HD.out _).mono ?_
          rintro e w1 ⟨rfl, b1⟩
          obtain ⟨c1, d1, z1⟩ := cell1 _ _ _ b1
          clear b1
          go_wp2_with fail
          refine (HP.out _).mono ?_
          rintro e w2 ⟨rfl, b2⟩
          have c2 : w2.heap[w.heap.size + 1]? = some (.cells C0 23 (0, 0)) := by rw [b2.block _ (by simp; omega), Below.heap_alloc _ _ _ (by omega), c1]
          have d2 : Below w.heap.size w w2 := (d1.alloc (by omega) _).trans (b2.mono (by simp; omega))
          clear b2 c1 d1 HP HD HSP
          go_wp2_with (refine wpList_store_row rfl 23 _ _ rfl (w.heap.size + 1) (Cells8 X) rfl rfl 23 C0 c2 (by kernel_rfl) rfl (by simp [Value.oneCell']) ?_)
          exact bodyPost_ret (v := Agg8 X) (results_cell_row rfl _ _ (w.heap.size + 1) 23 (Cells8 X) (0, 0) _ rfl (setRow_heap _ _ _ _ _ _ c2) Try.underlying23 rfl (by kernel_rfl)) rfl ⟨rfl, below_setRow d2 (by omega) _⟩
      · rw [LeafB_right _ _ _ _ _ (by omega) h2]
        have hnf : ¬ f = m := by omega
        obtain ⟨L, hL⟩ : ∃ L, DerB s lRight 0 = L := ⟨_, rfl⟩
        have hLb : ∀ i, 0 ≤ L i ∧ L i < 256 := fun i => by rw [← hL]; exact DerB_bd _ _ _ _
        have HD : Hid (∀ W, Calls Try.prog 8 #[Agg8 s, .string ⟨#[114, 105, 103, 104, 116]⟩, .int .i64 0] W fun e w' => e = .returned (Agg8 L) ∧ Below W.heap.size W w') := fun W => by
          have h := refDerive_any s hs ⟨#[114, 105, 103, 104, 116]⟩ (by decide) 0 W
          rw [← hL]
          exact h
        rw [hL]
        clear hL
        have HP : Hid (∀ W, Calls Try.prog 28 #[Agg8 L, .int .i64 (f + SplitI (t - f)), .int .i64 (t), .int .i64 m, .int .i64 (m + 1)] W fun e w' => e = .returned (Agg8 (LeafB k L (f + SplitI (t - f)) (t) m)) ∧ Below W.heap.size W w') := fun W => ih L hLb _ _ m W (by omega) (by omega) (by omega) (by omega) (by omega)
        obtain ⟨X, hX⟩ : ∃ X, LeafB k L (f + SplitI (t - f)) (t) m = X := ⟨_, rfl⟩
        rw [hX] at HP ⊢
        obtain ⟨q, hq⟩ : ∃ q, SplitI (t - f) = q := ⟨_, rfl⟩
        rw [hq] at HP HSP hsp h2
        clear hX ih hq hLb
        skip
        go_enter Try.func28, Try.ntmps28
        go_wp2_with (first | (go_at_call 42; refine (HSP.out _).mono ?_; rintro e w' ⟨rfl, rfl⟩))
        refine (HD.out _).mono ?_
        rintro e w1 ⟨rfl, b1⟩
        obtain ⟨c1, d1, z1⟩ := cell1 _ _ _ b1
        clear b1
        go_wp2_with fail
        refine (HP.out _).mono ?_
        rintro e w2 ⟨rfl, b2⟩
        have c2 : w2.heap[w.heap.size + 1]? = some (.cells C0 23 (0, 0)) := by rw [b2.block _ (by simp; omega), Below.heap_alloc _ _ _ (by omega), c1]
        have d2 : Below w.heap.size w w2 := (d1.alloc (by omega) _).trans (b2.mono (by simp; omega))
        clear b2 c1 d1 HP HD HSP
        go_wp2_with (refine wpList_store_row rfl 23 _ _ rfl (w.heap.size + 1) (Cells8 X) rfl rfl 23 C0 c2 (by kernel_rfl) rfl (by simp [Value.oneCell']) ?_)
        exact bodyPost_ret (v := Agg8 X) (results_cell_row rfl _ _ (w.heap.size + 1) 23 (Cells8 X) (0, 0) _ rfl (setRow_heap _ _ _ _ _ _ c2) Try.underlying23 rfl (by kernel_rfl)) rfl ⟨rfl, below_setRow d2 (by omega) _⟩
end Go.Proofs.Ytkpebabbnndopaa
