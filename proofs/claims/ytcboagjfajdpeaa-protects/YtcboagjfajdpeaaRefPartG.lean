/- epochref.Part, of any part of the tree. -/
import Derived.Test.YtcboagjfajdpeaaRefPart
import Derived.Test.YtcboagjfajdpeaaPureN
import Derived.WalkKit
import Derived.WalkSpells
import Derived.WalkLawsBesides
import Derived.Deep.WholeRow
namespace Go.Proofs.Ytcboagjfajdpeaa
open Go.RowKit
set_option linter.unusedVariables false

theorem refPart_here (s : Nat → Int) (f t : Nat) (w : World) :
    Calls Try.prog 39 #[Agg8 s, .int .i64 f, .int .i64 t, .int .i64 f, .int .i64 t] w fun e w' => e = .returned (Agg8 s) ∧ Below w.heap.size w w' := by
  go_enter Try.func39, Try.ntmps39
  go_wp2_with fail
  exact bodyPost_ret (v := Agg8 s) (by simp [results, Try.results39, go_sem]) rfl ⟨rfl, ((Below.refl _ w).alloc (Nat.le_refl _) _).alloc (by simp) _⟩

set_option maxHeartbeats 1000000 in
theorem refPartG_any (k : Nat) : ∀ (s : Nat → Int) (_ : ∀ i, 0 ≤ s i ∧ s i < 256) (f t a b : Nat) (w : World), t ≤ 16 → NodeB k f t a b = true →
    Calls Try.prog 39 #[Agg8 s, .int .i64 f, .int .i64 t, .int .i64 a, .int .i64 b] w fun e w' => e = .returned (Agg8 (PartB k s f t a b)) ∧ Below w.heap.size w w' := by
  induction k with
  | zero =>
    intro s hs f t a b w ht h
    simp [NodeB] at h
    obtain ⟨rfl, rfl⟩ := h
    exact refPart_here s f t w
  | succ k ih =>
    intro s hs f t a b w ht h
    by_cases e : f = a ∧ t = b
    · obtain ⟨rfl, rfl⟩ := e
      rw [PartB_succ, if_pos ⟨rfl, rfl⟩]
      exact refPart_here s f t w
    · rw [PartB_succ, if_neg e]
      rw [NodeB_succ, decide_eq_false e, Bool.false_or, Bool.and_eq_true, decide_eq_true_eq] at h
      obtain ⟨h2, h3⟩ := h
      have hsp := SplitN_bd (t - f) h2
      have HSP : Hid (∀ W, Calls Try.prog 66 #[.int .i64 ((t : Int) - f)] W fun e w' => e = .returned (.int .i64 (SplitN (t - f))) ∧ w' = W) := fun W => by
        have h := split_any ((t : Int) - f) (by omega) (by omega) W
        have e1 : ((t : Int) - f) = ((t - f : Nat) : Int) := by omega
        rw [e1] at h ⊢
        rw [SplitN_eq] at h
        exact h
      obtain ⟨q, hq⟩ : ∃ q, SplitN (t - f) = q := ⟨_, rfl⟩
      rw [hq] at HSP hsp h3 ⊢
      clear hq
      by_cases ha : a < f + q
      · rw [if_pos ha] at h3 ⊢
        by_cases hfa : f = a
        · have hnt : ¬ (t : Int) = b := by omega
          subst hfa
          obtain ⟨L, hL⟩ : ∃ L, DerB s lLeft 0 = L := ⟨_, rfl⟩
          have hLb : ∀ i, 0 ≤ L i ∧ L i < 256 := fun i => by rw [← hL]; exact DerB_bd _ _ _ _
          have HD : Hid (∀ W, Calls Try.prog 11 #[Agg8 s, .string ⟨#[108, 101, 102, 116]⟩, .int .i64 0] W fun e w' => e = .returned (Agg8 L) ∧ Below W.heap.size W w') := fun W => by
            have h := refDerive_any s hs ⟨#[108, 101, 102, 116]⟩ (by decide) 0 W
            rw [← hL]
            exact h
          rw [hL]
          clear hL
          have HP : Hid (∀ W, Calls Try.prog 39 #[Agg8 L, .int .i64 (f), .int .i64 ((f : Int) + q), .int .i64 f, .int .i64 b] W fun e w' => e = .returned (Agg8 (PartB k L (f) (f + q) f b)) ∧ Below W.heap.size W w') := fun W => ih L hLb _ _ f b W (by omega) h3
          obtain ⟨X, hX⟩ : ∃ X, PartB k L (f) (f + q) f b = X := ⟨_, rfl⟩
          rw [hX] at HP ⊢
          clear hX ih hLb h3
          go_enter Try.func39, Try.ntmps39
          go_wp2_with (first | (go_at_call 66; refine (HSP.out _).mono ?_; rintro e w' ⟨rfl, rfl⟩))
          refine (HD.out _).mono ?_
          rintro e w1 ⟨rfl, b1⟩
          obtain ⟨c1, d1, z1⟩ := cell1 _ _ _ b1
          clear b1
          go_wp2_with fail
          refine (HP.out _).mono ?_
          rintro e w2 ⟨rfl, b2⟩
          have c2 : w2.heap[w.heap.size + 1]? = some (.cells C0 23 (0, 0)) := by rw [b2.block _ (by simp; omega), Below.heap_alloc _ _ _ (by omega), c1]
          have d2 : Below w.heap.size w w2 := (d1.alloc (by omega) _).trans (b2.mono (by simp; omega))
          clear b2 c1 d1 HP HD HSP
          go_wp2_with (refine wpList_store_row rfl 23 _ _ rfl (w.heap.size + 1) (Cells8 X) rfl rfl 23 C0 c2 (by kernel_rfl) rfl (by simp [Value.oneCell']) ?_)
          exact bodyPost_ret (v := Agg8 X) (results_cell_row rfl _ _ (w.heap.size + 1) 23 (Cells8 X) (0, 0) _ rfl (setRow_heap _ _ _ _ _ _ c2) Try.underlying23 rfl (by kernel_rfl)) rfl ⟨rfl, below_setRow d2 (by omega) _⟩
        · have hnf : ¬ (f : Int) = a := by omega
          obtain ⟨L, hL⟩ : ∃ L, DerB s lLeft 0 = L := ⟨_, rfl⟩
          have hLb : ∀ i, 0 ≤ L i ∧ L i < 256 := fun i => by rw [← hL]; exact DerB_bd _ _ _ _
          have HD : Hid (∀ W, Calls Try.prog 11 #[Agg8 s, .string ⟨#[108, 101, 102, 116]⟩, .int .i64 0] W fun e w' => e = .returned (Agg8 L) ∧ Below W.heap.size W w') := fun W => by
            have h := refDerive_any s hs ⟨#[108, 101, 102, 116]⟩ (by decide) 0 W
            rw [← hL]
            exact h
          rw [hL]
          clear hL
          have HP : Hid (∀ W, Calls Try.prog 39 #[Agg8 L, .int .i64 (f), .int .i64 ((f : Int) + q), .int .i64 a, .int .i64 b] W fun e w' => e = .returned (Agg8 (PartB k L (f) (f + q) a b)) ∧ Below W.heap.size W w') := fun W => ih L hLb _ _ a b W (by omega) h3
          obtain ⟨X, hX⟩ : ∃ X, PartB k L (f) (f + q) a b = X := ⟨_, rfl⟩
          rw [hX] at HP ⊢
          clear hX ih hLb h3
          go_enter Try.func39, Try.ntmps39
          go_wp2_with (first | (go_at_call 66; refine (HSP.out _).mono ?_; rintro e w' ⟨rfl, rfl⟩))
          refine (HD.out _).mono ?_
          rintro e w1 ⟨rfl, b1⟩
          obtain ⟨c1, d1, z1⟩ := cell1 _ _ _ b1
          clear b1
          go_wp2_with fail
          refine (HP.out _).mono ?_
          rintro e w2 ⟨rfl, b2⟩
          have c2 : w2.heap[w.heap.size + 1]? = some (.cells C0 23 (0, 0)) := by rw [b2.block _ (by simp; omega), Below.heap_alloc _ _ _ (by omega), c1]
          have d2 : Below w.heap.size w w2 := (d1.alloc (by omega) _).trans (b2.mono (by simp; omega))
          clear b2 c1 d1 HP HD HSP
          go_wp2_with (refine wpList_store_row rfl 23 _ _ rfl (w.heap.size + 1) (Cells8 X) rfl rfl 23 C0 c2 (by kernel_rfl) rfl (by simp [Value.oneCell']) ?_)
          exact bodyPost_ret (v := Agg8 X) (results_cell_row rfl _ _ (w.heap.size + 1) 23 (Cells8 X) (0, 0) _ rfl (setRow_heap _ _ _ _ _ _ c2) Try.underlying23 rfl (by kernel_rfl)) rfl ⟨rfl, below_setRow d2 (by omega) _⟩
      · rw [if_neg ha] at h3 ⊢
        have hnf : ¬ (f : Int) = a := by omega
        obtain ⟨L, hL⟩ : ∃ L, DerB s lRight 0 = L := ⟨_, rfl⟩
        have hLb : ∀ i, 0 ≤ L i ∧ L i < 256 := fun i => by rw [← hL]; exact DerB_bd _ _ _ _
        have HD : Hid (∀ W, Calls Try.prog 11 #[Agg8 s, .string ⟨#[114, 105, 103, 104, 116]⟩, .int .i64 0] W fun e w' => e = .returned (Agg8 L) ∧ Below W.heap.size W w') := fun W => by
          have h := refDerive_any s hs ⟨#[114, 105, 103, 104, 116]⟩ (by decide) 0 W
          rw [← hL]
          exact h
        rw [hL]
        clear hL
        have HP : Hid (∀ W, Calls Try.prog 39 #[Agg8 L, .int .i64 ((f : Int) + q), .int .i64 (t), .int .i64 a, .int .i64 b] W fun e w' => e = .returned (Agg8 (PartB k L (f + q) (t) a b)) ∧ Below W.heap.size W w') := fun W => ih L hLb _ _ a b W (by omega) h3
        obtain ⟨X, hX⟩ : ∃ X, PartB k L (f + q) (t) a b = X := ⟨_, rfl⟩
        rw [hX] at HP ⊢
        clear hX ih hLb h3
        go_enter Try.func39, Try.ntmps39
        go_wp2_with (first | (go_at_call 66; refine (HSP.out _).mono ?_; rintro e w' ⟨rfl, rfl⟩))
        refine (HD.out _).mono ?_
        rintro e w1 ⟨rfl, b1⟩
        obtain ⟨c1, d1, z1⟩ := cell1 _ _ _ b1
        clear b1
        go_wp2_with fail
        refine (HP.out _).mono ?_
        rintro e w2 ⟨rfl, b2⟩
        have c2 : w2.heap[w.heap.size + 1]? = some (.cells C0 23 (0, 0)) := by rw [b2.block _ (by simp; omega), Below.heap_alloc _ _ _ (by omega), c1]
        have d2 : Below w.heap.size w w2 := (d1.alloc (by omega) _).trans (b2.mono (by simp; omega))
        clear b2 c1 d1 HP HD HSP
        go_wp2_with (refine wpList_store_row rfl 23 _ _ rfl (w.heap.size + 1) (Cells8 X) rfl rfl 23 C0 c2 (by kernel_rfl) rfl (by simp [Value.oneCell']) ?_)
        exact bodyPost_ret (v := Agg8 X) (results_cell_row rfl _ _ (w.heap.size + 1) 23 (Cells8 X) (0, 0) _ rfl (setRow_heap _ _ _ _ _ _ c2) Try.underlying23 rfl (by kernel_rfl)) rfl ⟨rfl, below_setRow d2 (by omega) _⟩
end Go.Proofs.Ytcboagjfajdpeaa
