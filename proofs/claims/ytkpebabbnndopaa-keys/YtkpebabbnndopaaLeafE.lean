/- Leaf. -/
import Derived.Test.YtkpebabbnndopaaLeafOf
import Derived.WalkKit
import Derived.WalkSpells
import Derived.WalkLawsBesides
import Derived.Deep.WholeRow
namespace Go.Proofs.Ytkpebabbnndopaa
open Go.RowKit

set_option maxHeartbeats 2000000 in
set_option maxRecDepth 50000 in
theorem leaf_any (s : Nat → Int) (hs : ∀ i, 0 ≤ s i ∧ s i < 256) (n m : Int) (w : World) :
    Calls Try.prog 13 #[Agg8 s, .int .i64 n, .int .i64 m] w fun e w' => e = .returned (.tuple #[Agg8 (LeafV s n m), .int .i64 (LeafE n m)]) ∧ Below w.heap.size w w' := by
  have HM : Hid (∀ W, Calls Try.prog 24 #[.int .i64 n, .int .i64 m] W fun e w' => e = .returned (.bool (FitB n m)) ∧ w' = W) := fun W => hasMember_any n m W
  cases hfit : FitB n m with
  | false =>
    have e1 : LeafV s n m = fun _ => 0 := by unfold LeafV; rw [hfit]; rfl
    have e2 : LeafE n m = 1 := by unfold LeafE; rw [hfit]; rfl
    rw [e1, e2]
    rw [hfit] at HM
    clear e1 e2 hfit
    go_enter Try.func13, Try.ntmps13
    go_wp2_with (go_at_call 24; refine (HM.out _).mono ?_; rintro e w' ⟨rfl, rfl⟩)
    obtain ⟨c1, d1, _⟩ := cell1 w _ (.cells (Cells8 s) 23) (Below.refl _ _)
    exact bodyPost_ret (v := .tuple #[.agg C0, .int .i64 1]) (results_row_tmp rfl _ _ (w.heap.size + 1) 23 C0 (0, 0) _ (.int .i64 1) rfl rfl c1 Try.underlying23 rfl (by kernel_rfl)) rfl ⟨rfl, d1⟩
  | true =>
    obtain ⟨f1, f2, f3, f4⟩ := (fitB_iff n m).1 hfit
    have e1 : LeafV s n m = LeafM s n m := by unfold LeafV; rw [hfit]; rfl
    have e2 : LeafE n m = 0 := by unfold LeafE; rw [hfit]; rfl
    rw [e1, e2]
    rw [hfit] at HM
    clear e1 e2 hfit
    obtain ⟨n, rfl⟩ : ∃ k : Nat, n = k := ⟨n.toNat, by omega⟩
    obtain ⟨m, rfl⟩ : ∃ k : Nat, m = k := ⟨m.toNat, by omega⟩
    have HT : Hid (∀ W, Calls Try.prog 25 #[Agg8 s, .int .i64 n] W fun e w' => e = .returned (.agg (TZ Try.zeroCells56 n s)) ∧ Below W.heap.size W w') := fun W => wholeTree_any s n W
    have HL : Hid (∀ W tb, W.heap[tb]? = some (.cells (TZ Try.zeroCells56 n s) 56 (0, 0)) → Calls Try.prog 26 #[.pointer (some ⟨tb, 0, none⟩), .int .i64 m, .func (.func 6) #[] #[]] W fun e w' => e = .returned (Agg8 (LeafM s n m)) ∧ Outside [tb] W w') := fun W tb hW => by
      have := takeLeaf_any drv_plain tb 0 56 _ [] [] ⟨0, n, s⟩ m W (Home.bare hW) (TC_tree n (by omega) s hs) ⟨Nat.zero_le _, by show m < n; omega⟩ (by simp) (by intro x hx; simp at hx; subst hx; show 0 < n; omega) (by show wide [⟨0, n, s⟩] ≤ 16; rw [wide_cons]; simp [wide]; omega) (fun h => absurd rfl h)
      refine this.mono fun e w' ⟨h1, cs', h2, _⟩ => ⟨?_, h2.outn⟩
      rw [h1, spl_leaf 16 0 n s m (by omega) (by omega) (by omega)]
      rfl
    obtain ⟨X, hX⟩ : ∃ X, LeafM s n m = X := ⟨_, rfl⟩
    rw [hX] at HL ⊢
    clear hX
    go_enter Try.func13, Try.ntmps13
    go_wp2_with (go_at_call 24; refine (HM.out _).mono ?_; rintro e w' ⟨rfl, rfl⟩)
    refine (HT.out _).mono ?_
    rintro e w1 ⟨rfl, b1⟩
    obtain ⟨c1, d1, z1⟩ := cell1 _ _ _ b1
    clear b1
    obtain ⟨w1b, hw1b⟩ : ∃ w1b, w1.alloc (.cells Try.zeroCells56 56) = w1b := ⟨_, rfl⟩
    have HW1B : Hid (w1.alloc (.cells Try.zeroCells56 56) = w1b) := hw1b
    have t1b : w1b.heap[w1.heap.size]? = some (.cells Try.zeroCells56 56 (0, 0)) := by rw [← hw1b]; exact (MapKept.heap_alloc _ _).1
    have e1b : Below w1.heap.size w1 w1b := by rw [← hw1b]; exact (Below.refl _ w1).alloc (Nat.le_refl _) _
    have z1b : w1.heap.size < w1b.heap.size := (Array.getElem?_eq_some_iff.1 t1b).1
    have hTs := TC_size n s
    have hTo := TC_one n s
    obtain ⟨TT, hTT⟩ : ∃ TT, TZ Try.zeroCells56 n s = TT := ⟨_, rfl⟩
    rw [hTT] at hTs hTo HL ⊢
    obtain ⟨w1c, hw1c⟩ : ∃ w1c, w1b.setRow w1.heap.size TT = w1c := ⟨_, rfl⟩
    have HW1C : Hid (w1b.setRow w1.heap.size TT = w1c) := hw1c
    have t1c : w1c.heap[w1.heap.size]? = some (.cells TT 56 (0, 0)) := by rw [← hw1c]; exact setRow_heap _ _ _ _ _ _ t1b
    have c1c : w1c.heap[w.heap.size + 1]? = some (.cells C0 23 (0, 0)) := by rw [← hw1c, setRow_other _ _ _ _ (by omega), e1b.block _ (by omega), c1]
    have d1c : Below w.heap.size w w1c := by rw [← hw1c]; exact below_setRow (d1.trans (e1b.mono (by omega))) (by omega) _
    have z1c : w1.heap.size < w1c.heap.size := (Array.getElem?_eq_some_iff.1 t1c).1
    clear hw1b hw1c hTT
    go_wp2_with (rw [HW1B.out]; refine wpList_store_row rfl 56 _ _ rfl w1.heap.size TT rfl rfl 56 Try.zeroCells56 t1b (by rw [hTs]; kernel_rfl) (by rw [hTs]; kernel_rfl) hTo ?_; rw [HW1C.out])
    refine (HL.out _ w1.heap.size t1c).mono ?_
    rintro e w2 ⟨rfl, o2⟩
    have c2 : w2.heap[w.heap.size + 1]? = some (.cells C0 23 (0, 0)) := o2.row c1c (by simp; omega)
    have d2 : Below w.heap.size w w2 := d1c.trans (o2.toBelow w.heap.size (by omega) (by intro i hi; simp at hi; omega))
    clear o2 c1 d1 c1c d1c t1c HW1B HW1C t1b e1b hTs hTo
    go_wp2_with (refine wpList_store_row rfl 23 _ _ rfl (w.heap.size + 1) (Cells8 X) rfl rfl 23 C0 c2 (by kernel_rfl) rfl (by simp [Value.oneCell']) ?_)
    exact bodyPost_ret (v := .tuple #[.agg (Cells8 X), .int .i64 0]) (results_row_tmp rfl _ _ (w.heap.size + 1) 23 (Cells8 X) (0, 0) _ (.int .i64 0) rfl rfl (setRow_heap _ _ _ _ _ _ c2) Try.underlying23 rfl (by kernel_rfl)) rfl ⟨rfl, below_setRow d2 (by omega) _⟩
end Go.Proofs.Ytkpebabbnndopaa
