/- Key, and epochref.Key. -/
import Derived.Test.YtpmcllcpjddooaaRatchet
import Derived.Test.YtpmcllcpjddooaaLeafOf
import Derived.Test.YtpmcllcpjddooaaRefKey
import Derived.WalkKit
import Derived.WalkSpells
import Derived.WalkLawsBesides
import Derived.Deep.WholeRow
namespace Go.Proofs.Ytpmcllcpjddooaa
open Go.RowKit

/-- what Key answers -/
def KeyV (s : Nat → Int) (n m g : Int) : Nat → Int := if FitB n m && GenB g then KeyM s n m g.toNat else fun _ => 0
def KeyE (n m g : Int) : Int := if FitB n m then (if GenB g then 0 else 8) else 1
theorem genB_iff (g : Int) : GenB g = true ↔ 0 ≤ g ∧ g ≤ 65535 := by simp [GenB]
theorem KeyV_bd (s : Nat → Int) (n m g : Int) : ∀ i, 0 ≤ KeyV s n m g i ∧ KeyV s n m g i < 256 := by
  unfold KeyV
  split
  · exact DerB_bd _ _ _
  · intro i; simp

set_option maxHeartbeats 1000000 in
theorem key_any (s : Nat → Int) (hs : ∀ i, 0 ≤ s i ∧ s i < 256) (n m g : Int) (w : World) :
    Calls Try.prog 15 #[Agg8 s, .int .i64 n, .int .i64 m, .int .i64 g] w fun e w' => e = .returned (.tuple #[Agg8 (KeyV s n m g), .int .i64 (KeyE n m g)]) ∧ Below w.heap.size w w' := by
  have HL : Hid (∀ W, Calls Try.prog 13 #[Agg8 s, .int .i64 n, .int .i64 m] W fun e w' => e = .returned (.tuple #[Agg8 (LeafV s n m), .int .i64 (LeafE n m)]) ∧ Below W.heap.size W w') := fun W => leaf_any s hs n m W
  have HG : Hid (∀ W, Calls Try.prog 29 #[.int .i64 g] W fun e w' => e = .returned (.bool (GenB g)) ∧ w' = W) := fun W => isGeneration_any g W
  cases hfit : FitB n m with
  | false =>
    have e1 : KeyV s n m g = fun _ => 0 := by unfold KeyV; rw [hfit]; rfl
    have e2 : KeyE n m g = 1 := by unfold KeyE; rw [hfit]; rfl
    have e3 : LeafE n m = 1 := by unfold LeafE; rw [hfit]; rfl
    rw [e1, e2]
    rw [e3] at HL
    obtain ⟨X, hX⟩ : ∃ X, LeafV s n m = X := ⟨_, rfl⟩
    rw [hX] at HL
    clear e1 e2 e3 hX hfit hs
    go_enter Try.func15, Try.ntmps15
    go_wp2_with fail
    refine (HL.out _).mono ?_
    rintro e w1 ⟨rfl, b1⟩
    obtain ⟨c1, d1, z1⟩ := cell1 _ _ _ b1
    clear b1
    have c2 : (w1.alloc (.cells (Cells8 X) 23)).heap[w.heap.size + 1]? = some (.cells C0 23 (0, 0)) := by rw [Below.heap_alloc _ _ _ (by omega), c1]
    go_wp2_with (refine wpList_store_row rfl 23 _ _ rfl (w.heap.size + 1) (Cells8 fun _ => 0) rfl rfl 23 C0 c2 (by kernel_rfl) rfl (by simp [Value.oneCell']) ?_)
    exact bodyPost_ret (v := .tuple #[.agg C0, .int .i64 1]) (results_row_tmp rfl _ _ (w.heap.size + 1) 23 C0 (0, 0) _ (.int .i64 1) rfl rfl (setRow_heap _ _ _ _ _ _ c2) Try.underlying23 rfl (by kernel_rfl)) rfl ⟨rfl, below_setRow (d1.alloc (by omega) _) (by omega) _⟩
  | true =>
    have e3 : LeafE n m = 0 := by unfold LeafE; rw [hfit]; rfl
    have hXb := LeafV_bd s hs n m
    have e4 : LeafV s n m = LeafM s n m := by unfold LeafV; rw [hfit]; rfl
    rw [e4] at HL hXb
    rw [e3] at HL
    cases hgen : GenB g with
    | false =>
      have e1 : KeyV s n m g = fun _ => 0 := by unfold KeyV; rw [hfit, hgen]; rfl
      have e2 : KeyE n m g = 8 := by unfold KeyE; rw [hfit, hgen]; rfl
      rw [e1, e2]
      rw [hgen] at HG
      obtain ⟨X, hX⟩ : ∃ X, LeafM s n m = X := ⟨_, rfl⟩
      rw [hX] at HL
      clear e1 e2 e3 e4 hX hfit hgen hs hXb
      go_enter Try.func15, Try.ntmps15
      go_wp2_with fail
      refine (HL.out _).mono ?_
      rintro e w1 ⟨rfl, b1⟩
      obtain ⟨c1, d1, z1⟩ := cell1 _ _ _ b1
      clear b1
      have c2 : (w1.alloc (.cells (Cells8 X) 23)).heap[w.heap.size + 1]? = some (.cells C0 23 (0, 0)) := by rw [Below.heap_alloc _ _ _ (by omega), c1]
      go_wp2_with (first | (go_at_call 29; refine (HG.out _).mono ?_; rintro e w' ⟨rfl, rfl⟩) | refine wpList_store_row rfl 23 _ _ rfl (w.heap.size + 1) (Cells8 fun _ => 0) rfl rfl 23 C0 c2 (by kernel_rfl) rfl (by simp [Value.oneCell']) ?_)
      exact bodyPost_ret (v := .tuple #[.agg C0, .int .i64 8]) (results_row_tmp rfl _ _ (w.heap.size + 1) 23 C0 (0, 0) _ (.int .i64 8) rfl rfl (setRow_heap _ _ _ _ _ _ c2) Try.underlying23 rfl (by kernel_rfl)) rfl ⟨rfl, below_setRow (d1.alloc (by omega) _) (by omega) _⟩
    | true =>
      obtain ⟨g0, g1⟩ := (genB_iff g).1 hgen
      obtain ⟨k, rfl⟩ : ∃ k : Nat, g = k := ⟨g.toNat, by omega⟩
      have e1 : KeyV s n m k = KeyM s n m k := by unfold KeyV; rw [hfit, hgen]; rfl
      have e2 : KeyE n m k = 0 := by unfold KeyE; rw [hfit, hgen]; rfl
      rw [e1, e2]
      rw [hgen] at HG
      unfold KeyM RatM
      obtain ⟨X, hX⟩ : ∃ X, LeafM s n m = X := ⟨_, rfl⟩
      rw [hX] at HL hXb ⊢
      clear e1 e2 e3 e4 hX hfit hgen hs
      have HR : Hid (∀ W, Calls Try.prog 30 #[Agg8 X] W fun e w' => e = .returned (AggR 0 (DerB X lRatchet 0)) ∧ Below W.heap.size W w') := fun W => ratchetOf_any X hXb W
      have hRb : ∀ i, 0 ≤ DerB X lRatchet 0 i ∧ DerB X lRatchet 0 i < 256 := DerB_bd _ _ _
      obtain ⟨R, hR⟩ : ∃ R, DerB X lRatchet 0 = R := ⟨_, rfl⟩
      rw [hR] at HR hRb ⊢
      clear hR hXb
      have HT : Hid (∀ b W, W.heap[b]? = some (.cells (CellsR (0 : Nat) R) 60 (0, 0)) → Calls Try.prog 31 #[.pointer (some ⟨b, 0, none⟩), .int .i64 k, .func (.func 32) #[.pointer (some ⟨b, 0, none⟩)] #[]] W fun e w' => e = .returned (.tuple #[]) ∧ RMid W b k (RatB R k) w') := fun b W h => goTo_any 0 k (Nat.zero_le _) (by omega) R hRb b W h
      have HK : Hid (∀ b W, W.heap[b]? = some (.cells (CellsR k (RatB R k)) 60 (0, 0)) → Calls Try.prog 33 #[.pointer (some ⟨b, 0, none⟩)] W fun e w' => e = .returned (Agg8 (DerB (RatB R k) lKey k)) ∧ Below W.heap.size W w') := fun b W h => rkey_any k (RatB R k) (RatB_bd R hRb k) b W h
      obtain ⟨Y, hY⟩ : ∃ Y, DerB (RatB R k) lKey k = Y := ⟨_, rfl⟩
      rw [hY] at HK ⊢
      clear hY
      have hmf : ∀ (fn : Fn) (first cap : Array Value) (w : World), (Instr.makeFunc fn first cap).run Try.prog w = .ok (.func fn first cap) w := fun _ _ _ _ => rfl
      go_enter Try.func15, Try.ntmps15
      go_wp2_with fail
      refine (HL.out _).mono ?_
      rintro e w1 ⟨rfl, b1⟩
      obtain ⟨c1, d1, z1⟩ := cell1 _ _ _ b1
      clear b1
      go_wp2_with (go_at_call 29; refine (HG.out _).mono ?_; rintro e w' ⟨rfl, rfl⟩)
      refine (HR.out _).mono ?_
      rintro e w2 ⟨rfl, b2⟩
      have c2 : w2.heap[w.heap.size + 1]? = some (.cells C0 23 (0, 0)) := by rw [b2.block _ (by simp; omega), Below.heap_alloc _ _ _ (by omega), c1]
      have d2 : Below w.heap.size w w2 := (d1.alloc (by omega) _).trans (b2.mono (by simp; omega))
      have z2 : w.heap.size + 2 ≤ w2.heap.size := by have := b2.size; simp at this; omega
      clear b2 c1 d1 z1 HL HG HR
      go_wp2_with fail
      refine (HT.out w2.heap.size _ (MapKept.heap_alloc _ _).1).mono ?_
      rintro e w3 ⟨rfl, q1, q2, q3⟩
      have d3 : Below w.heap.size w w3 := (d2.alloc (by omega) _).trans (q1.mono (by omega))
      have c3 : w3.heap[w.heap.size + 1]? = some (.cells C0 23 (0, 0)) := by rw [q1.block _ (by omega), Below.heap_alloc _ _ _ (by omega), c2]
      clear q1 c2 d2 HT hmf
      go_wp2_with fail
      refine (HK.out _ _ q3).mono ?_
      rintro e w4 ⟨rfl, b4⟩
      have d4 : Below w.heap.size w w4 := d3.trans (b4.mono (by omega))
      have c4 : w4.heap[w.heap.size + 1]? = some (.cells C0 23 (0, 0)) := by rw [b4.block _ (by omega), c3]
      clear b4 c3 d3 q3 HK
      go_wp2_with (refine wpList_store_row rfl 23 _ _ rfl (w.heap.size + 1) (Cells8 Y) rfl rfl 23 C0 c4 (by kernel_rfl) rfl (by simp [Value.oneCell']) ?_)
      exact bodyPost_ret (v := .tuple #[.agg (Cells8 Y), .int .i64 0]) (results_row_tmp rfl _ _ (w.heap.size + 1) 23 (Cells8 Y) (0, 0) _ (.int .i64 0) rfl rfl (setRow_heap _ _ _ _ _ _ c4) Try.underlying23 rfl (by kernel_rfl)) rfl ⟨rfl, below_setRow d4 (by omega) _⟩

set_option maxHeartbeats 1000000 in
theorem refKey_any (s : Nat → Int) (hs : ∀ i, 0 ≤ s i ∧ s i < 256) (n m g : Int) (w : World) :
    Calls Try.prog 16 #[Agg8 s, .int .i64 n, .int .i64 m, .int .i64 g] w fun e w' => e = .returned (.tuple #[Agg8 (KeyV s n m g), .int .i64 (KeyE n m g)]) ∧ Below w.heap.size w w' := by
  have HM : Hid (∀ W, Calls Try.prog 27 #[.int .i64 n, .int .i64 m] W fun e w' => e = .returned (.bool (FitB n m)) ∧ w' = W) := fun W => fits_any n m W
  obtain ⟨c0, d0, _⟩ := cell1 w _ (.cells (Cells8 s) 23) (Below.refl _ _)
  have C1 : Hid (((w.alloc (.cells (Cells8 s) 23)).alloc (.cells C0 23)).heap[w.heap.size + 1]? = some (.cells C0 23 (0, 0))) := c0
  clear c0
  cases hfit : FitB n m with
  | false =>
    have e1 : KeyV s n m g = fun _ => 0 := by unfold KeyV; rw [hfit]; rfl
    have e2 : KeyE n m g = 1 := by unfold KeyE; rw [hfit]; rfl
    rw [e1, e2]
    rw [hfit] at HM
    clear e1 e2 hfit hs
    go_enter Try.func16, Try.ntmps16
    go_wp2_with (go_at_call 27; refine (HM.out _).mono ?_; rintro e w' ⟨rfl, rfl⟩)
    exact bodyPost_ret (v := .tuple #[.agg C0, .int .i64 1]) (results_row_tmp rfl _ _ (w.heap.size + 1) 23 C0 (0, 0) _ (.int .i64 1) rfl rfl C1.out Try.underlying23 rfl (by kernel_rfl)) rfl ⟨rfl, d0⟩
  | true =>
    obtain ⟨f1, f2, f3, f4⟩ := (fitB_iff n m).1 hfit
    cases hgen : GenB g with
    | false =>
      have e1 : KeyV s n m g = fun _ => 0 := by unfold KeyV; rw [hfit, hgen]; rfl
      have e2 : KeyE n m g = 8 := by unfold KeyE; rw [hfit, hgen]; rfl
      rw [e1, e2]
      rw [hfit] at HM
      have hg : ¬ (0 ≤ g ∧ g ≤ 65535) := fun h => by rw [(genB_iff g).2 h] at hgen; cases hgen
      clear e1 e2 hfit hgen hs
      by_cases hneg : g < 0
      · go_enter Try.func16, Try.ntmps16
        go_wp2_with (go_at_call 27; refine (HM.out _).mono ?_; rintro e w' ⟨rfl, rfl⟩)
        exact bodyPost_ret (v := .tuple #[.agg C0, .int .i64 8]) (results_row_tmp rfl _ _ (w.heap.size + 1) 23 C0 (0, 0) _ (.int .i64 8) rfl rfl C1.out Try.underlying23 rfl (by kernel_rfl)) rfl ⟨rfl, d0⟩
      · have hbig : 65535 < g := by omega
        clear hg
        go_enter Try.func16, Try.ntmps16
        go_wp2_with (go_at_call 27; refine (HM.out _).mono ?_; rintro e w' ⟨rfl, rfl⟩)
        exact bodyPost_ret (v := .tuple #[.agg C0, .int .i64 8]) (results_row_tmp rfl _ _ (w.heap.size + 1) 23 C0 (0, 0) _ (.int .i64 8) rfl rfl C1.out Try.underlying23 rfl (by kernel_rfl)) rfl ⟨rfl, d0⟩
    | true =>
      obtain ⟨g0, g1⟩ := (genB_iff g).1 hgen
      obtain ⟨k, rfl⟩ : ∃ k : Nat, g = k := ⟨g.toNat, by omega⟩
      have e1 : KeyV s n m k = KeyM s n m k := by unfold KeyV; rw [hfit, hgen]; rfl
      have e2 : KeyE n m k = 0 := by unfold KeyE; rw [hfit, hgen]; rfl
      rw [e1, e2]
      rw [hfit] at HM
      have HR : Hid (∀ W, Calls Try.prog 34 #[Agg8 s, .int .i64 n, .int .i64 m, .int .i64 k] W fun e w' => e = .returned (Agg8 (RatM s n m k)) ∧ Below W.heap.size W w') := fun W => refRatchet_any s hs n m f2 f3 f4 k (by omega) W
      unfold KeyM
      have hRb : ∀ i, 0 ≤ RatM s n m k i ∧ RatM s n m k i < 256 := RatB_bd _ (DerB_bd _ _ _) k
      obtain ⟨R, hR⟩ : ∃ R, RatM s n m k = R := ⟨_, rfl⟩
      rw [hR] at HR hRb ⊢
      have HD : Hid (∀ W, Calls Try.prog 8 #[Agg8 R, .string ⟨#[107, 101, 121]⟩, .int .i64 k] W fun e w' => e = .returned (Agg8 (DerB R lKey k)) ∧ Below W.heap.size W w') := fun W => refDerive_any R hRb ⟨#[107, 101, 121]⟩ (by decide) k W
      obtain ⟨Y, hY⟩ : ∃ Y, DerB R lKey k = Y := ⟨_, rfl⟩
      rw [hY] at HD ⊢
      clear e1 e2 hR hfit hgen hs hY hRb C1 d0
      go_enter Try.func16, Try.ntmps16
      go_wp2_with (go_at_call 27; refine (HM.out _).mono ?_; rintro e w' ⟨rfl, rfl⟩)
      refine (HR.out _).mono ?_
      rintro e w1 ⟨rfl, b1⟩
      obtain ⟨c1, d1, z1⟩ := cell1 _ _ _ b1
      clear b1
      go_wp2_with fail
      refine (HD.out _).mono ?_
      rintro e w2 ⟨rfl, b2⟩
      have c2 : (w2.alloc (.cells (Cells8 Y) 23)).heap[w.heap.size + 1]? = some (.cells C0 23 (0, 0)) := by
        have := b2.size
        simp at this
        rw [Below.heap_alloc _ _ _ (by omega), b2.block _ (by simp; omega), Below.heap_alloc _ _ _ (by omega), c1]
      have d2 : Below w.heap.size w w2 := (d1.alloc (by omega) _).trans (b2.mono (by simp; omega))
      have z2 : w.heap.size + 2 ≤ w2.heap.size := by have := b2.size; simp at this; omega
      clear b2 c1 d1 HM HR HD
      go_wp2_with (refine wpList_store_row rfl 23 _ _ rfl (w.heap.size + 1) (Cells8 Y) rfl rfl 23 C0 c2 (by kernel_rfl) rfl (by simp [Value.oneCell']) ?_)
      exact bodyPost_ret (v := .tuple #[.agg (Cells8 Y), .int .i64 0]) (results_row_tmp rfl _ _ (w.heap.size + 1) 23 (Cells8 Y) (0, 0) _ (.int .i64 0) rfl rfl (setRow_heap _ _ _ _ _ _ c2) Try.underlying23 rfl (by kernel_rfl)) rfl ⟨rfl, below_setRow (d2.alloc (by omega) _) (by omega) _⟩
end Go.Proofs.Ytpmcllcpjddooaa
