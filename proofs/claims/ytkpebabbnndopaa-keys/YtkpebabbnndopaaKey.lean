/- Key. -/
import Derived.Test.YtkpebabbnndopaaRatchet
import Derived.Test.YtkpebabbnndopaaLeafE
import Derived.Test.YtkpebabbnndopaaRefLeaf
import Derived.WalkKit
import Derived.WalkSpells
import Derived.WalkLawsBesides
import Derived.Deep.WholeRow
namespace Go.Proofs.Ytkpebabbnndopaa
open Go.RowKit

set_option maxHeartbeats 1000000 in
theorem key_any (s : Nat → Int) (hs : ∀ i, 0 ≤ s i ∧ s i < 256) (n m g : Int) (w : World) :
    Calls Try.prog 15 #[Agg8 s, .int .i64 n, .int .i64 m, .int .i64 g] w fun e w' => e = .returned (.tuple #[Agg8 (KeyV s n m g), .int .i64 (KeyE n m g)]) ∧ Below w.heap.size w w' := by
  have HL : Hid (∀ W, Calls Try.prog 13 #[Agg8 s, .int .i64 n, .int .i64 m] W fun e w' => e = .returned (.tuple #[Agg8 (LeafV s n m), .int .i64 (LeafE n m)]) ∧ Below W.heap.size W w') := fun W => leaf_any s hs n m W
  have HG : Hid (∀ W, Calls Try.prog 29 #[.int .i64 g] W fun e w' => e = .returned (.bool (GenB g)) ∧ w' = W) := fun W => isGeneration_any g W
  cases hfit : FitB n m with
  | false =>
    have e1 : KeyV s n m g = fun _ => 0 := by unfold KeyV; rw [hfit]; rfl
    have e2 : KeyE n m g = 1 := by unfold KeyE; rw [hfit]; rfl
    have e3 : LeafE n m = 1 := by unfold LeafE; rw [hfit]; rfl
    rw [e1, e2]
    rw [e3] at HL
    obtain ⟨X, hX⟩ : ∃ X, LeafV s n m = X := ⟨_, rfl⟩
    rw [hX] at HL
    clear e1 e2 e3 hX hfit hs
    go_enter Try.func15, Try.ntmps15
    go_wp2_with fail
    refine (HL.out _).mono ?_
    rintro e w1 ⟨rfl, b1⟩
    obtain ⟨c1, d1, z1⟩ := cell1 _ _ _ b1
    clear b1
    have c2 : (w1.alloc (.cells (Cells8 X) 23)).heap[w.heap.size + 1]? = some (.cells C0 23 (0, 0)) := by rw [Below.heap_alloc _ _ _ (by omega), c1]
    go_wp2_with (refine wpList_store_row rfl 23 _ _ rfl (w.heap.size + 1) (Cells8 fun _ => 0) rfl rfl 23 C0 c2 (by kernel_rfl) rfl (by simp [Value.oneCell']) ?_)
    exact bodyPost_ret (v := .tuple #[.agg C0, .int .i64 1]) (results_row_tmp rfl _ _ (w.heap.size + 1) 23 C0 (0, 0) _ (.int .i64 1) rfl rfl (setRow_heap _ _ _ _ _ _ c2) Try.underlying23 rfl (by kernel_rfl)) rfl ⟨rfl, below_setRow (d1.alloc (by omega) _) (by omega) _⟩
  | true =>
    have e3 : LeafE n m = 0 := by unfold LeafE; rw [hfit]; rfl
    have hXb := LeafV_bd s hs n m
    have e4 : LeafV s n m = LeafM s n m := by unfold LeafV; rw [hfit]; rfl
    rw [e4] at HL hXb
    rw [e3] at HL
    cases hgen : GenB g with
    | false =>
      have e1 : KeyV s n m g = fun _ => 0 := by unfold KeyV; rw [hfit, hgen]; rfl
      have e2 : KeyE n m g = 8 := by unfold KeyE; rw [hfit, hgen]; rfl
      rw [e1, e2]
      rw [hgen] at HG
      obtain ⟨X, hX⟩ : ∃ X, LeafM s n m = X := ⟨_, rfl⟩
      rw [hX] at HL
      clear e1 e2 e3 e4 hX hfit hgen hs hXb
      go_enter Try.func15, Try.ntmps15
      go_wp2_with fail
      refine (HL.out _).mono ?_
      rintro e w1 ⟨rfl, b1⟩
      obtain ⟨c1, d1, z1⟩ := cell1 _ _ _ b1
      clear b1
      have c2 : (w1.alloc (.cells (Cells8 X) 23)).heap[w.heap.size + 1]? = some (.cells C0 23 (0, 0)) := by rw [Below.heap_alloc _ _ _ (by omega), c1]
      go_wp2_with (first | (go_at_call 29; refine (HG.out _).mono ?_; rintro e w' ⟨rfl, rfl⟩) | refine wpList_store_row rfl 23 _ _ rfl (w.heap.size + 1) (Cells8 fun _ => 0) rfl rfl 23 C0 c2 (by kernel_rfl) rfl (by simp [Value.oneCell']) ?_)
      exact bodyPost_ret (v := .tuple #[.agg C0, .int .i64 8]) (results_row_tmp rfl _ _ (w.heap.size + 1) 23 C0 (0, 0) _ (.int .i64 8) rfl rfl (setRow_heap _ _ _ _ _ _ c2) Try.underlying23 rfl (by kernel_rfl)) rfl ⟨rfl, below_setRow (d1.alloc (by omega) _) (by omega) _⟩
    | true =>
      obtain ⟨g0, g1⟩ := (genB_iff g).1 hgen
      obtain ⟨k, rfl⟩ : ∃ k : Nat, g = k := ⟨g.toNat, by omega⟩
      have e1 : KeyV s n m k = KeyM s n m k := by unfold KeyV; rw [hfit, hgen]; rfl
      have e2 : KeyE n m k = 0 := by unfold KeyE; rw [hfit, hgen]; rfl
      rw [e1, e2]
      rw [hgen] at HG
      unfold KeyM RatM
      obtain ⟨X, hX⟩ : ∃ X, LeafM s n m = X := ⟨_, rfl⟩
      rw [hX] at HL hXb ⊢
      clear e1 e2 e3 e4 hX hfit hgen hs
      have HR : Hid (∀ W, Calls Try.prog 30 #[Agg8 X, .func (.func 6) #[] #[]] W fun e w' => e = .returned (AggR true 0 (DerB X lRatchet 0)) ∧ Below W.heap.size W w') := fun W => (ratchetOf_any drv_plain X hXb W (has_none _)).mono fun _ _ ⟨h1, h2⟩ => ⟨h1, h2.toBelow⟩
      have hRb : ∀ i, 0 ≤ DerB X lRatchet 0 i ∧ DerB X lRatchet 0 i < 256 := DerB_bd _ _ _
      obtain ⟨R, hR⟩ : ∃ R, DerB X lRatchet 0 = R := ⟨_, rfl⟩
      rw [hR] at HR hRb ⊢
      clear hR hXb
      have HT : Hid (∀ b W, W.heap[b]? = some (.cells (CellsR true (0 : Nat) R) 62 (0, 0)) → Calls Try.prog 31 #[.pointer (some ⟨b, 0, none⟩), .int .i64 k, .func (.func 32) #[.pointer (some ⟨b, 0, none⟩)] #[], .func (.func 6) #[] #[]] W fun e w' => e = .returned (.tuple #[]) ∧ Outside [b] W w' ∧ ∃ cs, w'.heap[b]? = some (.cells cs 62 (0, 0)) ∧ RatAt cs 0 true k (RatB R k)) := fun b W h =>
        (goTo_any drv_plain 0 k (Nat.zero_le _) (by omega) true R hRb b 0 62 _ W (Home.bare h) (fun j v hv => by rw [Nat.zero_add]; simpa [RatB] using hv) (fun h => absurd rfl h)).mono fun _ _ ⟨h1, cs', h2, h3⟩ => ⟨h1, h2.outn, cs', h2.home.row, h3⟩
      have HK : Hid (∀ b W cs, W.heap[b]? = some (.cells cs 62 (0, 0)) → RatAt cs 0 true k (RatB R k) → Calls Try.prog 33 #[.pointer (some ⟨b, 0, none⟩), .func (.func 6) #[] #[]] W fun e w' => e = .returned (Agg8 (DerB (RatB R k) lKey k)) ∧ Below W.heap.size W w') := fun b W cs h hr =>
        (rkey_any drv_plain k true (RatB R k) (RatB_bd R hRb k) b 0 62 cs W (Home.bare h) hr).mono fun _ _ ⟨h1, h2⟩ => ⟨h1, h2.toBelow⟩
      obtain ⟨Y, hY⟩ : ∃ Y, DerB (RatB R k) lKey k = Y := ⟨_, rfl⟩
      rw [hY] at HK ⊢
      clear hY
      have hmf : ∀ (fn : Fn) (first cap : Array Value) (w : World), (Instr.makeFunc fn first cap).run Try.prog w = .ok (.func fn first cap) w := fun _ _ _ _ => rfl
      go_enter Try.func15, Try.ntmps15
      go_wp2_with fail
      refine (HL.out _).mono ?_
      rintro e w1 ⟨rfl, b1⟩
      obtain ⟨c1, d1, z1⟩ := cell1 _ _ _ b1
      clear b1
      go_wp2_with (go_at_call 29; refine (HG.out _).mono ?_; rintro e w' ⟨rfl, rfl⟩)
      refine (HR.out _).mono ?_
      rintro e w2 ⟨rfl, b2⟩
      have c2 : w2.heap[w.heap.size + 1]? = some (.cells C0 23 (0, 0)) := by rw [b2.block _ (by simp; omega), Below.heap_alloc _ _ _ (by omega), c1]
      have d2 : Below w.heap.size w w2 := (d1.alloc (by omega) _).trans (b2.mono (by simp; omega))
      have z2 : w.heap.size + 2 ≤ w2.heap.size := by have := b2.size; simp at this; omega
      clear b2 c1 d1 z1 HL HG HR
      go_wp2_with fail
      refine (HT.out w2.heap.size _ (MapKept.heap_alloc _ _).1).mono ?_
      rintro e w3 ⟨rfl, q1, cs3, q3, q4⟩
      have z3 := q1.size
      simp only [World.size_alloc] at z3
      have d3 : Below w.heap.size w w3 := (d2.alloc (by omega) _).trans (q1.toBelow w.heap.size (by simp; omega) (by intro i hi; simp at hi; omega))
      have c3 : w3.heap[w.heap.size + 1]? = some (.cells C0 23 (0, 0)) := q1.row (by rw [Below.heap_alloc _ _ _ (by omega), c2]) (by simp; omega)
      have Q4 : Hid (RatAt cs3 0 true k (RatB R k)) := q4
      clear q1 c2 d2 HT hmf q4
      go_wp2_with fail
      refine (HK.out _ _ cs3 q3 Q4.out).mono ?_
      rintro e w4 ⟨rfl, b4⟩
      have d4 : Below w.heap.size w w4 := d3.trans (b4.mono (by omega))
      have c4 : w4.heap[w.heap.size + 1]? = some (.cells C0 23 (0, 0)) := by rw [b4.block _ (by omega), c3]
      clear b4 c3 d3 q3 HK
      go_wp2_with (refine wpList_store_row rfl 23 _ _ rfl (w.heap.size + 1) (Cells8 Y) rfl rfl 23 C0 c4 (by kernel_rfl) rfl (by simp [Value.oneCell']) ?_)
      exact bodyPost_ret (v := .tuple #[.agg (Cells8 Y), .int .i64 0]) (results_row_tmp rfl _ _ (w.heap.size + 1) 23 (Cells8 Y) (0, 0) _ (.int .i64 0) rfl rfl (setRow_heap _ _ _ _ _ _ c4) Try.underlying23 rfl (by kernel_rfl)) rfl ⟨rfl, below_setRow d4 (by omega) _⟩

end Go.Proofs.Ytkpebabbnndopaa
