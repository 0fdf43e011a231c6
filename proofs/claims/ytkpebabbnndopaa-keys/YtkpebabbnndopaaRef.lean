import Derived.Test.YtkpebabbnndopaaRows
import Derived.Test.YtkpebabbnndopaaPure
import Derived.WalkKit
import Derived.WalkSpells
import Derived.WalkLawsBesides
namespace Go.Proofs.Ytkpebabbnndopaa
open Go.RowKit

set_option maxHeartbeats 1000000 in
theorem refDerive_any (s : Nat → Int) (hs : ∀ i, 0 ≤ s i ∧ s i < 256) (l : ByteArray) (hl : l.size ≤ maxLen) (n : Int) (w : World) :
    Calls Try.prog 8 #[Agg8 s, .string l, .int .i64 n] w fun e w' => e = .returned (Agg8 (DerB s l.data.toList n)) ∧ Below w.heap.size w w' := by
  unfold maxLen at hl
  have s0 := hs 0
  have s1 := hs 1
  have s2 := hs 2
  have s3 := hs 3
  have s4 := hs 4
  have s5 := hs 5
  have s6 := hs 6
  have s7 := hs 7
  clear hs
  have fm := fold_mix
  have ff := fold_fin
  go_enter Try.func8, Try.ntmps8
  go_wp2
  refine wp_loop_rounds 9 ?_
  rw [rounds_succ]; go_wp2
  rw [rounds_succ]; go_wp2
  rw [rounds_succ]; go_wp2
  rw [rounds_succ]; go_wp2
  rw [rounds_succ]; go_wp2
  rw [rounds_succ]; go_wp2
  rw [rounds_succ]; go_wp2
  rw [rounds_succ]; go_wp2
  rw [rounds_succ]; go_wp2
  clear s0 s1 s2 s3 s4 s5 s6 s7
  go_loop [7, 9] (fun h i => ∃ k : Nat, k ≤ l.size ∧ i = .int .i64 k ∧ h = .int .u64 (MixL (MixS s) (l.data.toList.take k))) (fun _ i => l.size - (intOf i).toNat)
  case atStart => exact ⟨0, Nat.zero_le _, rfl, rfl⟩
  case round =>
    obtain ⟨k, hk, rfl, rfl⟩ := hrel
    by_cases hlt : k < l.size
    · have HS : Hid (MixL (MixS s) (l.data.toList.take (k + 1)) = Mix (MixL (MixS s) (l.data.toList.take k)) l[k].toNat) := MixL_step _ l k hlt
      have hby := byte_bd l[k]
      go_wp2
      go_round
      case rel => exact ⟨k + 1, by omega, by go_num, by rw [HS.out]⟩
      case measure => simp [intOf]; omega
    · have hfull : l.data.toList.take k = l.data.toList := List.take_of_length_le (by simp; omega)
      rw [hfull]
      clear hfull
      generalize hL : MixL (MixS s) l.data.toList = L
      have HL : Hid (MixL (MixS s) l.data.toList = L) := hL
      clear hL
      go_wp2
      refine wp_loop_rounds 5 ?_
      rw [rounds_succ]; go_wp2
      rw [rounds_succ]; go_wp2
      rw [rounds_succ]; go_wp2
      rw [rounds_succ]; go_wp2
      rw [rounds_succ]; go_wp2
      refine wp_loop_rounds 4 ?_
      rw [rounds_succ]; go_wp2
      rw [rounds_succ]; go_wp2
      rw [rounds_succ]; go_wp2
      rw [rounds_succ]; go_wp2
      refine wp_loop_rounds 9 ?_
      rw [rounds_succ]; go_wp2
      rw [rounds_succ]; go_wp2
      rw [rounds_succ]; go_wp2
      rw [rounds_succ]; go_wp2
      rw [rounds_succ]; go_wp2
      rw [rounds_succ]; go_wp2
      rw [rounds_succ]; go_wp2
      rw [rounds_succ]; go_wp2
      rw [rounds_succ]; go_wp2
      exact bodyPost_ret (v := Agg8 (Byt (DerR L n))) (by simp [results, Try.results8, go_sem, DerR, Byt]) rfl ⟨by rw [← HL.out, DerR_eq], ((((Below.refl _ _).alloc (Nat.le_refl _) _).alloc (by simp) _).alloc (by simp; omega) _)⟩
end Go.Proofs.Ytkpebabbnndopaa
