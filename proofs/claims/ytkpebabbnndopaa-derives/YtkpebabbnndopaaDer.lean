import Derived.Test.YtkpebabbnndopaaRows
import Derived.Test.YtkpebabbnndopaaPure
import Derived.WalkKit
import Derived.WalkSpells
import Derived.WalkLawsBesides
namespace Go.Proofs.Ytkpebabbnndopaa
open Go.RowKit

set_option maxHeartbeats 400000 in
theorem takeIn_any (h b : Int) (b0 : 0 ≤ b) (b1 : b < 256) (w : World) :
    Calls Try.prog 17 #[.int .u64 h, .int .u8 b] w fun e w' => e = .returned (.int .u64 (Mix h b)) ∧ w' = w := by
  go_enter Try.func17, Try.ntmps17
  go_wp2
  go_ret
  exact ⟨rfl, rfl⟩

set_option maxHeartbeats 400000 in
theorem four_any (n : Int) (w : World) :
    Calls Try.prog 18 #[.int .u32 n] w fun e w' => e = .returned (.agg #[.int .u8 (n / 16777216 % 256), .int .u8 (n / 65536 % 256), .int .u8 (n / 256 % 256), .int .u8 (n % 256)]) ∧ w' = w.alloc (.cells #[.int .u8 (n / 16777216 % 256), .int .u8 (n / 65536 % 256), .int .u8 (n / 256 % 256), .int .u8 (n % 256)] 42) := by
  go_enter Try.func18, Try.ntmps18
  go_wp2
  exact bodyPost_ret (v := .agg #[.int .u8 (n / 16777216 % 256), .int .u8 (n / 65536 % 256), .int .u8 (n / 256 % 256), .int .u8 (n % 256)]) (by simp [results, Try.results18, go_sem]) rfl ⟨rfl, rfl⟩

set_option maxHeartbeats 1000000 in
theorem eight_any (n : Int) (w : World) :
    Calls Try.prog 19 #[.int .u64 n] w fun e w' => e = .returned (Agg8 (Byt n)) ∧ w' = (w.alloc (.cells (Cells8 (Byt n)) 23)).alloc (.cells (Cells8 (Byt n)) 23) := by
  go_enter Try.func19, Try.ntmps19
  go_wp2
  refine wp_loop_rounds 9 ?_
  rw [rounds_succ]; go_wp2
  rw [rounds_succ]; go_wp2
  rw [rounds_succ]; go_wp2
  rw [rounds_succ]; go_wp2
  rw [rounds_succ]; go_wp2
  rw [rounds_succ]; go_wp2
  rw [rounds_succ]; go_wp2
  rw [rounds_succ]; go_wp2
  rw [rounds_succ]; go_wp2
  exact bodyPost_ret (v := Agg8 (Byt n)) (by simp [results, Try.results19, go_sem, Byt]) rfl ⟨rfl, rfl⟩

set_option maxHeartbeats 1000000 in
theorem derive_any (s : Nat → Int) (hs : ∀ i, 0 ≤ s i ∧ s i < 256) (l : ByteArray) (hl : l.size ≤ maxLen) (n : Int) (w : World) :
    Calls Try.prog 6 #[Agg8 s, .string l, .int .i64 n] w fun e w' => e = .returned (Agg8 (DerB s l.data.toList n)) ∧ Below w.heap.size w w' := by
  unfold maxLen at hl
  have i0 : ∀ w : World, (Instr.index 23 (Agg8 s) (.int .i64 0)).run Try.prog w = .ok (.int .u8 (s 0)) w := fun _ => by kernel_rfl
  have i1 : ∀ w : World, (Instr.index 23 (Agg8 s) (.int .i64 1)).run Try.prog w = .ok (.int .u8 (s 1)) w := fun _ => by kernel_rfl
  have i2 : ∀ w : World, (Instr.index 23 (Agg8 s) (.int .i64 2)).run Try.prog w = .ok (.int .u8 (s 2)) w := fun _ => by kernel_rfl
  have i3 : ∀ w : World, (Instr.index 23 (Agg8 s) (.int .i64 3)).run Try.prog w = .ok (.int .u8 (s 3)) w := fun _ => by kernel_rfl
  have i4 : ∀ w : World, (Instr.index 23 (Agg8 s) (.int .i64 4)).run Try.prog w = .ok (.int .u8 (s 4)) w := fun _ => by kernel_rfl
  have i5 : ∀ w : World, (Instr.index 23 (Agg8 s) (.int .i64 5)).run Try.prog w = .ok (.int .u8 (s 5)) w := fun _ => by kernel_rfl
  have i6 : ∀ w : World, (Instr.index 23 (Agg8 s) (.int .i64 6)).run Try.prog w = .ok (.int .u8 (s 6)) w := fun _ => by kernel_rfl
  have i7 : ∀ w : World, (Instr.index 23 (Agg8 s) (.int .i64 7)).run Try.prog w = .ok (.int .u8 (s 7)) w := fun _ => by kernel_rfl
  go_enter Try.func6, Try.ntmps6
  go_wp2
  refine wp_loop_rounds 9 ?_
  rw [rounds_succ]; go_wp2_with (go_at_call 17; refine (takeIn_any _ _ (hs _).1 (hs _).2 _).mono ?_; rintro e w' ⟨rfl, rfl⟩)
  rw [rounds_succ]; go_wp2_with (go_at_call 17; refine (takeIn_any _ _ (hs _).1 (hs _).2 _).mono ?_; rintro e w' ⟨rfl, rfl⟩)
  rw [rounds_succ]; go_wp2_with (go_at_call 17; refine (takeIn_any _ _ (hs _).1 (hs _).2 _).mono ?_; rintro e w' ⟨rfl, rfl⟩)
  rw [rounds_succ]; go_wp2_with (go_at_call 17; refine (takeIn_any _ _ (hs _).1 (hs _).2 _).mono ?_; rintro e w' ⟨rfl, rfl⟩)
  rw [rounds_succ]; go_wp2_with (go_at_call 17; refine (takeIn_any _ _ (hs _).1 (hs _).2 _).mono ?_; rintro e w' ⟨rfl, rfl⟩)
  rw [rounds_succ]; go_wp2_with (go_at_call 17; refine (takeIn_any _ _ (hs _).1 (hs _).2 _).mono ?_; rintro e w' ⟨rfl, rfl⟩)
  rw [rounds_succ]; go_wp2_with (go_at_call 17; refine (takeIn_any _ _ (hs _).1 (hs _).2 _).mono ?_; rintro e w' ⟨rfl, rfl⟩)
  rw [rounds_succ]; go_wp2_with (go_at_call 17; refine (takeIn_any _ _ (hs _).1 (hs _).2 _).mono ?_; rintro e w' ⟨rfl, rfl⟩)
  clear i0 i1 i2 i3 i4 i5 i6 i7
  rw [rounds_succ]; go_wp2
  go_loop [7, 10] (fun h i => ∃ k : Nat, k ≤ l.size ∧ i = .int .i64 k ∧ h = .int .u64 (MixL (MixS s) (l.data.toList.take k))) (fun _ i => l.size - (intOf i).toNat)
  case atStart => exact ⟨0, Nat.zero_le _, rfl, rfl⟩
  case round =>
    obtain ⟨k, hk, rfl, rfl⟩ := hrel
    by_cases hlt : k < l.size
    · have HS : Hid (MixL (MixS s) (l.data.toList.take (k + 1)) = Mix (MixL (MixS s) (l.data.toList.take k)) l[k].toNat) := MixL_step _ l k hlt
      go_wp2_with fail
      refine (takeIn_any _ _ (byte_bd _).1 (byte_bd _).2 _).mono ?_
      rintro e w' ⟨rfl, rfl⟩
      go_wp2
      go_round
      case rel => exact ⟨k + 1, by omega, by go_num, by rw [HS.out]⟩
      case measure => simp [intOf]; omega
    · have hk2 : k = l.size := by omega
      have hfull : l.data.toList.take k = l.data.toList := List.take_of_length_le (by simp; omega)
      rw [hfull]
      clear hfull
      go_wp2_with fail
      refine (four_any _ _).mono ?_
      rintro e w1 ⟨rfl, rfl⟩
      have j0 : ∀ (a b c d : Int) (w : World), (Instr.index 42 (.agg #[.int .u8 a, .int .u8 b, .int .u8 c, .int .u8 d]) (.int .i64 0)).run Try.prog w = .ok (.int .u8 a) w := fun _ _ _ _ _ => by kernel_rfl
      have j1 : ∀ (a b c d : Int) (w : World), (Instr.index 42 (.agg #[.int .u8 a, .int .u8 b, .int .u8 c, .int .u8 d]) (.int .i64 1)).run Try.prog w = .ok (.int .u8 b) w := fun _ _ _ _ _ => by kernel_rfl
      have j2 : ∀ (a b c d : Int) (w : World), (Instr.index 42 (.agg #[.int .u8 a, .int .u8 b, .int .u8 c, .int .u8 d]) (.int .i64 2)).run Try.prog w = .ok (.int .u8 c) w := fun _ _ _ _ _ => by kernel_rfl
      have j3 : ∀ (a b c d : Int) (w : World), (Instr.index 42 (.agg #[.int .u8 a, .int .u8 b, .int .u8 c, .int .u8 d]) (.int .i64 3)).run Try.prog w = .ok (.int .u8 d) w := fun _ _ _ _ _ => by kernel_rfl
      have fm := fold_mix
      have ff := fold_fin
      go_wp2
      refine wp_loop_rounds 5 ?_
      rw [rounds_succ]; go_wp2_with (go_at_call 17; refine (takeIn_any _ _ (by omega) (by omega) _).mono ?_; rintro e w' ⟨rfl, rfl⟩)
      rw [rounds_succ]; go_wp2_with (go_at_call 17; refine (takeIn_any _ _ (by omega) (by omega) _).mono ?_; rintro e w' ⟨rfl, rfl⟩)
      rw [rounds_succ]; go_wp2_with (go_at_call 17; refine (takeIn_any _ _ (by omega) (by omega) _).mono ?_; rintro e w' ⟨rfl, rfl⟩)
      rw [rounds_succ]; go_wp2_with (go_at_call 17; refine (takeIn_any _ _ (by omega) (by omega) _).mono ?_; rintro e w' ⟨rfl, rfl⟩)
      rw [rounds_succ]; go_wp2
      refine wp_loop_rounds 4 ?_
      rw [rounds_succ]; go_wp2
      rw [rounds_succ]; go_wp2
      rw [rounds_succ]; go_wp2
      rw [rounds_succ]; go_wp2_with fail
      refine (eight_any _ _).mono ?_
      rintro e w2 ⟨rfl, rfl⟩
      go_wp2
      exact bodyPost_ret (v := Agg8 (Byt (DerW s l.data.toList n))) (by simp [results, Try.results6, go_sem, DerW]) rfl ⟨by rw [DerW_eq], ((((((Below.refl _ _).alloc (Nat.le_refl _) _).alloc (by simp) _).alloc (by simp; omega) _).alloc (by simp; omega) _).alloc (by simp; omega) _)⟩
end Go.Proofs.Ytkpebabbnndopaa
