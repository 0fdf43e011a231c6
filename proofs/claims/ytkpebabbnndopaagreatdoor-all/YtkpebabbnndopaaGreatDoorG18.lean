import Derived.Test.YtkpebabbnndopaaGreatDoorRows
import Derived.Test.YtkpebabbnndopaaGreatDoorC01
import Derived.WalkKit
import Derived.WalkSpells
import Derived.WalkLawsBesides
namespace Go.Proofs.YtkpebabbnndopaaGreatDoor
open Go.RowKit

set_option maxHeartbeats 400000 in
theorem addToSum_any (h b : Int) (b0 : 0 ≤ b) (b1 : b < 256) (w : World) :
    Calls Tryz.prog 162 #[.int .u32 h, .int .u8 b] w fun e w' => e = .returned (.int .u32 (SumB h b)) ∧ w' = w := by
  go_enter Tryz.func162, Tryz.ntmps162
  go_wp2
  go_ret
  exact ⟨rfl, rfl⟩
set_option maxHeartbeats 400000 in
theorem sumOf_any (a : Option Addr) (l : List UInt8) (c : Nat) (hl : l.length ≤ maxLen) (b : Option Addr) (m : List UInt8) (d : Nat) (hm : m.length ≤ maxLen) (w : World) (ha : Bts w a l) (hb : Bts w b m) :
    Calls Tryz.prog 137 #[.slice a l.length c, .slice b m.length d] w fun e w' => e = .returned (.int .u32 (SumAll l m)) ∧ w' = w := by
  unfold maxLen at hl hm
  have HA : Hid (Bts w a l) := ha
  have HB : Hid (Bts w b m) := hb
  clear ha hb
  go_enter Tryz.func137, Tryz.ntmps137
  go_wp2
  go_loop [5, 12] (fun h i => ∃ k : Nat, k ≤ l.length ∧ i = .int .i64 k ∧ h = .int .u32 (SumL 2166136261 (l.take k))) (fun _ i => l.length - (intOf i).toNat)
  case atStart => exact ⟨0, Nat.zero_le _, rfl, rfl⟩
  case round =>
    obtain ⟨k, hk, rfl, rfl⟩ := hrel
    by_cases hlt : k < l.length
    · have HS : Hid (SumL 2166136261 (l.take (k + 1)) = SumB (SumL 2166136261 (l.take k)) l[k].toNat) := SumL_step _ l k hlt
      rcases HA.out with h0 | ⟨ab, ao, rfl, hc⟩
      · rw [h0] at hlt; simp at hlt
      · have hck := hc k hlt
        clear hc
        go_wp2_with fail
        refine (addToSum_any _ _ (byte_bd _).1 (byte_bd _).2 _).mono ?_
        rintro e w' ⟨rfl, rfl⟩
        go_wp2
        go_round
        case rel => exact ⟨k + 1, by omega, by go_num, by rw [HS.out]⟩
        case measure => simp [intOf]; omega
    · have hfull : l.take k = l := List.take_of_length_le (by omega)
      rw [hfull]
      clear hfull
      go_wp2_with fail
      refine (addToSum_any _ _ (by omega) (by omega) _).mono ?_
      rintro e w' ⟨rfl, rfl⟩
      go_wp2
      go_loop [5, 24] (fun h i => ∃ k : Nat, k ≤ m.length ∧ i = .int .i64 k ∧ h = .int .u32 (SumL (SumB (SumL 2166136261 l) 0) (m.take k))) (fun _ i => m.length - (intOf i).toNat)
      case atStart => exact ⟨0, Nat.zero_le _, rfl, rfl⟩
      case round =>
        obtain ⟨j, hj, rfl, rfl⟩ := hrel
        by_cases hlt2 : j < m.length
        · have HS : Hid (SumL (SumB (SumL 2166136261 l) 0) (m.take (j + 1)) = SumB (SumL (SumB (SumL 2166136261 l) 0) (m.take j)) m[j].toNat) := SumL_step _ m j hlt2
          rcases HB.out with h0 | ⟨bb, bo, rfl, hc⟩
          · rw [h0] at hlt2; simp at hlt2
          · have hcj := hc j hlt2
            clear hc
            go_wp2_with fail
            refine (addToSum_any _ _ (byte_bd _).1 (byte_bd _).2 _).mono ?_
            rintro e w' ⟨rfl, rfl⟩
            go_wp2
            go_round
            case rel => exact ⟨j + 1, by omega, by go_num, by rw [HS.out]⟩
            case measure => simp [intOf]; omega
        · have hfull : m.take j = m := List.take_of_length_le (by omega)
          rw [hfull]
          clear hfull
          go_wp2
          go_ret
          exact ⟨rfl, rfl⟩
end Go.Proofs.YtkpebabbnndopaaGreatDoor
