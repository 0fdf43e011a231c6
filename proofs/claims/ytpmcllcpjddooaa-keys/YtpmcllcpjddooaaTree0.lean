/- The small callees: hasMember, fits, isGeneration, split, powerBelow. -/
import Derived.Test.YtpmcllcpjddooaaRows
import Derived.Test.YtpmcllcpjddooaaPureK
import Derived.WalkKit
import Derived.WalkSpells
import Derived.WalkLawsBesides
namespace Go.Proofs.Ytpmcllcpjddooaa
open Go.RowKit

theorem two_to_16 (n : Int) (h0 : 2 ≤ n) (h1 : n ≤ 16) : n = 2 ∨ n = 3 ∨ n = 4 ∨ n = 5 ∨ n = 6 ∨ n = 7 ∨ n = 8 ∨ n = 9 ∨ n = 10 ∨ n = 11 ∨ n = 12 ∨ n = 13 ∨ n = 14 ∨ n = 15 ∨ n = 16 := by omega

set_option maxHeartbeats 1000000 in
theorem split_any (n : Int) (h0 : 2 ≤ n) (h1 : n ≤ 16) (w : World) :
    Calls Try.prog 39 #[.int .i64 n] w fun e w' => e = .returned (.int .i64 (SplitI n)) ∧ w' = w := by
  rcases two_to_16 n h0 h1 with rfl | rfl | rfl | rfl | rfl | rfl | rfl | rfl | rfl | rfl | rfl | rfl | rfl | rfl | rfl
  all_goals
    go_enter Try.func39, Try.ntmps39
    go_wp2
    refine wp_loop_rounds 5 ?_
    rw [rounds_succ]; go_wp2
    try (rw [rounds_succ]; go_wp2)
    try (rw [rounds_succ]; go_wp2)
    try (rw [rounds_succ]; go_wp2)
    go_ret
    exact ⟨rfl, rfl⟩

def FitB (n m : Int) : Bool := decide (1 ≤ n ∧ n ≤ 16 ∧ 0 ≤ m ∧ m < n)
theorem hasMember_any (n m : Int) (w : World) :
    Calls Try.prog 24 #[.int .i64 n, .int .i64 m] w fun e w' => e = .returned (.bool (FitB n m)) ∧ w' = w := by
  by_cases h1 : 1 ≤ n
  · by_cases h2 : n ≤ 16
    · by_cases h3 : 0 ≤ m
      · go_enter Try.func24, Try.ntmps24
        go_wp2_with fail
        go_ret
        exact ⟨by simp [FitB, h1, h2, h3], rfl⟩
      · go_enter Try.func24, Try.ntmps24
        go_wp2_with fail
        go_ret
        exact ⟨by simp [FitB]; omega, rfl⟩
    · go_enter Try.func24, Try.ntmps24
      go_wp2_with fail
      go_ret
      exact ⟨by simp [FitB]; omega, rfl⟩
  · go_enter Try.func24, Try.ntmps24
    go_wp2_with fail
    go_ret
    exact ⟨by simp [FitB]; omega, rfl⟩
theorem fits_any (n m : Int) (w : World) :
    Calls Try.prog 27 #[.int .i64 n, .int .i64 m] w fun e w' => e = .returned (.bool (FitB n m)) ∧ w' = w := by
  by_cases h1 : 1 ≤ n
  · by_cases h2 : n ≤ 16
    · by_cases h3 : 0 ≤ m
      · go_enter Try.func27, Try.ntmps27
        go_wp2_with fail
        go_ret
        exact ⟨by simp [FitB, h1, h2, h3], rfl⟩
      · go_enter Try.func27, Try.ntmps27
        go_wp2_with fail
        go_ret
        exact ⟨by simp [FitB]; omega, rfl⟩
    · go_enter Try.func27, Try.ntmps27
      go_wp2_with fail
      go_ret
      exact ⟨by simp [FitB]; omega, rfl⟩
  · go_enter Try.func27, Try.ntmps27
    go_wp2_with fail
    go_ret
    exact ⟨by simp [FitB]; omega, rfl⟩
def GenB (g : Int) : Bool := decide (0 ≤ g ∧ g ≤ 65535)
theorem isGeneration_any (g : Int) (w : World) :
    Calls Try.prog 29 #[.int .i64 g] w fun e w' => e = .returned (.bool (GenB g)) ∧ w' = w := by
  by_cases h1 : 0 ≤ g
  · go_enter Try.func29, Try.ntmps29
    go_wp2_with fail
    go_ret
    exact ⟨by simp [GenB, h1], rfl⟩
  · go_enter Try.func29, Try.ntmps29
    go_wp2_with fail
    go_ret
    exact ⟨by simp [GenB]; omega, rfl⟩
end Go.Proofs.Ytpmcllcpjddooaa
