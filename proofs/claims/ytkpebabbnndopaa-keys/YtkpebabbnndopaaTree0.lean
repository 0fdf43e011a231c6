/- hasMember, isGeneration. -/
import Derived.Test.YtkpebabbnndopaaRows
import Derived.Test.YtkpebabbnndopaaFit
import Derived.WalkKit
import Derived.WalkSpells
import Derived.WalkLawsBesides
namespace Go.Proofs.Ytkpebabbnndopaa
open Go.RowKit

theorem hasMember_any (n m : Int) (w : World) :
    Calls Try.prog 24 #[.int .i64 n, .int .i64 m] w fun e w' => e = .returned (.bool (FitB n m)) ∧ w' = w := by
  by_cases h1 : 1 ≤ n
  · by_cases h2 : n ≤ 16
    · by_cases h3 : 0 ≤ m
      · go_enter Try.func24, Try.ntmps24
        go_wp2_with fail
        go_ret
        exact ⟨by simp [FitB, h1, h2, h3], rfl⟩
      · go_enter Try.func24, Try.ntmps24
        go_wp2_with fail
        go_ret
        exact ⟨by simp [FitB]; omega, rfl⟩
    · go_enter Try.func24, Try.ntmps24
      go_wp2_with fail
      go_ret
      exact ⟨by simp [FitB]; omega, rfl⟩
  · go_enter Try.func24, Try.ntmps24
    go_wp2_with fail
    go_ret
    exact ⟨by simp [FitB]; omega, rfl⟩
theorem isGeneration_any (g : Int) (w : World) :
    Calls Try.prog 29 #[.int .i64 g] w fun e w' => e = .returned (.bool (GenB g)) ∧ w' = w := by
  by_cases h1 : 0 ≤ g
  · go_enter Try.func29, Try.ntmps29
    go_wp2_with fail
    go_ret
    exact ⟨by simp [GenB, h1], rfl⟩
  · go_enter Try.func29, Try.ntmps29
    go_wp2_with fail
    go_ret
    exact ⟨by simp [GenB]; omega, rfl⟩
end Go.Proofs.Ytkpebabbnndopaa
