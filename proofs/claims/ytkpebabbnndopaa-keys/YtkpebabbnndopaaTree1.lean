/- powerBelow: by the table of math/bits. -/
import Derived.Test.YtkpebabbnndopaaRows
import Derived.Test.YtkpebabbnndopaaTree0
import Derived.WalkKit
import Derived.WalkSpells
import Derived.WalkLawsBesides
namespace Go.Proofs.Ytkpebabbnndopaa
open Go.RowKit

def LenI (x : Int) : Int := if x ≤ 1 then 1 else if x ≤ 3 then 2 else if x ≤ 7 then 3 else 4

set_option maxRecDepth 100000 in
set_option maxHeartbeats 4000000 in
theorem len64_any (x : Int) (h0 : 1 ≤ x) (h1 : x ≤ 15) (w : World) :
    Calls Try.prog 52 #[.int .u64 x] w fun e w' => e = .returned (.int .i64 (LenI x)) ∧ w' = w := by
  have e15 : x = 1 ∨ x = 2 ∨ x = 3 ∨ x = 4 ∨ x = 5 ∨ x = 6 ∨ x = 7 ∨ x = 8 ∨ x = 9 ∨ x = 10 ∨ x = 11 ∨ x = 12 ∨ x = 13 ∨ x = 14 ∨ x = 15 := by omega
  rcases e15 with rfl | rfl | rfl | rfl | rfl | rfl | rfl | rfl | rfl | rfl | rfl | rfl | rfl | rfl | rfl
  all_goals
    go_enter Try.func52, Try.ntmps52
    go_wp2
    go_ret
    exact ⟨by kernel_rfl, rfl⟩

theorem len_any (x : Int) (h0 : 1 ≤ x) (h1 : x ≤ 15) (w : World) :
    Calls Try.prog 50 #[.int .u64 x] w fun e w' => e = .returned (.int .i64 (LenI x)) ∧ w' = w := by
  go_enter Try.func50, Try.ntmps50
  go_wp2_with (go_at_call 52; refine (len64_any _ h0 h1 _).mono ?_; rintro e w' ⟨rfl, rfl⟩)
  go_ret
  exact ⟨rfl, rfl⟩

theorem powerBelow_any (n : Int) (h0 : 2 ≤ n) (h1 : n ≤ 16) (w : World) :
    Calls Try.prog 49 #[.int .i64 n] w fun e w' => e = .returned (.int .i64 (SplitI n)) ∧ w' = w := by
  have hsh : ∀ w, (Op.shift BinOp.shl IntKind.i64 1 IntKind.i64 (wrap64 (LenI (n - 1) - 1))).run Try.prog w = .ok (.int .i64 (SplitI n)) w := by
    intro w
    rcases two_to_16 n h0 h1 with rfl | rfl | rfl | rfl | rfl | rfl | rfl | rfl | rfl | rfl | rfl | rfl | rfl | rfl | rfl <;> kernel_rfl
  go_enter Try.func49, Try.ntmps49
  go_wp2_with (go_at_call 50; refine (len_any _ (by omega) (by omega) _).mono ?_; rintro e w' ⟨rfl, rfl⟩)
  go_ret
  exact ⟨rfl, rfl⟩
end Go.Proofs.Ytkpebabbnndopaa
