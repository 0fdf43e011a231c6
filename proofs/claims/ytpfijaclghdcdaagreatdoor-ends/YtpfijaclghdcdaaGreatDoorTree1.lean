/- powerBelow: by the table of math/bits. -/
import Derived.Test.YtpfijaclghdcdaaGreatDoorRows
import Derived.Test.YtpfijaclghdcdaaGreatDoorTree0
import Derived.WalkKit
import Derived.WalkSpells
import Derived.WalkLawsBesides
namespace Go.Proofs.YtpfijaclghdcdaaGreatDoor
open Go.RowKit

def LenI (x : Int) : Int := if x ≤ 1 then 1 else if x ≤ 3 then 2 else if x ≤ 7 then 3 else 4

set_option maxRecDepth 100000 in
set_option maxHeartbeats 4000000 in
theorem len64_any (x : Int) (h0 : 1 ≤ x) (h1 : x ≤ 15) (w : World) :
    Calls Tryz.prog 136 #[.int .u64 x] w fun e w' => e = .returned (.int .i64 (LenI x)) ∧ w' = w := by
  have e15 : x = 1 ∨ x = 2 ∨ x = 3 ∨ x = 4 ∨ x = 5 ∨ x = 6 ∨ x = 7 ∨ x = 8 ∨ x = 9 ∨ x = 10 ∨ x = 11 ∨ x = 12 ∨ x = 13 ∨ x = 14 ∨ x = 15 := by omega
  rcases e15 with rfl | rfl | rfl | rfl | rfl | rfl | rfl | rfl | rfl | rfl | rfl | rfl | rfl | rfl | rfl
  all_goals
    go_enter Tryz.func136, Tryz.ntmps136
    go_wp2
    go_ret
    exact ⟨by kernel_rfl, rfl⟩

theorem len_any (x : Int) (h0 : 1 ≤ x) (h1 : x ≤ 15) (w : World) :
    Calls Tryz.prog 113 #[.int .u64 x] w fun e w' => e = .returned (.int .i64 (LenI x)) ∧ w' = w := by
  go_enter Tryz.func113, Tryz.ntmps113
  go_wp2_with (go_at_call 136; refine (len64_any _ h0 h1 _).mono ?_; rintro e w' ⟨rfl, rfl⟩)
  go_ret
  exact ⟨rfl, rfl⟩

theorem powerBelow_any (n : Int) (h0 : 2 ≤ n) (h1 : n ≤ 16) (w : World) :
    Calls Tryz.prog 119 #[.int .i64 n] w fun e w' => e = .returned (.int .i64 (SplitI n)) ∧ w' = w := by
  have hsh : ∀ w, (Op.shift BinOp.shl IntKind.i64 1 IntKind.i64 (wrap64 (LenI (n - 1) - 1))).run Tryz.prog w = .ok (.int .i64 (SplitI n)) w := by
    intro w
    rcases two_to_16 n h0 h1 with rfl | rfl | rfl | rfl | rfl | rfl | rfl | rfl | rfl | rfl | rfl | rfl | rfl | rfl | rfl <;> kernel_rfl
  go_enter Tryz.func119, Tryz.ntmps119
  go_wp2_with (go_at_call 113; refine (len_any _ (by omega) (by omega) _).mono ?_; rintro e w' ⟨rfl, rfl⟩)
  go_ret
  exact ⟨rfl, rfl⟩
end Go.Proofs.YtpfijaclghdcdaaGreatDoor
