/- The tree's zero value as a constant, where the translation has none. -/
import Derived.Test.YtkpebabbnndopaaProg
import Derived.WalkKit
namespace Go.Proofs.Ytkpebabbnndopaa
open Go.RowKit
def Try.zeroCells56 : Array Value := ((List.replicate 16 [Value.int .i64 0, .int .i64 0, .int .u8 0, .int .u8 0, .int .u8 0, .int .u8 0, .int .u8 0, .int .u8 0, .int .u8 0, .int .u8 0]).flatten ++ [Value.int .i64 0]).toArray
@[simp] theorem Try.zeroValue56 (w : World) : (zeroValue 56).run Try.prog w = .ok (.agg Try.zeroCells56) w := by kernel_rfl
@[simp] theorem Try.zeroCells56_size : Try.zeroCells56.size = 161 := by kernel_rfl
@[simp] theorem Try.zeroCells56_ne : Try.zeroCells56 ≠ #[] := fun h => by
  have := congrArg Array.size h
  rw [Try.zeroCells56_size] at this
  cases this
end Go.Proofs.Ytkpebabbnndopaa
