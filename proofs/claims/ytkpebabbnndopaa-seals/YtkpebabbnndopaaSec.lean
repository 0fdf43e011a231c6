import Derived.Test.YtkpebabbnndopaaRows
import Derived.Test.YtkpebabbnndopaaPure
import Derived.WalkKit
import Derived.WalkSpells
import Derived.WalkLawsBesides
import Derived.Deep.WholeRow
import Derived.Laws.CopyRow
namespace Go.Proofs.Ytkpebabbnndopaa
open Go.RowKit

/-- what copy does: a text into a new array of eight bytes -/
theorem run_copy_text (w : World) (s : ByteArray) (ty : TypeId) :
    (Builtin.copy_ #[27, 9] ty #[.slice (some ⟨w.heap.size, 0, none⟩) 8 8, .string s]).run Try.prog
      (w.alloc (.cells #[.int .u8 0, .int .u8 0, .int .u8 0, .int .u8 0, .int .u8 0, .int .u8 0, .int .u8 0, .int .u8 0] 23))
      = .ok (goInt (Nat.min s.size 8)) (w.alloc (.cells (Cells8 (SecL s.data.toList)) 23)) := by
  have hq : Try.prog.underlying 27 = some (.slice 5) := Try.underlying27
  have hi : (Try.prog.info? 5).map (·.size) = some 1 := by kernel_rfl
  have hex : (s.data.toList.map fun b => Value.int .u8 (b.toNat : Int)).take (s.size.min 8) = (s.data.toList.take 8).map fun b => Value.int .u8 (b.toNat : Int) := by
    have e2 : s.data.toList.take (s.size.min 8) = s.data.toList.take 8 := by
      have hz : s.size = s.data.toList.length := by simp
      rw [List.take_eq_take_iff, ← hz]
      show min (min s.size 8) s.size = min 8 s.size
      omega
    rw [← List.map_take, e2]
  have hst := run_storeCells_at Try.prog w.heap.size 0 23 ((s.data.toList.take 8).map fun b => Value.int .u8 (b.toNat : Int)) 0 #[.int .u8 0, .int .u8 0, .int .u8 0, .int .u8 0, .int .u8 0, .int .u8 0, .int .u8 0, .int .u8 0]
    (w.alloc (.cells #[.int .u8 0, .int .u8 0, .int .u8 0, .int .u8 0, .int .u8 0, .int .u8 0, .int .u8 0, .int .u8 0] 23)) (MapKept.heap_alloc w _).1 (by simp; omega) (by intro v hv; obtain ⟨b, _, rfl⟩ := List.mem_map.1 hv; rfl)
  have hc := SecL_cells s.data.toList
  rw [World.setRow_alloc_new] at hst
  have hst2 : (storeCells ⟨w.heap.size, 0, none⟩ ((s.data.toList.take 8).map fun b => Value.int .u8 (b.toNat : Int)) 0).run Try.prog
      (w.alloc (.cells #[.int .u8 0, .int .u8 0, .int .u8 0, .int .u8 0, .int .u8 0, .int .u8 0, .int .u8 0, .int .u8 0] 23)) = .ok () (w.alloc (.cells (Cells8 (SecL s.data.toList)) 23)) := by
    rw [hst]
    exact congrArg (fun c => Result.ok () (w.alloc (.cells c 23))) (Array.ext' (by simpa using hc))
  cases hq2 : Try.prog.info? 5 with
  | none => simp [hq2] at hi
  | some i =>
    have hi1 : i.size = 1 := by simpa [hq2] using hi
    simp [Builtin.copy_, run_underlying hq, Builtin.lenOf, Builtin.firstCells, sizeOf, typeInfo, hq2]
    rw [hex, hst2]
    rfl

set_option maxHeartbeats 400000 in
theorem secret_any (s : ByteArray) (w : World) :
    Calls Try.prog 7 #[.string s] w fun e w' => e = .returned (Agg8 (SecL s.data.toList)) ∧ w' = (w.alloc (.cells (Cells8 (SecL s.data.toList)) 23)).alloc (.cells (Cells8 (SecL s.data.toList)) 23) := by
  have hcp := fun ty => run_copy_text (w.alloc (.cells #[.int .u8 0, .int .u8 0, .int .u8 0, .int .u8 0, .int .u8 0, .int .u8 0, .int .u8 0, .int .u8 0] 23)) s ty
  have hsz : (w.alloc (.cells #[.int .u8 0, .int .u8 0, .int .u8 0, .int .u8 0, .int .u8 0, .int .u8 0, .int .u8 0, .int .u8 0] 23)).heap.size = w.heap.size + 1 := by simp
  rw [hsz] at hcp
  clear hsz
  go_enter Try.func7, Try.ntmps7
  go_wp2
  exact bodyPost_ret (v := Agg8 (SecL s.data.toList)) (by simp [results, Try.results7, go_sem]) rfl ⟨rfl, rfl⟩
end Go.Proofs.Ytkpebabbnndopaa
