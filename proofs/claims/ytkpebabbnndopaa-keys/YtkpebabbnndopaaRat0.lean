/- The ratchet: ratchetOf. -/
import Derived.Test.YtkpebabbnndopaaTick
import Derived.Test.YtkpebabbnndopaaPureK
import Derived.WalkKit
import Derived.WalkSpells
import Derived.WalkLawsBesides
import Derived.Deep.WholeRow
namespace Go.Proofs.Ytkpebabbnndopaa
open Go.RowKit

abbrev CellsR (bg : Bool) (g : Int) (s : Nat → Int) : Array Value := #[.bool bg, .int .i64 g, .int .u8 (s 0), .int .u8 (s 1), .int .u8 (s 2), .int .u8 (s 3), .int .u8 (s 4), .int .u8 (s 5), .int .u8 (s 6), .int .u8 (s 7)]
abbrev AggR (bg : Bool) (g : Int) (s : Nat → Int) : Value := .agg (CellsR bg g s)

theorem ratchetOf_any {F : FuncId} {pre : Array Value} {q : Option Nat} (dv : Drv F pre q) (s : Nat → Int) (hs : ∀ i, 0 ≤ s i ∧ s i < 256) (w : World) (hq : Has q w) :
    Calls Try.prog 30 #[Agg8 s, .func (.func F) pre #[]] w fun e w' => e = .returned (AggR true 0 (DerB s lRatchet 0)) ∧ Tick q 1 w w' := by
  have HD : Hid (∀ W, Has q W → Calls Try.prog F (pre ++ #[Agg8 s, .string ⟨#[114, 97, 116, 99, 104, 101, 116]⟩, .int .i64 0]) W fun e w' => e = .returned (Agg8 (DerB s lRatchet 0)) ∧ Tick q 1 W w') := fun W hW => dv.call s hs ⟨#[114, 97, 116, 99, 104, 101, 116]⟩ (by decide) 0 W hW
  obtain ⟨R, hR⟩ : ∃ R, DerB s lRatchet 0 = R := ⟨_, rfl⟩
  rw [hR] at HD ⊢
  clear hR
  have HQ : Hid (Has q w) := hq
  clear hq
  have hcf := dv.enter
  go_enter Try.func30, Try.ntmps30
  go_wp2_with fail
  refine (HD.out _ (HQ.out.tick (((Tick.refl q w).alloc _).alloc _))).mono ?_
  rintro e w1 ⟨rfl, b1⟩
  have z1 := b1.size
  simp at z1
  have c1 : w1.heap[w.heap.size + 1]? = some (.cells (CellsR false 0 fun _ => 0) 62 (0, 0)) := by
    rw [b1.block _ (by simp) (HQ.out.ne (by omega))]
    have e := (MapKept.heap_alloc (w.alloc (.cells (Cells8 s) 23)) (.cells (CellsR false 0 fun _ => 0) 62)).1
    simp only [World.size_alloc] at e
    exact e
  have d1 : Tick q 1 w w1 := by
    have := (((Tick.refl q w).alloc (.cells (Cells8 s) 23)).alloc (.cells (CellsR false 0 fun _ => 0) 62)).trans b1
    rwa [Nat.zero_add] at this
  clear b1
  go_wp2_with (refine wpList_store_row rfl 62 _ _ rfl (w.heap.size + 1) (CellsR true 0 R) rfl rfl 62 (CellsR false 0 fun _ => 0) c1 (by kernel_rfl) rfl (by simp [Value.oneCell']) ?_)
  exact bodyPost_ret (v := AggR true 0 R) (results_cell_row rfl _ _ (w.heap.size + 1) 62 (CellsR true 0 R) (0, 0) _ rfl (setRow_heap _ _ _ _ _ _ c1) Try.underlying62 rfl (by kernel_rfl)) rfl ⟨rfl, d1.setRow (by omega) _⟩
end Go.Proofs.Ytkpebabbnndopaa
