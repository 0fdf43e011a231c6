/- numberOf. -/
import Derived.Test.YtpfijaclghdcdaaGreatDoorAs3
import Derived.WalkKit
import Derived.WalkSpells
import Derived.WalkLawsBesides
import Derived.Deep.WholeRow
namespace Go.Proofs.YtpfijaclghdcdaaGreatDoor
open Go.RowKit
set_option linter.unusedVariables false

theorem Glob.out {S : List Nat} {w w' : World} (h : Glob w) (o : Outside S w w') (hs : 0 ∉ S) : Glob w' := by
  have hl : 0 < w.heap.size := block_lt_of_cell h
  show w'.cell? ⟨0, 0, none⟩ = _
  unfold World.cell?
  rw [show (⟨0, 0, none⟩ : Addr).block = 0 from rfl, o.block 0 hl hs]
  exact h
theorem Glob.below {w w' : World} (h : Glob w) (o : Below w.heap.size w w') : Glob w' := h.out (Outside.ofBelow (S := []) o) (by simp)
theorem Glob.belowB {B : Nat} {w w' : World} (h : Glob w) (o : Below B w w') (hB : 0 < B) : Glob w' := by
  show w'.cell? ⟨0, 0, none⟩ = _
  unfold World.cell?
  rw [show (⟨0, 0, none⟩ : Addr).block = 0 from rfl, o.block 0 hB]
  exact h
theorem Glob.pos {w : World} (h : Glob w) : 0 < w.heap.size := block_lt_of_cell h
theorem num_nil (w : World) : Calls Tryz.prog 24 #[.nilIface] w fun e w' => e = .returned (.int .i64 0) ∧ Below w.heap.size w w' := by
  go_enter Tryz.func24, Tryz.ntmps24
  go_wp2_with (go_at_call 48; refine (as_nil _ _).mono ?_; rintro e w' ⟨rfl, rfl⟩)
  go_ret
  exact ⟨rfl, (Below.refl _ w).alloc (Nat.le_refl _) _⟩
set_option maxHeartbeats 1000000 in
theorem num_of (ev : Value) (e : Int) (s : ByteArray) (w : World)
    (H : ∀ W tb old, old.size = 2 → Glob W → W.heap[tb]? = some (.cells old 121 (0, 0)) → Calls Tryz.prog 48 #[ev, .iface 123 (.pointer (some ⟨tb, 0, none⟩))] W fun x w' => x = .returned (.bool true) ∧ Outside [tb] W w' ∧ w'.heap[tb]? = some (.cells #[.int .i64 e, .string s] 121 (0, 0)))
    (hg : Glob w) : Calls Tryz.prog 24 #[ev] w fun x w' => x = .returned (.int .i64 e) ∧ Below w.heap.size w w' := by
  obtain ⟨w1, hw1⟩ : ∃ w1, w.alloc (.cells #[.int .i64 0, .string ByteArray.empty] 121) = w1 := ⟨_, rfl⟩
  have b1 : Below w.heap.size w w1 := by rw [← hw1]; exact (Below.refl _ w).alloc (Nat.le_refl _) _
  have k1 : w1.heap[w.heap.size]? = some (.cells #[.int .i64 0, .string ByteArray.empty] 121 (0, 0)) := by rw [← hw1]; exact (MapKept.heap_alloc _ _).1
  have HC := H w1 w.heap.size _ rfl (hg.below b1) k1
  have HB : Hid (Below w.heap.size w w1) := b1
  have HC2 : Hid (Calls Tryz.prog 48 #[ev, .iface 123 (.pointer (some ⟨w.heap.size, 0, none⟩))] w1 fun x w' => x = .returned (.bool true) ∧ Outside [w.heap.size] w1 w' ∧ w'.heap[w.heap.size]? = some (.cells #[.int .i64 e, .string s] 121 (0, 0))) := HC
  have HW : Hid (w.alloc (.cells #[.int .i64 0, .string ByteArray.empty] 121) = w1) := hw1
  clear H hg b1 k1 HC hw1
  go_enter Tryz.func24, Tryz.ntmps24
  go_wp2_with fail
  rw [show (w.alloc (.cells #[.int .i64 0, .string ⟨#[]⟩] 121)) = w1 from HW.out]
  refine HC2.out.mono ?_
  rintro x w2 ⟨rfl, o2, r2⟩
  have hc : w2.cell? ⟨w.heap.size, 0, none⟩ = some (.int .i64 e) := by rw [cell_of_row _ _ _ _ _ _ r2]; rfl
  have hb : Below w.heap.size w w2 := HB.out.trans (o2.toBelow w.heap.size HB.out.size (fun i hi => by simp at hi; omega))
  clear o2 r2
  go_wp2_with fail
  go_ret
  exact ⟨rfl, hb⟩
theorem num_fault (e : Int) (s : ByteArray) (w : World) (hg : Glob w) : Calls Tryz.prog 24 #[faultV e s] w fun x w' => x = .returned (.int .i64 e) ∧ Below w.heap.size w w' :=
  num_of _ e s w (fun W tb old ho hG ht => As_of _ ⟨_, _, rfl⟩ e s tb old ho (fun va W' h1 h2 h3 => as71_fault e s tb va old ho W' h1 h2 h3) W hG ht) hg
theorem num_frame (m g e : Int) (s : ByteArray) (w : World) (hg : Glob w) : Calls Tryz.prog 24 #[frameV m g e s] w fun x w' => x = .returned (.int .i64 e) ∧ Below w.heap.size w w' :=
  num_of _ e s w (fun W tb old ho hG ht => As_of _ ⟨_, _, rfl⟩ e s tb old ho (fun va W' h1 h2 h3 => as71_frame m g e s tb va old ho W' h1 h2 h3) W hG ht) hg
end Go.Proofs.YtpfijaclghdcdaaGreatDoor
