/- (*Group).derive, Work: the atomic count. -/
import Derived.Test.YtpfijaclghdcdaaGreatDoorTick
import Derived.WalkKit
import Derived.WalkSpells
import Derived.WalkLawsBesides
import Derived.Deep.WholeRow
namespace Go.Proofs.YtpfijaclghdcdaaGreatDoor
open Go.RowKit

theorem ctr_add (k : Nat) : wrap64 (IntKind.i64.wrap k + 1) = IntKind.i64.wrap (k + 1 : Nat) := by
  simp only [wrap64, IntKind.wrap_i64]; omega
theorem atomicAdd_any (b : Nat) (cs : Array Value) (t : TypeId) (k : Nat) (w : World) (h : w.heap[b]? = some (.cells cs t (0, 0))) (hc : cs[ctrOff]? = some (ctr k)) :
    Calls Tryz.prog 51 #[.pointer (some ⟨b, ctrOff, none⟩), .int .i64 1] w fun e w' => e = .returned (ctr (k + 1)) ∧ w' = w.setCell ⟨b, ctrOff, none⟩ (ctr (k + 1)) := by
  have c1 : w.cell? ⟨b, ctrOff, none⟩ = some (ctr k) := by rw [cell_of_row _ _ _ _ _ _ h, hc]
  have f1 : w.frozen? ⟨b, ctrOff, none⟩ = false := frozen_of_row _ _ _ _ _ h
  have hadd := run_call_add (P := Tryz.prog) Tryz.func77 (by kernel_rfl) (by kernel_rfl) (by kernel_rfl) .i64 (by kernel_rfl) (y := 1) (s := wrap64 (IntKind.i64.wrap k + 1)) c1 f1 (by simp [go_sem, wrap64, IntKind.wrap_i64])
  rw [ctr_add] at hadd
  show Calls _ _ _ _ fun e w' => e = .returned (.int .i64 (IntKind.i64.wrap (k + 1 : Nat))) ∧ w' = w.setCell ⟨b, ctrOff, none⟩ (.int .i64 (IntKind.i64.wrap (k + 1 : Nat)))
  generalize IntKind.i64.wrap (k + 1 : Nat) = y at *
  clear c1 f1 h hc
  go_enter Tryz.func51, Tryz.ntmps51
  go_wp2_with fail
  go_ret
  exact ⟨rfl, rfl⟩
theorem atomicLoad_any (b : Nat) (cs : Array Value) (t : TypeId) (k : Nat) (w : World) (h : w.heap[b]? = some (.cells cs t (0, 0))) (hc : cs[ctrOff]? = some (ctr k)) :
    Calls Tryz.prog 95 #[.pointer (some ⟨b, ctrOff, none⟩)] w fun e w' => e = .returned (ctr k) ∧ w' = w := by
  have c1 : w.cell? ⟨b, ctrOff, none⟩ = some (ctr k) := by rw [cell_of_row _ _ _ _ _ _ h, hc]
  have hl := run_call_load (P := Tryz.prog) Tryz.func118 (by kernel_rfl) (by kernel_rfl) (by kernel_rfl) .i64 (by kernel_rfl) c1
  show Calls _ _ _ _ fun e w' => e = .returned (.int .i64 (IntKind.i64.wrap k)) ∧ w' = w
  generalize IntKind.i64.wrap k = y at *
  clear c1 h hc
  go_enter Tryz.func95, Tryz.ntmps95
  go_wp2_with fail
  go_ret
  exact ⟨rfl, rfl⟩
theorem gwork_any (b : Nat) (cs : Array Value) (t : TypeId) (k : Nat) (w : World) (h : w.heap[b]? = some (.cells cs t (0, 0))) (hc : cs[ctrOff]? = some (ctr k)) :
    Calls Tryz.prog 63 #[.pointer (some ⟨b, 0, none⟩)] w fun e w' => e = .returned (ctr k) ∧ w' = w := by
  have HL : Hid (Calls Tryz.prog 95 #[.pointer (some ⟨b, ctrOff, none⟩)] w fun e w' => e = .returned (ctr k) ∧ w' = w) := atomicLoad_any b cs t k w h hc
  generalize ctr k = y at *
  clear h hc
  go_enter Tryz.func63, Tryz.ntmps63
  go_wp2_with (go_at_call 95; refine HL.out.mono ?_; rintro e w' ⟨rfl, rfl⟩)
  go_ret
  exact ⟨rfl, rfl⟩
theorem derive_g (c : Nat) : Drv 26 #[.pointer (some ⟨c, 0, none⟩)] (some c) := by
  refine ⟨fun args W => by simp [callFunc, go_sem, Tryz.func26, Tryz.f26], fun s hs l hl n W hq => ?_⟩
  obtain ⟨cs, t, k, h, hc⟩ := hq c rfl
  have hlt : c < W.heap.size := (Array.getElem?_eq_some_iff.1 h).1
  have HD : Hid (∀ W, Calls Tryz.prog 52 #[Agg8 s, .string l, .int .i64 n] W fun e w' => e = .returned (Agg8 (DerB s l.data.toList n)) ∧ Below W.heap.size W w') := fun W => derive_any s hs l hl n W
  obtain ⟨D, hD⟩ : ∃ D, DerB s l.data.toList n = D := ⟨_, rfl⟩
  rw [hD] at HD ⊢
  clear hD hs hl
  obtain ⟨W2, hW2⟩ : ∃ W2, ((W.alloc (.cells (Cells8 s) 47)).alloc (.cells (Cells8 fun _ => 0) 47)) = W2 := ⟨_, rfl⟩
  have h2 : W2.heap[c]? = some (.cells cs t (0, 0)) := by rw [← hW2, Below.heap_alloc _ _ _ (by simp; omega), Below.heap_alloc _ _ _ hlt, h]
  have k2 : W2.heap[W.heap.size]? = some (.cells (Cells8 s) 47 (0, 0)) := by rw [← hW2, Below.heap_alloc _ _ _ (by simp), (MapKept.heap_alloc _ _).1]
  have r2 : W2.heap[W.heap.size + 1]? = some (.cells (Cells8 fun _ => 0) 47 (0, 0)) := by
    rw [← hW2]
    have e := (MapKept.heap_alloc (W.alloc (.cells (Cells8 s) 47)) (.cells (Cells8 fun _ => 0) 47)).1
    simp only [World.size_alloc] at e
    exact e
  have b2 : Below W.heap.size W W2 := by rw [← hW2]; exact ((Below.refl _ W).alloc (Nat.le_refl _) _).alloc (by simp) _
  have HA : Hid (Calls Tryz.prog 51 #[.pointer (some ⟨c, ctrOff, none⟩), .int .i64 1] W2 fun e w' => e = .returned (ctr (k + 1)) ∧ w' = W2.setCell ⟨c, ctrOff, none⟩ (ctr (k + 1))) := atomicAdd_any c cs t k W2 h2 hc
  obtain ⟨W3, hW3⟩ : ∃ W3, W2.setCell ⟨c, ctrOff, none⟩ (ctr (k + 1)) = W3 := ⟨_, rfl⟩
  have t3 : Tick (some c) 1 W W3 := by
    refine ⟨?_, ?_, ?_, ?_, fun i hi hn => ?_, fun d hd cs' t' k' e1 e2 => ?_⟩
    · rw [← hW3]; exact b2.os
    · rw [← hW3]; exact b2.tape
    · rw [← hW3]; exact b2.output
    · rw [← hW3]; simpa [World.setCell] using b2.size
    · rw [← hW3, Below.heap_setCell _ _ _ _ (fun e => hn (by rw [show i = c from e])), b2.block _ hi]
    · cases hd
      rw [h] at e1
      cases e1
      rw [hc] at e2
      have e3 : ctr (k + 1) = ctr (k' + 1) := by
        unfold ctr at e2 ⊢
        simp only [Option.some.injEq, Value.int.injEq, true_and, IntKind.wrap_i64] at e2 ⊢
        push_cast
        omega
      rw [← hW3, setCell_eq_setRow W2 c ctrOff cs _ (0, 0) _ h2, setRow_heap _ _ _ _ _ _ h2, e3]
  have k3 : W3.heap[W.heap.size]? = some (.cells (Cells8 s) 47 (0, 0)) := by rw [← hW3, heap_setCell_other _ _ _ _ (by show W.heap.size ≠ c; omega), k2]
  have r3 : W3.heap[W.heap.size + 1]? = some (.cells (Cells8 fun _ => 0) 47 (0, 0)) := by rw [← hW3, heap_setCell_other _ _ _ _ (by show W.heap.size + 1 ≠ c; omega), r2]
  have z3 : W.heap.size + 2 ≤ W3.heap.size := by
    have := (Array.getElem?_eq_some_iff.1 r3).1
    omega
  have HW2 : Hid (((W.alloc (.cells (Cells8 s) 47)).alloc (.cells (Cells8 fun _ => 0) 47)) = W2) := hW2
  rw [hW3] at HA
  clear hW2 hW3 h2 k2 r2 b2 h hc
  show Calls Tryz.prog 26 #[.pointer (some ⟨c, 0, none⟩), Agg8 s, .string l, .int .i64 n] W _
  go_enter Tryz.func26, Tryz.ntmps26
  go_wp2_with fail
  rw [HW2.out]
  refine HA.out.mono ?_
  rintro e w' ⟨rfl, rfl⟩
  clear HA HW2
  generalize ctr (k + 1) = y at *
  go_wp2_with (refine wpList_load_row rfl 47 _ rfl W.heap.size rfl 47 (Cells8 s) (0, 0) _ k3 Tryz.underlying47 rfl (by kernel_rfl) ?_)
  refine (HD.out _).mono ?_
  rintro e w4 ⟨rfl, b4⟩
  have r4 : w4.heap[W.heap.size + 1]? = some (.cells (Cells8 fun _ => 0) 47 (0, 0)) := by rw [b4.block _ (by omega), r3]
  have t4 := t3.below b4
  clear t3 b4 k3 r3
  go_wp2_with (refine wpList_store_row rfl 47 _ _ rfl (W.heap.size + 1) (Cells8 D) rfl rfl 47 (Cells8 fun _ => 0) r4 (by kernel_rfl) rfl (Cells8_one _) ?_)
  exact bodyPost_ret (v := Agg8 D) (results_cell_row rfl _ _ (W.heap.size + 1) 47 (Cells8 D) (0, 0) _ rfl (setRow_heap _ _ _ _ _ _ r4) Tryz.underlying47 rfl (by kernel_rfl)) rfl ⟨rfl, t4.setRow (by omega) _⟩
end Go.Proofs.YtpfijaclghdcdaaGreatDoor
