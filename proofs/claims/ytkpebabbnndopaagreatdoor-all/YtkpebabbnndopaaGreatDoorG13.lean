import Derived.Test.YtkpebabbnndopaaGreatDoorC12
import Derived.Test.YtkpebabbnndopaaGreatDoorG10
import Derived.Sort.Grow
import Derived.WalkKit
import Derived.WalkSpells
import Derived.WalkLawsBesides
import Derived.Deep.WholeRow
import Derived.Deep.DeepCutAuto
import Derived.BigRegion
/- place.compare. -/
namespace Go.Proofs.YtkpebabbnndopaaGreatDoor
open Go.RowKit Go.Sort
set_option linter.unusedVariables false
set_option linter.unusedSimpArgs false

theorem isNaN_any (a : Int) (w : World) : Calls Tryz.prog 158 #[.int .i64 a] w fun e w' => e = .returned (.bool false) ∧ w' = w := by
  go_enter Tryz.func158, Tryz.ntmps158
  go_wp2_with fail
  go_ret
  exact ⟨rfl, rfl⟩
theorem cmpI_any (a b : Int) (w : World) : Calls Tryz.prog 131 #[.int .i64 a, .int .i64 b] w fun e w' => e = .returned (.int .i64 (cmpI a b)) ∧ w' = w := by
  have HN : Hid (∀ a W, Calls Tryz.prog 158 #[.int .i64 a] W fun e w' => e = .returned (.bool false) ∧ w' = W) := isNaN_any
  unfold cmpI
  by_cases h1 : a < b
  · rw [if_pos h1]
    go_enter Tryz.func131, Tryz.ntmps131
    go_wp2_with (go_at_call 158; refine (HN.out _ _).mono ?_; rintro e w' ⟨rfl, rfl⟩)
    go_ret
    exact ⟨rfl, rfl⟩
  · rw [if_neg h1]
    by_cases h2 : b < a
    · rw [if_pos h2]
      go_enter Tryz.func131, Tryz.ntmps131
      go_wp2_with (go_at_call 158; refine (HN.out _ _).mono ?_; rintro e w' ⟨rfl, rfl⟩)
      go_ret
      exact ⟨rfl, rfl⟩
    · rw [if_neg h2]
      go_enter Tryz.func131, Tryz.ntmps131
      go_wp2_with (go_at_call 158; refine (HN.out _ _).mono ?_; rintro e w' ⟨rfl, rfl⟩)
      go_ret
      exact ⟨rfl, rfl⟩
theorem or_any (gb : Nat) (a b : Int) (w : World) (h0 : w.cell? ⟨gb, 0, none⟩ = some (.int .i64 a)) (h1 : w.cell? ⟨gb, 1, none⟩ = some (.int .i64 b)) :
    Calls Tryz.prog 130 #[.slice (some ⟨gb, 0, none⟩) 2 2] w fun e w' => e = .returned (.int .i64 (if a = 0 then b else a)) ∧ w' = w := by
  by_cases ha : a = 0
  · subst ha
    rw [if_pos rfl]
    by_cases hb : b = 0
    · subst hb
      go_enter Tryz.func130, Tryz.ntmps130
      go_wp2_with fail
      refine wp_loop_rounds 3 ?_
      rw [rounds_succ]
      go_wp2_with fail
      rw [rounds_succ]
      go_wp2_with fail
      rw [rounds_succ]
      go_wp2_with fail
      go_ret
      exact ⟨rfl, rfl⟩
    · have hb2 : (b == 0) = false := by simpa using hb
      go_enter Tryz.func130, Tryz.ntmps130
      go_wp2_with fail
      refine wp_loop_rounds 2 ?_
      rw [rounds_succ]
      go_wp2_with fail
      rw [rounds_succ]
      go_wp2_with fail
      go_ret
      exact ⟨rfl, rfl⟩
  · have ha2 : (a == 0) = false := by simpa using ha
    rw [if_neg ha]
    go_enter Tryz.func130, Tryz.ntmps130
    go_wp2_with fail
    refine wp_loop_rounds 1 ?_
    rw [rounds_succ]
    go_wp2_with fail
    go_ret
    exact ⟨rfl, rfl⟩
set_option maxHeartbeats 40000000 in
set_option maxRecDepth 20000 in
theorem compare_any (x y : PlI) (w : World) : Calls Tryz.prog 95 #[encP x, encP y] w fun e w' => e = .returned (.int .i64 (cmpP x y)) ∧ ∃ q os', w' = grow (w.drewN q) os' := by
  have HC : Hid (∀ a b W, Calls Tryz.prog 131 #[.int .i64 a, .int .i64 b] W fun e w' => e = .returned (.int .i64 (cmpI a b)) ∧ w' = W) := cmpI_any
  have HO : Hid (∀ gb a b W, W.cell? ⟨gb, 0, none⟩ = some (.int .i64 a) → W.cell? ⟨gb, 1, none⟩ = some (.int .i64 b) → Calls Tryz.prog 130 #[.slice (some ⟨gb, 0, none⟩) 2 2] W fun e w' => e = .returned (.int .i64 (if a = 0 then b else a)) ∧ w' = W) := or_any
  obtain ⟨A, hA⟩ : ∃ A, cmpI x.1 y.1 = A := ⟨_, rfl⟩
  obtain ⟨B, hB⟩ : ∃ B, cmpI x.2 y.2 = B := ⟨_, rfl⟩
  have hC1 := HC.out x.1 y.1
  have hC2 := HC.out x.2 y.2
  unfold cmpP
  rw [hA] at hC1 ⊢
  rw [hB] at hC2 ⊢
  have H1 : Hid (∀ W, Calls Tryz.prog 131 #[.int .i64 x.1, .int .i64 y.1] W fun e w' => e = .returned (.int .i64 A) ∧ w' = W) := hC1
  have H2 : Hid (∀ W, Calls Tryz.prog 131 #[.int .i64 x.2, .int .i64 y.2] W fun e w' => e = .returned (.int .i64 B) ∧ w' = W) := hC2
  obtain ⟨x1, e1⟩ : ∃ a, x.1 = a := ⟨_, rfl⟩
  obtain ⟨x2, e2⟩ : ∃ a, x.2 = a := ⟨_, rfl⟩
  obtain ⟨y1, e3⟩ : ∃ a, y.1 = a := ⟨_, rfl⟩
  obtain ⟨y2, e4⟩ : ∃ a, y.2 = a := ⟨_, rfl⟩
  show Calls Tryz.prog 95 #[.agg #[.int .i64 x.1, .int .i64 x.2], .agg #[.int .i64 y.1, .int .i64 y.2]] w _
  rw [e1, e2, e3, e4]
  rw [e1, e3] at H1
  rw [e2, e4] at H2
  clear hC1 hC2 HC hA hB e1 e2 e3 e4
  obtain ⟨R, hR⟩ : ∃ R : Int, (if A = 0 then B else A) = R := ⟨_, rfl⟩
  have HO2 : Hid (∀ gb W, W.cell? ⟨gb, 0, none⟩ = some (.int .i64 A) → W.cell? ⟨gb, 1, none⟩ = some (.int .i64 B) → Calls Tryz.prog 130 #[.slice (some ⟨gb, 0, none⟩) 2 2] W fun e w' => e = .returned (.int .i64 R) ∧ w' = W) := fun gb W h0 h1 => by rw [← hR]; exact HO.out gb A B W h0 h1
  have HO3 : Hid (Calls Tryz.prog 130 #[.slice (some ⟨w.heap.size + 1 + 1, 0, none⟩) 2 2] (((w.alloc (.cells #[.int .i64 x1, .int .i64 x2] 123)).alloc (.cells #[.int .i64 y1, .int .i64 y2] 123)).alloc (.cells #[.int .i64 A, .int .i64 B] 3)).drew fun e w' => e = .returned (.int .i64 R) ∧ w' = (((w.alloc (.cells #[.int .i64 x1, .int .i64 x2] 123)).alloc (.cells #[.int .i64 y1, .int .i64 y2] 123)).alloc (.cells #[.int .i64 A, .int .i64 B] 3)).drew) := by
    have e := (MapKept.heap_alloc ((w.alloc (.cells #[.int .i64 x1, .int .i64 x2] 123)).alloc (.cells #[.int .i64 y1, .int .i64 y2] 123)) (.cells #[.int .i64 A, .int .i64 B] 3)).1
    simp only [World.size_alloc] at e
    have e' : (((w.alloc (.cells #[.int .i64 x1, .int .i64 x2] 123)).alloc (.cells #[.int .i64 y1, .int .i64 y2] 123)).alloc (.cells #[.int .i64 A, .int .i64 B] 3)).drew.heap[w.heap.size + 1 + 1]? = some (.cells #[.int .i64 A, .int .i64 B] 3 (0, 0)) := e
    exact HO2.out _ _ (by rw [cell_of_row _ _ _ _ _ _ e']; rfl) (by rw [cell_of_row _ _ _ _ _ _ e']; rfl)
  rw [hR]
  clear hR HO HO2
  obtain ⟨wa, hwa⟩ : ∃ wa, (w.alloc (.cells #[.int .i64 x1, .int .i64 x2] 123)).alloc (.cells #[.int .i64 y1, .int .i64 y2] 123) = wa := ⟨_, rfl⟩
  have kx : wa.heap[w.heap.size]? = some (.cells #[.int .i64 x1, .int .i64 x2] 123 (0, 0)) := by rw [← hwa, Below.heap_alloc _ _ _ (by simp)]; exact (MapKept.heap_alloc _ _).1
  have ky : wa.heap[w.heap.size + 1]? = some (.cells #[.int .i64 y1, .int .i64 y2] 123 (0, 0)) := by
    have e := (MapKept.heap_alloc (w.alloc (.cells #[.int .i64 x1, .int .i64 x2] 123)) (.cells #[.int .i64 y1, .int .i64 y2] 123)).1
    rw [← hwa]
    simpa only [World.size_alloc] using e
  have hza : wa.heap.size = w.heap.size + 1 + 1 := by rw [← hwa]; simp
  have HS : Hid (∀ W, Below wa.heap.size wa W → (∀ o, W.cell? ⟨w.heap.size, o, none⟩ = #[Value.int .i64 x1, .int .i64 x2][o]?) ∧ (∀ o, W.cell? ⟨w.heap.size + 1, o, none⟩ = #[Value.int .i64 y1, .int .i64 y2][o]?)) := fun W hW =>
    ⟨fun o => cell_of_row _ _ _ _ _ _ (by rw [hW.block _ (by omega)]; exact kx), fun o => cell_of_row _ _ _ _ _ _ (by rw [hW.block _ (by omega)]; exact ky)⟩
  have HWA : Hid ((w.alloc (.cells #[.int .i64 x1, .int .i64 x2] 123)).alloc (.cells #[.int .i64 y1, .int .i64 y2] 123) = wa ∧ wa.heap.size = w.heap.size + 1 + 1) := ⟨hwa, hza⟩
  rw [hwa] at HO3
  clear hwa kx ky hza
  go_enter Tryz.func95, Tryz.ntmps95
  go_upto_region 1 with fail
  rw [HWA.out.1]
  refine wp_region_held_drew (S := fun W => Below wa.heap.size wa W) (by kernel_rfl) ((Below.refl _ wa).drew) (fun hHeld => ?_)
  change wpAnyH _ _ _ _ _ 13 _ _ _
  refine take1 (i := 0) (v := .pointer (some ⟨w.heap.size, 0, none⟩)) rfl (by kernel_rfl) (by kernel_rfl) (by kernel_rfl) (fun _ _ _ h => h) hHeld (fun W hS => (by clear hHeld; go_simp)) ?_
  simp only [Act.put, List.setIfInBounds_toArray, List.set_cons_zero, List.set_cons_succ]
  refine take1 (i := 1) (v := .int .i64 x1) rfl (by kernel_rfl) (by kernel_rfl) (by kernel_rfl) (fun _ _ _ h => h) hHeld (fun W hS => (by have hc := (HS.out W hS).1; clear hHeld; go_simp)) ?_
  simp only [Act.put, List.setIfInBounds_toArray, List.set_cons_zero, List.set_cons_succ]
  refine take1 (i := 2) (v := .pointer (some ⟨w.heap.size + 1, 0, none⟩)) rfl (by kernel_rfl) (by kernel_rfl) (by kernel_rfl) (fun _ _ _ h => h) hHeld (fun W hS => (by clear hHeld; go_simp)) ?_
  simp only [Act.put, List.setIfInBounds_toArray, List.set_cons_zero, List.set_cons_succ]
  refine take1 (i := 3) (v := .int .i64 y1) rfl (by kernel_rfl) (by kernel_rfl) (by kernel_rfl) (fun _ _ _ h => h) hHeld (fun W hS => (by have hc := (HS.out W hS).2; clear hHeld; go_simp)) ?_
  simp only [Act.put, List.setIfInBounds_toArray, List.set_cons_zero, List.set_cons_succ]
  refine take1 (i := 5) (v := .pointer (some ⟨w.heap.size, 1, none⟩)) rfl (by kernel_rfl) (by kernel_rfl) (by kernel_rfl) (fun _ _ _ h => h) hHeld (fun W hS => (by clear hHeld; go_simp)) ?_
  simp only [Act.put, List.setIfInBounds_toArray, List.set_cons_zero, List.set_cons_succ]
  refine take1 (i := 6) (v := .int .i64 x2) rfl (by kernel_rfl) (by kernel_rfl) (by kernel_rfl) (fun _ _ _ h => h) hHeld (fun W hS => (by have hc := (HS.out W hS).1; clear hHeld; go_simp)) ?_
  simp only [Act.put, List.setIfInBounds_toArray, List.set_cons_zero, List.set_cons_succ]
  refine take1 (i := 7) (v := .pointer (some ⟨w.heap.size + 1, 1, none⟩)) rfl (by kernel_rfl) (by kernel_rfl) (by kernel_rfl) (fun _ _ _ h => h) hHeld (fun W hS => (by clear hHeld; go_simp)) ?_
  simp only [Act.put, List.setIfInBounds_toArray, List.set_cons_zero, List.set_cons_succ]
  refine take1 (i := 8) (v := .int .i64 y2) rfl (by kernel_rfl) (by kernel_rfl) (by kernel_rfl) (fun _ _ _ h => h) hHeld (fun W hS => (by have hc := (HS.out W hS).2; clear hHeld; go_simp)) ?_
  simp only [Act.put, List.setIfInBounds_toArray, List.set_cons_zero, List.set_cons_succ]
  refine call1 (i := 4) (by kernel_rfl) rfl (f := 131) (args := #[.int .i64 x1, .int .i64 y1]) (by clear hHeld; go_simp) (R := fun v W => v = .int .i64 A ∧ W = wa.drew) ((H1.out _).mono fun e w' ⟨h1, h2⟩ => ⟨_, h1, rfl, h2⟩) (fun v W ⟨_, h2⟩ => by rw [h2]; exact hHeld) (fun v W hvW => ?_)
  obtain ⟨rfl, rfl⟩ := hvW
  simp only [Act.put, List.setIfInBounds_toArray, List.set_cons_zero, List.set_cons_succ]
  refine call1 (i := 9) (by kernel_rfl) rfl (f := 131) (args := #[.int .i64 x2, .int .i64 y2]) (by clear hHeld; go_simp) (R := fun v W => v = .int .i64 B ∧ W = wa.drew) ((H2.out _).mono fun e w' ⟨h1, h2⟩ => ⟨_, h1, rfl, h2⟩) (fun v W ⟨_, h2⟩ => by rw [h2]; exact hHeld) (fun v W hvW => ?_)
  obtain ⟨rfl, rfl⟩ := hvW
  simp only [Act.put, List.setIfInBounds_toArray, List.set_cons_zero, List.set_cons_succ]
  refine step1 (i := 10) (by kernel_rfl) rfl (.slice (some ⟨wa.heap.size, 0, none⟩) 2 2) (wa.drew.alloc (.cells #[.int .i64 A, .int .i64 B] 3)) (by clear hHeld; go_simp) (hHeld.alloc (Nat.le_refl _) _) ?_
  simp only [Act.put, List.setIfInBounds_toArray, List.set_cons_zero, List.set_cons_succ]
  refine call1 (i := 11) (by kernel_rfl) rfl (f := 130) (args := #[.slice (some ⟨wa.heap.size, 0, none⟩) 2 2]) (by clear hHeld; go_simp) (R := fun v W => v = .int .i64 R ∧ W = wa.drew.alloc (.cells #[.int .i64 A, .int .i64 B] 3)) (by rw [HWA.out.2]; exact HO3.out.mono fun e w' ⟨h1, h2⟩ => ⟨_, h1, rfl, h2⟩) (fun v W ⟨_, h2⟩ => by rw [h2]; exact hHeld.alloc (Nat.le_refl _) _) (fun v W hvW => ?_)
  obtain ⟨rfl, rfl⟩ := hvW
  simp only [Act.put, List.setIfInBounds_toArray, List.set_cons_zero, List.set_cons_succ]
  refine step1 (i := 12) (by kernel_rfl) rfl (.int .i64 R) (wa.drew.alloc (.cells #[.int .i64 A, .int .i64 B] 3)) (by clear hHeld; go_simp) (hHeld.alloc (Nat.le_refl _) _) ?_
  simp only [Act.put, List.setIfInBounds_toArray, List.set_cons_zero, List.set_cons_succ]
  refine wpAnyH_done (by kernel_rfl) ?_ _
  clear hHeld HS H1 H2 HO3
  go_wp2_with fail
  go_ret
  refine ⟨rfl, 1, #[.cells #[.int .i64 x1, .int .i64 x2] 123, .cells #[.int .i64 y1, .int .i64 y2] 123, .cells #[.int .i64 A, .int .i64 B] 3], ?_⟩
  rw [← HWA.out.1]
  show ((((w.alloc (.cells #[.int .i64 x1, .int .i64 x2] 123)).alloc (.cells #[.int .i64 y1, .int .i64 y2] 123)).alloc (.cells #[.int .i64 A, .int .i64 B] 3)).drew) = _
  rw [alloc_eq_grow, alloc_eq_grow, alloc_eq_grow, grow_grow, grow_grow]
  rfl
end Go.Proofs.YtkpebabbnndopaaGreatDoor

/- The sort of places. -/
namespace Go.Proofs.YtkpebabbnndopaaGreatDoor
open Go.RowKit Go.Shelf Go.Sort Go.Lib
set_option linter.unusedVariables false
set_option linter.unusedSimpArgs false

theorem flatK_get (ys : List PlI) (j : Nat) (u : Value) (h : (flatP ys)[j]? = some u) : j < (flatK encL 2 ys.toArray).size ∧ (flatK encL 2 ys.toArray)[j]! = u := by
  have hj := (List.getElem?_eq_some_iff.1 h).1
  rw [flatP_len] at hj
  refine ⟨by simpa using hj, ?_⟩
  rw [get_flatK _ _ _ _ (by simpa using hj)]
  obtain ⟨i, hi⟩ : ∃ i, j / 2 = i := ⟨_, rfl⟩
  have hil : i < ys.length := by omega
  obtain ⟨e1, e2⟩ := flatP_get ys i hil
  have ey : ys.toArray[i]! = ys[i] := by simp [hil]
  rw [hi, ey]
  by_cases hr : j % 2 = 0
  · rw [hr]
    rw [show j = 2 * i by omega, e1] at h
    cases h
    rfl
  · rw [show j % 2 = 1 by omega]
    rw [show j = 2 * i + 1 by omega, e2] at h
    cases h
    rfl
set_option maxHeartbeats 1000000 in
theorem sort_any (g cap : Nat) (xs : List PlI) (hlen : xs.length ≤ 100000) (w : World) (h : RowP w g cap xs) :
    Calls Tryz.prog 128 #[.slice (some ⟨g, 0, none⟩) xs.length cap, .func (.func 95) #[] #[]] w fun e w' => e = .returned (.tuple #[]) ∧ Outside [g] w w' ∧ RowP w' g cap (sortP xs) := by
  have eg : ∀ args w, (callFunc 95 args).run Tryz.prog w = .ok (.enter 95 args) w := enters_of Tryz.func95 (by kernel_rfl) rfl
  obtain ⟨cur, h1, h2, h3⟩ := h.row
  have hH : HoldsK encL 2 w g 0 xs.toArray := fun j hj => by
    rw [size_flatK] at hj
    have hj2 : j < xs.length * 2 := by simpa using hj
    obtain ⟨u, hu⟩ : ∃ u, (flatP xs)[j]? = some u := ⟨_, List.getElem?_eq_getElem (by rw [flatP_len]; exact hj2)⟩
    rw [(flatK_get xs j u hu).2, Nat.zero_add]
    refine ⟨by rw [cell_of_row _ _ _ _ _ _ h1]; exact h3 j u hu, by simp [World.frozen?, h1]⟩
  have hcon := AnyQ.slices_SortFunc_total sortLay 2 (fun w => Tryz.isAgg123 w) (fun w => Tryz.sizeOf123 w) encL (fun _ => rfl) (fun x v hv => by simp [encL] at hv; rcases hv with rfl | rfl <;> rfl) cmpP swoP 95 #[] g 0 cap xs.toArray w eg (fun _ _ _ _ x y => compare_any x y _) hH (Array.getElem?_eq_some_iff.1 h1).1 (by simp; omega) totP
  change Calls Tryz.prog 128 _ _ _ at hcon
  rw [List.size_toArray] at hcon
  refine hcon.mono fun e w' ⟨he, n, os, hw⟩ => ⟨he, ?_, ?_⟩
  · rw [hw]
    refine ⟨rfl, rfl, rfl, by simp [sortWorldK, putRowK, putRow, mapBlock, Sort.ahead, grow], fun k hk hne => ?_⟩
    unfold sortWorldK
    rw [heap_grow_old _ _ (by simpa [putRowK, putRow, mapBlock, Sort.ahead] using hk)]
    have : g ≠ k := fun e => hne (by simp [e])
    simp [putRowK, putRow, mapBlock, Sort.ahead, Array.getElem?_modify, this]
  · rw [hw]
    have hg : (sortWorldK encL 2 w g 0 n (xs.toArray.toList.mergeSort fun x y => !(ltOf cmpP) y x).toArray os).heap[g]? = some (.cells (putCells id 0 (flatK encL 2 (sortP xs).toArray) cur) 123 (0, 0)) := by
      unfold sortWorldK
      rw [heap_grow_old _ _ (by simpa [putRowK, putRow, mapBlock, Sort.ahead] using (Array.getElem?_eq_some_iff.1 h1).1)]
      simp [putRowK, putRow, mapBlock, Sort.ahead, Array.getElem?_modify, h1, onCells, sortP]
    refine ⟨⟨_, hg, by simp [putCells, h2], fun j u hu => ?_⟩, by rw [sortP_len]; exact h.le⟩
    obtain ⟨f1, f2⟩ := flatK_get (sortP xs) j u hu
    have hjc : j < cur.size := by rw [size_flatK] at f1; simp [sortP_len] at f1; have := h.le; omega
    simp [putCells, Array.getElem?_mapIdx, Array.getElem?_eq_getElem hjc]
    rw [if_pos (by simpa using f1)]
    exact f2
end Go.Proofs.YtkpebabbnndopaaGreatDoor

/- places, of whatever map of kept keys. -/
namespace Go.Proofs.YtkpebabbnndopaaGreatDoor
open Go.RowKit Go.Shelf Go.Maps
set_option linter.unusedVariables false
set_option linter.unusedSimpArgs false

theorem sortP_congr {xs ys : List PlI} (h : xs.Perm ys) : sortP xs = sortP ys := by
  have hp : (sortP xs).Perm (sortP ys) := ((sortP_perm xs).trans h).trans (sortP_perm ys).symm
  refine hp.eq_of_pairwise (le := fun x y => ¬ ltP y x) (fun a b _ _ h3 h4 => ?_) (sortP_sorted xs) (sortP_sorted ys)
  exact totP a b ((cmpP_nlt _ _).2 h4) ((cmpP_nlt _ _).2 h3)
set_option maxHeartbeats 1000000 in
theorem places_any {w : World} {pm : Nat} {L : List PlI} {B : PlI → Nat} {key : PlI → Nat → Int} (h : KeepAt w pm L B key) (hlen : L.length ≤ 1000) :
    Calls Tryz.prog 55 #[.map (some pm)] w fun e w' => Below w.heap.size w w' ∧ ((L = [] ∧ e = .returned (.slice none 0 0)) ∨ (L ≠ [] ∧ ∃ g cap, e = .returned (.slice (some ⟨g, 0, none⟩) L.length cap) ∧ w.heap.size ≤ g ∧ RowP w' g cap (sortP L))) := by
  obtain ⟨D, hown, hD⟩ := h.map
  have hpl := h.lt
  have HK : Hid (∀ W mb, Calls Tryz.prog 94 #[.map mb] W fun e w' => e = .returned (.func (.func 129) #[] #[.pointer (some ⟨W.heap.size, 0, none⟩)]) ∧ w' = W.alloc (.cells #[.map mb] 107)) := fun W mb => (callsIn_wide (n := 3)).1 (mkeys_any Fence.wide 3 trivial rfl mb W)
  obtain ⟨w1, hw1⟩ : ∃ w1, w.alloc (.cells #[.map (some pm)] 107) = w1 := ⟨_, rfl⟩
  have b1 : Below w.heap.size w w1 := by rw [← hw1]; exact (Below.refl _ w).alloc (Nat.le_refl _) _
  have k1 : w1.heap[w.heap.size]? = some (.cells #[.map (some pm)] 107 (0, 0)) := by rw [← hw1]; exact (MapKept.heap_alloc _ _).1
  have c1 : w1.cell? ⟨w.heap.size, 0, none⟩ = some (.map (some pm)) := by rw [cell_of_row _ _ _ _ _ _ k1]; rfl
  have hown1 : w1.ownsMap Tryz.prog 123 RP pm L.length D := by
    obtain ⟨es, clock, hb, Ft, hs, hd⟩ := hown
    exact ⟨es, clock, (b1.block pm hpl).trans hb, Ft, hs, hd⟩
  have hs := keysN_stops Fence.wide 8 trivial rfl (by omega) w.heap.size pm D L B hD w1 (Array.getElem?_eq_some_iff.1 k1).1 c1 hown1
  have HC0 := collect_any _ _ (enters_of Tryz.func129 (by kernel_rfl) rfl) _ _ L.length (by omega) w1 hs
  -- what lies behind the sort
  have HSF : Hid (Calls Tryz.prog 93 #[.func (.func 129) #[] #[.pointer (some ⟨w.heap.size, 0, none⟩)], .func (.func 95) #[] #[]] w1 fun e w' => ∃ v, e = .returned v ∧ Hid (Below w1.heap.size w1 w' ∧ ((L = [] ∧ v = .slice none 0 0) ∨ (L ≠ [] ∧ ∃ g cap, v = .slice (some ⟨g, 0, none⟩) L.length cap ∧ w1.heap.size ≤ g ∧ RowP w' g cap (sortP L))))) := by
    have HC : Hid (Calls Tryz.prog 127 #[.func (.func 129) #[] #[.pointer (some ⟨w.heap.size, 0, none⟩)]] w1 fun e w' => ∃ (v : Value) (xs : List PlI), e = .returned v ∧ Hid (xs.Perm L ∧ w'.ownsRow w1.heap.size 123 2 v xs.length (flatP xs) ∧ (v = .slice none 0 0 ↔ xs = []) ∧ Below w1.heap.size w1 w')) := HC0.mono fun e w' ⟨v, xs, e1, e2, e3, e4, e5⟩ => ⟨v, xs, e1, e2, e3, e4, e5⟩
    have HL : Hid (L.length ≤ 1000) := hlen
    clear HC0 hs c1 k1 b1 hw1 HK hown hown1 hD h hlen hpl
    show Calls _ _ _ _ _
    go_enter Tryz.func93, Tryz.ntmps93
    go_wp2_with fail
    refine HC.out.mono ?_
    rintro e w2 ⟨v, xs, rfl, hx⟩
    have HSO : Hid (Calls Tryz.prog 128 #[v, .func (.func 95) #[] #[]] w2 fun e w' => e = .returned (.tuple #[]) ∧ Hid (Below w1.heap.size w1 w' ∧ ((L = [] ∧ v = .slice none 0 0) ∨ (L ≠ [] ∧ ∃ g cap, v = .slice (some ⟨g, 0, none⟩) L.length cap ∧ w1.heap.size ≤ g ∧ RowP w' g cap (sortP L))))) := by
      obtain ⟨hp, hrow, hnil, hb⟩ := hx.out
      by_cases hxs : xs = []
      · have hv := hnil.2 hxs
        have hL : L = [] := by rw [hxs] at hp; exact hp.symm.eq_nil
        show Calls _ _ _ _ _
        rw [hv]
        refine (sort_nil _ w2).mono fun e w' ⟨e1, e2⟩ => ⟨e1, ?_⟩
        rw [e2]
        exact ⟨hb, .inl ⟨hL, rfl⟩⟩
      · have hL : L ≠ [] := fun e => hxs (by rw [e] at hp; exact hp.eq_nil)
        rcases hrow.2 with ⟨h1, _⟩ | ⟨g, cap, cur, h1, _⟩
        · exact absurd (hnil.1 h1) hxs
        · rw [h1] at hrow
          obtain ⟨_, hg, hr⟩ := RowP.of_owns hrow
          show Calls _ _ _ _ _
          rw [h1]
          refine (sort_any g cap xs (by have := HL.out; rw [hp.length_eq]; omega) w2 hr).mono fun e w' ⟨e1, e2, e3⟩ => ⟨e1, ?_⟩
          rw [sortP_congr hp] at e3
          exact ⟨hb.trans (e2.toBelow w1.heap.size hb.size (fun i hi => by simp at hi; omega)), .inr ⟨hL, g, cap, by rw [hp.length_eq], hg, e3⟩⟩
    clear hx HC HL
    go_wp2_with fail
    refine HSO.out.mono ?_
    rintro e w3 ⟨rfl, hy⟩
    clear HSO
    go_wp2_with fail
    go_ret
    exact ⟨v, rfl, hy⟩
  have HB1 : Hid (Below w.heap.size w w1) := b1
  have HW1 : Hid (w.alloc (.cells #[.map (some pm)] 107) = w1) := hw1
  clear HC0 hs c1 k1 b1 hw1 h hown hown1 hD hlen hpl
  go_enter Tryz.func55, Tryz.ntmps55
  go_wp2_with (first | (go_at_call 94; refine (HK.out _ _).mono ?_; rintro e w' ⟨rfl, rfl⟩; rw [HW1.out]) | (go_at_call 93; refine HSF.out.mono ?_; rintro e w2 ⟨v, rfl, hz⟩))
  go_ret
  obtain ⟨q1, q2⟩ := hz.out
  have z := HB1.out.size
  refine ⟨HB1.out.trans (q1.mono z), ?_⟩
  rcases q2 with ⟨hL, hv⟩ | ⟨hL, g, cap, hv, hg, hr⟩
  · exact .inl ⟨hL, by rw [hv]; rfl⟩
  · exact .inr ⟨hL, g, cap, by rw [hv]; rfl, by omega, hr⟩
end Go.Proofs.YtkpebabbnndopaaGreatDoor
