import Derived.Test.YtkpebabbnndopaaGreatDoorG17
import Derived.Test.YtkpebabbnndopaaGreatDoorG19
import Derived.Test.YtkpebabbnndopaaGreatDoorC13
import Derived.Test.YtkpebabbnndopaaGreatDoorG07
import Derived.WalkKit
import Derived.WalkSpells
import Derived.WalkLawsBesides
import Derived.Deep.DeepCutAuto
import Derived.BigRegion
import Derived.Laws.CopyRow
import Derived.Deep.WholeRow
namespace Go.Proofs.YtkpebabbnndopaaGreatDoor
open Go.RowKit

set_option maxHeartbeats 400000 in
theorem open_short_d (fv : Value) (s : Nat → Int) (a : Option Addr) (l : List UInt8) (c : Nat) (b : Option Addr) (n : Nat) (d : Nat) (hn : n < 4) (w : World) :
    Calls Tryz.prog 77 #[Agg8 s, .slice a l.length c, .slice b n d, fv] w fun e w' => e = .returned (.tuple #[.slice none 0 0, .bool false]) ∧ Below w.heap.size w w' := by
  go_enter Tryz.func77, Tryz.ntmps77
  go_wp2
  go_ret2
  exact ⟨rfl, (Below.refl _ w).alloc (Nat.le_refl _) _⟩

/-- what copy does: four bytes from somewhere into a new array -/
theorem run_copy4 (wx : World) (sb so sl sc : Nat) (D : Nat → Int) (hsl : 4 ≤ sl) (hsrc : ∀ i, i < 4 → wx.cell? ⟨sb, so + i, none⟩ = some (.int .u8 (D i))) (hlt : sb < wx.heap.size) (ty : TypeId) :
    (Builtin.copy_ #[34, 34] ty #[.slice (some ⟨wx.heap.size, 0, none⟩) 4 4, .slice (some ⟨sb, so, none⟩) sl sc]).run Tryz.prog (wx.alloc (.cells (Cells4 fun _ => 0) 197)).drew
      = .ok (goInt 4) (wx.alloc (.cells (Cells4 D) 197)).drew := by
  have h := run_copy_row Tryz.prog (wx.alloc (.cells (Cells4 fun _ => 0) 197)).drew 34 34 ty 5 wx.heap.size 0 4 4 ⟨sb, so, none⟩ sl sc (Cells4 fun _ => 0) 197
    [.int .u8 (D 0), .int .u8 (D 1), .int .u8 (D 2), .int .u8 (D 3)] Tryz.underlying34 (by kernel_rfl) (MapKept.heap_alloc wx _).1 (by show 4 = min sl 4; omega)
    (fun j v hj => by
      have ea : (⟨sb, so, none⟩ : Addr).add j = ⟨sb, so + j, none⟩ := by unfold Addr.add; split <;> simp_all
      have hj4 : j < 4 := by
        have := (List.getElem?_eq_some_iff.1 hj).1
        simpa using this
      have ec : (wx.alloc (.cells (Cells4 fun _ => 0) 197)).drew.cell? ⟨sb, so + j, none⟩ = wx.cell? ⟨sb, so + j, none⟩ := (((Below.refl _ wx).alloc (Nat.le_refl _) _).drew).cell (p := ⟨sb, so + j, none⟩) hlt
      rw [ea, ec, hsrc j hj4]
      have h4 : j = 0 ∨ j = 1 ∨ j = 2 ∨ j = 3 := by omega
      rcases h4 with rfl | rfl | rfl | rfl <;> simpa using hj) (by simp) (by intro v hv; simp at hv; rcases hv with rfl | rfl | rfl | rfl <;> rfl)
  rw [h]
  have e : (wx.alloc (.cells (Cells4 fun _ => 0) 197)).drew.setRow wx.heap.size (Cells4 D) = (wx.alloc (.cells (Cells4 D) 197)).drew := by
    have := World.setRow_alloc_new wx (Cells4 fun _ => 0) (Cells4 D) 197
    exact congrArg World.drew this
  exact congrArg (Result.ok (goInt 4)) e

set_option maxHeartbeats 2000000 in
theorem open_long_d {F : FuncId} {pre : Array Value} {q : Option Nat} (dv : Drv F pre q) (s : Nat → Int) (hs : ∀ i, 0 ≤ s i ∧ s i < 256) (a : Option Addr) (l : List UInt8) (c : Nat) (hl : l.length ≤ 1000000) (bb bo k d : Nat) (x : List UInt8) (hx : x.length = k + 4) (hk : k ≤ 1000000) (hd : k + 4 ≤ d) (w : World)
    (ha : Bts w a l) (hc : ∀ i (h : i < x.length), w.cell? ⟨bb, bo + i, none⟩ = some (cellB x[i])) (hq : Has q w) (hna : ∀ b o, a = some ⟨b, o, none⟩ → q ≠ some b) (hnb : q ≠ some bb) :
    Calls Tryz.prog 77 #[Agg8 s, .slice a l.length c, .slice (some ⟨bb, bo, none⟩) (k + 4) d, .func (.func F) pre #[]] w fun e w' => (∃ n, (0 < n ∧ n ≤ (k + 7) / 8 + 1) ∧ Tick q n w w') ∧ ((OpenOk s l x = false ∧ e = .returned (.tuple #[.slice none 0 0, .bool false])) ∨ (OpenOk s l x = true ∧ ∃ g, e = .returned (.tuple #[.slice (some ⟨g, 0, none⟩) k k, .bool true]) ∧ w.heap.size ≤ g ∧ w'.heap[g]? = some (.cells (RowB (OpenT s x) k) 5 (0, 0)))) := by
  have HA : Hid (Bts w a l) := ha
  have HC : Hid (∀ i (h : i < x.length), w.cell? ⟨bb, bo + i, none⟩ = some (cellB x[i])) := hc
  have hbb : bb < w.heap.size := block_lt_of_cell (hc 0 (by omega))
  have hcp := fun ty => run_copy4 (w.alloc (.cells (Cells8 s) 51)) bb (bo + k) 4 (d - k) (Tail4 x k) (by omega) (fun i hi => by
    rw [((Below.refl _ w).alloc (Nat.le_refl _) _).cell (p := ⟨bb, bo + k + i, none⟩) hbb]
    have hci := hc (k + i) (by omega)
    rw [← Nat.add_assoc] at hci
    rw [hci]
    simp [Tail4, cellB, List.getD, List.getElem?_eq_getElem (show k + i < x.length by omega)]) (by simp; omega) ty
  simp only [World.size_alloc] at hcp
  generalize hT0 : Tail4 x k = T0 at *
  have HT0 : Hid (Tail4 x k = T0) := hT0
  have HQ : Hid (Has q w) := hq
  have HNA : Hid (∀ b o, a = some ⟨b, o, none⟩ → q ≠ some b) := hna
  have HNB : Hid (∀ c o, (some ⟨bb, bo, none⟩ : Option Addr) = some ⟨c, o, none⟩ → q ≠ some c) := fun c o h => by cases h; exact hnb
  clear ha hc hT0 hq hna hnb
  go_enter Tryz.func77, Tryz.ntmps77
  go_wp2
  go_region
  clear hcp
  go_upto_region 6 with fail
  obtain ⟨wa, hwa⟩ : ∃ wa, ((w.alloc (.cells (Cells8 s) 51)).alloc (.cells (Cells4 T0) 197)).drew = wa := ⟨_, rfl⟩
  have bela : Tick q 0 w wa := by rw [← hwa]; exact (((Tick.refl q w).alloc _).alloc _).drew
  have hsza : w.heap.size + 1 + 1 ≤ wa.heap.size := by rw [← hwa]; simp
  have hkey : wa.heap[w.heap.size]? = some (.cells (Cells8 s) 51 (0, 0)) := by
    rw [← hwa]
    show (World.alloc _ _).heap[w.heap.size]? = _
    rw [Below.heap_alloc _ _ _ (by simp), (MapKept.heap_alloc _ _).1]
  have htg : wa.heap[w.heap.size + 1]? = some (.cells (Cells4 T0) 197 (0, 0)) := by
    rw [← hwa]
    have e := (MapKept.heap_alloc (w.alloc (.cells (Cells8 s) 51)) (.cells (Cells4 T0) 197)).1
    simp only [World.size_alloc] at e
    exact e
  rw [hwa]
  clear hwa
  obtain ⟨T, hT, htag⟩ : ∃ T : Nat → Int, T = Tag s l (x.take k) ∧ ∀ W' n, Tick q n w W' → Calls Tryz.prog 104 #[.agg (Cells8 s), .slice a l.length c, .slice (some ⟨bb, bo, none⟩) k d, .func (.func F) pre #[]] W' fun e w' => e = .returned (.agg (Cells4 T)) ∧ Tick q 1 W' w' := by
    refine ⟨_, rfl, fun W' n hW' => ?_⟩
    have hlt : (x.take k).length = k := by rw [List.length_take]; omega
    have hB : Bts w (some ⟨bb, bo, none⟩) (x.take k) := .inr ⟨bb, bo, rfl, fun i hi => by rw [HC.out i (by omega)]; simp [cellB]⟩
    have h := tagOf_any dv s hs a l c hl (some ⟨bb, bo, none⟩) (x.take k) d (by omega) W' (HA.out.tick hW' HNA.out) (hB.tick hW' HNB.out) (HQ.out.tick hW')
    rw [hlt] at h
    exact h
  have HT : Hid (T = Tag s l (x.take k)) := hT
  have HTAG : Hid (∀ W' n, Tick q n w W' → Calls Tryz.prog 104 #[.agg (Cells8 s), .slice a l.length c, .slice (some ⟨bb, bo, none⟩) k d, .func (.func F) pre #[]] W' fun e w' => e = .returned (.agg (Cells4 T)) ∧ Tick q 1 W' w') := htag
  clear hT htag
  obtain ⟨bT, hbT, heqn⟩ : ∃ bT : Bool, bT = ([T0 0, T0 1, T0 2, T0 3] == [T 0, T 1, T 2, T 3]) ∧ ∀ w, (Op.equalIn 10000 197 (.agg #[.int .u8 (T0 0), .int .u8 (T0 1), .int .u8 (T0 2), .int .u8 (T0 3)]) (.agg #[.int .u8 (T 0), .int .u8 (T 1), .int .u8 (T 2), .int .u8 (T 3)])).run Tryz.prog w = .ok bT w :=
    ⟨_, rfl, eq_tags T0 T⟩
  have HBT : Hid (bT = ([T0 0, T0 1, T0 2, T0 3] == [T 0, T 1, T 2, T 3])) := hbT
  clear hbT
  go_cut [30] (fun s27 wx => s27 = .bool (!bT) ∧ Tick q 1 w wx ∧ wx.heap[w.heap.size]? = some (.cells (Cells8 s) 51 (0, 0)) ∧ w.heap.size + 1 + 1 ≤ wx.heap.size)
  case first =>
    have k0 : wa.cell? ⟨w.heap.size, 0, none⟩ = some (.int .u8 (s 0)) := by rw [cell_of_row _ _ _ _ _ _ hkey]; rfl
    have k1 : wa.cell? ⟨w.heap.size, 1, none⟩ = some (.int .u8 (s 1)) := by rw [cell_of_row _ _ _ _ _ _ hkey]; rfl
    have k2 : wa.cell? ⟨w.heap.size, 2, none⟩ = some (.int .u8 (s 2)) := by rw [cell_of_row _ _ _ _ _ _ hkey]; rfl
    have k3 : wa.cell? ⟨w.heap.size, 3, none⟩ = some (.int .u8 (s 3)) := by rw [cell_of_row _ _ _ _ _ _ hkey]; rfl
    have k4 : wa.cell? ⟨w.heap.size, 4, none⟩ = some (.int .u8 (s 4)) := by rw [cell_of_row _ _ _ _ _ _ hkey]; rfl
    have k5 : wa.cell? ⟨w.heap.size, 5, none⟩ = some (.int .u8 (s 5)) := by rw [cell_of_row _ _ _ _ _ _ hkey]; rfl
    have k6 : wa.cell? ⟨w.heap.size, 6, none⟩ = some (.int .u8 (s 6)) := by rw [cell_of_row _ _ _ _ _ _ hkey]; rfl
    have k7 : wa.cell? ⟨w.heap.size, 7, none⟩ = some (.int .u8 (s 7)) := by rw [cell_of_row _ _ _ _ _ _ hkey]; rfl
    have t0 : wa.cell? ⟨w.heap.size + 1, 0, none⟩ = some (.int .u8 (T0 0)) := by rw [cell_of_row _ _ _ _ _ _ htg]; rfl
    have t1 : wa.cell? ⟨w.heap.size + 1, 1, none⟩ = some (.int .u8 (T0 1)) := by rw [cell_of_row _ _ _ _ _ _ htg]; rfl
    have t2 : wa.cell? ⟨w.heap.size + 1, 2, none⟩ = some (.int .u8 (T0 2)) := by rw [cell_of_row _ _ _ _ _ _ htg]; rfl
    have t3 : wa.cell? ⟨w.heap.size + 1, 3, none⟩ = some (.int .u8 (T0 3)) := by rw [cell_of_row _ _ _ _ _ _ htg]; rfl
    go_region_with (go_at_call 104; refine (HTAG.out _ 0 (by first | exact bela.drew | exact bela)).mono ?_; rintro e w1 ⟨rfl, hb1⟩; have hlt1 : w.heap.size + 1 < wa.drew.heap.size := hsza; have hcb1 := (bcellT HQ.out hb1).1; have v0 : w1.cell? ⟨w.heap.size + 1, 0, none⟩ = some (.int .u8 (T0 0)) := ((hcb1 _ 0 hlt1 (by omega)).trans t0); have v1 : w1.cell? ⟨w.heap.size + 1, 1, none⟩ = some (.int .u8 (T0 1)) := ((hcb1 _ 1 hlt1 (by omega)).trans t1); have v2 : w1.cell? ⟨w.heap.size + 1, 2, none⟩ = some (.int .u8 (T0 2)) := ((hcb1 _ 2 hlt1 (by omega)).trans t2); have v3 : w1.cell? ⟨w.heap.size + 1, 3, none⟩ = some (.int .u8 (T0 3)) := ((hcb1 _ 3 hlt1 (by omega)).trans t3))
    all_goals
      go_wp2_with fail
      go_meet
      exact ⟨rfl, by have := bela.drew.trans hb1; rwa [Nat.zero_add] at this, by rw [hb1.block _ (by show w.heap.size < wa.heap.size; omega) (HQ.out.ne (Nat.le_refl _))]; exact hkey, Nat.le_trans hsza hb1.size⟩
  case rest =>
    obtain ⟨rfl, belc, hkeyc, hszc⟩ := hcut
    have HOK : Hid (OpenOk s l x = bT) := by show _ = _; rw [OpenOk_tail s l x k hx, HBT.out, HT.out, ← HT0.out]
    cases bT with
    | false =>
      go_wp2
      go_ret2
      exact ⟨⟨1, by omega, belc⟩, .inl ⟨HOK.out, rfl⟩⟩
    | true =>
      obtain ⟨hthr⟩ : Nonempty (∀ W' n, Tick q n w W' → Calls Tryz.prog 103 #[.agg (Cells8 s), .slice (some ⟨bb, bo, none⟩) k d, .func (.func F) pre #[]] W' fun e w' => e = .returned (.slice (some ⟨W'.heap.size + 1, 0, none⟩) k k) ∧ Tick q ((k + 7) / 8) W' w' ∧
          w'.heap[W'.heap.size + 1]? = some (.cells (RowB (OpenT s x) k) 5 (0, 0))) := ⟨fun W' n hW' => by
        have hlt : (x.take k).length = k := by rw [List.length_take]; omega
        have hB : Bts w (some ⟨bb, bo, none⟩) (x.take k) := .inr ⟨bb, bo, rfl, fun i hi => by rw [HC.out i (by omega)]; simp [cellB]⟩
        have h := thru_any dv s hs (some ⟨bb, bo, none⟩) (x.take k) d (by omega) W' (hB.tick hW' HNB.out) (HQ.out.tick hW') HNB.out
        rw [hlt] at h
        have e : OpenT s x = MixT s (x.take k) := by unfold OpenT; rw [hx]; rfl
        rw [e]
        exact h⟩
      have HTHR : Hid (∀ W' n, Tick q n w W' → Calls Tryz.prog 103 #[.agg (Cells8 s), .slice (some ⟨bb, bo, none⟩) k d, .func (.func F) pre #[]] W' fun e w' => e = .returned (.slice (some ⟨W'.heap.size + 1, 0, none⟩) k k) ∧ Tick q ((k + 7) / 8) W' w' ∧
          w'.heap[W'.heap.size + 1]? = some (.cells (RowB (OpenT s x) k) 5 (0, 0))) := hthr
      clear hthr
      have k0 : wc.cell? ⟨w.heap.size, 0, none⟩ = some (.int .u8 (s 0)) := by rw [cell_of_row _ _ _ _ _ _ hkeyc]; rfl
      have k1 : wc.cell? ⟨w.heap.size, 1, none⟩ = some (.int .u8 (s 1)) := by rw [cell_of_row _ _ _ _ _ _ hkeyc]; rfl
      have k2 : wc.cell? ⟨w.heap.size, 2, none⟩ = some (.int .u8 (s 2)) := by rw [cell_of_row _ _ _ _ _ _ hkeyc]; rfl
      have k3 : wc.cell? ⟨w.heap.size, 3, none⟩ = some (.int .u8 (s 3)) := by rw [cell_of_row _ _ _ _ _ _ hkeyc]; rfl
      have k4 : wc.cell? ⟨w.heap.size, 4, none⟩ = some (.int .u8 (s 4)) := by rw [cell_of_row _ _ _ _ _ _ hkeyc]; rfl
      have k5 : wc.cell? ⟨w.heap.size, 5, none⟩ = some (.int .u8 (s 5)) := by rw [cell_of_row _ _ _ _ _ _ hkeyc]; rfl
      have k6 : wc.cell? ⟨w.heap.size, 6, none⟩ = some (.int .u8 (s 6)) := by rw [cell_of_row _ _ _ _ _ _ hkeyc]; rfl
      have k7 : wc.cell? ⟨w.heap.size, 7, none⟩ = some (.int .u8 (s 7)) := by rw [cell_of_row _ _ _ _ _ _ hkeyc]; rfl
      go_wp2
      go_region_with (go_at_call 103; refine (HTHR.out _ 1 (by first | exact belc.drew | exact belc)).mono ?_; rintro e w1 ⟨rfl, hb1, hr1⟩)
      all_goals
        go_wp2
        go_ret2
        exact ⟨⟨_, by omega, belc.drew.trans hb1⟩, .inr ⟨HOK.out, _, rfl, by show w.heap.size ≤ wc.heap.size + 1; omega, hr1⟩⟩

end Go.Proofs.YtkpebabbnndopaaGreatDoor
