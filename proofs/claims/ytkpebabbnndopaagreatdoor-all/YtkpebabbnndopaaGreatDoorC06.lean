import Derived.Test.YtkpebabbnndopaaGreatDoorC04
import Derived.Test.YtkpebabbnndopaaGreatDoorC05
import Derived.WalkKit
import Derived.WalkSpells
import Derived.WalkLawsBesides
import Derived.Deep.WholeRow
import Derived.Deep.DeepCutAuto
import Derived.BigRegion
/- (part).halves. -/
namespace Go.Proofs.YtkpebabbnndopaaGreatDoor
open Go.RowKit

abbrev P0 : Array Value := CellsP 0 0 fun _ => 0
def HMid (q : Option Nat) (n : Nat) (w : World) (A B C : Array Value) (wx : World) : Prop :=
  Has q w ∧ Tick q n w wx ∧ w.heap.size + 3 ≤ wx.heap.size ∧ wx.heap[w.heap.size]? = some (.cells A 99 (0, 0)) ∧ wx.heap[w.heap.size + 1]? = some (.cells B 99 (0, 0)) ∧ wx.heap[w.heap.size + 2]? = some (.cells C 99 (0, 0))
theorem HMid.tick {q : Option Nat} {n m : Nat} {w W W' : World} {A B C : Array Value} (h : HMid q n w A B C W) (hb : Tick q m W W') : HMid q (n + m) w A B C W' := by
  obtain ⟨h0, h1, h2, h3, h4, h5⟩ := h
  have hs := hb.size
  exact ⟨h0, h1.trans hb, by omega, by rw [hb.block _ (by omega) (h0.ne (by omega)), h3], by rw [hb.block _ (by omega) (h0.ne (by omega)), h4], by rw [hb.block _ (by omega) (h0.ne (by omega)), h5]⟩
theorem HMid.below {q : Option Nat} {n : Nat} {w W W' : World} {A B C : Array Value} (h : HMid q n w A B C W) (hb : Below W.heap.size W W') : HMid q n w A B C W' := h.tick (Tick.ofBelow hb)
theorem HMid.start (q : Option Nat) (w : World) (hq : Has q w) (A B C : Array Value) : HMid q 0 w A B C (((w.alloc (.cells A 99)).alloc (.cells B 99)).alloc (.cells C 99)) := by
  refine ⟨hq, ((((Tick.refl q w).alloc _).alloc _).alloc _), by simp, ?_, ?_, ?_⟩
  · rw [Below.heap_alloc _ _ _ (by simp; omega), Below.heap_alloc _ _ _ (by simp), (MapKept.heap_alloc _ _).1]
  · rw [Below.heap_alloc _ _ _ (by simp)]
    have e := (MapKept.heap_alloc (w.alloc (.cells A 99)) (.cells B 99)).1
    simp only [World.size_alloc] at e
    exact e
  · have e := (MapKept.heap_alloc ((w.alloc (.cells A 99)).alloc (.cells B 99)) (.cells C 99)).1
    simp only [World.size_alloc] at e
    exact e
theorem HMid.drew {q : Option Nat} {n : Nat} {w W : World} {A B C : Array Value} (h : HMid q n w A B C W) : HMid q n w A B C W.drew := ⟨h.1, h.2.1.drew, h.2.2⟩
theorem HMid.has {q : Option Nat} {n : Nat} {w W : World} {A B C : Array Value} (h : HMid q n w A B C W) : Has q W := h.1.tick h.2.1
theorem HMid.cells {q : Option Nat} {n : Nat} {w W : World} {A B C : Array Value} (h : HMid q n w A B C W) : (∀ o, W.cell? ⟨w.heap.size, o, none⟩ = A[o]?) ∧ (∀ o, W.cell? ⟨w.heap.size + 1, o, none⟩ = B[o]?) ∧ (∀ o, W.frozen? ⟨w.heap.size + 1, o, none⟩ = false) ∧ (∀ o, W.cell? ⟨w.heap.size + 1 + 1, o, none⟩ = C[o]?) ∧ (∀ o, W.frozen? ⟨w.heap.size + 1 + 1, o, none⟩ = false) := by
  obtain ⟨_, _, _, h3, h4, h5⟩ := h
  exact ⟨(row_facts h3).1, (row_facts h4).1, (row_facts h4).2, (row_facts h5).1, (row_facts h5).2⟩

theorem stores10 (w : World) (g : Nat) (ty : TypeId) (f0 t0 : Int) (x : Nat → Int) (f t : Int) (D : Nat → Int) (hg : w.heap[g]? = some (.cells (CellsP f0 t0 x) ty (0, 0))) :
    ((((((((((w.setCell ⟨g, 0, none⟩ (.int .i64 f)).setCell ⟨g, 1, none⟩ (.int .i64 t)).setCell ⟨g, 2, none⟩ (.int .u8 (D 0))).setCell ⟨g, 3, none⟩ (.int .u8 (D 1))).setCell ⟨g, 4, none⟩ (.int .u8 (D 2))).setCell ⟨g, 5, none⟩ (.int .u8 (D 3))).setCell ⟨g, 6, none⟩ (.int .u8 (D 4))).setCell ⟨g, 7, none⟩ (.int .u8 (D 5))).setCell ⟨g, 8, none⟩ (.int .u8 (D 6))).setCell ⟨g, 9, none⟩ (.int .u8 (D 7))) = w.setRow g (CellsP f t D) := by
  rw [setCell_eq_setRow w g 0 _ ty (0, 0) _ hg]
  rw [setCell_eq_setRow _ g 1 _ ty (0, 0) _ (setRow_heap w g _ _ ty (0, 0) hg), setRow_setRow]
  rw [setCell_eq_setRow _ g 2 _ ty (0, 0) _ (setRow_heap w g _ _ ty (0, 0) hg), setRow_setRow]
  rw [setCell_eq_setRow _ g 3 _ ty (0, 0) _ (setRow_heap w g _ _ ty (0, 0) hg), setRow_setRow]
  rw [setCell_eq_setRow _ g 4 _ ty (0, 0) _ (setRow_heap w g _ _ ty (0, 0) hg), setRow_setRow]
  rw [setCell_eq_setRow _ g 5 _ ty (0, 0) _ (setRow_heap w g _ _ ty (0, 0) hg), setRow_setRow]
  rw [setCell_eq_setRow _ g 6 _ ty (0, 0) _ (setRow_heap w g _ _ ty (0, 0) hg), setRow_setRow]
  rw [setCell_eq_setRow _ g 7 _ ty (0, 0) _ (setRow_heap w g _ _ ty (0, 0) hg), setRow_setRow]
  rw [setCell_eq_setRow _ g 8 _ ty (0, 0) _ (setRow_heap w g _ _ ty (0, 0) hg), setRow_setRow]
  rw [setCell_eq_setRow _ g 9 _ ty (0, 0) _ (setRow_heap w g _ _ ty (0, 0) hg), setRow_setRow]
  simp
theorem HMid.set1 {q : Option Nat} {n : Nat} {w W : World} {A C : Array Value} {f0 t0 : Int} {x : Nat → Int} (h : HMid q n w A (CellsP f0 t0 x) C W) (f t : Int) (D : Nat → Int) : HMid q n w A (CellsP f t D) C (W.setRow (w.heap.size + 1) (CellsP f t D)) := by
  obtain ⟨h0, h1, h2, h3, h4, h5⟩ := h
  exact ⟨h0, h1.setRow (by omega) _, by simp; omega, by rw [setRow_other _ _ _ _ (by omega), h3], setRow_heap _ _ _ _ _ _ h4, by rw [setRow_other _ _ _ _ (by omega), h5]⟩
theorem HMid.set2 {q : Option Nat} {n : Nat} {w W : World} {A B : Array Value} {f0 t0 : Int} {x : Nat → Int} (h : HMid q n w A B (CellsP f0 t0 x) W) (f t : Int) (D : Nat → Int) : HMid q n w A B (CellsP f t D) (W.setRow (w.heap.size + 2) (CellsP f t D)) := by
  obtain ⟨h0, h1, h2, h3, h4, h5⟩ := h
  exact ⟨h0, h1.setRow (by omega) _, by simp; omega, by rw [setRow_other _ _ _ _ (by omega), h3], by rw [setRow_other _ _ _ _ (by omega), h4], setRow_heap _ _ _ _ _ _ h5⟩
theorem HMid.cells1 {q : Option Nat} {n : Nat} {w W : World} {A C : Array Value} {f0 t0 : Int} {x : Nat → Int} (h : HMid q n w A (CellsP f0 t0 x) C W) (f t : Int) (D : Nat → Int) : HMid q n w A (CellsP f t D) C ((((((((((W.setCell ⟨w.heap.size + 1, 0, none⟩ (.int .i64 f)).setCell ⟨w.heap.size + 1, 1, none⟩ (.int .i64 t)).setCell ⟨w.heap.size + 1, 2, none⟩ (.int .u8 (D 0))).setCell ⟨w.heap.size + 1, 3, none⟩ (.int .u8 (D 1))).setCell ⟨w.heap.size + 1, 4, none⟩ (.int .u8 (D 2))).setCell ⟨w.heap.size + 1, 5, none⟩ (.int .u8 (D 3))).setCell ⟨w.heap.size + 1, 6, none⟩ (.int .u8 (D 4))).setCell ⟨w.heap.size + 1, 7, none⟩ (.int .u8 (D 5))).setCell ⟨w.heap.size + 1, 8, none⟩ (.int .u8 (D 6))).setCell ⟨w.heap.size + 1, 9, none⟩ (.int .u8 (D 7))) := by
  rw [stores10 W (w.heap.size + 1) _ _ _ _ f t D h.2.2.2.2.1]
  exact h.set1 f t D
theorem HMid.cells2 {q : Option Nat} {n : Nat} {w W : World} {A B : Array Value} {f0 t0 : Int} {x : Nat → Int} (h : HMid q n w A B (CellsP f0 t0 x) W) (f t : Int) (D : Nat → Int) : HMid q n w A B (CellsP f t D) ((((((((((W.setCell ⟨w.heap.size + 1 + 1, 0, none⟩ (.int .i64 f)).setCell ⟨w.heap.size + 1 + 1, 1, none⟩ (.int .i64 t)).setCell ⟨w.heap.size + 1 + 1, 2, none⟩ (.int .u8 (D 0))).setCell ⟨w.heap.size + 1 + 1, 3, none⟩ (.int .u8 (D 1))).setCell ⟨w.heap.size + 1 + 1, 4, none⟩ (.int .u8 (D 2))).setCell ⟨w.heap.size + 1 + 1, 5, none⟩ (.int .u8 (D 3))).setCell ⟨w.heap.size + 1 + 1, 6, none⟩ (.int .u8 (D 4))).setCell ⟨w.heap.size + 1 + 1, 7, none⟩ (.int .u8 (D 5))).setCell ⟨w.heap.size + 1 + 1, 8, none⟩ (.int .u8 (D 6))).setCell ⟨w.heap.size + 1 + 1, 9, none⟩ (.int .u8 (D 7))) := by
  rw [stores10 W (w.heap.size + 2) _ _ _ _ f t D h.2.2.2.2.2]
  exact h.set2 f t D

set_option maxHeartbeats 2000000 in
theorem halves_any {F : FuncId} {pre : Array Value} {q0 : Option Nat} (dv : Drv F pre q0) (f t : Int) (s : Nat → Int) (hs : ∀ i, 0 ≤ s i ∧ s i < 256) (hf : 0 ≤ f) (ht : t ≤ 16) (hft : f + 2 ≤ t) (w : World) (hq0 : Has q0 w) :
    Calls Tryz.prog 140 #[AggP f t s, .func (.func F) pre #[]] w fun e w' => e = .returned (.tuple #[AggP f (f + SplitI (t - f)) (DerB s lLeft 0), AggP (f + SplitI (t - f)) t (DerB s lRight 0)]) ∧ Tick q0 2 w w' := by
  have HL : Hid (∀ W, Has q0 W → Calls Tryz.prog F (pre ++ #[Agg8 s, .string ⟨#[108, 101, 102, 116]⟩, .int .i64 0]) W fun e w' => e = .returned (Agg8 (DerB s lLeft 0)) ∧ Tick q0 1 W w') := fun W hW => dv.call s hs ⟨#[108, 101, 102, 116]⟩ (by decide) 0 W hW
  have HR : Hid (∀ W, Has q0 W → Calls Tryz.prog F (pre ++ #[Agg8 s, .string ⟨#[114, 105, 103, 104, 116]⟩, .int .i64 0]) W fun e w' => e = .returned (Agg8 (DerB s lRight 0)) ∧ Tick q0 1 W w') := fun W hW => dv.call s hs ⟨#[114, 105, 103, 104, 116]⟩ (by decide) 0 W hW
  have HS : Hid (∀ W, Calls Tryz.prog 106 #[AggP f t s] W fun e w' => e = .returned (.int .i64 (t - f)) ∧ w' = W.alloc (.cells (CellsP f t s) 99)) := fun W => size_any f t s hf ht (by omega) W
  have HB : Hid (∀ W, Calls Tryz.prog 163 #[.int .i64 (t - f)] W fun e w' => e = .returned (.int .i64 (SplitI (t - f))) ∧ w' = W) := fun W => powerBelow_any (t - f) (by omega) (by omega) W
  have hsp := SplitI_bd (t - f) (by omega)
  obtain ⟨L, hL⟩ : ∃ L, DerB s lLeft 0 = L := ⟨_, rfl⟩
  obtain ⟨R, hR⟩ : ∃ R, DerB s lRight 0 = R := ⟨_, rfl⟩
  obtain ⟨q, hq⟩ : ∃ q, SplitI (t - f) = q := ⟨_, rfl⟩
  rw [hL] at HL ⊢
  rw [hR] at HR ⊢
  rw [hq] at HB hsp ⊢
  have hcf := dv.enter
  have HQ : Hid (Has q0 w) := hq0
  clear hL hR hq hs hq0
  have hwr : IntKind.i64.wrap (f + q) = f + q := by rw [IntKind.wrap_i64]; omega
  go_enter Tryz.func140, Tryz.ntmps140
  go_upto_region 1 with fail
  go_cut [6] (fun s4 wx => s4 = .int .i64 (f + q) ∧ HMid q0 0 w (CellsP f t s) P0 P0 wx)
  case first =>
    go_region_with (first
      | (go_at_call 106; refine (HS.out _).mono ?_; rintro e w' ⟨rfl, rfl⟩)
      | (go_at_call 163; refine (HB.out _).mono ?_; rintro e w' ⟨rfl, rfl⟩))
    all_goals
      go_wp2_with fail
      go_meet
      exact ⟨by first | rfl | rw [hwr], (HMid.start q0 w HQ.out _ _ _).below (((Below.refl _ _).alloc (Nat.le_refl _) _).drew)⟩
  case rest =>
    obtain ⟨rfl, hm⟩ := hcut
    clear HS HB hwr
    obtain ⟨hA, hB, hBf, hC, hCf⟩ := hm.cells
    go_upto_region 2 with fail
    go_cut [] (fun wx => HMid q0 1 w (CellsP f t s) (CellsP f (f + q) L) P0 wx)
    case first =>
      go_region_with (refine (HL.out _ hm.drew.has).mono ?_; rintro e w1 ⟨rfl, hb1⟩; obtain ⟨hA1, hB1, hBf1, hC1, hCf1⟩ := ((hm.drew).tick hb1).cells)
      all_goals
        go_wp2_with fail
        go_meet
        exact ((hm.drew).tick hb1).cells1 f (f + q) L
    case rest =>
      clear hm hA hB hBf hC hCf HL
      have hm := hcut; clear hcut
      obtain ⟨hA, hB, hBf, hC, hCf⟩ := hm.cells
      go_upto_region 3 with fail
      go_cut [] (fun wx => HMid q0 2 w (CellsP f t s) (CellsP f (f + q) L) (CellsP (f + q) t R) wx)
      case first =>
        go_region_with (refine (HR.out _ hm.drew.has).mono ?_; rintro e w1 ⟨rfl, hb1⟩; obtain ⟨hA1, hB1, hBf1, hC1, hCf1⟩ := ((hm.drew).tick hb1).cells)
        all_goals
          go_wp2_with fail
          go_meet
          exact ((hm.drew).tick hb1).cells2 (f + q) t R
      case rest =>
        clear hm hA hB hBf hC hCf HR
        have hm := hcut; clear hcut
        obtain ⟨hA, hB, hBf, hC, hCf⟩ := hm.cells
        go_upto_region 4 with fail
        go_cut [] (fun wx => HMid q0 2 w (CellsP f t s) (CellsP f (f + q) L) (CellsP (f + q) t R) wx)
        case first =>
          go_region
          go_wp2_with fail
          go_meet
          exact ((hm.cells1 f (f + q) L).cells2 (f + q) t R).drew
        case rest =>
          clear hm hA hB hBf hC hCf
          obtain ⟨_, h1, h2, h3, h4, h5⟩ := hcut
          go_wp2_with fail
          exact bodyPost_ret (v := .tuple #[AggP f (f + q) L, AggP (f + q) t R]) (results_row_row rfl _ _ (w.heap.size + 1) (w.heap.size + 2) 99 99 _ _ (0, 0) (0, 0) _ _ rfl rfl h4 h5 Tryz.underlying99 rfl (by kernel_rfl) Tryz.underlying99 rfl (by kernel_rfl)) rfl ⟨rfl, h1⟩
end Go.Proofs.YtkpebabbnndopaaGreatDoor
