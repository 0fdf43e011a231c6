import Derived.Test.YtkpebabbnndopaaGreatDoorC03
import Derived.Test.YtkpebabbnndopaaGreatDoorG18
import Derived.Test.YtkpebabbnndopaaGreatDoorC01
import Derived.WalkKit
import Derived.WalkSpells
import Derived.WalkLawsBesides
import Derived.Laws.CopyOwn
import Derived.Laws.CopyRow
import Derived.Deep.WholeRow
import Derived.Deep.DeepCutAuto
import Derived.BigRegion
namespace Go.Proofs.YtkpebabbnndopaaGreatDoor
open Go.RowKit

def TagMid (q : Option Nat) (w : World) (D : Nat → Int) (B : Nat) (wx : World) : Prop :=
  Tick q 1 w wx ∧ w.heap.size + 2 ≤ B ∧ B < wx.heap.size ∧ wx.heap[w.heap.size + 1]? = some (.cells (Cells4 fun _ => 0) 197 (0, 0)) ∧ wx.heap[B]? = some (.cells (Cells8 D) 51 (0, 0))

theorem tagMid_late (q : Option Nat) (w w1 : World) (hq : Has q w) (A : Obj) (D : Nat → Int) (hb1 : Tick q 1 ((w.alloc A).alloc (.cells (Cells4 fun _ => 0) 197)).drew w1) :
    TagMid q w D w1.heap.size (w1.alloc (.cells (Cells8 D) 51)) := by
  have hsz := hb1.size
  simp at hsz
  have ht := ((((Tick.refl q w).alloc A).alloc (.cells (Cells4 fun _ => 0) 197)).drew.trans hb1).alloc (.cells (Cells8 D) 51)
  rw [Nat.zero_add] at ht
  refine ⟨ht, by omega, by simp, ?_, (MapKept.heap_alloc _ _).1⟩
  rw [Below.heap_alloc _ _ _ (by omega), hb1.block _ (by simp) (hq.ne (by omega))]
  have e := (MapKept.heap_alloc (w.alloc A) (.cells (Cells4 fun _ => 0) 197)).1
  simp only [World.size_alloc] at e
  exact e

theorem tagMid_early (q : Option Nat) (w w1 : World) (hq : Has q w) (A : Obj) (D : Nat → Int) (hb1 : Tick q 1 (((w.alloc A).alloc (.cells (Cells4 fun _ => 0) 197)).alloc (.cells (Cells8 fun _ => 0) 51)).drew w1) :
    TagMid q w D (w.heap.size + 1 + 1) ((((((((w1.setCell ⟨w.heap.size + 1 + 1, 0, none⟩ (.int .u8 (D 0))).setCell ⟨w.heap.size + 1 + 1, 1, none⟩ (.int .u8 (D 1))).setCell ⟨w.heap.size + 1 + 1, 2, none⟩ (.int .u8 (D 2))).setCell ⟨w.heap.size + 1 + 1, 3, none⟩ (.int .u8 (D 3))).setCell ⟨w.heap.size + 1 + 1, 4, none⟩ (.int .u8 (D 4))).setCell ⟨w.heap.size + 1 + 1, 5, none⟩ (.int .u8 (D 5))).setCell ⟨w.heap.size + 1 + 1, 6, none⟩ (.int .u8 (D 6))).setCell ⟨w.heap.size + 1 + 1, 7, none⟩ (.int .u8 (D 7))) := by
  have hsz := hb1.size
  simp at hsz
  have hg : w1.heap[w.heap.size + 1 + 1]? = some (.cells (Cells8 fun _ => 0) 51 (0, 0)) := by
    rw [hb1.block _ (by simp) (hq.ne (by omega))]
    have e := (MapKept.heap_alloc ((w.alloc A).alloc (.cells (Cells4 fun _ => 0) 197)) (.cells (Cells8 fun _ => 0) 51)).1
    simp only [World.size_alloc] at e
    exact e
  obtain ⟨W, hW, h1, h2, h3, h4⟩ := stores8 w1 (w.heap.size + 1 + 1) 51 (fun _ => 0) D hg
  rw [hW]
  have ht := ((((Tick.refl q w).alloc A).alloc (.cells (Cells4 fun _ => 0) 197)).alloc (.cells (Cells8 fun _ => 0) 51)).drew.trans hb1
  rw [Nat.zero_add] at ht
  refine ⟨ht.fresh (h4 _ _ (Below.refl _ _) (by omega)), by omega, by omega, ?_, h1⟩
  rw [h2 _ (by omega), hb1.block _ (by simp) (hq.ne (by omega))]
  show (World.alloc _ _).heap[w.heap.size + 1]? = _
  rw [Below.heap_alloc _ _ _ (by simp)]
  have e := (MapKept.heap_alloc (w.alloc A) (.cells (Cells4 fun _ => 0) 197)).1
  simp only [World.size_alloc] at e
  exact e

/-- what copy does: the first four of eight bytes into a new array -/
theorem run_copy_four (wx : World) (B : Nat) (D : Nat → Int) (hB : wx.heap[B]? = some (.cells (Cells8 D) 51 (0, 0))) (hlt : B < wx.heap.size) (ty : TypeId) :
    (Builtin.copy_ #[34, 34] ty #[.slice (some ⟨wx.heap.size, 0, none⟩) 4 4, .slice (some ⟨B, 0, none⟩) 8 8]).run Tryz.prog (wx.alloc (.cells (Cells4 fun _ => 0) 197)).drew
      = .ok (goInt 4) (wx.alloc (.cells (Cells4 D) 197)).drew := by
  have hB2 : (wx.alloc (.cells (Cells4 fun _ => 0) 197)).drew.heap[B]? = some (.cells (Cells8 D) 51 (0, 0)) := by
    show (wx.alloc _).heap[B]? = _
    rw [Below.heap_alloc _ _ _ hlt, hB]
  have h := run_copy_row Tryz.prog (wx.alloc (.cells (Cells4 fun _ => 0) 197)).drew 34 34 ty 5 wx.heap.size 0 4 4 ⟨B, 0, none⟩ 8 8 (Cells4 fun _ => 0) 197
    [.int .u8 (D 0), .int .u8 (D 1), .int .u8 (D 2), .int .u8 (D 3)] Tryz.underlying34 (by kernel_rfl) (MapKept.heap_alloc wx _).1 rfl
    (fun j v hj => by
      have ea : (⟨B, 0, none⟩ : Addr).add j = ⟨B, j, none⟩ := by unfold Addr.add; split <;> simp_all
      rw [ea, cell_of_row _ _ _ _ _ _ hB2]
      have hj4 : j < 4 := by
        have := (List.getElem?_eq_some_iff.1 hj).1
        simpa using this
      rw [Cells8_at _ _ (by omega)]
      have h4 : j = 0 ∨ j = 1 ∨ j = 2 ∨ j = 3 := by omega
      rcases h4 with rfl | rfl | rfl | rfl <;> simpa using hj) (by simp) (by intro v hv; simp at hv; rcases hv with rfl | rfl | rfl | rfl <;> rfl)
  rw [h]
  have e : (wx.alloc (.cells (Cells4 fun _ => 0) 197)).drew.setRow wx.heap.size (Cells4 D) = (wx.alloc (.cells (Cells4 D) 197)).drew := by
    have := World.setRow_alloc_new wx (Cells4 fun _ => 0) (Cells4 D) 197
    exact congrArg World.drew this
  exact congrArg (Result.ok (goInt 4)) e

set_option maxHeartbeats 2000000 in
theorem tagOf_any {F : FuncId} {pre : Array Value} {q : Option Nat} (dv : Drv F pre q) (s : Nat → Int) (hs : ∀ i, 0 ≤ s i ∧ s i < 256) (a : Option Addr) (l : List UInt8) (c : Nat) (hl : l.length ≤ 1000000) (b : Option Addr) (m : List UInt8) (d : Nat) (hm : m.length ≤ 1000000) (w : World) (ha : Bts w a l) (hb : Bts w b m) (hq : Has q w) :
    Calls Tryz.prog 104 #[Agg8 s, .slice a l.length c, .slice b m.length d, .func (.func F) pre #[]] w fun e w' => e = .returned (.agg (Cells4 (DerB s lTag (TagN (SumAll l m))))) ∧ Tick q 1 w w' := by
  have hsum : ∀ w', Below w.heap.size w w' → Calls Tryz.prog 137 #[.slice a l.length c, .slice b m.length d] w' fun e w'' => e = .returned (.int .u32 (SumAll l m)) ∧ w'' = w' :=
    fun w' hw => sumOf_any a l c (by unfold maxLen; omega) b m d (by unfold maxLen; omega) w' (ha.below hw) (hb.below hw)
  have HSU : Hid (∀ w', Below w.heap.size w w' → Calls Tryz.prog 137 #[.slice a l.length c, .slice b m.length d] w' fun e w'' => e = .returned (.int .u32 (SumAll l m)) ∧ w'' = w') := hsum
  clear hsum ha hb
  generalize hS : SumAll l m = S at *
  clear hS
  obtain ⟨D, hD, hder⟩ : ∃ D : Nat → Int, D = DerB s lTag (TagN S) ∧ ∀ W, Has q W → Calls Tryz.prog F (pre ++ #[.agg (Cells8 s), .string ⟨#[116, 97, 103]⟩, .int .i64 (IntKind.i64.wrap (bits BinOp.and IntKind.u32 S 2147483647))]) W fun e w' => e = .returned (Agg8 D) ∧ Tick q 1 W w' := by
    refine ⟨_, rfl, fun W hW => ?_⟩
    rw [← TagN_eq]
    exact dv.call s hs ⟨#[116, 97, 103]⟩ (by decide) _ W hW
  rw [← hD]
  have HDE : Hid (∀ W, Has q W → Calls Tryz.prog F (pre ++ #[.agg (Cells8 s), .string ⟨#[116, 97, 103]⟩, .int .i64 (IntKind.i64.wrap (bits BinOp.and IntKind.u32 S 2147483647))]) W fun e w' => e = .returned (Agg8 D) ∧ Tick q 1 W w') := hder
  clear hD hder
  have hcf := dv.enter
  have HQ : Hid (Has q w) := hq
  clear hq
  go_enter Tryz.func104, Tryz.ntmps104
  have hl2 : w.heap.size ≤ w.heap.size + 1 + 1 := by omega
  go_upto_region 1 with fail
  go_cut [9] (fun s7 wx => ∃ B, s7 = .pointer (some ⟨B, 0, none⟩) ∧ TagMid q w D B wx)
  case first =>
    go_region_with (first
      | (go_at_call 137; refine (HSU.out _ (by first | exact (((Below.refl _ _).alloc (Nat.le_refl _) _).alloc (by simp) _).drew | exact ((((Below.refl _ _).alloc (Nat.le_refl _) _).alloc (by simp) _).alloc (by simp; omega) _).drew | exact (((Below.refl _ _).alloc (Nat.le_refl _) _).alloc (by simp) _))).mono ?_; rintro e w' ⟨rfl, rfl⟩)
      | (refine (HDE.out _ (by first | exact HQ.out.tick (((Tick.refl q w).alloc _).alloc _).drew | exact HQ.out.tick ((((Tick.refl q w).alloc _).alloc _).alloc _).drew)).mono ?_; rintro e w1 ⟨rfl, hb1⟩; obtain ⟨hc1, hf1⟩ := bcellT HQ.out hb1; have hz1 := hb1.size; simp at hz1))
    all_goals
      go_wp2_with fail
      go_meet
      first
        | (have hq : w.heap.size + 1 + 1 + 1 ≤ w1.heap.size := hz1
           exact ⟨w.heap.size + 1 + 1, rfl, tagMid_early q w w1 HQ.out _ D hb1⟩)
        | exact ⟨w1.heap.size, rfl, tagMid_late q w w1 HQ.out _ D hb1⟩
  case rest =>
    obtain ⟨B, rfl, hbel, hB1, hB2, hz, hD⟩ := hcut
    have hcp := fun ty => run_copy_four wc B D hD hB2 ty
    obtain ⟨wz, hwz⟩ : ∃ wz, (wc.alloc (.cells (Cells4 D) 197)).drew = wz := ⟨_, rfl⟩
    have hgt : wz.heap[w.heap.size + 1]? = some (.cells (Cells4 fun _ => 0) 197 (0, 0)) := by
      rw [← hwz]
      show (wc.alloc _).heap[w.heap.size + 1]? = _
      rw [Below.heap_alloc _ _ _ (by omega), hz]
    have hgn : wz.heap[wc.heap.size]? = some (.cells (Cells4 D) 197 (0, 0)) := by rw [← hwz]; exact (MapKept.heap_alloc _ _).1
    have hbz : Tick q 1 w wz := by rw [← hwz]; exact (hbel.alloc _).drew
    have HWZ : Hid ((wc.alloc (.cells (Cells4 D) 197)).drew = wz) := hwz
    clear hwz hD hz hbel
    go_wp2
    go_region
    rw [HWZ.out]
    clear hcp
    go_wp2_with (first | refine wpList_load_row rfl 197 _ rfl wc.heap.size rfl 197 (Cells4 D) (0, 0) _ hgn Tryz.underlying197 rfl (by kernel_rfl) ?_ | refine wpList_store_row rfl 197 _ _ rfl (w.heap.size + 1) (Cells4 D) rfl rfl 197 (Cells4 fun _ => 0) hgt (by kernel_rfl) rfl (by simp [Value.oneCell']) ?_)
    exact bodyPost_ret (v := .agg (Cells4 D)) (results_cell_row rfl _ _ (w.heap.size + 1) 197 (Cells4 D) (0, 0) _ rfl (setRow_heap _ _ _ _ _ _ hgt) Tryz.underlying197 rfl (by kernel_rfl)) rfl ⟨rfl, hbz.setRow (by omega) _⟩
end Go.Proofs.YtkpebabbnndopaaGreatDoor
