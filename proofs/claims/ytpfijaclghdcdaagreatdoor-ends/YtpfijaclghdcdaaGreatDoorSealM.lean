import Derived.Test.YtpfijaclghdcdaaGreatDoorTick
import Derived.Test.YtpfijaclghdcdaaGreatDoorPureS
import Derived.WalkKit
import Derived.WalkSpells
import Derived.WalkLawsBesides
import Derived.Deep.OwnRows
import Derived.Laws.CopyOwn
import Derived.Test.YtpfijaclghdcdaaGreatDoorRows
import Derived.Laws.CopyRow
import Derived.Deep.WholeRow
import Derived.Deep.DeepCutAuto
import Derived.BigRegion
import Derived.Test.YtpfijaclghdcdaaGreatDoorPureT
namespace Go.Proofs.YtpfijaclghdcdaaGreatDoor
open Go.RowKit

def ThruInv (q : Option Nat) (s : Nat → Int) (l : List UInt8) (w : World) (k : Nat) (wr : World) : Prop :=
  Tick q ((k + 7) / 8) w wr ∧ w.heap.size + 3 ≤ wr.heap.size ∧ wr.heap[w.heap.size]? = some (.cells (Cells8 s) 47 (0, 0)) ∧
  wr.heap[w.heap.size + 1]? = some (.cells (RowB (MixT s (l.take k)) l.length) 5 (0, 0)) ∧
  ∃ B : Nat → Int, (∀ i, 0 ≤ B i ∧ B i < 256) ∧ wr.heap[w.heap.size + 1 + 1]? = some (.cells (Cells8 B) 47 (0, 0)) ∧ (k % 8 ≠ 0 → B = Blk s (k / 8))

theorem thru_step (q : Option Nat) (s : Nat → Int) (l : List UInt8) (w wr : World) (k : Nat) (hlt : k < l.length) (hbel : Tick q ((k + 1 + 7) / 8) w wr) (hsz : w.heap.size + 3 ≤ wr.heap.size)
    (hkey : wr.heap[w.heap.size]? = some (.cells (Cells8 s) 47 (0, 0))) (hrow : wr.heap[w.heap.size + 1]? = some (.cells (RowB (MixT s (l.take k)) l.length) 5 (0, 0)))
    (hblk : wr.heap[w.heap.size + 1 + 1]? = some (.cells (Cells8 (Blk s (k / 8))) 47 (0, 0))) :
    ThruInv q s l w (k + 1) (wr.setCell ⟨w.heap.size + 1, k, none⟩ (.int .u8 (bits BinOp.xor IntKind.u8 (l[k].toNat : Int) (Blk s (k / 8) (k % 8))))) := by
  have hlen : (MixT s (l.take k)).length = k := by rw [MixT_length, List.length_take]; omega
  refine ⟨hbel.setCell (by simp) _, by simpa [World.setCell] using hsz, ?_, ?_, Blk s (k / 8), Blk_bd s (k / 8), ?_, ?_⟩
  · rw [heap_setCell_other _ _ _ _ (by simp), hkey]
  · rw [heap_setCell_same _ _ _ _ _ _ hrow, MixT_step s l k hlt, XB_toNat _ _ (Blk_bd _ _ _).1 (Blk_bd _ _ _).2]
    have e := RowB_set (MixT s (l.take k)) l.length (XB l[k] (Blk s (k / 8) (k % 8))) (by omega)
    rw [hlen] at e
    rw [e]
  · rw [heap_setCell_other _ _ _ _ (by simp), hblk]
  · intro h
    have e : (k + 1) / 8 = k / 8 := by omega
    rw [e]

set_option maxHeartbeats 400000 in
theorem thru_any {F : FuncId} {pre : Array Value} {q : Option Nat} (dv : Drv F pre q) (s : Nat → Int) (hs : ∀ i, 0 ≤ s i ∧ s i < 256) (a : Option Addr) (l : List UInt8) (c : Nat) (hl : l.length ≤ 1000000) (w : World) (ha : Bts w a l) (hq : Has q w) (hn : ∀ b o, a = some ⟨b, o, none⟩ → q ≠ some b) :
    Calls Tryz.prog 82 #[Agg8 s, .slice a l.length c, .func (.func F) pre #[]] w fun e w' => e = .returned (.slice (some ⟨w.heap.size + 1, 0, none⟩) l.length l.length) ∧ Tick q ((l.length + 7) / 8) w w' ∧
      w'.heap[w.heap.size + 1]? = some (.cells (RowB (MixT s l) l.length) 5 (0, 0)) := by
  have hmk : ∀ w : World, (Instr.makeSlice 30 (.int .i64 (l.length : Int)) (.int .i64 (l.length : Int))).run Tryz.prog w = .ok (.slice (some ⟨w.heap.size, 0, none⟩) l.length l.length) (w.alloc (.cells (madeCells #[.int .u8 0] l.length) 5)) :=
    fun w => run_make_row' 30 5 (.int .u8 0) 1 Tryz.underlying30 (by kernel_rfl) rfl .i64 .i64 l.length (by omega) (by omega) w
  have HA : Hid (Bts w a l) := ha
  have HQ : Hid (Has q w) := hq
  have HN : Hid (∀ b o, a = some ⟨b, o, none⟩ → q ≠ some b) := hn
  have hcf := dv.enter
  clear ha hq hn
  go_enter Tryz.func82, Tryz.ntmps82
  go_wp2
  clear hmk
  go_loopw [17] (fun i wr => ∃ k : Nat, k ≤ l.length ∧ i = .int .i64 k ∧ ThruInv q s l w k wr) (fun i _ => l.length - (intOf i).toNat)
  case atStart =>
    refine ⟨0, Nat.zero_le _, rfl, (((Tick.refl q w).alloc _).alloc _).alloc _, by simp, ?_, ?_, fun _ => 0, fun _ => by simp, ?_, by simp⟩
    · rw [Below.heap_alloc _ _ _ (by simp; omega), Below.heap_alloc _ _ _ (by simp), (MapKept.heap_alloc _ _).1]
    · rw [Below.heap_alloc _ _ _ (by simp)]
      have e := (MapKept.heap_alloc (w.alloc (.cells (Cells8 s) 47)) (.cells (madeCells #[.int .u8 0] l.length) 5)).1
      simp only [World.size_alloc] at e
      rw [e, RowB_nil]; rfl
    · have e := (MapKept.heap_alloc ((w.alloc (.cells (Cells8 s) 47)).alloc (.cells (madeCells #[.int .u8 0] l.length) 5)) (.cells (Cells8 fun _ => 0) 47)).1
      simp only [World.size_alloc] at e
      exact e
  case round =>
    obtain ⟨k, hk, rfl, hbel, hsz, hkey, hrow, B, hBb, hblk, hB⟩ := hrel
    by_cases hlt : k < l.length
    · have hA2 := HA.out.tick hbel HN.out
      rcases hA2 with h0 | ⟨ab, ao, rfl, hc⟩
      · rw [h0] at hlt; simp at hlt
      have hck := hc k hlt
      clear hc
      have hlen : (MixT s (l.take k)).length = k := by rw [MixT_length, List.length_take]; omega
      have hw1 : ((k / 8 : Nat) : Int) = (k : Int) / 8 := by omega
      have HS : Hid (MixT s (l.take (k + 1)) = MixT s (l.take k) ++ [XB l[k] (Blk s (k / 8) (k % 8))]) := MixT_step s l k hlt
      by_cases hz : k % 8 = 0
      · have hz2 : ((k : Int) % 8 == 0) = true := by simp; omega
        have HZ : Hid (k % 8 = 0) := hz
        clear hz hB
        have HW1 : Hid (((k / 8 : Nat) : Int) = (k : Int) / 8) := hw1
        clear hw1
        go_wp2_with (refine wpList_load_row rfl 47 _ rfl w.heap.size rfl 47 (Cells8 s) (0, 0) _ hkey Tryz.underlying47 rfl (by kernel_rfl) ?_)
        refine (dv.call s hs _ (by decide) _ _ (HQ.out.tick hbel)).mono ?_
        rintro e w1 ⟨rfl, hb1⟩
        have hD : DerB s (ByteArray.mk #[115, 116, 114, 101, 97, 109]).data.toList ((k : Int) / 8) = Blk s (k / 8) := by rw [← HW1.out]; rfl
        rw [hD]
        clear hD
        have hbel1 : Tick q ((k + 1 + 7) / 8) w w1 := by
          have := hbel.trans hb1
          rwa [show (k + 7) / 8 + 1 = (k + 1 + 7) / 8 by have := HZ.out; omega] at this
        have hsz1 : w.heap.size + 3 ≤ w1.heap.size := Nat.le_trans hsz hb1.size
        have hkey1 : w1.heap[w.heap.size]? = some (.cells (Cells8 s) 47 (0, 0)) := by rw [hb1.block _ (by omega) (HQ.out.ne (by omega)), hkey]
        have hrow1 : w1.heap[w.heap.size + 1]? = some (.cells (RowB (MixT s (l.take k)) l.length) 5 (0, 0)) := by rw [hb1.block _ (by omega) (HQ.out.ne (by omega)), hrow]
        have hblk1 : w1.heap[w.heap.size + 1 + 1]? = some (.cells (Cells8 B) 47 (0, 0)) := by rw [hb1.block _ (by omega) (HQ.out.ne (by omega)), hblk]
        clear hbel hsz hkey hrow hblk hck
        obtain ⟨wx, hwx⟩ : ∃ wx, w1.setRow (w.heap.size + 1 + 1) (Cells8 (Blk s (k / 8))) = wx := ⟨_, rfl⟩
        have hbelx : Tick q ((k + 1 + 7) / 8) w wx := by rw [← hwx]; exact hbel1.setRow (by omega) _
        have hszx : w.heap.size + 3 ≤ wx.heap.size := by rw [← hwx]; simpa using hsz1
        have hkeyx : wx.heap[w.heap.size]? = some (.cells (Cells8 s) 47 (0, 0)) := by rw [← hwx, setRow_other _ _ _ _ (by omega), hkey1]
        have hrowx : wx.heap[w.heap.size + 1]? = some (.cells (RowB (MixT s (l.take k)) l.length) 5 (0, 0)) := by rw [← hwx, setRow_other _ _ _ _ (by omega), hrow1]
        have hblkx : wx.heap[w.heap.size + 1 + 1]? = some (.cells (Cells8 (Blk s (k / 8))) 47 (0, 0)) := by rw [← hwx]; exact setRow_heap _ _ _ _ _ _ hblk1
        have HWX : Hid (w1.setRow (w.heap.size + 1 + 1) (Cells8 (Blk s (k / 8))) = wx) := hwx
        clear hwx
        have cb : wx.cell? ⟨w.heap.size + 1 + 1, k % 8, none⟩ = some (.int .u8 (Blk s (k / 8) (k % 8))) := by
          rw [cell_of_row _ _ _ _ _ _ hblkx, Cells8_at _ _ (by omega)]
        obtain ⟨v0, hv0⟩ := RowB_some (MixT s (l.take k)) l.length k (by omega) hlt
        have co : wx.cell? ⟨w.heap.size + 1, k, none⟩ = some v0 := by rw [cell_of_row _ _ _ _ _ _ hrowx, hv0]
        have fo : wx.frozen? ⟨w.heap.size + 1, k, none⟩ = false := frozen_of_row _ _ _ _ _ hrowx
        clear hv0
        go_wp2_with (refine wpList_store_row rfl 47 _ _ rfl (w.heap.size + 1 + 1) (Cells8 (Blk s (k / 8))) rfl rfl 47 (Cells8 B) hblk1 (by kernel_rfl) rfl (Cells8_one _) ?_; rw [HWX.out])
        go_roundw
        case rel =>
          exact ⟨k + 1, by omega, by go_num, thru_step q s l w wx k hlt hbelx hszx hkeyx hrowx hblkx⟩
        case measure => simp [intOf]; omega
      · have hz2 : ((k : Int) % 8 == 0) = false := by simp; omega
        rw [show (k + 7) / 8 = (k + 1 + 7) / 8 by omega] at hbel
        obtain rfl : B = Blk s (k / 8) := hB hz
        have HW1 : Hid (((k / 8 : Nat) : Int) = (k : Int) / 8) := hw1
        clear hw1 hB
        have cb : wr.cell? ⟨w.heap.size + 1 + 1, k % 8, none⟩ = some (.int .u8 (Blk s (k / 8) (k % 8))) := by
          rw [cell_of_row _ _ _ _ _ _ hblk, Cells8_at _ _ (by omega)]
        obtain ⟨v0, hv0⟩ := RowB_some (MixT s (l.take k)) l.length k (by omega) hlt
        have co : wr.cell? ⟨w.heap.size + 1, k, none⟩ = some v0 := by rw [cell_of_row _ _ _ _ _ _ hrow, hv0]
        have fo : wr.frozen? ⟨w.heap.size + 1, k, none⟩ = false := frozen_of_row _ _ _ _ _ hrow
        clear hv0
        go_wp2
        go_roundw
        case rel =>
          exact ⟨k + 1, by omega, by go_num, thru_step q s l w wr k hlt hbel hsz hkey hrow hblk⟩
        case measure => simp [intOf]; omega
    · have hfull : l.take k = l := List.take_of_length_le (by omega)
      rw [hfull] at hrow
      obtain rfl : k = l.length := by omega
      go_wp2
      go_ret
      exact ⟨rfl, hbel, hrow⟩
end Go.Proofs.YtpfijaclghdcdaaGreatDoor

namespace Go.Proofs.YtpfijaclghdcdaaGreatDoor
open Go.RowKit

set_option maxHeartbeats 400000 in
theorem addToSum_any (h b : Int) (b0 : 0 ≤ b) (b1 : b < 256) (w : World) :
    Calls Tryz.prog 120 #[.int .u32 h, .int .u8 b] w fun e w' => e = .returned (.int .u32 (SumB h b)) ∧ w' = w := by
  go_enter Tryz.func120, Tryz.ntmps120
  go_wp2
  go_ret
  exact ⟨rfl, rfl⟩
set_option maxHeartbeats 400000 in
theorem sumOf_any (a : Option Addr) (l : List UInt8) (c : Nat) (hl : l.length ≤ maxLen) (b : Option Addr) (m : List UInt8) (d : Nat) (hm : m.length ≤ maxLen) (w : World) (ha : Bts w a l) (hb : Bts w b m) :
    Calls Tryz.prog 105 #[.slice a l.length c, .slice b m.length d] w fun e w' => e = .returned (.int .u32 (SumAll l m)) ∧ w' = w := by
  unfold maxLen at hl hm
  have HA : Hid (Bts w a l) := ha
  have HB : Hid (Bts w b m) := hb
  clear ha hb
  go_enter Tryz.func105, Tryz.ntmps105
  go_wp2
  go_loop [5, 12] (fun h i => ∃ k : Nat, k ≤ l.length ∧ i = .int .i64 k ∧ h = .int .u32 (SumL 2166136261 (l.take k))) (fun _ i => l.length - (intOf i).toNat)
  case atStart => exact ⟨0, Nat.zero_le _, rfl, rfl⟩
  case round =>
    obtain ⟨k, hk, rfl, rfl⟩ := hrel
    by_cases hlt : k < l.length
    · have HS : Hid (SumL 2166136261 (l.take (k + 1)) = SumB (SumL 2166136261 (l.take k)) l[k].toNat) := SumL_step _ l k hlt
      rcases HA.out with h0 | ⟨ab, ao, rfl, hc⟩
      · rw [h0] at hlt; simp at hlt
      · have hck := hc k hlt
        clear hc
        go_wp2_with fail
        refine (addToSum_any _ _ (byte_bd _).1 (byte_bd _).2 _).mono ?_
        rintro e w' ⟨rfl, rfl⟩
        go_wp2
        go_round
        case rel => exact ⟨k + 1, by omega, by go_num, by rw [HS.out]⟩
        case measure => simp [intOf]; omega
    · have hfull : l.take k = l := List.take_of_length_le (by omega)
      rw [hfull]
      clear hfull
      go_wp2_with fail
      refine (addToSum_any _ _ (by omega) (by omega) _).mono ?_
      rintro e w' ⟨rfl, rfl⟩
      go_wp2
      go_loop [5, 24] (fun h i => ∃ k : Nat, k ≤ m.length ∧ i = .int .i64 k ∧ h = .int .u32 (SumL (SumB (SumL 2166136261 l) 0) (m.take k))) (fun _ i => m.length - (intOf i).toNat)
      case atStart => exact ⟨0, Nat.zero_le _, rfl, rfl⟩
      case round =>
        obtain ⟨j, hj, rfl, rfl⟩ := hrel
        by_cases hlt2 : j < m.length
        · have HS : Hid (SumL (SumB (SumL 2166136261 l) 0) (m.take (j + 1)) = SumB (SumL (SumB (SumL 2166136261 l) 0) (m.take j)) m[j].toNat) := SumL_step _ m j hlt2
          rcases HB.out with h0 | ⟨bb, bo, rfl, hc⟩
          · rw [h0] at hlt2; simp at hlt2
          · have hcj := hc j hlt2
            clear hc
            go_wp2_with fail
            refine (addToSum_any _ _ (byte_bd _).1 (byte_bd _).2 _).mono ?_
            rintro e w' ⟨rfl, rfl⟩
            go_wp2
            go_round
            case rel => exact ⟨j + 1, by omega, by go_num, by rw [HS.out]⟩
            case measure => simp [intOf]; omega
        · have hfull : m.take j = m := List.take_of_length_le (by omega)
          rw [hfull]
          clear hfull
          go_wp2
          go_ret
          exact ⟨rfl, rfl⟩
end Go.Proofs.YtpfijaclghdcdaaGreatDoor

namespace Go.Proofs.YtpfijaclghdcdaaGreatDoor
open Go.RowKit

def TagMid (q : Option Nat) (w : World) (D : Nat → Int) (B : Nat) (wx : World) : Prop :=
  Tick q 1 w wx ∧ w.heap.size + 2 ≤ B ∧ B < wx.heap.size ∧ wx.heap[w.heap.size + 1]? = some (.cells (Cells4 fun _ => 0) 183 (0, 0)) ∧ wx.heap[B]? = some (.cells (Cells8 D) 47 (0, 0))

theorem tagMid_late (q : Option Nat) (w w1 : World) (hq : Has q w) (A : Obj) (D : Nat → Int) (hb1 : Tick q 1 ((w.alloc A).alloc (.cells (Cells4 fun _ => 0) 183)).drew w1) :
    TagMid q w D w1.heap.size (w1.alloc (.cells (Cells8 D) 47)) := by
  have hsz := hb1.size
  simp at hsz
  have ht := ((((Tick.refl q w).alloc A).alloc (.cells (Cells4 fun _ => 0) 183)).drew.trans hb1).alloc (.cells (Cells8 D) 47)
  rw [Nat.zero_add] at ht
  refine ⟨ht, by omega, by simp, ?_, (MapKept.heap_alloc _ _).1⟩
  rw [Below.heap_alloc _ _ _ (by omega), hb1.block _ (by simp) (hq.ne (by omega))]
  have e := (MapKept.heap_alloc (w.alloc A) (.cells (Cells4 fun _ => 0) 183)).1
  simp only [World.size_alloc] at e
  exact e

theorem tagMid_early (q : Option Nat) (w w1 : World) (hq : Has q w) (A : Obj) (D : Nat → Int) (hb1 : Tick q 1 (((w.alloc A).alloc (.cells (Cells4 fun _ => 0) 183)).alloc (.cells (Cells8 fun _ => 0) 47)).drew w1) :
    TagMid q w D (w.heap.size + 1 + 1) ((((((((w1.setCell ⟨w.heap.size + 1 + 1, 0, none⟩ (.int .u8 (D 0))).setCell ⟨w.heap.size + 1 + 1, 1, none⟩ (.int .u8 (D 1))).setCell ⟨w.heap.size + 1 + 1, 2, none⟩ (.int .u8 (D 2))).setCell ⟨w.heap.size + 1 + 1, 3, none⟩ (.int .u8 (D 3))).setCell ⟨w.heap.size + 1 + 1, 4, none⟩ (.int .u8 (D 4))).setCell ⟨w.heap.size + 1 + 1, 5, none⟩ (.int .u8 (D 5))).setCell ⟨w.heap.size + 1 + 1, 6, none⟩ (.int .u8 (D 6))).setCell ⟨w.heap.size + 1 + 1, 7, none⟩ (.int .u8 (D 7))) := by
  have hsz := hb1.size
  simp at hsz
  have hg : w1.heap[w.heap.size + 1 + 1]? = some (.cells (Cells8 fun _ => 0) 47 (0, 0)) := by
    rw [hb1.block _ (by simp) (hq.ne (by omega))]
    have e := (MapKept.heap_alloc ((w.alloc A).alloc (.cells (Cells4 fun _ => 0) 183)) (.cells (Cells8 fun _ => 0) 47)).1
    simp only [World.size_alloc] at e
    exact e
  obtain ⟨W, hW, h1, h2, h3, h4⟩ := stores8 w1 (w.heap.size + 1 + 1) 47 (fun _ => 0) D hg
  rw [hW]
  have ht := ((((Tick.refl q w).alloc A).alloc (.cells (Cells4 fun _ => 0) 183)).alloc (.cells (Cells8 fun _ => 0) 47)).drew.trans hb1
  rw [Nat.zero_add] at ht
  refine ⟨ht.fresh (h4 _ _ (Below.refl _ _) (by omega)), by omega, by omega, ?_, h1⟩
  rw [h2 _ (by omega), hb1.block _ (by simp) (hq.ne (by omega))]
  show (World.alloc _ _).heap[w.heap.size + 1]? = _
  rw [Below.heap_alloc _ _ _ (by simp)]
  have e := (MapKept.heap_alloc (w.alloc A) (.cells (Cells4 fun _ => 0) 183)).1
  simp only [World.size_alloc] at e
  exact e

/-- what copy does: the first four of eight bytes into a new array -/
theorem run_copy_four (wx : World) (B : Nat) (D : Nat → Int) (hB : wx.heap[B]? = some (.cells (Cells8 D) 47 (0, 0))) (hlt : B < wx.heap.size) (ty : TypeId) :
    (Builtin.copy_ #[30, 30] ty #[.slice (some ⟨wx.heap.size, 0, none⟩) 4 4, .slice (some ⟨B, 0, none⟩) 8 8]).run Tryz.prog (wx.alloc (.cells (Cells4 fun _ => 0) 183)).drew
      = .ok (goInt 4) (wx.alloc (.cells (Cells4 D) 183)).drew := by
  have hB2 : (wx.alloc (.cells (Cells4 fun _ => 0) 183)).drew.heap[B]? = some (.cells (Cells8 D) 47 (0, 0)) := by
    show (wx.alloc _).heap[B]? = _
    rw [Below.heap_alloc _ _ _ hlt, hB]
  have h := run_copy_row Tryz.prog (wx.alloc (.cells (Cells4 fun _ => 0) 183)).drew 30 30 ty 5 wx.heap.size 0 4 4 ⟨B, 0, none⟩ 8 8 (Cells4 fun _ => 0) 183
    [.int .u8 (D 0), .int .u8 (D 1), .int .u8 (D 2), .int .u8 (D 3)] Tryz.underlying30 (by kernel_rfl) (MapKept.heap_alloc wx _).1 rfl
    (fun j v hj => by
      have ea : (⟨B, 0, none⟩ : Addr).add j = ⟨B, j, none⟩ := by unfold Addr.add; split <;> simp_all
      rw [ea, cell_of_row _ _ _ _ _ _ hB2]
      have hj4 : j < 4 := by
        have := (List.getElem?_eq_some_iff.1 hj).1
        simpa using this
      rw [Cells8_at _ _ (by omega)]
      have h4 : j = 0 ∨ j = 1 ∨ j = 2 ∨ j = 3 := by omega
      rcases h4 with rfl | rfl | rfl | rfl <;> simpa using hj) (by simp) (by intro v hv; simp at hv; rcases hv with rfl | rfl | rfl | rfl <;> rfl)
  rw [h]
  have e : (wx.alloc (.cells (Cells4 fun _ => 0) 183)).drew.setRow wx.heap.size (Cells4 D) = (wx.alloc (.cells (Cells4 D) 183)).drew := by
    have := World.setRow_alloc_new wx (Cells4 fun _ => 0) (Cells4 D) 183
    exact congrArg World.drew this
  exact congrArg (Result.ok (goInt 4)) e

set_option maxHeartbeats 2000000 in
theorem tagOf_any {F : FuncId} {pre : Array Value} {q : Option Nat} (dv : Drv F pre q) (s : Nat → Int) (hs : ∀ i, 0 ≤ s i ∧ s i < 256) (a : Option Addr) (l : List UInt8) (c : Nat) (hl : l.length ≤ 1000000) (b : Option Addr) (m : List UInt8) (d : Nat) (hm : m.length ≤ 1000000) (w : World) (ha : Bts w a l) (hb : Bts w b m) (hq : Has q w) :
    Calls Tryz.prog 83 #[Agg8 s, .slice a l.length c, .slice b m.length d, .func (.func F) pre #[]] w fun e w' => e = .returned (.agg (Cells4 (DerB s lTag (TagN (SumAll l m))))) ∧ Tick q 1 w w' := by
  have hsum : ∀ w', Below w.heap.size w w' → Calls Tryz.prog 105 #[.slice a l.length c, .slice b m.length d] w' fun e w'' => e = .returned (.int .u32 (SumAll l m)) ∧ w'' = w' :=
    fun w' hw => sumOf_any a l c (by unfold maxLen; omega) b m d (by unfold maxLen; omega) w' (ha.below hw) (hb.below hw)
  have HSU : Hid (∀ w', Below w.heap.size w w' → Calls Tryz.prog 105 #[.slice a l.length c, .slice b m.length d] w' fun e w'' => e = .returned (.int .u32 (SumAll l m)) ∧ w'' = w') := hsum
  clear hsum ha hb
  generalize hS : SumAll l m = S at *
  clear hS
  obtain ⟨D, hD, hder⟩ : ∃ D : Nat → Int, D = DerB s lTag (TagN S) ∧ ∀ W, Has q W → Calls Tryz.prog F (pre ++ #[.agg (Cells8 s), .string ⟨#[116, 97, 103]⟩, .int .i64 (IntKind.i64.wrap (bits BinOp.and IntKind.u32 S 2147483647))]) W fun e w' => e = .returned (Agg8 D) ∧ Tick q 1 W w' := by
    refine ⟨_, rfl, fun W hW => ?_⟩
    rw [← TagN_eq]
    exact dv.call s hs ⟨#[116, 97, 103]⟩ (by decide) _ W hW
  rw [← hD]
  have HDE : Hid (∀ W, Has q W → Calls Tryz.prog F (pre ++ #[.agg (Cells8 s), .string ⟨#[116, 97, 103]⟩, .int .i64 (IntKind.i64.wrap (bits BinOp.and IntKind.u32 S 2147483647))]) W fun e w' => e = .returned (Agg8 D) ∧ Tick q 1 W w') := hder
  clear hD hder
  have hcf := dv.enter
  have HQ : Hid (Has q w) := hq
  clear hq
  go_enter Tryz.func83, Tryz.ntmps83
  have hl2 : w.heap.size ≤ w.heap.size + 1 + 1 := by omega
  go_upto_region 1 with fail
  go_cut [9] (fun s7 wx => ∃ B, s7 = .pointer (some ⟨B, 0, none⟩) ∧ TagMid q w D B wx)
  case first =>
    go_region_with (first
      | (go_at_call 105; refine (HSU.out _ (by first | exact (((Below.refl _ _).alloc (Nat.le_refl _) _).alloc (by simp) _).drew | exact ((((Below.refl _ _).alloc (Nat.le_refl _) _).alloc (by simp) _).alloc (by simp; omega) _).drew | exact (((Below.refl _ _).alloc (Nat.le_refl _) _).alloc (by simp) _))).mono ?_; rintro e w' ⟨rfl, rfl⟩)
      | (refine (HDE.out _ (by first | exact HQ.out.tick (((Tick.refl q w).alloc _).alloc _).drew | exact HQ.out.tick ((((Tick.refl q w).alloc _).alloc _).alloc _).drew)).mono ?_; rintro e w1 ⟨rfl, hb1⟩; obtain ⟨hc1, hf1⟩ := bcellT HQ.out hb1; have hz1 := hb1.size; simp at hz1))
    all_goals
      go_wp2_with fail
      go_meet
      first
        | (have hq : w.heap.size + 1 + 1 + 1 ≤ w1.heap.size := hz1
           exact ⟨w.heap.size + 1 + 1, rfl, tagMid_early q w w1 HQ.out _ D hb1⟩)
        | exact ⟨w1.heap.size, rfl, tagMid_late q w w1 HQ.out _ D hb1⟩
  case rest =>
    obtain ⟨B, rfl, hbel, hB1, hB2, hz, hD⟩ := hcut
    have hcp := fun ty => run_copy_four wc B D hD hB2 ty
    obtain ⟨wz, hwz⟩ : ∃ wz, (wc.alloc (.cells (Cells4 D) 183)).drew = wz := ⟨_, rfl⟩
    have hgt : wz.heap[w.heap.size + 1]? = some (.cells (Cells4 fun _ => 0) 183 (0, 0)) := by
      rw [← hwz]
      show (wc.alloc _).heap[w.heap.size + 1]? = _
      rw [Below.heap_alloc _ _ _ (by omega), hz]
    have hgn : wz.heap[wc.heap.size]? = some (.cells (Cells4 D) 183 (0, 0)) := by rw [← hwz]; exact (MapKept.heap_alloc _ _).1
    have hbz : Tick q 1 w wz := by rw [← hwz]; exact (hbel.alloc _).drew
    have HWZ : Hid ((wc.alloc (.cells (Cells4 D) 183)).drew = wz) := hwz
    clear hwz hD hz hbel
    go_wp2
    go_region
    rw [HWZ.out]
    clear hcp
    go_wp2_with (first | refine wpList_load_row rfl 183 _ rfl wc.heap.size rfl 183 (Cells4 D) (0, 0) _ hgn Tryz.underlying183 rfl (by kernel_rfl) ?_ | refine wpList_store_row rfl 183 _ _ rfl (w.heap.size + 1) (Cells4 D) rfl rfl 183 (Cells4 fun _ => 0) hgt (by kernel_rfl) rfl (by simp [Value.oneCell']) ?_)
    exact bodyPost_ret (v := .agg (Cells4 D)) (results_cell_row rfl _ _ (w.heap.size + 1) 183 (Cells4 D) (0, 0) _ rfl (setRow_heap _ _ _ _ _ _ hgt) Tryz.underlying183 rfl (by kernel_rfl)) rfl ⟨rfl, hbz.setRow (by omega) _⟩
end Go.Proofs.YtpfijaclghdcdaaGreatDoor

namespace Go.Proofs.YtpfijaclghdcdaaGreatDoor
open Go.RowKit

theorem wpList_append_eq {ops : Array Oper} {rest : List Oper} {o : Oper} {a : Act} {w : World} {Q : Exit → Act → World → Prop} (hgd : o.guard = none) (x y : Operand) (t ty : TypeId)
    (ho : o.op = .call { callee := .builtin .append, args := #[x, y], argTypes := #[t, t] }) (hty : o.type = ty) (v u v' : Value) (w' : World) (hx : a.eval x = v) (hy : a.eval y = u)
    (hr : (Builtin.append_ #[t, t] ty #[v, u]).run Tryz.prog w = .ok v' w') (h : wpList Tryz.prog ops Q rest (a.put o.dst v') w') : wpList Tryz.prog ops Q (o :: rest) a w :=
  wpList_plain hgd fun _ hK => by
    subst hty
    unfold Oper.wp execOp
    simp only [ho, resolve, invoke, builtin, Sem.run_bind, Sem.run_pure, Result.andThen_ok, List.map_toArray, List.map_cons, List.map_nil, hx, hy, hr]
    exact hK _ _ h

set_option maxHeartbeats 400000 in
theorem seal_d {F : FuncId} {pre : Array Value} {q : Option Nat} (dv : Drv F pre q) (s : Nat → Int) (hs : ∀ i, 0 ≤ s i ∧ s i < 256) (a : Option Addr) (l : List UInt8) (c : Nat) (hl : l.length ≤ 1000000) (b : Option Addr) (m : List UInt8) (d : Nat) (hm : m.length ≤ 1000000) (w : World) (ha : Bts w a l) (hb : Bts w b m) (hq : Has q w) (hna : ∀ b o, a = some ⟨b, o, none⟩ → q ≠ some b) (hnb : ∀ c o, b = some ⟨c, o, none⟩ → q ≠ some c) :
    Calls Tryz.prog 55 #[Agg8 s, .slice a l.length c, .slice b m.length d, .func (.func F) pre #[]] w fun e w' => ∃ g cap, e = .returned (.slice (some ⟨g, 0, none⟩) (m.length + 4) cap) ∧ m.length + 4 ≤ cap ∧ w.heap.size ≤ g ∧ Tick q ((m.length + 7) / 8 + 1) w w' ∧
      w'.heap[g]? = some (.cells (RowB (SealT s l m) cap) 5 (0, 0)) := by
  have HA : Hid (Bts w a l) := ha
  have HB : Hid (Bts w b m) := hb
  have HQ : Hid (Has q w) := hq
  have HNA : Hid (∀ b o, a = some ⟨b, o, none⟩ → q ≠ some b) := hna
  have HNB : Hid (∀ c o, b = some ⟨c, o, none⟩ → q ≠ some c) := hnb
  clear ha hb hq hna hnb
  go_enter Tryz.func55, Tryz.ntmps55
  go_wp2_with fail
  have bel0 : Tick q 0 w (w.alloc (.cells (Cells8 s) 47)) := (Tick.refl q w).alloc _
  refine (thru_any dv s hs b m d hm (w.alloc (.cells (Cells8 s) 47)) (HB.out.tick bel0 HNB.out) (HQ.out.tick bel0) HNB.out).mono ?_
  rintro e w1 ⟨rfl, hb1, hrow1⟩
  simp only [World.size_alloc] at hrow1
  have hsz1 : w.heap.size + 1 + 1 < w1.heap.size := by
    have := (Array.getElem?_eq_some_iff.1 hrow1).1
    exact this
  have bel1 : Tick q ((m.length + 7) / 8) w w1 := by
    have := bel0.trans hb1
    rwa [Nat.zero_add] at this
  have hkey1 : w1.heap[w.heap.size]? = some (.cells (Cells8 s) 47 (0, 0)) := by rw [hb1.block _ (by simp) (HQ.out.ne (Nat.le_refl _))]; exact (MapKept.heap_alloc _ _).1
  have hml : (MixT s m).length = m.length := MixT_length s m
  have hcell1 : ∀ i (h : i < (MixT s m).length), w1.cell? ⟨w.heap.size + 1 + 1, i, none⟩ = some (cellB (MixT s m)[i]) := fun i h => by rw [cell_of_row _ _ _ _ _ _ hrow1, RowB_at _ _ _ h]
  obtain ⟨T, hT, htag⟩ : ∃ T : Nat → Int, T = Tag s l (MixT s m) ∧ Calls Tryz.prog 83 #[.agg (Cells8 s), .slice a l.length c, .slice (some ⟨w.heap.size + 1 + 1, 0, none⟩) m.length m.length, .func (.func F) pre #[]] w1 fun e w' => e = .returned (.agg (Cells4 T)) ∧ Tick q 1 w1 w' := by
    refine ⟨_, rfl, ?_⟩
    have h := tagOf_any dv s hs a l c hl (some ⟨w.heap.size + 1 + 1, 0, none⟩) (MixT s m) m.length (by omega) w1 (HA.out.tick bel1 HNA.out) (.inr ⟨_, 0, rfl, fun i hi => by rw [Nat.zero_add]; exact hcell1 i hi⟩) (HQ.out.tick bel1)
    rw [hml] at h
    exact h
  have hTb : ∀ i, 0 ≤ T i ∧ T i < 256 := fun i => by rw [hT]; exact Tag_bd _ _ _ _
  have HT : Hid (T = Tag s l (MixT s m)) := hT
  have HTAG : Hid (Calls Tryz.prog 83 #[.agg (Cells8 s), .slice a l.length c, .slice (some ⟨w.heap.size + 1 + 1, 0, none⟩) m.length m.length, .func (.func F) pre #[]] w1 fun e w' => e = .returned (.agg (Cells4 T)) ∧ Tick q 1 w1 w') := htag
  have HC1 : Hid (∀ i (h : i < (MixT s m).length), w1.cell? ⟨w.heap.size + 1 + 1, i, none⟩ = some (cellB (MixT s m)[i])) := hcell1
  clear hT htag hcell1
  have HML : Hid ((MixT s m).length = m.length) := hml
  clear hml hb1
  go_wp2_with (refine wpList_load_row rfl 47 _ rfl w.heap.size rfl 47 (Cells8 s) (0, 0) _ hkey1 Tryz.underlying47 rfl (by kernel_rfl) ?_)
  refine HTAG.out.mono ?_
  rintro e w2 ⟨rfl, hb2⟩
  have bel2 := bel1.trans hb2
  have hsz2 := hb2.size
  obtain ⟨cap, hcap, happ⟩ := run_append_tag (w2.alloc (.cells (Cells4 T) 183)) (w.heap.size + 1 + 1) m.length (MixT s m) HML.out
    (fun i h => by rw [← HC1.out i h]; exact ((Below.refl _ w2).alloc (Nat.le_refl _) _).cell (p := ⟨w.heap.size + 1 + 1, i, none⟩) (by show w.heap.size + 1 + 1 < _; omega) |>.trans (World.cell?_of_block (w := w1) (a := ⟨w.heap.size + 1 + 1, i, none⟩) (hb2.block (w.heap.size + 1 + 1) hsz1 (HQ.out.ne (by omega)))))
    w2.heap.size (TagB T) rfl
    (fun i h => by
      rw [cell_of_row _ _ _ _ _ _ (MapKept.heap_alloc w2 (.cells (Cells4 T) 183)).1]
      have hc := TagB_cells T hTb
      have h2 : ((TagB T).map cellB)[i]? = some (cellB (TagB T)[i]) := by rw [List.getElem?_map, List.getElem?_eq_getElem h]; rfl
      rw [hc] at h2
      simpa using h2) hm Tryz.prog 30 5 Tryz.underlying30 (by kernel_rfl) 30
  go_wp2_with (at_builtin; refine wpList_append_eq rfl _ _ 30 30 rfl rfl _ _ _ _ rfl rfl happ ?_)
  go_ret
  refine ⟨w2.heap.size + 1, cap, rfl, hcap, by omega, ((bel2.alloc _).drew.alloc _), ?_⟩
  have e := (MapKept.heap_alloc (w2.alloc (.cells (Cells4 T) 183)).drew (.cells (RowB (MixT s m ++ TagB T) cap) 5)).1
  simp only [heap_drew, World.size_alloc] at e
  have eS : SealT s l m = MixT s m ++ TagB T := by rw [HT.out]; rfl
  rw [eS]
  exact e

end Go.Proofs.YtpfijaclghdcdaaGreatDoor
