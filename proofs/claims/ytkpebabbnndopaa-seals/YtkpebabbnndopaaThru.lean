import Derived.Test.YtkpebabbnndopaaTick
import Derived.Test.YtkpebabbnndopaaPureS
import Derived.WalkKit
import Derived.WalkSpells
import Derived.WalkLawsBesides
import Derived.Deep.OwnRows
import Derived.Laws.CopyOwn
namespace Go.Proofs.Ytkpebabbnndopaa
open Go.RowKit

def ThruInv (q : Option Nat) (s : Nat → Int) (l : List UInt8) (w : World) (k : Nat) (wr : World) : Prop :=
  Tick q ((k + 7) / 8) w wr ∧ w.heap.size + 3 ≤ wr.heap.size ∧ wr.heap[w.heap.size]? = some (.cells (Cells8 s) 23 (0, 0)) ∧
  wr.heap[w.heap.size + 1]? = some (.cells (RowB (MixT s (l.take k)) l.length) 5 (0, 0)) ∧
  ∃ B : Nat → Int, (∀ i, 0 ≤ B i ∧ B i < 256) ∧ wr.heap[w.heap.size + 1 + 1]? = some (.cells (Cells8 B) 23 (0, 0)) ∧ (k % 8 ≠ 0 → B = Blk s (k / 8))

theorem thru_step (q : Option Nat) (s : Nat → Int) (l : List UInt8) (w wr : World) (k : Nat) (hlt : k < l.length) (hbel : Tick q ((k + 1 + 7) / 8) w wr) (hsz : w.heap.size + 3 ≤ wr.heap.size)
    (hkey : wr.heap[w.heap.size]? = some (.cells (Cells8 s) 23 (0, 0))) (hrow : wr.heap[w.heap.size + 1]? = some (.cells (RowB (MixT s (l.take k)) l.length) 5 (0, 0)))
    (hblk : wr.heap[w.heap.size + 1 + 1]? = some (.cells (Cells8 (Blk s (k / 8))) 23 (0, 0))) :
    ThruInv q s l w (k + 1) (wr.setCell ⟨w.heap.size + 1, k, none⟩ (.int .u8 (bits BinOp.xor IntKind.u8 (l[k].toNat : Int) (Blk s (k / 8) (k % 8))))) := by
  have hlen : (MixT s (l.take k)).length = k := by rw [MixT_length, List.length_take]; omega
  refine ⟨hbel.setCell (by simp) _, by simpa [World.setCell] using hsz, ?_, ?_, Blk s (k / 8), Blk_bd s (k / 8), ?_, ?_⟩
  · rw [heap_setCell_other _ _ _ _ (by simp), hkey]
  · rw [heap_setCell_same _ _ _ _ _ _ hrow, MixT_step s l k hlt, XB_toNat _ _ (Blk_bd _ _ _).1 (Blk_bd _ _ _).2]
    have e := RowB_set (MixT s (l.take k)) l.length (XB l[k] (Blk s (k / 8) (k % 8))) (by omega)
    rw [hlen] at e
    rw [e]
  · rw [heap_setCell_other _ _ _ _ (by simp), hblk]
  · intro h
    have e : (k + 1) / 8 = k / 8 := by omega
    rw [e]

set_option maxHeartbeats 400000 in
theorem thru_any {F : FuncId} {pre : Array Value} {q : Option Nat} (dv : Drv F pre q) (s : Nat → Int) (hs : ∀ i, 0 ≤ s i ∧ s i < 256) (a : Option Addr) (l : List UInt8) (c : Nat) (hl : l.length ≤ 1000000) (w : World) (ha : Bts w a l) (hq : Has q w) (hn : ∀ b o, a = some ⟨b, o, none⟩ → q ≠ some b) :
    Calls Try.prog 35 #[Agg8 s, .slice a l.length c, .func (.func F) pre #[]] w fun e w' => e = .returned (.slice (some ⟨w.heap.size + 1, 0, none⟩) l.length l.length) ∧ Tick q ((l.length + 7) / 8) w w' ∧
      w'.heap[w.heap.size + 1]? = some (.cells (RowB (MixT s l) l.length) 5 (0, 0)) := by
  have hmk : ∀ w : World, (Instr.makeSlice 27 (.int .i64 (l.length : Int)) (.int .i64 (l.length : Int))).run Try.prog w = .ok (.slice (some ⟨w.heap.size, 0, none⟩) l.length l.length) (w.alloc (.cells (madeCells #[.int .u8 0] l.length) 5)) :=
    fun w => run_make_row' 27 5 (.int .u8 0) 1 Try.underlying27 (by kernel_rfl) rfl .i64 .i64 l.length (by omega) (by omega) w
  have HA : Hid (Bts w a l) := ha
  have HQ : Hid (Has q w) := hq
  have HN : Hid (∀ b o, a = some ⟨b, o, none⟩ → q ≠ some b) := hn
  have hcf := dv.enter
  clear ha hq hn
  go_enter Try.func35, Try.ntmps35
  go_wp2
  clear hmk
  go_loopw [17] (fun i wr => ∃ k : Nat, k ≤ l.length ∧ i = .int .i64 k ∧ ThruInv q s l w k wr) (fun i _ => l.length - (intOf i).toNat)
  case atStart =>
    refine ⟨0, Nat.zero_le _, rfl, (((Tick.refl q w).alloc _).alloc _).alloc _, by simp, ?_, ?_, fun _ => 0, fun _ => by simp, ?_, by simp⟩
    · rw [Below.heap_alloc _ _ _ (by simp; omega), Below.heap_alloc _ _ _ (by simp), (MapKept.heap_alloc _ _).1]
    · rw [Below.heap_alloc _ _ _ (by simp)]
      have e := (MapKept.heap_alloc (w.alloc (.cells (Cells8 s) 23)) (.cells (madeCells #[.int .u8 0] l.length) 5)).1
      simp only [World.size_alloc] at e
      rw [e, RowB_nil]; rfl
    · have e := (MapKept.heap_alloc ((w.alloc (.cells (Cells8 s) 23)).alloc (.cells (madeCells #[.int .u8 0] l.length) 5)) (.cells (Cells8 fun _ => 0) 23)).1
      simp only [World.size_alloc] at e
      exact e
  case round =>
    obtain ⟨k, hk, rfl, hbel, hsz, hkey, hrow, B, hBb, hblk, hB⟩ := hrel
    by_cases hlt : k < l.length
    · have hA2 := HA.out.tick hbel HN.out
      rcases hA2 with h0 | ⟨ab, ao, rfl, hc⟩
      · rw [h0] at hlt; simp at hlt
      have hck := hc k hlt
      clear hc
      have hlen : (MixT s (l.take k)).length = k := by rw [MixT_length, List.length_take]; omega
      have hw1 : ((k / 8 : Nat) : Int) = (k : Int) / 8 := by omega
      have HS : Hid (MixT s (l.take (k + 1)) = MixT s (l.take k) ++ [XB l[k] (Blk s (k / 8) (k % 8))]) := MixT_step s l k hlt
      by_cases hz : k % 8 = 0
      · have hz2 : ((k : Int) % 8 == 0) = true := by simp; omega
        have HZ : Hid (k % 8 = 0) := hz
        clear hz hB
        have HW1 : Hid (((k / 8 : Nat) : Int) = (k : Int) / 8) := hw1
        clear hw1
        go_wp2_with (refine wpList_load_row rfl 23 _ rfl w.heap.size rfl 23 (Cells8 s) (0, 0) _ hkey Try.underlying23 rfl (by kernel_rfl) ?_)
        refine (dv.call s hs _ (by decide) _ _ (HQ.out.tick hbel)).mono ?_
        rintro e w1 ⟨rfl, hb1⟩
        have hD : DerB s (ByteArray.mk #[115, 116, 114, 101, 97, 109]).data.toList ((k : Int) / 8) = Blk s (k / 8) := by rw [← HW1.out]; rfl
        rw [hD]
        clear hD
        have hbel1 : Tick q ((k + 1 + 7) / 8) w w1 := by
          have := hbel.trans hb1
          rwa [show (k + 7) / 8 + 1 = (k + 1 + 7) / 8 by have := HZ.out; omega] at this
        have hsz1 : w.heap.size + 3 ≤ w1.heap.size := Nat.le_trans hsz hb1.size
        have hkey1 : w1.heap[w.heap.size]? = some (.cells (Cells8 s) 23 (0, 0)) := by rw [hb1.block _ (by omega) (HQ.out.ne (by omega)), hkey]
        have hrow1 : w1.heap[w.heap.size + 1]? = some (.cells (RowB (MixT s (l.take k)) l.length) 5 (0, 0)) := by rw [hb1.block _ (by omega) (HQ.out.ne (by omega)), hrow]
        have hblk1 : w1.heap[w.heap.size + 1 + 1]? = some (.cells (Cells8 B) 23 (0, 0)) := by rw [hb1.block _ (by omega) (HQ.out.ne (by omega)), hblk]
        clear hbel hsz hkey hrow hblk hck
        obtain ⟨wx, hwx⟩ : ∃ wx, w1.setRow (w.heap.size + 1 + 1) (Cells8 (Blk s (k / 8))) = wx := ⟨_, rfl⟩
        have hbelx : Tick q ((k + 1 + 7) / 8) w wx := by rw [← hwx]; exact hbel1.setRow (by omega) _
        have hszx : w.heap.size + 3 ≤ wx.heap.size := by rw [← hwx]; simpa using hsz1
        have hkeyx : wx.heap[w.heap.size]? = some (.cells (Cells8 s) 23 (0, 0)) := by rw [← hwx, setRow_other _ _ _ _ (by omega), hkey1]
        have hrowx : wx.heap[w.heap.size + 1]? = some (.cells (RowB (MixT s (l.take k)) l.length) 5 (0, 0)) := by rw [← hwx, setRow_other _ _ _ _ (by omega), hrow1]
        have hblkx : wx.heap[w.heap.size + 1 + 1]? = some (.cells (Cells8 (Blk s (k / 8))) 23 (0, 0)) := by rw [← hwx]; exact setRow_heap _ _ _ _ _ _ hblk1
        have HWX : Hid (w1.setRow (w.heap.size + 1 + 1) (Cells8 (Blk s (k / 8))) = wx) := hwx
        clear hwx
        have cb : wx.cell? ⟨w.heap.size + 1 + 1, k % 8, none⟩ = some (.int .u8 (Blk s (k / 8) (k % 8))) := by
          rw [cell_of_row _ _ _ _ _ _ hblkx, Cells8_at _ _ (by omega)]
        obtain ⟨v0, hv0⟩ := RowB_some (MixT s (l.take k)) l.length k (by omega) hlt
        have co : wx.cell? ⟨w.heap.size + 1, k, none⟩ = some v0 := by rw [cell_of_row _ _ _ _ _ _ hrowx, hv0]
        have fo : wx.frozen? ⟨w.heap.size + 1, k, none⟩ = false := frozen_of_row _ _ _ _ _ hrowx
        clear hv0
        go_wp2_with (refine wpList_store_row rfl 23 _ _ rfl (w.heap.size + 1 + 1) (Cells8 (Blk s (k / 8))) rfl rfl 23 (Cells8 B) hblk1 (by kernel_rfl) rfl (Cells8_one _) ?_; rw [HWX.out])
        go_roundw
        case rel =>
          exact ⟨k + 1, by omega, by go_num, thru_step q s l w wx k hlt hbelx hszx hkeyx hrowx hblkx⟩
        case measure => simp [intOf]; omega
      · have hz2 : ((k : Int) % 8 == 0) = false := by simp; omega
        rw [show (k + 7) / 8 = (k + 1 + 7) / 8 by omega] at hbel
        obtain rfl : B = Blk s (k / 8) := hB hz
        have HW1 : Hid (((k / 8 : Nat) : Int) = (k : Int) / 8) := hw1
        clear hw1 hB
        have cb : wr.cell? ⟨w.heap.size + 1 + 1, k % 8, none⟩ = some (.int .u8 (Blk s (k / 8) (k % 8))) := by
          rw [cell_of_row _ _ _ _ _ _ hblk, Cells8_at _ _ (by omega)]
        obtain ⟨v0, hv0⟩ := RowB_some (MixT s (l.take k)) l.length k (by omega) hlt
        have co : wr.cell? ⟨w.heap.size + 1, k, none⟩ = some v0 := by rw [cell_of_row _ _ _ _ _ _ hrow, hv0]
        have fo : wr.frozen? ⟨w.heap.size + 1, k, none⟩ = false := frozen_of_row _ _ _ _ _ hrow
        clear hv0
        go_wp2
        go_roundw
        case rel =>
          exact ⟨k + 1, by omega, by go_num, thru_step q s l w wr k hlt hbel hsz hkey hrow hblk⟩
        case measure => simp [intOf]; omega
    · have hfull : l.take k = l := List.take_of_length_le (by omega)
      rw [hfull] at hrow
      obtain rfl : k = l.length := by omega
      go_wp2
      go_ret
      exact ⟨rfl, hbel, hrow⟩
end Go.Proofs.Ytkpebabbnndopaa
