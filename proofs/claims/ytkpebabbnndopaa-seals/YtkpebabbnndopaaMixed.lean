import Derived.Test.YtkpebabbnndopaaRef
import Derived.Test.YtkpebabbnndopaaPureS
import Derived.WalkKit
import Derived.WalkSpells
import Derived.WalkLawsBesides
import Derived.Laws.CopyOwn
import Derived.BigRegion
namespace Go.Proofs.Ytkpebabbnndopaa
open Go.RowKit

def MixInv (s : Nat → Int) (l : List UInt8) (n : Nat) (w : World) (k : Nat) (wr : World) : Prop :=
  Below w.heap.size w wr ∧ w.heap.size + 2 ≤ wr.heap.size ∧ wr.heap[w.heap.size]? = some (.cells (Cells8 s) 23 (0, 0)) ∧
  wr.heap[w.heap.size + 1]? = some (.cells (RowB (Half s l k) n) 5 (n, n + 1))

theorem mix_step (s : Nat → Int) (l : List UInt8) (n : Nat) (w wr : World) (k : Nat) (hlt : k < l.length) (hbel : Below w.heap.size w wr) (hsz : w.heap.size + 2 ≤ wr.heap.size)
    (hkey : wr.heap[w.heap.size]? = some (.cells (Cells8 s) 23 (0, 0))) (hrow : wr.heap[w.heap.size + 1]? = some (.cells (RowB (Half s l k) n) 5 (n, n + 1))) :
    MixInv s l n w (k + 1) (wr.setCell ⟨w.heap.size + 1, k, none⟩ (.int .u8 (bits BinOp.xor IntKind.u8 (l[k].toNat : Int) (Blk s (k / 8) (k % 8))))).drew := by
  refine ⟨(hbel.setCell (by simp) _).drew, by simpa [World.setCell, World.drew] using hsz, ?_, ?_⟩
  · show (wr.setCell _ _).heap[w.heap.size]? = _
    rw [heap_setCell_other _ _ _ _ (by simp), hkey]
  · show (wr.setCell _ _).heap[w.heap.size + 1]? = _
    rw [setCell_eq_setRow _ _ _ _ _ _ _ hrow, setRow_heap _ _ _ _ _ _ hrow, XB_toNat _ _ (Blk_bd _ _ _).1 (Blk_bd _ _ _).2,
      RowB_put _ _ _ _ (by rw [Half_length _ _ _ (by omega)]; exact hlt), Half_set s l k hlt]

set_option maxHeartbeats 400000 in
theorem mixed_any (s : Nat → Int) (hs : ∀ i, 0 ≤ s i ∧ s i < 256) (t : ByteArray) (ht : t.size ≤ 1000000) (w : World) :
    Calls Try.prog 21 #[Agg8 s, .string t] w fun e w' => e = .returned (.string ⟨(MixT s t.data.toList).toArray⟩) ∧ Below w.heap.size w w' := by
  have hcv : ∀ w : World, (convert 9 27 (.string t)).run Try.prog w = _ := fun w => run_bytes_of_string w 9 27 5 t Try.underlying9 Try.underlying27 Try.underlying5
  have hge := grownCap_ge (w.alloc (.cells (Cells8 s) 23)) t.size 0 5
  go_enter Try.func21, Try.ntmps21
  go_wp2
  clear hcv
  generalize grownCap (w.alloc (.cells (Cells8 s) 23)) t.size 0 5 = cap at *
  obtain ⟨l, hl⟩ : ∃ l, t.data.toList = l := ⟨_, rfl⟩
  have hlt0 : l.length = t.size := by rw [← hl]; simp
  have HL : Hid (t.data.toList = l) := hl
  have hR : bytesRow t cap = RowB l cap := by rw [RowB_of_bytes, hl]
  have hRs : (RowB l cap).size = cap := RowB_size l cap (by omega)
  rw [hR, hRs]
  clear hl hR hRs
  go_loopw [6] (fun i wr => ∃ k : Nat, k ≤ t.size ∧ i = .int .i64 k ∧ MixInv s l cap w k wr) (fun i _ => t.size - (intOf i).toNat)
  case atStart =>
    refine ⟨0, Nat.zero_le _, rfl, (((Below.refl _ _).alloc (Nat.le_refl _) _).alloc (by simp) _).drew, by simp, ?_, ?_⟩
    · show (World.alloc _ _).heap[w.heap.size]? = _
      rw [Below.heap_alloc _ _ _ (by simp), (MapKept.heap_alloc _ _).1]
    · have e := (MapKept.heap_alloc (w.alloc (.cells (Cells8 s) 23)) (.cells (RowB l cap) 5 (cap, cap + 1))).1
      simp only [World.size_alloc] at e
      rw [Half_zero]
      exact e
  case round =>
    obtain ⟨k, hk, rfl, hbel, hsz, hkey, hrow⟩ := hrel
    by_cases hlt : k < t.size
    · have hltl : k < l.length := by omega
      have HW1 : Hid (((k / 8 : Nat) : Int) = (k : Int) / 8) := by show _ = _; omega
      go_wp2_with (refine wpList_load_row rfl 23 _ rfl w.heap.size rfl 23 (Cells8 s) (0, 0) _ hkey Try.underlying23 rfl (by kernel_rfl) ?_)
      refine (refDerive_any s hs _ (by decide) _ _).mono ?_
      rintro e w1 ⟨rfl, hb1⟩
      have hD : DerB s (ByteArray.mk #[115, 116, 114, 101, 97, 109]).data.toList ((k : Int) / 8) = Blk s (k / 8) := by rw [← HW1.out]; rfl
      rw [hD]
      clear hD
      have hbel1 : Below w.heap.size w w1 := hbel.trans (hb1.mono (by omega))
      have hsz1 : w.heap.size + 2 ≤ w1.heap.size := Nat.le_trans hsz hb1.size
      have hkey1 : w1.heap[w.heap.size]? = some (.cells (Cells8 s) 23 (0, 0)) := by rw [hb1.block _ (by omega), hkey]
      have hrow1 : w1.heap[w.heap.size + 1]? = some (.cells (RowB (Half s l k) cap) 5 (cap, cap + 1)) := by rw [hb1.block _ (by omega), hrow]
      clear hbel hsz hkey hrow
      go_wp2
      obtain ⟨wy, hwy⟩ : ∃ wy, w1.alloc (.cells (Cells8 (Blk s (k / 8))) 23) = wy := ⟨_, rfl⟩
      have hbely : Below w.heap.size w wy := by rw [← hwy]; exact hbel1.alloc (by omega) _
      have hszy : w.heap.size + 2 ≤ wy.heap.size := by rw [← hwy]; simp; omega
      have hkeyy : wy.heap[w.heap.size]? = some (.cells (Cells8 s) 23 (0, 0)) := by rw [← hwy, Below.heap_alloc _ _ _ (by omega), hkey1]
      have hrowy : wy.heap[w.heap.size + 1]? = some (.cells (RowB (Half s l k) cap) 5 (cap, cap + 1)) := by rw [← hwy, Below.heap_alloc _ _ _ (by omega), hrow1]
      have hnewy : wy.heap[w1.heap.size]? = some (.cells (Cells8 (Blk s (k / 8))) 23 (0, 0)) := by rw [← hwy]; exact (MapKept.heap_alloc _ _).1
      have cb : wy.cell? ⟨w1.heap.size, k % 8, none⟩ = some (.int .u8 (Blk s (k / 8) (k % 8))) := by
        rw [cell_of_row _ _ _ _ _ _ hnewy, Cells8_at _ _ (by omega)]
      have co : wy.cell? ⟨w.heap.size + 1, k, none⟩ = some (.int .u8 (l[k].toNat : Int)) := by
        have hh : k < (Half s l k).length := by rw [Half_length _ _ _ (by omega)]; exact hltl
        rw [cell_of_row _ _ _ _ _ _ hrowy, RowB_at _ _ _ hh, Half_at s l k hltl hh]
      have fo : wy.frozen? ⟨w.heap.size + 1, k, none⟩ = false := by simp [World.frozen?, hrowy]; omega
      show Code.wp _ _ _ _ (w1.alloc (.cells (Cells8 (Blk s (k / 8))) 23))
      rw [hwy]
      have HY : Hid (MixInv s l cap w (k + 1) (wy.setCell ⟨w.heap.size + 1, k, none⟩ (.int .u8 (bits BinOp.xor IntKind.u8 (l[k].toNat : Int) (Blk s (k / 8) (k % 8))))).drew) := mix_step s l cap w wy k hltl hbely hszy hkeyy hrowy
      clear hwy hnewy hbely hszy hkeyy hrowy hkey1 hrow1
      go_region
      go_wp2
      go_roundw
      case rel => exact ⟨k + 1, by omega, by go_num, HY.out⟩
      case measure => simp [intOf]; omega
    · obtain rfl : k = t.size := by omega
      rw [← hlt0, Half_all] at hrow
      have hcc : (convert 27 9 (.slice (some ⟨w.heap.size + 1, 0, none⟩) t.size cap)).run Try.prog wr = .ok (.string ⟨(MixT s l).toArray⟩) wr := by
        have hh : t.size = (MixT s l).length := by rw [MixT_length, hlt0]
        rw [hh]
        refine run_convert_bytes_back wr 27 9 5 ⟨w.heap.size + 1, 0, none⟩ cap (MixT s l) Try.underlying27 Try.underlying5 Try.underlying9 (fun j hj => ?_)
        have ea : (⟨w.heap.size + 1, 0, none⟩ : Addr).add j = ⟨w.heap.size + 1, j, none⟩ := by unfold Addr.add; split <;> simp_all
        rw [ea, cell_of_row _ _ _ _ _ _ hrow, RowB_at _ _ _ hj]
      go_wp2
      go_ret
      exact ⟨by rw [HL.out]; rfl, hbel⟩
end Go.Proofs.Ytkpebabbnndopaa
