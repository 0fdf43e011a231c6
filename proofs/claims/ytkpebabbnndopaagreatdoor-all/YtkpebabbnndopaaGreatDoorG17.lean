import Derived.Test.YtkpebabbnndopaaGreatDoorC03
import Derived.Test.YtkpebabbnndopaaGreatDoorC13
import Derived.WalkKit
import Derived.WalkSpells
import Derived.WalkLawsBesides
import Derived.Deep.WholeRow
import Derived.Deep.AppendSrc
import Derived.Deep.LoopGhost
import Derived.Lib.AppendZeros
import Derived.Test.YtkpebabbnndopaaGreatDoorC01
import Derived.Deep.OwnRows
import Derived.Laws.CopyOwn
/- slices.Grow, slices.Concat (of two), headOf. -/
namespace Go.Proofs.YtkpebabbnndopaaGreatDoor
open Go.RowKit
set_option linter.unusedVariables false

theorem putL_rowB (x y : List UInt8) (cap : Nat) (h : x.length + y.length ≤ cap) : putL (RowB x cap) x.length (y.map cellB) = RowB (x ++ y) cap := by
  apply Array.ext_getElem?
  intro i
  by_cases h1 : i < x.length
  · rw [putL_out _ _ _ _ (.inl h1), RowB_at _ _ _ h1, RowB_at _ _ _ (by rw [List.length_append]; omega)]
    simp [List.getElem_append_left h1]
  · by_cases h2 : i < x.length + y.length
    · have := putL_at (y.map cellB) (RowB x cap) x.length (by rw [RowB_size _ _ (by omega), List.length_map]; omega) (i - x.length) (cellB (y[i - x.length]'(by omega))) (by rw [List.getElem?_map, List.getElem?_eq_getElem (by omega)]; rfl)
      rw [show x.length + (i - x.length) = i by omega] at this
      rw [this, RowB_at _ _ _ (by rw [List.length_append]; omega)]
      rw [List.getElem_append_right (by omega)]
    · rw [putL_out _ _ _ _ (.inr (by rw [List.length_map]; omega))]
      unfold RowB
      simp only [List.getElem?_toArray]
      rw [List.getElem?_append_right (by simp; omega), List.getElem?_append_right (by simp; omega)]
      simp only [List.length_map, List.length_append, List.getElem?_replicate]
      by_cases h3 : i < cap
      · rw [if_pos (by omega), if_pos (by omega)]
      · rw [if_neg (by omega), if_neg (by omega)]
theorem u8_info : ∃ i, Tryz.prog.info? 5 = some i ∧ i.zero = some (.int .u8 0) ∧ i.size = 1 ∧ i.bytes = 1 := by
  have h : (Tryz.prog.info? 5).map (fun i => (i.zero, i.size, i.bytes)) = some (some (.int .u8 0), 1, 1) := by kernel_rfl
  obtain ⟨i, hi, hz⟩ := Option.map_eq_some_iff.1 h
  simp only [Prod.mk.injEq] at hz
  exact ⟨i, hi, hz⟩
theorem run_zeros (n : Nat) (h0 : 0 < n) (hn : n ≤ 1000000) (w : World) (ty : TypeId) : ∃ cap, n ≤ cap ∧ (Builtin.append_ #[34, 3] ty #[.slice none 0 0, .int .i64 n]).run Tryz.prog w = .ok (.slice (some ⟨w.heap.size, 0, none⟩) n cap) (w.drew.alloc (.cells (RowB [] cap) 5)) := by
  obtain ⟨i, hi, hz, hs, hb⟩ := u8_info
  refine ⟨grownCap w n 0 5, grownCap_ge _ _ _ _, ?_⟩
  have h := Lib.run_append_nil_zeros (P := Tryz.prog) w 34 3 ty 5 i (.int .u8 0) .i64 .i64 Tryz.underlying34 Tryz.underlying3 hi hz n h0 (by omega) (by omega) (by rw [hb]; omega)
  rw [h]
  have hg := grownCap_ge w n 0 5
  generalize grownCap w n 0 5 = cap at *
  have hzc : ∀ k, (Builtin.zeroCells (Value.int .u8 0).cells k).toList = List.replicate k (Value.int .u8 0) := fun k => by
    apply List.ext_getElem
    · simp [Builtin.zeroCells, Value.cells]
    · intro i h1 h2
      simp [Builtin.zeroCells, Value.cells, Nat.mod_one]
  have hrow : Builtin.zeroCells (Value.int .u8 0).cells n ++ Builtin.zeroCells (Value.int .u8 0).cells (cap - n) = RowB [] cap := by
    apply Array.ext'
    rw [Array.toList_append, hzc, hzc]
    simp [RowB]
    omega
  rw [hrow]
set_option maxRecDepth 20000 in
theorem grow_any (n : Nat) (h0 : 0 < n) (hn : n ≤ 1000000) (w : World) :
    Calls Tryz.prog 124 #[.slice none 0 0, .int .i64 n] w fun e w' => ∃ cap, e = .returned (.slice (some ⟨w.heap.size, 0, none⟩) 0 cap) ∧ n ≤ cap ∧ Below w.heap.size w w' ∧ w'.heap[w.heap.size]? = some (.cells (RowB [] cap) 5 (0, 0)) := by
  obtain ⟨cap, hcap, hr⟩ := run_zeros n h0 hn w 34
  have HR : Hid ((Builtin.append_ #[34, 3] 34 #[.slice none 0 0, .int .i64 n]).run Tryz.prog w = .ok (.slice (some ⟨w.heap.size, 0, none⟩) n cap) (w.drew.alloc (.cells (RowB [] cap) 5))) := hr
  clear hr
  obtain ⟨M, hM⟩ : ∃ M : Int, (n : Int) = M := ⟨_, rfl⟩
  have hi0 : 0 < M := by omega
  have hi1 : M ≤ 1000000 := by omega
  have HC : Hid (n ≤ cap) := hcap
  rw [hM] at HR ⊢
  clear hM hcap h0 hn
  go_enter Tryz.func124, Tryz.ntmps124
  go_wp2_with (at_builtin; refine Lib.wpList_append_run w rfl (.tmp 20) (.tmp 21) 34 3 rfl _ _ rfl rfl _ _ HR.out ?_)
  go_ret
  exact ⟨cap, rfl, HC.out, (Below.refl _ w).drew.alloc (by simp) _, (MapKept.heap_alloc w.drew _).1⟩

/-- append where there is room, of bytes that lie elsewhere -/
theorem run_app_room (G cap : Nat) (x y : List UInt8) (a : Option Addr) (c : Nat) (w : World) (hG : w.heap[G]? = some (.cells (RowB x cap) 5 (0, 0))) (hy : Bts w a y) (hc : x.length + y.length ≤ cap) (hne : y ≠ []) (ty : TypeId) :
    (Builtin.append_ #[34, 34] ty #[.slice (some ⟨G, 0, none⟩) x.length cap, .slice a y.length c]).run Tryz.prog w = .ok (.slice (some ⟨G, 0, none⟩) (x.length + y.length) cap) (w.setRow G (RowB (x ++ y) cap)) := by
  obtain ⟨i, hi, hz, hs, hb⟩ := u8_info
  rcases hy with h | ⟨b, o, rfl, hcell⟩
  · exact absurd h hne
  have hsrc : Src Tryz.prog i.size 34 (.slice (some ⟨b, o, none⟩) y.length c) y.length (y.map cellB) w := by
    rw [hs]
    refine Src.ofSlice w Tryz.underlying34 ⟨b, o, none⟩ y.length c (y.map cellB) (by simp) (fun j v hv => ?_) (by intro u hu; obtain ⟨c, _, rfl⟩ := List.mem_map.1 hu; rfl)
    have hj : j < y.length := by simpa using (List.getElem?_eq_some_iff.1 hv).1
    rw [List.getElem?_map, List.getElem?_eq_getElem hj] at hv
    rw [Addr.add_mid, hcell j hj]
    exact hv
  have h := run_append_room_src (P := Tryz.prog) w 34 34 ty 5 i Tryz.underlying34 hi G 0 x.length cap (.slice (some ⟨b, o, none⟩) y.length c) y.length (y.map cellB) hsrc hc
    (fun j hj => by
      rw [List.length_map] at hj
      rw [cell_of_row _ _ _ _ _ _ hG, hs, Array.getElem?_eq_getElem (by rw [RowB_size _ _ (by omega)]; omega)]; rfl)
    (fun j hj => frozen_of_row _ _ _ _ _ hG)
  rw [h, hs, setCells_row _ w G _ _ _ hG, show 0 + x.length * 1 = x.length by omega, putL_rowB x y cap hc]
set_option maxRecDepth 20000 in
set_option maxHeartbeats 2000000 in
theorem concat_any (sb : Nat) (p1 p2 : Option Addr) (l1 l2 : List UInt8) (c1 c2 : Nat) (h1 : l1 ≠ []) (h2 : l2 ≠ []) (hl : l1.length + l2.length ≤ 1000000) (w : World) (hr : w.heap[sb]? = some (.cells #[.slice p1 l1.length c1, .slice p2 l2.length c2] 34 (0, 0))) (b1 : Bts w p1 l1) (b2 : Bts w p2 l2) :
    Calls Tryz.prog 90 #[.slice (some ⟨sb, 0, none⟩) 2 2] w fun e w' => ∃ cap, e = .returned (.slice (some ⟨w.heap.size, 0, none⟩) (l1 ++ l2).length cap) ∧ (l1 ++ l2).length ≤ cap ∧ Below w.heap.size w w' ∧ w'.heap[w.heap.size]? = some (.cells (RowB (l1 ++ l2) cap) 5 (0, 0)) := by
  have n1 : 0 < l1.length := List.length_pos_iff.2 h1
  have HG : Hid (Calls Tryz.prog 124 #[.slice none 0 0, .int .i64 ((l1.length + l2.length : Nat) : Int)] w fun e w' => ∃ cap, e = .returned (.slice (some ⟨w.heap.size, 0, none⟩) 0 cap) ∧ l1.length + l2.length ≤ cap ∧ Below w.heap.size w w' ∧ w'.heap[w.heap.size]? = some (.cells (RowB [] cap) 5 (0, 0))) := grow_any (l1.length + l2.length) (by omega) hl w
  have HB1 : Hid (Bts w p1 l1) := b1
  have HB2 : Hid (Bts w p2 l2) := b2
  have HR : Hid (w.heap[sb]? = some (.cells #[.slice p1 l1.length c1, .slice p2 l2.length c2] 34 (0, 0))) := hr
  have hsb := (Array.getElem?_eq_some_iff.1 hr).1
  have k0 : w.cell? ⟨sb, 0, none⟩ = some (.slice p1 l1.length c1) := by rw [cell_of_row _ _ _ _ _ _ hr]; rfl
  have k1 : w.cell? ⟨sb, 1, none⟩ = some (.slice p2 l2.length c2) := by rw [cell_of_row _ _ _ _ _ _ hr]; rfl
  obtain ⟨M1, hM1⟩ : ∃ M : Int, (l1.length : Int) = M := ⟨_, rfl⟩
  obtain ⟨M2, hM2⟩ : ∃ M : Int, ((l1.length + l2.length : Nat) : Int) = M := ⟨_, rfl⟩
  have a1 : wrap64 M1 = M1 := by simp only [wrap64]; omega
  have a2 : wrap64 (M1 + (l2.length : Int)) = M2 := by simp only [wrap64]; omega
  have a3 : ¬ M1 < 0 := by omega
  have a4 : ¬ M2 < 0 := by omega
  clear hr b1 b2
  rw [hM2] at HG
  have HH1 : Hid (l1 ≠ []) := h1
  have HH2 : Hid (l2 ≠ []) := h2
  go_enter Tryz.func90, Tryz.ntmps90
  clear h1 h2 n1 hl
  go_wp2_with fail
  go_loopg [3, 11] 2 (fun k v3 v11 wr => wr = w ∧ ((k = 2 ∧ v11 = .int .i64 0 ∧ v3 = .int .i64 0) ∨ (k = 1 ∧ v11 = .int .i64 1 ∧ v3 = .int .i64 M1) ∨ (k = 0 ∧ v11 = .int .i64 2 ∧ v3 = .int .i64 M2)))
  case atStart => exact ⟨rfl, .inl ⟨rfl, rfl, rfl⟩⟩
  case round =>
    obtain ⟨rfl, ⟨rfl, rfl, rfl⟩ | ⟨rfl, rfl, rfl⟩ | ⟨rfl, rfl, rfl⟩⟩ := hrel
    · go_wp2_with fail
      go_roundg 1
      case measure => omega
      case rel => exact ⟨rfl, .inr (.inl ⟨rfl, rfl, by rw [a1]⟩)⟩
    · go_wp2_with fail
      go_roundg 0
      case measure => omega
      case rel => exact ⟨rfl, .inr (.inr ⟨rfl, rfl, by rw [a2]⟩)⟩
    · go_wp2_with fail
      refine HG.out.mono ?_
      rintro e w1 ⟨cap, rfl, hcap, bel, hrow⟩
      have q0 : w1.cell? ⟨sb, 0, none⟩ = some (.slice p1 l1.length c1) := by rw [bel.cell (p := ⟨sb, 0, none⟩) hsb]; exact k0
      have z1 : wr.heap.size < w1.heap.size := (Array.getElem?_eq_some_iff.1 hrow).1
      have HRUN1 : Hid ((Builtin.append_ #[34, 34] 34 #[.slice (some ⟨wr.heap.size, 0, none⟩) 0 cap, .slice p1 l1.length c1]).run Tryz.prog w1 = .ok (.slice (some ⟨wr.heap.size, 0, none⟩) l1.length cap) (w1.setRow wr.heap.size (RowB l1 cap))) := by
        have := run_app_room wr.heap.size cap [] l1 p1 c1 w1 hrow (HB1.out.below bel) (by simp; omega) HH1.out 34
        show _ = _
        simpa using this
      obtain ⟨w2, hw2⟩ : ∃ w2, w1.setRow wr.heap.size (RowB l1 cap) = w2 := ⟨_, rfl⟩
      have row2 : w2.heap[wr.heap.size]? = some (.cells (RowB l1 cap) 5 (0, 0)) := by rw [← hw2]; exact setRow_heap _ _ _ _ _ _ hrow
      have bel2 : Below wr.heap.size wr w2 := by rw [← hw2]; exact below_setRow bel (Nat.le_refl _) _
      have q1 : w2.cell? ⟨sb, 1, none⟩ = some (.slice p2 l2.length c2) := by rw [bel2.cell (p := ⟨sb, 1, none⟩) hsb]; exact k1
      have HRUN2 : Hid ((Builtin.append_ #[34, 34] 34 #[.slice (some ⟨wr.heap.size, 0, none⟩) l1.length cap, .slice p2 l2.length c2]).run Tryz.prog w2 = .ok (.slice (some ⟨wr.heap.size, 0, none⟩) (l1.length + l2.length) cap) (w2.setRow wr.heap.size (RowB (l1 ++ l2) cap))) := run_app_room wr.heap.size cap l1 l2 p2 c2 w2 row2 (HB2.out.below bel2) hcap HH2.out 34
      obtain ⟨w3, hw3⟩ : ∃ w3, w2.setRow wr.heap.size (RowB (l1 ++ l2) cap) = w3 := ⟨_, rfl⟩
      have HROW3 : Hid (w3.heap[wr.heap.size]? = some (.cells (RowB (l1 ++ l2) cap) 5 (0, 0))) := by show _ = _; rw [← hw3]; exact setRow_heap _ _ _ _ _ _ row2
      have HBEL3 : Hid (Below wr.heap.size wr w3) := by show Below _ _ _; rw [← hw3]; exact below_setRow bel2 (Nat.le_refl _) _
      rw [hw2] at HRUN1
      rw [hw3] at HRUN2
      have HCAP : Hid (l1.length + l2.length ≤ cap) := hcap
      clear bel hrow hw2 row2 bel2 hw3 HG HB1 HB2 HR k0 k1 hcap hM2 a2 a4 hM1 a1 a3
      go_wp2_with fail
      go_loopg [6, 27] 2 (fun k v6 v27 wq => (k = 2 ∧ v27 = .int .i64 0 ∧ v6 = .slice (some ⟨wr.heap.size, 0, none⟩) 0 cap ∧ wq = w1) ∨ (k = 1 ∧ v27 = .int .i64 1 ∧ v6 = .slice (some ⟨wr.heap.size, 0, none⟩) l1.length cap ∧ wq = w2) ∨ (k = 0 ∧ v27 = .int .i64 2 ∧ v6 = .slice (some ⟨wr.heap.size, 0, none⟩) (l1.length + l2.length) cap ∧ wq = w3))
      case atStart => exact .inl ⟨rfl, rfl, rfl, rfl⟩
      case round =>
        obtain ⟨rfl, rfl, rfl, rfl⟩ | ⟨rfl, rfl, rfl, rfl⟩ | ⟨rfl, rfl, rfl, rfl⟩ := hrel
        · go_wp2_with (at_builtin; refine Lib.wpList_append_run _ rfl (.tmp 31) (.tmp 32) 34 34 rfl _ _ rfl rfl _ _ HRUN1.out ?_)
          go_roundg 1
          case measure => omega
          case rel => exact .inr (.inl ⟨rfl, rfl, rfl, rfl⟩)
        · go_wp2_with (at_builtin; refine Lib.wpList_append_run _ rfl (.tmp 31) (.tmp 32) 34 34 rfl _ _ rfl rfl _ _ HRUN2.out ?_)
          go_roundg 0
          case measure => omega
          case rel => exact .inr (.inr ⟨rfl, rfl, rfl, rfl⟩)
        · go_wp2_with fail
          go_ret
          exact ⟨cap, by rw [List.length_append]; rfl, by rw [List.length_append]; exact HCAP.out, HBEL3.out, HROW3.out⟩
abbrev HeadV (who gen : Nat) : Array Value := #[.int .u8 (who : Int), .int .u8 ((gen : Int) / 256), .int .u8 ((gen : Int) % 256)]
theorem headV_row (who gen : Nat) (hw : who < 16) (hg : (gen : Int) ≤ 65535) : HeadV who gen = RowB (HeadB who gen) 3 := by
  have e1 : (who : Int) = ((UInt8.ofNat who).toNat : Int) := by rw [UInt8.toNat_ofNat']; omega
  have e2 : ((gen : Int) / 256) = ((UInt8.ofNat (gen / 256)).toNat : Int) := by rw [UInt8.toNat_ofNat']; omega
  have e3 : ((gen : Int) % 256) = ((UInt8.ofNat gen).toNat : Int) := by rw [UInt8.toNat_ofNat']; omega
  unfold HeadV RowB HeadB
  rw [e1, e2, e3]
  rfl
theorem head_any (who gen : Nat) (hw : who < 16) (hg : (gen : Int) ≤ 65535) (w : World) :
    Calls Tryz.prog 89 #[.agg #[.int .i64 who, .int .i64 gen]] w fun e w' => e = .returned (.agg (HeadV who gen)) ∧ w' = (w.alloc (.cells #[.int .i64 who, .int .i64 gen] 123)).alloc (.cells (HeadV who gen) 169) := by
  have e := (MapKept.heap_alloc (w.alloc (.cells #[.int .i64 who, .int .i64 gen] 123)) (.cells (HeadV who gen) 169)).1
  simp only [World.size_alloc] at e
  go_enter Tryz.func89, Tryz.ntmps89
  go_wp2_with fail
  exact bodyPost_ret (v := .agg (HeadV who gen)) (results_cell_row rfl _ _ (w.heap.size + 1) 169 (HeadV who gen) (0, 0) _ rfl e Tryz.underlying169 rfl (by kernel_rfl)) rfl ⟨rfl, rfl⟩
end Go.Proofs.YtkpebabbnndopaaGreatDoor

namespace Go.Proofs.YtkpebabbnndopaaGreatDoor
open Go.RowKit

def ThruInv (q : Option Nat) (s : Nat → Int) (l : List UInt8) (w : World) (k : Nat) (wr : World) : Prop :=
  Tick q ((k + 7) / 8) w wr ∧ w.heap.size + 3 ≤ wr.heap.size ∧ wr.heap[w.heap.size]? = some (.cells (Cells8 s) 51 (0, 0)) ∧
  wr.heap[w.heap.size + 1]? = some (.cells (RowB (MixT s (l.take k)) l.length) 5 (0, 0)) ∧
  ∃ B : Nat → Int, (∀ i, 0 ≤ B i ∧ B i < 256) ∧ wr.heap[w.heap.size + 1 + 1]? = some (.cells (Cells8 B) 51 (0, 0)) ∧ (k % 8 ≠ 0 → B = Blk s (k / 8))

theorem thru_step (q : Option Nat) (s : Nat → Int) (l : List UInt8) (w wr : World) (k : Nat) (hlt : k < l.length) (hbel : Tick q ((k + 1 + 7) / 8) w wr) (hsz : w.heap.size + 3 ≤ wr.heap.size)
    (hkey : wr.heap[w.heap.size]? = some (.cells (Cells8 s) 51 (0, 0))) (hrow : wr.heap[w.heap.size + 1]? = some (.cells (RowB (MixT s (l.take k)) l.length) 5 (0, 0)))
    (hblk : wr.heap[w.heap.size + 1 + 1]? = some (.cells (Cells8 (Blk s (k / 8))) 51 (0, 0))) :
    ThruInv q s l w (k + 1) (wr.setCell ⟨w.heap.size + 1, k, none⟩ (.int .u8 (bits BinOp.xor IntKind.u8 (l[k].toNat : Int) (Blk s (k / 8) (k % 8))))) := by
  have hlen : (MixT s (l.take k)).length = k := by rw [MixT_length, List.length_take]; omega
  refine ⟨hbel.setCell (by simp) _, by simpa [World.setCell] using hsz, ?_, ?_, Blk s (k / 8), Blk_bd s (k / 8), ?_, ?_⟩
  · rw [heap_setCell_other _ _ _ _ (by simp), hkey]
  · rw [heap_setCell_same _ _ _ _ _ _ hrow, MixT_step s l k hlt, XB_toNat _ _ (Blk_bd _ _ _).1 (Blk_bd _ _ _).2]
    have e := RowB_set (MixT s (l.take k)) l.length (XB l[k] (Blk s (k / 8) (k % 8))) (by omega)
    rw [hlen] at e
    rw [e]
  · rw [heap_setCell_other _ _ _ _ (by simp), hblk]
  · intro h
    have e : (k + 1) / 8 = k / 8 := by omega
    rw [e]

set_option maxHeartbeats 400000 in
theorem thru_any {F : FuncId} {pre : Array Value} {q : Option Nat} (dv : Drv F pre q) (s : Nat → Int) (hs : ∀ i, 0 ≤ s i ∧ s i < 256) (a : Option Addr) (l : List UInt8) (c : Nat) (hl : l.length ≤ 1000000) (w : World) (ha : Bts w a l) (hq : Has q w) (hn : ∀ b o, a = some ⟨b, o, none⟩ → q ≠ some b) :
    Calls Tryz.prog 103 #[Agg8 s, .slice a l.length c, .func (.func F) pre #[]] w fun e w' => e = .returned (.slice (some ⟨w.heap.size + 1, 0, none⟩) l.length l.length) ∧ Tick q ((l.length + 7) / 8) w w' ∧
      w'.heap[w.heap.size + 1]? = some (.cells (RowB (MixT s l) l.length) 5 (0, 0)) := by
  have hmk : ∀ w : World, (Instr.makeSlice 34 (.int .i64 (l.length : Int)) (.int .i64 (l.length : Int))).run Tryz.prog w = .ok (.slice (some ⟨w.heap.size, 0, none⟩) l.length l.length) (w.alloc (.cells (madeCells #[.int .u8 0] l.length) 5)) :=
    fun w => run_make_row' 34 5 (.int .u8 0) 1 Tryz.underlying34 (by kernel_rfl) rfl .i64 .i64 l.length (by omega) (by omega) w
  have HA : Hid (Bts w a l) := ha
  have HQ : Hid (Has q w) := hq
  have HN : Hid (∀ b o, a = some ⟨b, o, none⟩ → q ≠ some b) := hn
  have hcf := dv.enter
  clear ha hq hn
  go_enter Tryz.func103, Tryz.ntmps103
  go_wp2
  clear hmk
  go_loopw [17] (fun i wr => ∃ k : Nat, k ≤ l.length ∧ i = .int .i64 k ∧ ThruInv q s l w k wr) (fun i _ => l.length - (intOf i).toNat)
  case atStart =>
    refine ⟨0, Nat.zero_le _, rfl, (((Tick.refl q w).alloc _).alloc _).alloc _, by simp, ?_, ?_, fun _ => 0, fun _ => by simp, ?_, by simp⟩
    · rw [Below.heap_alloc _ _ _ (by simp; omega), Below.heap_alloc _ _ _ (by simp), (MapKept.heap_alloc _ _).1]
    · rw [Below.heap_alloc _ _ _ (by simp)]
      have e := (MapKept.heap_alloc (w.alloc (.cells (Cells8 s) 51)) (.cells (madeCells #[.int .u8 0] l.length) 5)).1
      simp only [World.size_alloc] at e
      rw [e, RowB_nil]; rfl
    · have e := (MapKept.heap_alloc ((w.alloc (.cells (Cells8 s) 51)).alloc (.cells (madeCells #[.int .u8 0] l.length) 5)) (.cells (Cells8 fun _ => 0) 51)).1
      simp only [World.size_alloc] at e
      exact e
  case round =>
    obtain ⟨k, hk, rfl, hbel, hsz, hkey, hrow, B, hBb, hblk, hB⟩ := hrel
    by_cases hlt : k < l.length
    · have hA2 := HA.out.tick hbel HN.out
      rcases hA2 with h0 | ⟨ab, ao, rfl, hc⟩
      · rw [h0] at hlt; simp at hlt
      have hck := hc k hlt
      clear hc
      have hlen : (MixT s (l.take k)).length = k := by rw [MixT_length, List.length_take]; omega
      have hw1 : ((k / 8 : Nat) : Int) = (k : Int) / 8 := by omega
      have HS : Hid (MixT s (l.take (k + 1)) = MixT s (l.take k) ++ [XB l[k] (Blk s (k / 8) (k % 8))]) := MixT_step s l k hlt
      by_cases hz : k % 8 = 0
      · have hz2 : ((k : Int) % 8 == 0) = true := by simp; omega
        have HZ : Hid (k % 8 = 0) := hz
        clear hz hB
        have HW1 : Hid (((k / 8 : Nat) : Int) = (k : Int) / 8) := hw1
        clear hw1
        go_wp2_with (refine wpList_load_row rfl 51 _ rfl w.heap.size rfl 51 (Cells8 s) (0, 0) _ hkey Tryz.underlying51 rfl (by kernel_rfl) ?_)
        refine (dv.call s hs _ (by decide) _ _ (HQ.out.tick hbel)).mono ?_
        rintro e w1 ⟨rfl, hb1⟩
        have hD : DerB s (ByteArray.mk #[115, 116, 114, 101, 97, 109]).data.toList ((k : Int) / 8) = Blk s (k / 8) := by rw [← HW1.out]; rfl
        rw [hD]
        clear hD
        have hbel1 : Tick q ((k + 1 + 7) / 8) w w1 := by
          have := hbel.trans hb1
          rwa [show (k + 7) / 8 + 1 = (k + 1 + 7) / 8 by have := HZ.out; omega] at this
        have hsz1 : w.heap.size + 3 ≤ w1.heap.size := Nat.le_trans hsz hb1.size
        have hkey1 : w1.heap[w.heap.size]? = some (.cells (Cells8 s) 51 (0, 0)) := by rw [hb1.block _ (by omega) (HQ.out.ne (by omega)), hkey]
        have hrow1 : w1.heap[w.heap.size + 1]? = some (.cells (RowB (MixT s (l.take k)) l.length) 5 (0, 0)) := by rw [hb1.block _ (by omega) (HQ.out.ne (by omega)), hrow]
        have hblk1 : w1.heap[w.heap.size + 1 + 1]? = some (.cells (Cells8 B) 51 (0, 0)) := by rw [hb1.block _ (by omega) (HQ.out.ne (by omega)), hblk]
        clear hbel hsz hkey hrow hblk hck
        obtain ⟨wx, hwx⟩ : ∃ wx, w1.setRow (w.heap.size + 1 + 1) (Cells8 (Blk s (k / 8))) = wx := ⟨_, rfl⟩
        have hbelx : Tick q ((k + 1 + 7) / 8) w wx := by rw [← hwx]; exact hbel1.setRow (by omega) _
        have hszx : w.heap.size + 3 ≤ wx.heap.size := by rw [← hwx]; simpa using hsz1
        have hkeyx : wx.heap[w.heap.size]? = some (.cells (Cells8 s) 51 (0, 0)) := by rw [← hwx, setRow_other _ _ _ _ (by omega), hkey1]
        have hrowx : wx.heap[w.heap.size + 1]? = some (.cells (RowB (MixT s (l.take k)) l.length) 5 (0, 0)) := by rw [← hwx, setRow_other _ _ _ _ (by omega), hrow1]
        have hblkx : wx.heap[w.heap.size + 1 + 1]? = some (.cells (Cells8 (Blk s (k / 8))) 51 (0, 0)) := by rw [← hwx]; exact setRow_heap _ _ _ _ _ _ hblk1
        have HWX : Hid (w1.setRow (w.heap.size + 1 + 1) (Cells8 (Blk s (k / 8))) = wx) := hwx
        clear hwx
        have cb : wx.cell? ⟨w.heap.size + 1 + 1, k % 8, none⟩ = some (.int .u8 (Blk s (k / 8) (k % 8))) := by
          rw [cell_of_row _ _ _ _ _ _ hblkx, Cells8_at _ _ (by omega)]
        obtain ⟨v0, hv0⟩ := RowB_some (MixT s (l.take k)) l.length k (by omega) hlt
        have co : wx.cell? ⟨w.heap.size + 1, k, none⟩ = some v0 := by rw [cell_of_row _ _ _ _ _ _ hrowx, hv0]
        have fo : wx.frozen? ⟨w.heap.size + 1, k, none⟩ = false := frozen_of_row _ _ _ _ _ hrowx
        clear hv0
        go_wp2_with (refine wpList_store_row rfl 51 _ _ rfl (w.heap.size + 1 + 1) (Cells8 (Blk s (k / 8))) rfl rfl 51 (Cells8 B) hblk1 (by kernel_rfl) rfl (Cells8_one _) ?_; rw [HWX.out])
        go_roundw
        case rel =>
          exact ⟨k + 1, by omega, by go_num, thru_step q s l w wx k hlt hbelx hszx hkeyx hrowx hblkx⟩
        case measure => simp [intOf]; omega
      · have hz2 : ((k : Int) % 8 == 0) = false := by simp; omega
        rw [show (k + 7) / 8 = (k + 1 + 7) / 8 by omega] at hbel
        obtain rfl : B = Blk s (k / 8) := hB hz
        have HW1 : Hid (((k / 8 : Nat) : Int) = (k : Int) / 8) := hw1
        clear hw1 hB
        have cb : wr.cell? ⟨w.heap.size + 1 + 1, k % 8, none⟩ = some (.int .u8 (Blk s (k / 8) (k % 8))) := by
          rw [cell_of_row _ _ _ _ _ _ hblk, Cells8_at _ _ (by omega)]
        obtain ⟨v0, hv0⟩ := RowB_some (MixT s (l.take k)) l.length k (by omega) hlt
        have co : wr.cell? ⟨w.heap.size + 1, k, none⟩ = some v0 := by rw [cell_of_row _ _ _ _ _ _ hrow, hv0]
        have fo : wr.frozen? ⟨w.heap.size + 1, k, none⟩ = false := frozen_of_row _ _ _ _ _ hrow
        clear hv0
        go_wp2
        go_roundw
        case rel =>
          exact ⟨k + 1, by omega, by go_num, thru_step q s l w wr k hlt hbel hsz hkey hrow hblk⟩
        case measure => simp [intOf]; omega
    · have hfull : l.take k = l := List.take_of_length_le (by omega)
      rw [hfull] at hrow
      obtain rfl : k = l.length := by omega
      go_wp2
      go_ret
      exact ⟨rfl, hbel, hrow⟩
end Go.Proofs.YtkpebabbnndopaaGreatDoor
