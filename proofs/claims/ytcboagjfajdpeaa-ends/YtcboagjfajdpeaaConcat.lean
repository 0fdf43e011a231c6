/- slices.Grow, slices.Concat (of two), headOf. -/
import Derived.Test.YtcboagjfajdpeaaHome
import Derived.Test.YtcboagjfajdpeaaPureT
import Derived.WalkKit
import Derived.WalkSpells
import Derived.WalkLawsBesides
import Derived.Deep.WholeRow
import Derived.Deep.AppendSrc
import Derived.Deep.LoopGhost
import Derived.Lib.AppendZeros
namespace Go.Proofs.Ytcboagjfajdpeaa
open Go.RowKit
set_option linter.unusedVariables false

theorem putL_rowB (x y : List UInt8) (cap : Nat) (h : x.length + y.length ≤ cap) : putL (RowB x cap) x.length (y.map cellB) = RowB (x ++ y) cap := by
  apply Array.ext_getElem?
  intro i
  by_cases h1 : i < x.length
  · rw [putL_out _ _ _ _ (.inl h1), RowB_at _ _ _ h1, RowB_at _ _ _ (by rw [List.length_append]; omega)]
    simp [List.getElem_append_left h1]
  · by_cases h2 : i < x.length + y.length
    · have := putL_at (y.map cellB) (RowB x cap) x.length (by rw [RowB_size _ _ (by omega), List.length_map]; omega) (i - x.length) (cellB (y[i - x.length]'(by omega))) (by rw [List.getElem?_map, List.getElem?_eq_getElem (by omega)]; rfl)
      rw [show x.length + (i - x.length) = i by omega] at this
      rw [this, RowB_at _ _ _ (by rw [List.length_append]; omega)]
      rw [List.getElem_append_right (by omega)]
    · rw [putL_out _ _ _ _ (.inr (by rw [List.length_map]; omega))]
      unfold RowB
      simp only [List.getElem?_toArray]
      rw [List.getElem?_append_right (by simp; omega), List.getElem?_append_right (by simp; omega)]
      simp only [List.length_map, List.length_append, List.getElem?_replicate]
      by_cases h3 : i < cap
      · rw [if_pos (by omega), if_pos (by omega)]
      · rw [if_neg (by omega), if_neg (by omega)]
theorem u8_info : ∃ i, Try.prog.info? 5 = some i ∧ i.zero = some (.int .u8 0) ∧ i.size = 1 ∧ i.bytes = 1 := by
  have h : (Try.prog.info? 5).map (fun i => (i.zero, i.size, i.bytes)) = some (some (.int .u8 0), 1, 1) := by kernel_rfl
  obtain ⟨i, hi, hz⟩ := Option.map_eq_some_iff.1 h
  simp only [Prod.mk.injEq] at hz
  exact ⟨i, hi, hz⟩
theorem run_zeros (n : Nat) (h0 : 0 < n) (hn : n ≤ 1000000) (w : World) (ty : TypeId) : ∃ cap, n ≤ cap ∧ (Builtin.append_ #[27, 3] ty #[.slice none 0 0, .int .i64 n]).run Try.prog w = .ok (.slice (some ⟨w.heap.size, 0, none⟩) n cap) (w.drew.alloc (.cells (RowB [] cap) 5)) := by
  obtain ⟨i, hi, hz, hs, hb⟩ := u8_info
  refine ⟨grownCap w n 0 5, grownCap_ge _ _ _ _, ?_⟩
  have h := Lib.run_append_nil_zeros (P := Try.prog) w 27 3 ty 5 i (.int .u8 0) .i64 .i64 Try.underlying27 Try.underlying3 hi hz n h0 (by omega) (by omega) (by rw [hb]; omega)
  rw [h]
  have hg := grownCap_ge w n 0 5
  generalize grownCap w n 0 5 = cap at *
  have hzc : ∀ k, (Builtin.zeroCells (Value.int .u8 0).cells k).toList = List.replicate k (Value.int .u8 0) := fun k => by
    apply List.ext_getElem
    · simp [Builtin.zeroCells, Value.cells]
    · intro i h1 h2
      simp [Builtin.zeroCells, Value.cells, Nat.mod_one]
  have hrow : Builtin.zeroCells (Value.int .u8 0).cells n ++ Builtin.zeroCells (Value.int .u8 0).cells (cap - n) = RowB [] cap := by
    apply Array.ext'
    rw [Array.toList_append, hzc, hzc]
    simp [RowB]
    omega
  rw [hrow]
set_option maxRecDepth 20000 in
theorem grow_any (n : Nat) (h0 : 0 < n) (hn : n ≤ 1000000) (w : World) :
    Calls Try.prog 87 #[.slice none 0 0, .int .i64 n] w fun e w' => ∃ cap, e = .returned (.slice (some ⟨w.heap.size, 0, none⟩) 0 cap) ∧ n ≤ cap ∧ Below w.heap.size w w' ∧ w'.heap[w.heap.size]? = some (.cells (RowB [] cap) 5 (0, 0)) := by
  obtain ⟨cap, hcap, hr⟩ := run_zeros n h0 hn w 27
  have HR : Hid ((Builtin.append_ #[27, 3] 27 #[.slice none 0 0, .int .i64 n]).run Try.prog w = .ok (.slice (some ⟨w.heap.size, 0, none⟩) n cap) (w.drew.alloc (.cells (RowB [] cap) 5))) := hr
  clear hr
  obtain ⟨M, hM⟩ : ∃ M : Int, (n : Int) = M := ⟨_, rfl⟩
  have hi0 : 0 < M := by omega
  have hi1 : M ≤ 1000000 := by omega
  have HC : Hid (n ≤ cap) := hcap
  rw [hM] at HR ⊢
  clear hM hcap h0 hn
  go_enter Try.func87, Try.ntmps87
  go_wp2_with (at_builtin; refine Lib.wpList_append_run w rfl (.tmp 20) (.tmp 21) 27 3 rfl _ _ rfl rfl _ _ HR.out ?_)
  go_ret
  exact ⟨cap, rfl, HC.out, (Below.refl _ w).drew.alloc (by simp) _, (MapKept.heap_alloc w.drew _).1⟩

/-- append where there is room, of bytes that lie elsewhere -/
theorem run_app_room (G cap : Nat) (x y : List UInt8) (a : Option Addr) (c : Nat) (w : World) (hG : w.heap[G]? = some (.cells (RowB x cap) 5 (0, 0))) (hy : Bts w a y) (hc : x.length + y.length ≤ cap) (hne : y ≠ []) (ty : TypeId) :
    (Builtin.append_ #[27, 27] ty #[.slice (some ⟨G, 0, none⟩) x.length cap, .slice a y.length c]).run Try.prog w = .ok (.slice (some ⟨G, 0, none⟩) (x.length + y.length) cap) (w.setRow G (RowB (x ++ y) cap)) := by
  obtain ⟨i, hi, hz, hs, hb⟩ := u8_info
  rcases hy with h | ⟨b, o, rfl, hcell⟩
  · exact absurd h hne
  have hsrc : Src Try.prog i.size 27 (.slice (some ⟨b, o, none⟩) y.length c) y.length (y.map cellB) w := by
    rw [hs]
    refine Src.ofSlice w Try.underlying27 ⟨b, o, none⟩ y.length c (y.map cellB) (by simp) (fun j v hv => ?_) (by intro u hu; obtain ⟨c, _, rfl⟩ := List.mem_map.1 hu; rfl)
    have hj : j < y.length := by simpa using (List.getElem?_eq_some_iff.1 hv).1
    rw [List.getElem?_map, List.getElem?_eq_getElem hj] at hv
    rw [Addr.add_mid, hcell j hj]
    exact hv
  have h := run_append_room_src (P := Try.prog) w 27 27 ty 5 i Try.underlying27 hi G 0 x.length cap (.slice (some ⟨b, o, none⟩) y.length c) y.length (y.map cellB) hsrc hc
    (fun j hj => by
      rw [List.length_map] at hj
      rw [cell_of_row _ _ _ _ _ _ hG, hs, Array.getElem?_eq_getElem (by rw [RowB_size _ _ (by omega)]; omega)]; rfl)
    (fun j hj => frozen_of_row _ _ _ _ _ hG)
  rw [h, hs, setCells_row _ w G _ _ _ hG, show 0 + x.length * 1 = x.length by omega, putL_rowB x y cap hc]
set_option maxRecDepth 20000 in
set_option maxHeartbeats 2000000 in
theorem concat_any (sb : Nat) (p1 p2 : Option Addr) (l1 l2 : List UInt8) (c1 c2 : Nat) (h1 : l1 ≠ []) (h2 : l2 ≠ []) (hl : l1.length + l2.length ≤ 1000000) (w : World) (hr : w.heap[sb]? = some (.cells #[.slice p1 l1.length c1, .slice p2 l2.length c2] 27 (0, 0))) (b1 : Bts w p1 l1) (b2 : Bts w p2 l2) :
    Calls Try.prog 77 #[.slice (some ⟨sb, 0, none⟩) 2 2] w fun e w' => ∃ cap, e = .returned (.slice (some ⟨w.heap.size, 0, none⟩) (l1 ++ l2).length cap) ∧ (l1 ++ l2).length ≤ cap ∧ Below w.heap.size w w' ∧ w'.heap[w.heap.size]? = some (.cells (RowB (l1 ++ l2) cap) 5 (0, 0)) := by
  have n1 : 0 < l1.length := List.length_pos_iff.2 h1
  have HG : Hid (Calls Try.prog 87 #[.slice none 0 0, .int .i64 ((l1.length + l2.length : Nat) : Int)] w fun e w' => ∃ cap, e = .returned (.slice (some ⟨w.heap.size, 0, none⟩) 0 cap) ∧ l1.length + l2.length ≤ cap ∧ Below w.heap.size w w' ∧ w'.heap[w.heap.size]? = some (.cells (RowB [] cap) 5 (0, 0))) := grow_any (l1.length + l2.length) (by omega) hl w
  have HB1 : Hid (Bts w p1 l1) := b1
  have HB2 : Hid (Bts w p2 l2) := b2
  have HR : Hid (w.heap[sb]? = some (.cells #[.slice p1 l1.length c1, .slice p2 l2.length c2] 27 (0, 0))) := hr
  have hsb := (Array.getElem?_eq_some_iff.1 hr).1
  have k0 : w.cell? ⟨sb, 0, none⟩ = some (.slice p1 l1.length c1) := by rw [cell_of_row _ _ _ _ _ _ hr]; rfl
  have k1 : w.cell? ⟨sb, 1, none⟩ = some (.slice p2 l2.length c2) := by rw [cell_of_row _ _ _ _ _ _ hr]; rfl
  obtain ⟨M1, hM1⟩ : ∃ M : Int, (l1.length : Int) = M := ⟨_, rfl⟩
  obtain ⟨M2, hM2⟩ : ∃ M : Int, ((l1.length + l2.length : Nat) : Int) = M := ⟨_, rfl⟩
  have a1 : wrap64 M1 = M1 := by simp only [wrap64]; omega
  have a2 : wrap64 (M1 + (l2.length : Int)) = M2 := by simp only [wrap64]; omega
  have a3 : ¬ M1 < 0 := by omega
  have a4 : ¬ M2 < 0 := by omega
  clear hr b1 b2
  rw [hM2] at HG
  have HH1 : Hid (l1 ≠ []) := h1
  have HH2 : Hid (l2 ≠ []) := h2
  go_enter Try.func77, Try.ntmps77
  clear h1 h2 n1 hl
  go_wp2_with fail
  go_loopg [3, 11] 2 (fun k v3 v11 wr => wr = w ∧ ((k = 2 ∧ v11 = .int .i64 0 ∧ v3 = .int .i64 0) ∨ (k = 1 ∧ v11 = .int .i64 1 ∧ v3 = .int .i64 M1) ∨ (k = 0 ∧ v11 = .int .i64 2 ∧ v3 = .int .i64 M2)))
  case atStart => exact ⟨rfl, .inl ⟨rfl, rfl, rfl⟩⟩
  case round =>
    obtain ⟨rfl, ⟨rfl, rfl, rfl⟩ | ⟨rfl, rfl, rfl⟩ | ⟨rfl, rfl, rfl⟩⟩ := hrel
    · go_wp2_with fail
      go_roundg 1
      case measure => omega
      case rel => exact ⟨rfl, .inr (.inl ⟨rfl, rfl, by rw [a1]⟩)⟩
    · go_wp2_with fail
      go_roundg 0
      case measure => omega
      case rel => exact ⟨rfl, .inr (.inr ⟨rfl, rfl, by rw [a2]⟩)⟩
    · go_wp2_with fail
      refine HG.out.mono ?_
      rintro e w1 ⟨cap, rfl, hcap, bel, hrow⟩
      have q0 : w1.cell? ⟨sb, 0, none⟩ = some (.slice p1 l1.length c1) := by rw [bel.cell (p := ⟨sb, 0, none⟩) hsb]; exact k0
      have z1 : wr.heap.size < w1.heap.size := (Array.getElem?_eq_some_iff.1 hrow).1
      have HRUN1 : Hid ((Builtin.append_ #[27, 27] 27 #[.slice (some ⟨wr.heap.size, 0, none⟩) 0 cap, .slice p1 l1.length c1]).run Try.prog w1 = .ok (.slice (some ⟨wr.heap.size, 0, none⟩) l1.length cap) (w1.setRow wr.heap.size (RowB l1 cap))) := by
        have := run_app_room wr.heap.size cap [] l1 p1 c1 w1 hrow (HB1.out.below bel) (by simp; omega) HH1.out 27
        show _ = _
        simpa using this
      obtain ⟨w2, hw2⟩ : ∃ w2, w1.setRow wr.heap.size (RowB l1 cap) = w2 := ⟨_, rfl⟩
      have row2 : w2.heap[wr.heap.size]? = some (.cells (RowB l1 cap) 5 (0, 0)) := by rw [← hw2]; exact setRow_heap _ _ _ _ _ _ hrow
      have bel2 : Below wr.heap.size wr w2 := by rw [← hw2]; exact below_setRow bel (Nat.le_refl _) _
      have q1 : w2.cell? ⟨sb, 1, none⟩ = some (.slice p2 l2.length c2) := by rw [bel2.cell (p := ⟨sb, 1, none⟩) hsb]; exact k1
      have HRUN2 : Hid ((Builtin.append_ #[27, 27] 27 #[.slice (some ⟨wr.heap.size, 0, none⟩) l1.length cap, .slice p2 l2.length c2]).run Try.prog w2 = .ok (.slice (some ⟨wr.heap.size, 0, none⟩) (l1.length + l2.length) cap) (w2.setRow wr.heap.size (RowB (l1 ++ l2) cap))) := run_app_room wr.heap.size cap l1 l2 p2 c2 w2 row2 (HB2.out.below bel2) hcap HH2.out 27
      obtain ⟨w3, hw3⟩ : ∃ w3, w2.setRow wr.heap.size (RowB (l1 ++ l2) cap) = w3 := ⟨_, rfl⟩
      have HROW3 : Hid (w3.heap[wr.heap.size]? = some (.cells (RowB (l1 ++ l2) cap) 5 (0, 0))) := by show _ = _; rw [← hw3]; exact setRow_heap _ _ _ _ _ _ row2
      have HBEL3 : Hid (Below wr.heap.size wr w3) := by show Below _ _ _; rw [← hw3]; exact below_setRow bel2 (Nat.le_refl _) _
      rw [hw2] at HRUN1
      rw [hw3] at HRUN2
      have HCAP : Hid (l1.length + l2.length ≤ cap) := hcap
      clear bel hrow hw2 row2 bel2 hw3 HG HB1 HB2 HR k0 k1 hcap hM2 a2 a4 hM1 a1 a3
      go_wp2_with fail
      go_loopg [6, 27] 2 (fun k v6 v27 wq => (k = 2 ∧ v27 = .int .i64 0 ∧ v6 = .slice (some ⟨wr.heap.size, 0, none⟩) 0 cap ∧ wq = w1) ∨ (k = 1 ∧ v27 = .int .i64 1 ∧ v6 = .slice (some ⟨wr.heap.size, 0, none⟩) l1.length cap ∧ wq = w2) ∨ (k = 0 ∧ v27 = .int .i64 2 ∧ v6 = .slice (some ⟨wr.heap.size, 0, none⟩) (l1.length + l2.length) cap ∧ wq = w3))
      case atStart => exact .inl ⟨rfl, rfl, rfl, rfl⟩
      case round =>
        obtain ⟨rfl, rfl, rfl, rfl⟩ | ⟨rfl, rfl, rfl, rfl⟩ | ⟨rfl, rfl, rfl, rfl⟩ := hrel
        · go_wp2_with (at_builtin; refine Lib.wpList_append_run _ rfl (.tmp 31) (.tmp 32) 27 27 rfl _ _ rfl rfl _ _ HRUN1.out ?_)
          go_roundg 1
          case measure => omega
          case rel => exact .inr (.inl ⟨rfl, rfl, rfl, rfl⟩)
        · go_wp2_with (at_builtin; refine Lib.wpList_append_run _ rfl (.tmp 31) (.tmp 32) 27 27 rfl _ _ rfl rfl _ _ HRUN2.out ?_)
          go_roundg 0
          case measure => omega
          case rel => exact .inr (.inr ⟨rfl, rfl, rfl, rfl⟩)
        · go_wp2_with fail
          go_ret
          exact ⟨cap, by rw [List.length_append]; rfl, by rw [List.length_append]; exact HCAP.out, HBEL3.out, HROW3.out⟩
abbrev HeadV (who gen : Nat) : Array Value := #[.int .u8 (who : Int), .int .u8 ((gen : Int) / 256), .int .u8 ((gen : Int) % 256)]
theorem headV_row (who gen : Nat) (hw : who < 16) (hg : (gen : Int) ≤ 65535) : HeadV who gen = RowB (HeadB who gen) 3 := by
  have e1 : (who : Int) = ((UInt8.ofNat who).toNat : Int) := by rw [UInt8.toNat_ofNat']; omega
  have e2 : ((gen : Int) / 256) = ((UInt8.ofNat (gen / 256)).toNat : Int) := by rw [UInt8.toNat_ofNat']; omega
  have e3 : ((gen : Int) % 256) = ((UInt8.ofNat gen).toNat : Int) := by rw [UInt8.toNat_ofNat']; omega
  unfold HeadV RowB HeadB
  rw [e1, e2, e3]
  rfl
theorem headOf_any (who gen : Nat) (hw : who < 16) (hg : (gen : Int) ≤ 65535) (w : World) :
    Calls Try.prog 76 #[.int .i64 who, .int .i64 gen] w fun e w' => e = .returned (.agg (HeadV who gen)) ∧ w' = w.alloc (.cells (HeadV who gen) 141) := by
  go_enter Try.func76, Try.ntmps76
  go_wp2_with fail
  exact bodyPost_ret (v := .agg (HeadV who gen)) (results_cell_row rfl _ _ w.heap.size 141 (HeadV who gen) (0, 0) _ rfl (MapKept.heap_alloc _ _).1 Try.underlying141 rfl (by kernel_rfl)) rfl ⟨rfl, rfl⟩
end Go.Proofs.Ytcboagjfajdpeaa
