/- The ratchet: ratchetOf, turn, goTo, key. -/
import Derived.Test.YtpmcllcpjddooaaHalves
import Derived.Test.YtpmcllcpjddooaaRefPart
import Derived.WalkKit
import Derived.WalkSpells
import Derived.WalkLawsBesides
import Derived.Deep.WholeRow
import Derived.Deep.DeepCutAuto
import Derived.BigRegion
import Derived.Deep.LoopGhost
namespace Go.Proofs.Ytpmcllcpjddooaa
open Go.RowKit

abbrev CellsR (g : Int) (s : Nat → Int) : Array Value := #[.int .i64 g, .int .u8 (s 0), .int .u8 (s 1), .int .u8 (s 2), .int .u8 (s 3), .int .u8 (s 4), .int .u8 (s 5), .int .u8 (s 6), .int .u8 (s 7)]
abbrev AggR (g : Int) (s : Nat → Int) : Value := .agg (CellsR g s)
theorem storesR (w : World) (b : Nat) (ty : TypeId) (g : Int) (x D : Nat → Int) (hg : w.heap[b]? = some (.cells (CellsR g x) ty (0, 0))) :
    ((((((((w.setCell ⟨b, 1, none⟩ (.int .u8 (D 0))).setCell ⟨b, 2, none⟩ (.int .u8 (D 1))).setCell ⟨b, 3, none⟩ (.int .u8 (D 2))).setCell ⟨b, 4, none⟩ (.int .u8 (D 3))).setCell ⟨b, 5, none⟩ (.int .u8 (D 4))).setCell ⟨b, 6, none⟩ (.int .u8 (D 5))).setCell ⟨b, 7, none⟩ (.int .u8 (D 6))).setCell ⟨b, 8, none⟩ (.int .u8 (D 7))) = w.setRow b (CellsR g D) := by
  rw [setCell_eq_setRow w b 1 _ ty (0, 0) _ hg]
  rw [setCell_eq_setRow _ b 2 _ ty (0, 0) _ (setRow_heap w b _ _ ty (0, 0) hg), setRow_setRow]
  rw [setCell_eq_setRow _ b 3 _ ty (0, 0) _ (setRow_heap w b _ _ ty (0, 0) hg), setRow_setRow]
  rw [setCell_eq_setRow _ b 4 _ ty (0, 0) _ (setRow_heap w b _ _ ty (0, 0) hg), setRow_setRow]
  rw [setCell_eq_setRow _ b 5 _ ty (0, 0) _ (setRow_heap w b _ _ ty (0, 0) hg), setRow_setRow]
  rw [setCell_eq_setRow _ b 6 _ ty (0, 0) _ (setRow_heap w b _ _ ty (0, 0) hg), setRow_setRow]
  rw [setCell_eq_setRow _ b 7 _ ty (0, 0) _ (setRow_heap w b _ _ ty (0, 0) hg), setRow_setRow]
  rw [setCell_eq_setRow _ b 8 _ ty (0, 0) _ (setRow_heap w b _ _ ty (0, 0) hg), setRow_setRow]
  simp

theorem ratchetOf_any (s : Nat → Int) (hs : ∀ i, 0 ≤ s i ∧ s i < 256) (w : World) :
    Calls Try.prog 30 #[Agg8 s] w fun e w' => e = .returned (AggR 0 (DerB s lRatchet 0)) ∧ Below w.heap.size w w' := by
  have HD : Hid (∀ W, Calls Try.prog 6 #[Agg8 s, .string ⟨#[114, 97, 116, 99, 104, 101, 116]⟩, .int .i64 0] W fun e w' => e = .returned (Agg8 (DerB s lRatchet 0)) ∧ Below W.heap.size W w') := fun W => derive_any s hs ⟨#[114, 97, 116, 99, 104, 101, 116]⟩ (by decide) 0 W
  obtain ⟨R, hR⟩ : ∃ R, DerB s lRatchet 0 = R := ⟨_, rfl⟩
  rw [hR] at HD ⊢
  clear hR
  go_enter Try.func30, Try.ntmps30
  go_wp2_with fail
  refine (HD.out _).mono ?_
  rintro e w1 ⟨rfl, b1⟩
  have z1 := b1.size
  simp at z1
  have c1 : w1.heap[w.heap.size + 1]? = some (.cells (CellsR 0 fun _ => 0) 60 (0, 0)) := by
    rw [b1.block _ (by simp)]
    have e := (MapKept.heap_alloc (w.alloc (.cells (Cells8 s) 23)) (.cells (CellsR 0 fun _ => 0) 60)).1
    simp only [World.size_alloc] at e
    exact e
  have d1 : Below w.heap.size w w1 := (((Below.refl _ w).alloc (Nat.le_refl _) _).alloc (by simp) _).trans (b1.mono (by simp; omega))
  clear b1
  go_wp2_with (refine wpList_store_row rfl 60 _ _ rfl (w.heap.size + 1) (CellsR 0 R) rfl rfl 60 (CellsR 0 fun _ => 0) c1 (by kernel_rfl) rfl (by simp [Value.oneCell']) ?_)
  exact bodyPost_ret (v := AggR 0 R) (results_cell_row rfl _ _ (w.heap.size + 1) 60 (CellsR 0 R) (0, 0) _ rfl (setRow_heap _ _ _ _ _ _ c1) Try.underlying60 rfl (by kernel_rfl)) rfl ⟨rfl, below_setRow d1 (by omega) _⟩

def RMid (w : World) (b : Nat) (g : Int) (s : Nat → Int) (wx : World) : Prop := Below b w wx ∧ b < wx.heap.size ∧ wx.heap[b]? = some (.cells (CellsR g s) 60 (0, 0))
theorem RMid.below {w W W' : World} {b : Nat} {g : Int} {s : Nat → Int} (h : RMid w b g s W) (hb : Below W.heap.size W W') : RMid w b g s W' := by
  obtain ⟨h1, h2, h3⟩ := h
  have hs := hb.size
  exact ⟨h1.trans (hb.mono (by omega)), by omega, by rw [hb.block _ (by omega), h3]⟩
theorem RMid.drew {w W : World} {b : Nat} {g : Int} {s : Nat → Int} (h : RMid w b g s W) : RMid w b g s W.drew := ⟨h.1.drew, h.2⟩
theorem RMid.set {w W : World} {b : Nat} {g : Int} {s : Nat → Int} (h : RMid w b g s W) (g' : Int) (s' : Nat → Int) : RMid w b g' s' (W.setRow b (CellsR g' s')) :=
  ⟨below_setRow h.1 (Nat.le_refl _) _, by simp; exact h.2.1, setRow_heap _ _ _ _ _ _ h.2.2⟩

theorem newcell (w w1 : World) (hb : Below (w.alloc (.cells (Cells8 fun _ => 0) 23)).drew.heap.size (w.alloc (.cells (Cells8 fun _ => 0) 23)).drew w1) : Below w.heap.size w w1 ∧ w1.heap[w.heap.size]? = some (.cells (Cells8 fun _ => 0) 23 (0, 0)) := by
  refine ⟨((Below.refl _ w).alloc (Nat.le_refl _) _).drew.trans (hb.mono (by show w.heap.size ≤ (w.alloc _).heap.size; simp)), ?_⟩
  rw [hb.block _ (by show w.heap.size < (w.alloc _).heap.size; simp)]
  exact (MapKept.heap_alloc _ _).1

set_option maxHeartbeats 2000000 in
theorem turn_any (g : Nat) (hg : g ≤ 65535) (s : Nat → Int) (hs : ∀ i, 0 ≤ s i ∧ s i < 256) (b : Nat) (w : World) (h : w.heap[b]? = some (.cells (CellsR g s) 60 (0, 0))) :
    Calls Try.prog 32 #[.pointer (some ⟨b, 0, none⟩)] w fun e w' => e = .returned (.tuple #[]) ∧ RMid w b (g + 1 : Nat) (DerB s lNext g) w' := by
  have HD : Hid (∀ W, Calls Try.prog 6 #[Agg8 s, .string ⟨#[110, 101, 120, 116]⟩, .int .i64 g] W fun e w' => e = .returned (Agg8 (DerB s lNext g)) ∧ Below W.heap.size W w') := fun W => derive_any s hs ⟨#[110, 101, 120, 116]⟩ (by decide) g W
  obtain ⟨R, hR⟩ : ∃ R, DerB s lNext g = R := ⟨_, rfl⟩
  rw [hR] at HD ⊢
  clear hR hs
  have hm : RMid w b g s w := ⟨Below.refl _ _, (Array.getElem?_eq_some_iff.1 h).1, h⟩
  obtain ⟨hA, hAf⟩ := row_facts h
  go_enter Try.func32, Try.ntmps32
  go_upto_region 0 with fail
  go_cut [] (fun wx => RMid w b g R wx)
  case first =>
    go_region_with (go_at_call 6; refine (HD.out _).mono ?_; rintro e w1 ⟨rfl, hb1⟩; obtain ⟨hA1, hAf1⟩ := row_facts ((hm.drew).below hb1).2.2)
    all_goals
      go_wp2_with fail
      go_meet
      rw [storesR w1 b _ _ _ R ((hm.drew).below hb1).2.2]
      exact ((hm.drew).below hb1).set g R
  case rest =>
    clear hm hA hAf HD h
    obtain ⟨hA, hAf⟩ := row_facts hcut.2.2
    go_wp2_with fail
    go_end0
    refine ⟨rfl, ?_⟩
    rw [setCell_eq_setRow wc b 0 _ _ (0, 0) _ hcut.2.2]
    exact hcut.set (g + 1 : Nat) R

set_option maxHeartbeats 1000000 in
theorem goTo_any (j g : Nat) (hjg : j ≤ g) (hg : g ≤ 65535) (R : Nat → Int) (hR : ∀ i, 0 ≤ R i ∧ R i < 256) (b : Nat) (w : World) (h : w.heap[b]? = some (.cells (CellsR j (RatB R j)) 60 (0, 0))) :
    Calls Try.prog 31 #[.pointer (some ⟨b, 0, none⟩), .int .i64 g, .func (.func 32) #[.pointer (some ⟨b, 0, none⟩)] #[]] w fun e w' => e = .returned (.tuple #[]) ∧ RMid w b g (RatB R g) w' := by
  have HT : Hid (∀ (i : Nat) W, i ≤ 65535 → W.heap[b]? = some (.cells (CellsR i (RatB R i)) 60 (0, 0)) → Calls Try.prog 32 #[.pointer (some ⟨b, 0, none⟩)] W fun e w' => e = .returned (.tuple #[]) ∧ RMid W b (i + 1 : Nat) (RatB R (i + 1)) w') := fun i W hi hW => turn_any i hi (RatB R i) (RatB_bd R hR i) b W hW
  obtain ⟨Z, hZ⟩ : ∃ Z, RatB R = Z := ⟨_, rfl⟩
  rw [hZ] at HT h ⊢
  clear hZ hR
  have hm : RMid w b j (Z j) w := ⟨Below.refl _ _, (Array.getElem?_eq_some_iff.1 h).1, h⟩
  obtain ⟨hA, hAf⟩ := row_facts h
  go_enter Try.func31, Try.ntmps31
  go_wp2_with fail
  clear hA hAf h
  go_loopg [12] (g - j) (fun k i wr => ∃ i' : Nat, i = .int .i64 i' ∧ i' + k = g - j ∧ RMid w b (j + i' : Nat) (Z (j + i')) wr)
  case atStart => exact ⟨0, rfl, by omega, hm⟩
  case round =>
    obtain ⟨i, rfl, hik, hr⟩ := hrel
    by_cases hlt : (i : Int) < (g : Int) - j
    · go_wp2_with fail
      refine (HT.out (j + i) _ (by omega) hr.2.2).mono ?_
      rintro e w2 ⟨rfl, hr2⟩
      have hr3 : RMid w b (j + (i + 1) : Nat) (Z (j + (i + 1))) w2 := ⟨hr.1.trans hr2.1, hr2.2⟩
      clear hr hr2 hm HT
      go_wp2_with fail
      go_roundg (gk - 1)
      case measure => omega
      case rel => exact ⟨i + 1, by go_num, by omega, hr3⟩
    · obtain rfl : g = j + i := by omega
      clear hm HT
      go_wp2_with fail
      go_end0
      exact ⟨rfl, hr⟩

set_option maxHeartbeats 2000000 in
theorem rkey_any (g : Nat) (s : Nat → Int) (hs : ∀ i, 0 ≤ s i ∧ s i < 256) (b : Nat) (w : World) (h : w.heap[b]? = some (.cells (CellsR g s) 60 (0, 0))) :
    Calls Try.prog 33 #[.pointer (some ⟨b, 0, none⟩)] w fun e w' => e = .returned (Agg8 (DerB s lKey g)) ∧ Below w.heap.size w w' := by
  have HD : Hid (∀ W, Calls Try.prog 6 #[Agg8 s, .string ⟨#[107, 101, 121]⟩, .int .i64 g] W fun e w' => e = .returned (Agg8 (DerB s lKey g)) ∧ Below W.heap.size W w') := fun W => derive_any s hs ⟨#[107, 101, 121]⟩ (by decide) g W
  obtain ⟨R, hR⟩ : ∃ R, DerB s lKey g = R := ⟨_, rfl⟩
  rw [hR] at HD ⊢
  clear hR hs
  have hlt : b < w.heap.size := (Array.getElem?_eq_some_iff.1 h).1
  have h' : (w.alloc (.cells C0 23)).heap[b]? = some (.cells (CellsR g s) 60 (0, 0)) := by rw [Below.heap_alloc _ _ _ hlt, h]
  obtain ⟨hA, hAf⟩ := row_facts h'
  go_enter Try.func33, Try.ntmps33
  go_upto_region 1 with fail
  go_cut [] (fun wx => Below w.heap.size w wx ∧ wx.heap[w.heap.size]? = some (.cells (Cells8 R) 23 (0, 0)))
  case first =>
    go_region_with (go_at_call 6; refine (HD.out _).mono ?_; rintro e w1 ⟨rfl, hb1⟩; obtain ⟨hk1, hk2⟩ := newcell w w1 hb1; obtain ⟨hA1, hAf1⟩ := row_facts hk2)
    all_goals
      go_wp2_with fail
      go_meet
      rw [stores8_row w1 w.heap.size _ _ R hk2]
      exact ⟨below_setRow hk1 (Nat.le_refl _) _, setRow_heap _ _ _ _ _ _ hk2⟩
  case rest =>
    go_wp2_with fail
    exact bodyPost_ret (v := Agg8 R) (results_cell_row rfl _ _ w.heap.size 23 (Cells8 R) (0, 0) _ rfl hcut.2 Try.underlying23 rfl (by kernel_rfl)) rfl ⟨rfl, hcut.1⟩
end Go.Proofs.Ytpmcllcpjddooaa
