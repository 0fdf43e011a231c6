import Derived.Test.YtkpebabbnndopaaGreatDoorC08
import Derived.WalkKit
import Derived.WalkSpells
import Derived.WalkLawsBesides
import Derived.Deep.WholeRow
import Derived.Deep.LoopGhost
import Derived.Test.YtkpebabbnndopaaGreatDoorRows
import Derived.Test.YtkpebabbnndopaaGreatDoorC01
import Derived.Laws.CopyRow
import Derived.Test.YtkpebabbnndopaaGreatDoorC07
import Derived.Laws.CopyOwn
import Derived.BigRegion
import Derived.Deep.AppendSrc
import Derived.Deep.DeepCutAuto
import Derived.Laws.BytesArg
/- epochref.Ratchet, Leaf, Key. -/
namespace Go.Proofs.YtkpebabbnndopaaGreatDoor
open Go.RowKit

set_option maxHeartbeats 1000000 in
theorem refRatchet_any (s : Nat → Int) (hs : ∀ i, 0 ≤ s i ∧ s i < 256) (n m : Int) (hn : n ≤ 16) (hm0 : 0 ≤ m) (hm : m < n) (g : Nat) (hg : g ≤ 65535) (w : World) :
    Calls Tryz.prog 83 #[Agg8 s, .int .i64 n, .int .i64 m, .int .i64 g] w fun e w' => e = .returned (Agg8 (RatM s n m g)) ∧ Below w.heap.size w w' := by
  have HP : Hid (∀ W, Calls Tryz.prog 79 #[Agg8 s, .int .i64 0, .int .i64 n, .int .i64 m, .int .i64 (m + 1)] W fun e w' => e = .returned (Agg8 (LeafM s n m)) ∧ Below W.heap.size W w') := fun W => refPart_any 16 s hs 0 n m W (by omega) (by omega) (by omega) (by omega) (by omega)
  have hLb : ∀ i, 0 ≤ LeafM s n m i ∧ LeafM s n m i < 256 := LeafB_bd _ _ _ _ _ hs
  unfold RatM
  obtain ⟨L, hL⟩ : ∃ L, LeafM s n m = L := ⟨_, rfl⟩
  rw [hL] at HP hLb ⊢
  clear hL hs
  have HD0 : Hid (∀ W, Calls Tryz.prog 31 #[Agg8 L, .string ⟨#[114, 97, 116, 99, 104, 101, 116]⟩, .int .i64 0] W fun e w' => e = .returned (Agg8 (DerB L lRatchet 0)) ∧ Below W.heap.size W w') := fun W => refDerive_any L hLb ⟨#[114, 97, 116, 99, 104, 101, 116]⟩ (by decide) 0 W
  have hRb : ∀ i, 0 ≤ DerB L lRatchet 0 i ∧ DerB L lRatchet 0 i < 256 := DerB_bd _ _ _
  obtain ⟨R, hR⟩ : ∃ R, DerB L lRatchet 0 = R := ⟨_, rfl⟩
  rw [hR] at HD0 hRb ⊢
  clear hR hLb
  have HD : Hid (∀ (j : Nat) W, Calls Tryz.prog 31 #[Agg8 (RatB R j), .string ⟨#[110, 101, 120, 116]⟩, .int .i64 j] W fun e w' => e = .returned (Agg8 (RatB R (j + 1))) ∧ Below W.heap.size W w') := fun j W => refDerive_any (RatB R j) (RatB_bd R hRb j) ⟨#[110, 101, 120, 116]⟩ (by decide) j W
  obtain ⟨Z, hZ⟩ : ∃ Z, RatB R = Z := ⟨_, rfl⟩
  have hZ0 : R = Z 0 := by rw [← hZ]; rfl
  rw [hZ] at HD ⊢
  clear hZ hRb
  subst hZ0
  go_enter Tryz.func83, Tryz.ntmps83
  go_wp2_with fail
  refine (HP.out _).mono ?_
  rintro e w1 ⟨rfl, b1⟩
  obtain ⟨c1, d1, z1⟩ := cell1 _ _ _ b1
  clear b1
  go_wp2_with fail
  refine (HD0.out _).mono ?_
  rintro e w2 ⟨rfl, b2⟩
  have c2 : w2.heap[w.heap.size + 1]? = some (.cells C0 51 (0, 0)) := by rw [b2.block _ (by simp; omega), Below.heap_alloc _ _ _ (by omega), c1]
  have d2 : Below w.heap.size w w2 := (d1.alloc (by omega) _).trans (b2.mono (by simp; omega))
  have z2 : w.heap.size + 2 ≤ w2.heap.size := by have := b2.size; simp at this; omega
  clear b2 c1 d1 z1 HP HD0
  go_wp2_with fail
  go_loopg [11] g (fun k i wr => ∃ j : Nat, j + k = g ∧ i = .int .i64 j ∧ Below w.heap.size w wr ∧ w2.heap.size < wr.heap.size ∧ wr.heap[w.heap.size + 1]? = some (.cells C0 51 (0, 0)) ∧ wr.heap[w2.heap.size]? = some (.cells (Cells8 (Z j)) 51 (0, 0)))
  case atStart => exact ⟨0, by omega, rfl, d2.alloc (by omega) _, by simp, by rw [Below.heap_alloc _ _ _ (by omega), c2], (MapKept.heap_alloc _ _).1⟩
  case round =>
    obtain ⟨j, hj, rfl, e1, e2, e3, e4⟩ := hrel
    clear c2 d2
    by_cases hlt : j < g
    · go_wp2_with (refine wpList_load_row rfl 51 _ rfl w2.heap.size rfl 51 (Cells8 (Z j)) (0, 0) _ e4 Tryz.underlying51 rfl (by kernel_rfl) ?_)
      refine (HD.out j _).mono ?_
      rintro e w3 ⟨rfl, b3⟩
      have f1 : Below w.heap.size w w3 := e1.trans (b3.mono (by omega))
      have f2 : w2.heap.size < w3.heap.size := by have := b3.size; omega
      have f3 : w3.heap[w.heap.size + 1]? = some (.cells C0 51 (0, 0)) := by rw [b3.block _ (by omega), e3]
      have f4 : w3.heap[w2.heap.size]? = some (.cells (Cells8 (Z j)) 51 (0, 0)) := by rw [b3.block _ (by omega), e4]
      clear e1 e2 e3 e4 b3
      go_wp2_with (refine wpList_store_row rfl 51 _ _ rfl w2.heap.size (Cells8 (Z (j + 1))) rfl rfl 51 (Cells8 (Z j)) f4 (by kernel_rfl) rfl (by simp [Value.oneCell']) ?_)
      go_roundg (gk - 1)
      case measure => omega
      case rel => exact ⟨j + 1, by omega, by go_num, below_setRow f1 (by omega) _, by simp; omega, by rw [setRow_other _ _ _ _ (by omega), f3], setRow_heap _ _ _ _ _ _ f4⟩
    · obtain rfl : j = g := by omega
      go_wp2_with (first | refine wpList_load_row rfl 51 _ rfl w2.heap.size rfl 51 (Cells8 (Z j)) (0, 0) _ e4 Tryz.underlying51 rfl (by kernel_rfl) ?_ | refine wpList_store_row rfl 51 _ _ rfl (w.heap.size + 1) (Cells8 (Z j)) rfl rfl 51 C0 e3 (by kernel_rfl) rfl (by simp [Value.oneCell']) ?_)
      exact bodyPost_ret (v := Agg8 (Z j)) (results_cell_row rfl _ _ (w.heap.size + 1) 51 (Cells8 (Z j)) (0, 0) _ rfl (setRow_heap _ _ _ _ _ _ e3) Tryz.underlying51 rfl (by kernel_rfl)) rfl ⟨rfl, below_setRow e1 (by omega) _⟩

set_option maxHeartbeats 1000000 in
theorem refKey_any (s : Nat → Int) (hs : ∀ i, 0 ≤ s i ∧ s i < 256) (n m g : Int) (w : World) :
    Calls Tryz.prog 39 #[Agg8 s, .int .i64 n, .int .i64 m, .int .i64 g] w fun e w' => e = .returned (.tuple #[Agg8 (KeyV s n m g), .int .i64 (KeyE n m g)]) ∧ Below w.heap.size w w' := by
  have HM : Hid (∀ W, Calls Tryz.prog 64 #[.int .i64 n, .int .i64 m] W fun e w' => e = .returned (.bool (FitB n m)) ∧ w' = W) := fun W => fits_any n m W
  obtain ⟨c0, d0, _⟩ := cell1 w _ (.cells (Cells8 s) 51) (Below.refl _ _)
  have C1 : Hid (((w.alloc (.cells (Cells8 s) 51)).alloc (.cells C0 51)).heap[w.heap.size + 1]? = some (.cells C0 51 (0, 0))) := c0
  clear c0
  cases hfit : FitB n m with
  | false =>
    have e1 : KeyV s n m g = fun _ => 0 := by unfold KeyV; rw [hfit]; rfl
    have e2 : KeyE n m g = 1 := by unfold KeyE; rw [hfit]; rfl
    rw [e1, e2]
    rw [hfit] at HM
    clear e1 e2 hfit hs
    go_enter Tryz.func39, Tryz.ntmps39
    go_wp2_with (go_at_call 64; refine (HM.out _).mono ?_; rintro e w' ⟨rfl, rfl⟩)
    exact bodyPost_ret (v := .tuple #[.agg C0, .int .i64 1]) (results_row_tmp rfl _ _ (w.heap.size + 1) 51 C0 (0, 0) _ (.int .i64 1) rfl rfl C1.out Tryz.underlying51 rfl (by kernel_rfl)) rfl ⟨rfl, d0⟩
  | true =>
    obtain ⟨f1, f2, f3, f4⟩ := (fitB_iff n m).1 hfit
    cases hgen : GenB g with
    | false =>
      have e1 : KeyV s n m g = fun _ => 0 := by unfold KeyV; rw [hfit, hgen]; rfl
      have e2 : KeyE n m g = 8 := by unfold KeyE; rw [hfit, hgen]; rfl
      rw [e1, e2]
      rw [hfit] at HM
      have hg : ¬ (0 ≤ g ∧ g ≤ 65535) := fun h => by rw [(genB_iff g).2 h] at hgen; cases hgen
      clear e1 e2 hfit hgen hs
      by_cases hneg : g < 0
      · go_enter Tryz.func39, Tryz.ntmps39
        go_wp2_with (go_at_call 64; refine (HM.out _).mono ?_; rintro e w' ⟨rfl, rfl⟩)
        exact bodyPost_ret (v := .tuple #[.agg C0, .int .i64 8]) (results_row_tmp rfl _ _ (w.heap.size + 1) 51 C0 (0, 0) _ (.int .i64 8) rfl rfl C1.out Tryz.underlying51 rfl (by kernel_rfl)) rfl ⟨rfl, d0⟩
      · have hbig : 65535 < g := by omega
        clear hg
        go_enter Tryz.func39, Tryz.ntmps39
        go_wp2_with (go_at_call 64; refine (HM.out _).mono ?_; rintro e w' ⟨rfl, rfl⟩)
        exact bodyPost_ret (v := .tuple #[.agg C0, .int .i64 8]) (results_row_tmp rfl _ _ (w.heap.size + 1) 51 C0 (0, 0) _ (.int .i64 8) rfl rfl C1.out Tryz.underlying51 rfl (by kernel_rfl)) rfl ⟨rfl, d0⟩
    | true =>
      obtain ⟨g0, g1⟩ := (genB_iff g).1 hgen
      obtain ⟨k, rfl⟩ : ∃ k : Nat, g = k := ⟨g.toNat, by omega⟩
      have e1 : KeyV s n m k = KeyM s n m k := by unfold KeyV; rw [hfit, hgen]; rfl
      have e2 : KeyE n m k = 0 := by unfold KeyE; rw [hfit, hgen]; rfl
      rw [e1, e2]
      rw [hfit] at HM
      have HR : Hid (∀ W, Calls Tryz.prog 83 #[Agg8 s, .int .i64 n, .int .i64 m, .int .i64 k] W fun e w' => e = .returned (Agg8 (RatM s n m k)) ∧ Below W.heap.size W w') := fun W => refRatchet_any s hs n m f2 f3 f4 k (by omega) W
      unfold KeyM
      have hRb : ∀ i, 0 ≤ RatM s n m k i ∧ RatM s n m k i < 256 := RatB_bd _ (DerB_bd _ _ _) k
      obtain ⟨R, hR⟩ : ∃ R, RatM s n m k = R := ⟨_, rfl⟩
      rw [hR] at HR hRb ⊢
      have HD : Hid (∀ W, Calls Tryz.prog 31 #[Agg8 R, .string ⟨#[107, 101, 121]⟩, .int .i64 k] W fun e w' => e = .returned (Agg8 (DerB R lKey k)) ∧ Below W.heap.size W w') := fun W => refDerive_any R hRb ⟨#[107, 101, 121]⟩ (by decide) k W
      obtain ⟨Y, hY⟩ : ∃ Y, DerB R lKey k = Y := ⟨_, rfl⟩
      rw [hY] at HD ⊢
      clear e1 e2 hR hfit hgen hs hY hRb C1 d0
      go_enter Tryz.func39, Tryz.ntmps39
      go_wp2_with (go_at_call 64; refine (HM.out _).mono ?_; rintro e w' ⟨rfl, rfl⟩)
      refine (HR.out _).mono ?_
      rintro e w1 ⟨rfl, b1⟩
      obtain ⟨c1, d1, z1⟩ := cell1 _ _ _ b1
      clear b1
      go_wp2_with fail
      refine (HD.out _).mono ?_
      rintro e w2 ⟨rfl, b2⟩
      have c2 : (w2.alloc (.cells (Cells8 Y) 51)).heap[w.heap.size + 1]? = some (.cells C0 51 (0, 0)) := by
        have := b2.size
        simp at this
        rw [Below.heap_alloc _ _ _ (by omega), b2.block _ (by simp; omega), Below.heap_alloc _ _ _ (by omega), c1]
      have d2 : Below w.heap.size w w2 := (d1.alloc (by omega) _).trans (b2.mono (by simp; omega))
      have z2 : w.heap.size + 2 ≤ w2.heap.size := by have := b2.size; simp at this; omega
      clear b2 c1 d1 HM HR HD
      go_wp2_with (refine wpList_store_row rfl 51 _ _ rfl (w.heap.size + 1) (Cells8 Y) rfl rfl 51 C0 c2 (by kernel_rfl) rfl (by simp [Value.oneCell']) ?_)
      exact bodyPost_ret (v := .tuple #[.agg (Cells8 Y), .int .i64 0]) (results_row_tmp rfl _ _ (w.heap.size + 1) 51 (Cells8 Y) (0, 0) _ (.int .i64 0) rfl rfl (setRow_heap _ _ _ _ _ _ c2) Tryz.underlying51 rfl (by kernel_rfl)) rfl ⟨rfl, below_setRow (d2.alloc (by omega) _) (by omega) _⟩
end Go.Proofs.YtkpebabbnndopaaGreatDoor

namespace Go.Proofs.YtkpebabbnndopaaGreatDoor
open Go.RowKit

/-- what copy does: a text into a new array of eight bytes -/
theorem run_copy_text (w : World) (s : ByteArray) (ty : TypeId) :
    (Builtin.copy_ #[34, 9] ty #[.slice (some ⟨w.heap.size, 0, none⟩) 8 8, .string s]).run Tryz.prog
      (w.alloc (.cells #[.int .u8 0, .int .u8 0, .int .u8 0, .int .u8 0, .int .u8 0, .int .u8 0, .int .u8 0, .int .u8 0] 51))
      = .ok (goInt (Nat.min s.size 8)) (w.alloc (.cells (Cells8 (SecL s.data.toList)) 51)) := by
  have hq : Tryz.prog.underlying 34 = some (.slice 5) := Tryz.underlying34
  have hi : (Tryz.prog.info? 5).map (·.size) = some 1 := by kernel_rfl
  have hex : (s.data.toList.map fun b => Value.int .u8 (b.toNat : Int)).take (s.size.min 8) = (s.data.toList.take 8).map fun b => Value.int .u8 (b.toNat : Int) := by
    have e2 : s.data.toList.take (s.size.min 8) = s.data.toList.take 8 := by
      have hz : s.size = s.data.toList.length := by simp
      rw [List.take_eq_take_iff, ← hz]
      show min (min s.size 8) s.size = min 8 s.size
      omega
    rw [← List.map_take, e2]
  have hst := run_storeCells_at Tryz.prog w.heap.size 0 51 ((s.data.toList.take 8).map fun b => Value.int .u8 (b.toNat : Int)) 0 #[.int .u8 0, .int .u8 0, .int .u8 0, .int .u8 0, .int .u8 0, .int .u8 0, .int .u8 0, .int .u8 0]
    (w.alloc (.cells #[.int .u8 0, .int .u8 0, .int .u8 0, .int .u8 0, .int .u8 0, .int .u8 0, .int .u8 0, .int .u8 0] 51)) (MapKept.heap_alloc w _).1 (by simp; omega) (by intro v hv; obtain ⟨b, _, rfl⟩ := List.mem_map.1 hv; rfl)
  have hc := SecL_cells s.data.toList
  rw [World.setRow_alloc_new] at hst
  have hst2 : (storeCells ⟨w.heap.size, 0, none⟩ ((s.data.toList.take 8).map fun b => Value.int .u8 (b.toNat : Int)) 0).run Tryz.prog
      (w.alloc (.cells #[.int .u8 0, .int .u8 0, .int .u8 0, .int .u8 0, .int .u8 0, .int .u8 0, .int .u8 0, .int .u8 0] 51)) = .ok () (w.alloc (.cells (Cells8 (SecL s.data.toList)) 51)) := by
    rw [hst]
    exact congrArg (fun c => Result.ok () (w.alloc (.cells c 51))) (Array.ext' (by simpa using hc))
  cases hq2 : Tryz.prog.info? 5 with
  | none => simp [hq2] at hi
  | some i =>
    have hi1 : i.size = 1 := by simpa [hq2] using hi
    simp [Builtin.copy_, run_underlying hq, Builtin.lenOf, Builtin.firstCells, sizeOf, typeInfo, hq2]
    rw [hex, hst2]
    rfl

set_option maxHeartbeats 400000 in
theorem secret_any (s : ByteArray) (w : World) :
    Calls Tryz.prog 26 #[.string s] w fun e w' => e = .returned (Agg8 (SecL s.data.toList)) ∧ w' = (w.alloc (.cells (Cells8 (SecL s.data.toList)) 51)).alloc (.cells (Cells8 (SecL s.data.toList)) 51) := by
  have hcp := fun ty => run_copy_text (w.alloc (.cells #[.int .u8 0, .int .u8 0, .int .u8 0, .int .u8 0, .int .u8 0, .int .u8 0, .int .u8 0, .int .u8 0] 51)) s ty
  have hsz : (w.alloc (.cells #[.int .u8 0, .int .u8 0, .int .u8 0, .int .u8 0, .int .u8 0, .int .u8 0, .int .u8 0, .int .u8 0] 51)).heap.size = w.heap.size + 1 := by simp
  rw [hsz] at hcp
  clear hsz
  go_enter Tryz.func26, Tryz.ntmps26
  go_wp2
  exact bodyPost_ret (v := Agg8 (SecL s.data.toList)) (by simp [results, Tryz.results26, go_sem]) rfl ⟨rfl, rfl⟩
end Go.Proofs.YtkpebabbnndopaaGreatDoor

namespace Go.Proofs.YtkpebabbnndopaaGreatDoor
open Go.RowKit

def MixInv (s : Nat → Int) (l : List UInt8) (n : Nat) (w : World) (k : Nat) (wr : World) : Prop :=
  Below w.heap.size w wr ∧ w.heap.size + 2 ≤ wr.heap.size ∧ wr.heap[w.heap.size]? = some (.cells (Cells8 s) 51 (0, 0)) ∧
  wr.heap[w.heap.size + 1]? = some (.cells (RowB (Half s l k) n) 5 (n, n + 1))

theorem mix_step (s : Nat → Int) (l : List UInt8) (n : Nat) (w wr : World) (k : Nat) (hlt : k < l.length) (hbel : Below w.heap.size w wr) (hsz : w.heap.size + 2 ≤ wr.heap.size)
    (hkey : wr.heap[w.heap.size]? = some (.cells (Cells8 s) 51 (0, 0))) (hrow : wr.heap[w.heap.size + 1]? = some (.cells (RowB (Half s l k) n) 5 (n, n + 1))) :
    MixInv s l n w (k + 1) (wr.setCell ⟨w.heap.size + 1, k, none⟩ (.int .u8 (bits BinOp.xor IntKind.u8 (l[k].toNat : Int) (Blk s (k / 8) (k % 8))))).drew := by
  refine ⟨(hbel.setCell (by simp) _).drew, by simpa [World.setCell, World.drew] using hsz, ?_, ?_⟩
  · show (wr.setCell _ _).heap[w.heap.size]? = _
    rw [heap_setCell_other _ _ _ _ (by simp), hkey]
  · show (wr.setCell _ _).heap[w.heap.size + 1]? = _
    rw [setCell_eq_setRow _ _ _ _ _ _ _ hrow, setRow_heap _ _ _ _ _ _ hrow, XB_toNat _ _ (Blk_bd _ _ _).1 (Blk_bd _ _ _).2,
      RowB_put _ _ _ _ (by rw [Half_length _ _ _ (by omega)]; exact hlt), Half_set s l k hlt]

set_option maxHeartbeats 400000 in
theorem mixed_any (s : Nat → Int) (hs : ∀ i, 0 ≤ s i ∧ s i < 256) (t : ByteArray) (ht : t.size ≤ 1000000) (w : World) :
    Calls Tryz.prog 75 #[Agg8 s, .string t] w fun e w' => e = .returned (.string ⟨(MixT s t.data.toList).toArray⟩) ∧ Below w.heap.size w w' := by
  have hcv : ∀ w : World, (convert 9 34 (.string t)).run Tryz.prog w = _ := fun w => run_bytes_of_string w 9 34 5 t Tryz.underlying9 Tryz.underlying34 Tryz.underlying5
  have hge := grownCap_ge (w.alloc (.cells (Cells8 s) 51)) t.size 0 5
  go_enter Tryz.func75, Tryz.ntmps75
  go_wp2
  clear hcv
  generalize grownCap (w.alloc (.cells (Cells8 s) 51)) t.size 0 5 = cap at *
  obtain ⟨l, hl⟩ : ∃ l, t.data.toList = l := ⟨_, rfl⟩
  have hlt0 : l.length = t.size := by rw [← hl]; simp
  have HL : Hid (t.data.toList = l) := hl
  have hR : bytesRow t cap = RowB l cap := by rw [RowB_of_bytes, hl]
  have hRs : (RowB l cap).size = cap := RowB_size l cap (by omega)
  rw [hR, hRs]
  clear hl hR hRs
  go_loopw [6] (fun i wr => ∃ k : Nat, k ≤ t.size ∧ i = .int .i64 k ∧ MixInv s l cap w k wr) (fun i _ => t.size - (intOf i).toNat)
  case atStart =>
    refine ⟨0, Nat.zero_le _, rfl, (((Below.refl _ _).alloc (Nat.le_refl _) _).alloc (by simp) _).drew, by simp, ?_, ?_⟩
    · show (World.alloc _ _).heap[w.heap.size]? = _
      rw [Below.heap_alloc _ _ _ (by simp), (MapKept.heap_alloc _ _).1]
    · have e := (MapKept.heap_alloc (w.alloc (.cells (Cells8 s) 51)) (.cells (RowB l cap) 5 (cap, cap + 1))).1
      simp only [World.size_alloc] at e
      rw [Half_zero]
      exact e
  case round =>
    obtain ⟨k, hk, rfl, hbel, hsz, hkey, hrow⟩ := hrel
    by_cases hlt : k < t.size
    · have hltl : k < l.length := by omega
      have HW1 : Hid (((k / 8 : Nat) : Int) = (k : Int) / 8) := by show _ = _; omega
      go_wp2_with (refine wpList_load_row rfl 51 _ rfl w.heap.size rfl 51 (Cells8 s) (0, 0) _ hkey Tryz.underlying51 rfl (by kernel_rfl) ?_)
      refine (refDerive_any s hs _ (by decide) _ _).mono ?_
      rintro e w1 ⟨rfl, hb1⟩
      have hD : DerB s (ByteArray.mk #[115, 116, 114, 101, 97, 109]).data.toList ((k : Int) / 8) = Blk s (k / 8) := by rw [← HW1.out]; rfl
      rw [hD]
      clear hD
      have hbel1 : Below w.heap.size w w1 := hbel.trans (hb1.mono (by omega))
      have hsz1 : w.heap.size + 2 ≤ w1.heap.size := Nat.le_trans hsz hb1.size
      have hkey1 : w1.heap[w.heap.size]? = some (.cells (Cells8 s) 51 (0, 0)) := by rw [hb1.block _ (by omega), hkey]
      have hrow1 : w1.heap[w.heap.size + 1]? = some (.cells (RowB (Half s l k) cap) 5 (cap, cap + 1)) := by rw [hb1.block _ (by omega), hrow]
      clear hbel hsz hkey hrow
      go_wp2
      obtain ⟨wy, hwy⟩ : ∃ wy, w1.alloc (.cells (Cells8 (Blk s (k / 8))) 51) = wy := ⟨_, rfl⟩
      have hbely : Below w.heap.size w wy := by rw [← hwy]; exact hbel1.alloc (by omega) _
      have hszy : w.heap.size + 2 ≤ wy.heap.size := by rw [← hwy]; simp; omega
      have hkeyy : wy.heap[w.heap.size]? = some (.cells (Cells8 s) 51 (0, 0)) := by rw [← hwy, Below.heap_alloc _ _ _ (by omega), hkey1]
      have hrowy : wy.heap[w.heap.size + 1]? = some (.cells (RowB (Half s l k) cap) 5 (cap, cap + 1)) := by rw [← hwy, Below.heap_alloc _ _ _ (by omega), hrow1]
      have hnewy : wy.heap[w1.heap.size]? = some (.cells (Cells8 (Blk s (k / 8))) 51 (0, 0)) := by rw [← hwy]; exact (MapKept.heap_alloc _ _).1
      have cb : wy.cell? ⟨w1.heap.size, k % 8, none⟩ = some (.int .u8 (Blk s (k / 8) (k % 8))) := by
        rw [cell_of_row _ _ _ _ _ _ hnewy, Cells8_at _ _ (by omega)]
      have co : wy.cell? ⟨w.heap.size + 1, k, none⟩ = some (.int .u8 (l[k].toNat : Int)) := by
        have hh : k < (Half s l k).length := by rw [Half_length _ _ _ (by omega)]; exact hltl
        rw [cell_of_row _ _ _ _ _ _ hrowy, RowB_at _ _ _ hh, Half_at s l k hltl hh]
      have fo : wy.frozen? ⟨w.heap.size + 1, k, none⟩ = false := by simp [World.frozen?, hrowy]; omega
      show Code.wp _ _ _ _ (w1.alloc (.cells (Cells8 (Blk s (k / 8))) 51))
      rw [hwy]
      have HY : Hid (MixInv s l cap w (k + 1) (wy.setCell ⟨w.heap.size + 1, k, none⟩ (.int .u8 (bits BinOp.xor IntKind.u8 (l[k].toNat : Int) (Blk s (k / 8) (k % 8))))).drew) := mix_step s l cap w wy k hltl hbely hszy hkeyy hrowy
      clear hwy hnewy hbely hszy hkeyy hrowy hkey1 hrow1
      go_region
      go_wp2
      go_roundw
      case rel => exact ⟨k + 1, by omega, by go_num, HY.out⟩
      case measure => simp [intOf]; omega
    · obtain rfl : k = t.size := by omega
      rw [← hlt0, Half_all] at hrow
      have hcc : (convert 34 9 (.slice (some ⟨w.heap.size + 1, 0, none⟩) t.size cap)).run Tryz.prog wr = .ok (.string ⟨(MixT s l).toArray⟩) wr := by
        have hh : t.size = (MixT s l).length := by rw [MixT_length, hlt0]
        rw [hh]
        refine run_convert_bytes_back wr 34 9 5 ⟨w.heap.size + 1, 0, none⟩ cap (MixT s l) Tryz.underlying34 Tryz.underlying5 Tryz.underlying9 (fun j hj => ?_)
        have ea : (⟨w.heap.size + 1, 0, none⟩ : Addr).add j = ⟨w.heap.size + 1, j, none⟩ := by unfold Addr.add; split <;> simp_all
        rw [ea, cell_of_row _ _ _ _ _ _ hrow, RowB_at _ _ _ hj]
      go_wp2
      go_ret
      exact ⟨by rw [HL.out]; rfl, hbel⟩
end Go.Proofs.YtkpebabbnndopaaGreatDoor

namespace Go.Proofs.YtkpebabbnndopaaGreatDoor
open Go.RowKit

set_option maxHeartbeats 400000 in
theorem refSum_any (s t : ByteArray) (hs : s.size ≤ 1000000) (ht : t.size ≤ 1000000) (w : World) :
    Calls Tryz.prog 76 #[.string s, .string t] w fun e w' => e = .returned (.int .i64 (TagN (SumAll s.data.toList t.data.toList))) ∧ w' = w := by
  have H0 : Hid ((s ++ { data := #[0] } ++ t).data.toList = s.data.toList ++ [0] ++ t.data.toList) := by show _ = _; simp [ByteArray.data_append]
  have hz : (s ++ { data := #[0] } ++ t).size ≤ 3000000 := by simp [ByteArray.size_append]; show s.size + 1 + t.size ≤ _; omega
  go_enter Tryz.func76, Tryz.ntmps76
  go_wp2
  generalize hU : s ++ { data := #[0] } ++ t = u at *
  have HU : Hid (s ++ { data := #[0] } ++ t = u) := hU
  clear hU
  go_loop [6, 7] (fun h i => ∃ k : Nat, k ≤ u.size ∧ i = .int .i64 k ∧ h = .int .u32 (SumL 2166136261 (u.data.toList.take k))) (fun _ i => u.size - (intOf i).toNat)
  case atStart => exact ⟨0, Nat.zero_le _, rfl, rfl⟩
  case round =>
    obtain ⟨k, hk, rfl, rfl⟩ := hrel
    by_cases hlt : k < u.size
    · have HS : Hid (SumL 2166136261 (u.data.toList.take (k + 1)) = SumB (SumL 2166136261 (u.data.toList.take k)) u[k].toNat) := by
        show _ = _
        rw [take_snoc u k hlt, SumL_snoc]
      have hby := byte_bd u[k]
      go_wp2
      go_round
      case rel => exact ⟨k + 1, by omega, by go_num, by rw [HS.out]; rfl⟩
      case measure => simp [intOf]; omega
    · have hfull : u.data.toList.take k = u.data.toList := List.take_of_length_le (by simp; omega)
      rw [hfull, H0.out, SumAll_eq]
      clear hfull
      go_wp2
      go_ret
      exact ⟨rfl, rfl⟩
end Go.Proofs.YtkpebabbnndopaaGreatDoor

/- Sealed bytes: no walk here. -/
namespace Go.Proofs.YtkpebabbnndopaaGreatDoor
open Go.RowKit

def TagB (D : Nat → Int) : List UInt8 := [UInt8.ofNat (D 0).toNat, UInt8.ofNat (D 1).toNat, UInt8.ofNat (D 2).toNat, UInt8.ofNat (D 3).toNat]
theorem byte_back (x : Int) (h0 : 0 ≤ x) (h1 : x < 256) : ((UInt8.ofNat x.toNat).toNat : Int) = x := by
  rw [UInt8.toNat_ofNat', Nat.mod_eq_of_lt (by omega)]; omega
abbrev cellB (c : UInt8) : Value := .int .u8 (c.toNat : Int)
theorem TagB_cells (D : Nat → Int) (h : ∀ i, 0 ≤ D i ∧ D i < 256) : (TagB D).map cellB = [.int .u8 (D 0), .int .u8 (D 1), .int .u8 (D 2), .int .u8 (D 3)] := by
  have e : ∀ i, cellB (UInt8.ofNat (D i).toNat) = .int .u8 (D i) := fun i => congrArg (Value.int .u8) (byte_back _ (h i).1 (h i).2)
  simp only [TagB, List.map_cons, List.map_nil, e]
theorem TagB_at (D : Nat → Int) (h : ∀ i, 0 ≤ D i ∧ D i < 256) (j : Nat) (hj : j < (TagB D).length) : Value.int .u8 (D j) = .int .u8 ((TagB D)[j].toNat : Int) := by
  have h4 : j = 0 ∨ j = 1 ∨ j = 2 ∨ j = 3 := by simp [TagB] at hj; omega
  rcases h4 with rfl | rfl | rfl | rfl <;> exact congrArg (Value.int .u8) (byte_back _ (h _).1 (h _).2).symm
def Tag (s : Nat → Int) (l x : List UInt8) : Nat → Int := DerB s lTag (TagN (SumAll l x))
theorem Tag_bd (s : Nat → Int) (l x : List UInt8) (i : Nat) : 0 ≤ Tag s l x i ∧ Tag s l x i < 256 := Byt_bd _ _
def SealT (s : Nat → Int) (l m : List UInt8) : List UInt8 := MixT s m ++ TagB (Tag s l (MixT s m))
theorem SealT_length (s : Nat → Int) (l m : List UInt8) : (SealT s l m).length = m.length + 4 := by simp [SealT, MixT_length, TagB]
def OpenOk (s : Nat → Int) (l x : List UInt8) : Bool := 4 ≤ x.length && TagB (Tag s l (x.take (x.length - 4))) == x.drop (x.length - 4)
def OpenT (s : Nat → Int) (x : List UInt8) : List UInt8 := MixT s (x.take (x.length - 4))
theorem seal_open (s : Nat → Int) (l m : List UInt8) : OpenOk s l (SealT s l m) = true ∧ OpenT s (SealT s l m) = m := by
  have hl := SealT_length s l m
  have ht : (SealT s l m).take (m.length + 4 - 4) = MixT s m := by
    unfold SealT
    rw [List.take_append_of_le_length (by rw [MixT_length]; omega), List.take_of_length_le (by rw [MixT_length]; omega)]
  have hd : (SealT s l m).drop (m.length + 4 - 4) = TagB (Tag s l (MixT s m)) := by
    unfold SealT
    rw [List.drop_append_of_le_length (by rw [MixT_length]; omega), List.drop_of_length_le (by rw [MixT_length]; omega)]
    rfl
  unfold OpenOk OpenT
  rw [hl, ht, hd, MixT_MixT]
  simp
/-- the other's test: what is opened, sealed again, is what came -/
theorem open_seal (s : Nat → Int) (l x : List UInt8) (h : 4 ≤ x.length) : (SealT s l (MixT s (x.take (x.length - 4))) == x) = OpenOk s l x := by
  have e : SealT s l (MixT s (x.take (x.length - 4))) = x.take (x.length - 4) ++ TagB (Tag s l (x.take (x.length - 4))) := by
    unfold SealT; rw [MixT_MixT]
  rw [e, Bool.eq_iff_iff]
  unfold OpenOk
  simp only [beq_iff_eq, Bool.and_eq_true, decide_eq_true_eq]
  constructor
  · intro hx
    refine ⟨h, ?_⟩
    have h2 := congrArg (List.drop (x.length - 4)) hx
    rw [List.drop_append_of_le_length (by rw [List.length_take]; omega), List.drop_of_length_le (by rw [List.length_take]; omega)] at h2
    simpa using h2
  · rintro ⟨_, hx⟩
    rw [hx, List.take_append_drop]

/-- the last four bytes -/
def Tail4 (x : List UInt8) (k : Nat) (i : Nat) : Int := ((x.getD (k + i) 0).toNat : Int)
theorem byte_eq (D : Int) (h0 : 0 ≤ D) (h1 : D < 256) (c : UInt8) : ((c.toNat : Int) = D) ↔ (UInt8.ofNat D.toNat = c) := by
  constructor
  · intro h
    apply UInt8.toNat_inj.1
    have := byte_back D h0 h1
    omega
  · intro h
    rw [← h]
    exact byte_back D h0 h1
theorem tail_eq (x : List UInt8) (k : Nat) (hx : x.length = k + 4) (D : Nat → Int) (h : ∀ i, 0 ≤ D i ∧ D i < 256) :
    ([Tail4 x k 0, Tail4 x k 1, Tail4 x k 2, Tail4 x k 3] == [D 0, D 1, D 2, D 3]) = (TagB D == x.drop k) := by
  have hl : (x.drop k).length = 4 := by rw [List.length_drop]; omega
  have e : ∀ i, Tail4 x k i = (((x.drop k).getD i 0).toNat : Int) := fun i => by simp [Tail4, List.getD, List.getElem?_drop]
  simp only [e]
  generalize x.drop k = y at *
  match y, hl with
  | [a, b, c, d], _ =>
    rw [Bool.eq_iff_iff]
    simp [TagB, List.getD, byte_eq _ (h _).1 (h _).2]
theorem OpenOk_tail (s : Nat → Int) (l x : List UInt8) (k : Nat) (hx : x.length = k + 4) :
    OpenOk s l x = ([Tail4 x k 0, Tail4 x k 1, Tail4 x k 2, Tail4 x k 3] == [Tag s l (x.take k) 0, Tag s l (x.take k) 1, Tag s l (x.take k) 2, Tag s l (x.take k) 3]) := by
  have e : x.length - 4 = k := by omega
  rw [tail_eq x k hx _ (Tag_bd s l _)]
  unfold OpenOk
  rw [e]
  simp [hx]
/-- what 'append' leaves where there is no room: a new row -/
theorem run_append_tag (w : World) (b n : Nat) (x : List UInt8) (hn : x.length = n) (hcell : ∀ i (h : i < x.length), w.cell? ⟨b, i, none⟩ = some (cellB x[i])) (g : Nat) (y : List UInt8) (hy : y.length = 4) (hcy : ∀ i (h : i < y.length), w.cell? ⟨g, i, none⟩ = some (cellB y[i])) (hsz : n ≤ 1000000) (P : Program) (t e : TypeId) (ht : P.underlying t = some (.slice e))
    (hinfo : (P.info? e).map (fun i => (i.zero, i.size, i.bytes)) = some (some (.int .u8 0), 1, 1)) (ty : TypeId) :
    ∃ cap, n + 4 ≤ cap ∧ (Builtin.append_ #[t, t] ty #[.slice (some ⟨b, 0, none⟩) n n, .slice (some ⟨g, 0, none⟩) 4 4]).run P w
      = .ok (.slice (some ⟨w.heap.size, 0, none⟩) (n + 4) cap) (w.drew.alloc (.cells (RowB (x ++ y) cap) e)) := by
  obtain ⟨i, hi, hzz⟩ := Option.map_eq_some_iff.1 hinfo
  simp only [Prod.mk.injEq] at hzz
  obtain ⟨hz, hs, hb⟩ := hzz
  have hcs : ∀ (W : World) (b : Nat) (x : List UInt8), (∀ i (h : i < x.length), W.cell? ⟨b, i, none⟩ = some (cellB x[i])) → ∀ j v, (x.map cellB)[j]? = some v → W.cell? ((⟨b, 0, none⟩ : Addr).add j) = some v := by
    intro W b x hc j v hj
    have hjl : j < x.length := by simpa using (List.getElem?_eq_some_iff.1 hj).1
    have ea : (⟨b, 0, none⟩ : Addr).add j = ⟨b, j, none⟩ := by unfold Addr.add; split <;> simp_all
    rw [ea, hc j hjl]
    rw [List.getElem?_map, List.getElem?_eq_getElem hjl] at hj
    simpa using hj
  have h := run_append_grow_src (P := P) w t t ty e i (.int .u8 0) ht hi hz (some ⟨b, 0, none⟩) n n (x.map cellB)
    (by rw [hs]; exact run_firstCells_some w.drew 1 n ⟨b, 0, none⟩ n n (x.map cellB) (by simp; omega) (hcs w.drew b x (by simpa using hcell)))
    (.slice (some ⟨g, 0, none⟩) 4 4) 4 (y.map cellB) (by rw [hs]; exact Src.ofSlice w ht ⟨g, 0, none⟩ 4 4 (y.map cellB) (by simp; omega) (hcs w g y hcy) (by intro u hu; obtain ⟨c, _, rfl⟩ := List.mem_map.1 hu; rfl))
    (by omega) (by omega) (by rw [hb]; have := nextslicecap_le (need := n + 4) (old := n) (by omega); omega)
  refine ⟨grownCap w (n + 4) n e, grownCap_ge _ _ _ _, ?_⟩
  rw [h]
  have hg := grownCap_ge w (n + 4) n e
  generalize grownCap w (n + 4) n e = cap at *
  have hrow : (x.map cellB ++ y.map cellB).toArray ++ Builtin.zeroCells (Value.int .u8 0).cells (cap - (n + 4)) = RowB (x ++ y) cap := by
    apply Array.ext'
    have hzc : (Builtin.zeroCells (Value.int .u8 0).cells (cap - (n + 4))).toList = List.replicate (cap - (n + 4)) (Value.int .u8 0) := by
      apply List.ext_getElem
      · simp [Builtin.zeroCells, Value.cells]
      · intro i h1 h2
        simp [Builtin.zeroCells, Value.cells, Nat.mod_one]
    simp [RowB, hzc, hn, hy]
  rw [hrow]
end Go.Proofs.YtkpebabbnndopaaGreatDoor

namespace Go.Proofs.YtkpebabbnndopaaGreatDoor
open Go.RowKit

set_option maxHeartbeats 400000 in
theorem refSeal_any (s : Nat → Int) (hs : ∀ i, 0 ≤ s i ∧ s i < 256) (h t : ByteArray) (hh : h.size ≤ 1000000) (ht : t.size ≤ 1000000) (w : World) :
    Calls Tryz.prog 33 #[Agg8 s, .string h, .string t] w fun e w' => e = .returned (.string ⟨(SealT s h.data.toList t.data.toList).toArray⟩) ∧ Below w.heap.size w w' := by
  go_enter Tryz.func33, Tryz.ntmps33
  go_wp2_with fail
  refine (mixed_any s hs t ht _).mono ?_
  rintro e w1 ⟨rfl, hb1⟩
  have bel1 : Below w.heap.size w w1 := ((Below.refl _ w).alloc (Nat.le_refl _) _).trans (hb1.mono (by simp))
  have hsz1 : w.heap.size + 1 ≤ w1.heap.size := by have := hb1.size; simpa using this
  have hkey1 : w1.heap[w.heap.size]? = some (.cells (Cells8 s) 51 (0, 0)) := by rw [hb1.block _ (by simp)]; exact (MapKept.heap_alloc _ _).1
  obtain ⟨u, hu⟩ : ∃ u : ByteArray, ⟨(MixT s t.data.toList).toArray⟩ = u := ⟨_, rfl⟩
  have hul : u.data.toList = MixT s t.data.toList := by rw [← hu]
  have hus : u.size = t.size := by
    have e1 : u.size = u.data.toList.length := by simp
    rw [e1, hul, MixT_length]; simp
  rw [hu]
  have HU : Hid (u.data.toList = MixT s t.data.toList) := hul
  clear hu hul hb1
  go_wp2_with fail
  refine (refSum_any h u hh (by omega) _).mono ?_
  rintro e w2 ⟨rfl, rfl⟩
  rw [HU.out]
  obtain ⟨T, hT, hder⟩ : ∃ T : Nat → Int, T = Tag s h.data.toList (MixT s t.data.toList) ∧ Calls Tryz.prog 31 #[.agg (Cells8 s), .string ⟨#[116, 97, 103]⟩, .int .i64 (TagN (SumAll h.data.toList (MixT s t.data.toList)))] w2 fun e w' => e = .returned (Agg8 T) ∧ Below w2.heap.size w2 w' :=
    ⟨_, rfl, refDerive_any s hs ⟨#[116, 97, 103]⟩ (by decide) _ w2⟩
  generalize TagN (SumAll h.data.toList (MixT s t.data.toList)) = N at *
  have HT : Hid (T = Tag s h.data.toList (MixT s t.data.toList)) := hT
  have hTb : ∀ i, 0 ≤ T i ∧ T i < 256 := fun i => by rw [hT]; exact Tag_bd _ _ _ _
  have HDE : Hid (Calls Tryz.prog 31 #[.agg (Cells8 s), .string ⟨#[116, 97, 103]⟩, .int .i64 N] w2 fun e w' => e = .returned (Agg8 T) ∧ Below w2.heap.size w2 w') := hder
  clear hT hder
  go_wp2_with (refine wpList_load_row rfl 51 _ rfl w.heap.size rfl 51 (Cells8 s) (0, 0) _ hkey1 Tryz.underlying51 rfl (by kernel_rfl) ?_)
  refine HDE.out.mono ?_
  rintro e w3 ⟨rfl, hb3⟩
  have bel3 : Below w.heap.size w w3 := bel1.trans (hb3.mono (by omega))
  have hsz3 := hb3.size
  have hcv : ∀ c, (convert 34 9 (.slice (some ⟨w3.heap.size, 0, none⟩) 4 c)).run Tryz.prog (w3.alloc (.cells (Cells8 T) 51)) = .ok (.string ⟨(TagB T).toArray⟩) (w3.alloc (.cells (Cells8 T) 51)) := fun c =>
    run_convert_bytes_back (w3.alloc (.cells (Cells8 T) 51)) 34 9 5 ⟨w3.heap.size, 0, none⟩ c (TagB T) Tryz.underlying34 Tryz.underlying5 Tryz.underlying9 (fun j hj => by
      have ea : (⟨w3.heap.size, 0, none⟩ : Addr).add j = ⟨w3.heap.size, j, none⟩ := by unfold Addr.add; split <;> simp_all
      have hj4 : j < 4 := hj
      rw [ea, cell_of_row _ _ _ _ _ _ (MapKept.heap_alloc w3 (.cells (Cells8 T) 51)).1, Cells8_at _ _ (by omega)]
      exact congrArg some (TagB_at T hTb j hj))
  obtain ⟨v, hv⟩ : ∃ v : ByteArray, ⟨(TagB T).toArray⟩ = v := ⟨_, rfl⟩
  have hvs : v.size ≤ 4 := by rw [← hv]; exact Nat.le_refl 4
  have hus2 : u.size ≤ 1000000 := by omega
  have HV : Hid ((⟨(TagB T).toArray⟩ : ByteArray) = v) := hv
  rw [hv] at hcv
  clear hv
  go_wp2
  go_ret
  refine ⟨?_, bel3.alloc (by omega) _⟩
  have e : u ++ v = ⟨(SealT s h.data.toList t.data.toList).toArray⟩ := by
    apply ByteArray.ext
    apply Array.ext'
    rw [ByteArray.data_append, Array.toList_append, HU.out, ← HV.out]
    unfold SealT
    rw [HT.out]
  show Ending.returned (Value.string (u ++ v)) = _
  rw [e]
end Go.Proofs.YtkpebabbnndopaaGreatDoor

namespace Go.Proofs.YtkpebabbnndopaaGreatDoor
open Go.RowKit

set_option maxHeartbeats 400000 in
theorem refOpen_short (s : Nat → Int) (h t : ByteArray) (ht : t.size < 4) (w : World) :
    Calls Tryz.prog 35 #[Agg8 s, .string h, .string t] w fun e w' => e = .returned (.tuple #[.string ⟨#[]⟩, .bool false]) ∧ Below w.heap.size w w' := by
  go_enter Tryz.func35, Tryz.ntmps35
  go_wp2
  go_ret2
  exact ⟨rfl, (Below.refl _ w).alloc (Nat.le_refl _) _⟩

set_option maxHeartbeats 1000000 in
theorem refOpen_long (s : Nat → Int) (hs : ∀ i, 0 ≤ s i ∧ s i < 256) (h t : ByteArray) (k : Nat) (hh : h.size ≤ 1000000) (ht : t.size = k + 4) (hk : k ≤ 900000) (w : World) :
    Calls Tryz.prog 35 #[Agg8 s, .string h, .string t] w fun e w' => Below w.heap.size w w' ∧ ((OpenOk s h.data.toList t.data.toList = false ∧ e = .returned (.tuple #[.string ⟨#[]⟩, .bool false])) ∨
      (OpenOk s h.data.toList t.data.toList = true ∧ e = .returned (.tuple #[.string ⟨(OpenT s t.data.toList).toArray⟩, .bool true]))) := by
  have hlen : t.data.toList.length = k + 4 := by simpa using ht
  have hcut0 : (t.extract 0 k).data.toList = t.data.toList.take k := by simp [ByteArray.data_extract]
  have hcs : (t.extract 0 k).size = k := by simp [ByteArray.size_extract]; omega
  have hmix : ∀ W', Calls Tryz.prog 75 #[.agg (Cells8 s), .string (t.extract 0 k)] W' fun e w' => e = .returned (.string ⟨(OpenT s t.data.toList).toArray⟩) ∧ Below W'.heap.size W' w' := fun W' => by
    have h1 := mixed_any s hs (t.extract 0 k) (by omega) W'
    rw [hcut0] at h1
    have e : OpenT s t.data.toList = MixT s (t.data.toList.take k) := by unfold OpenT; rw [hlen]; rfl
    rw [e]
    exact h1
  obtain ⟨u, hu⟩ : ∃ u : ByteArray, ⟨(OpenT s t.data.toList).toArray⟩ = u := ⟨_, rfl⟩
  have hul : u.data.toList = MixT s (t.data.toList.take k) := by rw [← hu]; show OpenT s _ = _; unfold OpenT; rw [hlen]; rfl
  have hus : u.size ≤ 1000000 := by
    have e1 : u.size = u.data.toList.length := by simp
    rw [e1, hul, MixT_length, List.length_take]; omega
  have hseal : ∀ W', Calls Tryz.prog 33 #[.agg (Cells8 s), .string h, .string u] W' fun e w' => e = .returned (.string ⟨(SealT s h.data.toList (MixT s (t.data.toList.take k))).toArray⟩) ∧ Below W'.heap.size W' w' := fun W' => by
    have h1 := refSeal_any s hs h u hh hus W'
    rw [hul] at h1
    exact h1
  have hop := open_seal s h.data.toList t.data.toList (by omega)
  rw [hlen] at hop
  have hop' : (SealT s h.data.toList (MixT s (t.data.toList.take k)) == t.data.toList) = OpenOk s h.data.toList t.data.toList := hop
  obtain ⟨z, hz⟩ : ∃ z : ByteArray, ⟨(SealT s h.data.toList (MixT s (t.data.toList.take k))).toArray⟩ = z := ⟨_, rfl⟩
  have hzl : z.data.toList = SealT s h.data.toList (MixT s (t.data.toList.take k)) := by rw [← hz]
  rw [← hzl] at hop'
  rw [hu] at hmix
  rw [hu]
  rw [hz] at hseal
  have HMIX : Hid (∀ W', Calls Tryz.prog 75 #[.agg (Cells8 s), .string (t.extract 0 k)] W' fun e w' => e = .returned (.string u) ∧ Below W'.heap.size W' w') := hmix
  have HSEAL : Hid (∀ W', Calls Tryz.prog 33 #[.agg (Cells8 s), .string h, .string u] W' fun e w' => e = .returned (.string z) ∧ Below W'.heap.size W' w') := hseal
  have HOP : Hid ((z.data.toList == t.data.toList) = OpenOk s h.data.toList t.data.toList) := hop'
  clear hmix hseal hop hop' hzl hz hul hu hcut0 hcs hlen
  go_enter Tryz.func35, Tryz.ntmps35
  go_upto_region 4 with fail
  go_cut [9] (fun s9 wx => s9 = .string u ∧ Below w.heap.size w wx ∧ wx.heap[w.heap.size]? = some (.cells (Cells8 s) 51 (0, 0)) ∧ w.heap.size + 1 ≤ wx.heap.size)
  case first =>
    go_region_with (go_at_call 75; refine (HMIX.out _).mono ?_; rintro e w1 ⟨rfl, hb1⟩)
    all_goals
      go_wp2_with fail
      go_meet
      have hw0 := (((Below.refl _ w).alloc (Nat.le_refl _) (.cells (Cells8 s) 51)).drew).trans (hb1.mono (by show w.heap.size ≤ (w.alloc _).heap.size; simp))
      exact ⟨rfl, hw0, by rw [hb1.block _ (by show w.heap.size < (w.alloc _).heap.size; simp)]; exact (MapKept.heap_alloc _ _).1, by have := hb1.size; simpa using this⟩
  case rest =>
    obtain ⟨rfl, belc, hkeyc, hszc⟩ := hcut
    go_wp2_with (refine wpList_load_row rfl 51 _ rfl w.heap.size rfl 51 (Cells8 s) (0, 0) _ hkeyc Tryz.underlying51 rfl (by kernel_rfl) ?_)
    refine (HSEAL.out _).mono ?_
    rintro e w2 ⟨rfl, hb2⟩
    have bel2 : Below w.heap.size w w2 := belc.trans (hb2.mono (by omega))
    have hzt : (z.toList == t.toList) = OpenOk s h.data.toList t.data.toList := by rw [ByteArray.toList_eq, ByteArray.toList_eq]; exact HOP.out
    cases hok : OpenOk s h.data.toList t.data.toList with
    | false =>
      rw [hok] at hzt
      have HK : Hid (OpenOk s h.data.toList t.data.toList = false) := hok
      clear hok
      go_wp2
      go_ret2
      exact ⟨bel2, .inl ⟨HK.out, rfl⟩⟩
    | true =>
      rw [hok] at hzt
      have HK : Hid (OpenOk s h.data.toList t.data.toList = true) := hok
      clear hok
      go_wp2
      go_ret2
      exact ⟨bel2, .inr ⟨HK.out, rfl⟩⟩
end Go.Proofs.YtkpebabbnndopaaGreatDoor

/- Bytes and texts; the other's Open in the form that a law asks for. -/
namespace Go.Proofs.YtkpebabbnndopaaGreatDoor
open Go.RowKit

/-- how a slice of bytes becomes a text, in this world and in every later one -/
def Cv (w : World) (v : Value) (z : ByteArray) : Prop := ∀ W, Below w.heap.size w W → (convert 34 9 v).run Tryz.prog W = .ok (.string z) W

theorem Cv.later {w w' : World} {v : Value} {z : ByteArray} (h : Cv w v z) (hb : Below w.heap.size w w') : Cv w' v z := fun W hW => h W (hb.trans (hW.mono hb.size))

theorem cv_of_bts {w : World} {a : Option Addr} {l : List UInt8} (c : Nat) (h : Bts w a l) : Cv w (.slice a l.length c) ⟨l.toArray⟩ := by
  intro W hW
  have hB := h.below hW
  rcases a with _ | ad
  · rcases hB with rfl | ⟨b, o, e, _⟩
    · exact run_convert_bytes_nil W 34 5 Tryz.underlying34 Tryz.underlying5 0 c 9 Tryz.underlying9
    · cases e
  · refine run_convert_bytes_back W 34 9 5 ad c l Tryz.underlying34 Tryz.underlying5 Tryz.underlying9 (fun j hj => ?_)
    rcases hB with rfl | ⟨b, o, e, hc⟩
    · simp at hj
    · cases e
      have ea : (⟨b, o, none⟩ : Addr).add j = ⟨b, o + j, none⟩ := by unfold Addr.add; split <;> simp_all
      rw [ea, hc j hj]

theorem bts_of_row {w : World} {g n : Nat} {m : List UInt8} {t : TypeId} {fr : Nat × Nat} (h : w.heap[g]? = some (.cells (RowB m n) t fr)) : Bts w (some ⟨g, 0, none⟩) m :=
  .inr ⟨g, 0, rfl, fun i hi => by rw [Nat.zero_add, cell_of_row _ _ _ _ _ _ h, RowB_at _ _ _ hi]⟩

theorem secret_below (s : ByteArray) (w : World) :
    Calls Tryz.prog 26 #[.string s] w fun e w' => e = .returned (Agg8 (SecL s.data.toList)) ∧ Below w.heap.size w w' :=
  (secret_any s w).mono fun e w' ⟨he, hw⟩ => ⟨he, by rw [hw]; exact ((Below.refl _ w).alloc (Nat.le_refl _) _).alloc (by simp) _⟩

/-- what Open answers, as a text -/
def Opened (s : Nat → Int) (l x : List UInt8) : ByteArray := if OpenOk s l x = true then ⟨(OpenT s x).toArray⟩ else ⟨#[]⟩

theorem refOpen_any (s : Nat → Int) (hs : ∀ i, 0 ≤ s i ∧ s i < 256) (h t : ByteArray) (hh : h.size ≤ 1000000) (ht : t.size ≤ 900000) (w : World) :
    Calls Tryz.prog 35 #[Agg8 s, .string h, .string t] w fun e w' => Below w.heap.size w w' ∧ e = .returned (.tuple #[.string (Opened s h.data.toList t.data.toList), .bool (OpenOk s h.data.toList t.data.toList)]) := by
  by_cases h4 : t.size < 4
  · have hok : OpenOk s h.data.toList t.data.toList = false := by unfold OpenOk; simp; intro h5; omega
    refine (refOpen_short s h t h4 w).mono ?_
    rintro e w' ⟨rfl, hbel⟩
    refine ⟨hbel, ?_⟩
    unfold Opened
    rw [hok]
    rfl
  · obtain ⟨k, hk⟩ : ∃ k, t.size = k + 4 := ⟨t.size - 4, by omega⟩
    refine (refOpen_long s hs h t k hh hk (by omega) w).mono ?_
    rintro e w' ⟨hbel, ⟨hok, rfl⟩ | ⟨hok, rfl⟩⟩
    · refine ⟨hbel, ?_⟩
      unfold Opened
      rw [hok]
      rfl
    · refine ⟨hbel, ?_⟩
      unfold Opened
      rw [hok]
      rfl

/-- '[]byte(text)' as a step of the walk -/
theorem wpList_bytes {ops : Array Oper} {rest : List Oper} {o : Oper} {a : Act} {w : World} {Q : Exit → Act → World → Prop} (hgd : o.guard = none) (x : Operand) (ho : o.op = .convert 9 34 x) (t : ByteArray) (hx : a.eval x = .string t)
    (h : ∀ cap w', t.size ≤ cap → Below w.heap.size w w' → w'.heap.size = w.heap.size + 1 → Bts w' (some ⟨w.heap.size, 0, none⟩) t.data.toList →
      wpList Tryz.prog ops Q rest (a.put o.dst (.slice (some ⟨w.heap.size, 0, none⟩) t.size cap)) w') : wpList Tryz.prog ops Q (o :: rest) a w :=
  wpList_plain hgd fun _ hK => by
    have hr := run_bytes_of_string (P := Tryz.prog) w 9 34 5 t Tryz.underlying9 Tryz.underlying34 Tryz.underlying5
    have hge := grownCap_ge w t.size 0 5
    unfold Oper.wp execOp
    simp only [ho, hx, Sem.run_bind, hr, Result.andThen_ok, Sem.run_pure]
    refine hK _ _ (h _ _ hge ((Below.refl _ w).drew.alloc (Nat.le_refl _) _) (by simp) ?_)
    rw [RowB_of_bytes]
    exact bts_of_row (MapKept.heap_alloc w.drew _).1
end Go.Proofs.YtkpebabbnndopaaGreatDoor
