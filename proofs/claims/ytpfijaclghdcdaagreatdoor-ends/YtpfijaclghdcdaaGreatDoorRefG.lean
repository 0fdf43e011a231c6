/- The other's group in memory; epochref.New, depth, bound. -/
import Derived.Test.YtpfijaclghdcdaaGreatDoorRows
import Derived.Test.YtpfijaclghdcdaaGreatDoorOut
import Derived.Test.YtpfijaclghdcdaaGreatDoorFit
import Derived.WalkKit
import Derived.WalkSpells
import Derived.WalkLawsBesides
import Derived.Deep.WholeRow
import Derived.Deep.DeepCutAuto
import Derived.BigRegion
namespace Go.Proofs.YtpfijaclghdcdaaGreatDoor
open Go.RowKit

abbrev CellsG (st : St) (steps : Int) (mb : Nat) : Array Value := #[.int .u8 (st.s 0), .int .u8 (st.s 1), .int .u8 (st.s 2), .int .u8 (st.s 3), .int .u8 (st.s 4), .int .u8 (st.s 5), .int .u8 (st.s 6), .int .u8 (st.s 7), .int .i64 st.n, .int .i64 st.own, .slice (some ⟨mb, 0, none⟩) st.n st.n, .bool st.closed, .int .i64 steps, .bool false]
def MemRow (cs : Array Value) (st : St) (ov : Nat → Value) : Prop :=
  cs.size = 3 * st.n ∧ ∀ i, i < st.n → cs[3 * i]? = some (.bool (st.m i).begun) ∧ cs[3 * i + 1]? = some (.int .i64 (st.m i).next) ∧ cs[3 * i + 2]? = some (ov i)
def OverAt (w : World) (S : List Nat) (rb mb : Nat) (v : Value) (l : List Nat) : Prop :=
  ∃ p cap, v = .slice p l.length cap ∧ l.length ≤ cap ∧ ((l = [] ∧ p = none ∧ cap = 0) ∨ ∃ ob off, p = some ⟨ob, off, none⟩ ∧ ob ∈ S ∧ ob ≠ rb ∧ ob ≠ mb ∧ ∀ j (h : j < l.length), w.cell? ⟨ob, off + j, none⟩ = some (.int .i64 (l[j] : Int)))
def RefG (w : World) (S : List Nat) (rb mb : Nat) (cs : Array Value) (ov : Nat → Value) (st : St) (steps : Int) : Prop :=
  rb ≠ mb ∧ rb ∈ S ∧ mb ∈ S ∧ w.heap[rb]? = some (.cells (CellsG st steps mb) 113 (0, 0)) ∧ w.heap[mb]? = some (.cells cs 151 (0, 0)) ∧ MemRow cs st ov ∧ ∀ i, i < st.n → OverAt w S rb mb (ov i) (st.m i).over
/-- the block rb holds the other's group, in the state st -/
def RefRep (w : World) (S : List Nat) (rb : Nat) (st : St) (steps : Int) : Prop := ∃ mb cs ov, RefG w S rb mb cs ov st steps
theorem OverAt.block_lt {w : World} {S : List Nat} {rb mb : Nat} {v : Value} {l : List Nat} (h : OverAt w S rb mb v l) : l = [] ∨ ∃ ob off cap, v = .slice (some ⟨ob, off, none⟩) l.length cap ∧ ob < w.heap.size := by
  obtain ⟨p, cap, hv, _, h | ⟨ob, off, hp, _, _, _, hc⟩⟩ := h
  · exact .inl h.1
  · cases hl : l with
    | nil => exact .inl rfl
    | cons x r =>
      refine .inr ⟨ob, off, cap, by rw [hv, hp, hl], ?_⟩
      have := hc 0 (by rw [hl]; simp)
      exact block_lt_of_cell this
theorem OverAt.keep {w w' : World} {S : List Nat} {rb mb : Nat} {v : Value} {l : List Nat} (h : OverAt w S rb mb v l) (hk : ∀ k, k < w.heap.size → k ∈ S → k ≠ rb → k ≠ mb → w'.heap[k]? = w.heap[k]?) : OverAt w' S rb mb v l := by
  obtain ⟨p, cap, hv, hle, h | ⟨ob, off, hp, h1, h2, h3, hc⟩⟩ := h
  · exact ⟨p, cap, hv, hle, .inl h⟩
  · refine ⟨p, cap, hv, hle, .inr ⟨ob, off, hp, h1, h2, h3, fun j hj => ?_⟩⟩
    have h := hc j hj
    have hlt : ob < w.heap.size := block_lt_of_cell h
    rw [← h]
    exact World.cell?_of_block (w := w) (hk ob hlt h1 h2 h3)
/-- whoever leaves the blocks S as they are leaves the group as it is -/
theorem RefRep.keep {w w' : World} {S : List Nat} {rb : Nat} {st : St} {steps : Int} (h : RefRep w S rb st steps) (hk : ∀ k, k < w.heap.size → k ∈ S → w'.heap[k]? = w.heap[k]?) : RefRep w' S rb st steps := by
  obtain ⟨mb, cs, ov, h1, h2, h3, h4, h5, h6, h7⟩ := h
  have l4 := (Array.getElem?_eq_some_iff.1 h4).1
  have l5 := (Array.getElem?_eq_some_iff.1 h5).1
  exact ⟨mb, cs, ov, h1, h2, h3, by rw [hk _ l4 h2, h4], by rw [hk _ l5 h3, h5], h6, fun i hi => (h7 i hi).keep fun k a b _ _ => hk k a b⟩
theorem RefRep.below {w w' : World} {S : List Nat} {rb : Nat} {st : St} {steps : Int} (h : RefRep w S rb st steps) (hb : Below w.heap.size w w') : RefRep w' S rb st steps := h.keep fun k a _ => hb.block k a
theorem RefG.below {w w' : World} {S : List Nat} {rb mb : Nat} {cs : Array Value} {ov : Nat → Value} {st : St} {steps : Int} (h : RefG w S rb mb cs ov st steps) (hb : Below w.heap.size w w') : RefG w' S rb mb cs ov st steps := by
  obtain ⟨h1, h2, h3, h4, h5, h6, h7⟩ := h
  have l4 := (Array.getElem?_eq_some_iff.1 h4).1
  have l5 := (Array.getElem?_eq_some_iff.1 h5).1
  exact ⟨h1, h2, h3, by rw [hb.block _ l4, h4], by rw [hb.block _ l5, h5], h6, fun i hi => (h7 i hi).keep fun k a _ _ _ => hb.block k a⟩
theorem RefG.drew {w : World} {S : List Nat} {rb mb : Nat} {cs : Array Value} {ov : Nat → Value} {st : St} {steps : Int} (h : RefG w S rb mb cs ov st steps) : RefG w.drew S rb mb cs ov st steps := h.below (Below.refl _ _).drew

def Z3 : Array Value := #[.bool false, .int .i64 0, .slice none 0 0]
theorem made_at (n i : Nat) (h : i < n) : (madeCells Z3 (n * 3))[3 * i]? = some (.bool false) ∧ (madeCells Z3 (n * 3))[3 * i + 1]? = some (.int .i64 0) ∧ (madeCells Z3 (n * 3))[3 * i + 2]? = some (.slice none 0 0) := by
  have e0 : 3 * i % 3 = 0 := by omega
  have e1 : (3 * i + 1) % 3 = 1 := by omega
  have e2 : (3 * i + 2) % 3 = 2 := by omega
  have hz : Z3.size = 3 := rfl
  unfold madeCells
  refine ⟨?_, ?_, ?_⟩
  · rw [Array.getElem?_map, Array.getElem?_range, if_pos (by omega)]
    show some (Z3[3 * i % Z3.size]!) = _
    rw [hz, e0]; rfl
  · rw [Array.getElem?_map, Array.getElem?_range, if_pos (by omega)]
    show some (Z3[(3 * i + 1) % Z3.size]!) = _
    rw [hz, e1]; rfl
  · rw [Array.getElem?_map, Array.getElem?_range, if_pos (by omega)]
    show some (Z3[(3 * i + 2) % Z3.size]!) = _
    rw [hz, e2]; rfl
/-- make, of a type whose row in the table is known -/
theorem run_make_info (t e : TypeId) (z : Value) (size bytes : Nat) (ht : Tryz.prog.underlying t = some (.slice e)) (hi : (Tryz.prog.info? e).map (fun i => (i.zero, i.size, i.bytes)) = some (some z, size, bytes)) (n : Nat) (hb : bytes * n ≤ 281474976710656) (hn : n ≤ 1000000000) (w : World) :
    (Instr.makeSlice t (.int .i64 (n : Int)) (.int .i64 (n : Int))).run Tryz.prog w = .ok (.slice (some ⟨w.heap.size, 0, none⟩) n n) (w.alloc (.cells (madeCells z.cells (n * size)) e)) := by
  cases hq : Tryz.prog.info? e with
  | none => rw [hq] at hi; simp at hi
  | some i =>
    rw [hq] at hi
    simp at hi
    have h := run_make w t e i z ht hq hi.1 .i64 .i64 (n : Int) (n : Int) (by omega) (by omega) (by rw [hi.2.2, ← Int.natCast_mul]; omega) (by omega)
    rw [hi.2.1] at h
    simpa using h
theorem St.new_m (s : Nat → Int) (n own i : Nat) : (St.new s n own).m i = ⟨false, 0, []⟩ := by
  unfold St.new St.m
  simp only [List.getD_eq_getElem?_getD, List.getElem?_replicate]
  split <;> rfl
theorem St.new_ok (s : Nat → Int) (hs : ∀ i, 0 ≤ s i ∧ s i < 256) (n own : Nat) (h1 : 1 ≤ n) (h2 : n ≤ 16) (h3 : own < n) : (St.new s n own).Ok :=
  ⟨hs, h1, h2, h3, by simp [St.new], fun m hm => by
    have : m = ⟨false, 0, []⟩ := by simp [St.new] at hm; exact hm.2
    subst this
    exact ⟨by simp, by simp, by simp, by simp⟩⟩

theorem refNew_none (s : Nat → Int) (n m : Int) (hfit : FitB n m = false) (w : World) :
    Calls Tryz.prog 19 #[Agg8 s, .int .i64 n, .int .i64 m] w fun e w' => e = .returned (.pointer none) ∧ Below w.heap.size w w' := by
  have HM : Hid (∀ W, Calls Tryz.prog 39 #[.int .i64 n, .int .i64 m] W fun e w' => e = .returned (.bool (FitB n m)) ∧ w' = W) := fun W => fits_any n m W
  rw [hfit] at HM
  clear hfit
  go_enter Tryz.func19, Tryz.ntmps19
  go_wp2_with (go_at_call 39; refine (HM.out _).mono ?_; rintro e w' ⟨rfl, rfl⟩)
  go_ret
  exact ⟨rfl, (Below.refl _ w).alloc (Nat.le_refl _) _⟩

set_option maxHeartbeats 1000000 in
theorem refNew_some (s : Nat → Int) (n m : Nat) (h1 : 1 ≤ n) (h2 : n ≤ 16) (h3 : m < n) (w : World) :
    Calls Tryz.prog 19 #[Agg8 s, .int .i64 n, .int .i64 m] w fun e w' => ∃ rb S, e = .returned (.pointer (some ⟨rb, 0, none⟩)) ∧ Below w.heap.size w w' ∧ (∀ k, k ∈ S → w.heap.size ≤ k ∧ k < w'.heap.size) ∧ RefRep w' S rb (St.new s n m) 0 := by
  have HM : Hid (∀ W, Calls Tryz.prog 39 #[.int .i64 n, .int .i64 m] W fun e w' => e = .returned (.bool (FitB n m)) ∧ w' = W) := fun W => fits_any n m W
  have hfit : FitB n m = true := by simp [FitB]; omega
  rw [hfit] at HM
  clear hfit
  have hmk : ∀ w, (Instr.makeSlice 111 (.int .i64 (n : Int)) (.int .i64 (n : Int))).run Tryz.prog w = .ok (.slice (some ⟨w.heap.size, 0, none⟩) n n) (w.alloc (.cells (madeCells Z3 (n * 3)) 151)) :=
    run_make_info 111 151 (.agg Z3) 3 40 Tryz.underlying111 (by kernel_rfl) n (by omega) (by omega)
  go_enter Tryz.func19, Tryz.ntmps19
  go_wp2_with (go_at_call 39; refine (HM.out _).mono ?_; rintro e w' ⟨rfl, rfl⟩)
  go_region
  go_wp2_with fail
  go_ret
  refine ⟨w.heap.size + 1 + 1, [w.heap.size + 1 + 1, w.heap.size + 1], rfl, ((((Below.refl _ w).alloc (Nat.le_refl _) _).alloc (by simp) _).alloc (by simp; omega) _).drew, ?_, w.heap.size + 1, madeCells Z3 (n * 3), fun _ => .slice none 0 0, by omega, by simp, by simp, ?_, ?_, ⟨?_, ?_⟩, ?_⟩
  · intro k hk
    simp at hk
    simp
    omega
  · have e := (MapKept.heap_alloc ((w.alloc (.cells (Cells8 s) 47)).alloc (.cells (madeCells Z3 (n * 3)) 151)) (.cells (CellsG (St.new s n m) 0 (w.heap.size + 1)) 113)).1
    simp only [World.size_alloc] at e
    exact e
  · show (World.alloc _ _).heap[_]? = _
    rw [Below.heap_alloc _ _ _ (by simp)]
    have e := (MapKept.heap_alloc (w.alloc (.cells (Cells8 s) 47)) (.cells (madeCells Z3 (n * 3)) 151)).1
    simp only [World.size_alloc] at e
    exact e
  · rw [size_madeCells]; show n * 3 = 3 * n; omega
  · intro i hi
    rw [St.new_m]
    exact made_at n i hi
  · intro i hi
    rw [St.new_m]
    exact ⟨none, 0, rfl, Nat.le_refl _, .inl ⟨rfl, rfl, rfl⟩⟩
end Go.Proofs.YtpfijaclghdcdaaGreatDoor
