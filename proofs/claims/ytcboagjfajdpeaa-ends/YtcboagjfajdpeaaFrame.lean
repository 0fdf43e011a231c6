/- frameOf. -/
import Derived.Test.YtcboagjfajdpeaaConcat
import Derived.Test.YtcboagjfajdpeaaSeal
import Derived.WalkKit
import Derived.WalkSpells
import Derived.WalkLawsBesides
import Derived.Deep.WholeRow
import Derived.Deep.DeepCutAuto
import Derived.BigRegion
namespace Go.Proofs.Ytcboagjfajdpeaa
open Go.RowKit
set_option linter.unusedVariables false

set_option maxHeartbeats 4000000 in
set_option maxRecDepth 20000 in
theorem frameOf_any {F : FuncId} {pre : Array Value} {q : Option Nat} (dv : Drv F pre q) (who gen : Nat) (hwho : who < 16) (hg : (gen : Int) ≤ 65535) (s : Nat → Int) (hs : ∀ i, 0 ≤ s i ∧ s i < 256) (a : Option Addr) (m : List UInt8) (d : Nat) (hm : m.length ≤ 100000) (w : World) (ha : Bts w a m) (hq : Has q w) (hna : ∀ b o, a = some ⟨b, o, none⟩ → q ≠ some b) :
    Calls Try.prog 54 #[.int .i64 who, .int .i64 gen, Agg8 s, .slice a m.length d, .func (.func F) pre #[]] w fun e w' => ∃ g cap, e = .returned (.slice (some ⟨g, 0, none⟩) (HeadB who gen ++ SealT s (HeadB who gen) m).length cap) ∧ (HeadB who gen ++ SealT s (HeadB who gen) m).length ≤ cap ∧ w.heap.size ≤ g ∧ Tick q ((m.length + 7) / 8 + 1) w w' ∧ w'.heap[g]? = some (.cells (RowB (HeadB who gen ++ SealT s (HeadB who gen) m) cap) 5 (0, 0)) := by
  have hH := headV_row who gen hwho hg
  have HHO : Hid (∀ W, Calls Try.prog 76 #[.int .i64 who, .int .i64 gen] W fun e w' => e = .returned (.agg (HeadV who gen)) ∧ w' = W.alloc (.cells (HeadV who gen) 141)) := fun W => headOf_any who gen hwho hg W
  have hsl : (SealT s (HeadB who gen) m).length = m.length + 4 := SealT_length _ _ _
  -- the world with the key, what headOf made, and the head
  obtain ⟨w1, hw1⟩ : ∃ w1, ((w.alloc (.cells (Cells8 s) 23)).alloc (.cells (HeadV who gen) 141)).alloc (.cells (HeadV who gen) 141) = w1 := ⟨_, rfl⟩
  have t1 : Tick q 0 w w1 := by rw [← hw1]; exact ((Tick.refl q w).alloc _).alloc _ |>.alloc _
  have k1 : w1.heap[w.heap.size]? = some (.cells (Cells8 s) 23 (0, 0)) := by rw [← hw1, Below.heap_alloc _ _ _ (by simp; omega), Below.heap_alloc _ _ _ (by simp), (MapKept.heap_alloc _ _).1]
  have h1 : w1.heap[w.heap.size + 1 + 1]? = some (.cells (RowB (HeadB who gen) 3) 141 (0, 0)) := by
    rw [← hw1, ← hH]
    have e := (MapKept.heap_alloc ((w.alloc (.cells (Cells8 s) 23)).alloc (.cells (HeadV who gen) 141)) (.cells (HeadV who gen) 141)).1
    simp only [World.size_alloc] at e
    exact e
  have HSE : Hid (∀ W n, Tick q n w W → W.heap[w.heap.size + 1 + 1]? = some (.cells (RowB (HeadB who gen) 3) 141 (0, 0)) → Calls Try.prog 31 #[Agg8 s, .slice (some ⟨w.heap.size + 1 + 1, 0, none⟩) 3 3, .slice a m.length d, .func (.func F) pre #[]] W fun e w' => ∃ g cap, e = .returned (.slice (some ⟨g, 0, none⟩) (m.length + 4) cap) ∧ m.length + 4 ≤ cap ∧ W.heap.size ≤ g ∧ Tick q ((m.length + 7) / 8 + 1) W w' ∧ w'.heap[g]? = some (.cells (RowB (SealT s (HeadB who gen) m) cap) 5 (0, 0))) := fun W n hW hrow => by
    refine seal_d dv s hs (some ⟨w.heap.size + 1 + 1, 0, none⟩) (HeadB who gen) 3 (by show 3 ≤ _; omega) a m d (by omega) W (.inr ⟨_, 0, rfl, fun i hi => by rw [Nat.zero_add, cell_of_row _ _ _ _ _ _ hrow, RowB_at _ _ _ hi]⟩) (ha.tick hW hna) (hq.tick hW) (fun b o e => by cases e; exact hq.ne (by omega)) hna
  have HQ : Hid (Has q w) := hq
  have HK1 : Hid (w1.heap[w.heap.size]? = some (.cells (Cells8 s) 23 (0, 0))) := k1
  have HH1 : Hid (w1.heap[w.heap.size + 1 + 1]? = some (.cells (RowB (HeadB who gen) 3) 141 (0, 0))) := h1
  have HT1 : Hid (Tick q 0 w w1) := t1
  have HW1 : Hid (((w.alloc (.cells (Cells8 s) 23)).alloc (.cells (HeadV who gen) 141)).alloc (.cells (HeadV who gen) 141) = w1) := hw1
  have HSL : Hid ((SealT s (HeadB who gen) m).length = m.length + 4) := hsl
  have HCO : Hid (∀ sb g cap cap2 W, W.heap[sb]? = some (.cells #[.slice (some ⟨w.heap.size + 1 + 1, 0, none⟩) 3 cap2, .slice (some ⟨g, 0, none⟩) (m.length + 4) cap] 27 (0, 0)) → W.heap[w.heap.size + 1 + 1]? = some (.cells (RowB (HeadB who gen) 3) 141 (0, 0)) → W.heap[g]? = some (.cells (RowB (SealT s (HeadB who gen) m) cap) 5 (0, 0)) → Calls Try.prog 77 #[.slice (some ⟨sb, 0, none⟩) 2 2] W fun e w' => ∃ cap, e = .returned (.slice (some ⟨W.heap.size, 0, none⟩) (HeadB who gen ++ SealT s (HeadB who gen) m).length cap) ∧ (HeadB who gen ++ SealT s (HeadB who gen) m).length ≤ cap ∧ Below W.heap.size W w' ∧ w'.heap[W.heap.size]? = some (.cells (RowB (HeadB who gen ++ SealT s (HeadB who gen) m) cap) 5 (0, 0))) := fun sb g cap cap2 W r1 r2 r3 => by
    refine concat_any sb (some ⟨w.heap.size + 1 + 1, 0, none⟩) (some ⟨g, 0, none⟩) (HeadB who gen) (SealT s (HeadB who gen) m) cap2 cap (by simp [HeadB]) (by intro e; rw [e] at hsl; simp at hsl) (by rw [hsl]; show 3 + _ ≤ _; omega) W (by rw [hsl]; exact r1) ?_ ?_
    · exact .inr ⟨_, 0, rfl, fun i hi => by rw [Nat.zero_add, cell_of_row _ _ _ _ _ _ r2, RowB_at _ _ _ hi]⟩
    · exact .inr ⟨_, 0, rfl, fun i hi => by rw [Nat.zero_add, cell_of_row _ _ _ _ _ _ r3, RowB_at _ _ _ hi]⟩
  obtain ⟨TX, hTX⟩ : ∃ TX, HeadB who gen ++ SealT s (HeadB who gen) m = TX := ⟨_, rfl⟩
  rw [hTX] at HCO ⊢
  clear hTX hH hsl hw1 t1 k1 h1 ha hq hna hm hs
  go_enter Try.func54, Try.ntmps54
  go_wp2_with (go_at_call 76; refine (HHO.out _).mono ?_; rintro e w' ⟨rfl, rfl⟩)
  rw [HW1.out]
  obtain ⟨hA, _⟩ : (∀ o, w1.cell? ⟨w.heap.size, o, none⟩ = (Cells8 s)[o]?) ∧ True := ⟨fun o => cell_of_row _ _ _ _ _ _ HK1.out, trivial⟩
  have HLT : Hid (w.heap.size + 1 + 1 < w1.drew.heap.size) := (Array.getElem?_eq_some_iff.1 HH1.out).1
  go_region_with (first
    | (go_at_call 31; refine (HSE.out _ 0 HT1.out.drew HH1.out).mono ?_; rintro e w2 ⟨g, cap, rfl, hcap, hg2, t2, r2⟩; have HT2 : Hid (Tick q ((m.length + 7) / 8 + 1) w1.drew w2) := t2; have HR2 : Hid (w2.heap[g]? = some (.cells (RowB (SealT s (HeadB who gen) m) cap) 5 (0, 0))) := r2; have HH2 : Hid (w2.heap[w.heap.size + 1 + 1]? = some (.cells (RowB (HeadB who gen) 3) 141 (0, 0))) := (t2.block _ HLT.out (HQ.out.ne (by omega))).trans HH1.out; have HG2 : Hid (w1.drew.heap.size ≤ g) := hg2; clear t2 r2 hcap hg2)
    | (go_at_call 77; refine (HCO.out w2.heap.size g cap 3 _ (MapKept.heap_alloc _ _).1 ((Below.heap_alloc _ _ _ (Array.getElem?_eq_some_iff.1 HH2.out).1).trans HH2.out) ((Below.heap_alloc _ _ _ (Array.getElem?_eq_some_iff.1 HR2.out).1).trans HR2.out)).mono ?_; rintro e w3 ⟨cap3, rfl, hc3, b3, r3⟩))
  all_goals
    go_wp2_with fail
    go_ret
    refine ⟨_, cap3, rfl, hc3, ?_, ?_, by simpa only [World.size_alloc] using r3⟩
    · have := HT2.out.size
      have := HT1.out.size
      simp at *
      omega
    · have := (HT1.out.drew.trans HT2.out).alloc (.cells #[.slice (some ⟨w.heap.size + 1 + 1, 0, none⟩) 3 3, .slice (some ⟨g, 0, none⟩) (m.length + 4) cap] 27)
      rw [Nat.zero_add] at this
      exact this.below b3
end Go.Proofs.Ytcboagjfajdpeaa
