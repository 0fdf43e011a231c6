/- Seal. -/
import Derived.Test.YtkpebabbnndopaaSeal
import Derived.WalkKit
import Derived.WalkSpells
import Derived.WalkLawsBesides
namespace Go.Proofs.Ytkpebabbnndopaa
open Go.RowKit

theorem seal_any (s : Nat → Int) (hs : ∀ i, 0 ≤ s i ∧ s i < 256) (a : Option Addr) (l : List UInt8) (c : Nat) (hl : l.length ≤ 1000000) (b : Option Addr) (m : List UInt8) (d : Nat) (hm : m.length ≤ 1000000) (w : World) (ha : Bts w a l) (hb : Bts w b m) :
    Calls Try.prog 9 #[Agg8 s, .slice a l.length c, .slice b m.length d] w fun e w' => ∃ g cap, e = .returned (.slice (some ⟨g, 0, none⟩) (m.length + 4) cap) ∧ m.length + 4 ≤ cap ∧ w.heap.size ≤ g ∧ Below w.heap.size w w' ∧
      w'.heap[g]? = some (.cells (RowB (SealT s l m) cap) 5 (0, 0)) := by
  have bel0 : Below w.heap.size w (w.alloc (.cells (Cells8 s) 23)) := (Below.refl _ w).alloc (Nat.le_refl _) _
  have HS : Hid (Calls Try.prog 20 #[Agg8 s, .slice a l.length c, .slice b m.length d, .func (.func 6) #[] #[]] (w.alloc (.cells (Cells8 s) 23)) fun e w' => ∃ g cap, e = .returned (.slice (some ⟨g, 0, none⟩) (m.length + 4) cap) ∧ m.length + 4 ≤ cap ∧ (w.alloc (.cells (Cells8 s) 23)).heap.size ≤ g ∧ Tick none ((m.length + 7) / 8 + 1) (w.alloc (.cells (Cells8 s) 23)) w' ∧
      w'.heap[g]? = some (.cells (RowB (SealT s l m) cap) 5 (0, 0))) := seal_d drv_plain s hs a l c hl b m d hm _ (ha.below bel0) (hb.below bel0) (has_none _) (fun _ _ _ => by simp) (fun _ _ _ => by simp)
  clear ha hb hs
  go_enter Try.func9, Try.ntmps9
  go_wp2_with fail
  refine HS.out.mono ?_
  rintro e w1 ⟨g, cap, rfl, h1, h2, h3, h4⟩
  have h3' : Below w.heap.size w w1 := bel0.trans (h3.toBelow.mono (by simp))
  simp only [World.size_alloc] at h2
  clear h3 bel0
  go_wp2_with fail
  go_ret
  exact ⟨g, cap, rfl, h1, by omega, h3', h4⟩
end Go.Proofs.Ytkpebabbnndopaa
