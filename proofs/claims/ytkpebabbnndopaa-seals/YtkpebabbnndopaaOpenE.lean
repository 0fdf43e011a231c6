/- Open. -/
import Derived.Test.YtkpebabbnndopaaOpen
import Derived.WalkKit
import Derived.WalkSpells
import Derived.WalkLawsBesides
import Derived.Deep.DeepCutAuto
import Derived.BigRegion
import Derived.Laws.CopyRow
import Derived.Deep.WholeRow
namespace Go.Proofs.Ytkpebabbnndopaa
open Go.RowKit

theorem open_short (s : Nat → Int) (a : Option Addr) (l : List UInt8) (c : Nat) (b : Option Addr) (n : Nat) (d : Nat) (hn : n < 4) (w : World) :
    Calls Try.prog 11 #[Agg8 s, .slice a l.length c, .slice b n d] w fun e w' => e = .returned (.tuple #[.slice none 0 0, .bool false]) ∧ Below w.heap.size w w' := by
  have HS : Hid (∀ W, Calls Try.prog 23 #[Agg8 s, .slice a l.length c, .slice b n d, .func (.func 6) #[] #[]] W fun e w' => e = .returned (.tuple #[.slice none 0 0, .bool false]) ∧ Below W.heap.size W w') := fun W => open_short_d _ s a l c b n d hn W
  go_enter Try.func11, Try.ntmps11
  go_wp2_with fail
  refine (HS.out _).mono ?_
  rintro e w1 ⟨rfl, h1⟩
  have h1' : Below w.heap.size w w1 := ((Below.refl _ w).alloc (Nat.le_refl _) _).trans (h1.mono (by simp))
  clear h1
  go_wp2_with fail
  go_ret2
  exact ⟨rfl, h1'⟩
set_option maxHeartbeats 400000 in
theorem open_long (s : Nat → Int) (hs : ∀ i, 0 ≤ s i ∧ s i < 256) (a : Option Addr) (l : List UInt8) (c : Nat) (hl : l.length ≤ 1000000) (bb bo k d : Nat) (x : List UInt8) (hx : x.length = k + 4) (hk : k ≤ 1000000) (hd : k + 4 ≤ d) (w : World)
    (ha : Bts w a l) (hc : ∀ i (h : i < x.length), w.cell? ⟨bb, bo + i, none⟩ = some (cellB x[i])) :
    Calls Try.prog 11 #[Agg8 s, .slice a l.length c, .slice (some ⟨bb, bo, none⟩) (k + 4) d] w fun e w' => Below w.heap.size w w' ∧ ((OpenOk s l x = false ∧ e = .returned (.tuple #[.slice none 0 0, .bool false])) ∨ (OpenOk s l x = true ∧ ∃ g, e = .returned (.tuple #[.slice (some ⟨g, 0, none⟩) k k, .bool true]) ∧ w.heap.size ≤ g ∧ w'.heap[g]? = some (.cells (RowB (OpenT s x) k) 5 (0, 0)))) := by
  have hbb : bb < w.heap.size := block_lt_of_cell (hc 0 (by omega))
  have bel0 : Below w.heap.size w (w.alloc (.cells (Cells8 s) 23)) := (Below.refl _ w).alloc (Nat.le_refl _) _
  have HS : Hid (Calls Try.prog 23 #[Agg8 s, .slice a l.length c, .slice (some ⟨bb, bo, none⟩) (k + 4) d, .func (.func 6) #[] #[]] (w.alloc (.cells (Cells8 s) 23)) fun e w' => (∃ n, (0 < n ∧ n ≤ (k + 7) / 8 + 1) ∧ Tick none n (w.alloc (.cells (Cells8 s) 23)) w') ∧ ((OpenOk s l x = false ∧ e = .returned (.tuple #[.slice none 0 0, .bool false])) ∨ (OpenOk s l x = true ∧ ∃ g, e = .returned (.tuple #[.slice (some ⟨g, 0, none⟩) k k, .bool true]) ∧ (w.alloc (.cells (Cells8 s) 23)).heap.size ≤ g ∧ w'.heap[g]? = some (.cells (RowB (OpenT s x) k) 5 (0, 0))))) :=
    open_long_d drv_plain s hs a l c hl bb bo k d x hx hk hd _ (ha.below bel0) (fun i h => by rw [bel0.cell (p := ⟨bb, bo + i, none⟩) hbb]; exact hc i h) (has_none _) (fun _ _ _ => by simp) (by simp)
  clear ha hc hs
  go_enter Try.func11, Try.ntmps11
  go_wp2_with fail
  refine HS.out.mono ?_
  rintro e w1 ⟨⟨n, hn, h1⟩, ⟨h2, rfl⟩ | ⟨h2, g, rfl, h3, h4⟩⟩
  · have h1' : Below w.heap.size w w1 := bel0.trans (h1.toBelow.mono (by simp))
    clear h1 bel0
    go_wp2_with fail
    go_ret2
    exact ⟨h1', .inl ⟨h2, rfl⟩⟩
  · have h1' : Below w.heap.size w w1 := bel0.trans (h1.toBelow.mono (by simp))
    simp only [World.size_alloc] at h3
    clear h1 bel0
    go_wp2_with fail
    go_ret2
    exact ⟨h1', .inr ⟨h2, g, rfl, by omega, h4⟩⟩
end Go.Proofs.Ytkpebabbnndopaa
