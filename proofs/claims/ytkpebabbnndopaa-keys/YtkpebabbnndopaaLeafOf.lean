/- Leaf. -/
import Derived.Test.YtkpebabbnndopaaTree6
import Derived.Test.YtkpebabbnndopaaRefPart
import Derived.WalkKit
import Derived.WalkSpells
import Derived.WalkLawsBesides
import Derived.Deep.WholeRow
namespace Go.Proofs.Ytkpebabbnndopaa
open Go.RowKit

/-- the leaf that is come to is LeafB's -/
theorem spl_leaf (k : Nat) : ∀ (f t : Nat) (s : Nat → Int) (m : Nat), f ≤ m → m < t → t - f ≤ k + 1 → ((⟨f, t, s⟩ : PartD).spl k m).s = LeafB k s f t m := by
  induction k with
  | zero => intro f t s m h1 h2 h3; rfl
  | succ k ih =>
    intro f t s m h1 h2 h3
    by_cases hgt : t - f ≤ 1
    · rw [PartD.spl_one _ _ _ hgt, LeafB_one _ _ _ _ _ (by omega)]
    · have e : ((t : Int) - f) = ((t - f : Nat) : Int) := by omega
      have hb := SplitN_bd (t - f) (by omega)
      by_cases hm : m < f + SplitN (t - f)
      · rw [PartD.spl_left k ⟨f, t, s⟩ m hgt hm, LeafB_left _ _ _ _ _ (by omega) (by rw [e, SplitN_eq]; omega)]
        have := ih f (f + SplitN (t - f)) (DerB s lLeft 0) m h1 hm (by omega)
        rw [e, SplitN_eq]
        exact this
      · rw [PartD.spl_right k ⟨f, t, s⟩ m hgt hm, LeafB_right _ _ _ _ _ (by omega) (by rw [e, SplitN_eq]; omega)]
        have := ih (f + SplitN (t - f)) t (DerB s lRight 0) m (by omega) h2 (by omega)
        rw [e, SplitN_eq]
        exact this
end Go.Proofs.Ytkpebabbnndopaa
