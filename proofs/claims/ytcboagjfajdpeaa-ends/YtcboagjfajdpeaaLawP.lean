/- The law's pick. -/
import Derived.Test.YtcboagjfajdpeaaRows
import Derived.WalkKit
import Derived.WalkSpells
import Derived.WalkLawsBesides
namespace Go.Proofs.Ytcboagjfajdpeaa
open Go.RowKit
set_option linter.unusedVariables false

/-- which of n things the raw number c speaks of -/
def PickI (c : Int) (n : Nat) : Nat := if c < 0 then ((-(c + 1)) % (n : Int)).toNat else (c % (n : Int)).toNat
theorem PickI_lt (c : Int) (n : Nat) (hn : 1 ≤ n) : PickI c n < n := by
  unfold PickI
  have hn0 : ¬ (n : Int) = 0 := by omega
  split
  · have a1 := Int.emod_nonneg (-(c + 1)) hn0
    have a2 := Int.emod_lt_of_pos (-(c + 1)) (show (0 : Int) < n by omega)
    omega
  · have a1 := Int.emod_nonneg c hn0
    have a2 := Int.emod_lt_of_pos c (show (0 : Int) < n by omega)
    omega
theorem PickI_neg (c : Int) (n : Nat) (hn : 1 ≤ n) (hc : c < 0) : (PickI c n : Int) = -(c + 1).tmod (n : Int) := by
  have hn0 : ¬ (n : Int) = 0 := by omega
  unfold PickI
  rw [if_pos hc, ← Int.neg_tmod, Int.tmod_eq_emod_of_nonneg (by omega), Int.toNat_of_nonneg (Int.emod_nonneg _ hn0)]
theorem PickI_pos (c : Int) (n : Nat) (hn : 1 ≤ n) (hc : ¬ c < 0) : (PickI c n : Int) = c % (n : Int) := by
  have hn0 : ¬ (n : Int) = 0 := by omega
  unfold PickI
  rw [if_neg hc, Int.toNat_of_nonneg (Int.emod_nonneg _ hn0)]
theorem pick_any (c : Int) (h1 : -9223372036854775808 ≤ c) (h2 : c ≤ 9223372036854775807) (n : Nat) (hn : 1 ≤ n) (hn2 : n ≤ 1000000) (w : World) :
    Calls Try.prog 67 #[.int .i64 c, .int .i64 n] w fun e w' => e = .returned (.int .i64 (PickI c n)) ∧ w' = w := by
  have hn0 : ¬ (n : Int) = 0 := by omega
  by_cases hc : c < 0
  · have HE : Hid ((PickI c n : Int) = -(c + 1).tmod (n : Int)) := PickI_neg c n hn hc
    obtain ⟨i, hi⟩ : ∃ i, PickI c n = i := ⟨_, rfl⟩
    rw [hi] at HE ⊢
    clear hi
    go_enter Try.func67, Try.ntmps67
    go_wp2_with fail
    go_ret
    refine ⟨?_, rfl⟩
    show Ending.returned (Value.int .i64 (-(c + 1).tmod (n : Int))) = _
    rw [HE.out]
  · have HE : Hid ((PickI c n : Int) = c % (n : Int)) := PickI_pos c n hn hc
    obtain ⟨i, hi⟩ : ∃ i, PickI c n = i := ⟨_, rfl⟩
    rw [hi] at HE ⊢
    clear hi
    go_enter Try.func67, Try.ntmps67
    go_wp2_with fail
    go_ret
    refine ⟨?_, rfl⟩
    show Ending.returned (Value.int .i64 (c % (n : Int))) = _
    rw [HE.out]
end Go.Proofs.Ytcboagjfajdpeaa
