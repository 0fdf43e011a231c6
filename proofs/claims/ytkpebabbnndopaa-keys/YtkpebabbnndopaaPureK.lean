/- The tree and the ratchet, as plain functions: no walk here. -/
import Derived.Test.YtkpebabbnndopaaPure
import Derived.WalkKit
namespace Go.Proofs.Ytkpebabbnndopaa
open Go.RowKit

def lLeft : List UInt8 := [108, 101, 102, 116]
def lRight : List UInt8 := [114, 105, 103, 104, 116]
def lRatchet : List UInt8 := [114, 97, 116, 99, 104, 101, 116]
def lNext : List UInt8 := [110, 101, 120, 116]
def lKey : List UInt8 := [107, 101, 121]

/-- the greatest power of 2 below n, from 2 to 16 -/
def SplitI (n : Int) : Int := if n ≤ 2 then 1 else if n ≤ 4 then 2 else if n ≤ 8 then 4 else 8
theorem SplitI_bd (n : Int) (h : 2 ≤ n) : 1 ≤ SplitI n ∧ SplitI n < n := by
  unfold SplitI; split <;> (try split) <;> (try split) <;> omega

/-- the secret of member m within the part from f to t, whose secret is s (k: at least as many halvings as there are) -/
def LeafB : Nat → (Nat → Int) → Int → Int → Int → (Nat → Int)
  | 0, s, _, _, _ => s
  | k + 1, s, f, t, m => if t - f ≤ 1 then s else if m < f + SplitI (t - f) then LeafB k (DerB s lLeft 0) f (f + SplitI (t - f)) m else LeafB k (DerB s lRight 0) (f + SplitI (t - f)) t m
theorem LeafB_one (k : Nat) (s : Nat → Int) (f t m : Int) (h : t - f ≤ 1) : LeafB k s f t m = s := by
  cases k with
  | zero => rfl
  | succ k => rw [LeafB, if_pos h]
theorem LeafB_left (k : Nat) (s : Nat → Int) (f t m : Int) (h : 1 < t - f) (hm : m < f + SplitI (t - f)) : LeafB (k + 1) s f t m = LeafB k (DerB s lLeft 0) f (f + SplitI (t - f)) m := by
  rw [LeafB, if_neg (by omega), if_pos hm]
theorem LeafB_right (k : Nat) (s : Nat → Int) (f t m : Int) (h : 1 < t - f) (hm : ¬ m < f + SplitI (t - f)) : LeafB (k + 1) s f t m = LeafB k (DerB s lRight 0) (f + SplitI (t - f)) t m := by
  rw [LeafB, if_neg (by omega), if_neg hm]
theorem DerB_bd (s : Nat → Int) (l : List UInt8) (n : Int) (i : Nat) : 0 ≤ DerB s l n i ∧ DerB s l n i < 256 := Byt_bd _ _
theorem LeafB_bd (k : Nat) (s : Nat → Int) (f t m : Int) (hs : ∀ i, 0 ≤ s i ∧ s i < 256) : ∀ i, 0 ≤ LeafB k s f t m i ∧ LeafB k s f t m i < 256 := by
  induction k generalizing s f t with
  | zero => exact hs
  | succ k ih =>
    rw [LeafB]
    split
    · exact hs
    · split
      · exact ih _ _ _ (DerB_bd _ _ _)
      · exact ih _ _ _ (DerB_bd _ _ _)

/-- a ratchet's secret at a generation -/
def RatB (s : Nat → Int) : Nat → (Nat → Int)
  | 0 => s
  | n + 1 => DerB (RatB s n) lNext n
theorem RatB_bd (s : Nat → Int) (hs : ∀ i, 0 ≤ s i ∧ s i < 256) (n : Nat) : ∀ i, 0 ≤ RatB s n i ∧ RatB s n i < 256 := by
  cases n with
  | zero => exact hs
  | succ n => exact DerB_bd _ _ _
/-- a member's leaf; its ratchet; its key -/
def LeafM (s : Nat → Int) (n m : Int) : Nat → Int := LeafB 16 s 0 n m
def RatM (s : Nat → Int) (n m : Int) (g : Nat) : Nat → Int := RatB (DerB (LeafM s n m) lRatchet 0) g
def KeyM (s : Nat → Int) (n m : Int) (g : Nat) : Nat → Int := DerB (RatM s n m g) lKey g
end Go.Proofs.Ytkpebabbnndopaa
