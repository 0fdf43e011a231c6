/- The parts of the tree as plain functions. -/
import Derived.Test.YtkpebabbnndopaaOut
import Derived.WalkKit
namespace Go.Proofs.Ytkpebabbnndopaa
open Go.RowKit

def SplitN (n : Nat) : Nat := if n ≤ 2 then 1 else if n ≤ 4 then 2 else if n ≤ 8 then 4 else 8
theorem SplitN_eq (n : Nat) : SplitI (n : Int) = (SplitN n : Int) := by
  unfold SplitI SplitN
  by_cases h1 : n ≤ 2
  · rw [if_pos (by omega), if_pos h1]; rfl
  · rw [if_neg (by omega), if_neg h1]
    by_cases h2 : n ≤ 4
    · rw [if_pos (by omega), if_pos h2]; rfl
    · rw [if_neg (by omega), if_neg h2]
      by_cases h3 : n ≤ 8
      · rw [if_pos (by omega), if_pos h3]; rfl
      · rw [if_neg (by omega), if_neg h3]; rfl
theorem SplitN_bd (n : Nat) (h : 2 ≤ n) : 1 ≤ SplitN n ∧ SplitN n < n := by
  unfold SplitN; split <;> (try split) <;> (try split) <;> omega
/-- the secret of the part from a to b, within the part from f to t, whose secret is s -/
def PartB : Nat → (Nat → Int) → Nat → Nat → Nat → Nat → (Nat → Int)
  | 0, s, _, _, _, _ => s
  | k + 1, s, f, t, a, b => if f = a ∧ t = b then s else if a < f + SplitN (t - f) then PartB k (DerB s lLeft 0) f (f + SplitN (t - f)) a b else PartB k (DerB s lRight 0) (f + SplitN (t - f)) t a b
/-- is there such a part? -/
def NodeB : Nat → Nat → Nat → Nat → Nat → Bool
  | 0, f, t, a, b => decide (f = a ∧ t = b)
  | k + 1, f, t, a, b => decide (f = a ∧ t = b) || (decide (2 ≤ t - f) && if a < f + SplitN (t - f) then NodeB k f (f + SplitN (t - f)) a b else NodeB k (f + SplitN (t - f)) t a b)
theorem PartB_succ (k : Nat) (s : Nat → Int) (f t a b : Nat) : PartB (k + 1) s f t a b = if f = a ∧ t = b then s else if a < f + SplitN (t - f) then PartB k (DerB s lLeft 0) f (f + SplitN (t - f)) a b else PartB k (DerB s lRight 0) (f + SplitN (t - f)) t a b := rfl
theorem NodeB_succ (k f t a b : Nat) : NodeB (k + 1) f t a b = (decide (f = a ∧ t = b) || (decide (2 ≤ t - f) && if a < f + SplitN (t - f) then NodeB k f (f + SplitN (t - f)) a b else NodeB k (f + SplitN (t - f)) t a b)) := rfl
theorem NodeB_zero (k f t : Nat) : NodeB k f t f t = true := by
  cases k with
  | zero => simp [NodeB]
  | succ k => simp [NodeB]
theorem NodeB_in (k : Nat) : ∀ f t a b, NodeB k f t a b = true → f < t → f ≤ a ∧ a < b ∧ b ≤ t := by
  induction k with
  | zero => intro f t a b h hl; simp [NodeB] at h; omega
  | succ k ih =>
    intro f t a b h hl
    rw [NodeB_succ] at h
    by_cases e : f = a ∧ t = b
    · omega
    · rw [decide_eq_false e, Bool.false_or, Bool.and_eq_true, decide_eq_true_eq] at h
      obtain ⟨h2, h3⟩ := h
      have hb := SplitN_bd (t - f) h2
      split at h3
      · have := ih _ _ _ _ h3 (by omega); omega
      · have := ih _ _ _ _ h3 (by omega); omega
theorem PartB_more (k : Nat) : ∀ s f t a b, NodeB k f t a b = true → PartB (k + 1) s f t a b = PartB k s f t a b := by
  induction k with
  | zero =>
    intro s f t a b h
    simp [NodeB] at h
    rw [PartB_succ, if_pos h]; rfl
  | succ k ih =>
    intro s f t a b h
    rw [PartB_succ]
    conv => rhs; rw [PartB_succ]
    by_cases e : f = a ∧ t = b
    · rw [if_pos e, if_pos e]
    · rw [if_neg e, if_neg e]
      rw [NodeB_succ, decide_eq_false e, Bool.false_or, Bool.and_eq_true] at h
      obtain ⟨_, h3⟩ := h
      by_cases ha : a < f + SplitN (t - f)
      · rw [if_pos ha] at h3 ⊢; rw [if_pos ha]; exact ih _ _ _ _ _ h3
      · rw [if_neg ha] at h3 ⊢; rw [if_neg ha]; exact ih _ _ _ _ _ h3
theorem NodeB_more (k : Nat) : ∀ f t a b, NodeB k f t a b = true → NodeB (k + 1) f t a b = true := by
  induction k with
  | zero => intro f t a b h; simp [NodeB] at h; rw [NodeB_succ, decide_eq_true h]; rfl
  | succ k ih =>
    intro f t a b h
    by_cases e : f = a ∧ t = b
    · rw [NodeB_succ, decide_eq_true e]; rfl
    · rw [NodeB_succ, decide_eq_false e, Bool.false_or, Bool.and_eq_true] at h
      obtain ⟨h2, h3⟩ := h
      rw [NodeB_succ, decide_eq_false e, Bool.false_or, Bool.and_eq_true]
      refine ⟨h2, ?_⟩
      by_cases ha : a < f + SplitN (t - f)
      · rw [if_pos ha] at h3 ⊢; exact ih _ _ _ _ h3
      · rw [if_neg ha] at h3 ⊢; exact ih _ _ _ _ h3
/-- the halves of a part are parts, and their secrets are derived out of its -/
theorem part_halves (k : Nat) : ∀ s f t a b, NodeB k f t a b = true → f < t → 2 ≤ b - a →
    (NodeB (k + 1) f t a (a + SplitN (b - a)) = true ∧ PartB (k + 1) s f t a (a + SplitN (b - a)) = DerB (PartB k s f t a b) lLeft 0) ∧
    (NodeB (k + 1) f t (a + SplitN (b - a)) b = true ∧ PartB (k + 1) s f t (a + SplitN (b - a)) b = DerB (PartB k s f t a b) lRight 0) := by
  induction k with
  | zero =>
    intro s f t a b h hl h2
    simp [NodeB] at h
    obtain ⟨rfl, rfl⟩ := h
    have hb := SplitN_bd (t - f) h2
    have n1 : ¬ (f = f ∧ t = f + SplitN (t - f)) := by omega
    have n2 : ¬ (f = f + SplitN (t - f) ∧ t = t) := by omega
    have n3 : f < f + SplitN (t - f) := by omega
    have n4 : ¬ (f + SplitN (t - f) < f + SplitN (t - f)) := by omega
    refine ⟨⟨?_, ?_⟩, ?_, ?_⟩
    · rw [NodeB_succ, decide_eq_false n1, Bool.false_or, Bool.and_eq_true, if_pos n3]
      exact ⟨by simpa using h2, by simp [NodeB]⟩
    · rw [PartB_succ, if_neg n1, if_pos n3]; rfl
    · rw [NodeB_succ, decide_eq_false n2, Bool.false_or, Bool.and_eq_true, if_neg n4]
      exact ⟨by simpa using h2, by simp [NodeB]⟩
    · rw [PartB_succ, if_neg n2, if_neg n4]; rfl
  | succ k ih =>
    intro s f t a b h hl h2
    have hb := SplitN_bd (b - a) h2
    have hin := NodeB_in _ _ _ _ _ h hl
    by_cases e : f = a ∧ t = b
    · obtain ⟨rfl, rfl⟩ := e
      have n1 : ¬ (f = f ∧ t = f + SplitN (t - f)) := by omega
      have n2 : ¬ (f = f + SplitN (t - f) ∧ t = t) := by omega
      have n3 : f < f + SplitN (t - f) := by omega
      have n4 : ¬ (f + SplitN (t - f) < f + SplitN (t - f)) := by omega
      have hs : PartB (k + 1) s f t f t = s := by rw [PartB_succ, if_pos ⟨rfl, rfl⟩]
      rw [hs]
      refine ⟨⟨?_, ?_⟩, ?_, ?_⟩
      · rw [NodeB_succ, decide_eq_false n1, Bool.false_or, Bool.and_eq_true, if_pos n3]
        exact ⟨by simpa using h2, NodeB_zero _ _ _⟩
      · rw [PartB_succ, if_neg n1, if_pos n3]; rw [PartB_succ, if_pos ⟨rfl, rfl⟩]
      · rw [NodeB_succ, decide_eq_false n2, Bool.false_or, Bool.and_eq_true, if_neg n4]
        exact ⟨by simpa using h2, NodeB_zero _ _ _⟩
      · rw [PartB_succ, if_neg n2, if_neg n4]; rw [PartB_succ, if_pos ⟨rfl, rfl⟩]
    · rw [NodeB_succ, decide_eq_false e, Bool.false_or, Bool.and_eq_true] at h
      obtain ⟨h3, h4⟩ := h
      have h3' : 2 ≤ t - f := by simpa using h3
      have hq := SplitN_bd (t - f) h3'
      have ep : PartB (k + 1) s f t a b = if a < f + SplitN (t - f) then PartB k (DerB s lLeft 0) f (f + SplitN (t - f)) a b else PartB k (DerB s lRight 0) (f + SplitN (t - f)) t a b := by rw [PartB_succ, if_neg e]
      rw [ep]
      have n1 : ¬ (f = a ∧ t = a + SplitN (b - a)) := by omega
      have n2 : ¬ (f = a + SplitN (b - a) ∧ t = b) := by omega
      by_cases ha : a < f + SplitN (t - f)
      · rw [if_pos ha] at h4 ⊢
        have hin2 := NodeB_in _ _ _ _ _ h4 (by omega)
        obtain ⟨⟨x1, x2⟩, x3, x4⟩ := ih (DerB s lLeft 0) f (f + SplitN (t - f)) a b h4 (by omega) h2
        have ha2 : a + SplitN (b - a) < f + SplitN (t - f) := by omega
        refine ⟨⟨?_, ?_⟩, ?_, ?_⟩
        · rw [NodeB_succ, decide_eq_false n1, Bool.false_or, Bool.and_eq_true, if_pos ha]; exact ⟨h3, x1⟩
        · rw [PartB_succ, if_neg n1, if_pos ha]; exact x2
        · rw [NodeB_succ, decide_eq_false n2, Bool.false_or, Bool.and_eq_true, if_pos ha2]; exact ⟨h3, x3⟩
        · rw [PartB_succ, if_neg n2, if_pos ha2]; exact x4
      · rw [if_neg ha] at h4 ⊢
        have hin2 := NodeB_in _ _ _ _ _ h4 (by omega)
        obtain ⟨⟨x1, x2⟩, x3, x4⟩ := ih (DerB s lRight 0) (f + SplitN (t - f)) t a b h4 (by omega) h2
        have ha2 : ¬ a + SplitN (b - a) < f + SplitN (t - f) := by omega
        refine ⟨⟨?_, ?_⟩, ?_, ?_⟩
        · rw [NodeB_succ, decide_eq_false n1, Bool.false_or, Bool.and_eq_true, if_neg ha]; exact ⟨h3, x1⟩
        · rw [PartB_succ, if_neg n1, if_neg ha]; exact x2
        · rw [NodeB_succ, decide_eq_false n2, Bool.false_or, Bool.and_eq_true, if_neg ha2]; exact ⟨h3, x3⟩
        · rw [PartB_succ, if_neg n2, if_neg ha2]; exact x4
theorem PartB_bd (k : Nat) : ∀ s f t a b, (∀ i, 0 ≤ s i ∧ s i < 256) → ∀ i, 0 ≤ PartB k s f t a b i ∧ PartB k s f t a b i < 256 := by
  induction k with
  | zero => intro s f t a b h; exact h
  | succ k ih =>
    intro s f t a b h
    rw [PartB_succ]
    split
    · exact h
    · split
      · exact ih _ _ _ _ _ (DerB_bd _ _ _)
      · exact ih _ _ _ _ _ (DerB_bd _ _ _)
/-- a leaf is the part of one -/
theorem PartB_leaf (k : Nat) : ∀ s f t m, f ≤ m → m < t → t - f ≤ k + 1 → PartB k s f t m (m + 1) = LeafB k s f t m ∧ NodeB k f t m (m + 1) = true := by
  induction k with
  | zero => intro s f t m h1 h2 h3; exact ⟨rfl, by simp [NodeB]; omega⟩
  | succ k ih =>
    intro s f t m h1 h2 h3
    by_cases e : f = m ∧ t = m + 1
    · refine ⟨?_, by rw [NodeB_succ, decide_eq_true e]; rfl⟩
      rw [PartB_succ, if_pos e, LeafB, if_pos (by omega)]
    · have h4 : 2 ≤ t - f := by omega
      have hq := SplitN_bd (t - f) h4
      have eI : SplitI ((t : Int) - f) = (SplitN (t - f) : Int) := by
        rw [← SplitN_eq]; congr 1; omega
      by_cases ha : m < f + SplitN (t - f)
      · obtain ⟨x1, x2⟩ := ih (DerB s lLeft 0) f (f + SplitN (t - f)) m h1 ha (by omega)
        refine ⟨?_, by rw [NodeB_succ, decide_eq_false e, Bool.false_or, Bool.and_eq_true, if_pos ha]; exact ⟨by simpa using h4, x2⟩⟩
        rw [PartB_succ, if_neg e, if_pos ha, LeafB_left _ _ _ _ _ (by omega) (by rw [eI]; omega), eI, x1]
        rfl
      · obtain ⟨x1, x2⟩ := ih (DerB s lRight 0) (f + SplitN (t - f)) t m (by omega) h2 (by omega)
        refine ⟨?_, by rw [NodeB_succ, decide_eq_false e, Bool.false_or, Bool.and_eq_true, if_neg ha]; exact ⟨by simpa using h4, x2⟩⟩
        rw [PartB_succ, if_neg e, if_neg ha, LeafB_right _ _ _ _ _ (by omega) (by rw [eI]; omega), eI, x1]
        rfl
end Go.Proofs.Ytkpebabbnndopaa
