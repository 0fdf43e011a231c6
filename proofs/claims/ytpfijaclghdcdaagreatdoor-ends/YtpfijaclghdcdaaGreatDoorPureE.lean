/- What is kept of a member that has protected some times and opened nothing. -/
import Derived.Test.YtpfijaclghdcdaaGreatDoorRefProt
import Derived.Test.YtpfijaclghdcdaaGreatDoorLawA
import Derived.WalkKit
namespace Go.Proofs.YtpfijaclghdcdaaGreatDoor
open Go.RowKit

/-- a new group behind i messages of one's own -/
def St.after (s : Nat → Int) (n own : Nat) : Nat → St
  | 0 => St.new s n own
  | i + 1 => (St.after s n own i).protNext
theorem after_n (s : Nat → Int) (n own i : Nat) : (St.after s n own i).n = n ∧ (St.after s n own i).own = own ∧ (St.after s n own i).closed = false ∧ (St.after s n own i).mem.length = n := by
  induction i with
  | zero => exact ⟨rfl, rfl, rfl, by simp [St.after, St.new]⟩
  | succ i ih =>
    obtain ⟨h1, h2, h3, h4⟩ := ih
    exact ⟨h1, h2, h3, by show (List.set _ _ _).length = n; rw [List.length_set]; exact h4⟩
theorem after_m (s : Nat → Int) (n own : Nat) (ho : own < n) (i j : Nat) : (St.after s n own i).m j = if j = own then ⟨decide (0 < i), i, []⟩ else ⟨false, 0, []⟩ := by
  induction i generalizing j with
  | zero => rw [St.after, St.new_m]; split <;> rfl
  | succ i ih =>
    obtain ⟨h1, h2, h3, h4⟩ := after_n s n own i
    show ((St.after s n own i).setM (St.after s n own i).own _).m j = _
    rw [St.setM_m _ _ _ (by rw [h2, h4]; exact ho), h2, ih, ih]
    by_cases hj : j = own
    · rw [if_pos hj, if_pos hj, if_pos rfl]
      simp
    · rw [if_neg hj, if_neg hj, if_neg hj]
theorem after_ok (s : Nat → Int) (hs : ∀ i, 0 ≤ s i ∧ s i < 256) (n own : Nat) (h1 : 1 ≤ n) (h2 : n ≤ 16) (ho : own < n) (i : Nat) (hi : i ≤ 65536) : (St.after s n own i).Ok := by
  induction i with
  | zero => exact St.new_ok s hs n own h1 h2 ho
  | succ i ih =>
    have h := ih (by omega)
    refine h.protNext ?_
    obtain ⟨_, g2, _, _⟩ := after_n s n own i
    rw [g2, after_m s n own ho, if_pos rfl]
    show i ≤ 65535
    omega
theorem after_kepts (s : Nat → Int) (n own : Nat) (ho : own < n) (i k : Nat) : (St.after s n own i).kepts k = [] := by
  induction k with
  | zero => rfl
  | succ k ih =>
    rw [St.kepts, ih, after_m s n own ho]
    split <;> rfl
theorem after_heads (s : Nat → Int) (n own : Nat) (ho : own < n) (i k : Nat) : (St.after s n own i).heads k = if own < k ∧ 0 < i ∧ i ≤ 65535 then [⟨1, own, own + 1, i, (St.after s n own i).ratAt own i⟩] else [] := by
  induction k with
  | zero => rw [if_neg (by omega)]; rfl
  | succ k ih =>
    rw [St.heads, ih, after_m s n own ho]
    by_cases hk : k = own
    · subst hk
      have e0 : ¬ (k < k ∧ 0 < i ∧ i ≤ 65535) := by omega
      rw [if_neg e0, if_pos rfl, List.nil_append]
      show (if (decide (0 < i) && decide (i ≤ 65535)) = true then [(⟨1, k, k + 1, i, (St.after s n k i).ratAt k i⟩ : It)] else []) = _
      by_cases h : 0 < i ∧ i ≤ 65535
      · have e1 : (decide (0 < i) && decide (i ≤ 65535)) = true := by simp; exact h
        have e2 : k < k + 1 ∧ 0 < i ∧ i ≤ 65535 := ⟨by omega, h⟩
        rw [if_pos e1, if_pos e2]
      · have e1 : ¬ (decide (0 < i) && decide (i ≤ 65535)) = true := by simp; omega
        have e2 : ¬ (k < k + 1 ∧ 0 < i ∧ i ≤ 65535) := fun h' => h h'.2
        rw [if_neg e1, if_neg e2]
    · rw [if_neg hk]
      have e : (own < k ∧ 0 < i ∧ i ≤ 65535) ↔ (own < k + 1 ∧ 0 < i ∧ i ≤ 65535) := by omega
      simp only [e]
      simp
theorem after_dump (s : Nat → Int) (n own : Nat) (ho : own < n) (i : Nat) : (St.after s n own i).dump = (St.after s n own i).parts 16 0 n ++ (if 0 < i ∧ i ≤ 65535 then [⟨1, own, own + 1, i, (St.after s n own i).ratAt own i⟩] else []) := by
  obtain ⟨h1, h2, h3, h4⟩ := after_n s n own i
  unfold St.dump
  rw [h3, h1, after_kepts s n own ho, after_heads s n own ho, List.append_nil]
  have e : (own < n ∧ 0 < i ∧ i ≤ 65535) ↔ (0 < i ∧ i ≤ 65535) := by omega
  simp only [e]
  rfl
theorem begun_true (st : St) (f t j : Nat) (h1 : f ≤ j) (h2 : j < t) (hb : (st.m j).begun = true) : st.begun f t = true := by
  unfold St.begun
  rw [List.any_eq_true]
  exact ⟨j - f, List.mem_range.2 (by omega), by rw [show f + (j - f) = j by omega]; exact hb⟩
/-- what is kept of the tree is of no member that has begun -/
theorem parts_clear (st : St) (k : Nat) : ∀ f t x, x ∈ st.parts k f t → x.kind = 0 ∧ f ≤ x.f ∧ x.t ≤ t ∧ st.begun x.f x.t = false := by
  induction k with
  | zero =>
    intro f t x hx
    unfold St.parts at hx
    split at hx
    · cases hx
    · simp at hx
      subst hx
      rename_i h
      exact ⟨rfl, Nat.le_refl _, Nat.le_refl _, by simpa using h⟩
  | succ k ih =>
    intro f t x hx
    rw [St.parts] at hx
    split at hx
    · split at hx
      · cases hx
      · rename_i h1 h2
        rcases List.mem_append.1 hx with h | h
        · obtain ⟨a1, a2, a3, a4⟩ := ih _ _ _ h
          by_cases hd : 2 ≤ t - f
          · have hb := SplitN_bd (t - f) hd
            exact ⟨a1, a2, by omega, a4⟩
          · have hft : t ≤ f := by omega
            exfalso
            unfold St.begun at h1
            rw [show t - f = 0 by omega] at h1
            simp at h1
        · obtain ⟨a1, a2, a3, a4⟩ := ih _ _ _ h
          exact ⟨a1, by omega, a3, a4⟩
    · simp at hx
      subst hx
      rename_i h
      exact ⟨rfl, Nat.le_refl _, Nat.le_refl _, by simpa using h⟩
/-- something of the tree is kept as long as one member has not begun -/
theorem parts_some (st : St) (k : Nat) : ∀ f t j, f ≤ j → j < t → t - f ≤ k + 1 → (st.m j).begun = false → st.parts k f t ≠ [] := by
  induction k with
  | zero =>
    intro f t j h1 h2 h3 hb
    have hbf : st.begun f t = false := by
      have ht : t = j + 1 := by omega
      have hf : f = j := by omega
      subst ht hf
      rw [St.begun_step st f f (Nat.le_refl _), St.begun_self, hb]
      rfl
    rw [St.parts_not _ _ _ _ hbf]
    simp
  | succ k ih =>
    intro f t j h1 h2 h3 hb
    cases hbf : st.begun f t with
    | false => rw [St.parts_not _ _ _ _ hbf]; simp
    | true =>
      by_cases hd : t - f = 1
      · exfalso
        have ht : t = j + 1 := by omega
        have hf : f = j := by omega
        subst ht hf
        rw [St.begun_step st f f (Nat.le_refl _), St.begun_self, hb] at hbf
        cases hbf
      · rw [St.parts_two _ _ _ _ hbf hd]
        have hq := SplitN_bd (t - f) (by omega)
        intro he
        rw [List.append_eq_nil_iff] at he
        by_cases hj : j < f + SplitN (t - f)
        · exact ih f (f + SplitN (t - f)) j h1 hj (by omega) hb he.1
        · exact ih (f + SplitN (t - f)) t j (by omega) h2 (by omega) hb he.2
end Go.Proofs.YtpfijaclghdcdaaGreatDoor
