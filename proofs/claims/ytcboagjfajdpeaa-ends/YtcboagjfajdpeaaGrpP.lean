/- What a member's first message takes of the tree, as plain data. -/
import Derived.Test.YtcboagjfajdpeaaGrp0
import Derived.Test.YtcboagjfajdpeaaPureE
namespace Go.Proofs.Ytcboagjfajdpeaa
open Go.RowKit

theorem spl_fuel (k : Nat) : ∀ k' (p : PartD) m, p.t - p.f ≤ k + 1 → p.t - p.f ≤ k' + 1 → p.spl k m = p.spl k' m := by
  induction k with
  | zero =>
    intro k' p m h1 h2
    rw [PartD.spl_one 0 p m (by omega), PartD.spl_one k' p m (by omega)]
  | succ k ih =>
    intro k' p m h1 h2
    by_cases h : p.t - p.f ≤ 1
    · rw [PartD.spl_one _ p m h, PartD.spl_one _ p m h]
    · obtain ⟨k', rfl⟩ : ∃ j, k' = j + 1 := ⟨k' - 1, by omega⟩
      have hb := halves_bd p h
      by_cases hm : m < p.f + SplitN (p.t - p.f)
      · rw [PartD.spl_left k p m h hm, PartD.spl_left k' p m h hm, ih k' p.left m (by omega) (by omega)]
      · rw [PartD.spl_right k p m h hm, PartD.spl_right k' p m h hm, ih k' p.right m (by omega) (by omega)]
theorem begun_iff (st : St) (f t : Nat) : st.begun f t = true ↔ ∃ i, f ≤ i ∧ i < t ∧ (st.m i).begun = true := by
  constructor
  · intro h
    unfold St.begun at h
    rw [List.any_eq_true] at h
    obtain ⟨i, hi, hb⟩ := h
    have := List.mem_range.1 hi
    exact ⟨f + i, by omega, by omega, hb⟩
  · rintro ⟨i, h1, h2, h3⟩
    exact begun_true st f t i h1 h2 h3
theorem begun_false (st : St) (f t : Nat) : st.begun f t = false ↔ ∀ i, f ≤ i → i < t → (st.m i).begun = false := by
  constructor
  · intro h i h1 h2
    cases hb : (st.m i).begun with
    | false => rfl
    | true => rw [begun_true st f t i h1 h2 hb] at h; cases h
  · intro h
    cases hb : st.begun f t with
    | false => rfl
    | true =>
      obtain ⟨i, h1, h2, h3⟩ := (begun_iff st f t).1 hb
      rw [h i h1 h2] at h3; cases h3
/-- st' is st, but that the member j has begun -/
structure Began (st st' : St) (j : Nat) : Prop where
  s : st'.s = st.s
  n : st'.n = st.n
  not : (st.m j).begun = false
  now : (st'.m j).begun = true
  oth : ∀ i, i ≠ j → (st'.m i).begun = (st.m i).begun
theorem Began.part {st st' : St} {j : Nat} (h : Began st st' j) (a b : Nat) : st'.part a b = st.part a b := by unfold St.part; rw [h.s, h.n]
theorem Began.same {st st' : St} {j : Nat} (h : Began st st' j) (f t : Nat) (hj : j < f ∨ t ≤ j) : st'.begun f t = st.begun f t := by
  cases hb : st.begun f t with
  | false =>
    rw [begun_false] at hb ⊢
    intro i h1 h2
    rw [h.oth i (by omega)]; exact hb i h1 h2
  | true =>
    rw [begun_iff] at hb ⊢
    obtain ⟨i, h1, h2, h3⟩ := hb
    exact ⟨i, h1, h2, by rw [h.oth i (by omega)]; exact h3⟩
theorem Began.parts {st st' : St} {j : Nat} (h : Began st st' j) (k : Nat) : ∀ f t, (j < f ∨ t ≤ j) → st'.parts k f t = st.parts k f t := by
  induction k with
  | zero => intro f t hj; unfold St.parts; rw [h.same f t hj, h.part]
  | succ k ih =>
    intro f t hj
    have hs := h.same f t hj
    cases hb : st.begun f t with
    | false =>
      rw [hb] at hs
      rw [St.parts_not st _ _ _ hb, St.parts_not st' _ _ _ hs, h.part]
    | true =>
      rw [hb] at hs
      by_cases h1 : t - f = 1
      · rw [St.parts_one st _ _ _ hb h1, St.parts_one st' _ _ _ hs h1]
      · have h2 : 2 ≤ t - f := by
          obtain ⟨i, a, b, _⟩ := (begun_iff _ _ _).1 hb
          omega
        have hq := SplitN_bd (t - f) h2
        rw [St.parts_two st k f t hb h1, St.parts_two st' k f t hs h1, ih f _ (by omega), ih _ t (by omega)]
/-- a part of which nobody had begun, taken apart -/
theorem parts_fresh {st st' : St} (ok : st.Ok) {j : Nat} (h : Began st st' j) (k : Nat) : ∀ f t, st.node f t → f ≤ j → j < t → t - f ≤ k + 1 → st.begun f t = false →
    (st'.parts k f t).map itPart = ((⟨f, t, st.part f t⟩ : PartD).spl k j).x ++ ((⟨f, t, st.part f t⟩ : PartD).spl k j).y ∧ ((⟨f, t, st.part f t⟩ : PartD).spl k j).s = st.part j (j + 1) ∧ ((⟨f, t, st.part f t⟩ : PartD).spl k j).d = DepB k (t - f) (j - f) := by
  induction k with
  | zero =>
    intro f t hn h1 h2 h3 hb
    obtain rfl : f = j := by omega
    obtain rfl : t = f + 1 := by omega
    rw [St.parts_one st' 0 f (f + 1) (begun_true st' f (f + 1) f (by omega) (by omega) h.now) (by omega)]
    exact ⟨rfl, rfl, rfl⟩
  | succ k ih =>
    intro f t hn h1 h2 h3 hb
    have hb' : st'.begun f t = true := begun_true st' f t j h1 h2 h.now
    by_cases h4 : t - f = 1
    · obtain rfl : f = j := by omega
      obtain rfl : t = f + 1 := by omega
      rw [St.parts_one st' _ _ _ hb' h4, PartD.spl_one _ _ _ (by show f + 1 - f ≤ 1; omega)]
      refine ⟨rfl, rfl, ?_⟩
      rw [DepB, if_pos (by omega)]
    · have hsp := SplitN_bd (t - f) (by omega)
      obtain ⟨⟨n1, p1⟩, n2, p2⟩ := St.halves ok hn (by omega)
      have hgt : ¬ ((⟨f, t, st.part f t⟩ : PartD).t - (⟨f, t, st.part f t⟩ : PartD).f ≤ 1) := by show ¬ (t - f ≤ 1); omega
      have hS : (SplitI ((t - f : Nat) : Int)).toNat = SplitN (t - f) := by rw [SplitN_eq]; omega
      rw [St.parts_two st' k f t hb' h4, List.map_append]
      have eL : (⟨f, t, st.part f t⟩ : PartD).left = ⟨f, f + SplitN (t - f), st.part f (f + SplitN (t - f))⟩ := by unfold PartD.left; rw [p1]
      have eR : (⟨f, t, st.part f t⟩ : PartD).right = ⟨f + SplitN (t - f), t, st.part (f + SplitN (t - f)) t⟩ := by unfold PartD.right; rw [p2]
      by_cases hm : j < f + SplitN (t - f)
      · obtain ⟨i1, i2, i3⟩ := ih f (f + SplitN (t - f)) n1 h1 hm (by omega) ((begun_false _ _ _).2 fun i a b => (begun_false st f t).1 hb i a (by omega))
        rw [PartD.spl_left k _ j hgt hm, eL, eR]
        have hnr : st'.begun (f + SplitN (t - f)) t = false := by
          rw [h.same _ _ (.inl hm)]
          exact (begun_false _ _ _).2 fun i a b => (begun_false st f t).1 hb i (by omega) b
        rw [i1, St.parts_not _ _ _ _ hnr, h.part]
        refine ⟨by simp [itPart], i2, ?_⟩
        simp only
        rw [i3, DepB, if_neg (by omega), hS, if_pos (by omega), show f + SplitN (t - f) - f = SplitN (t - f) by omega]
        omega
      · obtain ⟨i1, i2, i3⟩ := ih (f + SplitN (t - f)) t n2 (by omega) h2 (by omega) ((begun_false _ _ _).2 fun i a b => (begun_false st f t).1 hb i (by omega) b)
        rw [PartD.spl_right k _ j hgt hm, eL, eR]
        have hnl : st'.begun f (f + SplitN (t - f)) = false := by
          rw [h.same _ _ (.inr (by omega))]
          exact (begun_false _ _ _).2 fun i a b => (begun_false st f t).1 hb i a (by omega)
        rw [i1, St.parts_not _ _ _ _ hnl, h.part]
        refine ⟨by simp [itPart], i2, ?_⟩
        simp only
        rw [i3, DepB, if_neg (by omega), hS, if_neg (by omega), show t - (f + SplitN (t - f)) = t - f - SplitN (t - f) by omega, show j - (f + SplitN (t - f)) = j - f - SplitN (t - f) by omega]
        omega
theorem parts_take {st st' : St} (ok : st.Ok) {j : Nat} (h : Began st st' j) (k : Nat) : ∀ f t, st.node f t → f ≤ j → j < t → t - f ≤ k + 1 →
    ∃ A p B, (st.parts k f t).map itPart = A ++ p :: B ∧ p.has j ∧ (∀ x ∈ A, ¬ x.has j) ∧ (st'.parts k f t).map itPart = A ++ (p.spl 16 j).x ++ ((p.spl 16 j).y ++ B) ∧ (p.spl 16 j).s = st.part j (j + 1) ∧ (p.spl 16 j).d ≤ DepB k (t - f) (j - f) := by
  have h16 := ok.n16
  induction k with
  | zero =>
    intro f t hn h1 h2 h3
    have hb : st.begun f t = false := (begun_false _ _ _).2 fun i a b => by
      obtain rfl : i = j := by omega
      exact h.not
    obtain ⟨i1, i2, i3⟩ := parts_fresh ok h 0 f t hn h1 h2 h3 hb
    have hf := spl_fuel 0 16 ⟨f, t, st.part f t⟩ j h3 (by show t - f ≤ 17; omega)
    rw [hf] at i1 i2 i3
    refine ⟨[], ⟨f, t, st.part f t⟩, [], ?_, ⟨h1, h2⟩, by simp, ?_, i2, by omega⟩
    · rw [St.parts_not _ _ _ _ hb]; rfl
    · rw [i1]; simp
  | succ k ih =>
    intro f t hn h1 h2 h3
    cases hb : st.begun f t with
    | false =>
      obtain ⟨i1, i2, i3⟩ := parts_fresh ok h (k + 1) f t hn h1 h2 h3 hb
      have hin := St.node_in ok hn
      have hf := spl_fuel (k + 1) 16 ⟨f, t, st.part f t⟩ j h3 (by show t - f ≤ 17; omega)
      rw [hf] at i1 i2 i3
      refine ⟨[], ⟨f, t, st.part f t⟩, [], ?_, ⟨h1, h2⟩, by simp, ?_, i2, by omega⟩
      · rw [St.parts_not _ _ _ _ hb]; rfl
      · rw [i1]; simp
    | true =>
      have hb' : st'.begun f t = true := begun_true st' f t j h1 h2 h.now
      have h4 : ¬ t - f = 1 := fun e => by
        obtain ⟨i, a1, a2, a3⟩ := (begun_iff _ _ _).1 hb
        obtain rfl : i = j := by omega
        rw [h.not] at a3; cases a3
      have hsp := SplitN_bd (t - f) (by omega)
      obtain ⟨⟨n1, p1⟩, n2, p2⟩ := St.halves ok hn (by omega)
      have hS : (SplitI ((t - f : Nat) : Int)).toNat = SplitN (t - f) := by rw [SplitN_eq]; omega
      rw [St.parts_two st k f t hb h4, St.parts_two st' k f t hb' h4, List.map_append, List.map_append]
      by_cases hm : j < f + SplitN (t - f)
      · obtain ⟨A, p, B, i1, i2, i3, i4, i5, i6⟩ := ih f (f + SplitN (t - f)) n1 h1 hm (by omega)
        refine ⟨A, p, B ++ (st.parts k (f + SplitN (t - f)) t).map itPart, by rw [i1]; simp, i2, i3, ?_, i5, ?_⟩
        · rw [i4, h.parts k _ _ (.inl hm)]; simp
        · rw [DepB, if_neg (by omega), hS, if_pos (by omega)]
          rw [show f + SplitN (t - f) - f = SplitN (t - f) by omega] at i6
          omega
      · obtain ⟨A, p, B, i1, i2, i3, i4, i5, i6⟩ := ih (f + SplitN (t - f)) t n2 (by omega) h2 (by omega)
        refine ⟨(st.parts k f (f + SplitN (t - f))).map itPart ++ A, p, B, by rw [i1]; simp, i2, ?_, ?_, i5, ?_⟩
        · intro x hx
          rcases List.mem_append.1 hx with hx | hx
          · obtain ⟨y, hy, rfl⟩ := List.mem_map.1 hx
            obtain ⟨_, _, c3, _⟩ := parts_clear st k _ _ y hy
            intro hh
            have : j < y.t := hh.2
            omega
          · exact i3 x hx
        · rw [i4, h.parts k _ _ (.inr (by omega))]; simp
        · rw [DepB, if_neg (by omega), hS, if_neg (by omega)]
          rw [show t - (f + SplitN (t - f)) = t - f - SplitN (t - f) by omega, show j - (f + SplitN (t - f)) = j - f - SplitN (t - f) by omega] at i6
          omega
theorem parts_lt (st : St) (k : Nat) : ∀ f t, f < t → t - f ≤ k + 1 → (∀ x ∈ (st.parts k f t).map itPart, x.f < x.t) ∧ wide ((st.parts k f t).map itPart) ≤ t - f := by
  induction k with
  | zero =>
    intro f t h h2
    unfold St.parts
    split
    · exact ⟨by simp, by simp [wide]⟩
    · refine ⟨by intro x hx; simp [itPart] at hx; subst hx; exact h, ?_⟩
      simp [wide, itPart]
  | succ k ih =>
    intro f t h h2
    rw [St.parts]
    split
    · split
      · exact ⟨by simp, by simp [wide]⟩
      · have hq := SplitN_bd (t - f) (by omega)
        obtain ⟨a1, a2⟩ := ih f (f + SplitN (t - f)) (by omega) (by omega)
        obtain ⟨b1, b2⟩ := ih (f + SplitN (t - f)) t (by omega) (by omega)
        rw [List.map_append]
        refine ⟨fun x hx => ?_, ?_⟩
        · rcases List.mem_append.1 hx with hx | hx
          · exact a1 x hx
          · exact b1 x hx
        · rw [wide_append]; omega
    · refine ⟨by intro x hx; simp [itPart] at hx; subst hx; exact h, ?_⟩
      simp [wide, itPart]
end Go.Proofs.Ytcboagjfajdpeaa
