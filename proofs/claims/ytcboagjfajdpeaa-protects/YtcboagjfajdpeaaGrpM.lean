import Derived.Test.YtcboagjfajdpeaaGrp0
import Derived.Test.YtcboagjfajdpeaaPureE
import Derived.Test.YtcboagjfajdpeaaGrp1
import Derived.WalkKit
import Derived.WalkSpells
import Derived.WalkLawsBesides
import Derived.Test.YtcboagjfajdpeaaHome
import Derived.Test.YtcboagjfajdpeaaPureT
import Derived.Deep.WholeRow
import Derived.Deep.AppendSrc
import Derived.Deep.LoopGhost
import Derived.Lib.AppendZeros
import Derived.Test.YtcboagjfajdpeaaSeal
import Derived.Deep.DeepCutAuto
import Derived.BigRegion
/- What a member's first message takes of the tree, as plain data. -/
namespace Go.Proofs.Ytcboagjfajdpeaa
open Go.RowKit

theorem spl_fuel (k : Nat) : ∀ k' (p : PartD) m, p.t - p.f ≤ k + 1 → p.t - p.f ≤ k' + 1 → p.spl k m = p.spl k' m := by
  induction k with
  | zero =>
    intro k' p m h1 h2
    rw [PartD.spl_one 0 p m (by omega), PartD.spl_one k' p m (by omega)]
  | succ k ih =>
    intro k' p m h1 h2
    by_cases h : p.t - p.f ≤ 1
    · rw [PartD.spl_one _ p m h, PartD.spl_one _ p m h]
    · obtain ⟨k', rfl⟩ : ∃ j, k' = j + 1 := ⟨k' - 1, by omega⟩
      have hb := halves_bd p h
      by_cases hm : m < p.f + SplitN (p.t - p.f)
      · rw [PartD.spl_left k p m h hm, PartD.spl_left k' p m h hm, ih k' p.left m (by omega) (by omega)]
      · rw [PartD.spl_right k p m h hm, PartD.spl_right k' p m h hm, ih k' p.right m (by omega) (by omega)]
theorem begun_iff (st : St) (f t : Nat) : st.begun f t = true ↔ ∃ i, f ≤ i ∧ i < t ∧ (st.m i).begun = true := by
  constructor
  · intro h
    unfold St.begun at h
    rw [List.any_eq_true] at h
    obtain ⟨i, hi, hb⟩ := h
    have := List.mem_range.1 hi
    exact ⟨f + i, by omega, by omega, hb⟩
  · rintro ⟨i, h1, h2, h3⟩
    exact begun_true st f t i h1 h2 h3
theorem begun_false (st : St) (f t : Nat) : st.begun f t = false ↔ ∀ i, f ≤ i → i < t → (st.m i).begun = false := by
  constructor
  · intro h i h1 h2
    cases hb : (st.m i).begun with
    | false => rfl
    | true => rw [begun_true st f t i h1 h2 hb] at h; cases h
  · intro h
    cases hb : st.begun f t with
    | false => rfl
    | true =>
      obtain ⟨i, h1, h2, h3⟩ := (begun_iff st f t).1 hb
      rw [h i h1 h2] at h3; cases h3
/-- st' is st, but that the member j has begun -/
structure Began (st st' : St) (j : Nat) : Prop where
  s : st'.s = st.s
  n : st'.n = st.n
  not : (st.m j).begun = false
  now : (st'.m j).begun = true
  oth : ∀ i, i ≠ j → (st'.m i).begun = (st.m i).begun
theorem Began.part {st st' : St} {j : Nat} (h : Began st st' j) (a b : Nat) : st'.part a b = st.part a b := by unfold St.part; rw [h.s, h.n]
theorem Began.same {st st' : St} {j : Nat} (h : Began st st' j) (f t : Nat) (hj : j < f ∨ t ≤ j) : st'.begun f t = st.begun f t := by
  cases hb : st.begun f t with
  | false =>
    rw [begun_false] at hb ⊢
    intro i h1 h2
    rw [h.oth i (by omega)]; exact hb i h1 h2
  | true =>
    rw [begun_iff] at hb ⊢
    obtain ⟨i, h1, h2, h3⟩ := hb
    exact ⟨i, h1, h2, by rw [h.oth i (by omega)]; exact h3⟩
theorem Began.parts {st st' : St} {j : Nat} (h : Began st st' j) (k : Nat) : ∀ f t, (j < f ∨ t ≤ j) → st'.parts k f t = st.parts k f t := by
  induction k with
  | zero => intro f t hj; unfold St.parts; rw [h.same f t hj, h.part]
  | succ k ih =>
    intro f t hj
    have hs := h.same f t hj
    cases hb : st.begun f t with
    | false =>
      rw [hb] at hs
      rw [St.parts_not st _ _ _ hb, St.parts_not st' _ _ _ hs, h.part]
    | true =>
      rw [hb] at hs
      by_cases h1 : t - f = 1
      · rw [St.parts_one st _ _ _ hb h1, St.parts_one st' _ _ _ hs h1]
      · have h2 : 2 ≤ t - f := by
          obtain ⟨i, a, b, _⟩ := (begun_iff _ _ _).1 hb
          omega
        have hq := SplitN_bd (t - f) h2
        rw [St.parts_two st k f t hb h1, St.parts_two st' k f t hs h1, ih f _ (by omega), ih _ t (by omega)]
/-- a part of which nobody had begun, taken apart -/
theorem parts_fresh {st st' : St} (ok : st.Ok) {j : Nat} (h : Began st st' j) (k : Nat) : ∀ f t, st.node f t → f ≤ j → j < t → t - f ≤ k + 1 → st.begun f t = false →
    (st'.parts k f t).map itPart = ((⟨f, t, st.part f t⟩ : PartD).spl k j).x ++ ((⟨f, t, st.part f t⟩ : PartD).spl k j).y ∧ ((⟨f, t, st.part f t⟩ : PartD).spl k j).s = st.part j (j + 1) ∧ ((⟨f, t, st.part f t⟩ : PartD).spl k j).d = DepB k (t - f) (j - f) := by
  induction k with
  | zero =>
    intro f t hn h1 h2 h3 hb
    obtain rfl : f = j := by omega
    obtain rfl : t = f + 1 := by omega
    rw [St.parts_one st' 0 f (f + 1) (begun_true st' f (f + 1) f (by omega) (by omega) h.now) (by omega)]
    exact ⟨rfl, rfl, rfl⟩
  | succ k ih =>
    intro f t hn h1 h2 h3 hb
    have hb' : st'.begun f t = true := begun_true st' f t j h1 h2 h.now
    by_cases h4 : t - f = 1
    · obtain rfl : f = j := by omega
      obtain rfl : t = f + 1 := by omega
      rw [St.parts_one st' _ _ _ hb' h4, PartD.spl_one _ _ _ (by show f + 1 - f ≤ 1; omega)]
      refine ⟨rfl, rfl, ?_⟩
      rw [DepB, if_pos (by omega)]
    · have hsp := SplitN_bd (t - f) (by omega)
      obtain ⟨⟨n1, p1⟩, n2, p2⟩ := St.halves ok hn (by omega)
      have hgt : ¬ ((⟨f, t, st.part f t⟩ : PartD).t - (⟨f, t, st.part f t⟩ : PartD).f ≤ 1) := by show ¬ (t - f ≤ 1); omega
      have hS : (SplitI ((t - f : Nat) : Int)).toNat = SplitN (t - f) := by rw [SplitN_eq]; omega
      rw [St.parts_two st' k f t hb' h4, List.map_append]
      have eL : (⟨f, t, st.part f t⟩ : PartD).left = ⟨f, f + SplitN (t - f), st.part f (f + SplitN (t - f))⟩ := by unfold PartD.left; rw [p1]
      have eR : (⟨f, t, st.part f t⟩ : PartD).right = ⟨f + SplitN (t - f), t, st.part (f + SplitN (t - f)) t⟩ := by unfold PartD.right; rw [p2]
      by_cases hm : j < f + SplitN (t - f)
      · obtain ⟨i1, i2, i3⟩ := ih f (f + SplitN (t - f)) n1 h1 hm (by omega) ((begun_false _ _ _).2 fun i a b => (begun_false st f t).1 hb i a (by omega))
        rw [PartD.spl_left k _ j hgt hm, eL, eR]
        have hnr : st'.begun (f + SplitN (t - f)) t = false := by
          rw [h.same _ _ (.inl hm)]
          exact (begun_false _ _ _).2 fun i a b => (begun_false st f t).1 hb i (by omega) b
        rw [i1, St.parts_not _ _ _ _ hnr, h.part]
        refine ⟨by simp [itPart], i2, ?_⟩
        simp only
        rw [i3, DepB, if_neg (by omega), hS, if_pos (by omega), show f + SplitN (t - f) - f = SplitN (t - f) by omega]
        omega
      · obtain ⟨i1, i2, i3⟩ := ih (f + SplitN (t - f)) t n2 (by omega) h2 (by omega) ((begun_false _ _ _).2 fun i a b => (begun_false st f t).1 hb i (by omega) b)
        rw [PartD.spl_right k _ j hgt hm, eL, eR]
        have hnl : st'.begun f (f + SplitN (t - f)) = false := by
          rw [h.same _ _ (.inr (by omega))]
          exact (begun_false _ _ _).2 fun i a b => (begun_false st f t).1 hb i a (by omega)
        rw [i1, St.parts_not _ _ _ _ hnl, h.part]
        refine ⟨by simp [itPart], i2, ?_⟩
        simp only
        rw [i3, DepB, if_neg (by omega), hS, if_neg (by omega), show t - (f + SplitN (t - f)) = t - f - SplitN (t - f) by omega, show j - (f + SplitN (t - f)) = j - f - SplitN (t - f) by omega]
        omega
theorem parts_take {st st' : St} (ok : st.Ok) {j : Nat} (h : Began st st' j) (k : Nat) : ∀ f t, st.node f t → f ≤ j → j < t → t - f ≤ k + 1 →
    ∃ A p B, (st.parts k f t).map itPart = A ++ p :: B ∧ p.has j ∧ (∀ x ∈ A, ¬ x.has j) ∧ (st'.parts k f t).map itPart = A ++ (p.spl 16 j).x ++ ((p.spl 16 j).y ++ B) ∧ (p.spl 16 j).s = st.part j (j + 1) ∧ (p.spl 16 j).d ≤ DepB k (t - f) (j - f) := by
  have h16 := ok.n16
  induction k with
  | zero =>
    intro f t hn h1 h2 h3
    have hb : st.begun f t = false := (begun_false _ _ _).2 fun i a b => by
      obtain rfl : i = j := by omega
      exact h.not
    obtain ⟨i1, i2, i3⟩ := parts_fresh ok h 0 f t hn h1 h2 h3 hb
    have hf := spl_fuel 0 16 ⟨f, t, st.part f t⟩ j h3 (by show t - f ≤ 17; omega)
    rw [hf] at i1 i2 i3
    refine ⟨[], ⟨f, t, st.part f t⟩, [], ?_, ⟨h1, h2⟩, by simp, ?_, i2, by omega⟩
    · rw [St.parts_not _ _ _ _ hb]; rfl
    · rw [i1]; simp
  | succ k ih =>
    intro f t hn h1 h2 h3
    cases hb : st.begun f t with
    | false =>
      obtain ⟨i1, i2, i3⟩ := parts_fresh ok h (k + 1) f t hn h1 h2 h3 hb
      have hin := St.node_in ok hn
      have hf := spl_fuel (k + 1) 16 ⟨f, t, st.part f t⟩ j h3 (by show t - f ≤ 17; omega)
      rw [hf] at i1 i2 i3
      refine ⟨[], ⟨f, t, st.part f t⟩, [], ?_, ⟨h1, h2⟩, by simp, ?_, i2, by omega⟩
      · rw [St.parts_not _ _ _ _ hb]; rfl
      · rw [i1]; simp
    | true =>
      have hb' : st'.begun f t = true := begun_true st' f t j h1 h2 h.now
      have h4 : ¬ t - f = 1 := fun e => by
        obtain ⟨i, a1, a2, a3⟩ := (begun_iff _ _ _).1 hb
        obtain rfl : i = j := by omega
        rw [h.not] at a3; cases a3
      have hsp := SplitN_bd (t - f) (by omega)
      obtain ⟨⟨n1, p1⟩, n2, p2⟩ := St.halves ok hn (by omega)
      have hS : (SplitI ((t - f : Nat) : Int)).toNat = SplitN (t - f) := by rw [SplitN_eq]; omega
      rw [St.parts_two st k f t hb h4, St.parts_two st' k f t hb' h4, List.map_append, List.map_append]
      by_cases hm : j < f + SplitN (t - f)
      · obtain ⟨A, p, B, i1, i2, i3, i4, i5, i6⟩ := ih f (f + SplitN (t - f)) n1 h1 hm (by omega)
        refine ⟨A, p, B ++ (st.parts k (f + SplitN (t - f)) t).map itPart, by rw [i1]; simp, i2, i3, ?_, i5, ?_⟩
        · rw [i4, h.parts k _ _ (.inl hm)]; simp
        · rw [DepB, if_neg (by omega), hS, if_pos (by omega)]
          rw [show f + SplitN (t - f) - f = SplitN (t - f) by omega] at i6
          omega
      · obtain ⟨A, p, B, i1, i2, i3, i4, i5, i6⟩ := ih (f + SplitN (t - f)) t n2 (by omega) h2 (by omega)
        refine ⟨(st.parts k f (f + SplitN (t - f))).map itPart ++ A, p, B, by rw [i1]; simp, i2, ?_, ?_, i5, ?_⟩
        · intro x hx
          rcases List.mem_append.1 hx with hx | hx
          · obtain ⟨y, hy, rfl⟩ := List.mem_map.1 hx
            obtain ⟨_, _, c3, _⟩ := parts_clear st k _ _ y hy
            intro hh
            have : j < y.t := hh.2
            omega
          · exact i3 x hx
        · rw [i4, h.parts k _ _ (.inr (by omega))]; simp
        · rw [DepB, if_neg (by omega), hS, if_neg (by omega)]
          rw [show t - (f + SplitN (t - f)) = t - f - SplitN (t - f) by omega, show j - (f + SplitN (t - f)) = j - f - SplitN (t - f) by omega] at i6
          omega
theorem parts_lt (st : St) (k : Nat) : ∀ f t, f < t → t - f ≤ k + 1 → (∀ x ∈ (st.parts k f t).map itPart, x.f < x.t) ∧ wide ((st.parts k f t).map itPart) ≤ t - f := by
  induction k with
  | zero =>
    intro f t h h2
    unfold St.parts
    split
    · exact ⟨by simp, by simp [wide]⟩
    · refine ⟨by intro x hx; simp [itPart] at hx; subst hx; exact h, ?_⟩
      simp [wide, itPart]
  | succ k ih =>
    intro f t h h2
    rw [St.parts]
    split
    · split
      · exact ⟨by simp, by simp [wide]⟩
      · have hq := SplitN_bd (t - f) (by omega)
        obtain ⟨a1, a2⟩ := ih f (f + SplitN (t - f)) (by omega) (by omega)
        obtain ⟨b1, b2⟩ := ih (f + SplitN (t - f)) t (by omega) (by omega)
        rw [List.map_append]
        refine ⟨fun x hx => ?_, ?_⟩
        · rcases List.mem_append.1 hx with hx | hx
          · exact a1 x hx
          · exact b1 x hx
        · rw [wide_append]; omega
    · refine ⟨by intro x hx; simp [itPart] at hx; subst hx; exact h, ?_⟩
      simp [wide, itPart]
end Go.Proofs.Ytcboagjfajdpeaa

/- The states of a group's block on the way through Protect; ratchetFor and turn, of a group. -/
namespace Go.Proofs.Ytcboagjfajdpeaa
open Go.RowKit
set_option linter.unusedVariables false

theorem GrpAt.tick {b n wk : Nat} {cs cs' : Array Value} {st : St} (h : GrpAt cs st wk) (m : Mv (some b) n 0 0 cs cs') : GrpAt cs' st (wk + n) := by
  have e : ∀ j, j ≠ 323 → cs'[j]? = cs[j]? := fun j hj => m.out j (.inr (by omega)) (fun _ => hj)
  exact ⟨m.size.trans h.size, by rw [e 0 (by omega)]; exact h.own, by rw [e 1 (by omega)]; exact h.over, h.tree.mv m (fun _ => by show 163 ≤ 323; omega), fun i hi => m.at (h.rat i hi) (.inr (by omega)) (fun _ => .inl (by show 163 + i * 10 + 10 ≤ 323; omega)), m.cnt (by simp) wk h.cnt⟩
/-- the member i has begun -/
def St.begin (st : St) (i : Nat) : St := st.setM i ⟨true, (st.m i).next, (st.m i).over⟩
theorem parts_same {st st' : St} (hs : st'.s = st.s) (hn : st'.n = st.n) (hb : ∀ i, (st'.m i).begun = (st.m i).begun) (k : Nat) : ∀ f t, st'.parts k f t = st.parts k f t := by
  have hbb : ∀ f t, st'.begun f t = st.begun f t := fun f t => by unfold St.begun; simp only [hb]
  have hp : ∀ a b, st'.part a b = st.part a b := fun a b => by unfold St.part; rw [hs, hn]
  induction k with
  | zero => intro f t; unfold St.parts; rw [hbb, hp]
  | succ k ih =>
    intro f t
    cases hx : st.begun f t with
    | false => rw [St.parts_not st _ _ _ hx, St.parts_not st' _ _ _ (by rw [hbb]; exact hx), hp]
    | true =>
      by_cases h1 : t - f = 1
      · rw [St.parts_one st _ _ _ hx h1, St.parts_one st' _ _ _ (by rw [hbb]; exact hx) h1]
      · rw [St.parts_two st k f t hx h1, St.parts_two st' k f t (by rw [hbb]; exact hx) h1, ih, ih]
theorem begin_m {st : St} (ok : st.Ok) (j : Nat) : (st.begin st.own).m j = if j = st.own then ⟨true, (st.m st.own).next, (st.m st.own).over⟩ else st.m j := St.setM_m st st.own _ (by rw [ok.len]; exact ok.own) j
theorem protNext_m {st : St} (ok : st.Ok) (j : Nat) : st.protNext.m j = if j = st.own then ⟨true, (st.m st.own).next + 1, (st.m st.own).over⟩ else st.m j := St.setM_m st st.own _ (by rw [ok.len]; exact ok.own) j
theorem ratS_other {st st' : St} (hs : st'.s = st.s) (hn : st'.n = st.n) (i : Nat) (h : st'.m i = st.m i) : st'.ratS i = st.ratS i := by
  unfold St.ratS St.ratAt
  rw [h, hs, hn]
theorem begin_began {st : St} (ok : st.Ok) (h : (st.m st.own).begun = false) : Began st (st.begin st.own) st.own :=
  ⟨rfl, rfl, h, by rw [begin_m ok, if_pos rfl], fun i hi => by rw [begin_m ok, if_neg hi]⟩
set_option maxHeartbeats 2000000 in
theorem rf_any {b wk : Nat} {cs : Array Value} {st : St} (ok : st.Ok) (hg : GrpAt cs st wk) (hn : (st.m st.own).next ≤ 65535) (w : World) (h : Home (some b) b 117 cs w) :
    Calls Try.prog 52 #[.pointer (some ⟨b, 0, none⟩), .int .i64 st.own] w fun e w' => e = .returned (.pointer (some ⟨b, 163 + st.own * 10, none⟩)) ∧ Outside [b] w w' ∧ ∃ cs' n, n ≤ 2 * DepB 16 st.n st.own + 1 ∧ Home (some b) b 117 cs' w' ∧ GrpAt cs' (st.begin st.own) (wk + n) := by
  have h16 : st.own < 16 := by have := ok.own; have := ok.n16; omega
  have hrat := hg.rat st.own h16
  cases hb : (st.m st.own).begun with
  | true =>
    have e : st.begin st.own = st := by
      unfold St.begin St.setM
      have hm : (⟨true, (st.m st.own).next, (st.m st.own).over⟩ : Mem) = st.m st.own := by rw [← hb]
      rw [hm]
      have hl : st.own < st.mem.length := by rw [ok.len]; exact ok.own
      have h2 : st.m st.own = st.mem[st.own] := by unfold St.m; rw [List.getD_eq_getElem?_getD, List.getElem?_eq_getElem hl]; rfl
      rw [h2, List.set_getElem_self]
    rw [hb] at hrat
    refine (ratchetFor_old b st.own h16 w (hrat.facts h).1).mono fun e' w' ⟨h1, h2⟩ => ⟨h1, by rw [h2]; exact Outside.refl _ _, cs, 0, by omega, by rw [h2]; exact h, by rw [e]; exact hg⟩
  | false =>
    obtain ⟨A, p, B, i1, i2, i3, i4, i5, i6⟩ := parts_take ok (begin_began ok hb) 16 0 st.n st.node_all (Nat.zero_le _) ok.own (by have := ok.n16; omega)
    obtain ⟨l1, l2⟩ := parts_lt st 16 0 st.n (by have := ok.n1; omega) (by have := ok.n16; omega)
    have hT := hg.tree
    rw [i1] at hT l1 l2
    rw [hb] at hrat
    have hlf := (St.part_leaf ok st.own ok.own).2
    have hsb : ∀ i, 0 ≤ (p.spl 16 st.own).s i ∧ (p.spl 16 st.own).s i < 256 := fun i => by rw [i5]; exact St.part_bd ok _ _ i
    have hn0 : (st.m st.own).next = 0 := ((ok.m st.own).2.2.2 hb).1
    refine (ratchetFor_new b st.own h16 cs _ hg.size A B p w h hT i2 i3 l1 (by have := ok.n16; omega) _ _ hrat hsb).mono fun e' w' ⟨h1, h2, cs1, m1, t1, hm⟩ => ⟨h1, h2, _, 2 * (p.spl 16 st.own).d + 1, ?_, hm, ?_⟩
    · rw [Nat.sub_zero, Nat.sub_zero] at i6; omega
    · have hR : RatAt (putL cs1 (163 + st.own * 10) (CellsR true 0 (DerB (p.spl 16 st.own).s lRatchet 0)).toList) (163 + st.own * 10) true ((0 : Nat) : Int) (DerB (p.spl 16 st.own).s lRatchet 0) := putL_at _ _ _ (by rw [m1.size, hg.size]; show 163 + st.own * 10 + 10 ≤ 324; omega)
      have hl10 : (CellsR true 0 (DerB (p.spl 16 st.own).s lRatchet 0)).toList.length = 10 := rfl
      have e0 : ∀ j, (j < 2 ∨ 163 ≤ j) → j ≠ 323 → cs1[j]? = cs[j]? := fun j hj h3 => m1.out j (by omega) (fun _ => h3)
      refine ⟨by rw [putL_size, m1.size]; exact hg.size, ?_, ?_, ?_, fun i hi => ?_, ?_⟩
      · rw [putL_out _ _ _ _ (.inl (by omega)), e0 0 (.inl (by omega)) (by omega)]; exact hg.own
      · rw [putL_out _ _ _ _ (.inl (by omega)), e0 1 (.inl (by omega)) (by omega)]; exact hg.over
      · have e4 : (st.begin st.own).n = st.n := rfl
        rw [e4, i4]
        refine ⟨t1.len, t1.parts.putOther _ _ (.inr (by rw [pcells_len]; have := t1.len; omega)), ?_, t1.ok⟩
        rw [putL_out _ _ _ _ (.inl (by omega))]; exact t1.count
      · by_cases hi' : i = st.own
        · subst hi'
          rw [begin_m ok, if_pos rfl, hn0]
          have hs : (st.begin st.own).ratS st.own = DerB (p.spl 16 st.own).s lRatchet 0 := by
            unfold St.ratS
            rw [begin_m ok, if_pos rfl, hn0]
            show (if (true && decide (0 ≤ 65535)) = true then (st.begin st.own).ratAt st.own 0 else _) = _
            rw [if_pos (by decide), i5, hlf]
            rfl
          rw [hs]
          exact hR
        · have h3 := hg.rat i hi
          rw [begin_m ok, if_neg hi', ratS_other (st' := st.begin st.own) (st := st) rfl rfl i (by rw [begin_m ok, if_neg hi'])]
          have h4 : AtL cs1 (163 + i * 10) (CellsR (st.m i).begun (st.m i).next (st.ratS i)).toList := m1.at h3 (.inr (by omega)) (fun _ => .inl (by show 163 + i * 10 + 10 ≤ 323; omega))
          have hdj : 163 + st.own * 10 + 10 ≤ 163 + i * 10 ∨ 163 + i * 10 + 10 ≤ 163 + st.own * 10 := by omega
          exact h4.putOther (163 + st.own * 10) (CellsR true 0 (DerB (p.spl 16 st.own).s lRatchet 0)).toList hdj
      · rw [putL_out _ _ _ _ (.inr (by rw [hl10]; show 163 + st.own * 10 + 10 ≤ 323; omega))]
        exact m1.cnt (by simp) wk hg.cnt
/-- the own ratchet is turned -/
theorem GrpAt.turn {b n wk : Nat} {cs cs' : Array Value} {st : St} (ok : st.Ok) (h : GrpAt cs (st.begin st.own) wk) (m : Mv (some b) n (163 + st.own * 10) 10 cs cs') (hr : RatAt cs' (163 + st.own * 10) true ((st.m st.own).next + 1 : Nat) (st.protNext.ratS st.own)) : GrpAt cs' st.protNext (wk + n) := by
  have h16 : st.own < 16 := by have := ok.own; have := ok.n16; omega
  have e0 : ∀ j, (j < 163 + st.own * 10 ∨ 163 + st.own * 10 + 10 ≤ j) → j ≠ 323 → cs'[j]? = cs[j]? := fun j hj h3 => m.out j hj (fun _ => h3)
  have hp : ∀ f t, st.protNext.parts 16 f t = (st.begin st.own).parts 16 f t := parts_same (st := st.begin st.own) (st' := st.protNext) rfl rfl (fun i => by rw [protNext_m ok, begin_m ok]; split <;> rfl) 16
  refine ⟨m.size.trans h.size, ?_, ?_, ?_, fun i hi => ?_, m.cnt (by simp) wk h.cnt⟩
  · rw [e0 0 (.inl (by omega)) (by omega)]; exact h.own
  · rw [e0 1 (.inl (by omega)) (by omega)]; exact h.over
  · have e1 : st.protNext.n = (st.begin st.own).n := rfl
    rw [e1, hp]
    have hT := h.tree
    refine ⟨hT.len, m.at hT.parts (.inl (by rw [pcells_len]; have := hT.len; omega)) (fun _ => .inl (by rw [pcells_len]; have := hT.len; show 2 + 10 * _ ≤ 323; omega)), ?_, hT.ok⟩
    rw [e0 (2 + 160) (.inl (by omega)) (by omega)]; exact hT.count
  · by_cases hi' : i = st.own
    · subst hi'
      rw [protNext_m ok, if_pos rfl]
      exact hr
    · have h3 := h.rat i hi
      rw [begin_m ok, if_neg hi', ratS_other (st' := st.begin st.own) (st := st) rfl rfl i (by rw [begin_m ok, if_neg hi'])] at h3
      rw [protNext_m ok, if_neg hi', ratS_other (st' := st.protNext) (st := st) rfl rfl i (by rw [protNext_m ok, if_neg hi'])]
      exact m.at h3 (by show 163 + i * 10 + 10 ≤ _ ∨ _; omega) (fun _ => .inl (by show 163 + i * 10 + 10 ≤ 323; omega))
/-- turn, of the own ratchet -/
theorem gturn_any {b wk : Nat} {cs : Array Value} {st : St} (ok : st.Ok) (h : GrpAt cs (st.begin st.own) wk) (hn : (st.m st.own).next ≤ 65535) (w : World) (hh : Home (some b) b 117 cs w) :
    Calls Try.prog 43 #[.pointer (some ⟨b, 163 + st.own * 10, none⟩), .func (.func 53) #[.pointer (some ⟨b, 0, none⟩)] #[]] w fun e w' => e = .returned (.tuple #[]) ∧ Outside [b] w w' ∧ ∃ cs' n, n ≤ 1 ∧ Home (some b) b 117 cs' w' ∧ GrpAt cs' st.protNext (wk + n) := by
  have h16 : st.own < 16 := by have := ok.own; have := ok.n16; omega
  have hf : (some b : Option Nat) ≠ none → 163 + st.own * 10 + 10 ≤ ctrOff := fun _ => by show _ ≤ 323; omega
  have hr := h.rat st.own h16
  have hs : (st.begin st.own).ratS st.own = st.ratAt st.own (st.m st.own).next := by
    unfold St.ratS
    rw [begin_m ok, if_pos rfl]
    show (if (true && decide ((st.m st.own).next ≤ 65535)) = true then _ else _) = _
    rw [if_pos (by simp; exact hn)]
    rfl
  rw [begin_m ok, if_pos rfl, hs] at hr
  have hbd : ∀ i, 0 ≤ st.ratAt st.own (st.m st.own).next i ∧ st.ratAt st.own (st.m st.own).next i < 256 := RatB_bd _ (DerB_bd _ _ _) _
  by_cases hl : (st.m st.own).next < 65535
  · refine (turn_small (derive_g b) (st.m st.own).next hl true _ hbd b (163 + st.own * 10) _ cs w hh hr hf).mono fun e w' ⟨h1, cs', u, h2⟩ => ⟨h1, u.out, cs', 1, by omega, u.home, h.turn ok u.mv ?_⟩
    have e2 : st.protNext.ratS st.own = DerB (st.ratAt st.own (st.m st.own).next) lNext (st.m st.own).next := by
      unfold St.ratS
      rw [protNext_m ok, if_pos rfl]
      show (if (true && decide ((st.m st.own).next + 1 ≤ 65535)) = true then _ else _) = _
      rw [if_pos (by simp; omega)]
      rfl
    rw [e2]
    exact h2
  · have e1 : (st.m st.own).next = 65535 := by omega
    rw [e1] at hr
    refine (turn_last _ (some b) true _ b (163 + st.own * 10) _ cs w hh hr hf).mono fun e w' ⟨h1, cs', u, h2⟩ => ⟨h1, u.out, cs', 0, by omega, u.home, h.turn ok u.mv ?_⟩
    have e2 : st.protNext.ratS st.own = fun _ => 0 := by
      unfold St.ratS
      rw [protNext_m ok, if_pos rfl]
      show (if (true && decide ((st.m st.own).next + 1 ≤ 65535)) = true then _ else _) = _
      rw [if_neg (by simp; omega)]
    rw [e2, e1]
    exact h2
end Go.Proofs.Ytcboagjfajdpeaa

/- slices.Grow, slices.Concat (of two), headOf. -/
namespace Go.Proofs.Ytcboagjfajdpeaa
open Go.RowKit
set_option linter.unusedVariables false

theorem putL_rowB (x y : List UInt8) (cap : Nat) (h : x.length + y.length ≤ cap) : putL (RowB x cap) x.length (y.map cellB) = RowB (x ++ y) cap := by
  apply Array.ext_getElem?
  intro i
  by_cases h1 : i < x.length
  · rw [putL_out _ _ _ _ (.inl h1), RowB_at _ _ _ h1, RowB_at _ _ _ (by rw [List.length_append]; omega)]
    simp [List.getElem_append_left h1]
  · by_cases h2 : i < x.length + y.length
    · have := putL_at (y.map cellB) (RowB x cap) x.length (by rw [RowB_size _ _ (by omega), List.length_map]; omega) (i - x.length) (cellB (y[i - x.length]'(by omega))) (by rw [List.getElem?_map, List.getElem?_eq_getElem (by omega)]; rfl)
      rw [show x.length + (i - x.length) = i by omega] at this
      rw [this, RowB_at _ _ _ (by rw [List.length_append]; omega)]
      rw [List.getElem_append_right (by omega)]
    · rw [putL_out _ _ _ _ (.inr (by rw [List.length_map]; omega))]
      unfold RowB
      simp only [List.getElem?_toArray]
      rw [List.getElem?_append_right (by simp; omega), List.getElem?_append_right (by simp; omega)]
      simp only [List.length_map, List.length_append, List.getElem?_replicate]
      by_cases h3 : i < cap
      · rw [if_pos (by omega), if_pos (by omega)]
      · rw [if_neg (by omega), if_neg (by omega)]
theorem u8_info : ∃ i, Try.prog.info? 5 = some i ∧ i.zero = some (.int .u8 0) ∧ i.size = 1 ∧ i.bytes = 1 := by
  have h : (Try.prog.info? 5).map (fun i => (i.zero, i.size, i.bytes)) = some (some (.int .u8 0), 1, 1) := by kernel_rfl
  obtain ⟨i, hi, hz⟩ := Option.map_eq_some_iff.1 h
  simp only [Prod.mk.injEq] at hz
  exact ⟨i, hi, hz⟩
theorem run_zeros (n : Nat) (h0 : 0 < n) (hn : n ≤ 1000000) (w : World) (ty : TypeId) : ∃ cap, n ≤ cap ∧ (Builtin.append_ #[27, 3] ty #[.slice none 0 0, .int .i64 n]).run Try.prog w = .ok (.slice (some ⟨w.heap.size, 0, none⟩) n cap) (w.drew.alloc (.cells (RowB [] cap) 5)) := by
  obtain ⟨i, hi, hz, hs, hb⟩ := u8_info
  refine ⟨grownCap w n 0 5, grownCap_ge _ _ _ _, ?_⟩
  have h := Lib.run_append_nil_zeros (P := Try.prog) w 27 3 ty 5 i (.int .u8 0) .i64 .i64 Try.underlying27 Try.underlying3 hi hz n h0 (by omega) (by omega) (by rw [hb]; omega)
  rw [h]
  have hg := grownCap_ge w n 0 5
  generalize grownCap w n 0 5 = cap at *
  have hzc : ∀ k, (Builtin.zeroCells (Value.int .u8 0).cells k).toList = List.replicate k (Value.int .u8 0) := fun k => by
    apply List.ext_getElem
    · simp [Builtin.zeroCells, Value.cells]
    · intro i h1 h2
      simp [Builtin.zeroCells, Value.cells, Nat.mod_one]
  have hrow : Builtin.zeroCells (Value.int .u8 0).cells n ++ Builtin.zeroCells (Value.int .u8 0).cells (cap - n) = RowB [] cap := by
    apply Array.ext'
    rw [Array.toList_append, hzc, hzc]
    simp [RowB]
    omega
  rw [hrow]
set_option maxRecDepth 20000 in
theorem grow_any (n : Nat) (h0 : 0 < n) (hn : n ≤ 1000000) (w : World) :
    Calls Try.prog 87 #[.slice none 0 0, .int .i64 n] w fun e w' => ∃ cap, e = .returned (.slice (some ⟨w.heap.size, 0, none⟩) 0 cap) ∧ n ≤ cap ∧ Below w.heap.size w w' ∧ w'.heap[w.heap.size]? = some (.cells (RowB [] cap) 5 (0, 0)) := by
  obtain ⟨cap, hcap, hr⟩ := run_zeros n h0 hn w 27
  have HR : Hid ((Builtin.append_ #[27, 3] 27 #[.slice none 0 0, .int .i64 n]).run Try.prog w = .ok (.slice (some ⟨w.heap.size, 0, none⟩) n cap) (w.drew.alloc (.cells (RowB [] cap) 5))) := hr
  clear hr
  obtain ⟨M, hM⟩ : ∃ M : Int, (n : Int) = M := ⟨_, rfl⟩
  have hi0 : 0 < M := by omega
  have hi1 : M ≤ 1000000 := by omega
  have HC : Hid (n ≤ cap) := hcap
  rw [hM] at HR ⊢
  clear hM hcap h0 hn
  go_enter Try.func87, Try.ntmps87
  go_wp2_with (at_builtin; refine Lib.wpList_append_run w rfl (.tmp 20) (.tmp 21) 27 3 rfl _ _ rfl rfl _ _ HR.out ?_)
  go_ret
  exact ⟨cap, rfl, HC.out, (Below.refl _ w).drew.alloc (by simp) _, (MapKept.heap_alloc w.drew _).1⟩

/-- append where there is room, of bytes that lie elsewhere -/
theorem run_app_room (G cap : Nat) (x y : List UInt8) (a : Option Addr) (c : Nat) (w : World) (hG : w.heap[G]? = some (.cells (RowB x cap) 5 (0, 0))) (hy : Bts w a y) (hc : x.length + y.length ≤ cap) (hne : y ≠ []) (ty : TypeId) :
    (Builtin.append_ #[27, 27] ty #[.slice (some ⟨G, 0, none⟩) x.length cap, .slice a y.length c]).run Try.prog w = .ok (.slice (some ⟨G, 0, none⟩) (x.length + y.length) cap) (w.setRow G (RowB (x ++ y) cap)) := by
  obtain ⟨i, hi, hz, hs, hb⟩ := u8_info
  rcases hy with h | ⟨b, o, rfl, hcell⟩
  · exact absurd h hne
  have hsrc : Src Try.prog i.size 27 (.slice (some ⟨b, o, none⟩) y.length c) y.length (y.map cellB) w := by
    rw [hs]
    refine Src.ofSlice w Try.underlying27 ⟨b, o, none⟩ y.length c (y.map cellB) (by simp) (fun j v hv => ?_) (by intro u hu; obtain ⟨c, _, rfl⟩ := List.mem_map.1 hu; rfl)
    have hj : j < y.length := by simpa using (List.getElem?_eq_some_iff.1 hv).1
    rw [List.getElem?_map, List.getElem?_eq_getElem hj] at hv
    rw [Addr.add_mid, hcell j hj]
    exact hv
  have h := run_append_room_src (P := Try.prog) w 27 27 ty 5 i Try.underlying27 hi G 0 x.length cap (.slice (some ⟨b, o, none⟩) y.length c) y.length (y.map cellB) hsrc hc
    (fun j hj => by
      rw [List.length_map] at hj
      rw [cell_of_row _ _ _ _ _ _ hG, hs, Array.getElem?_eq_getElem (by rw [RowB_size _ _ (by omega)]; omega)]; rfl)
    (fun j hj => frozen_of_row _ _ _ _ _ hG)
  rw [h, hs, setCells_row _ w G _ _ _ hG, show 0 + x.length * 1 = x.length by omega, putL_rowB x y cap hc]
set_option maxRecDepth 20000 in
set_option maxHeartbeats 2000000 in
theorem concat_any (sb : Nat) (p1 p2 : Option Addr) (l1 l2 : List UInt8) (c1 c2 : Nat) (h1 : l1 ≠ []) (h2 : l2 ≠ []) (hl : l1.length + l2.length ≤ 1000000) (w : World) (hr : w.heap[sb]? = some (.cells #[.slice p1 l1.length c1, .slice p2 l2.length c2] 27 (0, 0))) (b1 : Bts w p1 l1) (b2 : Bts w p2 l2) :
    Calls Try.prog 77 #[.slice (some ⟨sb, 0, none⟩) 2 2] w fun e w' => ∃ cap, e = .returned (.slice (some ⟨w.heap.size, 0, none⟩) (l1 ++ l2).length cap) ∧ (l1 ++ l2).length ≤ cap ∧ Below w.heap.size w w' ∧ w'.heap[w.heap.size]? = some (.cells (RowB (l1 ++ l2) cap) 5 (0, 0)) := by
  have n1 : 0 < l1.length := List.length_pos_iff.2 h1
  have HG : Hid (Calls Try.prog 87 #[.slice none 0 0, .int .i64 ((l1.length + l2.length : Nat) : Int)] w fun e w' => ∃ cap, e = .returned (.slice (some ⟨w.heap.size, 0, none⟩) 0 cap) ∧ l1.length + l2.length ≤ cap ∧ Below w.heap.size w w' ∧ w'.heap[w.heap.size]? = some (.cells (RowB [] cap) 5 (0, 0))) := grow_any (l1.length + l2.length) (by omega) hl w
  have HB1 : Hid (Bts w p1 l1) := b1
  have HB2 : Hid (Bts w p2 l2) := b2
  have HR : Hid (w.heap[sb]? = some (.cells #[.slice p1 l1.length c1, .slice p2 l2.length c2] 27 (0, 0))) := hr
  have hsb := (Array.getElem?_eq_some_iff.1 hr).1
  have k0 : w.cell? ⟨sb, 0, none⟩ = some (.slice p1 l1.length c1) := by rw [cell_of_row _ _ _ _ _ _ hr]; rfl
  have k1 : w.cell? ⟨sb, 1, none⟩ = some (.slice p2 l2.length c2) := by rw [cell_of_row _ _ _ _ _ _ hr]; rfl
  obtain ⟨M1, hM1⟩ : ∃ M : Int, (l1.length : Int) = M := ⟨_, rfl⟩
  obtain ⟨M2, hM2⟩ : ∃ M : Int, ((l1.length + l2.length : Nat) : Int) = M := ⟨_, rfl⟩
  have a1 : wrap64 M1 = M1 := by simp only [wrap64]; omega
  have a2 : wrap64 (M1 + (l2.length : Int)) = M2 := by simp only [wrap64]; omega
  have a3 : ¬ M1 < 0 := by omega
  have a4 : ¬ M2 < 0 := by omega
  clear hr b1 b2
  rw [hM2] at HG
  have HH1 : Hid (l1 ≠ []) := h1
  have HH2 : Hid (l2 ≠ []) := h2
  go_enter Try.func77, Try.ntmps77
  clear h1 h2 n1 hl
  go_wp2_with fail
  go_loopg [3, 11] 2 (fun k v3 v11 wr => wr = w ∧ ((k = 2 ∧ v11 = .int .i64 0 ∧ v3 = .int .i64 0) ∨ (k = 1 ∧ v11 = .int .i64 1 ∧ v3 = .int .i64 M1) ∨ (k = 0 ∧ v11 = .int .i64 2 ∧ v3 = .int .i64 M2)))
  case atStart => exact ⟨rfl, .inl ⟨rfl, rfl, rfl⟩⟩
  case round =>
    obtain ⟨rfl, ⟨rfl, rfl, rfl⟩ | ⟨rfl, rfl, rfl⟩ | ⟨rfl, rfl, rfl⟩⟩ := hrel
    · go_wp2_with fail
      go_roundg 1
      case measure => omega
      case rel => exact ⟨rfl, .inr (.inl ⟨rfl, rfl, by rw [a1]⟩)⟩
    · go_wp2_with fail
      go_roundg 0
      case measure => omega
      case rel => exact ⟨rfl, .inr (.inr ⟨rfl, rfl, by rw [a2]⟩)⟩
    · go_wp2_with fail
      refine HG.out.mono ?_
      rintro e w1 ⟨cap, rfl, hcap, bel, hrow⟩
      have q0 : w1.cell? ⟨sb, 0, none⟩ = some (.slice p1 l1.length c1) := by rw [bel.cell (p := ⟨sb, 0, none⟩) hsb]; exact k0
      have z1 : wr.heap.size < w1.heap.size := (Array.getElem?_eq_some_iff.1 hrow).1
      have HRUN1 : Hid ((Builtin.append_ #[27, 27] 27 #[.slice (some ⟨wr.heap.size, 0, none⟩) 0 cap, .slice p1 l1.length c1]).run Try.prog w1 = .ok (.slice (some ⟨wr.heap.size, 0, none⟩) l1.length cap) (w1.setRow wr.heap.size (RowB l1 cap))) := by
        have := run_app_room wr.heap.size cap [] l1 p1 c1 w1 hrow (HB1.out.below bel) (by simp; omega) HH1.out 27
        show _ = _
        simpa using this
      obtain ⟨w2, hw2⟩ : ∃ w2, w1.setRow wr.heap.size (RowB l1 cap) = w2 := ⟨_, rfl⟩
      have row2 : w2.heap[wr.heap.size]? = some (.cells (RowB l1 cap) 5 (0, 0)) := by rw [← hw2]; exact setRow_heap _ _ _ _ _ _ hrow
      have bel2 : Below wr.heap.size wr w2 := by rw [← hw2]; exact below_setRow bel (Nat.le_refl _) _
      have q1 : w2.cell? ⟨sb, 1, none⟩ = some (.slice p2 l2.length c2) := by rw [bel2.cell (p := ⟨sb, 1, none⟩) hsb]; exact k1
      have HRUN2 : Hid ((Builtin.append_ #[27, 27] 27 #[.slice (some ⟨wr.heap.size, 0, none⟩) l1.length cap, .slice p2 l2.length c2]).run Try.prog w2 = .ok (.slice (some ⟨wr.heap.size, 0, none⟩) (l1.length + l2.length) cap) (w2.setRow wr.heap.size (RowB (l1 ++ l2) cap))) := run_app_room wr.heap.size cap l1 l2 p2 c2 w2 row2 (HB2.out.below bel2) hcap HH2.out 27
      obtain ⟨w3, hw3⟩ : ∃ w3, w2.setRow wr.heap.size (RowB (l1 ++ l2) cap) = w3 := ⟨_, rfl⟩
      have HROW3 : Hid (w3.heap[wr.heap.size]? = some (.cells (RowB (l1 ++ l2) cap) 5 (0, 0))) := by show _ = _; rw [← hw3]; exact setRow_heap _ _ _ _ _ _ row2
      have HBEL3 : Hid (Below wr.heap.size wr w3) := by show Below _ _ _; rw [← hw3]; exact below_setRow bel2 (Nat.le_refl _) _
      rw [hw2] at HRUN1
      rw [hw3] at HRUN2
      have HCAP : Hid (l1.length + l2.length ≤ cap) := hcap
      clear bel hrow hw2 row2 bel2 hw3 HG HB1 HB2 HR k0 k1 hcap hM2 a2 a4 hM1 a1 a3
      go_wp2_with fail
      go_loopg [6, 27] 2 (fun k v6 v27 wq => (k = 2 ∧ v27 = .int .i64 0 ∧ v6 = .slice (some ⟨wr.heap.size, 0, none⟩) 0 cap ∧ wq = w1) ∨ (k = 1 ∧ v27 = .int .i64 1 ∧ v6 = .slice (some ⟨wr.heap.size, 0, none⟩) l1.length cap ∧ wq = w2) ∨ (k = 0 ∧ v27 = .int .i64 2 ∧ v6 = .slice (some ⟨wr.heap.size, 0, none⟩) (l1.length + l2.length) cap ∧ wq = w3))
      case atStart => exact .inl ⟨rfl, rfl, rfl, rfl⟩
      case round =>
        obtain ⟨rfl, rfl, rfl, rfl⟩ | ⟨rfl, rfl, rfl, rfl⟩ | ⟨rfl, rfl, rfl, rfl⟩ := hrel
        · go_wp2_with (at_builtin; refine Lib.wpList_append_run _ rfl (.tmp 31) (.tmp 32) 27 27 rfl _ _ rfl rfl _ _ HRUN1.out ?_)
          go_roundg 1
          case measure => omega
          case rel => exact .inr (.inl ⟨rfl, rfl, rfl, rfl⟩)
        · go_wp2_with (at_builtin; refine Lib.wpList_append_run _ rfl (.tmp 31) (.tmp 32) 27 27 rfl _ _ rfl rfl _ _ HRUN2.out ?_)
          go_roundg 0
          case measure => omega
          case rel => exact .inr (.inr ⟨rfl, rfl, rfl, rfl⟩)
        · go_wp2_with fail
          go_ret
          exact ⟨cap, by rw [List.length_append]; rfl, by rw [List.length_append]; exact HCAP.out, HBEL3.out, HROW3.out⟩
abbrev HeadV (who gen : Nat) : Array Value := #[.int .u8 (who : Int), .int .u8 ((gen : Int) / 256), .int .u8 ((gen : Int) % 256)]
theorem headV_row (who gen : Nat) (hw : who < 16) (hg : (gen : Int) ≤ 65535) : HeadV who gen = RowB (HeadB who gen) 3 := by
  have e1 : (who : Int) = ((UInt8.ofNat who).toNat : Int) := by rw [UInt8.toNat_ofNat']; omega
  have e2 : ((gen : Int) / 256) = ((UInt8.ofNat (gen / 256)).toNat : Int) := by rw [UInt8.toNat_ofNat']; omega
  have e3 : ((gen : Int) % 256) = ((UInt8.ofNat gen).toNat : Int) := by rw [UInt8.toNat_ofNat']; omega
  unfold HeadV RowB HeadB
  rw [e1, e2, e3]
  rfl
theorem headOf_any (who gen : Nat) (hw : who < 16) (hg : (gen : Int) ≤ 65535) (w : World) :
    Calls Try.prog 76 #[.int .i64 who, .int .i64 gen] w fun e w' => e = .returned (.agg (HeadV who gen)) ∧ w' = w.alloc (.cells (HeadV who gen) 141) := by
  go_enter Try.func76, Try.ntmps76
  go_wp2_with fail
  exact bodyPost_ret (v := .agg (HeadV who gen)) (results_cell_row rfl _ _ w.heap.size 141 (HeadV who gen) (0, 0) _ rfl (MapKept.heap_alloc _ _).1 Try.underlying141 rfl (by kernel_rfl)) rfl ⟨rfl, rfl⟩
end Go.Proofs.Ytcboagjfajdpeaa

/- frameOf. -/
namespace Go.Proofs.Ytcboagjfajdpeaa
open Go.RowKit
set_option linter.unusedVariables false

set_option maxHeartbeats 4000000 in
set_option maxRecDepth 20000 in
theorem frameOf_any {F : FuncId} {pre : Array Value} {q : Option Nat} (dv : Drv F pre q) (who gen : Nat) (hwho : who < 16) (hg : (gen : Int) ≤ 65535) (s : Nat → Int) (hs : ∀ i, 0 ≤ s i ∧ s i < 256) (a : Option Addr) (m : List UInt8) (d : Nat) (hm : m.length ≤ 100000) (w : World) (ha : Bts w a m) (hq : Has q w) (hna : ∀ b o, a = some ⟨b, o, none⟩ → q ≠ some b) :
    Calls Try.prog 54 #[.int .i64 who, .int .i64 gen, Agg8 s, .slice a m.length d, .func (.func F) pre #[]] w fun e w' => ∃ g cap, e = .returned (.slice (some ⟨g, 0, none⟩) (HeadB who gen ++ SealT s (HeadB who gen) m).length cap) ∧ (HeadB who gen ++ SealT s (HeadB who gen) m).length ≤ cap ∧ w.heap.size ≤ g ∧ Tick q ((m.length + 7) / 8 + 1) w w' ∧ w'.heap[g]? = some (.cells (RowB (HeadB who gen ++ SealT s (HeadB who gen) m) cap) 5 (0, 0)) := by
  have hH := headV_row who gen hwho hg
  have HHO : Hid (∀ W, Calls Try.prog 76 #[.int .i64 who, .int .i64 gen] W fun e w' => e = .returned (.agg (HeadV who gen)) ∧ w' = W.alloc (.cells (HeadV who gen) 141)) := fun W => headOf_any who gen hwho hg W
  have hsl : (SealT s (HeadB who gen) m).length = m.length + 4 := SealT_length _ _ _
  -- the world with the key, what headOf made, and the head
  obtain ⟨w1, hw1⟩ : ∃ w1, ((w.alloc (.cells (Cells8 s) 23)).alloc (.cells (HeadV who gen) 141)).alloc (.cells (HeadV who gen) 141) = w1 := ⟨_, rfl⟩
  have t1 : Tick q 0 w w1 := by rw [← hw1]; exact ((Tick.refl q w).alloc _).alloc _ |>.alloc _
  have k1 : w1.heap[w.heap.size]? = some (.cells (Cells8 s) 23 (0, 0)) := by rw [← hw1, Below.heap_alloc _ _ _ (by simp; omega), Below.heap_alloc _ _ _ (by simp), (MapKept.heap_alloc _ _).1]
  have h1 : w1.heap[w.heap.size + 1 + 1]? = some (.cells (RowB (HeadB who gen) 3) 141 (0, 0)) := by
    rw [← hw1, ← hH]
    have e := (MapKept.heap_alloc ((w.alloc (.cells (Cells8 s) 23)).alloc (.cells (HeadV who gen) 141)) (.cells (HeadV who gen) 141)).1
    simp only [World.size_alloc] at e
    exact e
  have HSE : Hid (∀ W n, Tick q n w W → W.heap[w.heap.size + 1 + 1]? = some (.cells (RowB (HeadB who gen) 3) 141 (0, 0)) → Calls Try.prog 31 #[Agg8 s, .slice (some ⟨w.heap.size + 1 + 1, 0, none⟩) 3 3, .slice a m.length d, .func (.func F) pre #[]] W fun e w' => ∃ g cap, e = .returned (.slice (some ⟨g, 0, none⟩) (m.length + 4) cap) ∧ m.length + 4 ≤ cap ∧ W.heap.size ≤ g ∧ Tick q ((m.length + 7) / 8 + 1) W w' ∧ w'.heap[g]? = some (.cells (RowB (SealT s (HeadB who gen) m) cap) 5 (0, 0))) := fun W n hW hrow => by
    refine seal_d dv s hs (some ⟨w.heap.size + 1 + 1, 0, none⟩) (HeadB who gen) 3 (by show 3 ≤ _; omega) a m d (by omega) W (.inr ⟨_, 0, rfl, fun i hi => by rw [Nat.zero_add, cell_of_row _ _ _ _ _ _ hrow, RowB_at _ _ _ hi]⟩) (ha.tick hW hna) (hq.tick hW) (fun b o e => by cases e; exact hq.ne (by omega)) hna
  have HQ : Hid (Has q w) := hq
  have HK1 : Hid (w1.heap[w.heap.size]? = some (.cells (Cells8 s) 23 (0, 0))) := k1
  have HH1 : Hid (w1.heap[w.heap.size + 1 + 1]? = some (.cells (RowB (HeadB who gen) 3) 141 (0, 0))) := h1
  have HT1 : Hid (Tick q 0 w w1) := t1
  have HW1 : Hid (((w.alloc (.cells (Cells8 s) 23)).alloc (.cells (HeadV who gen) 141)).alloc (.cells (HeadV who gen) 141) = w1) := hw1
  have HSL : Hid ((SealT s (HeadB who gen) m).length = m.length + 4) := hsl
  have HCO : Hid (∀ sb g cap cap2 W, W.heap[sb]? = some (.cells #[.slice (some ⟨w.heap.size + 1 + 1, 0, none⟩) 3 cap2, .slice (some ⟨g, 0, none⟩) (m.length + 4) cap] 27 (0, 0)) → W.heap[w.heap.size + 1 + 1]? = some (.cells (RowB (HeadB who gen) 3) 141 (0, 0)) → W.heap[g]? = some (.cells (RowB (SealT s (HeadB who gen) m) cap) 5 (0, 0)) → Calls Try.prog 77 #[.slice (some ⟨sb, 0, none⟩) 2 2] W fun e w' => ∃ cap, e = .returned (.slice (some ⟨W.heap.size, 0, none⟩) (HeadB who gen ++ SealT s (HeadB who gen) m).length cap) ∧ (HeadB who gen ++ SealT s (HeadB who gen) m).length ≤ cap ∧ Below W.heap.size W w' ∧ w'.heap[W.heap.size]? = some (.cells (RowB (HeadB who gen ++ SealT s (HeadB who gen) m) cap) 5 (0, 0))) := fun sb g cap cap2 W r1 r2 r3 => by
    refine concat_any sb (some ⟨w.heap.size + 1 + 1, 0, none⟩) (some ⟨g, 0, none⟩) (HeadB who gen) (SealT s (HeadB who gen) m) cap2 cap (by simp [HeadB]) (by intro e; rw [e] at hsl; simp at hsl) (by rw [hsl]; show 3 + _ ≤ _; omega) W (by rw [hsl]; exact r1) ?_ ?_
    · exact .inr ⟨_, 0, rfl, fun i hi => by rw [Nat.zero_add, cell_of_row _ _ _ _ _ _ r2, RowB_at _ _ _ hi]⟩
    · exact .inr ⟨_, 0, rfl, fun i hi => by rw [Nat.zero_add, cell_of_row _ _ _ _ _ _ r3, RowB_at _ _ _ hi]⟩
  obtain ⟨TX, hTX⟩ : ∃ TX, HeadB who gen ++ SealT s (HeadB who gen) m = TX := ⟨_, rfl⟩
  rw [hTX] at HCO ⊢
  clear hTX hH hsl hw1 t1 k1 h1 ha hq hna hm hs
  go_enter Try.func54, Try.ntmps54
  go_wp2_with (go_at_call 76; refine (HHO.out _).mono ?_; rintro e w' ⟨rfl, rfl⟩)
  rw [HW1.out]
  obtain ⟨hA, _⟩ : (∀ o, w1.cell? ⟨w.heap.size, o, none⟩ = (Cells8 s)[o]?) ∧ True := ⟨fun o => cell_of_row _ _ _ _ _ _ HK1.out, trivial⟩
  have HLT : Hid (w.heap.size + 1 + 1 < w1.drew.heap.size) := (Array.getElem?_eq_some_iff.1 HH1.out).1
  go_region_with (first
    | (go_at_call 31; refine (HSE.out _ 0 HT1.out.drew HH1.out).mono ?_; rintro e w2 ⟨g, cap, rfl, hcap, hg2, t2, r2⟩; have HT2 : Hid (Tick q ((m.length + 7) / 8 + 1) w1.drew w2) := t2; have HR2 : Hid (w2.heap[g]? = some (.cells (RowB (SealT s (HeadB who gen) m) cap) 5 (0, 0))) := r2; have HH2 : Hid (w2.heap[w.heap.size + 1 + 1]? = some (.cells (RowB (HeadB who gen) 3) 141 (0, 0))) := (t2.block _ HLT.out (HQ.out.ne (by omega))).trans HH1.out; have HG2 : Hid (w1.drew.heap.size ≤ g) := hg2; clear t2 r2 hcap hg2)
    | (go_at_call 77; refine (HCO.out w2.heap.size g cap 3 _ (MapKept.heap_alloc _ _).1 ((Below.heap_alloc _ _ _ (Array.getElem?_eq_some_iff.1 HH2.out).1).trans HH2.out) ((Below.heap_alloc _ _ _ (Array.getElem?_eq_some_iff.1 HR2.out).1).trans HR2.out)).mono ?_; rintro e w3 ⟨cap3, rfl, hc3, b3, r3⟩))
  all_goals
    go_wp2_with fail
    go_ret
    refine ⟨_, cap3, rfl, hc3, ?_, ?_, by simpa only [World.size_alloc] using r3⟩
    · have := HT2.out.size
      have := HT1.out.size
      simp at *
      omega
    · have := (HT1.out.drew.trans HT2.out).alloc (.cells #[.slice (some ⟨w.heap.size + 1 + 1, 0, none⟩) 3 3, .slice (some ⟨g, 0, none⟩) (m.length + 4) cap] 27)
      rw [Nat.zero_add] at this
      exact this.below b3
end Go.Proofs.Ytcboagjfajdpeaa

/- Protect. -/
namespace Go.Proofs.Ytcboagjfajdpeaa
open Go.RowKit
set_option linter.unusedVariables false

theorem Grp.why {b wk : Nat} {cs : Array Value} {st : St} (ok : st.Ok) (hg : GrpAt cs st wk) (hk : GrpOk st wk) (w : World) (h : Home (some b) b 117 cs w) (a : Option Addr) (n c : Nat) :
    Calls Try.prog 51 #[.pointer (some ⟨b, 0, none⟩), .slice a n c] w fun e w' => e = .returned (.int .i64 (st.protErr n)) ∧ Below w.heap.size w w' := by
  have h16 : st.own < 16 := by have := ok.own; have := ok.n16; omega
  have hr := (hg.rat st.own h16).facts h
  have := why_any b st.own h16 (st.m st.own).next a n c w (by rw [h.cells.1]; exact hg.own) (by rw [h.cells.1]; exact hg.over) hr.2.1
  have e : (if 40 < n then (2 : Int) else if GenB (st.m st.own).next then 0 else 8) = st.protErr n := by
    unfold St.protErr
    rw [hk.closed]
    simp only [Bool.false_eq_true, if_false]
    split
    · rfl
    · by_cases hl : 65535 < (st.m st.own).next
      · rw [if_pos hl, if_neg]
        intro hgb
        have := ((genB_iff _).1 hgb).2
        omega
      · rw [if_neg hl, if_pos]
        exact (genB_iff _).2 ⟨by omega, by omega⟩
  rw [e] at this
  exact this
set_option maxHeartbeats 1000000 in
theorem gprotErr {b wk : Nat} {cs : Array Value} {st : St} (ok : st.Ok) (hg : GrpAt cs st wk) (hk : GrpOk st wk) (w : World) (h : Home (some b) b 117 cs w) (a : Option Addr) (n c : Nat) (he : st.protErr n ≠ 0) :
    Calls Try.prog 22 #[.pointer (some ⟨b, 0, none⟩), .slice a n c] w fun e w' => e = .returned (.tuple #[.slice none 0 0, .int .i64 (st.protErr n)]) ∧ Below w.heap.size w w' := by
  have HW : Hid (Calls Try.prog 51 #[.pointer (some ⟨b, 0, none⟩), .slice a n c] w fun e w' => e = .returned (.int .i64 (st.protErr n)) ∧ Below w.heap.size w w') := Grp.why ok hg hk w h a n c
  obtain ⟨E, hE⟩ : ∃ E, st.protErr n = E := ⟨_, rfl⟩
  rw [hE] at HW he ⊢
  have he2 : (E == 0) = false := by simpa using he
  clear hE hg hk h ok
  refine calls_of_wpB Try.func22 rfl ?_
  simp only [Try.ntmps22, List.size_toArray, List.length_cons, List.length_nil, Nat.reduceAdd, Nat.reduceSub, Array.replicate_succ,
     Array.replicate_zero, List.push_toArray, List.append_toArray, List.nil_append, List.cons_append]
  go_wp2_with fail
  refine HW.out.mono ?_
  rintro e w1 ⟨rfl, b1⟩
  go_wp2_with fail
  exact ⟨_, by simp [results, Try.results22, go_sem], rfl, b1⟩
set_option maxHeartbeats 4000000 in
set_option maxRecDepth 20000 in
theorem gprot {b wk : Nat} {cs : Array Value} {st : St} (ok : st.Ok) (hg : GrpAt cs st wk) (hk : GrpOk st wk) (w : World) (h : Home (some b) b 117 cs w) (a : Option Addr) (t : List UInt8) (c : Nat) (hl : t.length ≤ 100000) (ha : Bts w a t) (hna : ∀ k o, a = some ⟨k, o, none⟩ → k ≠ b) (he : st.protErr t.length = 0) (hn : (st.m st.own).next ≤ 65535) :
    Calls Try.prog 22 #[.pointer (some ⟨b, 0, none⟩), .slice a t.length c] w fun e w' => ∃ f cap, e = .returned (.tuple #[.slice (some ⟨f, 0, none⟩) (st.frame t).length cap, .int .i64 0]) ∧ (st.frame t).length ≤ cap ∧ w.heap.size ≤ f ∧ Outside [b] w w' ∧ w'.heap[f]? = some (.cells (RowB (st.frame t) cap) 5 (0, 0)) ∧ ∃ cs' n, n ≤ 2 * DepB 16 st.n st.own + 4 + (t.length + 7) / 8 ∧ 1 ≤ n ∧ Home (some b) b 117 cs' w' ∧ GrpAt cs' st.protNext (wk + n) := by
  have h16 : st.own < 16 := by have := ok.own; have := ok.n16; omega
  have HW : Hid (Calls Try.prog 51 #[.pointer (some ⟨b, 0, none⟩), .slice a t.length c] w fun e w' => e = .returned (.int .i64 0) ∧ Below w.heap.size w w') := by
    have := Grp.why ok hg hk w h a t.length c
    rw [he] at this
    exact this
  have hs : (st.begin st.own).ratS st.own = st.ratAt st.own (st.m st.own).next := by
    unfold St.ratS
    rw [begin_m ok, if_pos rfl]
    show (if (true && decide ((st.m st.own).next ≤ 65535)) = true then _ else _) = _
    rw [if_pos (by simp; exact hn)]
    rfl
  have hbd : ∀ i, 0 ≤ st.ratAt st.own (st.m st.own).next i ∧ st.ratAt st.own (st.m st.own).next i < 256 := RatB_bd _ (DerB_bd _ _ _) _
  have hRat : ∀ {cs : Array Value} {wk : Nat}, GrpAt cs (st.begin st.own) wk → RatAt cs (163 + st.own * 10) true (st.m st.own).next (st.ratAt st.own (st.m st.own).next) := fun hg => by
    have := hg.rat st.own h16
    rw [begin_m ok, if_pos rfl, hs] at this
    exact this
  have HRF : Hid (∀ W, Home (some b) b 117 cs W → Calls Try.prog 52 #[.pointer (some ⟨b, 0, none⟩), .int .i64 st.own] W fun e w' => e = .returned (.pointer (some ⟨b, 163 + st.own * 10, none⟩)) ∧ Outside [b] W w' ∧ ∃ cs' n, n ≤ 2 * DepB 16 st.n st.own + 1 ∧ Home (some b) b 117 cs' w' ∧ GrpAt cs' (st.begin st.own) (wk + n)) := fun W hW => rf_any ok hg hn W hW
  have HKY : Hid (∀ W cs wk, Home (some b) b 117 cs W → GrpAt cs (st.begin st.own) wk → Calls Try.prog 44 #[.pointer (some ⟨b, 163 + st.own * 10, none⟩), .func (.func 53) #[.pointer (some ⟨b, 0, none⟩)] #[]] W fun e w' => e = .returned (Agg8 (st.keyAt st.own (st.m st.own).next)) ∧ Tick (some b) 1 W w') := fun W cs wk hW hG => rkey_any (derive_g b) (st.m st.own).next true _ hbd b (163 + st.own * 10) _ cs W hW (hRat hG)
  have HFR : Hid (∀ W, Bts W a t → Has (some b) W → Calls Try.prog 54 #[.int .i64 st.own, .int .i64 (st.m st.own).next, Agg8 (st.keyAt st.own (st.m st.own).next), .slice a t.length c, .func (.func 53) #[.pointer (some ⟨b, 0, none⟩)] #[]] W fun e w' => ∃ g cap, e = .returned (.slice (some ⟨g, 0, none⟩) (st.frame t).length cap) ∧ (st.frame t).length ≤ cap ∧ W.heap.size ≤ g ∧ Tick (some b) ((t.length + 7) / 8 + 1) W w' ∧ w'.heap[g]? = some (.cells (RowB (st.frame t) cap) 5 (0, 0))) := fun W hB hq => frameOf_any (derive_g b) st.own (st.m st.own).next h16 (by omega) (st.keyAt st.own (st.m st.own).next) (DerB_bd _ _ _) a t c hl W hB hq (fun k o e => by have := hna k o e; simp; omega)
  have HTU : Hid (∀ W cs wk, Home (some b) b 117 cs W → GrpAt cs (st.begin st.own) wk → Calls Try.prog 43 #[.pointer (some ⟨b, 163 + st.own * 10, none⟩), .func (.func 53) #[.pointer (some ⟨b, 0, none⟩)] #[]] W fun e w' => e = .returned (.tuple #[]) ∧ Outside [b] W w' ∧ ∃ cs' n, n ≤ 1 ∧ Home (some b) b 117 cs' w' ∧ GrpAt cs' st.protNext (wk + n)) := fun W cs wk hW hG => gturn_any ok hG hn W hW
  have HOWN : Hid (∀ {cs : Array Value} {wk : Nat}, GrpAt cs (st.begin st.own) wk → cs[0]? = some (.int .i64 st.own)) := fun hg => hg.own
  have HGEN : Hid (∀ {cs : Array Value} {wk : Nat} {W : World}, GrpAt cs (st.begin st.own) wk → Home (some b) b 117 cs W → W.cell? ⟨b, 163 + st.own * 10 + 1, none⟩ = some (.int .i64 (st.m st.own).next)) := fun hg hW => ((hRat hg).facts hW).2.1
  have own0 : w.cell? ⟨b, 0, none⟩ = some (.int .i64 st.own) := by rw [h.cells.1]; exact hg.own
  have HH : Hid (Home (some b) b 117 cs w) := h
  have HA : Hid (Bts w a t) := ha
  have HNA : Hid (∀ k o, a = some ⟨k, o, none⟩ → k ≠ b) := hna
  have hbw := h.lt
  obtain ⟨FR, hFR⟩ : ∃ FR, st.frame t = FR := ⟨_, rfl⟩
  obtain ⟨K, hK⟩ : ∃ K, st.keyAt st.own (st.m st.own).next = K := ⟨_, rfl⟩
  obtain ⟨P, hP⟩ : ∃ P, 163 + st.own * 10 = P := ⟨_, rfl⟩
  obtain ⟨O, hO⟩ : ∃ O : Int, (st.own : Int) = O := ⟨_, rfl⟩
  obtain ⟨G, hG⟩ : ∃ G : Int, ((st.m st.own).next : Int) = G := ⟨_, rfl⟩
  rw [hFR] at HFR ⊢
  rw [hK] at HKY HFR
  rw [hP] at HRF HKY HTU HGEN
  rw [hO] at HRF HFR HOWN own0
  rw [hG] at HFR HGEN
  have hmf : ∀ (fn : Fn) (first cap : Array Value) (w : World), (Instr.makeFunc fn first cap).run Try.prog w = .ok (.func fn first cap) w := fun _ _ _ _ => rfl
  clear hFR hK hP hO hG h ha hna he hn hl hg hk hs hbd hRat h16
  refine calls_of_wpB Try.func22 rfl ?_
  simp only [Try.ntmps22, List.size_toArray, List.length_cons, List.length_nil, Nat.reduceAdd, Nat.reduceSub, Array.replicate_succ,
     Array.replicate_zero, List.push_toArray, List.append_toArray, List.nil_append, List.cons_append]
  go_wp2_with fail
  refine HW.out.mono ?_
  rintro e w1 ⟨rfl, b1⟩
  have H1 : Hid (Home (some b) b 117 cs w1) := HH.out.below b1
  have own1 : w1.cell? ⟨b, 0, none⟩ = some (.int .i64 O) := by rw [b1.cell (p := ⟨b, 0, none⟩) hbw]; exact own0
  have HO1 : Hid (Outside [b] w w1) := Outside.ofBelow b1
  have HA1 : Hid (Bts w1 a t) := HA.out.below b1
  clear b1 own0 HW HH HA
  go_wp2_with fail
  refine (HRF.out _ H1.out).mono ?_
  rintro e w2 ⟨rfl, o2, cs2, n2, hn2, hh2, hg2⟩
  have HO2 : Hid (Outside [b] w w2) := HO1.out.trans o2 (fun _ hi _ => hi)
  have HA2 : Hid (Bts w2 a t) := HA1.out.out o2 (fun k o e => by have := HNA.out k o e; simp; omega)
  have HH2 : Hid (Home (some b) b 117 cs2 w2) := hh2
  have HG2 : Hid (GrpAt cs2 (st.begin st.own) (wk + n2)) := hg2
  have HN2 : Hid (n2 ≤ 2 * DepB 16 st.n st.own + 1) := hn2
  clear o2 hh2 hg2 hn2 HO1 HA1 H1 HRF own1
  go_wp2_with fail
  refine (HKY.out _ cs2 _ HH2.out HG2.out).mono ?_
  rintro e w3 ⟨rfl, t3⟩
  obtain ⟨cs3, u3⟩ := HH2.out.tick t3
  have hg3 := HG2.out.tick u3.mv
  -- the key's own block
  obtain ⟨w4, hw4⟩ : ∃ w4, w3.alloc (.cells (Cells8 K) 23) = w4 := ⟨_, rfl⟩
  have b4 : Below w3.heap.size w3 w4 := by rw [← hw4]; exact (Below.refl _ w3).alloc (Nat.le_refl _) _
  have k4 : w4.heap[w3.heap.size]? = some (.cells (Cells8 K) 23 (0, 0)) := by rw [← hw4]; exact (MapKept.heap_alloc _ _).1
  have HW4 : Hid (w3.alloc (.cells (Cells8 K) 23) = w4) := hw4
  have HH4 : Hid (Home (some b) b 117 cs3 w4) := u3.home.below b4
  have HG3 : Hid (GrpAt cs3 (st.begin st.own) (wk + n2 + 1)) := hg3
  have HO4 : Hid (Outside [b] w w4) := (HO2.out.trans u3.out (fun _ hi _ => hi)).below b4
  have HA4 : Hid (Bts w4 a t) := (HA2.out.out u3.out (fun k o e => by have := HNA.out k o e; simp; omega)).below b4
  have hbk : w3.heap.size ≠ b := by have := u3.home.lt; omega
  have z3 : w.heap.size ≤ w3.heap.size := (HO2.out.trans u3.out (fun _ hi _ => hi)).size
  have own4 : w4.cell? ⟨b, 0, none⟩ = some (.int .i64 O) := by rw [HH4.out.cells.1]; exact HOWN.out hg3
  have gen4 : w4.cell? ⟨b, P + 1, none⟩ = some (.int .i64 G) := HGEN.out hg3 HH4.out
  obtain ⟨kc, _⟩ := row_facts k4
  have HK4 : Hid (w4.heap[w3.heap.size]? = some (.cells (Cells8 K) 23 (0, 0))) := k4
  clear t3 u3 hg3 b4 HO2 HA2 HH2 HG2 HKY HOWN HGEN hw4 k4
  go_upto_region 7 with fail
  rw [HW4.out]
  go_region_with (go_at_call 54; refine (HFR.out _ (HA4.out.below (Below.refl _ _).drew) HH4.out.drew.has).mono ?_; rintro e w5 ⟨f, cap, rfl, hcap, hf5, t5, r5⟩)
  all_goals
    obtain ⟨cs5, u5⟩ := HH4.out.drew.tick t5
    have HG5 : Hid (GrpAt cs5 (st.begin st.own) (wk + n2 + 1 + ((t.length + 7) / 8 + 1))) := HG3.out.tick u5.mv
    have HH5 : Hid (Home (some b) b 117 cs5 w5) := u5.home
    have HO5 : Hid (Outside [b] w w5) := HO4.out.drew.trans u5.out (fun _ hi _ => hi)
    have HK5 : Hid (w5.heap[w3.heap.size]? = some (.cells (Cells8 K) 23 (0, 0))) := u5.out.row HK4.out (by simp; omega)
    have hf6 : w4.heap.size ≤ f := hf5
    have hfk : w3.heap.size < f := by have := (Array.getElem?_eq_some_iff.1 HK4.out).1; omega
    have HF5 : Hid (w5.heap[f]? = some (.cells (RowB FR cap) 5 (0, 0))) := r5
    have HCP : Hid (FR.length ≤ cap) := hcap
    clear t5 u5 r5 hf5 hf6 hcap HG3 HH4 HO4 HA4 HFR HK4 kc own4 gen4
    go_wp2_with fail
    refine (HTU.out _ cs5 _ HH5.out HG5.out).mono ?_
    rintro e w6 ⟨rfl, o6, cs6, n6, hn6, hh6, hg6⟩
    have HK6 : Hid (w6.heap[w3.heap.size]? = some (.cells (Cells8 K) 23 (0, 0))) := o6.row HK5.out (by simp; omega)
    have HF6 : Hid (w6.heap[f]? = some (.cells (RowB FR cap) 5 (0, 0))) := o6.row HF5.out (by have := HH5.out.lt; simp; omega)
    have HO6 : Hid (Outside [b] w w6) := HO5.out.trans o6 (fun _ hi _ => hi)
    have HG6 : Hid (GrpAt cs6 st.protNext (wk + n2 + 1 + ((t.length + 7) / 8 + 1) + n6)) := hg6
    have HH6 : Hid (Home (some b) b 117 cs6 w6) := hh6
    have HN6 : Hid (n6 ≤ 1) := hn6
    clear o6 hh6 hg6 hn6 HTU HO5 HH5 HG5 HK5 HF5
    go_wp2_with fail
    refine ⟨_, _, _, _, _, _, rfl, clear_door w3.heap.size K w6 _ HK6.out _ _, _, by simp [results, Try.results22, go_sem], f, cap, rfl, HCP.out, by omega, ?_, ?_, cs6, n2 + 1 + ((t.length + 7) / 8 + 1) + n6, ?_, by omega, ?_, ?_⟩
    · exact HO6.out.setRow _ (fun hl => by omega) _
    · rw [setRow_other _ _ _ _ (by omega)]; exact HF6.out
    · have := HN2.out; have := HN6.out; omega
    · exact ⟨by rw [setRow_other _ _ _ _ (fun e => hbk e.symm)]; exact HH6.out.row, .inr rfl, HH6.out.cnt⟩
    · have := HG6.out
      rw [show wk + (n2 + 1 + ((t.length + 7) / 8 + 1) + n6) = wk + n2 + 1 + ((t.length + 7) / 8 + 1) + n6 by omega]
      exact this
end Go.Proofs.Ytcboagjfajdpeaa
