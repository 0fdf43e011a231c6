import Derived.Test.YtpfijaclghdcdaaGreatDoorGrpO
import Derived.Test.YtpfijaclghdcdaaGreatDoorPureE
import Derived.WalkKit
import Derived.WalkSpells
import Derived.WalkLawsBesides
import Derived.Test.YtpfijaclghdcdaaGreatDoorHome
import Derived.Test.YtpfijaclghdcdaaGreatDoorPureT
import Derived.Deep.WholeRow
import Derived.Deep.AppendSrc
import Derived.Deep.LoopGhost
import Derived.Lib.AppendZeros
import Derived.Test.YtpfijaclghdcdaaGreatDoorSealM
import Derived.Deep.DeepCutAuto
import Derived.BigRegion
import Derived.Deep.QuietTactic
import Derived.Deep.CutRange
import Derived.BigQuiet
/- What a member's first message takes of the tree, as plain data. -/
namespace Go.Proofs.YtpfijaclghdcdaaGreatDoor
open Go.RowKit

theorem spl_fuel (k : Nat) : ∀ k' (p : PartD) m, p.t - p.f ≤ k + 1 → p.t - p.f ≤ k' + 1 → p.spl k m = p.spl k' m := by
  induction k with
  | zero =>
    intro k' p m h1 h2
    rw [PartD.spl_one 0 p m (by omega), PartD.spl_one k' p m (by omega)]
  | succ k ih =>
    intro k' p m h1 h2
    by_cases h : p.t - p.f ≤ 1
    · rw [PartD.spl_one _ p m h, PartD.spl_one _ p m h]
    · obtain ⟨k', rfl⟩ : ∃ j, k' = j + 1 := ⟨k' - 1, by omega⟩
      have hb := halves_bd p h
      by_cases hm : m < p.f + SplitN (p.t - p.f)
      · rw [PartD.spl_left k p m h hm, PartD.spl_left k' p m h hm, ih k' p.left m (by omega) (by omega)]
      · rw [PartD.spl_right k p m h hm, PartD.spl_right k' p m h hm, ih k' p.right m (by omega) (by omega)]
theorem begun_iff (st : St) (f t : Nat) : st.begun f t = true ↔ ∃ i, f ≤ i ∧ i < t ∧ (st.m i).begun = true := by
  constructor
  · intro h
    unfold St.begun at h
    rw [List.any_eq_true] at h
    obtain ⟨i, hi, hb⟩ := h
    have := List.mem_range.1 hi
    exact ⟨f + i, by omega, by omega, hb⟩
  · rintro ⟨i, h1, h2, h3⟩
    exact begun_true st f t i h1 h2 h3
theorem begun_false (st : St) (f t : Nat) : st.begun f t = false ↔ ∀ i, f ≤ i → i < t → (st.m i).begun = false := by
  constructor
  · intro h i h1 h2
    cases hb : (st.m i).begun with
    | false => rfl
    | true => rw [begun_true st f t i h1 h2 hb] at h; cases h
  · intro h
    cases hb : st.begun f t with
    | false => rfl
    | true =>
      obtain ⟨i, h1, h2, h3⟩ := (begun_iff st f t).1 hb
      rw [h i h1 h2] at h3; cases h3
/-- st' is st, but that the member j has begun -/
structure Began (st st' : St) (j : Nat) : Prop where
  s : st'.s = st.s
  n : st'.n = st.n
  not : (st.m j).begun = false
  now : (st'.m j).begun = true
  oth : ∀ i, i ≠ j → (st'.m i).begun = (st.m i).begun
theorem Began.part {st st' : St} {j : Nat} (h : Began st st' j) (a b : Nat) : st'.part a b = st.part a b := by unfold St.part; rw [h.s, h.n]
theorem Began.same {st st' : St} {j : Nat} (h : Began st st' j) (f t : Nat) (hj : j < f ∨ t ≤ j) : st'.begun f t = st.begun f t := by
  cases hb : st.begun f t with
  | false =>
    rw [begun_false] at hb ⊢
    intro i h1 h2
    rw [h.oth i (by omega)]; exact hb i h1 h2
  | true =>
    rw [begun_iff] at hb ⊢
    obtain ⟨i, h1, h2, h3⟩ := hb
    exact ⟨i, h1, h2, by rw [h.oth i (by omega)]; exact h3⟩
theorem Began.parts {st st' : St} {j : Nat} (h : Began st st' j) (k : Nat) : ∀ f t, (j < f ∨ t ≤ j) → st'.parts k f t = st.parts k f t := by
  induction k with
  | zero => intro f t hj; unfold St.parts; rw [h.same f t hj, h.part]
  | succ k ih =>
    intro f t hj
    have hs := h.same f t hj
    cases hb : st.begun f t with
    | false =>
      rw [hb] at hs
      rw [St.parts_not st _ _ _ hb, St.parts_not st' _ _ _ hs, h.part]
    | true =>
      rw [hb] at hs
      by_cases h1 : t - f = 1
      · rw [St.parts_one st _ _ _ hb h1, St.parts_one st' _ _ _ hs h1]
      · have h2 : 2 ≤ t - f := by
          obtain ⟨i, a, b, _⟩ := (begun_iff _ _ _).1 hb
          omega
        have hq := SplitN_bd (t - f) h2
        rw [St.parts_two st k f t hb h1, St.parts_two st' k f t hs h1, ih f _ (by omega), ih _ t (by omega)]
/-- a part of which nobody had begun, taken apart -/
theorem parts_fresh {st st' : St} (ok : st.Ok) {j : Nat} (h : Began st st' j) (k : Nat) : ∀ f t, st.node f t → f ≤ j → j < t → t - f ≤ k + 1 → st.begun f t = false →
    (st'.parts k f t).map itPart = ((⟨f, t, st.part f t⟩ : PartD).spl k j).x ++ ((⟨f, t, st.part f t⟩ : PartD).spl k j).y ∧ ((⟨f, t, st.part f t⟩ : PartD).spl k j).s = st.part j (j + 1) ∧ ((⟨f, t, st.part f t⟩ : PartD).spl k j).d = DepB k (t - f) (j - f) := by
  induction k with
  | zero =>
    intro f t hn h1 h2 h3 hb
    obtain rfl : f = j := by omega
    obtain rfl : t = f + 1 := by omega
    rw [St.parts_one st' 0 f (f + 1) (begun_true st' f (f + 1) f (by omega) (by omega) h.now) (by omega)]
    exact ⟨rfl, rfl, rfl⟩
  | succ k ih =>
    intro f t hn h1 h2 h3 hb
    have hb' : st'.begun f t = true := begun_true st' f t j h1 h2 h.now
    by_cases h4 : t - f = 1
    · obtain rfl : f = j := by omega
      obtain rfl : t = f + 1 := by omega
      rw [St.parts_one st' _ _ _ hb' h4, PartD.spl_one _ _ _ (by show f + 1 - f ≤ 1; omega)]
      refine ⟨rfl, rfl, ?_⟩
      rw [DepB, if_pos (by omega)]
    · have hsp := SplitN_bd (t - f) (by omega)
      obtain ⟨⟨n1, p1⟩, n2, p2⟩ := St.halves ok hn (by omega)
      have hgt : ¬ ((⟨f, t, st.part f t⟩ : PartD).t - (⟨f, t, st.part f t⟩ : PartD).f ≤ 1) := by show ¬ (t - f ≤ 1); omega
      have hS : (SplitI ((t - f : Nat) : Int)).toNat = SplitN (t - f) := by rw [SplitN_eq]; omega
      rw [St.parts_two st' k f t hb' h4, List.map_append]
      have eL : (⟨f, t, st.part f t⟩ : PartD).left = ⟨f, f + SplitN (t - f), st.part f (f + SplitN (t - f))⟩ := by unfold PartD.left; rw [p1]
      have eR : (⟨f, t, st.part f t⟩ : PartD).right = ⟨f + SplitN (t - f), t, st.part (f + SplitN (t - f)) t⟩ := by unfold PartD.right; rw [p2]
      by_cases hm : j < f + SplitN (t - f)
      · obtain ⟨i1, i2, i3⟩ := ih f (f + SplitN (t - f)) n1 h1 hm (by omega) ((begun_false _ _ _).2 fun i a b => (begun_false st f t).1 hb i a (by omega))
        rw [PartD.spl_left k _ j hgt hm, eL, eR]
        have hnr : st'.begun (f + SplitN (t - f)) t = false := by
          rw [h.same _ _ (.inl hm)]
          exact (begun_false _ _ _).2 fun i a b => (begun_false st f t).1 hb i (by omega) b
        rw [i1, St.parts_not _ _ _ _ hnr, h.part]
        refine ⟨by simp [itPart], i2, ?_⟩
        simp only
        rw [i3, DepB, if_neg (by omega), hS, if_pos (by omega), show f + SplitN (t - f) - f = SplitN (t - f) by omega]
        omega
      · obtain ⟨i1, i2, i3⟩ := ih (f + SplitN (t - f)) t n2 (by omega) h2 (by omega) ((begun_false _ _ _).2 fun i a b => (begun_false st f t).1 hb i (by omega) b)
        rw [PartD.spl_right k _ j hgt hm, eL, eR]
        have hnl : st'.begun f (f + SplitN (t - f)) = false := by
          rw [h.same _ _ (.inr (by omega))]
          exact (begun_false _ _ _).2 fun i a b => (begun_false st f t).1 hb i a (by omega)
        rw [i1, St.parts_not _ _ _ _ hnl, h.part]
        refine ⟨by simp [itPart], i2, ?_⟩
        simp only
        rw [i3, DepB, if_neg (by omega), hS, if_neg (by omega), show t - (f + SplitN (t - f)) = t - f - SplitN (t - f) by omega, show j - (f + SplitN (t - f)) = j - f - SplitN (t - f) by omega]
        omega
theorem parts_take {st st' : St} (ok : st.Ok) {j : Nat} (h : Began st st' j) (k : Nat) : ∀ f t, st.node f t → f ≤ j → j < t → t - f ≤ k + 1 →
    ∃ A p B, (st.parts k f t).map itPart = A ++ p :: B ∧ p.has j ∧ (∀ x ∈ A, ¬ x.has j) ∧ (st'.parts k f t).map itPart = A ++ (p.spl 16 j).x ++ ((p.spl 16 j).y ++ B) ∧ (p.spl 16 j).s = st.part j (j + 1) ∧ (p.spl 16 j).d ≤ DepB k (t - f) (j - f) := by
  have h16 := ok.n16
  induction k with
  | zero =>
    intro f t hn h1 h2 h3
    have hb : st.begun f t = false := (begun_false _ _ _).2 fun i a b => by
      obtain rfl : i = j := by omega
      exact h.not
    obtain ⟨i1, i2, i3⟩ := parts_fresh ok h 0 f t hn h1 h2 h3 hb
    have hf := spl_fuel 0 16 ⟨f, t, st.part f t⟩ j h3 (by show t - f ≤ 17; omega)
    rw [hf] at i1 i2 i3
    refine ⟨[], ⟨f, t, st.part f t⟩, [], ?_, ⟨h1, h2⟩, by simp, ?_, i2, by omega⟩
    · rw [St.parts_not _ _ _ _ hb]; rfl
    · rw [i1]; simp
  | succ k ih =>
    intro f t hn h1 h2 h3
    cases hb : st.begun f t with
    | false =>
      obtain ⟨i1, i2, i3⟩ := parts_fresh ok h (k + 1) f t hn h1 h2 h3 hb
      have hin := St.node_in ok hn
      have hf := spl_fuel (k + 1) 16 ⟨f, t, st.part f t⟩ j h3 (by show t - f ≤ 17; omega)
      rw [hf] at i1 i2 i3
      refine ⟨[], ⟨f, t, st.part f t⟩, [], ?_, ⟨h1, h2⟩, by simp, ?_, i2, by omega⟩
      · rw [St.parts_not _ _ _ _ hb]; rfl
      · rw [i1]; simp
    | true =>
      have hb' : st'.begun f t = true := begun_true st' f t j h1 h2 h.now
      have h4 : ¬ t - f = 1 := fun e => by
        obtain ⟨i, a1, a2, a3⟩ := (begun_iff _ _ _).1 hb
        obtain rfl : i = j := by omega
        rw [h.not] at a3; cases a3
      have hsp := SplitN_bd (t - f) (by omega)
      obtain ⟨⟨n1, p1⟩, n2, p2⟩ := St.halves ok hn (by omega)
      have hS : (SplitI ((t - f : Nat) : Int)).toNat = SplitN (t - f) := by rw [SplitN_eq]; omega
      rw [St.parts_two st k f t hb h4, St.parts_two st' k f t hb' h4, List.map_append, List.map_append]
      by_cases hm : j < f + SplitN (t - f)
      · obtain ⟨A, p, B, i1, i2, i3, i4, i5, i6⟩ := ih f (f + SplitN (t - f)) n1 h1 hm (by omega)
        refine ⟨A, p, B ++ (st.parts k (f + SplitN (t - f)) t).map itPart, by rw [i1]; simp, i2, i3, ?_, i5, ?_⟩
        · rw [i4, h.parts k _ _ (.inl hm)]; simp
        · rw [DepB, if_neg (by omega), hS, if_pos (by omega)]
          rw [show f + SplitN (t - f) - f = SplitN (t - f) by omega] at i6
          omega
      · obtain ⟨A, p, B, i1, i2, i3, i4, i5, i6⟩ := ih (f + SplitN (t - f)) t n2 (by omega) h2 (by omega)
        refine ⟨(st.parts k f (f + SplitN (t - f))).map itPart ++ A, p, B, by rw [i1]; simp, i2, ?_, ?_, i5, ?_⟩
        · intro x hx
          rcases List.mem_append.1 hx with hx | hx
          · obtain ⟨y, hy, rfl⟩ := List.mem_map.1 hx
            obtain ⟨_, _, c3, _⟩ := parts_clear st k _ _ y hy
            intro hh
            have : j < y.t := hh.2
            omega
          · exact i3 x hx
        · rw [i4, h.parts k _ _ (.inr (by omega))]; simp
        · rw [DepB, if_neg (by omega), hS, if_neg (by omega)]
          rw [show t - (f + SplitN (t - f)) = t - f - SplitN (t - f) by omega, show j - (f + SplitN (t - f)) = j - f - SplitN (t - f) by omega] at i6
          omega
theorem parts_lt (st : St) (k : Nat) : ∀ f t, f < t → t - f ≤ k + 1 → (∀ x ∈ (st.parts k f t).map itPart, x.f < x.t) ∧ wide ((st.parts k f t).map itPart) ≤ t - f := by
  induction k with
  | zero =>
    intro f t h h2
    unfold St.parts
    split
    · exact ⟨by simp, by simp [wide]⟩
    · refine ⟨by intro x hx; simp [itPart] at hx; subst hx; exact h, ?_⟩
      simp [wide, itPart]
  | succ k ih =>
    intro f t h h2
    rw [St.parts]
    split
    · split
      · exact ⟨by simp, by simp [wide]⟩
      · have hq := SplitN_bd (t - f) (by omega)
        obtain ⟨a1, a2⟩ := ih f (f + SplitN (t - f)) (by omega) (by omega)
        obtain ⟨b1, b2⟩ := ih (f + SplitN (t - f)) t (by omega) (by omega)
        rw [List.map_append]
        refine ⟨fun x hx => ?_, ?_⟩
        · rcases List.mem_append.1 hx with hx | hx
          · exact a1 x hx
          · exact b1 x hx
        · rw [wide_append]; omega
    · refine ⟨by intro x hx; simp [itPart] at hx; subst hx; exact h, ?_⟩
      simp [wide, itPart]
end Go.Proofs.YtpfijaclghdcdaaGreatDoor

/- The states of a group's block on the way through Protect; ratchetFor and turn, of a group. -/
namespace Go.Proofs.YtpfijaclghdcdaaGreatDoor
open Go.RowKit
set_option linter.unusedVariables false

theorem GrpAt.tick {b n wk pm : Nat} {cs cs' : Array Value} {st : St} (h : GrpAt cs st wk pm) (m : Mv (some b) n 0 0 cs cs') : GrpAt cs' st (wk + n) pm := by
  have e : ∀ j, j ≠ 325 → cs'[j]? = cs[j]? := fun j hj => m.out j (.inr (by omega)) (fun _ => hj)
  exact ⟨m.size.trans h.size, by rw [e 0 (by omega)]; exact h.members, by rw [e 1 (by omega)]; exact h.own, by rw [e 2 (by omega)]; exact h.over, h.tree.mv m (fun _ => by show 164 ≤ 325; omega), fun i hi => m.at (h.rat i hi) (.inr (by omega)) (fun _ => .inl (by show 164 + i * 10 + 10 ≤ 325; omega)), by rw [e 324 (by omega)]; exact h.passed, m.cnt (by simp) wk h.cnt⟩
/-- the member i has begun -/
def St.begin (st : St) (i : Nat) : St := st.setM i ⟨true, (st.m i).next, (st.m i).over⟩
theorem parts_same {st st' : St} (hs : st'.s = st.s) (hn : st'.n = st.n) (hb : ∀ i, (st'.m i).begun = (st.m i).begun) (k : Nat) : ∀ f t, st'.parts k f t = st.parts k f t := by
  have hbb : ∀ f t, st'.begun f t = st.begun f t := fun f t => by unfold St.begun; simp only [hb]
  have hp : ∀ a b, st'.part a b = st.part a b := fun a b => by unfold St.part; rw [hs, hn]
  induction k with
  | zero => intro f t; unfold St.parts; rw [hbb, hp]
  | succ k ih =>
    intro f t
    cases hx : st.begun f t with
    | false => rw [St.parts_not st _ _ _ hx, St.parts_not st' _ _ _ (by rw [hbb]; exact hx), hp]
    | true =>
      by_cases h1 : t - f = 1
      · rw [St.parts_one st _ _ _ hx h1, St.parts_one st' _ _ _ (by rw [hbb]; exact hx) h1]
      · rw [St.parts_two st k f t hx h1, St.parts_two st' k f t (by rw [hbb]; exact hx) h1, ih, ih]
theorem begin_m {st : St} (ok : st.Ok) {m : Nat} (hm : m < st.n) (j : Nat) : (st.begin m).m j = if j = m then ⟨true, (st.m m).next, (st.m m).over⟩ else st.m j := St.setM_m st m _ (by rw [ok.len]; exact hm) j
theorem protNext_m {st : St} (ok : st.Ok) (j : Nat) : st.protNext.m j = if j = st.own then ⟨true, (st.m st.own).next + 1, (st.m st.own).over⟩ else st.m j := St.setM_m st st.own _ (by rw [ok.len]; exact ok.own) j
theorem ratS_other {st st' : St} (hs : st'.s = st.s) (hn : st'.n = st.n) (i : Nat) (h : st'.m i = st.m i) : st'.ratS i = st.ratS i := by
  unfold St.ratS St.ratAt
  rw [h, hs, hn]
theorem begin_began {st : St} (ok : st.Ok) {m : Nat} (hm : m < st.n) (h : (st.m m).begun = false) : Began st (st.begin m) m :=
  ⟨rfl, rfl, h, by rw [begin_m ok hm, if_pos rfl], fun i hi => by rw [begin_m ok hm, if_neg hi]⟩
theorem begin_rat {st : St} (ok : st.Ok) {m : Nat} (hm : m < st.n) (hn : (st.m m).next ≤ 65535) : (st.begin m).ratS m = st.ratAt m (st.m m).next := by
  unfold St.ratS
  rw [begin_m ok hm, if_pos rfl]
  show (if (true && decide ((st.m m).next ≤ 65535)) = true then _ else _) = _
  rw [if_pos (by simp; exact hn)]
  rfl
theorem begin_same {st : St} (ok : st.Ok) {m : Nat} (hm : m < st.n) (hb : (st.m m).begun = true) : st.begin m = st := by
  unfold St.begin St.setM
  have h1 : (⟨true, (st.m m).next, (st.m m).over⟩ : Mem) = st.m m := by rw [← hb]
  rw [h1]
  have hl : m < st.mem.length := by rw [ok.len]; exact hm
  have h2 : st.m m = st.mem[m] := by unfold St.m; rw [List.getD_eq_getElem?_getD, List.getElem?_eq_getElem hl]; rfl
  rw [h2, List.set_getElem_self]
set_option maxHeartbeats 2000000 in
/-- begin, wherever tree and ratchet lie -/
theorem begin_any {F : FuncId} {pre : Array Value} {q : Option Nat} (dv : Drv F pre q) {b tof ro m : Nat} {t : TypeId} {cs : Array Value} {st : St} (ok : st.Ok) (hm : m < st.n) (hn : (st.m m).next ≤ 65535)
    (hT : TreeAt cs tof ((st.parts 16 0 st.n).map itPart)) (hR : RatAt cs ro (st.m m).begun (st.m m).next (st.ratS m)) (hro : tof + 161 ≤ ro) (hsz : ro + 10 ≤ cs.size) (hcf : q ≠ none → ro + 10 ≤ ctrOff) (w : World) (h : Home q b t cs w) :
    Calls Tryz.prog 25 #[.pointer (some ⟨b, ro, none⟩), .pointer (some ⟨b, tof, none⟩), .int .i64 m, .func (.func F) pre #[]] w fun e w' => e = .returned (.tuple #[]) ∧ ∃ cs' n, n ≤ 2 * DepB 16 st.n m + 1 ∧ Upd q n b tof (ro + 10 - tof) t cs w w' cs' ∧
      TreeAt cs' tof (((st.begin m).parts 16 0 st.n).map itPart) ∧ RatAt cs' ro true (st.m m).next (st.ratAt m (st.m m).next) ∧ ∀ j, (j < tof ∨ tof + 161 ≤ j) → (j < ro ∨ ro + 10 ≤ j) → (q ≠ none → j ≠ ctrOff) → cs'[j]? = cs[j]? := by
  cases hb : (st.m m).begun with
  | true =>
    rw [hb] at hR
    refine (begin_old _ _ b ro m w (hR.facts h).1).mono fun e' w' ⟨h1, h2⟩ => ⟨h1, cs, 0, by omega, by rw [h2]; exact Upd.refl h _ _, by rw [begin_same ok hm hb]; exact hT, ?_, fun _ _ _ _ => rfl⟩
    have e2 := begin_rat ok hm hn
    rw [begin_same ok hm hb] at e2
    rw [← e2]
    exact hR
  | false =>
    obtain ⟨A, p, B, i1, i2, i3, i4, i5, i6⟩ := parts_take ok (begin_began ok hm hb) 16 0 st.n st.node_all (Nat.zero_le _) hm (by have := ok.n16; omega)
    obtain ⟨l1, l2⟩ := parts_lt st 16 0 st.n (by have := ok.n1; omega) (by have := ok.n16; omega)
    rw [i1] at hT l1 l2
    rw [hb] at hR
    have hlf := (St.part_leaf ok m hm).2
    have hsb : ∀ i, 0 ≤ (p.spl 16 m).s i ∧ (p.spl 16 m).s i < 256 := fun i => by rw [i5]; exact St.part_bd ok _ _ i
    have hn0 : (st.m m).next = 0 := ((ok.m m).2.2.2 hb).1
    have hl10 : (CellsR true 0 (DerB (p.spl 16 m).s lRatchet 0)).toList.length = 10 := rfl
    refine (begin_new dv b tof ro m cs t hro hsz hcf A B p w h hT i2 i3 l1 (by have := ok.n16; omega) _ _ hR hsb).mono fun e' w' ⟨h1, cs1, m1, t1, hu⟩ => ⟨h1, _, 2 * (p.spl 16 m).d + 1, ?_, hu, ?_, ?_, fun j h3 h4 h5 => ?_⟩
    · rw [Nat.sub_zero, Nat.sub_zero] at i6; omega
    · rw [i4]
      refine ⟨t1.len, t1.parts.putOther _ _ (.inr (by rw [pcells_len]; have := t1.len; omega)), ?_, t1.ok⟩
      rw [putL_out _ _ _ _ (.inl (by omega))]; exact t1.count
    · have e5 : DerB (p.spl 16 m).s lRatchet 0 = st.ratAt m (st.m m).next := by rw [hn0, i5, hlf]; rfl
      have hR2 : RatAt (putL cs1 ro (CellsR true 0 (DerB (p.spl 16 m).s lRatchet 0)).toList) ro true ((0 : Nat) : Int) (DerB (p.spl 16 m).s lRatchet 0) := putL_at _ _ _ (by rw [m1.size, hl10]; omega)
      rw [e5] at hR2
      rw [e5, hn0]
      rw [hn0] at hR2
      exact hR2
    · rw [putL_out _ _ _ _ (by rw [hl10]; exact h4)]
      exact m1.out j h3 h5
/-- begin, of a group's own ratchet -/
theorem rf_any {b wk pm : Nat} {cs : Array Value} {st : St} (ok : st.Ok) (hg : GrpAt cs st wk pm) (hn : (st.m st.own).next ≤ 65535) (w : World) (h : Home (some b) b 90 cs w) :
    Calls Tryz.prog 25 #[.pointer (some ⟨b, 164 + st.own * 10, none⟩), .pointer (some ⟨b, 3, none⟩), .int .i64 st.own, .func (.func 26) #[.pointer (some ⟨b, 0, none⟩)] #[]] w fun e w' => e = .returned (.tuple #[]) ∧ Outside [b] w w' ∧ ∃ cs' n, n ≤ 2 * DepB 16 st.n st.own + 1 ∧ Home (some b) b 90 cs' w' ∧ GrpAt cs' (st.begin st.own) (wk + n) pm := by
  have h16 : st.own < 16 := by have := ok.own; have := ok.n16; omega
  refine (begin_any (derive_g b) ok ok.own hn hg.tree (hg.rat st.own h16) (by omega) (by rw [hg.size]; omega) (fun _ => by show _ ≤ 325; omega) w h).mono fun e w' ⟨h1, cs', n, h2, hu, hT, hR, ho⟩ => ⟨h1, hu.out, cs', n, h2, hu.home, ?_⟩
  have e0 : ∀ j, (j < 3 ∨ 164 ≤ j) → (j < 164 + st.own * 10 ∨ 164 + st.own * 10 + 10 ≤ j) → j ≠ 325 → cs'[j]? = cs[j]? := fun j h3 h4 h5 => ho j (by omega) h4 (fun _ => h5)
  refine ⟨by rw [hu.mv.size]; exact hg.size, ?_, ?_, ?_, hT, fun i hi => ?_, ?_, hu.mv.cnt (by simp) wk hg.cnt⟩
  · rw [e0 0 (by omega) (by omega) (by omega)]; exact hg.members
  · rw [e0 1 (by omega) (by omega) (by omega)]; exact hg.own
  · rw [e0 2 (by omega) (by omega) (by omega)]; exact hg.over
  · by_cases hi' : i = st.own
    · subst hi'
      rw [begin_rat ok ok.own hn, begin_m ok ok.own, if_pos rfl]
      exact hR
    · have h3 := hg.rat i hi
      rw [begin_m ok ok.own, if_neg hi', ratS_other (st' := st.begin st.own) (st := st) rfl rfl i (by rw [begin_m ok ok.own, if_neg hi'])]
      intro j v hv
      have hj : j < 10 := (List.getElem?_eq_some_iff.1 hv).1
      rw [e0 _ (by omega) (by omega) (by omega)]
      exact h3 j v hv
  · rw [e0 324 (by omega) (by omega) (by omega)]; exact hg.passed
/-- the own ratchet is turned -/
theorem GrpAt.turn {b n wk pm : Nat} {cs cs' : Array Value} {st : St} (ok : st.Ok) (h : GrpAt cs (st.begin st.own) wk pm) (m : Mv (some b) n (164 + st.own * 10) 10 cs cs') (hr : RatAt cs' (164 + st.own * 10) true ((st.m st.own).next + 1 : Nat) (st.protNext.ratS st.own)) : GrpAt cs' st.protNext (wk + n) pm := by
  have h16 : st.own < 16 := by have := ok.own; have := ok.n16; omega
  have e0 : ∀ j, (j < 164 + st.own * 10 ∨ 164 + st.own * 10 + 10 ≤ j) → j ≠ 325 → cs'[j]? = cs[j]? := fun j hj h3 => m.out j hj (fun _ => h3)
  have hp : ∀ f t, st.protNext.parts 16 f t = (st.begin st.own).parts 16 f t := parts_same (st := st.begin st.own) (st' := st.protNext) rfl rfl (fun i => by rw [protNext_m ok, begin_m ok ok.own]; split <;> rfl) 16
  refine ⟨m.size.trans h.size, ?_, ?_, ?_, ?_, fun i hi => ?_, ?_, m.cnt (by simp) wk h.cnt⟩
  · rw [e0 0 (.inl (by omega)) (by omega)]; exact h.members
  · rw [e0 1 (.inl (by omega)) (by omega)]; exact h.own
  · rw [e0 2 (.inl (by omega)) (by omega)]; exact h.over
  · have e1 : st.protNext.n = (st.begin st.own).n := rfl
    rw [e1, hp]
    have hT := h.tree
    refine ⟨hT.len, m.at hT.parts (.inl (by rw [pcells_len]; have := hT.len; omega)) (fun _ => .inl (by rw [pcells_len]; have := hT.len; show 3 + 10 * _ ≤ 325; omega)), ?_, hT.ok⟩
    rw [e0 (3 + 160) (.inl (by omega)) (by omega)]; exact hT.count
  · by_cases hi' : i = st.own
    · subst hi'
      rw [protNext_m ok, if_pos rfl]
      exact hr
    · have h3 := h.rat i hi
      rw [begin_m ok ok.own, if_neg hi', ratS_other (st' := st.begin st.own) (st := st) rfl rfl i (by rw [begin_m ok ok.own, if_neg hi'])] at h3
      rw [protNext_m ok, if_neg hi', ratS_other (st' := st.protNext) (st := st) rfl rfl i (by rw [protNext_m ok, if_neg hi'])]
      exact m.at h3 (by show 164 + i * 10 + 10 ≤ _ ∨ _; omega) (fun _ => .inl (by show 164 + i * 10 + 10 ≤ 325; omega))
  · rw [e0 324 (.inr (by omega)) (by omega)]; exact h.passed
/-- turn, of the own ratchet -/
theorem gturn_any {b wk pm : Nat} {cs : Array Value} {st : St} (ok : st.Ok) (h : GrpAt cs (st.begin st.own) wk pm) (hn : (st.m st.own).next ≤ 65535) (w : World) (hh : Home (some b) b 90 cs w) :
    Calls Tryz.prog 29 #[.pointer (some ⟨b, 164 + st.own * 10, none⟩), .func (.func 26) #[.pointer (some ⟨b, 0, none⟩)] #[]] w fun e w' => e = .returned (.tuple #[]) ∧ Outside [b] w w' ∧ ∃ cs' n, n ≤ 1 ∧ Home (some b) b 90 cs' w' ∧ GrpAt cs' st.protNext (wk + n) pm := by
  have h16 : st.own < 16 := by have := ok.own; have := ok.n16; omega
  have hf : (some b : Option Nat) ≠ none → 164 + st.own * 10 + 10 ≤ ctrOff := fun _ => by show _ ≤ 325; omega
  have hr := h.rat st.own h16
  have hs : (st.begin st.own).ratS st.own = st.ratAt st.own (st.m st.own).next := by
    unfold St.ratS
    rw [begin_m ok ok.own, if_pos rfl]
    show (if (true && decide ((st.m st.own).next ≤ 65535)) = true then _ else _) = _
    rw [if_pos (by simp; exact hn)]
    rfl
  rw [begin_m ok ok.own, if_pos rfl, hs] at hr
  have hbd : ∀ i, 0 ≤ st.ratAt st.own (st.m st.own).next i ∧ st.ratAt st.own (st.m st.own).next i < 256 := RatB_bd _ (DerB_bd _ _ _) _
  by_cases hl : (st.m st.own).next < 65535
  · refine (turn_small (derive_g b) (st.m st.own).next hl true _ hbd b (164 + st.own * 10) _ cs w hh hr hf).mono fun e w' ⟨h1, cs', u, h2⟩ => ⟨h1, u.out, cs', 1, by omega, u.home, h.turn ok u.mv ?_⟩
    have e2 : st.protNext.ratS st.own = DerB (st.ratAt st.own (st.m st.own).next) lNext (st.m st.own).next := by
      unfold St.ratS
      rw [protNext_m ok, if_pos rfl]
      show (if (true && decide ((st.m st.own).next + 1 ≤ 65535)) = true then _ else _) = _
      rw [if_pos (by simp; omega)]
      rfl
    rw [e2]
    exact h2
  · have e1 : (st.m st.own).next = 65535 := by omega
    rw [e1] at hr
    refine (turn_last _ (some b) true _ b (164 + st.own * 10) _ cs w hh hr hf).mono fun e w' ⟨h1, cs', u, h2⟩ => ⟨h1, u.out, cs', 0, by omega, u.home, h.turn ok u.mv ?_⟩
    have e2 : st.protNext.ratS st.own = fun _ => 0 := by
      unfold St.ratS
      rw [protNext_m ok, if_pos rfl]
      show (if (true && decide ((st.m st.own).next + 1 ≤ 65535)) = true then _ else _) = _
      rw [if_neg (by simp; omega)]
    rw [e2, e1]
    exact h2
end Go.Proofs.YtpfijaclghdcdaaGreatDoor

/- slices.Grow, slices.Concat (of two), headOf. -/
namespace Go.Proofs.YtpfijaclghdcdaaGreatDoor
open Go.RowKit
set_option linter.unusedVariables false

theorem putL_rowB (x y : List UInt8) (cap : Nat) (h : x.length + y.length ≤ cap) : putL (RowB x cap) x.length (y.map cellB) = RowB (x ++ y) cap := by
  apply Array.ext_getElem?
  intro i
  by_cases h1 : i < x.length
  · rw [putL_out _ _ _ _ (.inl h1), RowB_at _ _ _ h1, RowB_at _ _ _ (by rw [List.length_append]; omega)]
    simp [List.getElem_append_left h1]
  · by_cases h2 : i < x.length + y.length
    · have := putL_at (y.map cellB) (RowB x cap) x.length (by rw [RowB_size _ _ (by omega), List.length_map]; omega) (i - x.length) (cellB (y[i - x.length]'(by omega))) (by rw [List.getElem?_map, List.getElem?_eq_getElem (by omega)]; rfl)
      rw [show x.length + (i - x.length) = i by omega] at this
      rw [this, RowB_at _ _ _ (by rw [List.length_append]; omega)]
      rw [List.getElem_append_right (by omega)]
    · rw [putL_out _ _ _ _ (.inr (by rw [List.length_map]; omega))]
      unfold RowB
      simp only [List.getElem?_toArray]
      rw [List.getElem?_append_right (by simp; omega), List.getElem?_append_right (by simp; omega)]
      simp only [List.length_map, List.length_append, List.getElem?_replicate]
      by_cases h3 : i < cap
      · rw [if_pos (by omega), if_pos (by omega)]
      · rw [if_neg (by omega), if_neg (by omega)]
theorem u8_info : ∃ i, Tryz.prog.info? 5 = some i ∧ i.zero = some (.int .u8 0) ∧ i.size = 1 ∧ i.bytes = 1 := by
  have h : (Tryz.prog.info? 5).map (fun i => (i.zero, i.size, i.bytes)) = some (some (.int .u8 0), 1, 1) := by kernel_rfl
  obtain ⟨i, hi, hz⟩ := Option.map_eq_some_iff.1 h
  simp only [Prod.mk.injEq] at hz
  exact ⟨i, hi, hz⟩
theorem run_zeros (n : Nat) (h0 : 0 < n) (hn : n ≤ 1000000) (w : World) (ty : TypeId) : ∃ cap, n ≤ cap ∧ (Builtin.append_ #[30, 3] ty #[.slice none 0 0, .int .i64 n]).run Tryz.prog w = .ok (.slice (some ⟨w.heap.size, 0, none⟩) n cap) (w.drew.alloc (.cells (RowB [] cap) 5)) := by
  obtain ⟨i, hi, hz, hs, hb⟩ := u8_info
  refine ⟨grownCap w n 0 5, grownCap_ge _ _ _ _, ?_⟩
  have h := Lib.run_append_nil_zeros (P := Tryz.prog) w 30 3 ty 5 i (.int .u8 0) .i64 .i64 Tryz.underlying30 Tryz.underlying3 hi hz n h0 (by omega) (by omega) (by rw [hb]; omega)
  rw [h]
  have hg := grownCap_ge w n 0 5
  generalize grownCap w n 0 5 = cap at *
  have hzc : ∀ k, (Builtin.zeroCells (Value.int .u8 0).cells k).toList = List.replicate k (Value.int .u8 0) := fun k => by
    apply List.ext_getElem
    · simp [Builtin.zeroCells, Value.cells]
    · intro i h1 h2
      simp [Builtin.zeroCells, Value.cells, Nat.mod_one]
  have hrow : Builtin.zeroCells (Value.int .u8 0).cells n ++ Builtin.zeroCells (Value.int .u8 0).cells (cap - n) = RowB [] cap := by
    apply Array.ext'
    rw [Array.toList_append, hzc, hzc]
    simp [RowB]
    omega
  rw [hrow]
set_option maxRecDepth 20000 in
theorem grow_any (n : Nat) (h0 : 0 < n) (hn : n ≤ 1000000) (w : World) :
    Calls Tryz.prog 81 #[.slice none 0 0, .int .i64 n] w fun e w' => ∃ cap, e = .returned (.slice (some ⟨w.heap.size, 0, none⟩) 0 cap) ∧ n ≤ cap ∧ Below w.heap.size w w' ∧ w'.heap[w.heap.size]? = some (.cells (RowB [] cap) 5 (0, 0)) := by
  obtain ⟨cap, hcap, hr⟩ := run_zeros n h0 hn w 30
  have HR : Hid ((Builtin.append_ #[30, 3] 30 #[.slice none 0 0, .int .i64 n]).run Tryz.prog w = .ok (.slice (some ⟨w.heap.size, 0, none⟩) n cap) (w.drew.alloc (.cells (RowB [] cap) 5))) := hr
  clear hr
  obtain ⟨M, hM⟩ : ∃ M : Int, (n : Int) = M := ⟨_, rfl⟩
  have hi0 : 0 < M := by omega
  have hi1 : M ≤ 1000000 := by omega
  have HC : Hid (n ≤ cap) := hcap
  rw [hM] at HR ⊢
  clear hM hcap h0 hn
  go_enter Tryz.func81, Tryz.ntmps81
  go_wp2_with (at_builtin; refine Lib.wpList_append_run w rfl (.tmp 20) (.tmp 21) 30 3 rfl _ _ rfl rfl _ _ HR.out ?_)
  go_ret
  exact ⟨cap, rfl, HC.out, (Below.refl _ w).drew.alloc (by simp) _, (MapKept.heap_alloc w.drew _).1⟩

/-- append where there is room, of bytes that lie elsewhere -/
theorem run_app_room (G cap : Nat) (x y : List UInt8) (a : Option Addr) (c : Nat) (w : World) (hG : w.heap[G]? = some (.cells (RowB x cap) 5 (0, 0))) (hy : Bts w a y) (hc : x.length + y.length ≤ cap) (hne : y ≠ []) (ty : TypeId) :
    (Builtin.append_ #[30, 30] ty #[.slice (some ⟨G, 0, none⟩) x.length cap, .slice a y.length c]).run Tryz.prog w = .ok (.slice (some ⟨G, 0, none⟩) (x.length + y.length) cap) (w.setRow G (RowB (x ++ y) cap)) := by
  obtain ⟨i, hi, hz, hs, hb⟩ := u8_info
  rcases hy with h | ⟨b, o, rfl, hcell⟩
  · exact absurd h hne
  have hsrc : Src Tryz.prog i.size 30 (.slice (some ⟨b, o, none⟩) y.length c) y.length (y.map cellB) w := by
    rw [hs]
    refine Src.ofSlice w Tryz.underlying30 ⟨b, o, none⟩ y.length c (y.map cellB) (by simp) (fun j v hv => ?_) (by intro u hu; obtain ⟨c, _, rfl⟩ := List.mem_map.1 hu; rfl)
    have hj : j < y.length := by simpa using (List.getElem?_eq_some_iff.1 hv).1
    rw [List.getElem?_map, List.getElem?_eq_getElem hj] at hv
    rw [Addr.add_mid, hcell j hj]
    exact hv
  have h := run_append_room_src (P := Tryz.prog) w 30 30 ty 5 i Tryz.underlying30 hi G 0 x.length cap (.slice (some ⟨b, o, none⟩) y.length c) y.length (y.map cellB) hsrc hc
    (fun j hj => by
      rw [List.length_map] at hj
      rw [cell_of_row _ _ _ _ _ _ hG, hs, Array.getElem?_eq_getElem (by rw [RowB_size _ _ (by omega)]; omega)]; rfl)
    (fun j hj => frozen_of_row _ _ _ _ _ hG)
  rw [h, hs, setCells_row _ w G _ _ _ hG, show 0 + x.length * 1 = x.length by omega, putL_rowB x y cap hc]
set_option maxRecDepth 20000 in
set_option maxHeartbeats 2000000 in
theorem concat_any (sb : Nat) (p1 p2 : Option Addr) (l1 l2 : List UInt8) (c1 c2 : Nat) (h1 : l1 ≠ []) (h2 : l2 ≠ []) (hl : l1.length + l2.length ≤ 1000000) (w : World) (hr : w.heap[sb]? = some (.cells #[.slice p1 l1.length c1, .slice p2 l2.length c2] 30 (0, 0))) (b1 : Bts w p1 l1) (b2 : Bts w p2 l2) :
    Calls Tryz.prog 54 #[.slice (some ⟨sb, 0, none⟩) 2 2] w fun e w' => ∃ cap, e = .returned (.slice (some ⟨w.heap.size, 0, none⟩) (l1 ++ l2).length cap) ∧ (l1 ++ l2).length ≤ cap ∧ Below w.heap.size w w' ∧ w'.heap[w.heap.size]? = some (.cells (RowB (l1 ++ l2) cap) 5 (0, 0)) := by
  have n1 : 0 < l1.length := List.length_pos_iff.2 h1
  have HG : Hid (Calls Tryz.prog 81 #[.slice none 0 0, .int .i64 ((l1.length + l2.length : Nat) : Int)] w fun e w' => ∃ cap, e = .returned (.slice (some ⟨w.heap.size, 0, none⟩) 0 cap) ∧ l1.length + l2.length ≤ cap ∧ Below w.heap.size w w' ∧ w'.heap[w.heap.size]? = some (.cells (RowB [] cap) 5 (0, 0))) := grow_any (l1.length + l2.length) (by omega) hl w
  have HB1 : Hid (Bts w p1 l1) := b1
  have HB2 : Hid (Bts w p2 l2) := b2
  have HR : Hid (w.heap[sb]? = some (.cells #[.slice p1 l1.length c1, .slice p2 l2.length c2] 30 (0, 0))) := hr
  have hsb := (Array.getElem?_eq_some_iff.1 hr).1
  have k0 : w.cell? ⟨sb, 0, none⟩ = some (.slice p1 l1.length c1) := by rw [cell_of_row _ _ _ _ _ _ hr]; rfl
  have k1 : w.cell? ⟨sb, 1, none⟩ = some (.slice p2 l2.length c2) := by rw [cell_of_row _ _ _ _ _ _ hr]; rfl
  obtain ⟨M1, hM1⟩ : ∃ M : Int, (l1.length : Int) = M := ⟨_, rfl⟩
  obtain ⟨M2, hM2⟩ : ∃ M : Int, ((l1.length + l2.length : Nat) : Int) = M := ⟨_, rfl⟩
  have a1 : wrap64 M1 = M1 := by simp only [wrap64]; omega
  have a2 : wrap64 (M1 + (l2.length : Int)) = M2 := by simp only [wrap64]; omega
  have a3 : ¬ M1 < 0 := by omega
  have a4 : ¬ M2 < 0 := by omega
  clear hr b1 b2
  rw [hM2] at HG
  have HH1 : Hid (l1 ≠ []) := h1
  have HH2 : Hid (l2 ≠ []) := h2
  go_enter Tryz.func54, Tryz.ntmps54
  clear h1 h2 n1 hl
  go_wp2_with fail
  go_loopg [3, 11] 2 (fun k v3 v11 wr => wr = w ∧ ((k = 2 ∧ v11 = .int .i64 0 ∧ v3 = .int .i64 0) ∨ (k = 1 ∧ v11 = .int .i64 1 ∧ v3 = .int .i64 M1) ∨ (k = 0 ∧ v11 = .int .i64 2 ∧ v3 = .int .i64 M2)))
  case atStart => exact ⟨rfl, .inl ⟨rfl, rfl, rfl⟩⟩
  case round =>
    obtain ⟨rfl, ⟨rfl, rfl, rfl⟩ | ⟨rfl, rfl, rfl⟩ | ⟨rfl, rfl, rfl⟩⟩ := hrel
    · go_wp2_with fail
      go_roundg 1
      case measure => omega
      case rel => exact ⟨rfl, .inr (.inl ⟨rfl, rfl, by rw [a1]⟩)⟩
    · go_wp2_with fail
      go_roundg 0
      case measure => omega
      case rel => exact ⟨rfl, .inr (.inr ⟨rfl, rfl, by rw [a2]⟩)⟩
    · go_wp2_with fail
      refine HG.out.mono ?_
      rintro e w1 ⟨cap, rfl, hcap, bel, hrow⟩
      have q0 : w1.cell? ⟨sb, 0, none⟩ = some (.slice p1 l1.length c1) := by rw [bel.cell (p := ⟨sb, 0, none⟩) hsb]; exact k0
      have z1 : wr.heap.size < w1.heap.size := (Array.getElem?_eq_some_iff.1 hrow).1
      have HRUN1 : Hid ((Builtin.append_ #[30, 30] 30 #[.slice (some ⟨wr.heap.size, 0, none⟩) 0 cap, .slice p1 l1.length c1]).run Tryz.prog w1 = .ok (.slice (some ⟨wr.heap.size, 0, none⟩) l1.length cap) (w1.setRow wr.heap.size (RowB l1 cap))) := by
        have := run_app_room wr.heap.size cap [] l1 p1 c1 w1 hrow (HB1.out.below bel) (by simp; omega) HH1.out 30
        show _ = _
        simpa using this
      obtain ⟨w2, hw2⟩ : ∃ w2, w1.setRow wr.heap.size (RowB l1 cap) = w2 := ⟨_, rfl⟩
      have row2 : w2.heap[wr.heap.size]? = some (.cells (RowB l1 cap) 5 (0, 0)) := by rw [← hw2]; exact setRow_heap _ _ _ _ _ _ hrow
      have bel2 : Below wr.heap.size wr w2 := by rw [← hw2]; exact below_setRow bel (Nat.le_refl _) _
      have q1 : w2.cell? ⟨sb, 1, none⟩ = some (.slice p2 l2.length c2) := by rw [bel2.cell (p := ⟨sb, 1, none⟩) hsb]; exact k1
      have HRUN2 : Hid ((Builtin.append_ #[30, 30] 30 #[.slice (some ⟨wr.heap.size, 0, none⟩) l1.length cap, .slice p2 l2.length c2]).run Tryz.prog w2 = .ok (.slice (some ⟨wr.heap.size, 0, none⟩) (l1.length + l2.length) cap) (w2.setRow wr.heap.size (RowB (l1 ++ l2) cap))) := run_app_room wr.heap.size cap l1 l2 p2 c2 w2 row2 (HB2.out.below bel2) hcap HH2.out 30
      obtain ⟨w3, hw3⟩ : ∃ w3, w2.setRow wr.heap.size (RowB (l1 ++ l2) cap) = w3 := ⟨_, rfl⟩
      have HROW3 : Hid (w3.heap[wr.heap.size]? = some (.cells (RowB (l1 ++ l2) cap) 5 (0, 0))) := by show _ = _; rw [← hw3]; exact setRow_heap _ _ _ _ _ _ row2
      have HBEL3 : Hid (Below wr.heap.size wr w3) := by show Below _ _ _; rw [← hw3]; exact below_setRow bel2 (Nat.le_refl _) _
      rw [hw2] at HRUN1
      rw [hw3] at HRUN2
      have HCAP : Hid (l1.length + l2.length ≤ cap) := hcap
      clear bel hrow hw2 row2 bel2 hw3 HG HB1 HB2 HR k0 k1 hcap hM2 a2 a4 hM1 a1 a3
      go_wp2_with fail
      go_loopg [6, 27] 2 (fun k v6 v27 wq => (k = 2 ∧ v27 = .int .i64 0 ∧ v6 = .slice (some ⟨wr.heap.size, 0, none⟩) 0 cap ∧ wq = w1) ∨ (k = 1 ∧ v27 = .int .i64 1 ∧ v6 = .slice (some ⟨wr.heap.size, 0, none⟩) l1.length cap ∧ wq = w2) ∨ (k = 0 ∧ v27 = .int .i64 2 ∧ v6 = .slice (some ⟨wr.heap.size, 0, none⟩) (l1.length + l2.length) cap ∧ wq = w3))
      case atStart => exact .inl ⟨rfl, rfl, rfl, rfl⟩
      case round =>
        obtain ⟨rfl, rfl, rfl, rfl⟩ | ⟨rfl, rfl, rfl, rfl⟩ | ⟨rfl, rfl, rfl, rfl⟩ := hrel
        · go_wp2_with (at_builtin; refine Lib.wpList_append_run _ rfl (.tmp 31) (.tmp 32) 30 30 rfl _ _ rfl rfl _ _ HRUN1.out ?_)
          go_roundg 1
          case measure => omega
          case rel => exact .inr (.inl ⟨rfl, rfl, rfl, rfl⟩)
        · go_wp2_with (at_builtin; refine Lib.wpList_append_run _ rfl (.tmp 31) (.tmp 32) 30 30 rfl _ _ rfl rfl _ _ HRUN2.out ?_)
          go_roundg 0
          case measure => omega
          case rel => exact .inr (.inr ⟨rfl, rfl, rfl, rfl⟩)
        · go_wp2_with fail
          go_ret
          exact ⟨cap, by rw [List.length_append]; rfl, by rw [List.length_append]; exact HCAP.out, HBEL3.out, HROW3.out⟩
abbrev HeadV (who gen : Nat) : Array Value := #[.int .u8 (who : Int), .int .u8 ((gen : Int) / 256), .int .u8 ((gen : Int) % 256)]
theorem headV_row (who gen : Nat) (hw : who < 16) (hg : (gen : Int) ≤ 65535) : HeadV who gen = RowB (HeadB who gen) 3 := by
  have e1 : (who : Int) = ((UInt8.ofNat who).toNat : Int) := by rw [UInt8.toNat_ofNat']; omega
  have e2 : ((gen : Int) / 256) = ((UInt8.ofNat (gen / 256)).toNat : Int) := by rw [UInt8.toNat_ofNat']; omega
  have e3 : ((gen : Int) % 256) = ((UInt8.ofNat gen).toNat : Int) := by rw [UInt8.toNat_ofNat']; omega
  unfold HeadV RowB HeadB
  rw [e1, e2, e3]
  rfl
theorem head_any (who gen : Nat) (hw : who < 16) (hg : (gen : Int) ≤ 65535) (w : World) :
    Calls Tryz.prog 53 #[.agg #[.int .i64 who, .int .i64 gen]] w fun e w' => e = .returned (.agg (HeadV who gen)) ∧ w' = (w.alloc (.cells #[.int .i64 who, .int .i64 gen] 97)).alloc (.cells (HeadV who gen) 128) := by
  have e := (MapKept.heap_alloc (w.alloc (.cells #[.int .i64 who, .int .i64 gen] 97)) (.cells (HeadV who gen) 128)).1
  simp only [World.size_alloc] at e
  go_enter Tryz.func53, Tryz.ntmps53
  go_wp2_with fail
  exact bodyPost_ret (v := .agg (HeadV who gen)) (results_cell_row rfl _ _ (w.heap.size + 1) 128 (HeadV who gen) (0, 0) _ rfl e Tryz.underlying128 rfl (by kernel_rfl)) rfl ⟨rfl, rfl⟩
end Go.Proofs.YtpfijaclghdcdaaGreatDoor

/- frameOf. -/
namespace Go.Proofs.YtpfijaclghdcdaaGreatDoor
open Go.RowKit
set_option linter.unusedVariables false

set_option maxHeartbeats 4000000 in
set_option maxRecDepth 20000 in
theorem frameOf_any {F : FuncId} {pre : Array Value} {q : Option Nat} (dv : Drv F pre q) (who gen : Nat) (hwho : who < 16) (hg : (gen : Int) ≤ 65535) (s : Nat → Int) (hs : ∀ i, 0 ≤ s i ∧ s i < 256) (a : Option Addr) (m : List UInt8) (d : Nat) (hm : m.length ≤ 100000) (w : World) (ha : Bts w a m) (hq : Has q w) (hna : ∀ b o, a = some ⟨b, o, none⟩ → q ≠ some b) :
    Calls Tryz.prog 28 #[.agg #[.int .i64 who, .int .i64 gen], Agg8 s, .slice a m.length d, .func (.func F) pre #[]] w fun e w' => ∃ g cap, e = .returned (.slice (some ⟨g, 0, none⟩) (HeadB who gen ++ SealT s (HeadB who gen) m).length cap) ∧ (HeadB who gen ++ SealT s (HeadB who gen) m).length ≤ cap ∧ w.heap.size ≤ g ∧ Tick q ((m.length + 7) / 8 + 1) w w' ∧ w'.heap[g]? = some (.cells (RowB (HeadB who gen ++ SealT s (HeadB who gen) m) cap) 5 (0, 0)) := by
  have hH := headV_row who gen hwho hg
  have HHO : Hid (∀ W, Calls Tryz.prog 53 #[.agg #[.int .i64 who, .int .i64 gen]] W fun e w' => e = .returned (.agg (HeadV who gen)) ∧ w' = (W.alloc (.cells #[.int .i64 who, .int .i64 gen] 97)).alloc (.cells (HeadV who gen) 128)) := fun W => head_any who gen hwho hg W
  have hsl : (SealT s (HeadB who gen) m).length = m.length + 4 := SealT_length _ _ _
  -- the world with the key, what headOf made, and the head
  obtain ⟨w1, hw1⟩ : ∃ w1, ((((w.alloc (.cells #[.int .i64 who, .int .i64 gen] 97)).alloc (.cells (Cells8 s) 47)).alloc (.cells #[.int .i64 who, .int .i64 gen] 97)).alloc (.cells (HeadV who gen) 128)).alloc (.cells (HeadV who gen) 128) = w1 := ⟨_, rfl⟩
  have t1 : Tick q 0 w w1 := by rw [← hw1]; exact (((((Tick.refl q w).alloc _).alloc _).alloc _).alloc _).alloc _
  have k1 : w1.heap[w.heap.size + 1]? = some (.cells (Cells8 s) 47 (0, 0)) := by rw [← hw1, Below.heap_alloc _ _ _ (by simp <;> omega), Below.heap_alloc _ _ _ (by simp <;> omega), Below.heap_alloc _ _ _ (by simp)]; have e := (MapKept.heap_alloc (w.alloc (.cells #[.int .i64 who, .int .i64 gen] 97)) (.cells (Cells8 s) 47)).1; simp only [World.size_alloc] at e; exact e
  have h1 : w1.heap[w.heap.size + 1 + 1 + 1 + 1]? = some (.cells (RowB (HeadB who gen) 3) 128 (0, 0)) := by
    rw [← hw1, ← hH]
    have e := (MapKept.heap_alloc ((((w.alloc (.cells #[.int .i64 who, .int .i64 gen] 97)).alloc (.cells (Cells8 s) 47)).alloc (.cells #[.int .i64 who, .int .i64 gen] 97)).alloc (.cells (HeadV who gen) 128)) (.cells (HeadV who gen) 128)).1
    simp only [World.size_alloc] at e
    exact e
  have HSE : Hid (∀ W n, Tick q n w W → W.heap[w.heap.size + 1 + 1 + 1 + 1]? = some (.cells (RowB (HeadB who gen) 3) 128 (0, 0)) → Calls Tryz.prog 55 #[Agg8 s, .slice (some ⟨w.heap.size + 1 + 1 + 1 + 1, 0, none⟩) 3 3, .slice a m.length d, .func (.func F) pre #[]] W fun e w' => ∃ g cap, e = .returned (.slice (some ⟨g, 0, none⟩) (m.length + 4) cap) ∧ m.length + 4 ≤ cap ∧ W.heap.size ≤ g ∧ Tick q ((m.length + 7) / 8 + 1) W w' ∧ w'.heap[g]? = some (.cells (RowB (SealT s (HeadB who gen) m) cap) 5 (0, 0))) := fun W n hW hrow => by
    refine seal_d dv s hs (some ⟨w.heap.size + 1 + 1 + 1 + 1, 0, none⟩) (HeadB who gen) 3 (by show 3 ≤ _; omega) a m d (by omega) W (.inr ⟨_, 0, rfl, fun i hi => by rw [Nat.zero_add, cell_of_row _ _ _ _ _ _ hrow, RowB_at _ _ _ hi]⟩) (ha.tick hW hna) (hq.tick hW) (fun b o e => by cases e; exact hq.ne (by omega)) hna
  have HQ : Hid (Has q w) := hq
  have HK1 : Hid (w1.heap[w.heap.size + 1]? = some (.cells (Cells8 s) 47 (0, 0))) := k1
  have HH1 : Hid (w1.heap[w.heap.size + 1 + 1 + 1 + 1]? = some (.cells (RowB (HeadB who gen) 3) 128 (0, 0))) := h1
  have HT1 : Hid (Tick q 0 w w1) := t1
  have HW1 : Hid (((((w.alloc (.cells #[.int .i64 who, .int .i64 gen] 97)).alloc (.cells (Cells8 s) 47)).alloc (.cells #[.int .i64 who, .int .i64 gen] 97)).alloc (.cells (HeadV who gen) 128)).alloc (.cells (HeadV who gen) 128) = w1) := hw1
  have HSL : Hid ((SealT s (HeadB who gen) m).length = m.length + 4) := hsl
  have HCO : Hid (∀ sb g cap cap2 W, W.heap[sb]? = some (.cells #[.slice (some ⟨w.heap.size + 1 + 1 + 1 + 1, 0, none⟩) 3 cap2, .slice (some ⟨g, 0, none⟩) (m.length + 4) cap] 30 (0, 0)) → W.heap[w.heap.size + 1 + 1 + 1 + 1]? = some (.cells (RowB (HeadB who gen) 3) 128 (0, 0)) → W.heap[g]? = some (.cells (RowB (SealT s (HeadB who gen) m) cap) 5 (0, 0)) → Calls Tryz.prog 54 #[.slice (some ⟨sb, 0, none⟩) 2 2] W fun e w' => ∃ cap, e = .returned (.slice (some ⟨W.heap.size, 0, none⟩) (HeadB who gen ++ SealT s (HeadB who gen) m).length cap) ∧ (HeadB who gen ++ SealT s (HeadB who gen) m).length ≤ cap ∧ Below W.heap.size W w' ∧ w'.heap[W.heap.size]? = some (.cells (RowB (HeadB who gen ++ SealT s (HeadB who gen) m) cap) 5 (0, 0))) := fun sb g cap cap2 W r1 r2 r3 => by
    refine concat_any sb (some ⟨w.heap.size + 1 + 1 + 1 + 1, 0, none⟩) (some ⟨g, 0, none⟩) (HeadB who gen) (SealT s (HeadB who gen) m) cap2 cap (by simp [HeadB]) (by intro e; rw [e] at hsl; simp at hsl) (by rw [hsl]; show 3 + _ ≤ _; omega) W (by rw [hsl]; exact r1) ?_ ?_
    · exact .inr ⟨_, 0, rfl, fun i hi => by rw [Nat.zero_add, cell_of_row _ _ _ _ _ _ r2, RowB_at _ _ _ hi]⟩
    · exact .inr ⟨_, 0, rfl, fun i hi => by rw [Nat.zero_add, cell_of_row _ _ _ _ _ _ r3, RowB_at _ _ _ hi]⟩
  obtain ⟨TX, hTX⟩ : ∃ TX, HeadB who gen ++ SealT s (HeadB who gen) m = TX := ⟨_, rfl⟩
  rw [hTX] at HCO ⊢
  clear hTX hH hsl hw1 t1 k1 h1 ha hq hna hm hs
  go_enter Tryz.func28, Tryz.ntmps28
  go_wp2_with (go_at_call 53; refine (HHO.out _).mono ?_; rintro e w' ⟨rfl, rfl⟩)
  rw [HW1.out]
  obtain ⟨hA, _⟩ : (∀ o, w1.cell? ⟨w.heap.size + 1, o, none⟩ = (Cells8 s)[o]?) ∧ True := ⟨fun o => cell_of_row _ _ _ _ _ _ HK1.out, trivial⟩
  have HLT : Hid (w.heap.size + 1 + 1 + 1 + 1 < w1.drew.heap.size) := (Array.getElem?_eq_some_iff.1 HH1.out).1
  go_region_with (first
    | (go_at_call 55; refine (HSE.out _ 0 HT1.out.drew HH1.out).mono ?_; rintro e w2 ⟨g, cap, rfl, hcap, hg2, t2, r2⟩; have HT2 : Hid (Tick q ((m.length + 7) / 8 + 1) w1.drew w2) := t2; have HR2 : Hid (w2.heap[g]? = some (.cells (RowB (SealT s (HeadB who gen) m) cap) 5 (0, 0))) := r2; have HH2 : Hid (w2.heap[w.heap.size + 1 + 1 + 1 + 1]? = some (.cells (RowB (HeadB who gen) 3) 128 (0, 0))) := (t2.block _ HLT.out (HQ.out.ne (by omega))).trans HH1.out; have HG2 : Hid (w1.drew.heap.size ≤ g) := hg2; clear t2 r2 hcap hg2)
    | (go_at_call 54; refine (HCO.out w2.heap.size g cap 3 _ (MapKept.heap_alloc _ _).1 ((Below.heap_alloc _ _ _ (Array.getElem?_eq_some_iff.1 HH2.out).1).trans HH2.out) ((Below.heap_alloc _ _ _ (Array.getElem?_eq_some_iff.1 HR2.out).1).trans HR2.out)).mono ?_; rintro e w3 ⟨cap3, rfl, hc3, b3, r3⟩))
  all_goals
    go_wp2_with fail
    go_ret
    refine ⟨_, cap3, rfl, hc3, ?_, ?_, by simpa only [World.size_alloc] using r3⟩
    · have := HT2.out.size
      have := HT1.out.size
      simp at *
      omega
    · have := (HT1.out.drew.trans HT2.out).alloc (.cells #[.slice (some ⟨w.heap.size + 1 + 1 + 1 + 1, 0, none⟩) 3 3, .slice (some ⟨g, 0, none⟩) (m.length + 4) cap] 30)
      rw [Nat.zero_add] at this
      exact this.below b3
end Go.Proofs.YtpfijaclghdcdaaGreatDoor

/- Protect. -/
namespace Go.Proofs.YtpfijaclghdcdaaGreatDoor
open Go.RowKit
set_option linter.unusedVariables false

/-- why a text is not protected, as an error value -/
def whyV (st : St) (n : Nat) : Value := if 40 < n then faultV 2 strLong else if GenB (st.m st.own).next then .nilIface else faultV 8 strSpent
theorem Grp.why {b wk pm : Nat} {cs : Array Value} {st : St} (ok : st.Ok) (hg : GrpAt cs st wk pm) (w : World) (h : Home (some b) b 90 cs w) (a : Option Addr) (n c : Nat) :
    Calls Tryz.prog 23 #[.pointer (some ⟨b, 0, none⟩), .slice a n c] w fun e w' => e = .returned (whyV st n) ∧ Below w.heap.size w w' := by
  have h16 : st.own < 16 := by have := ok.own; have := ok.n16; omega
  have hr := (hg.rat st.own h16).facts h
  exact why_any b st.own h16 (st.m st.own).next a n c w (by rw [h.cells.1]; exact hg.own) (by rw [h.cells.1]; exact hg.over) hr.2.1
theorem whyV_eq {st : St} (hk : st.closed = false) (n : Nat) : (st.protErr n = 0 ∧ whyV st n = .nilIface) ∨ (st.protErr n ≠ 0 ∧ ∃ s, whyV st n = faultV (st.protErr n) s) := by
  unfold whyV St.protErr
  rw [hk]
  simp only [Bool.false_eq_true, if_false]
  split
  · exact .inr ⟨by decide, _, rfl⟩
  · by_cases hl : 65535 < (st.m st.own).next
    · rw [if_pos hl, if_neg]
      · exact .inr ⟨by decide, _, rfl⟩
      · intro hgb
        have := ((genB_iff _).1 hgb).2
        omega
    · rw [if_neg hl, if_pos]
      · exact .inl ⟨rfl, rfl⟩
      · exact (genB_iff _).2 ⟨by omega, by omega⟩
set_option maxHeartbeats 1000000 in
theorem gprotErr {b wk pm : Nat} {cs : Array Value} {st : St} (ok : st.Ok) (hg : GrpAt cs st wk pm) (hk : st.closed = false) (w : World) (h : Home (some b) b 90 cs w) (hG : Glob w) (a : Option Addr) (n c : Nat) (he : st.protErr n ≠ 0) :
    Calls Tryz.prog 11 #[.pointer (some ⟨b, 0, none⟩), .slice a n c] w fun e w' => e = .returned (.tuple #[.slice none 0 0, .int .i64 (st.protErr n)]) ∧ Below w.heap.size w w' := by
  have HW0 := Grp.why ok hg w h a n c
  obtain ⟨E, hE⟩ : ∃ E, st.protErr n = E := ⟨_, rfl⟩
  obtain ⟨s, hs⟩ : ∃ s, whyV st n = faultV E s := by
    rcases whyV_eq hk n with ⟨h1, _⟩ | ⟨_, s, h2⟩
    · exact absurd h1 he
    · exact ⟨s, by rw [h2, hE]⟩
  rw [hs] at HW0
  have HW : Hid (Calls Tryz.prog 23 #[.pointer (some ⟨b, 0, none⟩), .slice a n c] w fun e w' => e = .returned (faultV E s) ∧ Below w.heap.size w w') := HW0
  have HN : Hid (∀ W, Glob W → Calls Tryz.prog 24 #[faultV E s] W fun x w' => x = .returned (.int .i64 E) ∧ Below W.heap.size W w') := fun W hW => num_fault E s W hW
  have HGL : Hid (Glob w) := hG
  rw [hE] at he ⊢
  clear hE hg hk h ok HW0 hG hs he
  refine calls_of_wpB Tryz.func11 rfl ?_
  simp only [Tryz.ntmps11, List.size_toArray, List.length_cons, List.length_nil, Nat.reduceAdd, Nat.reduceSub, Array.replicate_succ,
     Array.replicate_zero, List.push_toArray, List.append_toArray, List.nil_append, List.cons_append]
  go_wp2_with fail
  refine HW.out.mono ?_
  rintro e w1 ⟨rfl, b1⟩
  have HB1 : Hid (Below w.heap.size w w1) := b1
  have HG1 : Hid (Glob w1) := HGL.out.below b1
  clear b1
  go_wp2_with fail
  refine (HN.out _ HG1.out).mono ?_
  rintro e w2 ⟨rfl, b2⟩
  have HB2 : Hid (Below w.heap.size w w2) := HB1.out.trans (b2.mono HB1.out.size)
  clear b2
  go_wp2_with fail
  exact ⟨_, by simp [results, Tryz.results11, go_sem], rfl, HB2.out⟩
set_option maxHeartbeats 4000000 in
set_option maxRecDepth 20000 in
theorem gprot {b wk pm : Nat} {cs : Array Value} {st : St} (ok : st.Ok) (hg : GrpAt cs st wk pm) (hk : st.closed = false) (w : World) (h : Home (some b) b 90 cs w) (a : Option Addr) (t : List UInt8) (c : Nat) (hl : t.length ≤ 100000) (ha : Bts w a t) (hna : ∀ k o, a = some ⟨k, o, none⟩ → k ≠ b) (he : st.protErr t.length = 0) (hn : (st.m st.own).next ≤ 65535) :
    Calls Tryz.prog 11 #[.pointer (some ⟨b, 0, none⟩), .slice a t.length c] w fun e w' => ∃ f cap, e = .returned (.tuple #[.slice (some ⟨f, 0, none⟩) (st.frame t).length cap, .int .i64 0]) ∧ (st.frame t).length ≤ cap ∧ w.heap.size ≤ f ∧ Outside [b] w w' ∧ w'.heap[f]? = some (.cells (RowB (st.frame t) cap) 5 (0, 0)) ∧ ∃ cs' n, n ≤ 2 * DepB 16 st.n st.own + 4 + (t.length + 7) / 8 ∧ 1 ≤ n ∧ Home (some b) b 90 cs' w' ∧ GrpAt cs' st.protNext (wk + n) pm := by
  have h16 : st.own < 16 := by have := ok.own; have := ok.n16; omega
  have HW : Hid (Calls Tryz.prog 23 #[.pointer (some ⟨b, 0, none⟩), .slice a t.length c] w fun e w' => e = .returned .nilIface ∧ Below w.heap.size w w') := by
    have := Grp.why ok hg w h a t.length c
    rcases whyV_eq hk t.length with ⟨_, h2⟩ | ⟨h2, _⟩
    · rw [h2] at this
      exact this
    · exact absurd he h2
  have hbd : ∀ i, 0 ≤ st.ratAt st.own (st.m st.own).next i ∧ st.ratAt st.own (st.m st.own).next i < 256 := RatB_bd _ (DerB_bd _ _ _) _
  have hRat : ∀ {cs : Array Value} {wk : Nat}, GrpAt cs (st.begin st.own) wk pm → RatAt cs (164 + st.own * 10) true (st.m st.own).next (st.ratAt st.own (st.m st.own).next) := fun hg => by
    have := hg.rat st.own h16
    rw [begin_rat ok ok.own hn, begin_m ok ok.own, if_pos rfl] at this
    exact this
  have HRF : Hid (∀ W, Home (some b) b 90 cs W → Calls Tryz.prog 25 #[.pointer (some ⟨b, 164 + st.own * 10, none⟩), .pointer (some ⟨b, 3, none⟩), .int .i64 st.own, .func (.func 26) #[.pointer (some ⟨b, 0, none⟩)] #[]] W fun e w' => e = .returned (.tuple #[]) ∧ Outside [b] W w' ∧ ∃ cs' n, n ≤ 2 * DepB 16 st.n st.own + 1 ∧ Home (some b) b 90 cs' w' ∧ GrpAt cs' (st.begin st.own) (wk + n) pm) := fun W hW => rf_any ok hg hn W hW
  have ix := ratIndex b st.own h16
  have HKY : Hid (∀ W cs wk, Home (some b) b 90 cs W → GrpAt cs (st.begin st.own) wk pm → Calls Tryz.prog 27 #[.pointer (some ⟨b, 164 + st.own * 10, none⟩), .func (.func 26) #[.pointer (some ⟨b, 0, none⟩)] #[]] W fun e w' => e = .returned (Agg8 (st.keyAt st.own (st.m st.own).next)) ∧ Tick (some b) 1 W w') := fun W cs wk hW hG => rkey_any (derive_g b) (st.m st.own).next true _ hbd b (164 + st.own * 10) _ cs W hW (hRat hG)
  have HFR : Hid (∀ W, Bts W a t → Has (some b) W → Calls Tryz.prog 28 #[.agg #[.int .i64 st.own, .int .i64 (st.m st.own).next], Agg8 (st.keyAt st.own (st.m st.own).next), .slice a t.length c, .func (.func 26) #[.pointer (some ⟨b, 0, none⟩)] #[]] W fun e w' => ∃ g cap, e = .returned (.slice (some ⟨g, 0, none⟩) (st.frame t).length cap) ∧ (st.frame t).length ≤ cap ∧ W.heap.size ≤ g ∧ Tick (some b) ((t.length + 7) / 8 + 1) W w' ∧ w'.heap[g]? = some (.cells (RowB (st.frame t) cap) 5 (0, 0))) := fun W hB hq => frameOf_any (derive_g b) st.own (st.m st.own).next h16 (by omega) (st.keyAt st.own (st.m st.own).next) (DerB_bd _ _ _) a t c hl W hB hq (fun k o e => by have := hna k o e; simp; omega)
  have HTU : Hid (∀ W cs wk, Home (some b) b 90 cs W → GrpAt cs (st.begin st.own) wk pm → Calls Tryz.prog 29 #[.pointer (some ⟨b, 164 + st.own * 10, none⟩), .func (.func 26) #[.pointer (some ⟨b, 0, none⟩)] #[]] W fun e w' => e = .returned (.tuple #[]) ∧ Outside [b] W w' ∧ ∃ cs' n, n ≤ 1 ∧ Home (some b) b 90 cs' w' ∧ GrpAt cs' st.protNext (wk + n) pm) := fun W cs wk hW hG => gturn_any ok hG hn W hW
  have HOWN : Hid (∀ {cs : Array Value} {wk : Nat}, GrpAt cs (st.begin st.own) wk pm → cs[1]? = some (.int .i64 st.own)) := fun hg => hg.own
  have HGEN : Hid (∀ {cs : Array Value} {wk : Nat} {W : World}, GrpAt cs (st.begin st.own) wk pm → Home (some b) b 90 cs W → W.cell? ⟨b, 164 + st.own * 10 + 1, none⟩ = some (.int .i64 (st.m st.own).next)) := fun hg hW => ((hRat hg).facts hW).2.1
  have own0 : w.cell? ⟨b, 1, none⟩ = some (.int .i64 st.own) := by rw [h.cells.1]; exact hg.own
  have HH : Hid (Home (some b) b 90 cs w) := h
  have HA : Hid (Bts w a t) := ha
  have HNA : Hid (∀ k o, a = some ⟨k, o, none⟩ → k ≠ b) := hna
  have hbw := h.lt
  obtain ⟨FR, hFR⟩ : ∃ FR, st.frame t = FR := ⟨_, rfl⟩
  obtain ⟨K, hK⟩ : ∃ K, st.keyAt st.own (st.m st.own).next = K := ⟨_, rfl⟩
  obtain ⟨P, hP⟩ : ∃ P, 164 + st.own * 10 = P := ⟨_, rfl⟩
  obtain ⟨O, hO⟩ : ∃ O : Int, (st.own : Int) = O := ⟨_, rfl⟩
  obtain ⟨G, hG⟩ : ∃ G : Int, ((st.m st.own).next : Int) = G := ⟨_, rfl⟩
  rw [hFR] at HFR ⊢
  rw [hK] at HKY HFR
  rw [hP] at HRF HKY HTU HGEN ix
  rw [hO] at HRF HFR HOWN own0 ix
  rw [hG] at HFR HGEN
  have hmf : ∀ (fn : Fn) (first cap : Array Value) (w : World), (Instr.makeFunc fn first cap).run Tryz.prog w = .ok (.func fn first cap) w := fun _ _ _ _ => rfl
  clear hFR hK hP hO hG h ha hna he hn hl hg hk hbd hRat h16
  refine calls_of_wpB Tryz.func11 rfl ?_
  simp only [Tryz.ntmps11, List.size_toArray, List.length_cons, List.length_nil, Nat.reduceAdd, Nat.reduceSub, Array.replicate_succ,
     Array.replicate_zero, List.push_toArray, List.append_toArray, List.nil_append, List.cons_append]
  go_wp2_with fail
  refine HW.out.mono ?_
  rintro e w1 ⟨rfl, b1⟩
  have H1 : Hid (Home (some b) b 90 cs w1) := HH.out.below b1
  have own1 : w1.cell? ⟨b, 1, none⟩ = some (.int .i64 O) := by rw [b1.cell (p := ⟨b, 1, none⟩) hbw]; exact own0
  have HO1 : Hid (Outside [b] w w1) := Outside.ofBelow b1
  have HA1 : Hid (Bts w1 a t) := HA.out.below b1
  have hbw1 : b < w1.heap.size := H1.out.lt
  clear b1 own0 HW HH HA
  go_upto_region 4 with fail
  go_cut [7] from 17 to 24 (fun s7 wy => s7 = .pointer (some ⟨b, P, none⟩) ∧ Below w1.heap.size w1 wy)
  case first =>
    go_quiet (fail)
    go_wp2_with fail
    go_meet
    exact ⟨rfl, below_drewQ (Below.refl _ _) _⟩
  case rest =>
  obtain ⟨rfl, hb⟩ := hcut
  have H1c : Hid (Home (some b) b 90 cs wc) := H1.out.below hb
  have own1c : wc.cell? ⟨b, 1, none⟩ = some (.int .i64 O) := by rw [hb.cell (p := ⟨b, 1, none⟩) hbw1]; exact own1
  have HO1c : Hid (Outside [b] w wc) := HO1.out.below hb
  have HA1c : Hid (Bts wc a t) := HA1.out.below hb
  clear hb H1 own1 HO1 HA1 hbw1 ix
  go_upto_region 5 with fail
  go_cut [7] from 25 to 35 (fun s7 wy => s7 = .pointer (some ⟨b, P, none⟩) ∧ ∃ cs2 n2, Hid (Outside [b] w wy ∧ Home (some b) b 90 cs2 wy ∧ GrpAt cs2 (st.begin st.own) (wk + n2) pm ∧ n2 ≤ 2 * DepB 16 st.n st.own + 1 ∧ Bts wy a t))
  case first =>
    go_region_with (go_at_call 25; refine (HRF.out _ H1c.out.drew).mono ?_; rintro e w2 ⟨rfl, o2, cs2, n2, hn2, hh2, hg2⟩)
    all_goals
      have HX : Hid (Outside [b] w w2 ∧ Home (some b) b 90 cs2 w2 ∧ GrpAt cs2 (st.begin st.own) (wk + n2) pm ∧ n2 ≤ 2 * DepB 16 st.n st.own + 1 ∧ Bts w2 a t) := ⟨HO1c.out.drew.trans o2 (fun _ hi _ => hi), hh2, hg2, hn2, (HA1c.out.below (Below.refl _ _).drew).out o2 (fun k o e => by have := HNA.out k o e; simp; omega)⟩
      clear o2 hh2 hg2 hn2
      go_wp2_with fail
      go_meet
      exact ⟨rfl, cs2, n2, HX⟩
  case rest =>
  obtain ⟨rfl, cs2, n2, hx⟩ := hcut
  obtain ⟨w2, hw2⟩ : ∃ w2, wc = w2 := ⟨_, rfl⟩
  rw [hw2] at hx ⊢
  have HO2 : Hid (Outside [b] w w2) := hx.out.1
  have HA2 : Hid (Bts w2 a t) := hx.out.2.2.2.2
  have HH2 : Hid (Home (some b) b 90 cs2 w2) := hx.out.2.1
  have HG2 : Hid (GrpAt cs2 (st.begin st.own) (wk + n2) pm) := hx.out.2.2.1
  have HN2 : Hid (n2 ≤ 2 * DepB 16 st.n st.own + 1) := hx.out.2.2.2.1
  clear hx hw2 HO1c HA1c H1c HRF own1c
  go_wp2_with fail
  refine (HKY.out _ cs2 _ HH2.out HG2.out).mono ?_
  rintro e w3 ⟨rfl, t3⟩
  obtain ⟨cs3, u3⟩ := HH2.out.tick t3
  have hg3 := HG2.out.tick u3.mv
  -- the key's own block
  obtain ⟨w4, hw4⟩ : ∃ w4, w3.alloc (.cells (Cells8 K) 47) = w4 := ⟨_, rfl⟩
  have b4 : Below w3.heap.size w3 w4 := by rw [← hw4]; exact (Below.refl _ w3).alloc (Nat.le_refl _) _
  have k4 : w4.heap[w3.heap.size]? = some (.cells (Cells8 K) 47 (0, 0)) := by rw [← hw4]; exact (MapKept.heap_alloc _ _).1
  have HW4 : Hid (w3.alloc (.cells (Cells8 K) 47) = w4) := hw4
  have HH4 : Hid (Home (some b) b 90 cs3 w4) := u3.home.below b4
  have HG3 : Hid (GrpAt cs3 (st.begin st.own) (wk + n2 + 1) pm) := hg3
  have HO4 : Hid (Outside [b] w w4) := (HO2.out.trans u3.out (fun _ hi _ => hi)).below b4
  have HA4 : Hid (Bts w4 a t) := (HA2.out.out u3.out (fun k o e => by have := HNA.out k o e; simp; omega)).below b4
  have hbk : w3.heap.size ≠ b := by have := u3.home.lt; omega
  have z3 : w.heap.size ≤ w3.heap.size := (HO2.out.trans u3.out (fun _ hi _ => hi)).size
  have own4 : w4.cell? ⟨b, 1, none⟩ = some (.int .i64 O) := by rw [HH4.out.cells.1]; exact HOWN.out hg3
  have gen4 : w4.cell? ⟨b, P + 1, none⟩ = some (.int .i64 G) := HGEN.out hg3 HH4.out
  obtain ⟨kc, _⟩ := row_facts k4
  have HK4 : Hid (w4.heap[w3.heap.size]? = some (.cells (Cells8 K) 47 (0, 0))) := k4
  clear t3 u3 hg3 b4 HO2 HA2 HH2 HG2 HKY HOWN HGEN hw4 k4
  go_upto_region 8 with fail
  rw [HW4.out]
  go_region_with (go_at_call 28; refine (HFR.out _ (HA4.out.below (Below.refl _ _).drew) HH4.out.drew.has).mono ?_; rintro e w5 ⟨f, cap, rfl, hcap, hf5, t5, r5⟩)
  all_goals
    obtain ⟨cs5, u5⟩ := HH4.out.drew.tick t5
    have HG5 : Hid (GrpAt cs5 (st.begin st.own) (wk + n2 + 1 + ((t.length + 7) / 8 + 1)) pm) := HG3.out.tick u5.mv
    have HH5 : Hid (Home (some b) b 90 cs5 w5) := u5.home
    have HO5 : Hid (Outside [b] w w5) := HO4.out.drew.trans u5.out (fun _ hi _ => hi)
    have HK5 : Hid (w5.heap[w3.heap.size]? = some (.cells (Cells8 K) 47 (0, 0))) := u5.out.row HK4.out (by simp; omega)
    have hf6 : w4.heap.size ≤ f := hf5
    have hfk : w3.heap.size < f := by have := (Array.getElem?_eq_some_iff.1 HK4.out).1; omega
    have HF5 : Hid (w5.heap[f]? = some (.cells (RowB FR cap) 5 (0, 0))) := r5
    have HCP : Hid (FR.length ≤ cap) := hcap
    clear t5 u5 r5 hf5 hf6 hcap HG3 HH4 HO4 HA4 HFR HK4 kc own4 gen4
    go_wp2_with fail
    refine (HTU.out _ cs5 _ HH5.out HG5.out).mono ?_
    rintro e w6 ⟨rfl, o6, cs6, n6, hn6, hh6, hg6⟩
    have HK6 : Hid (w6.heap[w3.heap.size]? = some (.cells (Cells8 K) 47 (0, 0))) := o6.row HK5.out (by simp; omega)
    have HF6 : Hid (w6.heap[f]? = some (.cells (RowB FR cap) 5 (0, 0))) := o6.row HF5.out (by have := HH5.out.lt; simp; omega)
    have HO6 : Hid (Outside [b] w w6) := HO5.out.trans o6 (fun _ hi _ => hi)
    have HG6 : Hid (GrpAt cs6 st.protNext (wk + n2 + 1 + ((t.length + 7) / 8 + 1) + n6) pm) := hg6
    have HH6 : Hid (Home (some b) b 90 cs6 w6) := hh6
    have HN6 : Hid (n6 ≤ 1) := hn6
    clear o6 hh6 hg6 hn6 HTU HO5 HH5 HG5 HK5 HF5
    go_wp2_with fail
    refine ⟨_, _, _, _, _, _, rfl, clear_door w3.heap.size K w6 _ HK6.out _ _, _, by simp [results, Tryz.results11, go_sem], f, cap, rfl, HCP.out, by omega, ?_, ?_, cs6, n2 + 1 + ((t.length + 7) / 8 + 1) + n6, ?_, by omega, ?_, ?_⟩
    · exact HO6.out.setRow _ (fun hl => by omega) _
    · rw [setRow_other _ _ _ _ (by omega)]; exact HF6.out
    · have := HN2.out; have := HN6.out; omega
    · exact Home.own (by rw [setRow_other _ _ _ _ (fun e => hbk e.symm)]; exact HH6.out.row) HH6.out.cnt
    · have := HG6.out
      rw [show wk + (n2 + 1 + ((t.length + 7) / 8 + 1) + n6) = wk + n2 + 1 + ((t.length + 7) / 8 + 1) + n6 by omega]
      exact this
end Go.Proofs.YtpfijaclghdcdaaGreatDoor
