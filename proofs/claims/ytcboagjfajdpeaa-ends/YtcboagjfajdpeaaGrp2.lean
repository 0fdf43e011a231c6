/- The states of a group's block on the way through Protect; ratchetFor and turn, of a group. -/
import Derived.Test.YtcboagjfajdpeaaGrp1
import Derived.Test.YtcboagjfajdpeaaGrpP
import Derived.WalkKit
import Derived.WalkSpells
import Derived.WalkLawsBesides
namespace Go.Proofs.Ytcboagjfajdpeaa
open Go.RowKit
set_option linter.unusedVariables false

theorem GrpAt.tick {b n wk : Nat} {cs cs' : Array Value} {st : St} (h : GrpAt cs st wk) (m : Mv (some b) n 0 0 cs cs') : GrpAt cs' st (wk + n) := by
  have e : ∀ j, j ≠ 323 → cs'[j]? = cs[j]? := fun j hj => m.out j (.inr (by omega)) (fun _ => hj)
  exact ⟨m.size.trans h.size, by rw [e 0 (by omega)]; exact h.own, by rw [e 1 (by omega)]; exact h.over, h.tree.mv m (fun _ => by show 163 ≤ 323; omega), fun i hi => m.at (h.rat i hi) (.inr (by omega)) (fun _ => .inl (by show 163 + i * 10 + 10 ≤ 323; omega)), m.cnt (by simp) wk h.cnt⟩
/-- the member i has begun -/
def St.begin (st : St) (i : Nat) : St := st.setM i ⟨true, (st.m i).next, (st.m i).over⟩
theorem parts_same {st st' : St} (hs : st'.s = st.s) (hn : st'.n = st.n) (hb : ∀ i, (st'.m i).begun = (st.m i).begun) (k : Nat) : ∀ f t, st'.parts k f t = st.parts k f t := by
  have hbb : ∀ f t, st'.begun f t = st.begun f t := fun f t => by unfold St.begun; simp only [hb]
  have hp : ∀ a b, st'.part a b = st.part a b := fun a b => by unfold St.part; rw [hs, hn]
  induction k with
  | zero => intro f t; unfold St.parts; rw [hbb, hp]
  | succ k ih =>
    intro f t
    cases hx : st.begun f t with
    | false => rw [St.parts_not st _ _ _ hx, St.parts_not st' _ _ _ (by rw [hbb]; exact hx), hp]
    | true =>
      by_cases h1 : t - f = 1
      · rw [St.parts_one st _ _ _ hx h1, St.parts_one st' _ _ _ (by rw [hbb]; exact hx) h1]
      · rw [St.parts_two st k f t hx h1, St.parts_two st' k f t (by rw [hbb]; exact hx) h1, ih, ih]
theorem begin_m {st : St} (ok : st.Ok) (j : Nat) : (st.begin st.own).m j = if j = st.own then ⟨true, (st.m st.own).next, (st.m st.own).over⟩ else st.m j := St.setM_m st st.own _ (by rw [ok.len]; exact ok.own) j
theorem protNext_m {st : St} (ok : st.Ok) (j : Nat) : st.protNext.m j = if j = st.own then ⟨true, (st.m st.own).next + 1, (st.m st.own).over⟩ else st.m j := St.setM_m st st.own _ (by rw [ok.len]; exact ok.own) j
theorem ratS_other {st st' : St} (hs : st'.s = st.s) (hn : st'.n = st.n) (i : Nat) (h : st'.m i = st.m i) : st'.ratS i = st.ratS i := by
  unfold St.ratS St.ratAt
  rw [h, hs, hn]
theorem begin_began {st : St} (ok : st.Ok) (h : (st.m st.own).begun = false) : Began st (st.begin st.own) st.own :=
  ⟨rfl, rfl, h, by rw [begin_m ok, if_pos rfl], fun i hi => by rw [begin_m ok, if_neg hi]⟩
set_option maxHeartbeats 2000000 in
theorem rf_any {b wk : Nat} {cs : Array Value} {st : St} (ok : st.Ok) (hg : GrpAt cs st wk) (hn : (st.m st.own).next ≤ 65535) (w : World) (h : Home (some b) b 117 cs w) :
    Calls Try.prog 52 #[.pointer (some ⟨b, 0, none⟩), .int .i64 st.own] w fun e w' => e = .returned (.pointer (some ⟨b, 163 + st.own * 10, none⟩)) ∧ Outside [b] w w' ∧ ∃ cs' n, n ≤ 2 * DepB 16 st.n st.own + 1 ∧ Home (some b) b 117 cs' w' ∧ GrpAt cs' (st.begin st.own) (wk + n) := by
  have h16 : st.own < 16 := by have := ok.own; have := ok.n16; omega
  have hrat := hg.rat st.own h16
  cases hb : (st.m st.own).begun with
  | true =>
    have e : st.begin st.own = st := by
      unfold St.begin St.setM
      have hm : (⟨true, (st.m st.own).next, (st.m st.own).over⟩ : Mem) = st.m st.own := by rw [← hb]
      rw [hm]
      have hl : st.own < st.mem.length := by rw [ok.len]; exact ok.own
      have h2 : st.m st.own = st.mem[st.own] := by unfold St.m; rw [List.getD_eq_getElem?_getD, List.getElem?_eq_getElem hl]; rfl
      rw [h2, List.set_getElem_self]
    rw [hb] at hrat
    refine (ratchetFor_old b st.own h16 w (hrat.facts h).1).mono fun e' w' ⟨h1, h2⟩ => ⟨h1, by rw [h2]; exact Outside.refl _ _, cs, 0, by omega, by rw [h2]; exact h, by rw [e]; exact hg⟩
  | false =>
    obtain ⟨A, p, B, i1, i2, i3, i4, i5, i6⟩ := parts_take ok (begin_began ok hb) 16 0 st.n st.node_all (Nat.zero_le _) ok.own (by have := ok.n16; omega)
    obtain ⟨l1, l2⟩ := parts_lt st 16 0 st.n (by have := ok.n1; omega) (by have := ok.n16; omega)
    have hT := hg.tree
    rw [i1] at hT l1 l2
    rw [hb] at hrat
    have hlf := (St.part_leaf ok st.own ok.own).2
    have hsb : ∀ i, 0 ≤ (p.spl 16 st.own).s i ∧ (p.spl 16 st.own).s i < 256 := fun i => by rw [i5]; exact St.part_bd ok _ _ i
    have hn0 : (st.m st.own).next = 0 := ((ok.m st.own).2.2.2 hb).1
    refine (ratchetFor_new b st.own h16 cs _ hg.size A B p w h hT i2 i3 l1 (by have := ok.n16; omega) _ _ hrat hsb).mono fun e' w' ⟨h1, h2, cs1, m1, t1, hm⟩ => ⟨h1, h2, _, 2 * (p.spl 16 st.own).d + 1, ?_, hm, ?_⟩
    · rw [Nat.sub_zero, Nat.sub_zero] at i6; omega
    · have hR : RatAt (putL cs1 (163 + st.own * 10) (CellsR true 0 (DerB (p.spl 16 st.own).s lRatchet 0)).toList) (163 + st.own * 10) true ((0 : Nat) : Int) (DerB (p.spl 16 st.own).s lRatchet 0) := putL_at _ _ _ (by rw [m1.size, hg.size]; show 163 + st.own * 10 + 10 ≤ 324; omega)
      have hl10 : (CellsR true 0 (DerB (p.spl 16 st.own).s lRatchet 0)).toList.length = 10 := rfl
      have e0 : ∀ j, (j < 2 ∨ 163 ≤ j) → j ≠ 323 → cs1[j]? = cs[j]? := fun j hj h3 => m1.out j (by omega) (fun _ => h3)
      refine ⟨by rw [putL_size, m1.size]; exact hg.size, ?_, ?_, ?_, fun i hi => ?_, ?_⟩
      · rw [putL_out _ _ _ _ (.inl (by omega)), e0 0 (.inl (by omega)) (by omega)]; exact hg.own
      · rw [putL_out _ _ _ _ (.inl (by omega)), e0 1 (.inl (by omega)) (by omega)]; exact hg.over
      · have e4 : (st.begin st.own).n = st.n := rfl
        rw [e4, i4]
        refine ⟨t1.len, t1.parts.putOther _ _ (.inr (by rw [pcells_len]; have := t1.len; omega)), ?_, t1.ok⟩
        rw [putL_out _ _ _ _ (.inl (by omega))]; exact t1.count
      · by_cases hi' : i = st.own
        · subst hi'
          rw [begin_m ok, if_pos rfl, hn0]
          have hs : (st.begin st.own).ratS st.own = DerB (p.spl 16 st.own).s lRatchet 0 := by
            unfold St.ratS
            rw [begin_m ok, if_pos rfl, hn0]
            show (if (true && decide (0 ≤ 65535)) = true then (st.begin st.own).ratAt st.own 0 else _) = _
            rw [if_pos (by decide), i5, hlf]
            rfl
          rw [hs]
          exact hR
        · have h3 := hg.rat i hi
          rw [begin_m ok, if_neg hi', ratS_other (st' := st.begin st.own) (st := st) rfl rfl i (by rw [begin_m ok, if_neg hi'])]
          have h4 : AtL cs1 (163 + i * 10) (CellsR (st.m i).begun (st.m i).next (st.ratS i)).toList := m1.at h3 (.inr (by omega)) (fun _ => .inl (by show 163 + i * 10 + 10 ≤ 323; omega))
          have hdj : 163 + st.own * 10 + 10 ≤ 163 + i * 10 ∨ 163 + i * 10 + 10 ≤ 163 + st.own * 10 := by omega
          exact h4.putOther (163 + st.own * 10) (CellsR true 0 (DerB (p.spl 16 st.own).s lRatchet 0)).toList hdj
      · rw [putL_out _ _ _ _ (.inr (by rw [hl10]; show 163 + st.own * 10 + 10 ≤ 323; omega))]
        exact m1.cnt (by simp) wk hg.cnt
/-- the own ratchet is turned -/
theorem GrpAt.turn {b n wk : Nat} {cs cs' : Array Value} {st : St} (ok : st.Ok) (h : GrpAt cs (st.begin st.own) wk) (m : Mv (some b) n (163 + st.own * 10) 10 cs cs') (hr : RatAt cs' (163 + st.own * 10) true ((st.m st.own).next + 1 : Nat) (st.protNext.ratS st.own)) : GrpAt cs' st.protNext (wk + n) := by
  have h16 : st.own < 16 := by have := ok.own; have := ok.n16; omega
  have e0 : ∀ j, (j < 163 + st.own * 10 ∨ 163 + st.own * 10 + 10 ≤ j) → j ≠ 323 → cs'[j]? = cs[j]? := fun j hj h3 => m.out j hj (fun _ => h3)
  have hp : ∀ f t, st.protNext.parts 16 f t = (st.begin st.own).parts 16 f t := parts_same (st := st.begin st.own) (st' := st.protNext) rfl rfl (fun i => by rw [protNext_m ok, begin_m ok]; split <;> rfl) 16
  refine ⟨m.size.trans h.size, ?_, ?_, ?_, fun i hi => ?_, m.cnt (by simp) wk h.cnt⟩
  · rw [e0 0 (.inl (by omega)) (by omega)]; exact h.own
  · rw [e0 1 (.inl (by omega)) (by omega)]; exact h.over
  · have e1 : st.protNext.n = (st.begin st.own).n := rfl
    rw [e1, hp]
    have hT := h.tree
    refine ⟨hT.len, m.at hT.parts (.inl (by rw [pcells_len]; have := hT.len; omega)) (fun _ => .inl (by rw [pcells_len]; have := hT.len; show 2 + 10 * _ ≤ 323; omega)), ?_, hT.ok⟩
    rw [e0 (2 + 160) (.inl (by omega)) (by omega)]; exact hT.count
  · by_cases hi' : i = st.own
    · subst hi'
      rw [protNext_m ok, if_pos rfl]
      exact hr
    · have h3 := h.rat i hi
      rw [begin_m ok, if_neg hi', ratS_other (st' := st.begin st.own) (st := st) rfl rfl i (by rw [begin_m ok, if_neg hi'])] at h3
      rw [protNext_m ok, if_neg hi', ratS_other (st' := st.protNext) (st := st) rfl rfl i (by rw [protNext_m ok, if_neg hi'])]
      exact m.at h3 (by show 163 + i * 10 + 10 ≤ _ ∨ _; omega) (fun _ => .inl (by show 163 + i * 10 + 10 ≤ 323; omega))
/-- turn, of the own ratchet -/
theorem gturn_any {b wk : Nat} {cs : Array Value} {st : St} (ok : st.Ok) (h : GrpAt cs (st.begin st.own) wk) (hn : (st.m st.own).next ≤ 65535) (w : World) (hh : Home (some b) b 117 cs w) :
    Calls Try.prog 43 #[.pointer (some ⟨b, 163 + st.own * 10, none⟩), .func (.func 53) #[.pointer (some ⟨b, 0, none⟩)] #[]] w fun e w' => e = .returned (.tuple #[]) ∧ Outside [b] w w' ∧ ∃ cs' n, n ≤ 1 ∧ Home (some b) b 117 cs' w' ∧ GrpAt cs' st.protNext (wk + n) := by
  have h16 : st.own < 16 := by have := ok.own; have := ok.n16; omega
  have hf : (some b : Option Nat) ≠ none → 163 + st.own * 10 + 10 ≤ ctrOff := fun _ => by show _ ≤ 323; omega
  have hr := h.rat st.own h16
  have hs : (st.begin st.own).ratS st.own = st.ratAt st.own (st.m st.own).next := by
    unfold St.ratS
    rw [begin_m ok, if_pos rfl]
    show (if (true && decide ((st.m st.own).next ≤ 65535)) = true then _ else _) = _
    rw [if_pos (by simp; exact hn)]
    rfl
  rw [begin_m ok, if_pos rfl, hs] at hr
  have hbd : ∀ i, 0 ≤ st.ratAt st.own (st.m st.own).next i ∧ st.ratAt st.own (st.m st.own).next i < 256 := RatB_bd _ (DerB_bd _ _ _) _
  by_cases hl : (st.m st.own).next < 65535
  · refine (turn_small (derive_g b) (st.m st.own).next hl true _ hbd b (163 + st.own * 10) _ cs w hh hr hf).mono fun e w' ⟨h1, cs', u, h2⟩ => ⟨h1, u.out, cs', 1, by omega, u.home, h.turn ok u.mv ?_⟩
    have e2 : st.protNext.ratS st.own = DerB (st.ratAt st.own (st.m st.own).next) lNext (st.m st.own).next := by
      unfold St.ratS
      rw [protNext_m ok, if_pos rfl]
      show (if (true && decide ((st.m st.own).next + 1 ≤ 65535)) = true then _ else _) = _
      rw [if_pos (by simp; omega)]
      rfl
    rw [e2]
    exact h2
  · have e1 : (st.m st.own).next = 65535 := by omega
    rw [e1] at hr
    refine (turn_last _ (some b) true _ b (163 + st.own * 10) _ cs w hh hr hf).mono fun e w' ⟨h1, cs', u, h2⟩ => ⟨h1, u.out, cs', 0, by omega, u.home, h.turn ok u.mv ?_⟩
    have e2 : st.protNext.ratS st.own = fun _ => 0 := by
      unfold St.ratS
      rw [protNext_m ok, if_pos rfl]
      show (if (true && decide ((st.m st.own).next + 1 ≤ 65535)) = true then _ else _) = _
      rw [if_neg (by simp; omega)]
    rw [e2, e1]
    exact h2
end Go.Proofs.Ytcboagjfajdpeaa
