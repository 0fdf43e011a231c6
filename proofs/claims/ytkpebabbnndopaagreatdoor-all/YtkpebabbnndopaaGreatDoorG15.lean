import Derived.Test.YtkpebabbnndopaaGreatDoorC11
import Derived.Test.YtkpebabbnndopaaGreatDoorG14
import Derived.WalkKit
import Derived.WalkSpells
import Derived.WalkLawsBesides
/- The states of a group's block on the way through Protect; ratchetFor and turn, of a group. -/
namespace Go.Proofs.YtkpebabbnndopaaGreatDoor
open Go.RowKit
set_option linter.unusedVariables false

theorem GrpAt.tick {b n wk pm : Nat} {lk : Int} {cs cs' : Array Value} {st : St} (h : GrpAt cs st wk pm lk) (m : Mv (some b) n 0 0 cs cs') : GrpAt cs' st (wk + n) pm lk := by
  have e : ∀ j, j ≠ 330 → cs'[j]? = cs[j]? := fun j hj => m.out j (.inr (by omega)) (fun _ => hj)
  exact ⟨m.size.trans h.size, by rw [e 5 (by omega)]; exact h.members, by rw [e 6 (by omega)]; exact h.own, by rw [e 7 (by omega)]; exact h.over, h.tree.mv m (fun _ => by show 169 ≤ 330; omega), fun i hi => m.at (h.rat i hi) (.inr (by omega)) (fun _ => .inl (by show 169 + i * 10 + 10 ≤ 330; omega)), by rw [e 329 (by omega)]; exact h.passed, m.cnt (by simp) wk h.cnt, m.one h.ones, by rw [e 0 (by omega), e 2 (by omega), e 3 (by omega)]; exact h.head⟩
/-- the member i has begun -/
def St.begin (st : St) (i : Nat) : St := st.setM i ⟨true, (st.m i).next, (st.m i).over⟩
theorem parts_same {st st' : St} (hs : st'.s = st.s) (hn : st'.n = st.n) (hb : ∀ i, (st'.m i).begun = (st.m i).begun) (k : Nat) : ∀ f t, st'.parts k f t = st.parts k f t := by
  have hbb : ∀ f t, st'.begun f t = st.begun f t := fun f t => by unfold St.begun; simp only [hb]
  have hp : ∀ a b, st'.part a b = st.part a b := fun a b => by unfold St.part; rw [hs, hn]
  induction k with
  | zero => intro f t; unfold St.parts; rw [hbb, hp]
  | succ k ih =>
    intro f t
    cases hx : st.begun f t with
    | false => rw [St.parts_not st _ _ _ hx, St.parts_not st' _ _ _ (by rw [hbb]; exact hx), hp]
    | true =>
      by_cases h1 : t - f = 1
      · rw [St.parts_one st _ _ _ hx h1, St.parts_one st' _ _ _ (by rw [hbb]; exact hx) h1]
      · rw [St.parts_two st k f t hx h1, St.parts_two st' k f t (by rw [hbb]; exact hx) h1, ih, ih]
theorem begin_m {st : St} (ok : st.Ok) {m : Nat} (hm : m < st.n) (j : Nat) : (st.begin m).m j = if j = m then ⟨true, (st.m m).next, (st.m m).over⟩ else st.m j := St.setM_m st m _ (by rw [ok.len]; exact hm) j
theorem protNext_m {st : St} (ok : st.Ok) (j : Nat) : st.protNext.m j = if j = st.own then ⟨true, (st.m st.own).next + 1, (st.m st.own).over⟩ else st.m j := St.setM_m st st.own _ (by rw [ok.len]; exact ok.own) j
theorem ratS_other {st st' : St} (hs : st'.s = st.s) (hn : st'.n = st.n) (i : Nat) (h : st'.m i = st.m i) : st'.ratS i = st.ratS i := by
  unfold St.ratS St.ratAt
  rw [h, hs, hn]
theorem begin_began {st : St} (ok : st.Ok) {m : Nat} (hm : m < st.n) (h : (st.m m).begun = false) : Began st (st.begin m) m :=
  ⟨rfl, rfl, h, by rw [begin_m ok hm, if_pos rfl], fun i hi => by rw [begin_m ok hm, if_neg hi]⟩
theorem begin_rat {st : St} (ok : st.Ok) {m : Nat} (hm : m < st.n) (hn : (st.m m).next ≤ 65535) : (st.begin m).ratS m = st.ratAt m (st.m m).next := by
  unfold St.ratS
  rw [begin_m ok hm, if_pos rfl]
  show (if (true && decide ((st.m m).next ≤ 65535)) = true then _ else _) = _
  rw [if_pos (by simp; exact hn)]
  rfl
theorem begin_same {st : St} (ok : st.Ok) {m : Nat} (hm : m < st.n) (hb : (st.m m).begun = true) : st.begin m = st := by
  unfold St.begin St.setM
  have h1 : (⟨true, (st.m m).next, (st.m m).over⟩ : Mem) = st.m m := by rw [← hb]
  rw [h1]
  have hl : m < st.mem.length := by rw [ok.len]; exact hm
  have h2 : st.m m = st.mem[m] := by unfold St.m; rw [List.getD_eq_getElem?_getD, List.getElem?_eq_getElem hl]; rfl
  rw [h2, List.set_getElem_self]
set_option maxHeartbeats 2000000 in
/-- begin, wherever tree and ratchet lie -/
theorem begin_any {F : FuncId} {pre : Array Value} {q : Option Nat} (dv : Drv F pre q) {b tof ro m : Nat} {t : TypeId} {cs : Array Value} {st : St} (ok : st.Ok) (hm : m < st.n) (hn : (st.m m).next ≤ 65535)
    (hT : TreeAt cs tof ((st.parts 16 0 st.n).map itPart)) (hR : RatAt cs ro (st.m m).begun (st.m m).next (st.ratS m)) (hro : tof + 161 ≤ ro) (hsz : ro + 10 ≤ cs.size) (hcf : q ≠ none → ro + 10 ≤ ctrOff) (w : World) (h : Home q b t cs w) :
    Calls Tryz.prog 45 #[.pointer (some ⟨b, ro, none⟩), .pointer (some ⟨b, tof, none⟩), .int .i64 m, .func (.func F) pre #[]] w fun e w' => e = .returned (.tuple #[]) ∧ ∃ cs' n, n ≤ 2 * DepB 16 st.n m + 1 ∧ Upd q n b tof (ro + 10 - tof) t cs w w' cs' ∧
      TreeAt cs' tof (((st.begin m).parts 16 0 st.n).map itPart) ∧ RatAt cs' ro true (st.m m).next (st.ratAt m (st.m m).next) ∧ ∀ j, (j < tof ∨ tof + 161 ≤ j) → (j < ro ∨ ro + 10 ≤ j) → (q ≠ none → j ≠ ctrOff) → cs'[j]? = cs[j]? := by
  cases hb : (st.m m).begun with
  | true =>
    rw [hb] at hR
    refine (begin_old _ _ b ro m w (hR.facts h).1).mono fun e' w' ⟨h1, h2⟩ => ⟨h1, cs, 0, by omega, by rw [h2]; exact Upd.refl h _ _, by rw [begin_same ok hm hb]; exact hT, ?_, fun _ _ _ _ => rfl⟩
    have e2 := begin_rat ok hm hn
    rw [begin_same ok hm hb] at e2
    rw [← e2]
    exact hR
  | false =>
    obtain ⟨A, p, B, i1, i2, i3, i4, i5, i6⟩ := parts_take ok (begin_began ok hm hb) 16 0 st.n st.node_all (Nat.zero_le _) hm (by have := ok.n16; omega)
    obtain ⟨l1, l2⟩ := parts_lt st 16 0 st.n (by have := ok.n1; omega) (by have := ok.n16; omega)
    rw [i1] at hT l1 l2
    rw [hb] at hR
    have hlf := (St.part_leaf ok m hm).2
    have hsb : ∀ i, 0 ≤ (p.spl 16 m).s i ∧ (p.spl 16 m).s i < 256 := fun i => by rw [i5]; exact St.part_bd ok _ _ i
    have hn0 : (st.m m).next = 0 := ((ok.m m).2.2.2 hb).1
    have hl10 : (CellsR true 0 (DerB (p.spl 16 m).s lRatchet 0)).toList.length = 10 := rfl
    refine (begin_new dv b tof ro m cs t hro hsz hcf A B p w h hT i2 i3 l1 (by have := ok.n16; omega) _ _ hR hsb).mono fun e' w' ⟨h1, cs1, m1, t1, hu⟩ => ⟨h1, _, 2 * (p.spl 16 m).d + 1, ?_, hu, ?_, ?_, fun j h3 h4 h5 => ?_⟩
    · rw [Nat.sub_zero, Nat.sub_zero] at i6; omega
    · rw [i4]
      refine ⟨t1.len, t1.parts.putOther _ _ (.inr (by rw [pcells_len]; have := t1.len; omega)), ?_, t1.ok⟩
      rw [putL_out _ _ _ _ (.inl (by omega))]; exact t1.count
    · have e5 : DerB (p.spl 16 m).s lRatchet 0 = st.ratAt m (st.m m).next := by rw [hn0, i5, hlf]; rfl
      have hR2 : RatAt (putL cs1 ro (CellsR true 0 (DerB (p.spl 16 m).s lRatchet 0)).toList) ro true ((0 : Nat) : Int) (DerB (p.spl 16 m).s lRatchet 0) := putL_at _ _ _ (by rw [m1.size, hl10]; omega)
      rw [e5] at hR2
      rw [e5, hn0]
      rw [hn0] at hR2
      exact hR2
    · rw [putL_out _ _ _ _ (by rw [hl10]; exact h4)]
      exact m1.out j h3 h5
/-- begin, of a group's own ratchet -/
theorem rf_any {b wk pm : Nat} {lk : Int} {cs : Array Value} {st : St} (ok : st.Ok) (hg : GrpAt cs st wk pm lk) (hn : (st.m st.own).next ≤ 65535) (w : World) (h : Home (some b) b 112 cs w) :
    Calls Tryz.prog 45 #[.pointer (some ⟨b, 169 + st.own * 10, none⟩), .pointer (some ⟨b, 8, none⟩), .int .i64 st.own, .func (.func 46) #[.pointer (some ⟨b, 0, none⟩)] #[]] w fun e w' => e = .returned (.tuple #[]) ∧ Outside [b] w w' ∧ ∃ cs' n, n ≤ 2 * DepB 16 st.n st.own + 1 ∧ Home (some b) b 112 cs' w' ∧ GrpAt cs' (st.begin st.own) (wk + n) pm lk := by
  have h16 : st.own < 16 := by have := ok.own; have := ok.n16; omega
  refine (begin_any (derive_g b) ok ok.own hn hg.tree (hg.rat st.own h16) (by omega) (by rw [hg.size]; omega) (fun _ => by show _ ≤ 330; omega) w h).mono fun e w' ⟨h1, cs', n, h2, hu, hT, hR, ho⟩ => ⟨h1, hu.out, cs', n, h2, hu.home, ?_⟩
  have e0 : ∀ j, (j < 8 ∨ 169 ≤ j) → (j < 169 + st.own * 10 ∨ 169 + st.own * 10 + 10 ≤ j) → j ≠ 330 → cs'[j]? = cs[j]? := fun j h3 h4 h5 => ho j (by omega) h4 (fun _ => h5)
  refine ⟨by rw [hu.mv.size]; exact hg.size, ?_, ?_, ?_, hT, fun i hi => ?_, ?_, hu.mv.cnt (by simp) wk hg.cnt, hu.mv.one hg.ones, by rw [e0 0 (by omega) (by omega) (by omega), e0 2 (by omega) (by omega) (by omega), e0 3 (by omega) (by omega) (by omega)]; exact hg.head⟩
  · rw [e0 5 (by omega) (by omega) (by omega)]; exact hg.members
  · rw [e0 6 (by omega) (by omega) (by omega)]; exact hg.own
  · rw [e0 7 (by omega) (by omega) (by omega)]; exact hg.over
  · by_cases hi' : i = st.own
    · subst hi'
      rw [begin_rat ok ok.own hn, begin_m ok ok.own, if_pos rfl]
      exact hR
    · have h3 := hg.rat i hi
      rw [begin_m ok ok.own, if_neg hi', ratS_other (st' := st.begin st.own) (st := st) rfl rfl i (by rw [begin_m ok ok.own, if_neg hi'])]
      intro j v hv
      have hj : j < 10 := (List.getElem?_eq_some_iff.1 hv).1
      rw [e0 _ (by omega) (by omega) (by omega)]
      exact h3 j v hv
  · rw [e0 329 (by omega) (by omega) (by omega)]; exact hg.passed
/-- the own ratchet is turned -/
theorem GrpAt.turn {b n wk pm : Nat} {lk : Int} {cs cs' : Array Value} {st : St} (ok : st.Ok) (h : GrpAt cs (st.begin st.own) wk pm lk) (m : Mv (some b) n (169 + st.own * 10) 10 cs cs') (hr : RatAt cs' (169 + st.own * 10) true ((st.m st.own).next + 1 : Nat) (st.protNext.ratS st.own)) : GrpAt cs' st.protNext (wk + n) pm lk := by
  have h16 : st.own < 16 := by have := ok.own; have := ok.n16; omega
  have e0 : ∀ j, (j < 169 + st.own * 10 ∨ 169 + st.own * 10 + 10 ≤ j) → j ≠ 330 → cs'[j]? = cs[j]? := fun j hj h3 => m.out j hj (fun _ => h3)
  have hp : ∀ f t, st.protNext.parts 16 f t = (st.begin st.own).parts 16 f t := parts_same (st := st.begin st.own) (st' := st.protNext) rfl rfl (fun i => by rw [protNext_m ok, begin_m ok ok.own]; split <;> rfl) 16
  refine ⟨m.size.trans h.size, ?_, ?_, ?_, ?_, fun i hi => ?_, ?_, m.cnt (by simp) wk h.cnt, m.one h.ones, by rw [e0 0 (.inl (by omega)) (by omega), e0 2 (.inl (by omega)) (by omega), e0 3 (.inl (by omega)) (by omega)]; exact h.head⟩
  · rw [e0 5 (.inl (by omega)) (by omega)]; exact h.members
  · rw [e0 6 (.inl (by omega)) (by omega)]; exact h.own
  · rw [e0 7 (.inl (by omega)) (by omega)]; exact h.over
  · have e1 : st.protNext.n = (st.begin st.own).n := rfl
    rw [e1, hp]
    have hT := h.tree
    refine ⟨hT.len, m.at hT.parts (.inl (by rw [pcells_len]; have := hT.len; omega)) (fun _ => .inl (by rw [pcells_len]; have := hT.len; show 8 + 10 * _ ≤ 330; omega)), ?_, hT.ok⟩
    rw [e0 (8 + 160) (.inl (by omega)) (by omega)]; exact hT.count
  · by_cases hi' : i = st.own
    · subst hi'
      rw [protNext_m ok, if_pos rfl]
      exact hr
    · have h3 := h.rat i hi
      rw [begin_m ok ok.own, if_neg hi', ratS_other (st' := st.begin st.own) (st := st) rfl rfl i (by rw [begin_m ok ok.own, if_neg hi'])] at h3
      rw [protNext_m ok, if_neg hi', ratS_other (st' := st.protNext) (st := st) rfl rfl i (by rw [protNext_m ok, if_neg hi'])]
      exact m.at h3 (by show 169 + i * 10 + 10 ≤ _ ∨ _; omega) (fun _ => .inl (by show 169 + i * 10 + 10 ≤ 330; omega))
  · rw [e0 329 (.inr (by omega)) (by omega)]; exact h.passed
/-- turn, of the own ratchet -/
theorem gturn_any {b wk pm : Nat} {lk : Int} {cs : Array Value} {st : St} (ok : st.Ok) (h : GrpAt cs (st.begin st.own) wk pm lk) (hn : (st.m st.own).next ≤ 65535) (w : World) (hh : Home (some b) b 112 cs w) :
    Calls Tryz.prog 49 #[.pointer (some ⟨b, 169 + st.own * 10, none⟩), .func (.func 46) #[.pointer (some ⟨b, 0, none⟩)] #[]] w fun e w' => e = .returned (.tuple #[]) ∧ Outside [b] w w' ∧ ∃ cs' n, n ≤ 1 ∧ Home (some b) b 112 cs' w' ∧ GrpAt cs' st.protNext (wk + n) pm lk := by
  have h16 : st.own < 16 := by have := ok.own; have := ok.n16; omega
  have hf : (some b : Option Nat) ≠ none → 169 + st.own * 10 + 10 ≤ ctrOff := fun _ => by show _ ≤ 330; omega
  have hr := h.rat st.own h16
  have hs : (st.begin st.own).ratS st.own = st.ratAt st.own (st.m st.own).next := by
    unfold St.ratS
    rw [begin_m ok ok.own, if_pos rfl]
    show (if (true && decide ((st.m st.own).next ≤ 65535)) = true then _ else _) = _
    rw [if_pos (by simp; exact hn)]
    rfl
  rw [begin_m ok ok.own, if_pos rfl, hs] at hr
  have hbd : ∀ i, 0 ≤ st.ratAt st.own (st.m st.own).next i ∧ st.ratAt st.own (st.m st.own).next i < 256 := RatB_bd _ (DerB_bd _ _ _) _
  by_cases hl : (st.m st.own).next < 65535
  · refine (turn_small (derive_g b) (st.m st.own).next hl true _ hbd b (169 + st.own * 10) _ cs w hh hr hf).mono fun e w' ⟨h1, cs', u, h2⟩ => ⟨h1, u.out, cs', 1, by omega, u.home, h.turn ok u.mv ?_⟩
    have e2 : st.protNext.ratS st.own = DerB (st.ratAt st.own (st.m st.own).next) lNext (st.m st.own).next := by
      unfold St.ratS
      rw [protNext_m ok, if_pos rfl]
      show (if (true && decide ((st.m st.own).next + 1 ≤ 65535)) = true then _ else _) = _
      rw [if_pos (by simp; omega)]
      rfl
    rw [e2]
    exact h2
  · have e1 : (st.m st.own).next = 65535 := by omega
    rw [e1] at hr
    refine (turn_last _ (some b) true _ b (169 + st.own * 10) _ cs w hh hr hf).mono fun e w' ⟨h1, cs', u, h2⟩ => ⟨h1, u.out, cs', 0, by omega, u.home, h.turn ok u.mv ?_⟩
    have e2 : st.protNext.ratS st.own = fun _ => 0 := by
      unfold St.ratS
      rw [protNext_m ok, if_pos rfl]
      show (if (true && decide ((st.m st.own).next + 1 ≤ 65535)) = true then _ else _) = _
      rw [if_neg (by simp; omega)]
    rw [e2, e1]
    exact h2
end Go.Proofs.YtkpebabbnndopaaGreatDoor
