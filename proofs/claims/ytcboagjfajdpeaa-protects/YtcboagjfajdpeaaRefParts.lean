/- (*epochref.Group).parts, which calls itself. -/
import Derived.Test.YtcboagjfajdpeaaRefProt
import Derived.Test.YtcboagjfajdpeaaRefPartG
import Derived.Test.YtcboagjfajdpeaaIts
import Derived.WalkKit
import Derived.WalkSpells
import Derived.WalkLawsBesides
import Derived.Deep.WholeRow
import Derived.Deep.DeepCutAuto
import Derived.Deep.RegionHeld3
import Derived.Deep.LoopGhost
namespace Go.Proofs.Ytcboagjfajdpeaa
open Go.RowKit
set_option linter.unusedVariables false

/-- what a region's loads read of the other's group itself -/
abbrev SG (rb : Nat) (cs : Array Value) (W : World) : Prop := (∀ o, W.cell? ⟨rb, o, none⟩ = cs[o]?) ∧ rb < W.heap.size
theorem SG.below {rb : Nat} {cs : Array Value} {W W' : World} (h : SG rb cs W) (hb : Below W.heap.size W W') : SG rb cs W' :=
  ⟨fun o => by rw [hb.cell (p := ⟨rb, o, none⟩) h.2, h.1], by have := hb.size; have := h.2; omega⟩
theorem SG.drew {rb : Nat} {cs : Array Value} {W : World} (h : SG rb cs W) : SG rb cs W.drew := h.below (Below.refl _ _).drew
theorem SG.alloc {rb : Nat} {cs : Array Value} {W : World} (h : SG rb cs W) (o : Obj) : SG rb cs (W.alloc o) := h.below ((Below.refl _ _).alloc (Nat.le_refl _) _)
theorem SG.set {rb : Nat} {cs : Array Value} {W : World} (h : SG rb cs W) (b o : Nat) (v : Value) (h1 : rb ≠ b) : SG rb cs (W.setCell ⟨b, o, none⟩ v) :=
  ⟨fun i => by rw [← h.1 i]; exact World.cell?_of_block (w := W) (Below.heap_setCell _ _ _ _ h1), by simp [World.setCell]; exact h.2⟩

def PartsC (S : List Nat) (rb mb : Nat) (cs : Array Value) (ov : Nat → Value) (st : St) (steps : Int) (k : Nat) : Prop := ∀ (f t : Nat) (w : World), RefG w S rb mb cs ov st steps → st.node f t → t - f ≤ k + 1 →
    Calls Try.prog 85 #[.pointer (some ⟨rb, 0, none⟩), .int .i64 f, .int .i64 t] w fun e w' => ∃ v, e = .returned v ∧ Below w.heap.size w w' ∧ Its w' w.heap.size v (st.parts k f t)

set_option maxRecDepth 20000 in
set_option maxHeartbeats 2000000 in
theorem refParts_step (S : List Nat) (rb mb : Nat) (cs : Array Value) (ov : Nat → Value) (st : St) (steps : Int) (ok : st.Ok) (k : Nat) (ih : ∀ k', k = k' + 1 → PartsC S rb mb cs ov st steps k') : PartsC S rb mb cs ov st steps k := by
  intro f t w hr hnode hk
  obtain ⟨hft, htn⟩ := St.node_in ok hnode
  have h16 := ok.n16
  have hsg : SG rb (CellsG st steps mb) w := ⟨(row_facts' hr.2.2.2.1).1, (Array.getElem?_eq_some_iff.1 hr.2.2.2.1).1⟩
  have hA := hsg.1
  have HM : Hid (∀ i, i < st.n → w.cell? ⟨mb, i * 3, none⟩ = some (.bool (st.m i).begun)) := fun i hi => (hr.cells i hi).2.2.1
  have HR : Hid (RefG w S rb mb cs ov st steps) := hr
  have HNODE : Hid (st.node f t) := hnode
  have HIH : Hid (∀ k', k = k' + 1 → PartsC S rb mb cs ov st steps k') := ih
  have HP : Hid (∀ W, Calls Try.prog 39 #[Agg8 st.s, .int .i64 0, .int .i64 st.n, .int .i64 f, .int .i64 t] W fun e w' => e = .returned (Agg8 (st.part f t)) ∧ Below W.heap.size W w') := fun W => refPartG_any 16 st.s ok.hs 0 st.n f t W ok.n16 hnode
  have HL1 : Hid (st.begun f t = false → st.parts k f t = [⟨0, f, t, 0, st.part f t⟩]) := st.parts_not k f t
  have HL2 : Hid (st.begun f t = true → t - f = 1 → st.parts k f t = []) := st.parts_one k f t
  obtain ⟨L, hL⟩ : ∃ L, st.parts k f t = L := ⟨_, rfl⟩
  rw [hL] at HL1 HL2 ⊢
  have HL : Hid (st.parts k f t = L) := hL
  obtain ⟨X, hX⟩ : ∃ X, st.part f t = X := ⟨_, rfl⟩
  rw [hX] at HL1 HP
  clear hr hnode ih hL hX
  go_enter Try.func85, Try.ntmps85
  go_wp2_with fail
  go_loopg [7, 8] (t - f) (fun k b i wr => ∃ j : Nat, i = .int .i64 j ∧ f ≤ j ∧ j + k = t ∧ b = .bool (st.begun f j) ∧ wr = w)
  case atStart => exact ⟨f, rfl, Nat.le_refl _, by omega, by rw [St.begun_self], rfl⟩
  case round =>
    obtain ⟨j, rfl, hj1, hj2, rfl, rfl⟩ := hrel
    by_cases hlt : j < t
    · have hstep := St.begun_step st f j hj1
      have HST : Hid (st.begun f (j + 1) = (st.begun f j || (st.m j).begun)) := hstep
      have hm := HM.out j (by omega)
      clear hstep
      cases hb : st.begun f j with
      | true =>
        rw [hb] at HST
        go_wp2_with fail
        go_roundg (gk - 1)
        case measure => omega
        case rel => exact ⟨j + 1, by go_num, by omega, by omega, by rw [HST.out]; rfl, rfl⟩
      | false =>
        rw [hb] at HST
        go_wp2_with fail
        go_roundg (gk - 1)
        case measure => omega
        case rel => exact ⟨j + 1, by go_num, by omega, by omega, by rw [HST.out]; simp, rfl⟩
    · obtain rfl : j = t := by omega
      clear hlt
      cases hb : st.begun f j with
      | false =>
        have hLe := HL1.out hb
        subst hLe
        have hn1 : rb ≠ wr.heap.size := by have := hsg.2; omega
        go_upto_region 7 with fail
        go_cut [9] (fun s9 wy => ∃ kb, s9 = .pointer (some ⟨kb, 0, none⟩) ∧ wy.heap[kb]? = some (.cells (Cells8 X) 23 (0, 0)) ∧ Below wr.heap.size wr wy)
        case first =>
          go_region_held3 (fun W => SG rb (CellsG st steps mb) W) ((with_reducible first | exact hsg.drew | exact (SG.alloc hsg _).drew | (refine SG.set (SG.set (SG.set (SG.set (SG.set (SG.set (SG.set (SG.set ?_ _ _ _ hn1) _ _ _ hn1) _ _ _ hn1) _ _ _ hn1) _ _ _ hn1) _ _ _ hn1) _ _ _ hn1) _ _ _ hn1; assumption) | exact SG.alloc (by assumption) _ | exact SG.below (by assumption) hb1 | exact SG.below (SG.alloc hsg _).drew hb1 | exact SG.below hsg.drew hb1 | exact SG.alloc (SG.below hsg.drew hb1) _)) ((go_at_call 39; refine (HP.out _).mono ?_; rintro e w1 ⟨rfl, hb1⟩; obtain ⟨hc1, hf1⟩ := bcell hb1))
          · go_wp2_with fail
            go_meet
            exact ⟨w1.heap.size, rfl, (MapKept.heap_alloc _ _).1, ((Below.refl _ wr).drew.trans hb1).alloc hb1.size _⟩
          · go_wp2_with fail
            go_meet
            obtain ⟨hk1, hk2⟩ := newcell' wr w1 hb1
            rw [stores8_row w1 wr.heap.size _ _ X hk2]
            exact ⟨wr.heap.size, rfl, setRow_heap _ _ _ _ _ _ hk2, below_setRow hk1 (Nat.le_refl _) _⟩
        case rest =>
          obtain ⟨kb, rfl, hkb, hbel⟩ := hcut
          have hz := hbel.size
          go_wp2_with (refine wpList_load_row rfl 23 _ rfl kb rfl 23 (Cells8 X) (0, 0) _ hkb Try.underlying23 rfl (by kernel_rfl) ?_)
          go_ret
          exact ⟨_, rfl, hbel.alloc hz _, Its.one wc wr.heap.size hz ⟨0, f, j, 0, X⟩⟩
      | true =>
        by_cases h1 : j - f = 1
        · have hLe := HL2.out hb h1
          subst hLe
          go_wp2_with fail
          go_ret
          exact ⟨_, rfl, Below.refl _ _, Its.nil _ _⟩
        · obtain ⟨k', rfl⟩ : ∃ k', k = k' + 1 := ⟨k - 1, by omega⟩
          have hq := SplitN_bd (j - f) (by omega)
          have hpt := St.parts_two st k' f j hb h1
          rw [HL.out] at hpt
          subst hpt
          obtain ⟨⟨hn1, _⟩, hn2, _⟩ := St.halves ok HNODE.out (by omega)
          have HSP : Hid (∀ W, Calls Try.prog 66 #[.int .i64 ((j : Int) - f)] W fun e w' => e = .returned (.int .i64 (SplitN (j - f))) ∧ w' = W) := fun W => by
            have h := split_any ((j : Int) - f) (by omega) (by omega) W
            have e1 : ((j : Int) - f) = ((j - f : Nat) : Int) := by omega
            rw [e1] at h ⊢
            rw [SplitN_eq] at h
            exact h
          have lq1 := St.parts_len st k' f (f + SplitN (j - f)) (by omega)
          have lq2 := St.parts_len st k' (f + SplitN (j - f)) j (by omega)
          have HC1 : Hid (∀ W, RefG W S rb mb cs ov st steps → Calls Try.prog 85 #[.pointer (some ⟨rb, 0, none⟩), .int .i64 f, .int .i64 ((f : Int) + SplitN (j - f))] W fun e w' => ∃ v, e = .returned v ∧ Below W.heap.size W w' ∧ Its w' W.heap.size v (st.parts k' f (f + SplitN (j - f)))) := fun W hW => HIH.out k' rfl f (f + SplitN (j - f)) W hW hn1 (by omega)
          have HC2 : Hid (∀ W, RefG W S rb mb cs ov st steps → Calls Try.prog 85 #[.pointer (some ⟨rb, 0, none⟩), .int .i64 ((f : Int) + SplitN (j - f)), .int .i64 j] W fun e w' => ∃ v, e = .returned v ∧ Below W.heap.size W w' ∧ Its w' W.heap.size v (st.parts k' (f + SplitN (j - f)) j)) := fun W hW => HIH.out k' rfl (f + SplitN (j - f)) j W hW hn2 (by omega)
          obtain ⟨P1, hP1⟩ : ∃ P1, st.parts k' f (f + SplitN (j - f)) = P1 := ⟨_, rfl⟩
          obtain ⟨P2, hP2⟩ : ∃ P2, st.parts k' (f + SplitN (j - f)) j = P2 := ⟨_, rfl⟩
          rw [hP1] at HC1 lq1
          rw [hP2] at HC2 lq2
          have HPP : Hid (st.parts k' f (f + SplitN (j - f)) = P1 ∧ st.parts k' (f + SplitN (j - f)) j = P2) := ⟨hP1, hP2⟩
          obtain ⟨q, hqe⟩ : ∃ q, SplitN (j - f) = q := ⟨_, rfl⟩
          rw [hqe] at HC1 HC2 HSP hq lq1 lq2
          clear hP1 hP2 hqe HL HL1 HL2 HIH HNODE hn1 hn2 HP
          go_wp2_with (go_at_call 66; refine (HSP.out _).mono ?_; rintro e w' ⟨rfl, rfl⟩)
          refine (HC1.out _ HR.out).mono ?_
          rintro e w1 ⟨v1, rfl, b1, i1⟩
          have hr1 := HR.out.below b1
          have HI1 : Hid (Its w1 w'.heap.size v1 P1) := i1
          have HR1 : Hid (RefG w1 S rb mb cs ov st steps) := hr1
          clear i1 hr1
          go_wp2_with fail
          refine (HC2.out _ HR1.out).mono ?_
          rintro e w2 ⟨v2, rfl, b2, i2⟩
          have hz1 := b1.size
          have hz2 := b2.size
          obtain ⟨v3, w3, hrun, i3, b3, _⟩ := its_append w2 w'.heap.size w1.heap.size v1 v2 P1 P2 (HI1.out.below b2) i2 (by omega) (by omega) 50
          have HRUN : Hid ((Builtin.append_ #[50, 50] 50 #[v1, v2]).run Try.prog w2 = .ok v3 w3) := hrun
          have HI3 : Hid (Its w3 w'.heap.size v3 (P1 ++ P2)) := i3
          clear hrun i3 i2
          go_wp2_with (at_builtin; refine wpList_app rfl _ _ 50 50 rfl rfl _ _ _ _ rfl rfl HRUN.out ?_)
          go_ret
          refine ⟨_, rfl, (b1.trans (b2.mono hz1)).trans b3, ?_⟩
          rw [HPP.out.1, HPP.out.2]
          exact HI3.out

theorem refParts_any (S : List Nat) (rb mb : Nat) (cs : Array Value) (ov : Nat → Value) (st : St) (steps : Int) (ok : st.Ok) (k : Nat) : PartsC S rb mb cs ov st steps k := by
  induction k with
  | zero => exact refParts_step S rb mb cs ov st steps ok 0 (fun k' h => by omega)
  | succ k ih => exact refParts_step S rb mb cs ov st steps ok (k + 1) (fun k' h => by cases h; exact ih)
end Go.Proofs.Ytcboagjfajdpeaa
