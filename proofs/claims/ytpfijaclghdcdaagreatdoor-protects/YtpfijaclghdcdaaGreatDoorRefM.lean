import Derived.Test.YtpfijaclghdcdaaGreatDoorRefPart
import Derived.Test.YtpfijaclghdcdaaGreatDoorPureN
import Derived.WalkKit
import Derived.WalkSpells
import Derived.WalkLawsBesides
import Derived.Deep.WholeRow
import Derived.Test.YtpfijaclghdcdaaGreatDoorRefProt
import Derived.Test.YtpfijaclghdcdaaGreatDoorIts
import Derived.Deep.DeepCutAuto
import Derived.Deep.RegionHeld3
import Derived.Deep.LoopGhost
import Derived.Deep.RegionLaw
/- epochref.Part, of any part of the tree. -/
namespace Go.Proofs.YtpfijaclghdcdaaGreatDoor
open Go.RowKit
set_option linter.unusedVariables false

theorem refPart_here (s : Nat → Int) (f t : Nat) (w : World) :
    Calls Tryz.prog 96 #[Agg8 s, .int .i64 f, .int .i64 t, .int .i64 f, .int .i64 t] w fun e w' => e = .returned (Agg8 s) ∧ Below w.heap.size w w' := by
  go_enter Tryz.func96, Tryz.ntmps96
  go_wp2_with fail
  exact bodyPost_ret (v := Agg8 s) (by simp [results, Tryz.results96, go_sem]) rfl ⟨rfl, ((Below.refl _ w).alloc (Nat.le_refl _) _).alloc (by simp) _⟩

set_option maxHeartbeats 1000000 in
theorem refPartG_any (k : Nat) : ∀ (s : Nat → Int) (_ : ∀ i, 0 ≤ s i ∧ s i < 256) (f t a b : Nat) (w : World), t ≤ 16 → NodeB k f t a b = true →
    Calls Tryz.prog 96 #[Agg8 s, .int .i64 f, .int .i64 t, .int .i64 a, .int .i64 b] w fun e w' => e = .returned (Agg8 (PartB k s f t a b)) ∧ Below w.heap.size w w' := by
  induction k with
  | zero =>
    intro s hs f t a b w ht h
    simp [NodeB] at h
    obtain ⟨rfl, rfl⟩ := h
    exact refPart_here s f t w
  | succ k ih =>
    intro s hs f t a b w ht h
    by_cases e : f = a ∧ t = b
    · obtain ⟨rfl, rfl⟩ := e
      rw [PartB_succ, if_pos ⟨rfl, rfl⟩]
      exact refPart_here s f t w
    · rw [PartB_succ, if_neg e]
      rw [NodeB_succ, decide_eq_false e, Bool.false_or, Bool.and_eq_true, decide_eq_true_eq] at h
      obtain ⟨h2, h3⟩ := h
      have hsp := SplitN_bd (t - f) h2
      have HSP : Hid (∀ W, Calls Tryz.prog 97 #[.int .i64 ((t : Int) - f)] W fun e w' => e = .returned (.int .i64 (SplitN (t - f))) ∧ w' = W) := fun W => by
        have h := split_any ((t : Int) - f) (by omega) (by omega) W
        have e1 : ((t : Int) - f) = ((t - f : Nat) : Int) := by omega
        rw [e1] at h ⊢
        rw [SplitN_eq] at h
        exact h
      obtain ⟨q, hq⟩ : ∃ q, SplitN (t - f) = q := ⟨_, rfl⟩
      rw [hq] at HSP hsp h3 ⊢
      clear hq
      by_cases ha : a < f + q
      · rw [if_pos ha] at h3 ⊢
        by_cases hfa : f = a
        · have hnt : ¬ (t : Int) = b := by omega
          subst hfa
          obtain ⟨L, hL⟩ : ∃ L, DerB s lLeft 0 = L := ⟨_, rfl⟩
          have hLb : ∀ i, 0 ≤ L i ∧ L i < 256 := fun i => by rw [← hL]; exact DerB_bd _ _ _ _
          have HD : Hid (∀ W, Calls Tryz.prog 98 #[Agg8 s, .string ⟨#[108, 101, 102, 116]⟩, .int .i64 0] W fun e w' => e = .returned (Agg8 L) ∧ Below W.heap.size W w') := fun W => by
            have h := refDerive_any s hs ⟨#[108, 101, 102, 116]⟩ (by decide) 0 W
            rw [← hL]
            exact h
          rw [hL]
          clear hL
          have HP : Hid (∀ W, Calls Tryz.prog 96 #[Agg8 L, .int .i64 (f), .int .i64 ((f : Int) + q), .int .i64 f, .int .i64 b] W fun e w' => e = .returned (Agg8 (PartB k L (f) (f + q) f b)) ∧ Below W.heap.size W w') := fun W => ih L hLb _ _ f b W (by omega) h3
          obtain ⟨X, hX⟩ : ∃ X, PartB k L (f) (f + q) f b = X := ⟨_, rfl⟩
          rw [hX] at HP ⊢
          clear hX ih hLb h3
          go_enter Tryz.func96, Tryz.ntmps96
          go_wp2_with (first | (go_at_call 97; refine (HSP.out _).mono ?_; rintro e w' ⟨rfl, rfl⟩))
          refine (HD.out _).mono ?_
          rintro e w1 ⟨rfl, b1⟩
          obtain ⟨c1, d1, z1⟩ := cell1 _ _ _ b1
          clear b1
          go_wp2_with fail
          refine (HP.out _).mono ?_
          rintro e w2 ⟨rfl, b2⟩
          have c2 : w2.heap[w.heap.size + 1]? = some (.cells C0 47 (0, 0)) := by rw [b2.block _ (by simp; omega), Below.heap_alloc _ _ _ (by omega), c1]
          have d2 : Below w.heap.size w w2 := (d1.alloc (by omega) _).trans (b2.mono (by simp; omega))
          clear b2 c1 d1 HP HD HSP
          go_wp2_with (refine wpList_store_row rfl 47 _ _ rfl (w.heap.size + 1) (Cells8 X) rfl rfl 47 C0 c2 (by kernel_rfl) rfl (by simp [Value.oneCell']) ?_)
          exact bodyPost_ret (v := Agg8 X) (results_cell_row rfl _ _ (w.heap.size + 1) 47 (Cells8 X) (0, 0) _ rfl (setRow_heap _ _ _ _ _ _ c2) Tryz.underlying47 rfl (by kernel_rfl)) rfl ⟨rfl, below_setRow d2 (by omega) _⟩
        · have hnf : ¬ (f : Int) = a := by omega
          obtain ⟨L, hL⟩ : ∃ L, DerB s lLeft 0 = L := ⟨_, rfl⟩
          have hLb : ∀ i, 0 ≤ L i ∧ L i < 256 := fun i => by rw [← hL]; exact DerB_bd _ _ _ _
          have HD : Hid (∀ W, Calls Tryz.prog 98 #[Agg8 s, .string ⟨#[108, 101, 102, 116]⟩, .int .i64 0] W fun e w' => e = .returned (Agg8 L) ∧ Below W.heap.size W w') := fun W => by
            have h := refDerive_any s hs ⟨#[108, 101, 102, 116]⟩ (by decide) 0 W
            rw [← hL]
            exact h
          rw [hL]
          clear hL
          have HP : Hid (∀ W, Calls Tryz.prog 96 #[Agg8 L, .int .i64 (f), .int .i64 ((f : Int) + q), .int .i64 a, .int .i64 b] W fun e w' => e = .returned (Agg8 (PartB k L (f) (f + q) a b)) ∧ Below W.heap.size W w') := fun W => ih L hLb _ _ a b W (by omega) h3
          obtain ⟨X, hX⟩ : ∃ X, PartB k L (f) (f + q) a b = X := ⟨_, rfl⟩
          rw [hX] at HP ⊢
          clear hX ih hLb h3
          go_enter Tryz.func96, Tryz.ntmps96
          go_wp2_with (first | (go_at_call 97; refine (HSP.out _).mono ?_; rintro e w' ⟨rfl, rfl⟩))
          refine (HD.out _).mono ?_
          rintro e w1 ⟨rfl, b1⟩
          obtain ⟨c1, d1, z1⟩ := cell1 _ _ _ b1
          clear b1
          go_wp2_with fail
          refine (HP.out _).mono ?_
          rintro e w2 ⟨rfl, b2⟩
          have c2 : w2.heap[w.heap.size + 1]? = some (.cells C0 47 (0, 0)) := by rw [b2.block _ (by simp; omega), Below.heap_alloc _ _ _ (by omega), c1]
          have d2 : Below w.heap.size w w2 := (d1.alloc (by omega) _).trans (b2.mono (by simp; omega))
          clear b2 c1 d1 HP HD HSP
          go_wp2_with (refine wpList_store_row rfl 47 _ _ rfl (w.heap.size + 1) (Cells8 X) rfl rfl 47 C0 c2 (by kernel_rfl) rfl (by simp [Value.oneCell']) ?_)
          exact bodyPost_ret (v := Agg8 X) (results_cell_row rfl _ _ (w.heap.size + 1) 47 (Cells8 X) (0, 0) _ rfl (setRow_heap _ _ _ _ _ _ c2) Tryz.underlying47 rfl (by kernel_rfl)) rfl ⟨rfl, below_setRow d2 (by omega) _⟩
      · rw [if_neg ha] at h3 ⊢
        have hnf : ¬ (f : Int) = a := by omega
        obtain ⟨L, hL⟩ : ∃ L, DerB s lRight 0 = L := ⟨_, rfl⟩
        have hLb : ∀ i, 0 ≤ L i ∧ L i < 256 := fun i => by rw [← hL]; exact DerB_bd _ _ _ _
        have HD : Hid (∀ W, Calls Tryz.prog 98 #[Agg8 s, .string ⟨#[114, 105, 103, 104, 116]⟩, .int .i64 0] W fun e w' => e = .returned (Agg8 L) ∧ Below W.heap.size W w') := fun W => by
          have h := refDerive_any s hs ⟨#[114, 105, 103, 104, 116]⟩ (by decide) 0 W
          rw [← hL]
          exact h
        rw [hL]
        clear hL
        have HP : Hid (∀ W, Calls Tryz.prog 96 #[Agg8 L, .int .i64 ((f : Int) + q), .int .i64 (t), .int .i64 a, .int .i64 b] W fun e w' => e = .returned (Agg8 (PartB k L (f + q) (t) a b)) ∧ Below W.heap.size W w') := fun W => ih L hLb _ _ a b W (by omega) h3
        obtain ⟨X, hX⟩ : ∃ X, PartB k L (f + q) (t) a b = X := ⟨_, rfl⟩
        rw [hX] at HP ⊢
        clear hX ih hLb h3
        go_enter Tryz.func96, Tryz.ntmps96
        go_wp2_with (first | (go_at_call 97; refine (HSP.out _).mono ?_; rintro e w' ⟨rfl, rfl⟩))
        refine (HD.out _).mono ?_
        rintro e w1 ⟨rfl, b1⟩
        obtain ⟨c1, d1, z1⟩ := cell1 _ _ _ b1
        clear b1
        go_wp2_with fail
        refine (HP.out _).mono ?_
        rintro e w2 ⟨rfl, b2⟩
        have c2 : w2.heap[w.heap.size + 1]? = some (.cells C0 47 (0, 0)) := by rw [b2.block _ (by simp; omega), Below.heap_alloc _ _ _ (by omega), c1]
        have d2 : Below w.heap.size w w2 := (d1.alloc (by omega) _).trans (b2.mono (by simp; omega))
        clear b2 c1 d1 HP HD HSP
        go_wp2_with (refine wpList_store_row rfl 47 _ _ rfl (w.heap.size + 1) (Cells8 X) rfl rfl 47 C0 c2 (by kernel_rfl) rfl (by simp [Value.oneCell']) ?_)
        exact bodyPost_ret (v := Agg8 X) (results_cell_row rfl _ _ (w.heap.size + 1) 47 (Cells8 X) (0, 0) _ rfl (setRow_heap _ _ _ _ _ _ c2) Tryz.underlying47 rfl (by kernel_rfl)) rfl ⟨rfl, below_setRow d2 (by omega) _⟩
end Go.Proofs.YtpfijaclghdcdaaGreatDoor

/- (*epochref.Group).parts, which calls itself. -/
namespace Go.Proofs.YtpfijaclghdcdaaGreatDoor
open Go.RowKit
set_option linter.unusedVariables false

/-- what a region's loads read of the other's group itself -/
abbrev SG (rb : Nat) (cs : Array Value) (W : World) : Prop := (∀ o, W.cell? ⟨rb, o, none⟩ = cs[o]?) ∧ rb < W.heap.size
theorem SG.below {rb : Nat} {cs : Array Value} {W W' : World} (h : SG rb cs W) (hb : Below W.heap.size W W') : SG rb cs W' :=
  ⟨fun o => by rw [hb.cell (p := ⟨rb, o, none⟩) h.2, h.1], by have := hb.size; have := h.2; omega⟩
theorem SG.drew {rb : Nat} {cs : Array Value} {W : World} (h : SG rb cs W) : SG rb cs W.drew := h.below (Below.refl _ _).drew
theorem SG.alloc {rb : Nat} {cs : Array Value} {W : World} (h : SG rb cs W) (o : Obj) : SG rb cs (W.alloc o) := h.below ((Below.refl _ _).alloc (Nat.le_refl _) _)
theorem SG.set {rb : Nat} {cs : Array Value} {W : World} (h : SG rb cs W) (b o : Nat) (v : Value) (h1 : rb ≠ b) : SG rb cs (W.setCell ⟨b, o, none⟩ v) :=
  ⟨fun i => by rw [← h.1 i]; exact World.cell?_of_block (w := W) (Below.heap_setCell _ _ _ _ h1), by simp [World.setCell]; exact h.2⟩

def PartsC (S : List Nat) (rb mb : Nat) (cs : Array Value) (ov : Nat → Value) (st : St) (steps : Int) (k : Nat) : Prop := ∀ (f t : Nat) (w : World), RefG w S rb mb cs ov st steps → st.node f t → t - f ≤ k + 1 →
    Calls Tryz.prog 64 #[.pointer (some ⟨rb, 0, none⟩), .int .i64 f, .int .i64 t] w fun e w' => ∃ v, e = .returned v ∧ Below w.heap.size w w' ∧ Its w' w.heap.size v (st.parts k f t)

set_option maxRecDepth 20000 in
set_option maxHeartbeats 2000000 in
theorem refParts_step (S : List Nat) (rb mb : Nat) (cs : Array Value) (ov : Nat → Value) (st : St) (steps : Int) (ok : st.Ok) (k : Nat) (ih : ∀ k', k = k' + 1 → PartsC S rb mb cs ov st steps k') : PartsC S rb mb cs ov st steps k := by
  intro f t w hr hnode hk
  obtain ⟨hft, htn⟩ := St.node_in ok hnode
  have h16 := ok.n16
  have hsg : SG rb (CellsG st steps mb) w := ⟨(row_facts' hr.2.2.2.1).1, (Array.getElem?_eq_some_iff.1 hr.2.2.2.1).1⟩
  have hA := hsg.1
  have HM : Hid (∀ i, i < st.n → w.cell? ⟨mb, i * 3, none⟩ = some (.bool (st.m i).begun)) := fun i hi => (hr.cells i hi).2.2.1
  have HR : Hid (RefG w S rb mb cs ov st steps) := hr
  have HNODE : Hid (st.node f t) := hnode
  have HIH : Hid (∀ k', k = k' + 1 → PartsC S rb mb cs ov st steps k') := ih
  have HP : Hid (∀ W, Calls Tryz.prog 96 #[Agg8 st.s, .int .i64 0, .int .i64 st.n, .int .i64 f, .int .i64 t] W fun e w' => e = .returned (Agg8 (st.part f t)) ∧ Below W.heap.size W w') := fun W => refPartG_any 16 st.s ok.hs 0 st.n f t W ok.n16 hnode
  have HL1 : Hid (st.begun f t = false → st.parts k f t = [⟨0, f, t, 0, st.part f t⟩]) := st.parts_not k f t
  have HL2 : Hid (st.begun f t = true → t - f = 1 → st.parts k f t = []) := st.parts_one k f t
  obtain ⟨L, hL⟩ : ∃ L, st.parts k f t = L := ⟨_, rfl⟩
  rw [hL] at HL1 HL2 ⊢
  have HL : Hid (st.parts k f t = L) := hL
  obtain ⟨X, hX⟩ : ∃ X, st.part f t = X := ⟨_, rfl⟩
  rw [hX] at HL1 HP
  clear hr hnode ih hL hX
  go_enter Tryz.func64, Tryz.ntmps64
  go_wp2_with fail
  go_loopg [7, 8] (t - f) (fun k b i wr => ∃ j : Nat, i = .int .i64 j ∧ f ≤ j ∧ j + k = t ∧ b = .bool (st.begun f j) ∧ wr = w)
  case atStart => exact ⟨f, rfl, Nat.le_refl _, by omega, by rw [St.begun_self], rfl⟩
  case round =>
    obtain ⟨j, rfl, hj1, hj2, rfl, rfl⟩ := hrel
    by_cases hlt : j < t
    · have hstep := St.begun_step st f j hj1
      have HST : Hid (st.begun f (j + 1) = (st.begun f j || (st.m j).begun)) := hstep
      have hm := HM.out j (by omega)
      clear hstep
      cases hb : st.begun f j with
      | true =>
        rw [hb] at HST
        go_wp2_with fail
        go_roundg (gk - 1)
        case measure => omega
        case rel => exact ⟨j + 1, by go_num, by omega, by omega, by rw [HST.out]; rfl, rfl⟩
      | false =>
        rw [hb] at HST
        go_wp2_with fail
        go_roundg (gk - 1)
        case measure => omega
        case rel => exact ⟨j + 1, by go_num, by omega, by omega, by rw [HST.out]; simp, rfl⟩
    · obtain rfl : j = t := by omega
      clear hlt
      cases hb : st.begun f j with
      | false =>
        have hLe := HL1.out hb
        subst hLe
        have hn1 : rb ≠ wr.heap.size := by have := hsg.2; omega
        go_upto_region 7 with fail
        go_cut [9] (fun s9 wy => ∃ kb, s9 = .pointer (some ⟨kb, 0, none⟩) ∧ wy.heap[kb]? = some (.cells (Cells8 X) 47 (0, 0)) ∧ Below wr.heap.size wr wy)
        case first =>
          go_region_held3 (fun W => SG rb (CellsG st steps mb) W) ((with_reducible first | exact hsg.drew | exact (SG.alloc hsg _).drew | (refine SG.set (SG.set (SG.set (SG.set (SG.set (SG.set (SG.set (SG.set ?_ _ _ _ hn1) _ _ _ hn1) _ _ _ hn1) _ _ _ hn1) _ _ _ hn1) _ _ _ hn1) _ _ _ hn1) _ _ _ hn1; assumption) | exact SG.alloc (by assumption) _ | exact SG.below (by assumption) hb1 | exact SG.below (SG.alloc hsg _).drew hb1 | exact SG.below hsg.drew hb1 | exact SG.alloc (SG.below hsg.drew hb1) _)) ((go_at_call 96; refine (HP.out _).mono ?_; rintro e w1 ⟨rfl, hb1⟩; obtain ⟨hc1, hf1⟩ := bcell hb1))
          · go_wp2_with fail
            go_meet
            exact ⟨w1.heap.size, rfl, (MapKept.heap_alloc _ _).1, ((Below.refl _ wr).drew.trans hb1).alloc hb1.size _⟩
          · go_wp2_with fail
            go_meet
            obtain ⟨hk1, hk2⟩ := newcell' wr w1 hb1
            rw [stores8_row w1 wr.heap.size _ _ X hk2]
            exact ⟨wr.heap.size, rfl, setRow_heap _ _ _ _ _ _ hk2, below_setRow hk1 (Nat.le_refl _) _⟩
        case rest =>
          obtain ⟨kb, rfl, hkb, hbel⟩ := hcut
          have hz := hbel.size
          go_wp2_with (refine wpList_load_row rfl 47 _ rfl kb rfl 47 (Cells8 X) (0, 0) _ hkb Tryz.underlying47 rfl (by kernel_rfl) ?_)
          go_ret
          exact ⟨_, rfl, hbel.alloc hz _, Its.one wc wr.heap.size hz ⟨0, f, j, 0, X⟩⟩
      | true =>
        by_cases h1 : j - f = 1
        · have hLe := HL2.out hb h1
          subst hLe
          go_wp2_with fail
          go_ret
          exact ⟨_, rfl, Below.refl _ _, Its.nil _ _⟩
        · obtain ⟨k', rfl⟩ : ∃ k', k = k' + 1 := ⟨k - 1, by omega⟩
          have hq := SplitN_bd (j - f) (by omega)
          have hpt := St.parts_two st k' f j hb h1
          rw [HL.out] at hpt
          subst hpt
          obtain ⟨⟨hn1, _⟩, hn2, _⟩ := St.halves ok HNODE.out (by omega)
          have HSP : Hid (∀ W, Calls Tryz.prog 97 #[.int .i64 ((j : Int) - f)] W fun e w' => e = .returned (.int .i64 (SplitN (j - f))) ∧ w' = W) := fun W => by
            have h := split_any ((j : Int) - f) (by omega) (by omega) W
            have e1 : ((j : Int) - f) = ((j - f : Nat) : Int) := by omega
            rw [e1] at h ⊢
            rw [SplitN_eq] at h
            exact h
          have lq1 := St.parts_len st k' f (f + SplitN (j - f)) (by omega)
          have lq2 := St.parts_len st k' (f + SplitN (j - f)) j (by omega)
          have HC1 : Hid (∀ W, RefG W S rb mb cs ov st steps → Calls Tryz.prog 64 #[.pointer (some ⟨rb, 0, none⟩), .int .i64 f, .int .i64 ((f : Int) + SplitN (j - f))] W fun e w' => ∃ v, e = .returned v ∧ Below W.heap.size W w' ∧ Its w' W.heap.size v (st.parts k' f (f + SplitN (j - f)))) := fun W hW => HIH.out k' rfl f (f + SplitN (j - f)) W hW hn1 (by omega)
          have HC2 : Hid (∀ W, RefG W S rb mb cs ov st steps → Calls Tryz.prog 64 #[.pointer (some ⟨rb, 0, none⟩), .int .i64 ((f : Int) + SplitN (j - f)), .int .i64 j] W fun e w' => ∃ v, e = .returned v ∧ Below W.heap.size W w' ∧ Its w' W.heap.size v (st.parts k' (f + SplitN (j - f)) j)) := fun W hW => HIH.out k' rfl (f + SplitN (j - f)) j W hW hn2 (by omega)
          obtain ⟨P1, hP1⟩ : ∃ P1, st.parts k' f (f + SplitN (j - f)) = P1 := ⟨_, rfl⟩
          obtain ⟨P2, hP2⟩ : ∃ P2, st.parts k' (f + SplitN (j - f)) j = P2 := ⟨_, rfl⟩
          rw [hP1] at HC1 lq1
          rw [hP2] at HC2 lq2
          have HPP : Hid (st.parts k' f (f + SplitN (j - f)) = P1 ∧ st.parts k' (f + SplitN (j - f)) j = P2) := ⟨hP1, hP2⟩
          obtain ⟨q, hqe⟩ : ∃ q, SplitN (j - f) = q := ⟨_, rfl⟩
          rw [hqe] at HC1 HC2 HSP hq lq1 lq2
          clear hP1 hP2 hqe HL HL1 HL2 HIH HNODE hn1 hn2 HP
          go_wp2_with (go_at_call 97; refine (HSP.out _).mono ?_; rintro e w' ⟨rfl, rfl⟩)
          refine (HC1.out _ HR.out).mono ?_
          rintro e w1 ⟨v1, rfl, b1, i1⟩
          have hr1 := HR.out.below b1
          have HI1 : Hid (Its w1 w'.heap.size v1 P1) := i1
          have HR1 : Hid (RefG w1 S rb mb cs ov st steps) := hr1
          clear i1 hr1
          go_wp2_with fail
          refine (HC2.out _ HR1.out).mono ?_
          rintro e w2 ⟨v2, rfl, b2, i2⟩
          have hz1 := b1.size
          have hz2 := b2.size
          obtain ⟨v3, w3, hrun, i3, b3, _⟩ := its_append w2 w'.heap.size w1.heap.size v1 v2 P1 P2 (HI1.out.below b2) i2 (by omega) (by omega) 41
          have HRUN : Hid ((Builtin.append_ #[41, 41] 41 #[v1, v2]).run Tryz.prog w2 = .ok v3 w3) := hrun
          have HI3 : Hid (Its w3 w'.heap.size v3 (P1 ++ P2)) := i3
          clear hrun i3 i2
          go_wp2_with (at_builtin; refine wpList_app rfl _ _ 41 41 rfl rfl _ _ _ _ rfl rfl HRUN.out ?_)
          go_ret
          refine ⟨_, rfl, (b1.trans (b2.mono hz1)).trans b3, ?_⟩
          rw [HPP.out.1, HPP.out.2]
          exact HI3.out

theorem refParts_any (S : List Nat) (rb mb : Nat) (cs : Array Value) (ov : Nat → Value) (st : St) (steps : Int) (ok : st.Ok) (k : Nat) : PartsC S rb mb cs ov st steps k := by
  induction k with
  | zero => exact refParts_step S rb mb cs ov st steps ok 0 (fun k' h => by omega)
  | succ k ih => exact refParts_step S rb mb cs ov st steps ok (k + 1) (fun k' h => by cases h; exact ih)
end Go.Proofs.YtpfijaclghdcdaaGreatDoor

/- (*epochref.Group).Dump. -/
namespace Go.Proofs.YtpfijaclghdcdaaGreatDoor
open Go.RowKit
set_option linter.unusedVariables false

theorem SL.belowB {rb mb : Nat} {st : St} {bd : Int} {who : Nat} {W W' : World} {B : Nat} (h : SL rb mb st bd who W) (hb : Below B W W') (h1 : rb < B) (h2 : mb < B) : SL rb mb st bd who W' := by
  obtain ⟨a1, a2, a3, a4⟩ := h
  have := hb.size
  exact ⟨fun o => by rw [hb.cell (p := ⟨rb, o, none⟩) h1, a1], by rw [hb.cell (p := ⟨mb, who * 3 + 1, none⟩) h2, a2], by omega, by omega⟩
theorem refRatchet_at (st : St) (ok : st.Ok) (who gen : Nat) (hw : who < st.n) (hg : gen ≤ 65535) (W : World) :
    Calls Tryz.prog 65 #[Agg8 st.s, .int .i64 st.n, .int .i64 who, .int .i64 gen] W fun e w' => e = .returned (Agg8 (st.ratAt who gen)) ∧ Below W.heap.size W w' :=
  refRatchet_any st.s ok.hs st.n who (by have := ok.n16; omega) (by omega) (by omega) gen hg W

/-- what the loads of a region read of a key that was passed over -/
abbrev SO (rb mb ob off len cap : Nat) (cg : Array Value) (who q : Nat) (g : Int) (W : World) : Prop := (∀ o, W.cell? ⟨rb, o, none⟩ = cg[o]?) ∧ W.cell? ⟨mb, who * 3 + 2, none⟩ = some (.slice (some ⟨ob, off, none⟩) len cap) ∧ W.cell? ⟨ob, off + q, none⟩ = some (.int .i64 g) ∧ rb < W.heap.size ∧ mb < W.heap.size ∧ ob < W.heap.size
theorem SO.below {rb mb ob off len cap : Nat} {cg : Array Value} {who q : Nat} {g : Int} {W W' : World} (h : SO rb mb ob off len cap cg who q g W) (hb : Below W.heap.size W W') : SO rb mb ob off len cap cg who q g W' := by
  obtain ⟨h1, h2, h3, h4, h5, h6⟩ := h
  have := hb.size
  exact ⟨fun o => by rw [hb.cell (p := ⟨rb, o, none⟩) h4, h1], by rw [hb.cell (p := ⟨mb, who * 3 + 2, none⟩) h5, h2], by rw [hb.cell (p := ⟨ob, off + q, none⟩) h6, h3], by omega, by omega, by omega⟩
theorem SO.drew {rb mb ob off len cap : Nat} {cg : Array Value} {who q : Nat} {g : Int} {W : World} (h : SO rb mb ob off len cap cg who q g W) : SO rb mb ob off len cap cg who q g W.drew := h.below (Below.refl _ _).drew
theorem SO.alloc {rb mb ob off len cap : Nat} {cg : Array Value} {who q : Nat} {g : Int} {W : World} (h : SO rb mb ob off len cap cg who q g W) (o : Obj) : SO rb mb ob off len cap cg who q g (W.alloc o) := h.below ((Below.refl _ _).alloc (Nat.le_refl _) _)
theorem SO.set {rb mb ob off len cap : Nat} {cg : Array Value} {who q : Nat} {g : Int} {W : World} (h : SO rb mb ob off len cap cg who q g W) (b o : Nat) (v : Value) (h1 : rb ≠ b) (h2 : mb ≠ b) (h3 : ob ≠ b) : SO rb mb ob off len cap cg who q g (W.setCell ⟨b, o, none⟩ v) := by
  obtain ⟨a1, a2, a3, a4, a5, a6⟩ := h
  refine ⟨fun i => ?_, ?_, ?_, by simp [World.setCell]; exact a4, by simp [World.setCell]; exact a5, by simp [World.setCell]; exact a6⟩
  · rw [← a1 i]; exact World.cell?_of_block (w := W) (Below.heap_setCell _ _ _ _ h1)
  · rw [← a2]; exact World.cell?_of_block (w := W) (Below.heap_setCell _ _ _ _ h2)
  · rw [← a3]; exact World.cell?_of_block (w := W) (Below.heap_setCell _ _ _ _ h3)
theorem RefG.over {w : World} {S : List Nat} {rb mb : Nat} {cs : Array Value} {ov : Nat → Value} {st : St} {steps : Int} (h : RefG w S rb mb cs ov st steps) (i : Nat) (hi : i < st.n) :
    ∃ p cap, w.cell? ⟨mb, i * 3 + 2, none⟩ = some (.slice p (st.m i).over.length cap) ∧ ((st.m i).over = [] ∨ ∃ ob off, p = some ⟨ob, off, none⟩ ∧ ob < w.heap.size ∧ ∀ j (hj : j < (st.m i).over.length), w.cell? ⟨ob, off + j, none⟩ = some (.int .i64 ((st.m i).over[j] : Int))) := by
  obtain ⟨h1, h2, h3, h4, h5, h6, h7⟩ := h
  obtain ⟨hM, _⟩ := row_facts' h5
  obtain ⟨p, cap, hv, _, hc0⟩ := h7 i hi
  have hc := hc0.imp (fun h => h.1) id
  refine ⟨p, cap, by rw [hM, Nat.mul_comm, (h6.2 i hi).2.2, hv], ?_⟩
  rcases hc with hc | ⟨ob, off, hp, _, _, _, hc⟩
  · exact .inl hc
  · by_cases he : (st.m i).over = []
    · exact .inl he
    · refine .inr ⟨ob, off, hp, ?_, hc⟩
      exact block_lt_of_cell (hc 0 (List.length_pos_iff.2 he))

theorem refDump_closed (S : List Nat) (rb mb : Nat) (cs : Array Value) (ov : Nat → Value) (st : St) (steps : Int) (w : World) (h : RefG w S rb mb cs ov st steps) (hc : st.closed = true) :
    Calls Tryz.prog 46 #[.pointer (some ⟨rb, 0, none⟩)] w fun e w' => ∃ v, e = .returned v ∧ Below w.heap.size w w' ∧ Its w' w.heap.size v st.dump := by
  have hd : st.dump = [] := by unfold St.dump; rw [hc]; rfl
  rw [hd]
  have hA := (row_facts' h.2.2.2.1).1
  go_enter Tryz.func46, Tryz.ntmps46
  go_wp2_with fail
  go_ret
  exact ⟨_, rfl, Below.refl _ _, Its.nil _ _⟩

set_option maxRecDepth 20000 in
set_option maxHeartbeats 8000000 in
theorem refDump_open (S : List Nat) (rb mb : Nat) (cs : Array Value) (ov : Nat → Value) (st : St) (steps : Int) (ok : st.Ok) (w : World) (h : RefG w S rb mb cs ov st steps) (hc : st.closed = false) :
    Calls Tryz.prog 46 #[.pointer (some ⟨rb, 0, none⟩)] w fun e w' => ∃ v, e = .returned v ∧ Below w.heap.size w w' ∧ Its w' w.heap.size v st.dump := by
  have hd : st.dump = st.parts 16 0 st.n ++ st.heads st.n ++ st.kepts st.n := by unfold St.dump; rw [hc]; rfl
  rw [hd]
  clear hd
  have hn1 := ok.n1
  have h16 := ok.n16
  have HPA : Hid (∀ W, RefG W S rb mb cs ov st steps → Calls Tryz.prog 64 #[.pointer (some ⟨rb, 0, none⟩), .int .i64 0, .int .i64 st.n] W fun e w' => ∃ v, e = .returned v ∧ Below W.heap.size W w' ∧ Its w' W.heap.size v (st.parts 16 0 st.n)) := fun W hW => refParts_any S rb mb cs ov st steps ok 16 0 st.n W hW st.node_all (by omega)
  have HLP : Hid ((st.parts 16 0 st.n).length ≤ 16) := Nat.le_trans (st.parts_len 16 0 st.n hn1) (by omega)
  obtain ⟨PA, hPA⟩ : ∃ PA, st.parts 16 0 st.n = PA := ⟨_, rfl⟩
  rw [hPA] at HPA HLP ⊢
  clear hPA
  have hl1 : rb < w.heap.size := (Array.getElem?_eq_some_iff.1 h.2.2.2.1).1
  have hl2 : mb < w.heap.size := (Array.getElem?_eq_some_iff.1 h.2.2.2.2.1).1
  have HR : Hid (RefG w S rb mb cs ov st steps) := h
  have hA := (row_facts' h.2.2.2.1).1
  clear h
  go_enter Tryz.func46, Tryz.ntmps46
  go_wp2_with fail
  refine (HPA.out _ HR.out).mono ?_
  rintro e w1 ⟨v1, rfl, b1, i1⟩
  have HB1 : Hid (Below w.heap.size w w1 ∧ Its w1 w.heap.size v1 PA) := ⟨b1, i1⟩
  clear b1 i1 hA HPA
  go_wp2_with fail
  go_loopg [3, 4] st.n (fun k l i wr => ∃ j : Nat, i = .int .i64 j ∧ j + k = st.n ∧ Below w.heap.size w wr ∧ Its wr w.heap.size l (PA ++ st.heads j))
  case atStart => exact ⟨0, rfl, by omega, HB1.out.1, by rw [show st.heads 0 = [] from rfl, List.append_nil]; exact HB1.out.2⟩
  case round =>
    obtain ⟨j, rfl, hjk, hb, hit⟩ := hrel
    have hr := HR.out.below hb
    have HH : Hid (Below w.heap.size w wr ∧ Its wr w.heap.size u3 (PA ++ st.heads j) ∧ RefG wr S rb mb cs ov st steps) := ⟨hb, hit, hr⟩
    have hA := (row_facts' hr.2.2.2.1).1
    clear hb hit
    by_cases hlt : j < st.n
    · obtain ⟨c1, c2, c3, c4, c5⟩ := hr.cells j hlt
      clear c1 c2 c5 hr
      have HHD : Hid (st.heads (j + 1) = st.heads j ++ (if (st.m j).begun && decide ((st.m j).next ≤ 65535) then [⟨1, j, j + 1, (st.m j).next, st.ratAt j (st.m j).next⟩] else [])) := rfl
      cases hbeg : (st.m j).begun with
      | false =>
        go_wp2_with fail
        go_roundg (gk - 1)
        case measure => omega
        case rel => exact ⟨j + 1, by go_num, by omega, HH.out.1, by rw [HHD.out, hbeg]; simp; exact HH.out.2.1⟩
      | true =>
        by_cases hnx : (st.m j).next ≤ 65535
        · have HRT : Hid (∀ W, Calls Tryz.prog 65 #[Agg8 st.s, .int .i64 st.n, .int .i64 j, .int .i64 (st.m j).next] W fun e w' => e = .returned (Agg8 (st.ratAt j (st.m j).next)) ∧ Below W.heap.size W w') := fun W => refRatchet_at st ok j (st.m j).next hlt hnx W
          obtain ⟨X, hX⟩ : ∃ X, st.ratAt j (st.m j).next = X := ⟨_, rfl⟩
          rw [hX] at HRT HHD
          clear hX
          have hsl := HH.out.2.2.sl j hlt
          have hn1 : rb ≠ wr.heap.size := by have := hsl.2.2.1; omega
          have hn2 : mb ≠ wr.heap.size := by have := hsl.2.2.2; omega
          go_upto_region 8 with fail
          go_cut [5] (fun s5 wy => ∃ kb, s5 = .pointer (some ⟨kb, 0, none⟩) ∧ wy.heap[kb]? = some (.cells (Cells8 X) 47 (0, 0)) ∧ Below wr.heap.size wr wy)
          case first =>
            clear c3 c4 hA
            go_region_held3 (fun W => SL rb mb st steps j W) ((with_reducible first | exact hsl.drew | exact (SL.alloc hsl _).drew | (refine SL.set (SL.set (SL.set (SL.set (SL.set (SL.set (SL.set (SL.set ?_ _ _ _ hn1 hn2) _ _ _ hn1 hn2) _ _ _ hn1 hn2) _ _ _ hn1 hn2) _ _ _ hn1 hn2) _ _ _ hn1 hn2) _ _ _ hn1 hn2) _ _ _ hn1 hn2; assumption) | exact SL.alloc (by assumption) _ | exact SL.below (by assumption) hb1 | exact SL.below (SL.alloc hsl _).drew hb1 | exact SL.below hsl.drew hb1 | exact SL.alloc (SL.below hsl.drew hb1) _)) ((go_at_call 65; refine (HRT.out _).mono ?_; rintro e w1 ⟨rfl, hb1⟩; obtain ⟨hc1, hf1⟩ := bcell hb1))
            · go_wp2_with fail
              go_meet
              exact ⟨w1.heap.size, rfl, (MapKept.heap_alloc _ _).1, ((Below.refl _ wr).drew.trans hb1).alloc hb1.size _⟩
            · go_wp2_with fail
              go_meet
              obtain ⟨hk1, hk2⟩ := newcell' wr w1 hb1
              rw [stores8_row w1 wr.heap.size _ _ X hk2]
              exact ⟨wr.heap.size, rfl, setRow_heap _ _ _ _ _ _ hk2, below_setRow hk1 (Nat.le_refl _) _⟩
          case rest =>
            obtain ⟨kb, rfl, hkb, hbel⟩ := hcut
            have hz0 := HH.out.1.size
            have hz := hbel.size
            clear hA c3 c4 hsl HRT
            have hr2 := HH.out.2.2.below hbel
            obtain ⟨c1, c2, c3, c4, c5⟩ := hr2.cells j hlt
            obtain ⟨hkA, _⟩ := row_facts' hkb
            have hi2 : Its (wc.alloc (.cells (It.cells ⟨1, j, j + 1, (st.m j).next, X⟩).toArray 49)).drew w.heap.size u3 (PA ++ st.heads j) := (HH.out.2.1.below hbel).below (((Below.refl _ wc).alloc (Nat.le_refl _) _).drew)
            have hi1 : Its (wc.alloc (.cells (It.cells ⟨1, j, j + 1, (st.m j).next, X⟩).toArray 49)).drew w.heap.size (.slice (some ⟨wc.heap.size, 0, none⟩) 1 1) [⟨1, j, j + 1, (st.m j).next, X⟩] := (Its.one wc w.heap.size (by omega) ⟨1, j, j + 1, (st.m j).next, X⟩).below (Below.refl _ _).drew
            have hlen := st.heads_len j
            obtain ⟨v3, w3, hrun, i3, b3, z3⟩ := its_append _ w.heap.size w.heap.size u3 _ _ _ hi2 hi1 (by show _ ≤ (World.alloc _ _).heap.size; simp; omega) (by have := HLP.out; simp; omega) 41
            have HRUN : Hid ((Builtin.append_ #[41, 41] 41 #[u3, .slice (some ⟨wc.heap.size, 0, none⟩) 1 1]).run Tryz.prog (wc.alloc (.cells (It.cells ⟨1, j, j + 1, (st.m j).next, X⟩).toArray 49)).drew = .ok v3 w3) := hrun
            have HI3 : Hid (Its w3 w.heap.size v3 ((PA ++ st.heads j) ++ [⟨1, j, j + 1, (st.m j).next, X⟩])) := i3
            have HB3 : Hid (Below w.heap.size w w3) := (((HH.out.1.trans (hbel.mono hz0)).alloc (by omega) _).drew).trans b3
            clear hi1 hi2 hrun i3 b3 hr2 hbel hkb
            have hwr : IntKind.i64.wrap ((j : Int) + 1) = (j : Int) + 1 := by rw [IntKind.wrap_i64]; omega
            go_upto_region 9 with fail
            go_region_law (refine step_app rfl (.tmp 65) (.tmp 79) 41 41 rfl rfl u3 (.slice (some ⟨wc.heap.size, 0, none⟩) 1 1) v3 w3 rfl rfl HRUN.out ?_)
            all_goals
              go_wp2_with fail
              go_roundg (gk - 1)
              case measure => omega
              case rel => exact ⟨j + 1, by go_num, by omega, HB3.out, by rw [HHD.out, hbeg, decide_eq_true hnx, ← List.append_assoc]; exact HI3.out⟩
        · have hnx' : ¬ ((st.m j).next : Int) ≤ 65535 := by omega
          go_wp2_with fail
          go_roundg (gk - 1)
          case measure => omega
          case rel => exact ⟨j + 1, by go_num, by omega, HH.out.1, by rw [HHD.out, hbeg, decide_eq_false hnx]; simp; exact HH.out.2.1⟩
    · obtain rfl : j = st.n := by omega
      clear hr
      go_wp2_with fail
      clear hA hlt
      go_loopg [3, 6] st.n (fun k l i wr2 => ∃ j : Nat, i = .int .i64 j ∧ j + k = st.n ∧ Below w.heap.size w wr2 ∧ Its wr2 w.heap.size l (PA ++ st.heads st.n ++ st.kepts j))
      case atStart => exact ⟨0, rfl, by omega, HH.out.1, by rw [show st.kepts 0 = [] from rfl, List.append_nil]; exact HH.out.2.1⟩
      case round =>
        obtain ⟨j, rfl, hjk2, hb, hit⟩ := hrel
        have hr := HR.out.below hb
        have hA := (row_facts' hr.2.2.2.1).1
        by_cases hlt : j < st.n
        · have HH2 : Hid (Below w.heap.size w wr ∧ Its wr w.heap.size u3 (PA ++ st.heads st.n ++ st.kepts j)) := ⟨hb, hit⟩
          have HKP : Hid (st.kepts (j + 1) = st.kepts j ++ st.kept1 j (st.m j).over) := rfl
          have hov4 := (ok.m j).2.1
          clear hr hb hit
          go_wp2_with fail
          clear hA
          go_loopg [3, 7] (st.m j).over.length (fun k l c wr3 => ∃ q : Nat, c = .int .i64 q ∧ q + k = (st.m j).over.length ∧ Below w.heap.size w wr3 ∧ Its wr3 w.heap.size l (PA ++ st.heads st.n ++ st.kepts j ++ st.kept1 j ((st.m j).over.take q)))
          case atStart => exact ⟨0, rfl, by omega, HH2.out.1, by rw [List.take_zero, show st.kept1 j [] = [] from rfl, List.append_nil]; exact HH2.out.2⟩
          case round =>
            obtain ⟨q, rfl, hqk, hb, hit⟩ := hrel
            have hr := HR.out.below hb
            have hA := (row_facts' hr.2.2.2.1).1
            obtain ⟨p, cap, hov, hoc⟩ := hr.over j hlt
            have HH3 : Hid (Below w.heap.size w wr ∧ Its wr w.heap.size u3 (PA ++ st.heads st.n ++ st.kepts j ++ st.kept1 j ((st.m j).over.take q))) := ⟨hb, hit⟩
            have HR3 : Hid (RefG wr S rb mb cs ov st steps) := hr
            clear hb hit hr
            by_cases hq : q < (st.m j).over.length
            · rcases hoc with he | ⟨ob, off, rfl, hobl, hcell⟩
              · rw [he] at hq; simp at hq
              · have hcq := hcell q hq
                have hg65 : (st.m j).over[q] ≤ 65535 := (ok.m j).2.2.1 _ (List.getElem_mem hq)
                have HTK : Hid (st.kept1 j ((st.m j).over.take (q + 1)) = st.kept1 j ((st.m j).over.take q) ++ [⟨2, j, j + 1, (st.m j).over[q], KeyM st.s st.n j (st.m j).over[q]⟩]) := by
                  unfold St.kept1
                  show List.map _ _ = _
                  rw [List.take_succ_eq_append_getElem hq, List.map_append]
                  rfl
                obtain ⟨g, hg⟩ : ∃ g, (st.m j).over[q] = g := ⟨_, rfl⟩
                rw [hg] at hcq hg65 HTK
                clear hg hcell
                have HKY : Hid (∀ W, Calls Tryz.prog 66 #[Agg8 st.s, .int .i64 st.n, .int .i64 j, .int .i64 g] W fun e w' => e = .returned (.tuple #[Agg8 (KeyM st.s st.n j g), .int .i64 0]) ∧ Below W.heap.size W w') := fun W => refKey_at st ok j g hlt hg65 W
                obtain ⟨X, hX⟩ : ∃ X, KeyM st.s st.n j g = X := ⟨_, rfl⟩
                rw [hX] at HKY HTK
                clear hX
                have hl1' : rb < wr.heap.size := (Array.getElem?_eq_some_iff.1 HR3.out.2.2.2.1).1
                have hl2' : mb < wr.heap.size := (Array.getElem?_eq_some_iff.1 HR3.out.2.2.2.2.1).1
                obtain ⟨N4, hN4⟩ : ∃ N4, (st.m j).over.length = N4 := ⟨_, rfl⟩
                rw [hN4] at hov hq hqk hov4
                have HN4 : Hid ((st.m j).over.length = N4) := hN4
                clear hN4
                have hso : SO rb mb ob off N4 cap (CellsG st steps mb) j q g wr := ⟨hA, hov, hcq, hl1', hl2', hobl⟩
                have hn1' : rb ≠ wr.heap.size := by omega
                have hn2' : mb ≠ wr.heap.size := by omega
                have hn3' : ob ≠ wr.heap.size := by omega
                go_upto_region 16 with fail
                go_cut [8] (fun s8 wy => ∃ kb, s8 = .pointer (some ⟨kb, 0, none⟩) ∧ wy.heap[kb]? = some (.cells (Cells8 X) 47 (0, 0)) ∧ Below wr.heap.size wr wy)
                case first =>
                  clear hA hov hcq
                  go_region_held3 (fun W => SO rb mb ob off N4 cap (CellsG st steps mb) j q g W) ((with_reducible first | exact hso.drew | exact (SO.alloc hso _).drew | (refine SO.set (SO.set (SO.set (SO.set (SO.set (SO.set (SO.set (SO.set ?_ _ _ _ hn1' hn2' hn3') _ _ _ hn1' hn2' hn3') _ _ _ hn1' hn2' hn3') _ _ _ hn1' hn2' hn3') _ _ _ hn1' hn2' hn3') _ _ _ hn1' hn2' hn3') _ _ _ hn1' hn2' hn3') _ _ _ hn1' hn2' hn3'; assumption) | exact SO.alloc (by assumption) _ | exact SO.below (by assumption) hb1 | exact SO.below (SO.alloc hso _).drew hb1 | exact SO.below hso.drew hb1 | exact SO.alloc (SO.below hso.drew hb1) _)) ((go_at_call 66; refine (HKY.out _).mono ?_; rintro e w1 ⟨rfl, hb1⟩; obtain ⟨hc1, hf1⟩ := bcell hb1))
                  · go_wp2_with fail
                    go_meet
                    exact ⟨w1.heap.size, rfl, (MapKept.heap_alloc _ _).1, ((Below.refl _ wr).drew.trans hb1).alloc hb1.size _⟩
                  · go_wp2_with fail
                    go_meet
                    obtain ⟨hk1, hk2⟩ := newcell' wr w1 hb1
                    rw [stores8_row w1 wr.heap.size _ _ X hk2]
                    exact ⟨wr.heap.size, rfl, setRow_heap _ _ _ _ _ _ hk2, below_setRow hk1 (Nat.le_refl _) _⟩
                case rest =>
                  obtain ⟨kb, rfl, hkb, hbel⟩ := hcut
                  have hz0 := HH3.out.1.size
                  have hz := hbel.size
                  have hso2 := SO.below hso hbel
                  clear hA hov hcq HKY hso
                  obtain ⟨hA, hov, hcq, hl1'', hl2'', hobl''⟩ := hso2
                  obtain ⟨hkA, _⟩ := row_facts' hkb
                  have hi2 : Its (wc.alloc (.cells (It.cells ⟨2, j, j + 1, g, X⟩).toArray 49)).drew w.heap.size u3 (PA ++ st.heads st.n ++ st.kepts j ++ st.kept1 j ((st.m j).over.take q)) := (HH3.out.2.below hbel).below (((Below.refl _ wc).alloc (Nat.le_refl _) _).drew)
                  have hi1 : Its (wc.alloc (.cells (It.cells ⟨2, j, j + 1, g, X⟩).toArray 49)).drew w.heap.size (.slice (some ⟨wc.heap.size, 0, none⟩) 1 1) [⟨2, j, j + 1, g, X⟩] := (Its.one wc w.heap.size (by omega) ⟨2, j, j + 1, g, X⟩).below (Below.refl _ _).drew
                  have hlen := st.heads_len st.n
                  have hlen2 := st.kepts_len ok j
                  have hlen3 : (st.kept1 j ((st.m j).over.take q)).length ≤ 4 := by
                    unfold St.kept1
                    rw [List.length_map, List.length_take, HN4.out]
                    omega
                  obtain ⟨v3, w3, hrun, i3, b3, z3⟩ := its_append _ w.heap.size w.heap.size u3 _ _ _ hi2 hi1 (by show _ ≤ (World.alloc _ _).heap.size; simp; omega) (by have := HLP.out; simp; omega) 41
                  have HRUN : Hid ((Builtin.append_ #[41, 41] 41 #[u3, .slice (some ⟨wc.heap.size, 0, none⟩) 1 1]).run Tryz.prog (wc.alloc (.cells (It.cells ⟨2, j, j + 1, g, X⟩).toArray 49)).drew = .ok v3 w3) := hrun
                  have HI3 : Hid (Its w3 w.heap.size v3 ((PA ++ st.heads st.n ++ st.kepts j ++ st.kept1 j ((st.m j).over.take q)) ++ [⟨2, j, j + 1, g, X⟩])) := i3
                  have HB3 : Hid (Below w.heap.size w w3) := (((HH3.out.1.trans (hbel.mono hz0)).alloc (by omega) _).drew).trans b3
                  have hwr : IntKind.i64.wrap ((j : Int) + 1) = (j : Int) + 1 := by rw [IntKind.wrap_i64]; omega
                  clear hi1 hi2 hrun i3 b3 hbel hkb
                  go_upto_region 17 with fail
                  go_region_law (refine step_app rfl (.tmp 126) (.tmp 143) 41 41 rfl rfl u3 (.slice (some ⟨wc.heap.size, 0, none⟩) 1 1) v3 w3 rfl rfl HRUN.out ?_)
                  all_goals
                    go_wp2_with fail
                    go_roundg (gk - 1)
                    case measure => omega
                    case rel => exact ⟨q + 1, by go_num, by have := HN4.out; omega, HB3.out, by rw [HTK.out, ← List.append_assoc]; exact HI3.out⟩
            · have hqe : q = (st.m j).over.length := by omega
              clear hoc
              have hlen4 : ¬ (q : Int) < ((st.m j).over.length : Int) := by omega
              go_wp2_with fail
              go_roundg (st.n - (j + 1))
              case measure => omega
              case rel =>
                refine ⟨j + 1, by go_num, by omega, HH3.out.1, ?_⟩
                have h := HH3.out.2
                rw [hqe, List.take_length] at h
                rw [HKP.out, ← List.append_assoc]
                exact h
        · obtain rfl : j = st.n := by omega
          have HH2 : Hid (Below w.heap.size w wr ∧ Its wr w.heap.size u3 (PA ++ st.heads st.n ++ st.kepts st.n)) := ⟨hb, hit⟩
          clear hb hit hr
          go_wp2_with fail
          go_ret
          exact ⟨_, rfl, HH2.out.1, HH2.out.2⟩
end Go.Proofs.YtpfijaclghdcdaaGreatDoor
