import Derived.Test.YtkpebabbnndopaaGreatDoorG05
import Derived.WalkKit
import Derived.WalkSpells
import Derived.WalkLawsBesides
import Derived.Deep.WholeRow
import Derived.Deep.DeepCutAuto
import Derived.Deep.RegionHeld3
import Derived.Deep.RegionLaw
import Derived.Deep.LoopGhost
/- (*epochref.Group).Dump. -/
namespace Go.Proofs.YtkpebabbnndopaaGreatDoor
open Go.RowKit
set_option linter.unusedVariables false

theorem SL.belowB {rb mb : Nat} {st : St} {bd : Int} {who : Nat} {W W' : World} {B : Nat} (h : SL rb mb st bd who W) (hb : Below B W W') (h1 : rb < B) (h2 : mb < B) : SL rb mb st bd who W' := by
  obtain ⟨a1, a2, a3, a4⟩ := h
  have := hb.size
  exact ⟨fun o => by rw [hb.cell (p := ⟨rb, o, none⟩) h1, a1], by rw [hb.cell (p := ⟨mb, who * 3 + 1, none⟩) h2, a2], by omega, by omega⟩
theorem refRatchet_at (st : St) (ok : st.Ok) (who gen : Nat) (hw : who < st.n) (hg : gen ≤ 65535) (W : World) :
    Calls Tryz.prog 83 #[Agg8 st.s, .int .i64 st.n, .int .i64 who, .int .i64 gen] W fun e w' => e = .returned (Agg8 (st.ratAt who gen)) ∧ Below W.heap.size W w' :=
  refRatchet_any st.s ok.hs st.n who (by have := ok.n16; omega) (by omega) (by omega) gen hg W

/-- what the loads of a region read of a key that was passed over -/
abbrev SO (rb mb ob off len cap : Nat) (cg : Array Value) (who q : Nat) (g : Int) (W : World) : Prop := (∀ o, W.cell? ⟨rb, o, none⟩ = cg[o]?) ∧ W.cell? ⟨mb, who * 3 + 2, none⟩ = some (.slice (some ⟨ob, off, none⟩) len cap) ∧ W.cell? ⟨ob, off + q, none⟩ = some (.int .i64 g) ∧ rb < W.heap.size ∧ mb < W.heap.size ∧ ob < W.heap.size
theorem SO.below {rb mb ob off len cap : Nat} {cg : Array Value} {who q : Nat} {g : Int} {W W' : World} (h : SO rb mb ob off len cap cg who q g W) (hb : Below W.heap.size W W') : SO rb mb ob off len cap cg who q g W' := by
  obtain ⟨h1, h2, h3, h4, h5, h6⟩ := h
  have := hb.size
  exact ⟨fun o => by rw [hb.cell (p := ⟨rb, o, none⟩) h4, h1], by rw [hb.cell (p := ⟨mb, who * 3 + 2, none⟩) h5, h2], by rw [hb.cell (p := ⟨ob, off + q, none⟩) h6, h3], by omega, by omega, by omega⟩
theorem SO.drew {rb mb ob off len cap : Nat} {cg : Array Value} {who q : Nat} {g : Int} {W : World} (h : SO rb mb ob off len cap cg who q g W) : SO rb mb ob off len cap cg who q g W.drew := h.below (Below.refl _ _).drew
theorem SO.alloc {rb mb ob off len cap : Nat} {cg : Array Value} {who q : Nat} {g : Int} {W : World} (h : SO rb mb ob off len cap cg who q g W) (o : Obj) : SO rb mb ob off len cap cg who q g (W.alloc o) := h.below ((Below.refl _ _).alloc (Nat.le_refl _) _)
theorem SO.set {rb mb ob off len cap : Nat} {cg : Array Value} {who q : Nat} {g : Int} {W : World} (h : SO rb mb ob off len cap cg who q g W) (b o : Nat) (v : Value) (h1 : rb ≠ b) (h2 : mb ≠ b) (h3 : ob ≠ b) : SO rb mb ob off len cap cg who q g (W.setCell ⟨b, o, none⟩ v) := by
  obtain ⟨a1, a2, a3, a4, a5, a6⟩ := h
  refine ⟨fun i => ?_, ?_, ?_, by simp [World.setCell]; exact a4, by simp [World.setCell]; exact a5, by simp [World.setCell]; exact a6⟩
  · rw [← a1 i]; exact World.cell?_of_block (w := W) (Below.heap_setCell _ _ _ _ h1)
  · rw [← a2]; exact World.cell?_of_block (w := W) (Below.heap_setCell _ _ _ _ h2)
  · rw [← a3]; exact World.cell?_of_block (w := W) (Below.heap_setCell _ _ _ _ h3)
theorem RefG.over {w : World} {S : List Nat} {rb mb : Nat} {cs : Array Value} {ov : Nat → Value} {st : St} {steps : Int} (h : RefG w S rb mb cs ov st steps) (i : Nat) (hi : i < st.n) :
    ∃ p cap, w.cell? ⟨mb, i * 3 + 2, none⟩ = some (.slice p (st.m i).over.length cap) ∧ ((st.m i).over = [] ∨ ∃ ob off, p = some ⟨ob, off, none⟩ ∧ ob < w.heap.size ∧ ∀ j (hj : j < (st.m i).over.length), w.cell? ⟨ob, off + j, none⟩ = some (.int .i64 ((st.m i).over[j] : Int))) := by
  obtain ⟨h1, h2, h3, h4, h5, h6, h7⟩ := h
  obtain ⟨hM, _⟩ := row_facts' h5
  obtain ⟨p, cap, hv, _, hc0⟩ := h7 i hi
  have hc := hc0.imp (fun h => h.1) id
  refine ⟨p, cap, by rw [hM, Nat.mul_comm, (h6.2 i hi).2.2, hv], ?_⟩
  rcases hc with hc | ⟨ob, off, hp, _, _, _, hc⟩
  · exact .inl hc
  · by_cases he : (st.m i).over = []
    · exact .inl he
    · refine .inr ⟨ob, off, hp, ?_, hc⟩
      exact block_lt_of_cell (hc 0 (List.length_pos_iff.2 he))

theorem refDump_closed (S : List Nat) (rb mb : Nat) (cs : Array Value) (ov : Nat → Value) (st : St) (steps : Int) (w : World) (h : RefG w S rb mb cs ov st steps) (hc : st.closed = true) :
    Calls Tryz.prog 70 #[.pointer (some ⟨rb, 0, none⟩)] w fun e w' => ∃ v, e = .returned v ∧ Below w.heap.size w w' ∧ Its w' w.heap.size v st.dump := by
  have hd : st.dump = [] := by unfold St.dump; rw [hc]; rfl
  rw [hd]
  have hA := (row_facts' h.2.2.2.1).1
  go_enter Tryz.func70, Tryz.ntmps70
  go_wp2_with fail
  go_ret
  exact ⟨_, rfl, Below.refl _ _, Its.nil _ _⟩

set_option maxRecDepth 20000 in
set_option maxHeartbeats 8000000 in
theorem refDump_open (S : List Nat) (rb mb : Nat) (cs : Array Value) (ov : Nat → Value) (st : St) (steps : Int) (ok : st.Ok) (w : World) (h : RefG w S rb mb cs ov st steps) (hc : st.closed = false) :
    Calls Tryz.prog 70 #[.pointer (some ⟨rb, 0, none⟩)] w fun e w' => ∃ v, e = .returned v ∧ Below w.heap.size w w' ∧ Its w' w.heap.size v st.dump := by
  have hd : st.dump = st.parts 16 0 st.n ++ st.heads st.n ++ st.kepts st.n := by unfold St.dump; rw [hc]; rfl
  rw [hd]
  clear hd
  have hn1 := ok.n1
  have h16 := ok.n16
  have HPA : Hid (∀ W, RefG W S rb mb cs ov st steps → Calls Tryz.prog 102 #[.pointer (some ⟨rb, 0, none⟩), .int .i64 0, .int .i64 st.n] W fun e w' => ∃ v, e = .returned v ∧ Below W.heap.size W w' ∧ Its w' W.heap.size v (st.parts 16 0 st.n)) := fun W hW => refParts_any S rb mb cs ov st steps ok 16 0 st.n W hW st.node_all (by omega)
  have HLP : Hid ((st.parts 16 0 st.n).length ≤ 16) := Nat.le_trans (st.parts_len 16 0 st.n hn1) (by omega)
  obtain ⟨PA, hPA⟩ : ∃ PA, st.parts 16 0 st.n = PA := ⟨_, rfl⟩
  rw [hPA] at HPA HLP ⊢
  clear hPA
  have hl1 : rb < w.heap.size := (Array.getElem?_eq_some_iff.1 h.2.2.2.1).1
  have hl2 : mb < w.heap.size := (Array.getElem?_eq_some_iff.1 h.2.2.2.2.1).1
  have HR : Hid (RefG w S rb mb cs ov st steps) := h
  have hA := (row_facts' h.2.2.2.1).1
  clear h
  go_enter Tryz.func70, Tryz.ntmps70
  go_wp2_with fail
  refine (HPA.out _ HR.out).mono ?_
  rintro e w1 ⟨v1, rfl, b1, i1⟩
  have HB1 : Hid (Below w.heap.size w w1 ∧ Its w1 w.heap.size v1 PA) := ⟨b1, i1⟩
  clear b1 i1 hA HPA
  go_wp2_with fail
  go_loopg [3, 4] st.n (fun k l i wr => ∃ j : Nat, i = .int .i64 j ∧ j + k = st.n ∧ Below w.heap.size w wr ∧ Its wr w.heap.size l (PA ++ st.heads j))
  case atStart => exact ⟨0, rfl, by omega, HB1.out.1, by rw [show st.heads 0 = [] from rfl, List.append_nil]; exact HB1.out.2⟩
  case round =>
    obtain ⟨j, rfl, hjk, hb, hit⟩ := hrel
    have hr := HR.out.below hb
    have HH : Hid (Below w.heap.size w wr ∧ Its wr w.heap.size u3 (PA ++ st.heads j) ∧ RefG wr S rb mb cs ov st steps) := ⟨hb, hit, hr⟩
    have hA := (row_facts' hr.2.2.2.1).1
    clear hb hit
    by_cases hlt : j < st.n
    · obtain ⟨c1, c2, c3, c4, c5⟩ := hr.cells j hlt
      clear c1 c2 c5 hr
      have HHD : Hid (st.heads (j + 1) = st.heads j ++ (if (st.m j).begun && decide ((st.m j).next ≤ 65535) then [⟨1, j, j + 1, (st.m j).next, st.ratAt j (st.m j).next⟩] else [])) := rfl
      cases hbeg : (st.m j).begun with
      | false =>
        go_wp2_with fail
        go_roundg (gk - 1)
        case measure => omega
        case rel => exact ⟨j + 1, by go_num, by omega, HH.out.1, by rw [HHD.out, hbeg]; simp; exact HH.out.2.1⟩
      | true =>
        by_cases hnx : (st.m j).next ≤ 65535
        · have HRT : Hid (∀ W, Calls Tryz.prog 83 #[Agg8 st.s, .int .i64 st.n, .int .i64 j, .int .i64 (st.m j).next] W fun e w' => e = .returned (Agg8 (st.ratAt j (st.m j).next)) ∧ Below W.heap.size W w') := fun W => refRatchet_at st ok j (st.m j).next hlt hnx W
          obtain ⟨X, hX⟩ : ∃ X, st.ratAt j (st.m j).next = X := ⟨_, rfl⟩
          rw [hX] at HRT HHD
          clear hX
          have hsl := HH.out.2.2.sl j hlt
          have hn1 : rb ≠ wr.heap.size := by have := hsl.2.2.1; omega
          have hn2 : mb ≠ wr.heap.size := by have := hsl.2.2.2; omega
          go_upto_region 8 with fail
          go_cut [5] (fun s5 wy => ∃ kb, s5 = .pointer (some ⟨kb, 0, none⟩) ∧ wy.heap[kb]? = some (.cells (Cells8 X) 51 (0, 0)) ∧ Below wr.heap.size wr wy)
          case first =>
            clear c3 c4 hA
            go_region_held3 (fun W => SL rb mb st steps j W) ((with_reducible first | exact hsl.drew | exact (SL.alloc hsl _).drew | (refine SL.set (SL.set (SL.set (SL.set (SL.set (SL.set (SL.set (SL.set ?_ _ _ _ hn1 hn2) _ _ _ hn1 hn2) _ _ _ hn1 hn2) _ _ _ hn1 hn2) _ _ _ hn1 hn2) _ _ _ hn1 hn2) _ _ _ hn1 hn2) _ _ _ hn1 hn2; assumption) | exact SL.alloc (by assumption) _ | exact SL.below (by assumption) hb1 | exact SL.below (SL.alloc hsl _).drew hb1 | exact SL.below hsl.drew hb1 | exact SL.alloc (SL.below hsl.drew hb1) _)) ((go_at_call 83; refine (HRT.out _).mono ?_; rintro e w1 ⟨rfl, hb1⟩; obtain ⟨hc1, hf1⟩ := bcell hb1))
            · go_wp2_with fail
              go_meet
              exact ⟨w1.heap.size, rfl, (MapKept.heap_alloc _ _).1, ((Below.refl _ wr).drew.trans hb1).alloc hb1.size _⟩
            · go_wp2_with fail
              go_meet
              obtain ⟨hk1, hk2⟩ := newcell' wr w1 hb1
              rw [stores8_row w1 wr.heap.size _ _ X hk2]
              exact ⟨wr.heap.size, rfl, setRow_heap _ _ _ _ _ _ hk2, below_setRow hk1 (Nat.le_refl _) _⟩
          case rest =>
            obtain ⟨kb, rfl, hkb, hbel⟩ := hcut
            have hz0 := HH.out.1.size
            have hz := hbel.size
            clear hA c3 c4 hsl HRT
            have hr2 := HH.out.2.2.below hbel
            obtain ⟨c1, c2, c3, c4, c5⟩ := hr2.cells j hlt
            obtain ⟨hkA, _⟩ := row_facts' hkb
            have hi2 : Its (wc.alloc (.cells (It.cells ⟨1, j, j + 1, (st.m j).next, X⟩).toArray 53)).drew w.heap.size u3 (PA ++ st.heads j) := (HH.out.2.1.below hbel).below (((Below.refl _ wc).alloc (Nat.le_refl _) _).drew)
            have hi1 : Its (wc.alloc (.cells (It.cells ⟨1, j, j + 1, (st.m j).next, X⟩).toArray 53)).drew w.heap.size (.slice (some ⟨wc.heap.size, 0, none⟩) 1 1) [⟨1, j, j + 1, (st.m j).next, X⟩] := (Its.one wc w.heap.size (by omega) ⟨1, j, j + 1, (st.m j).next, X⟩).below (Below.refl _ _).drew
            have hlen := st.heads_len j
            obtain ⟨v3, w3, hrun, i3, b3, z3⟩ := its_append _ w.heap.size w.heap.size u3 _ _ _ hi2 hi1 (by show _ ≤ (World.alloc _ _).heap.size; simp; omega) (by have := HLP.out; simp; omega) 45
            have HRUN : Hid ((Builtin.append_ #[45, 45] 45 #[u3, .slice (some ⟨wc.heap.size, 0, none⟩) 1 1]).run Tryz.prog (wc.alloc (.cells (It.cells ⟨1, j, j + 1, (st.m j).next, X⟩).toArray 53)).drew = .ok v3 w3) := hrun
            have HI3 : Hid (Its w3 w.heap.size v3 ((PA ++ st.heads j) ++ [⟨1, j, j + 1, (st.m j).next, X⟩])) := i3
            have HB3 : Hid (Below w.heap.size w w3) := (((HH.out.1.trans (hbel.mono hz0)).alloc (by omega) _).drew).trans b3
            clear hi1 hi2 hrun i3 b3 hr2 hbel hkb
            have hwr : IntKind.i64.wrap ((j : Int) + 1) = (j : Int) + 1 := by rw [IntKind.wrap_i64]; omega
            go_upto_region 9 with fail
            go_region_law (refine step_app rfl (.tmp 65) (.tmp 79) 45 45 rfl rfl u3 (.slice (some ⟨wc.heap.size, 0, none⟩) 1 1) v3 w3 rfl rfl HRUN.out ?_)
            all_goals
              go_wp2_with fail
              go_roundg (gk - 1)
              case measure => omega
              case rel => exact ⟨j + 1, by go_num, by omega, HB3.out, by rw [HHD.out, hbeg, decide_eq_true hnx, ← List.append_assoc]; exact HI3.out⟩
        · have hnx' : ¬ ((st.m j).next : Int) ≤ 65535 := by omega
          go_wp2_with fail
          go_roundg (gk - 1)
          case measure => omega
          case rel => exact ⟨j + 1, by go_num, by omega, HH.out.1, by rw [HHD.out, hbeg, decide_eq_false hnx]; simp; exact HH.out.2.1⟩
    · obtain rfl : j = st.n := by omega
      clear hr
      go_wp2_with fail
      clear hA hlt
      go_loopg [3, 6] st.n (fun k l i wr2 => ∃ j : Nat, i = .int .i64 j ∧ j + k = st.n ∧ Below w.heap.size w wr2 ∧ Its wr2 w.heap.size l (PA ++ st.heads st.n ++ st.kepts j))
      case atStart => exact ⟨0, rfl, by omega, HH.out.1, by rw [show st.kepts 0 = [] from rfl, List.append_nil]; exact HH.out.2.1⟩
      case round =>
        obtain ⟨j, rfl, hjk2, hb, hit⟩ := hrel
        have hr := HR.out.below hb
        have hA := (row_facts' hr.2.2.2.1).1
        by_cases hlt : j < st.n
        · have HH2 : Hid (Below w.heap.size w wr ∧ Its wr w.heap.size u3 (PA ++ st.heads st.n ++ st.kepts j)) := ⟨hb, hit⟩
          have HKP : Hid (st.kepts (j + 1) = st.kepts j ++ st.kept1 j (st.m j).over) := rfl
          have hov4 := (ok.m j).2.1
          clear hr hb hit
          go_wp2_with fail
          clear hA
          go_loopg [3, 7] (st.m j).over.length (fun k l c wr3 => ∃ q : Nat, c = .int .i64 q ∧ q + k = (st.m j).over.length ∧ Below w.heap.size w wr3 ∧ Its wr3 w.heap.size l (PA ++ st.heads st.n ++ st.kepts j ++ st.kept1 j ((st.m j).over.take q)))
          case atStart => exact ⟨0, rfl, by omega, HH2.out.1, by rw [List.take_zero, show st.kept1 j [] = [] from rfl, List.append_nil]; exact HH2.out.2⟩
          case round =>
            obtain ⟨q, rfl, hqk, hb, hit⟩ := hrel
            have hr := HR.out.below hb
            have hA := (row_facts' hr.2.2.2.1).1
            obtain ⟨p, cap, hov, hoc⟩ := hr.over j hlt
            have HH3 : Hid (Below w.heap.size w wr ∧ Its wr w.heap.size u3 (PA ++ st.heads st.n ++ st.kepts j ++ st.kept1 j ((st.m j).over.take q))) := ⟨hb, hit⟩
            have HR3 : Hid (RefG wr S rb mb cs ov st steps) := hr
            clear hb hit hr
            by_cases hq : q < (st.m j).over.length
            · rcases hoc with he | ⟨ob, off, rfl, hobl, hcell⟩
              · rw [he] at hq; simp at hq
              · have hcq := hcell q hq
                have hg65 : (st.m j).over[q] ≤ 65535 := (ok.m j).2.2.1 _ (List.getElem_mem hq)
                have HTK : Hid (st.kept1 j ((st.m j).over.take (q + 1)) = st.kept1 j ((st.m j).over.take q) ++ [⟨2, j, j + 1, (st.m j).over[q], KeyM st.s st.n j (st.m j).over[q]⟩]) := by
                  unfold St.kept1
                  show List.map _ _ = _
                  rw [List.take_succ_eq_append_getElem hq, List.map_append]
                  rfl
                obtain ⟨g, hg⟩ : ∃ g, (st.m j).over[q] = g := ⟨_, rfl⟩
                rw [hg] at hcq hg65 HTK
                clear hg hcell
                have HKY : Hid (∀ W, Calls Tryz.prog 39 #[Agg8 st.s, .int .i64 st.n, .int .i64 j, .int .i64 g] W fun e w' => e = .returned (.tuple #[Agg8 (KeyM st.s st.n j g), .int .i64 0]) ∧ Below W.heap.size W w') := fun W => refKey_at st ok j g hlt hg65 W
                obtain ⟨X, hX⟩ : ∃ X, KeyM st.s st.n j g = X := ⟨_, rfl⟩
                rw [hX] at HKY HTK
                clear hX
                have hl1' : rb < wr.heap.size := (Array.getElem?_eq_some_iff.1 HR3.out.2.2.2.1).1
                have hl2' : mb < wr.heap.size := (Array.getElem?_eq_some_iff.1 HR3.out.2.2.2.2.1).1
                obtain ⟨N4, hN4⟩ : ∃ N4, (st.m j).over.length = N4 := ⟨_, rfl⟩
                rw [hN4] at hov hq hqk hov4
                have HN4 : Hid ((st.m j).over.length = N4) := hN4
                clear hN4
                have hso : SO rb mb ob off N4 cap (CellsG st steps mb) j q g wr := ⟨hA, hov, hcq, hl1', hl2', hobl⟩
                have hn1' : rb ≠ wr.heap.size := by omega
                have hn2' : mb ≠ wr.heap.size := by omega
                have hn3' : ob ≠ wr.heap.size := by omega
                go_upto_region 16 with fail
                go_cut [8] (fun s8 wy => ∃ kb, s8 = .pointer (some ⟨kb, 0, none⟩) ∧ wy.heap[kb]? = some (.cells (Cells8 X) 51 (0, 0)) ∧ Below wr.heap.size wr wy)
                case first =>
                  clear hA hov hcq
                  go_region_held3 (fun W => SO rb mb ob off N4 cap (CellsG st steps mb) j q g W) ((with_reducible first | exact hso.drew | exact (SO.alloc hso _).drew | (refine SO.set (SO.set (SO.set (SO.set (SO.set (SO.set (SO.set (SO.set ?_ _ _ _ hn1' hn2' hn3') _ _ _ hn1' hn2' hn3') _ _ _ hn1' hn2' hn3') _ _ _ hn1' hn2' hn3') _ _ _ hn1' hn2' hn3') _ _ _ hn1' hn2' hn3') _ _ _ hn1' hn2' hn3') _ _ _ hn1' hn2' hn3'; assumption) | exact SO.alloc (by assumption) _ | exact SO.below (by assumption) hb1 | exact SO.below (SO.alloc hso _).drew hb1 | exact SO.below hso.drew hb1 | exact SO.alloc (SO.below hso.drew hb1) _)) ((go_at_call 39; refine (HKY.out _).mono ?_; rintro e w1 ⟨rfl, hb1⟩; obtain ⟨hc1, hf1⟩ := bcell hb1))
                  · go_wp2_with fail
                    go_meet
                    exact ⟨w1.heap.size, rfl, (MapKept.heap_alloc _ _).1, ((Below.refl _ wr).drew.trans hb1).alloc hb1.size _⟩
                  · go_wp2_with fail
                    go_meet
                    obtain ⟨hk1, hk2⟩ := newcell' wr w1 hb1
                    rw [stores8_row w1 wr.heap.size _ _ X hk2]
                    exact ⟨wr.heap.size, rfl, setRow_heap _ _ _ _ _ _ hk2, below_setRow hk1 (Nat.le_refl _) _⟩
                case rest =>
                  obtain ⟨kb, rfl, hkb, hbel⟩ := hcut
                  have hz0 := HH3.out.1.size
                  have hz := hbel.size
                  have hso2 := SO.below hso hbel
                  clear hA hov hcq HKY hso
                  obtain ⟨hA, hov, hcq, hl1'', hl2'', hobl''⟩ := hso2
                  obtain ⟨hkA, _⟩ := row_facts' hkb
                  have hi2 : Its (wc.alloc (.cells (It.cells ⟨2, j, j + 1, g, X⟩).toArray 53)).drew w.heap.size u3 (PA ++ st.heads st.n ++ st.kepts j ++ st.kept1 j ((st.m j).over.take q)) := (HH3.out.2.below hbel).below (((Below.refl _ wc).alloc (Nat.le_refl _) _).drew)
                  have hi1 : Its (wc.alloc (.cells (It.cells ⟨2, j, j + 1, g, X⟩).toArray 53)).drew w.heap.size (.slice (some ⟨wc.heap.size, 0, none⟩) 1 1) [⟨2, j, j + 1, g, X⟩] := (Its.one wc w.heap.size (by omega) ⟨2, j, j + 1, g, X⟩).below (Below.refl _ _).drew
                  have hlen := st.heads_len st.n
                  have hlen2 := st.kepts_len ok j
                  have hlen3 : (st.kept1 j ((st.m j).over.take q)).length ≤ 4 := by
                    unfold St.kept1
                    rw [List.length_map, List.length_take, HN4.out]
                    omega
                  obtain ⟨v3, w3, hrun, i3, b3, z3⟩ := its_append _ w.heap.size w.heap.size u3 _ _ _ hi2 hi1 (by show _ ≤ (World.alloc _ _).heap.size; simp; omega) (by have := HLP.out; simp; omega) 45
                  have HRUN : Hid ((Builtin.append_ #[45, 45] 45 #[u3, .slice (some ⟨wc.heap.size, 0, none⟩) 1 1]).run Tryz.prog (wc.alloc (.cells (It.cells ⟨2, j, j + 1, g, X⟩).toArray 53)).drew = .ok v3 w3) := hrun
                  have HI3 : Hid (Its w3 w.heap.size v3 ((PA ++ st.heads st.n ++ st.kepts j ++ st.kept1 j ((st.m j).over.take q)) ++ [⟨2, j, j + 1, g, X⟩])) := i3
                  have HB3 : Hid (Below w.heap.size w w3) := (((HH3.out.1.trans (hbel.mono hz0)).alloc (by omega) _).drew).trans b3
                  have hwr : IntKind.i64.wrap ((j : Int) + 1) = (j : Int) + 1 := by rw [IntKind.wrap_i64]; omega
                  clear hi1 hi2 hrun i3 b3 hbel hkb
                  go_upto_region 17 with fail
                  go_region_law (refine step_app rfl (.tmp 126) (.tmp 143) 45 45 rfl rfl u3 (.slice (some ⟨wc.heap.size, 0, none⟩) 1 1) v3 w3 rfl rfl HRUN.out ?_)
                  all_goals
                    go_wp2_with fail
                    go_roundg (gk - 1)
                    case measure => omega
                    case rel => exact ⟨q + 1, by go_num, by have := HN4.out; omega, HB3.out, by rw [HTK.out, ← List.append_assoc]; exact HI3.out⟩
            · have hqe : q = (st.m j).over.length := by omega
              clear hoc
              have hlen4 : ¬ (q : Int) < ((st.m j).over.length : Int) := by omega
              go_wp2_with fail
              go_roundg (st.n - (j + 1))
              case measure => omega
              case rel =>
                refine ⟨j + 1, by go_num, by omega, HH3.out.1, ?_⟩
                have h := HH3.out.2
                rw [hqe, List.take_length] at h
                rw [HKP.out, ← List.append_assoc]
                exact h
        · obtain rfl : j = st.n := by omega
          have HH2 : Hid (Below w.heap.size w wr ∧ Its wr w.heap.size u3 (PA ++ st.heads st.n ++ st.kepts st.n)) := ⟨hb, hit⟩
          clear hb hit hr
          go_wp2_with fail
          go_ret
          exact ⟨_, rfl, HH2.out.1, HH2.out.2⟩
end Go.Proofs.YtkpebabbnndopaaGreatDoor
