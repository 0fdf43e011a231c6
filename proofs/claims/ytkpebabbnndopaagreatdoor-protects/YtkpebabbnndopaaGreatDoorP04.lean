import Derived.Test.YtkpebabbnndopaaGreatDoorP03
import Derived.WalkKit
import Derived.WalkSpells
import Derived.WalkLawsBesides
import Derived.Deep.DeepCutAuto
import Derived.BigQuiet
import Derived.Deep.RegionHeld3
/- The law's (*World).step, as far as members protect. -/
namespace Go.Proofs.YtkpebabbnndopaaGreatDoor
open Go.RowKit
set_option linter.unusedVariables false

abbrev OpV (kind a b : Int) (s : ByteArray) : Array Value := #[.int .i64 kind, .int .i64 a, .int .i64 b, .string s]

/-- what a step leaves behind -/
def Stepped (Rep : World → List Nat → Value → St → Nat → Prop) (w : World) (base wb : Nat) (lv : Value) (n bnd : Nat) (w' : World) : Prop :=
  Below base w w' ∧ ∃ bv' bag' l', l'.length = n ∧ WorldAt Rep w' base wb lv bv' bag' l' bnd

theorem worldAt_ptr {Rep : World → List Nat → Value → St → Nat → Prop} {w : World} {base wb : Nat} {lv bv : Value} {bag : List ByteArray} {l : List SideD} {bnd : Nat} (h : WorldAt Rep w base wb lv bv bag l bnd) (hn : 1 ≤ l.length) :
    ∃ lb cap, lv = .slice (some ⟨lb, 0, none⟩) l.length cap ∧ l.length ≤ cap ∧ lb < w.heap.size ∧ ∀ i (hi : i < l.length), w.cell? ⟨lb, i, none⟩ = some (.pointer (some ⟨l[i].sb, 0, none⟩)) := by
  rcases h.ownl.2 with ⟨_, e⟩ | ⟨g, cap, cur, e1, e2, e3, e4, _⟩
  · omega
  · refine ⟨g, cap, e1, e4, (Array.getElem?_eq_some_iff.1 e3).1, fun i hi => ?_⟩
    have h1 : w.ownsRow base 69 1 (.slice (some ⟨g, 0, none⟩) l.length cap) l.length (l.map fun s => Value.pointer (some ⟨s.sb, 0, none⟩)) := by rw [← e1]; exact h.ownl
    rw [World.ownsRow.cellAt h1 i (by omega), List.getElem?_map, List.getElem?_eq_getElem hi]
    rfl

abbrev PickS (w : World) (wb lb i : Nat) (lv bv : Value) (sd : Nat) (kind a b : Int) (s : ByteArray) (W : World) : Prop := (∀ o, W.cell? ⟨wb, o, none⟩ = #[lv, bv][o]?) ∧ (∀ o, W.cell? ⟨w.heap.size, o, none⟩ = (OpV kind a b s)[o]?) ∧ W.cell? ⟨lb, i, none⟩ = some (.pointer (some ⟨sd, 0, none⟩))
theorem pickS (w : World) (wb lb i : Nat) (lv bv : Value) (sd : Nat) (kind a b : Int) (s : ByteArray) (h1 : ∀ o, w.cell? ⟨wb, o, none⟩ = #[lv, bv][o]?) (h2 : w.cell? ⟨lb, i, none⟩ = some (.pointer (some ⟨sd, 0, none⟩))) (hw : wb < w.heap.size) (hl : lb < w.heap.size) :
    PickS w wb lb i lv bv sd kind a b s (w.alloc (.cells (OpV kind a b s) 73)).drew := by
  have hb : Below w.heap.size w (w.alloc (.cells (OpV kind a b s) 73)).drew := ((Below.refl _ w).alloc (Nat.le_refl _) _).drew
  refine ⟨fun o => by rw [hb.cell (p := ⟨wb, o, none⟩) hw, h1], fun o => ?_, by rw [hb.cell (p := ⟨lb, i, none⟩) hl, h2]⟩
  exact cell_of_row _ _ _ _ _ _ (show (w.alloc (.cells (OpV kind a b s) 73)).drew.heap[w.heap.size]? = some (.cells (OpV kind a b s) 73 (0, 0)) from (MapKept.heap_alloc _ _).1)

set_option maxRecDepth 20000 in
set_option maxHeartbeats 2000000 in
theorem step_idle {Rep : World → List Nat → Value → St → Nat → Prop} (C : Code Rep) (w : World) (base wb : Nat) (lv bv : Value) (bag : List ByteArray) (l : List SideD) (bnd : Nat) (h : WorldAt Rep w base wb lv bv bag l bnd) (hn : 1 ≤ l.length) (hn16 : l.length ≤ 16)
    (kind a b : Int) (s : ByteArray) (hk : kind ≤ 0) (ha1 : -9223372036854775808 ≤ a) (ha2 : a ≤ 9223372036854775807) :
    Calls Tryz.prog 28 #[.pointer (some ⟨wb, 0, none⟩), .agg (OpV kind a b s)] w fun e w' => e = .returned (.bool true) ∧ Stepped Rep w base wb lv l.length bnd w' := by
  obtain ⟨lb, cap, rfl, hcap, hlb, hcell⟩ := worldAt_ptr h hn
  have HP : Hid (∀ W, Calls Tryz.prog 65 #[.int .i64 a, .int .i64 l.length] W fun e w' => e = .returned (.int .i64 (PickI a l.length)) ∧ w' = W) := fun W => pick_any a ha1 ha2 l.length hn (by omega) W
  have HW : Hid (WorldAt Rep w base wb (.slice (some ⟨lb, 0, none⟩) l.length cap) bv bag l bnd) := h
  have hwb : wb < w.heap.size := (Array.getElem?_eq_some_iff.1 h.row).1
  have hA := (row_facts' h.row).1
  have hpi := PickI_lt a l.length hn
  have hci := hcell _ hpi
  obtain ⟨i, hi⟩ : ∃ i, PickI a l.length = i := ⟨_, rfl⟩
  rw [hi] at HP hpi
  have hci2 : w.cell? ⟨lb, i, none⟩ = some (.pointer (some ⟨(l[i]'hpi).sb, 0, none⟩)) := hcell i hpi
  obtain ⟨sd, hsd⟩ : ∃ sd, (l[i]'hpi).sb = sd := ⟨_, rfl⟩
  rw [hsd] at hci2
  clear h hcell hci hi hsd
  go_enter Tryz.func28, Tryz.ntmps28
  go_upto_region 1 with fail
  go_cut [5] (fun s5 wy => s5 = .pointer (some ⟨sd, 0, none⟩) ∧ Below (w.alloc (.cells (OpV kind a b s) 73)).heap.size (w.alloc (.cells (OpV kind a b s) 73)) wy)
  case first =>
    have hS := pickS w wb lb i (.slice (some ⟨lb, 0, none⟩) l.length cap) bv sd kind a b s hA hci2 hwb hlb
    go_region_held3 (fun W => PickS w wb lb i (.slice (some ⟨lb, 0, none⟩) l.length cap) bv sd kind a b s W) ((first | assumption | exact hS)) ((go_at_call 65; refine (HP.out _).mono ?_; rintro e w' ⟨rfl, rfl⟩))
    all_goals
      go_wp2_with fail
      go_meet
      exact ⟨rfl, (Below.refl _ _).drew⟩
  case rest =>
    obtain ⟨rfl, hb⟩ := hcut
    have hk3 : wc.heap[w.heap.size]? = some (.cells (OpV kind a b s) 73 (0, 0)) := by rw [hb.block _ (by simp), (MapKept.heap_alloc _ _).1]
    have hK := (row_facts' hk3).1
    have hbw : Below w.heap.size w wc := ((Below.refl _ w).alloc (Nat.le_refl _) _).trans (hb.mono (by simp))
    have HBW : Hid (Below w.heap.size w wc) := hbw
    have hk1 : ¬ kind = 1 := by omega
    have hk2 : ¬ kind = 2 := by omega
    have hk3' : ¬ kind = 3 := by omega
    have hk4 : ¬ kind = 4 := by omega
    have hk5 : ¬ kind = 5 := by omega
    have hk6 : ¬ kind = 6 := by omega
    clear hbw hk3 hb HP hci2 hA
    go_wp2_with fail
    go_ret
    have hz := HW.out.base_le
    exact ⟨rfl, HBW.out.mono hz, bv, bag, l, rfl, HW.out.below C HBW.out⟩
set_option maxRecDepth 20000 in
set_option maxHeartbeats 2000000 in
theorem step_protect {Rep : World → List Nat → Value → St → Nat → Prop} (C : Code Rep) (w : World) (base wb : Nat) (lv bv : Value) (bag : List ByteArray) (l : List SideD) (bnd : Nat) (h : WorldAt Rep w base wb lv bv bag l bnd) (hn : 1 ≤ l.length) (hn16 : l.length ≤ 16)
    (a b : Int) (s : ByteArray) (hs : s.size ≤ 65536) (hbnd : bnd ≤ 10000000000) (ha1 : -9223372036854775808 ≤ a) (ha2 : a ≤ 9223372036854775807) (hG : Glob w) :
    Calls Tryz.prog 28 #[.pointer (some ⟨wb, 0, none⟩), .agg (OpV 1 a b s)] w fun e w' => e = .returned (.bool true) ∧ Stepped Rep w base wb lv l.length (bnd + 100) w' := by
  obtain ⟨lb, cap, rfl, hcap, hlb, hcell⟩ := worldAt_ptr h hn
  have HP : Hid (∀ W, Calls Tryz.prog 65 #[.int .i64 a, .int .i64 l.length] W fun e w' => e = .returned (.int .i64 (PickI a l.length)) ∧ w' = W) := fun W => pick_any a ha1 ha2 l.length hn (by omega) W
  have HW : Hid (WorldAt Rep w base wb (.slice (some ⟨lb, 0, none⟩) l.length cap) bv bag l bnd) := h
  have hwb : wb < w.heap.size := (Array.getElem?_eq_some_iff.1 h.row).1
  have hA := (row_facts' h.row).1
  have hpi := PickI_lt a l.length hn
  have hci := hcell _ hpi
  obtain ⟨i, hi⟩ : ∃ i, PickI a l.length = i := ⟨_, rfl⟩
  rw [hi] at HP hpi
  have hci2 : w.cell? ⟨lb, i, none⟩ = some (.pointer (some ⟨(l[i]'hpi).sb, 0, none⟩)) := hcell i hpi
  obtain ⟨sd, hsd⟩ : ∃ sd, (l[i]'hpi).sb = sd := ⟨_, rfl⟩
  rw [hsd] at hci2
  have HSD : Hid ((l[i]'hpi).sb = sd) := hsd
  have HGL : Hid (Glob w) := hG
  clear h hcell hci hi hsd hG
  go_enter Tryz.func28, Tryz.ntmps28
  go_upto_region 1 with fail
  go_cut [5] (fun s5 wy => s5 = .pointer (some ⟨sd, 0, none⟩) ∧ Below (w.alloc (.cells (OpV 1 a b s) 73)).heap.size (w.alloc (.cells (OpV 1 a b s) 73)) wy)
  case first =>
    have hS := pickS w wb lb i (.slice (some ⟨lb, 0, none⟩) l.length cap) bv sd 1 a b s hA hci2 hwb hlb
    go_region_held3 (fun W => PickS w wb lb i (.slice (some ⟨lb, 0, none⟩) l.length cap) bv sd 1 a b s W) ((first | assumption | exact hS)) ((go_at_call 65; refine (HP.out _).mono ?_; rintro e w' ⟨rfl, rfl⟩))
    all_goals
      go_wp2_with fail
      go_meet
      exact ⟨rfl, (Below.refl _ _).drew⟩
  case rest =>
    obtain ⟨rfl, hb⟩ := hcut
    have hk3 : wc.heap[w.heap.size]? = some (.cells (OpV 1 a b s) 73 (0, 0)) := by rw [hb.block _ (by simp), (MapKept.heap_alloc _ _).1]
    have hK := (row_facts' hk3).1
    have hbw : Below w.heap.size w wc := ((Below.refl _ w).alloc (Nat.le_refl _) _).trans (hb.mono (by simp))
    have HBW : Hid (Below w.heap.size w wc) := hbw
    clear hbw hk3 hb HP hci2 hA
    have HWc : Hid (WorldAt Rep wc base wb (.slice (some ⟨lb, 0, none⟩) l.length cap) bv bag l bnd) := HW.out.below C HBW.out
    obtain ⟨t1, t2, t3, t4, t5, t6⟩ := HWc.out.side _ (List.getElem_mem hpi)
    have hsz := HW.out.base_le
    have hszc := HBW.out.size
    have hbvs : ∃ p capb, bv = .slice p bag.length capb := by
      rcases HW.out.ownb.2 with ⟨e1, e2⟩ | ⟨g, capb, cur, e1, _⟩
      · exact ⟨none, 0, by rw [e1, e2]⟩
      · exact ⟨_, capb, e1⟩
    obtain ⟨p, capb, rfl⟩ := hbvs
    have hwbc : wb < wc.heap.size := by omega
    by_cases hpe : (l[i]'hpi).st.protErr s.size = 0
    · have hcall := protect_ok C wc (l[i]'hpi).sb (l[i]'hpi).U (l[i]'hpi).st (l[i]'hpi).wk t1 (by omega) s hs hpe
      have hfl : 0 < ((l[i]'hpi).st.frame s.data.toList).length := by
        unfold St.frame
        rw [List.length_append]
        have : 0 < (HeadB (l[i]'hpi).st.own ((l[i]'hpi).st.m (l[i]'hpi).st.own).next).length := by simp [HeadB]
        omega
      rw [HSD.out] at hcall
      obtain ⟨FR, hFR⟩ : ∃ FR, (l[i]'hpi).st.frame s.data.toList = FR := ⟨_, rfl⟩
      rw [hFR] at hcall hfl
      have HCALL : Hid (Calls Tryz.prog 66 #[.pointer (some ⟨sd, 0, none⟩), .string s] wc fun e w' => e = .returned (.tuple #[.string ⟨FR.toArray⟩, .bool true]) ∧ Outside (l[i]'hpi).U wc w' ∧ ∃ U' wk', Fresh wc (l[i]'hpi).U U' ∧ Side Rep w' sd U' (l[i]'hpi).st.protNext wk' ∧ wk' ≤ (l[i]'hpi).wk + 100) := hcall
      clear hcall hFR t1 t2 t3 t5 t6
      go_wp2_with fail
      refine HCALL.out.mono ?_
      rintro e w2 ⟨rfl, o2, U', wk', f2, s2, hw2⟩
      have HW2 : Hid (WorldAt Rep w2 base wb (.slice (some ⟨lb, 0, none⟩) l.length cap) (.slice p bag.length capb) bag (l.set i ⟨(l[i]'hpi).sb, U', (l[i]'hpi).st.protNext, wk'⟩) (bnd + 100)) := by
        have hs2 : Side Rep w2 (l[i]'hpi).sb U' (l[i]'hpi).st.protNext wk' := by rw [HSD.out]; exact s2
        have hwk := (HWc.out.side _ (List.getElem_mem hpi)).2.2.1
        exact HWc.out.step C i hpi U' (l[i]'hpi).st.protNext wk' (bnd + 100) o2 f2 hs2 (by omega) (by omega)
      have HB2 : Hid (Below base w w2) := (HBW.out.mono hsz).trans (o2.toBelow base (by omega) (HWc.out.side _ (List.getElem_mem hpi)).2.1)
      clear o2 f2 s2 hw2 hK t4
      have hA2 := (row_facts' HW2.out.row).1
      have hne : FR.isEmpty = false := by
        cases FR with
        | nil => simp at hfl
        | cons x r => rfl
      by_cases hbl : bag.length < 64
      · have hbd : decide ((bag.length : Int) < 64) = true := by simp; omega
        obtain ⟨v', w3, hrun, hrow3, hwa, hbel⟩ := HW2.out.bagged C hbl ⟨FR.toArray⟩ 30
        have hvs : ∃ p' n' c', v' = .slice p' n' c' := by
          rcases hwa.ownb.2 with ⟨e1, _⟩ | ⟨g, c', cur, e1, _⟩
          · exact ⟨_, _, _, e1⟩
          · exact ⟨_, _, _, e1⟩
        obtain ⟨p', n', c', rfl⟩ := hvs
        have HRUN : Hid ((Builtin.append_ #[30, 30] 30 #[.slice p bag.length capb, .slice (some ⟨w2.heap.size, 0, none⟩) 1 1]).run Tryz.prog (w2.alloc (.cells #[.string ⟨FR.toArray⟩] 9)) = .ok (.slice p' n' c') w3) := hrun
        have HFIN : Hid (WorldAt Rep (w3.setCell ⟨wb, 1, none⟩ (.slice p' n' c')) base wb (.slice (some ⟨lb, 0, none⟩) l.length cap) (.slice p' n' c') (bag ++ [⟨FR.toArray⟩]) (l.set i ⟨(l[i]'hpi).sb, U', (l[i]'hpi).st.protNext, wk'⟩) (bnd + 100) ∧ Below base w2 (w3.setCell ⟨wb, 1, none⟩ (.slice p' n' c'))) := ⟨hwa, hbel⟩
        obtain ⟨hA3, hAf3⟩ := row_facts' hrow3
        clear hrun hwa hbel hrow3
        go_wp2_with (at_builtin; refine wpList_app rfl _ _ 30 30 rfl rfl _ _ _ _ rfl rfl HRUN.out ?_)
        go_ret
        exact ⟨rfl, HB2.out.trans HFIN.out.2, _, bag ++ [⟨FR.toArray⟩], _, List.length_set, HFIN.out.1⟩
      · have hbd : decide ((bag.length : Int) < 64) = false := by simp; omega
        go_wp2_with fail
        go_ret
        exact ⟨rfl, HB2.out, _, bag, _, List.length_set, HW2.out⟩
    · have hcall := protect_err C wc (l[i]'hpi).sb (l[i]'hpi).U (l[i]'hpi).st (l[i]'hpi).wk t1 (by omega) s hs hpe (HGL.out.below HBW.out)
      rw [HSD.out] at hcall
      have HCALL : Hid (Calls Tryz.prog 66 #[.pointer (some ⟨sd, 0, none⟩), .string s] wc fun e w' => e = .returned (.tuple #[.string ⟨#[]⟩, .bool true]) ∧ Outside (l[i]'hpi).U wc w' ∧ ∃ U', Fresh wc (l[i]'hpi).U U' ∧ Side Rep w' sd U' (l[i]'hpi).st (l[i]'hpi).wk) := hcall
      clear hcall t1 t2 t3 t5 t6
      go_wp2_with fail
      refine HCALL.out.mono ?_
      rintro e w2 ⟨rfl, o2, U', f2, s2⟩
      have HW2 : Hid (WorldAt Rep w2 base wb (.slice (some ⟨lb, 0, none⟩) l.length cap) (.slice p bag.length capb) bag (l.set i ⟨(l[i]'hpi).sb, U', (l[i]'hpi).st, (l[i]'hpi).wk⟩) (bnd + 100)) := by
        have hs2 : Side Rep w2 (l[i]'hpi).sb U' (l[i]'hpi).st (l[i]'hpi).wk := by rw [HSD.out]; exact s2
        have hwk := (HWc.out.side _ (List.getElem_mem hpi)).2.2.1
        exact HWc.out.step C i hpi U' (l[i]'hpi).st (l[i]'hpi).wk (bnd + 100) o2 f2 hs2 (by omega) (by omega)
      have HB2 : Hid (Below base w w2) := (HBW.out.mono hsz).trans (o2.toBelow base (by omega) (HWc.out.side _ (List.getElem_mem hpi)).2.1)
      clear o2 f2 s2 hK t4
      go_wp2_with fail
      go_ret
      exact ⟨rfl, HB2.out, _, bag, _, List.length_set, HW2.out⟩
end Go.Proofs.YtkpebabbnndopaaGreatDoor
