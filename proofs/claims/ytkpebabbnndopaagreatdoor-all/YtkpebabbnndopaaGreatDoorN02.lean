import Derived.Test.YtkpebabbnndopaaGreatDoorN01
import Derived.WalkKit
import Derived.WalkSpells
import Derived.WalkLawsBesides
import Derived.Deep.WholeRow
import Derived.Deep.DeepCutAuto
import Derived.BigRegion
import Derived.Deep.QuietTactic
import Derived.BigQuiet
import Derived.Deep.RegionHeld3
import Derived.Deep.LoopGhost
import Derived.Lib.AppendZeros
/- epochref.Unprotect: what does not open. -/
namespace Go.Proofs.YtkpebabbnndopaaGreatDoor
open Go.RowKit
set_option linter.unusedVariables false

set_option maxRecDepth 20000 in
set_option maxHeartbeats 4000000 in
theorem refUn_seal (w : World) (S : List Nat) (rb mb : Nat) (cs : Array Value) (ov : Nat → Value) (st : St) (steps : Int) (ok : st.Ok) (hr : RefG w S rb mb cs ov st steps) (f : ByteArray) (hpre : st.unPre f.data.toList = 0) (hok : st.unOk f.data.toList = false) :
    Calls Tryz.prog 101 #[.pointer (some ⟨rb, 0, none⟩), .string f] w fun x w' => x = .returned (.tuple #[.int .i64 0, .int .i64 0, .string ⟨#[]⟩, .int .i64 7]) ∧ Outside S w w' ∧ RefG w' S rb mb cs ov st (st.bound (unWho f.data.toList) (unGen f.data.toList) (f.data.toList.length - 7)) := by
  obtain ⟨hcl, hs, hs2, hwn, hwo, hgo, hgf⟩ := unPre_zero hpre
  clear hpre
  have ho := ok.own
  have h16 := ok.n16
  obtain ⟨wx, hwx⟩ : ∃ wx, w.setCell ⟨rb, 12, none⟩ (.int .i64 0) = wx := ⟨_, rfl⟩
  have hx : RefG wx S rb mb cs ov st 0 := by rw [← hwx]; exact hr.setSteps 0
  have hxo : Outside S w wx := by rw [← hwx]; exact (Outside.refl _ _).setCell _ (fun _ => hr.2.1) _
  obtain ⟨c1, c2, _⟩ := hr.cells st.own ho
  have hsz : f.data.toList.length = f.size := Array.length_toList
  have hi0 : ∀ w, (Instr.index 9 (.string f) (.int .i64 0)).run Tryz.prog w = .ok (.int .u8 (unWho f.data.toList : Int)) w := fun w => index_byte f 0 (by omega) w
  obtain ⟨B1, hB1⟩ : ∃ B1 : Nat, (f.data.toList.getD 1 0).toNat = B1 := ⟨_, rfl⟩
  obtain ⟨B2, hB2⟩ : ∃ B2 : Nat, (f.data.toList.getD 2 0).toNat = B2 := ⟨_, rfl⟩
  have hb1 : B1 < 256 := by rw [← hB1]; exact (f.data.toList.getD 1 0).toNat_lt
  have hb2 : B2 < 256 := by rw [← hB2]; exact (f.data.toList.getD 2 0).toNat_lt
  have hgen : unGen f.data.toList = B1 * 256 + B2 := by unfold unGen; rw [hB1, hB2]
  have hi1 : ∀ w, (Instr.index 9 (.string f) (.int .i64 1)).run Tryz.prog w = .ok (.int .u8 (B1 : Int)) w := fun w => by rw [← hB1]; exact index_byte f 1 (by omega) w
  have hi2 : ∀ w, (Instr.index 9 (.string f) (.int .i64 2)).run Tryz.prog w = .ok (.int .u8 (B2 : Int)) w := fun w => by rw [← hB2]; exact index_byte f 2 (by omega) w
  have hor := or_bytes B1 B2 hb1 hb2
  rw [← hgen] at hor
  have hgl : unGen f.data.toList < 65536 := unGen_lt _
  have HBD : Hid (∀ W steps, RefG W S rb mb cs ov st steps → Calls Tryz.prog 135 #[.pointer (some ⟨rb, 0, none⟩), .int .i64 (unWho f.data.toList), .int .i64 (unGen f.data.toList), .int .i64 ((f.data.toList.length - 7 : Nat) : Int)] W fun e w' => e = .returned (.int .i64 (st.bound (unWho f.data.toList) (unGen f.data.toList) (f.data.toList.length - 7))) ∧ w' = W) := fun W steps h => refBound_any W S rb mb cs ov st steps ok h (unWho f.data.toList) (unGen f.data.toList) (f.data.toList.length - 7) hwn (by omega) (by omega)
  obtain ⟨bd, hbd⟩ : ∃ bd, st.bound (unWho f.data.toList) (unGen f.data.toList) (f.data.toList.length - 7) = bd := ⟨_, rfl⟩
  rw [hbd] at HBD ⊢
  have HKY : Hid (∀ W, Calls Tryz.prog 39 #[Agg8 st.s, .int .i64 st.n, .int .i64 (unWho f.data.toList), .int .i64 (unGen f.data.toList)] W fun e w' => e = .returned (.tuple #[Agg8 (st.unKey f.data.toList), .int .i64 0]) ∧ Below W.heap.size W w') := fun W => refKey_at st ok (unWho f.data.toList) (unGen f.data.toList) hwn (by omega) W
  have hx0 : (f.extract 0 3).data.toList = f.data.toList.take 3 := by simp [ByteArray.data_extract]
  have hx3 : (f.extract 3 f.size).data.toList = f.data.toList.drop 3 := by
    rw [ByteArray.data_extract, Array.toList_extract, List.extract_eq_take_drop]
    exact List.take_of_length_le (by rw [List.length_drop, hsz]; exact Nat.le_refl _)
  have HOP : Hid (∀ W, Calls Tryz.prog 35 #[Agg8 (st.unKey f.data.toList), .string (f.extract 0 3), .string (f.extract 3 f.size)] W fun e w' => e = .returned (.tuple #[.string ⟨#[]⟩, .bool false]) ∧ Below W.heap.size W w') := fun W => by
    have hl3 : (f.extract 3 f.size).size = (f.data.toList.length - 7) + 4 := by
      have : (f.extract 3 f.size).data.toList.length = (f.extract 3 f.size).size := Array.length_toList
      rw [← this, hx3, List.length_drop]; omega
    have hl0 : (f.extract 0 3).size ≤ 1000000 := by
      have : (f.extract 0 3).data.toList.length = (f.extract 0 3).size := Array.length_toList
      rw [← this, hx0, List.length_take]; omega
    refine (refOpen_long (st.unKey f.data.toList) (keyAt_bd st _ _) (f.extract 0 3) (f.extract 3 f.size) (f.data.toList.length - 7) hl0 hl3 (by omega) W).mono fun e w' ⟨hb, hc⟩ => ?_
    rw [hx0, hx3] at hc
    rcases hc with ⟨_, hc⟩ | ⟨hc, _⟩
    · exact ⟨hc, hb⟩
    · have : OpenOk (st.unKey f.data.toList) (f.data.toList.take 3) (f.data.toList.drop 3) = false := hok
      rw [this] at hc; cases hc
  obtain ⟨K, hK⟩ : ∃ K, st.unKey f.data.toList = K := ⟨_, rfl⟩
  rw [hK] at HKY HOP
  obtain ⟨F0, hF0⟩ : ∃ F0, f.extract 0 3 = F0 := ⟨_, rfl⟩
  obtain ⟨F3, hF3⟩ : ∃ F3, f.extract 3 f.size = F3 := ⟨_, rfl⟩
  rw [hF0, hF3] at HOP
  obtain ⟨LN, hLN⟩ : ∃ LN : Int, ((f.data.toList.length - 7 : Nat) : Int) = LN := ⟨_, rfl⟩
  rw [hLN] at HBD
  have HF : Hid (f.extract 0 3 = F0 ∧ f.extract 3 f.size = F3) := ⟨hF0, hF3⟩
  clear hF0 hF3 hx0 hx3 hok hbd hK
  obtain ⟨WH, hWH⟩ : ∃ WH : Nat, unWho f.data.toList = WH := ⟨_, rfl⟩
  obtain ⟨GE, hGE⟩ : ∃ GE : Nat, unGen f.data.toList = GE := ⟨_, rfl⟩
  rw [hWH] at hi0 hwn hwo hgo hgf HBD HKY
  rw [hGE] at hor hgo hgf hgl HBD HKY
  obtain ⟨Z, hZ⟩ : ∃ Z : Int, (f.size : Int) = Z := ⟨_, rfl⟩
  have hZL : wrap64 (Z - 7) = LN := by simp only [wrap64]; omega
  have d5 : 3 ≤ Z := by omega
  have d1 : ¬ Z < 7 := by omega
  have d2 : ¬ 47 < Z := by omega
  have d3 : decide (Z < 7) = false := by simp; omega
  have d4 : decide (47 < Z) = false := by simp; omega
  have dw : ¬ ((st.n : Int) ≤ (WH : Int)) := by omega
  have dw1 : (WH : Int) < (st.n : Int) := by omega
  have dwo : ¬ ((WH : Int) = (st.own : Int)) := by omega
  have dwo2 : ((WH : Int) == (st.own : Int)) = false := by simpa using dwo
  have HX : Hid (RefG wx S rb mb cs ov st 0) := hx
  have HWX : Hid (w.setCell ⟨rb, 12, none⟩ (.int .i64 0) = wx) := hwx
  have HXO : Hid (Outside S w wx) := hxo
  have HGN : Hid (((GE : Int) < ((st.m WH).next : Int) → ¬ AmongI (st.m WH).over GE < 0) ∧ ¬ (5 < (GE : Int) - ((st.m WH).next : Int)) ∧ wrap64 ((GE : Int) - ((st.m WH).next : Int)) = (GE : Int) - ((st.m WH).next : Int)) := by
    have := (ok.m WH).1
    refine ⟨fun hlt hc => (among_neg _ _).1 hc (hgo (by omega)), by omega, ?_⟩
    simp only [wrap64]; omega
  have HOL : Hid ((st.m WH).over.length ≤ 1000) := by have := (ok.m WH).2.1; show _ ≤ _; omega
  clear hr hx hwx hxo hsz hB1 hB2 hgen hWH hGE hs hs2 hgo hgf hgl hLN
  obtain ⟨e1, e2, e3, e4, e5⟩ := HX.out.cells WH hwn
  go_enter Tryz.func101, Tryz.ntmps101
  go_upto_region 2 with fail
  rw [HWX.out]
  clear c1 c2
  go_upto_region 4 with fail
  go_quiet (fail)
  go_upto_region 10 with fail
  have hb1' : (B1 : Int) < 256 := by omega
  have hb2' : (B2 : Int) < 256 := by omega
  clear e1 e2 e3 e4 e5
  obtain ⟨wy, hwy⟩ : ∃ wy, (wx.drewN nq) = wy := ⟨_, rfl⟩
  rw [hwy]
  have HY : Hid (RefG wy S rb mb cs ov st 0 ∧ Outside S w wy) := by rw [← hwy]; exact ⟨HX.out.below (below_drewN _ _ _), HXO.out.below (below_drewN _ _ _)⟩
  clear hwy
  go_quiet (fail)
  obtain ⟨wz, hwz⟩ : ∃ wz, (wy.drewN nq) = wz := ⟨_, rfl⟩
  rw [hwz]
  have HZ : Hid (RefG wz S rb mb cs ov st 0 ∧ Outside S w wz) := by rw [← hwz]; exact ⟨HY.out.1.below (below_drewN _ _ _), HY.out.2.below (below_drewN _ _ _)⟩
  clear hwz HY HX HXO HWX
  obtain ⟨p, cap, q1, q2, q3⟩ := HZ.out.1.overAt WH hwn
  obtain ⟨_, _, g3, g4, _⟩ := HZ.out.1.cells WH hwn
  have HAC : Hid (Calls Tryz.prog 136 #[.slice p (st.m WH).over.length cap, .int .i64 GE] wz fun e w' => e = .returned (.int .i64 (AmongI (st.m WH).over GE)) ∧ w' = wz) := refAmong_any p (st.m WH).over cap GE HOL.out wz (q3.imp (fun h => h.1) id) q2
  obtain ⟨A, hA⟩ : ∃ A, AmongI (st.m WH).over GE = A := ⟨_, rfl⟩
  rw [hA] at HAC HGN
  obtain ⟨hG1, hG2, hG3⟩ := HGN.out
  clear hA q2 q3 HGN hi0 hi1 hi2 hor d1 d2 d3 d4 dw dwo dwo2
  go_upto_region 12 with (go_at_call 136; refine HAC.out.mono ?_; rintro e w' ⟨rfl, rfl⟩)
  go_cut [81] (fun s81 wy => s81 = .bool false ∧ wy = w')
  case first =>
    by_cases hlt : (GE : Int) < ((st.m WH).next : Int)
    · have hA0 : ¬ A < 0 := by have := hG1 hlt; omega
      have hlt2 : decide ((GE : Int) < ((st.m WH).next : Int)) = true := by simpa using hlt
      clear hG1
      go_wp2_with fail
      go_meet
      exact ⟨by first | rfl | simp, rfl⟩
    · have hlt2 : decide ((GE : Int) < ((st.m WH).next : Int)) = false := by simpa using hlt
      clear hG1
      go_wp2_with fail
      go_meet
      exact ⟨rfl, rfl⟩
  case rest =>
    obtain ⟨rfl, rfl⟩ := hcut
    clear hG1
    obtain ⟨r1, r2, r3, r4, r5⟩ := HZ.out.1.cells WH hwn
    obtain ⟨wv, hwv⟩ : ∃ wv, wc.setCell ⟨rb, 12, none⟩ (.int .i64 bd) = wv := ⟨_, rfl⟩
    have HV : Hid (RefG wv S rb mb cs ov st bd ∧ Outside S w wv) := by rw [← hwv]; exact ⟨HZ.out.1.setSteps bd, HZ.out.2.setCell _ (fun _ => HZ.out.1.2.1) _⟩
    have HWV : Hid (wc.setCell ⟨rb, 12, none⟩ (.int .i64 bd) = wv) := hwv
    clear hwv
    go_upto_region 17 with (go_at_call 135; refine (HBD.out _ 0 HZ.out.1).mono ?_; rintro e w' ⟨rfl, rfl⟩)
    rw [HWV.out]
    clear r1 r2 r3 r4 r5 HBD HWV HZ HAC q1 g3 g4
    have hl1 : rb < wv.heap.size := (Array.getElem?_eq_some_iff.1 HV.out.1.2.2.2.1).1
    have hl2 : mb < wv.heap.size := (Array.getElem?_eq_some_iff.1 HV.out.1.2.2.2.2.1).1
    go_cut [12] (fun s12 wy => ∃ kb, s12 = .pointer (some ⟨kb, 0, none⟩) ∧ wy.heap[kb]? = some (.cells (Cells8 K) 51 (0, 0)) ∧ RefG wy S rb mb cs ov st bd ∧ Outside S w wy)
    case first =>
      have hsl := HV.out.1.sl WH hwn
      have hn1 : rb ≠ wv.heap.size := by omega
      have hn2 : mb ≠ wv.heap.size := by omega
      go_region_held3 (fun W => SL rb mb st bd WH W) ((with_reducible first | exact hsl.drew | exact (SL.alloc hsl _).drew | (refine SL.set (SL.set (SL.set (SL.set (SL.set (SL.set (SL.set (SL.set ?_ _ _ _ hn1 hn2) _ _ _ hn1 hn2) _ _ _ hn1 hn2) _ _ _ hn1 hn2) _ _ _ hn1 hn2) _ _ _ hn1 hn2) _ _ _ hn1 hn2) _ _ _ hn1 hn2; assumption) | exact SL.alloc (by assumption) _ | exact SL.below (by assumption) hb1 | exact SL.below (SL.alloc hsl _).drew hb1 | exact SL.below hsl.drew hb1 | exact SL.alloc (SL.below hsl.drew hb1) _)) ((go_at_call 39; refine (HKY.out _).mono ?_; rintro e w1 ⟨rfl, hb1⟩; obtain ⟨hc1, hf1⟩ := bcell hb1))
      · go_wp2_with fail
        go_meet
        have hb2 : Below wv.heap.size wv (w1.alloc (.cells (Cells8 K) 51)) := ((Below.refl _ wv).drew.trans hb1).alloc hb1.size _
        exact ⟨w1.heap.size, rfl, (MapKept.heap_alloc _ _).1, HV.out.1.below hb2, HV.out.2.below hb2⟩
      · go_wp2_with fail
        go_meet
        obtain ⟨hk1, hk2⟩ := newcell' wv w1 hb1
        rw [stores8_row w1 wv.heap.size _ _ K hk2]
        have hb2 : Below wv.heap.size wv (w1.setRow wv.heap.size (Cells8 K)) := below_setRow hk1 (Nat.le_refl _) _
        exact ⟨wv.heap.size, rfl, setRow_heap _ _ _ _ _ _ hk2, HV.out.1.below hb2, HV.out.2.below hb2⟩
    case rest =>
      clear hl1 hl2 HKY HV
      obtain ⟨kb, rfl, hkb, hr, hout⟩ := hcut
      have HR : Hid (RefG wc S rb mb cs ov st bd ∧ Outside S w wc) := ⟨hr, hout⟩
      obtain ⟨kc, _⟩ : (∀ o, wc.cell? ⟨kb, o, none⟩ = (Cells8 K)[o]?) ∧ True := ⟨fun o => cell_of_row _ _ _ _ _ _ hkb, trivial⟩
      obtain ⟨hf0, hf3⟩ := HF.out
      clear hr hout hkb
      go_upto_region 18 with fail
      go_cut [14, 15] (fun s14 s15 wy => s14 = .string ⟨#[]⟩ ∧ s15 = .bool false ∧ RefG wy S rb mb cs ov st bd ∧ Outside S w wy)
      case first =>
        go_region_with (go_at_call 35; refine (HOP.out _).mono ?_; rintro e w1 ⟨rfl, hb1⟩)
        all_goals
          go_wp2_with fail
          go_meet
          have hb2 : Below wc.heap.size wc w1 := (Below.refl _ wc).drew.trans hb1
          exact ⟨rfl, rfl, HR.out.1.below hb2, HR.out.2.below hb2⟩
      case rest =>
        obtain ⟨rfl, rfl, hr, hout⟩ := hcut
        go_wp2_with fail
        exact bodyPost_ret (v := .tuple #[.int .i64 0, .int .i64 0, .string ⟨#[]⟩, .int .i64 7]) (by simp [results, Tryz.results101, go_sem]) rfl ⟨rfl, hout, hr⟩
end Go.Proofs.YtkpebabbnndopaaGreatDoor

/- epochref.Unprotect: what opens, and lies ahead. -/
namespace Go.Proofs.YtkpebabbnndopaaGreatDoor
open Go.RowKit
set_option linter.unusedVariables false

set_option maxRecDepth 20000 in
set_option maxHeartbeats 4000000 in
theorem refUn_ahead (w : World) (S : List Nat) (rb mb : Nat) (cs : Array Value) (ov : Nat → Value) (st : St) (steps : Int) (ok : st.Ok) (hr : RefG w S rb mb cs ov st steps) (f : ByteArray) (hpre : st.unPre f.data.toList = 0) (hok : st.unOk f.data.toList = true) (hnk : unGen f.data.toList ∉ (st.m (unWho f.data.toList)).over) :
    Calls Tryz.prog 101 #[.pointer (some ⟨rb, 0, none⟩), .string f] w fun x w' => x = .returned (.tuple #[.int .i64 (unWho f.data.toList), .int .i64 (unGen f.data.toList), .string ⟨(st.unText f.data.toList).toArray⟩, .int .i64 0]) ∧ Outside S w w' ∧ ∃ S', (∀ k, k ∈ S' → k ∈ S ∨ w.heap.size ≤ k ∧ k < w'.heap.size) ∧ RefRep w' S' rb (st.unNext f.data.toList) (st.bound (unWho f.data.toList) (unGen f.data.toList) (f.data.toList.length - 7)) := by
  obtain ⟨hcl, hs, hs2, hwn, hwo, hgo, hgf⟩ := unPre_zero hpre
  clear hpre
  have ho := ok.own
  have h16 := ok.n16
  obtain ⟨wx, hwx⟩ : ∃ wx, w.setCell ⟨rb, 12, none⟩ (.int .i64 0) = wx := ⟨_, rfl⟩
  have hx : RefG wx S rb mb cs ov st 0 := by rw [← hwx]; exact hr.setSteps 0
  have hxo : Outside S w wx := by rw [← hwx]; exact (Outside.refl _ _).setCell _ (fun _ => hr.2.1) _
  obtain ⟨c1, c2, _⟩ := hr.cells st.own ho
  have hsz : f.data.toList.length = f.size := Array.length_toList
  have hi0 : ∀ w, (Instr.index 9 (.string f) (.int .i64 0)).run Tryz.prog w = .ok (.int .u8 (unWho f.data.toList : Int)) w := fun w => index_byte f 0 (by omega) w
  obtain ⟨B1, hB1⟩ : ∃ B1 : Nat, (f.data.toList.getD 1 0).toNat = B1 := ⟨_, rfl⟩
  obtain ⟨B2, hB2⟩ : ∃ B2 : Nat, (f.data.toList.getD 2 0).toNat = B2 := ⟨_, rfl⟩
  have hb1 : B1 < 256 := by rw [← hB1]; exact (f.data.toList.getD 1 0).toNat_lt
  have hb2 : B2 < 256 := by rw [← hB2]; exact (f.data.toList.getD 2 0).toNat_lt
  have hgen : unGen f.data.toList = B1 * 256 + B2 := by unfold unGen; rw [hB1, hB2]
  have hi1 : ∀ w, (Instr.index 9 (.string f) (.int .i64 1)).run Tryz.prog w = .ok (.int .u8 (B1 : Int)) w := fun w => by rw [← hB1]; exact index_byte f 1 (by omega) w
  have hi2 : ∀ w, (Instr.index 9 (.string f) (.int .i64 2)).run Tryz.prog w = .ok (.int .u8 (B2 : Int)) w := fun w => by rw [← hB2]; exact index_byte f 2 (by omega) w
  have hor := or_bytes B1 B2 hb1 hb2
  rw [← hgen] at hor
  have hgl : unGen f.data.toList < 65536 := unGen_lt _
  have HBD : Hid (∀ W steps, RefG W S rb mb cs ov st steps → Calls Tryz.prog 135 #[.pointer (some ⟨rb, 0, none⟩), .int .i64 (unWho f.data.toList), .int .i64 (unGen f.data.toList), .int .i64 ((f.data.toList.length - 7 : Nat) : Int)] W fun e w' => e = .returned (.int .i64 (st.bound (unWho f.data.toList) (unGen f.data.toList) (f.data.toList.length - 7))) ∧ w' = W) := fun W steps h => refBound_any W S rb mb cs ov st steps ok h (unWho f.data.toList) (unGen f.data.toList) (f.data.toList.length - 7) hwn (by omega) (by omega)
  obtain ⟨bd, hbd⟩ : ∃ bd, st.bound (unWho f.data.toList) (unGen f.data.toList) (f.data.toList.length - 7) = bd := ⟨_, rfl⟩
  rw [hbd] at HBD ⊢
  have HKY : Hid (∀ W, Calls Tryz.prog 39 #[Agg8 st.s, .int .i64 st.n, .int .i64 (unWho f.data.toList), .int .i64 (unGen f.data.toList)] W fun e w' => e = .returned (.tuple #[Agg8 (st.unKey f.data.toList), .int .i64 0]) ∧ Below W.heap.size W w') := fun W => refKey_at st ok (unWho f.data.toList) (unGen f.data.toList) hwn (by omega) W
  have hx0 : (f.extract 0 3).data.toList = f.data.toList.take 3 := by simp [ByteArray.data_extract]
  have hx3 : (f.extract 3 f.size).data.toList = f.data.toList.drop 3 := by
    rw [ByteArray.data_extract, Array.toList_extract, List.extract_eq_take_drop]
    exact List.take_of_length_le (by rw [List.length_drop, hsz]; exact Nat.le_refl _)
  have HOP : Hid (∀ W, Calls Tryz.prog 35 #[Agg8 (st.unKey f.data.toList), .string (f.extract 0 3), .string (f.extract 3 f.size)] W fun e w' => e = .returned (.tuple #[.string ⟨(st.unText f.data.toList).toArray⟩, .bool true]) ∧ Below W.heap.size W w') := fun W => by
    have hl3 : (f.extract 3 f.size).size = (f.data.toList.length - 7) + 4 := by
      have : (f.extract 3 f.size).data.toList.length = (f.extract 3 f.size).size := Array.length_toList
      rw [← this, hx3, List.length_drop]; omega
    have hl0 : (f.extract 0 3).size ≤ 1000000 := by
      have : (f.extract 0 3).data.toList.length = (f.extract 0 3).size := Array.length_toList
      rw [← this, hx0, List.length_take]; omega
    refine (refOpen_long (st.unKey f.data.toList) (keyAt_bd st _ _) (f.extract 0 3) (f.extract 3 f.size) (f.data.toList.length - 7) hl0 hl3 (by omega) W).mono fun e w' ⟨hb, hc⟩ => ?_
    rw [hx0, hx3] at hc
    rcases hc with ⟨hc, _⟩ | ⟨_, hc⟩
    · have : OpenOk (st.unKey f.data.toList) (f.data.toList.take 3) (f.data.toList.drop 3) = true := hok
      rw [this] at hc; cases hc
    · exact ⟨hc, hb⟩
  obtain ⟨TX, hTX⟩ : ∃ TX : ByteArray, (⟨(st.unText f.data.toList).toArray⟩ : ByteArray) = TX := ⟨_, rfl⟩
  rw [hTX] at HOP ⊢
  clear hTX
  have hNX : st.unNext f.data.toList = st.setM (unWho f.data.toList) ⟨true, unGen f.data.toList + 1, unOver (st.m (unWho f.data.toList)) (unGen f.data.toList)⟩ := by unfold St.unNext unMem; rw [if_neg hnk]
  rw [hNX]
  clear hNX
  obtain ⟨K, hK⟩ : ∃ K, st.unKey f.data.toList = K := ⟨_, rfl⟩
  rw [hK] at HKY HOP
  obtain ⟨F0, hF0⟩ : ∃ F0, f.extract 0 3 = F0 := ⟨_, rfl⟩
  obtain ⟨F3, hF3⟩ : ∃ F3, f.extract 3 f.size = F3 := ⟨_, rfl⟩
  rw [hF0, hF3] at HOP
  obtain ⟨LN, hLN⟩ : ∃ LN : Int, ((f.data.toList.length - 7 : Nat) : Int) = LN := ⟨_, rfl⟩
  rw [hLN] at HBD
  have HF : Hid (f.extract 0 3 = F0 ∧ f.extract 3 f.size = F3) := ⟨hF0, hF3⟩
  clear hF0 hF3 hx0 hx3 hok hbd hK
  obtain ⟨WH, hWH⟩ : ∃ WH : Nat, unWho f.data.toList = WH := ⟨_, rfl⟩
  obtain ⟨GE, hGE⟩ : ∃ GE : Nat, unGen f.data.toList = GE := ⟨_, rfl⟩
  rw [hWH] at hi0 hwn hwo hgo hgf HBD HKY hnk ⊢
  rw [hGE] at hor hgo hgf hgl HBD HKY hnk ⊢
  obtain ⟨Z, hZ⟩ : ∃ Z : Int, (f.size : Int) = Z := ⟨_, rfl⟩
  have hZL : wrap64 (Z - 7) = LN := by simp only [wrap64]; omega
  have d5 : 3 ≤ Z := by omega
  have d1 : ¬ Z < 7 := by omega
  have d2 : ¬ 47 < Z := by omega
  have d3 : decide (Z < 7) = false := by simp; omega
  have d4 : decide (47 < Z) = false := by simp; omega
  have dw : ¬ ((st.n : Int) ≤ (WH : Int)) := by omega
  have dw1 : (WH : Int) < (st.n : Int) := by omega
  have dwo : ¬ ((WH : Int) = (st.own : Int)) := by omega
  have dwo2 : ((WH : Int) == (st.own : Int)) = false := by simpa using dwo
  have HX : Hid (RefG wx S rb mb cs ov st 0) := hx
  have HWX : Hid (w.setCell ⟨rb, 12, none⟩ (.int .i64 0) = wx) := hwx
  have HXO : Hid (Outside S w wx) := hxo
  have HGN : Hid (((GE : Int) < ((st.m WH).next : Int) → ¬ AmongI (st.m WH).over GE < 0) ∧ ¬ (5 < (GE : Int) - ((st.m WH).next : Int)) ∧ wrap64 ((GE : Int) - ((st.m WH).next : Int)) = (GE : Int) - ((st.m WH).next : Int)) := by
    have := (ok.m WH).1
    refine ⟨fun hlt hc => (among_neg _ _).1 hc (hgo (by omega)), by omega, ?_⟩
    simp only [wrap64]; omega
  have HNG : Hid (AmongI (st.m WH).over GE < 0 ∧ (st.m WH).next ≤ GE ∧ GE ≤ (st.m WH).next + 5 ∧ GE < 65536 ∧ (st.m WH).over.length ≤ 4) := ⟨(among_neg _ _).2 hnk, by
    by_cases hlt : GE < (st.m WH).next
    · exact absurd (hgo hlt) hnk
    · omega, hgf, hgl, (ok.m WH).2.1⟩
  have HOL : Hid ((st.m WH).over.length ≤ 1000) := by have := (ok.m WH).2.1; show _ ≤ _; omega
  clear hr hx hwx hxo hsz hB1 hB2 hgen hWH hGE hs hs2 hgo hgf hgl hLN hnk
  obtain ⟨e1, e2, e3, e4, e5⟩ := HX.out.cells WH hwn
  go_enter Tryz.func101, Tryz.ntmps101
  go_upto_region 2 with fail
  rw [HWX.out]
  clear c1 c2
  go_upto_region 4 with fail
  go_quiet (fail)
  go_upto_region 10 with fail
  have hb1' : (B1 : Int) < 256 := by omega
  have hb2' : (B2 : Int) < 256 := by omega
  clear e1 e2 e3 e4 e5
  obtain ⟨wy, hwy⟩ : ∃ wy, (wx.drewN nq) = wy := ⟨_, rfl⟩
  rw [hwy]
  have HY : Hid (RefG wy S rb mb cs ov st 0 ∧ Outside S w wy) := by rw [← hwy]; exact ⟨HX.out.below (below_drewN _ _ _), HXO.out.below (below_drewN _ _ _)⟩
  clear hwy
  go_quiet (fail)
  obtain ⟨wz, hwz⟩ : ∃ wz, (wy.drewN nq) = wz := ⟨_, rfl⟩
  rw [hwz]
  have HZ : Hid (RefG wz S rb mb cs ov st 0 ∧ Outside S w wz) := by rw [← hwz]; exact ⟨HY.out.1.below (below_drewN _ _ _), HY.out.2.below (below_drewN _ _ _)⟩
  clear hwz HY HX HXO HWX
  obtain ⟨p, cap, q1, q2, q3⟩ := HZ.out.1.overAt WH hwn
  obtain ⟨_, _, g3, g4, _⟩ := HZ.out.1.cells WH hwn
  have HAC : Hid (Calls Tryz.prog 136 #[.slice p (st.m WH).over.length cap, .int .i64 GE] wz fun e w' => e = .returned (.int .i64 (AmongI (st.m WH).over GE)) ∧ w' = wz) := refAmong_any p (st.m WH).over cap GE HOL.out wz (q3.imp (fun h => h.1) id) q2
  obtain ⟨A, hA⟩ : ∃ A, AmongI (st.m WH).over GE = A := ⟨_, rfl⟩
  rw [hA] at HAC HGN HNG
  obtain ⟨hG1, hG2, hG3⟩ := HGN.out
  clear hA q2 q3 HGN hi0 hi1 hi2 hor d1 d2 d3 d4 dw dwo dwo2
  go_upto_region 12 with (go_at_call 136; refine HAC.out.mono ?_; rintro e w' ⟨rfl, rfl⟩)
  go_cut [81] (fun s81 wy => s81 = .bool false ∧ wy = w')
  case first =>
    by_cases hlt : (GE : Int) < ((st.m WH).next : Int)
    · have hA0 : ¬ A < 0 := by have := hG1 hlt; omega
      have hlt2 : decide ((GE : Int) < ((st.m WH).next : Int)) = true := by simpa using hlt
      clear hG1
      go_wp2_with fail
      go_meet
      exact ⟨by first | rfl | simp, rfl⟩
    · have hlt2 : decide ((GE : Int) < ((st.m WH).next : Int)) = false := by simpa using hlt
      clear hG1
      go_wp2_with fail
      go_meet
      exact ⟨rfl, rfl⟩
  case rest =>
    obtain ⟨rfl, rfl⟩ := hcut
    clear hG1
    obtain ⟨r1, r2, r3, r4, r5⟩ := HZ.out.1.cells WH hwn
    obtain ⟨wv, hwv⟩ : ∃ wv, wc.setCell ⟨rb, 12, none⟩ (.int .i64 bd) = wv := ⟨_, rfl⟩
    have HV : Hid (RefG wv S rb mb cs ov st bd ∧ Outside S w wv) := by rw [← hwv]; exact ⟨HZ.out.1.setSteps bd, HZ.out.2.setCell _ (fun _ => HZ.out.1.2.1) _⟩
    have HWV : Hid (wc.setCell ⟨rb, 12, none⟩ (.int .i64 bd) = wv) := hwv
    clear hwv
    go_upto_region 17 with (go_at_call 135; refine (HBD.out _ 0 HZ.out.1).mono ?_; rintro e w' ⟨rfl, rfl⟩)
    rw [HWV.out]
    clear r1 r2 r3 r4 r5 HBD HWV HZ HAC q1 g3 g4
    have hl1 : rb < wv.heap.size := (Array.getElem?_eq_some_iff.1 HV.out.1.2.2.2.1).1
    have hl2 : mb < wv.heap.size := (Array.getElem?_eq_some_iff.1 HV.out.1.2.2.2.2.1).1
    go_cut [12] (fun s12 wy => ∃ kb, s12 = .pointer (some ⟨kb, 0, none⟩) ∧ wy.heap[kb]? = some (.cells (Cells8 K) 51 (0, 0)) ∧ RefG wy S rb mb cs ov st bd ∧ Outside S w wy)
    case first =>
      have hsl := HV.out.1.sl WH hwn
      have hn1 : rb ≠ wv.heap.size := by omega
      have hn2 : mb ≠ wv.heap.size := by omega
      go_region_held3 (fun W => SL rb mb st bd WH W) ((with_reducible first | exact hsl.drew | exact (SL.alloc hsl _).drew | (refine SL.set (SL.set (SL.set (SL.set (SL.set (SL.set (SL.set (SL.set ?_ _ _ _ hn1 hn2) _ _ _ hn1 hn2) _ _ _ hn1 hn2) _ _ _ hn1 hn2) _ _ _ hn1 hn2) _ _ _ hn1 hn2) _ _ _ hn1 hn2) _ _ _ hn1 hn2; assumption) | exact SL.alloc (by assumption) _ | exact SL.below (by assumption) hb1 | exact SL.below (SL.alloc hsl _).drew hb1 | exact SL.below hsl.drew hb1 | exact SL.alloc (SL.below hsl.drew hb1) _)) ((go_at_call 39; refine (HKY.out _).mono ?_; rintro e w1 ⟨rfl, hb1⟩; obtain ⟨hc1, hf1⟩ := bcell hb1))
      · go_wp2_with fail
        go_meet
        have hb2 : Below wv.heap.size wv (w1.alloc (.cells (Cells8 K) 51)) := ((Below.refl _ wv).drew.trans hb1).alloc hb1.size _
        exact ⟨w1.heap.size, rfl, (MapKept.heap_alloc _ _).1, HV.out.1.below hb2, HV.out.2.below hb2⟩
      · go_wp2_with fail
        go_meet
        obtain ⟨hk1, hk2⟩ := newcell' wv w1 hb1
        rw [stores8_row w1 wv.heap.size _ _ K hk2]
        have hb2 : Below wv.heap.size wv (w1.setRow wv.heap.size (Cells8 K)) := below_setRow hk1 (Nat.le_refl _) _
        exact ⟨wv.heap.size, rfl, setRow_heap _ _ _ _ _ _ hk2, HV.out.1.below hb2, HV.out.2.below hb2⟩
    case rest =>
      clear hl1 hl2 HKY HV
      obtain ⟨kb, rfl, hkb, hr, hout⟩ := hcut
      have HR : Hid (RefG wc S rb mb cs ov st bd ∧ Outside S w wc) := ⟨hr, hout⟩
      obtain ⟨kc, _⟩ : (∀ o, wc.cell? ⟨kb, o, none⟩ = (Cells8 K)[o]?) ∧ True := ⟨fun o => cell_of_row _ _ _ _ _ _ hkb, trivial⟩
      obtain ⟨hf0, hf3⟩ := HF.out
      clear hr hout hkb
      go_upto_region 18 with fail
      go_cut [14, 15] (fun s14 s15 wy => s14 = .string TX ∧ s15 = .bool true ∧ RefG wy S rb mb cs ov st bd ∧ Outside S w wy)
      case first =>
        go_region_with (go_at_call 35; refine (HOP.out _).mono ?_; rintro e w1 ⟨rfl, hb1⟩)
        all_goals
          go_wp2_with fail
          go_meet
          have hb2 : Below wc.heap.size wc w1 := (Below.refl _ wc).drew.trans hb1
          exact ⟨rfl, rfl, HR.out.1.below hb2, HR.out.2.below hb2⟩
      case rest =>
        obtain ⟨rfl, rfl, hr, hout⟩ := hcut
        obtain ⟨r1, r2, r3, r4, r5⟩ := hr.cells WH hwn
        obtain ⟨hA0, _⟩ := HNG.out
        have HRC : Hid (RefG wc S rb mb cs ov st bd ∧ Outside S w wc) := ⟨hr, hout⟩
        clear hr hout HR kc
        obtain ⟨p, cap, q1, q2, q3⟩ := HRC.out.1.overAt WH hwn
        have HOB : Hid (∀ ob oo, p = some ⟨ob, oo, none⟩ → (st.m WH).over ≠ [] → ob ≠ mb) := fun ob oo e hne => by
          obtain ⟨p', cap', e1, _, e3⟩ := HRC.out.1.2.2.2.2.2.2 WH hwn
          have e4 : ov WH = .slice p (st.m WH).over.length cap := by
            have := (HRC.out.1.2.2.2.2.2.1.2 WH hwn).2.2
            rw [cell_of_row _ _ _ _ _ _ HRC.out.1.2.2.2.2.1, show WH * 3 + 2 = 3 * WH + 2 by omega, this] at q1
            exact Option.some.inj q1
          rw [e4] at e1
          cases e1
          rcases e3 with e3 | ⟨o', f', e5, _, _, e6, _⟩
          · exact absurd e3.1 hne
          · rw [e] at e5; cases e5; exact e6
        obtain ⟨wb, hwb⟩ : ∃ wb, wc.setCell ⟨mb, WH * 3, none⟩ (.bool true) = wb := ⟨_, rfl⟩
        have hmb : mb < wc.heap.size := (Array.getElem?_eq_some_iff.1 HRC.out.1.2.2.2.2.1).1
        have hrbl : rb < wc.heap.size := (Array.getElem?_eq_some_iff.1 HRC.out.1.2.2.2.1).1
        have hrow : wc.heap[mb]? = some (.cells cs 195 (0, 0)) := HRC.out.1.2.2.2.2.1
        have hrowb : wb.heap[mb]? = some (.cells (cs.setIfInBounds (WH * 3) (.bool true)) 195 (0, 0)) := by rw [← hwb, setCell_eq_setRow _ _ _ _ _ _ _ hrow]; exact setRow_heap _ _ _ _ _ _ hrow
        have hszb : wb.heap.size = wc.heap.size := by rw [← hwb]; simp [World.setCell]
        have hotb : ∀ k, k ≠ mb → wb.heap[k]? = wc.heap[k]? := fun k hk => by rw [← hwb, setCell_eq_setRow _ _ _ _ _ _ _ hrow]; exact setRow_other _ _ _ _ hk
        have HWB : Hid (wc.setCell ⟨mb, WH * 3, none⟩ (.bool true) = wb) := hwb
        clear hwb
        obtain ⟨W1, hW1⟩ : ∃ W1, wb.alloc (.cells #[] 3) = W1 := ⟨_, rfl⟩
        have HW1 : Hid (wb.alloc (.cells #[] 3) = W1) := hW1
        have bW1 : Below wc.heap.size wb W1 := by rw [← hW1]; exact (Below.refl _ wb).alloc (by omega) _
        have hz1 : W1.heap.size = wc.heap.size + 1 := by rw [← hW1]; simp [hszb]
        have hn1 : W1.heap[wc.heap.size]? = some (.cells #[] 3 (0, 0)) := by rw [← hW1, ← hszb]; exact (MapKept.heap_alloc _ _).1
        have hrow1 : W1.heap[mb]? = some (.cells (cs.setIfInBounds (WH * 3) (.bool true)) 195 (0, 0)) := by rw [bW1.block _ hmb]; exact hrowb
        have q1' : cs[WH * 3 + 2]? = some (.slice p (st.m WH).over.length cap) := by rw [← q1, cell_of_row _ _ _ _ _ _ hrow]
        have r4' : cs[WH * 3 + 1]? = some (.int .i64 (st.m WH).next) := by rw [← r4, cell_of_row _ _ _ _ _ _ hrow]
        have m2 : W1.cell? ⟨mb, WH * 3 + 2, none⟩ = some (.slice p (st.m WH).over.length cap) := by rw [cell_of_row _ _ _ _ _ _ hrow1, Array.getElem?_setIfInBounds, if_neg (by omega)]; exact q1'
        obtain ⟨hA0', hg1, hg2, hg3, hg4⟩ := HNG.out
        -- what was passed over, in a list of its own
        have hat : NumsAt W1 p (st.m WH).over cap := by
          rcases q3 with ⟨e1, e2, e3⟩ | ⟨ob, oo, e1, e2⟩
          · exact .inl ⟨e2, e1, e3⟩
          · refine .inr ⟨ob, oo, e1, fun j hj => ?_⟩
            have hc := e2 j hj
            have hne : ob ≠ mb := HOB.out ob oo e1 (fun e => by rw [e] at hj; simp at hj)
            rw [← hc, bW1.cell (p := ⟨ob, oo + j, none⟩) (block_lt_of_cell hc)]
            exact World.cell?_of_block (w := wc) (hotb ob hne)
        obtain ⟨v1, w1, hrun1, hnum1, hb1', hz1'⟩ := nums_append W1 wc.heap.size (.slice (some ⟨wc.heap.size, 0, none⟩) 0 0) [] (st.m WH).over p cap (by refine ⟨rfl, .inr ⟨wc.heap.size, 0, #[], rfl, Nat.le_refl _, hn1, Nat.le_refl _, Nat.zero_le _, rfl, rfl⟩⟩) hat (by omega) (by simp; omega) 22
        rw [List.nil_append] at hnum1
        have HRUN1 : Hid ((Builtin.append_ #[22, 22] 22 #[.slice (some ⟨wc.heap.size, 0, none⟩) 0 0, .slice p (st.m WH).over.length cap]).run Tryz.prog W1 = .ok v1 w1) := hrun1
        have m1 : w1.cell? ⟨mb, WH * 3 + 1, none⟩ = some (.int .i64 (st.m WH).next) := by
          rw [hb1'.cell (p := ⟨mb, WH * 3 + 1, none⟩) hmb, cell_of_row _ _ _ _ _ _ hrow1, Array.getElem?_setIfInBounds, if_neg (by omega)]; exact r4'
        clear hrun1 hat
        go_upto_region 25 with fail
        rw [HWB.out]
        go_wp2_with (first | (rw [HW1.out]; at_builtin; refine Lib.wpList_append_run _ rfl (.tmp 151) (.tmp 155) 22 22 rfl _ _ rfl rfl _ _ HRUN1.out ?_) | (at_builtin; refine Lib.wpList_append_run _ rfl (.tmp 151) (.tmp 155) 22 22 rfl _ _ rfl rfl _ _ HRUN1.out ?_))
        clear HRUN1 m1 m2 HW1 r1 r2 r3 r4 r5
        obtain ⟨NX, hNX⟩ : ∃ NX, (st.m WH).next = NX := ⟨_, rfl⟩
        rw [hNX] at hg1 hg2
        have HG : Hid (NX ≤ GE ∧ GE ≤ NX + 5 ∧ GE < 65536 ∧ (st.m WH).over.length ≤ 4) := ⟨hg1, hg2, hg3, hg4⟩
        obtain ⟨OV, hOV⟩ : ∃ OV, (st.m WH).over = OV := ⟨_, rfl⟩
        rw [hOV] at hnum1 HG
        have HN1 : Hid (Nums w1 wc.heap.size v1 OV ∧ wc.heap.size ≤ w1.heap.size) := ⟨hnum1, hz1'⟩
        have HEQ : Hid ((st.m WH).next = NX ∧ (st.m WH).over = OV) := ⟨hNX, hOV⟩
        clear hg1 hg2 hg3 hg4 hnum1
        rw [hNX, hOV]
        clear hNX hOV q1 q1' r4' q2 q3
        go_loopg [16, 17] (GE - NX) (fun k v16 v17 wr => ∃ i : Nat, v17 = .int .i64 i ∧ NX ≤ i ∧ i + k = GE ∧ Hid (Nums wr wc.heap.size v16 (OV ++ (List.range (i - NX)).map (NX + ·)) ∧ Below wc.heap.size w1 wr ∧ wc.heap.size ≤ wr.heap.size))
        case atStart =>
          have := HG.out
          exact ⟨NX, rfl, Nat.le_refl _, by omega, by have := HN1.out; show Nums _ _ _ _ ∧ _; rw [Nat.sub_self]; simpa using ⟨this.1, Below.refl _ _, this.2⟩⟩
        case round =>
          obtain ⟨i, rfl, hni, hik, HJ⟩ := hrel
          have hGG := HG.out
          by_cases hlt : i < GE
          · have hlt' : (i : Int) < (GE : Int) := by omega
            obtain ⟨j1, j2, j3⟩ := HJ.out
            obtain ⟨v2, w2, hrun2, hnum2, hb2', hz2'⟩ := nums_append (wr.alloc (.cells #[.int .i64 (i : Int)] 3)) wc.heap.size u16 (OV ++ (List.range (i - NX)).map (NX + ·)) [i] (some ⟨wr.heap.size, 0, none⟩) 1 (j1.below ((Below.refl _ _).alloc (Nat.le_refl _) _)) (.inr ⟨wr.heap.size, 0, rfl, fun j hj => by
              have hj0 : j = 0 := by simpa using hj
              subst hj0
              rw [cell_of_row _ _ _ _ _ _ (MapKept.heap_alloc wr _).1]; rfl⟩) (by simp; omega) (by simp; omega) 22
            have HRUN2 : Hid ((Builtin.append_ #[22, 22] 22 #[u16, .slice (some ⟨wr.heap.size, 0, none⟩) 1 1]).run Tryz.prog (wr.alloc (.cells #[.int .i64 (i : Int)] 3)) = .ok v2 w2) := hrun2
            have HREL : Hid (Nums w2 wc.heap.size v2 (OV ++ (List.range (i + 1 - NX)).map (NX + ·)) ∧ Below wc.heap.size w1 w2 ∧ wc.heap.size ≤ w2.heap.size) := by
              refine ⟨?_, (j2.alloc j3 _).trans hb2', hz2'⟩
              rw [show i + 1 - NX = (i - NX) + 1 by omega, List.range_succ, List.map_append, ← List.append_assoc]
              have e : ([i - NX].map (NX + ·)) = [i] := by simp; omega
              rw [e]
              exact hnum2
            clear hrun2 hnum2 hb2' hz2' j1 j2 j3 HJ hGG
            go_wp2_with (at_builtin; refine Lib.wpList_append_run _ rfl (.tmp 166) (.tmp 168) 22 22 rfl _ _ rfl rfl _ _ HRUN2.out ?_)
            go_roundg (gk - 1)
            case measure => omega
            case rel => exact ⟨i + 1, by go_num, by omega, by omega, HREL.out⟩
          · have hge : ¬ (i : Int) < (GE : Int) := by omega
            obtain rfl : i = GE := by omega
            obtain ⟨j1, j2, j3⟩ := HJ.out
            have hbel : Below wc.heap.size wb wr := (bW1.trans hb1').trans j2
            have hrowr : wr.heap[mb]? = some (.cells (cs.setIfInBounds (WH * 3) (.bool true)) 195 (0, 0)) := by rw [hbel.block _ hmb]; exact hrowb
            have HFIN : Hid (∀ vO, OverAt wr (S ++ List.range' wc.heap.size (wr.heap.size - wc.heap.size)) rb mb vO (unOver (st.m WH) i) → Outside S w ((wr.setCell ⟨mb, WH * 3 + 2, none⟩ vO).setCell ⟨mb, WH * 3 + 1, none⟩ (.int .i64 ((i + 1 : Nat) : Int))) ∧ ∃ S', (∀ k, k ∈ S' → k ∈ S ∨ w.heap.size ≤ k ∧ k < ((wr.setCell ⟨mb, WH * 3 + 2, none⟩ vO).setCell ⟨mb, WH * 3 + 1, none⟩ (.int .i64 ((i + 1 : Nat) : Int))).heap.size) ∧ RefRep ((wr.setCell ⟨mb, WH * 3 + 2, none⟩ vO).setCell ⟨mb, WH * 3 + 1, none⟩ (.int .i64 ((i + 1 : Nat) : Int))) S' rb (st.setM WH ⟨true, i + 1, unOver (st.m WH) i⟩) bd) := by
              intro vO hO
              have e1 : (wr.setCell ⟨mb, WH * 3 + 2, none⟩ vO).setCell ⟨mb, WH * 3 + 1, none⟩ (.int .i64 ((i + 1 : Nat) : Int)) = wr.setRow mb (((cs.setIfInBounds (WH * 3) (.bool true)).setIfInBounds (WH * 3 + 2) vO).setIfInBounds (WH * 3 + 1) (.int .i64 ((i + 1 : Nat) : Int))) := by
                rw [setCell_eq_setRow wr mb _ _ _ (0, 0) _ hrowr, setCell_eq_setRow _ mb _ _ _ (0, 0) _ (setRow_heap wr mb _ _ _ (0, 0) hrowr), setRow_setRow]
              rw [e1]
              have hG := HRC.out.1
              have hmS := hG.2.2.1
              have hmr := hG.2.2.2.2.2.1
              have hl3 : 3 * WH + 3 ≤ cs.size := by rw [hmr.1]; omega
              have hwb : wb = wc.setRow mb (cs.setIfInBounds (WH * 3) (.bool true)) := by rw [← HWB.out, setCell_eq_setRow _ _ _ _ _ _ _ hrow]
              have hR1 := hG.put ok.len WH hwn (cs.setIfInBounds (WH * 3) (.bool true)) ov ⟨true, (st.m WH).next, (st.m WH).over⟩ (by rw [Array.size_setIfInBounds]) (fun j hj => by rw [Array.getElem?_setIfInBounds, if_neg (by omega)]) (by rw [Array.getElem?_setIfInBounds, if_pos (by omega), if_pos (by omega)]) (by rw [Array.getElem?_setIfInBounds, if_neg (by omega)]; exact (hmr.2 WH hwn).2.1) (by rw [Array.getElem?_setIfInBounds, if_neg (by omega)]; exact (hmr.2 WH hwn).2.2) (fun _ _ => rfl) (hG.2.2.2.2.2.2 WH hwn)
              rw [← hwb] at hR1
              have hR2 := (hR1.below (w' := wr) (by rw [hszb]; exact hbel)).grow (S' := S ++ List.range' wc.heap.size (wr.heap.size - wc.heap.size)) (fun k hk => List.mem_append_left _ hk)
              have hR3 := hR2.put (by show (st.mem.set _ _).length = st.n; rw [List.length_set]; exact ok.len) WH hwn (((cs.setIfInBounds (WH * 3) (.bool true)).setIfInBounds (WH * 3 + 2) vO).setIfInBounds (WH * 3 + 1) (.int .i64 ((i + 1 : Nat) : Int))) (fun j => if j = WH then vO else ov j) ⟨true, i + 1, unOver (st.m WH) i⟩ (by simp only [Array.size_setIfInBounds]) (fun j hj => by rw [Array.getElem?_setIfInBounds, if_neg (by omega), Array.getElem?_setIfInBounds, if_neg (by omega)]) (by rw [Array.getElem?_setIfInBounds, if_neg (by omega), Array.getElem?_setIfInBounds, if_neg (by omega), Array.getElem?_setIfInBounds, if_pos (by omega), if_pos (by omega)]) (by rw [Array.getElem?_setIfInBounds, if_pos (by omega), if_pos (by simp only [Array.size_setIfInBounds]; omega)]) (by rw [Array.getElem?_setIfInBounds, if_neg (by omega), Array.getElem?_setIfInBounds, if_pos (by omega), if_pos (by simp only [Array.size_setIfInBounds]; omega), if_pos rfl]) (fun j hj => if_neg hj) (by rw [if_pos rfl]; exact hO)
              have e2 : (st.setM WH ⟨true, (st.m WH).next, (st.m WH).over⟩).setM WH ⟨true, i + 1, unOver (st.m WH) i⟩ = st.setM WH ⟨true, i + 1, unOver (st.m WH) i⟩ := by unfold St.setM; simp
              rw [e2] at hR3
              refine ⟨?_, _, fun k hk => ?_, mb, _, _, hR3⟩
              · have o1 : Outside S w wb := by rw [hwb]; exact HRC.out.2.setRow mb (fun _ => hmS) _
                have o2 : Outside S w wr := ⟨hbel.os.trans o1.os, hbel.tape.trans o1.tape, hbel.output.trans o1.output, Nat.le_trans o1.size hbel.size, fun k hk hn => by rw [hbel.block k (Nat.lt_of_lt_of_le hk HRC.out.2.size)]; exact o1.block k hk hn⟩
                exact o2.setRow mb (fun _ => hmS) _
              · rcases List.mem_append.1 hk with h | h
                · exact .inl h
                · have h1 := List.mem_range'_1.1 h
                  have h2 := HRC.out.2.size
                  have h3 := hbel.size
                  refine .inr ⟨by omega, ?_⟩
                  rw [show (wr.setRow mb (((cs.setIfInBounds (WH * 3) (.bool true)).setIfInBounds (WH * 3 + 2) vO).setIfInBounds (WH * 3 + 1) (.int .i64 ((i + 1 : Nat) : Int)))).heap.size = wr.heap.size from by simp [World.setRow]]
                  omega
            obtain ⟨LL, hLL⟩ : ∃ LL, OV ++ (List.range (i - NX)).map (NX + ·) = LL := ⟨_, rfl⟩
            rw [hLL] at j1
            have hUO : unOver (st.m WH) i = LL.drop (LL.length - 4) := by unfold unOver; rw [HEQ.out.1, HEQ.out.2, hLL]
            have hLlen : LL.length ≤ 9 := by rw [← hLL, List.length_append, List.length_map, List.length_range]; omega
            have hO := j1.over (S := S ++ List.range' wc.heap.size (wr.heap.size - wc.heap.size)) hrbl hmb (fun k a b => List.mem_append_right _ (List.mem_range'_1.2 ⟨a, by omega⟩))
            have hcr : ∀ o, wr.cell? ⟨mb, o, none⟩ = (cs.setIfInBounds (WH * 3) (.bool true))[o]? := fun o => cell_of_row _ _ _ _ _ _ hrowr
            have q1c : (cs.setIfInBounds (WH * 3) (.bool true))[WH * 3 + 2]? = some (ov WH) := by rw [Array.getElem?_setIfInBounds, if_neg (by omega), show WH * 3 + 2 = 3 * WH + 2 by omega]; exact (HRC.out.1.2.2.2.2.2.1.2 WH hwn).2.2
            have q0c : (cs.setIfInBounds (WH * 3) (.bool true))[WH * 3 + 1]? = some (.int .i64 (st.m WH).next) := by rw [Array.getElem?_setIfInBounds, if_neg (by omega), show WH * 3 + 1 = 3 * WH + 1 by omega]; exact (HRC.out.1.2.2.2.2.2.1.2 WH hwn).2.1
            have k2 : wr.cell? ⟨mb, WH * 3 + 2, none⟩ = some (ov WH) := by rw [hcr, q1c]
            have k1 : wr.cell? ⟨mb, WH * 3 + 1, none⟩ = some (.int .i64 (st.m WH).next) := by rw [hcr, q0c]
            have kf : ∀ o, wr.frozen? ⟨mb, o, none⟩ = false := fun o => by simp [World.frozen?, hrowr]
            have hwi : wrap64 ((i : Int) + 1) = ((i + 1 : Nat) : Int) := by simp only [wrap64]; omega
            have hform : ∃ p' cap', u16 = .slice p' LL.length cap' := by
              rcases j1.2 with ⟨e1, e2⟩ | ⟨g, capL, cur, e1, _⟩
              · exact ⟨none, 0, by rw [e1, e2]⟩
              · exact ⟨_, _, e1⟩
            by_cases h4 : 4 < LL.length
            · rcases j1.2 with ⟨e1, e2⟩ | ⟨g, capL, cur, rfl, e2, e3, e4, _⟩
              · omega
              obtain ⟨k4, hk4⟩ : ∃ k4, LL.length = k4 + 4 := ⟨LL.length - 4, by omega⟩
              have hO2 := OverAt.drop hO k4 (by omega) e4 g 0 rfl
              rw [Nat.zero_add, show LL.length - k4 = 4 by omega] at hO2
              obtain ⟨fo, fr⟩ := HFIN.out _ (by rw [hUO, show LL.length - 4 = k4 by omega]; exact hO2)
              have HFO : Hid (Outside S w ((wr.setCell ⟨mb, WH * 3 + 2, none⟩ (.slice (some ⟨g, k4, none⟩) 4 (capL - k4))).setCell ⟨mb, WH * 3 + 1, none⟩ (.int .i64 ((i + 1 : Nat) : Int)))) := fo
              have HFR : Hid (∃ S', (∀ k, k ∈ S' → k ∈ S ∨ w.heap.size ≤ k ∧ k < ((wr.setCell ⟨mb, WH * 3 + 2, none⟩ (.slice (some ⟨g, k4, none⟩) 4 (capL - k4))).setCell ⟨mb, WH * 3 + 1, none⟩ (.int .i64 ((i + 1 : Nat) : Int))).heap.size) ∧ RefRep ((wr.setCell ⟨mb, WH * 3 + 2, none⟩ (.slice (some ⟨g, k4, none⟩) 4 (capL - k4))).setCell ⟨mb, WH * 3 + 1, none⟩ (.int .i64 ((i + 1 : Nat) : Int))) S' rb (st.setM WH ⟨true, i + 1, unOver (st.m WH) i⟩) bd) := fr
              obtain ⟨n, hn⟩ : ∃ n, LL.length = n := ⟨_, rfl⟩
              rw [hn] at hk4 e4
              obtain ⟨NI, hNI⟩ : ∃ NI : Int, (n : Int) = NI := ⟨_, rfl⟩
              have h4' : (4 : Int) < NI := by omega
              have h5 : NI ≤ 9 := by omega
              have hsl : ∀ W, (Instr.sliceAt 22 (.slice (some ⟨g, 0, none⟩) n capL) (some (.int .i64 (NI - 4))) none none).run Tryz.prog W = .ok (.slice (some ⟨g, k4, none⟩) 4 (capL - k4)) W := fun W => by
                have x0 : (0 : Int) ≤ (k4 : Int) := by omega
                have x1 : (k4 : Int) ≤ (n : Int) := by omega
                have x2 : ¬ (capL = k4) := by omega
                have x3 : n - k4 = 4 := by omega
                rw [show NI - 4 = (k4 : Int) by omega]
                simp [go_sem, x0, x1, x2, x3]
              rw [hn]
              clear fo fr HFIN hO hO2 hUO hcr q1c q0c j1 j2 j3 HJ hbel hrowr hLL hform e3 e4 hk4 hn hLlen h4
              go_wp2_with fail
              exact bodyPost_ret (v := .tuple #[.int .i64 WH, .int .i64 i, .string TX, .int .i64 0]) (by simp [results, Tryz.results101, go_sem]) rfl ⟨rfl, HFO.out, HFR.out⟩
            · obtain ⟨p', cap', rfl⟩ := hform
              have h4' : ¬ (4 : Int) < (LL.length : Int) := by omega
              obtain ⟨fo, fr⟩ := HFIN.out _ (by rw [hUO, show LL.length - 4 = 0 by omega, List.drop_zero]; exact hO)
              have HFO : Hid (Outside S w ((wr.setCell ⟨mb, WH * 3 + 2, none⟩ (.slice p' LL.length cap')).setCell ⟨mb, WH * 3 + 1, none⟩ (.int .i64 ((i + 1 : Nat) : Int)))) := fo
              have HFR : Hid (∃ S', (∀ k, k ∈ S' → k ∈ S ∨ w.heap.size ≤ k ∧ k < ((wr.setCell ⟨mb, WH * 3 + 2, none⟩ (.slice p' LL.length cap')).setCell ⟨mb, WH * 3 + 1, none⟩ (.int .i64 ((i + 1 : Nat) : Int))).heap.size) ∧ RefRep ((wr.setCell ⟨mb, WH * 3 + 2, none⟩ (.slice p' LL.length cap')).setCell ⟨mb, WH * 3 + 1, none⟩ (.int .i64 ((i + 1 : Nat) : Int))) S' rb (st.setM WH ⟨true, i + 1, unOver (st.m WH) i⟩) bd) := fr
              clear fo fr HFIN hO hUO hcr q1c q0c j1 j2 j3 HJ hbel hrowr hLL
              go_wp2_with fail

              exact bodyPost_ret (v := .tuple #[.int .i64 WH, .int .i64 i, .string TX, .int .i64 0]) (by simp [results, Tryz.results101, go_sem]) rfl ⟨rfl, HFO.out, HFR.out⟩
end Go.Proofs.YtkpebabbnndopaaGreatDoor
