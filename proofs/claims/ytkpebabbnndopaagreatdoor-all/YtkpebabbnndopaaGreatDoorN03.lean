import Derived.Test.YtkpebabbnndopaaGreatDoorN01
import Derived.Deep.LoopGhost
import Derived.Lib.AppendZeros
import Derived.WalkKit
import Derived.WalkSpells
import Derived.WalkLawsBesides
import Derived.Deep.WholeRow
import Derived.Deep.DeepCutAuto
import Derived.BigRegion
import Derived.Deep.QuietTactic
import Derived.BigQuiet
import Derived.Deep.RegionHeld3
import Derived.Deep.RegionLaw
import Derived.Test.YtkpebabbnndopaaGreatDoorG05
/- epochref.Unprotect: what opens, by a key that was kept. -/
namespace Go.Proofs.YtkpebabbnndopaaGreatDoor
open Go.RowKit
set_option linter.unusedVariables false

theorem among_erase {l : List Nat} {x : Nat} (h : x ∈ l) : ∃ a : Nat, a < l.length ∧ AmongI l x = a ∧ l.take a ++ l.drop (a + 1) = l.erase x := by
  induction l with
  | nil => cases h
  | cons y l ih =>
    by_cases e : y = x
    · subst e
      exact ⟨0, by simp, by rw [AmongI, if_pos rfl]; rfl, by simp⟩
    · have hx : x ∈ l := by
        rcases List.mem_cons.1 h with h | h
        · exact absurd h.symm e
        · exact h
      obtain ⟨a, h1, h2, h3⟩ := ih hx
      refine ⟨a + 1, by simp; omega, by rw [AmongI, if_neg e, h2, if_neg (by omega)]; rfl, ?_⟩
      rw [List.erase_cons_tail (by simpa using e), ← h3]
      simp
/-- a list without one of its numbers, by two appends -/
theorem del_any (w : World) (ob oo cap cap2 oA : Nat) (l : List Nat) (A : Nat) (hA : A < l.length) (hl : l.length ≤ 100) (hc : ∀ j (hj : j < l.length), w.cell? ⟨ob, oo + j, none⟩ = some (.int .i64 (l[j] : Int))) (ho : oA = oo + (A + 1) ∨ l.length ≤ A + 1) (ty : TypeId) :
    ∃ v1 w1 v2 w2, (Builtin.append_ #[22, 22] ty #[.slice (some ⟨w.heap.size, 0, none⟩) 0 0, .slice (some ⟨ob, oo, none⟩) A cap]).run Tryz.prog (w.alloc (.cells #[] 3)).drew = .ok v1 w1 ∧
      (Builtin.append_ #[22, 22] ty #[v1, .slice (some ⟨ob, oA, none⟩) (l.length - (A + 1)) cap2]).run Tryz.prog w1 = .ok v2 w2 ∧ Nums w2 w.heap.size v2 (l.take A ++ l.drop (A + 1)) ∧ Below w.heap.size w w1 ∧ Below w.heap.size w w2 := by
  have b0 : Below w.heap.size w (w.alloc (.cells #[] 3)).drew := ((Below.refl _ w).alloc (Nat.le_refl _) _).drew
  have z0 := b0.size
  have hob : ob < w.heap.size := block_lt_of_cell (hc 0 (by omega))
  have n0 : Nums (w.alloc (.cells #[] 3)).drew w.heap.size (.slice (some ⟨w.heap.size, 0, none⟩) 0 0) [] := ⟨rfl, .inr ⟨w.heap.size, 0, #[], rfl, Nat.le_refl _, (MapKept.heap_alloc w _).1, Nat.le_refl _, Nat.zero_le _, rfl, rfl⟩⟩
  have hA' : (l.take A).length = A := by rw [List.length_take]; omega
  obtain ⟨v1, w1, r1, n1, b1, z1⟩ := nums_append _ w.heap.size _ [] (l.take A) (some ⟨ob, oo, none⟩) cap n0 (.inr ⟨ob, oo, rfl, fun j hj => by
    have hj' : j < l.length := by omega
    rw [b0.cell (p := ⟨ob, oo + j, none⟩) hob, hc j hj', List.getElem_take]⟩) z0 (by rw [hA']; simp; omega) ty
  rw [hA'] at r1
  rw [List.nil_append] at n1
  have b01 := b0.trans b1
  have hd : (l.drop (A + 1)).length = l.length - (A + 1) := List.length_drop
  obtain ⟨v2, w2, r2, n2, b2, z2⟩ := nums_append w1 w.heap.size v1 (l.take A) (l.drop (A + 1)) (some ⟨ob, oA, none⟩) cap2 n1 (.inr ⟨ob, oA, rfl, fun j hj => by
    rw [hd] at hj
    rcases ho with rfl | ho
    · rw [b01.cell (p := ⟨ob, oo + (A + 1) + j, none⟩) hob, show oo + (A + 1) + j = oo + (A + 1 + j) by omega, hc (A + 1 + j) (by omega), List.getElem_drop]
    · omega⟩) z1 (by rw [hA', hd]; omega) ty
  rw [hd] at r2
  exact ⟨v1, w1, v2, w2, r1, r2, n2, b01, b01.trans b2⟩
theorem sl_to' (g oo cap len A : Nat) (hA : A ≤ cap) (W : World) : (Instr.sliceAt 22 (.slice (some ⟨g, oo, none⟩) len cap) none (some (.int .i64 (A : Int))) none).run Tryz.prog W = .ok (.slice (some ⟨g, oo, none⟩) A cap) W := by
  have x0 : (0 : Int) ≤ (A : Int) := by omega
  have x1 : (A : Int) ≤ (cap : Int) := by omega
  simp [go_sem, x0, x1]
theorem sl_from' (g oo cap len A : Nat) (hA : A + 1 ≤ len) (hl : len ≤ cap) (W : World) : (Instr.sliceAt 22 (.slice (some ⟨g, oo, none⟩) len cap) (some (.int .i64 ((A : Int) + 1))) none none).run Tryz.prog W = .ok (.slice (some ⟨g, if cap = A + 1 then oo else oo + (A + 1), none⟩) (len - (A + 1)) (cap - (A + 1))) W := by
  have x0 : (0 : Int) ≤ ((A + 1 : Nat) : Int) := by omega
  have x1 : ((A + 1 : Nat) : Int) ≤ (len : Int) := by omega
  rw [show (A : Int) + 1 = ((A + 1 : Nat) : Int) by omega]
  generalize A + 1 = B at *
  by_cases h : cap = B
  · simp [go_sem, x0, x1, h]
  · simp [go_sem, x0, x1, h]
set_option maxRecDepth 20000 in
set_option maxHeartbeats 4000000 in
theorem refUn_kept (w : World) (S : List Nat) (rb mb : Nat) (cs : Array Value) (ov : Nat → Value) (st : St) (steps : Int) (ok : st.Ok) (hr : RefG w S rb mb cs ov st steps) (f : ByteArray) (hpre : st.unPre f.data.toList = 0) (hok : st.unOk f.data.toList = true) (hkk : unGen f.data.toList ∈ (st.m (unWho f.data.toList)).over) :
    Calls Tryz.prog 101 #[.pointer (some ⟨rb, 0, none⟩), .string f] w fun x w' => x = .returned (.tuple #[.int .i64 (unWho f.data.toList), .int .i64 (unGen f.data.toList), .string ⟨(st.unText f.data.toList).toArray⟩, .int .i64 0]) ∧ Outside S w w' ∧ ∃ S', (∀ k, k ∈ S' → k ∈ S ∨ w.heap.size ≤ k ∧ k < w'.heap.size) ∧ RefRep w' S' rb (st.unNext f.data.toList) (st.bound (unWho f.data.toList) (unGen f.data.toList) (f.data.toList.length - 7)) := by
  obtain ⟨hcl, hs, hs2, hwn, hwo, hgo, hgf⟩ := unPre_zero hpre
  clear hpre
  have ho := ok.own
  have h16 := ok.n16
  obtain ⟨wx, hwx⟩ : ∃ wx, w.setCell ⟨rb, 12, none⟩ (.int .i64 0) = wx := ⟨_, rfl⟩
  have hx : RefG wx S rb mb cs ov st 0 := by rw [← hwx]; exact hr.setSteps 0
  have hxo : Outside S w wx := by rw [← hwx]; exact (Outside.refl _ _).setCell _ (fun _ => hr.2.1) _
  obtain ⟨c1, c2, _⟩ := hr.cells st.own ho
  have hsz : f.data.toList.length = f.size := Array.length_toList
  have hi0 : ∀ w, (Instr.index 9 (.string f) (.int .i64 0)).run Tryz.prog w = .ok (.int .u8 (unWho f.data.toList : Int)) w := fun w => index_byte f 0 (by omega) w
  obtain ⟨B1, hB1⟩ : ∃ B1 : Nat, (f.data.toList.getD 1 0).toNat = B1 := ⟨_, rfl⟩
  obtain ⟨B2, hB2⟩ : ∃ B2 : Nat, (f.data.toList.getD 2 0).toNat = B2 := ⟨_, rfl⟩
  have hb1 : B1 < 256 := by rw [← hB1]; exact (f.data.toList.getD 1 0).toNat_lt
  have hb2 : B2 < 256 := by rw [← hB2]; exact (f.data.toList.getD 2 0).toNat_lt
  have hgen : unGen f.data.toList = B1 * 256 + B2 := by unfold unGen; rw [hB1, hB2]
  have hi1 : ∀ w, (Instr.index 9 (.string f) (.int .i64 1)).run Tryz.prog w = .ok (.int .u8 (B1 : Int)) w := fun w => by rw [← hB1]; exact index_byte f 1 (by omega) w
  have hi2 : ∀ w, (Instr.index 9 (.string f) (.int .i64 2)).run Tryz.prog w = .ok (.int .u8 (B2 : Int)) w := fun w => by rw [← hB2]; exact index_byte f 2 (by omega) w
  have hor := or_bytes B1 B2 hb1 hb2
  rw [← hgen] at hor
  have hgl : unGen f.data.toList < 65536 := unGen_lt _
  have HBD : Hid (∀ W steps, RefG W S rb mb cs ov st steps → Calls Tryz.prog 135 #[.pointer (some ⟨rb, 0, none⟩), .int .i64 (unWho f.data.toList), .int .i64 (unGen f.data.toList), .int .i64 ((f.data.toList.length - 7 : Nat) : Int)] W fun e w' => e = .returned (.int .i64 (st.bound (unWho f.data.toList) (unGen f.data.toList) (f.data.toList.length - 7))) ∧ w' = W) := fun W steps h => refBound_any W S rb mb cs ov st steps ok h (unWho f.data.toList) (unGen f.data.toList) (f.data.toList.length - 7) hwn (by omega) (by omega)
  obtain ⟨bd, hbd⟩ : ∃ bd, st.bound (unWho f.data.toList) (unGen f.data.toList) (f.data.toList.length - 7) = bd := ⟨_, rfl⟩
  rw [hbd] at HBD ⊢
  have HKY : Hid (∀ W, Calls Tryz.prog 39 #[Agg8 st.s, .int .i64 st.n, .int .i64 (unWho f.data.toList), .int .i64 (unGen f.data.toList)] W fun e w' => e = .returned (.tuple #[Agg8 (st.unKey f.data.toList), .int .i64 0]) ∧ Below W.heap.size W w') := fun W => refKey_at st ok (unWho f.data.toList) (unGen f.data.toList) hwn (by omega) W
  have hx0 : (f.extract 0 3).data.toList = f.data.toList.take 3 := by simp [ByteArray.data_extract]
  have hx3 : (f.extract 3 f.size).data.toList = f.data.toList.drop 3 := by
    rw [ByteArray.data_extract, Array.toList_extract, List.extract_eq_take_drop]
    exact List.take_of_length_le (by rw [List.length_drop, hsz]; exact Nat.le_refl _)
  have HOP : Hid (∀ W, Calls Tryz.prog 35 #[Agg8 (st.unKey f.data.toList), .string (f.extract 0 3), .string (f.extract 3 f.size)] W fun e w' => e = .returned (.tuple #[.string ⟨(st.unText f.data.toList).toArray⟩, .bool true]) ∧ Below W.heap.size W w') := fun W => by
    have hl3 : (f.extract 3 f.size).size = (f.data.toList.length - 7) + 4 := by
      have : (f.extract 3 f.size).data.toList.length = (f.extract 3 f.size).size := Array.length_toList
      rw [← this, hx3, List.length_drop]; omega
    have hl0 : (f.extract 0 3).size ≤ 1000000 := by
      have : (f.extract 0 3).data.toList.length = (f.extract 0 3).size := Array.length_toList
      rw [← this, hx0, List.length_take]; omega
    refine (refOpen_long (st.unKey f.data.toList) (keyAt_bd st _ _) (f.extract 0 3) (f.extract 3 f.size) (f.data.toList.length - 7) hl0 hl3 (by omega) W).mono fun e w' ⟨hb, hc⟩ => ?_
    rw [hx0, hx3] at hc
    rcases hc with ⟨hc, _⟩ | ⟨_, hc⟩
    · have : OpenOk (st.unKey f.data.toList) (f.data.toList.take 3) (f.data.toList.drop 3) = true := hok
      rw [this] at hc; cases hc
    · exact ⟨hc, hb⟩
  obtain ⟨TX, hTX⟩ : ∃ TX : ByteArray, (⟨(st.unText f.data.toList).toArray⟩ : ByteArray) = TX := ⟨_, rfl⟩
  rw [hTX] at HOP ⊢
  clear hTX
  have hNX : st.unNext f.data.toList = st.setM (unWho f.data.toList) ⟨true, (st.m (unWho f.data.toList)).next, (st.m (unWho f.data.toList)).over.erase (unGen f.data.toList)⟩ := by unfold St.unNext unMem; rw [if_pos hkk]
  rw [hNX]
  clear hNX
  obtain ⟨K, hK⟩ : ∃ K, st.unKey f.data.toList = K := ⟨_, rfl⟩
  rw [hK] at HKY HOP
  obtain ⟨F0, hF0⟩ : ∃ F0, f.extract 0 3 = F0 := ⟨_, rfl⟩
  obtain ⟨F3, hF3⟩ : ∃ F3, f.extract 3 f.size = F3 := ⟨_, rfl⟩
  rw [hF0, hF3] at HOP
  obtain ⟨LN, hLN⟩ : ∃ LN : Int, ((f.data.toList.length - 7 : Nat) : Int) = LN := ⟨_, rfl⟩
  rw [hLN] at HBD
  have HF : Hid (f.extract 0 3 = F0 ∧ f.extract 3 f.size = F3) := ⟨hF0, hF3⟩
  clear hF0 hF3 hx0 hx3 hok hbd hK
  obtain ⟨WH, hWH⟩ : ∃ WH : Nat, unWho f.data.toList = WH := ⟨_, rfl⟩
  obtain ⟨GE, hGE⟩ : ∃ GE : Nat, unGen f.data.toList = GE := ⟨_, rfl⟩
  rw [hWH] at hi0 hwn hwo hgo hgf HBD HKY hkk ⊢
  rw [hGE] at hor hgo hgf hgl HBD HKY hkk ⊢
  obtain ⟨Z, hZ⟩ : ∃ Z : Int, (f.size : Int) = Z := ⟨_, rfl⟩
  have hZL : wrap64 (Z - 7) = LN := by simp only [wrap64]; omega
  have d5 : 3 ≤ Z := by omega
  have d1 : ¬ Z < 7 := by omega
  have d2 : ¬ 47 < Z := by omega
  have d3 : decide (Z < 7) = false := by simp; omega
  have d4 : decide (47 < Z) = false := by simp; omega
  have dw : ¬ ((st.n : Int) ≤ (WH : Int)) := by omega
  have dw1 : (WH : Int) < (st.n : Int) := by omega
  have dwo : ¬ ((WH : Int) = (st.own : Int)) := by omega
  have dwo2 : ((WH : Int) == (st.own : Int)) = false := by simpa using dwo
  have HX : Hid (RefG wx S rb mb cs ov st 0) := hx
  have HWX : Hid (w.setCell ⟨rb, 12, none⟩ (.int .i64 0) = wx) := hwx
  have HXO : Hid (Outside S w wx) := hxo
  have HGN : Hid (((GE : Int) < ((st.m WH).next : Int) → ¬ AmongI (st.m WH).over GE < 0) ∧ ¬ (5 < (GE : Int) - ((st.m WH).next : Int)) ∧ wrap64 ((GE : Int) - ((st.m WH).next : Int)) = (GE : Int) - ((st.m WH).next : Int)) := by
    have := (ok.m WH).1
    refine ⟨fun hlt hc => (among_neg _ _).1 hc (hgo (by omega)), by omega, ?_⟩
    simp only [wrap64]; omega
  obtain ⟨A, hA1, hA2, hA3⟩ := among_erase hkk
  have HNG : Hid (A < (st.m WH).over.length ∧ (st.m WH).over.take A ++ (st.m WH).over.drop (A + 1) = (st.m WH).over.erase GE ∧ (st.m WH).over.length ≤ 4) := ⟨hA1, hA3, (ok.m WH).2.1⟩
  rw [hA2] at HGN
  have HOL : Hid ((st.m WH).over.length ≤ 1000) := by have := (ok.m WH).2.1; show _ ≤ _; omega
  clear hr hx hwx hxo hsz hB1 hB2 hgen hWH hGE hs hs2 hgo hgf hgl hLN hkk hA1 hA3
  obtain ⟨e1, e2, e3, e4, e5⟩ := HX.out.cells WH hwn
  go_enter Tryz.func101, Tryz.ntmps101
  go_upto_region 2 with fail
  rw [HWX.out]
  clear c1 c2
  go_upto_region 4 with fail
  go_quiet (fail)
  go_upto_region 10 with fail
  have hb1' : (B1 : Int) < 256 := by omega
  have hb2' : (B2 : Int) < 256 := by omega
  clear e1 e2 e3 e4 e5
  obtain ⟨wy, hwy⟩ : ∃ wy, (wx.drewN nq) = wy := ⟨_, rfl⟩
  rw [hwy]
  have HY : Hid (RefG wy S rb mb cs ov st 0 ∧ Outside S w wy) := by rw [← hwy]; exact ⟨HX.out.below (below_drewN _ _ _), HXO.out.below (below_drewN _ _ _)⟩
  clear hwy
  go_quiet (fail)
  obtain ⟨wz, hwz⟩ : ∃ wz, (wy.drewN nq) = wz := ⟨_, rfl⟩
  rw [hwz]
  have HZ : Hid (RefG wz S rb mb cs ov st 0 ∧ Outside S w wz) := by rw [← hwz]; exact ⟨HY.out.1.below (below_drewN _ _ _), HY.out.2.below (below_drewN _ _ _)⟩
  clear hwz HY HX HXO HWX
  obtain ⟨p, cap, q1, q2, q3⟩ := HZ.out.1.overAt WH hwn
  obtain ⟨_, _, g3, g4, _⟩ := HZ.out.1.cells WH hwn
  have HAC : Hid (Calls Tryz.prog 136 #[.slice p (st.m WH).over.length cap, .int .i64 GE] wz fun e w' => e = .returned (.int .i64 (AmongI (st.m WH).over GE)) ∧ w' = wz) := refAmong_any p (st.m WH).over cap GE HOL.out wz (q3.imp (fun h => h.1) id) q2
  rw [hA2] at HAC
  have h0a : (0 : Int) ≤ (A : Int) := by omega
  obtain ⟨hG1, hG2, hG3⟩ := HGN.out
  clear hA2 q2 q3 HGN hi0 hi1 hi2 hor d1 d2 d3 d4 dw dwo dwo2
  go_upto_region 12 with (go_at_call 136; refine HAC.out.mono ?_; rintro e w' ⟨rfl, rfl⟩)
  go_cut [81] (fun s81 wy => s81 = .bool false ∧ wy = w')
  case first =>
    by_cases hlt : (GE : Int) < ((st.m WH).next : Int)
    · have hA0 : ¬ (A : Int) < 0 := by omega
      have hlt2 : decide ((GE : Int) < ((st.m WH).next : Int)) = true := by simpa using hlt
      clear hG1
      go_wp2_with fail
      go_meet
      exact ⟨by first | rfl | simp, rfl⟩
    · have hlt2 : decide ((GE : Int) < ((st.m WH).next : Int)) = false := by simpa using hlt
      clear hG1
      go_wp2_with fail
      go_meet
      exact ⟨rfl, rfl⟩
  case rest =>
    obtain ⟨rfl, rfl⟩ := hcut
    clear hG1
    obtain ⟨r1, r2, r3, r4, r5⟩ := HZ.out.1.cells WH hwn
    obtain ⟨wv, hwv⟩ : ∃ wv, wc.setCell ⟨rb, 12, none⟩ (.int .i64 bd) = wv := ⟨_, rfl⟩
    have HV : Hid (RefG wv S rb mb cs ov st bd ∧ Outside S w wv) := by rw [← hwv]; exact ⟨HZ.out.1.setSteps bd, HZ.out.2.setCell _ (fun _ => HZ.out.1.2.1) _⟩
    have HWV : Hid (wc.setCell ⟨rb, 12, none⟩ (.int .i64 bd) = wv) := hwv
    clear hwv
    go_upto_region 17 with (go_at_call 135; refine (HBD.out _ 0 HZ.out.1).mono ?_; rintro e w' ⟨rfl, rfl⟩)
    rw [HWV.out]
    clear r1 r2 r3 r4 r5 HBD HWV HZ HAC q1 g3 g4
    have hl1 : rb < wv.heap.size := (Array.getElem?_eq_some_iff.1 HV.out.1.2.2.2.1).1
    have hl2 : mb < wv.heap.size := (Array.getElem?_eq_some_iff.1 HV.out.1.2.2.2.2.1).1
    go_cut [12] (fun s12 wy => ∃ kb, s12 = .pointer (some ⟨kb, 0, none⟩) ∧ wy.heap[kb]? = some (.cells (Cells8 K) 51 (0, 0)) ∧ RefG wy S rb mb cs ov st bd ∧ Outside S w wy)
    case first =>
      have hsl := HV.out.1.sl WH hwn
      have hn1 : rb ≠ wv.heap.size := by omega
      have hn2 : mb ≠ wv.heap.size := by omega
      go_region_held3 (fun W => SL rb mb st bd WH W) ((with_reducible first | exact hsl.drew | exact (SL.alloc hsl _).drew | (refine SL.set (SL.set (SL.set (SL.set (SL.set (SL.set (SL.set (SL.set ?_ _ _ _ hn1 hn2) _ _ _ hn1 hn2) _ _ _ hn1 hn2) _ _ _ hn1 hn2) _ _ _ hn1 hn2) _ _ _ hn1 hn2) _ _ _ hn1 hn2) _ _ _ hn1 hn2; assumption) | exact SL.alloc (by assumption) _ | exact SL.below (by assumption) hb1 | exact SL.below (SL.alloc hsl _).drew hb1 | exact SL.below hsl.drew hb1 | exact SL.alloc (SL.below hsl.drew hb1) _)) ((go_at_call 39; refine (HKY.out _).mono ?_; rintro e w1 ⟨rfl, hb1⟩; obtain ⟨hc1, hf1⟩ := bcell hb1))
      · go_wp2_with fail
        go_meet
        have hb2 : Below wv.heap.size wv (w1.alloc (.cells (Cells8 K) 51)) := ((Below.refl _ wv).drew.trans hb1).alloc hb1.size _
        exact ⟨w1.heap.size, rfl, (MapKept.heap_alloc _ _).1, HV.out.1.below hb2, HV.out.2.below hb2⟩
      · go_wp2_with fail
        go_meet
        obtain ⟨hk1, hk2⟩ := newcell' wv w1 hb1
        rw [stores8_row w1 wv.heap.size _ _ K hk2]
        have hb2 : Below wv.heap.size wv (w1.setRow wv.heap.size (Cells8 K)) := below_setRow hk1 (Nat.le_refl _) _
        exact ⟨wv.heap.size, rfl, setRow_heap _ _ _ _ _ _ hk2, HV.out.1.below hb2, HV.out.2.below hb2⟩
    case rest =>
      clear hl1 hl2 HKY HV
      obtain ⟨kb, rfl, hkb, hr, hout⟩ := hcut
      have HR : Hid (RefG wc S rb mb cs ov st bd ∧ Outside S w wc) := ⟨hr, hout⟩
      obtain ⟨kc, _⟩ : (∀ o, wc.cell? ⟨kb, o, none⟩ = (Cells8 K)[o]?) ∧ True := ⟨fun o => cell_of_row _ _ _ _ _ _ hkb, trivial⟩
      obtain ⟨hf0, hf3⟩ := HF.out
      clear hr hout hkb
      go_upto_region 18 with fail
      go_cut [14, 15] (fun s14 s15 wy => s14 = .string TX ∧ s15 = .bool true ∧ RefG wy S rb mb cs ov st bd ∧ Outside S w wy)
      case first =>
        go_region_with (go_at_call 35; refine (HOP.out _).mono ?_; rintro e w1 ⟨rfl, hb1⟩)
        all_goals
          go_wp2_with fail
          go_meet
          have hb2 : Below wc.heap.size wc w1 := (Below.refl _ wc).drew.trans hb1
          exact ⟨rfl, rfl, HR.out.1.below hb2, HR.out.2.below hb2⟩
      case rest =>
        obtain ⟨rfl, rfl, hr, hout⟩ := hcut
        obtain ⟨r1, r2, r3, r4, r5⟩ := hr.cells WH hwn
        have HRC : Hid (RefG wc S rb mb cs ov st bd ∧ Outside S w wc) := ⟨hr, hout⟩
        clear hr hout HR kc
        obtain ⟨p, cap, q1, q2, q3⟩ := HRC.out.1.overAt WH hwn
        have HOB : Hid (∀ ob oo, p = some ⟨ob, oo, none⟩ → (st.m WH).over ≠ [] → ob ≠ mb) := fun ob oo e hne => by
          obtain ⟨p', cap', e1, _, e3⟩ := HRC.out.1.2.2.2.2.2.2 WH hwn
          have e4 : ov WH = .slice p (st.m WH).over.length cap := by
            have := (HRC.out.1.2.2.2.2.2.1.2 WH hwn).2.2
            rw [cell_of_row _ _ _ _ _ _ HRC.out.1.2.2.2.2.1, show WH * 3 + 2 = 3 * WH + 2 by omega, this] at q1
            exact Option.some.inj q1
          rw [e4] at e1
          cases e1
          rcases e3 with e3 | ⟨o', f', e5, _, _, e6, _⟩
          · exact absurd e3.1 hne
          · rw [e] at e5; cases e5; exact e6
        obtain ⟨wb, hwb⟩ : ∃ wb, wc.setCell ⟨mb, WH * 3, none⟩ (.bool true) = wb := ⟨_, rfl⟩
        have hmb : mb < wc.heap.size := (Array.getElem?_eq_some_iff.1 HRC.out.1.2.2.2.2.1).1
        have hrbl : rb < wc.heap.size := (Array.getElem?_eq_some_iff.1 HRC.out.1.2.2.2.1).1
        have hrow : wc.heap[mb]? = some (.cells cs 195 (0, 0)) := HRC.out.1.2.2.2.2.1
        have hrowb : wb.heap[mb]? = some (.cells (cs.setIfInBounds (WH * 3) (.bool true)) 195 (0, 0)) := by rw [← hwb, setCell_eq_setRow _ _ _ _ _ _ _ hrow]; exact setRow_heap _ _ _ _ _ _ hrow
        have hszb : wb.heap.size = wc.heap.size := by rw [← hwb]; simp [World.setCell]
        have hotb : ∀ k, k ≠ mb → wb.heap[k]? = wc.heap[k]? := fun k hk => by rw [← hwb, setCell_eq_setRow _ _ _ _ _ _ _ hrow]; exact setRow_other _ _ _ _ hk
        have HWB : Hid (wc.setCell ⟨mb, WH * 3, none⟩ (.bool true) = wb) := hwb
        clear hwb
        obtain ⟨hA1, hA3, hA4⟩ := HNG.out
        obtain ⟨ob, oo, rfl, hcel⟩ : ∃ ob oo, p = some ⟨ob, oo, none⟩ ∧ ∀ j (hj : j < (st.m WH).over.length), wc.cell? ⟨ob, oo + j, none⟩ = some (.int .i64 ((st.m WH).over[j] : Int)) := by
          rcases q3 with ⟨e1, _⟩ | ⟨ob, oo, e1, e2⟩
          · rw [e1] at hA1; simp at hA1
          · exact ⟨ob, oo, e1, e2⟩
        have hne : ob ≠ mb := HOB.out ob oo rfl (fun e => by rw [e] at hA1; simp at hA1)
        have hcelb : ∀ j (hj : j < (st.m WH).over.length), wb.cell? ⟨ob, oo + j, none⟩ = some (.int .i64 ((st.m WH).over[j] : Int)) := fun j hj => by
          rw [← hcel j hj]
          exact World.cell?_of_block (w := wc) (hotb ob hne)
        have q1' : cs[WH * 3 + 2]? = some (.slice (some ⟨ob, oo, none⟩) (st.m WH).over.length cap) := by rw [← q1, cell_of_row _ _ _ _ _ _ hrow]
        have m2 : wb.cell? ⟨mb, WH * 3 + 2, none⟩ = some (.slice (some ⟨ob, oo, none⟩) (st.m WH).over.length cap) := by rw [cell_of_row _ _ _ _ _ _ hrowb, Array.getElem?_setIfInBounds, if_neg (by omega)]; exact q1'
        obtain ⟨OV, hOV⟩ : ∃ OV, (st.m WH).over = OV := ⟨_, rfl⟩
        have HOV : Hid ((st.m WH).over = OV) := hOV
        rw [hOV] at hA1 hA3 hA4 hcelb q2 m2
        have hmL : mb < wb.heap.size := by omega
        obtain ⟨oA, hoA⟩ : ∃ oA, (if cap = A + 1 then oo else oo + (A + 1)) = oA := ⟨_, rfl⟩
        have ho : oA = oo + (A + 1) ∨ OV.length ≤ A + 1 := by
          rw [← hoA]
          by_cases h : cap = A + 1
          · exact .inr (by omega)
          · exact .inl (if_neg h)
        have hsl1 := fun W => sl_to' ob oo cap OV.length A (by omega) W
        have hsl2 := fun W => sl_from' ob oo cap OV.length A (by omega) q2 W
        rw [hoA] at hsl2
        obtain ⟨v1, w1, v2, w2, r1', r2', n2, b1, b2⟩ := del_any wb ob oo cap (cap - (A + 1)) oA OV A hA1 (by omega) hcelb ho 22
        obtain ⟨pv2, nv2, cv2, hv2⟩ : ∃ p m c, v2 = .slice p m c := by
          rcases n2.2 with ⟨h1, _⟩ | ⟨g, cap, _, h1, _⟩
          · exact ⟨_, _, _, h1⟩
          · exact ⟨_, _, _, h1⟩
        subst hv2
        have HRUN1 : Hid ((Builtin.append_ #[22, 22] 22 #[.slice (some ⟨wb.heap.size, 0, none⟩) 0 0, .slice (some ⟨ob, oo, none⟩) A cap]).run Tryz.prog (wb.alloc (.cells #[] 3)).drew = .ok v1 w1) := r1'
        have HRUN2 : Hid ((Builtin.append_ #[22, 22] 22 #[v1, .slice (some ⟨ob, oA, none⟩) (OV.length - (A + 1)) (cap - (A + 1))]).run Tryz.prog w1 = .ok (.slice pv2 nv2 cv2) w2) := r2'
        have m21 : w1.cell? ⟨mb, WH * 3 + 2, none⟩ = some (.slice (some ⟨ob, oo, none⟩) OV.length cap) := by rw [b1.cell (p := ⟨mb, WH * 3 + 2, none⟩) hmL]; exact m2
        have m22 : w2.cell? ⟨mb, WH * 3 + 2, none⟩ = some (.slice (some ⟨ob, oo, none⟩) OV.length cap) := by rw [b2.cell (p := ⟨mb, WH * 3 + 2, none⟩) hmL]; exact m2
        have hrow2 : w2.heap[mb]? = some (.cells (cs.setIfInBounds (WH * 3) (.bool true)) 195 (0, 0)) := by rw [b2.block _ hmL]; exact hrowb
        have kf : ∀ o, w2.frozen? ⟨mb, o, none⟩ = false := fun o => by simp [World.frozen?, hrow2]
        have HFIN : Hid (Outside S w (w2.setCell ⟨mb, WH * 3 + 2, none⟩ (.slice pv2 nv2 cv2)) ∧ ∃ S', (∀ k, k ∈ S' → k ∈ S ∨ w.heap.size ≤ k ∧ k < (w2.setCell ⟨mb, WH * 3 + 2, none⟩ (.slice pv2 nv2 cv2)).heap.size) ∧ RefRep (w2.setCell ⟨mb, WH * 3 + 2, none⟩ (.slice pv2 nv2 cv2)) S' rb (st.setM WH ⟨true, (st.m WH).next, (st.m WH).over.erase GE⟩) bd) := by
          have hG := HRC.out.1
          have hmS := hG.2.2.1
          have hmr := hG.2.2.2.2.2.1
          have hl3 : 3 * WH + 3 ≤ cs.size := by rw [hmr.1]; omega
          have hwb : wb = wc.setRow mb (cs.setIfInBounds (WH * 3) (.bool true)) := by rw [← HWB.out, setCell_eq_setRow _ _ _ _ _ _ _ hrow]
          have hR1 := hG.put ok.len WH hwn (cs.setIfInBounds (WH * 3) (.bool true)) ov ⟨true, (st.m WH).next, (st.m WH).over⟩ (by rw [Array.size_setIfInBounds]) (fun j hj => by rw [Array.getElem?_setIfInBounds, if_neg (by omega)]) (by rw [Array.getElem?_setIfInBounds, if_pos (by omega), if_pos (by omega)]) (by rw [Array.getElem?_setIfInBounds, if_neg (by omega)]; exact (hmr.2 WH hwn).2.1) (by rw [Array.getElem?_setIfInBounds, if_neg (by omega)]; exact (hmr.2 WH hwn).2.2) (fun _ _ => rfl) (hG.2.2.2.2.2.2 WH hwn)
          rw [← hwb] at hR1
          have hR2 := (hR1.below b2).grow (S' := S ++ List.range' wb.heap.size (w2.heap.size - wb.heap.size)) (fun k hk => List.mem_append_left _ hk)
          have hO := n2.over (S := S ++ List.range' wb.heap.size (w2.heap.size - wb.heap.size)) (rb := rb) (mb := mb) (by omega) hmL (fun k a b => List.mem_append_right _ (List.mem_range'_1.2 ⟨a, by omega⟩))
          have hR3 := hR2.put (by show (st.mem.set _ _).length = st.n; rw [List.length_set]; exact ok.len) WH hwn ((cs.setIfInBounds (WH * 3) (.bool true)).setIfInBounds (WH * 3 + 2) (.slice pv2 nv2 cv2)) (fun j => if j = WH then (.slice pv2 nv2 cv2) else ov j) ⟨true, (st.m WH).next, (st.m WH).over.erase GE⟩ (by simp only [Array.size_setIfInBounds]) (fun j hj => by rw [Array.getElem?_setIfInBounds, if_neg (by omega)]) (by rw [Array.getElem?_setIfInBounds, if_neg (by omega), Array.getElem?_setIfInBounds, if_pos (by omega), if_pos (by omega)]) (by rw [Array.getElem?_setIfInBounds, if_neg (by omega), Array.getElem?_setIfInBounds, if_neg (by omega)]; exact (hmr.2 WH hwn).2.1) (by rw [Array.getElem?_setIfInBounds, if_pos (by omega), if_pos (by simp only [Array.size_setIfInBounds]; omega), if_pos rfl]) (fun j hj => if_neg hj) (by rw [if_pos rfl]; show OverAt _ _ _ _ _ ((st.m WH).over.erase GE); rw [HOV.out, ← hA3]; exact hO)
          have e2 : (st.setM WH ⟨true, (st.m WH).next, (st.m WH).over⟩).setM WH ⟨true, (st.m WH).next, (st.m WH).over.erase GE⟩ = st.setM WH ⟨true, (st.m WH).next, (st.m WH).over.erase GE⟩ := by unfold St.setM; simp
          rw [e2] at hR3
          rw [setCell_eq_setRow w2 mb _ _ _ (0, 0) _ hrow2]
          have o1 : Outside S w wb := by rw [hwb]; exact HRC.out.2.setRow mb (fun _ => hmS) _
          refine ⟨?_, _, fun k hk => ?_, mb, _, _, hR3⟩
          · have o2 : Outside S w w2 := ⟨b2.os.trans o1.os, b2.tape.trans o1.tape, b2.output.trans o1.output, Nat.le_trans o1.size b2.size, fun k hk hn => by rw [b2.block k (Nat.lt_of_lt_of_le hk o1.size)]; exact o1.block k hk hn⟩
            exact o2.setRow mb (fun _ => hmS) _
          · rcases List.mem_append.1 hk with h | h
            · exact .inl h
            · have h1 := List.mem_range'_1.1 h
              have h2 := o1.size
              have h3 := b2.size
              refine .inr ⟨by omega, ?_⟩
              rw [size_setRow]
              omega
        clear r1' r2' n2 b1 b2 hrow2 ho hoA hcelb hcel hA3 HOB q1' q1 q2 q3 hrow hrowb hszb hotb
        go_upto_region 23 with fail
        rw [HWB.out]
        have hwr : IntKind.i64.wrap ((A : Int) + 1) = (A : Int) + 1 := by rw [IntKind.wrap_i64]; omega
        have hwr1 : (0 : Int) ≤ (A : Int) + 1 := by omega
        have hwr2 : (A : Int) + 1 ≤ (OV.length : Int) := by omega
        go_region_law (first | refine step_app rfl (.tmp 130) (.tmp 136) 22 22 rfl rfl (.slice (some ⟨wb.heap.size, 0, none⟩) 0 0) (.slice (some ⟨ob, oo, none⟩) A cap) v1 w1 rfl rfl HRUN1.out ?_ | refine step_app rfl (.tmp 137) (.tmp 144) 22 22 rfl rfl v1 (.slice (some ⟨ob, oA, none⟩) (OV.length - (A + 1)) (cap - (A + 1))) (.slice pv2 nv2 cv2) w2 rfl rfl HRUN2.out ?_)
        all_goals
          go_wp2_with fail
          exact bodyPost_ret (v := .tuple #[.int .i64 WH, .int .i64 GE, .string TX, .int .i64 0]) (by simp [results, Tryz.results101, go_sem]) rfl ⟨rfl, HFIN.out.1, HFIN.out.2⟩
end Go.Proofs.YtkpebabbnndopaaGreatDoor
