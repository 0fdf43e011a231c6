import Derived.Test.YtkpebabbnndopaaGreatDoorC12
import Derived.Test.YtkpebabbnndopaaGreatDoorC13
import Derived.WalkKit
import Derived.WalkSpells
import Derived.WalkLawsBesides
import Derived.Deep.WholeRow
import Derived.Deep.DeepCutAuto
import Derived.BigRegion
import Derived.BigQuiet
import Derived.Deep.RegionHeld3
/- (*epochref.Group).Protect. -/
namespace Go.Proofs.YtkpebabbnndopaaGreatDoor
open Go.RowKit

theorem RefG.setSteps {w : World} {S : List Nat} {rb mb : Nat} {cs : Array Value} {ov : Nat → Value} {st : St} {steps : Int} (h : RefG w S rb mb cs ov st steps) (x : Int) : RefG (w.setCell ⟨rb, 12, none⟩ (.int .i64 x)) S rb mb cs ov st x := by
  obtain ⟨h1, h2, h3, h4, h5, h6, h7⟩ := h
  rw [setCell_eq_setRow w rb 12 _ _ (0, 0) _ h4]
  refine ⟨h1, h2, h3, setRow_heap _ _ _ _ _ _ h4, by rw [setRow_other _ _ _ _ (fun e => h1 e.symm), h5], h6, fun i hi => (h7 i hi).keep fun k _ _ hk _ => setRow_other _ _ _ _ hk⟩
theorem RefG.cells {w : World} {S : List Nat} {rb mb : Nat} {cs : Array Value} {ov : Nat → Value} {st : St} {steps : Int} (h : RefG w S rb mb cs ov st steps) (i : Nat) (hi : i < st.n) :
    (∀ o, w.cell? ⟨rb, o, none⟩ = (CellsG st steps mb)[o]?) ∧ (∀ o, w.frozen? ⟨rb, o, none⟩ = false) ∧ w.cell? ⟨mb, i * 3, none⟩ = some (.bool (st.m i).begun) ∧ w.cell? ⟨mb, i * 3 + 1, none⟩ = some (.int .i64 (st.m i).next) ∧ (∀ o, w.frozen? ⟨mb, o, none⟩ = false) := by
  obtain ⟨h1, h2, h3, h4, h5, h6, h7⟩ := h
  obtain ⟨hA, hAf⟩ := row_facts' h4
  obtain ⟨hM, hMf⟩ := row_facts' h5
  refine ⟨hA, hAf, by rw [hM, Nat.mul_comm]; exact (h6.2 i hi).1, by rw [hM, Nat.mul_comm]; exact (h6.2 i hi).2.1, hMf⟩

theorem St.setM_m (st : St) (i : Nat) (m : Mem) (hi : i < st.mem.length) (j : Nat) : (st.setM i m).m j = if j = i then m else st.m j := by
  unfold St.setM St.m
  simp only [List.getD_eq_getElem?_getD, List.getElem?_set]
  by_cases h : i = j
  · subst h; simp [hi]
  · have h' : ¬ j = i := fun e => h e.symm
    simp [h, h']
theorem RefG.setMem {w : World} {S : List Nat} {rb mb : Nat} {cs : Array Value} {ov : Nat → Value} {st : St} {steps : Int} (ok : st.Ok) (h : RefG w S rb mb cs ov st steps) (i : Nat) (hi : i < st.n) (b : Bool) (x : Nat) :
    RefG ((w.setCell ⟨mb, i * 3, none⟩ (.bool b)).setCell ⟨mb, i * 3 + 1, none⟩ (.int .i64 x)) S rb mb ((cs.setIfInBounds (i * 3) (.bool b)).setIfInBounds (i * 3 + 1) (.int .i64 x)) ov (st.setM i ⟨b, x, (st.m i).over⟩) steps := by
  obtain ⟨h1, h2, h3, h4, h5, ⟨h6, h6'⟩, h7⟩ := h
  rw [setCell_eq_setRow w mb (i * 3) _ _ (0, 0) _ h5, setCell_eq_setRow _ mb (i * 3 + 1) _ _ (0, 0) _ (setRow_heap w mb _ _ _ (0, 0) h5), setRow_setRow]
  refine ⟨h1, h2, h3, by rw [setRow_other _ _ _ _ h1, h4]; rfl, setRow_heap _ _ _ _ _ _ h5, ⟨by rw [Array.size_setIfInBounds, Array.size_setIfInBounds]; exact h6, fun j hj => ?_⟩, fun j hj => ?_⟩
  · have hj' : j < st.n := hj
    obtain ⟨a1, a2, a3⟩ := h6' j hj'
    rw [St.setM_m st i _ (by rw [ok.len]; exact hi)]
    simp only [Array.getElem?_setIfInBounds, Array.size_setIfInBounds]
    by_cases hji : j = i
    · subst hji
      rw [if_pos rfl]
      refine ⟨?_, ?_, ?_⟩
      · rw [if_neg (by omega), if_pos (by omega), if_pos (by omega)]
      · rw [if_pos (by omega), if_pos (by omega)]
      · rw [if_neg (by omega), if_neg (by omega)]; exact a3
    · rw [if_neg hji]
      refine ⟨?_, ?_, ?_⟩
      · rw [if_neg (by omega), if_neg (by omega)]; exact a1
      · rw [if_neg (by omega), if_neg (by omega)]; exact a2
      · rw [if_neg (by omega), if_neg (by omega)]; exact a3
  · have hj' : j < st.n := hj
    have h := (h7 j hj').keep (w' := w.setRow mb ((cs.setIfInBounds (i * 3) (.bool b)).setIfInBounds (i * 3 + 1) (.int .i64 x))) fun k _ _ _ hk => setRow_other _ _ _ _ hk
    rw [St.setM_m st i _ (by rw [ok.len]; exact hi)]
    by_cases hji : j = i
    · subst hji
      rw [if_pos rfl]
      exact h
    · rw [if_neg hji]
      exact h
theorem below_drewN (B n : Nat) (w : World) : Below B w (w.drewN n) := ⟨rfl, rfl, rfl, Nat.le_refl _, fun _ _ => rfl⟩

set_option maxRecDepth 10000 in
set_option maxHeartbeats 1000000 in
theorem refProt_err (w : World) (S : List Nat) (rb : Nat) (st : St) (steps : Int) (ok : st.Ok) (h : RefRep w S rb st steps) (t : ByteArray) (e : Int) (he : st.protErr t.size = e) (hne : e ≠ 0) :
    Calls Tryz.prog 100 #[.pointer (some ⟨rb, 0, none⟩), .string t] w fun x w' => x = .returned (.tuple #[.string ⟨#[]⟩, .int .i64 e]) ∧ Outside S w w' ∧ RefRep w' S rb st 0 := by
  obtain ⟨mb, cs, ov, hr⟩ := h
  have ho := ok.own
  have h16 := ok.n16
  obtain ⟨c1, c2, c3, c4, c5⟩ := hr.cells st.own ho
  have HR : Hid (RefG w S rb mb cs ov st steps) := hr
  clear hr
  have HE : Hid (st.protErr t.size = e ∧ e ≠ 0) := ⟨he, hne⟩
  clear he hne
  go_enter Tryz.func100, Tryz.ntmps100
  go_upto_region 1 with fail
  go_cut [6] (fun s6 wx => s6 = .pointer (some ⟨mb, st.own * 3, none⟩) ∧ RefG wx S rb mb cs ov st steps ∧ Outside S w wx)
  case first =>
    go_quiet (fail)
    go_wp2_with fail
    go_meet
    exact ⟨rfl, HR.out.below (below_drewN _ _ _), (Outside.refl _ _).below (below_drewN _ _ _)⟩
  case rest =>
    obtain ⟨rfl, hr, hout⟩ := hcut
    clear c1 c2 c3 c4 c5 HR
    obtain ⟨c1, c2, c3, c4, c5⟩ := hr.cells st.own ho
    go_upto_region 3 with fail
    obtain ⟨wx, hwx⟩ : ∃ wx, wc.setCell ⟨rb, 12, none⟩ (.int .i64 0) = wx := ⟨_, rfl⟩
    have hx : RefG wx S rb mb cs ov st 0 := by rw [← hwx]; exact hr.setSteps 0
    have hxo : Outside S w wx := by rw [← hwx]; exact hout.setCell _ (fun _ => hr.2.1) _
    rw [hwx]
    clear hwx hr hout c1 c2 c3 c4 c5
    obtain ⟨c1, c2, c3, c4, c5⟩ := hx.cells st.own ho
    have HX : Hid (RefG wx S rb mb cs ov st 0) := hx
    clear hx
    obtain ⟨he, hne⟩ := HE.out
    unfold St.protErr at he
    clear HE
    cases hcl : st.closed with
    | true =>
      rw [hcl, if_pos rfl] at he
      subst he
      go_wp2_with fail
      go_ret2
      exact ⟨rfl, hxo, mb, cs, ov, HX.out⟩
    | false =>
      rw [hcl, if_neg (by decide)] at he
      by_cases hlen : 40 < t.size
      · rw [if_pos hlen] at he
        subst he
        have d1 : decide (40 < (t.size : Int)) = true := by simp; omega
        go_wp2_with fail
        go_ret2
        exact ⟨rfl, hxo, mb, cs, ov, HX.out⟩
      · rw [if_neg hlen] at he
        have d1 : decide (40 < (t.size : Int)) = false := by simp; omega
        by_cases hnx : 65535 < (st.m st.own).next
        · rw [if_pos hnx] at he
          subst he
          go_wp2_with fail
          go_ret2
          exact ⟨rfl, hxo, mb, cs, ov, HX.out⟩
        · rw [if_neg hnx] at he
          exact absurd he.symm hne

/-- the key of one's own next generation; the frame of it -/
def St.keyAt (st : St) (who gen : Nat) : Nat → Int := KeyM st.s st.n who gen
def St.frame (st : St) (t : List UInt8) : List UInt8 := HeadB st.own (st.m st.own).next ++ SealT (st.keyAt st.own (st.m st.own).next) (HeadB st.own (st.m st.own).next) t

theorem refKey_at (st : St) (ok : st.Ok) (who gen : Nat) (hw : who < st.n) (hg : gen ≤ 65535) (W : World) :
    Calls Tryz.prog 39 #[Agg8 st.s, .int .i64 st.n, .int .i64 who, .int .i64 gen] W fun e w' => e = .returned (.tuple #[Agg8 (st.keyAt who gen), .int .i64 0]) ∧ Below W.heap.size W w' := by
  have h := refKey_any st.s ok.hs st.n who gen W
  have h16 := ok.n16
  have f : FitB st.n who = true := (fitB_iff _ _).2 (by omega)
  have g : GenB gen = true := (genB_iff _).2 (by omega)
  have e1 : KeyV st.s st.n who gen = st.keyAt who gen := by unfold KeyV; rw [f, g]; rfl
  have e2 : KeyE st.n who gen = 0 := by unfold KeyE; rw [f, g]; rfl
  rw [e1, e2] at h
  exact h
theorem keyAt_bd (st : St) (who gen : Nat) : ∀ i, 0 ≤ st.keyAt who gen i ∧ st.keyAt who gen i < 256 := DerB_bd _ _ _

theorem newcell' (w w1 : World) (hb : Below (w.alloc (.cells (Cells8 fun _ => 0) 51)).drew.heap.size (w.alloc (.cells (Cells8 fun _ => 0) 51)).drew w1) : Below w.heap.size w w1 ∧ w1.heap[w.heap.size]? = some (.cells (Cells8 fun _ => 0) 51 (0, 0)) := by
  refine ⟨((Below.refl _ w).alloc (Nat.le_refl _) _).drew.trans (hb.mono (by show w.heap.size ≤ (w.alloc _).heap.size; simp)), ?_⟩
  rw [hb.block _ (by show w.heap.size < (w.alloc _).heap.size; simp)]
  exact (MapKept.heap_alloc _ _).1

/-- what the loads of a region read of the other's group -/
abbrev SL (rb mb : Nat) (st : St) (bd : Int) (who : Nat) (W : World) : Prop := (∀ o, W.cell? ⟨rb, o, none⟩ = (CellsG st bd mb)[o]?) ∧ W.cell? ⟨mb, who * 3 + 1, none⟩ = some (.int .i64 (st.m who).next) ∧ rb < W.heap.size ∧ mb < W.heap.size
theorem SL.below {rb mb : Nat} {st : St} {bd : Int} {who : Nat} {W W' : World} (h : SL rb mb st bd who W) (hb : Below W.heap.size W W') : SL rb mb st bd who W' := by
  obtain ⟨h1, h2, h3, h4⟩ := h
  have := hb.size
  exact ⟨fun o => by rw [hb.cell (p := ⟨rb, o, none⟩) h3, h1], by rw [hb.cell (p := ⟨mb, who * 3 + 1, none⟩) h4, h2], by omega, by omega⟩
theorem SL.drew {rb mb : Nat} {st : St} {bd : Int} {who : Nat} {W : World} (h : SL rb mb st bd who W) : SL rb mb st bd who W.drew := h.below (Below.refl _ _).drew
theorem SL.alloc {rb mb : Nat} {st : St} {bd : Int} {who : Nat} {W : World} (h : SL rb mb st bd who W) (o : Obj) : SL rb mb st bd who (W.alloc o) := h.below ((Below.refl _ _).alloc (Nat.le_refl _) _)
theorem SL.set {rb mb : Nat} {st : St} {bd : Int} {who : Nat} {W : World} (h : SL rb mb st bd who W) (b o : Nat) (v : Value) (h1 : rb ≠ b) (h2 : mb ≠ b) : SL rb mb st bd who (W.setCell ⟨b, o, none⟩ v) := by
  obtain ⟨a1, a2, a3, a4⟩ := h
  refine ⟨fun i => ?_, ?_, by simp [World.setCell]; exact a3, by simp [World.setCell]; exact a4⟩
  · rw [← a1 i]; exact World.cell?_of_block (w := W) (Below.heap_setCell _ _ _ _ h1)
  · rw [← a2]; exact World.cell?_of_block (w := W) (Below.heap_setCell _ _ _ _ h2)
theorem RefG.sl {w : World} {S : List Nat} {rb mb : Nat} {cs : Array Value} {ov : Nat → Value} {st : St} {steps : Int} (h : RefG w S rb mb cs ov st steps) (who : Nat) (hw : who < st.n) : SL rb mb st steps who w :=
  ⟨(h.cells who hw).1, (h.cells who hw).2.2.2.1, (Array.getElem?_eq_some_iff.1 h.2.2.2.1).1, (Array.getElem?_eq_some_iff.1 h.2.2.2.2.1).1⟩

abbrev HeadC (who gen : Nat) : Array Value := #[.int .u8 (IntKind.u8.wrap (who : Int)), .int .u8 (IntKind.u8.wrap ((gen : Int) / 256)), .int .u8 (IntKind.u8.wrap (gen : Int))]
theorem headC_row (who gen : Nat) : HeadC who gen = RowB (HeadB who gen) 3 := by
  have e : ∀ x : Nat, IntKind.u8.wrap (x : Int) = ((UInt8.ofNat x).toNat : Int) := fun x => by
    rw [IntKind.wrap_u8, UInt8.toNat_ofNat']
    omega
  have e2 : ((gen : Int) / 256) = ((gen / 256 : Nat) : Int) := by omega
  unfold HeadC RowB HeadB
  rw [e2, e who, e (gen / 256), e gen]
  rfl
theorem headC_cv (w : World) (who gen : Nat) : (convert 34 9 (.slice (some ⟨w.heap.size, 0, none⟩) 3 3)).run Tryz.prog (w.alloc (.cells (HeadC who gen) 5)).drew = .ok (.string ⟨(HeadB who gen).toArray⟩) (w.alloc (.cells (HeadC who gen) 5)).drew := by
  have hrow : (w.alloc (.cells (HeadC who gen) 5)).drew.heap[w.heap.size]? = some (.cells (RowB (HeadB who gen) 3) 5 (0, 0)) := by
    rw [← headC_row]
    exact (MapKept.heap_alloc _ _).1
  exact cv_of_bts 3 (bts_of_row hrow) _ (Below.refl _ _)

set_option maxRecDepth 10000 in
set_option maxHeartbeats 2000000 in
theorem refProt_ok (w : World) (S : List Nat) (rb : Nat) (st : St) (steps : Int) (ok : st.Ok) (h : RefRep w S rb st steps) (t : ByteArray) (he : st.protErr t.size = 0) :
    Calls Tryz.prog 100 #[.pointer (some ⟨rb, 0, none⟩), .string t] w fun x w' => x = .returned (.tuple #[.string ⟨(st.frame t.data.toList).toArray⟩, .int .i64 0]) ∧ Outside S w w' ∧ RefRep w' S rb st.protNext (st.bound st.own (st.m st.own).next t.size) := by
  obtain ⟨mb, cs, ov, hr⟩ := h
  have ho := ok.own
  have h16 := ok.n16
  have hcl : st.closed = false := by
    unfold St.protErr at he
    cases hc : st.closed with
    | true => rw [hc, if_pos rfl] at he; omega
    | false => rfl
  have hlen : t.size ≤ 40 := by
    unfold St.protErr at he
    rw [hcl, if_neg (by decide)] at he
    by_cases h : 40 < t.size
    · rw [if_pos h] at he; omega
    · omega
  have hnx : (st.m st.own).next ≤ 65535 := by
    unfold St.protErr at he
    rw [hcl, if_neg (by decide), if_neg (by omega)] at he
    by_cases h : 65535 < (st.m st.own).next
    · rw [if_pos h] at he; omega
    · omega
  clear he
  have d1 : decide (40 < (t.size : Int)) = false := by simp; omega
  have HB : Hid (∀ W cs ov steps, RefG W S rb mb cs ov st steps → Calls Tryz.prog 135 #[.pointer (some ⟨rb, 0, none⟩), .int .i64 st.own, .int .i64 (st.m st.own).next, .int .i64 t.size] W fun e w' => e = .returned (.int .i64 (st.bound st.own (st.m st.own).next t.size)) ∧ w' = W) := fun W cs ov steps h => refBound_any W S rb mb cs ov st steps ok h st.own (st.m st.own).next t.size ho (by omega) (by omega)
  obtain ⟨bd, hbd⟩ : ∃ bd, st.bound st.own (st.m st.own).next t.size = bd := ⟨_, rfl⟩
  rw [hbd] at HB ⊢
  clear hbd
  have HK : Hid (∀ W, Calls Tryz.prog 39 #[Agg8 st.s, .int .i64 st.n, .int .i64 st.own, .int .i64 (st.m st.own).next] W fun e w' => e = .returned (.tuple #[Agg8 (st.keyAt st.own (st.m st.own).next), .int .i64 0]) ∧ Below W.heap.size W w') := fun W => refKey_at st ok st.own (st.m st.own).next ho hnx W
  have hKb := keyAt_bd st st.own (st.m st.own).next
  unfold St.frame
  obtain ⟨K, hK⟩ : ∃ K, st.keyAt st.own (st.m st.own).next = K := ⟨_, rfl⟩
  rw [hK] at HK hKb ⊢
  clear hK
  have HS : Hid (∀ W, Calls Tryz.prog 33 #[Agg8 K, .string ⟨(HeadB st.own (st.m st.own).next).toArray⟩, .string t] W fun e w' => e = .returned (.string ⟨(SealT K (HeadB st.own (st.m st.own).next) t.data.toList).toArray⟩) ∧ Below W.heap.size W w') := fun W => refSeal_any K hKb ⟨(HeadB st.own (st.m st.own).next).toArray⟩ t (by simp [HeadB, ByteArray.size]) (by omega) W
  have HCV : Hid (∀ w : World, (convert 34 9 (.slice (some ⟨w.heap.size, 0, none⟩) 3 3)).run Tryz.prog (w.alloc (.cells (HeadC st.own (st.m st.own).next) 5)).drew = .ok (.string ⟨(HeadB st.own (st.m st.own).next).toArray⟩) (w.alloc (.cells (HeadC st.own (st.m st.own).next) 5)).drew) := fun w => headC_cv w st.own (st.m st.own).next
  obtain ⟨H, hH⟩ : ∃ H, HeadB st.own (st.m st.own).next = H := ⟨_, rfl⟩
  rw [hH] at HS HCV ⊢
  obtain ⟨Z, hZ⟩ : ∃ Z, SealT K H t.data.toList = Z := ⟨_, rfl⟩
  rw [hZ] at HS ⊢
  have HHZ : Hid (H.length + Z.length ≤ 1000) := by
    show H.length + Z.length ≤ 1000
    rw [← hZ, ← hH, SealT_length]
    simp [HeadB]
    omega
  clear hH hZ
  obtain ⟨c1, c2, c3, c4, c5⟩ := hr.cells st.own ho
  have HR : Hid (RefG w S rb mb cs ov st steps) := hr
  clear hr
  go_enter Tryz.func100, Tryz.ntmps100
  go_upto_region 1 with fail
  go_cut [6] (fun s6 wx => s6 = .pointer (some ⟨mb, st.own * 3, none⟩) ∧ RefG wx S rb mb cs ov st steps ∧ Outside S w wx)
  case first =>
    go_quiet (fail)
    go_wp2_with fail
    go_meet
    exact ⟨rfl, HR.out.below (below_drewN _ _ _), (Outside.refl _ _).below (below_drewN _ _ _)⟩
  case rest =>
    obtain ⟨rfl, hr, hout⟩ := hcut
    clear c1 c2 c3 c4 c5 HR
    obtain ⟨c1, c2, c3, c4, c5⟩ := hr.cells st.own ho
    go_upto_region 3 with fail
    obtain ⟨wx, hwx⟩ : ∃ wx, wc.setCell ⟨rb, 12, none⟩ (.int .i64 0) = wx := ⟨_, rfl⟩
    have hx : RefG wx S rb mb cs ov st 0 := by rw [← hwx]; exact hr.setSteps 0
    have hxo : Outside S w wx := by rw [← hwx]; exact hout.setCell _ (fun _ => hr.2.1) _
    rw [hwx]
    clear hwx hr hout c1 c2 c3 c4 c5
    obtain ⟨c1, c2, c3, c4, c5⟩ := hx.cells st.own ho
    have HX : Hid (RefG wx S rb mb cs ov st 0) := hx
    clear hx
    go_upto_region 9 with fail
    go_cut [] (fun wy => RefG wy S rb mb cs ov st bd ∧ Outside S w wy)
    case first =>
      go_region_with (go_at_call 135; refine (HB.out _ cs ov 0 HX.out.drew).mono ?_; rintro e w' ⟨rfl, rfl⟩)
      all_goals
        go_wp2_with fail
        go_meet
        exact ⟨(HX.out.setSteps bd).drew, (hxo.setCell _ (fun _ => HX.out.2.1) _).drew⟩
    case rest =>
      clear HB HX hxo c1 c2 c3 c4 c5
      obtain ⟨hr, hout⟩ := hcut
      obtain ⟨c1, c2, c3, c4, c5⟩ := hr.cells st.own ho
      have hl1 : rb < wc.heap.size := (Array.getElem?_eq_some_iff.1 hr.2.2.2.1).1
      have hl2 : mb < wc.heap.size := (Array.getElem?_eq_some_iff.1 hr.2.2.2.2.1).1
      have HR : Hid (RefG wc S rb mb cs ov st bd) := hr
      clear hr
      go_upto_region 10 with fail
      go_cut [7] (fun s7 wy => ∃ kb, s7 = .pointer (some ⟨kb, 0, none⟩) ∧ wy.heap[kb]? = some (.cells (Cells8 K) 51 (0, 0)) ∧ RefG wy S rb mb cs ov st bd ∧ Outside S w wy)
      case first =>
        have hsl := HR.out.sl st.own ho
        have hn1 : rb ≠ wc.heap.size := by omega
        have hn2 : mb ≠ wc.heap.size := by omega
        clear c1 c2 c3 c4 c5
        go_region_held3 (fun W => SL rb mb st bd st.own W) ((with_reducible first | exact hsl.drew | exact (SL.alloc hsl _).drew | (refine SL.set (SL.set (SL.set (SL.set (SL.set (SL.set (SL.set (SL.set ?_ _ _ _ hn1 hn2) _ _ _ hn1 hn2) _ _ _ hn1 hn2) _ _ _ hn1 hn2) _ _ _ hn1 hn2) _ _ _ hn1 hn2) _ _ _ hn1 hn2) _ _ _ hn1 hn2; assumption) | exact SL.alloc (by assumption) _ | exact SL.below (by assumption) hb1 | exact SL.below (SL.alloc hsl _).drew hb1 | exact SL.below hsl.drew hb1 | exact SL.alloc (SL.below hsl.drew hb1) _)) ((go_at_call 39; refine (HK.out _).mono ?_; rintro e w1 ⟨rfl, hb1⟩; obtain ⟨hc1, hf1⟩ := bcell hb1))
        · go_wp2_with fail
          go_meet
          have hb2 : Below wc.heap.size wc (w1.alloc (.cells (Cells8 K) 51)) := ((Below.refl _ wc).drew.trans hb1).alloc hb1.size _
          exact ⟨w1.heap.size, rfl, (MapKept.heap_alloc _ _).1, HR.out.below hb2, hout.below hb2⟩
        · go_wp2_with fail
          go_meet
          obtain ⟨hk1, hk2⟩ := newcell' wc w1 hb1
          rw [stores8_row w1 wc.heap.size _ _ K hk2]
          have hb2 : Below wc.heap.size wc (w1.setRow wc.heap.size (Cells8 K)) := below_setRow hk1 (Nat.le_refl _) _
          exact ⟨wc.heap.size, rfl, setRow_heap _ _ _ _ _ _ hk2, HR.out.below hb2, hout.below hb2⟩
      case rest =>
        clear HK HR hout c1 c2 c3 c4 c5 hl1 hl2
        obtain ⟨kb, rfl, hkb, hr, hout⟩ := hcut
        have hsl := hr.sl st.own ho
        obtain ⟨c1, c2, c3, c4, c5⟩ := hr.cells st.own ho
        have HR : Hid (RefG wc S rb mb cs ov st bd) := hr
        clear hr
        go_upto_region 11 with fail
        go_cut [9] (fun s9 wy => s9 = .string ⟨H.toArray⟩ ∧ wy.heap[kb]? = some (.cells (Cells8 K) 51 (0, 0)) ∧ RefG wy S rb mb cs ov st bd ∧ Outside S w wy)
        case first =>
          have hcv := HCV.out wc
          have hb2 : Below wc.heap.size wc (wc.alloc (.cells (HeadC st.own (st.m st.own).next) 5)).drew := ((Below.refl _ wc).alloc (Nat.le_refl _) _).drew
          have HB2 : Hid (Below wc.heap.size wc (wc.alloc (.cells (HeadC st.own (st.m st.own).next) 5)).drew) := hb2
          clear hb2
          go_region_with fail
          all_goals
            go_wp2_with fail
            go_meet
            have hb2 := HB2.out
            exact ⟨rfl, by rw [hb2.block _ (Array.getElem?_eq_some_iff.1 hkb).1, hkb], HR.out.below hb2, hout.below hb2⟩
        case rest =>
          clear hsl HR hout hkb c1 c2 c3 c4 c5
          obtain ⟨rfl, hkb, hr, hout⟩ := hcut
          clear HCV
          go_wp2_with (refine wpList_load_row rfl 51 _ rfl kb rfl 51 (Cells8 K) (0, 0) _ hkb Tryz.underlying51 rfl (by kernel_rfl) ?_)
          refine (HS.out _).mono ?_
          rintro e w2 ⟨rfl, hb2⟩
          have hr2 := hr.below hb2
          have ho2 := hout.below hb2
          clear hr hout hb2 hkb HS
          obtain ⟨c1, c2, c3, c4, c5⟩ := hr2.cells st.own ho
          clear c1 c2
          have HR : Hid (RefG w2 S rb mb cs ov st bd) := hr2
          clear hr2
          have hsz : H.length + Z.length ≤ 1000 := HHZ.out
          go_wp2_with fail
          go_ret2
          have hm := HR.out.setMem ok st.own ho true ((st.m st.own).next + 1)
          refine ⟨?_, ((ho2.setCell _ (fun _ => HR.out.2.2.1) _).setCell _ (fun _ => HR.out.2.2.1) _), mb, _, ov, hm⟩
          show Ending.returned (Value.tuple #[.string (⟨H.toArray⟩ ++ ⟨Z.toArray⟩), .int .i64 0]) = _
          have e : (⟨H.toArray⟩ ++ ⟨Z.toArray⟩ : ByteArray) = ⟨(H ++ Z).toArray⟩ := by
            apply ByteArray.ext
            simp
          rw [e]
end Go.Proofs.YtkpebabbnndopaaGreatDoor
