import Derived.Test.YtkpebabbnndopaaGreatDoorC04
import Derived.Test.YtkpebabbnndopaaGreatDoorC03
import Derived.WalkKit
import Derived.WalkSpells
import Derived.WalkLawsBesides
import Derived.Deep.WholeRow
import Derived.Deep.DeepCutAuto
import Derived.BigRegion
import Derived.Deep.LoopGhost
/- The ratchet, wherever it lies: turn, goTo, key, isSpent, hasSecret. -/
namespace Go.Proofs.YtkpebabbnndopaaGreatDoor
open Go.RowKit
set_option linter.unusedVariables false

abbrev RatAt (cs : Array Value) (o : Nat) (bg : Bool) (g : Int) (s : Nat → Int) : Prop := AtL cs o (CellsR bg g s).toList
theorem RatAt.facts {q : Option Nat} {b : Nat} {t : TypeId} {w : World} {cs : Array Value} {o : Nat} {bg : Bool} {g : Int} {s : Nat → Int} (h : RatAt cs o bg g s) (hh : Home q b t cs w) : w.cell? ⟨b, o, none⟩ = some (.bool bg) ∧ w.cell? ⟨b, o + 1, none⟩ = some (.int .i64 g) ∧ w.cell? ⟨b, o + 2, none⟩ = some (.int .u8 (s 0)) ∧ w.cell? ⟨b, o + 3, none⟩ = some (.int .u8 (s 1)) ∧ w.cell? ⟨b, o + 4, none⟩ = some (.int .u8 (s 2)) ∧ w.cell? ⟨b, o + 5, none⟩ = some (.int .u8 (s 3)) ∧ w.cell? ⟨b, o + 6, none⟩ = some (.int .u8 (s 4)) ∧ w.cell? ⟨b, o + 7, none⟩ = some (.int .u8 (s 5)) ∧ w.cell? ⟨b, o + 8, none⟩ = some (.int .u8 (s 6)) ∧ w.cell? ⟨b, o + 9, none⟩ = some (.int .u8 (s 7)) := by
  simp only [hh.cells.1]
  exact ⟨h 0 _ rfl, h 1 _ rfl, h 2 _ rfl, h 3 _ rfl, h 4 _ rfl, h 5 _ rfl, h 6 _ rfl, h 7 _ rfl, h 8 _ rfl, h 9 _ rfl⟩

set_option maxRecDepth 20000 in
set_option maxHeartbeats 2000000 in
theorem turn_small {F : FuncId} {pre : Array Value} {q : Option Nat} (dv : Drv F pre q) (g : Nat) (hg : g < 65535) (bg : Bool) (s : Nat → Int) (hs : ∀ i, 0 ≤ s i ∧ s i < 256) (b o : Nat) (t : TypeId) (cs : Array Value) (w : World) (h : Home q b t cs w) (hr : RatAt cs o bg g s) (hf : q ≠ none → o + 10 ≤ ctrOff) :
    Calls Tryz.prog 49 #[.pointer (some ⟨b, o, none⟩), .func (.func F) pre #[]] w fun e w' => e = .returned (.tuple #[]) ∧ ∃ cs', Upd q 1 b o 10 t cs w w' cs' ∧ RatAt cs' o bg (g + 1 : Nat) (DerB s lNext g) := by
  have HD : Hid (∀ W, Has q W → Calls Tryz.prog F (pre ++ #[Agg8 s, .string ⟨#[110, 101, 120, 116]⟩, .int .i64 g]) W fun e w' => e = .returned (Agg8 (DerB s lNext g)) ∧ Tick q 1 W w') := fun W hW => dv.call s hs ⟨#[110, 101, 120, 116]⟩ (by decide) g W hW
  obtain ⟨R, hR⟩ : ∃ R, DerB s lNext g = R := ⟨_, rfl⟩
  rw [hR] at HD ⊢
  clear hR hs
  have hcf := dv.enter
  have HH : Hid (Home q b t cs w) := h
  have HR : Hid (RatAt cs o bg g s) := hr
  have HF : Hid (q ≠ none → o + 10 ≤ ctrOff) := hf
  have hAf := h.cells.2
  obtain ⟨c0, c1, c2, c3, c4, c5, c6, c7, c8, c9⟩ := hr.facts h
  have HG : Hid (g < 65535) := hg
  obtain ⟨G, hG⟩ : ∃ G : Int, (g : Int) = G := ⟨_, rfl⟩
  have hgd : G < 65535 := by omega
  have hgw : IntKind.i64.wrap (G + 1) = (g + 1 : Nat) := by rw [IntKind.wrap_i64]; omega
  rw [hG] at HD HR c1
  have HGG : Hid ((g : Int) = G) := hG
  clear h hr hf hg hG
  go_enter Tryz.func49, Tryz.ntmps49
  go_upto_region 1 with fail
  go_cut [] (fun wx => ∃ cs1, Upd q 1 b o 10 t cs w wx cs1 ∧ RatAt cs1 o bg G R)
  case first =>
    go_region_with (refine (HD.out _ (HH.out.has.tick (Tick.refl q w).drew)).mono ?_; rintro e w1 ⟨rfl, hb1⟩; obtain ⟨cs1, hu1, hm1⟩ := HH.out.derived hb1 o 10; have hR1 : RatAt cs1 o bg G s := hm1.at HR.out (by simp) (fun hq => .inl (HF.out hq)); have hAf1 := hu1.home.cells.2; obtain ⟨d0, d1, d2, d3, d4, d5, d6, d7, d8, d9⟩ := hR1.facts hu1.home)
    all_goals
      go_wp2_with fail
      go_meet
      exact ⟨putL cs1 (o + 2) (Cells8 R).toList, hu1.setCells HF.out (o + 2) (Cells8 R).toList (by omega) (by show o + 2 + 8 ≤ _; omega), by
        have := hR1.put (o + 2) (Cells8 R).toList (by omega) (by show o + 2 + 8 ≤ o + 10; omega)
        rw [show o + 2 - o = 2 by omega] at this
        exact this⟩
  case rest =>
    obtain ⟨cs1, hu1, hR1⟩ := hcut
    clear c0 c1 c2 c3 c4 c5 c6 c7 c8 c9 hAf
    have hAf1 := hu1.home.cells.2
    obtain ⟨d0, d1, d2, d3, d4, d5, d6, d7, d8, d9⟩ := hR1.facts hu1.home
    have HU : Hid (Upd q 1 b o 10 t cs w wc cs1) := hu1
    have HRR : Hid (RatAt cs1 o bg G R) := hR1
    clear hu1 hR1
    go_wp2_with fail
    go_end0
    refine ⟨rfl, _, HU.out.setCell HF.out (o + 1) (by omega) (by omega) _, ?_⟩
    have := HRR.out.put (o + 1) [.int .i64 (g + 1 : Nat)] (by omega) (by show o + 1 + 1 ≤ o + 10; omega)
    rw [show o + 1 - o = 1 by omega] at this
    exact this

theorem zero8 : (Builtin.zeroCells (Value.int .u8 0).cells 8).toList = (Cells8 fun _ => 0).toList := by kernel_rfl
theorem zeroU8 : ∀ w, (zeroValue 5).run Tryz.prog w = .ok (.int .u8 0) w := fun w => by kernel_rfl
theorem clear8 (b o : Nat) (x : Nat → Int) (w : World) (hl : ∀ i, i < 8 → w.cell? ⟨b, o + i, none⟩ = some (.int .u8 (x i))) (hz : ∀ i, w.frozen? ⟨b, i, none⟩ = false) (ty : TypeId) (c : Nat) :
    (Builtin.clear_ #[34] ty #[.slice (some ⟨b, o, none⟩) 8 c]).run Tryz.prog w = .ok (.tuple #[]) (w.setCells b o (Cells8 fun _ => 0).toList) := by
  have h := run_clearW (P := Tryz.prog) w 34 5 ty (.int .u8 0) Tryz.underlying34 zeroU8 b o 8 c (by decide)
  rw [zero8] at h
  exact h (by intro v hv; simp at hv; rw [hv]; rfl) (fun j hj => by rw [hl j hj]; rfl) (fun j _ => hz _)
set_option maxHeartbeats 2000000 in
theorem turn_last (fv : Value) (q : Option Nat) (bg : Bool) (s : Nat → Int) (b o : Nat) (t : TypeId) (cs : Array Value) (w : World) (h : Home q b t cs w) (hr : RatAt cs o bg 65535 s) (hf : q ≠ none → o + 10 ≤ ctrOff) :
    Calls Tryz.prog 49 #[.pointer (some ⟨b, o, none⟩), fv] w fun e w' => e = .returned (.tuple #[]) ∧ ∃ cs', Upd q 0 b o 10 t cs w w' cs' ∧ RatAt cs' o bg 65536 (fun _ => 0) := by
  have HH : Hid (Home q b t cs w) := h
  have HR : Hid (RatAt cs o bg 65535 s) := hr
  have HF : Hid (q ≠ none → o + 10 ≤ ctrOff) := hf
  obtain ⟨c0, c1, c2, c3, c4, c5, c6, c7, c8, c9⟩ := hr.facts h
  have hcl := fun ty => clear8 b (o + 2) s w (fun i hi => by
    have h8 : i = 0 ∨ i = 1 ∨ i = 2 ∨ i = 3 ∨ i = 4 ∨ i = 5 ∨ i = 6 ∨ i = 7 := by omega
    rcases h8 with rfl | rfl | rfl | rfl | rfl | rfl | rfl | rfl <;> assumption) h.cells.2 ty 8
  obtain ⟨w1, hw1⟩ : ∃ w1, w.setCells b (o + 2) (Cells8 fun _ => 0).toList = w1 := ⟨_, rfl⟩
  have hu1 : Upd q 0 b o 10 t cs w w1 (putL cs (o + 2) (Cells8 fun _ => 0).toList) := by
    rw [← hw1]
    exact (Upd.refl h o 10).setCells hf (o + 2) _ (by omega) (by show o + 2 + 8 ≤ _; omega)
  have hR1 : RatAt (putL cs (o + 2) (Cells8 fun _ => 0).toList) o bg 65535 (fun _ => 0) := by
    have := hr.put (o + 2) (Cells8 fun _ => 0).toList (by omega) (by show o + 2 + 8 ≤ o + 10; omega)
    rw [show o + 2 - o = 2 by omega] at this
    exact this
  rw [hw1] at hcl
  have d1 := (hR1.facts hu1.home).2.1
  have hAf1 := hu1.home.cells.2
  have HU : Hid (Upd q 0 b o 10 t cs w w1 (putL cs (o + 2) (Cells8 fun _ => 0).toList)) := hu1
  have HR1 : Hid (RatAt (putL cs (o + 2) (Cells8 fun _ => 0).toList) o bg 65535 (fun _ => 0)) := hR1
  clear h hr hf hw1 hu1 hR1 c0 c2 c3 c4 c5 c6 c7 c8 c9
  go_enter Tryz.func49, Tryz.ntmps49
  go_wp2_with fail
  go_end0
  refine ⟨rfl, _, HU.out.setCell HF.out (o + 1) (by omega) (by omega) _, ?_⟩
  have := HR1.out.put (o + 1) [.int .i64 65536] (by omega) (by show o + 1 + 1 ≤ o + 10; omega)
  rw [show o + 1 - o = 1 by omega] at this
  exact this
set_option maxHeartbeats 1000000 in
theorem goTo_any {F : FuncId} {pre : Array Value} {q : Option Nat} (dv : Drv F pre q) (j g : Nat) (hjg : j ≤ g) (hg : g ≤ 65535) (bg : Bool) (R : Nat → Int) (hR : ∀ i, 0 ≤ R i ∧ R i < 256) (b o : Nat) (t : TypeId) (cs : Array Value) (w : World) (h : Home q b t cs w) (hr : RatAt cs o bg j (RatB R j)) (hf : q ≠ none → o + 10 ≤ ctrOff) :
    Calls Tryz.prog 82 #[.pointer (some ⟨b, o, none⟩), .int .i64 g, .func (.func 49) #[.pointer (some ⟨b, o, none⟩)] #[], .func (.func F) pre #[]] w fun e w' => e = .returned (.tuple #[]) ∧ ∃ cs', Upd q (g - j) b o 10 t cs w w' cs' ∧ RatAt cs' o bg g (RatB R g) := by
  have HT : Hid (∀ (i : Nat) W c, i < 65535 → Home q b t c W → RatAt c o bg i (RatB R i) → Calls Tryz.prog 49 #[.pointer (some ⟨b, o, none⟩), .func (.func F) pre #[]] W fun e w' => e = .returned (.tuple #[]) ∧ ∃ cs', Upd q 1 b o 10 t c W w' cs' ∧ RatAt cs' o bg (i + 1 : Nat) (RatB R (i + 1))) := fun i W c hi hW hc => turn_small dv i hi bg (RatB R i) (RatB_bd R hR i) b o t c W hW hc hf
  obtain ⟨Z, hZ⟩ : ∃ Z, RatB R = Z := ⟨_, rfl⟩
  rw [hZ] at HT hr ⊢
  clear hZ hR
  have HG : Hid (g ≤ 65535) := hg
  have hgi : (g : Int) ≤ 65535 := by omega
  have c1 := (hr.facts h).2.1
  have HH : Hid (Home q b t cs w) := h
  have HR : Hid (RatAt cs o bg j (Z j)) := hr
  clear h hr hf hg
  go_enter Tryz.func82, Tryz.ntmps82
  go_wp2_with fail
  clear c1
  go_loopg [14] (g - j) (fun k i wr => ∃ i' : Nat, i = .int .i64 i' ∧ i' + k = g - j ∧ ∃ c, Hid (Upd q i' b o 10 t cs w wr c) ∧ Hid (RatAt c o bg (j + i' : Nat) (Z (j + i'))))
  case atStart => exact ⟨0, rfl, by omega, cs, Upd.refl HH.out o 10, HR.out⟩
  case round =>
    obtain ⟨i, rfl, hik, c, hu, hr⟩ := hrel
    by_cases hlt : (i : Int) < (g : Int) - j
    · go_wp2_with fail
      have HG' := HG.out
      refine (HT.out (j + i) _ c (by omega) hu.out.home hr.out).mono ?_
      clear HG'
      rintro e w2 ⟨rfl, c2, hu2, hr2⟩
      have HU3 : Hid (Upd q (i + 1) b o 10 t cs w w2 c2) := hu.out.trans hu2
      have HR3 : Hid (RatAt c2 o bg (j + (i + 1) : Nat) (Z (j + (i + 1)))) := hr2
      clear hu hr hu2 hr2 HT
      go_wp2_with fail
      go_roundg (gk - 1)
      case measure => omega
      case rel => exact ⟨i + 1, by go_num, by omega, c2, HU3, HR3⟩
    · obtain rfl : g = j + i := by omega
      clear HT
      go_wp2_with fail
      go_end0
      exact ⟨rfl, c, hu.out, hr.out⟩
theorem newcellT {q : Option Nat} {n : Nat} (w w1 : World) (hq : Has q w) (hb : Tick q n (w.alloc (.cells (Cells8 fun _ => 0) 51)).drew w1) : Tick q n w w1 ∧ w1.heap[w.heap.size]? = some (.cells (Cells8 fun _ => 0) 51 (0, 0)) := by
  refine ⟨by have := ((Tick.refl q w).alloc (.cells (Cells8 fun _ => 0) 51)).drew.trans hb; rwa [Nat.zero_add] at this, ?_⟩
  rw [hb.block _ (by show w.heap.size < (w.alloc _).heap.size; simp) (hq.ne (Nat.le_refl _))]
  exact (MapKept.heap_alloc _ _).1
theorem row_facts {w : World} {g : Nat} {cs : Array Value} {t : TypeId} (h : w.heap[g]? = some (.cells cs t (0, 0))) : (∀ o, w.cell? ⟨g, o, none⟩ = cs[o]?) ∧ (∀ o, w.frozen? ⟨g, o, none⟩ = false) :=
  ⟨fun o => cell_of_row _ _ _ _ _ _ h, fun o => by simp [World.frozen?, h]⟩
set_option maxHeartbeats 2000000 in
theorem rkey_any {F : FuncId} {pre : Array Value} {q : Option Nat} (dv : Drv F pre q) (g : Nat) (bg : Bool) (s : Nat → Int) (hs : ∀ i, 0 ≤ s i ∧ s i < 256) (b o : Nat) (t : TypeId) (cs : Array Value) (w : World) (h : Home q b t cs w) (hr : RatAt cs o bg g s) :
    Calls Tryz.prog 47 #[.pointer (some ⟨b, o, none⟩), .func (.func F) pre #[]] w fun e w' => e = .returned (Agg8 (DerB s lKey g)) ∧ Tick q 1 w w' := by
  have HD : Hid (∀ W, Has q W → Calls Tryz.prog F (pre ++ #[Agg8 s, .string ⟨#[107, 101, 121]⟩, .int .i64 g]) W fun e w' => e = .returned (Agg8 (DerB s lKey g)) ∧ Tick q 1 W w') := fun W hW => dv.call s hs ⟨#[107, 101, 121]⟩ (by decide) g W hW
  obtain ⟨R, hR⟩ : ∃ R, DerB s lKey g = R := ⟨_, rfl⟩
  rw [hR] at HD ⊢
  clear hR hs
  have HQ : Hid (Has q w) := h.has
  have hh : Home q b t cs (w.alloc (.cells (Cells8 fun _ => 0) 51)) := h.below ((Below.refl _ _).alloc (Nat.le_refl _) _)
  obtain ⟨c0, c1, c2, c3, c4, c5, c6, c7, c8, c9⟩ := hr.facts hh
  have hlt := h.lt
  have hcf := dv.enter
  clear h hr hh
  go_enter Tryz.func47, Tryz.ntmps47
  go_upto_region 1 with fail
  go_cut [] (fun wx => Tick q 1 w wx ∧ wx.heap[w.heap.size]? = some (.cells (Cells8 R) 51 (0, 0)))
  case first =>
    go_region_with (refine (HD.out _ (HQ.out.tick ((Tick.refl q w).alloc _).drew)).mono ?_; rintro e w1 ⟨rfl, hb1⟩; obtain ⟨hk1, hk2⟩ := newcellT w w1 HQ.out hb1; obtain ⟨hA1, hAf1⟩ := row_facts hk2)
    all_goals
      go_wp2_with fail
      go_meet
      rw [stores8_row w1 w.heap.size _ _ R hk2]
      exact ⟨hk1.setRow (Nat.le_refl _) _, setRow_heap _ _ _ _ _ _ hk2⟩
  case rest =>
    go_wp2_with fail
    exact bodyPost_ret (v := Agg8 R) (results_cell_row rfl _ _ w.heap.size 51 (Cells8 R) (0, 0) _ rfl hcut.2 Tryz.underlying51 rfl (by kernel_rfl)) rfl ⟨rfl, hcut.1⟩
end Go.Proofs.YtkpebabbnndopaaGreatDoor
