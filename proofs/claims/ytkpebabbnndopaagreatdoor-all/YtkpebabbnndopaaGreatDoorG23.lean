import Derived.Test.YtkpebabbnndopaaGreatDoorG15
import Derived.WalkKit
import Derived.WalkSpells
import Derived.WalkLawsBesides
import Derived.Deep.WholeRow
import Derived.Deep.DeepCutAuto
import Derived.Deep.LoopGhost
import Derived.BigRegion
import Derived.Test.YtkpebabbnndopaaGreatDoorC08
import Derived.Deep.QuietTactic
import Derived.BigQuiet
/- A trial: passOver, goTo by it, upTo, passed, forget. -/
namespace Go.Proofs.YtkpebabbnndopaaGreatDoor
open Go.RowKit
set_option linter.unusedVariables false

structure TrAt (cs : Array Value) (tp : List PartD) (R : Nat → Int) (g : Nat) (ks : List (Nat → Int)) : Prop where
  size : cs.size = 212
  tree : TreeAt cs 0 tp
  rat : RatAt cs 161 true g (RatB R g)
  keys : ∀ i (h : i < ks.length), AtL cs (171 + i * 8) (Cells8 ks[i]).toList
  zero : ∀ i, ks.length ≤ i → i < 5 → AtL cs (171 + i * 8) (Cells8 fun _ => 0).toList
  cnt : cs[211]? = some (.int .i64 ks.length)
  le : ks.length ≤ 5
theorem TrAt.mv {q : Option Nat} {n : Nat} {cs cs' : Array Value} {tp : List PartD} {R : Nat → Int} {g : Nat} {ks : List (Nat → Int)} (h : TrAt cs tp R g ks) (m : Mv q n 0 0 cs cs') : TrAt cs' tp R g ks := by
  have hl := h.le
  refine ⟨m.size.trans h.size, h.tree.mv m (fun _ => by show 161 ≤ 330; omega), m.at h.rat (.inr (by omega)) (fun _ => .inl (by show 161 + 10 ≤ 330; omega)), fun i hi => m.at (h.keys i hi) (.inr (by omega)) (fun _ => .inl (by show 171 + i * 8 + 8 ≤ 330; omega)), fun i h1 h2 => m.at (h.zero i h1 h2) (.inr (by omega)) (fun _ => .inl (by show 171 + i * 8 + 8 ≤ 330; omega)), ?_, hl⟩
  rw [m.out 211 (.inr (by omega)) (fun _ => by show 211 ≠ 330; omega)]
  exact h.cnt
theorem AtL.cells8 {q : Option Nat} {b : Nat} {t : TypeId} {w : World} {cs : Array Value} {o : Nat} {s : Nat → Int} (h : AtL cs o (Cells8 s).toList) (hh : Home q b t cs w) : w.cell? ⟨b, o, none⟩ = some (.int .u8 (s 0)) ∧ w.cell? ⟨b, o + 1, none⟩ = some (.int .u8 (s 1)) ∧ w.cell? ⟨b, o + 2, none⟩ = some (.int .u8 (s 2)) ∧ w.cell? ⟨b, o + 3, none⟩ = some (.int .u8 (s 3)) ∧ w.cell? ⟨b, o + 4, none⟩ = some (.int .u8 (s 4)) ∧ w.cell? ⟨b, o + 5, none⟩ = some (.int .u8 (s 5)) ∧ w.cell? ⟨b, o + 6, none⟩ = some (.int .u8 (s 6)) ∧ w.cell? ⟨b, o + 7, none⟩ = some (.int .u8 (s 7)) := by
  simp only [hh.cells.1]
  exact ⟨h 0 _ rfl, h 1 _ rfl, h 2 _ rfl, h 3 _ rfl, h 4 _ rfl, h 5 _ rfl, h 6 _ rfl, h 7 _ rfl⟩
theorem keyIndex (b j : Nat) (hj : j < 5) : ∀ W, (Instr.indexAt 257 (.pointer (some ⟨b, 171, none⟩)) (.int .i64 j)).run Tryz.prog W = .ok (.pointer (some ⟨b, 171 + j * 8, none⟩)) W := fun W => by
  have h0 : (0 : Int) ≤ j := by omega
  have h1 : (j : Int) < 5 := by omega
  simp [go_sem, h0, h1]
set_option maxHeartbeats 4000000 in
set_option maxRecDepth 20000 in
theorem passOver_any {F : FuncId} {pre : Array Value} {q : Option Nat} (dv : Drv F pre q) (bt : Nat) (cs : Array Value) (tp : List PartD) (R : Nat → Int) (hR : ∀ i, 0 ≤ R i ∧ R i < 256) (g : Nat) (hg : g < 65535) (ks : List (Nat → Int)) (hk : ks.length < 5) (w : World) (h : Home q bt 259 cs w) (ht : TrAt cs tp R g ks) :
    Calls Tryz.prog 164 #[.pointer (some ⟨bt, 0, none⟩), .func (.func F) pre #[]] w fun e w' => e = .returned (.tuple #[]) ∧ ∃ cs', Upd q 2 bt 161 51 259 cs w w' cs' ∧ TrAt cs' tp R (g + 1) (ks ++ [DerB (RatB R g) lKey g]) := by
  have HKY : Hid (∀ W c, Home q bt 259 c W → TrAt c tp R g ks → Calls Tryz.prog 47 #[.pointer (some ⟨bt, 161, none⟩), .func (.func F) pre #[]] W fun e w' => e = .returned (Agg8 (DerB (RatB R g) lKey g)) ∧ Tick q 1 W w') := fun W c hW hc => rkey_any dv g true (RatB R g) (RatB_bd R hR g) bt 161 _ c W hW hc.rat
  have HTU : Hid (∀ W c, Home q bt 259 c W → RatAt c 161 true g (RatB R g) → Calls Tryz.prog 49 #[.pointer (some ⟨bt, 161, none⟩), .func (.func F) pre #[]] W fun e w' => e = .returned (.tuple #[]) ∧ ∃ cs', Upd q 1 bt 161 10 259 c W w' cs' ∧ RatAt cs' 161 true (g + 1 : Nat) (DerB (RatB R g) lNext g)) := fun W c hW hc => turn_small dv g hg true (RatB R g) (RatB_bd R hR g) bt 161 _ c W hW hc (fun _ => by show 161 + 10 ≤ 330; omega)
  have e1 : DerB (RatB R g) lNext g = RatB R (g + 1) := rfl
  rw [e1] at HTU
  obtain ⟨K, hK⟩ : ∃ K, DerB (RatB R g) lKey g = K := ⟨_, rfl⟩
  rw [hK] at HKY ⊢
  have ix := keyIndex bt ks.length hk
  obtain ⟨P, hP⟩ : ∃ P, 171 + ks.length * 8 = P := ⟨_, rfl⟩
  obtain ⟨C, hC⟩ : ∃ C : Int, (ks.length : Int) = C := ⟨_, rfl⟩
  have HP : Hid (171 + ks.length * 8 = P ∧ (ks.length : Int) = C ∧ ks.length < 5) := ⟨hP, hC, hk⟩
  have hcw : IntKind.i64.wrap (C + 1) = C + 1 := by rw [IntKind.wrap_i64]; omega
  have hcw2 : wrap64 (C + 1) = C + 1 := by simp only [wrap64]; omega
  have HH : Hid (Home q bt 259 cs w) := h
  have HT : Hid (TrAt cs tp R g ks) := ht
  have c211 : w.cell? ⟨bt, 211, none⟩ = some (.int .i64 C) := by rw [h.cells.1, ← hC]; exact ht.cnt
  rw [hP, hC] at ix
  clear h ht hK hP hC hR e1 hk
  go_enter Tryz.func164, Tryz.ntmps164
  go_upto_region 0 with fail
  go_cut [] (fun wx => ∃ cs1, Hid (Upd q 1 bt 161 51 259 cs w wx (putL cs1 P (Cells8 K).toList) ∧ TrAt cs1 tp R g ks))
  case first =>
    go_region_with (go_at_call 47; refine (HKY.out _ cs HH.out.drew HT.out).mono ?_; rintro e w1 ⟨rfl, t1⟩; obtain ⟨cs1, u1, m1⟩ := HH.out.derived t1 161 51; have hT1 := HT.out.mv m1; have hA1 := u1.home.cells.2; obtain ⟨d0, d1, d2, d3, d4, d5, d6, d7⟩ := ((HP.out.1 ▸ hT1.zero ks.length (Nat.le_refl _) HP.out.2.2) : AtL cs1 P (Cells8 fun _ => 0).toList).cells8 u1.home; have e211 : w1.cell? ⟨bt, 211, none⟩ = some (.int .i64 C) := (by rw [u1.home.cells.1, ← HP.out.2.1]; exact hT1.cnt))
    all_goals
      have HU1 : Hid (Upd q 1 bt 161 51 259 cs w w1 cs1 ∧ TrAt cs1 tp R g ks) := ⟨u1, hT1⟩
      clear t1 u1 m1 hT1
      go_wp2_with fail
      go_meet
      exact ⟨cs1, HU1.out.1.setCells (fun _ => by show 161 + 51 ≤ 330; omega) P (Cells8 K).toList (by have := HP.out; omega) (by have := HP.out; show P + 8 ≤ _; omega), HU1.out.2⟩
  case rest =>
    obtain ⟨cs1, hx⟩ := hcut
    have hfc : (q ≠ none → 161 + 51 ≤ ctrOff) := fun _ => by show 161 + 51 ≤ 330; omega
    have hu := hx.out.1
    have c2 : wc.cell? ⟨bt, 211, none⟩ = some (.int .i64 C) := by
      rw [hu.home.cells.1, putL_out _ _ _ _ (.inr (by have := HP.out; show P + 8 ≤ 211; omega)), ← HP.out.2.1]
      exact hx.out.2.cnt
    have hA2 := hu.home.cells.2
    obtain ⟨w3, hw3⟩ : ∃ w3, wc.setCell ⟨bt, 211, none⟩ (.int .i64 (C + 1)) = w3 := ⟨_, rfl⟩
    have HU3 : Hid (Upd q 1 bt 161 51 259 cs w w3 ((putL cs1 P (Cells8 K).toList).setIfInBounds 211 (.int .i64 (C + 1)))) := by
      show Upd _ _ _ _ _ _ _ _ _ _
      rw [← hw3]
      exact hu.setCell hfc 211 (by omega) (by omega) _
    have HR3 : Hid (RatAt ((putL cs1 P (Cells8 K).toList).setIfInBounds 211 (.int .i64 (C + 1))) 161 true g (RatB R g)) := fun j v hv => by
      have hj : j < 10 := (List.getElem?_eq_some_iff.1 hv).1
      rw [Array.getElem?_setIfInBounds, if_neg (by omega), putL_out _ _ _ _ (.inl (by have := HP.out; omega))]
      exact hx.out.2.rat j v hv
    have HX : Hid (TrAt cs1 tp R g ks) := hx.out.2
    have HW3 : Hid (wc.setCell ⟨bt, 211, none⟩ (.int .i64 (C + 1)) = w3) := hw3
    clear hu hx hw3 hfc c211 ix HKY HT
    go_wp2_with fail
    rw [HW3.out]
    refine (HTU.out _ _ HU3.out.home HR3.out).mono ?_
    rintro e w4 ⟨rfl, cs4, u4, hR4⟩
    have HU4 : Hid (Upd q 2 bt 161 51 259 cs w w4 cs4 ∧ TrAt cs4 tp R (g + 1) (ks ++ [K])) := by
      obtain ⟨hp1, hp2, hp3⟩ := HP.out
      have o4 : ∀ j, (j < 161 ∨ 171 ≤ j) → j < 212 → cs4[j]? = ((putL cs1 P (Cells8 K).toList).setIfInBounds 211 (.int .i64 (C + 1)))[j]? := fun j hj hl => u4.mv.out j (by omega) (fun _ => by show j ≠ 330; omega)
      have p4 : ∀ j, (j < 161 ∨ 171 ≤ j) → j < 211 → (j < P ∨ P + 8 ≤ j) → cs4[j]? = cs1[j]? := fun j h1 h2 h3 => by
        rw [o4 j h1 (by omega), Array.getElem?_setIfInBounds, if_neg (by omega), putL_out _ _ _ _ h3]
      have hX := HX.out
      have hsz : cs4.size = 212 := by rw [u4.mv.size, Array.size_setIfInBounds, putL_size, hX.size]
      have hT := hX.tree
      refine ⟨HU3.out.trans (u4.mono (by omega) (by omega)), hsz, ?_, hR4, fun i hi => ?_, fun i h1 h2 => ?_, ?_, by rw [List.length_append]; show ks.length + 1 ≤ 5; omega⟩
      · refine ⟨hT.len, fun j v hv => ?_, ?_, hT.ok⟩
        · have hj := (List.getElem?_eq_some_iff.1 hv).1
          rw [pcells_len] at hj
          have := hT.len
          rw [p4 _ (by omega) (by omega) (by omega)]
          exact hT.parts j v hv
        · rw [p4 _ (by omega) (by omega) (by omega)]
          exact hT.count
      · intro j v hv
        have hj : j < 8 := (List.getElem?_eq_some_iff.1 hv).1
        rw [List.length_append] at hi
        have hi2 : i < ks.length + 1 := hi
        by_cases hik : i < ks.length
        · rw [List.getElem_append_left hik] at hv
          rw [p4 _ (by omega) (by omega) (by omega)]
          exact hX.keys i hik j v hv
        · obtain rfl : i = ks.length := by omega
          have e9 : (ks ++ [K])[ks.length]? = some K := by simp
          rw [List.getElem?_eq_getElem (by simp)] at e9
          simp only [Option.some.injEq] at e9
          rw [e9] at hv
          rw [o4 _ (by omega) (by omega), Array.getElem?_setIfInBounds, if_neg (by omega)]
          have := putL_at (Cells8 K).toList cs1 P (by rw [hX.size]; show P + 8 ≤ 212; omega) j v hv
          rw [hp1]
          exact this
      · intro j v hv
        have hj : j < 8 := (List.getElem?_eq_some_iff.1 hv).1
        rw [List.length_append] at h1
        have h1' : ks.length + 1 ≤ i := h1
        rw [p4 _ (by omega) (by omega) (by omega)]
        exact hX.zero i (by omega) h2 j v hv
      · rw [o4 211 (by omega) (by omega), Array.getElem?_setIfInBounds, if_pos rfl, if_pos (by rw [putL_size, hX.size]; omega), List.length_append, ← hp2]
        rfl
    clear u4 hR4 HTU HU3 HR3 HX
    go_wp2_with fail
    go_end0
    exact ⟨rfl, cs4, HU4.out.1, HU4.out.2⟩
end Go.Proofs.YtkpebabbnndopaaGreatDoor

/- goTo by passOver, upTo. -/
namespace Go.Proofs.YtkpebabbnndopaaGreatDoor
open Go.RowKit
set_option linter.unusedVariables false

/-- the keys of the generations j, j + 1, .. -/
def passK (R : Nat → Int) (j : Nat) : Nat → List (Nat → Int)
  | 0 => []
  | i + 1 => passK R j i ++ [DerB (RatB R (j + i)) lKey (j + i : Nat)]
theorem passK_len (R : Nat → Int) (j n : Nat) : (passK R j n).length = n := by
  induction n with
  | zero => rfl
  | succ n ih => rw [passK, List.length_append, ih]; rfl
set_option maxHeartbeats 1000000 in
theorem goToT_any {F : FuncId} {pre : Array Value} {q : Option Nat} (dv : Drv F pre q) (j g : Nat) (hjg : j ≤ g) (hg : g ≤ 65535) (h5 : g - j ≤ 5) (bt : Nat) (cs : Array Value) (tp : List PartD) (R : Nat → Int) (hR : ∀ i, 0 ≤ R i ∧ R i < 256) (w : World) (h : Home q bt 259 cs w) (ht : TrAt cs tp R j []) :
    Calls Tryz.prog 82 #[.pointer (some ⟨bt, 161, none⟩), .int .i64 g, .func (.func 164) #[.pointer (some ⟨bt, 0, none⟩)] #[], .func (.func F) pre #[]] w fun e w' => e = .returned (.tuple #[]) ∧ ∃ cs', Upd q (2 * (g - j)) bt 161 51 259 cs w w' cs' ∧ TrAt cs' tp R g (passK R j (g - j)) := by
  have HT : Hid (∀ (i : Nat) W c, i < g - j → Home q bt 259 c W → TrAt c tp R (j + i) (passK R j i) → Calls Tryz.prog 164 #[.pointer (some ⟨bt, 0, none⟩), .func (.func F) pre #[]] W fun e w' => e = .returned (.tuple #[]) ∧ ∃ cs', Upd q 2 bt 161 51 259 c W w' cs' ∧ TrAt cs' tp R (j + (i + 1)) (passK R j (i + 1))) := fun i W c hi hW hc => passOver_any dv bt c tp R hR (j + i) (by omega) (passK R j i) (by rw [passK_len]; omega) W hW hc
  have HG : Hid (g ≤ 65535 ∧ j ≤ g) := ⟨hg, hjg⟩
  have hgi : (g : Int) ≤ 65535 := by omega
  have c1 := (ht.rat.facts h).2.1
  have HH : Hid (Home q bt 259 cs w) := h
  have HR : Hid (TrAt cs tp R j []) := ht
  clear h ht hg hR h5
  go_enter Tryz.func82, Tryz.ntmps82
  go_wp2_with fail
  clear c1
  go_loopg [14] (g - j) (fun k i wr => ∃ i' : Nat, i = .int .i64 i' ∧ i' + k = g - j ∧ ∃ c, Hid (Upd q (2 * i') bt 161 51 259 cs w wr c) ∧ Hid (TrAt c tp R (j + i') (passK R j i')))
  case atStart => exact ⟨0, rfl, by omega, cs, Upd.refl HH.out 161 51, HR.out⟩
  case round =>
    obtain ⟨i, rfl, hik, c, hu, hr⟩ := hrel
    by_cases hlt : (i : Int) < (g : Int) - j
    · go_wp2_with fail
      have HG' := HG.out
      refine (HT.out i _ c (by omega) hu.out.home hr.out).mono ?_
      clear HG'
      rintro e w2 ⟨rfl, c2, hu2, hr2⟩
      have HU3 : Hid (Upd q (2 * (i + 1)) bt 161 51 259 cs w w2 c2) := hu.out.trans hu2
      have HR3 : Hid (TrAt c2 tp R (j + (i + 1)) (passK R j (i + 1))) := hr2
      clear hu hr hu2 hr2 HT
      go_wp2_with fail
      go_roundg (gk - 1)
      case measure => omega
      case rel => exact ⟨i + 1, by go_num, by omega, c2, HU3, HR3⟩
    · have hgi2 : g - j = i := by have := HG.out; omega
      have hgj : g = j + i := by have := HG.out; omega
      clear HT
      go_wp2_with fail
      go_end0
      exact ⟨rfl, c, hu.out, hr.out⟩
set_option maxHeartbeats 4000000 in
set_option maxRecDepth 20000 in
theorem upTo_any {F : FuncId} {pre : Array Value} {q : Option Nat} (dv : Drv F pre q) {st : St} (ok : st.Ok) (m g : Nat) (hm : m < st.n) (hjg : (st.m m).next ≤ g) (hg : g ≤ 65535) (h5 : g - (st.m m).next ≤ 5) (bt : Nat) (cs : Array Value) (hsz : cs.size = 212) (hT : TreeAt cs 0 ((st.parts 16 0 st.n).map itPart)) (hRt : RatAt cs 161 (st.m m).begun (st.m m).next (st.ratS m)) (hz : ∀ i, i < 5 → AtL cs (171 + i * 8) (Cells8 fun _ => 0).toList) (hc : cs[211]? = some (.int .i64 0)) (w : World) (h : Home q bt 259 cs w) :
    Calls Tryz.prog 153 #[.pointer (some ⟨bt, 0, none⟩), .agg #[.int .i64 m, .int .i64 g], .func (.func F) pre #[]] w fun e w' => e = .returned (.tuple #[]) ∧ ∃ cs' n, n ≤ 2 * DepB 16 st.n m + 1 + 2 * (g - (st.m m).next) ∧ Upd q n bt 0 212 259 cs w w' cs' ∧ TrAt cs' (((st.begin m).parts 16 0 st.n).map itPart) (st.ratAt m 0) g (passK (st.ratAt m 0) (st.m m).next (g - (st.m m).next)) := by
  have hRR : ∀ k, st.ratAt m k = RatB (st.ratAt m 0) k := fun k => rfl
  have hR0 : ∀ i, 0 ≤ st.ratAt m 0 i ∧ st.ratAt m 0 i < 256 := DerB_bd _ _ _
  have HBE : Hid (∀ W, Home q bt 259 cs W → Calls Tryz.prog 45 #[.pointer (some ⟨bt, 161, none⟩), .pointer (some ⟨bt, 0, none⟩), .int .i64 m, .func (.func F) pre #[]] W fun e w' => e = .returned (.tuple #[]) ∧ ∃ cs' n, n ≤ 2 * DepB 16 st.n m + 1 ∧ Upd q n bt 0 171 259 cs W w' cs' ∧ TrAt cs' (((st.begin m).parts 16 0 st.n).map itPart) (st.ratAt m 0) (st.m m).next []) := fun W hW => by
    refine (begin_any dv ok hm (by omega) hT hRt (by omega) (by omega) (fun _ => by show 161 + 10 ≤ 330; omega) W hW).mono fun e w' ⟨h1, cs', n, h2, h3, h4, h6, h7⟩ => ⟨h1, cs', n, h2, h3, ?_⟩
    refine ⟨by rw [h3.mv.size]; exact hsz, h4, by rw [← hRR]; exact h6, fun i hi => (by cases hi), fun i _ hi j v hv => ?_, ?_, by simp⟩
    · have hj : j < 8 := (List.getElem?_eq_some_iff.1 hv).1
      rw [h7 _ (by omega) (by omega) (fun _ => by show _ ≠ 330; omega)]
      exact hz i hi j v hv
    · rw [h7 _ (by omega) (by omega) (fun _ => by show _ ≠ 330; omega)]
      exact hc
  have HGT : Hid (∀ W c, Home q bt 259 c W → TrAt c (((st.begin m).parts 16 0 st.n).map itPart) (st.ratAt m 0) (st.m m).next [] → Calls Tryz.prog 82 #[.pointer (some ⟨bt, 161, none⟩), .int .i64 g, .func (.func 164) #[.pointer (some ⟨bt, 0, none⟩)] #[], .func (.func F) pre #[]] W fun e w' => e = .returned (.tuple #[]) ∧ ∃ cs', Upd q (2 * (g - (st.m m).next)) bt 161 51 259 c W w' cs' ∧ TrAt cs' (((st.begin m).parts 16 0 st.n).map itPart) (st.ratAt m 0) g (passK (st.ratAt m 0) (st.m m).next (g - (st.m m).next))) := fun W c hW hc => goToT_any dv (st.m m).next g hjg hg h5 bt c _ _ hR0 W hW hc
  obtain ⟨M, hM⟩ : ∃ M : Int, (m : Int) = M := ⟨_, rfl⟩
  obtain ⟨G, hG⟩ : ∃ G : Int, (g : Int) = G := ⟨_, rfl⟩
  rw [hM] at HBE ⊢
  rw [hG] at HGT ⊢
  have HH : Hid (Home q bt 259 cs w) := h
  have hbw := h.lt
  obtain ⟨w1, hw1⟩ : ∃ w1, w.alloc (.cells #[.int .i64 M, .int .i64 G] 123) = w1 := ⟨_, rfl⟩
  have b1 : Below w.heap.size w w1 := by rw [← hw1]; exact (Below.refl _ w).alloc (Nat.le_refl _) _
  have k1 : w1.heap[w.heap.size]? = some (.cells #[.int .i64 M, .int .i64 G] 123 (0, 0)) := by rw [← hw1]; exact (MapKept.heap_alloc _ _).1
  have HU1 : Hid (Upd q 0 bt 0 212 259 cs w w1 cs) := (Upd.refl h 0 212).below b1
  have HQ : Hid (Has q w) := h.has
  have hA1 : ∀ o, w1.cell? ⟨w.heap.size, o, none⟩ = #[Value.int .i64 M, .int .i64 G][o]? := fun o => cell_of_row _ _ _ _ _ _ k1
  have HW1 : Hid (w.alloc (.cells #[.int .i64 M, .int .i64 G] 123) = w1) := hw1
  have HK1 : Hid (w1.heap[w.heap.size]? = some (.cells #[.int .i64 M, .int .i64 G] 123 (0, 0))) := k1
  have hmf : ∀ (fn : Fn) (first cap : Array Value) (w : World), (Instr.makeFunc fn first cap).run Tryz.prog w = .ok (.func fn first cap) w := fun _ _ _ _ => rfl
  clear h hT hRt hz hc hM hG hRR hR0 b1 k1 hw1 hsz
  go_enter Tryz.func153, Tryz.ntmps153
  go_upto_region 1 with fail
  rw [HW1.out]
  go_cut [] (fun wx => ∃ cs1 n, Hid (n ≤ 2 * DepB 16 st.n m + 1 ∧ Upd q n bt 0 212 259 cs w wx cs1 ∧ TrAt cs1 (((st.begin m).parts 16 0 st.n).map itPart) (st.ratAt m 0) (st.m m).next [] ∧ wx.heap[w.heap.size]? = some (.cells #[.int .i64 M, .int .i64 G] 123 (0, 0))))
  case first =>
    go_region_with (go_at_call 45; refine (HBE.out _ HU1.out.home.drew).mono ?_; rintro e w2 ⟨rfl, cs2, n2, hn2, u2, ht2⟩)
    all_goals
      have HX : Hid (n2 ≤ 2 * DepB 16 st.n m + 1 ∧ Upd q n2 bt 0 212 259 cs w w2 cs2 ∧ TrAt cs2 (((st.begin m).parts 16 0 st.n).map itPart) (st.ratAt m 0) (st.m m).next [] ∧ w2.heap[w.heap.size]? = some (.cells #[.int .i64 M, .int .i64 G] 123 (0, 0))) := by
        have hu := (HU1.out.below (Below.refl _ _).drew).trans (u2.mono (o' := 0) (len' := 212) (by omega) (by omega))
        rw [Nat.zero_add] at hu
        refine ⟨hn2, hu, ht2, u2.outq.row (a := w1.drew) HK1.out (fun hm => ?_)⟩
        rcases List.mem_cons.1 hm with e | e
        · omega
        · exact HQ.out.ne (Nat.le_refl _) (by cases q with | none => simp at e | some c => simp at e; rw [e])
      clear hn2 u2 ht2
      go_wp2_with fail
      go_meet
      exact ⟨cs2, n2, HX⟩
  case rest =>
    obtain ⟨cs2, n2, hx⟩ := hcut
    have hA2 : ∀ o, wc.cell? ⟨w.heap.size, o, none⟩ = #[Value.int .i64 M, .int .i64 G][o]? := fun o => cell_of_row _ _ _ _ _ _ hx.out.2.2.2
    clear HBE HW1 HK1 HU1
    go_upto_region 2 with fail
    go_region_with (go_at_call 82; refine (HGT.out _ cs2 hx.out.2.1.home.drew hx.out.2.2.1).mono ?_; rintro e w3 ⟨rfl, cs3, u3, ht3⟩)
    all_goals
      have HX3 : Hid (Upd q (n2 + 2 * (g - (st.m m).next)) bt 0 212 259 cs w w3 cs3 ∧ TrAt cs3 (((st.begin m).parts 16 0 st.n).map itPart) (st.ratAt m 0) g (passK (st.ratAt m 0) (st.m m).next (g - (st.m m).next))) := ⟨(hx.out.2.1.below (Below.refl _ _).drew).trans (u3.mono (o' := 0) (len' := 212) (by omega) (by omega)), ht3⟩
      clear u3 ht3
      go_wp2_with fail
      go_end0
      exact ⟨rfl, cs3, n2 + 2 * (g - (st.m m).next), by have := hx.out.1; omega, HX3.out.1, HX3.out.2⟩
end Go.Proofs.YtkpebabbnndopaaGreatDoor

/- A trial: passed, forget. -/
namespace Go.Proofs.YtkpebabbnndopaaGreatDoor
open Go.RowKit
set_option linter.unusedVariables false

set_option maxHeartbeats 1000000 in
theorem passed_any (bt c : Nat) (hc : c ≤ 5) (w : World) (h : w.cell? ⟨bt, 211, none⟩ = some (.int .i64 c)) :
    Calls Tryz.prog 165 #[.pointer (some ⟨bt, 0, none⟩)] w fun e w' => e = .returned (.slice (some ⟨bt, 171, none⟩) c 5) ∧ Below w.heap.size w w' := by
  have hsl : ∀ W, (Instr.sliceAt 257 (.pointer (some ⟨bt, 171, none⟩)) none (some (.int .i64 c)) none).run Tryz.prog W = .ok (.slice (some ⟨bt, 171, none⟩) c 5) W := fun W => by
    have h0 : (0 : Int) ≤ c := by omega
    have h1 : (c : Int) ≤ 5 := by omega
    simp [go_sem, h0, h1]
  obtain ⟨C, hC⟩ : ∃ C : Int, (c : Int) = C := ⟨_, rfl⟩
  rw [hC] at hsl h
  clear hC hc
  go_enter Tryz.func165, Tryz.ntmps165
  go_wp2_with fail
  go_quiet (fail)
  go_wp2_with fail
  go_ret
  exact ⟨rfl, below_drewQ (Below.refl _ _) _⟩
set_option maxHeartbeats 1000000 in
theorem tforget_wp (bt : Nat) (cs : Array Value) (hsz : cs.size = 212) (w : World) (h : w.heap[bt]? = some (.cells cs 259 (0, 0))) :
    CallsD Tryz.prog 152 #[.pointer (some ⟨bt, 0, none⟩)] .returning w fun e u' w' => (∃ v, e = .returned v) ∧ u' = .returning ∧ w' = w.setRow bt Tryz.zeroCells259 := by
  have hz : Tryz.zeroCells259.size = 212 := by kernel_rfl
  have hone : Tryz.zeroCells259.all (·.oneCell') = true := by kernel_rfl
  refine (callsD_of_wp (R := fun e w' => (∃ v, e = .returned v) ∧ w' = w.setRow bt Tryz.zeroCells259) Tryz.func152 rfl ?_).mono fun e u' w' ⟨h1, h2, h3⟩ => ⟨h2, h1, h3⟩
  simp only [Tryz.ntmps152, List.size_toArray, List.length_cons, List.length_nil, Nat.reduceAdd, Nat.reduceSub, Array.replicate_succ,
     Array.replicate_zero, List.push_toArray, List.append_toArray, List.nil_append, List.cons_append]
  go_wp2_with (refine wpList_store_row rfl 259 _ _ rfl bt Tryz.zeroCells259 rfl rfl 259 cs h (by kernel_rfl) (by rw [hsz, hz]) hone ?_)
  go_end0
  exact ⟨⟨_, rfl⟩, rfl⟩
end Go.Proofs.YtkpebabbnndopaaGreatDoor
