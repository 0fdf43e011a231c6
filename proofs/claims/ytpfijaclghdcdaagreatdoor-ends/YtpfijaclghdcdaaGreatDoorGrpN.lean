import Derived.Test.YtpfijaclghdcdaaGreatDoorGrpO
import Derived.Test.YtpfijaclghdcdaaGreatDoorIts
import Derived.Test.YtpfijaclghdcdaaGreatDoorRefG
import Derived.WalkKit
import Derived.WalkSpells
import Derived.WalkLawsBesides
import Derived.Deep.WholeRow
import Derived.Carry
import Derived.Test.YtpfijaclghdcdaaGreatDoorProg
import Derived.Test.YtpfijaclghdcdaaGreatDoorOut
import Derived.RangeFuncNested
import Derived.RangeFuncBound
import Derived.RangeFuncCalls
import Derived.RangeFuncLeaves
import Derived.RangeFuncBox
import Derived.Shelf.Abstract
import Derived.Shelf.RegionOpen
import Derived.OwnWalkIn
import Derived.TacticsInMore
import Derived.LoopNIn
import Derived.LoopIn
import Derived.Maps.OwnIn
import Derived.Maps.AppendAt
import Derived.Sort.MapsRangeIn
import Derived.DeepKeys4
import Derived.Test.YtpfijaclghdcdaaGreatDoorTree1
import Derived.Deep.MidRow
import Derived.Deep.LoopGhost
/- New, the items. -/
namespace Go.Proofs.YtpfijaclghdcdaaGreatDoor
open Go.RowKit
set_option linter.unusedVariables false

theorem nodeItem_any (f t : Nat) (s : Nat → Int) (w : World) :
    Calls Tryz.prog 32 #[AggP f t s] w fun e w' => e = .returned (.agg (It.cells ⟨0, f, t, 0, s⟩).toArray) ∧ Below w.heap.size w w' := by
  go_enter Tryz.func32, Tryz.ntmps32
  go_wp2_with fail
  refine bodyPost_ret (v := .agg (It.cells ⟨0, f, t, 0, s⟩).toArray) (results_cell_row rfl _ _ (w.heap.size + 1) 49 (It.cells ⟨0, f, t, 0, s⟩).toArray (0, 0) _ rfl ?_ Tryz.underlying49 rfl (by kernel_rfl)) rfl ⟨rfl, ((Below.refl _ w).alloc (Nat.le_refl _) _).alloc (by simp) _⟩
  have e := (MapKept.heap_alloc (w.alloc (.cells (CellsP f t s) 77)) (.cells (It.cells ⟨0, f, t, 0, s⟩).toArray 49)).1
  simp only [World.size_alloc] at e
  exact e
theorem headItem_any (m g : Nat) (hm : m < 16) (bg : Bool) (s : Nat → Int) (w : World) :
    Calls Tryz.prog 34 #[.int .i64 m, AggR bg g s] w fun e w' => e = .returned (.agg (It.cells ⟨1, m, m + 1, g, s⟩).toArray) ∧ Below w.heap.size w w' := by
  have hwr : wrap64 ((m : Int) + 1) = ((m + 1 : Nat) : Int) := by simp only [wrap64]; omega
  have hwr2 : IntKind.i64.wrap ((m : Int) + 1) = ((m + 1 : Nat) : Int) := by rw [IntKind.wrap_i64]; omega
  obtain ⟨M, hM⟩ : ∃ M : Int, (m : Int) = M := ⟨_, rfl⟩
  obtain ⟨M1, hM1⟩ : ∃ M : Int, ((m + 1 : Nat) : Int) = M := ⟨_, rfl⟩
  have e1 : It.cells ⟨1, m, m + 1, g, s⟩ = [.int .i64 1, .int .i64 M, .int .i64 M1, .int .i64 g, .int .u8 (s 0), .int .u8 (s 1), .int .u8 (s 2), .int .u8 (s 3), .int .u8 (s 4), .int .u8 (s 5), .int .u8 (s 6), .int .u8 (s 7)] := by unfold It.cells; rw [hM, hM1]; rfl
  rw [e1]
  rw [hM, hM1] at hwr hwr2
  rw [hM]
  clear hM hM1 e1 hm
  go_enter Tryz.func34, Tryz.ntmps34
  go_wp2_with fail
  refine bodyPost_ret (v := .agg [.int .i64 1, .int .i64 M, .int .i64 M1, .int .i64 g, .int .u8 (s 0), .int .u8 (s 1), .int .u8 (s 2), .int .u8 (s 3), .int .u8 (s 4), .int .u8 (s 5), .int .u8 (s 6), .int .u8 (s 7)].toArray) (results_cell_row rfl _ _ (w.heap.size + 1) 49 _ (0, 0) _ rfl ?_ Tryz.underlying49 rfl (by kernel_rfl)) rfl ⟨rfl, ((Below.refl _ w).alloc (Nat.le_refl _) _).alloc (by simp) _⟩
  have e := (MapKept.heap_alloc (w.alloc (.cells (CellsR bg g s) 75)) (.cells [.int .i64 1, .int .i64 M, .int .i64 M1, .int .i64 g, .int .u8 (s 0), .int .u8 (s 1), .int .u8 (s 2), .int .u8 (s 3), .int .u8 (s 4), .int .u8 (s 5), .int .u8 (s 6), .int .u8 (s 7)].toArray 49)).1
  simp only [World.size_alloc] at e
  exact e
set_option maxHeartbeats 1000000 in
theorem newErr_any (s : Nat → Int) (n m : Int) (hf : FitB n m = false) (w : World) :
    Calls Tryz.prog 17 #[Agg8 s, .int .i64 n, .int .i64 m] w fun e w' => e = .returned (.tuple #[.pointer none, .int .i64 1]) ∧ Below w.heap.size w w' := by
  have HM : Hid (∀ W, Calls Tryz.prog 37 #[.int .i64 n, .int .i64 m] W fun e w' => e = .returned (.bool false) ∧ w' = W) := fun W => by rw [← hf]; exact hasMember_any n m W
  clear hf
  go_enter Tryz.func17, Tryz.ntmps17
  go_wp2_with (go_at_call 37; refine (HM.out _).mono ?_; rintro e w' ⟨rfl, rfl⟩)
  go_ret2
  exact ⟨rfl, (Below.refl _ w).alloc (Nat.le_refl _) _⟩
theorem foldl_putL : ∀ (l : List Value) (k : Nat) (Z : Array Value), List.foldl (fun (cs : Array Value) (x : Value × Nat) => cs.setIfInBounds (3 + x.snd) x.fst) Z (l.zipIdx k) = putL Z (3 + k) l
  | [], _, _ => rfl
  | v :: r, k, Z => by
    rw [List.zipIdx_cons, List.foldl_cons, foldl_putL r (k + 1), putL]
    rfl
theorem fold_row (Z TT : Array Value) (h : TT.size = 161) : Array.foldl (fun (cs : Array Value) (x : Value × Nat) => cs.setIfInBounds (3 + x.snd) x.fst) Z TT.zipIdx 0 161 = putL Z 3 TT.toList := by
  have hs : TT.zipIdx.size = 161 := by simp [h]
  have e := foldl_putL TT.toList 0 Z
  rw [Nat.add_zero] at e
  rw [← e, ← hs, ← Array.foldl_toList]
  simp
theorem zero_own : Tryz.zeroCells90.size = 326 ∧ Tryz.zeroCells90[2]? = some (.bool false) ∧ Tryz.zeroCells90[325]? = some (.int .i64 0) := ⟨by kernel_rfl, by kernel_rfl, by kernel_rfl⟩
theorem zero_rat : ∀ i, i < 16 → (Tryz.zeroCells90.extract (164 + i * 10) (164 + i * 10 + 10)).toList = (CellsR false 0 fun _ => 0).toList := by
  intro i hi
  rcases i with _ | _ | _ | _ | _ | _ | _ | _ | _ | _ | _ | _ | _ | _ | _ | _ | i <;> first | omega | kernel_rfl
/-- a new group's cells -/
def newCells (Z : Array Value) (n m : Int) (TT : Array Value) (pm : Nat) : Array Value := (putL ((Z.setIfInBounds 0 (.int .i64 n)).setIfInBounds 1 (.int .i64 m)) 3 TT.toList).setIfInBounds 324 (.map (some pm))
set_option maxHeartbeats 1000000 in
set_option maxRecDepth 20000 in
theorem new_raw (s : Nat → Int) (n m : Int) (hf : FitB n m = true) (w : World) :
    Calls Tryz.prog 17 #[Agg8 s, .int .i64 n, .int .i64 m] w fun e w' => ∃ b pm, e = .returned (.tuple #[.pointer (some ⟨b, 0, none⟩), .int .i64 0]) ∧ w.heap.size ≤ pm ∧ pm < b ∧ Below w.heap.size w w' ∧ w'.heap[pm]? = some (.map #[] 0) ∧ w'.heap[b]? = some (.cells (newCells Tryz.zeroCells90 n m (TZ Tryz.zeroCells80 n s) pm) 90 (0, 0)) := by
  have HM : Hid (∀ W, Calls Tryz.prog 37 #[.int .i64 n, .int .i64 m] W fun e w' => e = .returned (.bool true) ∧ w' = W) := fun W => by rw [← hf]; exact hasMember_any n m W
  have HT : Hid (∀ W, Calls Tryz.prog 38 #[Agg8 s, .int .i64 n] W fun e w' => e = .returned (.agg (TZ Tryz.zeroCells80 n s)) ∧ Below W.heap.size W w') := fun W => wholeTree_any s n W
  have hTs := TC_size n s
  have hTo := TC_one n s
  obtain ⟨TT, hTT⟩ : ∃ TT, TZ Tryz.zeroCells80 n s = TT := ⟨_, rfl⟩
  rw [hTT] at hTs hTo HT ⊢
  have HFR : Hid (∀ Z, Array.foldl (fun (cs : Array Value) (x : Value × Nat) => cs.setIfInBounds (3 + x.snd) x.fst) Z TT.zipIdx 0 161 = putL Z 3 TT.toList) := fun Z => fold_row Z TT hTs
  clear hf hTT
  have hmm := @run_makeMap Tryz.prog
  go_enter Tryz.func17, Tryz.ntmps17
  go_wp2_with (go_at_call 37; refine (HM.out _).mono ?_; rintro e w' ⟨rfl, rfl⟩)
  refine (HT.out _).mono ?_
  rintro e w1 ⟨rfl, b1⟩
  have d1 : Below w.heap.size w w1 := ((Below.refl _ w).alloc (Nat.le_refl _) _).trans (b1.mono (by simp))
  have z1 : w.heap.size ≤ w1.heap.size := d1.size
  clear b1
  go_wp2_with fail
  · rw [HFR.out, putL_size, Array.size_setIfInBounds, Array.size_setIfInBounds, zero_own.1] at h
    omega
  · go_ret2
    refine ⟨w1.heap.size + 1, w1.heap.size, rfl, z1, Nat.lt_succ_self _, (d1.alloc z1 _).alloc (by simp; omega) _, ?_, ?_⟩
    · rw [Below.heap_alloc _ _ _ (by simp)]
      exact (MapKept.heap_alloc _ _).1
    · rw [HFR.out]
      have e := (MapKept.heap_alloc (w1.alloc (.map #[] 0)) (.cells (newCells Tryz.zeroCells90 n m TT w1.heap.size) 90)).1
      simp only [World.size_alloc] at e
      exact e
/-- the keys that were passed over, in memory: none -/
structure Kept0 (w : World) (pm : Nat) (st : St) : Prop where
  map : w.heap[pm]? = some (.map #[] 0)
  none : ∀ i, (st.m i).over = []
structure GrpOk (st : St) (wk : Nat) : Prop where
  closed : st.closed = false
  work : wk ≤ 100 * (st.m st.own).next
/-- the blocks S are a group in the state st -/
def Grp (w : World) (S : List Nat) (g : Value) (st : St) (wk : Nat) : Prop :=
  ∃ b pm cs, g = .pointer (some ⟨b, 0, none⟩) ∧ S = [b, pm] ∧ b ≠ pm ∧ Home (some b) b 90 cs w ∧ GrpAt cs st wk pm ∧ Kept0 w pm st ∧ GrpOk st wk
theorem new_any (s : Nat → Int) (hs : ∀ i, 0 ≤ s i ∧ s i < 256) (n m : Nat) (h1 : 1 ≤ n) (h2 : n ≤ 16) (hm : m < n) (w : World) :
    Calls Tryz.prog 17 #[Agg8 s, .int .i64 n, .int .i64 m] w fun e w' => ∃ b S, e = .returned (.tuple #[.pointer (some ⟨b, 0, none⟩), .int .i64 0]) ∧ Below w.heap.size w w' ∧ (∀ k, k ∈ S → w.heap.size ≤ k) ∧ Grp w' S (.pointer (some ⟨b, 0, none⟩)) (St.new s n m) 0 := by
  have hf : FitB n m = true := (fitB_iff _ _).2 ⟨by omega, by omega, by omega, by omega⟩
  obtain ⟨z1, z2, z3⟩ := zero_own
  have ts := TC_size n s
  have tt := TC_tree n h2 s hs
  have hm' : ∀ i, (St.new s n m).m i = ⟨false, 0, []⟩ := St.new_m s n m
  refine (new_raw s n m hf w).mono fun e w' ⟨b, pm, e1, e2, e3, e4, e5, e6⟩ => ?_
  obtain ⟨TT, hTT⟩ : ∃ TT, TZ Tryz.zeroCells80 n s = TT := ⟨_, rfl⟩
  rw [hTT] at ts tt e6
  have hlen : TT.toList.length = 161 := by rw [Array.length_toList, ts]
  have hc : ∀ j, j ≠ 324 → (newCells Tryz.zeroCells90 n m TT pm)[j]? = (putL ((Tryz.zeroCells90.setIfInBounds 0 (.int .i64 (n : Int))).setIfInBounds 1 (.int .i64 (m : Int))) 3 TT.toList)[j]? := fun j hj => by
    unfold newCells
    rw [Array.getElem?_setIfInBounds, if_neg (by omega)]
  have ho : ∀ j, j ≠ 324 → (j < 3 ∨ 164 ≤ j) → j ≠ 0 → j ≠ 1 → (newCells Tryz.zeroCells90 n m TT pm)[j]? = Tryz.zeroCells90[j]? := fun j hj h3 h4 h5 => by
    rw [hc j hj, putL_out _ _ _ _ (by rw [hlen]; omega), Array.getElem?_setIfInBounds, if_neg (by omega), Array.getElem?_setIfInBounds, if_neg (by omega)]
  have hz : (newCells Tryz.zeroCells90 n m TT pm).size = 326 := by
    unfold newCells
    rw [Array.size_setIfInBounds, putL_size, Array.size_setIfInBounds, Array.size_setIfInBounds, z1]
  have hct : (newCells Tryz.zeroCells90 n m TT pm)[325]? = some (.int .i64 0) := by rw [ho _ (by omega) (by omega) (by omega) (by omega)]; exact z3
  refine ⟨b, [b, pm], e1, e4, fun k hk => by simp at hk; omega, b, pm, _, rfl, rfl, by omega, Home.own e6 ⟨0, hct⟩, ⟨hz, ?_, ?_, ?_, ?_, fun i hi => ?_, ?_, hct⟩, ⟨e5, fun i => by rw [hm']⟩, rfl, by rw [hm']; simp⟩
  · rw [hc _ (by omega), putL_out _ _ _ _ (.inl (by omega)), Array.getElem?_setIfInBounds, if_neg (by omega), Array.getElem?_setIfInBounds, if_pos rfl, if_pos (by omega)]; rfl
  · rw [hc _ (by omega), putL_out _ _ _ _ (.inl (by omega)), Array.getElem?_setIfInBounds, if_pos rfl, if_pos (by rw [Array.size_setIfInBounds]; omega)]; rfl
  · rw [ho _ (by omega) (by omega) (by omega) (by omega)]; exact z2
  · have hb : (St.new s n m).begun 0 n = false := by
      unfold St.begun
      rw [List.any_eq_false]
      intro i _
      rw [hm']; simp
    have hp : ((St.new s n m).parts 16 0 (St.new s n m).n).map itPart = [⟨0, n, s⟩] := by
      show ((St.new s n m).parts 16 0 n).map itPart = _
      rw [St.parts_not _ _ _ _ hb]
      have : (St.new s n m).part 0 n = s := St.part_all (St.new s n m)
      rw [this]
      rfl
    rw [hp]
    have hat : AtL (putL ((Tryz.zeroCells90.setIfInBounds 0 (.int .i64 (n : Int))).setIfInBounds 1 (.int .i64 (m : Int))) 3 TT.toList) 3 TT.toList := putL_at _ _ _ (by rw [hlen, Array.size_setIfInBounds, Array.size_setIfInBounds, z1]; omega)
    have hat2 : AtL (newCells Tryz.zeroCells90 n m TT pm) 3 TT.toList := fun j v hv => by
      have hj := (List.getElem?_eq_some_iff.1 hv).1
      rw [hc _ (by omega)]
      exact hat j v hv
    refine ⟨tt.len, fun j v hv => hat2 j v ?_, hat2 160 _ ?_, tt.ok⟩
    · have := tt.parts j v hv
      rw [Nat.zero_add] at this
      rw [Array.getElem?_toList]; exact this
    · have := tt.count
      rw [Nat.zero_add] at this
      rw [Array.getElem?_toList]; exact this
  · rw [hm']
    have hr0 : (St.new s n m).ratS i = fun _ => 0 := by unfold St.ratS; rw [hm']; rfl
    rw [hr0]
    intro j v hv
    have hj : j < 10 := (List.getElem?_eq_some_iff.1 hv).1
    have hv2 : (CellsR false 0 fun _ => 0).toList[j]? = some v := hv
    rw [ho _ (by omega) (by omega) (by omega) (by omega)]
    rw [← zero_rat i hi, Array.getElem?_toList, Array.getElem?_extract, if_pos (by omega)] at hv2
    exact hv2
  · unfold newCells
    rw [Array.getElem?_setIfInBounds, if_pos rfl, if_pos (by rw [putL_size, Array.size_setIfInBounds, Array.size_setIfInBounds, z1]; omega)]
end Go.Proofs.YtpfijaclghdcdaaGreatDoor

/- The places of the keys that were passed over, where there is none. -/
namespace Go.Proofs.YtpfijaclghdcdaaGreatDoor
open Go.RowKit Go.Shelf Go.Maps
attribute [local go_sem] Oper.semAt_some
set_option linter.unusedVariables false
set_option linter.unusedSimpArgs false

abbrev PlI := Int × Int
abbrev encP (x : PlI) : Value := .agg #[.int .i64 x.1, .int .i64 x.2]
theorem plLaid : laidOutB Tryz.prog = true := by kernel_rfl
theorem plKeyed : Keyed Tryz.prog 97 := Keyed.of_law (deep_law_laid plLaid (m := 2) (by omega) (of_decide_eq_true (by kernel_rfl)) (by kernel_rfl) (by kernel_rfl))

set_option maxRecDepth 100000 in
set_option maxHeartbeats 1000000 in
theorem keys0_in (F : Fence) (n : Nat) (h88 : F.fn 88) (hro : F.round = none) (l Bm b : Nat) (J : List PlI → World → Prop) (W : World) (hJ : AbidesFrom W.heap.size J)
    (hm : W.cell? ⟨Bm, 0, none⟩ = some (.map (some b))) (hb : W.heap[b]? = some (.map #[] 0)) (h0 : J [] W) :
    CallsIn F n Tryz.prog 88 #[.func (.yield l) #[] #[], .pointer (some ⟨Bm, 0, none⟩)] W fun e W' => (∃ v, e = .returned v) ∧ J [] W' := by
  have hown : W.ownsMap (H := Unit) Tryz.prog 97 (fun _ => none) b 0 (.map []) := ⟨#[], 0, hb, ⟨by simp, MapKept.stamped_empty 0, by simp⟩, Nat.le_refl _, rfl⟩
  refine callsIn_of_wp Tryz.func88 rfl h88 ?_ hro
  simp only [Tryz.ntmps88, List.size_toArray, List.length_cons, List.length_nil, Nat.reduceAdd, Nat.reduceSub, Array.replicate_succ, Array.replicate_zero, List.push_toArray, List.append_toArray, List.nil_append, List.cons_append]
  gi_wp2_with (first
    | (gi_at_range; refine wpListIn_range_own _ rfl _ 83 rfl 97 108 plKeyed Tryz.underlying83 _ b 0 _ rfl hown ?_; intro w0 hrg0 hg0 hs0)
    | gi_in)
  go_frame
  gi_loopw [3] (fun _ wr => ∃ (left : Lit → Bool) (cnt : Nat), wr.ranges (H := Unit) Tryz.prog 97 (fun _ => none) b W.heap.size 0 (.map []) left cnt ∧ Hid (∀ kl, left kl = false) ∧ J [] wr)
    (fun _ wr => wr.rangeLeft b W.heap.size)
  case atStart =>
    exact ⟨_, _, hrg0, (fun kl => rfl : ∀ kl, Maps.has (.map [] : DataW Unit) kl = false), hJ [] W w0 none h0 hg0 (fun r e => by cases e)⟩
  case round =>
    obtain ⟨left, cnt, hrg, hC, hJs⟩ := hrel
    gi_wp2_with (first
      | (gi_at_next; refine wpListIn_next_ranges _ rfl _ rfl 97 plKeyed (fun _ => none) id id (fun key kl hk => ⟨key, rfl⟩) (fun v _ _ => ⟨v, rfl⟩) b W.heap.size 0 _ _ _ rfl hrg ?_ ?_)
      | gi_in)
    · intro hc0 hl0
      gi_wp2
      go_end0
      exact ⟨⟨_, rfl⟩, hJs⟩
theorem keys0_stops (F : Fence) (n : Nat) (h88 : F.fn 88) (hro : F.round = none) (Bm b : Nat) (w : World) (hBm : Bm < w.heap.size) (hbl : b < w.heap.size) (hm : w.cell? ⟨Bm, 0, none⟩ = some (.map (some b))) (hb : w.heap[b]? = some (.map #[] 0)) :
    SeqStops F n Tryz.prog 88 #[.pointer (some ⟨Bm, 0, none⟩)] encP (fun xs : List PlI => xs = []) (fun _ => False) 0 w := fun l J _ W hW hJ _ _ h0 =>
  (keys0_in F n h88 hro l Bm b J W hJ ((hW.cell (p := ⟨Bm, 0, none⟩) hBm).trans hm) ((hW.block b hbl).trans hb) h0).mono fun _ _ ⟨he, hj⟩ => ⟨he, .inl ⟨[], rfl, hj⟩⟩
theorem mkeys_any (F : Fence) (n : Nat) (h59 : F.fn 59) (hro : F.round = none) (mb : Option Nat) (w : World) :
    CallsIn F n Tryz.prog 59 #[.map mb] w fun e w' => e = .returned (.func (.func 88) #[] #[.pointer (some ⟨w.heap.size, 0, none⟩)]) ∧ w' = w.alloc (.cells #[.map mb] 83) := by
  refine callsIn_of_wp Tryz.func59 rfl h59 ?_ hro
  simp only [Tryz.ntmps59, List.size_toArray, List.length_cons, List.length_nil, Nat.reduceAdd, Nat.reduceSub, Array.replicate_succ, Array.replicate_zero, List.push_toArray, List.append_toArray, List.nil_append, List.cons_append]
  gi_wp2
  go_ret
  exact ⟨rfl, rfl⟩
end Go.Proofs.YtpfijaclghdcdaaGreatDoor

/- slices.AppendSeq and slices.Collect of places. -/
namespace Go.Proofs.YtpfijaclghdcdaaGreatDoor
open Go.RowKit Go.Shelf Go.Maps
attribute [local go_sem] Oper.semAt_some
set_option linter.unusedVariables false
set_option linter.unusedSimpArgs false

/-- places' cells, one behind the other -/
def flatP : List PlI → List Value
  | [] => []
  | x :: r => .int .i64 x.1 :: .int .i64 x.2 :: flatP r
theorem flatP_append (a b : List PlI) : flatP (a ++ b) = flatP a ++ flatP b := by
  induction a with
  | nil => rfl
  | cons x r ih => simp [flatP, ih]
theorem flatP_len (a : List PlI) : (flatP a).length = a.length * 2 := by
  induction a with
  | nil => rfl
  | cons x r ih => simp [flatP, ih]; omega
theorem plInfo : (Tryz.prog.info? 97).map (fun i => (i.zero, i.size, i.bytes)) = some (some (.agg #[.int .i64 0, .int .i64 0]), 2, 16) := by kernel_rfl
theorem cells_two_new (W : World) (x : PlI) : ∀ j u, [Value.int .i64 x.1, .int .i64 x.2][j]? = some u → (W.alloc (.cells #[.int .i64 x.1, .int .i64 x.2] 97)).cell? ((⟨W.heap.size, 0, none⟩ : Addr).add j) = some u := fun j u h => by
  have e : (⟨W.heap.size, 0, none⟩ : Addr).add j = ⟨W.heap.size, j, none⟩ := by unfold Addr.add; split <;> simp_all
  rw [e, cell_of_row _ _ _ _ _ _ (MapKept.heap_alloc W _).1]
  rcases j with _ | _ | j <;> simp_all

set_option maxRecDepth 100000 in
set_option maxHeartbeats 2000000 in
theorem appendSeq_in (F : Fence) (n : Nat) (h111 : F.fn 111) (hro : F.round = none) (hn : 3 ≤ n) (g : Nat) (lb : Array Value) (hFg : F.fn g) (eg : ∀ args w, (callFunc g args).run Tryz.prog w = .ok (.enter g args) w)
    (S : List PlI → Prop) (N : Nat) (hN : N ≤ 100000) (w : World) (hseq : SeqStops F (n - 1) Tryz.prog g lb encP S (fun _ => False) N w) :
    CallsIn F n Tryz.prog 111 #[.slice none 0 0, .func (.func g) #[] lb] w fun e w' => ∃ (v : Value) (xs : List PlI), e = .returned v ∧ S xs ∧ w'.ownsRow w.heap.size 97 2 v xs.length (flatP xs) ∧ (v = .slice none 0 0 ↔ xs = []) ∧ Below w.heap.size w w' := by
  have h1 : 1 ≤ n := by omega
  have hmax : (100001 : Nat) ≤ maxLen := by decide
  obtain ⟨i0, hi, hz0, hz1, hz2⟩ := info_parts plInfo
  refine callsIn_of_wp_marks Tryz.func111 rfl h111 ?_ hro
  simp only [Tryz.ntmps111, List.size_toArray, List.length_cons, List.length_nil, Nat.reduceAdd, Nat.reduceSub, Array.replicate_succ, Array.replicate_zero, List.push_toArray, List.append_toArray, List.nil_append, List.cons_append]
  gi_wp2
  have bO := Boxed.new w 105 (.slice none 0 0)
  have hB0 : Below w.heap.size w (w.alloc (.cells #[.slice none 0 0] 105)) := (Below.refl _ w).alloc (Nat.le_refl _) _
  refine wpIn_rangeFunc_ownH hro h1 (gf := g) (lb := lb) rfl hFg eg hseq walksK_t walksK_b hB0 (fun _ => rfl)
    (fun pre W => (∃ v, Boxed W w.heap.size 105 v ∧ W.ownsRow w.heap.size 97 2 v pre.length (flatP pre) ∧ (v = .slice none 0 0 ↔ pre = [])) ∧ Below w.heap.size w W)
    (fun _ _ _ => False)
    (OwnFrom.and (Own.from (holdsRow_own w.heap.size w.heap.size 105 97 2 (fun pre => pre.length) (fun pre => flatP pre) (fun pre v => v = .slice none 0 0 ↔ pre = [])) _) (ownFrom_below (Nat.le_refl _) (by simp)))
    (fun _ _ _ _ _ hs _ _ => hs)
    ⟨⟨_, bO, World.ownsRow_nil _ _ _ _, by simp⟩, hB0⟩
    (fun x a' W => ∃ Bx, w.heap.size < Bx ∧ W.heap[Bx]? = some (.cells #[.int .i64 x.1, .int .i64 x.2] 97 (0, 0)) ∧ a' = { tmps := #[.slice none 0 0, .func (.func g) #[] lb, .pointer (some ⟨w.heap.size, 0, none⟩), undef, .slice none 0 0, .pointer (some ⟨Bx, 0, none⟩), .func (.func g) #[] lb, encP x, undef, undef, undef, undef, undef], defers := [] })
    ?_ ?assign ?body ?done ?stop
  · rintro x a' s A B row ⟨Bx, h2, h3, h4⟩ hg hr
    refine ⟨Bx, h2, ?_, h4⟩
    rw [hg.block Bx (Array.getElem?_eq_some_iff.1 h3).1 (fun e => ?_)]
    · exact h3
    · obtain ⟨_, o, ho, hc⟩ := hr Bx e.symm
      rw [h3] at ho; cases ho; cases hc
  case assign =>
    rintro l pre x W K ⟨⟨v, hv, hrow, hnil⟩, hB⟩ hK
    have hlt := hv.lt
    gi_wp2
    exact hK _ _ ((KeepsOthers.alloc _ _).from _) (KeepsWalks.alloc _ _) ⟨⟨v, hv.alloc _, hrow.alloc _, hnil⟩, hB.alloc hB.size _⟩ ⟨W.heap.size, hlt, (MapKept.heap_alloc _ _).1, rfl⟩
  case body =>
    rintro l pre x a' W hl ⟨r, hr⟩ ⟨⟨v, hv, hrow, hnil⟩, hB⟩ ⟨Bx, hBx, bX, rfl⟩ hlt
    have hc := hv.cell
    have hX : ∀ o, W.cell? ⟨Bx, o, none⟩ = #[Value.int .i64 x.1, .int .i64 x.2][o]? := fun o => cell_of_row _ _ _ _ _ _ bX
    gi_wp2_with (gi_at_builtin; refine wpListIn_append_own _ rfl _ _ 105 rfl w.heap.size 97 i0 (.agg #[.int .i64 0, .int .i64 0]) 2 16 Tryz.underlying105 hi hz0 hz1 hz2 rfl (by decide) _ _ _ rfl (hrow.alloc _) ⟨W.heap.size, 0, none⟩ 1 1 [.int .i64 x.1, .int .i64 x.2] rfl rfl (cells_two_new W x) (by simp [Value.oneCell']) (by omega) (by omega) (by have := hB.size; simp; omega) ?_; intro v' w1 hown' hgrow _; obtain ⟨g', cap', rfl⟩ := ownsRow_succ hown'; obtain ⟨hv1, hv2, hr2, hk2, hb2⟩ := hv.appended (by decide) hrow hB.size (Nat.le_refl _) hown' hgrow; have hc1 := hv1.cell; have hf1 := hv1.frozen)
    exact ⟨hk2.from _, hk2.walks, ⟨_, hv2, by rw [flatP_append, List.length_append]; exact hr2, by simp⟩, hB.trans hb2⟩
  case done =>
    rintro D ys W hD hS ⟨⟨v, hv, hrow, hnil⟩, hB⟩ hK
    have hc := hv.cell
    gi_wp2
    refine ⟨by simp, .inl ⟨_, _, rfl, run_takeDeferred hK, ?_⟩⟩
    exact ⟨_, results_tmp rfl _ _ _, v, ys, rfl, hS, ownsRow_putObj hrow _ hK rfl, hnil, hB.trans (belowK_b (w := w) (Nat.le_refl _) W D _ _ (by simp at hD; omega) hK rfl rfl)⟩
  case stop =>
    rintro D c pre W _ _ h _
    exact h.elim
set_option maxHeartbeats 1000000 in
theorem collect_in (F : Fence) (n : Nat) (h86 : F.fn 86) (h111 : F.fn 111) (hro : F.round = none) (hn : 4 ≤ n) (g : Nat) (lb : Array Value) (hFg : F.fn g) (eg : ∀ args w, (callFunc g args).run Tryz.prog w = .ok (.enter g args) w)
    (S : List PlI → Prop) (N : Nat) (hN : N ≤ 100000) (w : World) (hseq : SeqStops F (n - 1 - 1) Tryz.prog g lb encP S (fun _ => False) N w) :
    CallsIn F n Tryz.prog 86 #[.func (.func g) #[] lb] w fun e w' => ∃ (v : Value) (xs : List PlI), e = .returned v ∧ S xs ∧ w'.ownsRow w.heap.size 97 2 v xs.length (flatP xs) ∧ (v = .slice none 0 0 ↔ xs = []) ∧ Below w.heap.size w w' := by
  have h1 : 1 ≤ n := by omega
  refine callsIn_of_wp Tryz.func86 rfl h86 ?_ hro
  simp only [Tryz.ntmps86, List.size_toArray, List.length_cons, List.length_nil, Nat.reduceAdd, Nat.reduceSub, Array.replicate_succ, Array.replicate_zero, List.push_toArray, List.append_toArray, List.nil_append, List.cons_append]
  gi_wp2_with (gi_at_call 111; refine (appendSeq_in F (n - 1) h111 hro (by omega) g lb hFg eg S N hN _ hseq).mono ?_; rintro e w' ⟨v, xs, rfl, hS, hrow, hnil, hb⟩)
  go_ret
  exact ⟨v, xs, rfl, hS, hrow, hnil, hb⟩
end Go.Proofs.YtpfijaclghdcdaaGreatDoor

/- slices.SortedFunc of no places; places, where no key is kept. -/
namespace Go.Proofs.YtpfijaclghdcdaaGreatDoor
open Go.RowKit Go.Shelf Go.Maps
set_option linter.unusedVariables false
set_option linter.unusedSimpArgs false

/-- slices.Collect of the places of a map -/
theorem collect_any (g : Nat) (lb : Array Value) (eg : ∀ args w, (callFunc g args).run Tryz.prog w = .ok (.enter g args) w) (S : List PlI → Prop) (N : Nat) (hN : N ≤ 100000) (w : World) (hseq : SeqStops Fence.wide 8 Tryz.prog g lb encP S (fun _ => False) N w) :
    Calls Tryz.prog 86 #[.func (.func g) #[] lb] w fun e w' => ∃ (v : Value) (xs : List PlI), e = .returned v ∧ S xs ∧ w'.ownsRow w.heap.size 97 2 v xs.length (flatP xs) ∧ (v = .slice none 0 0 ↔ xs = []) ∧ Below w.heap.size w w' :=
  (callsIn_wide (n := 10)).1 (collect_in Fence.wide 10 trivial trivial rfl (by omega) g lb trivial eg S N hN w hseq)
set_option maxRecDepth 100000 in
set_option maxHeartbeats 2000000 in
theorem sort_nil (fv : Value) (w : World) : Calls Tryz.prog 87 #[.slice none 0 0, fv] w fun e w' => e = .returned (.tuple #[]) ∧ w' = w := by
  have HI : Hid (∀ W, Calls Tryz.prog 127 #[.slice none 0 0, .int .i64 0, .int .i64 0, fv] W fun e w' => e = .returned (.tuple #[]) ∧ w' = W) := fun W => by
    go_enter Tryz.func127, Tryz.ntmps127
    go_wp2_with fail
    refine wp_loop_rounds 1 ?_
    rw [rounds_succ]
    go_wp2_with fail
    go_end0
    exact ⟨rfl, rfl⟩
  have HP : Hid (∀ k W, Calls Tryz.prog 112 #[.slice none 0 0, .int .i64 0, .int .i64 0, .int .i64 k, fv] W fun e w' => e = .returned (.tuple #[]) ∧ w' = W) := fun k W => by
    go_enter Tryz.func112, Tryz.ntmps112
    go_wp2_with fail
    refine wp_loop_rounds 1 ?_
    rw [rounds_succ]
    go_wp2_with (go_at_call 127; refine (HI.out _).mono ?_; rintro e w' ⟨rfl, rfl⟩)
    exact bodyPost_ret (v := .tuple #[]) (by simp [results, Tryz.results112, go_sem]) rfl ⟨rfl, rfl⟩
  have HL : Hid (∀ W, Calls Tryz.prog 113 #[.int .u64 0] W fun e w' => e = .returned (.int .i64 0) ∧ w' = W) := fun W => by
    have H64 : Hid (∀ W, Calls Tryz.prog 136 #[.int .u64 0] W fun e w' => e = .returned (.int .i64 0) ∧ w' = W) := fun W => by
      go_enter Tryz.func136, Tryz.ntmps136
      go_wp2
      go_ret
      exact ⟨by kernel_rfl, rfl⟩
    clear HI HP
    go_enter Tryz.func113, Tryz.ntmps113
    go_wp2_with (go_at_call 136; refine (H64.out _).mono ?_; rintro e w' ⟨rfl, rfl⟩)
    go_ret
    exact ⟨rfl, rfl⟩
  clear HI
  go_enter Tryz.func87, Tryz.ntmps87
  go_wp2_with (first | (go_at_call 113; refine (HL.out _).mono ?_; rintro e w' ⟨rfl, rfl⟩) | (go_at_call 112; refine (HP.out _ _).mono ?_; rintro e w' ⟨rfl, rfl⟩))
  go_end0
  exact ⟨rfl, rfl⟩
/-- places of a map that has none -/
theorem places0 (pm : Nat) (w : World) (h : w.heap[pm]? = some (.map #[] 0)) : Calls Tryz.prog 35 #[.map (some pm)] w fun e w' => e = .returned (.slice none 0 0) ∧ Below w.heap.size w w' := by
  have hpl : pm < w.heap.size := (Array.getElem?_eq_some_iff.1 h).1
  have HK : Hid (∀ W mb, Calls Tryz.prog 59 #[.map mb] W fun e w' => e = .returned (.func (.func 88) #[] #[.pointer (some ⟨W.heap.size, 0, none⟩)]) ∧ w' = W.alloc (.cells #[.map mb] 83)) := fun W mb => (callsIn_wide (n := 3)).1 (mkeys_any Fence.wide 3 trivial rfl mb W)
  obtain ⟨w1, hw1⟩ : ∃ w1, w.alloc (.cells #[.map (some pm)] 83) = w1 := ⟨_, rfl⟩
  have b1 : Below w.heap.size w w1 := by rw [← hw1]; exact (Below.refl _ w).alloc (Nat.le_refl _) _
  have k1 : w1.heap[w.heap.size]? = some (.cells #[.map (some pm)] 83 (0, 0)) := by rw [← hw1]; exact (MapKept.heap_alloc _ _).1
  have c1 : w1.cell? ⟨w.heap.size, 0, none⟩ = some (.map (some pm)) := by rw [cell_of_row _ _ _ _ _ _ k1]; rfl
  have hs := keys0_stops Fence.wide 8 trivial rfl w.heap.size pm w1 (Array.getElem?_eq_some_iff.1 k1).1 (by have := b1.size; omega) c1 (by rw [b1.block _ hpl]; exact h)
  have HC0 := collect_any _ _ (enters_of Tryz.func88 (by kernel_rfl) rfl) _ 0 (by omega) w1 hs
  have HC : Hid (Calls Tryz.prog 86 #[.func (.func 88) #[] #[.pointer (some ⟨w.heap.size, 0, none⟩)]] w1 fun e w' => e = .returned (.slice none 0 0) ∧ Below w1.heap.size w1 w') := by
    refine HC0.mono fun e w' ⟨v, xs, e1, e2, _, e4, e5⟩ => ⟨?_, e5⟩
    rw [e1, e4.2 e2]
  have HS : Hid (∀ fv W, Calls Tryz.prog 87 #[.slice none 0 0, fv] W fun e w' => e = .returned (.tuple #[]) ∧ w' = W) := sort_nil
  have HSF : Hid (∀ fv, Calls Tryz.prog 58 #[.func (.func 88) #[] #[.pointer (some ⟨w.heap.size, 0, none⟩)], fv] w1 fun e w' => e = .returned (.slice none 0 0) ∧ Below w1.heap.size w1 w') := fun fv => by
    clear HC0 hs c1 k1 b1 hw1 HK
    go_enter Tryz.func58, Tryz.ntmps58
    go_wp2_with fail
    refine HC.out.mono ?_
    rintro e w2 ⟨rfl, b2⟩
    have HB : Hid (Below w1.heap.size w1 w2) := b2
    clear b2
    go_wp2_with (go_at_call 87; refine (HS.out _ _).mono ?_; rintro e w' ⟨rfl, rfl⟩)
    go_ret
    exact ⟨rfl, HB.out⟩
  have HB1 : Hid (Below w.heap.size w w1) := b1
  have HW1 : Hid (w.alloc (.cells #[.map (some pm)] 83) = w1) := hw1
  clear HC0 hs c1 k1 b1 hw1 HC HS h
  go_enter Tryz.func35, Tryz.ntmps35
  go_wp2_with (first | (go_at_call 59; refine (HK.out _ _).mono ?_; rintro e w' ⟨rfl, rfl⟩; rw [HW1.out]) | (go_at_call 58; refine (HSF.out _).mono ?_; rintro e w2 ⟨rfl, b2⟩))
  go_ret
  exact ⟨rfl, HB1.out.trans (b2.mono HB1.out.size)⟩
end Go.Proofs.YtpfijaclghdcdaaGreatDoor

/- Dump. -/
namespace Go.Proofs.YtpfijaclghdcdaaGreatDoor
open Go.RowKit
set_option linter.unusedVariables false
set_option linter.unusedSimpArgs false

theorem index_rat (RA : Array Value) (h : RA.size = 160) (i : Nat) (hi : i < 16) : ∀ w, (Instr.index 81 (.agg RA) (.int .i64 i)).run Tryz.prog w = .ok (.agg (RA.extract (i * 10) (i * 10 + 10))) w := fun w => by
  have h0 : (0 : Int) ≤ i := by omega
  have h1 : (i : Int) < 16 := by omega
  have hs : (sizeOf 75).run Tryz.prog w = .ok 10 w := by kernel_rfl
  have ha : (isAgg 75).run Tryz.prog w = .ok true w := by kernel_rfl
  simp [Instr.index, part, asIntOf, run_underlying Tryz.underlying81, h0, h1, hs, ha]
  intro hc
  omega
/-- the nodes of a list of parts, as items -/
theorem map_node (st : St) (k : Nat) : ∀ f t x, x ∈ st.parts k f t → x = ⟨0, x.f, x.t, 0, x.s⟩ := by
  induction k with
  | zero =>
    intro f t x hx
    unfold St.parts at hx
    split at hx
    · cases hx
    · simp at hx; rw [hx]
  | succ k ih =>
    intro f t x hx
    rw [St.parts] at hx
    split at hx
    · split at hx
      · cases hx
      · rcases List.mem_append.1 hx with h | h
        · exact ih _ _ x h
        · exact ih _ _ x h
    · simp at hx; rw [hx]
/-- the ratchets' cells in a row -/
def ratCells (st : St) : Nat → List Value
  | 0 => []
  | i + 1 => ratCells st i ++ (CellsR (st.m i).begun (st.m i).next (st.ratS i)).toList
theorem ratCells_len (st : St) (n : Nat) : (ratCells st n).length = n * 10 := by
  induction n with
  | zero => rfl
  | succ n ih => rw [ratCells, List.length_append, ih]; show n * 10 + 10 = _; omega
theorem ratCells_at (st : St) (cs : Array Value) (o : Nat) (n : Nat) (h : ∀ i, i < n → RatAt cs (o + i * 10) (st.m i).begun (st.m i).next (st.ratS i)) : AtL cs o (ratCells st n) := by
  induction n with
  | zero => intro j v hv; simp [ratCells] at hv
  | succ n ih =>
    rw [ratCells]
    refine AtL.append.2 ⟨ih fun i hi => h i (by omega), ?_⟩
    rw [ratCells_len]
    exact h n (by omega)
theorem ratCells_get (st : St) (n i : Nat) (hi : i < n) : ((ratCells st n).toArray.extract (i * 10) (i * 10 + 10)) = CellsR (st.m i).begun (st.m i).next (st.ratS i) := by
  induction n with
  | zero => omega
  | succ n ih =>
    have hl := ratCells_len st n
    by_cases hn : i < n
    · rw [← ih hn]
      apply Array.ext_getElem?
      intro j
      simp only [Array.getElem?_extract, List.getElem?_toArray, List.size_toArray]
      rw [ratCells_len, ratCells_len]
      by_cases hj : j < 10
      · rw [if_pos (by omega), if_pos (by omega), ratCells, List.getElem?_append_left (by omega)]
      · rw [if_neg (by omega), if_neg (by omega)]
    · obtain rfl : i = n := by omega
      apply Array.ext_getElem?
      intro j
      simp only [Array.getElem?_extract, List.getElem?_toArray, List.size_toArray]
      rw [ratCells_len]
      by_cases hj : j < 10
      · rw [if_pos (by omega), ratCells, List.getElem?_append_right (by omega), hl, show i * 10 + j - i * 10 = j by omega, Array.getElem?_toList]
      · rw [if_neg (by omega), List.getElem?_eq_none (by show 10 ≤ j; omega)]
abbrev itemC (k f t g : Int) (s : Nat → Int) : Array Value := #[.int .i64 k, .int .i64 f, .int .i64 t, .int .i64 g, .int .u8 (s 0), .int .u8 (s 1), .int .u8 (s 2), .int .u8 (s 3), .int .u8 (s 4), .int .u8 (s 5), .int .u8 (s 6), .int .u8 (s 7)]
theorem itemC_eq (x : It) : x.cells.toArray = itemC x.kind x.f x.t x.g x.s := rfl
set_option maxHeartbeats 4000000 in
set_option maxRecDepth 20000 in
theorem gdump {b wk pm : Nat} {cs : Array Value} {st : St} (ok : st.Ok) (hg : GrpAt cs st wk pm) (w : World) (hk : Kept0 w pm st) (h : Home (some b) b 90 cs w) :
    Calls Tryz.prog 15 #[.pointer (some ⟨b, 0, none⟩)] w fun e w' => ∃ v, e = .returned v ∧ Below w.heap.size w w' ∧ Its w' w.heap.size v (st.parts 16 0 st.n ++ st.heads 16) := by
  obtain ⟨L, hL⟩ : ∃ L, st.parts 16 0 st.n = L := ⟨_, rfl⟩
  have hnode : ∀ x ∈ L, x = ⟨0, x.f, x.t, 0, x.s⟩ := fun x hx => map_node st 16 0 st.n x (by rw [hL]; exact hx)
  have hT := hg.tree
  rw [hL] at hT ⊢
  have hll : L.length ≤ 16 := by have := hT.len; rwa [List.length_map] at this
  have HKP : Hid (Calls Tryz.prog 31 #[.pointer (some ⟨b, 3, none⟩)] w fun e w' => e = .returned (.slice (some ⟨b, 3, none⟩) L.length 16) ∧ Below w.heap.size w w') := by
    refine kept_any b 3 L.length hll w ?_
    rw [h.cells.1]
    have := hT.count
    rw [List.length_map] at this
    exact this
  have HPC : Hid (w.rangeAt b 3 (pcells (L.map itPart))) := h.range hT.parts
  have hrat : AtL cs 164 (ratCells st 16) := ratCells_at st cs 164 16 hg.rat
  have HRC : Hid (w.rangeAt b 164 (ratCells st 16)) := h.range hrat
  have hbw := h.lt
  have HPM : Hid (w.cell? ⟨b, 324, none⟩ = some (.map (some pm)) ∧ w.heap[pm]? = some (.map #[] 0)) := ⟨by rw [h.cells.1]; exact hg.passed, hk.map⟩
  have HNI : Hid (∀ (f t : Nat) (s : Nat → Int) W, Calls Tryz.prog 32 #[AggP f t s] W fun e w' => e = .returned (.agg (It.cells ⟨0, f, t, 0, s⟩).toArray) ∧ Below W.heap.size W w') := nodeItem_any
  clear h hg hk hT hrat
  have HND : Hid (∀ x ∈ L, x = ⟨0, x.f, x.t, 0, x.s⟩) := hnode
  have HLL : Hid (L.length ≤ 16) := hll
  clear hnode hL hll
  go_enter Tryz.func15, Tryz.ntmps15
  go_wp2_with fail
  refine HKP.out.mono ?_
  rintro e w1 ⟨rfl, b1⟩
  have HB1 : Hid (Below w.heap.size w w1) := b1
  clear b1 HKP
  go_wp2_with fail
  go_loopg [3, 15] L.length (fun k v3 v15 wr => ∃ i : Nat, v15 = .int .i64 i ∧ i + k = L.length ∧ Hid (Below w.heap.size w wr ∧ Its wr w.heap.size v3 (L.take i)))
  case atStart => exact ⟨0, rfl, by omega, HB1.out, Its.nil _ _⟩
  case round =>
    obtain ⟨i, rfl, hik, HI⟩ := hrel
    have hll := HLL.out
    by_cases hlt : i < L.length
    · have hlt' : (i : Int) < (L.length : Int) := by omega
      obtain ⟨hbel, hits⟩ := HI.out
      have hx := HND.out L[i] (List.getElem_mem hlt)
      have HR1 : Hid (wr.rangeAt b (3 + i * 10) (CellsP L[i].f L[i].t L[i].s).toList) := by
        have := range_part (w := wr) (b := b) (o := 3) (L := L.map itPart) (fun j v hv => by rw [hbel.cell (p := ⟨b, 3 + j, none⟩) hbw]; exact HPC.out j v hv) i (by rw [List.length_map]; exact hlt)
        rw [List.getElem_map] at this
        exact this
      obtain ⟨X, hX⟩ : ∃ X, L[i] = X := ⟨_, rfl⟩
      rw [hX] at HR1 hx
      have htk : L.take (i + 1) = L.take i ++ [X] := by rw [List.take_succ_eq_append_getElem hlt, hX]
      have HTK : Hid (L.take (i + 1) = L.take i ++ [X]) := htk
      have HX : Hid (X = ⟨0, X.f, X.t, 0, X.s⟩) := hx
      have hlen : (L.take i).length + 1 ≤ 1000 := by rw [List.length_take]; omega
      have z1 : w.heap.size ≤ wr.heap.size := hbel.size
      have hwi : wrap64 ((i : Int) + 1) = ((i + 1 : Nat) : Int) := by simp only [wrap64]; omega
      have HN1 : Hid (∀ W, Calls Tryz.prog 32 #[AggP X.f X.t X.s] W fun e w' => e = .returned (.agg X.cells.toArray) ∧ Below W.heap.size W w') := fun W => by
        have := HNI.out X.f X.t X.s W
        rw [← HX.out] at this
        exact this
      obtain ⟨f, hf⟩ : ∃ f : Int, (X.f : Int) = f := ⟨_, rfl⟩
      obtain ⟨g, hg⟩ : ∃ f : Int, (X.t : Int) = f := ⟨_, rfl⟩
      obtain ⟨x, hx2⟩ : ∃ x, X.s = x := ⟨_, rfl⟩
      have hxc : X.cells.toArray = itemC 0 f g 0 x := by rw [itemC_eq, ← hf, ← hg, ← hx2, show X.kind = 0 by rw [HX.out], show X.g = 0 by rw [HX.out]]; rfl
      have HXC : Hid (X.cells.toArray = itemC 0 f g 0 x) := hxc
      rw [hxc] at HN1
      rw [hf, hg, hx2] at HR1 HN1
      clear hxc
      have HI2 : Hid (Below w.heap.size w (wr.alloc (.cells (CellsP f g x) 77)) ∧ Its (wr.alloc (.cells (CellsP f g x) 77)) w.heap.size u3 (L.take i)) := ⟨hbel.alloc z1 _, hits.below ((Below.refl _ _).alloc (Nat.le_refl _) _)⟩
      clear hx hf hg hx2 hX htk hbel hits HI
      go_wp2_with (refine wpList_load_mid rfl 77 _ rfl b (3 + i * 10) rfl (CellsP f g x).toList _ HR1.out Tryz.underlying77 rfl (by kernel_rfl) ?_)
      refine (HN1.out _).mono ?_
      rintro e w2 ⟨rfl, b2⟩
      have hb2 : Below w.heap.size w w2 := HI2.out.1.trans (b2.mono (by simp; omega))
      have hi2 := HI2.out.2.below b2
      obtain ⟨v', w', hrun, hi3, hb3, hz3⟩ := its_append (w2.alloc (.cells X.cells.toArray 49)) w.heap.size w.heap.size u3 (.slice (some ⟨w2.heap.size, 0, none⟩) 1 1) (L.take i) [X] (hi2.below ((Below.refl _ _).alloc (Nat.le_refl _) _)) (Its.one w2 w.heap.size hb2.size X) (by simp; have := hb2.size; omega) (by simpa using hlen) 41
      have HRUN : Hid ((Builtin.append_ #[41, 41] 41 #[u3, .slice (some ⟨w2.heap.size, 0, none⟩) 1 1]).run Tryz.prog (w2.alloc (.cells X.cells.toArray 49)) = .ok v' w') := hrun
      have HREL : Hid (Below w.heap.size w w' ∧ Its w' w.heap.size v' (L.take (i + 1))) := by
        refine ⟨(hb2.alloc hb2.size _).trans hb3, ?_⟩
        rw [HTK.out]
        exact hi3
      rw [HXC.out] at HRUN
      clear b2 hb2 hi2 hrun hi3 hb3 hz3 HI2 HN1 HR1 HXC
      go_wp2_with (at_builtin; refine wpList_app rfl _ _ 41 41 rfl rfl _ _ _ _ rfl rfl HRUN.out ?_)
      go_roundg (gk - 1)
      case measure => omega
      case rel => exact ⟨i + 1, by go_num, by omega, HREL.out⟩
    · have hge : ¬ (i : Int) < (L.length : Int) := by omega
      obtain rfl : i = L.length := by omega
      have HI2 : Hid (Below w.heap.size w wr ∧ Its wr w.heap.size u3 L) := by
        have := HI.out
        rw [List.take_length] at this
        exact this
      have HR2 : Hid (wr.rangeAt b 164 (ratCells st 16)) := fun j v hv => by rw [HI.out.1.cell (p := ⟨b, 164 + j, none⟩) hbw]; exact HRC.out j v hv
      have hrl : (ratCells st 16).length = 160 := ratCells_len st 16
      obtain ⟨RL, hRL⟩ : ∃ RL, ratCells st 16 = RL := ⟨_, rfl⟩
      have HIX : Hid (∀ i : Nat, i < 16 → ∀ w, (Instr.index 81 (.agg RL.toArray) (.int .i64 i)).run Tryz.prog w = .ok (AggR (st.m i).begun (st.m i).next (st.ratS i)) w) := fun i hi w => by
        have := index_rat (ratCells st 16).toArray (by simpa using hrl) i hi w
        rw [ratCells_get st 16 i hi] at this
        rw [← hRL]
        exact this
      rw [hRL] at HR2 hrl
      have HHI : Hid (∀ (m g : Nat), m < 16 → ∀ (bg : Bool) (s : Nat → Int) W, Calls Tryz.prog 34 #[.int .i64 m, AggR bg g s] W fun e w' => e = .returned (.agg (It.cells ⟨1, m, m + 1, g, s⟩).toArray) ∧ Below W.heap.size W w') := headItem_any
      have hok : ∀ i, (st.m i).next ≤ 65536 := fun i => (ok.m i).1
      have HOK : Hid (∀ i, (st.m i).next ≤ 65536) := hok
      clear HI hlt hRL HRC HPC HND HNI hok
      go_wp2_with (refine wpList_load_mid rfl 81 _ rfl b 164 rfl RL _ HR2.out Tryz.underlying81 rfl (by rw [hrl]; kernel_rfl) ?_)
      clear HR2
      go_loopg [3, 29] 16 (fun k v3 v29 wq => ∃ i : Nat, v29 = .int .i64 i ∧ i + k = 16 ∧ Hid (Below w.heap.size w wq ∧ Its wq w.heap.size v3 (L ++ st.heads i)))
      case atStart => exact ⟨0, rfl, by omega, by have := HI2.out; show Below _ _ _ ∧ Its _ _ _ (L ++ []); rw [List.append_nil]; exact this⟩
      case round =>
        obtain ⟨i, rfl, hik, HJ⟩ := hrel
        by_cases hlt : i < 16
        · have hlt' : (i : Int) < 16 := by omega
          obtain ⟨hbel, hits⟩ := HJ.out
          have z1 : w.heap.size ≤ wr.heap.size := hbel.size
          have hix := HIX.out i hlt
          have hnx := HOK.out i
          have hlen : (L ++ st.heads i).length + 1 ≤ 1000 := by rw [List.length_append]; have := st.heads_len i; have := HLL.out; omega
          have hH : st.heads (i + 1) = st.heads i ++ (if (st.m i).begun && decide ((st.m i).next ≤ 65535) then [⟨1, i, i + 1, (st.m i).next, st.ratAt i (st.m i).next⟩] else []) := rfl
          have hgb : GenB ((st.m i).next : Int) = decide ((st.m i).next ≤ 65535) := by
            by_cases hc : (st.m i).next ≤ 65535
            · rw [(genB_iff _).2 ⟨by omega, by omega⟩]; simp [hc]
            · cases hg : GenB ((st.m i).next : Int) with
              | false => simp [hc]
              | true => have := ((genB_iff _).1 hg).2; omega
          have HHS : Hid (∀ W o, W.cell? ⟨o, 0, none⟩ = some (.bool (st.m i).begun) → W.cell? ⟨o, 1, none⟩ = some (.int .i64 (st.m i).next) → Calls Tryz.prog 33 #[.pointer (some ⟨o, 0, none⟩)] W fun e w' => e = .returned (.bool ((st.m i).begun && decide ((st.m i).next ≤ 65535))) ∧ w' = W) := fun W o h0 h1 => by
            rw [← hgb]
            exact hasSecret_any (st.m i).begun (st.m i).next o 0 W h0 h1
          obtain ⟨BB, hBB⟩ : ∃ BB, ((st.m i).begun && decide ((st.m i).next ≤ 65535)) = BB := ⟨_, rfl⟩
          have hrs : BB = true → st.ratS i = st.ratAt i (st.m i).next := fun hb => by unfold St.ratS; rw [hBB, hb]; rfl
          rw [hBB] at HHS hH
          have HHH : Hid (∀ W, Calls Tryz.prog 34 #[.int .i64 i, AggR (st.m i).begun (st.m i).next (st.ratS i)] W fun e w' => e = .returned (.agg (It.cells ⟨1, i, i + 1, (st.m i).next, st.ratS i⟩).toArray) ∧ Below W.heap.size W w') := fun W => HHI.out i (st.m i).next hlt (st.m i).begun (st.ratS i) W
          obtain ⟨X, hX⟩ : ∃ X : It, (⟨1, i, i + 1, (st.m i).next, st.ratS i⟩ : It) = X := ⟨_, rfl⟩
          have hXX : BB = true → st.heads (i + 1) = st.heads i ++ [X] := fun hb => by rw [hH, hb, if_pos rfl, ← hX, hrs hb]
          have hXN : BB = false → st.heads (i + 1) = st.heads i := fun hb => by rw [hH, hb]; simp
          have hxc : X.cells.toArray = itemC 1 i (i + 1 : Nat) (st.m i).next (st.ratS i) := by rw [← hX]; rfl
          have HXC : Hid (X.cells.toArray = itemC 1 i (i + 1 : Nat) (st.m i).next (st.ratS i)) := hxc
          rw [hX, hxc] at HHH
          have HXX : Hid ((BB = true → st.heads (i + 1) = st.heads i ++ [X]) ∧ (BB = false → st.heads (i + 1) = st.heads i)) := ⟨hXX, hXN⟩
          obtain ⟨bg, hbg⟩ : ∃ bg, (st.m i).begun = bg := ⟨_, rfl⟩
          obtain ⟨G, hG⟩ : ∃ G : Int, ((st.m i).next : Int) = G := ⟨_, rfl⟩
          obtain ⟨sx, hsx⟩ : ∃ sx, st.ratS i = sx := ⟨_, rfl⟩
          obtain ⟨I1, hI1⟩ : ∃ I1 : Int, ((i + 1 : Nat) : Int) = I1 := ⟨_, rfl⟩
          rw [hbg, hG, hsx] at hix HHH
          rw [hbg, hG] at HHS
          rw [hG, hsx, hI1] at HXC
          rw [hI1] at HHH
          have HI1 : Hid (((i + 1 : Nat) : Int) = I1) := hI1
          have HJ2 : Hid (Below w.heap.size w (wr.alloc (.cells (CellsR bg G sx) 75)) ∧ Its (wr.alloc (.cells (CellsR bg G sx) 75)) w.heap.size u3 (L ++ st.heads i)) := ⟨hbel.alloc z1 _, hits.below ((Below.refl _ _).alloc (Nat.le_refl _) _)⟩
          have q0 : (wr.alloc (.cells (CellsR bg G sx) 75)).cell? ⟨wr.heap.size, 0, none⟩ = some (.bool bg) := by rw [cell_of_row _ _ _ _ _ _ (MapKept.heap_alloc wr _).1]; rfl
          have q1 : (wr.alloc (.cells (CellsR bg G sx) 75)).cell? ⟨wr.heap.size, 1, none⟩ = some (.int .i64 G) := by rw [cell_of_row _ _ _ _ _ _ (MapKept.heap_alloc wr _).1]; rfl
          clear hbel hits HJ hrs hXX hXN hxc hX hbg hG hsx hI1 hgb hH hBB hnx
          go_wp2_with fail
          refine (HHS.out _ wr.heap.size q0 q1).mono ?_
          rintro e w2 ⟨rfl, rfl⟩
          clear q0 q1 HHS hix
          cases BB with
          | false =>
            have HREL : Hid (Below w.heap.size w (wr.alloc (.cells (CellsR bg G sx) 75)) ∧ Its (wr.alloc (.cells (CellsR bg G sx) 75)) w.heap.size u3 (L ++ st.heads (i + 1))) := by
              have := HJ2.out
              rw [← HXX.out.2 rfl] at this
              exact this
            clear HJ2 HXX HHH HXC
            go_wp2_with fail
            go_roundg (gk - 1)
            case measure => omega
            case rel => exact ⟨i + 1, by go_num, by omega, HREL.out⟩
          | true =>
            go_wp2_with fail
            refine (HHH.out _).mono ?_
            rintro e w3 ⟨rfl, b3⟩
            have hb2 : Below w.heap.size w w3 := HJ2.out.1.trans (b3.mono (by simp; omega))
            have hi2 := HJ2.out.2.below b3
            obtain ⟨v', w', hrun, hi3, hb3, hz3⟩ := its_append (w3.alloc (.cells X.cells.toArray 49)) w.heap.size w.heap.size u3 (.slice (some ⟨w3.heap.size, 0, none⟩) 1 1) (L ++ st.heads i) [X] (hi2.below ((Below.refl _ _).alloc (Nat.le_refl _) _)) (Its.one w3 w.heap.size hb2.size X) (by simp; have := hb2.size; omega) (by simpa using hlen) 41
            have HRUN : Hid ((Builtin.append_ #[41, 41] 41 #[u3, .slice (some ⟨w3.heap.size, 0, none⟩) 1 1]).run Tryz.prog (w3.alloc (.cells X.cells.toArray 49)) = .ok v' w') := hrun
            have HREL : Hid (Below w.heap.size w w' ∧ Its w' w.heap.size v' (L ++ st.heads (i + 1))) := by
              refine ⟨(hb2.alloc hb2.size _).trans hb3, ?_⟩
              rw [HXX.out.1 (by trivial), ← List.append_assoc]
              exact hi3
            rw [HXC.out] at HRUN
            clear b3 hb2 hi2 hrun hi3 hb3 hz3 HJ2 HHH HXC HXX
            go_wp2_with (at_builtin; refine wpList_app rfl _ _ 41 41 rfl rfl _ _ _ _ rfl rfl HRUN.out ?_)
            go_roundg (gk - 1)
            case measure => omega
            case rel => exact ⟨i + 1, by go_num, by omega, HREL.out⟩
        · have hge : ¬ (i : Int) < 16 := by omega
          obtain rfl : i = 16 := by omega
          have hpc : wr.cell? ⟨b, 324, none⟩ = some (.map (some pm)) := by rw [HJ.out.1.cell (p := ⟨b, 324, none⟩) hbw]; exact HPM.out.1
          have HPL : Hid (Calls Tryz.prog 35 #[.map (some pm)] wr fun e w' => e = .returned (.slice none 0 0) ∧ Below wr.heap.size wr w') := places0 pm wr (by rw [HJ.out.1.block _ (Array.getElem?_eq_some_iff.1 HPM.out.2).1]; exact HPM.out.2)
          clear HPM HIX HHI HOK
          go_wp2_with fail
          refine HPL.out.mono ?_
          rintro e w4 ⟨rfl, b4⟩
          have HJ4 : Hid (Below w.heap.size w w4 ∧ Its w4 w.heap.size u3 (L ++ st.heads 16)) := ⟨HJ.out.1.trans (b4.mono HJ.out.1.size), HJ.out.2.below b4⟩
          clear b4 HJ HPL hpc
          go_wp2_with fail
          refine wp_loop_rounds 1 ?_
          rw [rounds_succ]
          go_wp2_with fail
          go_ret
          exact ⟨_, rfl, HJ4.out.1, HJ4.out.2⟩
end Go.Proofs.YtpfijaclghdcdaaGreatDoor
