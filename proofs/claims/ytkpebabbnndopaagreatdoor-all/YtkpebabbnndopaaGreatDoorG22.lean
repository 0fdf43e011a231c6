import Derived.Test.YtkpebabbnndopaaGreatDoorC11
import Derived.Test.YtkpebabbnndopaaGreatDoorG05
import Derived.Test.YtkpebabbnndopaaGreatDoorC12
import Derived.WalkKit
import Derived.WalkSpells
import Derived.WalkLawsBesides
import Derived.Deep.WholeRow
import Derived.Carry
import Derived.Test.YtkpebabbnndopaaGreatDoorG16
import Derived.Test.YtkpebabbnndopaaGreatDoorG21
import Derived.Test.YtkpebabbnndopaaGreatDoorG01
/- New, the items. -/
namespace Go.Proofs.YtkpebabbnndopaaGreatDoor
open Go.RowKit
set_option linter.unusedVariables false

theorem nodeItem_any (f t : Nat) (s : Nat → Int) (w : World) :
    Calls Tryz.prog 52 #[AggP f t s] w fun e w' => e = .returned (.agg (It.cells ⟨0, f, t, 0, s⟩).toArray) ∧ Below w.heap.size w w' := by
  go_enter Tryz.func52, Tryz.ntmps52
  go_wp2_with fail
  refine bodyPost_ret (v := .agg (It.cells ⟨0, f, t, 0, s⟩).toArray) (results_cell_row rfl _ _ (w.heap.size + 1) 53 (It.cells ⟨0, f, t, 0, s⟩).toArray (0, 0) _ rfl ?_ Tryz.underlying53 rfl (by kernel_rfl)) rfl ⟨rfl, ((Below.refl _ w).alloc (Nat.le_refl _) _).alloc (by simp) _⟩
  have e := (MapKept.heap_alloc (w.alloc (.cells (CellsP f t s) 99)) (.cells (It.cells ⟨0, f, t, 0, s⟩).toArray 53)).1
  simp only [World.size_alloc] at e
  exact e
theorem headItem_any (m g : Nat) (hm : m < 16) (bg : Bool) (s : Nat → Int) (w : World) :
    Calls Tryz.prog 54 #[.int .i64 m, AggR bg g s] w fun e w' => e = .returned (.agg (It.cells ⟨1, m, m + 1, g, s⟩).toArray) ∧ Below w.heap.size w w' := by
  have hwr : wrap64 ((m : Int) + 1) = ((m + 1 : Nat) : Int) := by simp only [wrap64]; omega
  have hwr2 : IntKind.i64.wrap ((m : Int) + 1) = ((m + 1 : Nat) : Int) := by rw [IntKind.wrap_i64]; omega
  obtain ⟨M, hM⟩ : ∃ M : Int, (m : Int) = M := ⟨_, rfl⟩
  obtain ⟨M1, hM1⟩ : ∃ M : Int, ((m + 1 : Nat) : Int) = M := ⟨_, rfl⟩
  have e1 : It.cells ⟨1, m, m + 1, g, s⟩ = [.int .i64 1, .int .i64 M, .int .i64 M1, .int .i64 g, .int .u8 (s 0), .int .u8 (s 1), .int .u8 (s 2), .int .u8 (s 3), .int .u8 (s 4), .int .u8 (s 5), .int .u8 (s 6), .int .u8 (s 7)] := by unfold It.cells; rw [hM, hM1]; rfl
  rw [e1]
  rw [hM, hM1] at hwr hwr2
  rw [hM]
  clear hM hM1 e1 hm
  go_enter Tryz.func54, Tryz.ntmps54
  go_wp2_with fail
  refine bodyPost_ret (v := .agg [.int .i64 1, .int .i64 M, .int .i64 M1, .int .i64 g, .int .u8 (s 0), .int .u8 (s 1), .int .u8 (s 2), .int .u8 (s 3), .int .u8 (s 4), .int .u8 (s 5), .int .u8 (s 6), .int .u8 (s 7)].toArray) (results_cell_row rfl _ _ (w.heap.size + 1) 53 _ (0, 0) _ rfl ?_ Tryz.underlying53 rfl (by kernel_rfl)) rfl ⟨rfl, ((Below.refl _ w).alloc (Nat.le_refl _) _).alloc (by simp) _⟩
  have e := (MapKept.heap_alloc (w.alloc (.cells (CellsR bg g s) 104)) (.cells [.int .i64 1, .int .i64 M, .int .i64 M1, .int .i64 g, .int .u8 (s 0), .int .u8 (s 1), .int .u8 (s 2), .int .u8 (s 3), .int .u8 (s 4), .int .u8 (s 5), .int .u8 (s 6), .int .u8 (s 7)].toArray 53)).1
  simp only [World.size_alloc] at e
  exact e
set_option maxHeartbeats 1000000 in
theorem newErr_any (s : Nat → Int) (n m : Int) (hf : FitB n m = false) (w : World) :
    Calls Tryz.prog 25 #[Agg8 s, .int .i64 n, .int .i64 m] w fun e w' => e = .returned (.tuple #[.pointer none, .int .i64 1]) ∧ Below w.heap.size w w' := by
  have HM : Hid (∀ W, Calls Tryz.prog 62 #[.int .i64 n, .int .i64 m] W fun e w' => e = .returned (.bool false) ∧ w' = W) := fun W => by rw [← hf]; exact hasMember_any n m W
  clear hf
  go_enter Tryz.func25, Tryz.ntmps25
  go_wp2_with (go_at_call 62; refine (HM.out _).mono ?_; rintro e w' ⟨rfl, rfl⟩)
  go_ret2
  exact ⟨rfl, (Below.refl _ w).alloc (Nat.le_refl _) _⟩
theorem foldl_putL : ∀ (l : List Value) (k : Nat) (Z : Array Value), List.foldl (fun (cs : Array Value) (x : Value × Nat) => cs.setIfInBounds (8 + x.snd) x.fst) Z (l.zipIdx k) = putL Z (8 + k) l
  | [], _, _ => rfl
  | v :: r, k, Z => by
    rw [List.zipIdx_cons, List.foldl_cons, foldl_putL r (k + 1), putL]
    rfl
theorem fold_row (Z TT : Array Value) (h : TT.size = 161) : Array.foldl (fun (cs : Array Value) (x : Value × Nat) => cs.setIfInBounds (8 + x.snd) x.fst) Z TT.zipIdx 0 161 = putL Z 8 TT.toList := by
  have hs : TT.zipIdx.size = 161 := by simp [h]
  have e := foldl_putL TT.toList 0 Z
  rw [Nat.add_zero] at e
  rw [← e, ← hs, ← Array.foldl_toList]
  simp
theorem zero_own : Tryz.zeroCells112.size = 331 ∧ Tryz.zeroCells112[7]? = some (.bool false) ∧ Tryz.zeroCells112[330]? = some (.int .i64 0) := ⟨by kernel_rfl, by kernel_rfl, by kernel_rfl⟩
theorem zero_head : Tryz.zeroCells112[0]? = some (i32 0) ∧ Tryz.zeroCells112[2]? = some (.int .u32 0) ∧ Tryz.zeroCells112[3]? = some (i32 0) := ⟨by kernel_rfl, by kernel_rfl, by kernel_rfl⟩
theorem zero_rat : ∀ i, i < 16 → (Tryz.zeroCells112.extract (169 + i * 10) (169 + i * 10 + 10)).toList = (CellsR false 0 fun _ => 0).toList := by
  intro i hi
  rcases i with _ | _ | _ | _ | _ | _ | _ | _ | _ | _ | _ | _ | _ | _ | _ | _ | i <;> first | omega | kernel_rfl
/-- a new group's cells -/
theorem ones_of_all {cs : Array Value} (h : cs.all (·.oneCell') = true) : Ones cs := fun _ v hv => Array.all_eq_true_iff_forall_mem.1 h v (Array.mem_of_getElem? hv)
theorem zero_ones : Tryz.zeroCells112.all (·.oneCell') = true := by kernel_rfl
def newCells (Z : Array Value) (n m : Int) (TT : Array Value) (pm : Nat) : Array Value := (putL ((Z.setIfInBounds 5 (.int .i64 n)).setIfInBounds 6 (.int .i64 m)) 8 TT.toList).setIfInBounds 329 (.map (some pm))
set_option maxHeartbeats 1000000 in
set_option maxRecDepth 20000 in
theorem new_raw (s : Nat → Int) (n m : Int) (hf : FitB n m = true) (w : World) :
    Calls Tryz.prog 25 #[Agg8 s, .int .i64 n, .int .i64 m] w fun e w' => ∃ b pm, e = .returned (.tuple #[.pointer (some ⟨b, 0, none⟩), .int .i64 0]) ∧ w.heap.size ≤ pm ∧ pm < b ∧ Below w.heap.size w w' ∧ w'.heap[pm]? = some (.map #[] 0) ∧ w'.heap[b]? = some (.cells (newCells Tryz.zeroCells112 n m (TZ Tryz.zeroCells102 n s) pm) 112 (0, 0)) := by
  have HM : Hid (∀ W, Calls Tryz.prog 62 #[.int .i64 n, .int .i64 m] W fun e w' => e = .returned (.bool true) ∧ w' = W) := fun W => by rw [← hf]; exact hasMember_any n m W
  have HT : Hid (∀ W, Calls Tryz.prog 63 #[Agg8 s, .int .i64 n] W fun e w' => e = .returned (.agg (TZ Tryz.zeroCells102 n s)) ∧ Below W.heap.size W w') := fun W => wholeTree_any s n W
  have hTs := TC_size n s
  have hTo := TC_one n s
  obtain ⟨TT, hTT⟩ : ∃ TT, TZ Tryz.zeroCells102 n s = TT := ⟨_, rfl⟩
  rw [hTT] at hTs hTo HT ⊢
  have HFR : Hid (∀ Z, Array.foldl (fun (cs : Array Value) (x : Value × Nat) => cs.setIfInBounds (8 + x.snd) x.fst) Z TT.zipIdx 0 161 = putL Z 8 TT.toList) := fun Z => fold_row Z TT hTs
  clear hf hTT
  have hmm := @run_makeMap Tryz.prog
  go_enter Tryz.func25, Tryz.ntmps25
  go_wp2_with (go_at_call 62; refine (HM.out _).mono ?_; rintro e w' ⟨rfl, rfl⟩)
  refine (HT.out _).mono ?_
  rintro e w1 ⟨rfl, b1⟩
  have d1 : Below w.heap.size w w1 := ((Below.refl _ w).alloc (Nat.le_refl _) _).trans (b1.mono (by simp))
  have z1 : w.heap.size ≤ w1.heap.size := d1.size
  clear b1
  go_wp2_with fail
  · rw [HFR.out, putL_size, Array.size_setIfInBounds, Array.size_setIfInBounds, zero_own.1] at h
    omega
  · go_ret2
    refine ⟨w1.heap.size + 1, w1.heap.size, rfl, z1, Nat.lt_succ_self _, (d1.alloc z1 _).alloc (by simp; omega) _, ?_, ?_⟩
    · rw [Below.heap_alloc _ _ _ (by simp)]
      exact (MapKept.heap_alloc _ _).1
    · rw [HFR.out]
      have e := (MapKept.heap_alloc (w1.alloc (.map #[] 0)) (.cells (newCells Tryz.zeroCells112 n m TT w1.heap.size) 112)).1
      simp only [World.size_alloc] at e
      exact e
theorem new_any (s : Nat → Int) (hs : ∀ i, 0 ≤ s i ∧ s i < 256) (n m : Nat) (h1 : 1 ≤ n) (h2 : n ≤ 16) (hm : m < n) (w : World) :
    Calls Tryz.prog 25 #[Agg8 s, .int .i64 n, .int .i64 m] w fun e w' => ∃ b pm cs, e = .returned (.tuple #[.pointer (some ⟨b, 0, none⟩), .int .i64 0]) ∧ Below w.heap.size w w' ∧ w.heap.size ≤ b ∧ w.heap.size ≤ pm ∧ b ≠ pm ∧ Home (some b) b 112 cs w' ∧ GrpAt cs (St.new s n m) 0 pm 0 ∧ w'.heap[pm]? = some (.map #[] 0) := by
  have hf : FitB n m = true := (fitB_iff _ _).2 ⟨by omega, by omega, by omega, by omega⟩
  obtain ⟨z1, z2, z3⟩ := zero_own
  have ts := TC_size n s
  have tt := TC_tree n h2 s hs
  have tone := TC_one n s
  rw [← Array.all_toList] at tone
  have hm' : ∀ i, (St.new s n m).m i = ⟨false, 0, []⟩ := St.new_m s n m
  refine (new_raw s n m hf w).mono fun e w' ⟨b, pm, e1, e2, e3, e4, e5, e6⟩ => ?_
  obtain ⟨TT, hTT⟩ : ∃ TT, TZ Tryz.zeroCells102 n s = TT := ⟨_, rfl⟩
  rw [hTT] at ts tt e6 tone
  have hlen : TT.toList.length = 161 := by rw [Array.length_toList, ts]
  have hc : ∀ j, j ≠ 329 → (newCells Tryz.zeroCells112 n m TT pm)[j]? = (putL ((Tryz.zeroCells112.setIfInBounds 5 (.int .i64 (n : Int))).setIfInBounds 6 (.int .i64 (m : Int))) 8 TT.toList)[j]? := fun j hj => by
    unfold newCells
    rw [Array.getElem?_setIfInBounds, if_neg (by omega)]
  have ho : ∀ j, j ≠ 329 → (j < 8 ∨ 169 ≤ j) → j ≠ 5 → j ≠ 6 → (newCells Tryz.zeroCells112 n m TT pm)[j]? = Tryz.zeroCells112[j]? := fun j hj h3 h4 h5 => by
    rw [hc j hj, putL_out _ _ _ _ (by rw [hlen]; omega), Array.getElem?_setIfInBounds, if_neg (by omega), Array.getElem?_setIfInBounds, if_neg (by omega)]
  have hz : (newCells Tryz.zeroCells112 n m TT pm).size = 331 := by
    unfold newCells
    rw [Array.size_setIfInBounds, putL_size, Array.size_setIfInBounds, Array.size_setIfInBounds, z1]
  have hones : Ones (newCells Tryz.zeroCells112 n m TT pm) := by
    unfold newCells
    exact (Ones.putL _ _ (((ones_of_all zero_ones).set _ _ rfl).set _ _ rfl) tone).set _ _ rfl
  have hct : (newCells Tryz.zeroCells112 n m TT pm)[330]? = some (.int .i64 0) := by rw [ho _ (by omega) (by omega) (by omega) (by omega)]; exact z3
  refine ⟨b, pm, _, e1, e4, by omega, e2, by omega, Home.own e6 ⟨0, hct⟩, ⟨hz, ?_, ?_, ?_, ?_, fun i hi => ?_, ?_, hct, hones, ?_⟩, e5⟩
  · rw [hc _ (by omega), putL_out _ _ _ _ (.inl (by omega)), Array.getElem?_setIfInBounds, if_neg (by omega), Array.getElem?_setIfInBounds, if_pos rfl, if_pos (by omega)]; rfl
  · rw [hc _ (by omega), putL_out _ _ _ _ (.inl (by omega)), Array.getElem?_setIfInBounds, if_pos rfl, if_pos (by rw [Array.size_setIfInBounds]; omega)]; rfl
  · rw [ho _ (by omega) (by omega) (by omega) (by omega)]; exact z2
  · have hb : (St.new s n m).begun 0 n = false := by
      unfold St.begun
      rw [List.any_eq_false]
      intro i _
      rw [hm']; simp
    have hp : ((St.new s n m).parts 16 0 (St.new s n m).n).map itPart = [⟨0, n, s⟩] := by
      show ((St.new s n m).parts 16 0 n).map itPart = _
      rw [St.parts_not _ _ _ _ hb]
      have : (St.new s n m).part 0 n = s := St.part_all (St.new s n m)
      rw [this]
      rfl
    rw [hp]
    have hat : AtL (putL ((Tryz.zeroCells112.setIfInBounds 5 (.int .i64 (n : Int))).setIfInBounds 6 (.int .i64 (m : Int))) 8 TT.toList) 8 TT.toList := putL_at _ _ _ (by rw [hlen, Array.size_setIfInBounds, Array.size_setIfInBounds, z1]; omega)
    have hat2 : AtL (newCells Tryz.zeroCells112 n m TT pm) 8 TT.toList := fun j v hv => by
      have hj := (List.getElem?_eq_some_iff.1 hv).1
      rw [hc _ (by omega)]
      exact hat j v hv
    refine ⟨tt.len, fun j v hv => hat2 j v ?_, hat2 160 _ ?_, tt.ok⟩
    · have := tt.parts j v hv
      rw [Nat.zero_add] at this
      rw [Array.getElem?_toList]; exact this
    · have := tt.count
      rw [Nat.zero_add] at this
      rw [Array.getElem?_toList]; exact this
  · rw [hm']
    have hr0 : (St.new s n m).ratS i = fun _ => 0 := by unfold St.ratS; rw [hm']; rfl
    rw [hr0]
    intro j v hv
    have hj : j < 10 := (List.getElem?_eq_some_iff.1 hv).1
    have hv2 : (CellsR false 0 fun _ => 0).toList[j]? = some v := hv
    rw [ho _ (by omega) (by omega) (by omega) (by omega)]
    rw [← zero_rat i hi, Array.getElem?_toList, Array.getElem?_extract, if_pos (by omega)] at hv2
    exact hv2
  · unfold newCells
    rw [Array.getElem?_setIfInBounds, if_pos rfl, if_pos (by rw [putL_size, Array.size_setIfInBounds, Array.size_setIfInBounds, z1]; omega)]
  · rw [ho _ (by omega) (by omega) (by omega) (by omega), ho _ (by omega) (by omega) (by omega) (by omega), ho _ (by omega) (by omega) (by omega) (by omega)]
    exact zero_head
end Go.Proofs.YtkpebabbnndopaaGreatDoor

/- A group in memory, whatever its state. -/
namespace Go.Proofs.YtkpebabbnndopaaGreatDoor
open Go.RowKit
set_option linter.unusedVariables false

theorem KeepAt.empty {w : World} {pm : Nat} (h : w.heap[pm]? = some (.map #[] 0)) (B : PlI → Nat) (key : PlI → Nat → Int) : KeepAt w pm [] B key :=
  ⟨⟨.map [], ⟨#[], 0, h, ⟨by simp, by constructor <;> simp, by simp⟩, Nat.le_refl _, rfl⟩, KeepD.empty B⟩, fun _ h => (by cases h), fun _ h => (by cases h)⟩
/-- the places whose keys are kept -/
def St.kl (st : St) : List PlI := if st.closed then [] else keptL st st.n
theorem kl_open {st : St} (h : st.closed = false) : st.kl = keptL st st.n := by unfold St.kl; rw [h]; rfl
theorem kl_shut {st : St} (h : st.closed = true) : st.kl = [] := by unfold St.kl; rw [h]; rfl
/-- the cells of a group whose epoch is over -/
structure ShutAt (cs : Array Value) (wk pm : Nat) (lk : Int) : Prop where
  size : cs.size = 331
  over : cs[7]? = some (.bool true)
  tree : TreeAt cs 8 []
  rat : ∀ i, i < 16 → RatAt cs (169 + i * 10) false 0 (fun _ => 0)
  passed : cs[329]? = some (.map (some pm))
  cnt : cs[ctrOff]? = some (ctr wk)
  ones : Ones cs
  head : cs[0]? = some (i32 lk) ∧ cs[2]? = some (.int .u32 1) ∧ cs[3]? = some (i32 0)
theorem ShutAt.locked {cs : Array Value} {wk pm : Nat} {lk : Int} (h : ShutAt cs wk pm lk) (k : Int) : ShutAt (cs.setIfInBounds 0 (i32 k)) wk pm k := by
  have e : ∀ j, j ≠ 0 → (cs.setIfInBounds 0 (i32 k))[j]? = cs[j]? := fun j hj => by rw [Array.getElem?_setIfInBounds, if_neg (by omega)]
  have hT := h.tree
  exact ⟨by rw [Array.size_setIfInBounds]; exact h.size, by rw [e _ (by omega)]; exact h.over, ⟨hT.len, fun j v hv => by rw [e _ (by omega)]; exact hT.parts j v hv, by rw [e _ (by omega)]; exact hT.count, hT.ok⟩,
    fun i hi j v hv => by rw [e _ (by omega)]; exact h.rat i hi j v hv, by rw [e _ (by omega)]; exact h.passed, by rw [e _ (by show 330 ≠ 0; omega)]; exact h.cnt, h.ones.set _ _ rfl, set_lock h.head.1, by rw [e _ (by omega)]; exact h.head.2.1, by rw [e _ (by omega)]; exact h.head.2.2⟩
/-- a group's cells, whether its epoch is over or not -/
def GAt (cs : Array Value) (st : St) (wk pm : Nat) (lk : Int) : Prop := (st.closed = false ∧ GrpAt cs st wk pm lk) ∨ (st.closed = true ∧ ShutAt cs wk pm lk)
theorem GAt.lock {cs : Array Value} {st : St} {wk pm : Nat} {lk : Int} (h : GAt cs st wk pm lk) : cs[0]? = some (i32 lk) := by
  rcases h with ⟨_, h⟩ | ⟨_, h⟩
  · exact h.head.1
  · exact h.head.1
theorem GAt.cnt {cs : Array Value} {st : St} {wk pm : Nat} {lk : Int} (h : GAt cs st wk pm lk) : cs[ctrOff]? = some (ctr wk) := by
  rcases h with ⟨_, h⟩ | ⟨_, h⟩
  · exact h.cnt
  · exact h.cnt
/-- the blocks S are a group in the state st -/
structure GrpIn (w : World) (S : List Nat) (b pm : Nat) (cs : Array Value) (B : PlI → Nat) (st : St) (wk : Nat) : Prop where
  blocks : S = b :: pm :: st.kl.map B
  ne : b ≠ pm
  apart : ∀ x, x ∈ st.kl → B x ≠ b
  home : Home (some b) b 112 cs w
  keep : KeepAt w pm st.kl B st.keyP
  asc : Asc st
  cells : GAt cs st wk pm 0
def Grp (w : World) (S : List Nat) (g : Value) (st : St) (wk : Nat) : Prop := ∃ b pm cs B, g = .pointer (some ⟨b, 0, none⟩) ∧ GrpIn w S b pm cs B st wk
theorem GrpIn.lt {w : World} {S : List Nat} {b pm : Nat} {cs : Array Value} {B : PlI → Nat} {st : St} {wk : Nat} (h : GrpIn w S b pm cs B st wk) (k : Nat) (hk : k ∈ S) : k < w.heap.size := by
  rw [h.blocks] at hk
  simp only [List.mem_cons] at hk
  rcases hk with rfl | rfl | hk
  · exact h.home.lt
  · exact h.keep.lt
  · obtain ⟨y, hy, rfl⟩ := List.mem_map.1 hk
    exact (Array.getElem?_eq_some_iff.1 (h.keep.row y hy)).1
theorem GrpIn.kept {w w' : World} {S : List Nat} {b pm : Nat} {cs : Array Value} {B : PlI → Nat} {st : St} {wk : Nat} (h : GrpIn w S b pm cs B st wk) (hk : ∀ k, k < w.heap.size → k ∈ S → w'.heap[k]? = w.heap[k]?) : GrpIn w' S b pm cs B st wk := by
  have hb : b ∈ S := by rw [h.blocks]; simp
  refine ⟨h.blocks, h.ne, h.apart, Home.own (by rw [hk b h.home.lt hb]; exact h.home.row) h.home.cnt, h.keep.keep fun k hl hm => hk k hl ?_, h.asc, h.cells⟩
  rw [h.blocks]
  rcases hm with rfl | hm
  · simp
  · simp only [List.mem_cons]
    exact .inr (.inr hm)
/-- the table of errors' types lies beside it -/
theorem GrpIn.zero {w : World} {S : List Nat} {b pm : Nat} {cs : Array Value} {B : PlI → Nat} {st : St} {wk : Nat} (h : GrpIn w S b pm cs B st wk) (hG : Glob w) : 0 ∉ S := by
  intro hz
  rw [h.blocks] at hz
  have h1 : w.cell? ⟨0, 0, none⟩ = some errT := hG
  simp only [List.mem_cons] at hz
  rcases hz with e | e | e
  · exact Glob.ne hG h.home h.cells.lock (by simpa using e)
  · obtain ⟨D, ⟨es, clock, hb, _⟩, _⟩ := h.keep.map
    rw [← e] at hb
    unfold World.cell? at h1
    rw [hb] at h1
    cases h1
  · obtain ⟨y, hy, e2⟩ := List.mem_map.1 e
    have h2 := h.keep.row y hy
    rw [e2] at h2
    rw [cell_of_row _ _ _ _ _ _ h2] at h1
    cases h1
theorem grp_new (s : Nat → Int) (hs : ∀ i, 0 ≤ s i ∧ s i < 256) (n m : Nat) (h1 : 1 ≤ n) (h2 : n ≤ 16) (hm : m < n) (w : World) :
    Calls Tryz.prog 25 #[Agg8 s, .int .i64 n, .int .i64 m] w fun e w' => ∃ b S, e = .returned (.tuple #[.pointer (some ⟨b, 0, none⟩), .int .i64 0]) ∧ Below w.heap.size w w' ∧ (∀ k, k ∈ S → w.heap.size ≤ k) ∧ Grp w' S (.pointer (some ⟨b, 0, none⟩)) (St.new s n m) 0 := by
  refine (new_any s hs n m h1 h2 hm w).mono fun e w' ⟨b, pm, cs, e1, e2, e3, e4, e5, e6, e7, e8⟩ => ?_
  have hkl : (St.new s n m).kl = [] := by
    rw [kl_open rfl]
    refine List.eq_nil_iff_forall_not_mem.2 fun x hx => ?_
    obtain ⟨i, g, _, hg, _⟩ := keptL_mem.1 hx
    rw [St.new_m] at hg
    cases hg
  refine ⟨b, [b, pm], e1, e2, fun k hk => by simp at hk; omega, b, pm, cs, fun _ => 0, rfl, ⟨by rw [hkl]; rfl, e5, fun x hx => (by rw [hkl] at hx; cases hx), e6, by rw [hkl]; exact KeepAt.empty e8 _ _, Asc.new s n m, .inl ⟨rfl, e7⟩⟩⟩
/-- Work -/
theorem grp_work {w : World} {S : List Nat} {g : Value} {st : St} {wk : Nat} (hw : wk ≤ 1000000000000) (h : Grp w S g st wk) :
    Calls Tryz.prog 23 #[g] w fun e w' => e = .returned (.int .i64 wk) ∧ Outside S w w' ∧ ∃ S', Fresh w S S' ∧ Grp w' S' g st wk := by
  obtain ⟨b, pm, cs, B, rfl, h⟩ := h
  refine (gwork_any b cs _ wk w h.home.row h.cells.lock h.cells.cnt).mono fun e w' ⟨e1, e2⟩ => ?_
  have hb : b ∈ S := by rw [h.blocks]; simp
  have hr : w'.heap[b]? = w.heap[b]? := by rw [e2]; exact setRow_back h.home.row
  refine ⟨?_, ?_, S, Fresh.refl _ _, b, pm, cs, B, rfl, h.kept fun k hl hk => ?_⟩
  · rw [e1]
    have e3 : IntKind.i64.wrap (wk : Int) = wk := by rw [IntKind.wrap_i64]; omega
    unfold ctr
    rw [e3]
  · rw [e2]; exact ((Outside.refl S w).setRow b (fun _ => hb) _).setRow b (fun _ => hb) _
  · by_cases e : k = b
    · rw [e, hr]
    · rw [e2, setRow_other _ _ _ _ e, setRow_other _ _ _ _ e]
end Go.Proofs.YtkpebabbnndopaaGreatDoor
