import Derived.Test.YtcboagjfajdpeaaGrp0
import Derived.Test.YtcboagjfajdpeaaIts
import Derived.Test.YtcboagjfajdpeaaRefG
import Derived.WalkKit
import Derived.WalkSpells
import Derived.WalkLawsBesides
import Derived.Deep.WholeRow
import Derived.Deep.MidRow
import Derived.Deep.LoopGhost
/- New, the items. -/
namespace Go.Proofs.Ytcboagjfajdpeaa
open Go.RowKit
set_option linter.unusedVariables false

theorem nodeItem_any (f t : Nat) (s : Nat → Int) (w : World) :
    Calls Try.prog 56 #[AggP f t s] w fun e w' => e = .returned (.agg (It.cells ⟨0, f, t, 0, s⟩).toArray) ∧ Below w.heap.size w w' := by
  go_enter Try.func56, Try.ntmps56
  go_wp2_with fail
  refine bodyPost_ret (v := .agg (It.cells ⟨0, f, t, 0, s⟩).toArray) (results_cell_row rfl _ _ (w.heap.size + 1) 61 (It.cells ⟨0, f, t, 0, s⟩).toArray (0, 0) _ rfl ?_ Try.underlying61 rfl (by kernel_rfl)) rfl ⟨rfl, ((Below.refl _ w).alloc (Nat.le_refl _) _).alloc (by simp) _⟩
  have e := (MapKept.heap_alloc (w.alloc (.cells (CellsP f t s) 76)) (.cells (It.cells ⟨0, f, t, 0, s⟩).toArray 61)).1
  simp only [World.size_alloc] at e
  exact e
theorem headItem_any (m g : Nat) (hm : m < 16) (bg : Bool) (s : Nat → Int) (w : World) :
    Calls Try.prog 58 #[.int .i64 m, AggR bg g s] w fun e w' => e = .returned (.agg (It.cells ⟨1, m, m + 1, g, s⟩).toArray) ∧ Below w.heap.size w w' := by
  have hwr : wrap64 ((m : Int) + 1) = ((m + 1 : Nat) : Int) := by simp only [wrap64]; omega
  have hwr2 : IntKind.i64.wrap ((m : Int) + 1) = ((m + 1 : Nat) : Int) := by rw [IntKind.wrap_i64]; omega
  obtain ⟨M, hM⟩ : ∃ M : Int, (m : Int) = M := ⟨_, rfl⟩
  obtain ⟨M1, hM1⟩ : ∃ M : Int, ((m + 1 : Nat) : Int) = M := ⟨_, rfl⟩
  have e1 : It.cells ⟨1, m, m + 1, g, s⟩ = [.int .i64 1, .int .i64 M, .int .i64 M1, .int .i64 g, .int .u8 (s 0), .int .u8 (s 1), .int .u8 (s 2), .int .u8 (s 3), .int .u8 (s 4), .int .u8 (s 5), .int .u8 (s 6), .int .u8 (s 7)] := by unfold It.cells; rw [hM, hM1]; rfl
  rw [e1]
  rw [hM, hM1] at hwr hwr2
  rw [hM]
  clear hM hM1 e1 hm
  go_enter Try.func58, Try.ntmps58
  go_wp2_with fail
  refine bodyPost_ret (v := .agg [.int .i64 1, .int .i64 M, .int .i64 M1, .int .i64 g, .int .u8 (s 0), .int .u8 (s 1), .int .u8 (s 2), .int .u8 (s 3), .int .u8 (s 4), .int .u8 (s 5), .int .u8 (s 6), .int .u8 (s 7)].toArray) (results_cell_row rfl _ _ (w.heap.size + 1) 61 _ (0, 0) _ rfl ?_ Try.underlying61 rfl (by kernel_rfl)) rfl ⟨rfl, ((Below.refl _ w).alloc (Nat.le_refl _) _).alloc (by simp) _⟩
  have e := (MapKept.heap_alloc (w.alloc (.cells (CellsR bg g s) 85)) (.cells [.int .i64 1, .int .i64 M, .int .i64 M1, .int .i64 g, .int .u8 (s 0), .int .u8 (s 1), .int .u8 (s 2), .int .u8 (s 3), .int .u8 (s 4), .int .u8 (s 5), .int .u8 (s 6), .int .u8 (s 7)].toArray 61)).1
  simp only [World.size_alloc] at e
  exact e
set_option maxHeartbeats 1000000 in
theorem newErr_any (s : Nat → Int) (n m : Int) (hf : FitB n m = false) (w : World) :
    Calls Try.prog 46 #[Agg8 s, .int .i64 n, .int .i64 m] w fun e w' => e = .returned (.tuple #[.pointer none, .int .i64 1]) ∧ Below w.heap.size w w' := by
  have HM : Hid (∀ W, Calls Try.prog 35 #[.int .i64 n, .int .i64 m] W fun e w' => e = .returned (.bool false) ∧ w' = W) := fun W => by rw [← hf]; exact hasMember_any n m W
  clear hf
  go_enter Try.func46, Try.ntmps46
  go_wp2_with (go_at_call 35; refine (HM.out _).mono ?_; rintro e w' ⟨rfl, rfl⟩)
  go_ret2
  exact ⟨rfl, (Below.refl _ w).alloc (Nat.le_refl _) _⟩
theorem foldl_putL : ∀ (l : List Value) (k : Nat) (Z : Array Value), List.foldl (fun (cs : Array Value) (x : Value × Nat) => cs.setIfInBounds (2 + x.snd) x.fst) Z (l.zipIdx k) = putL Z (2 + k) l
  | [], _, _ => rfl
  | v :: r, k, Z => by
    rw [List.zipIdx_cons, List.foldl_cons, foldl_putL r (k + 1), putL]
    rfl
theorem fold_row (Z TT : Array Value) (h : TT.size = 161) : Array.foldl (fun (cs : Array Value) (x : Value × Nat) => cs.setIfInBounds (2 + x.snd) x.fst) Z TT.zipIdx 0 161 = putL Z 2 TT.toList := by
  have hs : TT.zipIdx.size = 161 := by simp [h]
  have e := foldl_putL TT.toList 0 Z
  rw [Nat.add_zero] at e
  rw [← e, ← hs, ← Array.foldl_toList]
  simp
theorem zero_own : Try.zeroCells117.size = 324 ∧ Try.zeroCells117[1]? = some (.bool false) ∧ Try.zeroCells117[323]? = some (.int .i64 0) := ⟨by kernel_rfl, by kernel_rfl, by kernel_rfl⟩
theorem zero_rat : ∀ i, i < 16 → (Try.zeroCells117.extract (163 + i * 10) (163 + i * 10 + 10)).toList = (CellsR false 0 fun _ => 0).toList := by
  intro i hi
  rcases i with _ | _ | _ | _ | _ | _ | _ | _ | _ | _ | _ | _ | _ | _ | _ | _ | i <;> first | omega | kernel_rfl
set_option maxHeartbeats 1000000 in
set_option maxRecDepth 20000 in
theorem new_raw (s : Nat → Int) (n m : Int) (hf : FitB n m = true) (w : World) :
    Calls Try.prog 46 #[Agg8 s, .int .i64 n, .int .i64 m] w fun e w' => ∃ b, e = .returned (.tuple #[.pointer (some ⟨b, 0, none⟩), .int .i64 0]) ∧ w.heap.size ≤ b ∧ Below w.heap.size w w' ∧ w'.heap[b]? = some (.cells (putL (Try.zeroCells117.setIfInBounds 0 (.int .i64 m)) 2 (TZ Try.zeroCells79 n s).toList) 117 (0, 0)) := by
  have HM : Hid (∀ W, Calls Try.prog 35 #[.int .i64 n, .int .i64 m] W fun e w' => e = .returned (.bool true) ∧ w' = W) := fun W => by rw [← hf]; exact hasMember_any n m W
  have HT : Hid (∀ W, Calls Try.prog 36 #[Agg8 s, .int .i64 n] W fun e w' => e = .returned (.agg (TZ Try.zeroCells79 n s)) ∧ Below W.heap.size W w') := fun W => wholeTree_any s n W
  have hTs := TC_size n s
  have hTo := TC_one n s
  obtain ⟨TT, hTT⟩ : ∃ TT, TZ Try.zeroCells79 n s = TT := ⟨_, rfl⟩
  rw [hTT] at hTs hTo HT ⊢
  have HFR : Hid (∀ Z, Array.foldl (fun (cs : Array Value) (x : Value × Nat) => cs.setIfInBounds (2 + x.snd) x.fst) Z TT.zipIdx 0 161 = putL Z 2 TT.toList) := fun Z => fold_row Z TT hTs
  clear hf hTT
  go_enter Try.func46, Try.ntmps46
  go_wp2_with (go_at_call 35; refine (HM.out _).mono ?_; rintro e w' ⟨rfl, rfl⟩)
  refine (HT.out _).mono ?_
  rintro e w1 ⟨rfl, b1⟩
  have d1 : Below w.heap.size w w1 := ((Below.refl _ w).alloc (Nat.le_refl _) _).trans (b1.mono (by simp))
  have z1 : w.heap.size ≤ w1.heap.size := d1.size
  clear b1
  go_wp2_with fail
  go_ret2
  refine ⟨w1.heap.size, rfl, z1, d1.alloc z1 _, ?_⟩
  rw [HFR.out]
  exact (MapKept.heap_alloc _ _).1
theorem new_any (s : Nat → Int) (hs : ∀ i, 0 ≤ s i ∧ s i < 256) (n m : Nat) (h1 : 1 ≤ n) (h2 : n ≤ 16) (hm : m < n) (w : World) :
    Calls Try.prog 46 #[Agg8 s, .int .i64 n, .int .i64 m] w fun e w' => ∃ b S, e = .returned (.tuple #[.pointer (some ⟨b, 0, none⟩), .int .i64 0]) ∧ Below w.heap.size w w' ∧ (∀ k, k ∈ S → w.heap.size ≤ k) ∧ Grp w' S (.pointer (some ⟨b, 0, none⟩)) (St.new s n m) 0 := by
  have hf : FitB n m = true := (fitB_iff _ _).2 ⟨by omega, by omega, by omega, by omega⟩
  obtain ⟨z1, z2, z3⟩ := zero_own
  have ts := TC_size n s
  have tt := TC_tree n h2 s hs
  have hm' : ∀ i, (St.new s n m).m i = ⟨false, 0, []⟩ := St.new_m s n m
  refine (new_raw s n m hf w).mono fun e w' ⟨b, e1, e2, e3, e4⟩ => ⟨b, [b], e1, e3, by simpa using e2, b, _, rfl, rfl, ⟨e4, .inr rfl, fun _ => ⟨0, ?_⟩⟩, ⟨?_, ?_, ?_, ?_, fun i hi => ?_, ?_⟩, rfl, fun i => by rw [hm'], by rw [hm']; simp⟩
  · rw [putL_out _ _ _ _ (.inr (by show 2 + (TZ _ _ _).toList.length ≤ 323; rw [Array.length_toList, ts]; omega)), Array.getElem?_setIfInBounds, if_neg (by decide)]; exact z3
  · rw [putL_size, Array.size_setIfInBounds, z1]
  · rw [putL_out _ _ _ _ (.inl (by omega)), Array.getElem?_setIfInBounds, if_pos rfl, if_pos (by omega)]; rfl
  · rw [putL_out _ _ _ _ (.inl (by omega)), Array.getElem?_setIfInBounds, if_neg (by omega)]; exact z2
  · have hb : (St.new s n m).begun 0 n = false := by
      unfold St.begun
      rw [List.any_eq_false]
      intro i _
      rw [hm']; simp
    have hp : ((St.new s n m).parts 16 0 (St.new s n m).n).map itPart = [⟨0, n, s⟩] := by
      show ((St.new s n m).parts 16 0 n).map itPart = _
      rw [St.parts_not _ _ _ _ hb]
      have : (St.new s n m).part 0 n = s := St.part_all (St.new s n m)
      rw [this]
      rfl
    rw [hp]
    have hat : AtL (putL (Try.zeroCells117.setIfInBounds 0 (.int .i64 (m : Int))) 2 (TZ Try.zeroCells79 n s).toList) 2 (TZ Try.zeroCells79 n s).toList := putL_at _ _ _ (by rw [Array.length_toList, ts, Array.size_setIfInBounds, z1]; omega)
    refine ⟨tt.len, fun j v hv => hat j v ?_, hat 160 _ ?_, tt.ok⟩
    · have := tt.parts j v hv
      rw [Nat.zero_add] at this
      rw [Array.getElem?_toList]; exact this
    · have := tt.count
      rw [Nat.zero_add] at this
      rw [Array.getElem?_toList]; exact this
  · rw [hm']
    have hr0 : (St.new s n m).ratS i = fun _ => 0 := by unfold St.ratS; rw [hm']; rfl
    rw [hr0]
    intro j v hv
    have hj : j < 10 := (List.getElem?_eq_some_iff.1 hv).1
    have hv2 : (CellsR false 0 fun _ => 0).toList[j]? = some v := hv
    rw [putL_out _ _ _ _ (.inr (by rw [Array.length_toList, ts]; omega)), Array.getElem?_setIfInBounds, if_neg (by omega)]
    rw [← zero_rat i hi, Array.getElem?_toList, Array.getElem?_extract, if_pos (by omega)] at hv2
    exact hv2
  · show (putL _ _ _)[323]? = _
    rw [putL_out _ _ _ _ (.inr (by rw [Array.length_toList, ts]; omega)), Array.getElem?_setIfInBounds, if_neg (by omega)]; exact z3
end Go.Proofs.Ytcboagjfajdpeaa

/- Dump. -/
namespace Go.Proofs.Ytcboagjfajdpeaa
open Go.RowKit
set_option linter.unusedVariables false
set_option linter.unusedSimpArgs false

theorem index_rat (RA : Array Value) (h : RA.size = 160) (i : Nat) (hi : i < 16) : ∀ w, (Instr.index 110 (.agg RA) (.int .i64 i)).run Try.prog w = .ok (.agg (RA.extract (i * 10) (i * 10 + 10))) w := fun w => by
  have h0 : (0 : Int) ≤ i := by omega
  have h1 : (i : Int) < 16 := by omega
  have hs : (sizeOf 85).run Try.prog w = .ok 10 w := by kernel_rfl
  have ha : (isAgg 85).run Try.prog w = .ok true w := by kernel_rfl
  simp [Instr.index, part, asIntOf, run_underlying Try.underlying110, h0, h1, hs, ha]
  intro hc
  omega
/-- the nodes of a list of parts, as items -/
theorem map_node (st : St) (k : Nat) : ∀ f t x, x ∈ st.parts k f t → x = ⟨0, x.f, x.t, 0, x.s⟩ := by
  induction k with
  | zero =>
    intro f t x hx
    unfold St.parts at hx
    split at hx
    · cases hx
    · simp at hx; rw [hx]
  | succ k ih =>
    intro f t x hx
    rw [St.parts] at hx
    split at hx
    · split at hx
      · cases hx
      · rcases List.mem_append.1 hx with h | h
        · exact ih _ _ x h
        · exact ih _ _ x h
    · simp at hx; rw [hx]
/-- the ratchets' cells in a row -/
def ratCells (st : St) : Nat → List Value
  | 0 => []
  | i + 1 => ratCells st i ++ (CellsR (st.m i).begun (st.m i).next (st.ratS i)).toList
theorem ratCells_len (st : St) (n : Nat) : (ratCells st n).length = n * 10 := by
  induction n with
  | zero => rfl
  | succ n ih => rw [ratCells, List.length_append, ih]; show n * 10 + 10 = _; omega
theorem ratCells_at (st : St) (cs : Array Value) (o : Nat) (n : Nat) (h : ∀ i, i < n → RatAt cs (o + i * 10) (st.m i).begun (st.m i).next (st.ratS i)) : AtL cs o (ratCells st n) := by
  induction n with
  | zero => intro j v hv; simp [ratCells] at hv
  | succ n ih =>
    rw [ratCells]
    refine AtL.append.2 ⟨ih fun i hi => h i (by omega), ?_⟩
    rw [ratCells_len]
    exact h n (by omega)
theorem ratCells_get (st : St) (n i : Nat) (hi : i < n) : ((ratCells st n).toArray.extract (i * 10) (i * 10 + 10)) = CellsR (st.m i).begun (st.m i).next (st.ratS i) := by
  induction n with
  | zero => omega
  | succ n ih =>
    have hl := ratCells_len st n
    by_cases hn : i < n
    · rw [← ih hn]
      apply Array.ext_getElem?
      intro j
      simp only [Array.getElem?_extract, List.getElem?_toArray, List.size_toArray]
      rw [ratCells_len, ratCells_len]
      by_cases hj : j < 10
      · rw [if_pos (by omega), if_pos (by omega), ratCells, List.getElem?_append_left (by omega)]
      · rw [if_neg (by omega), if_neg (by omega)]
    · obtain rfl : i = n := by omega
      apply Array.ext_getElem?
      intro j
      simp only [Array.getElem?_extract, List.getElem?_toArray, List.size_toArray]
      rw [ratCells_len]
      by_cases hj : j < 10
      · rw [if_pos (by omega), ratCells, List.getElem?_append_right (by omega), hl, show i * 10 + j - i * 10 = j by omega, Array.getElem?_toList]
      · rw [if_neg (by omega), List.getElem?_eq_none (by show 10 ≤ j; omega)]
abbrev itemC (k f t g : Int) (s : Nat → Int) : Array Value := #[.int .i64 k, .int .i64 f, .int .i64 t, .int .i64 g, .int .u8 (s 0), .int .u8 (s 1), .int .u8 (s 2), .int .u8 (s 3), .int .u8 (s 4), .int .u8 (s 5), .int .u8 (s 6), .int .u8 (s 7)]
theorem itemC_eq (x : It) : x.cells.toArray = itemC x.kind x.f x.t x.g x.s := rfl
set_option maxHeartbeats 4000000 in
set_option maxRecDepth 20000 in
theorem gdump {b wk : Nat} {cs : Array Value} {st : St} (ok : st.Ok) (hg : GrpAt cs st wk) (hk : GrpOk st wk) (w : World) (h : Home (some b) b 117 cs w) :
    Calls Try.prog 24 #[.pointer (some ⟨b, 0, none⟩)] w fun e w' => ∃ v, e = .returned v ∧ Below w.heap.size w w' ∧ Its w' w.heap.size v (st.parts 16 0 st.n ++ st.heads 16) := by
  obtain ⟨L, hL⟩ : ∃ L, st.parts 16 0 st.n = L := ⟨_, rfl⟩
  have hnode : ∀ x ∈ L, x = ⟨0, x.f, x.t, 0, x.s⟩ := fun x hx => map_node st 16 0 st.n x (by rw [hL]; exact hx)
  have hT := hg.tree
  rw [hL] at hT ⊢
  have hll : L.length ≤ 16 := by have := hT.len; rwa [List.length_map] at this
  have HKP : Hid (Calls Try.prog 55 #[.pointer (some ⟨b, 2, none⟩)] w fun e w' => e = .returned (.slice (some ⟨b, 2, none⟩) L.length 16) ∧ Below w.heap.size w w') := by
    refine kept_any b 2 L.length hll w ?_
    rw [h.cells.1]
    have := hT.count
    rw [List.length_map] at this
    exact this
  have HPC : Hid (w.rangeAt b 2 (pcells (L.map itPart))) := h.range hT.parts
  have hrat : AtL cs 163 (ratCells st 16) := ratCells_at st cs 163 16 hg.rat
  have HRC : Hid (w.rangeAt b 163 (ratCells st 16)) := h.range hrat
  have hbw := h.lt
  have HNI : Hid (∀ (f t : Nat) (s : Nat → Int) W, Calls Try.prog 56 #[AggP f t s] W fun e w' => e = .returned (.agg (It.cells ⟨0, f, t, 0, s⟩).toArray) ∧ Below W.heap.size W w') := nodeItem_any
  clear h hg hk hT hrat
  have HND : Hid (∀ x ∈ L, x = ⟨0, x.f, x.t, 0, x.s⟩) := hnode
  have HLL : Hid (L.length ≤ 16) := hll
  clear hnode hL hll
  go_enter Try.func24, Try.ntmps24
  go_wp2_with fail
  refine HKP.out.mono ?_
  rintro e w1 ⟨rfl, b1⟩
  have HB1 : Hid (Below w.heap.size w w1) := b1
  clear b1 HKP
  go_wp2_with fail
  go_loopg [3, 13] L.length (fun k v3 v13 wr => ∃ i : Nat, v13 = .int .i64 i ∧ i + k = L.length ∧ Hid (Below w.heap.size w wr ∧ Its wr w.heap.size v3 (L.take i)))
  case atStart => exact ⟨0, rfl, by omega, HB1.out, Its.nil _ _⟩
  case round =>
    obtain ⟨i, rfl, hik, HI⟩ := hrel
    have hll := HLL.out
    by_cases hlt : i < L.length
    · have hlt' : (i : Int) < (L.length : Int) := by omega
      obtain ⟨hbel, hits⟩ := HI.out
      have hx := HND.out L[i] (List.getElem_mem hlt)
      have HR1 : Hid (wr.rangeAt b (2 + i * 10) (CellsP L[i].f L[i].t L[i].s).toList) := by
        have := range_part (w := wr) (b := b) (o := 2) (L := L.map itPart) (fun j v hv => by rw [hbel.cell (p := ⟨b, 2 + j, none⟩) hbw]; exact HPC.out j v hv) i (by rw [List.length_map]; exact hlt)
        rw [List.getElem_map] at this
        exact this
      obtain ⟨X, hX⟩ : ∃ X, L[i] = X := ⟨_, rfl⟩
      rw [hX] at HR1 hx
      have htk : L.take (i + 1) = L.take i ++ [X] := by rw [List.take_succ_eq_append_getElem hlt, hX]
      have HTK : Hid (L.take (i + 1) = L.take i ++ [X]) := htk
      have HX : Hid (X = ⟨0, X.f, X.t, 0, X.s⟩) := hx
      have hlen : (L.take i).length + 1 ≤ 1000 := by rw [List.length_take]; omega
      have z1 : w.heap.size ≤ wr.heap.size := hbel.size
      have hwi : wrap64 ((i : Int) + 1) = ((i + 1 : Nat) : Int) := by simp only [wrap64]; omega
      have HN1 : Hid (∀ W, Calls Try.prog 56 #[AggP X.f X.t X.s] W fun e w' => e = .returned (.agg X.cells.toArray) ∧ Below W.heap.size W w') := fun W => by
        have := HNI.out X.f X.t X.s W
        rw [← HX.out] at this
        exact this
      obtain ⟨f, hf⟩ : ∃ f : Int, (X.f : Int) = f := ⟨_, rfl⟩
      obtain ⟨g, hg⟩ : ∃ f : Int, (X.t : Int) = f := ⟨_, rfl⟩
      obtain ⟨x, hx2⟩ : ∃ x, X.s = x := ⟨_, rfl⟩
      have hxc : X.cells.toArray = itemC 0 f g 0 x := by rw [itemC_eq, ← hf, ← hg, ← hx2, show X.kind = 0 by rw [HX.out], show X.g = 0 by rw [HX.out]]; rfl
      have HXC : Hid (X.cells.toArray = itemC 0 f g 0 x) := hxc
      rw [hxc] at HN1
      rw [hf, hg, hx2] at HR1 HN1
      clear hxc
      have HI2 : Hid (Below w.heap.size w (wr.alloc (.cells (CellsP f g x) 76)) ∧ Its (wr.alloc (.cells (CellsP f g x) 76)) w.heap.size u3 (L.take i)) := ⟨hbel.alloc z1 _, hits.below ((Below.refl _ _).alloc (Nat.le_refl _) _)⟩
      clear hx hf hg hx2 hX htk hbel hits HI
      go_wp2_with (refine wpList_load_mid rfl 76 _ rfl b (2 + i * 10) rfl (CellsP f g x).toList _ HR1.out Try.underlying76 rfl (by kernel_rfl) ?_)
      refine (HN1.out _).mono ?_
      rintro e w2 ⟨rfl, b2⟩
      have hb2 : Below w.heap.size w w2 := HI2.out.1.trans (b2.mono (by simp; omega))
      have hi2 := HI2.out.2.below b2
      obtain ⟨v', w', hrun, hi3, hb3, hz3⟩ := its_append (w2.alloc (.cells X.cells.toArray 61)) w.heap.size w.heap.size u3 (.slice (some ⟨w2.heap.size, 0, none⟩) 1 1) (L.take i) [X] (hi2.below ((Below.refl _ _).alloc (Nat.le_refl _) _)) (Its.one w2 w.heap.size hb2.size X) (by simp; have := hb2.size; omega) (by simpa using hlen) 50
      have HRUN : Hid ((Builtin.append_ #[50, 50] 50 #[u3, .slice (some ⟨w2.heap.size, 0, none⟩) 1 1]).run Try.prog (w2.alloc (.cells X.cells.toArray 61)) = .ok v' w') := hrun
      have HREL : Hid (Below w.heap.size w w' ∧ Its w' w.heap.size v' (L.take (i + 1))) := by
        refine ⟨(hb2.alloc hb2.size _).trans hb3, ?_⟩
        rw [HTK.out]
        exact hi3
      rw [HXC.out] at HRUN
      clear b2 hb2 hi2 hrun hi3 hb3 hz3 HI2 HN1 HR1 HXC
      go_wp2_with (at_builtin; refine wpList_app rfl _ _ 50 50 rfl rfl _ _ _ _ rfl rfl HRUN.out ?_)
      go_roundg (gk - 1)
      case measure => omega
      case rel => exact ⟨i + 1, by go_num, by omega, HREL.out⟩
    · have hge : ¬ (i : Int) < (L.length : Int) := by omega
      obtain rfl : i = L.length := by omega
      have HI2 : Hid (Below w.heap.size w wr ∧ Its wr w.heap.size u3 L) := by
        have := HI.out
        rw [List.take_length] at this
        exact this
      have HR2 : Hid (wr.rangeAt b 163 (ratCells st 16)) := fun j v hv => by rw [HI.out.1.cell (p := ⟨b, 163 + j, none⟩) hbw]; exact HRC.out j v hv
      have hrl : (ratCells st 16).length = 160 := ratCells_len st 16
      obtain ⟨RL, hRL⟩ : ∃ RL, ratCells st 16 = RL := ⟨_, rfl⟩
      have HIX : Hid (∀ i : Nat, i < 16 → ∀ w, (Instr.index 110 (.agg RL.toArray) (.int .i64 i)).run Try.prog w = .ok (AggR (st.m i).begun (st.m i).next (st.ratS i)) w) := fun i hi w => by
        have := index_rat (ratCells st 16).toArray (by simpa using hrl) i hi w
        rw [ratCells_get st 16 i hi] at this
        rw [← hRL]
        exact this
      rw [hRL] at HR2 hrl
      have HHI : Hid (∀ (m g : Nat), m < 16 → ∀ (bg : Bool) (s : Nat → Int) W, Calls Try.prog 58 #[.int .i64 m, AggR bg g s] W fun e w' => e = .returned (.agg (It.cells ⟨1, m, m + 1, g, s⟩).toArray) ∧ Below W.heap.size W w') := headItem_any
      have hok : ∀ i, (st.m i).next ≤ 65536 := fun i => (ok.m i).1
      have HOK : Hid (∀ i, (st.m i).next ≤ 65536) := hok
      clear HI hlt hRL HRC HPC HND HNI hok
      go_wp2_with (refine wpList_load_mid rfl 110 _ rfl b 163 rfl RL _ HR2.out Try.underlying110 rfl (by rw [hrl]; kernel_rfl) ?_)
      clear HR2
      go_loopg [3, 27] 16 (fun k v3 v27 wq => ∃ i : Nat, v27 = .int .i64 i ∧ i + k = 16 ∧ Hid (Below w.heap.size w wq ∧ Its wq w.heap.size v3 (L ++ st.heads i)))
      case atStart => exact ⟨0, rfl, by omega, by have := HI2.out; show Below _ _ _ ∧ Its _ _ _ (L ++ []); rw [List.append_nil]; exact this⟩
      case round =>
        obtain ⟨i, rfl, hik, HJ⟩ := hrel
        by_cases hlt : i < 16
        · have hlt' : (i : Int) < 16 := by omega
          obtain ⟨hbel, hits⟩ := HJ.out
          have z1 : w.heap.size ≤ wr.heap.size := hbel.size
          have hix := HIX.out i hlt
          have hnx := HOK.out i
          have hlen : (L ++ st.heads i).length + 1 ≤ 1000 := by rw [List.length_append]; have := st.heads_len i; have := HLL.out; omega
          have hH : st.heads (i + 1) = st.heads i ++ (if (st.m i).begun && decide ((st.m i).next ≤ 65535) then [⟨1, i, i + 1, (st.m i).next, st.ratAt i (st.m i).next⟩] else []) := rfl
          have hgb : GenB ((st.m i).next : Int) = decide ((st.m i).next ≤ 65535) := by
            by_cases hc : (st.m i).next ≤ 65535
            · rw [(genB_iff _).2 ⟨by omega, by omega⟩]; simp [hc]
            · cases hg : GenB ((st.m i).next : Int) with
              | false => simp [hc]
              | true => have := ((genB_iff _).1 hg).2; omega
          have HHS : Hid (∀ W o, W.cell? ⟨o, 0, none⟩ = some (.bool (st.m i).begun) → W.cell? ⟨o, 1, none⟩ = some (.int .i64 (st.m i).next) → Calls Try.prog 57 #[.pointer (some ⟨o, 0, none⟩)] W fun e w' => e = .returned (.bool ((st.m i).begun && decide ((st.m i).next ≤ 65535))) ∧ w' = W) := fun W o h0 h1 => by
            rw [← hgb]
            exact hasSecret_any (st.m i).begun (st.m i).next o 0 W h0 h1
          obtain ⟨BB, hBB⟩ : ∃ BB, ((st.m i).begun && decide ((st.m i).next ≤ 65535)) = BB := ⟨_, rfl⟩
          have hrs : BB = true → st.ratS i = st.ratAt i (st.m i).next := fun hb => by unfold St.ratS; rw [hBB, hb]; rfl
          rw [hBB] at HHS hH
          have HHH : Hid (∀ W, Calls Try.prog 58 #[.int .i64 i, AggR (st.m i).begun (st.m i).next (st.ratS i)] W fun e w' => e = .returned (.agg (It.cells ⟨1, i, i + 1, (st.m i).next, st.ratS i⟩).toArray) ∧ Below W.heap.size W w') := fun W => HHI.out i (st.m i).next hlt (st.m i).begun (st.ratS i) W
          obtain ⟨X, hX⟩ : ∃ X : It, (⟨1, i, i + 1, (st.m i).next, st.ratS i⟩ : It) = X := ⟨_, rfl⟩
          have hXX : BB = true → st.heads (i + 1) = st.heads i ++ [X] := fun hb => by rw [hH, hb, if_pos rfl, ← hX, hrs hb]
          have hXN : BB = false → st.heads (i + 1) = st.heads i := fun hb => by rw [hH, hb]; simp
          have hxc : X.cells.toArray = itemC 1 i (i + 1 : Nat) (st.m i).next (st.ratS i) := by rw [← hX]; rfl
          have HXC : Hid (X.cells.toArray = itemC 1 i (i + 1 : Nat) (st.m i).next (st.ratS i)) := hxc
          rw [hX, hxc] at HHH
          have HXX : Hid ((BB = true → st.heads (i + 1) = st.heads i ++ [X]) ∧ (BB = false → st.heads (i + 1) = st.heads i)) := ⟨hXX, hXN⟩
          obtain ⟨bg, hbg⟩ : ∃ bg, (st.m i).begun = bg := ⟨_, rfl⟩
          obtain ⟨G, hG⟩ : ∃ G : Int, ((st.m i).next : Int) = G := ⟨_, rfl⟩
          obtain ⟨sx, hsx⟩ : ∃ sx, st.ratS i = sx := ⟨_, rfl⟩
          obtain ⟨I1, hI1⟩ : ∃ I1 : Int, ((i + 1 : Nat) : Int) = I1 := ⟨_, rfl⟩
          rw [hbg, hG, hsx] at hix HHH
          rw [hbg, hG] at HHS
          rw [hG, hsx, hI1] at HXC
          rw [hI1] at HHH
          have HI1 : Hid (((i + 1 : Nat) : Int) = I1) := hI1
          have HJ2 : Hid (Below w.heap.size w (wr.alloc (.cells (CellsR bg G sx) 85)) ∧ Its (wr.alloc (.cells (CellsR bg G sx) 85)) w.heap.size u3 (L ++ st.heads i)) := ⟨hbel.alloc z1 _, hits.below ((Below.refl _ _).alloc (Nat.le_refl _) _)⟩
          have q0 : (wr.alloc (.cells (CellsR bg G sx) 85)).cell? ⟨wr.heap.size, 0, none⟩ = some (.bool bg) := by rw [cell_of_row _ _ _ _ _ _ (MapKept.heap_alloc wr _).1]; rfl
          have q1 : (wr.alloc (.cells (CellsR bg G sx) 85)).cell? ⟨wr.heap.size, 1, none⟩ = some (.int .i64 G) := by rw [cell_of_row _ _ _ _ _ _ (MapKept.heap_alloc wr _).1]; rfl
          clear hbel hits HJ hrs hXX hXN hxc hX hbg hG hsx hI1 hgb hH hBB hnx
          go_wp2_with fail
          refine (HHS.out _ wr.heap.size q0 q1).mono ?_
          rintro e w2 ⟨rfl, rfl⟩
          clear q0 q1 HHS hix
          cases BB with
          | false =>
            have HREL : Hid (Below w.heap.size w (wr.alloc (.cells (CellsR bg G sx) 85)) ∧ Its (wr.alloc (.cells (CellsR bg G sx) 85)) w.heap.size u3 (L ++ st.heads (i + 1))) := by
              have := HJ2.out
              rw [← HXX.out.2 rfl] at this
              exact this
            clear HJ2 HXX HHH HXC
            go_wp2_with fail
            go_roundg (gk - 1)
            case measure => omega
            case rel => exact ⟨i + 1, by go_num, by omega, HREL.out⟩
          | true =>
            go_wp2_with fail
            refine (HHH.out _).mono ?_
            rintro e w3 ⟨rfl, b3⟩
            have hb2 : Below w.heap.size w w3 := HJ2.out.1.trans (b3.mono (by simp; omega))
            have hi2 := HJ2.out.2.below b3
            obtain ⟨v', w', hrun, hi3, hb3, hz3⟩ := its_append (w3.alloc (.cells X.cells.toArray 61)) w.heap.size w.heap.size u3 (.slice (some ⟨w3.heap.size, 0, none⟩) 1 1) (L ++ st.heads i) [X] (hi2.below ((Below.refl _ _).alloc (Nat.le_refl _) _)) (Its.one w3 w.heap.size hb2.size X) (by simp; have := hb2.size; omega) (by simpa using hlen) 50
            have HRUN : Hid ((Builtin.append_ #[50, 50] 50 #[u3, .slice (some ⟨w3.heap.size, 0, none⟩) 1 1]).run Try.prog (w3.alloc (.cells X.cells.toArray 61)) = .ok v' w') := hrun
            have HREL : Hid (Below w.heap.size w w' ∧ Its w' w.heap.size v' (L ++ st.heads (i + 1))) := by
              refine ⟨(hb2.alloc hb2.size _).trans hb3, ?_⟩
              rw [HXX.out.1 (by trivial), ← List.append_assoc]
              exact hi3
            rw [HXC.out] at HRUN
            clear b3 hb2 hi2 hrun hi3 hb3 hz3 HJ2 HHH HXC HXX
            go_wp2_with (at_builtin; refine wpList_app rfl _ _ 50 50 rfl rfl _ _ _ _ rfl rfl HRUN.out ?_)
            go_roundg (gk - 1)
            case measure => omega
            case rel => exact ⟨i + 1, by go_num, by omega, HREL.out⟩
        · have hge : ¬ (i : Int) < 16 := by omega
          obtain rfl : i = 16 := by omega
          go_wp2_with fail
          go_ret
          exact ⟨_, rfl, HJ.out.1, HJ.out.2⟩
end Go.Proofs.Ytcboagjfajdpeaa
