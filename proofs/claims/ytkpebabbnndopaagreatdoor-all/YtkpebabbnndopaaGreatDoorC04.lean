import Derived.Test.YtkpebabbnndopaaGreatDoorRows
import Derived.Test.YtkpebabbnndopaaGreatDoorC01
import Derived.WalkKit
import Derived.WalkSpells
import Derived.WalkLawsBesides
import Derived.Deep.WholeRow
import Derived.Test.YtkpebabbnndopaaGreatDoorC03
import Derived.Deep.MidRow
import Derived.Deep.LoopGhost
import Derived.Deep.QuietTactic
import Derived.BigQuiet
import Derived.Deep.DeepCutAuto
import Derived.BigRegion
/- What there is of a group, a member, a generation; the other's small calls; results of two parts. -/
namespace Go.Proofs.YtkpebabbnndopaaGreatDoor
open Go.RowKit

theorem two_to_16 (n : Int) (h0 : 2 ≤ n) (h1 : n ≤ 16) : n = 2 ∨ n = 3 ∨ n = 4 ∨ n = 5 ∨ n = 6 ∨ n = 7 ∨ n = 8 ∨ n = 9 ∨ n = 10 ∨ n = 11 ∨ n = 12 ∨ n = 13 ∨ n = 14 ∨ n = 15 ∨ n = 16 := by omega

set_option maxHeartbeats 1000000 in
theorem split_any (n : Int) (h0 : 2 ≤ n) (h1 : n ≤ 16) (w : World) :
    Calls Tryz.prog 110 #[.int .i64 n] w fun e w' => e = .returned (.int .i64 (SplitI n)) ∧ w' = w := by
  rcases two_to_16 n h0 h1 with rfl | rfl | rfl | rfl | rfl | rfl | rfl | rfl | rfl | rfl | rfl | rfl | rfl | rfl | rfl
  all_goals
    go_enter Tryz.func110, Tryz.ntmps110
    go_wp2
    refine wp_loop_rounds 5 ?_
    rw [rounds_succ]; go_wp2
    try (rw [rounds_succ]; go_wp2)
    try (rw [rounds_succ]; go_wp2)
    try (rw [rounds_succ]; go_wp2)
    go_ret
    exact ⟨rfl, rfl⟩

def FitB (n m : Int) : Bool := decide (1 ≤ n ∧ n ≤ 16 ∧ 0 ≤ m ∧ m < n)

theorem fitB_iff (n m : Int) : FitB n m = true ↔ 1 ≤ n ∧ n ≤ 16 ∧ 0 ≤ m ∧ m < n := by simp [FitB]

theorem fits_any (n m : Int) (w : World) :
    Calls Tryz.prog 64 #[.int .i64 n, .int .i64 m] w fun e w' => e = .returned (.bool (FitB n m)) ∧ w' = w := by
  by_cases h1 : 1 ≤ n
  · by_cases h2 : n ≤ 16
    · by_cases h3 : 0 ≤ m
      · go_enter Tryz.func64, Tryz.ntmps64
        go_wp2_with fail
        go_ret
        exact ⟨by simp [FitB, h1, h2, h3], rfl⟩
      · go_enter Tryz.func64, Tryz.ntmps64
        go_wp2_with fail
        go_ret
        exact ⟨by simp [FitB]; omega, rfl⟩
    · go_enter Tryz.func64, Tryz.ntmps64
      go_wp2_with fail
      go_ret
      exact ⟨by simp [FitB]; omega, rfl⟩
  · go_enter Tryz.func64, Tryz.ntmps64
    go_wp2_with fail
    go_ret
    exact ⟨by simp [FitB]; omega, rfl⟩

def GenB (g : Int) : Bool := decide (0 ≤ g ∧ g ≤ 65535)

theorem genB_iff (g : Int) : GenB g = true ↔ 0 ≤ g ∧ g ≤ 65535 := by simp [GenB]

/-- what Leaf answers -/
def LeafV (s : Nat → Int) (n m : Int) : Nat → Int := if FitB n m then LeafM s n m else fun _ => 0

def LeafE (n m : Int) : Int := if FitB n m then 0 else 1

theorem LeafV_bd (s : Nat → Int) (hs : ∀ i, 0 ≤ s i ∧ s i < 256) (n m : Int) : ∀ i, 0 ≤ LeafV s n m i ∧ LeafV s n m i < 256 := by
  unfold LeafV
  split
  · exact LeafB_bd _ _ _ _ _ hs
  · intro i; simp

/-- what Key answers -/
def KeyV (s : Nat → Int) (n m g : Int) : Nat → Int := if FitB n m && GenB g then KeyM s n m g.toNat else fun _ => 0

def KeyE (n m g : Int) : Int := if FitB n m then (if GenB g then 0 else 8) else 1

theorem KeyV_bd (s : Nat → Int) (n m g : Int) : ∀ i, 0 ≤ KeyV s n m g i ∧ KeyV s n m g i < 256 := by
  unfold KeyV
  split
  · exact DerB_bd _ _ _
  · intro i; simp

theorem results_row_tmp {P : Program} {fn : Func} {p u : Tmp} {ty : TypeId} (h : fn.results = #[.cell p ty, .tmp u]) (tmps : Array Value) (w : World) (g : Nat) (t : TypeId) (cs : Array Value) (fr : Nat × Nat) (d : TypeDesc) (v : Value)
    (hp : tmps.getD p undef = .pointer (some ⟨g, 0, none⟩)) (hv : tmps.getD u undef = v) (hg : w.heap[g]? = some (.cells cs t fr))
    (hu : P.underlying ty = some d) (hd : (match d with | .struct _ | .array _ _ => true | _ => false) = true) (hi : (P.info? ty).map (·.size) = some cs.size) :
    (results fn tmps).run P w = .ok (.tuple #[.agg cs, v]) w := by
  have hp' : tmps[p]?.getD undef = .pointer (some ⟨g, 0, none⟩) := by simpa using hp
  have hv' : tmps[u]?.getD undef = v := by simpa using hv
  simp [results, h, hp', hv', asAddr, run_loadVar_row w g t ty cs fr d hg hu hd hi]

theorem results_row_row {P : Program} {fn : Func} {p u : Tmp} {ty ty2 : TypeId} (h : fn.results = #[.cell p ty, .cell u ty2]) (tmps : Array Value) (w : World) (g g2 : Nat) (t t2 : TypeId) (cs cs2 : Array Value) (fr fr2 : Nat × Nat) (d d2 : TypeDesc)
    (hp : tmps.getD p undef = .pointer (some ⟨g, 0, none⟩)) (hv : tmps.getD u undef = .pointer (some ⟨g2, 0, none⟩)) (hg : w.heap[g]? = some (.cells cs t fr)) (hg2 : w.heap[g2]? = some (.cells cs2 t2 fr2))
    (hu : P.underlying ty = some d) (hd : (match d with | .struct _ | .array _ _ => true | _ => false) = true) (hi : (P.info? ty).map (·.size) = some cs.size)
    (hu2 : P.underlying ty2 = some d2) (hd2 : (match d2 with | .struct _ | .array _ _ => true | _ => false) = true) (hi2 : (P.info? ty2).map (·.size) = some cs2.size) :
    (results fn tmps).run P w = .ok (.tuple #[.agg cs, .agg cs2]) w := by
  have hp' : tmps[p]?.getD undef = .pointer (some ⟨g, 0, none⟩) := by simpa using hp
  have hv' : tmps[u]?.getD undef = .pointer (some ⟨g2, 0, none⟩) := by simpa using hv
  simp [results, h, hp', hv', asAddr, run_loadVar_row w g t ty cs fr d hg hu hd hi, run_loadVar_row w g2 t2 ty2 cs2 fr2 d2 hg2 hu2 hd2 hi2]
end Go.Proofs.YtkpebabbnndopaaGreatDoor

/- hasMember, isGeneration. -/
namespace Go.Proofs.YtkpebabbnndopaaGreatDoor
open Go.RowKit

theorem hasMember_any (n m : Int) (w : World) :
    Calls Tryz.prog 62 #[.int .i64 n, .int .i64 m] w fun e w' => e = .returned (.bool (FitB n m)) ∧ w' = w := by
  by_cases h1 : 1 ≤ n
  · by_cases h2 : n ≤ 16
    · by_cases h3 : 0 ≤ m
      · go_enter Tryz.func62, Tryz.ntmps62
        go_wp2_with fail
        go_ret
        exact ⟨by simp [FitB, h1, h2, h3], rfl⟩
      · go_enter Tryz.func62, Tryz.ntmps62
        go_wp2_with fail
        go_ret
        exact ⟨by simp [FitB]; omega, rfl⟩
    · go_enter Tryz.func62, Tryz.ntmps62
      go_wp2_with fail
      go_ret
      exact ⟨by simp [FitB]; omega, rfl⟩
  · go_enter Tryz.func62, Tryz.ntmps62
    go_wp2_with fail
    go_ret
    exact ⟨by simp [FitB]; omega, rfl⟩
theorem isGeneration_any (g : Int) (w : World) :
    Calls Tryz.prog 80 #[.int .i64 g] w fun e w' => e = .returned (.bool (GenB g)) ∧ w' = w := by
  by_cases h1 : 0 ≤ g
  · go_enter Tryz.func80, Tryz.ntmps80
    go_wp2_with fail
    go_ret
    exact ⟨by simp [GenB, h1], rfl⟩
  · go_enter Tryz.func80, Tryz.ntmps80
    go_wp2_with fail
    go_ret
    exact ⟨by simp [GenB]; omega, rfl⟩
end Go.Proofs.YtkpebabbnndopaaGreatDoor

/- powerBelow: by the table of math/bits. -/
namespace Go.Proofs.YtkpebabbnndopaaGreatDoor
open Go.RowKit

def LenI (x : Int) : Int := if x ≤ 1 then 1 else if x ≤ 3 then 2 else if x ≤ 7 then 3 else 4

set_option maxRecDepth 100000 in
set_option maxHeartbeats 4000000 in
theorem len64_any (x : Int) (h0 : 1 ≤ x) (h1 : x ≤ 15) (w : World) :
    Calls Tryz.prog 177 #[.int .u64 x] w fun e w' => e = .returned (.int .i64 (LenI x)) ∧ w' = w := by
  have e15 : x = 1 ∨ x = 2 ∨ x = 3 ∨ x = 4 ∨ x = 5 ∨ x = 6 ∨ x = 7 ∨ x = 8 ∨ x = 9 ∨ x = 10 ∨ x = 11 ∨ x = 12 ∨ x = 13 ∨ x = 14 ∨ x = 15 := by omega
  rcases e15 with rfl | rfl | rfl | rfl | rfl | rfl | rfl | rfl | rfl | rfl | rfl | rfl | rfl | rfl | rfl
  all_goals
    go_enter Tryz.func177, Tryz.ntmps177
    go_wp2
    go_ret
    exact ⟨by kernel_rfl, rfl⟩

theorem len_any (x : Int) (h0 : 1 ≤ x) (h1 : x ≤ 15) (w : World) :
    Calls Tryz.prog 157 #[.int .u64 x] w fun e w' => e = .returned (.int .i64 (LenI x)) ∧ w' = w := by
  go_enter Tryz.func157, Tryz.ntmps157
  go_wp2_with (go_at_call 177; refine (len64_any _ h0 h1 _).mono ?_; rintro e w' ⟨rfl, rfl⟩)
  go_ret
  exact ⟨rfl, rfl⟩

theorem powerBelow_any (n : Int) (h0 : 2 ≤ n) (h1 : n ≤ 16) (w : World) :
    Calls Tryz.prog 163 #[.int .i64 n] w fun e w' => e = .returned (.int .i64 (SplitI n)) ∧ w' = w := by
  have hsh : ∀ w, (Op.shift BinOp.shl IntKind.i64 1 IntKind.i64 (wrap64 (LenI (n - 1) - 1))).run Tryz.prog w = .ok (.int .i64 (SplitI n)) w := by
    intro w
    rcases two_to_16 n h0 h1 with rfl | rfl | rfl | rfl | rfl | rfl | rfl | rfl | rfl | rfl | rfl | rfl | rfl | rfl | rfl <;> kernel_rfl
  go_enter Tryz.func163, Tryz.ntmps163
  go_wp2_with (go_at_call 157; refine (len_any _ (by omega) (by omega) _).mono ?_; rintro e w' ⟨rfl, rfl⟩)
  go_ret
  exact ⟨rfl, rfl⟩
end Go.Proofs.YtkpebabbnndopaaGreatDoor

/- The small methods of a part of the tree; wholeTree. -/
namespace Go.Proofs.YtkpebabbnndopaaGreatDoor
open Go.RowKit

theorem size_any (f t : Int) (s : Nat → Int) (hf : 0 ≤ f) (ht : t ≤ 16) (hft : f ≤ t) (w : World) :
    Calls Tryz.prog 106 #[AggP f t s] w fun e w' => e = .returned (.int .i64 (t - f)) ∧ w' = w.alloc (.cells (CellsP f t s) 99) := by
  go_enter Tryz.func106, Tryz.ntmps106
  go_wp2_with fail
  go_ret
  exact ⟨rfl, rfl⟩
theorem has_any (f t : Int) (s : Nat → Int) (m : Int) (w : World) :
    Calls Tryz.prog 108 #[AggP f t s, .int .i64 m] w fun e w' => e = .returned (.bool (decide (f ≤ m ∧ m < t))) ∧ w' = w.alloc (.cells (CellsP f t s) 99) := by
  by_cases h : f ≤ m
  · go_enter Tryz.func108, Tryz.ntmps108
    go_wp2_with fail
    go_ret
    exact ⟨by simp [h], rfl⟩
  · go_enter Tryz.func108, Tryz.ntmps108
    go_wp2_with fail
    go_ret
    exact ⟨by simp; omega, rfl⟩
/-- the closure that find hands on -/
theorem find1_any (f t : Int) (s : Nat → Int) (m : Int) (mb : Nat) (w : World) (h : w.cell? ⟨mb, 0, none⟩ = some (.int .i64 m)) :
    Calls Tryz.prog 139 #[AggP f t s, .pointer (some ⟨mb, 0, none⟩)] w fun e w' => e = .returned (.bool (decide (f ≤ m ∧ m < t))) ∧ Below w.heap.size w w' := by
  have HH : Hid (∀ W, Calls Tryz.prog 108 #[AggP f t s, .int .i64 m] W fun e w' => e = .returned (.bool (decide (f ≤ m ∧ m < t))) ∧ w' = W.alloc (.cells (CellsP f t s) 99)) := fun W => has_any f t s m W
  have hb := block_lt_of_cell h
  have h' : (w.alloc (.cells (CellsP f t s) 99)).cell? ⟨mb, 0, none⟩ = some (.int .i64 m) := by rw [← h]; exact ((Below.refl _ w).alloc (Nat.le_refl _) _).cell (p := ⟨mb, 0, none⟩) hb
  obtain ⟨B, hB⟩ : ∃ B, decide (f ≤ m ∧ m < t) = B := ⟨_, rfl⟩
  rw [hB] at HH ⊢
  clear hB h
  go_enter Tryz.func139, Tryz.ntmps139
  go_wp2_with (go_at_call 108; refine (HH.out _).mono ?_; rintro e w' ⟨rfl, rfl⟩)
  go_ret
  exact ⟨rfl, ((Below.refl _ w).alloc (Nat.le_refl _) _).alloc (by simp) _⟩
/-- a new tree's cells -/
def TZ1 (Z : Array Value) : Array Value := Z.setIfInBounds 160 (.int .i64 1)
def TZ (Z : Array Value) (n : Int) (s : Nat → Int) : Array Value := putL (TZ1 Z) 0 (CellsP 0 n s).toList
theorem TC1_size : (TZ1 Tryz.zeroCells102).size = 161 := by kernel_rfl
theorem TC1_one : (TZ1 Tryz.zeroCells102).all (·.oneCell') = true := by kernel_rfl
theorem TC_size (n : Int) (s : Nat → Int) : (TZ Tryz.zeroCells102 n s).size = 161 := by unfold TZ; rw [putL_size, TC1_size]
theorem all_one_put : ∀ (l : List Value) (cs : Array Value) (o : Nat), cs.all (·.oneCell') = true → (∀ v ∈ l, v.oneCell' = true) → (putL cs o l).all (·.oneCell') = true
  | [], _, _, h, _ => h
  | v :: r, cs, o, h, hl => all_one_put r _ _ (by
      rw [Array.all_eq_true_iff_forall_mem] at h ⊢
      intro x hx
      rcases Array.mem_or_eq_of_mem_setIfInBounds hx with h1 | h1
      · exact h x h1
      · rw [h1]; exact hl v List.mem_cons_self) (fun x hx => hl x (List.mem_cons_of_mem _ hx))
theorem partCells_one (f t : Int) (s : Nat → Int) : ∀ v ∈ (CellsP f t s).toList, v.oneCell' = true := by
  intro v hv
  simp at hv
  rcases hv with rfl | rfl | rfl | rfl | rfl | rfl | rfl | rfl | rfl | rfl <;> rfl
theorem TC_one (n : Int) (s : Nat → Int) : (TZ Tryz.zeroCells102 n s).all (·.oneCell') = true := all_one_put _ _ _ TC1_one (partCells_one _ _ _)
theorem TC_tree (n : Nat) (hn : n ≤ 16) (s : Nat → Int) (hs : ∀ i, 0 ≤ s i ∧ s i < 256) : TreeAt (TZ Tryz.zeroCells102 n s) 0 [⟨0, n, s⟩] := by
  refine ⟨by simp, ?_, ?_, ?_⟩
  · have := putL_at (CellsP 0 n s).toList (TZ1 Tryz.zeroCells102) 0 (by rw [TC1_size]; show 0 + 10 ≤ 161; omega)
    exact this
  · unfold TZ
    rw [putL_out _ _ _ _ (.inr (by show 0 + 10 ≤ 0 + 160; omega))]
    kernel_rfl
  · intro p hp
    simp at hp
    subst hp
    exact ⟨Nat.zero_le _, hn, hs⟩
set_option maxHeartbeats 4000000 in
set_option maxRecDepth 50000 in
theorem wholeTree_any (s : Nat → Int) (n : Int) (w : World) :
    Calls Tryz.prog 63 #[Agg8 s, .int .i64 n] w fun e w' => e = .returned (.agg (TZ Tryz.zeroCells102 n s)) ∧ Below w.heap.size w w' := by
  obtain ⟨w0, hw0⟩ : ∃ w0, (((w.alloc (.cells (Cells8 s) 51)).alloc (.cells Tryz.zeroCells102 102)).alloc (.cells Tryz.zeroCells102 102)) = w0 := ⟨_, rfl⟩
  have a0 : w0.heap[w.heap.size]? = some (.cells (Cells8 s) 51 (0, 0)) := by rw [← hw0, Below.heap_alloc _ _ _ (by simp; omega), Below.heap_alloc _ _ _ (by simp), (MapKept.heap_alloc _ _).1]
  have a1 : w0.heap[w.heap.size + 1]? = some (.cells Tryz.zeroCells102 102 (0, 0)) := by
    rw [← hw0, Below.heap_alloc _ _ _ (by simp)]
    have e := (MapKept.heap_alloc (w.alloc (.cells (Cells8 s) 51)) (.cells Tryz.zeroCells102 102)).1
    simp only [World.size_alloc] at e
    exact e
  have a2 : w0.heap[w.heap.size + 1 + 1]? = some (.cells Tryz.zeroCells102 102 (0, 0)) := by
    rw [← hw0]
    have e := (MapKept.heap_alloc ((w.alloc (.cells (Cells8 s) 51)).alloc (.cells Tryz.zeroCells102 102)) (.cells Tryz.zeroCells102 102)).1
    simp only [World.size_alloc] at e
    exact e
  have b0 : Below w.heap.size w w0 := by rw [← hw0]; exact (((Below.refl _ w).alloc (Nat.le_refl _) _).alloc (by simp) _).alloc (by simp; omega) _
  obtain ⟨w1, hw1⟩ : ∃ w1, w0.setRow (w.heap.size + 1 + 1) (TZ1 Tryz.zeroCells102) = w1 := ⟨_, rfl⟩
  have c0 : w1.heap[w.heap.size]? = some (.cells (Cells8 s) 51 (0, 0)) := by rw [← hw1, setRow_other _ _ _ _ (by omega), a0]
  have c1 : w1.heap[w.heap.size + 1]? = some (.cells Tryz.zeroCells102 102 (0, 0)) := by rw [← hw1, setRow_other _ _ _ _ (by omega), a1]
  have c2 : w1.heap[w.heap.size + 1 + 1]? = some (.cells (TZ1 Tryz.zeroCells102) 102 (0, 0)) := by rw [← hw1]; exact setRow_heap _ _ _ _ _ _ a2
  have b1 : Below w.heap.size w w1 := by rw [← hw1]; exact below_setRow b0 (by omega) _
  obtain ⟨w2, hw2⟩ : ∃ w2, w1.setCells (w.heap.size + 1 + 1) 0 (CellsP 0 n s).toList = w2 := ⟨_, rfl⟩
  have e2 := hw2
  rw [setCells_row _ w1 _ 0 (TZ1 Tryz.zeroCells102) _ c2] at e2
  have d1 : w2.heap[w.heap.size + 1]? = some (.cells Tryz.zeroCells102 102 (0, 0)) := by rw [← e2, setRow_other _ _ _ _ (by omega), c1]
  have d2 : w2.heap[w.heap.size + 1 + 1]? = some (.cells (TZ Tryz.zeroCells102 n s) 102 (0, 0)) := by rw [← e2]; exact setRow_heap _ _ _ _ _ _ c2
  have b2 : Below w.heap.size w w2 := by rw [← e2]; exact below_setRow b1 (by omega) _
  have t1 : w1.there (w.heap.size + 1 + 1) 0 10 := fun j hj => by
    rw [cell_of_row _ _ _ _ _ _ c2, Array.getElem?_eq_getElem (by rw [TC1_size]; omega)]
    exact ⟨rfl, frozen_of_row _ _ _ _ _ c2⟩
  have HW0 : Hid ((((w.alloc (.cells (Cells8 s) 51)).alloc (.cells Tryz.zeroCells102 102)).alloc (.cells Tryz.zeroCells102 102)) = w0) := hw0
  have HW1 : Hid (w0.setRow (w.heap.size + 1 + 1) (Tryz.zeroCells102.setIfInBounds 160 (.int .i64 1)) = w1) := hw1
  have HW2 : Hid (w1.setCells (w.heap.size + 1 + 1) 0 (CellsP 0 n s).toList = w2) := hw2
  clear hw0 hw1 hw2 e2 b0 b1
  go_enter Tryz.func63, Tryz.ntmps63
  go_wp2_with (first
    | (rw [HW0.out]; refine wpList_store_row rfl 102 _ _ rfl (w.heap.size + 1 + 1) (Tryz.zeroCells102.setIfInBounds 160 (.int .i64 1)) rfl rfl 102 Tryz.zeroCells102 a2 (by kernel_rfl) rfl TC1_one ?_; rw [HW1.out])
    | refine wpList_load_row rfl 51 _ rfl w.heap.size rfl 51 (Cells8 s) (0, 0) _ c0 Tryz.underlying51 rfl (by kernel_rfl) ?_
    | (refine wpList_store_mid rfl 99 _ _ rfl (w.heap.size + 1 + 1) 0 (CellsP 0 n s) rfl rfl t1 (by kernel_rfl) (by simp [Value.oneCell']) ?_; rw [HW2.out])
    | refine wpList_load_row rfl 102 _ rfl (w.heap.size + 1 + 1) rfl 102 (TZ Tryz.zeroCells102 n s) (0, 0) _ d2 Tryz.underlying102 rfl (by kernel_rfl) ?_
    | refine wpList_store_row rfl 102 _ _ rfl (w.heap.size + 1) (TZ Tryz.zeroCells102 n s) rfl rfl 102 Tryz.zeroCells102 d1 (by kernel_rfl) (by rw [TC_size]; kernel_rfl) (TC_one n s) ?_)
  exact bodyPost_ret (v := .agg (TZ Tryz.zeroCells102 n s)) (results_cell_row rfl _ _ (w.heap.size + 1) 102 (TZ Tryz.zeroCells102 n s) (0, 0) _ rfl (setRow_heap _ _ _ _ _ _ d1) Tryz.underlying102 rfl (by rw [TC_size]; kernel_rfl)) rfl ⟨rfl, below_setRow b2 (by omega) _⟩
end Go.Proofs.YtkpebabbnndopaaGreatDoor

/- kept, find. -/
namespace Go.Proofs.YtkpebabbnndopaaGreatDoor
open Go.RowKit
set_option linter.unusedVariables false

theorem below_drewQ {B : Nat} {a b : World} (h : Below B a b) (n : Nat) : Below B a (b.drewN n) := by
  induction n with
  | zero => exact h
  | succ n ih => exact ih.drew
theorem kept_any (b o n : Nat) (hn : n ≤ 16) (w : World) (h : w.cell? ⟨b, o + 160, none⟩ = some (.int .i64 n)) :
    Calls Tryz.prog 51 #[.pointer (some ⟨b, o, none⟩)] w fun e w' => e = .returned (.slice (some ⟨b, o, none⟩) n 16) ∧ Below w.heap.size w w' := by
  have h1 : (n : Int) ≤ 16 := by omega
  have h0 : (0 : Int) ≤ n := by omega
  have hsl : ∀ W, (Instr.sliceAt 100 (.pointer (some ⟨b, o, none⟩)) none (some (.int .i64 n)) none).run Tryz.prog W = .ok (.slice (some ⟨b, o, none⟩) n 16) W := fun W => by
    simp [go_sem, h0, h1]
  go_enter Tryz.func51, Tryz.ntmps51
  go_wp2_with fail
  go_region
  all_goals
    go_wp2_with fail
    go_ret
    exact ⟨rfl, (Below.refl _ _).drew⟩
theorem range_part {w : World} {b o : Nat} {L : List PartD} (h : w.rangeAt b o (pcells L)) (i : Nat) (hi : i < L.length) : w.rangeAt b (o + i * 10) (CellsP L[i].f L[i].t L[i].s).toList := by
  have e : L = L.take i ++ L[i] :: L.drop (i + 1) := by rw [List.getElem_cons_drop, List.take_append_drop]
  intro j v hv
  have hj : j < 10 := (List.getElem?_eq_some_iff.1 hv).1
  have := h (i * 10 + j) v (by
    rw [e, pcells_append, pcells_cons]
    have hl : (pcells (L.take i)).length = i * 10 := by rw [pcells_len, List.length_take]; omega
    rw [List.getElem?_append_right (by omega), hl, show i * 10 + j - i * 10 = j by omega, List.getElem?_append_left (by rw [PartD.cells_len]; exact hj)]
    exact hv)
  rwa [← Nat.add_assoc] at this
set_option maxHeartbeats 2000000 in
theorem indexFunc_any (b o : Nat) (L : List PartD) (hL : L.length ≤ 16) (m : Nat) (mb : Nat) (k : Nat) (hk : k < L.length) (hkm : L[k].f ≤ m ∧ m < L[k].t) (hbef : ∀ i (hi : i < k), ¬ (L[i].f ≤ m ∧ m < L[i].t)) (w : World) (hr : w.rangeAt b o (pcells L)) (hb : b < w.heap.size) (hm : w.cell? ⟨mb, 0, none⟩ = some (.int .i64 m)) (hmb : mb < w.heap.size) :
    Calls Tryz.prog 138 #[.slice (some ⟨b, o, none⟩) L.length 16, .func (.func 139) #[] #[.pointer (some ⟨mb, 0, none⟩)]] w fun e w' => e = .returned (.int .i64 k) ∧ Below w.heap.size w w' := by
  have HF : Hid (∀ (f t : Int) (s : Nat → Int) W, W.cell? ⟨mb, 0, none⟩ = some (.int .i64 m) → Calls Tryz.prog 139 #[AggP f t s, .pointer (some ⟨mb, 0, none⟩)] W fun e w' => e = .returned (.bool (decide (f ≤ m ∧ m < t))) ∧ Below W.heap.size W w') := fun f t s W hW => find1_any f t s m mb W hW
  have HR : Hid (w.rangeAt b o (pcells L)) := hr
  have HM : Hid (w.cell? ⟨mb, 0, none⟩ = some (.int .i64 m)) := hm
  have HK : Hid (L[k].f ≤ m ∧ m < L[k].t) := hkm
  have HB : Hid (∀ i (hi : i < k), ¬ (L[i].f ≤ m ∧ m < L[i].t)) := hbef
  clear hr hm hkm hbef
  go_enter Tryz.func138, Tryz.ntmps138
  go_wp2_with fail
  go_loopg [8] k (fun j i wr => ∃ i' : Nat, i = .int .i64 i' ∧ i' + j = k ∧ Below w.heap.size w wr)
  case atStart => exact ⟨0, rfl, by omega, Below.refl _ _⟩
  case round =>
    obtain ⟨i, rfl, hik, hbel⟩ := hrel
    have hlt : (i : Int) < (L.length : Int) := by omega
    have hiL : i < L.length := by omega
    have HR1 : Hid (wr.rangeAt b (o + i * 10) (CellsP L[i].f L[i].t L[i].s).toList) := range_part (fun j v hv => by rw [hbel.cell (p := ⟨b, o + j, none⟩) hb]; exact HR.out j v hv) i hiL
    have HM1 : Hid (wr.cell? ⟨mb, 0, none⟩ = some (.int .i64 m)) := by show _ = _; rw [hbel.cell (p := ⟨mb, 0, none⟩) hmb]; exact HM.out
    have HD : Hid (decide ((L[i].f : Int) ≤ m ∧ (m : Int) < L[i].t) = decide (i = k)) := by
      show _ = _
      by_cases e : i = k
      · subst e
        have := HK.out
        simp; omega
      · have := HB.out i (by omega)
        simp [e]; omega
    obtain ⟨f, hf⟩ : ∃ f : Int, (L[i].f : Int) = f := ⟨_, rfl⟩
    obtain ⟨t, ht⟩ : ∃ t : Int, (L[i].t : Int) = t := ⟨_, rfl⟩
    obtain ⟨s, hs⟩ : ∃ s, L[i].s = s := ⟨_, rfl⟩
    rw [hf, ht, hs] at HR1
    rw [hf, ht] at HD
    clear hf ht hs
    by_cases hik2 : i = k
    · subst hik2
      have HD' : Hid (decide (f ≤ m ∧ (m : Int) < t) = true) := by show _ = _; rw [HD.out]; simp
      clear HD HB HK
      go_wp2_with (refine wpList_load_mid rfl 99 _ rfl b (o + i * 10) rfl (CellsP f t s).toList _ HR1.out Tryz.underlying99 rfl (by kernel_rfl) ?_)
      refine (HF.out f t s _ HM1.out).mono ?_
      rintro e w1 ⟨rfl, b1⟩
      rw [HD'.out]
      have b2 : Below w.heap.size w w1 := hbel.trans (b1.mono hbel.size)
      clear hbel b1 HR1 HM1
      go_wp2_with fail
      go_ret
      exact ⟨rfl, b2⟩
    · have HD' : Hid (decide (f ≤ m ∧ (m : Int) < t) = false) := by show _ = _; rw [HD.out]; simp [hik2]
      clear HD HB HK
      go_wp2_with (refine wpList_load_mid rfl 99 _ rfl b (o + i * 10) rfl (CellsP f t s).toList _ HR1.out Tryz.underlying99 rfl (by kernel_rfl) ?_)
      refine (HF.out f t s _ HM1.out).mono ?_
      rintro e w1 ⟨rfl, b1⟩
      rw [HD'.out]
      have b2 : Below w.heap.size w w1 := hbel.trans (b1.mono hbel.size)
      clear hbel b1 HR1 HM1
      go_wp2_with fail
      go_roundg (gk - 1)
      case measure => omega
      case rel => exact ⟨i + 1, by go_num, by omega, b2⟩
end Go.Proofs.YtkpebabbnndopaaGreatDoor

/- find, remove. -/
namespace Go.Proofs.YtkpebabbnndopaaGreatDoor
open Go.RowKit
set_option linter.unusedVariables false

theorem find_any (q : Option Nat) (b o : Nat) (t : TypeId) (cs : Array Value) (L : List PartD) (m k : Nat) (hk : k < L.length) (hkm : L[k].f ≤ m ∧ m < L[k].t) (hbef : ∀ i (hi : i < k), ¬ (L[i].f ≤ m ∧ m < L[i].t)) (w : World) (h : Home q b t cs w) (hT : TreeAt cs o L) :
    Calls Tryz.prog 105 #[.pointer (some ⟨b, o, none⟩), .int .i64 m] w fun e w' => e = .returned (.int .i64 k) ∧ Below w.heap.size w w' := by
  have HK : Hid (∀ W, W.cell? ⟨b, o + 160, none⟩ = some (.int .i64 L.length) → Calls Tryz.prog 51 #[.pointer (some ⟨b, o, none⟩)] W fun e w' => e = .returned (.slice (some ⟨b, o, none⟩) L.length 16) ∧ Below W.heap.size W w') := fun W hW => kept_any b o L.length hT.len W hW
  have HI : Hid (∀ mb W, W.rangeAt b o (pcells L) → b < W.heap.size → W.cell? ⟨mb, 0, none⟩ = some (.int .i64 m) → mb < W.heap.size → Calls Tryz.prog 138 #[.slice (some ⟨b, o, none⟩) L.length 16, .func (.func 139) #[] #[.pointer (some ⟨mb, 0, none⟩)]] W fun e w' => e = .returned (.int .i64 k) ∧ Below W.heap.size W w') :=
    fun mb W h1 h2 h3 h4 => indexFunc_any b o L hT.len m mb k hk hkm hbef W h1 h2 h3 h4
  have HH : Hid (Home q b t cs w) := h
  have HT : Hid (TreeAt cs o L) := hT
  clear h hT hkm hbef
  have hmf : ∀ (fn : Fn) (first cap : Array Value) (w : World), (Instr.makeFunc fn first cap).run Tryz.prog w = .ok (.func fn first cap) w := fun _ _ _ _ => rfl
  go_enter Tryz.func105, Tryz.ntmps105
  go_wp2_with fail
  have H1 : Hid (Home q b t cs (w.alloc (.cells #[.int .i64 m] 3))) := HH.out.below ((Below.refl _ _).alloc (Nat.le_refl _) _)
  refine (HK.out _ (by rw [H1.out.cells.1]; exact HT.out.count)).mono ?_
  rintro e w1 ⟨rfl, b1⟩
  have H2 : Hid (Home q b t cs w1) := H1.out.below b1
  have HM : Hid (w1.cell? ⟨w.heap.size, 0, none⟩ = some (.int .i64 m)) := by
    show _ = _
    rw [b1.cell (p := ⟨w.heap.size, 0, none⟩) (by simp)]
    rw [cell_of_row _ _ _ _ _ _ (MapKept.heap_alloc w (.cells #[.int .i64 m] 3)).1]
    rfl
  have d1 : Below w.heap.size w w1 := ((Below.refl _ w).alloc (Nat.le_refl _) _).trans (b1.mono (by simp))
  have z1 := b1.size
  simp only [World.size_alloc] at z1
  clear b1
  go_wp2_with fail
  refine (HI.out w.heap.size _ (H2.out.range HT.out.parts) H2.out.lt HM.out (by omega)).mono ?_
  rintro e w2 ⟨rfl, b2⟩
  have d2 := d1.trans (b2.mono (by omega))
  clear b2 d1
  go_wp2_with fail
  go_ret
  exact ⟨rfl, d2⟩

/-- what is left of the tree's row behind a copy of the parts from i on, laid over those from j on -/
theorem run_copy_parts (q : Option Nat) (b o : Nat) (t : TypeId) (cs : Array Value) (w : World) (h : Home q b t cs w) (i j : Nat) (M : List PartD) (hM : AtL cs (o + i * 10) (pcells M)) (hj : j + M.length ≤ 16) (hs : o + 160 ≤ cs.size) (dc sc : Nat) (ty : TypeId) :
    (Builtin.copy_ #[127, 127] ty #[.slice (some ⟨b, o + j * 10, none⟩) (16 - j) dc, .slice (some ⟨b, o + i * 10, none⟩) M.length sc]).run Tryz.prog w = .ok (goInt M.length) (w.setCells b (o + j * 10) (pcells M)) := by
  have hmin : Nat.min M.length (16 - j) = M.length := Nat.min_eq_left (by omega)
  have hr := run_copyW (P := Tryz.prog) w 127 127 ty 99 10 b (o + j * 10) (16 - j) dc ⟨b, o + i * 10, none⟩ M.length sc (pcells M) Tryz.underlying127 (by kernel_rfl) (by rw [hmin, pcells_len, Nat.mul_comm])
    (fun k v hv => by rw [Addr.add_mid, h.cells.1]; exact hM k v hv) (fun k hk => by
      rw [pcells_len] at hk
      rw [h.cells.1, Array.getElem?_eq_getElem (by omega)]; rfl) (fun k _ => h.cells.2 _) (pcells_one M)
  rw [hmin] at hr
  exact hr
def zpart : PartD := ⟨0, 0, fun _ => 0⟩
theorem zero_parts : ∀ n, n ≤ 16 → (Builtin.zeroCells (AggP 0 0 fun _ => 0).cells n).toList = pcells (List.replicate n zpart) := by
  have h : ∀ n : Fin 17, (Builtin.zeroCells (AggP 0 0 fun _ => 0).cells n.val).toList = pcells (List.replicate n.val zpart) := by
    intro n
    rcases n with ⟨n, hn⟩
    rcases n with _ | _ | _ | _ | _ | _ | _ | _ | _ | _ | _ | _ | _ | _ | _ | _ | _ | n <;> first | omega | kernel_rfl
  exact fun n hn => h ⟨n, by omega⟩
theorem zeroPart : ∀ w, (zeroValue 99).run Tryz.prog w = .ok (AggP 0 0 fun _ => 0) w := fun w => by kernel_rfl
theorem run_clear_parts (q : Option Nat) (b o : Nat) (t : TypeId) (cs : Array Value) (w : World) (h : Home q b t cs w) (j : Nat) (hj : j < 16) (hs : o + 160 ≤ cs.size) (dc : Nat) (ty : TypeId) :
    (Builtin.clear_ #[127] ty #[.slice (some ⟨b, o + j * 10, none⟩) (16 - j) dc]).run Tryz.prog w = .ok (.tuple #[]) (w.setCells b (o + j * 10) (pcells (List.replicate (16 - j) zpart))) := by
  have hr := run_clearW (P := Tryz.prog) w 127 99 ty (AggP 0 0 fun _ => 0) Tryz.underlying127 zeroPart b (o + j * 10) (16 - j) dc (by omega)
  rw [zero_parts _ (by omega)] at hr
  refine hr (pcells_one _) (fun k hk => ?_) (fun k _ => h.cells.2 _)
  rw [pcells_len, List.length_replicate] at hk
  rw [h.cells.1, Array.getElem?_eq_getElem (by omega)]; rfl
theorem slice_from (b o j : Nat) (hj : j < 16) : ∀ W, (Instr.sliceAt 100 (.pointer (some ⟨b, o, none⟩)) (some (.int .i64 j)) none none).run Tryz.prog W = .ok (.slice (some ⟨b, o + j * 10, none⟩) (16 - j) (16 - j)) W := fun W => by
  have h0 : (0 : Int) ≤ j := by omega
  have h1 : (j : Int) ≤ 16 := by omega
  have h2 : ¬ (16 = j) := by omega
  simp [go_sem, h0, h1, h2]
theorem slice_upto (b o j n : Nat) (hj : j ≤ n) (hn : n ≤ 16) : ∀ W, (Instr.sliceAt 100 (.pointer (some ⟨b, o, none⟩)) (some (.int .i64 j)) (some (.int .i64 n)) none).run Tryz.prog W = .ok (.slice (some (if 16 = j then ⟨b, o, none⟩ else ⟨b, o + j * 10, none⟩)) (n - j) (16 - j)) W := fun W => by
  have h0 : (0 : Int) ≤ j := by omega
  have h1 : (j : Int) ≤ n := by omega
  have h2 : (n : Int) ≤ 16 := by omega
  by_cases e : 16 = j
  · obtain rfl : j = 16 := e.symm
    obtain rfl : n = 16 := by omega
    simp [go_sem]
  · simp [go_sem, h0, h1, h2, e]

set_option maxHeartbeats 4000000 in
theorem remove_any (q : Option Nat) (b o : Nat) (t : TypeId) (cs : Array Value) (A B : List PartD) (p : PartD) (w : World) (h : Home q b t cs w) (hT : TreeAt cs o (A ++ p :: B)) (hf : q ≠ none → o + 161 ≤ ctrOff) :
    Calls Tryz.prog 109 #[.pointer (some ⟨b, o, none⟩), .int .i64 A.length] w fun e w' => e = .returned (.tuple #[]) ∧ ∃ cs', Upd q 0 b o 161 t cs w w' cs' ∧ TreeAt cs' o (A ++ B) := by
  have hlen := hT.len
  rw [List.length_append, List.length_cons] at hlen
  have hsz := hT.size
  obtain ⟨i, hi⟩ : ∃ i, A.length = i := ⟨_, rfl⟩
  obtain ⟨r, hr⟩ : ∃ r, B.length = r := ⟨_, rfl⟩
  have hcount : cs[o + 160]? = some (.int .i64 ((i + r + 1 : Nat) : Int)) := by
    rw [hT.count, List.length_append, List.length_cons, hi, hr]; rfl
  rw [hi, hr] at hlen
  have hB : AtL cs (o + (i + 1) * 10) (pcells B) := by
    have h1 := hT.parts
    rw [pcells_append, pcells_cons, ← List.append_assoc] at h1
    have h2 := (AtL.append.1 h1).2
    rw [List.length_append, pcells_len, PartD.cells_len, hi] at h2
    rwa [show o + (i + 1) * 10 = o + (10 * i + 10) by omega]
  have hA : AtL cs o (pcells A) := by
    have h1 := hT.parts
    rw [pcells_append] at h1
    exact (AtL.append.1 h1).1
  -- the copy
  obtain ⟨sa, hsa⟩ : ∃ sa : Addr, (if 16 = i + 1 then ⟨b, o, none⟩ else ⟨b, o + (i + 1) * 10, none⟩) = sa := ⟨_, rfl⟩
  have hc1 : ∀ dc sc ty, (Builtin.copy_ #[127, 127] ty #[.slice (some ⟨b, o + i * 10, none⟩) (16 - i) dc, .slice (some sa) r sc]).run Tryz.prog w.drew = .ok (goInt r) (w.drew.setCells b (o + i * 10) (pcells B)) := fun dc sc ty => by
    by_cases e : 16 = i + 1
    · obtain rfl : B = [] := List.eq_nil_of_length_eq_zero (by omega)
      have hk := run_copy_parts q b o t cs w.drew h.drew 0 i [] (fun j v hv => by simp [pcells] at hv) (by omega) (by omega) dc sc ty
      rw [if_pos e] at hsa
      rw [← hsa, ← hr]
      rw [show o + 0 * 10 = o by omega] at hk
      exact hk
    · have hk := run_copy_parts q b o t cs w.drew h.drew (i + 1) i B hB (by omega) (by omega) dc sc ty
      rw [hr] at hk
      rw [if_neg e] at hsa
      rw [← hsa]
      exact hk
  have hu1 : Upd q 0 b o 161 t cs w (w.drew.setCells b (o + i * 10) (pcells B)) (putL cs (o + i * 10) (pcells B)) :=
    ((Upd.refl h o 161).below (Below.refl _ _).drew).setCells hf _ _ (by omega) (by rw [pcells_len, hr]; omega) (pcells_all _)
  obtain ⟨cs1, hcs1⟩ : ∃ cs1, putL cs (o + i * 10) (pcells B) = cs1 := ⟨_, rfl⟩
  obtain ⟨w1, hw1⟩ : ∃ w1, w.drew.setCells b (o + i * 10) (pcells B) = w1 := ⟨_, rfl⟩
  have hT1 : AtL cs1 o (pcells (A ++ B)) := by
    rw [← hcs1, pcells_append]
    refine AtL.append.2 ⟨hA.putOther _ _ (.inr (by rw [pcells_len, hi]; omega)), ?_⟩
    rw [pcells_len, hi, show o + 10 * i = o + i * 10 by omega]
    exact putL_at _ _ _ (by rw [pcells_len, hr]; omega)
  have hcnt1 : cs1[o + 160]? = some (.int .i64 ((i + r + 1 : Nat) : Int)) := by
    rw [← hcs1, putL_out _ _ _ _ (.inr (by rw [pcells_len, hr]; omega)), hcount]
  rw [hcs1, hw1] at hu1
  rw [hw1] at hc1
  have hsz1 : cs1.size = cs.size := by rw [← hcs1, putL_size]
  clear hcs1 hw1
  -- the count
  obtain ⟨w2, hw2⟩ : ∃ w2, w1.setCell ⟨b, o + 160, none⟩ (.int .i64 ((i + r : Nat) : Int)) = w2 := ⟨_, rfl⟩
  have hu2 : Upd q 0 b o 161 t cs w w2 (cs1.setIfInBounds (o + 160) (.int .i64 ((i + r : Nat) : Int))) := by rw [← hw2]; exact hu1.setCell hf (o + 160) (by omega) (by omega) _
  obtain ⟨cs2, hcs2⟩ : ∃ cs2, cs1.setIfInBounds (o + 160) (.int .i64 ((i + r : Nat) : Int)) = cs2 := ⟨_, rfl⟩
  have hT2 : AtL cs2 o (pcells (A ++ B)) := fun j v hv => by
    have hj := (List.getElem?_eq_some_iff.1 hv).1
    rw [pcells_len, List.length_append, hi, hr] at hj
    rw [← hcs2, Array.getElem?_setIfInBounds, if_neg (by omega)]
    exact hT1 j v hv
  have hcnt2 : cs2[o + 160]? = some (.int .i64 ((i + r : Nat) : Int)) := by rw [← hcs2, Array.getElem?_setIfInBounds, if_pos rfl, if_pos (by omega)]
  have hsz2 : cs2.size = cs.size := by rw [← hcs2, Array.size_setIfInBounds, hsz1]
  rw [hcs2] at hu2
  clear hcs2
  -- what is cleared
  have hc3 := fun dc ty => run_clear_parts q b o t cs2 w2.drew hu2.home.drew (i + r) (by omega) (by omega) dc ty
  have hu3 : Upd q 0 b o 161 t cs w (w2.drew.setCells b (o + (i + r) * 10) (pcells (List.replicate (16 - (i + r)) zpart))) (putL cs2 (o + (i + r) * 10) (pcells (List.replicate (16 - (i + r)) zpart))) :=
    (hu2.below (Below.refl _ _).drew).setCells hf _ _ (by omega) (by rw [pcells_len, List.length_replicate]; omega) (pcells_all _)
  have hT3 : TreeAt (putL cs2 (o + (i + r) * 10) (pcells (List.replicate (16 - (i + r)) zpart))) o (A ++ B) := by
    refine ⟨by rw [List.length_append, hi, hr]; omega, hT2.putOther _ _ (.inr (by rw [pcells_len, List.length_append, hi, hr]; omega)), ?_, fun x hx => hT.ok x ?_⟩
    · rw [putL_out _ _ _ _ (.inr (by rw [pcells_len, List.length_replicate]; omega)), hcnt2, List.length_append, hi, hr]
    · rcases List.mem_append.1 hx with hx | hx
      · exact List.mem_append_left _ hx
      · exact List.mem_append_right _ (List.mem_cons_of_mem _ hx)
  obtain ⟨cs3, hcs3⟩ : ∃ cs3, putL cs2 (o + (i + r) * 10) (pcells (List.replicate (16 - (i + r)) zpart)) = cs3 := ⟨_, rfl⟩
  obtain ⟨w3, hw3⟩ : ∃ w3, w2.drew.setCells b (o + (i + r) * 10) (pcells (List.replicate (16 - (i + r)) zpart)) = w3 := ⟨_, rfl⟩
  rw [hcs3, hw3] at hu3
  rw [hcs3] at hT3
  rw [hw3] at hc3
  clear hcs3 hw3
  have HU : Hid (Upd q 0 b o 161 t cs w w3 cs3) := hu3
  have HT3 : Hid (TreeAt cs3 o (A ++ B)) := hT3
  have s1 := slice_from b o i (by omega)
  have s2 := slice_upto b o (i + 1) (i + r + 1) (by omega) (by omega)
  rw [hsa, show i + r + 1 - (i + 1) = r by omega] at s2
  have s3 := slice_from b o (i + r) (by omega)
  have k0 : w.cell? ⟨b, o + 160, none⟩ = some (.int .i64 ((i + r + 1 : Nat) : Int)) := by rw [h.cells.1, hcount]
  have k1 : w1.cell? ⟨b, o + 160, none⟩ = some (.int .i64 ((i + r + 1 : Nat) : Int)) := by rw [hu1.home.cells.1, hcnt1]
  have k1f := hu1.home.cells.2
  have k2 : w2.cell? ⟨b, o + 160, none⟩ = some (.int .i64 ((i + r : Nat) : Int)) := by rw [hu2.home.cells.1, hcnt2]
  have hw2' : w1.setCell ⟨b, o + 160, none⟩ (.int .i64 ((i + r : Nat) : Int)) = w2 := hw2
  rw [hi]
  obtain ⟨I, hI⟩ : ∃ I : Int, ((i : Nat) : Int) = I := ⟨_, rfl⟩
  obtain ⟨J, hJ⟩ : ∃ J : Int, ((i + 1 : Nat) : Int) = J := ⟨_, rfl⟩
  obtain ⟨C, hC⟩ : ∃ C : Int, ((i + r + 1 : Nat) : Int) = C := ⟨_, rfl⟩
  obtain ⟨D, hD⟩ : ∃ D : Int, ((i + r : Nat) : Int) = D := ⟨_, rfl⟩
  have a1 : IntKind.i64.wrap (I + 1) = J := by rw [IntKind.wrap_i64]; omega
  have a2 : wrap64 (I + 1) = J := by simp only [wrap64]; omega
  have a3 : IntKind.i64.wrap (C - 1) = D := by rw [IntKind.wrap_i64]; omega
  have a4 : wrap64 (C - 1) = D := by simp only [wrap64]; omega
  rw [hI] at s1 ⊢
  rw [hJ, hC] at s2
  rw [hD] at s3 k2 hw2'
  rw [hC] at k0 k1
  clear hI hJ hC hD
  clear hw2 hT hcount hB hA hu1 hT1 hcnt1 hu2 hT2 hcnt2 hu3 hT3 h hf hsz hsz1 hsz2 hlen hi hr hsa
  go_enter Tryz.func109, Tryz.ntmps109
  go_wp2_with fail
  go_region
  all_goals
    go_wp2_with fail
    go_region
    all_goals
      go_wp2_with fail
      go_end0
      exact ⟨rfl, cs3, HU.out, HT3.out⟩
end Go.Proofs.YtkpebabbnndopaaGreatDoor

/- The ratchet: ratchetOf. -/
namespace Go.Proofs.YtkpebabbnndopaaGreatDoor
open Go.RowKit

abbrev CellsR (bg : Bool) (g : Int) (s : Nat → Int) : Array Value := #[.bool bg, .int .i64 g, .int .u8 (s 0), .int .u8 (s 1), .int .u8 (s 2), .int .u8 (s 3), .int .u8 (s 4), .int .u8 (s 5), .int .u8 (s 6), .int .u8 (s 7)]
abbrev AggR (bg : Bool) (g : Int) (s : Nat → Int) : Value := .agg (CellsR bg g s)

theorem ratchetOf_any {F : FuncId} {pre : Array Value} {q : Option Nat} (dv : Drv F pre q) (s : Nat → Int) (hs : ∀ i, 0 ≤ s i ∧ s i < 256) (w : World) (hq : Has q w) :
    Calls Tryz.prog 81 #[Agg8 s, .func (.func F) pre #[]] w fun e w' => e = .returned (AggR true 0 (DerB s lRatchet 0)) ∧ Tick q 1 w w' := by
  have HD : Hid (∀ W, Has q W → Calls Tryz.prog F (pre ++ #[Agg8 s, .string ⟨#[114, 97, 116, 99, 104, 101, 116]⟩, .int .i64 0]) W fun e w' => e = .returned (Agg8 (DerB s lRatchet 0)) ∧ Tick q 1 W w') := fun W hW => dv.call s hs ⟨#[114, 97, 116, 99, 104, 101, 116]⟩ (by decide) 0 W hW
  obtain ⟨R, hR⟩ : ∃ R, DerB s lRatchet 0 = R := ⟨_, rfl⟩
  rw [hR] at HD ⊢
  clear hR
  have HQ : Hid (Has q w) := hq
  clear hq
  have hcf := dv.enter
  go_enter Tryz.func81, Tryz.ntmps81
  go_wp2_with fail
  refine (HD.out _ (HQ.out.tick (((Tick.refl q w).alloc _).alloc _))).mono ?_
  rintro e w1 ⟨rfl, b1⟩
  have z1 := b1.size
  simp at z1
  have c1 : w1.heap[w.heap.size + 1]? = some (.cells (CellsR false 0 fun _ => 0) 104 (0, 0)) := by
    rw [b1.block _ (by simp) (HQ.out.ne (by omega))]
    have e := (MapKept.heap_alloc (w.alloc (.cells (Cells8 s) 51)) (.cells (CellsR false 0 fun _ => 0) 104)).1
    simp only [World.size_alloc] at e
    exact e
  have d1 : Tick q 1 w w1 := by
    have := (((Tick.refl q w).alloc (.cells (Cells8 s) 51)).alloc (.cells (CellsR false 0 fun _ => 0) 104)).trans b1
    rwa [Nat.zero_add] at this
  clear b1
  go_wp2_with (refine wpList_store_row rfl 104 _ _ rfl (w.heap.size + 1) (CellsR true 0 R) rfl rfl 104 (CellsR false 0 fun _ => 0) c1 (by kernel_rfl) rfl (by simp [Value.oneCell']) ?_)
  exact bodyPost_ret (v := AggR true 0 R) (results_cell_row rfl _ _ (w.heap.size + 1) 104 (CellsR true 0 R) (0, 0) _ rfl (setRow_heap _ _ _ _ _ _ c1) Tryz.underlying104 rfl (by kernel_rfl)) rfl ⟨rfl, d1.setRow (by omega) _⟩
end Go.Proofs.YtkpebabbnndopaaGreatDoor
