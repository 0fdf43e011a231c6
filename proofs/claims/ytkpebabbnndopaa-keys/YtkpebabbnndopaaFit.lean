/- What there is of a group, a member, a generation; the other's small calls; results of two parts. -/
import Derived.Test.YtkpebabbnndopaaRows
import Derived.Test.YtkpebabbnndopaaPureK
import Derived.WalkKit
import Derived.WalkSpells
import Derived.WalkLawsBesides
import Derived.Deep.WholeRow
namespace Go.Proofs.Ytkpebabbnndopaa
open Go.RowKit

theorem two_to_16 (n : Int) (h0 : 2 ≤ n) (h1 : n ≤ 16) : n = 2 ∨ n = 3 ∨ n = 4 ∨ n = 5 ∨ n = 6 ∨ n = 7 ∨ n = 8 ∨ n = 9 ∨ n = 10 ∨ n = 11 ∨ n = 12 ∨ n = 13 ∨ n = 14 ∨ n = 15 ∨ n = 16 := by omega

set_option maxHeartbeats 1000000 in
theorem split_any (n : Int) (h0 : 2 ≤ n) (h1 : n ≤ 16) (w : World) :
    Calls Try.prog 42 #[.int .i64 n] w fun e w' => e = .returned (.int .i64 (SplitI n)) ∧ w' = w := by
  rcases two_to_16 n h0 h1 with rfl | rfl | rfl | rfl | rfl | rfl | rfl | rfl | rfl | rfl | rfl | rfl | rfl | rfl | rfl
  all_goals
    go_enter Try.func42, Try.ntmps42
    go_wp2
    refine wp_loop_rounds 5 ?_
    rw [rounds_succ]; go_wp2
    try (rw [rounds_succ]; go_wp2)
    try (rw [rounds_succ]; go_wp2)
    try (rw [rounds_succ]; go_wp2)
    go_ret
    exact ⟨rfl, rfl⟩

def FitB (n m : Int) : Bool := decide (1 ≤ n ∧ n ≤ 16 ∧ 0 ≤ m ∧ m < n)

theorem fitB_iff (n m : Int) : FitB n m = true ↔ 1 ≤ n ∧ n ≤ 16 ∧ 0 ≤ m ∧ m < n := by simp [FitB]

theorem fits_any (n m : Int) (w : World) :
    Calls Try.prog 27 #[.int .i64 n, .int .i64 m] w fun e w' => e = .returned (.bool (FitB n m)) ∧ w' = w := by
  by_cases h1 : 1 ≤ n
  · by_cases h2 : n ≤ 16
    · by_cases h3 : 0 ≤ m
      · go_enter Try.func27, Try.ntmps27
        go_wp2_with fail
        go_ret
        exact ⟨by simp [FitB, h1, h2, h3], rfl⟩
      · go_enter Try.func27, Try.ntmps27
        go_wp2_with fail
        go_ret
        exact ⟨by simp [FitB]; omega, rfl⟩
    · go_enter Try.func27, Try.ntmps27
      go_wp2_with fail
      go_ret
      exact ⟨by simp [FitB]; omega, rfl⟩
  · go_enter Try.func27, Try.ntmps27
    go_wp2_with fail
    go_ret
    exact ⟨by simp [FitB]; omega, rfl⟩

def GenB (g : Int) : Bool := decide (0 ≤ g ∧ g ≤ 65535)

theorem genB_iff (g : Int) : GenB g = true ↔ 0 ≤ g ∧ g ≤ 65535 := by simp [GenB]

/-- what Leaf answers -/
def LeafV (s : Nat → Int) (n m : Int) : Nat → Int := if FitB n m then LeafM s n m else fun _ => 0

def LeafE (n m : Int) : Int := if FitB n m then 0 else 1

theorem LeafV_bd (s : Nat → Int) (hs : ∀ i, 0 ≤ s i ∧ s i < 256) (n m : Int) : ∀ i, 0 ≤ LeafV s n m i ∧ LeafV s n m i < 256 := by
  unfold LeafV
  split
  · exact LeafB_bd _ _ _ _ _ hs
  · intro i; simp

/-- what Key answers -/
def KeyV (s : Nat → Int) (n m g : Int) : Nat → Int := if FitB n m && GenB g then KeyM s n m g.toNat else fun _ => 0

def KeyE (n m g : Int) : Int := if FitB n m then (if GenB g then 0 else 8) else 1

theorem KeyV_bd (s : Nat → Int) (n m g : Int) : ∀ i, 0 ≤ KeyV s n m g i ∧ KeyV s n m g i < 256 := by
  unfold KeyV
  split
  · exact DerB_bd _ _ _
  · intro i; simp

theorem results_row_tmp {P : Program} {fn : Func} {p u : Tmp} {ty : TypeId} (h : fn.results = #[.cell p ty, .tmp u]) (tmps : Array Value) (w : World) (g : Nat) (t : TypeId) (cs : Array Value) (fr : Nat × Nat) (d : TypeDesc) (v : Value)
    (hp : tmps.getD p undef = .pointer (some ⟨g, 0, none⟩)) (hv : tmps.getD u undef = v) (hg : w.heap[g]? = some (.cells cs t fr))
    (hu : P.underlying ty = some d) (hd : (match d with | .struct _ | .array _ _ => true | _ => false) = true) (hi : (P.info? ty).map (·.size) = some cs.size) :
    (results fn tmps).run P w = .ok (.tuple #[.agg cs, v]) w := by
  have hp' : tmps[p]?.getD undef = .pointer (some ⟨g, 0, none⟩) := by simpa using hp
  have hv' : tmps[u]?.getD undef = v := by simpa using hv
  simp [results, h, hp', hv', asAddr, run_loadVar_row w g t ty cs fr d hg hu hd hi]

theorem results_row_row {P : Program} {fn : Func} {p u : Tmp} {ty ty2 : TypeId} (h : fn.results = #[.cell p ty, .cell u ty2]) (tmps : Array Value) (w : World) (g g2 : Nat) (t t2 : TypeId) (cs cs2 : Array Value) (fr fr2 : Nat × Nat) (d d2 : TypeDesc)
    (hp : tmps.getD p undef = .pointer (some ⟨g, 0, none⟩)) (hv : tmps.getD u undef = .pointer (some ⟨g2, 0, none⟩)) (hg : w.heap[g]? = some (.cells cs t fr)) (hg2 : w.heap[g2]? = some (.cells cs2 t2 fr2))
    (hu : P.underlying ty = some d) (hd : (match d with | .struct _ | .array _ _ => true | _ => false) = true) (hi : (P.info? ty).map (·.size) = some cs.size)
    (hu2 : P.underlying ty2 = some d2) (hd2 : (match d2 with | .struct _ | .array _ _ => true | _ => false) = true) (hi2 : (P.info? ty2).map (·.size) = some cs2.size) :
    (results fn tmps).run P w = .ok (.tuple #[.agg cs, .agg cs2]) w := by
  have hp' : tmps[p]?.getD undef = .pointer (some ⟨g, 0, none⟩) := by simpa using hp
  have hv' : tmps[u]?.getD undef = .pointer (some ⟨g2, 0, none⟩) := by simpa using hv
  simp [results, h, hp', hv', asAddr, run_loadVar_row w g t ty cs fr d hg hu hd hi, run_loadVar_row w g2 t2 ty2 cs2 fr2 d2 hg2 hu2 hd2 hi2]
end Go.Proofs.Ytkpebabbnndopaa
