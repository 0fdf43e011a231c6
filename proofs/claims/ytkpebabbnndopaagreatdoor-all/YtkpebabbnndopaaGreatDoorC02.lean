import Derived.Test.YtkpebabbnndopaaGreatDoorProg
import Derived.Test.YtkpebabbnndopaaGreatDoorC01
import Derived.RangeFuncNested
import Derived.RangeFuncBound
import Derived.RangeFuncCalls
import Derived.RangeFuncLeaves
import Derived.RangeFuncBox
import Derived.Shelf.Abstract
import Derived.Shelf.RegionOpen
import Derived.WalkKit
import Derived.OwnWalkIn
import Derived.TacticsInMore
import Derived.LoopNIn
import Derived.LoopIn
import Derived.Maps.OwnIn
import Derived.Maps.AppendAt
import Derived.Sort.MapsRangeIn
import Derived.DeepKeys4
/- The places of the keys that were passed over, where there is none. -/
namespace Go.Proofs.YtkpebabbnndopaaGreatDoor
open Go.RowKit Go.Shelf Go.Maps
attribute [local go_sem] Oper.semAt_some
set_option linter.unusedVariables false
set_option linter.unusedSimpArgs false

abbrev PlI := Int × Int
abbrev encP (x : PlI) : Value := .agg #[.int .i64 x.1, .int .i64 x.2]
theorem plLaid : laidOutB Tryz.prog = true := by kernel_rfl
theorem plKeyed : Keyed Tryz.prog 123 := Keyed.of_law (deep_law_laid plLaid (m := 2) (by omega) (of_decide_eq_true (by kernel_rfl)) (by kernel_rfl) (by kernel_rfl))

set_option maxRecDepth 100000 in
set_option maxHeartbeats 1000000 in
theorem keys0_in (F : Fence) (n : Nat) (h88 : F.fn 129) (hro : F.round = none) (l Bm b : Nat) (J : List PlI → World → Prop) (W : World) (hJ : AbidesFrom W.heap.size J)
    (hm : W.cell? ⟨Bm, 0, none⟩ = some (.map (some b))) (hb : W.heap[b]? = some (.map #[] 0)) (h0 : J [] W) :
    CallsIn F n Tryz.prog 129 #[.func (.yield l) #[] #[], .pointer (some ⟨Bm, 0, none⟩)] W fun e W' => (∃ v, e = .returned v) ∧ J [] W' := by
  have hown : W.ownsMap (H := Unit) Tryz.prog 123 (fun _ => none) b 0 (.map []) := ⟨#[], 0, hb, ⟨by simp, MapKept.stamped_empty 0, by simp⟩, Nat.le_refl _, rfl⟩
  refine callsIn_of_wp Tryz.func129 rfl h88 ?_ hro
  simp only [Tryz.ntmps129, List.size_toArray, List.length_cons, List.length_nil, Nat.reduceAdd, Nat.reduceSub, Array.replicate_succ, Array.replicate_zero, List.push_toArray, List.append_toArray, List.nil_append, List.cons_append]
  gi_wp2_with (first
    | (gi_at_range; refine wpListIn_range_own _ rfl _ 107 rfl 123 134 plKeyed Tryz.underlying107 _ b 0 _ rfl hown ?_; intro w0 hrg0 hg0 hs0)
    | gi_in)
  go_frame
  gi_loopw [3] (fun _ wr => ∃ (left : Lit → Bool) (cnt : Nat), wr.ranges (H := Unit) Tryz.prog 123 (fun _ => none) b W.heap.size 0 (.map []) left cnt ∧ Hid (∀ kl, left kl = false) ∧ J [] wr)
    (fun _ wr => wr.rangeLeft b W.heap.size)
  case atStart =>
    exact ⟨_, _, hrg0, (fun kl => rfl : ∀ kl, Maps.has (.map [] : DataW Unit) kl = false), hJ [] W w0 none h0 hg0 (fun r e => by cases e)⟩
  case round =>
    obtain ⟨left, cnt, hrg, hC, hJs⟩ := hrel
    gi_wp2_with (first
      | (gi_at_next; refine wpListIn_next_ranges _ rfl _ rfl 123 plKeyed (fun _ => none) id id (fun key kl hk => ⟨key, rfl⟩) (fun v _ _ => ⟨v, rfl⟩) b W.heap.size 0 _ _ _ rfl hrg ?_ ?_)
      | gi_in)
    · intro hc0 hl0
      gi_wp2
      go_end0
      exact ⟨⟨_, rfl⟩, hJs⟩
theorem keys0_stops (F : Fence) (n : Nat) (h88 : F.fn 129) (hro : F.round = none) (Bm b : Nat) (w : World) (hBm : Bm < w.heap.size) (hbl : b < w.heap.size) (hm : w.cell? ⟨Bm, 0, none⟩ = some (.map (some b))) (hb : w.heap[b]? = some (.map #[] 0)) :
    SeqStops F n Tryz.prog 129 #[.pointer (some ⟨Bm, 0, none⟩)] encP (fun xs : List PlI => xs = []) (fun _ => False) 0 w := fun l J _ W hW hJ _ _ h0 =>
  (keys0_in F n h88 hro l Bm b J W hJ ((hW.cell (p := ⟨Bm, 0, none⟩) hBm).trans hm) ((hW.block b hbl).trans hb) h0).mono fun _ _ ⟨he, hj⟩ => ⟨he, .inl ⟨[], rfl, hj⟩⟩
theorem mkeys_any (F : Fence) (n : Nat) (h59 : F.fn 94) (hro : F.round = none) (mb : Option Nat) (w : World) :
    CallsIn F n Tryz.prog 94 #[.map mb] w fun e w' => e = .returned (.func (.func 129) #[] #[.pointer (some ⟨w.heap.size, 0, none⟩)]) ∧ w' = w.alloc (.cells #[.map mb] 107) := by
  refine callsIn_of_wp Tryz.func94 rfl h59 ?_ hro
  simp only [Tryz.ntmps94, List.size_toArray, List.length_cons, List.length_nil, Nat.reduceAdd, Nat.reduceSub, Array.replicate_succ, Array.replicate_zero, List.push_toArray, List.append_toArray, List.nil_append, List.cons_append]
  gi_wp2
  go_ret
  exact ⟨rfl, rfl⟩
end Go.Proofs.YtkpebabbnndopaaGreatDoor
