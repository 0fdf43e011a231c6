import Derived.Test.YtkpebabbnndopaaGreatDoorG28
import Derived.Test.YtkpebabbnndopaaGreatDoorG29
import Derived.Test.YtkpebabbnndopaaGreatDoorC04
import Derived.WalkKit
import Derived.WalkSpells
import Derived.WalkLawsBesides
import Derived.Deep.WholeRow
import Derived.Test.YtkpebabbnndopaaGreatDoorC11
import Derived.Test.YtkpebabbnndopaaGreatDoorC08
import Derived.Test.YtkpebabbnndopaaGreatDoorG22
import Derived.Laws.LoneSync
import Derived.RegionCalls
import Derived.Deep.MidRow
/- read. -/
namespace Go.Proofs.YtkpebabbnndopaaGreatDoor
open Go.RowKit
set_option linter.unusedVariables false
set_option linter.unusedSimpArgs false

abbrev MsgC (m g : Int) (v : Value) : Array Value := #[.int .i64 m, .int .i64 g, v]
abbrev strOver : ByteArray := ⟨#[116, 104, 101, 32, 101, 112, 111, 99, 104, 32, 105, 115, 32, 111, 118, 101, 114]⟩
theorem over_any (w : World) : Calls Tryz.prog 58 #[] w fun e w' => e = .returned (faultV 9 strOver) ∧ w' = w := by
  go_enter Tryz.func58, Tryz.ntmps58
  go_wp2_with fail
  go_ret
  exact ⟨rfl, rfl⟩
/-- three cells of a message set -/
theorem stores3_row (w : World) (g : Nat) (cs : Array Value) (t : TypeId) (a b c : Value) (h : w.heap[g]? = some (.cells cs t (0, 0))) (hs : cs.size = 3) :
    ((w.setCell ⟨g, 0, none⟩ a).setCell ⟨g, 1, none⟩ b).setCell ⟨g, 2, none⟩ c = w.setRow g #[a, b, c] := by
  have h1 := setCell_eq_setRow w g 0 cs t (0, 0) a h
  rw [h1]
  have h2 : (w.setRow g (cs.setIfInBounds 0 a)).heap[g]? = some (.cells (cs.setIfInBounds 0 a) t (0, 0)) := setRow_heap _ _ _ _ _ _ h
  rw [setCell_eq_setRow _ g 1 _ t (0, 0) b h2, setRow_setRow]
  have h3 : (w.setRow g ((cs.setIfInBounds 0 a).setIfInBounds 1 b)).heap[g]? = some (.cells ((cs.setIfInBounds 0 a).setIfInBounds 1 b) t (0, 0)) := setRow_heap _ _ _ _ _ _ h
  rw [setCell_eq_setRow _ g 2 _ t (0, 0) c h3, setRow_setRow]
  congr 1
  rcases cs with ⟨l⟩
  rcases l with _ | ⟨x, _ | ⟨y, _ | ⟨z, _ | ⟨u, r⟩⟩⟩⟩ <;> simp at hs
  rfl
set_option maxHeartbeats 1000000 in
theorem read_closed {w : World} {b : Nat} {cs : Array Value} (hh : Home (some b) b 112 cs w) (ho : cs[7]? = some (.bool true)) (sv : Value) :
    Calls Tryz.prog 50 #[.pointer (some ⟨b, 0, none⟩), sv] w fun e w' => ∃ u, e = .returned (.tuple #[.agg (MsgC 0 0 (.slice none 0 0)), u]) ∧ u = faultV 9 strOver ∧ Below w.heap.size w w' := by
  have HOV : Hid (∀ W, Calls Tryz.prog 58 #[] W fun e w' => e = .returned (faultV 9 strOver) ∧ w' = W) := over_any
  obtain ⟨w1, hw1⟩ : ∃ w1, w.alloc (.cells (MsgC 0 0 (.slice none 0 0)) 41) = w1 := ⟨_, rfl⟩
  have b1 : Below w.heap.size w w1 := by rw [← hw1]; exact (Below.refl _ w).alloc (Nat.le_refl _) _
  have k1 : w1.heap[w.heap.size]? = some (.cells (MsgC 0 0 (.slice none 0 0)) 41 (0, 0)) := by rw [← hw1]; exact (MapKept.heap_alloc _ _).1
  obtain ⟨kc, kf⟩ := row_facts' k1
  have c1 : w1.cell? ⟨b, 7, none⟩ = some (.bool true) := by rw [(hh.below b1).cells.1]; exact ho
  have HW : Hid (w.alloc (.cells (MsgC 0 0 (.slice none 0 0)) 41) = w1) := hw1
  have HB : Hid (Below w.heap.size w w1 ∧ w1.heap[w.heap.size]? = some (.cells (MsgC 0 0 (.slice none 0 0)) 41 (0, 0))) := ⟨b1, k1⟩
  clear hh ho b1 k1 hw1
  go_enter Tryz.func50, Tryz.ntmps50
  go_upto_region 1 with fail
  rw [HW.out]
  go_wp2_with (go_at_call 58; refine (HOV.out _).mono ?_; rintro e w' ⟨rfl, rfl⟩)
  rw [stores3_row _ _ _ _ _ _ _ HB.out.2 rfl]
  exact bodyPost_ret (results_row_tmp rfl _ _ w.heap.size 41 (MsgC 0 0 (.slice none 0 0)) (0, 0) _ _ rfl rfl (setRow_heap _ _ _ _ _ _ HB.out.2) Tryz.underlying41 rfl (by kernel_rfl)) rfl ⟨_, rfl, rfl, below_setRow HB.out.1 (Nat.le_refl _) _⟩
set_option maxHeartbeats 1000000 in
theorem read_place {w : World} {b : Nat} {cs : Array Value} {st : St} {wk pm : Nat} (hh : Home (some b) b 112 cs w) (hG : GrpAt cs st wk pm 1) (sv : Value)
    (HPI0 : ∀ W, Below w.heap.size w W → Calls Tryz.prog 91 #[sv, .int .i64 st.n] W fun e w' => ∃ s, e = .returned (.tuple #[encP (0, 0), faultV 3 s]) ∧ Below W.heap.size W w') :
    Calls Tryz.prog 50 #[.pointer (some ⟨b, 0, none⟩), sv] w fun e w' => ∃ u, e = .returned (.tuple #[.agg (MsgC 0 0 (.slice none 0 0)), u]) ∧ (∃ s, u = faultV 3 s) ∧ Below w.heap.size w w' := by
  obtain ⟨w1, hw1⟩ : ∃ w1, w.alloc (.cells (MsgC 0 0 (.slice none 0 0)) 41) = w1 := ⟨_, rfl⟩
  have b1 : Below w.heap.size w w1 := by rw [← hw1]; exact (Below.refl _ w).alloc (Nat.le_refl _) _
  have k1 : w1.heap[w.heap.size]? = some (.cells (MsgC 0 0 (.slice none 0 0)) 41 (0, 0)) := by rw [← hw1]; exact (MapKept.heap_alloc _ _).1
  have c1 : w1.cell? ⟨b, 7, none⟩ = some (.bool false) := by rw [(hh.below b1).cells.1]; exact hG.over
  have c2 : w1.cell? ⟨b, 5, none⟩ = some (.int .i64 st.n) := by rw [(hh.below b1).cells.1]; exact hG.members
  have HPI : Hid (Calls Tryz.prog 91 #[sv, .int .i64 st.n] w1 fun e w' => ∃ s, e = .returned (.tuple #[.agg #[.int .i64 0, .int .i64 0], faultV 3 s]) ∧ Below w1.heap.size w1 w') := HPI0 w1 b1
  have HW : Hid (w.alloc (.cells (MsgC 0 0 (.slice none 0 0)) 41) = w1) := hw1
  have HB : Hid (Below w.heap.size w w1 ∧ w1.heap[w.heap.size]? = some (.cells (MsgC 0 0 (.slice none 0 0)) 41 (0, 0))) := ⟨b1, k1⟩
  clear hh hG b1 k1 hw1 HPI0
  go_enter Tryz.func50, Tryz.ntmps50
  go_upto_region 1 with fail
  rw [HW.out]
  go_wp2_with fail
  refine HPI.out.mono ?_
  rintro e w2 ⟨s, rfl, b2⟩
  obtain ⟨w3, hw3⟩ : ∃ w3, w2.alloc (.cells #[.int .i64 0, .int .i64 0] 123) = w3 := ⟨_, rfl⟩
  have b3 : Below w1.heap.size w1 w3 := by rw [← hw3]; exact b2.alloc b2.size _
  have k3 : w3.heap[w.heap.size]? = some (.cells (MsgC 0 0 (.slice none 0 0)) 41 (0, 0)) := by rw [b3.block _ (Array.getElem?_eq_some_iff.1 HB.out.2).1]; exact HB.out.2
  obtain ⟨kc, kf⟩ := row_facts' k3
  have HB3 : Hid (Below w.heap.size w w3 ∧ w3.heap[w.heap.size]? = some (.cells (MsgC 0 0 (.slice none 0 0)) 41 (0, 0))) := ⟨HB.out.1.trans (b3.mono HB.out.1.size), k3⟩
  have HW3 : Hid (w2.alloc (.cells #[.int .i64 0, .int .i64 0] 123) = w3) := hw3
  clear HPI b2 b3 k3 hw3 c1 c2
  go_upto_region 5 with fail
  rw [HW3.out]
  go_wp2_with fail
  rw [stores3_row _ _ _ _ _ _ _ HB3.out.2 rfl]
  exact bodyPost_ret (results_row_tmp rfl _ _ w.heap.size 41 (MsgC 0 0 (.slice none 0 0)) (0, 0) _ _ rfl rfl (setRow_heap _ _ _ _ _ _ HB3.out.2) Tryz.underlying41 rfl (by kernel_rfl)) rfl ⟨_, rfl, ⟨_, rfl⟩, below_setRow HB3.out.1 (Nat.le_refl _) _⟩
set_option maxHeartbeats 2000000 in
set_option maxRecDepth 20000 in
theorem read_open {w : World} {b : Nat} {cs : Array Value} {st : St} {wk pm : Nat} {m g : Nat} (hh : Home (some b) b 112 cs w) (hG : GrpAt cs st wk pm 1) (sv : Value)
    (HPI0 : ∀ W, Below w.heap.size w W → Calls Tryz.prog 91 #[sv, .int .i64 st.n] W fun e w' => e = .returned (.tuple #[encP (m, g), .nilIface]) ∧ Below W.heap.size W w')
    (R : World → Value → Value → World → Prop)
    (HOA0 : ∀ W, Below w.heap.size w W → Calls Tryz.prog 92 #[.pointer (some ⟨b, 0, none⟩), .agg #[.int .i64 m, .int .i64 g], sv] W fun e w' => ∃ v u, e = .returned (.tuple #[v, u]) ∧ R W v u w' ∧ (((∃ p n c, v = .slice p n c) ∧ u = .nilIface) ∨ ∃ E s, u = faultV E s))
    (hR : ∀ W v u w', Below w.heap.size w W → R W v u w' → ∀ k, w.heap.size ≤ k → k < W.heap.size → w'.heap[k]? = W.heap[k]?) :
    Calls Tryz.prog 50 #[.pointer (some ⟨b, 0, none⟩), sv] w fun e w' => ∃ y z, e = .returned (.tuple #[y, z]) ∧ ∃ W v u w2, Below w.heap.size w W ∧ w.heap.size < W.heap.size ∧ R W v u w2 ∧ Outside [w.heap.size] w2 w' ∧ ((u = .nilIface ∧ y = .agg (MsgC m g v) ∧ z = .nilIface) ∨ ∃ E s, u = faultV E s ∧ y = .agg (MsgC 0 0 (.slice none 0 0)) ∧ z = frameV m g E s) := by
  obtain ⟨w1, hw1⟩ : ∃ w1, w.alloc (.cells (MsgC 0 0 (.slice none 0 0)) 41) = w1 := ⟨_, rfl⟩
  have b1 : Below w.heap.size w w1 := by rw [← hw1]; exact (Below.refl _ w).alloc (Nat.le_refl _) _
  have k1 : w1.heap[w.heap.size]? = some (.cells (MsgC 0 0 (.slice none 0 0)) 41 (0, 0)) := by rw [← hw1]; exact (MapKept.heap_alloc _ _).1
  have c1 : w1.cell? ⟨b, 7, none⟩ = some (.bool false) := by rw [(hh.below b1).cells.1]; exact hG.over
  have c2 : w1.cell? ⟨b, 5, none⟩ = some (.int .i64 st.n) := by rw [(hh.below b1).cells.1]; exact hG.members
  obtain ⟨M, hM⟩ : ∃ M : Int, (m : Int) = M := ⟨_, rfl⟩
  obtain ⟨G, hGG⟩ : ∃ G : Int, (g : Int) = G := ⟨_, rfl⟩
  have HPI : Hid (Calls Tryz.prog 91 #[sv, .int .i64 st.n] w1 fun e w' => e = .returned (.tuple #[.agg #[.int .i64 M, .int .i64 G], .nilIface]) ∧ Below w1.heap.size w1 w') := by
    have := HPI0 w1 b1
    rw [hM, hGG] at this
    exact this
  have HOA : Hid (∀ W, Below w.heap.size w W → Calls Tryz.prog 92 #[.pointer (some ⟨b, 0, none⟩), .agg #[.int .i64 M, .int .i64 G], sv] W fun e w' => ∃ v u, e = .returned (.tuple #[v, u]) ∧ Hid (R W v u w') ∧ (((∃ p n c, v = .slice p n c) ∧ u = .nilIface) ∨ ∃ E s, u = faultV E s)) := by
    rw [← hM, ← hGG]; exact HOA0
  have HR : Hid (∀ W v u w', Below w.heap.size w W → R W v u w' → ∀ k, w.heap.size ≤ k → k < W.heap.size → w'.heap[k]? = W.heap[k]?) := hR
  have HW : Hid (w.alloc (.cells (MsgC 0 0 (.slice none 0 0)) 41) = w1) := hw1
  have HB : Hid (Below w.heap.size w w1 ∧ w1.heap[w.heap.size]? = some (.cells (MsgC 0 0 (.slice none 0 0)) 41 (0, 0))) := ⟨b1, k1⟩
  rw [hM, hGG]
  clear hh hG b1 k1 hw1 HPI0 HOA0 hR hM hGG
  go_enter Tryz.func50, Tryz.ntmps50
  go_upto_region 1 with fail
  rw [HW.out]
  go_wp2_with fail
  refine HPI.out.mono ?_
  rintro e w2 ⟨rfl, b2⟩
  obtain ⟨w3, hw3⟩ : ∃ w3, w2.alloc (.cells #[.int .i64 M, .int .i64 G] 123) = w3 := ⟨_, rfl⟩
  have b3 : Below w1.heap.size w1 w3 := by rw [← hw3]; exact b2.alloc b2.size _
  have p3 : w3.heap[w2.heap.size]? = some (.cells #[.int .i64 M, .int .i64 G] 123 (0, 0)) := by rw [← hw3]; exact (MapKept.heap_alloc _ _).1
  have k3 : w3.heap[w.heap.size]? = some (.cells (MsgC 0 0 (.slice none 0 0)) 41 (0, 0)) := by rw [b3.block _ (Array.getElem?_eq_some_iff.1 HB.out.2).1]; exact HB.out.2
  have hA3 : ∀ o, w3.cell? ⟨w2.heap.size, o, none⟩ = #[Value.int .i64 M, .int .i64 G][o]? := fun o => cell_of_row _ _ _ _ _ _ p3
  have HB3 : Hid (Below w.heap.size w w3 ∧ w.heap.size < w3.heap.size ∧ w3.heap[w.heap.size]? = some (.cells (MsgC 0 0 (.slice none 0 0)) 41 (0, 0)) ∧ w3.heap[w2.heap.size]? = some (.cells #[.int .i64 M, .int .i64 G] 123 (0, 0)) ∧ w.heap.size ≤ w2.heap.size) := ⟨HB.out.1.trans (b3.mono HB.out.1.size), (Array.getElem?_eq_some_iff.1 k3).1, k3, p3, by have := HB.out.1.size; have := b2.size; omega⟩
  have HW3 : Hid (w2.alloc (.cells #[.int .i64 M, .int .i64 G] 123) = w3) := hw3
  clear HPI b2 b3 k3 p3 hw3 c1 c2
  go_upto_region 6 with fail
  rw [HW3.out]
  go_wp2_with fail
  refine (HOA.out _ HB3.out.1).mono ?_
  rintro e w4 ⟨v, u, rfl, hr, hu⟩
  have k4 : w4.heap[w.heap.size]? = some (.cells (MsgC 0 0 (.slice none 0 0)) 41 (0, 0)) := by
    rw [HR.out _ _ _ _ HB3.out.1 hr.out _ (Nat.le_refl _) HB3.out.2.1]; exact HB3.out.2.2.1
  have p4 : w4.heap[w2.heap.size]? = some (.cells #[.int .i64 M, .int .i64 G] 123 (0, 0)) := by
    rw [HR.out _ _ _ _ HB3.out.1 hr.out _ HB3.out.2.2.2.2 (Array.getElem?_eq_some_iff.1 HB3.out.2.2.2.1).1]; exact HB3.out.2.2.2.1
  obtain ⟨kc, kf⟩ := row_facts' k4
  have hA4 : ∀ o, w4.cell? ⟨w2.heap.size, o, none⟩ = #[Value.int .i64 M, .int .i64 G][o]? := fun o => cell_of_row _ _ _ _ _ _ p4
  have HK4 : Hid (w4.heap[w.heap.size]? = some (.cells (MsgC 0 0 (.slice none 0 0)) 41 (0, 0)) ∧ w4.heap[w2.heap.size]? = some (.cells #[.int .i64 M, .int .i64 G] 123 (0, 0))) := ⟨k4, p4⟩
  clear HOA HR hA3 k4 p4
  rcases hu with ⟨⟨vp, vn, vc, rfl⟩, rfl⟩ | ⟨E, s, rfl⟩
  · go_wp2_with fail
    rw [stores3_row _ _ _ _ _ _ _ HK4.out.1 rfl]
    exact bodyPost_ret (results_row_tmp rfl _ _ w.heap.size 41 (MsgC M G (.slice vp vn vc)) (0, 0) _ _ rfl rfl (setRow_heap _ _ _ _ _ _ HK4.out.1) Tryz.underlying41 rfl (by kernel_rfl)) rfl ⟨_, _, rfl, w3, _, _, w4, HB3.out.1, HB3.out.2.1, hr.out, (Outside.refl _ w4).setRow _ (fun _ => by simp) _, .inl ⟨rfl, rfl, rfl⟩⟩
  · go_upto_region 8 with fail
    obtain ⟨w5, hw5⟩ : ∃ w5, w4.drew.setCells w.heap.size 0 [Value.int .i64 0, .int .i64 0, .slice none 0 0] = w5 := ⟨_, rfl⟩
    have e5 : w5 = w4.drew.setRow w.heap.size (MsgC 0 0 (.slice none 0 0)) := by
      rw [← hw5]
      exact stores3_row w4.drew w.heap.size _ _ _ _ _ HK4.out.1 rfl
    have hne : w2.heap.size ≠ w.heap.size := fun e => by
      have h1 := HK4.out.2
      rw [e, HK4.out.1] at h1
      cases h1
    have HS5 : Hid ((∀ o, w5.cell? ⟨w2.heap.size, o, none⟩ = #[Value.int .i64 M, .int .i64 G][o]?) ∧ w4.drew.there w.heap.size 0 3 ∧ w4.drew.setCells w.heap.size 0 [Value.int .i64 0, .int .i64 0, .slice none 0 0] = w5) := by
      refine ⟨fun o => ?_, fun j hj => ?_, hw5⟩
      · have : w5.heap[w2.heap.size]? = some (.cells #[.int .i64 M, .int .i64 G] 123 (0, 0)) := by rw [e5, setRow_other _ _ _ _ hne]; exact HK4.out.2
        exact cell_of_row _ _ _ _ _ _ this
      · rw [Nat.zero_add]
        show (w4.cell? _).isSome = true ∧ w4.frozen? _ = false
        rw [kc]
        refine ⟨?_, kf _⟩
        rcases j with _ | _ | _ | j <;> first | rfl | omega
    have HK5 : Hid (w5.heap[w.heap.size]? = some (.cells (MsgC 0 0 (.slice none 0 0)) 41 (0, 0)) ∧ Outside [w.heap.size] w4 w5) := by
      rw [e5]
      exact ⟨setRow_heap w4.drew _ _ _ _ _ HK4.out.1, ((Outside.refl _ w4).drew).setRow _ (fun _ => by simp) _⟩
    clear hw5 e5 hne kc kf
    refine wp_region_held_drew (S := fun W => ∀ o, W.cell? ⟨w2.heap.size, o, none⟩ = #[Value.int .i64 M, .int .i64 G][o]?) (by kernel_rfl) hA4 (fun hHeld => ?_)
    change wpAnyH _ _ _ _ _ 7 _ _ _
    refine take1 (i := 0) (v := .agg #[.int .i64 0, .int .i64 0, .slice none 0 0]) rfl (by kernel_rfl) (by kernel_rfl) (by kernel_rfl) (fun _ _ _ h => h) hHeld (fun W hS => (by clear hHeld; go_simp)) ?_
    simp only [Act.put, List.setIfInBounds_toArray, List.set_cons_zero, List.set_cons_succ]
    refine take1 (i := 1) (v := .agg #[.int .i64 M, .int .i64 G]) rfl (by kernel_rfl) (by kernel_rfl) (by kernel_rfl) (fun _ _ _ h => h) hHeld (fun W hS => (by clear hHeld; go_simp)) ?_
    simp only [Act.put, List.setIfInBounds_toArray, List.set_cons_zero, List.set_cons_succ]
    refine take1 (i := 2) (v := faultV E s) rfl (by kernel_rfl) (by kernel_rfl) (by kernel_rfl) (fun _ _ _ h => h) hHeld (fun W hS => (by clear hHeld; go_simp)) ?_
    simp only [Act.put, List.setIfInBounds_toArray, List.set_cons_zero, List.set_cons_succ]
    refine take1 (i := 3) (v := .agg #[.int .i64 M, .int .i64 G, faultV E s]) rfl (by kernel_rfl) (by kernel_rfl) (by kernel_rfl) (fun _ _ _ h => h) hHeld (fun W hS => (by clear hHeld; go_simp)) ?_
    simp only [Act.put, List.setIfInBounds_toArray, List.set_cons_zero, List.set_cons_succ]
    refine take1 (i := 4) (v := frameV M G E s) rfl (by kernel_rfl) (by kernel_rfl) (by kernel_rfl) (fun _ _ _ h => h) hHeld (fun W hS => (by clear hHeld; go_simp)) ?_
    simp only [Act.put, List.setIfInBounds_toArray, List.set_cons_zero, List.set_cons_succ]
    refine store1 (i := 5) (by kernel_rfl) rfl w.heap.size 0 #[.int .i64 0, .int .i64 0, .slice none 0 0] rfl rfl HS5.out.2.1 (by kernel_rfl) (by kernel_rfl) w5 HS5.out.2.2 HS5.out.1 ?_
    refine step1 (i := 6) (by kernel_rfl) rfl (frameV M G E s) w5 (by clear hHeld; go_simp) HS5.out.1 ?_
    simp only [Act.put, List.setIfInBounds_toArray, List.set_cons_zero, List.set_cons_succ]
    refine wpAnyH_done (by kernel_rfl) ?_ _
    clear hHeld hA4 HS5
    go_wp2_with fail
    exact bodyPost_ret (results_row_tmp rfl _ _ w.heap.size 41 (MsgC 0 0 (.slice none 0 0)) (0, 0) _ _ rfl rfl HK5.out.1 Tryz.underlying41 rfl (by kernel_rfl)) rfl ⟨_, _, rfl, w3, v, _, w4, HB3.out.1, HB3.out.2.1, hr.out, HK5.out.2, .inr ⟨E, s, rfl, rfl, rfl⟩⟩
end Go.Proofs.YtkpebabbnndopaaGreatDoor

/- end; sync.Once; Close. -/
namespace Go.Proofs.YtkpebabbnndopaaGreatDoor
open Go.RowKit
set_option linter.unusedVariables false
set_option linter.unusedSimpArgs false

theorem zeroRat (w : World) : (zeroValue 104).run Tryz.prog w = .ok (.agg (CellsR false 0 fun _ => 0)) w := by kernel_rfl
/-- a group's cells behind end -/
def endC (Zt Zr : List Value) (cs : Array Value) : Array Value := putL (putL (cs.setIfInBounds 7 (.bool true)) 8 Zt) 169 Zr
theorem zr_len : (Builtin.zeroCells (CellsR false 0 fun _ => 0) 16).toList.length = 160 := by kernel_rfl
theorem zr_one : (Builtin.zeroCells (CellsR false 0 fun _ => 0) 16).toList.all (·.oneCell') = true := by kernel_rfl
theorem zt_size : Tryz.zeroCells102.size = 161 := by kernel_rfl
theorem zt_one : Tryz.zeroCells102.all (·.oneCell') = true := by kernel_rfl
set_option maxHeartbeats 1000000 in
set_option maxRecDepth 20000 in
theorem end_any {w : World} {b pm : Nat} {cs : Array Value} {L : List PlI} {B : PlI → Nat} {key : PlI → Nat → Int} (hrow : w.heap[b]? = some (.cells cs 112 (0, 0))) (hsz : cs.size = 331) (hp : cs[329]? = some (.map (some pm))) (hk : KeepAt w pm L B key) (hpb : pm ≠ b) (hBb : ∀ y, y ∈ L → B y ≠ b) :
    Calls Tryz.prog 61 #[.pointer (some ⟨b, 0, none⟩)] w fun e w' => e = .returned (.tuple #[]) ∧ w'.heap[b]? = some (.cells (endC Tryz.zeroCells102.toList (Builtin.zeroCells (CellsR false 0 fun _ => 0) 16).toList cs) 112 (0, 0)) ∧ KeepAt w' pm [] B key ∧ Outside (b :: pm :: L.map B) w w' := by
  have zl := zr_len
  have zo := zr_one
  have ts := zt_size
  have t1 := zt_one
  obtain ⟨Zr, hZr⟩ : ∃ Zr, (Builtin.zeroCells (CellsR false 0 fun _ => 0) 16).toList = Zr := ⟨_, rfl⟩
  obtain ⟨w1, hw1⟩ : ∃ w1, w.setCell ⟨b, 7, none⟩ (.bool true) = w1 := ⟨_, rfl⟩
  have e1 : w1 = w.setRow b (cs.setIfInBounds 7 (.bool true)) := by rw [← hw1, setCell_eq_setRow w b 7 cs _ (0, 0) _ hrow]
  have r1 : w1.heap[b]? = some (.cells (cs.setIfInBounds 7 (.bool true)) 112 (0, 0)) := by rw [e1]; exact setRow_heap _ _ _ _ _ _ hrow
  obtain ⟨w2, hw2⟩ : ∃ w2, w1.setCells b 8 Tryz.zeroCells102.toList = w2 := ⟨_, rfl⟩
  have e2 : w2 = w1.setRow b (putL (cs.setIfInBounds 7 (.bool true)) 8 Tryz.zeroCells102.toList) := by rw [← hw2, setCells_row _ w1 b _ _ _ r1]
  have r2 : w2.heap[b]? = some (.cells (putL (cs.setIfInBounds 7 (.bool true)) 8 Tryz.zeroCells102.toList) 112 (0, 0)) := by rw [e2]; exact setRow_heap _ _ _ _ _ _ r1
  have hz2 : (putL (cs.setIfInBounds 7 (.bool true)) 8 Tryz.zeroCells102.toList).size = 331 := by rw [putL_size, Array.size_setIfInBounds, hsz]
  obtain ⟨w3, hw3⟩ : ∃ w3, w2.setCells b 169 Zr = w3 := ⟨_, rfl⟩
  have hcl : ∀ ty, (Builtin.clear_ #[188] ty #[.slice (some ⟨b, 169, none⟩) 16 16]).run Tryz.prog w2 = .ok (.tuple #[]) w3 := fun ty => by
    have h := run_clearW (P := Tryz.prog) w2 188 104 ty (.agg (CellsR false 0 fun _ => 0)) Tryz.underlying188 zeroRat b 169 16 16 (by decide) (fun v hv => List.all_eq_true.1 zo v hv) (fun j hj => by
      have hj2 : j < 160 := by rw [← zl]; exact hj
      rw [cell_of_row _ _ _ _ _ _ r2, Array.getElem?_eq_getElem (by omega)]; rfl) (fun j hj => by simp [World.frozen?, r2])
    rw [show (Value.agg (CellsR false 0 fun _ => 0)).cells = CellsR false 0 fun _ => 0 from rfl, hZr, hw3] at h
    exact h
  have e3 : w3 = w2.setRow b (endC Tryz.zeroCells102.toList Zr cs) := by rw [← hw3, setCells_row _ w2 b _ _ _ r2]; rfl
  have r3 : w3.heap[b]? = some (.cells (endC Tryz.zeroCells102.toList Zr cs) 112 (0, 0)) := by rw [e3]; exact setRow_heap _ _ _ _ _ _ r2
  have hoth : ∀ k, k ≠ b → w3.heap[k]? = w.heap[k]? := fun k hk => by rw [e3, setRow_other _ _ _ _ hk, e2, setRow_other _ _ _ _ hk, e1, setRow_other _ _ _ _ hk]
  have o3 : Outside [b] w w3 := by rw [e3, e2, e1]; exact (((Outside.refl [b] w).setRow b (fun _ => by simp) _).setRow b (fun _ => by simp) _).setRow b (fun _ => by simp) _
  have k3 : KeepAt w3 pm L B key := hk.keep fun k _ hm => hoth k (by
    rcases hm with rfl | hm
    · exact hpb
    · obtain ⟨y, hy, rfl⟩ := List.mem_map.1 hm
      exact hBb y hy)
  rw [hZr] at zl
  have c3 : w3.cell? ⟨b, 329, none⟩ = some (.map (some pm)) := by
    rw [cell_of_row _ _ _ _ _ _ r3]
    unfold endC
    rw [putL_out _ _ _ _ (by omega), putL_out _ _ _ _ (by rw [Array.length_toList]; omega), Array.getElem?_setIfInBounds, if_neg (by omega)]
    exact hp
  rw [hZr]
  have HFA : Hid (Calls Tryz.prog 99 #[.map (some pm)] w3 fun e w' => e = .returned (.tuple #[]) ∧ Hid (w'.heap[b]? = some (.cells (endC Tryz.zeroCells102.toList Zr cs) 112 (0, 0)) ∧ KeepAt w' pm [] B key ∧ Outside (b :: pm :: L.map B) w w')) := (forgetAll_any k3).mono fun e w' ⟨h1, h2, h3⟩ => by
    refine ⟨h1, h2.row r3 (fun hm => ?_), h3, (o3.mono (fun i hi _ => by simp at hi; simp [hi])).trans h2 (fun i hi _ => List.mem_cons_of_mem _ hi)⟩
    simp only [List.mem_cons] at hm
    rcases hm with e | e
    · exact hpb e.symm
    · obtain ⟨y, hy, e⟩ := List.mem_map.1 e
      exact hBb y hy e
  have c0 := row_facts' hrow
  have hov : ∃ v, cs[7]? = some v := ⟨_, Array.getElem?_eq_getElem (by omega)⟩
  obtain ⟨ov, hov⟩ := hov
  have co : w.cell? ⟨b, 7, none⟩ = some ov := by rw [c0.1, hov]
  have cf : w.frozen? ⟨b, 7, none⟩ = false := c0.2 _
  have ht2 : w1.there b 8 Tryz.zeroCells102.size := fun j hj => by
    rw [cell_of_row _ _ _ _ _ _ r1, Array.getElem?_eq_getElem (by rw [Array.size_setIfInBounds]; omega)]
    exact ⟨rfl, by simp [World.frozen?, r1]⟩
  have HT2 : Hid (w1.there b 8 Tryz.zeroCells102.size ∧ (Tryz.prog.info? 102).map (·.size) = some Tryz.zeroCells102.size ∧ Tryz.zeroCells102.all (·.oneCell') = true) := ⟨ht2, by kernel_rfl, t1⟩
  have HW : Hid (w.setCell ⟨b, 7, none⟩ (.bool true) = w1 ∧ w1.setCells b 8 Tryz.zeroCells102.toList = w2) := ⟨hw1, hw2⟩
  clear hrow hsz hp hk hpb hBb zl zo ts t1 hZr hw1 e1 r1 hw2 e2 r2 hz2 hw3 e3 r3 hoth o3 k3 c0 hov ht2
  go_enter Tryz.func61, Tryz.ntmps61
  go_wp2_with (rw [HW.out.1]; refine wpList_store_mid rfl 102 _ _ rfl b 8 Tryz.zeroCells102 rfl rfl HT2.out.1 HT2.out.2.1 HT2.out.2.2 ?_; rw [HW.out.2])
  refine HFA.out.mono ?_
  rintro e w4 ⟨rfl, h4⟩
  clear HFA hcl c3 co cf
  go_wp2_with fail
  go_end0
  exact ⟨rfl, h4.out⟩
end Go.Proofs.YtkpebabbnndopaaGreatDoor
