import Derived.Test.YtkpebabbnndopaaGreatDoorG30
import Derived.Test.YtkpebabbnndopaaGreatDoorG21
import Derived.WalkKit
import Derived.WalkSpells
import Derived.WalkLawsBesides
import Derived.Deep.WholeRow
import Derived.Test.YtkpebabbnndopaaGreatDoorG22
/- Unprotect, of whatever read does. -/
namespace Go.Proofs.YtkpebabbnndopaaGreatDoor
open Go.RowKit
set_option linter.unusedVariables false
set_option linter.unusedSimpArgs false

set_option maxHeartbeats 2000000 in
set_option maxRecDepth 20000 in
theorem un_raw {w0 : World} {b : Nat} {cs : Array Value} (h0 : Home (some b) b 112 cs w0) (hlk : cs[0]? = some (i32 0)) (sv : Value) (R : World → Int → Int → Value → Int → World → Prop)
    (HRD0 : ∀ W, Outside [b] w0 W → w0.heap.size < W.heap.size → W.heap[b]? = some (.cells (cs.setIfInBounds 0 (i32 1)) 112 (0, 0)) → Calls Tryz.prog 50 #[.pointer (some ⟨b, 0, none⟩), sv] W fun e w' => ∃ m g v z N, e = .returned (.tuple #[.agg (MsgC m g v), z]) ∧ (∃ p n c, v = .slice p n c) ∧ ((z = .nilIface ∧ N = 0) ∨ (∃ s, z = faultV N s) ∨ ∃ a c s, z = frameV a c N s) ∧ R W m g v N w')
    (hR : ∀ W m g v N w', Outside [b] w0 W → R W m g v N w' → (∀ k, w0.heap.size ≤ k → k < W.heap.size → w'.heap[k]? = W.heap[k]?) ∧ Glob w' ∧ ∃ cs2, w'.heap[b]? = some (.cells cs2 112 (0, 0)) ∧ cs2[0]? = some (i32 1)) :
    Calls Tryz.prog 20 #[.pointer (some ⟨b, 0, none⟩), sv] w0 fun e w' => ∃ m g v N, e = .returned (.tuple #[.agg (MsgC m g v), .int .i64 N]) ∧ ∃ W w2 cs2, Outside [b] w0 W ∧ w0.heap.size < W.heap.size ∧ W.heap[b]? = some (.cells (cs.setIfInBounds 0 (i32 1)) 112 (0, 0)) ∧ R W m g v N w2 ∧ w2.heap[b]? = some (.cells cs2 112 (0, 0)) ∧ w'.heap[b]? = some (.cells (cs2.setIfInBounds 0 (i32 0)) 112 (0, 0)) ∧ Outside [b, w0.heap.size] w2 w' := by
  obtain ⟨wA, hwA⟩ : ∃ wA, w0.alloc (.cells (MsgC 0 0 (.slice none 0 0)) 41) = wA := ⟨_, rfl⟩
  have bA : Below w0.heap.size w0 wA := by rw [← hwA]; exact (Below.refl _ w0).alloc (Nat.le_refl _) _
  have kA : wA.heap[w0.heap.size]? = some (.cells (MsgC 0 0 (.slice none 0 0)) 41 (0, 0)) := by rw [← hwA]; exact (MapKept.heap_alloc _ _).1
  have hbl := h0.lt
  have rA : wA.heap[b]? = some (.cells cs 112 (0, 0)) := by rw [bA.block b hbl]; exact h0.row
  obtain ⟨w1, hw1⟩ : ∃ w1, wA.setRow b (cs.setIfInBounds 0 (i32 1)) = w1 := ⟨_, rfl⟩
  have r1 : w1.heap[b]? = some (.cells (cs.setIfInBounds 0 (i32 1)) 112 (0, 0)) := by rw [← hw1]; exact setRow_heap _ _ _ _ _ _ rA
  have o1 : Outside [b] w0 w1 := by rw [← hw1]; exact (Outside.ofBelow bA).setRow b (fun _ => by simp) _
  have k1 : w1.heap[w0.heap.size]? = some (.cells (MsgC 0 0 (.slice none 0 0)) 41 (0, 0)) := by rw [← hw1, setRow_other _ _ _ _ (by omega)]; exact kA
  have HLK : Hid (Calls Tryz.prog 41 #[.pointer (some ⟨b, 0, none⟩)] wA fun e w' => e = .returned (.tuple #[]) ∧ w' = w1) := by rw [← hw1]; exact lock_row b 0 cs _ wA rA hlk
  have HRD : Hid (Calls Tryz.prog 50 #[.pointer (some ⟨b, 0, none⟩), sv] w1 fun e w' => ∃ m g v z N, e = .returned (.tuple #[.agg (MsgC m g v), z]) ∧ (∃ p n c, v = .slice p n c) ∧ Hid (((z = .nilIface ∧ N = 0) ∨ (∃ s, z = faultV N s) ∨ ∃ a c s, z = frameV a c N s) ∧ R w1 m g v N w')) := HRD0 w1 o1 (Array.getElem?_eq_some_iff.1 k1).1 r1
  have HR : Hid (∀ m g v N w', R w1 m g v N w' → (∀ k, w0.heap.size ≤ k → k < w1.heap.size → w'.heap[k]? = w1.heap[k]?) ∧ Glob w' ∧ ∃ cs2, w'.heap[b]? = some (.cells cs2 112 (0, 0)) ∧ cs2[0]? = some (i32 1)) := fun m g v N w' h => hR w1 m g v N w' o1 h
  have HF1 : Hid (Outside [b] w0 w1 ∧ w0.heap.size < w1.heap.size ∧ w1.heap[b]? = some (.cells (cs.setIfInBounds 0 (i32 1)) 112 (0, 0)) ∧ w1.heap[w0.heap.size]? = some (.cells (MsgC 0 0 (.slice none 0 0)) 41 (0, 0)) ∧ b < w0.heap.size) := ⟨o1, (Array.getElem?_eq_some_iff.1 k1).1, r1, k1, hbl⟩
  have HWA : Hid (w0.alloc (.cells (MsgC 0 0 (.slice none 0 0)) 41) = wA) := hwA
  have HNO : Hid (∀ z N, ((z = .nilIface ∧ N = 0) ∨ (∃ s, z = faultV N s) ∨ ∃ a c s, z = frameV a c N s) → ∀ W, Glob W → Calls Tryz.prog 44 #[z] W fun e w' => e = .returned (.int .i64 N) ∧ Below W.heap.size W w') := fun z N hz W hW => by
    rcases hz with ⟨rfl, rfl⟩ | ⟨s, rfl⟩ | ⟨a, c, s, rfl⟩
    · exact num_nil W
    · exact num_fault N s W hW
    · exact num_frame a c N s W hW
  clear h0 hlk bA kA rA r1 o1 k1 hw1 hwA HRD0 hR hbl
  refine calls_of_wpM Tryz.func20 rfl ?_
  simp only [Tryz.ntmps20, List.size_toArray, List.length_cons, List.length_nil, Nat.reduceAdd, Nat.reduceSub, Array.replicate_succ,
     Array.replicate_zero, List.push_toArray, List.append_toArray, List.nil_append, List.cons_append]
  go_upto_region 1 with fail
  rw [HWA.out]
  go_wp2_with (go_at_call 41; refine HLK.out.mono ?_; rintro e w' ⟨rfl, hw'⟩; rw [hw']; clear hw' w')
  refine HRD.out.mono ?_
  rintro e w2 ⟨m, g, v, z, N, rfl, ⟨vp, vn, vc, rfl⟩, hx⟩
  obtain ⟨w3, hw3⟩ : ∃ w3, w2.alloc (.cells (MsgC m g (.slice vp vn vc)) 41) = w3 := ⟨_, rfl⟩
  have HX3 : Hid (Below w2.heap.size w2 w3 ∧ w3.heap[w2.heap.size]? = some (.cells (MsgC m g (.slice vp vn vc)) 41 (0, 0)) ∧ Glob w3 ∧ w3.heap[w0.heap.size]? = some (.cells (MsgC 0 0 (.slice none 0 0)) 41 (0, 0)) ∧ w0.heap.size < w2.heap.size ∧ ∃ cs2, w2.heap[b]? = some (.cells cs2 112 (0, 0)) ∧ cs2[0]? = some (i32 1)) := by
    obtain ⟨q1, q2, q3⟩ := HR.out _ _ _ _ _ hx.out.2
    have b3 : Below w2.heap.size w2 w3 := by rw [← hw3]; exact (Below.refl _ w2).alloc (Nat.le_refl _) _
    have k2 : w2.heap[w0.heap.size]? = some (.cells (MsgC 0 0 (.slice none 0 0)) 41 (0, 0)) := by rw [q1 _ (Nat.le_refl _) HF1.out.2.1]; exact HF1.out.2.2.2.1
    have l2 := (Array.getElem?_eq_some_iff.1 k2).1
    exact ⟨b3, by rw [← hw3]; exact (MapKept.heap_alloc _ _).1, q2.below b3, by rw [b3.block _ l2]; exact k2, l2, q3⟩
  have HW3 : Hid (w2.alloc (.cells (MsgC m g (.slice vp vn vc)) 41) = w3) := hw3
  have HN3 : Hid (Calls Tryz.prog 44 #[z] w3.drew fun e w' => e = .returned (.int .i64 N) ∧ Below w3.heap.size w3 w') := (HNO.out z N hx.out.1 w3.drew HX3.out.2.2.1).mono fun e w' ⟨h1, h2⟩ => ⟨h1, (Below.refl _ w3).drew.trans h2⟩
  clear HRD HR HNO hw3
  go_upto_region 4 with fail
  rw [HW3.out]
  refine wp_region_held_drew (S := fun W => W.heap[w2.heap.size]? = some (.cells (MsgC m g (.slice vp vn vc)) 41 (0, 0))) (by kernel_rfl) HX3.out.2.1 (fun hHeld => ?_)
  change wpAnyH _ _ _ _ _ 5 _ _ _
  refine take1 (i := 0) (v := .agg (MsgC m g (.slice vp vn vc))) rfl (by kernel_rfl) (by kernel_rfl) (by kernel_rfl) (fun _ _ _ h => h) hHeld (fun W hS => (by have hc := (row_facts' hS).1; clear hHeld hS; go_simp)) ?_
  simp only [Act.put, List.setIfInBounds_toArray, List.set_cons_zero, List.set_cons_succ]
  refine take1 (i := 1) (v := z) rfl (by kernel_rfl) (by kernel_rfl) (by kernel_rfl) (fun _ _ _ h => h) hHeld (fun W hS => (by clear hHeld; go_simp)) ?_
  simp only [Act.put, List.setIfInBounds_toArray, List.set_cons_zero, List.set_cons_succ]
  refine call1 (i := 2) (by kernel_rfl) rfl (f := 44) (args := #[z]) (by clear hHeld; go_simp) (R := fun v W => v = .int .i64 N ∧ Below w3.heap.size w3 W) (HN3.out.mono fun e w' ⟨h1, h2⟩ => ⟨_, h1, rfl, h2⟩) (fun v W ⟨_, h2⟩ => by rw [h2.block _ (Array.getElem?_eq_some_iff.1 HX3.out.2.1).1]; exact HX3.out.2.1) (fun v w4 hvW => ?_)
  obtain ⟨rfl, b4⟩ := hvW
  simp only [Act.put, List.setIfInBounds_toArray, List.set_cons_zero, List.set_cons_succ]
  have k4 : w4.heap[w0.heap.size]? = some (.cells (MsgC 0 0 (.slice none 0 0)) 41 (0, 0)) := by rw [b4.block _ (Array.getElem?_eq_some_iff.1 HX3.out.2.2.2.1).1]; exact HX3.out.2.2.2.1
  obtain ⟨w5, hw5⟩ : ∃ w5, w4.setCells w0.heap.size 0 [Value.int .i64 m, .int .i64 g, .slice vp vn vc] = w5 := ⟨_, rfl⟩
  have e5 : w5 = w4.setRow w0.heap.size (MsgC m g (.slice vp vn vc)) := by
    rw [← hw5]
    exact stores3_row w4 w0.heap.size _ _ _ _ _ k4 rfl
  have s5 : w5.heap[w2.heap.size]? = some (.cells (MsgC m g (.slice vp vn vc)) 41 (0, 0)) := by rw [e5, setRow_other _ _ _ _ (by have := HX3.out.2.2.2.2.1; omega), b4.block _ (Array.getElem?_eq_some_iff.1 HX3.out.2.1).1]; exact HX3.out.2.1
  have ht4 : w4.there w0.heap.size 0 3 := fun j hj => by
    rw [Nat.zero_add]
    obtain ⟨kc, kf⟩ := row_facts' k4
    rw [kc]
    refine ⟨?_, kf _⟩
    rcases j with _ | _ | _ | j <;> first | rfl | omega
  refine store1 (i := 3) (by kernel_rfl) rfl w0.heap.size 0 #[.int .i64 m, .int .i64 g, .slice vp vn vc] rfl rfl ht4 (by kernel_rfl) (by kernel_rfl) w5 hw5 s5 ?_
  refine step1 (i := 4) (by kernel_rfl) rfl (.int .i64 N) w5 (by clear hHeld; go_simp) s5 ?_
  simp only [Act.put, List.setIfInBounds_toArray, List.set_cons_zero, List.set_cons_succ]
  refine wpAnyH_done (by kernel_rfl) ?_ _
  have HX5 : Hid (w5.heap[w0.heap.size]? = some (.cells (MsgC m g (.slice vp vn vc)) 41 (0, 0)) ∧ Outside [b, w0.heap.size] w2 w5 ∧ ∃ cs2, w2.heap[b]? = some (.cells cs2 112 (0, 0)) ∧ cs2[0]? = some (i32 1) ∧ w5.heap[b]? = some (.cells cs2 112 (0, 0))) := by
    obtain ⟨x1, x2, x3, x4, x5, cs2, x6, x7⟩ := HX3.out
    have hbl := HF1.out.2.2.2.2
    refine ⟨by rw [e5]; exact setRow_heap _ _ _ _ _ _ k4, ?_, cs2, x6, x7, ?_⟩
    · rw [e5]; exact ((Outside.ofBelow x1).below b4).setRow _ (fun _ => by simp) _
    · have l2 := (Array.getElem?_eq_some_iff.1 x6).1
      have l3 := x1.size
      rw [e5, setRow_other _ _ _ _ (by omega), b4.block _ (by omega), x1.block _ l2]
      exact x6
  clear hHeld HN3 HX3 HW3 b4 k4 hw5 e5 s5 ht4 HLK HWA
  go_wp2_with fail
  obtain ⟨z1, z2, cs2, z3, z4, z5⟩ := HX5.out
  refine .inr ⟨_, _, 42, #[.pointer (some ⟨b, 0, none⟩)], rfl, by simp [go_sem], (unlock_row b 0 cs2 _ w5 z5 z4).mono fun e u' w' ⟨h1, h2, h3⟩ => ⟨h1, h2, .tuple #[.agg (MsgC m g (.slice vp vn vc)), .int .i64 N], ?_, m, g, _, N, rfl, w1, w2, cs2, HF1.out.1, HF1.out.2.1, HF1.out.2.2.1, hx.out.2, z3, ?_, ?_⟩⟩
  · exact results_row_tmp rfl _ _ w0.heap.size 41 (MsgC m g (.slice vp vn vc)) (0, 0) _ _ rfl rfl (by rw [h3, setRow_other _ _ _ _ (by have := HF1.out.2.2.2.2; omega)]; exact z1) Tryz.underlying41 rfl (by kernel_rfl)
  · rw [h3]; exact setRow_heap _ _ _ _ _ _ z5
  · rw [h3]; exact z2.setRow b (fun _ => by simp) _
end Go.Proofs.YtkpebabbnndopaaGreatDoor

/- Unprotect, of a group. -/
namespace Go.Proofs.YtkpebabbnndopaaGreatDoor
open Go.RowKit
set_option linter.unusedVariables false

theorem OpenedTo.size {w : World} {b pm : Nat} {st st' : St} {wk N : Nat} {B : PlI → Nat} {l : List UInt8} {K : Nat → Int} {e : Ending} {w' : World} (h : OpenedTo w b pm st st' wk N B l K e w') : w.heap.size ≤ w'.heap.size := by
  obtain ⟨n, cs', hn, hh, ⟨_, _, h3, _⟩ | ⟨_, h2, _⟩⟩ := h
  · exact h3.size
  · exact h2.size
theorem OpenedTo.blocks {w : World} {b pm : Nat} {st st' : St} {wk N : Nat} {B : PlI → Nat} {l : List UInt8} {K : Nat → Int} {e : Ending} {w' : World} (h : OpenedTo w b pm st st' wk N B l K e w') (k : Nat) (hk : k < w.heap.size) (h1 : k ≠ b) (h2 : k ≠ pm) (h3 : ∀ y, y ∈ keptL st st.n → B y ≠ k) : w'.heap[k]? = w.heap[k]? := by
  obtain ⟨n, cs', hn, hh, ⟨_, _, h4, _⟩ | ⟨_, h4, _⟩⟩ := h
  · exact h4.block k hk (by simpa using h1)
  · refine h4.block k hk fun hm => ?_
    simp only [List.mem_cons] at hm
    rcases hm with hm | hm | hm
    · exact h1 hm
    · exact h2 hm
    · obtain ⟨y, hy, e⟩ := List.mem_map.1 hm
      exact h3 y hy e
/-- what opening from W on leaves, seen from w on, behind changes of what is new since w and older than W -/
theorem OpenedTo.back {w W w2 w' : World} {b pm : Nat} {st st' : St} {wk N : Nat} {B : PlI → Nat} {l : List UInt8} {K : Nat → Int} {e : Ending} {T : List Nat} (h : OpenedTo W b pm st st' wk N B l K e w2) (hin : Outside [b] w W) (hO : Outside T w2 w') (hT : ∀ k, k ∈ T → w.heap.size ≤ k ∧ k < W.heap.size) (hb : b < w.heap.size) (hp : pm < w.heap.size) (hB : ∀ y, y ∈ keptL st st.n → B y < w.heap.size) : OpenedTo w b pm st st' wk N B l K e w' := by
  have hz := hin.size
  have hbT : b ∉ T := fun hm => by have := hT b hm; omega
  obtain ⟨n, cs', hn, hh, hc⟩ := h
  refine ⟨n, cs', hn, Home.own (hO.row hh.row hbT) hh.cnt, ?_⟩
  rcases hc with ⟨h1, h2, h3, h4, h5⟩ | ⟨h1, h2, h3, B', f, h4, h5, h6, h7, h8, h9⟩
  · refine .inl ⟨h1, h2, (hin.trans h3 (fun _ hi _ => hi)).trans hO (fun i hi hl => by have := hT i hi; omega), h4, h5.keep fun k hk hm => hO.block k hk fun ht => ?_⟩
    have := hT k ht
    rcases hm with rfl | hm
    · omega
    · obtain ⟨y, hy, rfl⟩ := List.mem_map.1 hm
      have := hB y hy; omega
  · have hB' : ∀ y, y ∈ keptL st' st.n → B' y ∉ T := fun y hy ht => by
      have h10 := hT _ ht
      rcases h5 y hy with ⟨q1, q2⟩ | q
      · have := hB y q1; omega
      · omega
    refine .inr ⟨h1, ((hin.mono (S' := b :: pm :: (keptL st st.n).map B) (fun i hi _ => by simp at hi; simp [hi])).trans h2 (fun _ hi _ => hi)).trans hO (fun i hi hl => by have := hT i hi; omega), h3, B', f, h4.keep fun k hk hm => hO.block k hk fun ht => ?_, fun x hx => ?_, h6, h7, by omega, hO.row h9 (fun ht => by have := hT f ht; omega)⟩
    · rcases hm with rfl | hm
      · have := hT k ht; omega
      · obtain ⟨y, hy, rfl⟩ := List.mem_map.1 hm
        exact hB' y hy ht
    · rcases h5 x hx with q | q
      · exact .inl q
      · exact .inr (by omega)
theorem bts_cells {w : World} {a : Option Addr} {l : List UInt8} (h : Bts w a l) (hl : 0 < l.length) : ∃ fb fo, a = some ⟨fb, fo, none⟩ ∧ ∀ i (h : i < l.length), w.cell? ⟨fb, fo + i, none⟩ = some (cellB l[i]) := by
  rcases h with h | ⟨b, o, h1, h2⟩
  · rw [h] at hl; simp at hl
  · exact ⟨b, o, h1, h2⟩
/-- where nothing is opened, nothing has changed -/
theorem un_same {w w2 w' W : World} {S : List Nat} {b pm : Nat} {cs cs2 : Array Value} {B : PlI → Nat} {st : St} {wk : Nat} (h : GrpIn w S b pm cs B st wk) (hW : Outside [b] w W) (hWb : W.heap[b]? = some (.cells (cs.setIfInBounds 0 (i32 1)) 112 (0, 0))) (hbel : Below W.heap.size W w2) (h2 : w2.heap[b]? = some (.cells cs2 112 (0, 0))) (h3 : w'.heap[b]? = some (.cells (cs2.setIfInBounds 0 (i32 0)) 112 (0, 0))) (hO : Outside [b, w.heap.size] w2 w') :
    Outside S w w' ∧ GrpIn w' S b pm cs B st wk := by
  have hb : b ∈ S := by rw [h.blocks]; simp
  have hlt := h.home.lt
  have hz := hW.size
  have e2 : cs2 = cs.setIfInBounds 0 (i32 1) := by
    rw [hbel.block b (by omega), hWb] at h2
    cases h2; rfl
  have hrow : w'.heap[b]? = w.heap[b]? := by
    rw [h3, e2, set_back h.cells.lock, h.home.row]
  have hO1 : Outside S w w' := by
    refine (((hW.mono (S' := S) (fun i hi _ => by simp at hi; rw [hi]; exact hb)).below hbel).trans hO (fun i hi hl => ?_))
    simp at hi
    rcases hi with rfl | rfl
    · exact hb
    · omega
  refine ⟨hO1, h.kept fun k hk hm => ?_⟩
  by_cases e : k = b
  · rw [e, hrow]
  · rw [hO.block k (by have := hbel.size; omega) (by simp; omega), hbel.block k (by omega), hW.block k hk (by simpa using e)]
theorem un_pre {w : World} {S : List Nat} {b pm : Nat} {cs : Array Value} {B : PlI → Nat} {st : St} {wk : Nat} (ok : st.Ok) (h : GrpIn w S b pm cs B st wk) (hGl : Glob w) (a : Option Addr) (l : List UInt8) (c : Nat) (hlc : l.length ≤ c) (hbt : Bts w a l) (hna : ∀ b o, a = some ⟨b, o, none⟩ → b ∉ S) (hE : st.unPre l ≠ 0) :
    Calls Tryz.prog 20 #[.pointer (some ⟨b, 0, none⟩), .slice a l.length c] w fun e w' => e = .returned (.tuple #[.agg #[.int .i64 0, .int .i64 0, .slice none 0 0], .int .i64 (st.unPre l)]) ∧ Outside S w w' ∧ GrpIn w' S b pm cs B st wk := by
  have hb : b ∈ S := by rw [h.blocks]; simp
  have h0 := h.zero hGl
  have hGb : 0 ∉ [b] := fun hm => h0 (by rw [show (0 : Nat) = b by simpa using hm]; exact hb)
  refine (un_raw h.home h.cells.lock (.slice a l.length c) (fun W m g v N w' => m = 0 ∧ g = 0 ∧ v = .slice none 0 0 ∧ N = st.unPre l ∧ Below W.heap.size W w' ∧ W.heap[b]? = some (.cells (cs.setIfInBounds 0 (i32 1)) 112 (0, 0))) (fun W hW hsz hWb => ?_) (fun W m g v N w' hW hR => ?_)).mono fun e w' ⟨m, g, v, N, he, W, w2, cs2, q1, q2, q3, ⟨q4, q5, q6, q7, q8, _⟩, q9, q10, q11⟩ => ⟨by rw [he, q4, q5, q6, q7], un_same h q1 q3 q8 q9 q10 q11⟩
  · have hcn : (cs.setIfInBounds 0 (i32 1))[ctrOff]? = some (ctr wk) := by rw [Array.getElem?_setIfInBounds, if_neg (by show 0 ≠ 330; omega)]; exact h.cells.cnt
    have hH : Home (some b) b 112 (cs.setIfInBounds 0 (i32 1)) W := Home.own hWb ⟨wk, hcn⟩
    have hlt := h.home.lt
    have hz := hW.size
    rcases h.cells with ⟨hcl, hG⟩ | ⟨hcl, hS⟩
    · have hG1 := hG.locked 1
      have hkl := kl_open hcl
      have hk := h.keep
      have hap := h.apart
      rw [hkl] at hk hap
      have hbtW : Bts W a l := hbt.out hW (fun k o e hm => hna k o e (by rw [show k = b by simpa using hm]; exact hb))
      by_cases hlen : l.length < 7 ∨ 47 < l.length
      · have hE3 : st.unPre l = 3 := by
          unfold St.unPre
          rw [hcl, if_neg (by simp), if_pos (by omega)]
        refine (read_place hH hG1 (.slice a l.length c) (fun W' _ => place_bad a l.length c st.n hlen W')).mono fun e w' ⟨u, h1, ⟨s, h2⟩, h3⟩ => ⟨0, 0, .slice none 0 0, u, 3, h1, ⟨_, _, _, rfl⟩, .inr (.inl ⟨s, h2⟩), rfl, rfl, rfl, hE3.symm, h3, hWb⟩
      · obtain ⟨fb, fo, rfl, hl⟩ := bts_cells hbtW (by omega)
        have hfl : fb < W.heap.size := block_lt_of_cell (hl 0 (by omega))
        by_cases hwho : st.n ≤ unWho l
        · have hE3 : st.unPre l = 3 := by
            unfold St.unPre
            rw [hcl, if_neg (by simp), if_pos (by omega)]
          refine (read_place hH hG1 (.slice (some ⟨fb, fo, none⟩) l.length c) (fun W' hW' => (place_any fb fo c l (by omega) (by omega) hlc st.n ok.n1 ok.n16 W' (fun i hi => by rw [hW'.cell (p := ⟨fb, fo + i, none⟩) hfl]; exact hl i hi)).mono fun e w' ⟨p1, p2⟩ => ?_)).mono fun e w' ⟨u, h1, ⟨s, h2⟩, h3⟩ => ⟨0, 0, .slice none 0 0, u, 3, h1, ⟨_, _, _, rfl⟩, .inr (.inl ⟨s, h2⟩), rfl, rfl, rfl, hE3.symm, h3, hWb⟩
          rcases p2 with ⟨_, s, p2⟩ | ⟨p3, _⟩
          · exact ⟨s, p2, p1⟩
          · omega
        · have hgl := unGen_lt l
          have hkW : KeepAt W pm (keptL st st.n) B st.keyP := hk.keep fun k hk' hm => hW.block k hk' (by
            rcases hm with rfl | hm
            · simpa using fun e => h.ne e.symm
            · obtain ⟨y, hy, rfl⟩ := List.mem_map.1 hm
              simpa using hap y hy)
          have hcase : ∃ E, st.unPre l = E ∧ ((unWho l = st.own ∧ E = 4) ∨ (unWho l ≠ st.own ∧ unGen l < (st.m (unWho l)).next ∧ unGen l ∉ (st.m (unWho l)).over ∧ E = 5) ∨ (unWho l ≠ st.own ∧ ¬ unGen l < (st.m (unWho l)).next ∧ (st.m (unWho l)).next + 5 < unGen l ∧ E = 6)) := by
            refine ⟨_, rfl, ?_⟩
            unfold St.unPre at hE ⊢
            rw [hcl, if_neg (by simp), if_neg (by omega)] at hE ⊢
            by_cases h1 : unWho l = st.own
            · rw [if_pos h1]; exact .inl ⟨h1, rfl⟩
            · rw [if_neg h1] at hE ⊢
              by_cases h2 : unGen l < (st.m (unWho l)).next ∧ unGen l ∉ (st.m (unWho l)).over
              · rw [if_pos h2]; exact .inr (.inl ⟨h1, h2.1, h2.2, rfl⟩)
              · rw [if_neg h2] at hE ⊢
                by_cases h3 : (st.m (unWho l)).next + 5 < unGen l
                · rw [if_pos h3]; exact .inr (.inr ⟨h1, by omega, h3, rfl⟩)
                · rw [if_neg h3] at hE; exact absurd rfl hE
          obtain ⟨E, hEE, hcase⟩ := hcase
          rw [hEE]
          refine (read_open (m := unWho l) (g := unGen l) hH hG1 (.slice (some ⟨fb, fo, none⟩) l.length c) (fun W' hW' => (place_any fb fo c l (by omega) (by omega) hlc st.n ok.n1 ok.n16 W' (fun i hi => by rw [hW'.cell (p := ⟨fb, fo + i, none⟩) hfl]; exact hl i hi)).mono fun e w' ⟨p1, p2⟩ => ?_) (fun W' v u w' => v = .slice none 0 0 ∧ (∃ s, u = faultV E s) ∧ Below W'.heap.size W' w') (fun W' hW' => (openAt_no ok (by omega) (by omega) (hH.below hW') hG1 (hkW.below hW') _ hcase).mono fun e w' ⟨s, p1, p2⟩ => ⟨_, _, p1, ⟨rfl, ⟨s, rfl⟩, p2⟩, .inr ⟨E, s, rfl⟩⟩) (fun W' v u w' hW' hR k hk1 hk2 => hR.2.2.block k hk2)).mono fun e w' ⟨y, z, h1, W', v, u, w2, h2, h3, ⟨h4, ⟨s, h5⟩, h6⟩, h7, h8⟩ => ?_
          · rcases p2 with ⟨p3, _⟩ | ⟨_, p3⟩
            · omega
            · exact ⟨p3, p1⟩
          · rcases h8 with ⟨q1, _⟩ | ⟨E', s', q1, q2, q3⟩
            · rw [h5] at q1; cases q1
            · rw [h5] at q1
              have hE' : E = E' := by
                have := Value.iface.inj q1
                have h9 := Value.agg.inj this.2
                simp at h9
                exact h9.1
              subst hE'
              refine ⟨0, 0, .slice none 0 0, z, E, by rw [h1, q2], ⟨_, _, _, rfl⟩, .inr (.inr ⟨_, _, s', q3⟩), rfl, rfl, rfl, rfl, ?_, hWb⟩
              exact (h2.trans (h6.mono h2.size)).trans (h7.toBelow W.heap.size (by have := h2.size; have := h6.size; omega) (fun i hi => by simp at hi; omega))
    · have hE9 : st.unPre l = 9 := by unfold St.unPre; rw [hcl, if_pos rfl]
      refine (read_closed hH (hS.locked 1).over (.slice a l.length c)).mono fun e w' ⟨u, h1, h2, h3⟩ => ⟨0, 0, .slice none 0 0, u, 9, h1, ⟨_, _, _, rfl⟩, .inr (.inl ⟨_, h2⟩), rfl, rfl, rfl, hE9.symm, h3, hWb⟩
  · obtain ⟨_, _, _, _, hbel, hWb⟩ := hR
    have hlt := h.home.lt
    have hz := hW.size
    exact ⟨fun k _ hk => hbel.block k hk, (hGl.out hW hGb).below hbel, _, by rw [hbel.block b (by omega)]; exact hWb, set_lock h.cells.lock⟩
end Go.Proofs.YtkpebabbnndopaaGreatDoor
