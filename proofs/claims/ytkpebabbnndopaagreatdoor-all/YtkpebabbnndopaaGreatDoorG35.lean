import Derived.Test.YtkpebabbnndopaaGreatDoorG22
import Derived.Test.YtkpebabbnndopaaGreatDoorG30
import Derived.Test.YtkpebabbnndopaaGreatDoorG34
import Derived.WalkKit
import Derived.WalkSpells
import Derived.WalkLawsBesides
/- Protect and Dump, of a group, whatever its state. -/
namespace Go.Proofs.YtkpebabbnndopaaGreatDoor
open Go.RowKit
set_option linter.unusedVariables false
set_option linter.unusedSimpArgs false

theorem why_shut {b : Nat} {w : World} (h : w.cell? ⟨b, 7, none⟩ = some (.bool true)) (sv : Value) :
    Calls Tryz.prog 43 #[.pointer (some ⟨b, 0, none⟩), sv] w fun e w' => e = .returned (faultV 9 strOver) ∧ Below w.heap.size w w' := by
  have HOV : Hid (∀ W, Calls Tryz.prog 58 #[] W fun e w' => e = .returned (faultV 9 strOver) ∧ w' = W) := over_any
  go_enter Tryz.func43, Tryz.ntmps43
  go_wp2_with (go_at_call 58; refine (HOV.out _).mono ?_; rintro e w' ⟨rfl, rfl⟩)
  go_ret
  exact ⟨rfl, Below.refl _ _⟩
set_option maxHeartbeats 1000000 in
theorem protErr_raw {b : Nat} {cs : Array Value} {w0 : World} (h0 : Home (some b) b 112 cs w0) (hlk : cs[0]? = some (i32 0)) (hG0 : Glob w0) (a : Option Addr) (n c : Nat) (E : Int) (s : ByteArray)
    (HW0 : ∀ W, W.heap[b]? = some (.cells (cs.setIfInBounds 0 (i32 1)) 112 (0, 0)) → Calls Tryz.prog 43 #[.pointer (some ⟨b, 0, none⟩), .slice a n c] W fun e w' => e = .returned (faultV E s) ∧ Below W.heap.size W w') :
    Calls Tryz.prog 17 #[.pointer (some ⟨b, 0, none⟩), .slice a n c] w0 fun e w' => e = .returned (.tuple #[.slice none 0 0, .int .i64 E]) ∧ Outside [b] w0 w' ∧ w'.heap[b]? = w0.heap[b]? := by
  obtain ⟨w, hw⟩ : ∃ w, w0.setRow b (cs.setIfInBounds 0 (i32 1)) = w := ⟨_, rfl⟩
  have r1 : w.heap[b]? = some (.cells (cs.setIfInBounds 0 (i32 1)) 112 (0, 0)) := by rw [← hw]; exact setRow_heap _ _ _ _ _ _ h0.row
  have o1 : Outside [b] w0 w := by rw [← hw]; exact (Outside.refl [b] w0).setRow b (fun _ => by simp) _
  have HLK : Hid (Calls Tryz.prog 41 #[.pointer (some ⟨b, 0, none⟩)] w0 fun e w' => e = .returned (.tuple #[]) ∧ w' = w) := by rw [← hw]; exact lock_row b 0 cs _ w0 h0.row hlk
  have HGL : Hid (Glob w) := hG0.out o1 (Glob.ne hG0 h0 hlk)
  have HW : Hid (Calls Tryz.prog 43 #[.pointer (some ⟨b, 0, none⟩), .slice a n c] w fun e w' => e = .returned (faultV E s) ∧ Below w.heap.size w w') := HW0 w r1
  have HN : Hid (∀ W, Glob W → Calls Tryz.prog 44 #[faultV E s] W fun x w' => x = .returned (.int .i64 E) ∧ Below W.heap.size W w') := fun W hW => num_fault E s W hW
  have HU : Hid (∀ W, Below w.heap.size w W → CallsD Tryz.prog 42 #[.pointer (some ⟨b, 0, none⟩)] .returning W fun e u' w' => (∃ v, e = .returned v) ∧ u' = .returning ∧ Outside [b] w0 w' ∧ w'.heap[b]? = w0.heap[b]?) := fun W hb => by
    have hbw : b < w.heap.size := (Array.getElem?_eq_some_iff.1 r1).1
    have hrW : W.heap[b]? = some (.cells (cs.setIfInBounds 0 (i32 1)) 112 (0, 0)) := by rw [hb.block b hbw]; exact r1
    have hu := unlock_row b 0 _ _ W hrW (set_lock hlk)
    rw [set_back hlk] at hu
    refine hu.mono fun e u' w' ⟨h1, h2, h3⟩ => ⟨h1, h2, ?_, ?_⟩
    · rw [h3]; exact (o1.below hb).setRow b (fun _ => by simp) _
    · rw [h3, setRow_heap _ _ _ _ _ _ hrW, h0.row]
  clear h0 hlk hG0 HW0 r1 o1 hw
  refine calls_of_wpM Tryz.func17 rfl ?_
  simp only [Tryz.ntmps17, List.size_toArray, List.length_cons, List.length_nil, Nat.reduceAdd, Nat.reduceSub, Array.replicate_succ,
     Array.replicate_zero, List.push_toArray, List.append_toArray, List.nil_append, List.cons_append]
  go_wp2_with (go_at_call 41; refine HLK.out.mono ?_; rintro e w' ⟨rfl, hw'⟩; rw [hw']; clear hw' w')
  refine HW.out.mono ?_
  rintro e w1 ⟨rfl, b1⟩
  have HB1 : Hid (Below w.heap.size w w1) := b1
  have HG1 : Hid (Glob w1) := HGL.out.below b1
  clear b1
  go_wp2_with fail
  refine (HN.out _ HG1.out).mono ?_
  rintro e w2 ⟨rfl, b2⟩
  have HB2 : Hid (Below w.heap.size w w2) := HB1.out.trans (b2.mono HB1.out.size)
  clear b2
  go_wp2_with fail
  refine .inr ⟨_, _, 42, #[.pointer (some ⟨b, 0, none⟩)], rfl, by simp [go_sem], (HU.out _ HB2.out).mono fun e u' w' ⟨h1, h2, h3, h4⟩ => ⟨h1, h2, _, by simp [results, Tryz.results17, go_sem], rfl, h3, h4⟩⟩
/-- nothing but b's row was touched, and that is as it was -/
theorem GrpIn.same {w w' : World} {S : List Nat} {b pm : Nat} {cs : Array Value} {B : PlI → Nat} {st : St} {wk : Nat} (h : GrpIn w S b pm cs B st wk) (ho : Outside [b] w w') (hr : w'.heap[b]? = w.heap[b]?) : Outside S w w' ∧ GrpIn w' S b pm cs B st wk := by
  have hb : b ∈ S := by rw [h.blocks]; simp
  refine ⟨ho.mono (fun i hi _ => by simp at hi; rw [hi]; exact hb), h.kept fun k hk hm => ?_⟩
  by_cases e : k = b
  · rw [e, hr]
  · exact ho.block k hk (by simpa using e)
theorem grp_protErr {w : World} {S : List Nat} {g : Value} {st : St} {wk : Nat} (ok : st.Ok) (h : Grp w S g st wk) (hGl : Glob w) (a : Option Addr) (n c : Nat) (he : st.protErr n ≠ 0) :
    Calls Tryz.prog 17 #[g, .slice a n c] w fun e w' => e = .returned (.tuple #[.slice none 0 0, .int .i64 (st.protErr n)]) ∧ Outside S w w' ∧ ∃ S', Fresh w S S' ∧ Grp w' S' g st wk := by
  obtain ⟨b, pm, cs, B, rfl, h⟩ := h
  obtain ⟨E, hE⟩ : ∃ E, st.protErr n = E := ⟨_, rfl⟩
  have hcn : (cs.setIfInBounds 0 (i32 1))[ctrOff]? = some (ctr wk) := by rw [Array.getElem?_setIfInBounds, if_neg (by show 0 ≠ 330; omega)]; exact h.cells.cnt
  have hraw : ∃ s, ∀ W, W.heap[b]? = some (.cells (cs.setIfInBounds 0 (i32 1)) 112 (0, 0)) → Calls Tryz.prog 43 #[.pointer (some ⟨b, 0, none⟩), .slice a n c] W fun e w' => e = .returned (faultV E s) ∧ Below W.heap.size W w' := by
    rcases h.cells with ⟨hcl, hG⟩ | ⟨hcl, hS⟩
    · obtain ⟨s, hs⟩ : ∃ s, whyV st n = faultV E s := by
        rcases whyV_eq hcl n with ⟨h1, _⟩ | ⟨_, s, h2⟩
        · exact absurd h1 he
        · exact ⟨s, by rw [h2, hE]⟩
      refine ⟨s, fun W hW => ?_⟩
      rw [← hs]
      exact Grp.why ok (hG.locked 1) W (Home.own hW ⟨wk, hcn⟩) a n c
    · have e9 : E = 9 := by rw [← hE]; unfold St.protErr; rw [hcl, if_pos rfl]
      subst e9
      exact ⟨strOver, fun W hW => why_shut (by rw [cell_of_row _ _ _ _ _ _ hW]; exact (hS.locked 1).over) _⟩
  obtain ⟨s, hs⟩ := hraw
  rw [hE]
  refine (protErr_raw h.home h.cells.lock hGl a n c E s hs).mono fun e w' ⟨h1, h2, h3⟩ => ?_
  obtain ⟨x1, x2⟩ := h.same h2 h3
  exact ⟨h1, x1, S, Fresh.refl _ _, b, pm, cs, B, rfl, x2⟩
theorem grp_prot {w : World} {S : List Nat} {g : Value} {st : St} {wk : Nat} (ok : st.Ok) (h : Grp w S g st wk) (a : Option Addr) (t : List UInt8) (c : Nat) (hl : t.length ≤ 100000) (hbt : Bts w a t) (hna : ∀ b o, a = some ⟨b, o, none⟩ → b ∉ S) (he : st.protErr t.length = 0) :
    Calls Tryz.prog 17 #[g, .slice a t.length c] w fun e w' => Outside S w w' ∧ ∃ S' wk' f o cap, Fresh w S S' ∧ Grp w' S' g st.protNext wk' ∧ wk < wk' ∧ wk' ≤ wk + st.bound st.own (st.m st.own).next t.length ∧
      e = .returned (.tuple #[.slice (some ⟨f, o, none⟩) (st.frame t).length cap, .int .i64 0]) ∧ w.heap.size ≤ f ∧ f ∉ S' ∧ (st.frame t).length ≤ cap ∧ Bts w' (some ⟨f, o, none⟩) (st.frame t) ∧ ∀ i, i < (st.frame t).length → w'.frozen? ⟨f, o + i, none⟩ = false := by
  obtain ⟨b, pm, cs, B, rfl, h⟩ := h
  have hb : b ∈ S := by rw [h.blocks]; simp
  obtain ⟨he1, he2⟩ := protErr_zero he
  have hcl : st.closed = false := by
    cases hc : st.closed with
    | false => rfl
    | true => unfold St.protErr at he; rw [hc, if_pos rfl] at he; cases he
  have hG : GrpAt cs st wk pm 0 := by
    rcases h.cells with ⟨_, hG⟩ | ⟨hc, _⟩
    · exact hG
    · rw [hcl] at hc; cases hc
  have hkl : st.protNext.kl = st.kl := by rw [kl_open (st := st.protNext) hcl, kl_open hcl]; exact keptL_protNext ok st.n
  refine (gprot ok hG hcl w h.home a t c hl hbt (fun k o e hk => hna k o e (hk ▸ hb)) he he2).mono fun e w' ⟨f, cap, e1, e2, e3, e4, e5, cs', n, e6, e7, e8, e9⟩ => ?_
  refine ⟨e4.mono (fun i hi _ => by simp at hi; rw [hi]; exact hb), S, wk + n, f, 0, cap, Fresh.refl _ _, ⟨b, pm, cs', B, rfl, ⟨by rw [hkl]; exact h.blocks, h.ne, by rw [hkl]; exact h.apart, e8, ?_, h.asc.protNext ok, .inl ⟨hcl, e9⟩⟩⟩, by omega, ?_, e1, e3, fun hf => ?_, e2, ?_, ?_⟩
  · rw [hkl]
    show KeepAt w' pm st.kl B st.keyP
    refine h.keep.keep fun k hk hm => e4.block k hk (by
      rcases hm with rfl | hm
      · simpa using fun e => h.ne e.symm
      · obtain ⟨y, hy, rfl⟩ := List.mem_map.1 hm
        simpa using h.apart y hy)
  · unfold St.bound
    omega
  · have := h.lt f hf
    omega
  · refine .inr ⟨f, 0, rfl, fun i hi => ?_⟩
    rw [Nat.zero_add, cell_of_row _ _ _ _ _ _ e5, RowB_at _ _ _ hi]
  · intro i hi
    simp [World.frozen?, e5]
theorem heads_more {st : St} (ok : st.Ok) (k : Nat) : st.heads (st.n + k) = st.heads st.n := by
  induction k with
  | zero => rfl
  | succ k ih =>
    have hm : st.m (st.n + k) = ⟨false, 0, []⟩ := by unfold St.m; rw [List.getD_eq_getElem?_getD, List.getElem?_eq_none (by rw [ok.len]; omega)]; rfl
    rw [show st.n + (k + 1) = (st.n + k) + 1 from rfl, St.heads, ih, hm]
    simp
theorem heads_16 {st : St} (ok : st.Ok) : st.heads 16 = st.heads st.n := by
  have h := heads_more ok (16 - st.n)
  have := ok.n16
  rwa [show st.n + (16 - st.n) = 16 by omega] at h
theorem headsG_none (nx : Nat → Nat) (ss : Nat → Nat → Int) (n : Nat) : headsG (fun _ => false) nx ss n = [] := by
  induction n with
  | zero => rfl
  | succ n ih => rw [headsG, ih]; rfl
theorem grp_dump {w : World} {S : List Nat} {g : Value} {st : St} {wk : Nat} (ok : st.Ok) (h : Grp w S g st wk) :
    Calls Tryz.prog 21 #[g] w fun e w' => Outside S w w' ∧ ∃ S' p cap, Fresh w S S' ∧ Grp w' S' g st wk ∧ e = .returned (.slice p st.dump.length cap) ∧
      (st.dump = [] ∨ ∃ b o, p = some ⟨b, o, none⟩ ∧ st.dump.length ≤ cap ∧ w.heap.size ≤ b ∧ b ∉ S' ∧ (∀ j u, (itCells st.dump)[j]? = some u → w'.cell? ⟨b, o + j, none⟩ = some u) ∧ ∀ j, j < st.dump.length * 12 → w'.frozen? ⟨b, o + j, none⟩ = false) := by
  obtain ⟨b, pm, cs, B, rfl, h⟩ := h
  have hraw : Calls Tryz.prog 21 #[.pointer (some ⟨b, 0, none⟩)] w fun e w' => ∃ v, e = .returned v ∧ Outside [b] w w' ∧ w'.heap[b]? = w.heap[b]? ∧ Its w' w.heap.size v st.dump := by
    rcases h.cells with ⟨hcl, hG⟩ | ⟨hcl, hS⟩
    · have hkl := kl_open hcl
      have hk := h.keep
      have hap := h.apart
      rw [hkl] at hk hap
      have hd : st.dump = st.parts 16 0 st.n ++ headsG (fun i => (st.m i).begun) (fun i => (st.m i).next) st.ratS 16 ++ (sortP (keptL st st.n)).map (itG st.keyP) := by
        unfold St.dump
        rw [hcl, if_neg (by simp), ← heads_eq, heads_16 ok, keptL_sort h.asc, kepts_eq]
        rfl
      rw [hd]
      exact gdump (L := st.parts 16 0 st.n) hG.head.1 hG.tree (map_node st 16 0 st.n) hG.rat (fun i => (ok.m i).1) hG.passed hk (by have := keptL_len ok st.n; have := ok.n16; omega) (fun x hx => by
        obtain ⟨i, k, h1, h2, rfl⟩ := keptL_mem.1 hx
        exact ⟨i, k, by have := ok.n16; omega, rfl⟩) (fun e => h.ne e.symm) hap h.home
    · have hk := h.keep
      rw [kl_shut hcl] at hk
      have hd : st.dump = ([] : List It) ++ headsG (fun _ => false) (fun _ => 0) (fun _ _ => 0) 16 ++ (sortP []).map (itG st.keyP) := by
        unfold St.dump
        rw [hcl, if_pos rfl, headsG_none]
        have : sortP [] = [] := List.eq_nil_of_length_eq_zero (sortP_len [])
        rw [this]
        rfl
      rw [hd]
      exact gdump (L := []) hS.head.1 hS.tree (fun x hx => by cases hx) hS.rat (fun _ => by omega) hS.passed hk (by simp) (fun x hx => by cases hx) (fun e => h.ne e.symm) (fun x hx => by cases hx) h.home
  refine hraw.mono fun e w' ⟨v, e1, e2, e3, e4⟩ => ?_
  obtain ⟨x1, x2⟩ := h.same e2 e3
  rcases e4.2 with ⟨y1, y2⟩ | ⟨f, cap, cur, y1, y2, y3, y4⟩
  · refine ⟨x1, S, none, 0, Fresh.refl _ _, ⟨b, pm, cs, B, rfl, x2⟩, ?_, .inl (List.eq_nil_of_length_eq_zero y2)⟩
    rw [e1, y1, y2]
  · refine ⟨x1, S, some ⟨f, 0, none⟩, cap, Fresh.refl _ _, ⟨b, pm, cs, B, rfl, x2⟩, by rw [e1, y1], .inr ⟨f, 0, rfl, y4.1, y2, fun hf => ?_, fun j u hj => ?_, fun j hj => ?_⟩⟩
    · have := h.lt f hf; omega
    · rw [y1] at e4
      rw [Nat.zero_add]
      exact e4.cells.2 j u hj
    · simp [World.frozen?, y3]
end Go.Proofs.YtkpebabbnndopaaGreatDoor
