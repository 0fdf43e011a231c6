/- Protect. -/
import Derived.Test.YtcboagjfajdpeaaGrp2
import Derived.Test.YtcboagjfajdpeaaFrame
import Derived.WalkKit
import Derived.WalkSpells
import Derived.WalkLawsBesides
import Derived.Deep.WholeRow
import Derived.Deep.DeepCutAuto
import Derived.BigRegion
namespace Go.Proofs.Ytcboagjfajdpeaa
open Go.RowKit
set_option linter.unusedVariables false

theorem Grp.why {b wk : Nat} {cs : Array Value} {st : St} (ok : st.Ok) (hg : GrpAt cs st wk) (hk : GrpOk st wk) (w : World) (h : Home (some b) b 117 cs w) (a : Option Addr) (n c : Nat) :
    Calls Try.prog 51 #[.pointer (some ⟨b, 0, none⟩), .slice a n c] w fun e w' => e = .returned (.int .i64 (st.protErr n)) ∧ Below w.heap.size w w' := by
  have h16 : st.own < 16 := by have := ok.own; have := ok.n16; omega
  have hr := (hg.rat st.own h16).facts h
  have := why_any b st.own h16 (st.m st.own).next a n c w (by rw [h.cells.1]; exact hg.own) (by rw [h.cells.1]; exact hg.over) hr.2.1
  have e : (if 40 < n then (2 : Int) else if GenB (st.m st.own).next then 0 else 8) = st.protErr n := by
    unfold St.protErr
    rw [hk.closed]
    simp only [Bool.false_eq_true, if_false]
    split
    · rfl
    · by_cases hl : 65535 < (st.m st.own).next
      · rw [if_pos hl, if_neg]
        intro hgb
        have := ((genB_iff _).1 hgb).2
        omega
      · rw [if_neg hl, if_pos]
        exact (genB_iff _).2 ⟨by omega, by omega⟩
  rw [e] at this
  exact this
set_option maxHeartbeats 1000000 in
theorem gprotErr {b wk : Nat} {cs : Array Value} {st : St} (ok : st.Ok) (hg : GrpAt cs st wk) (hk : GrpOk st wk) (w : World) (h : Home (some b) b 117 cs w) (a : Option Addr) (n c : Nat) (he : st.protErr n ≠ 0) :
    Calls Try.prog 22 #[.pointer (some ⟨b, 0, none⟩), .slice a n c] w fun e w' => e = .returned (.tuple #[.slice none 0 0, .int .i64 (st.protErr n)]) ∧ Below w.heap.size w w' := by
  have HW : Hid (Calls Try.prog 51 #[.pointer (some ⟨b, 0, none⟩), .slice a n c] w fun e w' => e = .returned (.int .i64 (st.protErr n)) ∧ Below w.heap.size w w') := Grp.why ok hg hk w h a n c
  obtain ⟨E, hE⟩ : ∃ E, st.protErr n = E := ⟨_, rfl⟩
  rw [hE] at HW he ⊢
  have he2 : (E == 0) = false := by simpa using he
  clear hE hg hk h ok
  refine calls_of_wpB Try.func22 rfl ?_
  simp only [Try.ntmps22, List.size_toArray, List.length_cons, List.length_nil, Nat.reduceAdd, Nat.reduceSub, Array.replicate_succ,
     Array.replicate_zero, List.push_toArray, List.append_toArray, List.nil_append, List.cons_append]
  go_wp2_with fail
  refine HW.out.mono ?_
  rintro e w1 ⟨rfl, b1⟩
  go_wp2_with fail
  exact ⟨_, by simp [results, Try.results22, go_sem], rfl, b1⟩
set_option maxHeartbeats 4000000 in
set_option maxRecDepth 20000 in
theorem gprot {b wk : Nat} {cs : Array Value} {st : St} (ok : st.Ok) (hg : GrpAt cs st wk) (hk : GrpOk st wk) (w : World) (h : Home (some b) b 117 cs w) (a : Option Addr) (t : List UInt8) (c : Nat) (hl : t.length ≤ 100000) (ha : Bts w a t) (hna : ∀ k o, a = some ⟨k, o, none⟩ → k ≠ b) (he : st.protErr t.length = 0) (hn : (st.m st.own).next ≤ 65535) :
    Calls Try.prog 22 #[.pointer (some ⟨b, 0, none⟩), .slice a t.length c] w fun e w' => ∃ f cap, e = .returned (.tuple #[.slice (some ⟨f, 0, none⟩) (st.frame t).length cap, .int .i64 0]) ∧ (st.frame t).length ≤ cap ∧ w.heap.size ≤ f ∧ Outside [b] w w' ∧ w'.heap[f]? = some (.cells (RowB (st.frame t) cap) 5 (0, 0)) ∧ ∃ cs' n, n ≤ 2 * DepB 16 st.n st.own + 4 + (t.length + 7) / 8 ∧ 1 ≤ n ∧ Home (some b) b 117 cs' w' ∧ GrpAt cs' st.protNext (wk + n) := by
  have h16 : st.own < 16 := by have := ok.own; have := ok.n16; omega
  have HW : Hid (Calls Try.prog 51 #[.pointer (some ⟨b, 0, none⟩), .slice a t.length c] w fun e w' => e = .returned (.int .i64 0) ∧ Below w.heap.size w w') := by
    have := Grp.why ok hg hk w h a t.length c
    rw [he] at this
    exact this
  have hs : (st.begin st.own).ratS st.own = st.ratAt st.own (st.m st.own).next := by
    unfold St.ratS
    rw [begin_m ok, if_pos rfl]
    show (if (true && decide ((st.m st.own).next ≤ 65535)) = true then _ else _) = _
    rw [if_pos (by simp; exact hn)]
    rfl
  have hbd : ∀ i, 0 ≤ st.ratAt st.own (st.m st.own).next i ∧ st.ratAt st.own (st.m st.own).next i < 256 := RatB_bd _ (DerB_bd _ _ _) _
  have hRat : ∀ {cs : Array Value} {wk : Nat}, GrpAt cs (st.begin st.own) wk → RatAt cs (163 + st.own * 10) true (st.m st.own).next (st.ratAt st.own (st.m st.own).next) := fun hg => by
    have := hg.rat st.own h16
    rw [begin_m ok, if_pos rfl, hs] at this
    exact this
  have HRF : Hid (∀ W, Home (some b) b 117 cs W → Calls Try.prog 52 #[.pointer (some ⟨b, 0, none⟩), .int .i64 st.own] W fun e w' => e = .returned (.pointer (some ⟨b, 163 + st.own * 10, none⟩)) ∧ Outside [b] W w' ∧ ∃ cs' n, n ≤ 2 * DepB 16 st.n st.own + 1 ∧ Home (some b) b 117 cs' w' ∧ GrpAt cs' (st.begin st.own) (wk + n)) := fun W hW => rf_any ok hg hn W hW
  have HKY : Hid (∀ W cs wk, Home (some b) b 117 cs W → GrpAt cs (st.begin st.own) wk → Calls Try.prog 44 #[.pointer (some ⟨b, 163 + st.own * 10, none⟩), .func (.func 53) #[.pointer (some ⟨b, 0, none⟩)] #[]] W fun e w' => e = .returned (Agg8 (st.keyAt st.own (st.m st.own).next)) ∧ Tick (some b) 1 W w') := fun W cs wk hW hG => rkey_any (derive_g b) (st.m st.own).next true _ hbd b (163 + st.own * 10) _ cs W hW (hRat hG)
  have HFR : Hid (∀ W, Bts W a t → Has (some b) W → Calls Try.prog 54 #[.int .i64 st.own, .int .i64 (st.m st.own).next, Agg8 (st.keyAt st.own (st.m st.own).next), .slice a t.length c, .func (.func 53) #[.pointer (some ⟨b, 0, none⟩)] #[]] W fun e w' => ∃ g cap, e = .returned (.slice (some ⟨g, 0, none⟩) (st.frame t).length cap) ∧ (st.frame t).length ≤ cap ∧ W.heap.size ≤ g ∧ Tick (some b) ((t.length + 7) / 8 + 1) W w' ∧ w'.heap[g]? = some (.cells (RowB (st.frame t) cap) 5 (0, 0))) := fun W hB hq => frameOf_any (derive_g b) st.own (st.m st.own).next h16 (by omega) (st.keyAt st.own (st.m st.own).next) (DerB_bd _ _ _) a t c hl W hB hq (fun k o e => by have := hna k o e; simp; omega)
  have HTU : Hid (∀ W cs wk, Home (some b) b 117 cs W → GrpAt cs (st.begin st.own) wk → Calls Try.prog 43 #[.pointer (some ⟨b, 163 + st.own * 10, none⟩), .func (.func 53) #[.pointer (some ⟨b, 0, none⟩)] #[]] W fun e w' => e = .returned (.tuple #[]) ∧ Outside [b] W w' ∧ ∃ cs' n, n ≤ 1 ∧ Home (some b) b 117 cs' w' ∧ GrpAt cs' st.protNext (wk + n)) := fun W cs wk hW hG => gturn_any ok hG hn W hW
  have HOWN : Hid (∀ {cs : Array Value} {wk : Nat}, GrpAt cs (st.begin st.own) wk → cs[0]? = some (.int .i64 st.own)) := fun hg => hg.own
  have HGEN : Hid (∀ {cs : Array Value} {wk : Nat} {W : World}, GrpAt cs (st.begin st.own) wk → Home (some b) b 117 cs W → W.cell? ⟨b, 163 + st.own * 10 + 1, none⟩ = some (.int .i64 (st.m st.own).next)) := fun hg hW => ((hRat hg).facts hW).2.1
  have own0 : w.cell? ⟨b, 0, none⟩ = some (.int .i64 st.own) := by rw [h.cells.1]; exact hg.own
  have HH : Hid (Home (some b) b 117 cs w) := h
  have HA : Hid (Bts w a t) := ha
  have HNA : Hid (∀ k o, a = some ⟨k, o, none⟩ → k ≠ b) := hna
  have hbw := h.lt
  obtain ⟨FR, hFR⟩ : ∃ FR, st.frame t = FR := ⟨_, rfl⟩
  obtain ⟨K, hK⟩ : ∃ K, st.keyAt st.own (st.m st.own).next = K := ⟨_, rfl⟩
  obtain ⟨P, hP⟩ : ∃ P, 163 + st.own * 10 = P := ⟨_, rfl⟩
  obtain ⟨O, hO⟩ : ∃ O : Int, (st.own : Int) = O := ⟨_, rfl⟩
  obtain ⟨G, hG⟩ : ∃ G : Int, ((st.m st.own).next : Int) = G := ⟨_, rfl⟩
  rw [hFR] at HFR ⊢
  rw [hK] at HKY HFR
  rw [hP] at HRF HKY HTU HGEN
  rw [hO] at HRF HFR HOWN own0
  rw [hG] at HFR HGEN
  have hmf : ∀ (fn : Fn) (first cap : Array Value) (w : World), (Instr.makeFunc fn first cap).run Try.prog w = .ok (.func fn first cap) w := fun _ _ _ _ => rfl
  clear hFR hK hP hO hG h ha hna he hn hl hg hk hs hbd hRat h16
  refine calls_of_wpB Try.func22 rfl ?_
  simp only [Try.ntmps22, List.size_toArray, List.length_cons, List.length_nil, Nat.reduceAdd, Nat.reduceSub, Array.replicate_succ,
     Array.replicate_zero, List.push_toArray, List.append_toArray, List.nil_append, List.cons_append]
  go_wp2_with fail
  refine HW.out.mono ?_
  rintro e w1 ⟨rfl, b1⟩
  have H1 : Hid (Home (some b) b 117 cs w1) := HH.out.below b1
  have own1 : w1.cell? ⟨b, 0, none⟩ = some (.int .i64 O) := by rw [b1.cell (p := ⟨b, 0, none⟩) hbw]; exact own0
  have HO1 : Hid (Outside [b] w w1) := Outside.ofBelow b1
  have HA1 : Hid (Bts w1 a t) := HA.out.below b1
  clear b1 own0 HW HH HA
  go_wp2_with fail
  refine (HRF.out _ H1.out).mono ?_
  rintro e w2 ⟨rfl, o2, cs2, n2, hn2, hh2, hg2⟩
  have HO2 : Hid (Outside [b] w w2) := HO1.out.trans o2 (fun _ hi _ => hi)
  have HA2 : Hid (Bts w2 a t) := HA1.out.out o2 (fun k o e => by have := HNA.out k o e; simp; omega)
  have HH2 : Hid (Home (some b) b 117 cs2 w2) := hh2
  have HG2 : Hid (GrpAt cs2 (st.begin st.own) (wk + n2)) := hg2
  have HN2 : Hid (n2 ≤ 2 * DepB 16 st.n st.own + 1) := hn2
  clear o2 hh2 hg2 hn2 HO1 HA1 H1 HRF own1
  go_wp2_with fail
  refine (HKY.out _ cs2 _ HH2.out HG2.out).mono ?_
  rintro e w3 ⟨rfl, t3⟩
  obtain ⟨cs3, u3⟩ := HH2.out.tick t3
  have hg3 := HG2.out.tick u3.mv
  -- the key's own block
  obtain ⟨w4, hw4⟩ : ∃ w4, w3.alloc (.cells (Cells8 K) 23) = w4 := ⟨_, rfl⟩
  have b4 : Below w3.heap.size w3 w4 := by rw [← hw4]; exact (Below.refl _ w3).alloc (Nat.le_refl _) _
  have k4 : w4.heap[w3.heap.size]? = some (.cells (Cells8 K) 23 (0, 0)) := by rw [← hw4]; exact (MapKept.heap_alloc _ _).1
  have HW4 : Hid (w3.alloc (.cells (Cells8 K) 23) = w4) := hw4
  have HH4 : Hid (Home (some b) b 117 cs3 w4) := u3.home.below b4
  have HG3 : Hid (GrpAt cs3 (st.begin st.own) (wk + n2 + 1)) := hg3
  have HO4 : Hid (Outside [b] w w4) := (HO2.out.trans u3.out (fun _ hi _ => hi)).below b4
  have HA4 : Hid (Bts w4 a t) := (HA2.out.out u3.out (fun k o e => by have := HNA.out k o e; simp; omega)).below b4
  have hbk : w3.heap.size ≠ b := by have := u3.home.lt; omega
  have z3 : w.heap.size ≤ w3.heap.size := (HO2.out.trans u3.out (fun _ hi _ => hi)).size
  have own4 : w4.cell? ⟨b, 0, none⟩ = some (.int .i64 O) := by rw [HH4.out.cells.1]; exact HOWN.out hg3
  have gen4 : w4.cell? ⟨b, P + 1, none⟩ = some (.int .i64 G) := HGEN.out hg3 HH4.out
  obtain ⟨kc, _⟩ := row_facts k4
  have HK4 : Hid (w4.heap[w3.heap.size]? = some (.cells (Cells8 K) 23 (0, 0))) := k4
  clear t3 u3 hg3 b4 HO2 HA2 HH2 HG2 HKY HOWN HGEN hw4 k4
  go_upto_region 7 with fail
  rw [HW4.out]
  go_region_with (go_at_call 54; refine (HFR.out _ (HA4.out.below (Below.refl _ _).drew) HH4.out.drew.has).mono ?_; rintro e w5 ⟨f, cap, rfl, hcap, hf5, t5, r5⟩)
  all_goals
    obtain ⟨cs5, u5⟩ := HH4.out.drew.tick t5
    have HG5 : Hid (GrpAt cs5 (st.begin st.own) (wk + n2 + 1 + ((t.length + 7) / 8 + 1))) := HG3.out.tick u5.mv
    have HH5 : Hid (Home (some b) b 117 cs5 w5) := u5.home
    have HO5 : Hid (Outside [b] w w5) := HO4.out.drew.trans u5.out (fun _ hi _ => hi)
    have HK5 : Hid (w5.heap[w3.heap.size]? = some (.cells (Cells8 K) 23 (0, 0))) := u5.out.row HK4.out (by simp; omega)
    have hf6 : w4.heap.size ≤ f := hf5
    have hfk : w3.heap.size < f := by have := (Array.getElem?_eq_some_iff.1 HK4.out).1; omega
    have HF5 : Hid (w5.heap[f]? = some (.cells (RowB FR cap) 5 (0, 0))) := r5
    have HCP : Hid (FR.length ≤ cap) := hcap
    clear t5 u5 r5 hf5 hf6 hcap HG3 HH4 HO4 HA4 HFR HK4 kc own4 gen4
    go_wp2_with fail
    refine (HTU.out _ cs5 _ HH5.out HG5.out).mono ?_
    rintro e w6 ⟨rfl, o6, cs6, n6, hn6, hh6, hg6⟩
    have HK6 : Hid (w6.heap[w3.heap.size]? = some (.cells (Cells8 K) 23 (0, 0))) := o6.row HK5.out (by simp; omega)
    have HF6 : Hid (w6.heap[f]? = some (.cells (RowB FR cap) 5 (0, 0))) := o6.row HF5.out (by have := HH5.out.lt; simp; omega)
    have HO6 : Hid (Outside [b] w w6) := HO5.out.trans o6 (fun _ hi _ => hi)
    have HG6 : Hid (GrpAt cs6 st.protNext (wk + n2 + 1 + ((t.length + 7) / 8 + 1) + n6)) := hg6
    have HH6 : Hid (Home (some b) b 117 cs6 w6) := hh6
    have HN6 : Hid (n6 ≤ 1) := hn6
    clear o6 hh6 hg6 hn6 HTU HO5 HH5 HG5 HK5 HF5
    go_wp2_with fail
    refine ⟨_, _, _, _, _, _, rfl, clear_door w3.heap.size K w6 _ HK6.out _ _, _, by simp [results, Try.results22, go_sem], f, cap, rfl, HCP.out, by omega, ?_, ?_, cs6, n2 + 1 + ((t.length + 7) / 8 + 1) + n6, ?_, by omega, ?_, ?_⟩
    · exact HO6.out.setRow _ (fun hl => by omega) _
    · rw [setRow_other _ _ _ _ (by omega)]; exact HF6.out
    · have := HN2.out; have := HN6.out; omega
    · exact ⟨by rw [setRow_other _ _ _ _ (fun e => hbk e.symm)]; exact HH6.out.row, .inr rfl, HH6.out.cnt⟩
    · have := HG6.out
      rw [show wk + (n2 + 1 + ((t.length + 7) / 8 + 1) + n6) = wk + n2 + 1 + ((t.length + 7) / 8 + 1) + n6 by omega]
      exact this
end Go.Proofs.Ytcboagjfajdpeaa
