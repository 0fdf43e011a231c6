import Derived.Test.YtkpebabbnndopaaGreatDoorG15
import Derived.Test.YtkpebabbnndopaaGreatDoorG20
import Derived.WalkKit
import Derived.WalkSpells
import Derived.WalkLawsBesides
import Derived.Deep.WholeRow
import Derived.Deep.DeepCutAuto
import Derived.Deep.QuietTactic
import Derived.Deep.CutRange
import Derived.BigQuiet
import Derived.BigRegion
/- Protect. -/
namespace Go.Proofs.YtkpebabbnndopaaGreatDoor
open Go.RowKit
set_option linter.unusedVariables false

/-- why a text is not protected, as an error value -/
def whyV (st : St) (n : Nat) : Value := if 40 < n then faultV 2 strLong else if GenB (st.m st.own).next then .nilIface else faultV 8 strSpent
theorem Grp.why {b wk pm : Nat} {lk : Int} {cs : Array Value} {st : St} (ok : st.Ok) (hg : GrpAt cs st wk pm lk) (w : World) (h : Home (some b) b 112 cs w) (a : Option Addr) (n c : Nat) :
    Calls Tryz.prog 43 #[.pointer (some ⟨b, 0, none⟩), .slice a n c] w fun e w' => e = .returned (whyV st n) ∧ Below w.heap.size w w' := by
  have h16 : st.own < 16 := by have := ok.own; have := ok.n16; omega
  have hr := (hg.rat st.own h16).facts h
  exact why_any b st.own h16 (st.m st.own).next a n c w (by rw [h.cells.1]; exact hg.own) (by rw [h.cells.1]; exact hg.over) hr.2.1
theorem whyV_eq {st : St} (hk : st.closed = false) (n : Nat) : (st.protErr n = 0 ∧ whyV st n = .nilIface) ∨ (st.protErr n ≠ 0 ∧ ∃ s, whyV st n = faultV (st.protErr n) s) := by
  unfold whyV St.protErr
  rw [hk]
  simp only [Bool.false_eq_true, if_false]
  split
  · exact .inr ⟨by decide, _, rfl⟩
  · by_cases hl : 65535 < (st.m st.own).next
    · rw [if_pos hl, if_neg]
      · exact .inr ⟨by decide, _, rfl⟩
      · intro hgb
        have := ((genB_iff _).1 hgb).2
        omega
    · rw [if_neg hl, if_pos]
      · exact .inl ⟨rfl, rfl⟩
      · exact (genB_iff _).2 ⟨by omega, by omega⟩
/-- what a call that locks needs: the mutex is taken, and given back -/
theorem GrpAt.lock {b wk pm : Nat} {cs : Array Value} {st : St} {w : World} (hg : GrpAt cs st wk pm 0) (h : Home (some b) b 112 cs w) :
    ∃ cs1 w1, cs1 = cs.setIfInBounds 0 (i32 1) ∧ GrpAt cs1 st wk pm 1 ∧ Home (some b) b 112 cs1 w1 ∧ Outside [b] w w1 ∧ (∀ k, k ≠ b → w1.heap[k]? = w.heap[k]?) ∧ Calls Tryz.prog 41 #[.pointer (some ⟨b, 0, none⟩)] w fun e w' => e = .returned (.tuple #[]) ∧ w' = w1 := by
  have g1 := hg.locked 1
  exact ⟨_, _, rfl, g1, Home.own (setRow_heap _ _ _ _ _ _ h.row) ⟨wk, g1.cnt⟩, (Outside.refl [b] w).setRow b (fun _ => by simp) _, fun k hk => setRow_other _ _ _ _ hk, lock_row b 0 cs _ w h.row hg.head.1⟩
theorem GrpAt.unlock {b wk pm : Nat} {cs : Array Value} {st : St} {w : World} (hg : GrpAt cs st wk pm 1) (h : Home (some b) b 112 cs w) :
    CallsD Tryz.prog 42 #[.pointer (some ⟨b, 0, none⟩)] .returning w fun e u' w' => (∃ v, e = .returned v) ∧ u' = .returning ∧ Outside [b] w w' ∧ (∀ k, k ≠ b → w'.heap[k]? = w.heap[k]?) ∧ Home (some b) b 112 (cs.setIfInBounds 0 (i32 0)) w' ∧ GrpAt (cs.setIfInBounds 0 (i32 0)) st wk pm 0 := by
  have g1 := hg.locked 0
  refine (unlock_row b 0 cs _ w h.row hg.head.1).mono fun e u' w' ⟨h1, h2, h3⟩ => ⟨h1, h2, ?_, ?_, ?_, g1⟩
  · rw [h3]; exact (Outside.refl [b] w).setRow b (fun _ => by simp) _
  · intro k hk; rw [h3]; exact setRow_other _ _ _ _ hk
  · rw [h3]; exact Home.own (setRow_heap _ _ _ _ _ _ h.row) ⟨wk, g1.cnt⟩
theorem Glob.ne {b : Nat} {cs : Array Value} {t : TypeId} {w : World} {v : Int} (h : Glob w) (hh : Home (some b) b t cs w) (hl : cs[0]? = some (i32 v)) : 0 ∉ [b] := fun hm => by
  have e : 0 = b := by simpa using hm
  have h1 : w.cell? ⟨0, 0, none⟩ = some errT := h
  have h2 := hh.cells.1 0
  rw [← e, h1, hl] at h2
  cases h2
set_option maxHeartbeats 1000000 in
theorem gprotErr {b wk pm : Nat} {cs0 : Array Value} {st : St} (ok : st.Ok) (hg0 : GrpAt cs0 st wk pm 0) (hk : st.closed = false) (w0 : World) (h0 : Home (some b) b 112 cs0 w0) (hG0 : Glob w0) (a : Option Addr) (n c : Nat) (he : st.protErr n ≠ 0) :
    Calls Tryz.prog 17 #[.pointer (some ⟨b, 0, none⟩), .slice a n c] w0 fun e w' => e = .returned (.tuple #[.slice none 0 0, .int .i64 (st.protErr n)]) ∧ Outside [b] w0 w' ∧ ∃ cs', Home (some b) b 112 cs' w' ∧ GrpAt cs' st wk pm 0 := by
  obtain ⟨cs, w, _, hg, h, o1, hoth, HLK0⟩ := hg0.lock h0
  have hG : Glob w := hG0.out o1 (Glob.ne hG0 h0 hg0.head.1)
  have HLK : Hid (Calls Tryz.prog 41 #[.pointer (some ⟨b, 0, none⟩)] w0 fun e w' => e = .returned (.tuple #[]) ∧ w' = w) := HLK0
  have HW0 := Grp.why ok hg w h a n c
  obtain ⟨E, hE⟩ : ∃ E, st.protErr n = E := ⟨_, rfl⟩
  obtain ⟨s, hs⟩ : ∃ s, whyV st n = faultV E s := by
    rcases whyV_eq hk n with ⟨h1, _⟩ | ⟨_, s, h2⟩
    · exact absurd h1 he
    · exact ⟨s, by rw [h2, hE]⟩
  rw [hs] at HW0
  have HW : Hid (Calls Tryz.prog 43 #[.pointer (some ⟨b, 0, none⟩), .slice a n c] w fun e w' => e = .returned (faultV E s) ∧ Below w.heap.size w w') := HW0
  have HN : Hid (∀ W, Glob W → Calls Tryz.prog 44 #[faultV E s] W fun x w' => x = .returned (.int .i64 E) ∧ Below W.heap.size W w') := fun W hW => num_fault E s W hW
  have HGL : Hid (Glob w) := hG
  have HGH : Hid (GrpAt cs st wk pm 1 ∧ Home (some b) b 112 cs w ∧ Outside [b] w0 w) := ⟨hg, h, o1⟩
  rw [hE] at he ⊢
  clear hE hg hk h ok HW0 hG hs he HLK0 hg0 h0 hG0 o1 hoth
  refine calls_of_wpM Tryz.func17 rfl ?_
  simp only [Tryz.ntmps17, List.size_toArray, List.length_cons, List.length_nil, Nat.reduceAdd, Nat.reduceSub, Array.replicate_succ,
     Array.replicate_zero, List.push_toArray, List.append_toArray, List.nil_append, List.cons_append]
  go_wp2_with (go_at_call 41; refine HLK.out.mono ?_; rintro e w' ⟨rfl, hw'⟩; rw [hw']; clear hw' w')
  refine HW.out.mono ?_
  rintro e w1 ⟨rfl, b1⟩
  have HB1 : Hid (Below w.heap.size w w1) := b1
  have HG1 : Hid (Glob w1) := HGL.out.below b1
  clear b1
  go_wp2_with fail
  refine (HN.out _ HG1.out).mono ?_
  rintro e w2 ⟨rfl, b2⟩
  have HB2 : Hid (Below w.heap.size w w2) := HB1.out.trans (b2.mono HB1.out.size)
  clear b2
  go_wp2_with fail
  refine .inr ⟨_, _, 42, #[.pointer (some ⟨b, 0, none⟩)], rfl, by simp [go_sem], (HGH.out.1.unlock (HGH.out.2.1.below HB2.out)).mono fun e u' w' ⟨h1, h2, h3, _, h4, h5⟩ => ⟨h1, h2, _, by simp [results, Tryz.results17, go_sem], rfl, (HGH.out.2.2.below HB2.out).trans h3 (fun _ hi _ => hi), _, h4, h5⟩⟩
set_option maxHeartbeats 4000000 in
set_option maxRecDepth 20000 in
theorem gprot {b wk pm : Nat} {cs0 : Array Value} {st : St} (ok : st.Ok) (hg0 : GrpAt cs0 st wk pm 0) (hk : st.closed = false) (w0 : World) (h0 : Home (some b) b 112 cs0 w0) (a : Option Addr) (t : List UInt8) (c : Nat) (hl : t.length ≤ 100000) (ha0 : Bts w0 a t) (hna : ∀ k o, a = some ⟨k, o, none⟩ → k ≠ b) (he : st.protErr t.length = 0) (hn : (st.m st.own).next ≤ 65535) :
    Calls Tryz.prog 17 #[.pointer (some ⟨b, 0, none⟩), .slice a t.length c] w0 fun e w' => ∃ f cap, e = .returned (.tuple #[.slice (some ⟨f, 0, none⟩) (st.frame t).length cap, .int .i64 0]) ∧ (st.frame t).length ≤ cap ∧ w0.heap.size ≤ f ∧ Outside [b] w0 w' ∧ w'.heap[f]? = some (.cells (RowB (st.frame t) cap) 5 (0, 0)) ∧ ∃ cs' n, n ≤ 2 * DepB 16 st.n st.own + 4 + (t.length + 7) / 8 ∧ 1 ≤ n ∧ Home (some b) b 112 cs' w' ∧ GrpAt cs' st.protNext (wk + n) pm 0 := by
  obtain ⟨cs, w, _, hg, h, o1, hoth, HLK0⟩ := hg0.lock h0
  have ha : Bts w a t := ha0.out o1 (fun k o e => by have := hna k o e; simp; exact this)
  have HLK : Hid (Calls Tryz.prog 41 #[.pointer (some ⟨b, 0, none⟩)] w0 fun e w' => e = .returned (.tuple #[]) ∧ w' = w) := HLK0
  have HO0 : Hid (Outside [b] w0 w) := o1
  have z0 : w0.heap.size ≤ w.heap.size := o1.size
  clear HLK0 hg0 h0 ha0 o1 hoth
  have h16 : st.own < 16 := by have := ok.own; have := ok.n16; omega
  have HW : Hid (Calls Tryz.prog 43 #[.pointer (some ⟨b, 0, none⟩), .slice a t.length c] w fun e w' => e = .returned .nilIface ∧ Below w.heap.size w w') := by
    have := Grp.why ok hg w h a t.length c
    rcases whyV_eq hk t.length with ⟨_, h2⟩ | ⟨h2, _⟩
    · rw [h2] at this
      exact this
    · exact absurd he h2
  have hbd : ∀ i, 0 ≤ st.ratAt st.own (st.m st.own).next i ∧ st.ratAt st.own (st.m st.own).next i < 256 := RatB_bd _ (DerB_bd _ _ _) _
  have hRat : ∀ {cs : Array Value} {wk : Nat}, GrpAt cs (st.begin st.own) wk pm 1 → RatAt cs (169 + st.own * 10) true (st.m st.own).next (st.ratAt st.own (st.m st.own).next) := fun hg => by
    have := hg.rat st.own h16
    rw [begin_rat ok ok.own hn, begin_m ok ok.own, if_pos rfl] at this
    exact this
  have HRF : Hid (∀ W, Home (some b) b 112 cs W → Calls Tryz.prog 45 #[.pointer (some ⟨b, 169 + st.own * 10, none⟩), .pointer (some ⟨b, 8, none⟩), .int .i64 st.own, .func (.func 46) #[.pointer (some ⟨b, 0, none⟩)] #[]] W fun e w' => e = .returned (.tuple #[]) ∧ Outside [b] W w' ∧ ∃ cs' n, n ≤ 2 * DepB 16 st.n st.own + 1 ∧ Home (some b) b 112 cs' w' ∧ GrpAt cs' (st.begin st.own) (wk + n) pm 1) := fun W hW => rf_any ok hg hn W hW
  have ix := ratIndex b st.own h16
  have HKY : Hid (∀ W cs wk, Home (some b) b 112 cs W → GrpAt cs (st.begin st.own) wk pm 1 → Calls Tryz.prog 47 #[.pointer (some ⟨b, 169 + st.own * 10, none⟩), .func (.func 46) #[.pointer (some ⟨b, 0, none⟩)] #[]] W fun e w' => e = .returned (Agg8 (st.keyAt st.own (st.m st.own).next)) ∧ Tick (some b) 1 W w') := fun W cs wk hW hG => rkey_any (derive_g b) (st.m st.own).next true _ hbd b (169 + st.own * 10) _ cs W hW (hRat hG)
  have HFR : Hid (∀ W, Bts W a t → Has (some b) W → Calls Tryz.prog 48 #[.agg #[.int .i64 st.own, .int .i64 (st.m st.own).next], Agg8 (st.keyAt st.own (st.m st.own).next), .slice a t.length c, .func (.func 46) #[.pointer (some ⟨b, 0, none⟩)] #[]] W fun e w' => ∃ g cap, e = .returned (.slice (some ⟨g, 0, none⟩) (st.frame t).length cap) ∧ (st.frame t).length ≤ cap ∧ W.heap.size ≤ g ∧ Tick (some b) ((t.length + 7) / 8 + 1) W w' ∧ w'.heap[g]? = some (.cells (RowB (st.frame t) cap) 5 (0, 0))) := fun W hB hq => frameOf_any (derive_g b) st.own (st.m st.own).next h16 (by omega) (st.keyAt st.own (st.m st.own).next) (DerB_bd _ _ _) a t c hl W hB hq (fun k o e => by have := hna k o e; simp; omega)
  have HTU : Hid (∀ W cs wk, Home (some b) b 112 cs W → GrpAt cs (st.begin st.own) wk pm 1 → Calls Tryz.prog 49 #[.pointer (some ⟨b, 169 + st.own * 10, none⟩), .func (.func 46) #[.pointer (some ⟨b, 0, none⟩)] #[]] W fun e w' => e = .returned (.tuple #[]) ∧ Outside [b] W w' ∧ ∃ cs' n, n ≤ 1 ∧ Home (some b) b 112 cs' w' ∧ GrpAt cs' st.protNext (wk + n) pm 1) := fun W cs wk hW hG => gturn_any ok hG hn W hW
  have HOWN : Hid (∀ {cs : Array Value} {wk : Nat}, GrpAt cs (st.begin st.own) wk pm 1 → cs[6]? = some (.int .i64 st.own)) := fun hg => hg.own
  have HGEN : Hid (∀ {cs : Array Value} {wk : Nat} {W : World}, GrpAt cs (st.begin st.own) wk pm 1 → Home (some b) b 112 cs W → W.cell? ⟨b, 169 + st.own * 10 + 1, none⟩ = some (.int .i64 (st.m st.own).next)) := fun hg hW => ((hRat hg).facts hW).2.1
  have own0 : w.cell? ⟨b, 6, none⟩ = some (.int .i64 st.own) := by rw [h.cells.1]; exact hg.own
  have HH : Hid (Home (some b) b 112 cs w) := h
  have HA : Hid (Bts w a t) := ha
  have HNA : Hid (∀ k o, a = some ⟨k, o, none⟩ → k ≠ b) := hna
  have hbw := h.lt
  obtain ⟨FR, hFR⟩ : ∃ FR, st.frame t = FR := ⟨_, rfl⟩
  obtain ⟨K, hK⟩ : ∃ K, st.keyAt st.own (st.m st.own).next = K := ⟨_, rfl⟩
  obtain ⟨P, hP⟩ : ∃ P, 169 + st.own * 10 = P := ⟨_, rfl⟩
  obtain ⟨O, hO⟩ : ∃ O : Int, (st.own : Int) = O := ⟨_, rfl⟩
  obtain ⟨G, hG⟩ : ∃ G : Int, ((st.m st.own).next : Int) = G := ⟨_, rfl⟩
  rw [hFR] at HFR ⊢
  rw [hK] at HKY HFR
  rw [hP] at HRF HKY HTU HGEN ix
  rw [hO] at HRF HFR HOWN own0 ix
  rw [hG] at HFR HGEN
  have hmf : ∀ (fn : Fn) (first cap : Array Value) (w : World), (Instr.makeFunc fn first cap).run Tryz.prog w = .ok (.func fn first cap) w := fun _ _ _ _ => rfl
  clear hFR hK hP hO hG h ha hna he hn hl hg hk hbd hRat h16
  refine calls_of_wpM Tryz.func17 rfl ?_
  simp only [Tryz.ntmps17, List.size_toArray, List.length_cons, List.length_nil, Nat.reduceAdd, Nat.reduceSub, Array.replicate_succ,
     Array.replicate_zero, List.push_toArray, List.append_toArray, List.nil_append, List.cons_append]
  go_wp2_with (go_at_call 41; refine HLK.out.mono ?_; rintro e w' ⟨rfl, hw'⟩; rw [hw']; clear hw' w')
  refine HW.out.mono ?_
  rintro e w1 ⟨rfl, b1⟩
  have H1 : Hid (Home (some b) b 112 cs w1) := HH.out.below b1
  have own1 : w1.cell? ⟨b, 6, none⟩ = some (.int .i64 O) := by rw [b1.cell (p := ⟨b, 6, none⟩) hbw]; exact own0
  have HO1 : Hid (Outside [b] w w1) := Outside.ofBelow b1
  have HA1 : Hid (Bts w1 a t) := HA.out.below b1
  have hbw1 : b < w1.heap.size := H1.out.lt
  clear b1 own0 HW HH HA
  go_upto_region 6 with fail
  go_cut [7] from 24 to 31 (fun s7 wy => s7 = .pointer (some ⟨b, P, none⟩) ∧ Below w1.heap.size w1 wy)
  case first =>
    go_quiet (fail)
    go_wp2_with fail
    go_meet
    exact ⟨rfl, below_drewQ (Below.refl _ _) _⟩
  case rest =>
  obtain ⟨rfl, hb⟩ := hcut
  have H1c : Hid (Home (some b) b 112 cs wc) := H1.out.below hb
  have own1c : wc.cell? ⟨b, 6, none⟩ = some (.int .i64 O) := by rw [hb.cell (p := ⟨b, 6, none⟩) hbw1]; exact own1
  have HO1c : Hid (Outside [b] w wc) := HO1.out.below hb
  have HA1c : Hid (Bts wc a t) := HA1.out.below hb
  clear hb H1 own1 HO1 HA1 hbw1 ix
  go_upto_region 7 with fail
  go_cut [7] from 32 to 42 (fun s7 wy => s7 = .pointer (some ⟨b, P, none⟩) ∧ ∃ cs2 n2, Hid (Outside [b] w wy ∧ Home (some b) b 112 cs2 wy ∧ GrpAt cs2 (st.begin st.own) (wk + n2) pm 1 ∧ n2 ≤ 2 * DepB 16 st.n st.own + 1 ∧ Bts wy a t))
  case first =>
    go_region_with (go_at_call 45; refine (HRF.out _ H1c.out.drew).mono ?_; rintro e w2 ⟨rfl, o2, cs2, n2, hn2, hh2, hg2⟩)
    all_goals
      have HX : Hid (Outside [b] w w2 ∧ Home (some b) b 112 cs2 w2 ∧ GrpAt cs2 (st.begin st.own) (wk + n2) pm 1 ∧ n2 ≤ 2 * DepB 16 st.n st.own + 1 ∧ Bts w2 a t) := ⟨HO1c.out.drew.trans o2 (fun _ hi _ => hi), hh2, hg2, hn2, (HA1c.out.below (Below.refl _ _).drew).out o2 (fun k o e => by have := HNA.out k o e; simp; omega)⟩
      clear o2 hh2 hg2 hn2
      go_wp2_with fail
      go_meet
      exact ⟨rfl, cs2, n2, HX⟩
  case rest =>
  obtain ⟨rfl, cs2, n2, hx⟩ := hcut
  obtain ⟨w2, hw2⟩ : ∃ w2, wc = w2 := ⟨_, rfl⟩
  rw [hw2] at hx ⊢
  have HO2 : Hid (Outside [b] w w2) := hx.out.1
  have HA2 : Hid (Bts w2 a t) := hx.out.2.2.2.2
  have HH2 : Hid (Home (some b) b 112 cs2 w2) := hx.out.2.1
  have HG2 : Hid (GrpAt cs2 (st.begin st.own) (wk + n2) pm 1) := hx.out.2.2.1
  have HN2 : Hid (n2 ≤ 2 * DepB 16 st.n st.own + 1) := hx.out.2.2.2.1
  clear hx hw2 HO1c HA1c H1c HRF own1c
  go_wp2_with fail
  refine (HKY.out _ cs2 _ HH2.out HG2.out).mono ?_
  rintro e w3 ⟨rfl, t3⟩
  obtain ⟨cs3, u3⟩ := HH2.out.tick t3
  have hg3 := HG2.out.tick u3.mv
  -- the key's own block
  obtain ⟨w4, hw4⟩ : ∃ w4, w3.alloc (.cells (Cells8 K) 51) = w4 := ⟨_, rfl⟩
  have b4 : Below w3.heap.size w3 w4 := by rw [← hw4]; exact (Below.refl _ w3).alloc (Nat.le_refl _) _
  have k4 : w4.heap[w3.heap.size]? = some (.cells (Cells8 K) 51 (0, 0)) := by rw [← hw4]; exact (MapKept.heap_alloc _ _).1
  have HW4 : Hid (w3.alloc (.cells (Cells8 K) 51) = w4) := hw4
  have HH4 : Hid (Home (some b) b 112 cs3 w4) := u3.home.below b4
  have HG3 : Hid (GrpAt cs3 (st.begin st.own) (wk + n2 + 1) pm 1) := hg3
  have HO4 : Hid (Outside [b] w w4) := (HO2.out.trans u3.out (fun _ hi _ => hi)).below b4
  have HA4 : Hid (Bts w4 a t) := (HA2.out.out u3.out (fun k o e => by have := HNA.out k o e; simp; omega)).below b4
  have hbk : w3.heap.size ≠ b := by have := u3.home.lt; omega
  have z3 : w.heap.size ≤ w3.heap.size := (HO2.out.trans u3.out (fun _ hi _ => hi)).size
  have own4 : w4.cell? ⟨b, 6, none⟩ = some (.int .i64 O) := by rw [HH4.out.cells.1]; exact HOWN.out hg3
  have gen4 : w4.cell? ⟨b, P + 1, none⟩ = some (.int .i64 G) := HGEN.out hg3 HH4.out
  obtain ⟨kc, _⟩ := row_facts k4
  have HK4 : Hid (w4.heap[w3.heap.size]? = some (.cells (Cells8 K) 51 (0, 0))) := k4
  clear t3 u3 hg3 b4 HO2 HA2 HH2 HG2 HKY HOWN HGEN hw4 k4
  go_upto_region 10 with fail
  rw [HW4.out]
  go_region_with (go_at_call 48; refine (HFR.out _ (HA4.out.below (Below.refl _ _).drew) HH4.out.drew.has).mono ?_; rintro e w5 ⟨f, cap, rfl, hcap, hf5, t5, r5⟩)
  all_goals
    obtain ⟨cs5, u5⟩ := HH4.out.drew.tick t5
    have HG5 : Hid (GrpAt cs5 (st.begin st.own) (wk + n2 + 1 + ((t.length + 7) / 8 + 1)) pm 1) := HG3.out.tick u5.mv
    have HH5 : Hid (Home (some b) b 112 cs5 w5) := u5.home
    have HO5 : Hid (Outside [b] w w5) := HO4.out.drew.trans u5.out (fun _ hi _ => hi)
    have HK5 : Hid (w5.heap[w3.heap.size]? = some (.cells (Cells8 K) 51 (0, 0))) := u5.out.row HK4.out (by simp; omega)
    have hf6 : w4.heap.size ≤ f := hf5
    have hfk : w3.heap.size < f := by have := (Array.getElem?_eq_some_iff.1 HK4.out).1; omega
    have HF5 : Hid (w5.heap[f]? = some (.cells (RowB FR cap) 5 (0, 0))) := r5
    have HCP : Hid (FR.length ≤ cap) := hcap
    clear t5 u5 r5 hf5 hf6 hcap HG3 HH4 HO4 HA4 HFR HK4 kc own4 gen4
    go_wp2_with fail
    refine (HTU.out _ cs5 _ HH5.out HG5.out).mono ?_
    rintro e w6 ⟨rfl, o6, cs6, n6, hn6, hh6, hg6⟩
    have HK6 : Hid (w6.heap[w3.heap.size]? = some (.cells (Cells8 K) 51 (0, 0))) := o6.row HK5.out (by simp; omega)
    have HF6 : Hid (w6.heap[f]? = some (.cells (RowB FR cap) 5 (0, 0))) := o6.row HF5.out (by have := HH5.out.lt; simp; omega)
    have HO6 : Hid (Outside [b] w w6) := HO5.out.trans o6 (fun _ hi _ => hi)
    have HG6 : Hid (GrpAt cs6 st.protNext (wk + n2 + 1 + ((t.length + 7) / 8 + 1) + n6) pm 1) := hg6
    have HH6 : Hid (Home (some b) b 112 cs6 w6) := hh6
    have HN6 : Hid (n6 ≤ 1) := hn6
    clear o6 hh6 hg6 hn6 HTU HO5 HH5 HG5 HK5 HF5
    go_wp2_with fail
    refine .inl ⟨_, _, _, _, _, _, rfl, clear_door w3.heap.size K w6 _ HK6.out _ _, ?_⟩
    obtain ⟨w7, hw7⟩ : ∃ w7, w6.setRow w3.heap.size (Cells8 fun _ => 0) = w7 := ⟨_, rfl⟩
    have h7 : Home (some b) b 112 cs6 w7 := by rw [← hw7]; exact Home.own (by rw [setRow_other _ _ _ _ (fun e => hbk e.symm)]; exact HH6.out.row) HH6.out.cnt
    have o7 : Outside [b] w w7 := by rw [← hw7]; exact HO6.out.setRow _ (fun hl => by omega) _
    have f7 : w7.heap[f]? = some (.cells (RowB FR cap) 5 (0, 0)) := by rw [← hw7, setRow_other _ _ _ _ (by omega)]; exact HF6.out
    have hfb : f ≠ b := by omega
    show LeavesM _ _ _ _ _ (w6.setRow w3.heap.size (Cells8 fun _ => 0))
    rw [hw7]
    refine .inr ⟨_, _, 42, #[.pointer (some ⟨b, 0, none⟩)], rfl, by simp [go_sem], (HG6.out.unlock h7).mono fun e u' w' ⟨h1, h2, h3, h6, h4, h5⟩ => ⟨h1, h2, _, by simp [results, Tryz.results17, go_sem], f, cap, rfl, HCP.out, by omega, ?_, ?_, _, n2 + 1 + ((t.length + 7) / 8 + 1) + n6, ?_, by omega, h4, ?_⟩⟩
    · exact (HO0.out.trans o7 (fun _ hi _ => hi)).trans h3 (fun _ hi _ => hi)
    · rw [h6 f hfb]; exact f7
    · have := HN2.out; have := HN6.out; omega
    · rw [show wk + (n2 + 1 + ((t.length + 7) / 8 + 1) + n6) = wk + n2 + 1 + ((t.length + 7) / 8 + 1) + n6 by omega]
      exact h5
end Go.Proofs.YtkpebabbnndopaaGreatDoor
