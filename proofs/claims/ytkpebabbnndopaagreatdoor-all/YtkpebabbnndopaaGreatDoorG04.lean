import Derived.Test.YtkpebabbnndopaaGreatDoorG01
import Derived.WalkKit
import Derived.WalkSpells
import Derived.WalkLawsBesides
import Derived.Deep.WholeRow
import Derived.Deep.LoopGhost
/- The law's (*Side).protect. -/
namespace Go.Proofs.YtkpebabbnndopaaGreatDoor
open Go.RowKit
set_option linter.unusedVariables false

set_option maxRecDepth 20000 in
set_option maxHeartbeats 1000000 in
theorem protect_err {Rep : World → List Nat → Value → St → Nat → Prop} (C : Code Rep) (w : World) (sb : Nat) (U : List Nat) (st : St) (wk : Nat) (h : Side Rep w sb U st wk) (hwk : wk ≤ 100000000000) (t : ByteArray) (ht : t.size ≤ 65536) (he : st.protErr t.size ≠ 0) (hG : Glob w) :
    Calls Tryz.prog 66 #[.pointer (some ⟨sb, 0, none⟩), .string t] w fun e w' => e = .returned (.tuple #[.string ⟨#[]⟩, .bool true]) ∧ Outside U w w' ∧ ∃ U', Fresh w U U' ∧ Side Rep w' sb U' st wk := by
  have hlt := h.lt C
  obtain ⟨S, T, g, rb, steps, rfl, ok, hrow, hrep, href, h4, h5, h6, h7⟩ := h
  have e1 : t.data.toList.length = t.size := by simp
  have hsb : sb < w.heap.size := (Array.getElem?_eq_some_iff.1 hrow).1
  obtain ⟨hA, hAf⟩ := row_facts' hrow
  have HROW : Hid (w.heap[sb]? = some (.cells (CellsS g rb wk) 71 (0, 0))) := hrow
  have HREP : Hid (Rep w S g st wk) := hrep
  have HGL : Hid (Glob w) := hG
  have HREF : Hid (RefRep w T rb st steps) := href
  obtain ⟨E, hE⟩ : ∃ E, st.protErr t.size = E := ⟨_, rfl⟩
  have HE : Hid (st.protErr t.size = E ∧ E ≠ 0) := ⟨hE, hE ▸ he⟩
  have hne : (E == 0) = false := by have := HE.out.2; simpa using this
  have HSET : Hid ((∀ k, k ∈ sb :: (S ++ T) → k < w.heap.size) ∧ sb ∉ S ∧ sb ∉ T ∧ (∀ k, k ∈ S → k ∉ T) ∧ (∀ k, k ∈ T → k < w.heap.size)) := ⟨hlt, h4, h5, h6, h7⟩
  clear hrow hrep href hE he hlt h4 h5 h6 h7 hG
  go_enter Tryz.func66, Tryz.ntmps66
  go_wp2_with (refine wpList_bytes rfl _ rfl t rfl ?_; intro cap1 w1 hcap1 b1 z1 B1; have hA1 : ∀ o, w1.cell? ⟨sb, o, none⟩ = (CellsS g rb wk)[o]? := fun o => (b1.cell (p := ⟨sb, o, none⟩) hsb).trans (hA o))
  obtain ⟨hlt, h4, h5, h6, h7⟩ := HSET.out
  have hrep1 : Rep w1 S g st wk := C.keep HREP.out b1.size (fun k a _ => b1.block k a)
  have hnS : ∀ b o, (some ⟨w.heap.size, 0, none⟩ : Option Addr) = some ⟨b, o, none⟩ → b ∉ S := fun b o e hb => by
    have := hlt b (List.mem_cons_of_mem _ (List.mem_append_left _ hb))
    cases e
    omega
  have hcall := C.protErr ok hrep1 (HGL.out.below b1) (some ⟨w.heap.size, 0, none⟩) t.data.toList cap1 (by omega) B1 hnS (by rw [e1, HE.out.1]; exact HE.out.2)
  rw [e1, HE.out.1] at hcall
  refine hcall.mono ?_
  clear hcall
  rintro e w2 ⟨rfl, o2, S', f2, hrep2⟩
  have hrow2 : w2.heap[sb]? = some (.cells (CellsS g rb wk) 71 (0, 0)) := o2.row (by rw [b1.block _ hsb]; exact HROW.out) h4
  have href2 : RefRep w2 T rb st steps := (HREF.out.below b1).keep fun k a b => o2.block k a (fun h => h6 k h b)
  have B2 := B1.out o2 hnS
  clear hA hAf hA1 B1
  obtain ⟨hA, hAf⟩ := row_facts' hrow2
  have HOLD : Hid (Outside S w1 w2 ∧ Fresh w1 S S' ∧ Rep w2 S' g st wk ∧ RefRep w2 T rb st steps ∧ w2.heap[sb]? = some (.cells (CellsS g rb wk) 71 (0, 0))) := ⟨o2, f2, hrep2, href2, hrow2⟩
  have HB2 : Hid (Bts w2 (some ⟨w.heap.size, 0, none⟩) t.data.toList ∧ Below w.heap.size w w1 ∧ w1.heap.size = w.heap.size + 1) := ⟨B2, b1, z1⟩
  clear o2 f2 hrep2 href2 hrow2 hrep1 hlt h4 h5 h6 h7 hnS B2 b1 z1
  go_wp2_with fail
  obtain ⟨o2, f2, hrep2, href2, hrow2⟩ := HOLD.out
  obtain ⟨hlt, h4, h5, h6, h7⟩ := HSET.out
  obtain ⟨B2, b1, z1⟩ := HB2.out
  have hnT : ∀ b o, (some ⟨w.heap.size, 0, none⟩ : Option Addr) = some ⟨b, o, none⟩ → b ∉ T := fun b o e hb => by
    have := h7 b hb
    cases e
    omega
  refine (refProt_err w2 T rb st steps ok href2 t E HE.out.1 HE.out.2).mono ?_
  rintro e w3 ⟨rfl, o3, href3⟩
  have hS'lt := C.lt hrep2
  have hsb' : sb ∉ S' := fun h => by
    rcases f2 sb h with h | h
    · exact h4 h
    · omega
  have hdis : ∀ k, k ∈ S' → k ∉ T := fun k hk hkT => by
    rcases f2 k hk with h | h
    · exact h6 k h hkT
    · have := h7 k hkT; omega
  have hrep3 : Rep w3 S' g st wk := C.keep hrep2 o3.size (fun k a b => o3.block k a (hdis k b))
  have hrow3 := o3.row hrow2 h5
  have B3 := B2.out o3 hnT
  have hwkd := worked_any C w3 sb S' T g rb st wk wk 0 false ok hrow3 hrep3 href3 hsb' h5 hdis (Nat.le_refl _) (by omega) (by intro h; cases h) (by omega) (by omega)
  have HOLD2 : Hid (Outside T w2 w3 ∧ RefRep w3 T rb st 0 ∧ Rep w3 S' g st wk ∧ Bts w3 (some ⟨w.heap.size, 0, none⟩) t.data.toList) := ⟨o3, href3, hrep3, B3⟩
  have HWK : Hid (Calls Tryz.prog 69 #[.pointer (some ⟨sb, 0, none⟩), .bool false] w3 fun e w' => e = .returned (.bool true) ∧ Outside (sb :: S') w3 w' ∧ w'.heap[sb]? = some (.cells (CellsS g rb wk) 71 (0, 0)) ∧ ∃ S'', Fresh w3 S' S'' ∧ Rep w' S'' g st wk) := hwkd
  have HH : Hid ((∀ k, k ∈ S' → k < w2.heap.size) ∧ sb ∉ S' ∧ ∀ k, k ∈ S' → k ∉ T) := ⟨hS'lt, hsb', hdis⟩
  clear o2 f2 hrep2 href2 hrow2 o3 href3 hrep3 hrow3 B3 B2 hwkd hS'lt hsb' hdis hA hAf hlt h4 h5 h6 h7 hnT b1 z1
  go_wp2_with fail
  refine HWK.out.mono ?_
  rintro e w4 ⟨rfl, o4, hrow4, S'', f4, hrep4⟩
  obtain ⟨o2, f2, hrep2, href2, hrow2⟩ := HOLD.out
  obtain ⟨o3, href3, hrep3, B3⟩ := HOLD2.out
  obtain ⟨hS'lt, hsb', hdis⟩ := HH.out
  obtain ⟨hlt, h4, h5, h6, h7⟩ := HSET.out
  obtain ⟨_, b1, z1⟩ := HB2.out
  have z12 := o2.size
  have z23 := o3.size
  have z34 := o4.size
  have hn4 : ∀ b o, (some ⟨w.heap.size, 0, none⟩ : Option Addr) = some ⟨b, o, none⟩ → b ∉ sb :: S' := fun b o e hb => by
    cases e
    rcases List.mem_cons.1 hb with h | h
    · omega
    · rcases f2 _ h with h | h
      · have := hlt _ (List.mem_cons_of_mem _ (List.mem_append_left _ h)); omega
      · omega
  have B4 := B3.out o4 hn4
  have hct : (convert 34 9 (.slice (some ⟨w.heap.size, 0, none⟩) t.size cap1)).run Tryz.prog w4 = .ok (.string t) w4 := by
    have h := cv_of_bts cap1 B4 w4 (Below.refl _ _)
    rw [e1] at h
    exact h
  have hcb : (convert 34 9 (.slice none 0 0)).run Tryz.prog w4 = .ok (.string ⟨#[]⟩) w4 := cv_of_bts (w := w4) (a := none) (l := []) 0 (.inl rfl) w4 (Below.refl _ _)
  have HFIN : Hid (Outside (sb :: (S ++ T)) w w4 ∧ ∃ U', Fresh w (sb :: (S ++ T)) U' ∧ Side Rep w4 sb U' st wk) := by
    obtain ⟨x1, x2, x3⟩ := side_fin C ok hsb h4 h5 h6 h7 b1 o2 f2 o3 href3 o4 hrow4 f4 hrep4
    exact ⟨x1, _, x2, x3⟩
  clear o2 f2 hrep2 href2 hrow2 o3 href3 hrep3 B3 hS'lt hsb' hdis o4 hrow4 f4 hrep4 B4 hn4 hlt h4 h5 h6 h7 b1 z1
  go_wp2_with fail
  refine wp_loop_rounds 1 ?_
  rw [rounds_succ]; go_wp2_with fail
  go_ret2
  exact ⟨rfl, HFIN.out⟩

set_option maxRecDepth 20000 in
set_option maxHeartbeats 1000000 in
theorem protect_ok {Rep : World → List Nat → Value → St → Nat → Prop} (C : Code Rep) (w : World) (sb : Nat) (U : List Nat) (st : St) (wk : Nat) (h : Side Rep w sb U st wk) (hwk : wk ≤ 100000000000) (t : ByteArray) (ht : t.size ≤ 65536) (he : st.protErr t.size = 0) :
    Calls Tryz.prog 66 #[.pointer (some ⟨sb, 0, none⟩), .string t] w fun e w' => e = .returned (.tuple #[.string ⟨(st.frame t.data.toList).toArray⟩, .bool true]) ∧ Outside U w w' ∧ ∃ U' wk', Fresh w U U' ∧ Side Rep w' sb U' st.protNext wk' ∧ wk' ≤ wk + 100 := by
  have hlt := h.lt C
  obtain ⟨S, T, g, rb, steps, rfl, ok, hrow, hrep, href, h4, h5, h6, h7⟩ := h
  have e1 : t.data.toList.length = t.size := by simp
  have hsb : sb < w.heap.size := (Array.getElem?_eq_some_iff.1 hrow).1
  obtain ⟨hA, hAf⟩ := row_facts' hrow
  have HROW : Hid (w.heap[sb]? = some (.cells (CellsS g rb wk) 71 (0, 0))) := hrow
  have HREP : Hid (Rep w S g st wk) := hrep
  have HREF : Hid (RefRep w T rb st steps) := href
  have HE : Hid (st.protErr t.size = 0) := he
  obtain ⟨pz1, pz2⟩ := protErr_zero he
  have okn := ok.protNext pz2
  have HBD : Hid (st.bound st.own (st.m st.own).next t.size ≤ 100) := bound_le st t.size pz1
  have HSET : Hid ((∀ k, k ∈ sb :: (S ++ T) → k < w.heap.size) ∧ sb ∉ S ∧ sb ∉ T ∧ (∀ k, k ∈ S → k ∉ T) ∧ (∀ k, k ∈ T → k < w.heap.size)) := ⟨hlt, h4, h5, h6, h7⟩
  clear hrow hrep href he hlt h4 h5 h6 h7
  go_enter Tryz.func66, Tryz.ntmps66
  go_wp2_with (refine wpList_bytes rfl _ rfl t rfl ?_; intro cap1 w1 hcap1 b1 z1 B1; have hA1 : ∀ o, w1.cell? ⟨sb, o, none⟩ = (CellsS g rb wk)[o]? := fun o => (b1.cell (p := ⟨sb, o, none⟩) hsb).trans (hA o))
  obtain ⟨hlt, h4, h5, h6, h7⟩ := HSET.out
  have hrep1 : Rep w1 S g st wk := C.keep HREP.out b1.size (fun k a _ => b1.block k a)
  have hnS : ∀ b o, (some ⟨w.heap.size, 0, none⟩ : Option Addr) = some ⟨b, o, none⟩ → b ∉ S := fun b o e hb => by
    have := hlt b (List.mem_cons_of_mem _ (List.mem_append_left _ hb))
    cases e
    omega
  have hcall := C.prot ok hrep1 (some ⟨w.heap.size, 0, none⟩) t.data.toList cap1 (by omega) B1 hnS (by rw [e1]; exact HE.out)
  rw [e1] at hcall
  refine hcall.mono ?_
  clear hcall
  rintro e w2 ⟨o2, S', wk', f, o, cap, f2, hrep2, hw1, hw2, rfl, hf1, hf2, hcap, BF2, FF2⟩
  have hrow2 : w2.heap[sb]? = some (.cells (CellsS g rb wk) 71 (0, 0)) := o2.row (by rw [b1.block _ hsb]; exact HROW.out) h4
  have href2 : RefRep w2 T rb st steps := (HREF.out.below b1).keep fun k a b => o2.block k a (fun h => h6 k h b)
  have B2 := B1.out o2 hnS
  clear hA hAf hA1 B1
  obtain ⟨hA, hAf⟩ := row_facts' hrow2
  have HOLD : Hid (Outside S w1 w2 ∧ Fresh w1 S S' ∧ Rep w2 S' g st.protNext wk' ∧ RefRep w2 T rb st steps ∧ w2.heap[sb]? = some (.cells (CellsS g rb wk) 71 (0, 0))) := ⟨o2, f2, hrep2, href2, hrow2⟩
  have hflt : (st.frame t.data.toList).length ≤ 1000 := by
    unfold St.frame
    rw [List.length_append, SealT_length]
    simp [HeadB]
    omega
  have hfpos : 0 < (st.frame t.data.toList).length := by
    unfold St.frame
    rw [List.length_append]
    have : 0 < (HeadB st.own (st.m st.own).next).length := by simp [HeadB]
    omega
  obtain ⟨FR, hFR⟩ : ∃ FR, st.frame t.data.toList = FR := ⟨_, rfl⟩
  have HFR : Hid (st.frame t.data.toList = FR) := hFR
  rw [hFR] at hcap BF2 FF2 hflt hfpos ⊢
  clear hFR
  have HFF : Hid (f < w2.heap.size ∧ f ∉ S' ∧ w1.heap.size ≤ f ∧ Bts w2 (some ⟨f, o, none⟩) FR ∧ (∀ i, i < FR.length → w2.frozen? ⟨f, o + i, none⟩ = false)) := by
    refine ⟨?_, hf2, hf1, BF2, FF2⟩
    rcases BF2 with h | ⟨b, o', e, hc⟩
    · rw [h] at hfpos; simp at hfpos
    · cases e; exact block_lt_of_cell (hc 0 hfpos)
  clear hf1 hf2 BF2 FF2
  have HB2 : Hid (Bts w2 (some ⟨w.heap.size, 0, none⟩) t.data.toList ∧ Below w.heap.size w w1 ∧ w1.heap.size = w.heap.size + 1) := ⟨B2, b1, z1⟩
  clear o2 f2 hrep2 href2 hrow2 hrep1 hlt h4 h5 h6 h7 hnS B2 b1 z1
  go_wp2_with fail
  obtain ⟨o2, f2, hrep2, href2, hrow2⟩ := HOLD.out
  obtain ⟨hlt, h4, h5, h6, h7⟩ := HSET.out
  obtain ⟨B2, b1, z1⟩ := HB2.out
  have hnT : ∀ b o, (some ⟨w.heap.size, 0, none⟩ : Option Addr) = some ⟨b, o, none⟩ → b ∉ T := fun b o e hb => by
    have := h7 b hb
    cases e
    omega
  have hrf := refProt_ok w2 T rb st steps ok href2 t HE.out
  rw [HFR.out] at hrf
  refine hrf.mono ?_
  clear hrf
  rintro e w3 ⟨rfl, o3, href3⟩
  have hS'lt := C.lt hrep2
  have hsb' : sb ∉ S' := fun h => by
    rcases f2 sb h with h | h
    · exact h4 h
    · omega
  have hdis : ∀ k, k ∈ S' → k ∉ T := fun k hk hkT => by
    rcases f2 k hk with h | h
    · exact h6 k h hkT
    · have := h7 k hkT; omega
  have hrep3 : Rep w3 S' g st.protNext wk' := C.keep hrep2 o3.size (fun k a b => o3.block k a (hdis k b))
  have hrow3 := o3.row hrow2 h5
  have B3 := B2.out o3 hnT
  have hwkd := worked_any C w3 sb S' T g rb st.protNext wk wk' (st.bound st.own (st.m st.own).next t.size) true okn hrow3 hrep3 href3 hsb' h5 hdis (Nat.le_of_lt hw1) hw2 (fun _ => hw1) (by have := HBD.out; omega) (by have := HBD.out; omega)
  have HOLD2 : Hid (Outside T w2 w3 ∧ RefRep w3 T rb st.protNext (st.bound st.own (st.m st.own).next t.size) ∧ Rep w3 S' g st.protNext wk' ∧ Bts w3 (some ⟨w.heap.size, 0, none⟩) t.data.toList) := ⟨o3, href3, hrep3, B3⟩
  have HWK : Hid (Calls Tryz.prog 69 #[.pointer (some ⟨sb, 0, none⟩), .bool true] w3 fun e w' => e = .returned (.bool true) ∧ Outside (sb :: S') w3 w' ∧ w'.heap[sb]? = some (.cells (CellsS g rb wk') 71 (0, 0)) ∧ ∃ S'', Fresh w3 S' S'' ∧ Rep w' S'' g st.protNext wk') := hwkd
  have HH : Hid ((∀ k, k ∈ S' → k < w2.heap.size) ∧ sb ∉ S' ∧ ∀ k, k ∈ S' → k ∉ T) := ⟨hS'lt, hsb', hdis⟩
  clear o2 f2 hrep2 href2 hrow2 o3 href3 hrep3 hrow3 B3 B2 hwkd hS'lt hsb' hdis hA hAf hlt h4 h5 h6 h7 hnT b1 z1
  go_wp2_with fail
  refine HWK.out.mono ?_
  rintro e w4 ⟨rfl, o4, hrow4, S'', f4, hrep4⟩
  obtain ⟨o2, f2, hrep2, href2, hrow2⟩ := HOLD.out
  obtain ⟨o3, href3, hrep3, B3⟩ := HOLD2.out
  obtain ⟨hS'lt, hsb', hdis⟩ := HH.out
  obtain ⟨hlt, h4, h5, h6, h7⟩ := HSET.out
  obtain ⟨_, b1, z1⟩ := HB2.out
  have z12 := o2.size
  have z23 := o3.size
  have z34 := o4.size
  have hn4 : ∀ b o, (some ⟨w.heap.size, 0, none⟩ : Option Addr) = some ⟨b, o, none⟩ → b ∉ sb :: S' := fun b o e hb => by
    cases e
    rcases List.mem_cons.1 hb with h | h
    · omega
    · rcases f2 _ h with h | h
      · have := hlt _ (List.mem_cons_of_mem _ (List.mem_append_left _ h)); omega
      · omega
  have B4 := B3.out o4 hn4
  have hct : (convert 34 9 (.slice (some ⟨w.heap.size, 0, none⟩) t.size cap1)).run Tryz.prog w4 = .ok (.string t) w4 := by
    have h := cv_of_bts cap1 B4 w4 (Below.refl _ _)
    rw [e1] at h
    exact h
  obtain ⟨ff1, ff2, ff3, ff4, ff5⟩ := HFF.out
  have hfT : f ∉ T := fun h => by have := h7 f h; omega
  have hfsb : f ≠ sb := by omega
  have hf4 : f ∉ sb :: S' := fun h => by
    rcases List.mem_cons.1 h with h | h
    · exact hfsb h
    · exact ff2 h
  have BF3 := ff4.out o3 (fun b o e => by cases e; exact hfT)
  have BF4 := BF3.out o4 (fun b o e => by cases e; exact hf4)
  have hblk : w4.heap[f]? = w2.heap[f]? := by rw [o4.block f (by omega) hf4, o3.block f ff1 hfT]
  have hfz : ∀ i, i < FR.length → w4.frozen? ⟨f, o + i, none⟩ = false := fun i hi => by
    rw [← ff5 i hi]
    exact World.frozen?_of_block (w := w2) hblk
  have hfS2 : f ∉ sb :: (S'' ++ T) := fun h => by
    rcases List.mem_cons.1 h with h | h
    · exact hfsb h
    · rcases List.mem_append.1 h with h | h
      · rcases f4 f h with h | h
        · exact ff2 h
        · omega
      · exact hfT h
  have hcb : (convert 34 9 (.slice (some ⟨f, o, none⟩) FR.length cap)).run Tryz.prog w4 = .ok (.string ⟨FR.toArray⟩) w4 := cv_of_bts cap BF4 w4 (Below.refl _ _)
  have hcells : ∀ i, i < FR.length → ∃ x : Int, 0 ≤ x ∧ x < 256 ∧ w4.cell? ⟨f, o + i, none⟩ = some (.int .u8 x) := fun i hi => by
    rcases BF4 with h | ⟨b, o', e, hc⟩
    · rw [h] at hi; simp at hi
    · cases e
      exact ⟨_, (byte_bd _).1, (byte_bd _).2, hc i hi⟩
  have HFIN : Hid (Outside (sb :: (S ++ T)) w w4 ∧ Fresh w (sb :: (S ++ T)) (sb :: (S'' ++ T)) ∧ Side Rep w4 sb (sb :: (S'' ++ T)) st.protNext wk' ∧ f ∉ sb :: (S'' ++ T) ∧ w.heap.size ≤ f ∧ wk' ≤ wk + 100) := by
    obtain ⟨x1, x2, x3⟩ := side_fin C okn hsb h4 h5 h6 h7 b1 o2 f2 o3 href3 o4 hrow4 f4 hrep4
    have := HBD.out
    exact ⟨x1, x2, x3, hfS2, by omega, by omega⟩
  have HC : Hid ((∀ i, i < FR.length → w4.frozen? ⟨f, o + i, none⟩ = false) ∧ (∀ i, i < FR.length → ∃ x : Int, 0 ≤ x ∧ x < 256 ∧ w4.cell? ⟨f, o + i, none⟩ = some (.int .u8 x))) := ⟨hfz, hcells⟩
  clear o2 f2 hrep2 href2 hrow2 o3 href3 hrep3 B3 hS'lt hsb' hdis o4 hrow4 f4 hrep4 B4 hn4 hlt h4 h5 h6 h7 b1 z1 ff1 ff2 ff3 ff4 ff5 hfT hfsb hf4 BF3 BF4 hblk hfz hfS2 hcells
  go_wp2_with fail
  clear hct hcb
  go_loopg [13] FR.length (fun k i wr => ∃ j : Nat, i = .int .i64 j ∧ j + k = FR.length ∧ Outside [f] w4 wr ∧ (∀ i, i < FR.length → wr.frozen? ⟨f, o + i, none⟩ = false) ∧ (∀ i, i < FR.length → ∃ x : Int, 0 ≤ x ∧ x < 256 ∧ wr.cell? ⟨f, o + i, none⟩ = some (.int .u8 x)))
  case atStart => exact ⟨0, rfl, by omega, Outside.refl _ _, HC.out.1, HC.out.2⟩
  case round =>
    obtain ⟨j, rfl, hjk, hout, hfz, hcl⟩ := hrel
    by_cases hlt : j < FR.length
    · obtain ⟨x, hx0, hx1, hx⟩ := hcl j hlt
      have hz := hfz j hlt
      have HOLD3 : Hid (Outside [f] w4 wr ∧ (∀ i, i < FR.length → wr.frozen? ⟨f, o + i, none⟩ = false) ∧ (∀ i, i < FR.length → ∃ x : Int, 0 ≤ x ∧ x < 256 ∧ wr.cell? ⟨f, o + i, none⟩ = some (.int .u8 x))) := ⟨hout, hfz, hcl⟩
      clear hout hfz hcl
      go_wp2_with fail
      obtain ⟨hout, hfz, hcl⟩ := HOLD3.out
      go_roundg (gk - 1)
      case measure => omega
      case rel =>
        refine ⟨j + 1, by go_num, by omega, hout.setCell ⟨f, o + j, none⟩ (fun _ => List.mem_cons_self) _, fun i hi => ?_, fun i hi => ?_⟩
        · rw [World.frozen?_setCell]; exact hfz i hi
        · by_cases hij : i = j
          · subst hij
            exact ⟨(x + 1) % 256, by omega, by omega, World.cell?_setCell_same _ _ _ hx⟩
          · obtain ⟨y, hy0, hy1, hy⟩ := hcl i hi
            refine ⟨y, hy0, hy1, ?_⟩
            rw [World.cell?_setCell_other _ _ _ _ (fun e => hij (by have := congrArg Addr.off e; simp at this; omega))]
            exact hy
    · have hjl : j = FR.length := by omega
      go_wp2_with fail
      go_ret2
      obtain ⟨x1, x2, x3, x4, x5, x6⟩ := HFIN.out
      refine ⟨by rw [HFR.out]; rfl, x1.trans hout (fun i hi hl => ?_), _, _, x2, x3.keep C hout.size (fun k a b => hout.block k a (fun h => ?_)), x6⟩
      · simp at hi; omega
      · simp at h; exact x4 (h ▸ b)
end Go.Proofs.YtkpebabbnndopaaGreatDoor
