import Derived.Test.YtkpebabbnndopaaGreatDoorC15
import Derived.WalkKit
import Derived.WalkSpells
import Derived.WalkLawsBesides
import Derived.Deep.WholeRow
import Derived.Deep.LoopGhost
import Derived.Test.YtkpebabbnndopaaGreatDoorC08
import Derived.Test.YtkpebabbnndopaaGreatDoorC07
import Derived.Test.YtkpebabbnndopaaGreatDoorC14
import Derived.Test.YtkpebabbnndopaaGreatDoorC21
import Derived.Deep.DeepCutAuto
import Derived.Deep.RegionHeld3
/- The law's (*Side).protect. -/
namespace Go.Proofs.YtkpebabbnndopaaGreatDoor
open Go.RowKit
set_option linter.unusedVariables false

set_option maxRecDepth 20000 in
set_option maxHeartbeats 1000000 in
theorem protect_err {Rep : World → List Nat → Value → St → Nat → Prop} (C : Code Rep) (w : World) (sb : Nat) (U : List Nat) (st : St) (wk : Nat) (h : Side Rep w sb U st wk) (hwk : wk ≤ 100000000000) (t : ByteArray) (ht : t.size ≤ 65536) (he : st.protErr t.size ≠ 0) (hG : Glob w) :
    Calls Tryz.prog 66 #[.pointer (some ⟨sb, 0, none⟩), .string t] w fun e w' => e = .returned (.tuple #[.string ⟨#[]⟩, .bool true]) ∧ Outside U w w' ∧ ∃ U', Fresh w U U' ∧ Side Rep w' sb U' st wk := by
  have hlt := h.lt C
  obtain ⟨S, T, g, rb, steps, rfl, ok, hrow, hrep, href, h4, h5, h6, h7⟩ := h
  have e1 : t.data.toList.length = t.size := by simp
  have hsb : sb < w.heap.size := (Array.getElem?_eq_some_iff.1 hrow).1
  obtain ⟨hA, hAf⟩ := row_facts' hrow
  have HROW : Hid (w.heap[sb]? = some (.cells (CellsS g rb wk) 71 (0, 0))) := hrow
  have HREP : Hid (Rep w S g st wk) := hrep
  have HGL : Hid (Glob w) := hG
  have HREF : Hid (RefRep w T rb st steps) := href
  obtain ⟨E, hE⟩ : ∃ E, st.protErr t.size = E := ⟨_, rfl⟩
  have HE : Hid (st.protErr t.size = E ∧ E ≠ 0) := ⟨hE, hE ▸ he⟩
  have hne : (E == 0) = false := by have := HE.out.2; simpa using this
  have HSET : Hid ((∀ k, k ∈ sb :: (S ++ T) → k < w.heap.size) ∧ sb ∉ S ∧ sb ∉ T ∧ (∀ k, k ∈ S → k ∉ T) ∧ (∀ k, k ∈ T → k < w.heap.size)) := ⟨hlt, h4, h5, h6, h7⟩
  clear hrow hrep href hE he hlt h4 h5 h6 h7 hG
  go_enter Tryz.func66, Tryz.ntmps66
  go_wp2_with (refine wpList_bytes rfl _ rfl t rfl ?_; intro cap1 w1 hcap1 b1 z1 B1; have hA1 : ∀ o, w1.cell? ⟨sb, o, none⟩ = (CellsS g rb wk)[o]? := fun o => (b1.cell (p := ⟨sb, o, none⟩) hsb).trans (hA o))
  obtain ⟨hlt, h4, h5, h6, h7⟩ := HSET.out
  have hrep1 : Rep w1 S g st wk := C.keep HREP.out b1.size (fun k a _ => b1.block k a)
  have hnS : ∀ b o, (some ⟨w.heap.size, 0, none⟩ : Option Addr) = some ⟨b, o, none⟩ → b ∉ S := fun b o e hb => by
    have := hlt b (List.mem_cons_of_mem _ (List.mem_append_left _ hb))
    cases e
    omega
  have hcall := C.protErr ok hrep1 (HGL.out.below b1) (some ⟨w.heap.size, 0, none⟩) t.data.toList cap1 (by omega) B1 hnS (by rw [e1, HE.out.1]; exact HE.out.2)
  rw [e1, HE.out.1] at hcall
  refine hcall.mono ?_
  clear hcall
  rintro e w2 ⟨rfl, o2, S', f2, hrep2⟩
  have hrow2 : w2.heap[sb]? = some (.cells (CellsS g rb wk) 71 (0, 0)) := o2.row (by rw [b1.block _ hsb]; exact HROW.out) h4
  have href2 : RefRep w2 T rb st steps := (HREF.out.below b1).keep fun k a b => o2.block k a (fun h => h6 k h b)
  have B2 := B1.out o2 hnS
  clear hA hAf hA1 B1
  obtain ⟨hA, hAf⟩ := row_facts' hrow2
  have HOLD : Hid (Outside S w1 w2 ∧ Fresh w1 S S' ∧ Rep w2 S' g st wk ∧ RefRep w2 T rb st steps ∧ w2.heap[sb]? = some (.cells (CellsS g rb wk) 71 (0, 0))) := ⟨o2, f2, hrep2, href2, hrow2⟩
  have HB2 : Hid (Bts w2 (some ⟨w.heap.size, 0, none⟩) t.data.toList ∧ Below w.heap.size w w1 ∧ w1.heap.size = w.heap.size + 1) := ⟨B2, b1, z1⟩
  clear o2 f2 hrep2 href2 hrow2 hrep1 hlt h4 h5 h6 h7 hnS B2 b1 z1
  go_wp2_with fail
  obtain ⟨o2, f2, hrep2, href2, hrow2⟩ := HOLD.out
  obtain ⟨hlt, h4, h5, h6, h7⟩ := HSET.out
  obtain ⟨B2, b1, z1⟩ := HB2.out
  have hnT : ∀ b o, (some ⟨w.heap.size, 0, none⟩ : Option Addr) = some ⟨b, o, none⟩ → b ∉ T := fun b o e hb => by
    have := h7 b hb
    cases e
    omega
  refine (refProt_err w2 T rb st steps ok href2 t E HE.out.1 HE.out.2).mono ?_
  rintro e w3 ⟨rfl, o3, href3⟩
  have hS'lt := C.lt hrep2
  have hsb' : sb ∉ S' := fun h => by
    rcases f2 sb h with h | h
    · exact h4 h
    · omega
  have hdis : ∀ k, k ∈ S' → k ∉ T := fun k hk hkT => by
    rcases f2 k hk with h | h
    · exact h6 k h hkT
    · have := h7 k hkT; omega
  have hrep3 : Rep w3 S' g st wk := C.keep hrep2 o3.size (fun k a b => o3.block k a (hdis k b))
  have hrow3 := o3.row hrow2 h5
  have B3 := B2.out o3 hnT
  have hwkd := worked_any C w3 sb S' T g rb st wk wk 0 false ok hrow3 hrep3 href3 hsb' h5 hdis (Nat.le_refl _) (by omega) (by intro h; cases h) (by omega) (by omega)
  have HOLD2 : Hid (Outside T w2 w3 ∧ RefRep w3 T rb st 0 ∧ Rep w3 S' g st wk ∧ Bts w3 (some ⟨w.heap.size, 0, none⟩) t.data.toList) := ⟨o3, href3, hrep3, B3⟩
  have HWK : Hid (Calls Tryz.prog 69 #[.pointer (some ⟨sb, 0, none⟩), .bool false] w3 fun e w' => e = .returned (.bool true) ∧ Outside (sb :: S') w3 w' ∧ w'.heap[sb]? = some (.cells (CellsS g rb wk) 71 (0, 0)) ∧ ∃ S'', Fresh w3 S' S'' ∧ Rep w' S'' g st wk) := hwkd
  have HH : Hid ((∀ k, k ∈ S' → k < w2.heap.size) ∧ sb ∉ S' ∧ ∀ k, k ∈ S' → k ∉ T) := ⟨hS'lt, hsb', hdis⟩
  clear o2 f2 hrep2 href2 hrow2 o3 href3 hrep3 hrow3 B3 B2 hwkd hS'lt hsb' hdis hA hAf hlt h4 h5 h6 h7 hnT b1 z1
  go_wp2_with fail
  refine HWK.out.mono ?_
  rintro e w4 ⟨rfl, o4, hrow4, S'', f4, hrep4⟩
  obtain ⟨o2, f2, hrep2, href2, hrow2⟩ := HOLD.out
  obtain ⟨o3, href3, hrep3, B3⟩ := HOLD2.out
  obtain ⟨hS'lt, hsb', hdis⟩ := HH.out
  obtain ⟨hlt, h4, h5, h6, h7⟩ := HSET.out
  obtain ⟨_, b1, z1⟩ := HB2.out
  have z12 := o2.size
  have z23 := o3.size
  have z34 := o4.size
  have hn4 : ∀ b o, (some ⟨w.heap.size, 0, none⟩ : Option Addr) = some ⟨b, o, none⟩ → b ∉ sb :: S' := fun b o e hb => by
    cases e
    rcases List.mem_cons.1 hb with h | h
    · omega
    · rcases f2 _ h with h | h
      · have := hlt _ (List.mem_cons_of_mem _ (List.mem_append_left _ h)); omega
      · omega
  have B4 := B3.out o4 hn4
  have hct : (convert 34 9 (.slice (some ⟨w.heap.size, 0, none⟩) t.size cap1)).run Tryz.prog w4 = .ok (.string t) w4 := by
    have h := cv_of_bts cap1 B4 w4 (Below.refl _ _)
    rw [e1] at h
    exact h
  have hcb : (convert 34 9 (.slice none 0 0)).run Tryz.prog w4 = .ok (.string ⟨#[]⟩) w4 := cv_of_bts (w := w4) (a := none) (l := []) 0 (.inl rfl) w4 (Below.refl _ _)
  have HFIN : Hid (Outside (sb :: (S ++ T)) w w4 ∧ ∃ U', Fresh w (sb :: (S ++ T)) U' ∧ Side Rep w4 sb U' st wk) := by
    obtain ⟨x1, x2, x3⟩ := side_fin C ok hsb h4 h5 h6 h7 b1 o2 f2 o3 href3 o4 hrow4 f4 hrep4
    exact ⟨x1, _, x2, x3⟩
  clear o2 f2 hrep2 href2 hrow2 o3 href3 hrep3 B3 hS'lt hsb' hdis o4 hrow4 f4 hrep4 B4 hn4 hlt h4 h5 h6 h7 b1 z1
  go_wp2_with fail
  refine wp_loop_rounds 1 ?_
  rw [rounds_succ]; go_wp2_with fail
  go_ret2
  exact ⟨rfl, HFIN.out⟩

set_option maxRecDepth 20000 in
set_option maxHeartbeats 1000000 in
theorem protect_ok {Rep : World → List Nat → Value → St → Nat → Prop} (C : Code Rep) (w : World) (sb : Nat) (U : List Nat) (st : St) (wk : Nat) (h : Side Rep w sb U st wk) (hwk : wk ≤ 100000000000) (t : ByteArray) (ht : t.size ≤ 65536) (he : st.protErr t.size = 0) :
    Calls Tryz.prog 66 #[.pointer (some ⟨sb, 0, none⟩), .string t] w fun e w' => e = .returned (.tuple #[.string ⟨(st.frame t.data.toList).toArray⟩, .bool true]) ∧ Outside U w w' ∧ ∃ U' wk', Fresh w U U' ∧ Side Rep w' sb U' st.protNext wk' ∧ wk' ≤ wk + 100 := by
  have hlt := h.lt C
  obtain ⟨S, T, g, rb, steps, rfl, ok, hrow, hrep, href, h4, h5, h6, h7⟩ := h
  have e1 : t.data.toList.length = t.size := by simp
  have hsb : sb < w.heap.size := (Array.getElem?_eq_some_iff.1 hrow).1
  obtain ⟨hA, hAf⟩ := row_facts' hrow
  have HROW : Hid (w.heap[sb]? = some (.cells (CellsS g rb wk) 71 (0, 0))) := hrow
  have HREP : Hid (Rep w S g st wk) := hrep
  have HREF : Hid (RefRep w T rb st steps) := href
  have HE : Hid (st.protErr t.size = 0) := he
  obtain ⟨pz1, pz2⟩ := protErr_zero he
  have okn := ok.protNext pz2
  have HBD : Hid (st.bound st.own (st.m st.own).next t.size ≤ 100) := bound_le st t.size pz1
  have HSET : Hid ((∀ k, k ∈ sb :: (S ++ T) → k < w.heap.size) ∧ sb ∉ S ∧ sb ∉ T ∧ (∀ k, k ∈ S → k ∉ T) ∧ (∀ k, k ∈ T → k < w.heap.size)) := ⟨hlt, h4, h5, h6, h7⟩
  clear hrow hrep href he hlt h4 h5 h6 h7
  go_enter Tryz.func66, Tryz.ntmps66
  go_wp2_with (refine wpList_bytes rfl _ rfl t rfl ?_; intro cap1 w1 hcap1 b1 z1 B1; have hA1 : ∀ o, w1.cell? ⟨sb, o, none⟩ = (CellsS g rb wk)[o]? := fun o => (b1.cell (p := ⟨sb, o, none⟩) hsb).trans (hA o))
  obtain ⟨hlt, h4, h5, h6, h7⟩ := HSET.out
  have hrep1 : Rep w1 S g st wk := C.keep HREP.out b1.size (fun k a _ => b1.block k a)
  have hnS : ∀ b o, (some ⟨w.heap.size, 0, none⟩ : Option Addr) = some ⟨b, o, none⟩ → b ∉ S := fun b o e hb => by
    have := hlt b (List.mem_cons_of_mem _ (List.mem_append_left _ hb))
    cases e
    omega
  have hcall := C.prot ok hrep1 (some ⟨w.heap.size, 0, none⟩) t.data.toList cap1 (by omega) B1 hnS (by rw [e1]; exact HE.out)
  rw [e1] at hcall
  refine hcall.mono ?_
  clear hcall
  rintro e w2 ⟨o2, S', wk', f, o, cap, f2, hrep2, hw1, hw2, rfl, hf1, hf2, hcap, BF2, FF2⟩
  have hrow2 : w2.heap[sb]? = some (.cells (CellsS g rb wk) 71 (0, 0)) := o2.row (by rw [b1.block _ hsb]; exact HROW.out) h4
  have href2 : RefRep w2 T rb st steps := (HREF.out.below b1).keep fun k a b => o2.block k a (fun h => h6 k h b)
  have B2 := B1.out o2 hnS
  clear hA hAf hA1 B1
  obtain ⟨hA, hAf⟩ := row_facts' hrow2
  have HOLD : Hid (Outside S w1 w2 ∧ Fresh w1 S S' ∧ Rep w2 S' g st.protNext wk' ∧ RefRep w2 T rb st steps ∧ w2.heap[sb]? = some (.cells (CellsS g rb wk) 71 (0, 0))) := ⟨o2, f2, hrep2, href2, hrow2⟩
  have hflt : (st.frame t.data.toList).length ≤ 1000 := by
    unfold St.frame
    rw [List.length_append, SealT_length]
    simp [HeadB]
    omega
  have hfpos : 0 < (st.frame t.data.toList).length := by
    unfold St.frame
    rw [List.length_append]
    have : 0 < (HeadB st.own (st.m st.own).next).length := by simp [HeadB]
    omega
  obtain ⟨FR, hFR⟩ : ∃ FR, st.frame t.data.toList = FR := ⟨_, rfl⟩
  have HFR : Hid (st.frame t.data.toList = FR) := hFR
  rw [hFR] at hcap BF2 FF2 hflt hfpos ⊢
  clear hFR
  have HFF : Hid (f < w2.heap.size ∧ f ∉ S' ∧ w1.heap.size ≤ f ∧ Bts w2 (some ⟨f, o, none⟩) FR ∧ (∀ i, i < FR.length → w2.frozen? ⟨f, o + i, none⟩ = false)) := by
    refine ⟨?_, hf2, hf1, BF2, FF2⟩
    rcases BF2 with h | ⟨b, o', e, hc⟩
    · rw [h] at hfpos; simp at hfpos
    · cases e; exact block_lt_of_cell (hc 0 hfpos)
  clear hf1 hf2 BF2 FF2
  have HB2 : Hid (Bts w2 (some ⟨w.heap.size, 0, none⟩) t.data.toList ∧ Below w.heap.size w w1 ∧ w1.heap.size = w.heap.size + 1) := ⟨B2, b1, z1⟩
  clear o2 f2 hrep2 href2 hrow2 hrep1 hlt h4 h5 h6 h7 hnS B2 b1 z1
  go_wp2_with fail
  obtain ⟨o2, f2, hrep2, href2, hrow2⟩ := HOLD.out
  obtain ⟨hlt, h4, h5, h6, h7⟩ := HSET.out
  obtain ⟨B2, b1, z1⟩ := HB2.out
  have hnT : ∀ b o, (some ⟨w.heap.size, 0, none⟩ : Option Addr) = some ⟨b, o, none⟩ → b ∉ T := fun b o e hb => by
    have := h7 b hb
    cases e
    omega
  have hrf := refProt_ok w2 T rb st steps ok href2 t HE.out
  rw [HFR.out] at hrf
  refine hrf.mono ?_
  clear hrf
  rintro e w3 ⟨rfl, o3, href3⟩
  have hS'lt := C.lt hrep2
  have hsb' : sb ∉ S' := fun h => by
    rcases f2 sb h with h | h
    · exact h4 h
    · omega
  have hdis : ∀ k, k ∈ S' → k ∉ T := fun k hk hkT => by
    rcases f2 k hk with h | h
    · exact h6 k h hkT
    · have := h7 k hkT; omega
  have hrep3 : Rep w3 S' g st.protNext wk' := C.keep hrep2 o3.size (fun k a b => o3.block k a (hdis k b))
  have hrow3 := o3.row hrow2 h5
  have B3 := B2.out o3 hnT
  have hwkd := worked_any C w3 sb S' T g rb st.protNext wk wk' (st.bound st.own (st.m st.own).next t.size) true okn hrow3 hrep3 href3 hsb' h5 hdis (Nat.le_of_lt hw1) hw2 (fun _ => hw1) (by have := HBD.out; omega) (by have := HBD.out; omega)
  have HOLD2 : Hid (Outside T w2 w3 ∧ RefRep w3 T rb st.protNext (st.bound st.own (st.m st.own).next t.size) ∧ Rep w3 S' g st.protNext wk' ∧ Bts w3 (some ⟨w.heap.size, 0, none⟩) t.data.toList) := ⟨o3, href3, hrep3, B3⟩
  have HWK : Hid (Calls Tryz.prog 69 #[.pointer (some ⟨sb, 0, none⟩), .bool true] w3 fun e w' => e = .returned (.bool true) ∧ Outside (sb :: S') w3 w' ∧ w'.heap[sb]? = some (.cells (CellsS g rb wk') 71 (0, 0)) ∧ ∃ S'', Fresh w3 S' S'' ∧ Rep w' S'' g st.protNext wk') := hwkd
  have HH : Hid ((∀ k, k ∈ S' → k < w2.heap.size) ∧ sb ∉ S' ∧ ∀ k, k ∈ S' → k ∉ T) := ⟨hS'lt, hsb', hdis⟩
  clear o2 f2 hrep2 href2 hrow2 o3 href3 hrep3 hrow3 B3 B2 hwkd hS'lt hsb' hdis hA hAf hlt h4 h5 h6 h7 hnT b1 z1
  go_wp2_with fail
  refine HWK.out.mono ?_
  rintro e w4 ⟨rfl, o4, hrow4, S'', f4, hrep4⟩
  obtain ⟨o2, f2, hrep2, href2, hrow2⟩ := HOLD.out
  obtain ⟨o3, href3, hrep3, B3⟩ := HOLD2.out
  obtain ⟨hS'lt, hsb', hdis⟩ := HH.out
  obtain ⟨hlt, h4, h5, h6, h7⟩ := HSET.out
  obtain ⟨_, b1, z1⟩ := HB2.out
  have z12 := o2.size
  have z23 := o3.size
  have z34 := o4.size
  have hn4 : ∀ b o, (some ⟨w.heap.size, 0, none⟩ : Option Addr) = some ⟨b, o, none⟩ → b ∉ sb :: S' := fun b o e hb => by
    cases e
    rcases List.mem_cons.1 hb with h | h
    · omega
    · rcases f2 _ h with h | h
      · have := hlt _ (List.mem_cons_of_mem _ (List.mem_append_left _ h)); omega
      · omega
  have B4 := B3.out o4 hn4
  have hct : (convert 34 9 (.slice (some ⟨w.heap.size, 0, none⟩) t.size cap1)).run Tryz.prog w4 = .ok (.string t) w4 := by
    have h := cv_of_bts cap1 B4 w4 (Below.refl _ _)
    rw [e1] at h
    exact h
  obtain ⟨ff1, ff2, ff3, ff4, ff5⟩ := HFF.out
  have hfT : f ∉ T := fun h => by have := h7 f h; omega
  have hfsb : f ≠ sb := by omega
  have hf4 : f ∉ sb :: S' := fun h => by
    rcases List.mem_cons.1 h with h | h
    · exact hfsb h
    · exact ff2 h
  have BF3 := ff4.out o3 (fun b o e => by cases e; exact hfT)
  have BF4 := BF3.out o4 (fun b o e => by cases e; exact hf4)
  have hblk : w4.heap[f]? = w2.heap[f]? := by rw [o4.block f (by omega) hf4, o3.block f ff1 hfT]
  have hfz : ∀ i, i < FR.length → w4.frozen? ⟨f, o + i, none⟩ = false := fun i hi => by
    rw [← ff5 i hi]
    exact World.frozen?_of_block (w := w2) hblk
  have hfS2 : f ∉ sb :: (S'' ++ T) := fun h => by
    rcases List.mem_cons.1 h with h | h
    · exact hfsb h
    · rcases List.mem_append.1 h with h | h
      · rcases f4 f h with h | h
        · exact ff2 h
        · omega
      · exact hfT h
  have hcb : (convert 34 9 (.slice (some ⟨f, o, none⟩) FR.length cap)).run Tryz.prog w4 = .ok (.string ⟨FR.toArray⟩) w4 := cv_of_bts cap BF4 w4 (Below.refl _ _)
  have hcells : ∀ i, i < FR.length → ∃ x : Int, 0 ≤ x ∧ x < 256 ∧ w4.cell? ⟨f, o + i, none⟩ = some (.int .u8 x) := fun i hi => by
    rcases BF4 with h | ⟨b, o', e, hc⟩
    · rw [h] at hi; simp at hi
    · cases e
      exact ⟨_, (byte_bd _).1, (byte_bd _).2, hc i hi⟩
  have HFIN : Hid (Outside (sb :: (S ++ T)) w w4 ∧ Fresh w (sb :: (S ++ T)) (sb :: (S'' ++ T)) ∧ Side Rep w4 sb (sb :: (S'' ++ T)) st.protNext wk' ∧ f ∉ sb :: (S'' ++ T) ∧ w.heap.size ≤ f ∧ wk' ≤ wk + 100) := by
    obtain ⟨x1, x2, x3⟩ := side_fin C okn hsb h4 h5 h6 h7 b1 o2 f2 o3 href3 o4 hrow4 f4 hrep4
    have := HBD.out
    exact ⟨x1, x2, x3, hfS2, by omega, by omega⟩
  have HC : Hid ((∀ i, i < FR.length → w4.frozen? ⟨f, o + i, none⟩ = false) ∧ (∀ i, i < FR.length → ∃ x : Int, 0 ≤ x ∧ x < 256 ∧ w4.cell? ⟨f, o + i, none⟩ = some (.int .u8 x))) := ⟨hfz, hcells⟩
  clear o2 f2 hrep2 href2 hrow2 o3 href3 hrep3 B3 hS'lt hsb' hdis o4 hrow4 f4 hrep4 B4 hn4 hlt h4 h5 h6 h7 b1 z1 ff1 ff2 ff3 ff4 ff5 hfT hfsb hf4 BF3 BF4 hblk hfz hfS2 hcells
  go_wp2_with fail
  clear hct hcb
  go_loopg [13] FR.length (fun k i wr => ∃ j : Nat, i = .int .i64 j ∧ j + k = FR.length ∧ Outside [f] w4 wr ∧ (∀ i, i < FR.length → wr.frozen? ⟨f, o + i, none⟩ = false) ∧ (∀ i, i < FR.length → ∃ x : Int, 0 ≤ x ∧ x < 256 ∧ wr.cell? ⟨f, o + i, none⟩ = some (.int .u8 x)))
  case atStart => exact ⟨0, rfl, by omega, Outside.refl _ _, HC.out.1, HC.out.2⟩
  case round =>
    obtain ⟨j, rfl, hjk, hout, hfz, hcl⟩ := hrel
    by_cases hlt : j < FR.length
    · obtain ⟨x, hx0, hx1, hx⟩ := hcl j hlt
      have hz := hfz j hlt
      have HOLD3 : Hid (Outside [f] w4 wr ∧ (∀ i, i < FR.length → wr.frozen? ⟨f, o + i, none⟩ = false) ∧ (∀ i, i < FR.length → ∃ x : Int, 0 ≤ x ∧ x < 256 ∧ wr.cell? ⟨f, o + i, none⟩ = some (.int .u8 x))) := ⟨hout, hfz, hcl⟩
      clear hout hfz hcl
      go_wp2_with fail
      obtain ⟨hout, hfz, hcl⟩ := HOLD3.out
      go_roundg (gk - 1)
      case measure => omega
      case rel =>
        refine ⟨j + 1, by go_num, by omega, hout.setCell ⟨f, o + j, none⟩ (fun _ => List.mem_cons_self) _, fun i hi => ?_, fun i hi => ?_⟩
        · rw [World.frozen?_setCell]; exact hfz i hi
        · by_cases hij : i = j
          · subst hij
            exact ⟨(x + 1) % 256, by omega, by omega, World.cell?_setCell_same _ _ _ hx⟩
          · obtain ⟨y, hy0, hy1, hy⟩ := hcl i hi
            refine ⟨y, hy0, hy1, ?_⟩
            rw [World.cell?_setCell_other _ _ _ _ (fun e => hij (by have := congrArg Addr.off e; simp at this; omega))]
            exact hy
    · have hjl : j = FR.length := by omega
      go_wp2_with fail
      go_ret2
      obtain ⟨x1, x2, x3, x4, x5, x6⟩ := HFIN.out
      refine ⟨by rw [HFR.out]; rfl, x1.trans hout (fun i hi hl => ?_), _, _, x2, x3.keep C hout.size (fun k a b => hout.block k a (fun h => ?_)), x6⟩
      · simp at hi; omega
      · simp at h; exact x4 (h ▸ b)
end Go.Proofs.YtkpebabbnndopaaGreatDoor

/- epochref.Part, of any part of the tree. -/
namespace Go.Proofs.YtkpebabbnndopaaGreatDoor
open Go.RowKit
set_option linter.unusedVariables false

theorem refPart_here (s : Nat → Int) (f t : Nat) (w : World) :
    Calls Tryz.prog 79 #[Agg8 s, .int .i64 f, .int .i64 t, .int .i64 f, .int .i64 t] w fun e w' => e = .returned (Agg8 s) ∧ Below w.heap.size w w' := by
  go_enter Tryz.func79, Tryz.ntmps79
  go_wp2_with fail
  exact bodyPost_ret (v := Agg8 s) (by simp [results, Tryz.results79, go_sem]) rfl ⟨rfl, ((Below.refl _ w).alloc (Nat.le_refl _) _).alloc (by simp) _⟩

set_option maxHeartbeats 1000000 in
theorem refPartG_any (k : Nat) : ∀ (s : Nat → Int) (_ : ∀ i, 0 ≤ s i ∧ s i < 256) (f t a b : Nat) (w : World), t ≤ 16 → NodeB k f t a b = true →
    Calls Tryz.prog 79 #[Agg8 s, .int .i64 f, .int .i64 t, .int .i64 a, .int .i64 b] w fun e w' => e = .returned (Agg8 (PartB k s f t a b)) ∧ Below w.heap.size w w' := by
  induction k with
  | zero =>
    intro s hs f t a b w ht h
    simp [NodeB] at h
    obtain ⟨rfl, rfl⟩ := h
    exact refPart_here s f t w
  | succ k ih =>
    intro s hs f t a b w ht h
    by_cases e : f = a ∧ t = b
    · obtain ⟨rfl, rfl⟩ := e
      rw [PartB_succ, if_pos ⟨rfl, rfl⟩]
      exact refPart_here s f t w
    · rw [PartB_succ, if_neg e]
      rw [NodeB_succ, decide_eq_false e, Bool.false_or, Bool.and_eq_true, decide_eq_true_eq] at h
      obtain ⟨h2, h3⟩ := h
      have hsp := SplitN_bd (t - f) h2
      have HSP : Hid (∀ W, Calls Tryz.prog 110 #[.int .i64 ((t : Int) - f)] W fun e w' => e = .returned (.int .i64 (SplitN (t - f))) ∧ w' = W) := fun W => by
        have h := split_any ((t : Int) - f) (by omega) (by omega) W
        have e1 : ((t : Int) - f) = ((t - f : Nat) : Int) := by omega
        rw [e1] at h ⊢
        rw [SplitN_eq] at h
        exact h
      obtain ⟨q, hq⟩ : ∃ q, SplitN (t - f) = q := ⟨_, rfl⟩
      rw [hq] at HSP hsp h3 ⊢
      clear hq
      by_cases ha : a < f + q
      · rw [if_pos ha] at h3 ⊢
        by_cases hfa : f = a
        · have hnt : ¬ (t : Int) = b := by omega
          subst hfa
          obtain ⟨L, hL⟩ : ∃ L, DerB s lLeft 0 = L := ⟨_, rfl⟩
          have hLb : ∀ i, 0 ≤ L i ∧ L i < 256 := fun i => by rw [← hL]; exact DerB_bd _ _ _ _
          have HD : Hid (∀ W, Calls Tryz.prog 31 #[Agg8 s, .string ⟨#[108, 101, 102, 116]⟩, .int .i64 0] W fun e w' => e = .returned (Agg8 L) ∧ Below W.heap.size W w') := fun W => by
            have h := refDerive_any s hs ⟨#[108, 101, 102, 116]⟩ (by decide) 0 W
            rw [← hL]
            exact h
          rw [hL]
          clear hL
          have HP : Hid (∀ W, Calls Tryz.prog 79 #[Agg8 L, .int .i64 (f), .int .i64 ((f : Int) + q), .int .i64 f, .int .i64 b] W fun e w' => e = .returned (Agg8 (PartB k L (f) (f + q) f b)) ∧ Below W.heap.size W w') := fun W => ih L hLb _ _ f b W (by omega) h3
          obtain ⟨X, hX⟩ : ∃ X, PartB k L (f) (f + q) f b = X := ⟨_, rfl⟩
          rw [hX] at HP ⊢
          clear hX ih hLb h3
          go_enter Tryz.func79, Tryz.ntmps79
          go_wp2_with (first | (go_at_call 110; refine (HSP.out _).mono ?_; rintro e w' ⟨rfl, rfl⟩))
          refine (HD.out _).mono ?_
          rintro e w1 ⟨rfl, b1⟩
          obtain ⟨c1, d1, z1⟩ := cell1 _ _ _ b1
          clear b1
          go_wp2_with fail
          refine (HP.out _).mono ?_
          rintro e w2 ⟨rfl, b2⟩
          have c2 : w2.heap[w.heap.size + 1]? = some (.cells C0 51 (0, 0)) := by rw [b2.block _ (by simp; omega), Below.heap_alloc _ _ _ (by omega), c1]
          have d2 : Below w.heap.size w w2 := (d1.alloc (by omega) _).trans (b2.mono (by simp; omega))
          clear b2 c1 d1 HP HD HSP
          go_wp2_with (refine wpList_store_row rfl 51 _ _ rfl (w.heap.size + 1) (Cells8 X) rfl rfl 51 C0 c2 (by kernel_rfl) rfl (by simp [Value.oneCell']) ?_)
          exact bodyPost_ret (v := Agg8 X) (results_cell_row rfl _ _ (w.heap.size + 1) 51 (Cells8 X) (0, 0) _ rfl (setRow_heap _ _ _ _ _ _ c2) Tryz.underlying51 rfl (by kernel_rfl)) rfl ⟨rfl, below_setRow d2 (by omega) _⟩
        · have hnf : ¬ (f : Int) = a := by omega
          obtain ⟨L, hL⟩ : ∃ L, DerB s lLeft 0 = L := ⟨_, rfl⟩
          have hLb : ∀ i, 0 ≤ L i ∧ L i < 256 := fun i => by rw [← hL]; exact DerB_bd _ _ _ _
          have HD : Hid (∀ W, Calls Tryz.prog 31 #[Agg8 s, .string ⟨#[108, 101, 102, 116]⟩, .int .i64 0] W fun e w' => e = .returned (Agg8 L) ∧ Below W.heap.size W w') := fun W => by
            have h := refDerive_any s hs ⟨#[108, 101, 102, 116]⟩ (by decide) 0 W
            rw [← hL]
            exact h
          rw [hL]
          clear hL
          have HP : Hid (∀ W, Calls Tryz.prog 79 #[Agg8 L, .int .i64 (f), .int .i64 ((f : Int) + q), .int .i64 a, .int .i64 b] W fun e w' => e = .returned (Agg8 (PartB k L (f) (f + q) a b)) ∧ Below W.heap.size W w') := fun W => ih L hLb _ _ a b W (by omega) h3
          obtain ⟨X, hX⟩ : ∃ X, PartB k L (f) (f + q) a b = X := ⟨_, rfl⟩
          rw [hX] at HP ⊢
          clear hX ih hLb h3
          go_enter Tryz.func79, Tryz.ntmps79
          go_wp2_with (first | (go_at_call 110; refine (HSP.out _).mono ?_; rintro e w' ⟨rfl, rfl⟩))
          refine (HD.out _).mono ?_
          rintro e w1 ⟨rfl, b1⟩
          obtain ⟨c1, d1, z1⟩ := cell1 _ _ _ b1
          clear b1
          go_wp2_with fail
          refine (HP.out _).mono ?_
          rintro e w2 ⟨rfl, b2⟩
          have c2 : w2.heap[w.heap.size + 1]? = some (.cells C0 51 (0, 0)) := by rw [b2.block _ (by simp; omega), Below.heap_alloc _ _ _ (by omega), c1]
          have d2 : Below w.heap.size w w2 := (d1.alloc (by omega) _).trans (b2.mono (by simp; omega))
          clear b2 c1 d1 HP HD HSP
          go_wp2_with (refine wpList_store_row rfl 51 _ _ rfl (w.heap.size + 1) (Cells8 X) rfl rfl 51 C0 c2 (by kernel_rfl) rfl (by simp [Value.oneCell']) ?_)
          exact bodyPost_ret (v := Agg8 X) (results_cell_row rfl _ _ (w.heap.size + 1) 51 (Cells8 X) (0, 0) _ rfl (setRow_heap _ _ _ _ _ _ c2) Tryz.underlying51 rfl (by kernel_rfl)) rfl ⟨rfl, below_setRow d2 (by omega) _⟩
      · rw [if_neg ha] at h3 ⊢
        have hnf : ¬ (f : Int) = a := by omega
        obtain ⟨L, hL⟩ : ∃ L, DerB s lRight 0 = L := ⟨_, rfl⟩
        have hLb : ∀ i, 0 ≤ L i ∧ L i < 256 := fun i => by rw [← hL]; exact DerB_bd _ _ _ _
        have HD : Hid (∀ W, Calls Tryz.prog 31 #[Agg8 s, .string ⟨#[114, 105, 103, 104, 116]⟩, .int .i64 0] W fun e w' => e = .returned (Agg8 L) ∧ Below W.heap.size W w') := fun W => by
          have h := refDerive_any s hs ⟨#[114, 105, 103, 104, 116]⟩ (by decide) 0 W
          rw [← hL]
          exact h
        rw [hL]
        clear hL
        have HP : Hid (∀ W, Calls Tryz.prog 79 #[Agg8 L, .int .i64 ((f : Int) + q), .int .i64 (t), .int .i64 a, .int .i64 b] W fun e w' => e = .returned (Agg8 (PartB k L (f + q) (t) a b)) ∧ Below W.heap.size W w') := fun W => ih L hLb _ _ a b W (by omega) h3
        obtain ⟨X, hX⟩ : ∃ X, PartB k L (f + q) (t) a b = X := ⟨_, rfl⟩
        rw [hX] at HP ⊢
        clear hX ih hLb h3
        go_enter Tryz.func79, Tryz.ntmps79
        go_wp2_with (first | (go_at_call 110; refine (HSP.out _).mono ?_; rintro e w' ⟨rfl, rfl⟩))
        refine (HD.out _).mono ?_
        rintro e w1 ⟨rfl, b1⟩
        obtain ⟨c1, d1, z1⟩ := cell1 _ _ _ b1
        clear b1
        go_wp2_with fail
        refine (HP.out _).mono ?_
        rintro e w2 ⟨rfl, b2⟩
        have c2 : w2.heap[w.heap.size + 1]? = some (.cells C0 51 (0, 0)) := by rw [b2.block _ (by simp; omega), Below.heap_alloc _ _ _ (by omega), c1]
        have d2 : Below w.heap.size w w2 := (d1.alloc (by omega) _).trans (b2.mono (by simp; omega))
        clear b2 c1 d1 HP HD HSP
        go_wp2_with (refine wpList_store_row rfl 51 _ _ rfl (w.heap.size + 1) (Cells8 X) rfl rfl 51 C0 c2 (by kernel_rfl) rfl (by simp [Value.oneCell']) ?_)
        exact bodyPost_ret (v := Agg8 X) (results_cell_row rfl _ _ (w.heap.size + 1) 51 (Cells8 X) (0, 0) _ rfl (setRow_heap _ _ _ _ _ _ c2) Tryz.underlying51 rfl (by kernel_rfl)) rfl ⟨rfl, below_setRow d2 (by omega) _⟩
end Go.Proofs.YtkpebabbnndopaaGreatDoor

/- (*epochref.Group).parts, which calls itself. -/
namespace Go.Proofs.YtkpebabbnndopaaGreatDoor
open Go.RowKit
set_option linter.unusedVariables false

/-- what a region's loads read of the other's group itself -/
abbrev SG (rb : Nat) (cs : Array Value) (W : World) : Prop := (∀ o, W.cell? ⟨rb, o, none⟩ = cs[o]?) ∧ rb < W.heap.size
theorem SG.below {rb : Nat} {cs : Array Value} {W W' : World} (h : SG rb cs W) (hb : Below W.heap.size W W') : SG rb cs W' :=
  ⟨fun o => by rw [hb.cell (p := ⟨rb, o, none⟩) h.2, h.1], by have := hb.size; have := h.2; omega⟩
theorem SG.drew {rb : Nat} {cs : Array Value} {W : World} (h : SG rb cs W) : SG rb cs W.drew := h.below (Below.refl _ _).drew
theorem SG.alloc {rb : Nat} {cs : Array Value} {W : World} (h : SG rb cs W) (o : Obj) : SG rb cs (W.alloc o) := h.below ((Below.refl _ _).alloc (Nat.le_refl _) _)
theorem SG.set {rb : Nat} {cs : Array Value} {W : World} (h : SG rb cs W) (b o : Nat) (v : Value) (h1 : rb ≠ b) : SG rb cs (W.setCell ⟨b, o, none⟩ v) :=
  ⟨fun i => by rw [← h.1 i]; exact World.cell?_of_block (w := W) (Below.heap_setCell _ _ _ _ h1), by simp [World.setCell]; exact h.2⟩

def PartsC (S : List Nat) (rb mb : Nat) (cs : Array Value) (ov : Nat → Value) (st : St) (steps : Int) (k : Nat) : Prop := ∀ (f t : Nat) (w : World), RefG w S rb mb cs ov st steps → st.node f t → t - f ≤ k + 1 →
    Calls Tryz.prog 102 #[.pointer (some ⟨rb, 0, none⟩), .int .i64 f, .int .i64 t] w fun e w' => ∃ v, e = .returned v ∧ Below w.heap.size w w' ∧ Its w' w.heap.size v (st.parts k f t)

set_option maxRecDepth 20000 in
set_option maxHeartbeats 2000000 in
theorem refParts_step (S : List Nat) (rb mb : Nat) (cs : Array Value) (ov : Nat → Value) (st : St) (steps : Int) (ok : st.Ok) (k : Nat) (ih : ∀ k', k = k' + 1 → PartsC S rb mb cs ov st steps k') : PartsC S rb mb cs ov st steps k := by
  intro f t w hr hnode hk
  obtain ⟨hft, htn⟩ := St.node_in ok hnode
  have h16 := ok.n16
  have hsg : SG rb (CellsG st steps mb) w := ⟨(row_facts' hr.2.2.2.1).1, (Array.getElem?_eq_some_iff.1 hr.2.2.2.1).1⟩
  have hA := hsg.1
  have HM : Hid (∀ i, i < st.n → w.cell? ⟨mb, i * 3, none⟩ = some (.bool (st.m i).begun)) := fun i hi => (hr.cells i hi).2.2.1
  have HR : Hid (RefG w S rb mb cs ov st steps) := hr
  have HNODE : Hid (st.node f t) := hnode
  have HIH : Hid (∀ k', k = k' + 1 → PartsC S rb mb cs ov st steps k') := ih
  have HP : Hid (∀ W, Calls Tryz.prog 79 #[Agg8 st.s, .int .i64 0, .int .i64 st.n, .int .i64 f, .int .i64 t] W fun e w' => e = .returned (Agg8 (st.part f t)) ∧ Below W.heap.size W w') := fun W => refPartG_any 16 st.s ok.hs 0 st.n f t W ok.n16 hnode
  have HL1 : Hid (st.begun f t = false → st.parts k f t = [⟨0, f, t, 0, st.part f t⟩]) := st.parts_not k f t
  have HL2 : Hid (st.begun f t = true → t - f = 1 → st.parts k f t = []) := st.parts_one k f t
  obtain ⟨L, hL⟩ : ∃ L, st.parts k f t = L := ⟨_, rfl⟩
  rw [hL] at HL1 HL2 ⊢
  have HL : Hid (st.parts k f t = L) := hL
  obtain ⟨X, hX⟩ : ∃ X, st.part f t = X := ⟨_, rfl⟩
  rw [hX] at HL1 HP
  clear hr hnode ih hL hX
  go_enter Tryz.func102, Tryz.ntmps102
  go_wp2_with fail
  go_loopg [7, 8] (t - f) (fun k b i wr => ∃ j : Nat, i = .int .i64 j ∧ f ≤ j ∧ j + k = t ∧ b = .bool (st.begun f j) ∧ wr = w)
  case atStart => exact ⟨f, rfl, Nat.le_refl _, by omega, by rw [St.begun_self], rfl⟩
  case round =>
    obtain ⟨j, rfl, hj1, hj2, rfl, rfl⟩ := hrel
    by_cases hlt : j < t
    · have hstep := St.begun_step st f j hj1
      have HST : Hid (st.begun f (j + 1) = (st.begun f j || (st.m j).begun)) := hstep
      have hm := HM.out j (by omega)
      clear hstep
      cases hb : st.begun f j with
      | true =>
        rw [hb] at HST
        go_wp2_with fail
        go_roundg (gk - 1)
        case measure => omega
        case rel => exact ⟨j + 1, by go_num, by omega, by omega, by rw [HST.out]; rfl, rfl⟩
      | false =>
        rw [hb] at HST
        go_wp2_with fail
        go_roundg (gk - 1)
        case measure => omega
        case rel => exact ⟨j + 1, by go_num, by omega, by omega, by rw [HST.out]; simp, rfl⟩
    · obtain rfl : j = t := by omega
      clear hlt
      cases hb : st.begun f j with
      | false =>
        have hLe := HL1.out hb
        subst hLe
        have hn1 : rb ≠ wr.heap.size := by have := hsg.2; omega
        go_upto_region 7 with fail
        go_cut [9] (fun s9 wy => ∃ kb, s9 = .pointer (some ⟨kb, 0, none⟩) ∧ wy.heap[kb]? = some (.cells (Cells8 X) 51 (0, 0)) ∧ Below wr.heap.size wr wy)
        case first =>
          go_region_held3 (fun W => SG rb (CellsG st steps mb) W) ((with_reducible first | exact hsg.drew | exact (SG.alloc hsg _).drew | (refine SG.set (SG.set (SG.set (SG.set (SG.set (SG.set (SG.set (SG.set ?_ _ _ _ hn1) _ _ _ hn1) _ _ _ hn1) _ _ _ hn1) _ _ _ hn1) _ _ _ hn1) _ _ _ hn1) _ _ _ hn1; assumption) | exact SG.alloc (by assumption) _ | exact SG.below (by assumption) hb1 | exact SG.below (SG.alloc hsg _).drew hb1 | exact SG.below hsg.drew hb1 | exact SG.alloc (SG.below hsg.drew hb1) _)) ((go_at_call 79; refine (HP.out _).mono ?_; rintro e w1 ⟨rfl, hb1⟩; obtain ⟨hc1, hf1⟩ := bcell hb1))
          · go_wp2_with fail
            go_meet
            exact ⟨w1.heap.size, rfl, (MapKept.heap_alloc _ _).1, ((Below.refl _ wr).drew.trans hb1).alloc hb1.size _⟩
          · go_wp2_with fail
            go_meet
            obtain ⟨hk1, hk2⟩ := newcell' wr w1 hb1
            rw [stores8_row w1 wr.heap.size _ _ X hk2]
            exact ⟨wr.heap.size, rfl, setRow_heap _ _ _ _ _ _ hk2, below_setRow hk1 (Nat.le_refl _) _⟩
        case rest =>
          obtain ⟨kb, rfl, hkb, hbel⟩ := hcut
          have hz := hbel.size
          go_wp2_with (refine wpList_load_row rfl 51 _ rfl kb rfl 51 (Cells8 X) (0, 0) _ hkb Tryz.underlying51 rfl (by kernel_rfl) ?_)
          go_ret
          exact ⟨_, rfl, hbel.alloc hz _, Its.one wc wr.heap.size hz ⟨0, f, j, 0, X⟩⟩
      | true =>
        by_cases h1 : j - f = 1
        · have hLe := HL2.out hb h1
          subst hLe
          go_wp2_with fail
          go_ret
          exact ⟨_, rfl, Below.refl _ _, Its.nil _ _⟩
        · obtain ⟨k', rfl⟩ : ∃ k', k = k' + 1 := ⟨k - 1, by omega⟩
          have hq := SplitN_bd (j - f) (by omega)
          have hpt := St.parts_two st k' f j hb h1
          rw [HL.out] at hpt
          subst hpt
          obtain ⟨⟨hn1, _⟩, hn2, _⟩ := St.halves ok HNODE.out (by omega)
          have HSP : Hid (∀ W, Calls Tryz.prog 110 #[.int .i64 ((j : Int) - f)] W fun e w' => e = .returned (.int .i64 (SplitN (j - f))) ∧ w' = W) := fun W => by
            have h := split_any ((j : Int) - f) (by omega) (by omega) W
            have e1 : ((j : Int) - f) = ((j - f : Nat) : Int) := by omega
            rw [e1] at h ⊢
            rw [SplitN_eq] at h
            exact h
          have lq1 := St.parts_len st k' f (f + SplitN (j - f)) (by omega)
          have lq2 := St.parts_len st k' (f + SplitN (j - f)) j (by omega)
          have HC1 : Hid (∀ W, RefG W S rb mb cs ov st steps → Calls Tryz.prog 102 #[.pointer (some ⟨rb, 0, none⟩), .int .i64 f, .int .i64 ((f : Int) + SplitN (j - f))] W fun e w' => ∃ v, e = .returned v ∧ Below W.heap.size W w' ∧ Its w' W.heap.size v (st.parts k' f (f + SplitN (j - f)))) := fun W hW => HIH.out k' rfl f (f + SplitN (j - f)) W hW hn1 (by omega)
          have HC2 : Hid (∀ W, RefG W S rb mb cs ov st steps → Calls Tryz.prog 102 #[.pointer (some ⟨rb, 0, none⟩), .int .i64 ((f : Int) + SplitN (j - f)), .int .i64 j] W fun e w' => ∃ v, e = .returned v ∧ Below W.heap.size W w' ∧ Its w' W.heap.size v (st.parts k' (f + SplitN (j - f)) j)) := fun W hW => HIH.out k' rfl (f + SplitN (j - f)) j W hW hn2 (by omega)
          obtain ⟨P1, hP1⟩ : ∃ P1, st.parts k' f (f + SplitN (j - f)) = P1 := ⟨_, rfl⟩
          obtain ⟨P2, hP2⟩ : ∃ P2, st.parts k' (f + SplitN (j - f)) j = P2 := ⟨_, rfl⟩
          rw [hP1] at HC1 lq1
          rw [hP2] at HC2 lq2
          have HPP : Hid (st.parts k' f (f + SplitN (j - f)) = P1 ∧ st.parts k' (f + SplitN (j - f)) j = P2) := ⟨hP1, hP2⟩
          obtain ⟨q, hqe⟩ : ∃ q, SplitN (j - f) = q := ⟨_, rfl⟩
          rw [hqe] at HC1 HC2 HSP hq lq1 lq2
          clear hP1 hP2 hqe HL HL1 HL2 HIH HNODE hn1 hn2 HP
          go_wp2_with (go_at_call 110; refine (HSP.out _).mono ?_; rintro e w' ⟨rfl, rfl⟩)
          refine (HC1.out _ HR.out).mono ?_
          rintro e w1 ⟨v1, rfl, b1, i1⟩
          have hr1 := HR.out.below b1
          have HI1 : Hid (Its w1 w'.heap.size v1 P1) := i1
          have HR1 : Hid (RefG w1 S rb mb cs ov st steps) := hr1
          clear i1 hr1
          go_wp2_with fail
          refine (HC2.out _ HR1.out).mono ?_
          rintro e w2 ⟨v2, rfl, b2, i2⟩
          have hz1 := b1.size
          have hz2 := b2.size
          obtain ⟨v3, w3, hrun, i3, b3, _⟩ := its_append w2 w'.heap.size w1.heap.size v1 v2 P1 P2 (HI1.out.below b2) i2 (by omega) (by omega) 45
          have HRUN : Hid ((Builtin.append_ #[45, 45] 45 #[v1, v2]).run Tryz.prog w2 = .ok v3 w3) := hrun
          have HI3 : Hid (Its w3 w'.heap.size v3 (P1 ++ P2)) := i3
          clear hrun i3 i2
          go_wp2_with (at_builtin; refine wpList_app rfl _ _ 45 45 rfl rfl _ _ _ _ rfl rfl HRUN.out ?_)
          go_ret
          refine ⟨_, rfl, (b1.trans (b2.mono hz1)).trans b3, ?_⟩
          rw [HPP.out.1, HPP.out.2]
          exact HI3.out

theorem refParts_any (S : List Nat) (rb mb : Nat) (cs : Array Value) (ov : Nat → Value) (st : St) (steps : Int) (ok : st.Ok) (k : Nat) : PartsC S rb mb cs ov st steps k := by
  induction k with
  | zero => exact refParts_step S rb mb cs ov st steps ok 0 (fun k' h => by omega)
  | succ k ih => exact refParts_step S rb mb cs ov st steps ok (k + 1) (fun k' h => by cases h; exact ih)
end Go.Proofs.YtkpebabbnndopaaGreatDoor
