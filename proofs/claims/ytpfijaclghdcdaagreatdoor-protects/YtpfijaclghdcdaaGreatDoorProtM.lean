import Derived.Test.YtpfijaclghdcdaaGreatDoorLawA
import Derived.WalkKit
import Derived.WalkSpells
import Derived.WalkLawsBesides
import Derived.Deep.WholeRow
import Derived.Deep.LoopGhost
import Derived.Test.YtpfijaclghdcdaaGreatDoorRows
import Derived.Test.YtpfijaclghdcdaaGreatDoorPure
import Derived.Laws.StructEq
import Derived.Test.YtpfijaclghdcdaaGreatDoorPureI
import Derived.Test.YtpfijaclghdcdaaGreatDoorRefM
import Derived.Deep.MidRow
import Derived.BigQuiet
import Derived.Maps.AppendAt
import Derived.Laws.OwnMore
import Derived.Deep.DeepCutAuto
import Derived.Deep.RegionHeld3
import Derived.ProofKit
import Derived.OpenShut
import Derived.ChangeSlices
import Derived.Deep.Slices
import Derived.Test.YtpfijaclghdcdaaGreatDoorAs
import Derived.ChangeSame
import Derived.ChangeVars
import Derived.JoinedOf
import Derived.RowKit
import Derived.RowKitTokens
import Derived.LaidLaws
import Derived.LaidHandle
import Derived.Stop.Joined
import Derived.ShutString
import Derived.Carry
import Derived.Test.YtpfijaclghdcdaaGreatDoorGrpM
import Derived.Test.YtpfijaclghdcdaaGreatDoorGrpN
import Derived.Test.YtpfijaclghdcdaaGreatDoorCards
import Derived.Test.YtpfijaclghdcdaaGreatDoorTie
import Derived.SevenTiedAt
/- The law's (*Side).protect. -/
namespace Go.Proofs.YtpfijaclghdcdaaGreatDoor
open Go.RowKit
set_option linter.unusedVariables false

set_option maxRecDepth 20000 in
set_option maxHeartbeats 1000000 in
theorem protect_err {Rep : World → List Nat → Value → St → Nat → Prop} (C : Code Rep) (w : World) (sb : Nat) (U : List Nat) (st : St) (wk : Nat) (h : Side Rep w sb U st wk) (hwk : wk ≤ 100000000000) (t : ByteArray) (ht : t.size ≤ 65536) (he : st.protErr t.size ≠ 0) (hG : Glob w) :
    Calls Tryz.prog 41 #[.pointer (some ⟨sb, 0, none⟩), .string t] w fun e w' => e = .returned (.tuple #[.string ⟨#[]⟩, .bool true]) ∧ Outside U w w' ∧ ∃ U', Fresh w U U' ∧ Side Rep w' sb U' st wk := by
  have hlt := h.lt C
  obtain ⟨S, T, g, rb, steps, rfl, ok, hrow, hrep, href, h4, h5, h6, h7⟩ := h
  have e1 : t.data.toList.length = t.size := by simp
  have hsb : sb < w.heap.size := (Array.getElem?_eq_some_iff.1 hrow).1
  obtain ⟨hA, hAf⟩ := row_facts' hrow
  have HROW : Hid (w.heap[sb]? = some (.cells (CellsS g rb wk) 64 (0, 0))) := hrow
  have HREP : Hid (Rep w S g st wk) := hrep
  have HGL : Hid (Glob w) := hG
  have HREF : Hid (RefRep w T rb st steps) := href
  obtain ⟨E, hE⟩ : ∃ E, st.protErr t.size = E := ⟨_, rfl⟩
  have HE : Hid (st.protErr t.size = E ∧ E ≠ 0) := ⟨hE, hE ▸ he⟩
  have hne : (E == 0) = false := by have := HE.out.2; simpa using this
  have HSET : Hid ((∀ k, k ∈ sb :: (S ++ T) → k < w.heap.size) ∧ sb ∉ S ∧ sb ∉ T ∧ (∀ k, k ∈ S → k ∉ T) ∧ (∀ k, k ∈ T → k < w.heap.size)) := ⟨hlt, h4, h5, h6, h7⟩
  clear hrow hrep href hE he hlt h4 h5 h6 h7 hG
  go_enter Tryz.func41, Tryz.ntmps41
  go_wp2_with (refine wpList_bytes rfl _ rfl t rfl ?_; intro cap1 w1 hcap1 b1 z1 B1; have hA1 : ∀ o, w1.cell? ⟨sb, o, none⟩ = (CellsS g rb wk)[o]? := fun o => (b1.cell (p := ⟨sb, o, none⟩) hsb).trans (hA o))
  obtain ⟨hlt, h4, h5, h6, h7⟩ := HSET.out
  have hrep1 : Rep w1 S g st wk := C.keep HREP.out b1.size (fun k a _ => b1.block k a)
  have hnS : ∀ b o, (some ⟨w.heap.size, 0, none⟩ : Option Addr) = some ⟨b, o, none⟩ → b ∉ S := fun b o e hb => by
    have := hlt b (List.mem_cons_of_mem _ (List.mem_append_left _ hb))
    cases e
    omega
  have hcall := C.protErr ok hrep1 (HGL.out.below b1) (some ⟨w.heap.size, 0, none⟩) t.data.toList cap1 (by omega) B1 hnS (by rw [e1, HE.out.1]; exact HE.out.2)
  rw [e1, HE.out.1] at hcall
  refine hcall.mono ?_
  clear hcall
  rintro e w2 ⟨rfl, o2, S', f2, hrep2⟩
  have hrow2 : w2.heap[sb]? = some (.cells (CellsS g rb wk) 64 (0, 0)) := o2.row (by rw [b1.block _ hsb]; exact HROW.out) h4
  have href2 : RefRep w2 T rb st steps := (HREF.out.below b1).keep fun k a b => o2.block k a (fun h => h6 k h b)
  have B2 := B1.out o2 hnS
  clear hA hAf hA1 B1
  obtain ⟨hA, hAf⟩ := row_facts' hrow2
  have HOLD : Hid (Outside S w1 w2 ∧ Fresh w1 S S' ∧ Rep w2 S' g st wk ∧ RefRep w2 T rb st steps ∧ w2.heap[sb]? = some (.cells (CellsS g rb wk) 64 (0, 0))) := ⟨o2, f2, hrep2, href2, hrow2⟩
  have HB2 : Hid (Bts w2 (some ⟨w.heap.size, 0, none⟩) t.data.toList ∧ Below w.heap.size w w1 ∧ w1.heap.size = w.heap.size + 1) := ⟨B2, b1, z1⟩
  clear o2 f2 hrep2 href2 hrow2 hrep1 hlt h4 h5 h6 h7 hnS B2 b1 z1
  go_wp2_with fail
  obtain ⟨o2, f2, hrep2, href2, hrow2⟩ := HOLD.out
  obtain ⟨hlt, h4, h5, h6, h7⟩ := HSET.out
  obtain ⟨B2, b1, z1⟩ := HB2.out
  have hnT : ∀ b o, (some ⟨w.heap.size, 0, none⟩ : Option Addr) = some ⟨b, o, none⟩ → b ∉ T := fun b o e hb => by
    have := h7 b hb
    cases e
    omega
  refine (refProt_err w2 T rb st steps ok href2 t E HE.out.1 HE.out.2).mono ?_
  rintro e w3 ⟨rfl, o3, href3⟩
  have hS'lt := C.lt hrep2
  have hsb' : sb ∉ S' := fun h => by
    rcases f2 sb h with h | h
    · exact h4 h
    · omega
  have hdis : ∀ k, k ∈ S' → k ∉ T := fun k hk hkT => by
    rcases f2 k hk with h | h
    · exact h6 k h hkT
    · have := h7 k hkT; omega
  have hrep3 : Rep w3 S' g st wk := C.keep hrep2 o3.size (fun k a b => o3.block k a (hdis k b))
  have hrow3 := o3.row hrow2 h5
  have B3 := B2.out o3 hnT
  have hwkd := worked_any C w3 sb S' T g rb st wk wk 0 false ok hrow3 hrep3 href3 hsb' h5 hdis (Nat.le_refl _) (by omega) (by intro h; cases h) (by omega) (by omega)
  have HOLD2 : Hid (Outside T w2 w3 ∧ RefRep w3 T rb st 0 ∧ Rep w3 S' g st wk ∧ Bts w3 (some ⟨w.heap.size, 0, none⟩) t.data.toList) := ⟨o3, href3, hrep3, B3⟩
  have HWK : Hid (Calls Tryz.prog 45 #[.pointer (some ⟨sb, 0, none⟩), .bool false] w3 fun e w' => e = .returned (.bool true) ∧ Outside (sb :: S') w3 w' ∧ w'.heap[sb]? = some (.cells (CellsS g rb wk) 64 (0, 0)) ∧ ∃ S'', Fresh w3 S' S'' ∧ Rep w' S'' g st wk) := hwkd
  have HH : Hid ((∀ k, k ∈ S' → k < w2.heap.size) ∧ sb ∉ S' ∧ ∀ k, k ∈ S' → k ∉ T) := ⟨hS'lt, hsb', hdis⟩
  clear o2 f2 hrep2 href2 hrow2 o3 href3 hrep3 hrow3 B3 B2 hwkd hS'lt hsb' hdis hA hAf hlt h4 h5 h6 h7 hnT b1 z1
  go_wp2_with fail
  refine HWK.out.mono ?_
  rintro e w4 ⟨rfl, o4, hrow4, S'', f4, hrep4⟩
  obtain ⟨o2, f2, hrep2, href2, hrow2⟩ := HOLD.out
  obtain ⟨o3, href3, hrep3, B3⟩ := HOLD2.out
  obtain ⟨hS'lt, hsb', hdis⟩ := HH.out
  obtain ⟨hlt, h4, h5, h6, h7⟩ := HSET.out
  obtain ⟨_, b1, z1⟩ := HB2.out
  have z12 := o2.size
  have z23 := o3.size
  have z34 := o4.size
  have hn4 : ∀ b o, (some ⟨w.heap.size, 0, none⟩ : Option Addr) = some ⟨b, o, none⟩ → b ∉ sb :: S' := fun b o e hb => by
    cases e
    rcases List.mem_cons.1 hb with h | h
    · omega
    · rcases f2 _ h with h | h
      · have := hlt _ (List.mem_cons_of_mem _ (List.mem_append_left _ h)); omega
      · omega
  have B4 := B3.out o4 hn4
  have hct : (convert 30 9 (.slice (some ⟨w.heap.size, 0, none⟩) t.size cap1)).run Tryz.prog w4 = .ok (.string t) w4 := by
    have h := cv_of_bts cap1 B4 w4 (Below.refl _ _)
    rw [e1] at h
    exact h
  have hcb : (convert 30 9 (.slice none 0 0)).run Tryz.prog w4 = .ok (.string ⟨#[]⟩) w4 := cv_of_bts (w := w4) (a := none) (l := []) 0 (.inl rfl) w4 (Below.refl _ _)
  have HFIN : Hid (Outside (sb :: (S ++ T)) w w4 ∧ ∃ U', Fresh w (sb :: (S ++ T)) U' ∧ Side Rep w4 sb U' st wk) := by
    obtain ⟨x1, x2, x3⟩ := side_fin C ok hsb h4 h5 h6 h7 b1 o2 f2 o3 href3 o4 hrow4 f4 hrep4
    exact ⟨x1, _, x2, x3⟩
  clear o2 f2 hrep2 href2 hrow2 o3 href3 hrep3 B3 hS'lt hsb' hdis o4 hrow4 f4 hrep4 B4 hn4 hlt h4 h5 h6 h7 b1 z1
  go_wp2_with fail
  refine wp_loop_rounds 1 ?_
  rw [rounds_succ]; go_wp2_with fail
  go_ret2
  exact ⟨rfl, HFIN.out⟩

set_option maxRecDepth 20000 in
set_option maxHeartbeats 1000000 in
theorem protect_ok {Rep : World → List Nat → Value → St → Nat → Prop} (C : Code Rep) (w : World) (sb : Nat) (U : List Nat) (st : St) (wk : Nat) (h : Side Rep w sb U st wk) (hwk : wk ≤ 100000000000) (t : ByteArray) (ht : t.size ≤ 65536) (he : st.protErr t.size = 0) :
    Calls Tryz.prog 41 #[.pointer (some ⟨sb, 0, none⟩), .string t] w fun e w' => e = .returned (.tuple #[.string ⟨(st.frame t.data.toList).toArray⟩, .bool true]) ∧ Outside U w w' ∧ ∃ U' wk', Fresh w U U' ∧ Side Rep w' sb U' st.protNext wk' ∧ wk' ≤ wk + 100 := by
  have hlt := h.lt C
  obtain ⟨S, T, g, rb, steps, rfl, ok, hrow, hrep, href, h4, h5, h6, h7⟩ := h
  have e1 : t.data.toList.length = t.size := by simp
  have hsb : sb < w.heap.size := (Array.getElem?_eq_some_iff.1 hrow).1
  obtain ⟨hA, hAf⟩ := row_facts' hrow
  have HROW : Hid (w.heap[sb]? = some (.cells (CellsS g rb wk) 64 (0, 0))) := hrow
  have HREP : Hid (Rep w S g st wk) := hrep
  have HREF : Hid (RefRep w T rb st steps) := href
  have HE : Hid (st.protErr t.size = 0) := he
  obtain ⟨pz1, pz2⟩ := protErr_zero he
  have okn := ok.protNext pz2
  have HBD : Hid (st.bound st.own (st.m st.own).next t.size ≤ 100) := bound_le st t.size pz1
  have HSET : Hid ((∀ k, k ∈ sb :: (S ++ T) → k < w.heap.size) ∧ sb ∉ S ∧ sb ∉ T ∧ (∀ k, k ∈ S → k ∉ T) ∧ (∀ k, k ∈ T → k < w.heap.size)) := ⟨hlt, h4, h5, h6, h7⟩
  clear hrow hrep href he hlt h4 h5 h6 h7
  go_enter Tryz.func41, Tryz.ntmps41
  go_wp2_with (refine wpList_bytes rfl _ rfl t rfl ?_; intro cap1 w1 hcap1 b1 z1 B1; have hA1 : ∀ o, w1.cell? ⟨sb, o, none⟩ = (CellsS g rb wk)[o]? := fun o => (b1.cell (p := ⟨sb, o, none⟩) hsb).trans (hA o))
  obtain ⟨hlt, h4, h5, h6, h7⟩ := HSET.out
  have hrep1 : Rep w1 S g st wk := C.keep HREP.out b1.size (fun k a _ => b1.block k a)
  have hnS : ∀ b o, (some ⟨w.heap.size, 0, none⟩ : Option Addr) = some ⟨b, o, none⟩ → b ∉ S := fun b o e hb => by
    have := hlt b (List.mem_cons_of_mem _ (List.mem_append_left _ hb))
    cases e
    omega
  have hcall := C.prot ok hrep1 (some ⟨w.heap.size, 0, none⟩) t.data.toList cap1 (by omega) B1 hnS (by rw [e1]; exact HE.out)
  rw [e1] at hcall
  refine hcall.mono ?_
  clear hcall
  rintro e w2 ⟨o2, S', wk', f, o, cap, f2, hrep2, hw1, hw2, rfl, hf1, hf2, hcap, BF2, FF2⟩
  have hrow2 : w2.heap[sb]? = some (.cells (CellsS g rb wk) 64 (0, 0)) := o2.row (by rw [b1.block _ hsb]; exact HROW.out) h4
  have href2 : RefRep w2 T rb st steps := (HREF.out.below b1).keep fun k a b => o2.block k a (fun h => h6 k h b)
  have B2 := B1.out o2 hnS
  clear hA hAf hA1 B1
  obtain ⟨hA, hAf⟩ := row_facts' hrow2
  have HOLD : Hid (Outside S w1 w2 ∧ Fresh w1 S S' ∧ Rep w2 S' g st.protNext wk' ∧ RefRep w2 T rb st steps ∧ w2.heap[sb]? = some (.cells (CellsS g rb wk) 64 (0, 0))) := ⟨o2, f2, hrep2, href2, hrow2⟩
  have hflt : (st.frame t.data.toList).length ≤ 1000 := by
    unfold St.frame
    rw [List.length_append, SealT_length]
    simp [HeadB]
    omega
  have hfpos : 0 < (st.frame t.data.toList).length := by
    unfold St.frame
    rw [List.length_append]
    have : 0 < (HeadB st.own (st.m st.own).next).length := by simp [HeadB]
    omega
  obtain ⟨FR, hFR⟩ : ∃ FR, st.frame t.data.toList = FR := ⟨_, rfl⟩
  have HFR : Hid (st.frame t.data.toList = FR) := hFR
  rw [hFR] at hcap BF2 FF2 hflt hfpos ⊢
  clear hFR
  have HFF : Hid (f < w2.heap.size ∧ f ∉ S' ∧ w1.heap.size ≤ f ∧ Bts w2 (some ⟨f, o, none⟩) FR ∧ (∀ i, i < FR.length → w2.frozen? ⟨f, o + i, none⟩ = false)) := by
    refine ⟨?_, hf2, hf1, BF2, FF2⟩
    rcases BF2 with h | ⟨b, o', e, hc⟩
    · rw [h] at hfpos; simp at hfpos
    · cases e; exact block_lt_of_cell (hc 0 hfpos)
  clear hf1 hf2 BF2 FF2
  have HB2 : Hid (Bts w2 (some ⟨w.heap.size, 0, none⟩) t.data.toList ∧ Below w.heap.size w w1 ∧ w1.heap.size = w.heap.size + 1) := ⟨B2, b1, z1⟩
  clear o2 f2 hrep2 href2 hrow2 hrep1 hlt h4 h5 h6 h7 hnS B2 b1 z1
  go_wp2_with fail
  obtain ⟨o2, f2, hrep2, href2, hrow2⟩ := HOLD.out
  obtain ⟨hlt, h4, h5, h6, h7⟩ := HSET.out
  obtain ⟨B2, b1, z1⟩ := HB2.out
  have hnT : ∀ b o, (some ⟨w.heap.size, 0, none⟩ : Option Addr) = some ⟨b, o, none⟩ → b ∉ T := fun b o e hb => by
    have := h7 b hb
    cases e
    omega
  have hrf := refProt_ok w2 T rb st steps ok href2 t HE.out
  rw [HFR.out] at hrf
  refine hrf.mono ?_
  clear hrf
  rintro e w3 ⟨rfl, o3, href3⟩
  have hS'lt := C.lt hrep2
  have hsb' : sb ∉ S' := fun h => by
    rcases f2 sb h with h | h
    · exact h4 h
    · omega
  have hdis : ∀ k, k ∈ S' → k ∉ T := fun k hk hkT => by
    rcases f2 k hk with h | h
    · exact h6 k h hkT
    · have := h7 k hkT; omega
  have hrep3 : Rep w3 S' g st.protNext wk' := C.keep hrep2 o3.size (fun k a b => o3.block k a (hdis k b))
  have hrow3 := o3.row hrow2 h5
  have B3 := B2.out o3 hnT
  have hwkd := worked_any C w3 sb S' T g rb st.protNext wk wk' (st.bound st.own (st.m st.own).next t.size) true okn hrow3 hrep3 href3 hsb' h5 hdis (Nat.le_of_lt hw1) hw2 (fun _ => hw1) (by have := HBD.out; omega) (by have := HBD.out; omega)
  have HOLD2 : Hid (Outside T w2 w3 ∧ RefRep w3 T rb st.protNext (st.bound st.own (st.m st.own).next t.size) ∧ Rep w3 S' g st.protNext wk' ∧ Bts w3 (some ⟨w.heap.size, 0, none⟩) t.data.toList) := ⟨o3, href3, hrep3, B3⟩
  have HWK : Hid (Calls Tryz.prog 45 #[.pointer (some ⟨sb, 0, none⟩), .bool true] w3 fun e w' => e = .returned (.bool true) ∧ Outside (sb :: S') w3 w' ∧ w'.heap[sb]? = some (.cells (CellsS g rb wk') 64 (0, 0)) ∧ ∃ S'', Fresh w3 S' S'' ∧ Rep w' S'' g st.protNext wk') := hwkd
  have HH : Hid ((∀ k, k ∈ S' → k < w2.heap.size) ∧ sb ∉ S' ∧ ∀ k, k ∈ S' → k ∉ T) := ⟨hS'lt, hsb', hdis⟩
  clear o2 f2 hrep2 href2 hrow2 o3 href3 hrep3 hrow3 B3 B2 hwkd hS'lt hsb' hdis hA hAf hlt h4 h5 h6 h7 hnT b1 z1
  go_wp2_with fail
  refine HWK.out.mono ?_
  rintro e w4 ⟨rfl, o4, hrow4, S'', f4, hrep4⟩
  obtain ⟨o2, f2, hrep2, href2, hrow2⟩ := HOLD.out
  obtain ⟨o3, href3, hrep3, B3⟩ := HOLD2.out
  obtain ⟨hS'lt, hsb', hdis⟩ := HH.out
  obtain ⟨hlt, h4, h5, h6, h7⟩ := HSET.out
  obtain ⟨_, b1, z1⟩ := HB2.out
  have z12 := o2.size
  have z23 := o3.size
  have z34 := o4.size
  have hn4 : ∀ b o, (some ⟨w.heap.size, 0, none⟩ : Option Addr) = some ⟨b, o, none⟩ → b ∉ sb :: S' := fun b o e hb => by
    cases e
    rcases List.mem_cons.1 hb with h | h
    · omega
    · rcases f2 _ h with h | h
      · have := hlt _ (List.mem_cons_of_mem _ (List.mem_append_left _ h)); omega
      · omega
  have B4 := B3.out o4 hn4
  have hct : (convert 30 9 (.slice (some ⟨w.heap.size, 0, none⟩) t.size cap1)).run Tryz.prog w4 = .ok (.string t) w4 := by
    have h := cv_of_bts cap1 B4 w4 (Below.refl _ _)
    rw [e1] at h
    exact h
  obtain ⟨ff1, ff2, ff3, ff4, ff5⟩ := HFF.out
  have hfT : f ∉ T := fun h => by have := h7 f h; omega
  have hfsb : f ≠ sb := by omega
  have hf4 : f ∉ sb :: S' := fun h => by
    rcases List.mem_cons.1 h with h | h
    · exact hfsb h
    · exact ff2 h
  have BF3 := ff4.out o3 (fun b o e => by cases e; exact hfT)
  have BF4 := BF3.out o4 (fun b o e => by cases e; exact hf4)
  have hblk : w4.heap[f]? = w2.heap[f]? := by rw [o4.block f (by omega) hf4, o3.block f ff1 hfT]
  have hfz : ∀ i, i < FR.length → w4.frozen? ⟨f, o + i, none⟩ = false := fun i hi => by
    rw [← ff5 i hi]
    exact World.frozen?_of_block (w := w2) hblk
  have hfS2 : f ∉ sb :: (S'' ++ T) := fun h => by
    rcases List.mem_cons.1 h with h | h
    · exact hfsb h
    · rcases List.mem_append.1 h with h | h
      · rcases f4 f h with h | h
        · exact ff2 h
        · omega
      · exact hfT h
  have hcb : (convert 30 9 (.slice (some ⟨f, o, none⟩) FR.length cap)).run Tryz.prog w4 = .ok (.string ⟨FR.toArray⟩) w4 := cv_of_bts cap BF4 w4 (Below.refl _ _)
  have hcells : ∀ i, i < FR.length → ∃ x : Int, 0 ≤ x ∧ x < 256 ∧ w4.cell? ⟨f, o + i, none⟩ = some (.int .u8 x) := fun i hi => by
    rcases BF4 with h | ⟨b, o', e, hc⟩
    · rw [h] at hi; simp at hi
    · cases e
      exact ⟨_, (byte_bd _).1, (byte_bd _).2, hc i hi⟩
  have HFIN : Hid (Outside (sb :: (S ++ T)) w w4 ∧ Fresh w (sb :: (S ++ T)) (sb :: (S'' ++ T)) ∧ Side Rep w4 sb (sb :: (S'' ++ T)) st.protNext wk' ∧ f ∉ sb :: (S'' ++ T) ∧ w.heap.size ≤ f ∧ wk' ≤ wk + 100) := by
    obtain ⟨x1, x2, x3⟩ := side_fin C okn hsb h4 h5 h6 h7 b1 o2 f2 o3 href3 o4 hrow4 f4 hrep4
    have := HBD.out
    exact ⟨x1, x2, x3, hfS2, by omega, by omega⟩
  have HC : Hid ((∀ i, i < FR.length → w4.frozen? ⟨f, o + i, none⟩ = false) ∧ (∀ i, i < FR.length → ∃ x : Int, 0 ≤ x ∧ x < 256 ∧ w4.cell? ⟨f, o + i, none⟩ = some (.int .u8 x))) := ⟨hfz, hcells⟩
  clear o2 f2 hrep2 href2 hrow2 o3 href3 hrep3 B3 hS'lt hsb' hdis o4 hrow4 f4 hrep4 B4 hn4 hlt h4 h5 h6 h7 b1 z1 ff1 ff2 ff3 ff4 ff5 hfT hfsb hf4 BF3 BF4 hblk hfz hfS2 hcells
  go_wp2_with fail
  clear hct hcb
  go_loopg [13] FR.length (fun k i wr => ∃ j : Nat, i = .int .i64 j ∧ j + k = FR.length ∧ Outside [f] w4 wr ∧ (∀ i, i < FR.length → wr.frozen? ⟨f, o + i, none⟩ = false) ∧ (∀ i, i < FR.length → ∃ x : Int, 0 ≤ x ∧ x < 256 ∧ wr.cell? ⟨f, o + i, none⟩ = some (.int .u8 x)))
  case atStart => exact ⟨0, rfl, by omega, Outside.refl _ _, HC.out.1, HC.out.2⟩
  case round =>
    obtain ⟨j, rfl, hjk, hout, hfz, hcl⟩ := hrel
    by_cases hlt : j < FR.length
    · obtain ⟨x, hx0, hx1, hx⟩ := hcl j hlt
      have hz := hfz j hlt
      have HOLD3 : Hid (Outside [f] w4 wr ∧ (∀ i, i < FR.length → wr.frozen? ⟨f, o + i, none⟩ = false) ∧ (∀ i, i < FR.length → ∃ x : Int, 0 ≤ x ∧ x < 256 ∧ wr.cell? ⟨f, o + i, none⟩ = some (.int .u8 x))) := ⟨hout, hfz, hcl⟩
      clear hout hfz hcl
      go_wp2_with fail
      obtain ⟨hout, hfz, hcl⟩ := HOLD3.out
      go_roundg (gk - 1)
      case measure => omega
      case rel =>
        refine ⟨j + 1, by go_num, by omega, hout.setCell ⟨f, o + j, none⟩ (fun _ => List.mem_cons_self) _, fun i hi => ?_, fun i hi => ?_⟩
        · rw [World.frozen?_setCell]; exact hfz i hi
        · by_cases hij : i = j
          · subst hij
            exact ⟨(x + 1) % 256, by omega, by omega, World.cell?_setCell_same _ _ _ hx⟩
          · obtain ⟨y, hy0, hy1, hy⟩ := hcl i hi
            refine ⟨y, hy0, hy1, ?_⟩
            rw [World.cell?_setCell_other _ _ _ _ (fun e => hij (by have := congrArg Addr.off e; simp at this; omega))]
            exact hy
    · have hjl : j = FR.length := by omega
      go_wp2_with fail
      go_ret2
      obtain ⟨x1, x2, x3, x4, x5, x6⟩ := HFIN.out
      refine ⟨by rw [HFR.out]; rfl, x1.trans hout (fun i hi hl => ?_), _, _, x2, x3.keep C hout.size (fun k a b => hout.block k a (fun h => ?_)), x6⟩
      · simp at hi; omega
      · simp at h; exact x4 (h ▸ b)
end Go.Proofs.YtpfijaclghdcdaaGreatDoor

/- Arrays of bytes held against each other. -/
namespace Go.Proofs.YtpfijaclghdcdaaGreatDoor
open Go.RowKit

theorem all_range (xs ys : List Int) (h : xs.length = ys.length) : ((List.range xs.length).all fun i => xs.getD i 0 == ys.getD i 0) = (xs == ys) := by
  induction xs generalizing ys with
  | nil => cases ys with
    | nil => rfl
    | cons y ys => simp at h
  | cons x xs ih => cases ys with
    | nil => simp at h
    | cons y ys =>
      have ih := ih ys (by simpa using h)
      rw [List.length_cons, List.range_succ_eq_map, List.all_cons, List.all_map]
      simp only [List.getD_cons_zero, Function.comp_def, List.getD_cons_succ, ih]
      simp [List.cons_beq_cons]

theorem eq_ints (d : Nat) (t : TypeId) (n : Nat) (ht : Tryz.prog.underlying t = some (.array n 5)) (xs ys : List Int) (hx : xs.length = n) (hy : ys.length = n) (w : World) :
    (Op.equalIn (d + 2) t (.agg (xs.map (Value.int .u8)).toArray) (.agg (ys.map (Value.int .u8)).toArray)).run Tryz.prog w = .ok (xs == ys) w := by
  have he : Tryz.prog.underlying 5 = some (.int .u8) := Tryz.underlying5
  have hsz : ∀ w, (sizeOf 5).run Tryz.prog w = .ok 1 w := fun w => by kernel_rfl
  rw [← all_range xs ys (hx.trans hy.symm), hx, List.range_eq_range', Op.equalIn]
  simp only [Sem.run_bind, run_underlying ht, Result.andThen_ok, hsz, Std.Legacy.Range.forIn_eq_forIn_range', Std.Legacy.Range.size, Nat.sub_zero, Nat.add_sub_cancel, Nat.div_one]
  have hl : ∀ i ∈ List.range' 0 n 1, i < n := fun i hi => by simpa using (List.mem_range'_1.1 hi).2
  generalize List.range' 0 n 1 = l at hl ⊢
  induction l with
  | nil => simp
  | cons i l ih =>
    have hi : i < n := hl i (by simp)
    have px : (part 5 (xs.map (Value.int .u8)).toArray (i * 1)).run Tryz.prog w = .ok (.int .u8 (xs.getD i 0)) w := by
      simp [part, isAgg, run_underlying he, List.getD, List.getElem?_eq_getElem (show i < xs.length by omega)]
    have py : (part 5 (ys.map (Value.int .u8)).toArray (i * 1)).run Tryz.prog w = .ok (.int .u8 (ys.getD i 0)) w := by
      simp [part, isAgg, run_underlying he, List.getD, List.getElem?_eq_getElem (show i < ys.length by omega)]
    have pe : (Op.equalIn (d + 1) 5 (.int .u8 (xs.getD i 0)) (.int .u8 (ys.getD i 0))).run Tryz.prog w = .ok (xs.getD i 0 == ys.getD i 0) w :=
      run_equalIn_int w d 5 .u8 .u8 _ _ he
    simp only [List.forIn_cons, Sem.run_bind, px, py, pe, Result.andThen_ok, List.all_cons]
    cases hb : (xs.getD i 0 == ys.getD i 0)
    · simp
    · simp only [Bool.not_true, Bool.false_eq_true, if_false, Sem.run_pure, Result.andThen_ok, Bool.true_and]
      exact ih fun j hj => hl j (by simp [hj])

theorem eq_secrets (x y : Nat → Int) (w : World) :
    (Op.equalIn 10000 47 (Agg8 x) (Agg8 y)).run Tryz.prog w = .ok ([x 0, x 1, x 2, x 3, x 4, x 5, x 6, x 7] == [y 0, y 1, y 2, y 3, y 4, y 5, y 6, y 7]) w :=
  eq_ints 9998 47 8 Tryz.underlying47 [x 0, x 1, x 2, x 3, x 4, x 5, x 6, x 7] [y 0, y 1, y 2, y 3, y 4, y 5, y 6, y 7] rfl rfl w
theorem eq_secrets_same (x : Nat → Int) (w : World) : (Op.equalIn 10000 47 (Agg8 x) (Agg8 x)).run Tryz.prog w = .ok true w := by
  rw [eq_secrets]; simp
theorem eq_lit (x0 x1 x2 x3 x4 x5 x6 x7 y0 y1 y2 y3 y4 y5 y6 y7 : Int) (w : World) :
    (Op.equalIn 10000 47 (.agg #[.int .u8 x0, .int .u8 x1, .int .u8 x2, .int .u8 x3, .int .u8 x4, .int .u8 x5, .int .u8 x6, .int .u8 x7]) (.agg #[.int .u8 y0, .int .u8 y1, .int .u8 y2, .int .u8 y3, .int .u8 y4, .int .u8 y5, .int .u8 y6, .int .u8 y7])).run Tryz.prog w = .ok ([x0, x1, x2, x3, x4, x5, x6, x7] == [y0, y1, y2, y3, y4, y5, y6, y7]) w :=
  eq_ints 9998 47 8 Tryz.underlying47 [x0, x1, x2, x3, x4, x5, x6, x7] [y0, y1, y2, y3, y4, y5, y6, y7] rfl rfl w
theorem eqlB (x0 x1 x2 x3 x4 x5 x6 x7 : Int) (w : World) :
    (binOp .eql 47 (.agg #[.int .u8 x0, .int .u8 x1, .int .u8 x2, .int .u8 x3, .int .u8 x4, .int .u8 x5, .int .u8 x6, .int .u8 x7]) (.agg #[.int .u8 x0, .int .u8 x1, .int .u8 x2, .int .u8 x3, .int .u8 x4, .int .u8 x5, .int .u8 x6, .int .u8 x7])).run Tryz.prog w = .ok (.bool true) w := by
  rw [run_eql_struct, eq_lit]
  simp
theorem eq_tags (x y : Nat → Int) (w : World) :
    (Op.equalIn 10000 183 (.agg #[.int .u8 (x 0), .int .u8 (x 1), .int .u8 (x 2), .int .u8 (x 3)]) (.agg #[.int .u8 (y 0), .int .u8 (y 1), .int .u8 (y 2), .int .u8 (y 3)])).run Tryz.prog w = .ok ([x 0, x 1, x 2, x 3] == [y 0, y 1, y 2, y 3]) w :=
  eq_ints 9998 183 4 Tryz.underlying183 [x 0, x 1, x 2, x 3] [y 0, y 1, y 2, y 3] rfl rfl w
/-- '==' or '!=' on two arrays or structs, as a step of the walk -/
theorem wpList_cmp_agg {ops : Array Oper} {rest : List Oper} {o : Oper} {a : Act} {w : World} {Q : Exit → Act → World → Prop} (hgd : o.guard = none) (op : BinOp) (T T2 : TypeId) (x y : Operand) (ho : o.op = .binOp op T x y T2)
    (xs ys : Array Value) (hx : a.eval x = .agg xs) (hy : a.eval y = .agg ys) (hm : Tryz.prog.eqGuardType Tryz.prog.depth T = false) (b : Bool)
    (hrun : (binOp op T (.agg xs) (.agg ys)).run Tryz.prog w = .ok (.bool b) w) (h : wpList Tryz.prog ops Q rest (a.put o.dst (.bool b)) w) : wpList Tryz.prog ops Q (o :: rest) a w :=
  wpList_plain hgd fun _ hK => by
    unfold Oper.wp execOp
    simp only [ho, hx, hy, Sem.run_bind, run_eqGuard_agg w op T x y xs ys hm, Result.andThen_ok, hrun, Sem.run_pure]
    exact hK _ _ h
end Go.Proofs.YtpfijaclghdcdaaGreatDoor

/- Items held against each other. -/
namespace Go.Proofs.YtpfijaclghdcdaaGreatDoor
open Go.RowKit

theorem eqFields_true (d : Nat) (xs : Array Value) (fs : List Field) (w : World) (h : ∀ f, f ∈ fs → ∃ v, (part f.type xs f.offset).run Tryz.prog w = .ok v w ∧ (Op.equalIn d f.type v v).run Tryz.prog w = .ok true w) : (Op.eqFields d xs xs fs).run Tryz.prog w = .ok true w := by
  induction fs with
  | nil => simp [Op.eqFields]
  | cons f fs ih =>
    obtain ⟨v, h1, h2⟩ := h f List.mem_cons_self
    have ih := ih fun g hg => h g (List.mem_cons_of_mem _ hg)
    simp only [Op.eqFields]
    split
    · simp only [Sem.run_bind, h1, Result.andThen_ok, h2, Bool.not_true, Bool.false_eq_true, if_false]
      exact ih
    · exact ih
theorem eq_item (x : It) (w : World) : (Op.equalIn 10000 49 (.agg x.cells.toArray) (.agg x.cells.toArray)).run Tryz.prog w = .ok true w := by
  rw [run_equalIn_struct w 9999 49 _ _ (by kernel_rfl) (by kernel_rfl)]
  have hF : (Tryz.prog.fieldsOf 49).toList.map (fun f => (f.type, f.offset)) = [(45, 0), (3, 1), (3, 2), (3, 3), (47, 4)] := by kernel_rfl
  refine eqFields_true _ _ _ _ fun f hf => ?_
  have hm : (f.type, f.offset) ∈ (Tryz.prog.fieldsOf 49).toList.map (fun f => (f.type, f.offset)) := List.mem_map.2 ⟨f, hf, rfl⟩
  rw [hF] at hm
  simp only [List.mem_cons, List.not_mem_nil, or_false, Prod.mk.injEq] at hm
  rcases hm with ⟨h1, h2⟩ | ⟨h1, h2⟩ | ⟨h1, h2⟩ | ⟨h1, h2⟩ | ⟨h1, h2⟩ <;> rw [h1, h2]
  · exact ⟨.int .i64 x.kind, by simp [part, isAgg, run_underlying Tryz.underlying45, It.cells], by rw [run_equalIn_int w 9998 45 .i64 .i64 _ _ Tryz.underlying45]; simp⟩
  · exact ⟨.int .i64 x.f, by simp [part, isAgg, run_underlying Tryz.underlying3, It.cells], by rw [run_equalIn_int w 9998 3 .i64 .i64 _ _ Tryz.underlying3]; simp⟩
  · exact ⟨.int .i64 x.t, by simp [part, isAgg, run_underlying Tryz.underlying3, It.cells], by rw [run_equalIn_int w 9998 3 .i64 .i64 _ _ Tryz.underlying3]; simp⟩
  · exact ⟨.int .i64 x.g, by simp [part, isAgg, run_underlying Tryz.underlying3, It.cells], by rw [run_equalIn_int w 9998 3 .i64 .i64 _ _ Tryz.underlying3]; simp⟩
  · refine ⟨Agg8 x.s, ?_, ?_⟩
    · simp [part, isAgg, run_underlying Tryz.underlying47, It.cells]
    · have h := eq_ints 9997 47 8 Tryz.underlying47 [x.s 0, x.s 1, x.s 2, x.s 3, x.s 4, x.s 5, x.s 6, x.s 7] [x.s 0, x.s 1, x.s 2, x.s 3, x.s 4, x.s 5, x.s 6, x.s 7] rfl rfl w
      have e : ([x.s 0, x.s 1, x.s 2, x.s 3, x.s 4, x.s 5, x.s 6, x.s 7] == [x.s 0, x.s 1, x.s 2, x.s 3, x.s 4, x.s 5, x.s 6, x.s 7]) = true := by simp
      rw [e] at h
      exact h
theorem neq_item (x : It) (w : World) : (binOp .neq 49 (.agg x.cells.toArray) (.agg x.cells.toArray)).run Tryz.prog w = .ok (.bool false) w := by
  rw [run_neq_struct, eq_item]
  rfl
end Go.Proofs.YtpfijaclghdcdaaGreatDoor

/- The law's (*Side).dump. -/
namespace Go.Proofs.YtpfijaclghdcdaaGreatDoor
open Go.RowKit
set_option linter.unusedVariables false

/-- the twelve cells of the item x, from an offset on -/
abbrev ItemAt (W : World) (b o j : Nat) (x : It) : Prop := W.cell? ⟨b, o + j * 12, none⟩ = some (.int .i64 (x.kind : Int)) ∧ W.cell? ⟨b, o + j * 12 + 1, none⟩ = some (.int .i64 (x.f : Int)) ∧ W.cell? ⟨b, o + j * 12 + 2, none⟩ = some (.int .i64 (x.t : Int)) ∧ W.cell? ⟨b, o + j * 12 + 3, none⟩ = some (.int .i64 (x.g : Int)) ∧ W.cell? ⟨b, o + j * 12 + 4, none⟩ = some (.int .u8 (x.s 0)) ∧ W.cell? ⟨b, o + j * 12 + 5, none⟩ = some (.int .u8 (x.s 1)) ∧ W.cell? ⟨b, o + j * 12 + 6, none⟩ = some (.int .u8 (x.s 2)) ∧ W.cell? ⟨b, o + j * 12 + 7, none⟩ = some (.int .u8 (x.s 3)) ∧ W.cell? ⟨b, o + j * 12 + 8, none⟩ = some (.int .u8 (x.s 4)) ∧ W.cell? ⟨b, o + j * 12 + 9, none⟩ = some (.int .u8 (x.s 5)) ∧ W.cell? ⟨b, o + j * 12 + 10, none⟩ = some (.int .u8 (x.s 6)) ∧ W.cell? ⟨b, o + j * 12 + 11, none⟩ = some (.int .u8 (x.s 7))
theorem itCells_at (l : List It) (j : Nat) (hj : j < l.length) (i : Nat) (hi : i < 12) : (itCells l)[j * 12 + i]? = l[j].cells[i]? := by
  induction l generalizing j with
  | nil => simp at hj
  | cons x l ih =>
    have hx : x.cells.length = 12 := rfl
    have e : itCells (x :: l) = x.cells ++ itCells l := rfl
    rw [e]
    cases j with
    | zero => rw [List.getElem?_append_left (by omega)]; simp
    | succ j =>
      rw [List.getElem?_append_right (by omega)]
      have e2 : (j + 1) * 12 + i - x.cells.length = j * 12 + i := by omega
      rw [e2, ih j (by simpa using hj)]
      simp
theorem itemAt_of {W : World} {b o : Nat} {l : List It} (h : ∀ j u, (itCells l)[j]? = some u → W.cell? ⟨b, o + j, none⟩ = some u) (j : Nat) (hj : j < l.length) : ItemAt W b o j l[j] := by
  have c : ∀ i (hi : i < 12) u, l[j].cells[i]? = some u → W.cell? ⟨b, o + j * 12 + i, none⟩ = some u := fun i hi u hu => by
    have := h (j * 12 + i) u (by rw [itCells_at l j hj i hi]; exact hu)
    rw [← Nat.add_assoc] at this
    exact this
  exact ⟨c 0 (by omega) _ rfl, c 1 (by omega) _ rfl, c 2 (by omega) _ rfl, c 3 (by omega) _ rfl, c 4 (by omega) _ rfl, c 5 (by omega) _ rfl, c 6 (by omega) _ rfl, c 7 (by omega) _ rfl, c 8 (by omega) _ rfl, c 9 (by omega) _ rfl, c 10 (by omega) _ rfl, c 11 (by omega) _ rfl⟩
theorem eq_item_lit (x : It) (w : World) : (Op.equalIn 10000 49 (.agg #[.int .i64 (x.kind : Int), .int .i64 (x.f : Int), .int .i64 (x.t : Int), .int .i64 (x.g : Int), .int .u8 (x.s 0), .int .u8 (x.s 1), .int .u8 (x.s 2), .int .u8 (x.s 3), .int .u8 (x.s 4), .int .u8 (x.s 5), .int .u8 (x.s 6), .int .u8 (x.s 7)]) (.agg #[.int .i64 (x.kind : Int), .int .i64 (x.f : Int), .int .i64 (x.t : Int), .int .i64 (x.g : Int), .int .u8 (x.s 0), .int .u8 (x.s 1), .int .u8 (x.s 2), .int .u8 (x.s 3), .int .u8 (x.s 4), .int .u8 (x.s 5), .int .u8 (x.s 6), .int .u8 (x.s 7)])).run Tryz.prog w = .ok true w := eq_item x w
abbrev ZI : Array Value := #[.int .i64 0, .int .i64 0, .int .i64 0, .int .i64 0, .int .u8 0, .int .u8 0, .int .u8 0, .int .u8 0, .int .u8 0, .int .u8 0, .int .u8 0, .int .u8 0]
theorem Outside.setCells {S : List Nat} {a : World} (b : Nat) (hb : b < a.heap.size → b ∈ S) : ∀ (vs : List Value) (o : Nat) (w : World), Outside S a w → Outside S a (w.setCells b o vs)
  | [], _, _, h => h
  | v :: r, o, w, h => by rw [World.setCells]; exact Outside.setCells b hb r (o + 1) _ (h.setCell ⟨b, o, none⟩ hb v)

theorem there12 {w : World} {b o : Nat} (h : w.there b o 12) : (∃ y0 y1 y2 y3 y4 y5 y6 y7 y8 y9 y10 y11, w.cell? ⟨b, o, none⟩ = some y0 ∧ w.cell? ⟨b, o + 1, none⟩ = some y1 ∧ w.cell? ⟨b, o + 2, none⟩ = some y2 ∧ w.cell? ⟨b, o + 3, none⟩ = some y3 ∧ w.cell? ⟨b, o + 4, none⟩ = some y4 ∧ w.cell? ⟨b, o + 5, none⟩ = some y5 ∧ w.cell? ⟨b, o + 6, none⟩ = some y6 ∧ w.cell? ⟨b, o + 7, none⟩ = some y7 ∧ w.cell? ⟨b, o + 8, none⟩ = some y8 ∧ w.cell? ⟨b, o + 9, none⟩ = some y9 ∧ w.cell? ⟨b, o + 10, none⟩ = some y10 ∧ w.cell? ⟨b, o + 11, none⟩ = some y11) ∧ w.frozen? ⟨b, o, none⟩ = false ∧ w.frozen? ⟨b, o + 1, none⟩ = false ∧ w.frozen? ⟨b, o + 2, none⟩ = false ∧ w.frozen? ⟨b, o + 3, none⟩ = false ∧ w.frozen? ⟨b, o + 4, none⟩ = false ∧ w.frozen? ⟨b, o + 5, none⟩ = false ∧ w.frozen? ⟨b, o + 6, none⟩ = false ∧ w.frozen? ⟨b, o + 7, none⟩ = false ∧ w.frozen? ⟨b, o + 8, none⟩ = false ∧ w.frozen? ⟨b, o + 9, none⟩ = false ∧ w.frozen? ⟨b, o + 10, none⟩ = false ∧ w.frozen? ⟨b, o + 11, none⟩ = false := by
  have c : ∀ i, i < 12 → ∃ y, w.cell? ⟨b, o + i, none⟩ = some y := fun i hi => Option.isSome_iff_exists.1 (h i hi).1
  obtain ⟨y0, hy0⟩ := c 0 (by omega)
  obtain ⟨y1, hy1⟩ := c 1 (by omega)
  obtain ⟨y2, hy2⟩ := c 2 (by omega)
  obtain ⟨y3, hy3⟩ := c 3 (by omega)
  obtain ⟨y4, hy4⟩ := c 4 (by omega)
  obtain ⟨y5, hy5⟩ := c 5 (by omega)
  obtain ⟨y6, hy6⟩ := c 6 (by omega)
  obtain ⟨y7, hy7⟩ := c 7 (by omega)
  obtain ⟨y8, hy8⟩ := c 8 (by omega)
  obtain ⟨y9, hy9⟩ := c 9 (by omega)
  obtain ⟨y10, hy10⟩ := c 10 (by omega)
  obtain ⟨y11, hy11⟩ := c 11 (by omega)
  exact ⟨⟨y0, y1, y2, y3, y4, y5, y6, y7, y8, y9, y10, y11, hy0, hy1, hy2, hy3, hy4, hy5, hy6, hy7, hy8, hy9, hy10, hy11⟩, (h 0 (by omega)).2, (h 1 (by omega)).2, (h 2 (by omega)).2, (h 3 (by omega)).2, (h 4 (by omega)).2, (h 5 (by omega)).2, (h 6 (by omega)).2, (h 7 (by omega)).2, (h 8 (by omega)).2, (h 9 (by omega)).2, (h 10 (by omega)).2, (h 11 (by omega)).2⟩
theorem there_setCell {w : World} {b' o' n : Nat} (h : w.there b' o' n) (b o : Nat) (v : Value) : (w.setCell ⟨b, o, none⟩ v).there b' o' n := World.there_setCells h b o [v]

set_option maxRecDepth 20000 in
set_option maxHeartbeats 2000000 in
theorem dump_any {Rep : World → List Nat → Value → St → Nat → Prop} (C : Code Rep) (w : World) (sb : Nat) (U : List Nat) (st : St) (wk : Nat) (h : Side Rep w sb U st wk) :
    Calls Tryz.prog 21 #[.pointer (some ⟨sb, 0, none⟩)] w fun e w' => e = .returned (.bool true) ∧ Outside U w w' ∧ ∃ U', Fresh w U U' ∧ Side Rep w' sb U' st wk := by
  have hlt := h.lt C
  obtain ⟨S, T, g, rb, steps, rfl, ok, hrow, hrep, href, h4, h5, h6, h7⟩ := h
  have hsb : sb < w.heap.size := (Array.getElem?_eq_some_iff.1 hrow).1
  obtain ⟨hA, hAf⟩ := row_facts' hrow
  have HREF : Hid (RefRep w T rb st steps) := href
  have HROW : Hid (w.heap[sb]? = some (.cells (CellsS g rb wk) 64 (0, 0))) := hrow
  have HSET : Hid ((∀ k, k ∈ sb :: (S ++ T) → k < w.heap.size) ∧ sb ∉ S ∧ sb ∉ T ∧ (∀ k, k ∈ S → k ∉ T) ∧ (∀ k, k ∈ T → k < w.heap.size)) := ⟨hlt, h4, h5, h6, h7⟩
  have HC : Hid (Calls Tryz.prog 15 #[g] w fun e w' => Outside S w w' ∧ ∃ S' p cap, Fresh w S S' ∧ Rep w' S' g st wk ∧ e = .returned (.slice p st.dump.length cap) ∧
      (st.dump = [] ∨ ∃ b o, p = some ⟨b, o, none⟩ ∧ st.dump.length ≤ cap ∧ w.heap.size ≤ b ∧ b ∉ S' ∧ (∀ j u, (itCells st.dump)[j]? = some u → w'.cell? ⟨b, o + j, none⟩ = some u) ∧ ∀ j, j < st.dump.length * 12 → w'.frozen? ⟨b, o + j, none⟩ = false)) := C.dump ok hrep
  have HD : Hid (∀ W mb cs ov, RefG W T rb mb cs ov st steps → Calls Tryz.prog 46 #[.pointer (some ⟨rb, 0, none⟩)] W fun e w' => ∃ v, e = .returned v ∧ Below W.heap.size W w' ∧ Its w' W.heap.size v st.dump) := fun W mb cs ov hW => by
    cases hc : st.closed with
    | true => exact refDump_closed T rb mb cs ov st steps W hW hc
    | false => exact refDump_open T rb mb cs ov st steps ok W hW hc
  have hdl : st.dump.length ≤ 200 := by
    have n16 := ok.n16
    have l1 := st.parts_len 16 0 st.n ok.n1
    have l2 := st.heads_len st.n
    have l3 := st.kepts_len ok st.n
    unfold St.dump
    split
    · simp
    · rw [List.length_append, List.length_append]; omega
  obtain ⟨L, hL⟩ : ∃ L, st.dump = L := ⟨_, rfl⟩
  rw [hL] at HC HD hdl
  clear hL hrow href hrep hlt h4 h5 h6 h7
  go_enter Tryz.func21, Tryz.ntmps21
  go_wp2_with fail
  refine HC.out.mono ?_
  rintro e w1 ⟨o1, S', p, cap, f1, hrep1, rfl, hcells⟩
  obtain ⟨hlt, h4, h5, h6, h7⟩ := HSET.out
  have hrow1 := o1.row HROW.out h4
  have href1 : RefRep w1 T rb st steps := HREF.out.keep fun k a b => o1.block k a (fun h => h6 k h b)
  clear hA hAf
  obtain ⟨hA, hAf⟩ := row_facts' hrow1
  obtain ⟨mb, cs, ov, hr1⟩ := href1
  have HOLD : Hid (Outside S w w1 ∧ Fresh w S S' ∧ Rep w1 S' g st wk ∧ RefG w1 T rb mb cs ov st steps ∧ w1.heap[sb]? = some (.cells (CellsS g rb wk) 64 (0, 0))) := ⟨o1, f1, hrep1, hr1, hrow1⟩
  have HCE : Hid (L = [] ∨ ∃ b o, p = some ⟨b, o, none⟩ ∧ L.length ≤ cap ∧ w.heap.size ≤ b ∧ b ∉ S' ∧ (∀ j u, (itCells L)[j]? = some u → w1.cell? ⟨b, o + j, none⟩ = some u) ∧ ∀ j, j < L.length * 12 → w1.frozen? ⟨b, o + j, none⟩ = false) := hcells
  clear o1 f1 hrep1 hr1 hrow1 hlt h4 h5 h6 h7 hcells
  go_wp2_with fail
  refine (HD.out _ mb cs ov HOLD.out.2.2.2.1).mono ?_
  rintro e w2 ⟨v2, rfl, b2, i2⟩
  have HFIN : Hid (Outside (sb :: (S ++ T)) w w2 ∧ Fresh w (sb :: (S ++ T)) (sb :: (S' ++ T)) ∧ Side Rep w2 sb (sb :: (S' ++ T)) st wk) := by
    obtain ⟨o1, f1, hrep1, hr1, hrow1⟩ := HOLD.out
    obtain ⟨hlt, h4, h5, h6, h7⟩ := HSET.out
    have z1 := o1.size
    have z2 := b2.size
    have inS : ∀ k, k ∈ S' → k < w.heap.size → k ∈ S := fun k hk hl => by
      rcases f1 k hk with h | h
      · exact h
      · omega
    refine ⟨(o1.mono (fun i hi _ => List.mem_cons_of_mem _ (List.mem_append_left _ hi))).below b2, ?_, S', T, g, rb, steps, rfl, ok, by rw [b2.block _ (by omega), hrow1], C.keep hrep1 b2.size (fun k a _ => b2.block k a), ⟨mb, cs, ov, hr1.below b2⟩, fun h => h4 (inS sb h hsb), h5, fun k hk hT => h6 k (inS k hk (h7 k hT)) hT, fun k hk => by have := h7 k hk; omega⟩
    intro k hk
    by_cases hl : k < w.heap.size
    · left
      rcases List.mem_cons.1 hk with h | h
      · rw [h]; exact List.mem_cons_self
      · rcases List.mem_append.1 h with h | h
        · exact List.mem_cons_of_mem _ (List.mem_append_left _ (inS k h hl))
        · exact List.mem_cons_of_mem _ (List.mem_append_right _ h)
    · right; omega
  have hv2 : ∃ p2 cap2, v2 = .slice p2 L.length cap2 ∧ (L = [] ∨ ∃ b, p2 = some ⟨b, 0, none⟩ ∧ L.length ≤ cap2 ∧ ∀ j u, (itCells L)[j]? = some u → w2.cell? ⟨b, 0 + j, none⟩ = some u) := by
    rcases i2.2 with ⟨e1, e2⟩ | ⟨b, cap2, cur, e1, _, _, e3, _⟩
    · have hl0 : L = [] := List.length_eq_zero_iff.1 e2
      exact ⟨none, 0, by rw [e1, e2], .inl hl0⟩
    · refine ⟨_, cap2, e1, .inr ⟨b, rfl, e3, fun j u hu => ?_⟩⟩
      rw [Nat.zero_add]
      have i2' : Its w2 w1.heap.size (.slice (some ⟨b, 0, none⟩) L.length cap2) L := by rw [← e1]; exact i2
      exact i2'.cells.2 j u hu
  obtain ⟨p2, cap2, rfl, hp2⟩ := hv2
  have HP2 : Hid (L = [] ∨ ∃ b, p2 = some ⟨b, 0, none⟩ ∧ L.length ≤ cap2 ∧ ∀ j u, (itCells L)[j]? = some u → w2.cell? ⟨b, 0 + j, none⟩ = some u) := hp2
  have HB2 : Hid (Below w1.heap.size w1 w2) := b2
  clear hp2 b2 i2 hA hAf
  go_wp2_with fail
  go_loopg [5] L.length (fun k i wr => ∃ j : Nat, i = .int .i64 j ∧ j + k = L.length ∧ Below w2.heap.size w2 wr)
  case atStart => exact ⟨0, rfl, by omega, Below.refl _ _⟩
  case round =>
    obtain ⟨j, rfl, hjk, hbw⟩ := hrel
    by_cases hj : j < L.length
    · rcases HCE.out with he | ⟨b, o, rfl, hcap, hbn, hbS, hcel, hfz⟩
      · rw [he] at hj; simp at hj
      · rcases HP2.out with he | ⟨b', rfl, hcap', hcel'⟩
        · rw [he] at hj; simp at hj
        · have hcelW : ∀ j u, (itCells L)[j]? = some u → wr.cell? ⟨b, o + j, none⟩ = some u := fun j u hu => by
            have h1 := hcel j u hu
            have hl : b < w1.heap.size := block_lt_of_cell h1
            have hz := HB2.out.size
            rw [hbw.cell (p := ⟨b, o + j, none⟩) (by show b < w2.heap.size; omega), HB2.out.cell (p := ⟨b, o + j, none⟩) hl, h1]
          have hcelW' : ∀ j u, (itCells L)[j]? = some u → wr.cell? ⟨b', 0 + j, none⟩ = some u := fun j u hu => by
            have h1 := hcel' j u hu
            rw [hbw.cell (p := ⟨b', 0 + j, none⟩) (block_lt_of_cell h1), h1]
          have hx := itemAt_of hcelW j hj
          have hy := itemAt_of hcelW' j hj
          unfold ItemAt at hy
          simp only [Nat.zero_add] at hy
          have heq := eq_item_lit L[j]
          obtain ⟨x, hxe⟩ : ∃ x, L[j] = x := ⟨_, rfl⟩
          rw [hxe] at hx hy heq
          obtain ⟨p0, p1, p2, p3, p4, p5, p6, p7, p8, p9, p10, p11⟩ := hx
          obtain ⟨q0, q1, q2, q3, q4, q5, q6, q7, q8, q9, q10, q11⟩ := hy
          have HW : Hid (Below w2.heap.size w2 wr) := hbw
          clear hcel hcel' hfz hcelW hcelW' hxe hbw
          go_upto_region 8 with fail
          go_cut [36] (fun s36 wy => s36 = .bool false ∧ Below w2.heap.size w2 wy)
          case first =>
            go_quiet (fail)
            go_wp2_with fail
            go_meet
            exact ⟨rfl, HW.out.trans (below_drewN _ _ _)⟩
          case rest =>
            obtain ⟨rfl, hbw⟩ := hcut
            go_wp2_with fail
            go_roundg (gk - 1)
            case measure => omega
            case rel => exact ⟨j + 1, by go_num, by omega, hbw⟩
    · have hje : j = L.length := by omega
      have HW : Hid (Below w2.heap.size w2 wr) := hbw
      clear hbw
      rcases HCE.out with he | ⟨b, o, rfl, hcap, hbn, hbS, hcel, hfz⟩
      · have hl0 : L.length = 0 := by rw [he]; rfl
        rw [hl0] at hje hj hjk
        rw [hl0]
        go_wp2_with fail
        refine wp_loop_rounds 1 ?_
        rw [rounds_succ]; go_wp2_with fail
        go_ret
        obtain ⟨x1, x2, x3⟩ := HFIN.out
        exact ⟨rfl, x1.below HW.out, _, x2, x3.keep C HW.out.size (fun k a _ => HW.out.block k a)⟩
      · have hth : wr.there b o (L.length * 12) := fun j hj => by
          have h1 : ∃ u, (itCells L)[j]? = some u := ⟨_, List.getElem?_eq_getElem (by rw [itCells_length]; exact hj)⟩
          obtain ⟨u, hu⟩ := h1
          have h2 := hcel j u hu
          have hl : b < w1.heap.size := block_lt_of_cell h2
          have hz := HB2.out.size
          have hblk : wr.heap[b]? = w1.heap[b]? := by rw [HW.out.block b (by omega), HB2.out.block b hl]
          refine ⟨?_, ?_⟩
          · rw [World.cell?_of_block (w := w1) (a := ⟨b, o + j, none⟩) hblk, h2]; rfl
          · rw [World.frozen?_of_block (w := w1) (a := ⟨b, o + j, none⟩) hblk]; exact hfz j hj
        have HTH : Hid (wr.there b o (L.length * 12)) := hth
        have hbS' : Hid (b ∉ S' ∧ w.heap.size ≤ b) := ⟨hbS, hbn⟩
        clear hth hcel hfz hbS hbn
        go_wp2_with fail
        obtain ⟨wA, hwA⟩ : ∃ wA, wA = wr := ⟨_, rfl⟩
        subst hwA
        go_loopg [6] L.length (fun k i wr2 => ∃ j : Nat, i = .int .i64 j ∧ j + k = L.length ∧ Outside [b] wA wr2 ∧ wr2.there b o (L.length * 12))
        case atStart => exact ⟨0, rfl, by omega, Outside.refl _ _, HTH.out⟩
        case round =>
          obtain ⟨q, rfl, hqk, hout, hth⟩ := hrel
          have HO : Hid (Outside [b] wA wr ∧ wr.there b o (L.length * 12)) := ⟨hout, hth⟩
          by_cases hq : q < L.length
          · have hth12 : wr.there b (o + q * 12) 12 := fun i hi => by
              have := hth (q * 12 + i) (by omega)
              rw [← Nat.add_assoc] at this
              exact this
            clear hout hth
            obtain ⟨⟨y0, y1, y2, y3, y4, y5, y6, y7, y8, y9, y10, y11, m0, m1, m2, m3, m4, m5, m6, m7, m8, m9, m10, m11⟩, z0, z1, z2, z3, z4, z5, z6, z7, z8, z9, z10, z11⟩ := there12 hth12
            clear hth12
            go_wp2_with fail
            go_roundg (gk - 1)
            case measure => omega
            case rel => exact ⟨q + 1, by go_num, by omega, ((((((((((((HO.out.1.setCell ⟨b, o + q * 12, none⟩ (fun _ => List.mem_cons_self) _).setCell ⟨b, o + q * 12 + 1, none⟩ (fun _ => List.mem_cons_self) _).setCell ⟨b, o + q * 12 + 2, none⟩ (fun _ => List.mem_cons_self) _).setCell ⟨b, o + q * 12 + 3, none⟩ (fun _ => List.mem_cons_self) _).setCell ⟨b, o + q * 12 + 4, none⟩ (fun _ => List.mem_cons_self) _).setCell ⟨b, o + q * 12 + 5, none⟩ (fun _ => List.mem_cons_self) _).setCell ⟨b, o + q * 12 + 6, none⟩ (fun _ => List.mem_cons_self) _).setCell ⟨b, o + q * 12 + 7, none⟩ (fun _ => List.mem_cons_self) _).setCell ⟨b, o + q * 12 + 8, none⟩ (fun _ => List.mem_cons_self) _).setCell ⟨b, o + q * 12 + 9, none⟩ (fun _ => List.mem_cons_self) _).setCell ⟨b, o + q * 12 + 10, none⟩ (fun _ => List.mem_cons_self) _).setCell ⟨b, o + q * 12 + 11, none⟩ (fun _ => List.mem_cons_self) _), (there_setCell (there_setCell (there_setCell (there_setCell (there_setCell (there_setCell (there_setCell (there_setCell (there_setCell (there_setCell (there_setCell (there_setCell HO.out.2 _ _ _) _ _ _) _ _ _) _ _ _) _ _ _) _ _ _) _ _ _) _ _ _) _ _ _) _ _ _) _ _ _) _ _ _)⟩
          · have hqe : q = L.length := by omega
            clear hout hth
            go_wp2_with fail
            go_ret
            obtain ⟨x1, x2, x3⟩ := HFIN.out
            have y1 := x1.below HW.out
            have y3 := x3.keep C HW.out.size (fun k a _ => HW.out.block k a)
            have hbU : b ∉ sb :: (S' ++ T) := fun h => by
              have := hbS'.out.2
              rcases List.mem_cons.1 h with h | h
              · omega
              · rcases List.mem_append.1 h with h | h
                · exact hbS'.out.1 h
                · have := HSET.out.2.2.2.2 b h; omega
            refine ⟨rfl, y1.trans HO.out.1 (fun i hi hl => ?_), _, x2, y3.keep C HO.out.1.size (fun k a hk => HO.out.1.block k a (fun h => ?_))⟩
            · have := hbS'.out.2
              simp at hi
              omega
            · simp at h
              exact hbU (h ▸ hk)
end Go.Proofs.YtpfijaclghdcdaaGreatDoor

/- The law's pick. -/
namespace Go.Proofs.YtpfijaclghdcdaaGreatDoor
open Go.RowKit
set_option linter.unusedVariables false

/-- which of n things the raw number c speaks of -/
def PickI (c : Int) (n : Nat) : Nat := if c < 0 then ((-(c + 1)) % (n : Int)).toNat else (c % (n : Int)).toNat
theorem PickI_lt (c : Int) (n : Nat) (hn : 1 ≤ n) : PickI c n < n := by
  unfold PickI
  have hn0 : ¬ (n : Int) = 0 := by omega
  split
  · have a1 := Int.emod_nonneg (-(c + 1)) hn0
    have a2 := Int.emod_lt_of_pos (-(c + 1)) (show (0 : Int) < n by omega)
    omega
  · have a1 := Int.emod_nonneg c hn0
    have a2 := Int.emod_lt_of_pos c (show (0 : Int) < n by omega)
    omega
theorem PickI_neg (c : Int) (n : Nat) (hn : 1 ≤ n) (hc : c < 0) : (PickI c n : Int) = -(c + 1).tmod (n : Int) := by
  have hn0 : ¬ (n : Int) = 0 := by omega
  unfold PickI
  rw [if_pos hc, ← Int.neg_tmod, Int.tmod_eq_emod_of_nonneg (by omega), Int.toNat_of_nonneg (Int.emod_nonneg _ hn0)]
theorem PickI_pos (c : Int) (n : Nat) (hn : 1 ≤ n) (hc : ¬ c < 0) : (PickI c n : Int) = c % (n : Int) := by
  have hn0 : ¬ (n : Int) = 0 := by omega
  unfold PickI
  rw [if_neg hc, Int.toNat_of_nonneg (Int.emod_nonneg _ hn0)]
theorem pick_any (c : Int) (h1 : -9223372036854775808 ≤ c) (h2 : c ≤ 9223372036854775807) (n : Nat) (hn : 1 ≤ n) (hn2 : n ≤ 1000000) (w : World) :
    Calls Tryz.prog 40 #[.int .i64 c, .int .i64 n] w fun e w' => e = .returned (.int .i64 (PickI c n)) ∧ w' = w := by
  have hn0 : ¬ (n : Int) = 0 := by omega
  by_cases hc : c < 0
  · have HE : Hid ((PickI c n : Int) = -(c + 1).tmod (n : Int)) := PickI_neg c n hn hc
    obtain ⟨i, hi⟩ : ∃ i, PickI c n = i := ⟨_, rfl⟩
    rw [hi] at HE ⊢
    clear hi
    go_enter Tryz.func40, Tryz.ntmps40
    go_wp2_with fail
    go_ret
    refine ⟨?_, rfl⟩
    show Ending.returned (Value.int .i64 (-(c + 1).tmod (n : Int))) = _
    rw [HE.out]
  · have HE : Hid ((PickI c n : Int) = c % (n : Int)) := PickI_pos c n hn hc
    obtain ⟨i, hi⟩ : ∃ i, PickI c n = i := ⟨_, rfl⟩
    rw [hi] at HE ⊢
    clear hi
    go_enter Tryz.func40, Tryz.ntmps40
    go_wp2_with fail
    go_ret
    refine ⟨?_, rfl⟩
    show Ending.returned (Value.int .i64 (c % (n : Int))) = _
    rw [HE.out]
end Go.Proofs.YtpfijaclghdcdaaGreatDoor

/- The law's World in memory. -/
namespace Go.Proofs.YtpfijaclghdcdaaGreatDoor
open Go.RowKit
set_option linter.unusedVariables false

structure SideD where
  sb : Nat
  U : List Nat
  st : St
  wk : Nat
structure WorldAt (Rep : World → List Nat → Value → St → Nat → Prop) (w : World) (base wb : Nat) (lv bv : Value) (bag : List ByteArray) (l : List SideD) (bnd : Nat) : Prop where
  base_le : base ≤ w.heap.size
  wbb : base ≤ wb
  row : w.heap[wb]? = some (.cells #[lv, bv] 56 (0, 0))
  ownl : w.ownsRow base 62 1 lv l.length (l.map fun s => Value.pointer (some ⟨s.sb, 0, none⟩))
  ownb : w.ownsRow base 9 1 bv bag.length (bag.map Value.string)
  bag64 : bag.length ≤ 64
  nl : lv.ownBlock ≠ some wb
  nb : bv.ownBlock ≠ some wb
  nlb : ∀ k, lv.ownBlock = some k → bv.ownBlock ≠ some k
  side : ∀ s, s ∈ l → Side Rep w s.sb s.U s.st s.wk ∧ (∀ k, k ∈ s.U → base ≤ k) ∧ s.wk ≤ bnd ∧ wb ∉ s.U ∧ (∀ k, lv.ownBlock = some k → k ∉ s.U) ∧ (∀ k, bv.ownBlock = some k → k ∉ s.U)
  dis : l.Pairwise fun a b => ∀ k, k ∈ a.U → k ∉ b.U

theorem ownsRow_keep {w w' : World} {base : Nat} {e : TypeId} {size : Nat} {v : Value} {n : Nat} {xs : List Value} (h : w.ownsRow base e size v n xs) (hk : ∀ k, k < w.heap.size → v.ownBlock = some k → w'.heap[k]? = w.heap[k]?) : w'.ownsRow base e size v n xs := by
  refine ⟨h.1, ?_⟩
  rcases h.2 with h | ⟨g, cap, cur, h1, h2, h3, h4⟩
  · exact .inl h
  · exact .inr ⟨g, cap, cur, h1, h2, by rw [hk g (Array.getElem?_eq_some_iff.1 h3).1 (by rw [h1]; rfl), h3], h4⟩
theorem ownsRow_lt {w : World} {base : Nat} {e : TypeId} {size : Nat} {v : Value} {n : Nat} {xs : List Value} (h : w.ownsRow base e size v n xs) (k : Nat) (hk : v.ownBlock = some k) : k < w.heap.size := by
  rcases h.2 with ⟨h, _⟩ | ⟨g, cap, cur, h1, h2, h3, h4⟩
  · subst h; cases hk
  · subst h1; cases hk; exact (Array.getElem?_eq_some_iff.1 h3).1

/-- one side has done a step: the others, and the lists, are as they were -/
theorem WorldAt.step {Rep : World → List Nat → Value → St → Nat → Prop} (C : Code Rep) {w w' : World} {base wb : Nat} {lv bv : Value} {bag : List ByteArray} {l : List SideD} {bnd : Nat} (h : WorldAt Rep w base wb lv bv bag l bnd) (i : Nat) (hi : i < l.length) (U' : List Nat) (st' : St) (wk' bnd' : Nat)
    (ho : Outside l[i].U w w') (hf : Fresh w l[i].U U') (hs : Side Rep w' l[i].sb U' st' wk') (hw : wk' ≤ bnd') (hb : bnd ≤ bnd') : WorldAt Rep w' base wb lv bv bag (l.set i ⟨l[i].sb, U', st', wk'⟩) bnd' := by
  have hmi : l[i] ∈ l := List.getElem_mem hi
  obtain ⟨s1, s2, s3, s4, s5, s6⟩ := h.side _ hmi
  have z := ho.size
  have hU' : ∀ k, k ∈ U' → k < w.heap.size → k ∈ l[i].U := fun k hk hl => by
    rcases hf k hk with h | h
    · exact h
    · omega
  have hwb : wb < w.heap.size := (Array.getElem?_eq_some_iff.1 h.row).1
  refine ⟨Nat.le_trans h.base_le z, h.wbb, by rw [ho.block _ hwb s4, h.row], ?_, ownsRow_keep h.ownb (fun k a b => ho.block k a (s6 k b)), h.bag64, h.nl, h.nb, h.nlb, ?_, ?_⟩
  · have e1 : (l.set i ⟨l[i].sb, U', st', wk'⟩).length = l.length := List.length_set
    have e2 : (l.set i ⟨l[i].sb, U', st', wk'⟩).map (fun s => Value.pointer (some ⟨s.sb, 0, none⟩)) = l.map fun s => Value.pointer (some ⟨s.sb, 0, none⟩) := by
      rw [List.map_set]
      apply List.ext_getElem?
      intro j
      rw [List.getElem?_set]
      split
      · rename_i hij
        subst hij
        simp [hi]
      · rfl
    rw [e1, e2]
    exact ownsRow_keep h.ownl (fun k a b => ho.block k a (s5 k b))
  · intro s hsm
    rcases List.mem_iff_getElem?.1 hsm with ⟨j, hj⟩
    rw [List.getElem?_set] at hj
    split at hj
    · cases hj
      refine ⟨hs, fun k hk => ?_, hw, fun hk => ?_, fun k hk hk' => ?_, fun k hk hk' => ?_⟩
      · by_cases hl : k < w.heap.size
        · exact s2 k (hU' k hk hl)
        · have := h.base_le; omega
      · exact s4 (hU' wb hk hwb)
      · exact s5 k hk (hU' k hk' (ownsRow_lt h.ownl k hk))
      · exact s6 k hk (hU' k hk' (ownsRow_lt h.ownb k hk))
    · rename_i hij
      have hjl : j < l.length := (List.getElem?_eq_some_iff.1 hj).1
      have hjs : l[j] = s := (List.getElem?_eq_some_iff.1 hj).2
      obtain ⟨t1, t2, t3, t4, t5, t6⟩ := h.side s (hjs ▸ List.getElem_mem hjl)
      refine ⟨t1.keep C z (fun k a b => ho.block k a (fun hk => ?_)), t2, Nat.le_trans t3 hb, t4, t5, t6⟩
      have hd := List.pairwise_iff_getElem.1 h.dis
      by_cases hlt : i < j
      · exact hd i j hi hjl hlt k hk (hjs ▸ b)
      · exact hd j i hjl hi (by omega) k (hjs ▸ b) hk
  · have hd := List.pairwise_iff_getElem.1 h.dis
    refine List.pairwise_iff_getElem.2 fun p q hp hq hpq => ?_
    rw [List.length_set] at hp hq
    have lt : ∀ j (hj : j < l.length), ∀ k, k ∈ l[j].U → k < w.heap.size := fun j hj => (h.side _ (List.getElem_mem hj)).1.lt C
    rw [List.getElem_set, List.getElem_set]
    by_cases h1 : i = p
    · have h2 : ¬ i = q := by omega
      rw [if_pos h1, if_neg h2]
      intro k hk hk'
      exact hd i q hi hq (by omega) k (hU' k hk (lt q hq k hk')) hk'
    · rw [if_neg h1]
      by_cases h2 : i = q
      · rw [if_pos h2]
        intro k hk hk'
        exact hd p i hp hi (by omega) k hk (hU' k hk' (lt p hp k hk))
      · rw [if_neg h2]
        exact hd p q hp hq hpq

/-- a world in which nothing that was there has changed -/
theorem WorldAt.below {Rep : World → List Nat → Value → St → Nat → Prop} (C : Code Rep) {w w' : World} {base wb : Nat} {lv bv : Value} {bag : List ByteArray} {l : List SideD} {bnd : Nat} (h : WorldAt Rep w base wb lv bv bag l bnd) (hb : Below w.heap.size w w') : WorldAt Rep w' base wb lv bv bag l bnd := by
  have z := hb.size
  have hwb : wb < w.heap.size := (Array.getElem?_eq_some_iff.1 h.row).1
  refine ⟨Nat.le_trans h.base_le z, h.wbb, by rw [hb.block _ hwb, h.row], ownsRow_keep h.ownl (fun k a _ => hb.block k a), ownsRow_keep h.ownb (fun k a _ => hb.block k a), h.bag64, h.nl, h.nb, h.nlb, fun s hs => ?_, h.dis⟩
  obtain ⟨t1, t2⟩ := h.side s hs
  exact ⟨t1.keep C z (fun k a _ => hb.block k a), t2⟩

/-- a frame goes under way -/
theorem WorldAt.bagged {Rep : World → List Nat → Value → St → Nat → Prop} (C : Code Rep) {w : World} {base wb : Nat} {lv bv : Value} {bag : List ByteArray} {l : List SideD} {bnd : Nat} (h : WorldAt Rep w base wb lv bv bag l bnd) (hl : bag.length < 64) (f : ByteArray) (ty : TypeId) :
    ∃ v' w', (Builtin.append_ #[26, 26] ty #[bv, .slice (some ⟨w.heap.size, 0, none⟩) 1 1]).run Tryz.prog (w.alloc (.cells #[.string f] 9)) = .ok v' w' ∧ w'.heap[wb]? = some (.cells #[lv, bv] 56 (0, 0)) ∧
      WorldAt Rep (w'.setCell ⟨wb, 1, none⟩ v') base wb lv v' (bag ++ [f]) l bnd ∧ Below base w (w'.setCell ⟨wb, 1, none⟩ v') := by
  have hi : (Tryz.prog.info? 9).map (fun i => (i.zero, i.size, i.bytes)) = some (some (.string ⟨#[]⟩), 1, 16) := by kernel_rfl
  have hwb : wb < w.heap.size := (Array.getElem?_eq_some_iff.1 h.row).1
  have b1 : Below w.heap.size w (w.alloc (.cells #[.string f] 9)) := (Below.refl _ w).alloc (Nat.le_refl _) _
  have hown : (w.alloc (.cells #[.string f] 9)).ownsRow base 9 1 bv bag.length (bag.map Value.string) := ownsRow_keep h.ownb (fun k a _ => b1.block k a)
  cases hq : Tryz.prog.info? 9 with
  | none => rw [hq] at hi; simp at hi
  | some i =>
    rw [hq] at hi
    simp at hi
    obtain ⟨hz, hs, hby⟩ := hi
    obtain ⟨v', w', hr, ho, hg, _, hbk⟩ := run_append_own_at (P := Tryz.prog) (w.alloc (.cells #[.string f] 9)) base 26 ty 9 i _ 1 16 Tryz.underlying26 hq hz hs hby rfl (by omega) bv bag.length (bag.map Value.string) hown ⟨w.heap.size, 0, none⟩ 1 1 [.string f] rfl
      (fun j u hj => by
        have ea : (⟨w.heap.size, 0, none⟩ : Addr).add j = ⟨w.heap.size, j, none⟩ := by unfold Addr.add; split <;> simp_all
        rw [ea, cell_of_row _ _ _ _ _ _ (MapKept.heap_alloc w _).1]
        simpa using hj) (by intro u hu; simp at hu; subst hu; rfl) (by unfold maxLen; omega) (by omega) (by have := h.base_le; simp; omega)
    have z1 : w.heap.size + 1 ≤ w'.heap.size := by have := hg.size; simpa using this
    have blk : ∀ k, k < w.heap.size → bv.ownBlock ≠ some k → w'.heap[k]? = w.heap[k]? := fun k hk hne => by
      rw [hg.block k (by simp; omega) (fun e => hne e.symm), Below.heap_alloc _ _ _ hk]
    have hrow' : w'.heap[wb]? = some (.cells #[lv, bv] 56 (0, 0)) := by rw [blk wb hwb h.nb, h.row]
    have blk2 : ∀ k, k < w.heap.size → bv.ownBlock ≠ some k → k ≠ wb → (w'.setCell ⟨wb, 1, none⟩ v').heap[k]? = w.heap[k]? := fun k hk hne hkw => by
      rw [Below.heap_setCell _ _ _ _ hkw, blk k hk hne]
    have hv'wb : v'.ownBlock ≠ some wb := fun e => by
      rcases hbk with h1 | h1
      · exact h.nb (h1 ▸ e)
      · rw [h1] at e; simp at e; omega
    have hnew : ∀ k, v'.ownBlock = some k → bv.ownBlock = some k ∨ k = w.heap.size + 1 := fun k hk => by
      rcases hbk with h1 | h1
      · exact .inl (h1 ▸ hk)
      · rw [h1] at hk; simp at hk; exact .inr hk.symm
    have hsz : (w'.setCell ⟨wb, 1, none⟩ v').heap.size = w'.heap.size := by simp [World.setCell]
    have hbase := h.base_le
    refine ⟨v', w', hr, hrow', ⟨by omega, h.wbb, ?_, ?_, ?_, ?_, h.nl, hv'wb, ?_, ?_, h.dis⟩, ?_⟩
    · rw [setCell_eq_setRow w' wb 1 _ _ (0, 0) _ hrow']
      exact setRow_heap _ _ _ _ _ _ hrow'
    · refine ownsRow_keep h.ownl (fun k a b => blk2 k a (h.nlb k b) (fun e => ?_))
      subst e
      exact h.nl b
    · rw [List.length_append, List.map_append]
      refine ownsRow_keep ho (fun k a b => Below.heap_setCell _ _ _ _ (fun e => ?_))
      exact hv'wb (by rw [b]; exact congrArg some e)
    · rw [List.length_append]
      show bag.length + 1 ≤ 64
      omega
    · intro k hk hk'
      rcases hnew k hk' with h1 | h1
      · exact h.nlb k hk h1
      · have := ownsRow_lt h.ownl k hk; omega
    · intro s hsm
      obtain ⟨t1, t2, t3, t4, t5, t6⟩ := h.side s hsm
      have tl := t1.lt C
      refine ⟨t1.keep C (by omega) (fun k a b => blk2 k a (fun e => t6 k e b) (fun e => t4 (e ▸ b))), t2, t3, t4, t5, fun k hk hk' => ?_⟩
      rcases hnew k hk with h1 | h1
      · exact t6 k h1 hk'
      · have := tl k hk'; omega
    · refine ⟨hg.os, hg.tape, hg.output, by omega, fun k hk => ?_⟩
      have hkw : k ≠ wb := by have := h.wbb; omega
      refine blk2 k (by omega) (fun e => ?_) hkw
      rcases h.ownb.2 with ⟨e1, _⟩ | ⟨g, cap, cur, e1, e2, _⟩
      · subst e1; cases e
      · subst e1
        have : g = k := by simpa [Value.ownBlock] using e
        omega

theorem WorldAt.start {Rep : World → List Nat → Value → St → Nat → Prop} (w : World) (bnd : Nat) : WorldAt Rep (w.alloc (.cells #[.slice none 0 0, .slice none 0 0] 56)) w.heap.size w.heap.size (.slice none 0 0) (.slice none 0 0) [] [] bnd :=
  ⟨by simp, Nat.le_refl _, (MapKept.heap_alloc _ _).1, ⟨rfl, .inl ⟨rfl, rfl⟩⟩, ⟨rfl, .inl ⟨rfl, rfl⟩⟩, by simp, (fun h => by cases h), (fun h => by cases h), (fun k h => by cases h), (fun s hs => by cases hs), List.Pairwise.nil⟩

/-- one side more -/
theorem WorldAt.added {Rep : World → List Nat → Value → St → Nat → Prop} (C : Code Rep) {wA w : World} {base wb : Nat} {lv bv : Value} {bag : List ByteArray} {l : List SideD} {bnd : Nat} (h : WorldAt Rep wA base wb lv bv bag l bnd) (hl : l.length < 16) (hbel : Below wA.heap.size wA w)
    (S T : List Nat) (g : Value) (rb : Nat) (st : St) (steps : Nat) (ok : st.Ok) (hrep : Rep w S g st 0) (href : RefRep w T rb st steps) (hS : ∀ k, k ∈ S → wA.heap.size ≤ k) (hT : ∀ k, k ∈ T → wA.heap.size ≤ k ∧ k < w.heap.size) (hST : ∀ k, k ∈ S → k ∉ T) (ty : TypeId) :
    ∃ v' w', (Builtin.append_ #[54, 54] ty #[lv, .slice (some ⟨w.heap.size + 1, 0, none⟩) 1 1]).run Tryz.prog ((w.alloc (.cells (CellsS g rb 0) 64)).alloc (.cells #[.pointer (some ⟨w.heap.size, 0, none⟩)] 62)) = .ok v' w' ∧ w'.heap[wb]? = some (.cells #[lv, bv] 56 (0, 0)) ∧
      WorldAt Rep (w'.setCell ⟨wb, 0, none⟩ v') base wb v' bv bag (l ++ [⟨w.heap.size, w.heap.size :: (S ++ T), st, 0⟩]) bnd ∧ Below base wA (w'.setCell ⟨wb, 0, none⟩ v') ∧ ∃ p n c, v' = .slice p n c := by
  have hi : (Tryz.prog.info? 62).map (fun i => (i.zero, i.size, i.bytes)) = some (some (.pointer none), 1, 8) := by kernel_rfl
  have zA := hbel.size
  have h0 := h.below C hbel
  have hwb : wb < wA.heap.size := (Array.getElem?_eq_some_iff.1 h.row).1
  have bAB : Below w.heap.size w ((w.alloc (.cells (CellsS g rb 0) 64)).alloc (.cells #[.pointer (some ⟨w.heap.size, 0, none⟩)] 62)) := ((Below.refl _ w).alloc (Nat.le_refl _) _).alloc (by simp) _
  have hown : ((w.alloc (.cells (CellsS g rb 0) 64)).alloc (.cells #[.pointer (some ⟨w.heap.size, 0, none⟩)] 62)).ownsRow base 62 1 lv l.length (l.map fun s => Value.pointer (some ⟨s.sb, 0, none⟩)) := ownsRow_keep h0.ownl (fun k a _ => bAB.block k a)
  cases hq : Tryz.prog.info? 62 with
  | none => rw [hq] at hi; simp at hi
  | some i =>
    rw [hq] at hi
    simp at hi
    obtain ⟨hz, hs, hby⟩ := hi
    have hnewcell : ((w.alloc (.cells (CellsS g rb 0) 64)).alloc (.cells #[.pointer (some ⟨w.heap.size, 0, none⟩)] 62)).heap[w.heap.size + 1]? = some (.cells #[.pointer (some ⟨w.heap.size, 0, none⟩)] 62 (0, 0)) := by
      have e := (MapKept.heap_alloc (w.alloc (.cells (CellsS g rb 0) 64)) (.cells #[.pointer (some ⟨w.heap.size, 0, none⟩)] 62)).1
      simp only [World.size_alloc] at e
      exact e
    obtain ⟨v', w', hr, ho, hg, _, hbk⟩ := run_append_own_at (P := Tryz.prog) _ base 54 ty 62 i _ 1 8 Tryz.underlying54 hq hz hs hby rfl (by omega) lv l.length (l.map fun s => Value.pointer (some ⟨s.sb, 0, none⟩)) hown ⟨w.heap.size + 1, 0, none⟩ 1 1 [.pointer (some ⟨w.heap.size, 0, none⟩)] rfl
      (fun j u hj => by
        have ea : (⟨w.heap.size + 1, 0, none⟩ : Addr).add j = ⟨w.heap.size + 1, j, none⟩ := by unfold Addr.add; split <;> simp_all
        rw [ea, cell_of_row _ _ _ _ _ _ hnewcell]
        simpa using hj) (by intro u hu; simp at hu; subst hu; rfl) (by unfold maxLen; omega) (by omega) (by have := h0.base_le; simp; omega)
    have z1 : w.heap.size + 2 ≤ w'.heap.size := by have := hg.size; simpa using this
    have blk : ∀ k, k < w.heap.size → lv.ownBlock ≠ some k → w'.heap[k]? = w.heap[k]? := fun k hk hne => by
      rw [hg.block k (by simp; omega) (fun e => hne e.symm), bAB.block k hk]
    have hrow' : w'.heap[wb]? = some (.cells #[lv, bv] 56 (0, 0)) := by rw [blk wb (by omega) h.nl, h0.row]
    have hlvlt : ∀ k, lv.ownBlock = some k → k < wA.heap.size := fun k hk => ownsRow_lt h.ownl k hk
    have blk2 : ∀ k, k < w.heap.size → lv.ownBlock ≠ some k → k ≠ wb → (w'.setCell ⟨wb, 0, none⟩ v').heap[k]? = w.heap[k]? := fun k hk hne hkw => by
      rw [Below.heap_setCell _ _ _ _ hkw, blk k hk hne]
    have hsideblk : (w'.setCell ⟨wb, 0, none⟩ v').heap[w.heap.size]? = some (.cells (CellsS g rb 0) 64 (0, 0)) := by
      rw [Below.heap_setCell _ _ _ _ (by show w.heap.size ≠ wb; omega), hg.block _ (by simp; omega) (fun e => by have := hlvlt _ e.symm; omega), Below.heap_alloc _ _ _ (by simp), (MapKept.heap_alloc _ _).1]
    have hnew : ∀ k, v'.ownBlock = some k → lv.ownBlock = some k ∨ k = w.heap.size + 2 := fun k hk => by
      rcases hbk with h1 | h1
      · exact .inl (h1 ▸ hk)
      · rw [h1] at hk; simp at hk; exact .inr hk.symm
    have hv'wb : v'.ownBlock ≠ some wb := fun e => by
      rcases hnew wb e with h1 | h1
      · exact h.nl h1
      · omega
    have hsz : (w'.setCell ⟨wb, 0, none⟩ v').heap.size = w'.heap.size := by simp [World.setCell]
    have hbase := h.base_le
    have hnewU : ∀ k, k ∈ w.heap.size :: (S ++ T) → wA.heap.size ≤ k := fun k hk => by
      rcases List.mem_cons.1 hk with h1 | h1
      · omega
      · rcases List.mem_append.1 h1 with h1 | h1
        · exact hS k h1
        · exact (hT k h1).1
    refine ⟨v', w', hr, hrow', ⟨by omega, h.wbb, ?_, ?_, ?_, h.bag64, hv'wb, h.nb, ?_, ?_, ?_⟩, ?_, ?_⟩
    · rw [setCell_eq_setRow w' wb 0 _ _ (0, 0) _ hrow']
      exact setRow_heap _ _ _ _ _ _ hrow'
    · rw [List.length_append, List.map_append]
      refine ownsRow_keep ho (fun k a b => Below.heap_setCell _ _ _ _ (fun e => ?_))
      exact hv'wb (by rw [b]; exact congrArg some e)
    · refine ownsRow_keep h0.ownb (fun k a b => blk2 k a (fun e => h.nlb k e b) (fun e => ?_))
      subst e
      exact h.nb b
    · intro k hk hk'
      rcases hnew k hk with h1 | h1
      · exact h.nlb k h1 hk'
      · have := ownsRow_lt h.ownb k hk'; omega
    · intro s hsm
      rcases List.mem_append.1 hsm with hsm | hsm
      · obtain ⟨t1, t2, t3, t4, t5, t6⟩ := h0.side s hsm
        have tl := (h.side s hsm).1.lt C
        refine ⟨t1.keep C (by omega) (fun k a b => blk2 k a (fun e => t5 k e b) (fun e => t4 (e ▸ b))), t2, t3, t4, fun k hk hk' => ?_, t6⟩
        rcases hnew k hk with h1 | h1
        · exact t5 k h1 hk'
        · have := tl k hk'; omega
      · simp at hsm
        subst hsm
        have kp : ∀ k, k < w.heap.size → k ∈ S ++ T → (w'.setCell ⟨wb, 0, none⟩ v').heap[k]? = w.heap[k]? := fun k hk hm => by
          have hk2 := hnewU k (List.mem_cons_of_mem _ hm)
          exact blk2 k hk (fun e => by have := hlvlt k e; omega) (by omega)
        refine ⟨⟨S, T, g, rb, steps, rfl, ok, hsideblk, C.keep hrep (by omega) (fun k a b => kp k a (List.mem_append_left _ b)), href.keep (fun k a b => kp k a (List.mem_append_right _ b)), fun hm => ?_, fun hm => ?_, hST, fun k hk => ?_⟩, fun k hk => ?_, by show 0 ≤ bnd; omega, fun hm => ?_, fun k hk hm => ?_, fun k hk hm => ?_⟩
        · have h9 : w.heap.size < w.heap.size := C.lt hrep _ hm
          omega
        · have h9 : w.heap.size < w.heap.size := (hT _ hm).2
          omega
        · have := (hT k hk).2; omega
        · have := hnewU k hk; omega
        · have := hnewU wb hm; omega
        · have hge := hnewU k hm
          rcases hnew k hk with h1 | h1
          · have := hlvlt k h1; omega
          · rcases List.mem_cons.1 hm with h2 | h2
            · omega
            · rcases List.mem_append.1 h2 with h2 | h2
              · have := C.lt hrep k h2; omega
              · have := (hT k h2).2; omega
        · have hge := hnewU k hm
          have := ownsRow_lt h.ownb k hk
          omega
    · refine List.pairwise_append.2 ⟨h.dis, List.pairwise_singleton _ _, fun x hx y hy k hk hk' => ?_⟩
      simp at hy
      subst hy
      have h1 := (h.side x hx).1.lt C k hk
      have h2 := hnewU k hk'
      omega
    · refine ⟨by show (w'.setCell _ _).os = _; rw [show (w'.setCell ⟨wb, 0, none⟩ v').os = w'.os from rfl, hg.os]; exact hbel.os, by show (w'.setCell _ _).tape = _; rw [show (w'.setCell ⟨wb, 0, none⟩ v').tape = w'.tape from rfl, hg.tape]; exact hbel.tape, by show (w'.setCell _ _).output = _; rw [show (w'.setCell ⟨wb, 0, none⟩ v').output = w'.output from rfl, hg.output]; exact hbel.output, by omega, fun k hk => ?_⟩
      have hkw : k ≠ wb := by have := h.wbb; omega
      rw [blk2 k (by omega) (fun e => ?_) hkw, hbel.block k (by omega)]
      rcases h.ownl.2 with ⟨e1, _⟩ | ⟨g', cap, cur, e1, e2, _⟩
      · subst e1; cases e
      · subst e1
        have : g' = k := by simpa [Value.ownBlock] using e
        omega
    · rcases ho.2 with ⟨e1, _⟩ | ⟨g', c', cur, e1, _⟩
      · exact ⟨_, _, _, e1⟩
      · exact ⟨_, _, _, e1⟩
end Go.Proofs.YtpfijaclghdcdaaGreatDoor

/- The law's (*World).step, as far as members protect. -/
namespace Go.Proofs.YtpfijaclghdcdaaGreatDoor
open Go.RowKit
set_option linter.unusedVariables false

abbrev OpV (kind a b : Int) (s : ByteArray) : Array Value := #[.int .i64 kind, .int .i64 a, .int .i64 b, .string s]

/-- what a step leaves behind -/
def Stepped (Rep : World → List Nat → Value → St → Nat → Prop) (w : World) (base wb : Nat) (lv : Value) (n bnd : Nat) (w' : World) : Prop :=
  Below base w w' ∧ ∃ bv' bag' l', l'.length = n ∧ WorldAt Rep w' base wb lv bv' bag' l' bnd

theorem worldAt_ptr {Rep : World → List Nat → Value → St → Nat → Prop} {w : World} {base wb : Nat} {lv bv : Value} {bag : List ByteArray} {l : List SideD} {bnd : Nat} (h : WorldAt Rep w base wb lv bv bag l bnd) (hn : 1 ≤ l.length) :
    ∃ lb cap, lv = .slice (some ⟨lb, 0, none⟩) l.length cap ∧ l.length ≤ cap ∧ lb < w.heap.size ∧ ∀ i (hi : i < l.length), w.cell? ⟨lb, i, none⟩ = some (.pointer (some ⟨l[i].sb, 0, none⟩)) := by
  rcases h.ownl.2 with ⟨_, e⟩ | ⟨g, cap, cur, e1, e2, e3, e4, _⟩
  · omega
  · refine ⟨g, cap, e1, e4, (Array.getElem?_eq_some_iff.1 e3).1, fun i hi => ?_⟩
    have h1 : w.ownsRow base 62 1 (.slice (some ⟨g, 0, none⟩) l.length cap) l.length (l.map fun s => Value.pointer (some ⟨s.sb, 0, none⟩)) := by rw [← e1]; exact h.ownl
    rw [World.ownsRow.cellAt h1 i (by omega), List.getElem?_map, List.getElem?_eq_getElem hi]
    rfl

abbrev PickS (w : World) (wb lb i : Nat) (lv bv : Value) (sd : Nat) (kind a b : Int) (s : ByteArray) (W : World) : Prop := (∀ o, W.cell? ⟨wb, o, none⟩ = #[lv, bv][o]?) ∧ (∀ o, W.cell? ⟨w.heap.size, o, none⟩ = (OpV kind a b s)[o]?) ∧ W.cell? ⟨lb, i, none⟩ = some (.pointer (some ⟨sd, 0, none⟩))
theorem pickS (w : World) (wb lb i : Nat) (lv bv : Value) (sd : Nat) (kind a b : Int) (s : ByteArray) (h1 : ∀ o, w.cell? ⟨wb, o, none⟩ = #[lv, bv][o]?) (h2 : w.cell? ⟨lb, i, none⟩ = some (.pointer (some ⟨sd, 0, none⟩))) (hw : wb < w.heap.size) (hl : lb < w.heap.size) :
    PickS w wb lb i lv bv sd kind a b s (w.alloc (.cells (OpV kind a b s) 66)).drew := by
  have hb : Below w.heap.size w (w.alloc (.cells (OpV kind a b s) 66)).drew := ((Below.refl _ w).alloc (Nat.le_refl _) _).drew
  refine ⟨fun o => by rw [hb.cell (p := ⟨wb, o, none⟩) hw, h1], fun o => ?_, by rw [hb.cell (p := ⟨lb, i, none⟩) hl, h2]⟩
  exact cell_of_row _ _ _ _ _ _ (show (w.alloc (.cells (OpV kind a b s) 66)).drew.heap[w.heap.size]? = some (.cells (OpV kind a b s) 66 (0, 0)) from (MapKept.heap_alloc _ _).1)

set_option maxRecDepth 20000 in
set_option maxHeartbeats 2000000 in
theorem step_idle {Rep : World → List Nat → Value → St → Nat → Prop} (C : Code Rep) (w : World) (base wb : Nat) (lv bv : Value) (bag : List ByteArray) (l : List SideD) (bnd : Nat) (h : WorldAt Rep w base wb lv bv bag l bnd) (hn : 1 ≤ l.length) (hn16 : l.length ≤ 16)
    (kind a b : Int) (s : ByteArray) (hk : kind ≤ 0) (ha1 : -9223372036854775808 ≤ a) (ha2 : a ≤ 9223372036854775807) :
    Calls Tryz.prog 20 #[.pointer (some ⟨wb, 0, none⟩), .agg (OpV kind a b s)] w fun e w' => e = .returned (.bool true) ∧ Stepped Rep w base wb lv l.length bnd w' := by
  obtain ⟨lb, cap, rfl, hcap, hlb, hcell⟩ := worldAt_ptr h hn
  have HP : Hid (∀ W, Calls Tryz.prog 40 #[.int .i64 a, .int .i64 l.length] W fun e w' => e = .returned (.int .i64 (PickI a l.length)) ∧ w' = W) := fun W => pick_any a ha1 ha2 l.length hn (by omega) W
  have HW : Hid (WorldAt Rep w base wb (.slice (some ⟨lb, 0, none⟩) l.length cap) bv bag l bnd) := h
  have hwb : wb < w.heap.size := (Array.getElem?_eq_some_iff.1 h.row).1
  have hA := (row_facts' h.row).1
  have hpi := PickI_lt a l.length hn
  have hci := hcell _ hpi
  obtain ⟨i, hi⟩ : ∃ i, PickI a l.length = i := ⟨_, rfl⟩
  rw [hi] at HP hpi
  have hci2 : w.cell? ⟨lb, i, none⟩ = some (.pointer (some ⟨(l[i]'hpi).sb, 0, none⟩)) := hcell i hpi
  obtain ⟨sd, hsd⟩ : ∃ sd, (l[i]'hpi).sb = sd := ⟨_, rfl⟩
  rw [hsd] at hci2
  clear h hcell hci hi hsd
  go_enter Tryz.func20, Tryz.ntmps20
  go_upto_region 1 with fail
  go_cut [5] (fun s5 wy => s5 = .pointer (some ⟨sd, 0, none⟩) ∧ Below (w.alloc (.cells (OpV kind a b s) 66)).heap.size (w.alloc (.cells (OpV kind a b s) 66)) wy)
  case first =>
    have hS := pickS w wb lb i (.slice (some ⟨lb, 0, none⟩) l.length cap) bv sd kind a b s hA hci2 hwb hlb
    go_region_held3 (fun W => PickS w wb lb i (.slice (some ⟨lb, 0, none⟩) l.length cap) bv sd kind a b s W) ((first | assumption | exact hS)) ((go_at_call 40; refine (HP.out _).mono ?_; rintro e w' ⟨rfl, rfl⟩))
    all_goals
      go_wp2_with fail
      go_meet
      exact ⟨rfl, (Below.refl _ _).drew⟩
  case rest =>
    obtain ⟨rfl, hb⟩ := hcut
    have hk3 : wc.heap[w.heap.size]? = some (.cells (OpV kind a b s) 66 (0, 0)) := by rw [hb.block _ (by simp), (MapKept.heap_alloc _ _).1]
    have hK := (row_facts' hk3).1
    have hbw : Below w.heap.size w wc := ((Below.refl _ w).alloc (Nat.le_refl _) _).trans (hb.mono (by simp))
    have HBW : Hid (Below w.heap.size w wc) := hbw
    have hk1 : ¬ kind = 1 := by omega
    have hk2 : ¬ kind = 2 := by omega
    have hk3' : ¬ kind = 3 := by omega
    have hk4 : ¬ kind = 4 := by omega
    have hk5 : ¬ kind = 5 := by omega
    have hk6 : ¬ kind = 6 := by omega
    clear hbw hk3 hb HP hci2 hA
    go_wp2_with fail
    go_ret
    have hz := HW.out.base_le
    exact ⟨rfl, HBW.out.mono hz, bv, bag, l, rfl, HW.out.below C HBW.out⟩
set_option maxRecDepth 20000 in
set_option maxHeartbeats 2000000 in
theorem step_protect {Rep : World → List Nat → Value → St → Nat → Prop} (C : Code Rep) (w : World) (base wb : Nat) (lv bv : Value) (bag : List ByteArray) (l : List SideD) (bnd : Nat) (h : WorldAt Rep w base wb lv bv bag l bnd) (hn : 1 ≤ l.length) (hn16 : l.length ≤ 16)
    (a b : Int) (s : ByteArray) (hs : s.size ≤ 65536) (hbnd : bnd ≤ 10000000000) (ha1 : -9223372036854775808 ≤ a) (ha2 : a ≤ 9223372036854775807) (hG : Glob w) :
    Calls Tryz.prog 20 #[.pointer (some ⟨wb, 0, none⟩), .agg (OpV 1 a b s)] w fun e w' => e = .returned (.bool true) ∧ Stepped Rep w base wb lv l.length (bnd + 100) w' := by
  obtain ⟨lb, cap, rfl, hcap, hlb, hcell⟩ := worldAt_ptr h hn
  have HP : Hid (∀ W, Calls Tryz.prog 40 #[.int .i64 a, .int .i64 l.length] W fun e w' => e = .returned (.int .i64 (PickI a l.length)) ∧ w' = W) := fun W => pick_any a ha1 ha2 l.length hn (by omega) W
  have HW : Hid (WorldAt Rep w base wb (.slice (some ⟨lb, 0, none⟩) l.length cap) bv bag l bnd) := h
  have hwb : wb < w.heap.size := (Array.getElem?_eq_some_iff.1 h.row).1
  have hA := (row_facts' h.row).1
  have hpi := PickI_lt a l.length hn
  have hci := hcell _ hpi
  obtain ⟨i, hi⟩ : ∃ i, PickI a l.length = i := ⟨_, rfl⟩
  rw [hi] at HP hpi
  have hci2 : w.cell? ⟨lb, i, none⟩ = some (.pointer (some ⟨(l[i]'hpi).sb, 0, none⟩)) := hcell i hpi
  obtain ⟨sd, hsd⟩ : ∃ sd, (l[i]'hpi).sb = sd := ⟨_, rfl⟩
  rw [hsd] at hci2
  have HSD : Hid ((l[i]'hpi).sb = sd) := hsd
  have HGL : Hid (Glob w) := hG
  clear h hcell hci hi hsd hG
  go_enter Tryz.func20, Tryz.ntmps20
  go_upto_region 1 with fail
  go_cut [5] (fun s5 wy => s5 = .pointer (some ⟨sd, 0, none⟩) ∧ Below (w.alloc (.cells (OpV 1 a b s) 66)).heap.size (w.alloc (.cells (OpV 1 a b s) 66)) wy)
  case first =>
    have hS := pickS w wb lb i (.slice (some ⟨lb, 0, none⟩) l.length cap) bv sd 1 a b s hA hci2 hwb hlb
    go_region_held3 (fun W => PickS w wb lb i (.slice (some ⟨lb, 0, none⟩) l.length cap) bv sd 1 a b s W) ((first | assumption | exact hS)) ((go_at_call 40; refine (HP.out _).mono ?_; rintro e w' ⟨rfl, rfl⟩))
    all_goals
      go_wp2_with fail
      go_meet
      exact ⟨rfl, (Below.refl _ _).drew⟩
  case rest =>
    obtain ⟨rfl, hb⟩ := hcut
    have hk3 : wc.heap[w.heap.size]? = some (.cells (OpV 1 a b s) 66 (0, 0)) := by rw [hb.block _ (by simp), (MapKept.heap_alloc _ _).1]
    have hK := (row_facts' hk3).1
    have hbw : Below w.heap.size w wc := ((Below.refl _ w).alloc (Nat.le_refl _) _).trans (hb.mono (by simp))
    have HBW : Hid (Below w.heap.size w wc) := hbw
    clear hbw hk3 hb HP hci2 hA
    have HWc : Hid (WorldAt Rep wc base wb (.slice (some ⟨lb, 0, none⟩) l.length cap) bv bag l bnd) := HW.out.below C HBW.out
    obtain ⟨t1, t2, t3, t4, t5, t6⟩ := HWc.out.side _ (List.getElem_mem hpi)
    have hsz := HW.out.base_le
    have hszc := HBW.out.size
    have hbvs : ∃ p capb, bv = .slice p bag.length capb := by
      rcases HW.out.ownb.2 with ⟨e1, e2⟩ | ⟨g, capb, cur, e1, _⟩
      · exact ⟨none, 0, by rw [e1, e2]⟩
      · exact ⟨_, capb, e1⟩
    obtain ⟨p, capb, rfl⟩ := hbvs
    have hwbc : wb < wc.heap.size := by omega
    by_cases hpe : (l[i]'hpi).st.protErr s.size = 0
    · have hcall := protect_ok C wc (l[i]'hpi).sb (l[i]'hpi).U (l[i]'hpi).st (l[i]'hpi).wk t1 (by omega) s hs hpe
      have hfl : 0 < ((l[i]'hpi).st.frame s.data.toList).length := by
        unfold St.frame
        rw [List.length_append]
        have : 0 < (HeadB (l[i]'hpi).st.own ((l[i]'hpi).st.m (l[i]'hpi).st.own).next).length := by simp [HeadB]
        omega
      rw [HSD.out] at hcall
      obtain ⟨FR, hFR⟩ : ∃ FR, (l[i]'hpi).st.frame s.data.toList = FR := ⟨_, rfl⟩
      rw [hFR] at hcall hfl
      have HCALL : Hid (Calls Tryz.prog 41 #[.pointer (some ⟨sd, 0, none⟩), .string s] wc fun e w' => e = .returned (.tuple #[.string ⟨FR.toArray⟩, .bool true]) ∧ Outside (l[i]'hpi).U wc w' ∧ ∃ U' wk', Fresh wc (l[i]'hpi).U U' ∧ Side Rep w' sd U' (l[i]'hpi).st.protNext wk' ∧ wk' ≤ (l[i]'hpi).wk + 100) := hcall
      clear hcall hFR t1 t2 t3 t5 t6
      go_wp2_with fail
      refine HCALL.out.mono ?_
      rintro e w2 ⟨rfl, o2, U', wk', f2, s2, hw2⟩
      have HW2 : Hid (WorldAt Rep w2 base wb (.slice (some ⟨lb, 0, none⟩) l.length cap) (.slice p bag.length capb) bag (l.set i ⟨(l[i]'hpi).sb, U', (l[i]'hpi).st.protNext, wk'⟩) (bnd + 100)) := by
        have hs2 : Side Rep w2 (l[i]'hpi).sb U' (l[i]'hpi).st.protNext wk' := by rw [HSD.out]; exact s2
        have hwk := (HWc.out.side _ (List.getElem_mem hpi)).2.2.1
        exact HWc.out.step C i hpi U' (l[i]'hpi).st.protNext wk' (bnd + 100) o2 f2 hs2 (by omega) (by omega)
      have HB2 : Hid (Below base w w2) := (HBW.out.mono hsz).trans (o2.toBelow base (by omega) (HWc.out.side _ (List.getElem_mem hpi)).2.1)
      clear o2 f2 s2 hw2 hK t4
      have hA2 := (row_facts' HW2.out.row).1
      have hne : FR.isEmpty = false := by
        cases FR with
        | nil => simp at hfl
        | cons x r => rfl
      by_cases hbl : bag.length < 64
      · have hbd : decide ((bag.length : Int) < 64) = true := by simp; omega
        obtain ⟨v', w3, hrun, hrow3, hwa, hbel⟩ := HW2.out.bagged C hbl ⟨FR.toArray⟩ 26
        have hvs : ∃ p' n' c', v' = .slice p' n' c' := by
          rcases hwa.ownb.2 with ⟨e1, _⟩ | ⟨g, c', cur, e1, _⟩
          · exact ⟨_, _, _, e1⟩
          · exact ⟨_, _, _, e1⟩
        obtain ⟨p', n', c', rfl⟩ := hvs
        have HRUN : Hid ((Builtin.append_ #[26, 26] 26 #[.slice p bag.length capb, .slice (some ⟨w2.heap.size, 0, none⟩) 1 1]).run Tryz.prog (w2.alloc (.cells #[.string ⟨FR.toArray⟩] 9)) = .ok (.slice p' n' c') w3) := hrun
        have HFIN : Hid (WorldAt Rep (w3.setCell ⟨wb, 1, none⟩ (.slice p' n' c')) base wb (.slice (some ⟨lb, 0, none⟩) l.length cap) (.slice p' n' c') (bag ++ [⟨FR.toArray⟩]) (l.set i ⟨(l[i]'hpi).sb, U', (l[i]'hpi).st.protNext, wk'⟩) (bnd + 100) ∧ Below base w2 (w3.setCell ⟨wb, 1, none⟩ (.slice p' n' c'))) := ⟨hwa, hbel⟩
        obtain ⟨hA3, hAf3⟩ := row_facts' hrow3
        clear hrun hwa hbel hrow3
        go_wp2_with (at_builtin; refine wpList_app rfl _ _ 26 26 rfl rfl _ _ _ _ rfl rfl HRUN.out ?_)
        go_ret
        exact ⟨rfl, HB2.out.trans HFIN.out.2, _, bag ++ [⟨FR.toArray⟩], _, List.length_set, HFIN.out.1⟩
      · have hbd : decide ((bag.length : Int) < 64) = false := by simp; omega
        go_wp2_with fail
        go_ret
        exact ⟨rfl, HB2.out, _, bag, _, List.length_set, HW2.out⟩
    · have hcall := protect_err C wc (l[i]'hpi).sb (l[i]'hpi).U (l[i]'hpi).st (l[i]'hpi).wk t1 (by omega) s hs hpe (HGL.out.below HBW.out)
      rw [HSD.out] at hcall
      have HCALL : Hid (Calls Tryz.prog 41 #[.pointer (some ⟨sd, 0, none⟩), .string s] wc fun e w' => e = .returned (.tuple #[.string ⟨#[]⟩, .bool true]) ∧ Outside (l[i]'hpi).U wc w' ∧ ∃ U', Fresh wc (l[i]'hpi).U U' ∧ Side Rep w' sd U' (l[i]'hpi).st (l[i]'hpi).wk) := hcall
      clear hcall t1 t2 t3 t5 t6
      go_wp2_with fail
      refine HCALL.out.mono ?_
      rintro e w2 ⟨rfl, o2, U', f2, s2⟩
      have HW2 : Hid (WorldAt Rep w2 base wb (.slice (some ⟨lb, 0, none⟩) l.length cap) (.slice p bag.length capb) bag (l.set i ⟨(l[i]'hpi).sb, U', (l[i]'hpi).st, (l[i]'hpi).wk⟩) (bnd + 100)) := by
        have hs2 : Side Rep w2 (l[i]'hpi).sb U' (l[i]'hpi).st (l[i]'hpi).wk := by rw [HSD.out]; exact s2
        have hwk := (HWc.out.side _ (List.getElem_mem hpi)).2.2.1
        exact HWc.out.step C i hpi U' (l[i]'hpi).st (l[i]'hpi).wk (bnd + 100) o2 f2 hs2 (by omega) (by omega)
      have HB2 : Hid (Below base w w2) := (HBW.out.mono hsz).trans (o2.toBelow base (by omega) (HWc.out.side _ (List.getElem_mem hpi)).2.1)
      clear o2 f2 s2 hK t4
      go_wp2_with fail
      go_ret
      exact ⟨rfl, HB2.out, _, bag, _, List.length_set, HW2.out⟩
end Go.Proofs.YtpfijaclghdcdaaGreatDoor

/- The law's plays, as far as members protect. -/
namespace Go.Proofs.YtpfijaclghdcdaaGreatDoor
open Go.RowKit
set_option linter.unusedVariables false

/-- a list of numbers among the arguments -/
def IntsArg (w : World) (p : Option Addr) (n c : Nat) : Prop := n ≤ c ∧ (n = 0 ∨ ∃ b o, p = some ⟨b, o, none⟩ ∧ ∀ i, i < n → ∃ x : Int, w.cell? ⟨b, o + i, none⟩ = some (.int .i64 x))
/-- a script among the arguments -/
def OpsArg (w : World) (p : Option Addr) (n c : Nat) : Prop := n ≤ c ∧ (n = 0 ∨ ∃ b o, p = some ⟨b, o, none⟩ ∧ ∀ i, i < n → ∃ (k a d : Int) (s : ByteArray), -9223372036854775808 ≤ a ∧ a ≤ 9223372036854775807 ∧ w.cell? ⟨b, o + i * 4, none⟩ = some (.int .i64 k) ∧ w.cell? ⟨b, o + i * 4 + 1, none⟩ = some (.int .i64 a) ∧ w.cell? ⟨b, o + i * 4 + 2, none⟩ = some (.int .i64 d) ∧ w.cell? ⟨b, o + i * 4 + 3, none⟩ = some (.string s))

abbrev S1 (b o : Nat) (x : Int) (W : World) : Prop := W.cell? ⟨b, o, none⟩ = some (.int .i64 x) ∧ b < W.heap.size
theorem S1.below {b o : Nat} {x : Int} {W W' : World} (h : S1 b o x W) (hb : Below W.heap.size W W') : S1 b o x W' := ⟨by rw [hb.cell (p := ⟨b, o, none⟩) h.2, h.1], by have := hb.size; have := h.2; omega⟩
theorem S1.drew {b o : Nat} {x : Int} {W : World} (h : S1 b o x W) : S1 b o x W.drew := h.below (Below.refl _ _).drew

theorem plays_big (root : ByteArray) (n : Int) (po : Option Addr) (no co : Nat) (ps : Option Addr) (ns cs : Nat) (u : Int) (hbig : 4096 < ns ∨ 16 < no) (w : World) :
    Calls Tryz.prog 9 #[.string root, .int .i64 n, .slice po no co, .slice ps ns cs, .int .i64 u] w fun e w' => e = .returned (.bool true) ∧ Below w.heap.size w w' := by
  by_cases h1 : 4096 < ns
  · have d1 : decide (4096 < (ns : Int)) = true := by simp; omega
    go_enter Tryz.func9, Tryz.ntmps9
    go_wp2_with fail
    go_ret
    exact ⟨rfl, Below.refl _ _⟩
  · have d1 : decide (4096 < (ns : Int)) = false := by simp; omega
    have d2 : decide (16 < (no : Int)) = true := by simp; omega
    go_enter Tryz.func9, Tryz.ntmps9
    go_wp2_with fail
    go_ret
    exact ⟨rfl, Below.refl _ _⟩

set_option maxRecDepth 20000 in
set_option maxHeartbeats 4000000 in
theorem plays_small {Rep : World → List Nat → Value → St → Nat → Prop} (C : Code Rep) (root : ByteArray) (n : Int) (po : Option Addr) (no co : Nat) (ps : Option Addr) (ns cs : Nat) (hns : ns ≤ 4096) (hno : no ≤ 16) (w : World) (hown : IntsArg w po no co) (hscr : OpsArg w ps ns cs) (hG : Glob w) :
    Calls Tryz.prog 9 #[.string root, .int .i64 n, .slice po no co, .slice ps ns cs, .int .i64 1] w fun e w' => e = .returned (.bool true) ∧ Below w.heap.size w w' := by
  have d1 : decide (4096 < (ns : Int)) = false := by simp; omega
  have d2 : decide (16 < (no : Int)) = false := by simp; omega
  have hsb := SecL_bd root.data.toList
  have HSEC : Hid (∀ W, Calls Tryz.prog 18 #[.string root] W fun e w' => e = .returned (Agg8 (SecL root.data.toList)) ∧ Below W.heap.size W w') := fun W => secret_below root W
  obtain ⟨s, hs⟩ : ∃ s, SecL root.data.toList = s := ⟨_, rfl⟩
  rw [hs] at hsb HSEC
  clear hs
  have HOWN : Hid (IntsArg w po no co) := hown
  have HSCR : Hid (OpsArg w ps ns cs) := hscr
  have hco := hown.1
  have hcs := hscr.1
  have HGL : Hid (Glob w) := hG
  clear hown hscr hG
  go_enter Tryz.func9, Tryz.ntmps9
  go_wp2_with fail
  go_loopg [12] no (fun k i wr => ∃ (j : Nat) (lv : Value) (l : List SideD), i = .int .i64 j ∧ j + k = no ∧ l.length ≤ j ∧ WorldAt Rep wr w.heap.size w.heap.size lv (.slice none 0 0) [] l 0 ∧ Below w.heap.size w wr)
  case atStart => exact ⟨0, _, [], rfl, by omega, Nat.le_refl _, WorldAt.start w 0, (Below.refl _ w).alloc (Nat.le_refl _) _⟩
  case round =>
    obtain ⟨j, lv, l, rfl, hjk, hlj, hwa, hbel⟩ := hrel
    by_cases hj : j < no
    · rcases HOWN.out.2 with h0 | ⟨ob, off, rfl, hcell⟩
      · omega
      · obtain ⟨x, hx⟩ := hcell j hj
        have hobl : ob < w.heap.size := block_lt_of_cell hx
        have hS1 : S1 ob (off + j) x wr := ⟨by rw [hbel.cell (p := ⟨ob, off + j, none⟩) hobl]; exact hx, by have := hbel.size; omega⟩
        have HWA : Hid (WorldAt Rep wr w.heap.size w.heap.size lv (.slice none 0 0) [] l 0 ∧ Below w.heap.size w wr) := ⟨hwa, hbel⟩
        clear hwa hbel hcell hx
        cases hfit : FitB n x with
        | false =>
          have HN : Hid (∀ W, Calls Tryz.prog 17 #[Agg8 s, .int .i64 n, .int .i64 x] W fun e w' => e = .returned (.tuple #[.pointer none, .int .i64 1]) ∧ Below W.heap.size W w') := fun W => C.newErr s n x W hsb hfit
          have HRN : Hid (∀ W, Calls Tryz.prog 19 #[Agg8 s, .int .i64 n, .int .i64 x] W fun e w' => e = .returned (.pointer none) ∧ Below W.heap.size W w') := fun W => refNew_none s n x hfit W
          go_upto_region 7 with fail
          go_cut [13, 14] (fun s13 s14 wy => s13 = .pointer none ∧ s14 = .int .i64 1 ∧ Below wr.heap.size wr wy)
          case first =>
            go_region_held3 (fun W => S1 ob (off + j) x W) ((with_reducible first | exact hS1.drew | exact S1.below hS1.drew hb1 | exact S1.below (S1.below hS1.drew hb1) hb2)) ((first | (go_at_call 18; refine (HSEC.out _).mono ?_; rintro e w1 ⟨rfl, hb1⟩) | (go_at_call 17; refine (HN.out _).mono ?_; rintro e w2 ⟨rfl, hb2⟩)))
            all_goals
              go_wp2_with fail
              go_meet
              exact ⟨rfl, rfl, ((Below.refl _ wr).drew.trans hb1).trans (hb2.mono hb1.size)⟩
          case rest =>
            obtain ⟨rfl, rfl, hb7⟩ := hcut
            have hS2 := S1.below hS1 hb7
            clear HN hS1
            go_upto_region 8 with fail
            go_cut [15] (fun s15 wy => s15 = .pointer none ∧ Below wc.heap.size wc wy)
            case first =>
              go_region_held3 (fun W => S1 ob (off + j) x W) ((with_reducible first | exact hS2.drew | exact S1.below hS2.drew hb1 | exact S1.below (S1.below hS2.drew hb1) hb2)) ((first | (go_at_call 18; refine (HSEC.out _).mono ?_; rintro e w1 ⟨rfl, hb1⟩) | (go_at_call 19; refine (HRN.out _).mono ?_; rintro e w2 ⟨rfl, hb2⟩)))
              all_goals
                go_wp2_with fail
                go_meet
                exact ⟨rfl, ((Below.refl _ wc).drew.trans hb1).trans (hb2.mono hb1.size)⟩
            case rest =>
              obtain ⟨rfl, hb8⟩ := hcut
              have HB8 : Hid (Below wr.heap.size wr wc) := hb7.trans (hb8.mono hb7.size)
              clear hb7 hb8 hS2 HRN
              go_wp2_with fail
              go_roundg (gk - 1)
              case measure => omega
              case rel => exact ⟨j + 1, lv, l, by go_num, by omega, by omega, HWA.out.1.below C HB8.out, HWA.out.2.trans (HB8.out.mono HWA.out.2.size)⟩
        | true =>
          obtain ⟨g1, g2, g3, g4⟩ := (fitB_iff n x).1 hfit
          obtain ⟨N, rfl⟩ : ∃ N : Nat, n = N := ⟨n.toNat, by omega⟩
          obtain ⟨M, rfl⟩ : ∃ M : Nat, x = M := ⟨x.toNat, by omega⟩
          have HN : Hid (∀ W, Calls Tryz.prog 17 #[Agg8 s, .int .i64 N, .int .i64 M] W fun e w' => ∃ b S, e = .returned (.tuple #[.pointer (some ⟨b, 0, none⟩), .int .i64 0]) ∧ Below W.heap.size W w' ∧ (∀ k, k ∈ S → W.heap.size ≤ k) ∧ Rep w' S (.pointer (some ⟨b, 0, none⟩)) (St.new s N M) 0) := fun W => C.new s N M W hsb (by omega) (by omega) (by omega)
          have HRN : Hid (∀ W, Calls Tryz.prog 19 #[Agg8 s, .int .i64 N, .int .i64 M] W fun e w' => ∃ rb S, e = .returned (.pointer (some ⟨rb, 0, none⟩)) ∧ Below W.heap.size W w' ∧ (∀ k, k ∈ S → W.heap.size ≤ k ∧ k < w'.heap.size) ∧ RefRep w' S rb (St.new s N M) 0) := fun W => refNew_some s N M (by omega) (by omega) (by omega) W
          have HOK : Hid ((St.new s N M).Ok) := St.new_ok s hsb N M (by omega) (by omega) (by omega)
          clear hfit
          go_upto_region 7 with fail
          go_cut [13, 14] (fun s13 s14 wy => ∃ b S, s13 = .pointer (some ⟨b, 0, none⟩) ∧ s14 = .int .i64 0 ∧ Below wr.heap.size wr wy ∧ (∀ k, k ∈ S → wr.heap.size ≤ k) ∧ Rep wy S (.pointer (some ⟨b, 0, none⟩)) (St.new s N M) 0)
          case first =>
            go_region_held3 (fun W => S1 ob (off + j) M W) ((with_reducible first | exact hS1.drew | exact S1.below hS1.drew hb1 | exact S1.below (S1.below hS1.drew hb1) hb2)) ((first | (go_at_call 18; refine (HSEC.out _).mono ?_; rintro e w1 ⟨rfl, hb1⟩) | (go_at_call 17; refine (HN.out _).mono ?_; rintro e w2 ⟨b, S, rfl, hb2, hSS, hrp⟩)))
            all_goals
              go_wp2_with fail
              go_meet
              have z1 : wr.heap.size ≤ w1.heap.size := hb1.size
              exact ⟨b, S, rfl, rfl, ((Below.refl _ wr).drew.trans hb1).trans (hb2.mono hb1.size), fun k hk => by have := hSS k hk; omega, hrp⟩
          case rest =>
            obtain ⟨b, S, rfl, rfl, hb7, hSS, hrp⟩ := hcut
            have hS2 := S1.below hS1 hb7
            have HH7 : Hid (Below wr.heap.size wr wc ∧ (∀ k, k ∈ S → wr.heap.size ≤ k) ∧ Rep wc S (.pointer (some ⟨b, 0, none⟩)) (St.new s N M) 0) := ⟨hb7, hSS, hrp⟩
            clear HN hS1 hb7 hSS hrp
            go_upto_region 8 with fail
            go_cut [15] (fun s15 wy => ∃ rb T, s15 = .pointer (some ⟨rb, 0, none⟩) ∧ Below wc.heap.size wc wy ∧ (∀ k, k ∈ T → wc.heap.size ≤ k ∧ k < wy.heap.size) ∧ RefRep wy T rb (St.new s N M) 0)
            case first =>
              go_region_held3 (fun W => S1 ob (off + j) M W) ((with_reducible first | exact hS2.drew | exact S1.below hS2.drew hb1 | exact S1.below (S1.below hS2.drew hb1) hb2)) ((first | (go_at_call 18; refine (HSEC.out _).mono ?_; rintro e w1 ⟨rfl, hb1⟩) | (go_at_call 19; refine (HRN.out _).mono ?_; rintro e w2 ⟨rb, T, rfl, hb2, hTT, hrf⟩)))
              all_goals
                go_wp2_with fail
                go_meet
                have z1 : wc.heap.size ≤ w1.heap.size := hb1.size
                exact ⟨rb, T, rfl, ((Below.refl _ wc).drew.trans hb1).trans (hb2.mono hb1.size), fun k hk => by have := hTT k hk; omega, hrf⟩
            case rest =>
              obtain ⟨rb, T, rfl, hb8, hTT, hrf⟩ := hcut
              obtain ⟨hb7, hSS, hrp⟩ := HH7.out
              have hb78 := hb7.trans (hb8.mono hb7.size)
              have z7 := hb7.size
              have hrp8 := C.keep hrp hb8.size (fun k a _ => hb8.block k a)
              obtain ⟨v', w', hrun, hrow, hwa2, hbel2, p', n', c', rfl⟩ := HWA.out.1.added C (by omega) hb78 S T (.pointer (some ⟨b, 0, none⟩)) rb (St.new s N M) 0 HOK.out hrp8 hrf hSS (fun k hk => ⟨by have := hTT k hk; omega, (hTT k hk).2⟩) (fun k hk hk' => by have h1 := C.lt hrp k hk; have h2 := hTT k hk'; omega) 54
              have hA := (row_facts' (HWA.out.1.below C hb78).row).1
              have hwb8 : w.heap.size < wc.heap.size := (Array.getElem?_eq_some_iff.1 (HWA.out.1.below C hb78).row).1
              obtain ⟨hA3, hAf3⟩ := row_facts' hrow
              have hlvs : ∃ pl nl cl, lv = .slice pl nl cl := by
                rcases HWA.out.1.ownl.2 with ⟨e1, _⟩ | ⟨g', c', cur, e1, _⟩
                · exact ⟨_, _, _, e1⟩
                · exact ⟨_, _, _, e1⟩
              obtain ⟨pl, nl, cl, rfl⟩ := hlvs
              have HRUN : Hid ((Builtin.append_ #[54, 54] 54 #[.slice pl nl cl, .slice (some ⟨wc.heap.size + 1, 0, none⟩) 1 1]).run Tryz.prog ((wc.alloc (.cells (CellsS (.pointer (some ⟨b, 0, none⟩)) rb 0) 64)).alloc (.cells #[.pointer (some ⟨wc.heap.size, 0, none⟩)] 62)) = .ok (.slice p' n' c') w') := hrun
              have HFIN : Hid (WorldAt Rep (w'.setCell ⟨w.heap.size, 0, none⟩ (.slice p' n' c')) w.heap.size w.heap.size (.slice p' n' c') (.slice none 0 0) [] (l ++ [⟨wc.heap.size, wc.heap.size :: (S ++ T), St.new s N M, 0⟩]) 0 ∧ Below w.heap.size wr (w'.setCell ⟨w.heap.size, 0, none⟩ (.slice p' n' c'))) := ⟨hwa2, hbel2⟩
              clear hb7 hSS hrp hb8 hTT hrf hb78 hrp8 hrun hrow hwa2 hbel2 hS2 HRN
              go_wp2_with (at_builtin; refine wpList_app rfl _ _ 54 54 rfl rfl _ _ _ _ rfl rfl HRUN.out ?_)
              go_roundg (gk - 1)
              case measure => omega
              case rel => exact ⟨j + 1, _, _, by go_num, by omega, by simp; omega, HFIN.out.1, HWA.out.2.trans HFIN.out.2⟩
    · have HWA : Hid (WorldAt Rep wr w.heap.size w.heap.size lv (.slice none 0 0) [] l 0 ∧ Below w.heap.size w wr) := ⟨hwa, hbel⟩
      have hlv : ∃ pl cl, lv = .slice pl l.length cl := by
        rcases hwa.ownl.2 with ⟨e1, e2⟩ | ⟨g', c', cur, e1, _⟩
        · exact ⟨none, 0, by rw [e1, e2]⟩
        · exact ⟨_, _, e1⟩
      obtain ⟨pl, cl, rfl⟩ := hlv
      have hA := (row_facts' hwa.row).1
      have hl16 : l.length ≤ 16 := by omega
      clear hwa hbel
      by_cases hl0 : l.length = 0
      · have hl0' : ((l.length : Int) == 0) = true := by rw [hl0]; rfl
        go_wp2_with fail
        go_ret
        exact ⟨rfl, HWA.out.2⟩
      · have hl0' : ((l.length : Int) == 0) = false := by
          have : ¬ (l.length : Int) = 0 := by omega
          simpa using this
        go_wp2_with fail
        clear hA hl0'
        obtain ⟨LN, hLN⟩ : ∃ LN, l.length = LN := ⟨_, rfl⟩
        rw [hLN]
        have HLN : Hid (l.length = LN) := hLN
        rw [hLN] at hl16 hl0
        clear hLN
        go_loopg [16] ns (fun k i wr2 => ∃ (j : Nat) (bv : Value) (bag : List ByteArray) (l' : List SideD), i = .int .i64 j ∧ j + k = ns ∧ l'.length = LN ∧ WorldAt Rep wr2 w.heap.size w.heap.size (.slice pl LN cl) bv bag l' (100 * j) ∧ Below w.heap.size w wr2)
        case atStart => exact ⟨0, _, [], l, rfl, by omega, HLN.out, by have h := HWA.out.1; rw [HLN.out] at h; exact h, HWA.out.2⟩
        case round =>
          obtain ⟨q, bv, bag, l', rfl, hqk, hl', hwa, hbel⟩ := hrel
          by_cases hq : q < ns
          · rcases HSCR.out.2 with h0 | ⟨sb, soff, rfl, hcell⟩
            · omega
            · obtain ⟨kd, a, d, str, ha1, ha2, k0, k1, k2, k3⟩ := hcell q hq
              have hsbl : sb < w.heap.size := block_lt_of_cell k0
              have m0 : wr.cell? ⟨sb, soff + q * 4, none⟩ = some (.int .i64 kd) := by rw [hbel.cell (p := ⟨sb, soff + q * 4, none⟩) hsbl, k0]
              have m1 : wr.cell? ⟨sb, soff + q * 4 + 1, none⟩ = some (.int .i64 a) := by rw [hbel.cell (p := ⟨sb, soff + q * 4 + 1, none⟩) hsbl, k1]
              have m2 : wr.cell? ⟨sb, soff + q * 4 + 2, none⟩ = some (.int .i64 d) := by rw [hbel.cell (p := ⟨sb, soff + q * 4 + 2, none⟩) hsbl, k2]
              have m3 : wr.cell? ⟨sb, soff + q * 4 + 3, none⟩ = some (.string str) := by rw [hbel.cell (p := ⟨sb, soff + q * 4 + 3, none⟩) hsbl, k3]
              have HQ : Hid (WorldAt Rep wr w.heap.size w.heap.size (.slice pl LN cl) bv bag l' (100 * q) ∧ Below w.heap.size w wr) := ⟨hwa, hbel⟩
              have hmono : Hid (∀ W bv bag l', WorldAt Rep W w.heap.size w.heap.size (.slice pl LN cl) bv bag l' (100 * q) → WorldAt Rep W w.heap.size w.heap.size (.slice pl LN cl) bv bag l' (100 * (q + 1))) := fun W bv bag l' h => ⟨h.base_le, h.wbb, h.row, h.ownl, h.ownb, h.bag64, h.nl, h.nb, h.nlb, fun s hs => by obtain ⟨a1, a2, a3, a4⟩ := h.side s hs; exact ⟨a1, a2, by omega, a4⟩, h.dis⟩
              clear hwa hbel hcell k0 k1 k2 k3
              by_cases hbig : 65536 < str.size
              · have e1 : decide (65536 < (str.size : Int)) = true := by simp; omega
                go_wp2_with fail
                go_roundg (gk - 1)
                case measure => omega
                case rel => exact ⟨q + 1, bv, bag, l', by go_num, by omega, hl', hmono.out _ _ _ _ HQ.out.1, HQ.out.2⟩
              · have e1 : decide (65536 < (str.size : Int)) = false := by simp; omega
                by_cases hkd : 1 < kd
                · go_wp2_with fail
                  go_roundg (gk - 1)
                  case measure => omega
                  case rel => exact ⟨q + 1, bv, bag, l', by go_num, by omega, hl', hmono.out _ _ _ _ HQ.out.1, HQ.out.2⟩
                · have HST : Hid (Calls Tryz.prog 20 #[.pointer (some ⟨w.heap.size, 0, none⟩), .agg (OpV kd a d str)] wr fun e w' => e = .returned (.bool true) ∧ Stepped Rep wr w.heap.size w.heap.size (.slice pl LN cl) LN (100 * (q + 1)) w') := by
                    by_cases hk1 : kd = 1
                    · subst hk1
                      have h := step_protect C wr w.heap.size w.heap.size (.slice pl LN cl) bv bag l' (100 * q) HQ.out.1 (by omega) (by omega) a d str (by omega) (by omega) ha1 ha2 (HGL.out.below HQ.out.2)
                      rw [hl'] at h
                      exact h
                    · have h := step_idle C wr w.heap.size w.heap.size (.slice pl LN cl) bv bag l' (100 * (q + 1)) (hmono.out _ _ _ _ HQ.out.1) (by omega) (by omega) kd a d str (by omega) ha1 ha2
                      rw [hl'] at h
                      exact h
                  go_wp2_with fail
                  refine HST.out.mono ?_
                  rintro e w2 ⟨rfl, hb2, bv2, bag2, l2, hl2, hwa2⟩
                  have HF : Hid (WorldAt Rep w2 w.heap.size w.heap.size (.slice pl LN cl) bv2 bag2 l2 (100 * (q + 1)) ∧ Below w.heap.size wr w2) := ⟨hwa2, hb2⟩
                  clear hwa2 hb2 m0 m1 m2 m3 HST
                  go_wp2_with fail
                  go_roundg (gk - 1)
                  case measure => omega
                  case rel => exact ⟨q + 1, bv2, bag2, l2, by go_num, by omega, hl2, HF.out.1, HQ.out.2.trans HF.out.2⟩
          · have HQ : Hid (WorldAt Rep wr w.heap.size w.heap.size (.slice pl LN cl) bv bag l' (100 * q) ∧ Below w.heap.size w wr) := ⟨hwa, hbel⟩
            have hqe : ¬ (q : Int) < ns := by omega
            clear hwa hbel
            go_wp2_with fail
            go_loopg [18] LN (fun k i wr2 => ∃ (j : Nat) (l2 : List SideD), i = .int .i64 j ∧ j + k = LN ∧ l2.length = LN ∧ WorldAt Rep wr2 w.heap.size w.heap.size (.slice pl LN cl) bv bag l2 (100 * q) ∧ Below w.heap.size w wr2)
            case atStart => exact ⟨0, l', rfl, by omega, hl', HQ.out.1, HQ.out.2⟩
            case round =>
              obtain ⟨r, l2, rfl, hrk, hl2, hwa, hbel⟩ := hrel
              have hA := (row_facts' hwa.row).1
              by_cases hr : r < LN
              · have hpi : r < l2.length := by omega
                obtain ⟨lb, cap, hlv, hcap, hlb, hcell⟩ := worldAt_ptr hwa (by omega)
                rw [hl2] at hlv
                cases hlv
                have hci := hcell r hpi
                obtain ⟨sd, hsd⟩ : ∃ sd, (l2[r]'hpi).sb = sd := ⟨_, rfl⟩
                rw [hsd] at hci
                have hdm := dump_any C wr (l2[r]'hpi).sb (l2[r]'hpi).U (l2[r]'hpi).st (l2[r]'hpi).wk (hwa.side _ (List.getElem_mem hpi)).1
                rw [hsd] at hdm
                have HDM : Hid (Calls Tryz.prog 21 #[.pointer (some ⟨sd, 0, none⟩)] wr fun e w' => e = .returned (.bool true) ∧ Outside (l2[r]'hpi).U wr w' ∧ ∃ U', Fresh wr (l2[r]'hpi).U U' ∧ Side Rep w' sd U' (l2[r]'hpi).st (l2[r]'hpi).wk) := hdm
                have HSD : Hid ((l2[r]'hpi).sb = sd) := hsd
                have HW : Hid (WorldAt Rep wr w.heap.size w.heap.size (.slice (some ⟨lb, 0, none⟩) LN cl) bv bag l2 (100 * q) ∧ Below w.heap.size w wr) := ⟨hwa, hbel⟩
                clear hwa hbel hcell hdm hsd
                go_wp2_with fail
                refine HDM.out.mono ?_
                rintro e w2 ⟨rfl, o2, U', f2, s2⟩
                have HF : Hid (WorldAt Rep w2 w.heap.size w.heap.size (.slice (some ⟨lb, 0, none⟩) LN cl) bv bag (l2.set r ⟨(l2[r]'hpi).sb, U', (l2[r]'hpi).st, (l2[r]'hpi).wk⟩) (100 * q) ∧ Below w.heap.size wr w2) := by
                  have hs2 : Side Rep w2 (l2[r]'hpi).sb U' (l2[r]'hpi).st (l2[r]'hpi).wk := by rw [HSD.out]; exact s2
                  have hsd := HW.out.1.side _ (List.getElem_mem hpi)
                  exact ⟨HW.out.1.step C r hpi U' (l2[r]'hpi).st (l2[r]'hpi).wk (100 * q) o2 f2 hs2 hsd.2.2.1 (Nat.le_refl _), o2.toBelow w.heap.size HW.out.1.base_le hsd.2.1⟩
                clear o2 f2 s2 hA hci HDM
                go_wp2_with fail
                go_roundg (gk - 1)
                case measure => omega
                case rel => exact ⟨r + 1, _, by go_num, by omega, by rw [List.length_set]; exact hl2, HF.out.1, HW.out.2.trans HF.out.2⟩
              · have HW : Hid (Below w.heap.size w wr) := hbel
                have hre : ¬ (r : Int) < LN := by omega
                clear hwa hbel
                go_wp2_with fail
                go_ret
                exact ⟨rfl, HW.out⟩
end Go.Proofs.YtpfijaclghdcdaaGreatDoor

/- Lists of numbers and scripts among a law's arguments. -/
namespace Go.Proofs.YtpfijaclghdcdaaGreatDoor
open Go.ChangeShapes Go.WideShapes Go.ChangeAt Go.RowKit

theorem spot_none {w : World} {a : Addr} {v : Value} (h : w.cell? a = some v) : a = ⟨a.block, a.off, none⟩ := by
  obtain ⟨b, o, s⟩ := a
  cases s with
  | none => rfl
  | some s =>
    unfold World.cell? at h
    split at h
    · simp at h
    · cases h
theorem add_none (b o i : Nat) : (⟨b, o, none⟩ : Addr).add i = ⟨b, o + i, none⟩ := by unfold Addr.add; split <;> simp_all
theorem ints_arg {H : Type} {enc : TypeId × Value → H} {W : World} {a0 : Option Addr} {len cap : Nat} {d : DataW H} {p : List MemPlace} (h : DataW.Trod enc Tryz.prog W 0 (fun _ => true) true 22 (.slice a0 len cap) d p) : IntsArg W a0 len cap := by
  obtain ⟨fuel, hf⟩ := h
  rcases Go.ChangeShapes.open_ints Tryz.underlying22 Tryz.underlying3 (by kernel_rfl) hf with ⟨e, _⟩ | ⟨a, l, c, zs, e, _, hle, _, hzl, _, hcell, _⟩
  · simp [Value.cells] at e
    obtain ⟨rfl, rfl, rfl⟩ := e
    exact ⟨Nat.le_refl _, .inl rfl⟩
  · simp [Value.cells] at e
    obtain ⟨rfl, rfl, rfl⟩ := e
    rw [if_pos rfl] at hzl
    refine ⟨hle, ?_⟩
    by_cases h0 : len = 0
    · exact .inl h0
    · have h1 := hcell 0 (by omega)
      have ha := spot_none (show W.cell? a = _ from h1)
      refine .inr ⟨a.block, a.off, by rw [← ha], fun i hi => ?_⟩
      have h2 := hcell i (by omega)
      rw [ha, add_none] at h2
      exact ⟨_, h2⟩
theorem field_at (t : TypeId) (i : Nat) (ft o : Nat) (h : ((Tryz.prog.fieldsOf t).toList.map fun f => (f.type, f.offset))[i]? = some (ft, o)) : ∃ f, (Tryz.prog.fieldsOf t)[i]? = some f ∧ f.type = ft ∧ f.offset = o := by
  rw [List.getElem?_map] at h
  obtain ⟨f, h1, h2⟩ := Option.map_eq_some_iff.1 h
  simp only [Prod.mk.injEq] at h2
  exact ⟨f, by simpa using h1, h2.1, h2.2⟩
theorem ops_arg {H : Type} {enc : TypeId × Value → H} {W : World} {a0 : Option Addr} {len cap : Nat} {d : DataW H} {p : List MemPlace} (h : DataW.Trod enc Tryz.prog W 0 (fun _ => true) true 23 (.slice a0 len cap) d p) : OpsArg W a0 len cap := by
  obtain ⟨fuel, hf⟩ := h
  have hce : Tryz.prog.cellsOf 66 = 4 := by kernel_rfl
  have hci : Tryz.prog.cellsOf 3 = 1 := by kernel_rfl
  have hcs : Tryz.prog.cellsOf 9 = 1 := by kernel_rfl
  have hst : Tryz.prog.underlying 66 = some (.struct (Tryz.prog.fieldsOf 66)) := by kernel_rfl
  have hF : (Tryz.prog.fieldsOf 66).toList.map (fun f => (f.type, f.offset)) = [(3, 0), (3, 1), (3, 2), (9, 3)] := by kernel_rfl
  rcases Go.Deep.open_slice Tryz.underlying23 hf with ⟨e, _⟩ | ⟨a, l, c, m, n, D, Pl, e, _, hle, _, hm, _, hx⟩
  · simp [Value.cells] at e
    obtain ⟨rfl, rfl, rfl⟩ := e
    exact ⟨Nat.le_refl _, .inl rfl⟩
  · simp [Value.cells] at e
    obtain ⟨rfl, rfl, rfl⟩ := e
    rw [if_pos rfl] at hm
    refine ⟨hle, ?_⟩
    by_cases h0 : len = 0
    · exact .inl h0
    · rw [hce] at hx
      have ha : a = ⟨a.block, a.off, none⟩ := by
        obtain ⟨cs', h1, h2⟩ := hx 0 (by omega)
        obtain ⟨_, hlen, hcell⟩ := World.cells?_some h1
        have h3 := hcell 0 (by omega)
        obtain ⟨v, hv⟩ : ∃ v, cs'[0]? = some v := ⟨_, List.getElem?_eq_getElem (by omega)⟩
        rw [hv] at h3
        exact spot_none (show W.cell? a = some v from h3)
      refine .inr ⟨a.block, a.off, by rw [← ha], fun i hi => ?_⟩
      obtain ⟨cs', h1, h2⟩ := hx i (by omega)
      obtain ⟨_, hlen, hcell⟩ := World.cells?_some h1
      obtain ⟨xs, k, hk, hxy, _, hxl, hfd⟩ := DataW.trod_struct hst h2
      have hfs : (Tryz.prog.fieldsOf 66).size = 4 := by
        have := congrArg List.length hF
        simpa using this
      rw [hfs] at hxl
      rw [ha, add_none] at hcell
      have one : ∀ j (hj : j < 4) ft, ((Tryz.prog.fieldsOf 66).toList.map (fun f => (f.type, f.offset)))[j]? = some (ft, j) → Tryz.prog.cellsOf ft = 1 → ∃ y, DataW.trod enc Tryz.prog W 0 (fun _ => true) true k ft ((cs'.drop j).take 1) = some y := fun j hj ft hft hc1 => by
        obtain ⟨f, g1, g2, g3⟩ := field_at _ j ft j hft
        have g4 := hfd j f g1
        rw [g2, g3, hc1] at g4
        exact ⟨xs[j]'(by omega), by rw [g4]; exact List.getElem?_eq_getElem (by omega)⟩
      have cellj : ∀ j (hj : j < 4) v, (cs'.drop j).take 1 = [v] → W.cell? ⟨a.block, a.off + i * 4 + j, none⟩ = some v := fun j hj v hv => by
        have h5 := hcell j (by omega)
        rw [add_none] at h5
        rw [h5]
        have h6 : ((cs'.drop j).take 1)[0]? = some v := by rw [hv]; rfl
        rw [List.getElem?_take] at h6
        simpa using h6
      obtain ⟨y0, t0⟩ := one 0 (by omega) 3 (by rw [hF]; rfl) hci
      obtain ⟨y1, t1⟩ := one 1 (by omega) 3 (by rw [hF]; rfl) hci
      obtain ⟨y2, t2⟩ := one 2 (by omega) 3 (by rw [hF]; rfl) hci
      obtain ⟨y3, t3⟩ := one 3 (by omega) 9 (by rw [hF]; rfl) hcs
      obtain ⟨n0, c0, _, _⟩ := DataW.trod_int Tryz.underlying3 t0
      obtain ⟨n1, c1, _, w1⟩ := DataW.trod_int Tryz.underlying3 t1
      obtain ⟨n2, c2, _, _⟩ := DataW.trod_int Tryz.underlying3 t2
      obtain ⟨s3, c3, _, _⟩ := DataW.trod_string Tryz.underlying9 t3
      have b1 := Go.bounds_i64 w1
      exact ⟨n0, n1, n2, s3, b1.1, b1.2, cellj 0 (by omega) _ c0, cellj 1 (by omega) _ c1, cellj 2 (by omega) _ c2, cellj 3 (by omega) _ c3⟩
end Go.Proofs.YtpfijaclghdcdaaGreatDoor

/- What the one listed variable holds; a world that has it. -/
namespace Go.Proofs.YtpfijaclghdcdaaGreatDoor
open Go.ChangeShapes Go.WideShapes Go.RowKit

theorem lpOwn : ownKnob Tryz.prog.godebug = none := by kernel_rfl
theorem lpEt : Tryz.prog.globalNamed "errors.errorType" = some 0 := by kernel_rfl
theorem lpRt : (Tryz.prog.cutTypes.find? (·.1 == "internal/reflectlite.rtype")).map (·.2) = some 197 := by kernel_rfl
theorem lpSize : Tryz.prog.types.size = 287 := by kernel_rfl
theorem lpRow : ((List.range 287).filter fun t => Tryz.prog.rowNamed t [101, 114, 114, 111, 114]) = [70] := by kernel_rfl
theorem glob_of_laid {W : World} (h : laidMetH Tryz.prog [("errors.errorType", Rows.laid_errors_errorType)] W) : Glob W := by
  have h' : laidMet Tryz.prog [] W ∧ handlesMet Tryz.prog [("errors.errorType", Rows.laid_errors_errorType)] W := h
  obtain ⟨name, u, ty, e1, e2, e3, e4, e5⟩ := h'.2 _ (List.mem_singleton.2 rfl)
  have en : name = [101, 114, 114, 111, 114] := (Option.some.inj e1).symm
  subst en
  obtain rfl := Option.some.inj (lpRt.symm.trans e2)
  have hm : ty ∈ (List.range 287).filter fun t => Tryz.prog.rowNamed t [101, 114, 114, 111, 114] := List.mem_filter.2 ⟨List.mem_range.2 (by rw [← lpSize]; exact e3), e4⟩
  rw [lpRow] at hm
  obtain rfl := List.mem_singleton.1 hm
  have hh : typeHandle Tryz.prog 70 = .pointer (some ⟨1, 70, none⟩) := by kernel_rfl
  rw [hh] at e5
  have := World.var?_cell lpEt e5 0
  show W.cell? ⟨0, 0, none⟩ = _
  simpa using this
end Go.Proofs.YtpfijaclghdcdaaGreatDoor

/- Protects: P7, P8, P13, P14: of a program whose calls on a group are as Code asks. -/
namespace Go.Proofs.YtpfijaclghdcdaaGreatDoor.protects
open Go.ChangeShapes Go.WideShapes Go.ChangeAt Go.RowKit
open Go.ChangeMaps (open_string shut_string)
set_option linter.unusedVariables false

theorem own : ownKnob Tryz.prog.godebug = none := by kernel_rfl
theorem laid : laidOutB Tryz.prog = true := by kernel_rfl

theorem walk {Rep : World → List Nat → Value → St → Nat → Prop} (C : Code Rep) (root : ByteArray) (n : Int) (po : Option Addr) (no co : Nat) (ps : Option Addr) (ns cs : Nat) (w : World) (hown : IntsArg w po no co) (hscr : OpsArg w ps ns cs) (hG : Glob w) :
    Calls Tryz.prog 3 #[.string root, .int .i64 n, .slice po no co, .slice ps ns cs] w fun e w' => e = .returned (.bool true) ∧ Below w.heap.size w w' := by
  have HP : Hid (∀ W, W = w → Calls Tryz.prog 9 #[.string root, .int .i64 n, .slice po no co, .slice ps ns cs, .int .i64 1] W fun e w' => e = .returned (.bool true) ∧ Below W.heap.size W w') := fun W hW => by
    subst hW
    by_cases hbig : 4096 < ns ∨ 16 < no
    · exact plays_big root n po no co ps ns cs 1 hbig W
    · exact plays_small C root n po no co ps ns cs (by omega) (by omega) W hown hscr hG
  clear hown hscr hG
  go_enter Tryz.func3, Tryz.ntmps3
  go_wp2_with fail
  refine (HP.out _ rfl).mono ?_
  rintro e w1 ⟨rfl, b1⟩
  have HB : Hid (Below w.heap.size w w1) := b1
  clear b1 HP
  go_wp2_with fail
  go_ret
  exact ⟨rfl, HB.out⟩

set_option maxRecDepth 100000 in
theorem lifted {Rep : World → List Nat → Value → St → Nat → Prop} (C : Code Rep) (os : Os) (started : os.Started) (H : Type) (enc : TypeId × Value → H) :
    ReturnsInHanded {} Tryz.checked os 3 .any (fun w args => (Rows.protectsSpec.pre enc Tryz.prog Tryz.f3 [] false w args ∧ laidMetH Tryz.prog [("errors.errorType", Rows.laid_errors_errorType)] w) ∧ sizedMet enc Tryz.prog Tryz.f3 (OpenSpec.ofChange Rows.protectsSpec) false w args)
      (Rows.protectsSpec.post enc Tryz.prog Tryz.f3 false true false false) := by
  refine returnsInHanded_of_change_and (C := Tryz.checked) (X := fun w _ => laidMetH Tryz.prog [("errors.errorType", Rows.laid_errors_errorType)] w) (fun _ _ _ hh h => h.of_heap hh) lpOwn started (by kernel_rfl) Tryz.func3
    (ChangeSpec.witness_at (enc := enc) (C := Tryz.checked) (os := os) (X := fun w _ => laidMetH Tryz.prog [("errors.errorType", Rows.laid_errors_errorType)] w) false ({ World.holding Tryz.prog os ⟨#[], #[], []⟩ with heap := (World.holding Tryz.prog os ⟨#[], #[], []⟩).heap.modify 0 fun
      | .cells _ t frozen => .cells #[errT] t frozen
      | o => o }) #[.string ByteArray.empty, .int .i64 0, .slice none 0 0, .slice none 0 0] 8 rfl (by kernel_rfl) (by kernel_rfl) (by kernel_rfl) (by kernel_rfl) (by kernel_rfl) (laidMetH_of_parts (laidMet_nil _ _) (by kernel_rfl))) ?_
  intro W base args ds gs before hval0 hW _ _ hL _
  have hG := glob_of_laid hL
  have hval : ∀ (j : Nat) t v, Tryz.f3.params[j]? = some t → args[j]? = some v → Value.okWide Tryz.prog W .any base t v := hval0
  have hW' := hW
  obtain ⟨p, q, hA0, hV0, rfl, hfz, hnd⟩ := hW
  have hA : DataW.TrodAll enc Tryz.prog W 0 (fun _ => true) true Tryz.f3.params.toList args.toList ds p := hA0
  have hV : DataW.TrodVars enc Tryz.prog W (fun _ => true) [] gs q := hV0
  rw [Tryz.params3] at hA hval
  obtain ⟨v0, vs0, d0, ds0, p0, q0, hargs, rfl, rfl, h0, r0⟩ := trodAll_cons hA
  obtain ⟨v1, vs1, d1, ds1, p1, q1, rfl, rfl, rfl, h1, r1⟩ := trodAll_cons r0
  obtain ⟨v2, vs2, d2, ds2, p2, q2, rfl, rfl, rfl, h2, r2⟩ := trodAll_cons r1
  obtain ⟨v3, vs3, d3, ds3, p3, q3, rfl, rfl, rfl, h3, r3⟩ := trodAll_cons r2
  obtain ⟨rfl, rfl, rfl⟩ := trodAll_nil r3
  obtain rfl : args = #[v0, v1, v2, v3] := by cases args; simp_all
  obtain ⟨rfl, rfl⟩ := trodVars_none hV
  obtain ⟨a0, rfl, rfl, rfl, w0⟩ := open_string Tryz.underlying9 (hval 0 9 v0 rfl rfl) h0
  obtain ⟨a1, rfl, rfl, rfl, w1⟩ := open_int Tryz.underlying3 (hval 1 3 v1 rfl rfl) h1
  obtain ⟨po, no, co, rfl⟩ := okWide_slice Tryz.underlying22 (hval 2 22 v2 rfl rfl)
  obtain ⟨ps, ns, cs, rfl⟩ := okWide_slice Tryz.underlying23 (hval 3 23 v3 rfl rfl)
  have hlt : ∀ x, x ∈ p2 ++ (p3 ++ []) → x.block < W.heap.size := fun x hx => by simpa using hW'.lt x (by simpa using hx)
  refine (walk C a0 a1 po no co ps ns cs W (ints_arg h2) (ops_arg h3) hG).mono fun e W' ⟨he, hg⟩ => ?_
  subst he
  refine ⟨_, rfl, _, _, _, [], [] ++ ([] ++ (p2 ++ (p3 ++ []))), [], hW', trodAll_mk1 (shut_bool Tryz.underlying4 _), ?_, rfl, hg.frame _, fun h => by cases h⟩
  exact trodAll_cons_mk (shut_string Tryz.underlying9 w0) (trodAll_cons_mk (shut_int Tryz.underlying3 w1) (trodAll_cons_mk (Below.trod laid (by kernel_rfl) (of_decide_eq_true (by kernel_rfl)) h2 hg (fun x hx => hlt x (List.mem_append_left _ hx))) (trodAll_cons_mk (Below.trod laid (by kernel_rfl) (of_decide_eq_true (by kernel_rfl)) h3 hg (fun x hx => hlt x (List.mem_append_right _ (List.mem_append_left _ hx)))) trodAll_mk0)))

theorem over {Rep : World → List Nat → Value → St → Nat → Prop} (C : Code Rep) : Rows.protectsRow.holds Tryz.pinned (OpenSpec.ofChange Rows.protectsSpec) :=
  OpenClaim.holds_of_wide 3 Tryz.f3 rfl rfl rfl rfl rfl rfl rfl ⟨rfl, rfl, rfl, rfl, rfl⟩ rfl rfl rfl rfl rfl (by kernel_rfl) Tryz.func3 (by kernel_rfl)
    (of_decide_eq_true (by kernel_rfl)) (by unfold Func.isWrapper; first | (rw [if_pos (by decide +kernel)]; kernel_rfl) | (rw [if_neg (by decide +kernel)]; exact ⟨rfl, rfl⟩))
    (fun os started H enc _ => lifted C os started H enc)
theorem said {Rep : World → List Nat → Value → St → Nat → Prop} (C : Code Rep) : Rows.ProtectsSaid := over C
end Go.Proofs.YtpfijaclghdcdaaGreatDoor.protects

/- The program's calls on a group are as the law asks. -/
namespace Go.Proofs.YtpfijaclghdcdaaGreatDoor
open Go.RowKit
set_option linter.unusedVariables false

theorem heads_more {st : St} (ok : st.Ok) (k : Nat) : st.heads (st.n + k) = st.heads st.n := by
  induction k with
  | zero => rfl
  | succ k ih =>
    have hm : st.m (st.n + k) = ⟨false, 0, []⟩ := by unfold St.m; rw [List.getD_eq_getElem?_getD, List.getElem?_eq_none (by rw [ok.len]; omega)]; rfl
    rw [show st.n + (k + 1) = (st.n + k) + 1 from rfl, St.heads, ih, hm]
    simp
theorem heads_16 {st : St} (ok : st.Ok) : st.heads 16 = st.heads st.n := by
  have h := heads_more ok (16 - st.n)
  have := ok.n16
  rwa [show st.n + (16 - st.n) = 16 by omega] at h
theorem kepts_none {st : St} (h : ∀ i, (st.m i).over = []) (k : Nat) : st.kepts k = [] := by
  induction k with
  | zero => rfl
  | succ k ih => rw [St.kepts, ih, h]; rfl
theorem Grp.keep {w w' : World} {S : List Nat} {g : Value} {st : St} {wk : Nat} (h : Grp w S g st wk) (hk : ∀ k, k < w.heap.size → k ∈ S → w'.heap[k]? = w.heap[k]?) : Grp w' S g st wk := by
  obtain ⟨b, pm, cs, rfl, rfl, hbp, hh, h1, h2, h3⟩ := h
  exact ⟨b, pm, cs, rfl, rfl, hbp, Home.own (by rw [hk b hh.lt (by simp)]; exact hh.row) hh.cnt, h1, ⟨by rw [hk pm (Array.getElem?_eq_some_iff.1 h2.map).1 (by simp)]; exact h2.map, h2.none⟩, h3⟩
theorem Grp.below {w w' : World} {S : List Nat} {g : Value} {st : St} {wk : Nat} (h : Grp w S g st wk) (hb : Below w.heap.size w w') : Grp w' S g st wk := h.keep fun k hk _ => hb.block k hk
theorem code : Code Grp where
  lt := fun {w S g st wk} h k hk => by
    obtain ⟨b, pm, cs, rfl, rfl, hbp, hh, h1, h2, h3⟩ := h
    simp at hk
    rcases hk with rfl | rfl
    · exact hh.lt
    · exact (Array.getElem?_eq_some_iff.1 h2.map).1
  keep := fun {w w' S g st wk} h _ hk => h.keep hk
  ptr := fun {w S g st wk} h => by
    obtain ⟨b, pm, cs, rfl, _⟩ := h
    exact ⟨b, rfl⟩
  newErr := fun s n m w hs hf => newErr_any s n m hf w
  new := fun s n m w hs h1 h2 h3 => new_any s hs n m h1 h2 h3 w
  work := fun {w S g st wk} ok h => by
    have h' := h
    obtain ⟨b, pm, cs, rfl, rfl, hbp, hh, h1, hk, h2⟩ := h
    refine (gwork_any b cs _ wk w hh.row h1.cnt).mono fun e w' ⟨e1, e2⟩ => ⟨?_, by rw [e2]; exact Outside.refl _ _, [b, pm], Fresh.refl _ _, by rw [e2]; exact h'⟩
    rw [e1]
    have hw := h2.work
    have hn := (ok.m st.own).1
    have e3 : IntKind.i64.wrap (wk : Int) = wk := by rw [IntKind.wrap_i64]; omega
    unfold ctr
    rw [e3]
  protErr := fun {w S g st wk} ok h hG a t c hl hb hn he => by
    have h' := h
    obtain ⟨b, pm, cs, rfl, rfl, hbp, hh, h1, hk, h2⟩ := h
    exact (gprotErr ok h1 h2.closed w hh hG a t.length c he).mono fun e w' ⟨e1, e2⟩ => ⟨e1, Outside.ofBelow e2, [b, pm], Fresh.refl _ _, h'.below e2⟩
  prot := fun {w S g st wk} ok h a t c hl hb hn he => by
    obtain ⟨b, pm, cs, rfl, rfl, hbp, hh, h1, hk, h2⟩ := h
    obtain ⟨he1, he2⟩ := protErr_zero he
    refine (gprot ok h1 h2.closed w hh a t c hl hb (fun k o e => by have := hn k o e; simp at this; omega) he he2).mono fun e w' ⟨f, cap, e1, e2, e3, e4, e5, cs', n, e6, e7, e8, e9⟩ => ⟨e4.mono (fun i hi _ => by simp at hi; simp [hi]), [b, pm], wk + n, f, 0, cap, Fresh.refl _ _, ⟨b, pm, cs', rfl, rfl, hbp, e8, e9, ⟨?_, ?_⟩, ?_⟩, by omega, ?_, e1, e3, ?_, e2, ?_, ?_⟩
    · exact e4.row hk.map (by simp; omega)
    · intro i
      rw [protNext_m ok]
      split
      · exact hk.none st.own
      · exact hk.none i
    · refine ⟨h2.closed, ?_⟩
      have hw := h2.work
      have hd := DepB_le 16 st.n st.own
      show wk + n ≤ 100 * (st.protNext.m st.own).next
      rw [protNext_m ok, if_pos rfl]
      show wk + n ≤ 100 * ((st.m st.own).next + 1)
      omega
    · unfold St.bound
      omega
    · have := hh.lt
      have := (Array.getElem?_eq_some_iff.1 hk.map).1
      simp
      omega
    · refine .inr ⟨f, 0, rfl, fun i hi => ?_⟩
      rw [Nat.zero_add, cell_of_row _ _ _ _ _ _ e5, RowB_at _ _ _ hi]
    · intro i hi
      simp [World.frozen?, e5]
  dump := fun {w S g st wk} ok h => by
    have h' := h
    obtain ⟨b, pm, cs, rfl, rfl, hbp, hh, h1, hk, h2⟩ := h
    have hd : st.dump = st.parts 16 0 st.n ++ st.heads 16 := by
      unfold St.dump
      rw [h2.closed, kepts_none hk.none, List.append_nil, heads_16 ok]
      rfl
    rw [hd]
    refine (gdump ok h1 w hk hh).mono fun e w' ⟨v, e1, e2, e3⟩ => ?_
    have hbl : b < w.heap.size := hh.lt
    have hpl : pm < w.heap.size := (Array.getElem?_eq_some_iff.1 hk.map).1
    rcases e3.2 with ⟨x1, x2⟩ | ⟨g, cap, cur, x1, x2, x3, x4⟩
    · refine ⟨Outside.ofBelow e2, [b, pm], none, 0, Fresh.refl _ _, h'.below e2, ?_, .inl ?_⟩
      · rw [e1, x1, x2]
      · exact List.eq_nil_of_length_eq_zero x2
    · refine ⟨Outside.ofBelow e2, [b, pm], some ⟨g, 0, none⟩, cap, Fresh.refl _ _, h'.below e2, by rw [e1, x1], .inr ⟨g, 0, rfl, x4.1, x2, by simp; omega, fun j u hj => ?_, fun j hj => ?_⟩⟩
      · rw [x1] at e3
        rw [Nat.zero_add]
        exact e3.cells.2 j u hj
      · simp [World.frozen?, x3]
end Go.Proofs.YtpfijaclghdcdaaGreatDoor

/- Protects. -/
namespace Go.Proofs.YtpfijaclghdcdaaGreatDoor
open Go

theorem protects_row : Rows.ProtectsSaid := protects.said code
theorem protects_holds : Rows.ProtectsCardSaid :=
  Claim7.holds_tied_plain_at .later [] [.handle] true _ true
    protects_row (fun _ h => by cases h) (by kernel_rfl) (fun _ h => by cases h) protects_row_tie rfl ⟨rfl, rfl⟩ (by kernel_rfl) rfl
    (fun f fn hf hfn => by
      obtain rfl : f = 3 := Option.some.inj ((show Tryz.prog.funcNamed "epoch/epochlaw.Protects" = some 3 by kernel_rfl).symm.trans hf) |>.symm
      obtain rfl : fn = Tryz.f3 := (Option.some.inj (Tryz.func3.symm.trans hfn)).symm
      exact ⟨by kernel_rfl, fun j t ht => by
        rw [Tryz.params3] at ht
        rcases j with _ | _ | _ | _ | j
        · obtain rfl : t = 9 := by simpa using ht.symm
          exact (show Tryz.prog.wantsStandIn 9 = false by kernel_rfl)
        · obtain rfl : t = 3 := by simpa using ht.symm
          exact (show Tryz.prog.wantsStandIn 3 = false by kernel_rfl)
        · obtain rfl : t = 22 := by simpa using ht.symm
          exact (show Tryz.prog.wantsStandIn 22 = false by kernel_rfl)
        · obtain rfl : t = 23 := by simpa using ht.symm
          exact (show Tryz.prog.wantsStandIn 23 = false by kernel_rfl)
        · simp at ht⟩)
    (by kernel_rfl)
#print axioms protects_holds
end Go.Proofs.YtpfijaclghdcdaaGreatDoor
