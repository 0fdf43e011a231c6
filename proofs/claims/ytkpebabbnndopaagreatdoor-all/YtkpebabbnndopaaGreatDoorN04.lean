import Derived.Test.YtkpebabbnndopaaGreatDoorN01
import Derived.Test.YtkpebabbnndopaaGreatDoorN02
import Derived.Test.YtkpebabbnndopaaGreatDoorN03
import Derived.Test.YtkpebabbnndopaaGreatDoorG04
import Derived.Test.YtkpebabbnndopaaGreatDoorG02
import Derived.WalkKit
import Derived.WalkSpells
import Derived.WalkLawsBesides
import Derived.Deep.WholeRow
import Derived.Deep.LoopGhost
import Derived.BigRegion
import Derived.Deep.DeepCutAuto
import Derived.BigQuiet
import Derived.Deep.RegionHeld3
import Derived.ProofKit
import Derived.OpenShut
import Derived.ChangeSlices
import Derived.Deep.Slices
import Derived.Laws.StructEq
/- epochref.Unprotect, whole. -/
namespace Go.Proofs.YtkpebabbnndopaaGreatDoor
open Go.RowKit
set_option linter.unusedVariables false

theorem refUn_err (w : World) (S : List Nat) (rb : Nat) (st : St) (steps : Int) (ok : st.Ok) (h : RefRep w S rb st steps) (f : ByteArray) (he : st.unErr f.data.toList ≠ 0) :
    Calls Tryz.prog 101 #[.pointer (some ⟨rb, 0, none⟩), .string f] w fun x w' => x = .returned (.tuple #[.int .i64 0, .int .i64 0, .string ⟨#[]⟩, .int .i64 (st.unErr f.data.toList)]) ∧ Outside S w w' ∧ RefRep w' S rb st ((if st.unPre f.data.toList = 0 then st.bound (unWho f.data.toList) (unGen f.data.toList) (f.data.toList.length - 7) else 0 : Nat) : Int) := by
  obtain ⟨mb, cs, ov, hr⟩ := id h
  by_cases hp : st.unPre f.data.toList = 0
  · have hok : st.unOk f.data.toList = false := by
      unfold St.unErr at he
      rw [if_neg (by simp [hp])] at he
      cases hk : st.unOk f.data.toList with
      | false => rfl
      | true => rw [hk] at he; simp at he
    have e7 : st.unErr f.data.toList = 7 := by
      unfold St.unErr
      rw [if_neg (by simp [hp]), hok]
      rfl
    rw [e7, if_pos hp]
    exact (refUn_seal w S rb mb cs ov st steps ok hr f hp hok).mono fun x w' ⟨a, b, c⟩ => ⟨a, b, mb, cs, ov, c⟩
  · have eE : st.unErr f.data.toList = st.unPre f.data.toList := if_pos hp
    rw [eE, if_neg hp]
    have fin : ∀ {E : Int}, st.unPre f.data.toList = E → (Calls Tryz.prog 101 #[.pointer (some ⟨rb, 0, none⟩), .string f] w fun x w' => x = .returned (.tuple #[.int .i64 0, .int .i64 0, .string ⟨#[]⟩, .int .i64 E]) ∧ Outside S w w' ∧ RefRep w' S rb st 0) → Calls Tryz.prog 101 #[.pointer (some ⟨rb, 0, none⟩), .string f] w fun x w' => x = .returned (.tuple #[.int .i64 0, .int .i64 0, .string ⟨#[]⟩, .int .i64 (st.unPre f.data.toList)]) ∧ Outside S w w' ∧ RefRep w' S rb st ((0 : Nat) : Int) := fun e h => by rw [e]; exact h
    by_cases c1 : st.closed = true
    · exact fin (by unfold St.unPre; rw [if_pos c1]) (refUn_closed w S rb st steps ok h f c1)
    have c1' : st.closed = false := by simpa using c1
    by_cases c2 : f.data.toList.length < 7
    · exact fin (by unfold St.unPre; rw [if_neg c1, if_pos (.inl c2)]) (refUn_short w S rb st steps ok h f c1' c2)
    by_cases c3 : 47 < f.data.toList.length
    · exact fin (by unfold St.unPre; rw [if_neg c1, if_pos (.inr (.inl c3))]) (refUn_long w S rb st steps ok h f c1' c3)
    by_cases c4 : st.n ≤ unWho f.data.toList
    · exact fin (by unfold St.unPre; rw [if_neg c1, if_pos (.inr (.inr c4))]) (refUn_nobody w S rb st steps ok h f c1' (by omega) (by omega) c4)
    have c5 : ¬ (f.data.toList.length < 7 ∨ 47 < f.data.toList.length ∨ st.n ≤ unWho f.data.toList) := by omega
    by_cases c6 : unWho f.data.toList = st.own
    · exact fin (by unfold St.unPre; rw [if_neg c1, if_neg c5, if_pos c6]) (refUn_own w S rb st steps ok h f c1' (by omega) (by omega) c6)
    by_cases c7 : unGen f.data.toList < (st.m (unWho f.data.toList)).next ∧ unGen f.data.toList ∉ (st.m (unWho f.data.toList)).over
    · exact fin (by unfold St.unPre; rw [if_neg c1, if_neg c5, if_neg c6, if_pos c7]) ((refUn_consumed w S rb mb cs ov st steps ok hr f c1' (by omega) (by omega) (by omega) c6 c7.1 c7.2).mono fun x w' ⟨a, b, c⟩ => ⟨a, b, mb, cs, ov, c⟩)
    by_cases c8 : (st.m (unWho f.data.toList)).next + 5 < unGen f.data.toList
    · exact fin (by unfold St.unPre; rw [if_neg c1, if_neg c5, if_neg c6, if_neg c7, if_pos c8]) ((refUn_far w S rb mb cs ov st steps ok hr f c1' (by omega) (by omega) (by omega) c6 c8).mono fun x w' ⟨a, b, c⟩ => ⟨a, b, mb, cs, ov, c⟩)
    · exact absurd (show st.unPre f.data.toList = 0 by unfold St.unPre; rw [if_neg c1, if_neg c5, if_neg c6, if_neg c7, if_neg c8]) hp
theorem refUn_ok (w : World) (S : List Nat) (rb : Nat) (st : St) (steps : Int) (ok : st.Ok) (h : RefRep w S rb st steps) (f : ByteArray) (he : st.unErr f.data.toList = 0) :
    Calls Tryz.prog 101 #[.pointer (some ⟨rb, 0, none⟩), .string f] w fun x w' => x = .returned (.tuple #[.int .i64 (unWho f.data.toList), .int .i64 (unGen f.data.toList), .string ⟨(st.unText f.data.toList).toArray⟩, .int .i64 0]) ∧ Outside S w w' ∧ ∃ S', (∀ k, k ∈ S' → k ∈ S ∨ w.heap.size ≤ k ∧ k < w'.heap.size) ∧ RefRep w' S' rb (st.unNext f.data.toList) (st.bound (unWho f.data.toList) (unGen f.data.toList) (f.data.toList.length - 7)) := by
  obtain ⟨mb, cs, ov, hr⟩ := id h
  have hp : st.unPre f.data.toList = 0 := by
    unfold St.unErr at he
    by_cases hp : st.unPre f.data.toList = 0
    · exact hp
    · rw [if_pos hp] at he; exact he
  have hok : st.unOk f.data.toList = true := by
    unfold St.unErr at he
    rw [if_neg (by simp [hp])] at he
    cases hk : st.unOk f.data.toList with
    | true => rfl
    | false => rw [hk] at he; simp at he
  by_cases hk : unGen f.data.toList ∈ (st.m (unWho f.data.toList)).over
  · exact refUn_kept w S rb mb cs ov st steps ok hr f hp hok hk
  · exact refUn_ahead w S rb mb cs ov st steps ok hr f hp hok hk
end Go.Proofs.YtkpebabbnndopaaGreatDoor

/- The law's (*Side).unprotect. -/
namespace Go.Proofs.YtkpebabbnndopaaGreatDoor
open Go.RowKit
set_option linter.unusedVariables false

theorem bound_un {st : St} {l : List UInt8} (h : st.unPre l = 0) : st.bound (unWho l) (unGen l) (l.length - 7) ≤ 100 := by
  obtain ⟨_, h1, h2, _, _, _, h3⟩ := unPre_zero h
  unfold St.bound
  have := DepB_le 16 st.n (unWho l)
  omega
theorem unErr_zero {st : St} {l : List UInt8} (h : st.unErr l = 0) : st.unPre l = 0 := by
  unfold St.unErr at h
  by_cases hp : st.unPre l = 0
  · exact hp
  · rw [if_pos hp] at h; exact h
/-- the ends of a step on one side, where the other's group has new blocks -/
theorem side_fin2 {Rep : World → List Nat → Value → St → Nat → Prop} (C : Code Rep) {w w1 w2 w3 w4 : World} {sb : Nat} {S T T' S' S'' : List Nat} {g : Value} {rb : Nat} {st : St} {wk : Nat} {steps : Nat} (ok : st.Ok)
    (hsb : sb < w.heap.size) (h4 : sb ∉ S) (h5 : sb ∉ T) (h6 : ∀ k, k ∈ S → k ∉ T) (h7 : ∀ k, k ∈ T → k < w.heap.size) (b1 : Below w.heap.size w w1) (o2 : Outside S w1 w2) (f2 : Fresh w1 S S') (l2 : ∀ k, k ∈ S' → k < w2.heap.size) (o3 : Outside T w2 w3) (f3 : ∀ k, k ∈ T' → k ∈ T ∨ w2.heap.size ≤ k ∧ k < w3.heap.size) (ref3 : RefRep w3 T' rb st steps)
    (o4 : Outside (sb :: S') w3 w4) (row4 : w4.heap[sb]? = some (.cells (CellsS g rb wk) 71 (0, 0))) (f4 : Fresh w3 S' S'') (rep4 : Rep w4 S'' g st wk) :
    Outside (sb :: (S ++ T)) w w4 ∧ Fresh w (sb :: (S ++ T)) (sb :: (S'' ++ T')) ∧ Side Rep w4 sb (sb :: (S'' ++ T')) st wk := by
  have z1 := b1.size
  have z2 := o2.size
  have z3 := o3.size
  have z4 := o4.size
  have inS : ∀ k, k ∈ S' → k < w.heap.size → k ∈ S := fun k hk hl => by
    rcases f2 k hk with h | h
    · exact h
    · omega
  have inS2 : ∀ k, k ∈ S'' → k < w.heap.size → k ∈ S := fun k hk hl => by
    rcases f4 k hk with h | h
    · exact inS k h hl
    · omega
  have dST : ∀ k, k ∈ S' → k ∉ T' := fun k hk hT => by
    rcases f3 k hT with h | h
    · exact h6 k (inS k hk (h7 k h)) h
    · have := l2 k hk; omega
  have sbT : sb ∉ T' := fun h => by
    rcases f3 sb h with h | h
    · exact h5 h
    · omega
  refine ⟨?_, ?_, S'', T', g, rb, steps, rfl, ok, row4, rep4, ?_, ?_, sbT, ?_, ?_⟩
  · have a1 : Outside (sb :: (S ++ T)) w w1 := Outside.ofBelow b1
    have a2 := a1.trans o2 (fun i hi _ => List.mem_cons_of_mem _ (List.mem_append_left _ hi))
    have a3 := a2.trans o3 (fun i hi _ => List.mem_cons_of_mem _ (List.mem_append_right _ hi))
    refine a3.trans o4 (fun i hi hl => ?_)
    rcases List.mem_cons.1 hi with h | h
    · rw [h]; exact List.mem_cons_self
    · exact List.mem_cons_of_mem _ (List.mem_append_left _ (inS i h hl))
  · intro k hk
    by_cases hl : k < w.heap.size
    · left
      rcases List.mem_cons.1 hk with h | h
      · rw [h]; exact List.mem_cons_self
      · rcases List.mem_append.1 h with h | h
        · exact List.mem_cons_of_mem _ (List.mem_append_left _ (inS2 k h hl))
        · rcases f3 k h with h | h
          · exact List.mem_cons_of_mem _ (List.mem_append_right _ h)
          · omega
    · right; omega
  · refine ref3.keep fun k a b => o4.block k a (fun h => ?_)
    rcases List.mem_cons.1 h with h | h
    · exact sbT (h ▸ b)
    · exact dST k h b
  · exact fun h => h4 (inS2 sb h hsb)
  · intro k hk hT
    rcases f4 k hk with h | h
    · exact dST k h hT
    · rcases f3 k hT with h' | h'
      · have := h7 k h'; omega
      · omega
  · intro k hk
    rcases f3 k hk with h | h
    · have := h7 k h; omega
    · omega

set_option maxRecDepth 20000 in
set_option maxHeartbeats 2000000 in
theorem un_err {Rep : World → List Nat → Value → St → Nat → Prop} (C : Code Rep) (w : World) (sb : Nat) (U : List Nat) (st : St) (wk : Nat) (h : Side Rep w sb U st wk) (hwk : wk ≤ 100000000000) (t : ByteArray) (he : st.unErr t.data.toList ≠ 0) (hG : Glob w) :
    Calls Tryz.prog 68 #[.pointer (some ⟨sb, 0, none⟩), .string t] w fun e w' => e = .returned (.bool true) ∧ Outside U w w' ∧ ∃ U' wk', Fresh w U U' ∧ Side Rep w' sb U' st wk' ∧ wk' ≤ wk + 100 := by
  have hlt := h.lt C
  obtain ⟨S, T, g, rb, steps, rfl, ok, hrow, hrep, href, h4, h5, h6, h7⟩ := h
  have e1 : t.data.toList.length = t.size := by simp
  have hsb : sb < w.heap.size := (Array.getElem?_eq_some_iff.1 hrow).1
  obtain ⟨hA, hAf⟩ := row_facts' hrow
  have HROW : Hid (w.heap[sb]? = some (.cells (CellsS g rb wk) 71 (0, 0))) := hrow
  have HREP : Hid (Rep w S g st wk) := hrep
  have HGL : Hid (Glob w) := hG
  have HREF : Hid (RefRep w T rb st steps) := href
  obtain ⟨E, hE⟩ : ∃ E, st.unErr t.data.toList = E := ⟨_, rfl⟩
  have HE : Hid (st.unErr t.data.toList = E ∧ E ≠ 0) := ⟨hE, hE ▸ he⟩
  have hne : (E == 0) = false := by have := HE.out.2; simpa using this
  obtain ⟨BD, hBD⟩ : ∃ BD : Nat, (if st.unPre t.data.toList = 0 then st.bound (unWho t.data.toList) (unGen t.data.toList) (t.data.toList.length - 7) else 0) = BD := ⟨_, rfl⟩
  have HBD : Hid ((if st.unPre t.data.toList = 0 then st.bound (unWho t.data.toList) (unGen t.data.toList) (t.data.toList.length - 7) else 0) = BD ∧ BD ≤ 100) := ⟨hBD, by
    rw [← hBD]
    split
    · exact bound_un (by assumption)
    · omega⟩
  have HSET : Hid ((∀ k, k ∈ sb :: (S ++ T) → k < w.heap.size) ∧ sb ∉ S ∧ sb ∉ T ∧ (∀ k, k ∈ S → k ∉ T) ∧ (∀ k, k ∈ T → k < w.heap.size)) := ⟨hlt, h4, h5, h6, h7⟩
  clear hrow hrep href hE he hlt h4 h5 h6 h7 hG hBD
  go_enter Tryz.func68, Tryz.ntmps68
  go_wp2_with (refine wpList_bytes rfl _ rfl t rfl ?_; intro cap1 w1 hcap1 b1 z1 B1; have hA1 : ∀ o, w1.cell? ⟨sb, o, none⟩ = (CellsS g rb wk)[o]? := fun o => (b1.cell (p := ⟨sb, o, none⟩) hsb).trans (hA o))
  obtain ⟨hlt, h4, h5, h6, h7⟩ := HSET.out
  have hrep1 : Rep w1 S g st wk := C.keep HREP.out b1.size (fun k a _ => b1.block k a)
  have hnS : ∀ b o, (some ⟨w.heap.size, 0, none⟩ : Option Addr) = some ⟨b, o, none⟩ → b ∉ S := fun b o e hb => by
    have := hlt b (List.mem_cons_of_mem _ (List.mem_append_left _ hb))
    cases e
    omega
  have hcall := C.unErr ok hrep1 (HGL.out.below b1) (some ⟨w.heap.size, 0, none⟩) t.data.toList cap1 (by omega) B1 hnS (by rw [HE.out.1]; exact HE.out.2)
  rw [HBD.out.1, e1, HE.out.1] at hcall
  refine hcall.mono ?_
  clear hcall
  rintro e w2 ⟨rfl, o2, S', wk', f2, hrep2, hk1, hk2⟩
  obtain ⟨wa, hwa⟩ : ∃ wa, w2.alloc (.cells #[.int .i64 0, .int .i64 0, .slice none 0 0] 41) = wa := ⟨_, rfl⟩
  have ba : Below w2.heap.size w2 wa := by rw [← hwa]; exact (Below.refl _ w2).alloc (Nat.le_refl _) _
  have ka : wa.heap[w2.heap.size]? = some (.cells #[.int .i64 0, .int .i64 0, .slice none 0 0] 41 (0, 0)) := by rw [← hwa]; exact (MapKept.heap_alloc _ _).1
  have oa : Outside S w1 wa := o2.below ba
  have hS'lt := C.lt hrep2
  have hrepa : Rep wa S' g st wk' := C.keep hrep2 ba.size (fun k a _ => ba.block k a)
  have hrowa : wa.heap[sb]? = some (.cells (CellsS g rb wk) 71 (0, 0)) := oa.row (by rw [b1.block _ hsb]; exact HROW.out) h4
  have hrefa : RefRep wa T rb st steps := (HREF.out.below b1).keep fun k a b => oa.block k a (fun h => h6 k h b)
  have Ba := B1.out oa hnS
  clear hA hAf hA1 B1
  obtain ⟨hA, hAf⟩ := row_facts' hrowa
  have HWA : Hid (w2.alloc (.cells #[.int .i64 0, .int .i64 0, .slice none 0 0] 41) = wa) := hwa
  have z12 := o2.size
  have za := ba.size
  have zaa : w2.heap.size < wa.heap.size := (Array.getElem?_eq_some_iff.1 ka).1
  have HOLD : Hid (Outside S w1 wa ∧ Fresh w1 S S' ∧ Rep wa S' g st wk' ∧ RefRep wa T rb st steps ∧ wa.heap[sb]? = some (.cells (CellsS g rb wk) 71 (0, 0)) ∧ (∀ k, k ∈ S' → k < w2.heap.size) ∧ wk ≤ wk' ∧ wk' ≤ wk + BD ∧ wa.heap[w2.heap.size]? = some (.cells #[.int .i64 0, .int .i64 0, .slice none 0 0] 41 (0, 0)) ∧ w.heap.size + 1 ≤ w2.heap.size) := ⟨oa, f2, hrepa, hrefa, hrowa, hS'lt, hk1, hk2, ka, by omega⟩
  have HB2 : Hid (Bts wa (some ⟨w.heap.size, 0, none⟩) t.data.toList ∧ Below w.heap.size w w1 ∧ w1.heap.size = w.heap.size + 1) := ⟨Ba, b1, z1⟩
  clear o2 oa f2 hrep2 hrepa hrefa hrowa hrep1 hlt h4 h5 h6 h7 hnS Ba b1 z1 hk1 hk2 ka ba hS'lt hwa z12 za zaa
  go_upto_region 3 with fail
  rw [HWA.out]
  go_wp2_with fail
  obtain ⟨o2, f2, hrep2, href2, hrow2, hS'lt, hk1, hk2, ka, hzz⟩ := HOLD.out
  obtain ⟨hlt, h4, h5, h6, h7⟩ := HSET.out
  obtain ⟨B2, b1, z1⟩ := HB2.out
  have hnT : ∀ b o, (some ⟨w.heap.size, 0, none⟩ : Option Addr) = some ⟨b, o, none⟩ → b ∉ T := fun b o e hb => by
    have := h7 b hb
    cases e
    omega
  have hrf := refUn_err wa T rb st steps ok href2 t (by rw [HE.out.1]; exact HE.out.2)
  rw [HBD.out.1, HE.out.1] at hrf
  refine hrf.mono ?_
  clear hrf
  rintro e w3 ⟨rfl, o3, href3⟩
  have hsb' : sb ∉ S' := fun h => by
    rcases f2 sb h with h | h
    · exact h4 h
    · omega
  have hdis : ∀ k, k ∈ S' → k ∉ T := fun k hk hkT => by
    rcases f2 k hk with h | h
    · exact h6 k h hkT
    · have := h7 k hkT; omega
  have hrep3 : Rep w3 S' g st wk' := C.keep hrep2 o3.size (fun k a b => o3.block k a (hdis k b))
  have hrow3 := o3.row hrow2 h5
  have k3 := o3.row ka (fun h => by have := h7 _ h; omega)
  have B3 := B2.out o3 hnT
  have hwkd := worked_any C w3 sb S' T g rb st wk wk' BD false ok hrow3 hrep3 href3 hsb' h5 hdis hk1 hk2 (by intro h; cases h) (by have := HBD.out.2; omega) (by have := HBD.out.2; omega)
  have HOLD2 : Hid (Outside T wa w3 ∧ RefRep w3 T rb st BD ∧ Rep w3 S' g st wk' ∧ Bts w3 (some ⟨w.heap.size, 0, none⟩) t.data.toList ∧ w3.heap[w2.heap.size]? = some (.cells #[.int .i64 0, .int .i64 0, .slice none 0 0] 41 (0, 0))) := ⟨o3, href3, hrep3, B3, k3⟩
  have HWK : Hid (Calls Tryz.prog 69 #[.pointer (some ⟨sb, 0, none⟩), .bool false] w3 fun e w' => e = .returned (.bool true) ∧ Outside (sb :: S') w3 w' ∧ w'.heap[sb]? = some (.cells (CellsS g rb wk') 71 (0, 0)) ∧ ∃ S'', Fresh w3 S' S'' ∧ Rep w' S'' g st wk') := hwkd
  clear o2 f2 hrep2 href2 hrow2 o3 href3 hrep3 hrow3 B3 B2 hwkd hS'lt hsb' hdis hA hAf hlt h4 h5 h6 h7 hnT b1 z1 k3 ka hk1 hk2 hzz
  go_wp2_with fail
  refine HWK.out.mono ?_
  rintro e w4 ⟨rfl, o4, hrow4, S'', f4, hrep4⟩
  obtain ⟨o2, f2, hrep2, href2, hrow2, hS'lt, hk1, hk2, ka, hzz⟩ := HOLD.out
  obtain ⟨o3, href3, hrep3, B3, k3⟩ := HOLD2.out
  obtain ⟨hlt, h4, h5, h6, h7⟩ := HSET.out
  obtain ⟨_, b1, z1⟩ := HB2.out
  have z12 := o2.size
  have z23 := o3.size
  have z34 := o4.size
  have hn4 : ∀ b o, (some ⟨w.heap.size, 0, none⟩ : Option Addr) = some ⟨b, o, none⟩ → b ∉ sb :: S' := fun b o e hb => by
    cases e
    rcases List.mem_cons.1 hb with h | h
    · omega
    · rcases f2 _ h with h | h
      · have := hlt _ (List.mem_cons_of_mem _ (List.mem_append_left _ h)); omega
      · omega
  have B4 := B3.out o4 hn4
  have k4 := o4.row k3 (fun h => by
    rcases List.mem_cons.1 h with h | h
    · omega
    · have := hS'lt _ h; omega)
  have c4 := (row_facts' k4).1
  have hct : (convert 34 9 (.slice (some ⟨w.heap.size, 0, none⟩) t.size cap1)).run Tryz.prog w4 = .ok (.string t) w4 := by
    have h := cv_of_bts cap1 B4 w4 (Below.refl _ _)
    rw [e1] at h
    exact h
  have hcb : (convert 34 9 (.slice none 0 0)).run Tryz.prog w4 = .ok (.string ⟨#[]⟩) w4 := cv_of_bts (w := w4) (a := none) (l := []) 0 (.inl rfl) w4 (Below.refl _ _)
  have HFIN : Hid (Outside (sb :: (S ++ T)) w w4 ∧ ∃ U', Fresh w (sb :: (S ++ T)) U' ∧ Side Rep w4 sb U' st wk') := by
    obtain ⟨x1, x2, x3⟩ := side_fin C ok hsb h4 h5 h6 h7 b1 o2 f2 o3 href3 o4 hrow4 f4 hrep4
    exact ⟨x1, _, x2, x3⟩
  have HK : Hid (wk' ≤ wk + 100) := by have := HBD.out.2; show _ ≤ _; omega
  have hEE : (E == E) = true := by simp
  clear o2 f2 hrep2 href2 hrow2 o3 href3 hrep3 B3 hS'lt o4 hrow4 f4 hrep4 B4 hn4 hlt h4 h5 h6 h7 b1 z1 k3 k4 ka hk1 hk2 hzz
  go_wp2_with fail
  refine wp_loop_rounds 1 ?_
  rw [rounds_succ]; go_wp2_with fail
  go_ret
  exact ⟨rfl, HFIN.out.1, HFIN.out.2.choose, wk', HFIN.out.2.choose_spec.1, HFIN.out.2.choose_spec.2, HK.out⟩
set_option maxRecDepth 20000 in
set_option maxHeartbeats 2000000 in
theorem un_ok {Rep : World → List Nat → Value → St → Nat → Prop} (C : Code Rep) (w : World) (sb : Nat) (U : List Nat) (st : St) (wk : Nat) (h : Side Rep w sb U st wk) (hwk : wk ≤ 100000000000) (t : ByteArray) (he : st.unErr t.data.toList = 0) (hG : Glob w) :
    Calls Tryz.prog 68 #[.pointer (some ⟨sb, 0, none⟩), .string t] w fun e w' => e = .returned (.bool true) ∧ Outside U w w' ∧ ∃ U' wk', Fresh w U U' ∧ Side Rep w' sb U' (st.unNext t.data.toList) wk' ∧ wk' ≤ wk + 100 := by
  have hlt := h.lt C
  obtain ⟨S, T, g, rb, steps, rfl, ok, hrow, hrep, href, h4, h5, h6, h7⟩ := h
  have e1 : t.data.toList.length = t.size := by simp
  have hsb : sb < w.heap.size := (Array.getElem?_eq_some_iff.1 hrow).1
  obtain ⟨hA, hAf⟩ := row_facts' hrow
  have HROW : Hid (w.heap[sb]? = some (.cells (CellsS g rb wk) 71 (0, 0))) := hrow
  have HREP : Hid (Rep w S g st wk) := hrep
  have HGL : Hid (Glob w) := hG
  have HREF : Hid (RefRep w T rb st steps) := href
  have hpz := unErr_zero he
  obtain ⟨_, hl7, _, hwn, _⟩ := unPre_zero hpz
  have okn := ok.unNext hwn
  obtain ⟨st2, hst2⟩ : ∃ st2, st.unNext t.data.toList = st2 := ⟨_, rfl⟩
  rw [hst2] at okn ⊢
  have HE : Hid (st.unErr t.data.toList = 0 ∧ st.unNext t.data.toList = st2) := ⟨he, hst2⟩
  obtain ⟨BD, hBD⟩ : ∃ BD : Nat, st.bound (unWho t.data.toList) (unGen t.data.toList) (t.data.toList.length - 7) = BD := ⟨_, rfl⟩
  have HBD : Hid (st.bound (unWho t.data.toList) (unGen t.data.toList) (t.data.toList.length - 7) = BD ∧ BD ≤ 100) := ⟨hBD, by rw [← hBD]; exact bound_un hpz⟩
  obtain ⟨TT, hTT⟩ : ∃ TT, st.unText t.data.toList = TT := ⟨_, rfl⟩
  obtain ⟨TN, hTN⟩ : ∃ TN, t.data.toList.length - 7 = TN := ⟨_, rfl⟩
  obtain ⟨X, hX⟩ : ∃ X : Int, (unWho t.data.toList : Int) = X := ⟨_, rfl⟩
  obtain ⟨G, hGe⟩ : ∃ G : Int, (unGen t.data.toList : Int) = G := ⟨_, rfl⟩
  have HTT : Hid (st.unText t.data.toList = TT ∧ t.data.toList.length - 7 = TN ∧ (unWho t.data.toList : Int) = X ∧ (unGen t.data.toList : Int) = G ∧ TT.length = TN) := ⟨hTT, hTN, hX, hGe, by rw [← hTT, ← hTN]; unfold St.unText OpenT; rw [MixT_length, List.length_take, List.length_drop]; omega⟩
  have HSET : Hid ((∀ k, k ∈ sb :: (S ++ T) → k < w.heap.size) ∧ sb ∉ S ∧ sb ∉ T ∧ (∀ k, k ∈ S → k ∉ T) ∧ (∀ k, k ∈ T → k < w.heap.size)) := ⟨hlt, h4, h5, h6, h7⟩
  clear hrow hrep href he hlt h4 h5 h6 h7 hG hBD hpz hl7 hwn hst2 hTT hTN hX hGe
  go_enter Tryz.func68, Tryz.ntmps68
  go_wp2_with (refine wpList_bytes rfl _ rfl t rfl ?_; intro cap1 w1 hcap1 b1 z1 B1; have hA1 : ∀ o, w1.cell? ⟨sb, o, none⟩ = (CellsS g rb wk)[o]? := fun o => (b1.cell (p := ⟨sb, o, none⟩) hsb).trans (hA o))
  obtain ⟨hlt, h4, h5, h6, h7⟩ := HSET.out
  have hrep1 : Rep w1 S g st wk := C.keep HREP.out b1.size (fun k a _ => b1.block k a)
  have hnS : ∀ b o, (some ⟨w.heap.size, 0, none⟩ : Option Addr) = some ⟨b, o, none⟩ → b ∉ S := fun b o e hb => by
    have := hlt b (List.mem_cons_of_mem _ (List.mem_append_left _ hb))
    cases e
    omega
  have hcall := C.un ok hrep1 (HGL.out.below b1) (some ⟨w.heap.size, 0, none⟩) t.data.toList cap1 (by omega) B1 hnS HE.out.1
  rw [HBD.out.1, HE.out.2, HTT.out.1, HTT.out.2.1, HTT.out.2.2.1, HTT.out.2.2.2.1, e1] at hcall
  refine hcall.mono ?_
  clear hcall
  rintro e w2 ⟨o2, S', wk', f, o, cap, f2, hrep2, hk1, hk2, rfl, hf1, hf2, hf3, hcap, BF2, FF2⟩
  obtain ⟨wa, hwa⟩ : ∃ wa, w2.alloc (.cells #[.int .i64 X, .int .i64 G, .slice (some ⟨f, o, none⟩) TN cap] 41) = wa := ⟨_, rfl⟩
  have ba : Below w2.heap.size w2 wa := by rw [← hwa]; exact (Below.refl _ w2).alloc (Nat.le_refl _) _
  have ka : wa.heap[w2.heap.size]? = some (.cells #[.int .i64 X, .int .i64 G, .slice (some ⟨f, o, none⟩) TN cap] 41 (0, 0)) := by rw [← hwa]; exact (MapKept.heap_alloc _ _).1
  have oa : Outside S w1 wa := o2.below ba
  have hS'lt := C.lt hrep2
  have hrepa : Rep wa S' g st2 wk' := C.keep hrep2 ba.size (fun k a _ => ba.block k a)
  have hrowa : wa.heap[sb]? = some (.cells (CellsS g rb wk) 71 (0, 0)) := oa.row (by rw [b1.block _ hsb]; exact HROW.out) h4
  have hrefa : RefRep wa T rb st steps := (HREF.out.below b1).keep fun k a b => oa.block k a (fun h => h6 k h b)
  have Ba := B1.out oa hnS
  clear hA hAf hA1 B1
  obtain ⟨hA, hAf⟩ := row_facts' hrowa
  have HWA : Hid (w2.alloc (.cells #[.int .i64 X, .int .i64 G, .slice (some ⟨f, o, none⟩) TN cap] 41) = wa) := hwa
  have z12 := o2.size
  have za := ba.size
  have zaa : w2.heap.size < wa.heap.size := (Array.getElem?_eq_some_iff.1 ka).1
  have HOLD : Hid (Outside S w1 wa ∧ Fresh w1 S S' ∧ Rep wa S' g st2 wk' ∧ RefRep wa T rb st steps ∧ wa.heap[sb]? = some (.cells (CellsS g rb wk) 71 (0, 0)) ∧ (∀ k, k ∈ S' → k < w2.heap.size) ∧ wk < wk' ∧ wk' ≤ wk + BD ∧ wa.heap[w2.heap.size]? = some (.cells #[.int .i64 X, .int .i64 G, .slice (some ⟨f, o, none⟩) TN cap] 41 (0, 0)) ∧ w.heap.size + 1 ≤ w2.heap.size) := ⟨oa, f2, hrepa, hrefa, hrowa, hS'lt, hk1, hk2, ka, by omega⟩
  have HFF : Hid (f < w2.heap.size ∧ f ∉ S' ∧ w1.heap.size ≤ f ∧ Bts wa (some ⟨f, o, none⟩) TT ∧ (∀ i, i < TN → wa.frozen? ⟨f, o + i, none⟩ = false)) := ⟨hf2, hf3, hf1, BF2.below ba, fun i hi => by rw [← FF2 i hi]; exact World.frozen?_of_block (w := w2) (ba.block f hf2)⟩
  have hcapI : (TN : Int) ≤ (cap : Int) := by omega
  have HB2 : Hid (Bts wa (some ⟨w.heap.size, 0, none⟩) t.data.toList ∧ Below w.heap.size w w1 ∧ w1.heap.size = w.heap.size + 1) := ⟨Ba, b1, z1⟩
  clear o2 oa f2 hrep2 hrepa hrefa hrowa hrep1 hlt h4 h5 h6 h7 hnS Ba b1 z1 hk1 hk2 ka ba hS'lt hwa z12 za zaa hf1 hf2 hf3 hcap BF2 FF2
  go_upto_region 3 with fail
  rw [HWA.out]
  go_wp2_with fail
  obtain ⟨o2, f2, hrep2, href2, hrow2, hS'lt, hk1, hk2, ka, hzz⟩ := HOLD.out
  obtain ⟨hlt, h4, h5, h6, h7⟩ := HSET.out
  obtain ⟨B2, b1, z1⟩ := HB2.out
  have hnT : ∀ b o, (some ⟨w.heap.size, 0, none⟩ : Option Addr) = some ⟨b, o, none⟩ → b ∉ T := fun b o e hb => by
    have := h7 b hb
    cases e
    omega
  have hrf := refUn_ok wa T rb st steps ok href2 t HE.out.1
  rw [HBD.out.1, HE.out.2, HTT.out.1, HTT.out.2.2.1, HTT.out.2.2.2.1] at hrf
  refine hrf.mono ?_
  clear hrf
  rintro e w3 ⟨rfl, o3, T', f3, href3⟩
  have hsb' : sb ∉ S' := fun h => by
    rcases f2 sb h with h | h
    · exact h4 h
    · omega
  have hdis : ∀ k, k ∈ S' → k ∉ T := fun k hk hkT => by
    rcases f2 k hk with h | h
    · exact h6 k h hkT
    · have := h7 k hkT; omega
  have zwa : w2.heap.size < wa.heap.size := (Array.getElem?_eq_some_iff.1 ka).1
  have hdis' : ∀ k, k ∈ S' → k ∉ T' := fun k hk hkT => by
    rcases f3 k hkT with h | h
    · exact hdis k hk h
    · have := hS'lt k hk; omega
  have h5' : sb ∉ T' := fun hm => by
    rcases f3 sb hm with h | h
    · exact h5 h
    · omega
  have hrep3 : Rep w3 S' g st2 wk' := C.keep hrep2 o3.size (fun k a b => o3.block k a (hdis k b))
  have hrow3 := o3.row hrow2 h5
  have k3 := o3.row ka (fun h => by have := h7 _ h; omega)
  have B3 := B2.out o3 hnT
  have hwkd := worked_any C w3 sb S' T' g rb st2 wk wk' BD true okn hrow3 hrep3 href3 hsb' h5' hdis' (Nat.le_of_lt hk1) hk2 (fun _ => hk1) (by have := HBD.out.2; omega) (by have := HBD.out.2; omega)
  have HOLD2 : Hid (Outside T wa w3 ∧ RefRep w3 T' rb st2 BD ∧ Rep w3 S' g st2 wk' ∧ Bts w3 (some ⟨w.heap.size, 0, none⟩) t.data.toList ∧ w3.heap[w2.heap.size]? = some (.cells #[.int .i64 X, .int .i64 G, .slice (some ⟨f, o, none⟩) TN cap] 41 (0, 0)) ∧ ∀ k, k ∈ T' → k ∈ T ∨ wa.heap.size ≤ k ∧ k < w3.heap.size) := ⟨o3, href3, hrep3, B3, k3, f3⟩
  have HWK : Hid (Calls Tryz.prog 69 #[.pointer (some ⟨sb, 0, none⟩), .bool true] w3 fun e w' => e = .returned (.bool true) ∧ Outside (sb :: S') w3 w' ∧ w'.heap[sb]? = some (.cells (CellsS g rb wk') 71 (0, 0)) ∧ ∃ S'', Fresh w3 S' S'' ∧ Rep w' S'' g st2 wk') := hwkd
  clear o2 f2 hrep2 href2 hrow2 o3 href3 hrep3 hrow3 B3 B2 hwkd hS'lt hsb' hdis hA hAf hlt h4 h5 h6 h7 hnT b1 z1 k3 ka hk1 hk2 hzz f3 hdis' h5' zwa
  go_wp2_with fail
  refine HWK.out.mono ?_
  rintro e w4 ⟨rfl, o4, hrow4, S'', f4, hrep4⟩
  obtain ⟨o2, f2, hrep2, href2, hrow2, hS'lt, hk1, hk2, ka, hzz⟩ := HOLD.out
  obtain ⟨o3, href3, hrep3, B3, k3, f3⟩ := HOLD2.out
  obtain ⟨hlt, h4, h5, h6, h7⟩ := HSET.out
  obtain ⟨_, b1, z1⟩ := HB2.out
  have z12 := o2.size
  have z23 := o3.size
  have z34 := o4.size
  have hn4 : ∀ b o, (some ⟨w.heap.size, 0, none⟩ : Option Addr) = some ⟨b, o, none⟩ → b ∉ sb :: S' := fun b o e hb => by
    cases e
    rcases List.mem_cons.1 hb with h | h
    · omega
    · rcases f2 _ h with h | h
      · have := hlt _ (List.mem_cons_of_mem _ (List.mem_append_left _ h)); omega
      · omega
  have B4 := B3.out o4 hn4
  have k4 := o4.row k3 (fun h => by
    rcases List.mem_cons.1 h with h | h
    · omega
    · have := hS'lt _ h; omega)
  have c4 := (row_facts' k4).1
  have hct : (convert 34 9 (.slice (some ⟨w.heap.size, 0, none⟩) t.size cap1)).run Tryz.prog w4 = .ok (.string t) w4 := by
    have h := cv_of_bts cap1 B4 w4 (Below.refl _ _)
    rw [e1] at h
    exact h
  have zwa : w2.heap.size < wa.heap.size := (Array.getElem?_eq_some_iff.1 ka).1
  obtain ⟨ff1, ff2, ff3, ff4, ff5⟩ := HFF.out
  have hfT : f ∉ T := fun h => by have := h7 f h; omega
  have hfT' : f ∉ T' := fun h => by
    rcases f3 f h with h | h
    · exact hfT h
    · omega
  have hfsb : f ≠ sb := by omega
  have hf4 : f ∉ sb :: S' := fun h => by
    rcases List.mem_cons.1 h with h | h
    · exact hfsb h
    · exact ff2 h
  have BF3 := ff4.out o3 (fun b o e => by cases e; exact hfT)
  have BF4 := BF3.out o4 (fun b o e => by cases e; exact hf4)
  have hblk : w4.heap[f]? = wa.heap[f]? := by rw [o4.block f (by omega) hf4, o3.block f (by omega) hfT]
  have hfz : ∀ i, i < TN → w4.frozen? ⟨f, o + i, none⟩ = false := fun i hi => by
    rw [← ff5 i hi]
    exact World.frozen?_of_block (w := wa) hblk
  have hfS2 : f ∉ sb :: (S'' ++ T') := fun h => by
    rcases List.mem_cons.1 h with h | h
    · exact hfsb h
    · rcases List.mem_append.1 h with h | h
      · rcases f4 f h with h | h
        · exact ff2 h
        · omega
      · exact hfT' h
  have hcb : (convert 34 9 (.slice (some ⟨f, o, none⟩) TN cap)).run Tryz.prog w4 = .ok (.string ⟨TT.toArray⟩) w4 := by
    have h := cv_of_bts cap BF4 w4 (Below.refl _ _)
    rw [HTT.out.2.2.2.2] at h
    exact h
  have hcells : ∀ i, i < TN → ∃ x : Int, 0 ≤ x ∧ x < 256 ∧ w4.cell? ⟨f, o + i, none⟩ = some (.int .u8 x) := fun i hi => by
    rcases BF4 with h | ⟨b, o', e, hc⟩
    · have := HTT.out.2.2.2.2; rw [h] at this; simp at this; omega
    · cases e
      exact ⟨_, (byte_bd _).1, (byte_bd _).2, hc i (by rw [HTT.out.2.2.2.2]; exact hi)⟩
  have HFIN : Hid (Outside (sb :: (S ++ T)) w w4 ∧ Fresh w (sb :: (S ++ T)) (sb :: (S'' ++ T')) ∧ Side Rep w4 sb (sb :: (S'' ++ T')) st2 wk' ∧ f ∉ sb :: (S'' ++ T') ∧ w.heap.size ≤ f ∧ wk' ≤ wk + 100 ∧ f ≠ w2.heap.size ∧ w2.heap.size < w4.heap.size) := by
    obtain ⟨x1, x2, x3⟩ := side_fin2 C okn hsb h4 h5 h6 h7 b1 o2 f2 (fun k hk => by have := hS'lt k hk; omega) o3 f3 href3 o4 hrow4 f4 hrep4
    have := HBD.out.2
    exact ⟨x1, x2, x3, hfS2, by omega, by omega, by omega, by omega⟩
  have HC : Hid ((∀ i, i < TN → w4.frozen? ⟨f, o + i, none⟩ = false) ∧ (∀ i, i < TN → ∃ x : Int, 0 ≤ x ∧ x < 256 ∧ w4.cell? ⟨f, o + i, none⟩ = some (.int .u8 x)) ∧ w4.heap[w2.heap.size]? = some (.cells #[.int .i64 X, .int .i64 G, .slice (some ⟨f, o, none⟩) TN cap] 41 (0, 0))) := ⟨hfz, hcells, k4⟩
  have hXX : (X == X) = true := by simp
  have hGG : (G == G) = true := by simp
  have htn : (TN : Int) ≤ 1000000 := by have := HTT.out.2.1; have := HE.out.1; have := unPre_zero (unErr_zero HE.out.1); omega
  clear o2 f2 hrep2 href2 hrow2 o3 href3 hrep3 B3 hS'lt o4 hrow4 f4 hrep4 B4 hn4 hlt h4 h5 h6 h7 b1 z1 k3 k4 ka hk1 hk2 hzz ff1 ff2 ff3 ff4 ff5 hfT hfT' hfsb hf4 BF3 BF4 hblk hfz hfS2 hcells f3 zwa HWK HOLD HOLD2 HSET HB2 HFF
  go_wp2_with fail
  clear hct hcb c4
  go_loopg [14] TN (fun k i wr => ∃ j : Nat, i = .int .i64 j ∧ j + k = TN ∧ Hid (Outside [f] w4 wr ∧ (∀ i, i < TN → wr.frozen? ⟨f, o + i, none⟩ = false) ∧ (∀ i, i < TN → ∃ x : Int, 0 ≤ x ∧ x < 256 ∧ wr.cell? ⟨f, o + i, none⟩ = some (.int .u8 x))))
  case atStart => exact ⟨0, rfl, by omega, Outside.refl _ _, HC.out.1, HC.out.2.1⟩
  case round =>
    obtain ⟨j, rfl, hjk, HJ⟩ := hrel
    have c4 := (row_facts' (HJ.out.1.row HC.out.2.2 (by have := HFIN.out.2.2.2.2.2.2.1; simp; exact fun e => this e.symm))).1
    by_cases hlt : j < TN
    · obtain ⟨x, hx0, hx1, hx⟩ := HJ.out.2.2 j hlt
      have hz := HJ.out.2.1 j hlt
      have hltI : (j : Int) < (TN : Int) := by omega
      go_upto_region 9 with fail
      go_region
      all_goals
        go_wp2_with fail
        obtain ⟨hout, hfz, hcl⟩ := HJ.out
        go_roundg (gk - 1)
        case measure => omega
        case rel =>
          refine ⟨j + 1, by go_num, by omega, (hout.setCell ⟨f, o + j, none⟩ (fun _ => List.mem_cons_self) _).below (Below.refl _ _).drew, fun i hi => ?_, fun i hi => ?_⟩
          · show (wr.setCell ⟨f, o + j, none⟩ _).frozen? ⟨f, o + i, none⟩ = false
            rw [World.frozen?_setCell]; exact hfz i hi
          · show ∃ y : Int, 0 ≤ y ∧ y < 256 ∧ (wr.setCell ⟨f, o + j, none⟩ (.int .u8 ((x + 1) % 256))).cell? ⟨f, o + i, none⟩ = some (.int .u8 y)
            by_cases hij : i = j
            · subst hij
              exact ⟨(x + 1) % 256, by omega, by omega, World.cell?_setCell_same _ _ _ hx⟩
            · obtain ⟨y, hy0, hy1, hy⟩ := hcl i hi
              refine ⟨y, hy0, hy1, ?_⟩
              rw [World.cell?_setCell_other _ _ _ _ (fun e => hij (by have := congrArg Addr.off e; simp at this; omega))]
              exact hy
    · have hjl : j = TN := by omega
      go_wp2_with fail
      go_ret
      obtain ⟨x1, x2, x3, x4, x5, x6, _⟩ := HFIN.out
      have hout := HJ.out.1
      refine ⟨rfl, x1.trans hout (fun i hi hl => ?_), _, _, x2, x3.keep C hout.size (fun k a b => hout.block k a (fun h => ?_)), x6⟩
      · simp at hi; omega
      · simp at h; exact x4 (h ▸ b)
theorem unprotect_any {Rep : World → List Nat → Value → St → Nat → Prop} (C : Code Rep) (w : World) (sb : Nat) (U : List Nat) (st : St) (wk : Nat) (h : Side Rep w sb U st wk) (hwk : wk ≤ 100000000000) (t : ByteArray) (hG : Glob w) :
    Calls Tryz.prog 68 #[.pointer (some ⟨sb, 0, none⟩), .string t] w fun e w' => e = .returned (.bool true) ∧ Outside U w w' ∧ ∃ U' wk' st', Fresh w U U' ∧ Side Rep w' sb U' st' wk' ∧ wk' ≤ wk + 100 := by
  by_cases he : st.unErr t.data.toList = 0
  · exact (un_ok C w sb U st wk h hwk t he hG).mono fun e w' ⟨h1, h2, U', wk', h3, h4, h5⟩ => ⟨h1, h2, U', wk', _, h3, h4, h5⟩
  · exact (un_err C w sb U st wk h hwk t he hG).mono fun e w' ⟨h1, h2, U', wk', h3, h4, h5⟩ => ⟨h1, h2, U', wk', _, h3, h4, h5⟩
end Go.Proofs.YtkpebabbnndopaaGreatDoor

/- The law's (*World).step: what is opened, forged, bent; the look at what is kept. -/
namespace Go.Proofs.YtkpebabbnndopaaGreatDoor
open Go.RowKit
set_option linter.unusedVariables false

set_option maxRecDepth 20000 in
set_option maxHeartbeats 2000000 in
theorem step_forge {Rep : World → List Nat → Value → St → Nat → Prop} (C : Code Rep) (w : World) (base wb : Nat) (lv bv : Value) (bag : List ByteArray) (l : List SideD) (bnd : Nat) (h : WorldAt Rep w base wb lv bv bag l bnd) (hn : 1 ≤ l.length) (hn16 : l.length ≤ 16)
    (a b : Int) (s : ByteArray) (hs : s.size ≤ 65536) (hbnd : bnd ≤ 10000000000) (ha1 : -9223372036854775808 ≤ a) (ha2 : a ≤ 9223372036854775807) (hG : Glob w) :
    Calls Tryz.prog 28 #[.pointer (some ⟨wb, 0, none⟩), .agg (OpV 3 a b s)] w fun e w' => e = .returned (.bool true) ∧ Stepped Rep w base wb lv l.length (bnd + 100) w' := by
  obtain ⟨lb, cap, rfl, hcap, hlb, hcell⟩ := worldAt_ptr h hn
  have HP : Hid (∀ W, Calls Tryz.prog 65 #[.int .i64 a, .int .i64 l.length] W fun e w' => e = .returned (.int .i64 (PickI a l.length)) ∧ w' = W) := fun W => pick_any a ha1 ha2 l.length hn (by omega) W
  have HW : Hid (WorldAt Rep w base wb (.slice (some ⟨lb, 0, none⟩) l.length cap) bv bag l bnd) := h
  have hwb : wb < w.heap.size := (Array.getElem?_eq_some_iff.1 h.row).1
  have hA := (row_facts' h.row).1
  have hpi := PickI_lt a l.length hn
  have hci := hcell _ hpi
  obtain ⟨i, hi⟩ : ∃ i, PickI a l.length = i := ⟨_, rfl⟩
  rw [hi] at HP hpi
  have hci2 : w.cell? ⟨lb, i, none⟩ = some (.pointer (some ⟨(l[i]'hpi).sb, 0, none⟩)) := hcell i hpi
  obtain ⟨sd, hsd⟩ : ∃ sd, (l[i]'hpi).sb = sd := ⟨_, rfl⟩
  rw [hsd] at hci2
  have HSD : Hid ((l[i]'hpi).sb = sd) := hsd
  have HGL : Hid (Glob w) := hG
  clear h hcell hci hi hsd hG
  go_enter Tryz.func28, Tryz.ntmps28
  go_upto_region 1 with fail
  go_cut [5] (fun s5 wy => s5 = .pointer (some ⟨sd, 0, none⟩) ∧ Below (w.alloc (.cells (OpV 3 a b s) 73)).heap.size (w.alloc (.cells (OpV 3 a b s) 73)) wy)
  case first =>
    have hS := pickS w wb lb i (.slice (some ⟨lb, 0, none⟩) l.length cap) bv sd 3 a b s hA hci2 hwb hlb
    go_region_held3 (fun W => PickS w wb lb i (.slice (some ⟨lb, 0, none⟩) l.length cap) bv sd 3 a b s W) ((first | assumption | exact hS)) ((go_at_call 65; refine (HP.out _).mono ?_; rintro e w' ⟨rfl, rfl⟩))
    all_goals
      go_wp2_with fail
      go_meet
      exact ⟨rfl, (Below.refl _ _).drew⟩
  case rest =>
    obtain ⟨rfl, hb⟩ := hcut
    have hk3 : wc.heap[w.heap.size]? = some (.cells (OpV 3 a b s) 73 (0, 0)) := by rw [hb.block _ (by simp), (MapKept.heap_alloc _ _).1]
    have hK := (row_facts' hk3).1
    have hbw : Below w.heap.size w wc := ((Below.refl _ w).alloc (Nat.le_refl _) _).trans (hb.mono (by simp))
    have HBW : Hid (Below w.heap.size w wc) := hbw
    clear hbw hk3 hb HP hci2 hA
    have HWc : Hid (WorldAt Rep wc base wb (.slice (some ⟨lb, 0, none⟩) l.length cap) bv bag l bnd) := HW.out.below C HBW.out
    obtain ⟨t1, t2, t3, t4, t5, t6⟩ := HWc.out.side _ (List.getElem_mem hpi)
    have hsz := HW.out.base_le
    have hszc := HBW.out.size
    have hbvs : ∃ p capb, bv = .slice p bag.length capb := by
      rcases HW.out.ownb.2 with ⟨e1, e2⟩ | ⟨g, capb, cur, e1, _⟩
      · exact ⟨none, 0, by rw [e1, e2]⟩
      · exact ⟨_, capb, e1⟩
    obtain ⟨p, capb, rfl⟩ := hbvs
    have hwbc : wb < wc.heap.size := by omega
    have hcall := unprotect_any C wc (l[i]'hpi).sb (l[i]'hpi).U (l[i]'hpi).st (l[i]'hpi).wk t1 (by omega) s (HGL.out.below HBW.out)
    rw [HSD.out] at hcall
    have HCALL : Hid (Calls Tryz.prog 68 #[.pointer (some ⟨sd, 0, none⟩), .string s] wc fun e w' => e = .returned (.bool true) ∧ Outside (l[i]'hpi).U wc w' ∧ ∃ U' wk' st', Fresh wc (l[i]'hpi).U U' ∧ Side Rep w' sd U' st' wk' ∧ wk' ≤ (l[i]'hpi).wk + 100) := hcall
    clear hcall t1 t2 t3 t5 t6
    go_wp2_with fail
    refine HCALL.out.mono ?_
    rintro e w2 ⟨rfl, o2, U', wk', st', f2, s2, hw2⟩
    have HW2 : Hid (WorldAt Rep w2 base wb (.slice (some ⟨lb, 0, none⟩) l.length cap) (.slice p bag.length capb) bag (l.set i ⟨(l[i]'hpi).sb, U', st', wk'⟩) (bnd + 100)) := by
      have hs2 : Side Rep w2 (l[i]'hpi).sb U' st' wk' := by rw [HSD.out]; exact s2
      have hwk := (HWc.out.side _ (List.getElem_mem hpi)).2.2.1
      exact HWc.out.step C i hpi U' st' wk' (bnd + 100) o2 f2 hs2 (by omega) (by omega)
    have HB2 : Hid (Below base w w2) := (HBW.out.mono hsz).trans (o2.toBelow base (by omega) (HWc.out.side _ (List.getElem_mem hpi)).2.1)
    clear o2 f2 s2 hK t4
    go_wp2_with fail
    go_ret
    exact ⟨rfl, HB2.out, _, bag, _, List.length_set, HW2.out⟩
set_option maxRecDepth 20000 in
set_option maxHeartbeats 2000000 in
theorem step_dump {Rep : World → List Nat → Value → St → Nat → Prop} (C : Code Rep) (w : World) (base wb : Nat) (lv bv : Value) (bag : List ByteArray) (l : List SideD) (bnd : Nat) (h : WorldAt Rep w base wb lv bv bag l bnd) (hn : 1 ≤ l.length) (hn16 : l.length ≤ 16)
    (a b : Int) (s : ByteArray) (hs : s.size ≤ 65536) (hbnd : bnd ≤ 10000000000) (ha1 : -9223372036854775808 ≤ a) (ha2 : a ≤ 9223372036854775807) (hG : Glob w) :
    Calls Tryz.prog 28 #[.pointer (some ⟨wb, 0, none⟩), .agg (OpV 5 a b s)] w fun e w' => e = .returned (.bool true) ∧ Stepped Rep w base wb lv l.length (bnd + 100) w' := by
  obtain ⟨lb, cap, rfl, hcap, hlb, hcell⟩ := worldAt_ptr h hn
  have HP : Hid (∀ W, Calls Tryz.prog 65 #[.int .i64 a, .int .i64 l.length] W fun e w' => e = .returned (.int .i64 (PickI a l.length)) ∧ w' = W) := fun W => pick_any a ha1 ha2 l.length hn (by omega) W
  have HW : Hid (WorldAt Rep w base wb (.slice (some ⟨lb, 0, none⟩) l.length cap) bv bag l bnd) := h
  have hwb : wb < w.heap.size := (Array.getElem?_eq_some_iff.1 h.row).1
  have hA := (row_facts' h.row).1
  have hpi := PickI_lt a l.length hn
  have hci := hcell _ hpi
  obtain ⟨i, hi⟩ : ∃ i, PickI a l.length = i := ⟨_, rfl⟩
  rw [hi] at HP hpi
  have hci2 : w.cell? ⟨lb, i, none⟩ = some (.pointer (some ⟨(l[i]'hpi).sb, 0, none⟩)) := hcell i hpi
  obtain ⟨sd, hsd⟩ : ∃ sd, (l[i]'hpi).sb = sd := ⟨_, rfl⟩
  rw [hsd] at hci2
  have HSD : Hid ((l[i]'hpi).sb = sd) := hsd
  have HGL : Hid (Glob w) := hG
  clear h hcell hci hi hsd hG
  go_enter Tryz.func28, Tryz.ntmps28
  go_upto_region 1 with fail
  go_cut [5] (fun s5 wy => s5 = .pointer (some ⟨sd, 0, none⟩) ∧ Below (w.alloc (.cells (OpV 5 a b s) 73)).heap.size (w.alloc (.cells (OpV 5 a b s) 73)) wy)
  case first =>
    have hS := pickS w wb lb i (.slice (some ⟨lb, 0, none⟩) l.length cap) bv sd 5 a b s hA hci2 hwb hlb
    go_region_held3 (fun W => PickS w wb lb i (.slice (some ⟨lb, 0, none⟩) l.length cap) bv sd 5 a b s W) ((first | assumption | exact hS)) ((go_at_call 65; refine (HP.out _).mono ?_; rintro e w' ⟨rfl, rfl⟩))
    all_goals
      go_wp2_with fail
      go_meet
      exact ⟨rfl, (Below.refl _ _).drew⟩
  case rest =>
    obtain ⟨rfl, hb⟩ := hcut
    have hk3 : wc.heap[w.heap.size]? = some (.cells (OpV 5 a b s) 73 (0, 0)) := by rw [hb.block _ (by simp), (MapKept.heap_alloc _ _).1]
    have hK := (row_facts' hk3).1
    have hbw : Below w.heap.size w wc := ((Below.refl _ w).alloc (Nat.le_refl _) _).trans (hb.mono (by simp))
    have HBW : Hid (Below w.heap.size w wc) := hbw
    clear hbw hk3 hb HP hci2 hA
    have HWc : Hid (WorldAt Rep wc base wb (.slice (some ⟨lb, 0, none⟩) l.length cap) bv bag l bnd) := HW.out.below C HBW.out
    obtain ⟨t1, t2, t3, t4, t5, t6⟩ := HWc.out.side _ (List.getElem_mem hpi)
    have hsz := HW.out.base_le
    have hszc := HBW.out.size
    have hbvs : ∃ p capb, bv = .slice p bag.length capb := by
      rcases HW.out.ownb.2 with ⟨e1, e2⟩ | ⟨g, capb, cur, e1, _⟩
      · exact ⟨none, 0, by rw [e1, e2]⟩
      · exact ⟨_, capb, e1⟩
    obtain ⟨p, capb, rfl⟩ := hbvs
    have hwbc : wb < wc.heap.size := by omega
    have hcall := dump_any C wc (l[i]'hpi).sb (l[i]'hpi).U (l[i]'hpi).st (l[i]'hpi).wk t1
    rw [HSD.out] at hcall
    have HCALL : Hid (Calls Tryz.prog 29 #[.pointer (some ⟨sd, 0, none⟩)] wc fun e w' => e = .returned (.bool true) ∧ Outside (l[i]'hpi).U wc w' ∧ ∃ U', Fresh wc (l[i]'hpi).U U' ∧ Side Rep w' sd U' (l[i]'hpi).st (l[i]'hpi).wk) := hcall
    clear hcall t1 t2 t3 t5 t6
    go_wp2_with fail
    refine HCALL.out.mono ?_
    rintro e w2 ⟨rfl, o2, U', f2, s2⟩
    have HW2 : Hid (WorldAt Rep w2 base wb (.slice (some ⟨lb, 0, none⟩) l.length cap) (.slice p bag.length capb) bag (l.set i ⟨(l[i]'hpi).sb, U', (l[i]'hpi).st, (l[i]'hpi).wk⟩) (bnd + 100)) := by
      have hs2 : Side Rep w2 (l[i]'hpi).sb U' (l[i]'hpi).st (l[i]'hpi).wk := by rw [HSD.out]; exact s2
      have hwk := (HWc.out.side _ (List.getElem_mem hpi)).2.2.1
      exact HWc.out.step C i hpi U' (l[i]'hpi).st (l[i]'hpi).wk (bnd + 100) o2 f2 hs2 (by omega) (by omega)
    have HB2 : Hid (Below base w w2) := (HBW.out.mono hsz).trans (o2.toBelow base (by omega) (HWc.out.side _ (List.getElem_mem hpi)).2.1)
    clear o2 f2 s2 hK t4
    go_wp2_with fail
    go_ret
    exact ⟨rfl, HB2.out, _, bag, _, List.length_set, HW2.out⟩
theorem worldAt_bag {Rep : World → List Nat → Value → St → Nat → Prop} {w : World} {base wb : Nat} {lv bv : Value} {bag : List ByteArray} {l : List SideD} {bnd : Nat} (h : WorldAt Rep w base wb lv bv bag l bnd) (hn : 1 ≤ bag.length) :
    ∃ bb cap, bv = .slice (some ⟨bb, 0, none⟩) bag.length cap ∧ bag.length ≤ cap ∧ bb < w.heap.size ∧ ∀ i (hi : i < bag.length), w.cell? ⟨bb, i, none⟩ = some (.string bag[i]) := by
  rcases h.ownb.2 with ⟨_, e⟩ | ⟨g, cap, cur, e1, e2, e3, e4, _⟩
  · omega
  · refine ⟨g, cap, e1, e4, (Array.getElem?_eq_some_iff.1 e3).1, fun i hi => ?_⟩
    have h1 : w.ownsRow base 9 1 (.slice (some ⟨g, 0, none⟩) bag.length cap) bag.length (bag.map Value.string) := by rw [← e1]; exact h.ownb
    rw [World.ownsRow.cellAt h1 i (by omega), List.getElem?_map, List.getElem?_eq_getElem hi]
    rfl
abbrev PickB (wb ob bb q : Nat) (lv bv : Value) (FB : ByteArray) (kind a b : Int) (s : ByteArray) (W : World) : Prop := (∀ o, W.cell? ⟨wb, o, none⟩ = #[lv, bv][o]?) ∧ (∀ o, W.cell? ⟨ob, o, none⟩ = (OpV kind a b s)[o]?) ∧ W.cell? ⟨bb, q, none⟩ = some (.string FB)

set_option maxRecDepth 20000 in
set_option maxHeartbeats 2000000 in
theorem step_open {Rep : World → List Nat → Value → St → Nat → Prop} (C : Code Rep) (w : World) (base wb : Nat) (lv bv : Value) (bag : List ByteArray) (l : List SideD) (bnd : Nat) (h : WorldAt Rep w base wb lv bv bag l bnd) (hn : 1 ≤ l.length) (hn16 : l.length ≤ 16)
    (a b : Int) (s : ByteArray) (hs : s.size ≤ 65536) (hbnd : bnd ≤ 10000000000) (ha1 : -9223372036854775808 ≤ a) (ha2 : a ≤ 9223372036854775807) (hb1 : -9223372036854775808 ≤ b) (hb2 : b ≤ 9223372036854775807) (hG : Glob w) :
    Calls Tryz.prog 28 #[.pointer (some ⟨wb, 0, none⟩), .agg (OpV 2 a b s)] w fun e w' => e = .returned (.bool true) ∧ Stepped Rep w base wb lv l.length (bnd + 100) w' := by
  obtain ⟨lb, cap, rfl, hcap, hlb, hcell⟩ := worldAt_ptr h hn
  have HP : Hid (∀ W, Calls Tryz.prog 65 #[.int .i64 a, .int .i64 l.length] W fun e w' => e = .returned (.int .i64 (PickI a l.length)) ∧ w' = W) := fun W => pick_any a ha1 ha2 l.length hn (by omega) W
  have HW : Hid (WorldAt Rep w base wb (.slice (some ⟨lb, 0, none⟩) l.length cap) bv bag l bnd) := h
  have hwb : wb < w.heap.size := (Array.getElem?_eq_some_iff.1 h.row).1
  have hA := (row_facts' h.row).1
  have hpi := PickI_lt a l.length hn
  have hci := hcell _ hpi
  obtain ⟨i, hi⟩ : ∃ i, PickI a l.length = i := ⟨_, rfl⟩
  rw [hi] at HP hpi
  have hci2 : w.cell? ⟨lb, i, none⟩ = some (.pointer (some ⟨(l[i]'hpi).sb, 0, none⟩)) := hcell i hpi
  obtain ⟨sd, hsd⟩ : ∃ sd, (l[i]'hpi).sb = sd := ⟨_, rfl⟩
  rw [hsd] at hci2
  have HSD : Hid ((l[i]'hpi).sb = sd) := hsd
  have HGL : Hid (Glob w) := hG
  clear h hcell hci hi hsd hG
  go_enter Tryz.func28, Tryz.ntmps28
  go_upto_region 1 with fail
  go_cut [5] (fun s5 wy => s5 = .pointer (some ⟨sd, 0, none⟩) ∧ Below (w.alloc (.cells (OpV 2 a b s) 73)).heap.size (w.alloc (.cells (OpV 2 a b s) 73)) wy)
  case first =>
    have hS := pickS w wb lb i (.slice (some ⟨lb, 0, none⟩) l.length cap) bv sd 2 a b s hA hci2 hwb hlb
    go_region_held3 (fun W => PickS w wb lb i (.slice (some ⟨lb, 0, none⟩) l.length cap) bv sd 2 a b s W) ((first | assumption | exact hS)) ((go_at_call 65; refine (HP.out _).mono ?_; rintro e w' ⟨rfl, rfl⟩))
    all_goals
      go_wp2_with fail
      go_meet
      exact ⟨rfl, (Below.refl _ _).drew⟩
  case rest =>
    obtain ⟨rfl, hb⟩ := hcut
    have hk3 : wc.heap[w.heap.size]? = some (.cells (OpV 2 a b s) 73 (0, 0)) := by rw [hb.block _ (by simp), (MapKept.heap_alloc _ _).1]
    have hK := (row_facts' hk3).1
    have hbw : Below w.heap.size w wc := ((Below.refl _ w).alloc (Nat.le_refl _) _).trans (hb.mono (by simp))
    have HBW : Hid (Below w.heap.size w wc) := hbw
    clear hbw hk3 hb HP hci2 hA
    have HWc : Hid (WorldAt Rep wc base wb (.slice (some ⟨lb, 0, none⟩) l.length cap) bv bag l bnd) := HW.out.below C HBW.out
    obtain ⟨t1, t2, t3, t4, t5, t6⟩ := HWc.out.side _ (List.getElem_mem hpi)
    have hsz := HW.out.base_le
    have hszc := HBW.out.size
    have hbvs : ∃ p capb, bv = .slice p bag.length capb := by
      rcases HW.out.ownb.2 with ⟨e1, e2⟩ | ⟨g, capb, cur, e1, _⟩
      · exact ⟨none, 0, by rw [e1, e2]⟩
      · exact ⟨_, capb, e1⟩
    obtain ⟨p, capb, rfl⟩ := hbvs
    have hwbc : wb < wc.heap.size := by omega
    clear t1 t2 t3 t4 t5 t6
    have hA := (row_facts' HWc.out.row).1
    obtain ⟨wp, hwp⟩ : ∃ wp, wp = wc := ⟨_, rfl⟩
    subst hwp
    have hop : w.heap.size < wp.heap.size := block_lt_of_cell (hK 0)
    by_cases hb0 : bag.length = 0
    · have hbd : ((bag.length : Int) == 0) = true := by rw [hb0]; rfl
      go_wp2_with fail
      go_ret
      exact ⟨rfl, HBW.out.mono hsz, _, bag, l, rfl, ⟨HWc.out.base_le, HWc.out.wbb, HWc.out.row, HWc.out.ownl, HWc.out.ownb, HWc.out.bag64, HWc.out.nl, HWc.out.nb, HWc.out.nlb, fun s hs => by obtain ⟨a1, a2, a3, a4⟩ := HWc.out.side s hs; exact ⟨a1, a2, by omega, a4⟩, HWc.out.dis⟩⟩
    · have hbd : ((bag.length : Int) == 0) = false := by
        have : ¬ (bag.length : Int) = 0 := by omega
        simpa using this
      obtain ⟨bb, capb', hbv, hcb, hbb, hbcell⟩ := worldAt_bag HWc.out (by omega)
      simp only [Value.slice.injEq] at hbv
      obtain ⟨rfl, _, rfl⟩ := hbv
      have hb64 := HWc.out.bag64
      have HPB : Hid (∀ W, Calls Tryz.prog 65 #[.int .i64 b, .int .i64 bag.length] W fun e w' => e = .returned (.int .i64 (PickI b bag.length)) ∧ w' = W) := fun W => pick_any b hb1 hb2 bag.length (by omega) (by omega) W
      have hpq := PickI_lt b bag.length (by omega)
      obtain ⟨q, hq⟩ : ∃ q, PickI b bag.length = q := ⟨_, rfl⟩
      rw [hq] at HPB hpq
      have hbc := hbcell q hpq
      obtain ⟨FB, hFB⟩ : ∃ FB, bag[q]'hpq = FB := ⟨_, rfl⟩
      rw [hFB] at hbc
      have hcbI : (bag.length : Int) ≤ (capb : Int) := by omega
      have hqI : (q : Int) < (bag.length : Int) := by omega
      clear hbcell hFB hq
      go_upto_region 12 with fail
      go_cut [8] (fun s8 wy => s8 = .string FB ∧ Below wp.heap.size wp wy)
      case first =>
        have hS : PickB wb w.heap.size bb q (.slice (some ⟨lb, 0, none⟩) l.length cap) (.slice (some ⟨bb, 0, none⟩) bag.length capb) FB 2 a b s wp.drew := ⟨hA, hK, hbc⟩
        go_region_held3 (fun W => PickB wb w.heap.size bb q (.slice (some ⟨lb, 0, none⟩) l.length cap) (.slice (some ⟨bb, 0, none⟩) bag.length capb) FB 2 a b s W) ((first | assumption | exact hS)) ((go_at_call 65; refine (HPB.out _).mono ?_; rintro e w' ⟨rfl, rfl⟩))
        all_goals
          go_wp2_with fail
          go_meet
          exact ⟨rfl, (Below.refl _ _).drew⟩
      case rest =>
        obtain ⟨rfl, hbq⟩ := hcut
        have HBQ : Hid (Below wp.heap.size wp wc) := hbq
        have hKc : ∀ o, wc.cell? ⟨w.heap.size, o, none⟩ = (OpV 2 a b s)[o]? := fun o => by rw [hbq.cell (p := ⟨w.heap.size, o, none⟩) hop]; exact hK o
        clear hK hA hbc hbq HPB
        obtain ⟨w3, hw3⟩ : ∃ w3, w3 = wc := ⟨_, rfl⟩
        subst hw3
        obtain ⟨FB3, hFB3⟩ : ∃ FB3, FB3 = FB := ⟨_, rfl⟩
        subst hFB3
        have HBQ3 : Hid (Below wp.heap.size wp w3) := HBQ
        go_wp2_with fail
        have HWq : Hid (WorldAt Rep w3 base wb (.slice (some ⟨lb, 0, none⟩) l.length cap) (.slice (some ⟨bb, 0, none⟩) bag.length capb) bag l bnd) := HWc.out.below C HBQ3.out
        have hcall := unprotect_any C w3 (l[i]'hpi).sb (l[i]'hpi).U (l[i]'hpi).st (l[i]'hpi).wk (HWq.out.side _ (List.getElem_mem hpi)).1 (by have := (HWq.out.side _ (List.getElem_mem hpi)).2.2.1; omega) FB3 (HGL.out.below (HBW.out.trans (HBQ3.out.mono hszc)))
        rw [HSD.out] at hcall
        refine hcall.mono ?_
        clear hcall
        rintro e w2 ⟨rfl, o2, U', wk', st', f2, s2, hw2⟩
        have hz3 := HBQ3.out.size
        have HW2 : Hid (WorldAt Rep w2 base wb (.slice (some ⟨lb, 0, none⟩) l.length cap) (.slice (some ⟨bb, 0, none⟩) bag.length capb) bag (l.set i ⟨(l[i]'hpi).sb, U', st', wk'⟩) (bnd + 100)) := by
          have hs2 : Side Rep w2 (l[i]'hpi).sb U' st' wk' := by rw [HSD.out]; exact s2
          have hwk := (HWq.out.side _ (List.getElem_mem hpi)).2.2.1
          exact HWq.out.step C i hpi U' st' wk' (bnd + 100) o2 f2 hs2 (by omega) (by omega)
        have HB2 : Hid (Below base w w2) := ((HBW.out.trans (HBQ3.out.mono hszc)).mono hsz).trans (o2.toBelow base (by omega) (HWq.out.side _ (List.getElem_mem hpi)).2.1)
        clear o2 f2 s2 hKc
        go_wp2_with fail
        go_ret
        exact ⟨rfl, HB2.out, _, bag, _, List.length_set, HW2.out⟩
set_option maxRecDepth 20000 in
set_option maxHeartbeats 2000000 in
theorem step_bent {Rep : World → List Nat → Value → St → Nat → Prop} (C : Code Rep) (w : World) (base wb : Nat) (lv bv : Value) (bag : List ByteArray) (l : List SideD) (bnd : Nat) (h : WorldAt Rep w base wb lv bv bag l bnd) (hn : 1 ≤ l.length) (hn16 : l.length ≤ 16)
    (a b : Int) (s : ByteArray) (hs : s.size ≤ 65536) (hbnd : bnd ≤ 10000000000) (ha1 : -9223372036854775808 ≤ a) (ha2 : a ≤ 9223372036854775807) (hb1 : -9223372036854775808 ≤ b) (hb2 : b ≤ 9223372036854775807) (hG : Glob w) :
    Calls Tryz.prog 28 #[.pointer (some ⟨wb, 0, none⟩), .agg (OpV 4 a b s)] w fun e w' => e = .returned (.bool true) ∧ Stepped Rep w base wb lv l.length (bnd + 100) w' := by
  obtain ⟨lb, cap, rfl, hcap, hlb, hcell⟩ := worldAt_ptr h hn
  have HP : Hid (∀ W, Calls Tryz.prog 65 #[.int .i64 a, .int .i64 l.length] W fun e w' => e = .returned (.int .i64 (PickI a l.length)) ∧ w' = W) := fun W => pick_any a ha1 ha2 l.length hn (by omega) W
  have HW : Hid (WorldAt Rep w base wb (.slice (some ⟨lb, 0, none⟩) l.length cap) bv bag l bnd) := h
  have hwb : wb < w.heap.size := (Array.getElem?_eq_some_iff.1 h.row).1
  have hA := (row_facts' h.row).1
  have hpi := PickI_lt a l.length hn
  have hci := hcell _ hpi
  obtain ⟨i, hi⟩ : ∃ i, PickI a l.length = i := ⟨_, rfl⟩
  rw [hi] at HP hpi
  have hci2 : w.cell? ⟨lb, i, none⟩ = some (.pointer (some ⟨(l[i]'hpi).sb, 0, none⟩)) := hcell i hpi
  obtain ⟨sd, hsd⟩ : ∃ sd, (l[i]'hpi).sb = sd := ⟨_, rfl⟩
  rw [hsd] at hci2
  have HSD : Hid ((l[i]'hpi).sb = sd) := hsd
  have HGL : Hid (Glob w) := hG
  clear h hcell hci hi hsd hG
  go_enter Tryz.func28, Tryz.ntmps28
  go_upto_region 1 with fail
  go_cut [5] (fun s5 wy => s5 = .pointer (some ⟨sd, 0, none⟩) ∧ Below (w.alloc (.cells (OpV 4 a b s) 73)).heap.size (w.alloc (.cells (OpV 4 a b s) 73)) wy)
  case first =>
    have hS := pickS w wb lb i (.slice (some ⟨lb, 0, none⟩) l.length cap) bv sd 4 a b s hA hci2 hwb hlb
    go_region_held3 (fun W => PickS w wb lb i (.slice (some ⟨lb, 0, none⟩) l.length cap) bv sd 4 a b s W) ((first | assumption | exact hS)) ((go_at_call 65; refine (HP.out _).mono ?_; rintro e w' ⟨rfl, rfl⟩))
    all_goals
      go_wp2_with fail
      go_meet
      exact ⟨rfl, (Below.refl _ _).drew⟩
  case rest =>
    obtain ⟨rfl, hb⟩ := hcut
    have hk3 : wc.heap[w.heap.size]? = some (.cells (OpV 4 a b s) 73 (0, 0)) := by rw [hb.block _ (by simp), (MapKept.heap_alloc _ _).1]
    have hK := (row_facts' hk3).1
    have hbw : Below w.heap.size w wc := ((Below.refl _ w).alloc (Nat.le_refl _) _).trans (hb.mono (by simp))
    have HBW : Hid (Below w.heap.size w wc) := hbw
    clear hbw hk3 hb HP hci2 hA
    have HWc : Hid (WorldAt Rep wc base wb (.slice (some ⟨lb, 0, none⟩) l.length cap) bv bag l bnd) := HW.out.below C HBW.out
    obtain ⟨t1, t2, t3, t4, t5, t6⟩ := HWc.out.side _ (List.getElem_mem hpi)
    have hsz := HW.out.base_le
    have hszc := HBW.out.size
    have hbvs : ∃ p capb, bv = .slice p bag.length capb := by
      rcases HW.out.ownb.2 with ⟨e1, e2⟩ | ⟨g, capb, cur, e1, _⟩
      · exact ⟨none, 0, by rw [e1, e2]⟩
      · exact ⟨_, capb, e1⟩
    obtain ⟨p, capb, rfl⟩ := hbvs
    have hwbc : wb < wc.heap.size := by omega
    clear t1 t2 t3 t4 t5 t6
    have hA := (row_facts' HWc.out.row).1
    obtain ⟨wp, hwp⟩ : ∃ wp, wp = wc := ⟨_, rfl⟩
    subst hwp
    have hop : w.heap.size < wp.heap.size := block_lt_of_cell (hK 0)
    by_cases hb0 : bag.length = 0
    · have hbd : ((bag.length : Int) == 0) = true := by rw [hb0]; rfl
      go_wp2_with fail
      go_ret
      exact ⟨rfl, HBW.out.mono hsz, _, bag, l, rfl, ⟨HWc.out.base_le, HWc.out.wbb, HWc.out.row, HWc.out.ownl, HWc.out.ownb, HWc.out.bag64, HWc.out.nl, HWc.out.nb, HWc.out.nlb, fun s hs => by obtain ⟨a1, a2, a3, a4⟩ := HWc.out.side s hs; exact ⟨a1, a2, by omega, a4⟩, HWc.out.dis⟩⟩
    · have hbd : ((bag.length : Int) == 0) = false := by
        have : ¬ (bag.length : Int) = 0 := by omega
        simpa using this
      obtain ⟨bb, capb', hbv, hcb, hbb, hbcell⟩ := worldAt_bag HWc.out (by omega)
      simp only [Value.slice.injEq] at hbv
      obtain ⟨rfl, _, rfl⟩ := hbv
      have hb64 := HWc.out.bag64
      have HPB : Hid (∀ W, Calls Tryz.prog 65 #[.int .i64 b, .int .i64 bag.length] W fun e w' => e = .returned (.int .i64 (PickI b bag.length)) ∧ w' = W) := fun W => pick_any b hb1 hb2 bag.length (by omega) (by omega) W
      have hpq := PickI_lt b bag.length (by omega)
      obtain ⟨q, hq⟩ : ∃ q, PickI b bag.length = q := ⟨_, rfl⟩
      rw [hq] at HPB hpq
      have hbc := hbcell q hpq
      obtain ⟨FB, hFB⟩ : ∃ FB, bag[q]'hpq = FB := ⟨_, rfl⟩
      rw [hFB] at hbc
      have hcbI : (bag.length : Int) ≤ (capb : Int) := by omega
      have hqI : (q : Int) < (bag.length : Int) := by omega
      clear hbcell hFB hq
      go_upto_region 12 with fail
      go_cut [8] (fun s8 wy => s8 = .string FB ∧ Below wp.heap.size wp wy)
      case first =>
        have hS : PickB wb w.heap.size bb q (.slice (some ⟨lb, 0, none⟩) l.length cap) (.slice (some ⟨bb, 0, none⟩) bag.length capb) FB 4 a b s wp.drew := ⟨hA, hK, hbc⟩
        go_region_held3 (fun W => PickB wb w.heap.size bb q (.slice (some ⟨lb, 0, none⟩) l.length cap) (.slice (some ⟨bb, 0, none⟩) bag.length capb) FB 4 a b s W) ((first | assumption | exact hS)) ((go_at_call 65; refine (HPB.out _).mono ?_; rintro e w' ⟨rfl, rfl⟩))
        all_goals
          go_wp2_with fail
          go_meet
          exact ⟨rfl, (Below.refl _ _).drew⟩
      case rest =>
        obtain ⟨rfl, hbq⟩ := hcut
        have HBQ : Hid (Below wp.heap.size wp wc) := hbq
        have hKc : ∀ o, wc.cell? ⟨w.heap.size, o, none⟩ = (OpV 4 a b s)[o]? := fun o => by rw [hbq.cell (p := ⟨w.heap.size, o, none⟩) hop]; exact hK o
        clear hK hA hbc hbq HPB
        go_wp2_with (go_at_call 67; refine (bent_any FB s hs _).mono ?_; rintro e w3 ⟨FB3, rfl, b3⟩)
        have HBQ3 : Hid (Below wp.heap.size wp w3) := HBQ.out.trans (b3.mono HBQ.out.size)
        clear b3
        have HWq : Hid (WorldAt Rep w3 base wb (.slice (some ⟨lb, 0, none⟩) l.length cap) (.slice (some ⟨bb, 0, none⟩) bag.length capb) bag l bnd) := HWc.out.below C HBQ3.out
        have hcall := unprotect_any C w3 (l[i]'hpi).sb (l[i]'hpi).U (l[i]'hpi).st (l[i]'hpi).wk (HWq.out.side _ (List.getElem_mem hpi)).1 (by have := (HWq.out.side _ (List.getElem_mem hpi)).2.2.1; omega) FB3 (HGL.out.below (HBW.out.trans (HBQ3.out.mono hszc)))
        rw [HSD.out] at hcall
        refine hcall.mono ?_
        clear hcall
        rintro e w2 ⟨rfl, o2, U', wk', st', f2, s2, hw2⟩
        have hz3 := HBQ3.out.size
        have HW2 : Hid (WorldAt Rep w2 base wb (.slice (some ⟨lb, 0, none⟩) l.length cap) (.slice (some ⟨bb, 0, none⟩) bag.length capb) bag (l.set i ⟨(l[i]'hpi).sb, U', st', wk'⟩) (bnd + 100)) := by
          have hs2 : Side Rep w2 (l[i]'hpi).sb U' st' wk' := by rw [HSD.out]; exact s2
          have hwk := (HWq.out.side _ (List.getElem_mem hpi)).2.2.1
          exact HWq.out.step C i hpi U' st' wk' (bnd + 100) o2 f2 hs2 (by omega) (by omega)
        have HB2 : Hid (Below base w w2) := ((HBW.out.trans (HBQ3.out.mono hszc)).mono hsz).trans (o2.toBelow base (by omega) (HWq.out.side _ (List.getElem_mem hpi)).2.1)
        clear o2 f2 s2 hKc
        go_wp2_with fail
        go_ret
        exact ⟨rfl, HB2.out, _, bag, _, List.length_set, HW2.out⟩
end Go.Proofs.YtkpebabbnndopaaGreatDoor

/- The law's (*World).step: Close. -/
namespace Go.Proofs.YtkpebabbnndopaaGreatDoor
open Go.RowKit
set_option linter.unusedVariables false

theorem RefG.setClosed {w : World} {S : List Nat} {rb mb : Nat} {cs : Array Value} {ov : Nat → Value} {st : St} {steps : Int} (h : RefG w S rb mb cs ov st steps) : RefG (w.setCell ⟨rb, 11, none⟩ (.bool true)) S rb mb cs ov st.shut steps := by
  obtain ⟨h1, h2, h3, h4, h5, h6, h7⟩ := h
  rw [setCell_eq_setRow w rb 11 _ _ (0, 0) _ h4]
  refine ⟨h1, h2, h3, setRow_heap _ _ _ _ _ _ h4, by rw [setRow_other _ _ _ _ (fun e => h1 e.symm), h5], h6, fun i hi => (h7 i hi).keep fun k _ _ hk _ => setRow_other _ _ _ _ hk⟩
set_option maxRecDepth 20000 in
set_option maxHeartbeats 2000000 in
theorem step_close {Rep : World → List Nat → Value → St → Nat → Prop} (C : Code Rep) (w : World) (base wb : Nat) (lv bv : Value) (bag : List ByteArray) (l : List SideD) (bnd : Nat) (h : WorldAt Rep w base wb lv bv bag l bnd) (hn : 1 ≤ l.length) (hn16 : l.length ≤ 16)
    (a b : Int) (s : ByteArray) (hs : s.size ≤ 65536) (hbnd : bnd ≤ 10000000000) (ha1 : -9223372036854775808 ≤ a) (ha2 : a ≤ 9223372036854775807) (hG : Glob w) :
    Calls Tryz.prog 28 #[.pointer (some ⟨wb, 0, none⟩), .agg (OpV 6 a b s)] w fun e w' => e = .returned (.bool true) ∧ Stepped Rep w base wb lv l.length (bnd + 100) w' := by
  obtain ⟨lb, cap, rfl, hcap, hlb, hcell⟩ := worldAt_ptr h hn
  have HP : Hid (∀ W, Calls Tryz.prog 65 #[.int .i64 a, .int .i64 l.length] W fun e w' => e = .returned (.int .i64 (PickI a l.length)) ∧ w' = W) := fun W => pick_any a ha1 ha2 l.length hn (by omega) W
  have HW : Hid (WorldAt Rep w base wb (.slice (some ⟨lb, 0, none⟩) l.length cap) bv bag l bnd) := h
  have hwb : wb < w.heap.size := (Array.getElem?_eq_some_iff.1 h.row).1
  have hA := (row_facts' h.row).1
  have hpi := PickI_lt a l.length hn
  have hci := hcell _ hpi
  obtain ⟨i, hi⟩ : ∃ i, PickI a l.length = i := ⟨_, rfl⟩
  rw [hi] at HP hpi
  have hci2 : w.cell? ⟨lb, i, none⟩ = some (.pointer (some ⟨(l[i]'hpi).sb, 0, none⟩)) := hcell i hpi
  obtain ⟨sd, hsd⟩ : ∃ sd, (l[i]'hpi).sb = sd := ⟨_, rfl⟩
  rw [hsd] at hci2
  have HSD : Hid ((l[i]'hpi).sb = sd) := hsd
  have HGL : Hid (Glob w) := hG
  clear h hcell hci hi hsd hG
  go_enter Tryz.func28, Tryz.ntmps28
  go_upto_region 1 with fail
  go_cut [5] (fun s5 wy => s5 = .pointer (some ⟨sd, 0, none⟩) ∧ Below (w.alloc (.cells (OpV 6 a b s) 73)).heap.size (w.alloc (.cells (OpV 6 a b s) 73)) wy)
  case first =>
    have hS := pickS w wb lb i (.slice (some ⟨lb, 0, none⟩) l.length cap) bv sd 6 a b s hA hci2 hwb hlb
    go_region_held3 (fun W => PickS w wb lb i (.slice (some ⟨lb, 0, none⟩) l.length cap) bv sd 6 a b s W) ((first | assumption | exact hS)) ((go_at_call 65; refine (HP.out _).mono ?_; rintro e w' ⟨rfl, rfl⟩))
    all_goals
      go_wp2_with fail
      go_meet
      exact ⟨rfl, (Below.refl _ _).drew⟩
  case rest =>
    obtain ⟨rfl, hb⟩ := hcut
    have hk3 : wc.heap[w.heap.size]? = some (.cells (OpV 6 a b s) 73 (0, 0)) := by rw [hb.block _ (by simp), (MapKept.heap_alloc _ _).1]
    have hK := (row_facts' hk3).1
    have hbw : Below w.heap.size w wc := ((Below.refl _ w).alloc (Nat.le_refl _) _).trans (hb.mono (by simp))
    have HBW : Hid (Below w.heap.size w wc) := hbw
    clear hbw hk3 hb HP hci2 hA
    have HWc : Hid (WorldAt Rep wc base wb (.slice (some ⟨lb, 0, none⟩) l.length cap) bv bag l bnd) := HW.out.below C HBW.out
    obtain ⟨t1, t2, t3, t4, t5, t6⟩ := HWc.out.side _ (List.getElem_mem hpi)
    have hsz := HW.out.base_le
    have hszc := HBW.out.size
    have hbvs : ∃ p capb, bv = .slice p bag.length capb := by
      rcases HW.out.ownb.2 with ⟨e1, e2⟩ | ⟨g, capb, cur, e1, _⟩
      · exact ⟨none, 0, by rw [e1, e2]⟩
      · exact ⟨_, capb, e1⟩
    obtain ⟨p, capb, rfl⟩ := hbvs
    have hwbc : wb < wc.heap.size := by omega
    obtain ⟨UU, hUU⟩ : ∃ UU, (l[i]'hpi).U = UU := ⟨_, rfl⟩
    obtain ⟨st, hst⟩ : ∃ st, (l[i]'hpi).st = st := ⟨_, rfl⟩
    obtain ⟨wk, hwk⟩ : ∃ wk, (l[i]'hpi).wk = wk := ⟨_, rfl⟩
    rw [HSD.out, hUU, hst, hwk] at t1
    rw [hwk] at t3
    have HUU : Hid ((l[i]'hpi).U = UU ∧ (l[i]'hpi).st = st ∧ (l[i]'hpi).wk = wk ∧ wk ≤ bnd) := ⟨hUU, hst, hwk, t3⟩
    obtain ⟨S, T, g, rb, steps, hU, ok, hrow, hrep, href, h4, h5, h6, h7⟩ := t1
    have hsdl : sd < wc.heap.size := (Array.getElem?_eq_some_iff.1 hrow).1
    obtain ⟨mb, cs, ov, hrg⟩ := href
    have hrbT : rb ∈ T := hrg.2.1
    have hrbS : rb ∉ S := fun h => h6 _ h hrbT
    have hrbsd : rb ≠ sd := fun e => h5 (e ▸ hrbT)
    have HS : Hid (UU = sd :: (S ++ T) ∧ wc.heap[sd]? = some (.cells (CellsS g rb wk) 71 (0, 0)) ∧ Rep wc S g st wk ∧ RefG wc T rb mb cs ov st steps ∧ sd ∉ S ∧ sd ∉ T ∧ (∀ k, k ∈ S → k ∉ T) ∧ (∀ k, k ∈ T → k < wc.heap.size)) := ⟨hU, hrow, hrep, hrg, h4, h5, h6, h7⟩
    have c1 := (row_facts' hrow).1
    have HGc : Hid (Glob wc) := HGL.out.below HBW.out
    have fin : Hid (∀ w2 U' st' wk', Outside UU wc w2 → Fresh wc UU U' → Side Rep w2 sd U' st' wk' → wk' ≤ bnd → Stepped Rep w base wb (.slice (some ⟨lb, 0, none⟩) l.length cap) l.length (bnd + 100) w2) := fun w2 U' st' wk' o2 f2 s2 hw2 => by
      have hs2 : Side Rep w2 (l[i]'hpi).sb U' st' wk' := by rw [HSD.out]; exact s2
      rw [← hUU] at o2 f2
      exact ⟨(HBW.out.mono hsz).trans (o2.toBelow base (by omega) (HWc.out.side _ (List.getElem_mem hpi)).2.1), _, bag, _, List.length_set, HWc.out.step C i hpi U' st' wk' (bnd + 100) o2 f2 hs2 (by omega) (by omega)⟩
    clear t2 t3 t4 t5 t6 hUU hst hwk hU hrow hrep hrg h4 h5 h6 h7 hrbT
    cases hcl : st.closed with
    | true =>
      have HCL : Hid (Calls Tryz.prog 24 #[g] wc fun e w' => e = .returned (.int .i64 9) ∧ Outside S wc w' ∧ ∃ S', Fresh wc S S' ∧ Rep w' S' g st wk) := C.closeErr ok HS.out.2.2.1 HGc.out hcl
      go_wp2_with fail
      refine HCL.out.mono ?_
      rintro e w2 ⟨rfl, o2, S', f2, rep2⟩
      obtain ⟨hU, hrow, hrep, hrg, h4, h5, h6, h7⟩ := HS.out
      have hrow2 := o2.row hrow h4
      have hrg2 : RefG w2 T rb mb cs ov st steps := by
        obtain ⟨g1, g2, g3, g4, g5, g6, g7⟩ := hrg
        exact ⟨g1, g2, g3, o2.row g4 (fun h => h6 _ h g2), o2.row g5 (fun h => h6 _ h g3), g6, fun i hi => (g7 i hi).keep fun k a b _ _ => o2.block k a (fun h => h6 k h b)⟩
      have c2 := (row_facts' hrow2).1
      have c3 := (row_facts' hrg2.2.2.2.1).1
      have HF : Hid (Stepped Rep w base wb (.slice (some ⟨lb, 0, none⟩) l.length cap) l.length (bnd + 100) w2) := by
        obtain ⟨x1, x2, x3⟩ := side_fin C ok hsdl h4 h5 h6 h7 (Below.refl _ wc) o2 f2 (Outside.refl T w2) ⟨mb, cs, ov, hrg2⟩ (Outside.refl (sd :: S') w2) hrow2 (Fresh.refl w2 S') rep2
        rw [← hU] at x1 x2
        exact fin.out w2 _ st wk x1 x2 x3 HUU.out.2.2.2
      clear hU hrow hrep hrg h4 h5 h6 h7 o2 f2 rep2 hrow2 hrg2 c1
      go_wp2_with fail
      go_ret
      exact ⟨rfl, HF.out⟩
    | false =>
      have HCL : Hid (Calls Tryz.prog 24 #[g] wc fun e w' => e = .returned (.int .i64 0) ∧ Outside S wc w' ∧ ∃ S', Fresh wc S S' ∧ Rep w' S' g st.shut wk) := C.close ok HS.out.2.2.1 HGc.out hcl
      go_wp2_with fail
      refine HCL.out.mono ?_
      rintro e w2 ⟨rfl, o2, S', f2, rep2⟩
      obtain ⟨hU, hrow, hrep, hrg, h4, h5, h6, h7⟩ := HS.out
      have hrow2 := o2.row hrow h4
      have hrg2 : RefG w2 T rb mb cs ov st steps := by
        obtain ⟨g1, g2, g3, g4, g5, g6, g7⟩ := hrg
        exact ⟨g1, g2, g3, o2.row g4 (fun h => h6 _ h g2), o2.row g5 (fun h => h6 _ h g3), g6, fun i hi => (g7 i hi).keep fun k a b _ _ => o2.block k a (fun h => h6 k h b)⟩
      have c2 := (row_facts' hrow2).1
      obtain ⟨c3, c3f⟩ := row_facts' hrg2.2.2.2.1
      obtain ⟨w3, hw3⟩ : ∃ w3, w2.setCell ⟨rb, 11, none⟩ (.bool true) = w3 := ⟨_, rfl⟩
      have hrg3 : RefG w3 T rb mb cs ov st.shut steps := by rw [← hw3]; exact hrg2.setClosed
      have o3 : Outside T w2 w3 := by rw [← hw3]; exact (Outside.refl _ _).setCell _ (fun _ => hrg2.2.1) _
      obtain ⟨w4, hw4⟩ : ∃ w4, w3.setCell ⟨rb, 12, none⟩ (.int .i64 0) = w4 := ⟨_, rfl⟩
      have hrg4 : RefG w4 T rb mb cs ov st.shut 0 := by rw [← hw4]; exact hrg3.setSteps 0
      have o4 : Outside T w2 w4 := by rw [← hw4]; exact o3.setCell _ (fun _ => hrg2.2.1) _
      have hrow3 := o3.row hrow2 h5
      have hrow4 := o4.row hrow2 h5
      have d2 := (row_facts' hrow3).1
      obtain ⟨d3, d3f⟩ := row_facts' hrg3.2.2.2.1
      have z2 := o2.size
      have hsb' : sd ∉ S' := fun h => by
        rcases f2 sd h with h | h
        · exact h4 h
        · omega
      have hdis : ∀ k, k ∈ S' → k ∉ T := fun k hk hkT => by
        rcases f2 k hk with h | h
        · exact h6 k h hkT
        · have := h7 k hkT; omega
      have rep4 : Rep w4 S' g st.shut wk := C.keep rep2 o4.size (fun k a b => o4.block k a (hdis k b))
      have HWK : Hid (Calls Tryz.prog 69 #[.pointer (some ⟨sd, 0, none⟩), .bool false] w4 fun e w' => e = .returned (.bool true) ∧ Outside (sd :: S') w4 w' ∧ w'.heap[sd]? = some (.cells (CellsS g rb wk) 71 (0, 0)) ∧ ∃ S'', Fresh w4 S' S'' ∧ Rep w' S'' g st.shut wk) := worked_any C w4 sd S' T g rb st.shut wk wk 0 false ok.shut hrow4 rep4 ⟨mb, cs, ov, hrg4⟩ hsb' h5 hdis (Nat.le_refl _) (by omega) (by intro h; cases h) (by have := HUU.out.2.2.2; omega) (by omega)
      have HW3 : Hid (w2.setCell ⟨rb, 11, none⟩ (.bool true) = w3) := hw3
      have HW4 : Hid (w3.setCell ⟨rb, 12, none⟩ (.int .i64 0) = w4) := hw4
      have HO : Hid (Outside S wc w2 ∧ Fresh wc S S' ∧ Outside T w2 w4 ∧ RefG w4 T rb mb cs ov st.shut 0) := ⟨o2, f2, o4, hrg4⟩
      clear hU hrow hrep hrg h4 h5 h6 h7 o2 f2 rep2 hrow2 hrg2 c1 hw3 hw4 hrg3 hrg4 o3 o4 hrow3 hrow4 hsb' hdis rep4 z2
      go_upto_region 25 with fail
      rw [HW3.out]
      clear c2 c3 c3f
      go_upto_region 26 with fail
      rw [HW4.out]
      go_wp2_with fail
      refine HWK.out.mono ?_
      rintro e w5 ⟨rfl, o5, hrow5, S'', f5, rep5⟩
      have HF : Hid (Stepped Rep w base wb (.slice (some ⟨lb, 0, none⟩) l.length cap) l.length (bnd + 100) w5) := by
        obtain ⟨hU, hrow, hrep, hrg, h4, h5, h6, h7⟩ := HS.out
        obtain ⟨o2, f2, o4, hrg4⟩ := HO.out
        obtain ⟨x1, x2, x3⟩ := side_fin C ok.shut hsdl h4 h5 h6 h7 (Below.refl _ wc) o2 f2 o4 (steps := 0) ⟨mb, cs, ov, hrg4⟩ o5 hrow5 f5 rep5
        rw [← hU] at x1 x2
        exact fin.out w5 _ st.shut wk x1 x2 x3 HUU.out.2.2.2
      clear o5 hrow5 f5 rep5 d2 d3 d3f
      go_wp2_with fail
      go_ret
      exact ⟨rfl, HF.out⟩
end Go.Proofs.YtkpebabbnndopaaGreatDoor

/- The law's plays, whole; Opens, Closes. -/
namespace Go.Proofs.YtkpebabbnndopaaGreatDoor
open Go.RowKit
set_option linter.unusedVariables false

/-- a script among the arguments, with the bounds of its numbers -/
def OpsArg2 (w : World) (p : Option Addr) (n c : Nat) : Prop := n ≤ c ∧ (n = 0 ∨ ∃ b o, p = some ⟨b, o, none⟩ ∧ ∀ i, i < n → ∃ (k a d : Int) (s : ByteArray), -9223372036854775808 ≤ a ∧ a ≤ 9223372036854775807 ∧ -9223372036854775808 ≤ d ∧ d ≤ 9223372036854775807 ∧ w.cell? ⟨b, o + i * 4, none⟩ = some (.int .i64 k) ∧ w.cell? ⟨b, o + i * 4 + 1, none⟩ = some (.int .i64 a) ∧ w.cell? ⟨b, o + i * 4 + 2, none⟩ = some (.int .i64 d) ∧ w.cell? ⟨b, o + i * 4 + 3, none⟩ = some (.string s))
set_option maxRecDepth 20000 in
set_option maxHeartbeats 4000000 in
theorem plays_any {Rep : World → List Nat → Value → St → Nat → Prop} (C : Code Rep) (root : ByteArray) (n up : Int) (hup : up ≤ 6) (po : Option Addr) (no co : Nat) (ps : Option Addr) (ns cs : Nat) (hns : ns ≤ 4096) (hno : no ≤ 16) (w : World) (hown : IntsArg w po no co) (hscr : OpsArg2 w ps ns cs) (hG : Glob w) :
    Calls Tryz.prog 12 #[.string root, .int .i64 n, .slice po no co, .slice ps ns cs, .int .i64 up] w fun e w' => e = .returned (.bool true) ∧ Below w.heap.size w w' := by
  have d1 : decide (4096 < (ns : Int)) = false := by simp; omega
  have d2 : decide (16 < (no : Int)) = false := by simp; omega
  have hsb := SecL_bd root.data.toList
  have HSEC : Hid (∀ W, Calls Tryz.prog 26 #[.string root] W fun e w' => e = .returned (Agg8 (SecL root.data.toList)) ∧ Below W.heap.size W w') := fun W => secret_below root W
  obtain ⟨s, hs⟩ : ∃ s, SecL root.data.toList = s := ⟨_, rfl⟩
  rw [hs] at hsb HSEC
  clear hs
  have HOWN : Hid (IntsArg w po no co) := hown
  have HSCR : Hid (OpsArg2 w ps ns cs) := hscr
  have hco := hown.1
  have hcs := hscr.1
  have HGL : Hid (Glob w) := hG
  clear hown hscr hG
  go_enter Tryz.func12, Tryz.ntmps12
  go_wp2_with fail
  go_loopg [12] no (fun k i wr => ∃ (j : Nat) (lv : Value) (l : List SideD), i = .int .i64 j ∧ j + k = no ∧ l.length ≤ j ∧ WorldAt Rep wr w.heap.size w.heap.size lv (.slice none 0 0) [] l 0 ∧ Below w.heap.size w wr)
  case atStart => exact ⟨0, _, [], rfl, by omega, Nat.le_refl _, WorldAt.start w 0, (Below.refl _ w).alloc (Nat.le_refl _) _⟩
  case round =>
    obtain ⟨j, lv, l, rfl, hjk, hlj, hwa, hbel⟩ := hrel
    by_cases hj : j < no
    · rcases HOWN.out.2 with h0 | ⟨ob, off, rfl, hcell⟩
      · omega
      · obtain ⟨x, hx⟩ := hcell j hj
        have hobl : ob < w.heap.size := block_lt_of_cell hx
        have hS1 : S1 ob (off + j) x wr := ⟨by rw [hbel.cell (p := ⟨ob, off + j, none⟩) hobl]; exact hx, by have := hbel.size; omega⟩
        have HWA : Hid (WorldAt Rep wr w.heap.size w.heap.size lv (.slice none 0 0) [] l 0 ∧ Below w.heap.size w wr) := ⟨hwa, hbel⟩
        clear hwa hbel hcell hx
        cases hfit : FitB n x with
        | false =>
          have HN : Hid (∀ W, Calls Tryz.prog 25 #[Agg8 s, .int .i64 n, .int .i64 x] W fun e w' => e = .returned (.tuple #[.pointer none, .int .i64 1]) ∧ Below W.heap.size W w') := fun W => C.newErr s n x W hsb hfit
          have HRN : Hid (∀ W, Calls Tryz.prog 27 #[Agg8 s, .int .i64 n, .int .i64 x] W fun e w' => e = .returned (.pointer none) ∧ Below W.heap.size W w') := fun W => refNew_none s n x hfit W
          go_upto_region 7 with fail
          go_cut [13, 14] (fun s13 s14 wy => s13 = .pointer none ∧ s14 = .int .i64 1 ∧ Below wr.heap.size wr wy)
          case first =>
            go_region_held3 (fun W => S1 ob (off + j) x W) ((with_reducible first | exact hS1.drew | exact S1.below hS1.drew hb1 | exact S1.below (S1.below hS1.drew hb1) hb2)) ((first | (go_at_call 26; refine (HSEC.out _).mono ?_; rintro e w1 ⟨rfl, hb1⟩) | (go_at_call 25; refine (HN.out _).mono ?_; rintro e w2 ⟨rfl, hb2⟩)))
            all_goals
              go_wp2_with fail
              go_meet
              exact ⟨rfl, rfl, ((Below.refl _ wr).drew.trans hb1).trans (hb2.mono hb1.size)⟩
          case rest =>
            obtain ⟨rfl, rfl, hb7⟩ := hcut
            have hS2 := S1.below hS1 hb7
            clear HN hS1
            go_upto_region 8 with fail
            go_cut [15] (fun s15 wy => s15 = .pointer none ∧ Below wc.heap.size wc wy)
            case first =>
              go_region_held3 (fun W => S1 ob (off + j) x W) ((with_reducible first | exact hS2.drew | exact S1.below hS2.drew hb1 | exact S1.below (S1.below hS2.drew hb1) hb2)) ((first | (go_at_call 26; refine (HSEC.out _).mono ?_; rintro e w1 ⟨rfl, hb1⟩) | (go_at_call 27; refine (HRN.out _).mono ?_; rintro e w2 ⟨rfl, hb2⟩)))
              all_goals
                go_wp2_with fail
                go_meet
                exact ⟨rfl, ((Below.refl _ wc).drew.trans hb1).trans (hb2.mono hb1.size)⟩
            case rest =>
              obtain ⟨rfl, hb8⟩ := hcut
              have HB8 : Hid (Below wr.heap.size wr wc) := hb7.trans (hb8.mono hb7.size)
              clear hb7 hb8 hS2 HRN
              go_wp2_with fail
              go_roundg (gk - 1)
              case measure => omega
              case rel => exact ⟨j + 1, lv, l, by go_num, by omega, by omega, HWA.out.1.below C HB8.out, HWA.out.2.trans (HB8.out.mono HWA.out.2.size)⟩
        | true =>
          obtain ⟨g1, g2, g3, g4⟩ := (fitB_iff n x).1 hfit
          obtain ⟨N, rfl⟩ : ∃ N : Nat, n = N := ⟨n.toNat, by omega⟩
          obtain ⟨M, rfl⟩ : ∃ M : Nat, x = M := ⟨x.toNat, by omega⟩
          have HN : Hid (∀ W, Calls Tryz.prog 25 #[Agg8 s, .int .i64 N, .int .i64 M] W fun e w' => ∃ b S, e = .returned (.tuple #[.pointer (some ⟨b, 0, none⟩), .int .i64 0]) ∧ Below W.heap.size W w' ∧ (∀ k, k ∈ S → W.heap.size ≤ k) ∧ Rep w' S (.pointer (some ⟨b, 0, none⟩)) (St.new s N M) 0) := fun W => C.new s N M W hsb (by omega) (by omega) (by omega)
          have HRN : Hid (∀ W, Calls Tryz.prog 27 #[Agg8 s, .int .i64 N, .int .i64 M] W fun e w' => ∃ rb S, e = .returned (.pointer (some ⟨rb, 0, none⟩)) ∧ Below W.heap.size W w' ∧ (∀ k, k ∈ S → W.heap.size ≤ k ∧ k < w'.heap.size) ∧ RefRep w' S rb (St.new s N M) 0) := fun W => refNew_some s N M (by omega) (by omega) (by omega) W
          have HOK : Hid ((St.new s N M).Ok) := St.new_ok s hsb N M (by omega) (by omega) (by omega)
          clear hfit
          go_upto_region 7 with fail
          go_cut [13, 14] (fun s13 s14 wy => ∃ b S, s13 = .pointer (some ⟨b, 0, none⟩) ∧ s14 = .int .i64 0 ∧ Below wr.heap.size wr wy ∧ (∀ k, k ∈ S → wr.heap.size ≤ k) ∧ Rep wy S (.pointer (some ⟨b, 0, none⟩)) (St.new s N M) 0)
          case first =>
            go_region_held3 (fun W => S1 ob (off + j) M W) ((with_reducible first | exact hS1.drew | exact S1.below hS1.drew hb1 | exact S1.below (S1.below hS1.drew hb1) hb2)) ((first | (go_at_call 26; refine (HSEC.out _).mono ?_; rintro e w1 ⟨rfl, hb1⟩) | (go_at_call 25; refine (HN.out _).mono ?_; rintro e w2 ⟨b, S, rfl, hb2, hSS, hrp⟩)))
            all_goals
              go_wp2_with fail
              go_meet
              have z1 : wr.heap.size ≤ w1.heap.size := hb1.size
              exact ⟨b, S, rfl, rfl, ((Below.refl _ wr).drew.trans hb1).trans (hb2.mono hb1.size), fun k hk => by have := hSS k hk; omega, hrp⟩
          case rest =>
            obtain ⟨b, S, rfl, rfl, hb7, hSS, hrp⟩ := hcut
            have hS2 := S1.below hS1 hb7
            have HH7 : Hid (Below wr.heap.size wr wc ∧ (∀ k, k ∈ S → wr.heap.size ≤ k) ∧ Rep wc S (.pointer (some ⟨b, 0, none⟩)) (St.new s N M) 0) := ⟨hb7, hSS, hrp⟩
            clear HN hS1 hb7 hSS hrp
            go_upto_region 8 with fail
            go_cut [15] (fun s15 wy => ∃ rb T, s15 = .pointer (some ⟨rb, 0, none⟩) ∧ Below wc.heap.size wc wy ∧ (∀ k, k ∈ T → wc.heap.size ≤ k ∧ k < wy.heap.size) ∧ RefRep wy T rb (St.new s N M) 0)
            case first =>
              go_region_held3 (fun W => S1 ob (off + j) M W) ((with_reducible first | exact hS2.drew | exact S1.below hS2.drew hb1 | exact S1.below (S1.below hS2.drew hb1) hb2)) ((first | (go_at_call 26; refine (HSEC.out _).mono ?_; rintro e w1 ⟨rfl, hb1⟩) | (go_at_call 27; refine (HRN.out _).mono ?_; rintro e w2 ⟨rb, T, rfl, hb2, hTT, hrf⟩)))
              all_goals
                go_wp2_with fail
                go_meet
                have z1 : wc.heap.size ≤ w1.heap.size := hb1.size
                exact ⟨rb, T, rfl, ((Below.refl _ wc).drew.trans hb1).trans (hb2.mono hb1.size), fun k hk => by have := hTT k hk; omega, hrf⟩
            case rest =>
              obtain ⟨rb, T, rfl, hb8, hTT, hrf⟩ := hcut
              obtain ⟨hb7, hSS, hrp⟩ := HH7.out
              have hb78 := hb7.trans (hb8.mono hb7.size)
              have z7 := hb7.size
              have hrp8 := C.keep hrp hb8.size (fun k a _ => hb8.block k a)
              obtain ⟨v', w', hrun, hrow, hwa2, hbel2, p', n', c', rfl⟩ := HWA.out.1.added C (by omega) hb78 S T (.pointer (some ⟨b, 0, none⟩)) rb (St.new s N M) 0 HOK.out hrp8 hrf hSS (fun k hk => ⟨by have := hTT k hk; omega, (hTT k hk).2⟩) (fun k hk hk' => by have h1 := C.lt hrp k hk; have h2 := hTT k hk'; omega) 61
              have hA := (row_facts' (HWA.out.1.below C hb78).row).1
              have hwb8 : w.heap.size < wc.heap.size := (Array.getElem?_eq_some_iff.1 (HWA.out.1.below C hb78).row).1
              obtain ⟨hA3, hAf3⟩ := row_facts' hrow
              have hlvs : ∃ pl nl cl, lv = .slice pl nl cl := by
                rcases HWA.out.1.ownl.2 with ⟨e1, _⟩ | ⟨g', c', cur, e1, _⟩
                · exact ⟨_, _, _, e1⟩
                · exact ⟨_, _, _, e1⟩
              obtain ⟨pl, nl, cl, rfl⟩ := hlvs
              have HRUN : Hid ((Builtin.append_ #[61, 61] 61 #[.slice pl nl cl, .slice (some ⟨wc.heap.size + 1, 0, none⟩) 1 1]).run Tryz.prog ((wc.alloc (.cells (CellsS (.pointer (some ⟨b, 0, none⟩)) rb 0) 71)).alloc (.cells #[.pointer (some ⟨wc.heap.size, 0, none⟩)] 69)) = .ok (.slice p' n' c') w') := hrun
              have HFIN : Hid (WorldAt Rep (w'.setCell ⟨w.heap.size, 0, none⟩ (.slice p' n' c')) w.heap.size w.heap.size (.slice p' n' c') (.slice none 0 0) [] (l ++ [⟨wc.heap.size, wc.heap.size :: (S ++ T), St.new s N M, 0⟩]) 0 ∧ Below w.heap.size wr (w'.setCell ⟨w.heap.size, 0, none⟩ (.slice p' n' c'))) := ⟨hwa2, hbel2⟩
              clear hb7 hSS hrp hb8 hTT hrf hb78 hrp8 hrun hrow hwa2 hbel2 hS2 HRN
              go_wp2_with (at_builtin; refine wpList_app rfl _ _ 61 61 rfl rfl _ _ _ _ rfl rfl HRUN.out ?_)
              go_roundg (gk - 1)
              case measure => omega
              case rel => exact ⟨j + 1, _, _, by go_num, by omega, by simp; omega, HFIN.out.1, HWA.out.2.trans HFIN.out.2⟩
    · have HWA : Hid (WorldAt Rep wr w.heap.size w.heap.size lv (.slice none 0 0) [] l 0 ∧ Below w.heap.size w wr) := ⟨hwa, hbel⟩
      have hlv : ∃ pl cl, lv = .slice pl l.length cl := by
        rcases hwa.ownl.2 with ⟨e1, e2⟩ | ⟨g', c', cur, e1, _⟩
        · exact ⟨none, 0, by rw [e1, e2]⟩
        · exact ⟨_, _, e1⟩
      obtain ⟨pl, cl, rfl⟩ := hlv
      have hA := (row_facts' hwa.row).1
      have hl16 : l.length ≤ 16 := by omega
      clear hwa hbel
      by_cases hl0 : l.length = 0
      · have hl0' : ((l.length : Int) == 0) = true := by rw [hl0]; rfl
        go_wp2_with fail
        go_ret
        exact ⟨rfl, HWA.out.2⟩
      · have hl0' : ((l.length : Int) == 0) = false := by
          have : ¬ (l.length : Int) = 0 := by omega
          simpa using this
        go_wp2_with fail
        clear hA hl0'
        obtain ⟨LN, hLN⟩ : ∃ LN, l.length = LN := ⟨_, rfl⟩
        rw [hLN]
        have HLN : Hid (l.length = LN) := hLN
        rw [hLN] at hl16 hl0
        clear hLN
        go_loopg [16] ns (fun k i wr2 => ∃ (j : Nat) (bv : Value) (bag : List ByteArray) (l' : List SideD), i = .int .i64 j ∧ j + k = ns ∧ l'.length = LN ∧ WorldAt Rep wr2 w.heap.size w.heap.size (.slice pl LN cl) bv bag l' (100 * j) ∧ Below w.heap.size w wr2)
        case atStart => exact ⟨0, _, [], l, rfl, by omega, HLN.out, by have h := HWA.out.1; rw [HLN.out] at h; exact h, HWA.out.2⟩
        case round =>
          obtain ⟨q, bv, bag, l', rfl, hqk, hl', hwa, hbel⟩ := hrel
          by_cases hq : q < ns
          · rcases HSCR.out.2 with h0 | ⟨sb, soff, rfl, hcell⟩
            · omega
            · obtain ⟨kd, a, d, str, ha1, ha2, hd1, hd2, k0, k1, k2, k3⟩ := hcell q hq
              have hsbl : sb < w.heap.size := block_lt_of_cell k0
              have m0 : wr.cell? ⟨sb, soff + q * 4, none⟩ = some (.int .i64 kd) := by rw [hbel.cell (p := ⟨sb, soff + q * 4, none⟩) hsbl, k0]
              have m1 : wr.cell? ⟨sb, soff + q * 4 + 1, none⟩ = some (.int .i64 a) := by rw [hbel.cell (p := ⟨sb, soff + q * 4 + 1, none⟩) hsbl, k1]
              have m2 : wr.cell? ⟨sb, soff + q * 4 + 2, none⟩ = some (.int .i64 d) := by rw [hbel.cell (p := ⟨sb, soff + q * 4 + 2, none⟩) hsbl, k2]
              have m3 : wr.cell? ⟨sb, soff + q * 4 + 3, none⟩ = some (.string str) := by rw [hbel.cell (p := ⟨sb, soff + q * 4 + 3, none⟩) hsbl, k3]
              have HQ : Hid (WorldAt Rep wr w.heap.size w.heap.size (.slice pl LN cl) bv bag l' (100 * q) ∧ Below w.heap.size w wr) := ⟨hwa, hbel⟩
              have hmono : Hid (∀ W bv bag l', WorldAt Rep W w.heap.size w.heap.size (.slice pl LN cl) bv bag l' (100 * q) → WorldAt Rep W w.heap.size w.heap.size (.slice pl LN cl) bv bag l' (100 * (q + 1))) := fun W bv bag l' h => ⟨h.base_le, h.wbb, h.row, h.ownl, h.ownb, h.bag64, h.nl, h.nb, h.nlb, fun s hs => by obtain ⟨a1, a2, a3, a4⟩ := h.side s hs; exact ⟨a1, a2, by omega, a4⟩, h.dis⟩
              clear hwa hbel hcell k0 k1 k2 k3
              by_cases hbig : 65536 < str.size
              · have e1 : decide (65536 < (str.size : Int)) = true := by simp; omega
                go_wp2_with fail
                go_roundg (gk - 1)
                case measure => omega
                case rel => exact ⟨q + 1, bv, bag, l', by go_num, by omega, hl', hmono.out _ _ _ _ HQ.out.1, HQ.out.2⟩
              · have e1 : decide (65536 < (str.size : Int)) = false := by simp; omega
                by_cases hkd : up < kd
                · go_wp2_with fail
                  go_roundg (gk - 1)
                  case measure => omega
                  case rel => exact ⟨q + 1, bv, bag, l', by go_num, by omega, hl', hmono.out _ _ _ _ HQ.out.1, HQ.out.2⟩
                · have HST : Hid (Calls Tryz.prog 28 #[.pointer (some ⟨w.heap.size, 0, none⟩), .agg (OpV kd a d str)] wr fun e w' => e = .returned (.bool true) ∧ Stepped Rep wr w.heap.size w.heap.size (.slice pl LN cl) LN (100 * (q + 1)) w') := by
                    by_cases hk1 : kd = 1
                    · subst hk1
                      have h := step_protect C wr w.heap.size w.heap.size (.slice pl LN cl) bv bag l' (100 * q) HQ.out.1 (by omega) (by omega) a d str (by omega) (by omega) ha1 ha2 (HGL.out.below HQ.out.2)
                      rw [hl'] at h
                      exact h
                    by_cases hk2 : kd = 2
                    · subst hk2
                      have h := step_open C wr w.heap.size w.heap.size (.slice pl LN cl) bv bag l' (100 * q) HQ.out.1 (by omega) (by omega) a d str (by omega) (by omega) ha1 ha2 hd1 hd2 (HGL.out.below HQ.out.2)
                      rw [hl'] at h
                      exact h
                    by_cases hk3 : kd = 3
                    · subst hk3
                      have h := step_forge C wr w.heap.size w.heap.size (.slice pl LN cl) bv bag l' (100 * q) HQ.out.1 (by omega) (by omega) a d str (by omega) (by omega) ha1 ha2 (HGL.out.below HQ.out.2)
                      rw [hl'] at h
                      exact h
                    by_cases hk4 : kd = 4
                    · subst hk4
                      have h := step_bent C wr w.heap.size w.heap.size (.slice pl LN cl) bv bag l' (100 * q) HQ.out.1 (by omega) (by omega) a d str (by omega) (by omega) ha1 ha2 hd1 hd2 (HGL.out.below HQ.out.2)
                      rw [hl'] at h
                      exact h
                    by_cases hk5 : kd = 5
                    · subst hk5
                      have h := step_dump C wr w.heap.size w.heap.size (.slice pl LN cl) bv bag l' (100 * q) HQ.out.1 (by omega) (by omega) a d str (by omega) (by omega) ha1 ha2 (HGL.out.below HQ.out.2)
                      rw [hl'] at h
                      exact h
                    by_cases hk6 : kd = 6
                    · subst hk6
                      have h := step_close C wr w.heap.size w.heap.size (.slice pl LN cl) bv bag l' (100 * q) HQ.out.1 (by omega) (by omega) a d str (by omega) (by omega) ha1 ha2 (HGL.out.below HQ.out.2)
                      rw [hl'] at h
                      exact h
                    have h := step_idle C wr w.heap.size w.heap.size (.slice pl LN cl) bv bag l' (100 * (q + 1)) (hmono.out _ _ _ _ HQ.out.1) (by omega) (by omega) kd a d str (by omega) ha1 ha2
                    rw [hl'] at h
                    exact h
                  go_wp2_with fail
                  refine HST.out.mono ?_
                  rintro e w2 ⟨rfl, hb2, bv2, bag2, l2, hl2, hwa2⟩
                  have HF : Hid (WorldAt Rep w2 w.heap.size w.heap.size (.slice pl LN cl) bv2 bag2 l2 (100 * (q + 1)) ∧ Below w.heap.size wr w2) := ⟨hwa2, hb2⟩
                  clear hwa2 hb2 m0 m1 m2 m3 HST
                  go_wp2_with fail
                  go_roundg (gk - 1)
                  case measure => omega
                  case rel => exact ⟨q + 1, bv2, bag2, l2, by go_num, by omega, hl2, HF.out.1, HQ.out.2.trans HF.out.2⟩
          · have HQ : Hid (WorldAt Rep wr w.heap.size w.heap.size (.slice pl LN cl) bv bag l' (100 * q) ∧ Below w.heap.size w wr) := ⟨hwa, hbel⟩
            have hqe : ¬ (q : Int) < ns := by omega
            clear hwa hbel
            go_wp2_with fail
            go_loopg [18] LN (fun k i wr2 => ∃ (j : Nat) (l2 : List SideD), i = .int .i64 j ∧ j + k = LN ∧ l2.length = LN ∧ WorldAt Rep wr2 w.heap.size w.heap.size (.slice pl LN cl) bv bag l2 (100 * q) ∧ Below w.heap.size w wr2)
            case atStart => exact ⟨0, l', rfl, by omega, hl', HQ.out.1, HQ.out.2⟩
            case round =>
              obtain ⟨r, l2, rfl, hrk, hl2, hwa, hbel⟩ := hrel
              have hA := (row_facts' hwa.row).1
              by_cases hr : r < LN
              · have hpi : r < l2.length := by omega
                obtain ⟨lb, cap, hlv, hcap, hlb, hcell⟩ := worldAt_ptr hwa (by omega)
                rw [hl2] at hlv
                cases hlv
                have hci := hcell r hpi
                obtain ⟨sd, hsd⟩ : ∃ sd, (l2[r]'hpi).sb = sd := ⟨_, rfl⟩
                rw [hsd] at hci
                have hdm := dump_any C wr (l2[r]'hpi).sb (l2[r]'hpi).U (l2[r]'hpi).st (l2[r]'hpi).wk (hwa.side _ (List.getElem_mem hpi)).1
                rw [hsd] at hdm
                have HDM : Hid (Calls Tryz.prog 29 #[.pointer (some ⟨sd, 0, none⟩)] wr fun e w' => e = .returned (.bool true) ∧ Outside (l2[r]'hpi).U wr w' ∧ ∃ U', Fresh wr (l2[r]'hpi).U U' ∧ Side Rep w' sd U' (l2[r]'hpi).st (l2[r]'hpi).wk) := hdm
                have HSD : Hid ((l2[r]'hpi).sb = sd) := hsd
                have HW : Hid (WorldAt Rep wr w.heap.size w.heap.size (.slice (some ⟨lb, 0, none⟩) LN cl) bv bag l2 (100 * q) ∧ Below w.heap.size w wr) := ⟨hwa, hbel⟩
                clear hwa hbel hcell hdm hsd
                go_wp2_with fail
                refine HDM.out.mono ?_
                rintro e w2 ⟨rfl, o2, U', f2, s2⟩
                have HF : Hid (WorldAt Rep w2 w.heap.size w.heap.size (.slice (some ⟨lb, 0, none⟩) LN cl) bv bag (l2.set r ⟨(l2[r]'hpi).sb, U', (l2[r]'hpi).st, (l2[r]'hpi).wk⟩) (100 * q) ∧ Below w.heap.size wr w2) := by
                  have hs2 : Side Rep w2 (l2[r]'hpi).sb U' (l2[r]'hpi).st (l2[r]'hpi).wk := by rw [HSD.out]; exact s2
                  have hsd := HW.out.1.side _ (List.getElem_mem hpi)
                  exact ⟨HW.out.1.step C r hpi U' (l2[r]'hpi).st (l2[r]'hpi).wk (100 * q) o2 f2 hs2 hsd.2.2.1 (Nat.le_refl _), o2.toBelow w.heap.size HW.out.1.base_le hsd.2.1⟩
                clear o2 f2 s2 hA hci HDM
                go_wp2_with fail
                go_roundg (gk - 1)
                case measure => omega
                case rel => exact ⟨r + 1, _, by go_num, by omega, by rw [List.length_set]; exact hl2, HF.out.1, HW.out.2.trans HF.out.2⟩
              · have HW : Hid (Below w.heap.size w wr) := hbel
                have hre : ¬ (r : Int) < LN := by omega
                clear hwa hbel
                go_wp2_with fail
                go_ret
                exact ⟨rfl, HW.out⟩
theorem opens_walk {Rep : World → List Nat → Value → St → Nat → Prop} (C : Code Rep) (root : ByteArray) (n : Int) (po : Option Addr) (no co : Nat) (ps : Option Addr) (ns cs : Nat) (hn1 : -9223372036854775808 ≤ n) (hn2 : n ≤ 9223372036854775807) (w : World) (hG : Glob w) (hown : IntsArg w po no co) (hscr : OpsArg2 w ps ns cs) :
    Calls Tryz.prog 4 #[.string root, .int .i64 n, .slice po no co, .slice ps ns cs] w fun e w' => e = .returned (.bool true) ∧ Below w.heap.size w w' := by
  have HP : Hid (∀ W, W = w → Calls Tryz.prog 12 #[.string root, .int .i64 n, .slice po no co, .slice ps ns cs, .int .i64 5] W fun e w' => e = .returned (.bool true) ∧ Below W.heap.size W w') := fun W hW => by
    subst hW
    by_cases hbig : 4096 < ns ∨ 16 < no
    · exact plays_big root n po no co ps ns cs 5 hbig W
    · exact plays_any C root n 5 (by omega) po no co ps ns cs (by omega) (by omega) W hown hscr hG
  clear hown hscr hG
  go_enter Tryz.func4, Tryz.ntmps4
  go_wp2_with fail
  refine (HP.out _ rfl).mono ?_
  rintro e w1 ⟨rfl, b1⟩
  have HB : Hid (Below w.heap.size w w1) := b1
  clear b1 HP
  go_wp2_with fail
  go_ret
  exact ⟨rfl, HB.out⟩
theorem closes_walk {Rep : World → List Nat → Value → St → Nat → Prop} (C : Code Rep) (root : ByteArray) (n : Int) (po : Option Addr) (no co : Nat) (ps : Option Addr) (ns cs : Nat) (hn1 : -9223372036854775808 ≤ n) (hn2 : n ≤ 9223372036854775807) (w : World) (hG : Glob w) (hown : IntsArg w po no co) (hscr : OpsArg2 w ps ns cs) :
    Calls Tryz.prog 5 #[.string root, .int .i64 n, .slice po no co, .slice ps ns cs] w fun e w' => e = .returned (.bool true) ∧ Below w.heap.size w w' := by
  have HP : Hid (∀ W, W = w → Calls Tryz.prog 12 #[.string root, .int .i64 n, .slice po no co, .slice ps ns cs, .int .i64 6] W fun e w' => e = .returned (.bool true) ∧ Below W.heap.size W w') := fun W hW => by
    subst hW
    by_cases hbig : 4096 < ns ∨ 16 < no
    · exact plays_big root n po no co ps ns cs 6 hbig W
    · exact plays_any C root n 6 (by omega) po no co ps ns cs (by omega) (by omega) W hown hscr hG
  clear hown hscr hG
  go_enter Tryz.func5, Tryz.ntmps5
  go_wp2_with fail
  refine (HP.out _ rfl).mono ?_
  rintro e w1 ⟨rfl, b1⟩
  have HB : Hid (Below w.heap.size w w1) := b1
  clear b1 HP
  go_wp2_with fail
  go_ret
  exact ⟨rfl, HB.out⟩
end Go.Proofs.YtkpebabbnndopaaGreatDoor

/- A script among a law's arguments, with the bounds of its numbers. -/
namespace Go.Proofs.YtkpebabbnndopaaGreatDoor
open Go.ChangeShapes Go.WideShapes Go.ChangeAt Go.RowKit

theorem ops_arg2 {H : Type} {enc : TypeId × Value → H} {W : World} {a0 : Option Addr} {len cap : Nat} {d : DataW H} {p : List MemPlace} (h : DataW.Trod enc Tryz.prog W 0 (fun _ => true) true 23 (.slice a0 len cap) d p) : OpsArg2 W a0 len cap := by
  obtain ⟨fuel, hf⟩ := h
  have hce : Tryz.prog.cellsOf 73 = 4 := by kernel_rfl
  have hci : Tryz.prog.cellsOf 3 = 1 := by kernel_rfl
  have hcs : Tryz.prog.cellsOf 9 = 1 := by kernel_rfl
  have hst : Tryz.prog.underlying 73 = some (.struct (Tryz.prog.fieldsOf 73)) := by kernel_rfl
  have hF : (Tryz.prog.fieldsOf 73).toList.map (fun f => (f.type, f.offset)) = [(3, 0), (3, 1), (3, 2), (9, 3)] := by kernel_rfl
  rcases Go.Deep.open_slice Tryz.underlying23 hf with ⟨e, _⟩ | ⟨a, l, c, m, n, D, Pl, e, _, hle, _, hm, _, hx⟩
  · simp [Value.cells] at e
    obtain ⟨rfl, rfl, rfl⟩ := e
    exact ⟨Nat.le_refl _, .inl rfl⟩
  · simp [Value.cells] at e
    obtain ⟨rfl, rfl, rfl⟩ := e
    rw [if_pos rfl] at hm
    refine ⟨hle, ?_⟩
    by_cases h0 : len = 0
    · exact .inl h0
    · rw [hce] at hx
      have ha : a = ⟨a.block, a.off, none⟩ := by
        obtain ⟨cs', h1, h2⟩ := hx 0 (by omega)
        obtain ⟨_, hlen, hcell⟩ := World.cells?_some h1
        have h3 := hcell 0 (by omega)
        obtain ⟨v, hv⟩ : ∃ v, cs'[0]? = some v := ⟨_, List.getElem?_eq_getElem (by omega)⟩
        rw [hv] at h3
        exact spot_none (show W.cell? a = some v from h3)
      refine .inr ⟨a.block, a.off, by rw [← ha], fun i hi => ?_⟩
      obtain ⟨cs', h1, h2⟩ := hx i (by omega)
      obtain ⟨_, hlen, hcell⟩ := World.cells?_some h1
      obtain ⟨xs, k, hk, hxy, _, hxl, hfd⟩ := DataW.trod_struct hst h2
      have hfs : (Tryz.prog.fieldsOf 73).size = 4 := by
        have := congrArg List.length hF
        simpa using this
      rw [hfs] at hxl
      rw [ha, add_none] at hcell
      have one : ∀ j (hj : j < 4) ft, ((Tryz.prog.fieldsOf 73).toList.map (fun f => (f.type, f.offset)))[j]? = some (ft, j) → Tryz.prog.cellsOf ft = 1 → ∃ y, DataW.trod enc Tryz.prog W 0 (fun _ => true) true k ft ((cs'.drop j).take 1) = some y := fun j hj ft hft hc1 => by
        obtain ⟨f, g1, g2, g3⟩ := field_at _ j ft j hft
        have g4 := hfd j f g1
        rw [g2, g3, hc1] at g4
        exact ⟨xs[j]'(by omega), by rw [g4]; exact List.getElem?_eq_getElem (by omega)⟩
      have cellj : ∀ j (hj : j < 4) v, (cs'.drop j).take 1 = [v] → W.cell? ⟨a.block, a.off + i * 4 + j, none⟩ = some v := fun j hj v hv => by
        have h5 := hcell j (by omega)
        rw [add_none] at h5
        rw [h5]
        have h6 : ((cs'.drop j).take 1)[0]? = some v := by rw [hv]; rfl
        rw [List.getElem?_take] at h6
        simpa using h6
      obtain ⟨y0, t0⟩ := one 0 (by omega) 3 (by rw [hF]; rfl) hci
      obtain ⟨y1, t1⟩ := one 1 (by omega) 3 (by rw [hF]; rfl) hci
      obtain ⟨y2, t2⟩ := one 2 (by omega) 3 (by rw [hF]; rfl) hci
      obtain ⟨y3, t3⟩ := one 3 (by omega) 9 (by rw [hF]; rfl) hcs
      obtain ⟨n0, c0, _, _⟩ := DataW.trod_int Tryz.underlying3 t0
      obtain ⟨n1, c1, _, w1⟩ := DataW.trod_int Tryz.underlying3 t1
      obtain ⟨n2, c2, _, w2⟩ := DataW.trod_int Tryz.underlying3 t2
      obtain ⟨s3, c3, _, _⟩ := DataW.trod_string Tryz.underlying9 t3
      have b1 := Go.bounds_i64 w1
      have b2 := Go.bounds_i64 w2
      exact ⟨n0, n1, n2, s3, b1.1, b1.2, b2.1, b2.2, cellj 0 (by omega) _ c0, cellj 1 (by omega) _ c1, cellj 2 (by omega) _ c2, cellj 3 (by omega) _ c3⟩
end Go.Proofs.YtkpebabbnndopaaGreatDoor
