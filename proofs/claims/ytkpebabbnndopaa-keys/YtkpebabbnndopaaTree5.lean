/- halve. -/
import Derived.Test.YtkpebabbnndopaaTree4
import Derived.Test.YtkpebabbnndopaaHalves
import Derived.Test.YtkpebabbnndopaaTreeP
import Derived.Deep.RegionHeld3
import Derived.WalkKit
import Derived.WalkSpells
import Derived.WalkLawsBesides
import Derived.Deep.WholeRow
import Derived.Deep.MidRow
import Derived.Deep.DeepCutAuto
import Derived.BigRegion
namespace Go.Proofs.Ytkpebabbnndopaa
open Go.RowKit
set_option linter.unusedVariables false

abbrev SH (B : Nat) (L R : Array Value) (W : World) : Prop := (∀ i, W.cell? ⟨B, i, none⟩ = L[i]?) ∧ (∀ i, W.cell? ⟨B + 1, i, none⟩ = R[i]?)
theorem SH.drew {B : Nat} {L R : Array Value} {W : World} (h : SH B L R W) : SH B L R W.drew := h
theorem SH.set {B : Nat} {L R : Array Value} {W : World} (h : SH B L R W) (b o : Nat) (v : Value) (h1 : B ≠ b) (h2 : B + 1 ≠ b) : SH B L R (W.setCell ⟨b, o, none⟩ v) := by
  obtain ⟨a1, a2⟩ := h
  refine ⟨fun i => ?_, fun i => ?_⟩
  · rw [← a1 i]; exact World.cell?_of_block (w := W) (Below.heap_setCell _ _ _ _ h1)
  · rw [← a2 i]; exact World.cell?_of_block (w := W) (Below.heap_setCell _ _ _ _ h2)

theorem setCell_drew (w : World) (a : Addr) (v : Value) : (w.setCell a v).drew = w.drew.setCell a v := rfl
theorem two_rows (w : World) (b P : Nat) (v0 v1 v2 v3 v4 v5 v6 v7 v8 v9 u0 u1 u2 u3 u4 u5 u6 u7 u8 u9 : Value) : (((((((((((((((((((((w).setCell ⟨b, P, none⟩ v0).setCell ⟨b, P + 1, none⟩ v1).setCell ⟨b, P + 2, none⟩ v2).setCell ⟨b, P + 3, none⟩ v3).setCell ⟨b, P + 4, none⟩ v4).setCell ⟨b, P + 5, none⟩ v5).setCell ⟨b, P + 6, none⟩ v6).setCell ⟨b, P + 7, none⟩ v7).setCell ⟨b, P + 8, none⟩ v8).setCell ⟨b, P + 9, none⟩ v9).setCell ⟨b, P + 10, none⟩ u0).setCell ⟨b, P + 11, none⟩ u1).setCell ⟨b, P + 12, none⟩ u2).setCell ⟨b, P + 13, none⟩ u3).setCell ⟨b, P + 14, none⟩ u4).setCell ⟨b, P + 15, none⟩ u5).setCell ⟨b, P + 16, none⟩ u6).setCell ⟨b, P + 17, none⟩ u7).setCell ⟨b, P + 18, none⟩ u8).setCell ⟨b, P + 19, none⟩ u9).drew = (w.drew.setCells b P [v0, v1, v2, v3, v4, v5, v6, v7, v8, v9]).setCells b (P + 10) [u0, u1, u2, u3, u4, u5, u6, u7, u8, u9] := by
  simp only [World.setCells, setCell_drew, Nat.add_assoc, Nat.reduceAdd]
theorem index_at (b o j : Nat) (hj : j < 16) : ∀ W, (Instr.indexAt 54 (.pointer (some ⟨b, o, none⟩)) (.int .i64 j)).run Try.prog W = .ok (.pointer (some ⟨b, o + j * 10, none⟩)) W := fun W => by
  have h0 : (0 : Int) ≤ j := by omega
  have h1 : (j : Int) < 16 := by omega
  simp [go_sem, h0, h1]
set_option maxHeartbeats 4000000 in
theorem halve_any {F : FuncId} {pre : Array Value} {q : Option Nat} (dv : Drv F pre q) (b o : Nat) (t : TypeId) (cs : Array Value) (A B : List PartD) (p : PartD) (w : World) (h : Home q b t cs w) (hT : TreeAt cs o (A ++ p :: B)) (hp : p.f + 2 ≤ p.t) (hlen : (A ++ p :: B).length ≤ 15) (hf : q ≠ none → o + 161 ≤ ctrOff) :
    Calls Try.prog 39 #[.pointer (some ⟨b, o, none⟩), .int .i64 A.length, .func (.func F) pre #[]] w fun e w' => e = .returned (.tuple #[]) ∧ ∃ cs', Upd q 2 b o 161 t cs w w' cs' ∧ TreeAt cs' o (A ++ p.left :: p.right :: B) := by
  obtain ⟨_, pt, ps⟩ := hT.ok p (List.mem_append_right _ List.mem_cons_self)
  have hsp := SplitI_bd ((p.t : Int) - p.f) (by omega)
  have e1 : ((p.t - p.f : Nat) : Int) = (p.t : Int) - p.f := by omega
  have HH : Hid (∀ W, Has q W → Calls Try.prog 47 #[AggP p.f p.t p.s, .func (.func F) pre #[]] W fun e w' => e = .returned (.tuple #[AggP p.left.f p.left.t p.left.s, AggP p.right.f p.right.t p.right.s]) ∧ Tick q 2 W w') := fun W hW => by
    have := halves_any dv p.f p.t p.s ps (by omega) (by omega) (by omega) W hW
    have e2 : (p.f : Int) + SplitI ((p.t : Int) - p.f) = ((p.f + SplitN (p.t - p.f) : Nat) : Int) := by rw [← e1, SplitN_eq]; omega
    rw [e2] at this
    exact this
  have hLR : p.left.f ≤ p.left.t ∧ p.left.t ≤ 16 ∧ p.right.f ≤ p.right.t ∧ p.right.t ≤ 16 := by
    have := halves_bd p (by omega)
    omega
  have hLb : ∀ i, 0 ≤ p.left.s i ∧ p.left.s i < 256 := DerB_bd _ _ _
  have hRb : ∀ i, 0 ≤ p.right.s i ∧ p.right.s i < 256 := DerB_bd _ _ _
  generalize p.left = l at *
  generalize p.right = r at *
  clear hsp e1
  have hsz := hT.size
  rw [List.length_append, List.length_cons] at hlen
  obtain ⟨i, hi⟩ : ∃ i, A.length = i := ⟨_, rfl⟩
  obtain ⟨n, hn⟩ : ∃ n, B.length = n := ⟨_, rfl⟩
  rw [hi, hn] at hlen
  have HP : Hid (w.rangeAt b (o + i * 10) (CellsP p.f p.t p.s).toList) := by
    have := hT.part
    rw [hi, Nat.mul_comm] at this
    exact h.range this
  have hcf := dv.enter
  have HQ : Hid (Has q w) := h.has
  have HLT : Hid (b < w.heap.size) := h.lt
  obtain ⟨pf, hpf⟩ : ∃ f : Int, (p.f : Int) = f := ⟨_, rfl⟩
  obtain ⟨pq, hpq⟩ : ∃ f : Int, (p.t : Int) = f := ⟨_, rfl⟩
  obtain ⟨px, hpx⟩ : ∃ s, p.s = s := ⟨_, rfl⟩
  rw [hpf, hpq, hpx] at HP HH
  obtain ⟨lf, hlf⟩ : ∃ f : Int, (l.f : Int) = f := ⟨_, rfl⟩
  obtain ⟨lt, hlt⟩ : ∃ f : Int, (l.t : Int) = f := ⟨_, rfl⟩
  obtain ⟨ls, hls⟩ : ∃ s, l.s = s := ⟨_, rfl⟩
  obtain ⟨rf, hrf⟩ : ∃ f : Int, (r.f : Int) = f := ⟨_, rfl⟩
  obtain ⟨rt, hrt⟩ : ∃ f : Int, (r.t : Int) = f := ⟨_, rfl⟩
  obtain ⟨rs, hrs⟩ : ∃ s, r.s = s := ⟨_, rfl⟩
  rw [hlf, hlt, hls, hrf, hrt, hrs] at HH
  have hlc : l.cells = (CellsP lf lt ls).toList := by unfold PartD.cells; rw [hlf, hlt, hls]
  have hrc : r.cells = (CellsP rf rt rs).toList := by unfold PartD.cells; rw [hrf, hrt, hrs]
  -- everything behind the call of halves, told of its world
  have key : ∀ w1, Tick q 2 w w1 → ∃ w2 w4 w5 cs5, (∀ dc sc ty, (Builtin.copy_ #[80, 80] ty #[.slice (some ⟨b, o + (i + 1) * 10, none⟩) (16 - (i + 1)) dc, .slice (some ⟨b, o + i * 10, none⟩) (n + 1) sc]).run Try.prog ((w1.alloc (.cells (CellsP lf lt ls) 53)).alloc (.cells (CellsP rf rt rs) 53)).drew = .ok (goInt (n + 1)) w2) ∧
      ((w1.alloc (.cells (CellsP lf lt ls) 53)).alloc (.cells (CellsP rf rt rs) 53)).cell? ⟨b, o + 160, none⟩ = some (.int .i64 ((i + n + 1 : Nat) : Int)) ∧
      w2.heap[w1.heap.size]? = some (.cells (CellsP lf lt ls) 53 (0, 0)) ∧ w2.heap[w1.heap.size + 1]? = some (.cells (CellsP rf rt rs) 53 (0, 0)) ∧
      (∃ x : Nat → Value, ∀ j, j < 20 → w2.cell? ⟨b, o + i * 10 + j, none⟩ = some (x j)) ∧ (∀ j, w2.frozen? ⟨b, j, none⟩ = false) ∧
      (w2.drew.setCells b (o + i * 10) (CellsP lf lt ls).toList).setCells b (o + i * 10 + 10) (CellsP rf rt rs).toList = w4 ∧
      w4.cell? ⟨b, o + 160, none⟩ = some (.int .i64 ((i + n + 1 : Nat) : Int)) ∧ (∀ j, w4.frozen? ⟨b, j, none⟩ = false) ∧ w4.setCell ⟨b, o + 160, none⟩ (.int .i64 ((i + n + 2 : Nat) : Int)) = w5 ∧ Upd q 2 b o 161 t cs w w5 cs5 ∧ TreeAt cs5 o (A ++ l :: r :: B) := by
    intro w1 ht
    obtain ⟨cs1, v1⟩ := h.tick ht
    have u1 : Upd q 2 b o 161 t cs w w1 cs1 := ⟨v1.outq, v1.home, v1.mv.ofNone o, v1.tk⟩
    have T1 : TreeAt cs1 o (A ++ p :: B) := hT.mv v1.mv hf
    have hs1 : cs1.size = cs.size := u1.mv.size
    have hb1 : b < w1.heap.size := u1.home.lt
    obtain ⟨wa, hwa⟩ : ∃ wa, ((w1.alloc (.cells (CellsP lf lt ls) 53)).alloc (.cells (CellsP rf rt rs) 53)) = wa := ⟨_, rfl⟩
    have ba : Below w1.heap.size w1 wa := by rw [← hwa]; exact ((Below.refl _ w1).alloc (Nat.le_refl _) _).alloc (by simp) _
    have ra : wa.heap[w1.heap.size]? = some (.cells (CellsP lf lt ls) 53 (0, 0)) := by rw [← hwa, Below.heap_alloc _ _ _ (by simp), (MapKept.heap_alloc _ _).1]
    have rb : wa.heap[w1.heap.size + 1]? = some (.cells (CellsP rf rt rs) 53 (0, 0)) := by
      rw [← hwa]
      have e := (MapKept.heap_alloc (w1.alloc (.cells (CellsP lf lt ls) 53)) (.cells (CellsP rf rt rs) 53)).1
      simp only [World.size_alloc] at e
      exact e
    have ua := u1.below ba
    have ud : Upd q 2 b o 161 t cs w wa.drew cs1 := ua.below (Below.refl _ _).drew
    rw [hwa]
    have hM := T1.parts
    rw [pcells_append] at hM
    obtain ⟨hA1, hM1⟩ := AtL.append.1 hM
    rw [pcells_len, hi, show o + 10 * i = o + i * 10 by omega] at hM1
    have hml : (p :: B).length = n + 1 := by rw [List.length_cons, hn]
    have hcp := fun dc sc ty => run_copy_parts q b o t cs1 wa.drew ud.home i (i + 1) (p :: B) hM1 (by omega) (by omega) dc sc ty
    rw [hml] at hcp
    -- behind the copy
    obtain ⟨w2, hw2⟩ : ∃ w2, wa.drew.setCells b (o + (i + 1) * 10) (pcells (p :: B)) = w2 := ⟨_, rfl⟩
    obtain ⟨cs2, hcs2⟩ : ∃ cs2, putL cs1 (o + (i + 1) * 10) (pcells (p :: B)) = cs2 := ⟨_, rfl⟩
    have hpl : (pcells (p :: B)).length = 10 * (n + 1) := by rw [pcells_len, hml]
    have u2 : Upd q 2 b o 161 t cs w w2 cs2 := by
      rw [← hw2, ← hcs2]
      exact ud.setCells hf _ _ (by omega) (by omega) (pcells_all _)
    have A2 : AtL cs2 o (pcells A) := by rw [← hcs2]; exact hA1.putOther _ _ (.inr (by rw [pcells_len, hi]; omega))
    have B2 : AtL cs2 (o + (i + 2) * 10) (pcells B) := by
      have := putL_at (pcells (p :: B)) cs1 (o + (i + 1) * 10) (by omega)
      rw [pcells_cons] at this
      have h2 := (AtL.append.1 this).2
      rw [PartD.cells_len, show o + (i + 1) * 10 + 10 = o + (i + 2) * 10 by omega] at h2
      rw [← hcs2, pcells_cons]
      exact h2
    have N2 : cs2[o + 160]? = some (.int .i64 ((i + n + 1 : Nat) : Int)) := by
      rw [← hcs2, putL_out _ _ _ _ (.inr (by omega)), T1.count, List.length_append, List.length_cons, hi, hn]; rfl
    have S2 : cs2.size = cs.size := by rw [← hcs2, putL_size, hs1]
    have e2 := setCells_row (pcells (p :: B)) wa.drew b (o + (i + 1) * 10) cs1 t ud.home.row
    rw [hw2] at e2
    have ra2 : w2.heap[w1.heap.size]? = some (.cells (CellsP lf lt ls) 53 (0, 0)) := by rw [e2, setRow_other _ _ _ _ (by omega)]; exact ra
    have rb2 : w2.heap[w1.heap.size + 1]? = some (.cells (CellsP rf rt rs) 53 (0, 0)) := by rw [e2, setRow_other _ _ _ _ (by omega)]; exact rb
    rw [hw2] at hcp
    clear hcs2
    have ud2 : Upd q 2 b o 161 t cs w w2.drew cs2 := u2.below (Below.refl _ _).drew
    -- the left half
    have u3 := ud2.setCells hf (o + i * 10) (CellsP lf lt ls).toList (by omega) (by show o + i * 10 + 10 ≤ _; omega)
    obtain ⟨cs3, hcs3⟩ : ∃ cs3, putL cs2 (o + i * 10) (CellsP lf lt ls).toList = cs3 := ⟨_, rfl⟩
    have A3 : AtL cs3 o (pcells A) := by rw [← hcs3]; exact A2.putOther _ _ (.inr (by rw [pcells_len, hi]; omega))
    have L3 : AtL cs3 (o + i * 10) l.cells := by rw [← hcs3, hlc]; exact putL_at _ _ _ (by show o + i * 10 + 10 ≤ _; omega)
    have B3 : AtL cs3 (o + (i + 2) * 10) (pcells B) := by rw [← hcs3]; exact B2.putOther _ _ (.inl (by show o + i * 10 + 10 ≤ _; omega))
    have N3 : cs3[o + 160]? = some (.int .i64 ((i + n + 1 : Nat) : Int)) := by rw [← hcs3, putL_out _ _ _ _ (.inr (by show o + i * 10 + 10 ≤ _; omega)), N2]
    have S3 : cs3.size = cs.size := by rw [← hcs3, putL_size, S2]
    obtain ⟨w3, hw3⟩ : ∃ w3, w2.drew.setCells b (o + i * 10) (CellsP lf lt ls).toList = w3 := ⟨_, rfl⟩
    rw [hw3] at u3
    rw [hcs3] at u3
    clear hcs3
    -- the right half
    have u4 := u3.setCells hf (o + (i + 1) * 10) (CellsP rf rt rs).toList (by omega) (by show o + (i + 1) * 10 + 10 ≤ _; omega)
    obtain ⟨cs4, hcs4⟩ : ∃ cs4, putL cs3 (o + (i + 1) * 10) (CellsP rf rt rs).toList = cs4 := ⟨_, rfl⟩
    have A4 : AtL cs4 o (pcells A) := by rw [← hcs4]; exact A3.putOther _ _ (.inr (by rw [pcells_len, hi]; omega))
    have L4 : AtL cs4 (o + i * 10) l.cells := by rw [← hcs4]; exact L3.putOther _ _ (.inr (by rw [PartD.cells_len]; omega))
    have R4 : AtL cs4 (o + (i + 1) * 10) r.cells := by rw [← hcs4, hrc]; exact putL_at _ _ _ (by show o + (i + 1) * 10 + 10 ≤ _; omega)
    have B4 : AtL cs4 (o + (i + 2) * 10) (pcells B) := by rw [← hcs4]; exact B3.putOther _ _ (.inl (by show o + (i + 1) * 10 + 10 ≤ _; omega))
    have N4 : cs4[o + 160]? = some (.int .i64 ((i + n + 1 : Nat) : Int)) := by rw [← hcs4, putL_out _ _ _ _ (.inr (by show o + (i + 1) * 10 + 10 ≤ _; omega)), N3]
    have S4 : cs4.size = cs.size := by rw [← hcs4, putL_size, S3]
    obtain ⟨w4, hw4⟩ : ∃ w4, w3.setCells b (o + (i + 1) * 10) (CellsP rf rt rs).toList = w4 := ⟨_, rfl⟩
    have hw34 : (w2.drew.setCells b (o + i * 10) (CellsP lf lt ls).toList).setCells b (o + i * 10 + 10) (CellsP rf rt rs).toList = w4 := by rw [hw3, show o + i * 10 + 10 = o + (i + 1) * 10 by omega, hw4]
    rw [hw4] at u4
    rw [hcs4] at u4
    clear hw4 hcs4
    have P4 : AtL cs4 o (pcells (A ++ l :: r :: B)) := by
      rw [pcells_append, pcells_cons, pcells_cons]
      refine AtL.append.2 ⟨A4, ?_⟩
      rw [pcells_len, hi, show o + 10 * i = o + i * 10 by omega]
      refine AtL.append.2 ⟨L4, ?_⟩
      rw [PartD.cells_len, show o + i * 10 + 10 = o + (i + 1) * 10 by omega]
      refine AtL.append.2 ⟨R4, ?_⟩
      rw [PartD.cells_len, show o + (i + 1) * 10 + 10 = o + (i + 2) * 10 by omega]
      exact B4
    have hll : (A ++ l :: r :: B).length = i + n + 2 := by simp only [List.length_append, List.length_cons, hi, hn]; omega
    refine ⟨w2, w4, _, _, hcp, by rw [ua.home.cells.1, T1.count, List.length_append, List.length_cons, hi, hn]; rfl, ra2, rb2, ⟨fun j => (cs2[o + i * 10 + j]?).getD (.bool false), fun j hj => by rw [u2.home.cells.1]; simp only; rw [Array.getElem?_eq_getElem (by omega)]; rfl⟩, u2.home.cells.2, hw34, by rw [u4.home.cells.1, N4], u4.home.cells.2, rfl, u4.setCell hf (o + 160) (by omega) (by omega) _, ?_⟩
    refine ⟨by omega, fun j v hv => ?_, ?_, ?_⟩
    · have hj := (List.getElem?_eq_some_iff.1 hv).1
      rw [pcells_len, hll] at hj
      rw [Array.getElem?_setIfInBounds, if_neg (by omega)]
      exact P4 j v hv
    · rw [Array.getElem?_setIfInBounds, if_pos rfl, if_pos (by omega), hll]
    · intro x hx
      rcases List.mem_append.1 hx with hx | hx
      · exact hT.ok x (List.mem_append_left _ hx)
      · rcases List.mem_cons.1 hx with rfl | hx
        · exact ⟨hLR.1, hLR.2.1, hLb⟩
        · rcases List.mem_cons.1 hx with rfl | hx
          · exact ⟨hLR.2.2.1, hLR.2.2.2, hRb⟩
          · exact hT.ok x (List.mem_append_right _ (List.mem_cons_of_mem _ hx))
  have s1 := slice_from b o (i + 1) (by omega)
  have s2 := slice_upto b o i (i + n + 1) (by omega) (by omega)
  rw [if_neg (show ¬ 16 = i by omega), show i + n + 1 - i = n + 1 by omega] at s2
  rw [hi]
  have HK : Hid (∀ w1, Tick q 2 w w1 → ∃ w2 w4 w5 cs5, (∀ dc sc ty, (Builtin.copy_ #[80, 80] ty #[.slice (some ⟨b, o + (i + 1) * 10, none⟩) (16 - (i + 1)) dc, .slice (some ⟨b, o + i * 10, none⟩) (n + 1) sc]).run Try.prog ((w1.alloc (.cells (CellsP lf lt ls) 53)).alloc (.cells (CellsP rf rt rs) 53)).drew = .ok (goInt (n + 1)) w2) ∧
      ((w1.alloc (.cells (CellsP lf lt ls) 53)).alloc (.cells (CellsP rf rt rs) 53)).cell? ⟨b, o + 160, none⟩ = some (.int .i64 ((i + n + 1 : Nat) : Int)) ∧
      w2.heap[w1.heap.size]? = some (.cells (CellsP lf lt ls) 53 (0, 0)) ∧ w2.heap[w1.heap.size + 1]? = some (.cells (CellsP rf rt rs) 53 (0, 0)) ∧
      (∃ x : Nat → Value, ∀ j, j < 20 → w2.cell? ⟨b, o + i * 10 + j, none⟩ = some (x j)) ∧ (∀ j, w2.frozen? ⟨b, j, none⟩ = false) ∧
      (w2.drew.setCells b (o + i * 10) (CellsP lf lt ls).toList).setCells b (o + i * 10 + 10) (CellsP rf rt rs).toList = w4 ∧
      w4.cell? ⟨b, o + 160, none⟩ = some (.int .i64 ((i + n + 1 : Nat) : Int)) ∧ (∀ j, w4.frozen? ⟨b, j, none⟩ = false) ∧ w4.setCell ⟨b, o + 160, none⟩ (.int .i64 ((i + n + 2 : Nat) : Int)) = w5 ∧ Upd q 2 b o 161 t cs w w5 cs5 ∧ TreeAt cs5 o (A ++ l :: r :: B)) := key
  obtain ⟨I, hI⟩ : ∃ I : Int, ((i : Nat) : Int) = I := ⟨_, rfl⟩
  obtain ⟨J, hJ⟩ : ∃ J : Int, ((i + 1 : Nat) : Int) = J := ⟨_, rfl⟩
  obtain ⟨C, hC⟩ : ∃ C : Int, ((i + n + 1 : Nat) : Int) = C := ⟨_, rfl⟩
  obtain ⟨D, hD⟩ : ∃ D : Int, ((i + n + 2 : Nat) : Int) = D := ⟨_, rfl⟩
  have a1 : IntKind.i64.wrap (I + 1) = J := by rw [IntKind.wrap_i64]; omega
  have a2 : wrap64 (I + 1) = J := by simp only [wrap64]; omega
  have a3 : IntKind.i64.wrap (C + 1) = D := by rw [IntKind.wrap_i64]; omega
  have a4 : wrap64 (C + 1) = D := by simp only [wrap64]; omega
  have ix1 := index_at b o i (by omega)
  have ix2 := index_at b o (i + 1) (by omega)
  rw [hI] at ix1
  rw [hJ] at ix2
  rw [hI] at s2 ⊢
  rw [hJ] at s1
  rw [hC] at s2 HK
  rw [hD] at HK
  obtain ⟨Q, hQ⟩ : ∃ Q : Nat, 16 - (i + 1) = Q := ⟨_, rfl⟩
  rw [hQ] at s1 HK
  clear hI hJ hC hD key hQ
  clear hT h hf hsz hlen hi hn hLR hLb hRb hpf hpq hpx hlf hlt hls hrf hrt hrs hlc hrc hp ps pt
  go_enter Try.func39, Try.ntmps39
  go_wp2_with (refine wpList_load_mid rfl 53 _ rfl b (o + i * 10) rfl (CellsP pf pq px).toList _ HP.out Try.underlying53 rfl (by kernel_rfl) ?_)
  refine (HH.out _ HQ.out).mono ?_
  rintro e w1 ⟨rfl, ht⟩
  obtain ⟨w2, w4, w5, cs5, k1, k2, k3, k4, ⟨x, k5⟩, k6, k6b, k7, k8, k9, k10, k11⟩ := HK.out w1 ht
  have HU : Hid (Upd q 2 b o 161 t cs w w5 cs5) := k10
  have HT5 : Hid (TreeAt cs5 o (A ++ l :: r :: B)) := k11
  have HW4 : Hid ((w2.drew.setCells b (o + i * 10) (CellsP lf lt ls).toList).setCells b (o + i * 10 + 10) (CellsP rf rt rs).toList = w4) := k6b
  obtain ⟨m3, _⟩ := row_facts k3
  obtain ⟨m4, _⟩ := row_facts k4
  have hn1 : ¬ (w1.heap.size = b) := by have := ht.size; have := HLT.out; omega
  have hn2 : ¬ (w1.heap.size + 1 = b) := by have := ht.size; have := HLT.out; omega
  have hn3 : ¬ (b = w1.heap.size) := by omega
  have hn4 : ¬ (b = w1.heap.size + 1) := by omega
  have HX : Hid (∀ j, j < 20 → w2.cell? ⟨b, o + i * 10 + j, none⟩ = some (x j)) := k5
  clear ht HK HH HP k10 k11 k3 k4 k6b k5
  go_wp2_with fail
  go_region
  have hpp : o + (i + 1) * 10 = o + i * 10 + 10 := by omega
  rw [hpp] at ix2
  obtain ⟨P1, hP1⟩ : ∃ P1, o + i * 10 = P1 := ⟨_, rfl⟩
  rw [hP1] at ix1 ix2 HX HW4
  clear hpp s1 s2 k1 k2
  have c0 := HX.out 0 (by omega); have c1 := HX.out 1 (by omega); have c2 := HX.out 2 (by omega); have c3 := HX.out 3 (by omega); have c4 := HX.out 4 (by omega); have c5 := HX.out 5 (by omega); have c6 := HX.out 6 (by omega); have c7 := HX.out 7 (by omega); have c8 := HX.out 8 (by omega); have c9 := HX.out 9 (by omega)
  have d0 := HX.out 10 (by omega); have d1 := HX.out 11 (by omega); have d2 := HX.out 12 (by omega); have d3 := HX.out 13 (by omega); have d4 := HX.out 14 (by omega); have d5 := HX.out 15 (by omega); have d6 := HX.out 16 (by omega); have d7 := HX.out 17 (by omega); have d8 := HX.out 18 (by omega); have d9 := HX.out 19 (by omega)
  rw [Nat.add_zero] at c0
  go_upto_region 2 with fail
  go_cut [] (fun wx => wx = w4)
  case first =>
    clear k7 k8 k9
    have hsh : SH w1.heap.size (CellsP lf lt ls) (CellsP rf rt rs) w2 := ⟨m3, m4⟩
    clear m3 m4
    go_region_held3 (fun W => SH w1.heap.size (CellsP lf lt ls) (CellsP rf rt rs) W) ((with_reducible first | exact hsh.drew | (refine SH.drew (SH.set (SH.set (SH.set (SH.set (SH.set (SH.set (SH.set (SH.set (SH.set (SH.set ?_ _ _ _ hn1 hn2) _ _ _ hn1 hn2) _ _ _ hn1 hn2) _ _ _ hn1 hn2) _ _ _ hn1 hn2) _ _ _ hn1 hn2) _ _ _ hn1 hn2) _ _ _ hn1 hn2) _ _ _ hn1 hn2) _ _ _ hn1 hn2); assumption) | (refine SH.drew (SH.set (SH.set (SH.set (SH.set (SH.set (SH.set (SH.set (SH.set (SH.set (SH.set (SH.set (SH.set (SH.set (SH.set (SH.set (SH.set (SH.set (SH.set (SH.set (SH.set ?_ _ _ _ hn1 hn2) _ _ _ hn1 hn2) _ _ _ hn1 hn2) _ _ _ hn1 hn2) _ _ _ hn1 hn2) _ _ _ hn1 hn2) _ _ _ hn1 hn2) _ _ _ hn1 hn2) _ _ _ hn1 hn2) _ _ _ hn1 hn2) _ _ _ hn1 hn2) _ _ _ hn1 hn2) _ _ _ hn1 hn2) _ _ _ hn1 hn2) _ _ _ hn1 hn2) _ _ _ hn1 hn2) _ _ _ hn1 hn2) _ _ _ hn1 hn2) _ _ _ hn1 hn2) _ _ _ hn1 hn2); assumption))) ((fail))
    all_goals
      go_wp2_with fail
      go_meet
      rw [two_rows]
      exact HW4.out
  case rest =>
    subst hcut
    go_wp2_with fail
    go_end0
    exact ⟨rfl, cs5, HU.out, HT5.out⟩
end Go.Proofs.Ytkpebabbnndopaa
