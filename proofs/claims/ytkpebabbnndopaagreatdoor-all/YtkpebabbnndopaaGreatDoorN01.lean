import Derived.Test.YtkpebabbnndopaaGreatDoorG08
import Derived.Test.YtkpebabbnndopaaGreatDoorG01
import Derived.WalkKit
import Derived.Maps.AppendAt
import Derived.Laws.OwnMore
import Derived.WalkSpells
import Derived.WalkLawsBesides
import Derived.Deep.DeepCutAuto
import Derived.BigQuiet
import Derived.Deep.RegionHeld3
import Derived.Deep.LoopGhost
import Derived.Test.YtkpebabbnndopaaGreatDoorC14
import Derived.Deep.WholeRow
import Derived.BigRegion
import Derived.Deep.QuietTactic
import Derived.Test.YtkpebabbnndopaaGreatDoorRows
import Derived.Test.YtkpebabbnndopaaGreatDoorC08
import Derived.Test.YtkpebabbnndopaaGreatDoorC13
import Derived.ProofKit
import Derived.OpenShut
import Derived.ChangeSlices
import Derived.Deep.Slices
import Derived.Laws.StructEq
/- The law's World in memory. -/
namespace Go.Proofs.YtkpebabbnndopaaGreatDoor
open Go.RowKit
set_option linter.unusedVariables false

structure SideD where
  sb : Nat
  U : List Nat
  st : St
  wk : Nat
structure WorldAt (Rep : World → List Nat → Value → St → Nat → Prop) (w : World) (base wb : Nat) (lv bv : Value) (bag : List ByteArray) (l : List SideD) (bnd : Nat) : Prop where
  base_le : base ≤ w.heap.size
  wbb : base ≤ wb
  row : w.heap[wb]? = some (.cells #[lv, bv] 63 (0, 0))
  ownl : w.ownsRow base 69 1 lv l.length (l.map fun s => Value.pointer (some ⟨s.sb, 0, none⟩))
  ownb : w.ownsRow base 9 1 bv bag.length (bag.map Value.string)
  bag64 : bag.length ≤ 64
  nl : lv.ownBlock ≠ some wb
  nb : bv.ownBlock ≠ some wb
  nlb : ∀ k, lv.ownBlock = some k → bv.ownBlock ≠ some k
  side : ∀ s, s ∈ l → Side Rep w s.sb s.U s.st s.wk ∧ (∀ k, k ∈ s.U → base ≤ k) ∧ s.wk ≤ bnd ∧ wb ∉ s.U ∧ (∀ k, lv.ownBlock = some k → k ∉ s.U) ∧ (∀ k, bv.ownBlock = some k → k ∉ s.U)
  dis : l.Pairwise fun a b => ∀ k, k ∈ a.U → k ∉ b.U

theorem ownsRow_keep {w w' : World} {base : Nat} {e : TypeId} {size : Nat} {v : Value} {n : Nat} {xs : List Value} (h : w.ownsRow base e size v n xs) (hk : ∀ k, k < w.heap.size → v.ownBlock = some k → w'.heap[k]? = w.heap[k]?) : w'.ownsRow base e size v n xs := by
  refine ⟨h.1, ?_⟩
  rcases h.2 with h | ⟨g, cap, cur, h1, h2, h3, h4⟩
  · exact .inl h
  · exact .inr ⟨g, cap, cur, h1, h2, by rw [hk g (Array.getElem?_eq_some_iff.1 h3).1 (by rw [h1]; rfl), h3], h4⟩
theorem ownsRow_lt {w : World} {base : Nat} {e : TypeId} {size : Nat} {v : Value} {n : Nat} {xs : List Value} (h : w.ownsRow base e size v n xs) (k : Nat) (hk : v.ownBlock = some k) : k < w.heap.size := by
  rcases h.2 with ⟨h, _⟩ | ⟨g, cap, cur, h1, h2, h3, h4⟩
  · subst h; cases hk
  · subst h1; cases hk; exact (Array.getElem?_eq_some_iff.1 h3).1

/-- one side has done a step: the others, and the lists, are as they were -/
theorem WorldAt.step {Rep : World → List Nat → Value → St → Nat → Prop} (C : Code Rep) {w w' : World} {base wb : Nat} {lv bv : Value} {bag : List ByteArray} {l : List SideD} {bnd : Nat} (h : WorldAt Rep w base wb lv bv bag l bnd) (i : Nat) (hi : i < l.length) (U' : List Nat) (st' : St) (wk' bnd' : Nat)
    (ho : Outside l[i].U w w') (hf : Fresh w l[i].U U') (hs : Side Rep w' l[i].sb U' st' wk') (hw : wk' ≤ bnd') (hb : bnd ≤ bnd') : WorldAt Rep w' base wb lv bv bag (l.set i ⟨l[i].sb, U', st', wk'⟩) bnd' := by
  have hmi : l[i] ∈ l := List.getElem_mem hi
  obtain ⟨s1, s2, s3, s4, s5, s6⟩ := h.side _ hmi
  have z := ho.size
  have hU' : ∀ k, k ∈ U' → k < w.heap.size → k ∈ l[i].U := fun k hk hl => by
    rcases hf k hk with h | h
    · exact h
    · omega
  have hwb : wb < w.heap.size := (Array.getElem?_eq_some_iff.1 h.row).1
  refine ⟨Nat.le_trans h.base_le z, h.wbb, by rw [ho.block _ hwb s4, h.row], ?_, ownsRow_keep h.ownb (fun k a b => ho.block k a (s6 k b)), h.bag64, h.nl, h.nb, h.nlb, ?_, ?_⟩
  · have e1 : (l.set i ⟨l[i].sb, U', st', wk'⟩).length = l.length := List.length_set
    have e2 : (l.set i ⟨l[i].sb, U', st', wk'⟩).map (fun s => Value.pointer (some ⟨s.sb, 0, none⟩)) = l.map fun s => Value.pointer (some ⟨s.sb, 0, none⟩) := by
      rw [List.map_set]
      apply List.ext_getElem?
      intro j
      rw [List.getElem?_set]
      split
      · rename_i hij
        subst hij
        simp [hi]
      · rfl
    rw [e1, e2]
    exact ownsRow_keep h.ownl (fun k a b => ho.block k a (s5 k b))
  · intro s hsm
    rcases List.mem_iff_getElem?.1 hsm with ⟨j, hj⟩
    rw [List.getElem?_set] at hj
    split at hj
    · cases hj
      refine ⟨hs, fun k hk => ?_, hw, fun hk => ?_, fun k hk hk' => ?_, fun k hk hk' => ?_⟩
      · by_cases hl : k < w.heap.size
        · exact s2 k (hU' k hk hl)
        · have := h.base_le; omega
      · exact s4 (hU' wb hk hwb)
      · exact s5 k hk (hU' k hk' (ownsRow_lt h.ownl k hk))
      · exact s6 k hk (hU' k hk' (ownsRow_lt h.ownb k hk))
    · rename_i hij
      have hjl : j < l.length := (List.getElem?_eq_some_iff.1 hj).1
      have hjs : l[j] = s := (List.getElem?_eq_some_iff.1 hj).2
      obtain ⟨t1, t2, t3, t4, t5, t6⟩ := h.side s (hjs ▸ List.getElem_mem hjl)
      refine ⟨t1.keep C z (fun k a b => ho.block k a (fun hk => ?_)), t2, Nat.le_trans t3 hb, t4, t5, t6⟩
      have hd := List.pairwise_iff_getElem.1 h.dis
      by_cases hlt : i < j
      · exact hd i j hi hjl hlt k hk (hjs ▸ b)
      · exact hd j i hjl hi (by omega) k (hjs ▸ b) hk
  · have hd := List.pairwise_iff_getElem.1 h.dis
    refine List.pairwise_iff_getElem.2 fun p q hp hq hpq => ?_
    rw [List.length_set] at hp hq
    have lt : ∀ j (hj : j < l.length), ∀ k, k ∈ l[j].U → k < w.heap.size := fun j hj => (h.side _ (List.getElem_mem hj)).1.lt C
    rw [List.getElem_set, List.getElem_set]
    by_cases h1 : i = p
    · have h2 : ¬ i = q := by omega
      rw [if_pos h1, if_neg h2]
      intro k hk hk'
      exact hd i q hi hq (by omega) k (hU' k hk (lt q hq k hk')) hk'
    · rw [if_neg h1]
      by_cases h2 : i = q
      · rw [if_pos h2]
        intro k hk hk'
        exact hd p i hp hi (by omega) k hk (hU' k hk' (lt p hp k hk))
      · rw [if_neg h2]
        exact hd p q hp hq hpq

/-- a world in which nothing that was there has changed -/
theorem WorldAt.below {Rep : World → List Nat → Value → St → Nat → Prop} (C : Code Rep) {w w' : World} {base wb : Nat} {lv bv : Value} {bag : List ByteArray} {l : List SideD} {bnd : Nat} (h : WorldAt Rep w base wb lv bv bag l bnd) (hb : Below w.heap.size w w') : WorldAt Rep w' base wb lv bv bag l bnd := by
  have z := hb.size
  have hwb : wb < w.heap.size := (Array.getElem?_eq_some_iff.1 h.row).1
  refine ⟨Nat.le_trans h.base_le z, h.wbb, by rw [hb.block _ hwb, h.row], ownsRow_keep h.ownl (fun k a _ => hb.block k a), ownsRow_keep h.ownb (fun k a _ => hb.block k a), h.bag64, h.nl, h.nb, h.nlb, fun s hs => ?_, h.dis⟩
  obtain ⟨t1, t2⟩ := h.side s hs
  exact ⟨t1.keep C z (fun k a _ => hb.block k a), t2⟩

/-- a frame goes under way -/
theorem WorldAt.bagged {Rep : World → List Nat → Value → St → Nat → Prop} (C : Code Rep) {w : World} {base wb : Nat} {lv bv : Value} {bag : List ByteArray} {l : List SideD} {bnd : Nat} (h : WorldAt Rep w base wb lv bv bag l bnd) (hl : bag.length < 64) (f : ByteArray) (ty : TypeId) :
    ∃ v' w', (Builtin.append_ #[30, 30] ty #[bv, .slice (some ⟨w.heap.size, 0, none⟩) 1 1]).run Tryz.prog (w.alloc (.cells #[.string f] 9)) = .ok v' w' ∧ w'.heap[wb]? = some (.cells #[lv, bv] 63 (0, 0)) ∧
      WorldAt Rep (w'.setCell ⟨wb, 1, none⟩ v') base wb lv v' (bag ++ [f]) l bnd ∧ Below base w (w'.setCell ⟨wb, 1, none⟩ v') := by
  have hi : (Tryz.prog.info? 9).map (fun i => (i.zero, i.size, i.bytes)) = some (some (.string ⟨#[]⟩), 1, 16) := by kernel_rfl
  have hwb : wb < w.heap.size := (Array.getElem?_eq_some_iff.1 h.row).1
  have b1 : Below w.heap.size w (w.alloc (.cells #[.string f] 9)) := (Below.refl _ w).alloc (Nat.le_refl _) _
  have hown : (w.alloc (.cells #[.string f] 9)).ownsRow base 9 1 bv bag.length (bag.map Value.string) := ownsRow_keep h.ownb (fun k a _ => b1.block k a)
  cases hq : Tryz.prog.info? 9 with
  | none => rw [hq] at hi; simp at hi
  | some i =>
    rw [hq] at hi
    simp at hi
    obtain ⟨hz, hs, hby⟩ := hi
    obtain ⟨v', w', hr, ho, hg, _, hbk⟩ := run_append_own_at (P := Tryz.prog) (w.alloc (.cells #[.string f] 9)) base 30 ty 9 i _ 1 16 Tryz.underlying30 hq hz hs hby rfl (by omega) bv bag.length (bag.map Value.string) hown ⟨w.heap.size, 0, none⟩ 1 1 [.string f] rfl
      (fun j u hj => by
        have ea : (⟨w.heap.size, 0, none⟩ : Addr).add j = ⟨w.heap.size, j, none⟩ := by unfold Addr.add; split <;> simp_all
        rw [ea, cell_of_row _ _ _ _ _ _ (MapKept.heap_alloc w _).1]
        simpa using hj) (by intro u hu; simp at hu; subst hu; rfl) (by unfold maxLen; omega) (by omega) (by have := h.base_le; simp; omega)
    have z1 : w.heap.size + 1 ≤ w'.heap.size := by have := hg.size; simpa using this
    have blk : ∀ k, k < w.heap.size → bv.ownBlock ≠ some k → w'.heap[k]? = w.heap[k]? := fun k hk hne => by
      rw [hg.block k (by simp; omega) (fun e => hne e.symm), Below.heap_alloc _ _ _ hk]
    have hrow' : w'.heap[wb]? = some (.cells #[lv, bv] 63 (0, 0)) := by rw [blk wb hwb h.nb, h.row]
    have blk2 : ∀ k, k < w.heap.size → bv.ownBlock ≠ some k → k ≠ wb → (w'.setCell ⟨wb, 1, none⟩ v').heap[k]? = w.heap[k]? := fun k hk hne hkw => by
      rw [Below.heap_setCell _ _ _ _ hkw, blk k hk hne]
    have hv'wb : v'.ownBlock ≠ some wb := fun e => by
      rcases hbk with h1 | h1
      · exact h.nb (h1 ▸ e)
      · rw [h1] at e; simp at e; omega
    have hnew : ∀ k, v'.ownBlock = some k → bv.ownBlock = some k ∨ k = w.heap.size + 1 := fun k hk => by
      rcases hbk with h1 | h1
      · exact .inl (h1 ▸ hk)
      · rw [h1] at hk; simp at hk; exact .inr hk.symm
    have hsz : (w'.setCell ⟨wb, 1, none⟩ v').heap.size = w'.heap.size := by simp [World.setCell]
    have hbase := h.base_le
    refine ⟨v', w', hr, hrow', ⟨by omega, h.wbb, ?_, ?_, ?_, ?_, h.nl, hv'wb, ?_, ?_, h.dis⟩, ?_⟩
    · rw [setCell_eq_setRow w' wb 1 _ _ (0, 0) _ hrow']
      exact setRow_heap _ _ _ _ _ _ hrow'
    · refine ownsRow_keep h.ownl (fun k a b => blk2 k a (h.nlb k b) (fun e => ?_))
      subst e
      exact h.nl b
    · rw [List.length_append, List.map_append]
      refine ownsRow_keep ho (fun k a b => Below.heap_setCell _ _ _ _ (fun e => ?_))
      exact hv'wb (by rw [b]; exact congrArg some e)
    · rw [List.length_append]
      show bag.length + 1 ≤ 64
      omega
    · intro k hk hk'
      rcases hnew k hk' with h1 | h1
      · exact h.nlb k hk h1
      · have := ownsRow_lt h.ownl k hk; omega
    · intro s hsm
      obtain ⟨t1, t2, t3, t4, t5, t6⟩ := h.side s hsm
      have tl := t1.lt C
      refine ⟨t1.keep C (by omega) (fun k a b => blk2 k a (fun e => t6 k e b) (fun e => t4 (e ▸ b))), t2, t3, t4, t5, fun k hk hk' => ?_⟩
      rcases hnew k hk with h1 | h1
      · exact t6 k h1 hk'
      · have := tl k hk'; omega
    · refine ⟨hg.os, hg.tape, hg.output, by omega, fun k hk => ?_⟩
      have hkw : k ≠ wb := by have := h.wbb; omega
      refine blk2 k (by omega) (fun e => ?_) hkw
      rcases h.ownb.2 with ⟨e1, _⟩ | ⟨g, cap, cur, e1, e2, _⟩
      · subst e1; cases e
      · subst e1
        have : g = k := by simpa [Value.ownBlock] using e
        omega

theorem WorldAt.start {Rep : World → List Nat → Value → St → Nat → Prop} (w : World) (bnd : Nat) : WorldAt Rep (w.alloc (.cells #[.slice none 0 0, .slice none 0 0] 63)) w.heap.size w.heap.size (.slice none 0 0) (.slice none 0 0) [] [] bnd :=
  ⟨by simp, Nat.le_refl _, (MapKept.heap_alloc _ _).1, ⟨rfl, .inl ⟨rfl, rfl⟩⟩, ⟨rfl, .inl ⟨rfl, rfl⟩⟩, by simp, (fun h => by cases h), (fun h => by cases h), (fun k h => by cases h), (fun s hs => by cases hs), List.Pairwise.nil⟩

/-- one side more -/
theorem WorldAt.added {Rep : World → List Nat → Value → St → Nat → Prop} (C : Code Rep) {wA w : World} {base wb : Nat} {lv bv : Value} {bag : List ByteArray} {l : List SideD} {bnd : Nat} (h : WorldAt Rep wA base wb lv bv bag l bnd) (hl : l.length < 16) (hbel : Below wA.heap.size wA w)
    (S T : List Nat) (g : Value) (rb : Nat) (st : St) (steps : Nat) (ok : st.Ok) (hrep : Rep w S g st 0) (href : RefRep w T rb st steps) (hS : ∀ k, k ∈ S → wA.heap.size ≤ k) (hT : ∀ k, k ∈ T → wA.heap.size ≤ k ∧ k < w.heap.size) (hST : ∀ k, k ∈ S → k ∉ T) (ty : TypeId) :
    ∃ v' w', (Builtin.append_ #[61, 61] ty #[lv, .slice (some ⟨w.heap.size + 1, 0, none⟩) 1 1]).run Tryz.prog ((w.alloc (.cells (CellsS g rb 0) 71)).alloc (.cells #[.pointer (some ⟨w.heap.size, 0, none⟩)] 69)) = .ok v' w' ∧ w'.heap[wb]? = some (.cells #[lv, bv] 63 (0, 0)) ∧
      WorldAt Rep (w'.setCell ⟨wb, 0, none⟩ v') base wb v' bv bag (l ++ [⟨w.heap.size, w.heap.size :: (S ++ T), st, 0⟩]) bnd ∧ Below base wA (w'.setCell ⟨wb, 0, none⟩ v') ∧ ∃ p n c, v' = .slice p n c := by
  have hi : (Tryz.prog.info? 69).map (fun i => (i.zero, i.size, i.bytes)) = some (some (.pointer none), 1, 8) := by kernel_rfl
  have zA := hbel.size
  have h0 := h.below C hbel
  have hwb : wb < wA.heap.size := (Array.getElem?_eq_some_iff.1 h.row).1
  have bAB : Below w.heap.size w ((w.alloc (.cells (CellsS g rb 0) 71)).alloc (.cells #[.pointer (some ⟨w.heap.size, 0, none⟩)] 69)) := ((Below.refl _ w).alloc (Nat.le_refl _) _).alloc (by simp) _
  have hown : ((w.alloc (.cells (CellsS g rb 0) 71)).alloc (.cells #[.pointer (some ⟨w.heap.size, 0, none⟩)] 69)).ownsRow base 69 1 lv l.length (l.map fun s => Value.pointer (some ⟨s.sb, 0, none⟩)) := ownsRow_keep h0.ownl (fun k a _ => bAB.block k a)
  cases hq : Tryz.prog.info? 69 with
  | none => rw [hq] at hi; simp at hi
  | some i =>
    rw [hq] at hi
    simp at hi
    obtain ⟨hz, hs, hby⟩ := hi
    have hnewcell : ((w.alloc (.cells (CellsS g rb 0) 71)).alloc (.cells #[.pointer (some ⟨w.heap.size, 0, none⟩)] 69)).heap[w.heap.size + 1]? = some (.cells #[.pointer (some ⟨w.heap.size, 0, none⟩)] 69 (0, 0)) := by
      have e := (MapKept.heap_alloc (w.alloc (.cells (CellsS g rb 0) 71)) (.cells #[.pointer (some ⟨w.heap.size, 0, none⟩)] 69)).1
      simp only [World.size_alloc] at e
      exact e
    obtain ⟨v', w', hr, ho, hg, _, hbk⟩ := run_append_own_at (P := Tryz.prog) _ base 61 ty 69 i _ 1 8 Tryz.underlying61 hq hz hs hby rfl (by omega) lv l.length (l.map fun s => Value.pointer (some ⟨s.sb, 0, none⟩)) hown ⟨w.heap.size + 1, 0, none⟩ 1 1 [.pointer (some ⟨w.heap.size, 0, none⟩)] rfl
      (fun j u hj => by
        have ea : (⟨w.heap.size + 1, 0, none⟩ : Addr).add j = ⟨w.heap.size + 1, j, none⟩ := by unfold Addr.add; split <;> simp_all
        rw [ea, cell_of_row _ _ _ _ _ _ hnewcell]
        simpa using hj) (by intro u hu; simp at hu; subst hu; rfl) (by unfold maxLen; omega) (by omega) (by have := h0.base_le; simp; omega)
    have z1 : w.heap.size + 2 ≤ w'.heap.size := by have := hg.size; simpa using this
    have blk : ∀ k, k < w.heap.size → lv.ownBlock ≠ some k → w'.heap[k]? = w.heap[k]? := fun k hk hne => by
      rw [hg.block k (by simp; omega) (fun e => hne e.symm), bAB.block k hk]
    have hrow' : w'.heap[wb]? = some (.cells #[lv, bv] 63 (0, 0)) := by rw [blk wb (by omega) h.nl, h0.row]
    have hlvlt : ∀ k, lv.ownBlock = some k → k < wA.heap.size := fun k hk => ownsRow_lt h.ownl k hk
    have blk2 : ∀ k, k < w.heap.size → lv.ownBlock ≠ some k → k ≠ wb → (w'.setCell ⟨wb, 0, none⟩ v').heap[k]? = w.heap[k]? := fun k hk hne hkw => by
      rw [Below.heap_setCell _ _ _ _ hkw, blk k hk hne]
    have hsideblk : (w'.setCell ⟨wb, 0, none⟩ v').heap[w.heap.size]? = some (.cells (CellsS g rb 0) 71 (0, 0)) := by
      rw [Below.heap_setCell _ _ _ _ (by show w.heap.size ≠ wb; omega), hg.block _ (by simp; omega) (fun e => by have := hlvlt _ e.symm; omega), Below.heap_alloc _ _ _ (by simp), (MapKept.heap_alloc _ _).1]
    have hnew : ∀ k, v'.ownBlock = some k → lv.ownBlock = some k ∨ k = w.heap.size + 2 := fun k hk => by
      rcases hbk with h1 | h1
      · exact .inl (h1 ▸ hk)
      · rw [h1] at hk; simp at hk; exact .inr hk.symm
    have hv'wb : v'.ownBlock ≠ some wb := fun e => by
      rcases hnew wb e with h1 | h1
      · exact h.nl h1
      · omega
    have hsz : (w'.setCell ⟨wb, 0, none⟩ v').heap.size = w'.heap.size := by simp [World.setCell]
    have hbase := h.base_le
    have hnewU : ∀ k, k ∈ w.heap.size :: (S ++ T) → wA.heap.size ≤ k := fun k hk => by
      rcases List.mem_cons.1 hk with h1 | h1
      · omega
      · rcases List.mem_append.1 h1 with h1 | h1
        · exact hS k h1
        · exact (hT k h1).1
    refine ⟨v', w', hr, hrow', ⟨by omega, h.wbb, ?_, ?_, ?_, h.bag64, hv'wb, h.nb, ?_, ?_, ?_⟩, ?_, ?_⟩
    · rw [setCell_eq_setRow w' wb 0 _ _ (0, 0) _ hrow']
      exact setRow_heap _ _ _ _ _ _ hrow'
    · rw [List.length_append, List.map_append]
      refine ownsRow_keep ho (fun k a b => Below.heap_setCell _ _ _ _ (fun e => ?_))
      exact hv'wb (by rw [b]; exact congrArg some e)
    · refine ownsRow_keep h0.ownb (fun k a b => blk2 k a (fun e => h.nlb k e b) (fun e => ?_))
      subst e
      exact h.nb b
    · intro k hk hk'
      rcases hnew k hk with h1 | h1
      · exact h.nlb k h1 hk'
      · have := ownsRow_lt h.ownb k hk'; omega
    · intro s hsm
      rcases List.mem_append.1 hsm with hsm | hsm
      · obtain ⟨t1, t2, t3, t4, t5, t6⟩ := h0.side s hsm
        have tl := (h.side s hsm).1.lt C
        refine ⟨t1.keep C (by omega) (fun k a b => blk2 k a (fun e => t5 k e b) (fun e => t4 (e ▸ b))), t2, t3, t4, fun k hk hk' => ?_, t6⟩
        rcases hnew k hk with h1 | h1
        · exact t5 k h1 hk'
        · have := tl k hk'; omega
      · simp at hsm
        subst hsm
        have kp : ∀ k, k < w.heap.size → k ∈ S ++ T → (w'.setCell ⟨wb, 0, none⟩ v').heap[k]? = w.heap[k]? := fun k hk hm => by
          have hk2 := hnewU k (List.mem_cons_of_mem _ hm)
          exact blk2 k hk (fun e => by have := hlvlt k e; omega) (by omega)
        refine ⟨⟨S, T, g, rb, steps, rfl, ok, hsideblk, C.keep hrep (by omega) (fun k a b => kp k a (List.mem_append_left _ b)), href.keep (fun k a b => kp k a (List.mem_append_right _ b)), fun hm => ?_, fun hm => ?_, hST, fun k hk => ?_⟩, fun k hk => ?_, by show 0 ≤ bnd; omega, fun hm => ?_, fun k hk hm => ?_, fun k hk hm => ?_⟩
        · have h9 : w.heap.size < w.heap.size := C.lt hrep _ hm
          omega
        · have h9 : w.heap.size < w.heap.size := (hT _ hm).2
          omega
        · have := (hT k hk).2; omega
        · have := hnewU k hk; omega
        · have := hnewU wb hm; omega
        · have hge := hnewU k hm
          rcases hnew k hk with h1 | h1
          · have := hlvlt k h1; omega
          · rcases List.mem_cons.1 hm with h2 | h2
            · omega
            · rcases List.mem_append.1 h2 with h2 | h2
              · have := C.lt hrep k h2; omega
              · have := (hT k h2).2; omega
        · have hge := hnewU k hm
          have := ownsRow_lt h.ownb k hk
          omega
    · refine List.pairwise_append.2 ⟨h.dis, List.pairwise_singleton _ _, fun x hx y hy k hk hk' => ?_⟩
      simp at hy
      subst hy
      have h1 := (h.side x hx).1.lt C k hk
      have h2 := hnewU k hk'
      omega
    · refine ⟨by show (w'.setCell _ _).os = _; rw [show (w'.setCell ⟨wb, 0, none⟩ v').os = w'.os from rfl, hg.os]; exact hbel.os, by show (w'.setCell _ _).tape = _; rw [show (w'.setCell ⟨wb, 0, none⟩ v').tape = w'.tape from rfl, hg.tape]; exact hbel.tape, by show (w'.setCell _ _).output = _; rw [show (w'.setCell ⟨wb, 0, none⟩ v').output = w'.output from rfl, hg.output]; exact hbel.output, by omega, fun k hk => ?_⟩
      have hkw : k ≠ wb := by have := h.wbb; omega
      rw [blk2 k (by omega) (fun e => ?_) hkw, hbel.block k (by omega)]
      rcases h.ownl.2 with ⟨e1, _⟩ | ⟨g', cap, cur, e1, e2, _⟩
      · subst e1; cases e
      · subst e1
        have : g' = k := by simpa [Value.ownBlock] using e
        omega
    · rcases ho.2 with ⟨e1, _⟩ | ⟨g', c', cur, e1, _⟩
      · exact ⟨_, _, _, e1⟩
      · exact ⟨_, _, _, e1⟩
end Go.Proofs.YtkpebabbnndopaaGreatDoor

/- The law's (*World).step, as far as members protect. -/
namespace Go.Proofs.YtkpebabbnndopaaGreatDoor
open Go.RowKit
set_option linter.unusedVariables false

abbrev OpV (kind a b : Int) (s : ByteArray) : Array Value := #[.int .i64 kind, .int .i64 a, .int .i64 b, .string s]

/-- what a step leaves behind -/
def Stepped (Rep : World → List Nat → Value → St → Nat → Prop) (w : World) (base wb : Nat) (lv : Value) (n bnd : Nat) (w' : World) : Prop :=
  Below base w w' ∧ ∃ bv' bag' l', l'.length = n ∧ WorldAt Rep w' base wb lv bv' bag' l' bnd

theorem worldAt_ptr {Rep : World → List Nat → Value → St → Nat → Prop} {w : World} {base wb : Nat} {lv bv : Value} {bag : List ByteArray} {l : List SideD} {bnd : Nat} (h : WorldAt Rep w base wb lv bv bag l bnd) (hn : 1 ≤ l.length) :
    ∃ lb cap, lv = .slice (some ⟨lb, 0, none⟩) l.length cap ∧ l.length ≤ cap ∧ lb < w.heap.size ∧ ∀ i (hi : i < l.length), w.cell? ⟨lb, i, none⟩ = some (.pointer (some ⟨l[i].sb, 0, none⟩)) := by
  rcases h.ownl.2 with ⟨_, e⟩ | ⟨g, cap, cur, e1, e2, e3, e4, _⟩
  · omega
  · refine ⟨g, cap, e1, e4, (Array.getElem?_eq_some_iff.1 e3).1, fun i hi => ?_⟩
    have h1 : w.ownsRow base 69 1 (.slice (some ⟨g, 0, none⟩) l.length cap) l.length (l.map fun s => Value.pointer (some ⟨s.sb, 0, none⟩)) := by rw [← e1]; exact h.ownl
    rw [World.ownsRow.cellAt h1 i (by omega), List.getElem?_map, List.getElem?_eq_getElem hi]
    rfl

abbrev PickS (w : World) (wb lb i : Nat) (lv bv : Value) (sd : Nat) (kind a b : Int) (s : ByteArray) (W : World) : Prop := (∀ o, W.cell? ⟨wb, o, none⟩ = #[lv, bv][o]?) ∧ (∀ o, W.cell? ⟨w.heap.size, o, none⟩ = (OpV kind a b s)[o]?) ∧ W.cell? ⟨lb, i, none⟩ = some (.pointer (some ⟨sd, 0, none⟩))
theorem pickS (w : World) (wb lb i : Nat) (lv bv : Value) (sd : Nat) (kind a b : Int) (s : ByteArray) (h1 : ∀ o, w.cell? ⟨wb, o, none⟩ = #[lv, bv][o]?) (h2 : w.cell? ⟨lb, i, none⟩ = some (.pointer (some ⟨sd, 0, none⟩))) (hw : wb < w.heap.size) (hl : lb < w.heap.size) :
    PickS w wb lb i lv bv sd kind a b s (w.alloc (.cells (OpV kind a b s) 73)).drew := by
  have hb : Below w.heap.size w (w.alloc (.cells (OpV kind a b s) 73)).drew := ((Below.refl _ w).alloc (Nat.le_refl _) _).drew
  refine ⟨fun o => by rw [hb.cell (p := ⟨wb, o, none⟩) hw, h1], fun o => ?_, by rw [hb.cell (p := ⟨lb, i, none⟩) hl, h2]⟩
  exact cell_of_row _ _ _ _ _ _ (show (w.alloc (.cells (OpV kind a b s) 73)).drew.heap[w.heap.size]? = some (.cells (OpV kind a b s) 73 (0, 0)) from (MapKept.heap_alloc _ _).1)

set_option maxRecDepth 20000 in
set_option maxHeartbeats 2000000 in
theorem step_idle {Rep : World → List Nat → Value → St → Nat → Prop} (C : Code Rep) (w : World) (base wb : Nat) (lv bv : Value) (bag : List ByteArray) (l : List SideD) (bnd : Nat) (h : WorldAt Rep w base wb lv bv bag l bnd) (hn : 1 ≤ l.length) (hn16 : l.length ≤ 16)
    (kind a b : Int) (s : ByteArray) (hk : kind ≤ 0) (ha1 : -9223372036854775808 ≤ a) (ha2 : a ≤ 9223372036854775807) :
    Calls Tryz.prog 28 #[.pointer (some ⟨wb, 0, none⟩), .agg (OpV kind a b s)] w fun e w' => e = .returned (.bool true) ∧ Stepped Rep w base wb lv l.length bnd w' := by
  obtain ⟨lb, cap, rfl, hcap, hlb, hcell⟩ := worldAt_ptr h hn
  have HP : Hid (∀ W, Calls Tryz.prog 65 #[.int .i64 a, .int .i64 l.length] W fun e w' => e = .returned (.int .i64 (PickI a l.length)) ∧ w' = W) := fun W => pick_any a ha1 ha2 l.length hn (by omega) W
  have HW : Hid (WorldAt Rep w base wb (.slice (some ⟨lb, 0, none⟩) l.length cap) bv bag l bnd) := h
  have hwb : wb < w.heap.size := (Array.getElem?_eq_some_iff.1 h.row).1
  have hA := (row_facts' h.row).1
  have hpi := PickI_lt a l.length hn
  have hci := hcell _ hpi
  obtain ⟨i, hi⟩ : ∃ i, PickI a l.length = i := ⟨_, rfl⟩
  rw [hi] at HP hpi
  have hci2 : w.cell? ⟨lb, i, none⟩ = some (.pointer (some ⟨(l[i]'hpi).sb, 0, none⟩)) := hcell i hpi
  obtain ⟨sd, hsd⟩ : ∃ sd, (l[i]'hpi).sb = sd := ⟨_, rfl⟩
  rw [hsd] at hci2
  clear h hcell hci hi hsd
  go_enter Tryz.func28, Tryz.ntmps28
  go_upto_region 1 with fail
  go_cut [5] (fun s5 wy => s5 = .pointer (some ⟨sd, 0, none⟩) ∧ Below (w.alloc (.cells (OpV kind a b s) 73)).heap.size (w.alloc (.cells (OpV kind a b s) 73)) wy)
  case first =>
    have hS := pickS w wb lb i (.slice (some ⟨lb, 0, none⟩) l.length cap) bv sd kind a b s hA hci2 hwb hlb
    go_region_held3 (fun W => PickS w wb lb i (.slice (some ⟨lb, 0, none⟩) l.length cap) bv sd kind a b s W) ((first | assumption | exact hS)) ((go_at_call 65; refine (HP.out _).mono ?_; rintro e w' ⟨rfl, rfl⟩))
    all_goals
      go_wp2_with fail
      go_meet
      exact ⟨rfl, (Below.refl _ _).drew⟩
  case rest =>
    obtain ⟨rfl, hb⟩ := hcut
    have hk3 : wc.heap[w.heap.size]? = some (.cells (OpV kind a b s) 73 (0, 0)) := by rw [hb.block _ (by simp), (MapKept.heap_alloc _ _).1]
    have hK := (row_facts' hk3).1
    have hbw : Below w.heap.size w wc := ((Below.refl _ w).alloc (Nat.le_refl _) _).trans (hb.mono (by simp))
    have HBW : Hid (Below w.heap.size w wc) := hbw
    have hk1 : ¬ kind = 1 := by omega
    have hk2 : ¬ kind = 2 := by omega
    have hk3' : ¬ kind = 3 := by omega
    have hk4 : ¬ kind = 4 := by omega
    have hk5 : ¬ kind = 5 := by omega
    have hk6 : ¬ kind = 6 := by omega
    clear hbw hk3 hb HP hci2 hA
    go_wp2_with fail
    go_ret
    have hz := HW.out.base_le
    exact ⟨rfl, HBW.out.mono hz, bv, bag, l, rfl, HW.out.below C HBW.out⟩
set_option maxRecDepth 20000 in
set_option maxHeartbeats 2000000 in
theorem step_protect {Rep : World → List Nat → Value → St → Nat → Prop} (C : Code Rep) (w : World) (base wb : Nat) (lv bv : Value) (bag : List ByteArray) (l : List SideD) (bnd : Nat) (h : WorldAt Rep w base wb lv bv bag l bnd) (hn : 1 ≤ l.length) (hn16 : l.length ≤ 16)
    (a b : Int) (s : ByteArray) (hs : s.size ≤ 65536) (hbnd : bnd ≤ 10000000000) (ha1 : -9223372036854775808 ≤ a) (ha2 : a ≤ 9223372036854775807) (hG : Glob w) :
    Calls Tryz.prog 28 #[.pointer (some ⟨wb, 0, none⟩), .agg (OpV 1 a b s)] w fun e w' => e = .returned (.bool true) ∧ Stepped Rep w base wb lv l.length (bnd + 100) w' := by
  obtain ⟨lb, cap, rfl, hcap, hlb, hcell⟩ := worldAt_ptr h hn
  have HP : Hid (∀ W, Calls Tryz.prog 65 #[.int .i64 a, .int .i64 l.length] W fun e w' => e = .returned (.int .i64 (PickI a l.length)) ∧ w' = W) := fun W => pick_any a ha1 ha2 l.length hn (by omega) W
  have HW : Hid (WorldAt Rep w base wb (.slice (some ⟨lb, 0, none⟩) l.length cap) bv bag l bnd) := h
  have hwb : wb < w.heap.size := (Array.getElem?_eq_some_iff.1 h.row).1
  have hA := (row_facts' h.row).1
  have hpi := PickI_lt a l.length hn
  have hci := hcell _ hpi
  obtain ⟨i, hi⟩ : ∃ i, PickI a l.length = i := ⟨_, rfl⟩
  rw [hi] at HP hpi
  have hci2 : w.cell? ⟨lb, i, none⟩ = some (.pointer (some ⟨(l[i]'hpi).sb, 0, none⟩)) := hcell i hpi
  obtain ⟨sd, hsd⟩ : ∃ sd, (l[i]'hpi).sb = sd := ⟨_, rfl⟩
  rw [hsd] at hci2
  have HSD : Hid ((l[i]'hpi).sb = sd) := hsd
  have HGL : Hid (Glob w) := hG
  clear h hcell hci hi hsd hG
  go_enter Tryz.func28, Tryz.ntmps28
  go_upto_region 1 with fail
  go_cut [5] (fun s5 wy => s5 = .pointer (some ⟨sd, 0, none⟩) ∧ Below (w.alloc (.cells (OpV 1 a b s) 73)).heap.size (w.alloc (.cells (OpV 1 a b s) 73)) wy)
  case first =>
    have hS := pickS w wb lb i (.slice (some ⟨lb, 0, none⟩) l.length cap) bv sd 1 a b s hA hci2 hwb hlb
    go_region_held3 (fun W => PickS w wb lb i (.slice (some ⟨lb, 0, none⟩) l.length cap) bv sd 1 a b s W) ((first | assumption | exact hS)) ((go_at_call 65; refine (HP.out _).mono ?_; rintro e w' ⟨rfl, rfl⟩))
    all_goals
      go_wp2_with fail
      go_meet
      exact ⟨rfl, (Below.refl _ _).drew⟩
  case rest =>
    obtain ⟨rfl, hb⟩ := hcut
    have hk3 : wc.heap[w.heap.size]? = some (.cells (OpV 1 a b s) 73 (0, 0)) := by rw [hb.block _ (by simp), (MapKept.heap_alloc _ _).1]
    have hK := (row_facts' hk3).1
    have hbw : Below w.heap.size w wc := ((Below.refl _ w).alloc (Nat.le_refl _) _).trans (hb.mono (by simp))
    have HBW : Hid (Below w.heap.size w wc) := hbw
    clear hbw hk3 hb HP hci2 hA
    have HWc : Hid (WorldAt Rep wc base wb (.slice (some ⟨lb, 0, none⟩) l.length cap) bv bag l bnd) := HW.out.below C HBW.out
    obtain ⟨t1, t2, t3, t4, t5, t6⟩ := HWc.out.side _ (List.getElem_mem hpi)
    have hsz := HW.out.base_le
    have hszc := HBW.out.size
    have hbvs : ∃ p capb, bv = .slice p bag.length capb := by
      rcases HW.out.ownb.2 with ⟨e1, e2⟩ | ⟨g, capb, cur, e1, _⟩
      · exact ⟨none, 0, by rw [e1, e2]⟩
      · exact ⟨_, capb, e1⟩
    obtain ⟨p, capb, rfl⟩ := hbvs
    have hwbc : wb < wc.heap.size := by omega
    by_cases hpe : (l[i]'hpi).st.protErr s.size = 0
    · have hcall := protect_ok C wc (l[i]'hpi).sb (l[i]'hpi).U (l[i]'hpi).st (l[i]'hpi).wk t1 (by omega) s hs hpe
      have hfl : 0 < ((l[i]'hpi).st.frame s.data.toList).length := by
        unfold St.frame
        rw [List.length_append]
        have : 0 < (HeadB (l[i]'hpi).st.own ((l[i]'hpi).st.m (l[i]'hpi).st.own).next).length := by simp [HeadB]
        omega
      rw [HSD.out] at hcall
      obtain ⟨FR, hFR⟩ : ∃ FR, (l[i]'hpi).st.frame s.data.toList = FR := ⟨_, rfl⟩
      rw [hFR] at hcall hfl
      have HCALL : Hid (Calls Tryz.prog 66 #[.pointer (some ⟨sd, 0, none⟩), .string s] wc fun e w' => e = .returned (.tuple #[.string ⟨FR.toArray⟩, .bool true]) ∧ Outside (l[i]'hpi).U wc w' ∧ ∃ U' wk', Fresh wc (l[i]'hpi).U U' ∧ Side Rep w' sd U' (l[i]'hpi).st.protNext wk' ∧ wk' ≤ (l[i]'hpi).wk + 100) := hcall
      clear hcall hFR t1 t2 t3 t5 t6
      go_wp2_with fail
      refine HCALL.out.mono ?_
      rintro e w2 ⟨rfl, o2, U', wk', f2, s2, hw2⟩
      have HW2 : Hid (WorldAt Rep w2 base wb (.slice (some ⟨lb, 0, none⟩) l.length cap) (.slice p bag.length capb) bag (l.set i ⟨(l[i]'hpi).sb, U', (l[i]'hpi).st.protNext, wk'⟩) (bnd + 100)) := by
        have hs2 : Side Rep w2 (l[i]'hpi).sb U' (l[i]'hpi).st.protNext wk' := by rw [HSD.out]; exact s2
        have hwk := (HWc.out.side _ (List.getElem_mem hpi)).2.2.1
        exact HWc.out.step C i hpi U' (l[i]'hpi).st.protNext wk' (bnd + 100) o2 f2 hs2 (by omega) (by omega)
      have HB2 : Hid (Below base w w2) := (HBW.out.mono hsz).trans (o2.toBelow base (by omega) (HWc.out.side _ (List.getElem_mem hpi)).2.1)
      clear o2 f2 s2 hw2 hK t4
      have hA2 := (row_facts' HW2.out.row).1
      have hne : FR.isEmpty = false := by
        cases FR with
        | nil => simp at hfl
        | cons x r => rfl
      by_cases hbl : bag.length < 64
      · have hbd : decide ((bag.length : Int) < 64) = true := by simp; omega
        obtain ⟨v', w3, hrun, hrow3, hwa, hbel⟩ := HW2.out.bagged C hbl ⟨FR.toArray⟩ 30
        have hvs : ∃ p' n' c', v' = .slice p' n' c' := by
          rcases hwa.ownb.2 with ⟨e1, _⟩ | ⟨g, c', cur, e1, _⟩
          · exact ⟨_, _, _, e1⟩
          · exact ⟨_, _, _, e1⟩
        obtain ⟨p', n', c', rfl⟩ := hvs
        have HRUN : Hid ((Builtin.append_ #[30, 30] 30 #[.slice p bag.length capb, .slice (some ⟨w2.heap.size, 0, none⟩) 1 1]).run Tryz.prog (w2.alloc (.cells #[.string ⟨FR.toArray⟩] 9)) = .ok (.slice p' n' c') w3) := hrun
        have HFIN : Hid (WorldAt Rep (w3.setCell ⟨wb, 1, none⟩ (.slice p' n' c')) base wb (.slice (some ⟨lb, 0, none⟩) l.length cap) (.slice p' n' c') (bag ++ [⟨FR.toArray⟩]) (l.set i ⟨(l[i]'hpi).sb, U', (l[i]'hpi).st.protNext, wk'⟩) (bnd + 100) ∧ Below base w2 (w3.setCell ⟨wb, 1, none⟩ (.slice p' n' c'))) := ⟨hwa, hbel⟩
        obtain ⟨hA3, hAf3⟩ := row_facts' hrow3
        clear hrun hwa hbel hrow3
        go_wp2_with (at_builtin; refine wpList_app rfl _ _ 30 30 rfl rfl _ _ _ _ rfl rfl HRUN.out ?_)
        go_ret
        exact ⟨rfl, HB2.out.trans HFIN.out.2, _, bag ++ [⟨FR.toArray⟩], _, List.length_set, HFIN.out.1⟩
      · have hbd : decide ((bag.length : Int) < 64) = false := by simp; omega
        go_wp2_with fail
        go_ret
        exact ⟨rfl, HB2.out, _, bag, _, List.length_set, HW2.out⟩
    · have hcall := protect_err C wc (l[i]'hpi).sb (l[i]'hpi).U (l[i]'hpi).st (l[i]'hpi).wk t1 (by omega) s hs hpe (HGL.out.below HBW.out)
      rw [HSD.out] at hcall
      have HCALL : Hid (Calls Tryz.prog 66 #[.pointer (some ⟨sd, 0, none⟩), .string s] wc fun e w' => e = .returned (.tuple #[.string ⟨#[]⟩, .bool true]) ∧ Outside (l[i]'hpi).U wc w' ∧ ∃ U', Fresh wc (l[i]'hpi).U U' ∧ Side Rep w' sd U' (l[i]'hpi).st (l[i]'hpi).wk) := hcall
      clear hcall t1 t2 t3 t5 t6
      go_wp2_with fail
      refine HCALL.out.mono ?_
      rintro e w2 ⟨rfl, o2, U', f2, s2⟩
      have HW2 : Hid (WorldAt Rep w2 base wb (.slice (some ⟨lb, 0, none⟩) l.length cap) (.slice p bag.length capb) bag (l.set i ⟨(l[i]'hpi).sb, U', (l[i]'hpi).st, (l[i]'hpi).wk⟩) (bnd + 100)) := by
        have hs2 : Side Rep w2 (l[i]'hpi).sb U' (l[i]'hpi).st (l[i]'hpi).wk := by rw [HSD.out]; exact s2
        have hwk := (HWc.out.side _ (List.getElem_mem hpi)).2.2.1
        exact HWc.out.step C i hpi U' (l[i]'hpi).st (l[i]'hpi).wk (bnd + 100) o2 f2 hs2 (by omega) (by omega)
      have HB2 : Hid (Below base w w2) := (HBW.out.mono hsz).trans (o2.toBelow base (by omega) (HWc.out.side _ (List.getElem_mem hpi)).2.1)
      clear o2 f2 s2 hK t4
      go_wp2_with fail
      go_ret
      exact ⟨rfl, HB2.out, _, bag, _, List.length_set, HW2.out⟩
end Go.Proofs.YtkpebabbnndopaaGreatDoor

/- The law's plays, as far as members protect. -/
namespace Go.Proofs.YtkpebabbnndopaaGreatDoor
open Go.RowKit
set_option linter.unusedVariables false

/-- a list of numbers among the arguments -/
def IntsArg (w : World) (p : Option Addr) (n c : Nat) : Prop := n ≤ c ∧ (n = 0 ∨ ∃ b o, p = some ⟨b, o, none⟩ ∧ ∀ i, i < n → ∃ x : Int, w.cell? ⟨b, o + i, none⟩ = some (.int .i64 x))
/-- a script among the arguments -/
def OpsArg (w : World) (p : Option Addr) (n c : Nat) : Prop := n ≤ c ∧ (n = 0 ∨ ∃ b o, p = some ⟨b, o, none⟩ ∧ ∀ i, i < n → ∃ (k a d : Int) (s : ByteArray), -9223372036854775808 ≤ a ∧ a ≤ 9223372036854775807 ∧ w.cell? ⟨b, o + i * 4, none⟩ = some (.int .i64 k) ∧ w.cell? ⟨b, o + i * 4 + 1, none⟩ = some (.int .i64 a) ∧ w.cell? ⟨b, o + i * 4 + 2, none⟩ = some (.int .i64 d) ∧ w.cell? ⟨b, o + i * 4 + 3, none⟩ = some (.string s))

abbrev S1 (b o : Nat) (x : Int) (W : World) : Prop := W.cell? ⟨b, o, none⟩ = some (.int .i64 x) ∧ b < W.heap.size
theorem S1.below {b o : Nat} {x : Int} {W W' : World} (h : S1 b o x W) (hb : Below W.heap.size W W') : S1 b o x W' := ⟨by rw [hb.cell (p := ⟨b, o, none⟩) h.2, h.1], by have := hb.size; have := h.2; omega⟩
theorem S1.drew {b o : Nat} {x : Int} {W : World} (h : S1 b o x W) : S1 b o x W.drew := h.below (Below.refl _ _).drew

theorem plays_big (root : ByteArray) (n : Int) (po : Option Addr) (no co : Nat) (ps : Option Addr) (ns cs : Nat) (u : Int) (hbig : 4096 < ns ∨ 16 < no) (w : World) :
    Calls Tryz.prog 12 #[.string root, .int .i64 n, .slice po no co, .slice ps ns cs, .int .i64 u] w fun e w' => e = .returned (.bool true) ∧ Below w.heap.size w w' := by
  by_cases h1 : 4096 < ns
  · have d1 : decide (4096 < (ns : Int)) = true := by simp; omega
    go_enter Tryz.func12, Tryz.ntmps12
    go_wp2_with fail
    go_ret
    exact ⟨rfl, Below.refl _ _⟩
  · have d1 : decide (4096 < (ns : Int)) = false := by simp; omega
    have d2 : decide (16 < (no : Int)) = true := by simp; omega
    go_enter Tryz.func12, Tryz.ntmps12
    go_wp2_with fail
    go_ret
    exact ⟨rfl, Below.refl _ _⟩

set_option maxRecDepth 20000 in
set_option maxHeartbeats 4000000 in
theorem plays_small {Rep : World → List Nat → Value → St → Nat → Prop} (C : Code Rep) (root : ByteArray) (n : Int) (po : Option Addr) (no co : Nat) (ps : Option Addr) (ns cs : Nat) (hns : ns ≤ 4096) (hno : no ≤ 16) (w : World) (hown : IntsArg w po no co) (hscr : OpsArg w ps ns cs) (hG : Glob w) :
    Calls Tryz.prog 12 #[.string root, .int .i64 n, .slice po no co, .slice ps ns cs, .int .i64 1] w fun e w' => e = .returned (.bool true) ∧ Below w.heap.size w w' := by
  have d1 : decide (4096 < (ns : Int)) = false := by simp; omega
  have d2 : decide (16 < (no : Int)) = false := by simp; omega
  have hsb := SecL_bd root.data.toList
  have HSEC : Hid (∀ W, Calls Tryz.prog 26 #[.string root] W fun e w' => e = .returned (Agg8 (SecL root.data.toList)) ∧ Below W.heap.size W w') := fun W => secret_below root W
  obtain ⟨s, hs⟩ : ∃ s, SecL root.data.toList = s := ⟨_, rfl⟩
  rw [hs] at hsb HSEC
  clear hs
  have HOWN : Hid (IntsArg w po no co) := hown
  have HSCR : Hid (OpsArg w ps ns cs) := hscr
  have hco := hown.1
  have hcs := hscr.1
  have HGL : Hid (Glob w) := hG
  clear hown hscr hG
  go_enter Tryz.func12, Tryz.ntmps12
  go_wp2_with fail
  go_loopg [12] no (fun k i wr => ∃ (j : Nat) (lv : Value) (l : List SideD), i = .int .i64 j ∧ j + k = no ∧ l.length ≤ j ∧ WorldAt Rep wr w.heap.size w.heap.size lv (.slice none 0 0) [] l 0 ∧ Below w.heap.size w wr)
  case atStart => exact ⟨0, _, [], rfl, by omega, Nat.le_refl _, WorldAt.start w 0, (Below.refl _ w).alloc (Nat.le_refl _) _⟩
  case round =>
    obtain ⟨j, lv, l, rfl, hjk, hlj, hwa, hbel⟩ := hrel
    by_cases hj : j < no
    · rcases HOWN.out.2 with h0 | ⟨ob, off, rfl, hcell⟩
      · omega
      · obtain ⟨x, hx⟩ := hcell j hj
        have hobl : ob < w.heap.size := block_lt_of_cell hx
        have hS1 : S1 ob (off + j) x wr := ⟨by rw [hbel.cell (p := ⟨ob, off + j, none⟩) hobl]; exact hx, by have := hbel.size; omega⟩
        have HWA : Hid (WorldAt Rep wr w.heap.size w.heap.size lv (.slice none 0 0) [] l 0 ∧ Below w.heap.size w wr) := ⟨hwa, hbel⟩
        clear hwa hbel hcell hx
        cases hfit : FitB n x with
        | false =>
          have HN : Hid (∀ W, Calls Tryz.prog 25 #[Agg8 s, .int .i64 n, .int .i64 x] W fun e w' => e = .returned (.tuple #[.pointer none, .int .i64 1]) ∧ Below W.heap.size W w') := fun W => C.newErr s n x W hsb hfit
          have HRN : Hid (∀ W, Calls Tryz.prog 27 #[Agg8 s, .int .i64 n, .int .i64 x] W fun e w' => e = .returned (.pointer none) ∧ Below W.heap.size W w') := fun W => refNew_none s n x hfit W
          go_upto_region 7 with fail
          go_cut [13, 14] (fun s13 s14 wy => s13 = .pointer none ∧ s14 = .int .i64 1 ∧ Below wr.heap.size wr wy)
          case first =>
            go_region_held3 (fun W => S1 ob (off + j) x W) ((with_reducible first | exact hS1.drew | exact S1.below hS1.drew hb1 | exact S1.below (S1.below hS1.drew hb1) hb2)) ((first | (go_at_call 26; refine (HSEC.out _).mono ?_; rintro e w1 ⟨rfl, hb1⟩) | (go_at_call 25; refine (HN.out _).mono ?_; rintro e w2 ⟨rfl, hb2⟩)))
            all_goals
              go_wp2_with fail
              go_meet
              exact ⟨rfl, rfl, ((Below.refl _ wr).drew.trans hb1).trans (hb2.mono hb1.size)⟩
          case rest =>
            obtain ⟨rfl, rfl, hb7⟩ := hcut
            have hS2 := S1.below hS1 hb7
            clear HN hS1
            go_upto_region 8 with fail
            go_cut [15] (fun s15 wy => s15 = .pointer none ∧ Below wc.heap.size wc wy)
            case first =>
              go_region_held3 (fun W => S1 ob (off + j) x W) ((with_reducible first | exact hS2.drew | exact S1.below hS2.drew hb1 | exact S1.below (S1.below hS2.drew hb1) hb2)) ((first | (go_at_call 26; refine (HSEC.out _).mono ?_; rintro e w1 ⟨rfl, hb1⟩) | (go_at_call 27; refine (HRN.out _).mono ?_; rintro e w2 ⟨rfl, hb2⟩)))
              all_goals
                go_wp2_with fail
                go_meet
                exact ⟨rfl, ((Below.refl _ wc).drew.trans hb1).trans (hb2.mono hb1.size)⟩
            case rest =>
              obtain ⟨rfl, hb8⟩ := hcut
              have HB8 : Hid (Below wr.heap.size wr wc) := hb7.trans (hb8.mono hb7.size)
              clear hb7 hb8 hS2 HRN
              go_wp2_with fail
              go_roundg (gk - 1)
              case measure => omega
              case rel => exact ⟨j + 1, lv, l, by go_num, by omega, by omega, HWA.out.1.below C HB8.out, HWA.out.2.trans (HB8.out.mono HWA.out.2.size)⟩
        | true =>
          obtain ⟨g1, g2, g3, g4⟩ := (fitB_iff n x).1 hfit
          obtain ⟨N, rfl⟩ : ∃ N : Nat, n = N := ⟨n.toNat, by omega⟩
          obtain ⟨M, rfl⟩ : ∃ M : Nat, x = M := ⟨x.toNat, by omega⟩
          have HN : Hid (∀ W, Calls Tryz.prog 25 #[Agg8 s, .int .i64 N, .int .i64 M] W fun e w' => ∃ b S, e = .returned (.tuple #[.pointer (some ⟨b, 0, none⟩), .int .i64 0]) ∧ Below W.heap.size W w' ∧ (∀ k, k ∈ S → W.heap.size ≤ k) ∧ Rep w' S (.pointer (some ⟨b, 0, none⟩)) (St.new s N M) 0) := fun W => C.new s N M W hsb (by omega) (by omega) (by omega)
          have HRN : Hid (∀ W, Calls Tryz.prog 27 #[Agg8 s, .int .i64 N, .int .i64 M] W fun e w' => ∃ rb S, e = .returned (.pointer (some ⟨rb, 0, none⟩)) ∧ Below W.heap.size W w' ∧ (∀ k, k ∈ S → W.heap.size ≤ k ∧ k < w'.heap.size) ∧ RefRep w' S rb (St.new s N M) 0) := fun W => refNew_some s N M (by omega) (by omega) (by omega) W
          have HOK : Hid ((St.new s N M).Ok) := St.new_ok s hsb N M (by omega) (by omega) (by omega)
          clear hfit
          go_upto_region 7 with fail
          go_cut [13, 14] (fun s13 s14 wy => ∃ b S, s13 = .pointer (some ⟨b, 0, none⟩) ∧ s14 = .int .i64 0 ∧ Below wr.heap.size wr wy ∧ (∀ k, k ∈ S → wr.heap.size ≤ k) ∧ Rep wy S (.pointer (some ⟨b, 0, none⟩)) (St.new s N M) 0)
          case first =>
            go_region_held3 (fun W => S1 ob (off + j) M W) ((with_reducible first | exact hS1.drew | exact S1.below hS1.drew hb1 | exact S1.below (S1.below hS1.drew hb1) hb2)) ((first | (go_at_call 26; refine (HSEC.out _).mono ?_; rintro e w1 ⟨rfl, hb1⟩) | (go_at_call 25; refine (HN.out _).mono ?_; rintro e w2 ⟨b, S, rfl, hb2, hSS, hrp⟩)))
            all_goals
              go_wp2_with fail
              go_meet
              have z1 : wr.heap.size ≤ w1.heap.size := hb1.size
              exact ⟨b, S, rfl, rfl, ((Below.refl _ wr).drew.trans hb1).trans (hb2.mono hb1.size), fun k hk => by have := hSS k hk; omega, hrp⟩
          case rest =>
            obtain ⟨b, S, rfl, rfl, hb7, hSS, hrp⟩ := hcut
            have hS2 := S1.below hS1 hb7
            have HH7 : Hid (Below wr.heap.size wr wc ∧ (∀ k, k ∈ S → wr.heap.size ≤ k) ∧ Rep wc S (.pointer (some ⟨b, 0, none⟩)) (St.new s N M) 0) := ⟨hb7, hSS, hrp⟩
            clear HN hS1 hb7 hSS hrp
            go_upto_region 8 with fail
            go_cut [15] (fun s15 wy => ∃ rb T, s15 = .pointer (some ⟨rb, 0, none⟩) ∧ Below wc.heap.size wc wy ∧ (∀ k, k ∈ T → wc.heap.size ≤ k ∧ k < wy.heap.size) ∧ RefRep wy T rb (St.new s N M) 0)
            case first =>
              go_region_held3 (fun W => S1 ob (off + j) M W) ((with_reducible first | exact hS2.drew | exact S1.below hS2.drew hb1 | exact S1.below (S1.below hS2.drew hb1) hb2)) ((first | (go_at_call 26; refine (HSEC.out _).mono ?_; rintro e w1 ⟨rfl, hb1⟩) | (go_at_call 27; refine (HRN.out _).mono ?_; rintro e w2 ⟨rb, T, rfl, hb2, hTT, hrf⟩)))
              all_goals
                go_wp2_with fail
                go_meet
                have z1 : wc.heap.size ≤ w1.heap.size := hb1.size
                exact ⟨rb, T, rfl, ((Below.refl _ wc).drew.trans hb1).trans (hb2.mono hb1.size), fun k hk => by have := hTT k hk; omega, hrf⟩
            case rest =>
              obtain ⟨rb, T, rfl, hb8, hTT, hrf⟩ := hcut
              obtain ⟨hb7, hSS, hrp⟩ := HH7.out
              have hb78 := hb7.trans (hb8.mono hb7.size)
              have z7 := hb7.size
              have hrp8 := C.keep hrp hb8.size (fun k a _ => hb8.block k a)
              obtain ⟨v', w', hrun, hrow, hwa2, hbel2, p', n', c', rfl⟩ := HWA.out.1.added C (by omega) hb78 S T (.pointer (some ⟨b, 0, none⟩)) rb (St.new s N M) 0 HOK.out hrp8 hrf hSS (fun k hk => ⟨by have := hTT k hk; omega, (hTT k hk).2⟩) (fun k hk hk' => by have h1 := C.lt hrp k hk; have h2 := hTT k hk'; omega) 61
              have hA := (row_facts' (HWA.out.1.below C hb78).row).1
              have hwb8 : w.heap.size < wc.heap.size := (Array.getElem?_eq_some_iff.1 (HWA.out.1.below C hb78).row).1
              obtain ⟨hA3, hAf3⟩ := row_facts' hrow
              have hlvs : ∃ pl nl cl, lv = .slice pl nl cl := by
                rcases HWA.out.1.ownl.2 with ⟨e1, _⟩ | ⟨g', c', cur, e1, _⟩
                · exact ⟨_, _, _, e1⟩
                · exact ⟨_, _, _, e1⟩
              obtain ⟨pl, nl, cl, rfl⟩ := hlvs
              have HRUN : Hid ((Builtin.append_ #[61, 61] 61 #[.slice pl nl cl, .slice (some ⟨wc.heap.size + 1, 0, none⟩) 1 1]).run Tryz.prog ((wc.alloc (.cells (CellsS (.pointer (some ⟨b, 0, none⟩)) rb 0) 71)).alloc (.cells #[.pointer (some ⟨wc.heap.size, 0, none⟩)] 69)) = .ok (.slice p' n' c') w') := hrun
              have HFIN : Hid (WorldAt Rep (w'.setCell ⟨w.heap.size, 0, none⟩ (.slice p' n' c')) w.heap.size w.heap.size (.slice p' n' c') (.slice none 0 0) [] (l ++ [⟨wc.heap.size, wc.heap.size :: (S ++ T), St.new s N M, 0⟩]) 0 ∧ Below w.heap.size wr (w'.setCell ⟨w.heap.size, 0, none⟩ (.slice p' n' c'))) := ⟨hwa2, hbel2⟩
              clear hb7 hSS hrp hb8 hTT hrf hb78 hrp8 hrun hrow hwa2 hbel2 hS2 HRN
              go_wp2_with (at_builtin; refine wpList_app rfl _ _ 61 61 rfl rfl _ _ _ _ rfl rfl HRUN.out ?_)
              go_roundg (gk - 1)
              case measure => omega
              case rel => exact ⟨j + 1, _, _, by go_num, by omega, by simp; omega, HFIN.out.1, HWA.out.2.trans HFIN.out.2⟩
    · have HWA : Hid (WorldAt Rep wr w.heap.size w.heap.size lv (.slice none 0 0) [] l 0 ∧ Below w.heap.size w wr) := ⟨hwa, hbel⟩
      have hlv : ∃ pl cl, lv = .slice pl l.length cl := by
        rcases hwa.ownl.2 with ⟨e1, e2⟩ | ⟨g', c', cur, e1, _⟩
        · exact ⟨none, 0, by rw [e1, e2]⟩
        · exact ⟨_, _, e1⟩
      obtain ⟨pl, cl, rfl⟩ := hlv
      have hA := (row_facts' hwa.row).1
      have hl16 : l.length ≤ 16 := by omega
      clear hwa hbel
      by_cases hl0 : l.length = 0
      · have hl0' : ((l.length : Int) == 0) = true := by rw [hl0]; rfl
        go_wp2_with fail
        go_ret
        exact ⟨rfl, HWA.out.2⟩
      · have hl0' : ((l.length : Int) == 0) = false := by
          have : ¬ (l.length : Int) = 0 := by omega
          simpa using this
        go_wp2_with fail
        clear hA hl0'
        obtain ⟨LN, hLN⟩ : ∃ LN, l.length = LN := ⟨_, rfl⟩
        rw [hLN]
        have HLN : Hid (l.length = LN) := hLN
        rw [hLN] at hl16 hl0
        clear hLN
        go_loopg [16] ns (fun k i wr2 => ∃ (j : Nat) (bv : Value) (bag : List ByteArray) (l' : List SideD), i = .int .i64 j ∧ j + k = ns ∧ l'.length = LN ∧ WorldAt Rep wr2 w.heap.size w.heap.size (.slice pl LN cl) bv bag l' (100 * j) ∧ Below w.heap.size w wr2)
        case atStart => exact ⟨0, _, [], l, rfl, by omega, HLN.out, by have h := HWA.out.1; rw [HLN.out] at h; exact h, HWA.out.2⟩
        case round =>
          obtain ⟨q, bv, bag, l', rfl, hqk, hl', hwa, hbel⟩ := hrel
          by_cases hq : q < ns
          · rcases HSCR.out.2 with h0 | ⟨sb, soff, rfl, hcell⟩
            · omega
            · obtain ⟨kd, a, d, str, ha1, ha2, k0, k1, k2, k3⟩ := hcell q hq
              have hsbl : sb < w.heap.size := block_lt_of_cell k0
              have m0 : wr.cell? ⟨sb, soff + q * 4, none⟩ = some (.int .i64 kd) := by rw [hbel.cell (p := ⟨sb, soff + q * 4, none⟩) hsbl, k0]
              have m1 : wr.cell? ⟨sb, soff + q * 4 + 1, none⟩ = some (.int .i64 a) := by rw [hbel.cell (p := ⟨sb, soff + q * 4 + 1, none⟩) hsbl, k1]
              have m2 : wr.cell? ⟨sb, soff + q * 4 + 2, none⟩ = some (.int .i64 d) := by rw [hbel.cell (p := ⟨sb, soff + q * 4 + 2, none⟩) hsbl, k2]
              have m3 : wr.cell? ⟨sb, soff + q * 4 + 3, none⟩ = some (.string str) := by rw [hbel.cell (p := ⟨sb, soff + q * 4 + 3, none⟩) hsbl, k3]
              have HQ : Hid (WorldAt Rep wr w.heap.size w.heap.size (.slice pl LN cl) bv bag l' (100 * q) ∧ Below w.heap.size w wr) := ⟨hwa, hbel⟩
              have hmono : Hid (∀ W bv bag l', WorldAt Rep W w.heap.size w.heap.size (.slice pl LN cl) bv bag l' (100 * q) → WorldAt Rep W w.heap.size w.heap.size (.slice pl LN cl) bv bag l' (100 * (q + 1))) := fun W bv bag l' h => ⟨h.base_le, h.wbb, h.row, h.ownl, h.ownb, h.bag64, h.nl, h.nb, h.nlb, fun s hs => by obtain ⟨a1, a2, a3, a4⟩ := h.side s hs; exact ⟨a1, a2, by omega, a4⟩, h.dis⟩
              clear hwa hbel hcell k0 k1 k2 k3
              by_cases hbig : 65536 < str.size
              · have e1 : decide (65536 < (str.size : Int)) = true := by simp; omega
                go_wp2_with fail
                go_roundg (gk - 1)
                case measure => omega
                case rel => exact ⟨q + 1, bv, bag, l', by go_num, by omega, hl', hmono.out _ _ _ _ HQ.out.1, HQ.out.2⟩
              · have e1 : decide (65536 < (str.size : Int)) = false := by simp; omega
                by_cases hkd : 1 < kd
                · go_wp2_with fail
                  go_roundg (gk - 1)
                  case measure => omega
                  case rel => exact ⟨q + 1, bv, bag, l', by go_num, by omega, hl', hmono.out _ _ _ _ HQ.out.1, HQ.out.2⟩
                · have HST : Hid (Calls Tryz.prog 28 #[.pointer (some ⟨w.heap.size, 0, none⟩), .agg (OpV kd a d str)] wr fun e w' => e = .returned (.bool true) ∧ Stepped Rep wr w.heap.size w.heap.size (.slice pl LN cl) LN (100 * (q + 1)) w') := by
                    by_cases hk1 : kd = 1
                    · subst hk1
                      have h := step_protect C wr w.heap.size w.heap.size (.slice pl LN cl) bv bag l' (100 * q) HQ.out.1 (by omega) (by omega) a d str (by omega) (by omega) ha1 ha2 (HGL.out.below HQ.out.2)
                      rw [hl'] at h
                      exact h
                    · have h := step_idle C wr w.heap.size w.heap.size (.slice pl LN cl) bv bag l' (100 * (q + 1)) (hmono.out _ _ _ _ HQ.out.1) (by omega) (by omega) kd a d str (by omega) ha1 ha2
                      rw [hl'] at h
                      exact h
                  go_wp2_with fail
                  refine HST.out.mono ?_
                  rintro e w2 ⟨rfl, hb2, bv2, bag2, l2, hl2, hwa2⟩
                  have HF : Hid (WorldAt Rep w2 w.heap.size w.heap.size (.slice pl LN cl) bv2 bag2 l2 (100 * (q + 1)) ∧ Below w.heap.size wr w2) := ⟨hwa2, hb2⟩
                  clear hwa2 hb2 m0 m1 m2 m3 HST
                  go_wp2_with fail
                  go_roundg (gk - 1)
                  case measure => omega
                  case rel => exact ⟨q + 1, bv2, bag2, l2, by go_num, by omega, hl2, HF.out.1, HQ.out.2.trans HF.out.2⟩
          · have HQ : Hid (WorldAt Rep wr w.heap.size w.heap.size (.slice pl LN cl) bv bag l' (100 * q) ∧ Below w.heap.size w wr) := ⟨hwa, hbel⟩
            have hqe : ¬ (q : Int) < ns := by omega
            clear hwa hbel
            go_wp2_with fail
            go_loopg [18] LN (fun k i wr2 => ∃ (j : Nat) (l2 : List SideD), i = .int .i64 j ∧ j + k = LN ∧ l2.length = LN ∧ WorldAt Rep wr2 w.heap.size w.heap.size (.slice pl LN cl) bv bag l2 (100 * q) ∧ Below w.heap.size w wr2)
            case atStart => exact ⟨0, l', rfl, by omega, hl', HQ.out.1, HQ.out.2⟩
            case round =>
              obtain ⟨r, l2, rfl, hrk, hl2, hwa, hbel⟩ := hrel
              have hA := (row_facts' hwa.row).1
              by_cases hr : r < LN
              · have hpi : r < l2.length := by omega
                obtain ⟨lb, cap, hlv, hcap, hlb, hcell⟩ := worldAt_ptr hwa (by omega)
                rw [hl2] at hlv
                cases hlv
                have hci := hcell r hpi
                obtain ⟨sd, hsd⟩ : ∃ sd, (l2[r]'hpi).sb = sd := ⟨_, rfl⟩
                rw [hsd] at hci
                have hdm := dump_any C wr (l2[r]'hpi).sb (l2[r]'hpi).U (l2[r]'hpi).st (l2[r]'hpi).wk (hwa.side _ (List.getElem_mem hpi)).1
                rw [hsd] at hdm
                have HDM : Hid (Calls Tryz.prog 29 #[.pointer (some ⟨sd, 0, none⟩)] wr fun e w' => e = .returned (.bool true) ∧ Outside (l2[r]'hpi).U wr w' ∧ ∃ U', Fresh wr (l2[r]'hpi).U U' ∧ Side Rep w' sd U' (l2[r]'hpi).st (l2[r]'hpi).wk) := hdm
                have HSD : Hid ((l2[r]'hpi).sb = sd) := hsd
                have HW : Hid (WorldAt Rep wr w.heap.size w.heap.size (.slice (some ⟨lb, 0, none⟩) LN cl) bv bag l2 (100 * q) ∧ Below w.heap.size w wr) := ⟨hwa, hbel⟩
                clear hwa hbel hcell hdm hsd
                go_wp2_with fail
                refine HDM.out.mono ?_
                rintro e w2 ⟨rfl, o2, U', f2, s2⟩
                have HF : Hid (WorldAt Rep w2 w.heap.size w.heap.size (.slice (some ⟨lb, 0, none⟩) LN cl) bv bag (l2.set r ⟨(l2[r]'hpi).sb, U', (l2[r]'hpi).st, (l2[r]'hpi).wk⟩) (100 * q) ∧ Below w.heap.size wr w2) := by
                  have hs2 : Side Rep w2 (l2[r]'hpi).sb U' (l2[r]'hpi).st (l2[r]'hpi).wk := by rw [HSD.out]; exact s2
                  have hsd := HW.out.1.side _ (List.getElem_mem hpi)
                  exact ⟨HW.out.1.step C r hpi U' (l2[r]'hpi).st (l2[r]'hpi).wk (100 * q) o2 f2 hs2 hsd.2.2.1 (Nat.le_refl _), o2.toBelow w.heap.size HW.out.1.base_le hsd.2.1⟩
                clear o2 f2 s2 hA hci HDM
                go_wp2_with fail
                go_roundg (gk - 1)
                case measure => omega
                case rel => exact ⟨r + 1, _, by go_num, by omega, by rw [List.length_set]; exact hl2, HF.out.1, HW.out.2.trans HF.out.2⟩
              · have HW : Hid (Below w.heap.size w wr) := hbel
                have hre : ¬ (r : Int) < LN := by omega
                clear hwa hbel
                go_wp2_with fail
                go_ret
                exact ⟨rfl, HW.out⟩
end Go.Proofs.YtkpebabbnndopaaGreatDoor

/- epochref.among. -/
namespace Go.Proofs.YtkpebabbnndopaaGreatDoor
open Go.RowKit
set_option linter.unusedVariables false

/-- the place of x in l; -1: it is not there -/
def AmongI : List Nat → Nat → Int
  | [], _ => -1
  | y :: l, x => if y = x then 0 else if AmongI l x < 0 then -1 else AmongI l x + 1
theorem among_neg (l : List Nat) (x : Nat) : AmongI l x < 0 ↔ x ∉ l := by
  induction l with
  | nil => simp [AmongI]
  | cons y l ih =>
    rw [AmongI]
    by_cases h : y = x
    · rw [if_pos h]; simp [h]
    · rw [if_neg h]
      have h' : ¬ x = y := fun e => h e.symm
      split
      · rename_i h2; simp [h', ih.1 h2]
      · rename_i h2
        have : x ∈ l := Classical.byContradiction fun hc => h2 (ih.2 hc)
        simp [this]; omega
theorem among_skip (l : List Nat) (x i : Nat) (hi : ∀ j (hj : j < l.length), j < i → l[j] ≠ x) (hil : i < l.length) (he : l[i] = x) : AmongI l x = i := by
  induction l generalizing i with
  | nil => simp at hil
  | cons y l ih =>
    cases i with
    | zero => rw [AmongI, if_pos (by simpa using he)]; rfl
    | succ i =>
      have h0 : ¬ y = x := hi 0 (by simp) (by omega)
      have h1 := ih i (fun j hj hji => by have := hi (j + 1) (by simpa using hj) (by omega); simpa using this) (by simpa using hil) (by simpa using he)
      rw [AmongI, if_neg h0, h1, if_neg (by omega)]
      omega
theorem among_none (l : List Nat) (x : Nat) (hi : ∀ j (hj : j < l.length), l[j] ≠ x) : AmongI l x = -1 := by
  induction l with
  | nil => rfl
  | cons y l ih =>
    have h0 : ¬ y = x := hi 0 (by simp)
    have h1 := ih fun j hj => by have := hi (j + 1) (by simpa using hj); simpa using this
    rw [AmongI, if_neg h0, h1, if_pos (by omega)]

set_option maxHeartbeats 400000 in
theorem refAmong_any (p : Option Addr) (l : List Nat) (cap : Nat) (x : Nat) (hl : l.length ≤ 1000) (w : World) (hc : l = [] ∨ ∃ b o, p = some ⟨b, o, none⟩ ∧ ∀ j (hj : j < l.length), w.cell? ⟨b, o + j, none⟩ = some (.int .i64 (l[j] : Int))) (hcap : l.length ≤ cap) :
    Calls Tryz.prog 136 #[.slice p l.length cap, .int .i64 x] w fun e w' => e = .returned (.int .i64 (AmongI l x)) ∧ w' = w := by
  have HS : Hid (∀ i (hil : i < l.length), (∀ j (hj : j < l.length), j < i → l[j] ≠ x) → l[i] = x → AmongI l x = i) := fun i hil hi he => among_skip l x i hi hil he
  have HN : Hid ((∀ j (hj : j < l.length), l[j] ≠ x) → AmongI l x = -1) := among_none l x
  obtain ⟨A, hA⟩ : ∃ A, AmongI l x = A := ⟨_, rfl⟩
  rw [hA] at HS HN ⊢
  clear hA
  have HC : Hid (l = [] ∨ ∃ b o, p = some ⟨b, o, none⟩ ∧ ∀ j (hj : j < l.length), w.cell? ⟨b, o + j, none⟩ = some (.int .i64 (l[j] : Int))) := hc
  clear hc
  go_enter Tryz.func136, Tryz.ntmps136
  go_wp2_with fail
  go_loopg [5] l.length (fun k i wr => ∃ q : Nat, i = .int .i64 q ∧ q + k = l.length ∧ (∀ j (hj : j < l.length), j < q → l[j] ≠ x) ∧ wr = w)
  case atStart => exact ⟨0, rfl, by omega, fun j hj hj0 => by omega, rfl⟩
  case round =>
    obtain ⟨q, rfl, hqk, hne, rfl⟩ := hrel
    have HNE : Hid (∀ j (hj : j < l.length), j < q → l[j] ≠ x) := hne
    clear hne
    by_cases hq : q < l.length
    · rcases HC.out with he | ⟨b, o, rfl, hcell⟩
      · rw [he] at hq; simp at hq
      · have hcq := hcell q hq
        have HLX : Hid (∀ g, l[q] = g → (g = x → A = q)) := fun g hg hgx => HS.out q hq HNE.out (hg.trans hgx)
        obtain ⟨g, hg⟩ : ∃ g, l[q] = g := ⟨_, rfl⟩
        rw [hg] at hcq
        have HG : Hid (l[q] = g) := hg
        clear hcell hg
        by_cases hgx : g = x
        · subst hgx
          go_wp2_with fail
          go_ret
          exact ⟨by rw [HLX.out g HG.out rfl]; rfl, rfl⟩
        · have hgx' : ((g : Int) == x) = false := by
            have : ¬ (g : Int) = x := by omega
            simpa using this
          go_wp2_with fail
          go_roundg (gk - 1)
          case measure => omega
          case rel =>
            refine ⟨q + 1, by go_num, by omega, fun j hj hjq => ?_, rfl⟩
            by_cases hjq2 : j < q
            · exact HNE.out j hj hjq2
            · obtain rfl : j = q := by omega
              rw [HG.out]; exact hgx
    · have hqe : ¬ (q : Int) < l.length := by omega
      go_wp2_with fail
      go_ret
      exact ⟨by rw [HN.out fun j hj => HNE.out j hj (by omega)]; rfl, rfl⟩
end Go.Proofs.YtkpebabbnndopaaGreatDoor

/- epochref.Unprotect, where nothing is opened. -/
namespace Go.Proofs.YtkpebabbnndopaaGreatDoor
open Go.RowKit
set_option linter.unusedVariables false

theorem index_byte (f : ByteArray) (i : Nat) (hi : i < f.data.toList.length) (w : World) : (Instr.index 9 (.string f) (.int .i64 i)).run Tryz.prog w = .ok (.int .u8 ((f.data.toList.getD i 0).toNat : Int)) w := by
  have h0 : (0 : Int) ≤ i := by omega
  have hl : i < f.size := by rw [Array.length_toList] at hi; exact hi
  have hg : f[i]? = some (f.data.toList.getD i 0) := by
    rw [List.getD_eq_getElem?_getD, List.getElem?_eq_getElem hi]
    simp [hl]
    rfl
  simp [Instr.index, asIntOf, run_underlying Tryz.underlying9, h0, hg]
set_option maxRecDepth 20000 in
set_option maxHeartbeats 2000000 in
theorem refUn_closed (w : World) (S : List Nat) (rb : Nat) (st : St) (steps : Int) (ok : st.Ok) (h : RefRep w S rb st steps) (f : ByteArray) (hcl : st.closed = true) :
    Calls Tryz.prog 101 #[.pointer (some ⟨rb, 0, none⟩), .string f] w fun x w' => x = .returned (.tuple #[.int .i64 0, .int .i64 0, .string ⟨#[]⟩, .int .i64 9]) ∧ Outside S w w' ∧ RefRep w' S rb st 0 := by
  obtain ⟨mb, cs, ov, hr⟩ := h
  have ho := ok.own
  have h16 := ok.n16
  obtain ⟨wx, hwx⟩ : ∃ wx, w.setCell ⟨rb, 12, none⟩ (.int .i64 0) = wx := ⟨_, rfl⟩
  have hx : RefG wx S rb mb cs ov st 0 := by rw [← hwx]; exact hr.setSteps 0
  have hxo : Outside S w wx := by rw [← hwx]; exact (Outside.refl _ _).setCell _ (fun _ => hr.2.1) _
  obtain ⟨c1, c2, c3, c4, c5⟩ := hr.cells st.own ho
  obtain ⟨e1, e2, e3, e4, e5⟩ := hx.cells st.own ho
  have HX : Hid (RefG wx S rb mb cs ov st 0) := hx
  have HWX : Hid (w.setCell ⟨rb, 12, none⟩ (.int .i64 0) = wx) := hwx
  have HXO : Hid (Outside S w wx) := hxo
  have hsz : f.data.toList.length = f.size := Array.length_toList
  clear hr hx hwx hxo c3 c4 c5
  clear hsz e3 e4 e5
  go_enter Tryz.func101, Tryz.ntmps101
  go_upto_region 2 with fail
  rw [HWX.out]
  clear c1 c2
  go_wp2_with fail
  exact bodyPost_ret (v := .tuple #[.int .i64 0, .int .i64 0, .string ⟨#[]⟩, .int .i64 9]) (by simp [results, Tryz.results101, go_sem]) rfl ⟨rfl, HXO.out, mb, cs, ov, HX.out⟩
set_option maxRecDepth 20000 in
set_option maxHeartbeats 2000000 in
theorem refUn_short (w : World) (S : List Nat) (rb : Nat) (st : St) (steps : Int) (ok : st.Ok) (h : RefRep w S rb st steps) (f : ByteArray) (hcl : st.closed = false) (hs : f.data.toList.length < 7) :
    Calls Tryz.prog 101 #[.pointer (some ⟨rb, 0, none⟩), .string f] w fun x w' => x = .returned (.tuple #[.int .i64 0, .int .i64 0, .string ⟨#[]⟩, .int .i64 3]) ∧ Outside S w w' ∧ RefRep w' S rb st 0 := by
  obtain ⟨mb, cs, ov, hr⟩ := h
  have ho := ok.own
  have h16 := ok.n16
  obtain ⟨wx, hwx⟩ : ∃ wx, w.setCell ⟨rb, 12, none⟩ (.int .i64 0) = wx := ⟨_, rfl⟩
  have hx : RefG wx S rb mb cs ov st 0 := by rw [← hwx]; exact hr.setSteps 0
  have hxo : Outside S w wx := by rw [← hwx]; exact (Outside.refl _ _).setCell _ (fun _ => hr.2.1) _
  obtain ⟨c1, c2, c3, c4, c5⟩ := hr.cells st.own ho
  obtain ⟨e1, e2, e3, e4, e5⟩ := hx.cells st.own ho
  have HX : Hid (RefG wx S rb mb cs ov st 0) := hx
  have HWX : Hid (w.setCell ⟨rb, 12, none⟩ (.int .i64 0) = wx) := hwx
  have HXO : Hid (Outside S w wx) := hxo
  have hsz : f.data.toList.length = f.size := Array.length_toList
  clear hr hx hwx hxo c3 c4 c5
  obtain ⟨Z, hZ⟩ : ∃ Z : Int, (f.size : Int) = Z := ⟨_, rfl⟩
  have d1 : Z < 7 := by omega
  clear hsz e3 e4 e5 hs
  go_enter Tryz.func101, Tryz.ntmps101
  go_upto_region 2 with fail
  rw [HWX.out]
  clear c1 c2
  go_upto_region 4 with fail
  go_quiet (fail)
  go_wp2_with fail
  exact bodyPost_ret (v := .tuple #[.int .i64 0, .int .i64 0, .string ⟨#[]⟩, .int .i64 3]) (by simp [results, Tryz.results101, go_sem]) rfl ⟨rfl, HXO.out.below (below_drewN _ _ _), mb, cs, ov, HX.out.below (below_drewN _ _ _)⟩
set_option maxRecDepth 20000 in
set_option maxHeartbeats 2000000 in
theorem refUn_long (w : World) (S : List Nat) (rb : Nat) (st : St) (steps : Int) (ok : st.Ok) (h : RefRep w S rb st steps) (f : ByteArray) (hcl : st.closed = false) (hs : 47 < f.data.toList.length) :
    Calls Tryz.prog 101 #[.pointer (some ⟨rb, 0, none⟩), .string f] w fun x w' => x = .returned (.tuple #[.int .i64 0, .int .i64 0, .string ⟨#[]⟩, .int .i64 3]) ∧ Outside S w w' ∧ RefRep w' S rb st 0 := by
  obtain ⟨mb, cs, ov, hr⟩ := h
  have ho := ok.own
  have h16 := ok.n16
  obtain ⟨wx, hwx⟩ : ∃ wx, w.setCell ⟨rb, 12, none⟩ (.int .i64 0) = wx := ⟨_, rfl⟩
  have hx : RefG wx S rb mb cs ov st 0 := by rw [← hwx]; exact hr.setSteps 0
  have hxo : Outside S w wx := by rw [← hwx]; exact (Outside.refl _ _).setCell _ (fun _ => hr.2.1) _
  obtain ⟨c1, c2, c3, c4, c5⟩ := hr.cells st.own ho
  obtain ⟨e1, e2, e3, e4, e5⟩ := hx.cells st.own ho
  have HX : Hid (RefG wx S rb mb cs ov st 0) := hx
  have HWX : Hid (w.setCell ⟨rb, 12, none⟩ (.int .i64 0) = wx) := hwx
  have HXO : Hid (Outside S w wx) := hxo
  have hsz : f.data.toList.length = f.size := Array.length_toList
  clear hr hx hwx hxo c3 c4 c5
  obtain ⟨Z, hZ⟩ : ∃ Z : Int, (f.size : Int) = Z := ⟨_, rfl⟩
  have d1 : ¬ Z < 7 := by omega
  have d2 : 47 < Z := by omega
  have d3 : decide (Z < 7) = false := by simp; omega
  clear hsz e3 e4 e5 hs
  go_enter Tryz.func101, Tryz.ntmps101
  go_upto_region 2 with fail
  rw [HWX.out]
  clear c1 c2
  go_upto_region 4 with fail
  go_quiet (fail)
  go_wp2_with fail
  exact bodyPost_ret (v := .tuple #[.int .i64 0, .int .i64 0, .string ⟨#[]⟩, .int .i64 3]) (by simp [results, Tryz.results101, go_sem]) rfl ⟨rfl, HXO.out.below (below_drewN _ _ _), mb, cs, ov, HX.out.below (below_drewN _ _ _)⟩
set_option maxRecDepth 20000 in
set_option maxHeartbeats 2000000 in
theorem refUn_nobody (w : World) (S : List Nat) (rb : Nat) (st : St) (steps : Int) (ok : st.Ok) (h : RefRep w S rb st steps) (f : ByteArray) (hcl : st.closed = false) (hs : 7 ≤ f.data.toList.length) (hs2 : f.data.toList.length ≤ 47) (hc : st.n ≤ unWho f.data.toList) :
    Calls Tryz.prog 101 #[.pointer (some ⟨rb, 0, none⟩), .string f] w fun x w' => x = .returned (.tuple #[.int .i64 0, .int .i64 0, .string ⟨#[]⟩, .int .i64 3]) ∧ Outside S w w' ∧ RefRep w' S rb st 0 := by
  obtain ⟨mb, cs, ov, hr⟩ := h
  have ho := ok.own
  have h16 := ok.n16
  obtain ⟨wx, hwx⟩ : ∃ wx, w.setCell ⟨rb, 12, none⟩ (.int .i64 0) = wx := ⟨_, rfl⟩
  have hx : RefG wx S rb mb cs ov st 0 := by rw [← hwx]; exact hr.setSteps 0
  have hxo : Outside S w wx := by rw [← hwx]; exact (Outside.refl _ _).setCell _ (fun _ => hr.2.1) _
  obtain ⟨c1, c2, c3, c4, c5⟩ := hr.cells st.own ho
  obtain ⟨e1, e2, e3, e4, e5⟩ := hx.cells st.own ho
  have HX : Hid (RefG wx S rb mb cs ov st 0) := hx
  have HWX : Hid (w.setCell ⟨rb, 12, none⟩ (.int .i64 0) = wx) := hwx
  have HXO : Hid (Outside S w wx) := hxo
  have hsz : f.data.toList.length = f.size := Array.length_toList
  clear hr hx hwx hxo c3 c4 c5
  obtain ⟨Z, hZ⟩ : ∃ Z : Int, (f.size : Int) = Z := ⟨_, rfl⟩
  have d1 : ¬ Z < 7 := by omega
  have d2 : ¬ 47 < Z := by omega
  have d3 : decide (Z < 7) = false := by simp; omega
  have d4 : decide (47 < Z) = false := by simp; omega
  have hix : ∀ w, (Instr.index 9 (.string f) (.int .i64 0)).run Tryz.prog w = .ok (.int .u8 (unWho f.data.toList : Int)) w := fun w => index_byte f 0 (by omega) w
  have hwl := unWho_lt f.data.toList
  obtain ⟨WH, hWH⟩ : ∃ WH : Int, (unWho f.data.toList : Int) = WH := ⟨_, rfl⟩
  have dw : (st.n : Int) ≤ WH := by omega
  have dw0 : 0 ≤ WH := by omega
  have dw1 : WH < 256 := by omega
  rw [hWH] at hix
  clear hsz e3 e4 e5 hs hs2 hwl hWH hc
  go_enter Tryz.func101, Tryz.ntmps101
  go_upto_region 2 with fail
  rw [HWX.out]
  clear c1 c2
  go_upto_region 4 with fail
  go_quiet (fail)
  go_wp2_with fail
  exact bodyPost_ret (v := .tuple #[.int .i64 0, .int .i64 0, .string ⟨#[]⟩, .int .i64 3]) (by simp [results, Tryz.results101, go_sem]) rfl ⟨rfl, HXO.out.below (below_drewN _ _ _), mb, cs, ov, HX.out.below (below_drewN _ _ _)⟩
set_option maxRecDepth 20000 in
set_option maxHeartbeats 2000000 in
theorem refUn_own (w : World) (S : List Nat) (rb : Nat) (st : St) (steps : Int) (ok : st.Ok) (h : RefRep w S rb st steps) (f : ByteArray) (hcl : st.closed = false) (hs : 7 ≤ f.data.toList.length) (hs2 : f.data.toList.length ≤ 47) (hc : unWho f.data.toList = st.own) :
    Calls Tryz.prog 101 #[.pointer (some ⟨rb, 0, none⟩), .string f] w fun x w' => x = .returned (.tuple #[.int .i64 0, .int .i64 0, .string ⟨#[]⟩, .int .i64 4]) ∧ Outside S w w' ∧ RefRep w' S rb st 0 := by
  obtain ⟨mb, cs, ov, hr⟩ := h
  have ho := ok.own
  have h16 := ok.n16
  obtain ⟨wx, hwx⟩ : ∃ wx, w.setCell ⟨rb, 12, none⟩ (.int .i64 0) = wx := ⟨_, rfl⟩
  have hx : RefG wx S rb mb cs ov st 0 := by rw [← hwx]; exact hr.setSteps 0
  have hxo : Outside S w wx := by rw [← hwx]; exact (Outside.refl _ _).setCell _ (fun _ => hr.2.1) _
  obtain ⟨c1, c2, c3, c4, c5⟩ := hr.cells st.own ho
  obtain ⟨e1, e2, e3, e4, e5⟩ := hx.cells st.own ho
  have HX : Hid (RefG wx S rb mb cs ov st 0) := hx
  have HWX : Hid (w.setCell ⟨rb, 12, none⟩ (.int .i64 0) = wx) := hwx
  have HXO : Hid (Outside S w wx) := hxo
  have hsz : f.data.toList.length = f.size := Array.length_toList
  clear hr hx hwx hxo c3 c4 c5
  obtain ⟨Z, hZ⟩ : ∃ Z : Int, (f.size : Int) = Z := ⟨_, rfl⟩
  have d1 : ¬ Z < 7 := by omega
  have d2 : ¬ 47 < Z := by omega
  have d3 : decide (Z < 7) = false := by simp; omega
  have d4 : decide (47 < Z) = false := by simp; omega
  have hix : ∀ w, (Instr.index 9 (.string f) (.int .i64 0)).run Tryz.prog w = .ok (.int .u8 (unWho f.data.toList : Int)) w := fun w => index_byte f 0 (by omega) w
  have hwl := unWho_lt f.data.toList
  obtain ⟨WH, hWH⟩ : ∃ WH : Int, (unWho f.data.toList : Int) = WH := ⟨_, rfl⟩
  have dw : WH < (st.n : Int) := by omega
  have dw0 : 0 ≤ WH := by omega
  have dw1 : WH < 256 := by omega
  rw [hWH] at hix
  have dwo : WH = (st.own : Int) := by omega
  clear hsz e3 e4 e5 hs hs2 hwl hWH hc
  go_enter Tryz.func101, Tryz.ntmps101
  go_upto_region 2 with fail
  rw [HWX.out]
  clear c1 c2
  go_upto_region 4 with fail
  go_quiet (fail)
  go_wp2_with fail
  exact bodyPost_ret (v := .tuple #[.int .i64 0, .int .i64 0, .string ⟨#[]⟩, .int .i64 4]) (by simp [results, Tryz.results101, go_sem]) rfl ⟨rfl, HXO.out.below (below_drewN _ _ _), mb, cs, ov, HX.out.below (below_drewN _ _ _)⟩
end Go.Proofs.YtkpebabbnndopaaGreatDoor

/- epochref.Unprotect: consumed, far. -/
namespace Go.Proofs.YtkpebabbnndopaaGreatDoor
open Go.RowKit
set_option linter.unusedVariables false

/-- two bytes, the higher first -/
theorem or_bytes (a b : Nat) (ha : a < 256) (hb : b < 256) : bits .or .i64 ((a : Int) * 256) (b : Int) = ((a * 256 + b : Nat) : Int) := by
  have h1 : (BitVec.ofInt 64 ((a : Int) * 256)).toNat = a * 256 := by rw [BitVec.toNat_ofInt]; omega
  have h2 : (BitVec.ofInt 64 (b : Int)).toNat = b := by rw [BitVec.toNat_ofInt]; omega
  have h3 : (BitVec.ofInt 64 ((a : Int) * 256) ||| BitVec.ofInt 64 (b : Int)).toNat = a * 256 + b := by
    rw [BitVec.toNat_or, h1, h2]
    have := Nat.two_pow_add_eq_or_of_lt (i := 8) (b := b) (by omega) a
    rw [Nat.mul_comm a 256]
    exact this.symm
  show IntKind.i64.wrap ((BitVec.ofInt 64 ((a : Int) * 256) ||| BitVec.ofInt 64 (b : Int)).toNat : Nat) = _
  rw [h3, IntKind.wrap_i64]
  omega

theorem RefG.overAt {w : World} {S : List Nat} {rb mb : Nat} {cs : Array Value} {ov : Nat → Value} {st : St} {steps : Int} (h : RefG w S rb mb cs ov st steps) (i : Nat) (hi : i < st.n) :
    ∃ p cap, w.cell? ⟨mb, i * 3 + 2, none⟩ = some (.slice p (st.m i).over.length cap) ∧ (st.m i).over.length ≤ cap ∧ (((st.m i).over = [] ∧ p = none ∧ cap = 0) ∨ ∃ b o, p = some ⟨b, o, none⟩ ∧ ∀ j (hj : j < (st.m i).over.length), w.cell? ⟨b, o + j, none⟩ = some (.int .i64 ((st.m i).over[j] : Int))) := by
  obtain ⟨h1, h2, h3, h4, h5, h6, h7⟩ := h
  obtain ⟨p, cap, e1, e2, e4⟩ := h7 i hi
  refine ⟨p, cap, ?_, e2, ?_⟩
  · obtain ⟨hA, _⟩ := row_facts' h5
    rw [hA, show i * 3 + 2 = 3 * i + 2 by omega, (h6.2 i hi).2.2, e1]
  · rcases e4 with e4 | ⟨ob, off, e5, _, _, _, e6⟩
    · exact .inl e4
    · exact .inr ⟨ob, off, e5, e6⟩
set_option maxRecDepth 20000 in
set_option maxHeartbeats 4000000 in
theorem refUn_consumed (w : World) (S : List Nat) (rb mb : Nat) (cs : Array Value) (ov : Nat → Value) (st : St) (steps : Int) (ok : st.Ok) (hr : RefG w S rb mb cs ov st steps) (f : ByteArray) (hcl : st.closed = false) (hs : 7 ≤ f.data.toList.length) (hs2 : f.data.toList.length ≤ 47) (hwn : unWho f.data.toList < st.n) (hwo : unWho f.data.toList ≠ st.own) (hg : unGen f.data.toList < (st.m (unWho f.data.toList)).next) (hno : unGen f.data.toList ∉ (st.m (unWho f.data.toList)).over) :
    Calls Tryz.prog 101 #[.pointer (some ⟨rb, 0, none⟩), .string f] w fun x w' => x = .returned (.tuple #[.int .i64 0, .int .i64 0, .string ⟨#[]⟩, .int .i64 5]) ∧ Outside S w w' ∧ RefG w' S rb mb cs ov st 0 := by
  have ho := ok.own
  have h16 := ok.n16
  obtain ⟨wx, hwx⟩ : ∃ wx, w.setCell ⟨rb, 12, none⟩ (.int .i64 0) = wx := ⟨_, rfl⟩
  have hx : RefG wx S rb mb cs ov st 0 := by rw [← hwx]; exact hr.setSteps 0
  have hxo : Outside S w wx := by rw [← hwx]; exact (Outside.refl _ _).setCell _ (fun _ => hr.2.1) _
  obtain ⟨c1, c2, _⟩ := hr.cells st.own ho
  have hsz : f.data.toList.length = f.size := Array.length_toList
  have hi0 : ∀ w, (Instr.index 9 (.string f) (.int .i64 0)).run Tryz.prog w = .ok (.int .u8 (unWho f.data.toList : Int)) w := fun w => index_byte f 0 (by omega) w
  obtain ⟨B1, hB1⟩ : ∃ B1 : Nat, (f.data.toList.getD 1 0).toNat = B1 := ⟨_, rfl⟩
  obtain ⟨B2, hB2⟩ : ∃ B2 : Nat, (f.data.toList.getD 2 0).toNat = B2 := ⟨_, rfl⟩
  have hb1 : B1 < 256 := by rw [← hB1]; exact (f.data.toList.getD 1 0).toNat_lt
  have hb2 : B2 < 256 := by rw [← hB2]; exact (f.data.toList.getD 2 0).toNat_lt
  have hgen : unGen f.data.toList = B1 * 256 + B2 := by unfold unGen; rw [hB1, hB2]
  have hi1 : ∀ w, (Instr.index 9 (.string f) (.int .i64 1)).run Tryz.prog w = .ok (.int .u8 (B1 : Int)) w := fun w => by rw [← hB1]; exact index_byte f 1 (by omega) w
  have hi2 : ∀ w, (Instr.index 9 (.string f) (.int .i64 2)).run Tryz.prog w = .ok (.int .u8 (B2 : Int)) w := fun w => by rw [← hB2]; exact index_byte f 2 (by omega) w
  have hor := or_bytes B1 B2 hb1 hb2
  rw [← hgen] at hor
  obtain ⟨WH, hWH⟩ : ∃ WH : Nat, unWho f.data.toList = WH := ⟨_, rfl⟩
  obtain ⟨GE, hGE⟩ : ∃ GE : Nat, unGen f.data.toList = GE := ⟨_, rfl⟩
  rw [hWH] at hi0 hwn hwo hg hno
  rw [hGE] at hor hg hno
  obtain ⟨Z, hZ⟩ : ∃ Z : Int, (f.size : Int) = Z := ⟨_, rfl⟩
  have d1 : ¬ Z < 7 := by omega
  have d2 : ¬ 47 < Z := by omega
  have d3 : decide (Z < 7) = false := by simp; omega
  have d4 : decide (47 < Z) = false := by simp; omega
  have dw : ¬ ((st.n : Int) ≤ (WH : Int)) := by omega
  have dw1 : (WH : Int) < (st.n : Int) := by omega
  have dwo : ¬ ((WH : Int) = (st.own : Int)) := by omega
  have dwo2 : ((WH : Int) == (st.own : Int)) = false := by simpa using dwo
  have HX : Hid (RefG wx S rb mb cs ov st 0) := hx
  have HWX : Hid (w.setCell ⟨rb, 12, none⟩ (.int .i64 0) = wx) := hwx
  have HXO : Hid (Outside S w wx) := hxo
  have HAM : Hid (AmongI (st.m WH).over GE < 0) := (among_neg _ _).2 hno
  have HGN : Hid ((GE : Int) < ((st.m WH).next : Int)) := by show _ < _; omega
  have HOL : Hid ((st.m WH).over.length ≤ 1000) := by have := (ok.m WH).2.1; show _ ≤ _; omega
  clear hr hx hwx hxo hsz hB1 hB2 hgen hWH hGE hs hs2 hno hg
  obtain ⟨e1, e2, e3, e4, e5⟩ := HX.out.cells WH hwn
  go_enter Tryz.func101, Tryz.ntmps101
  go_upto_region 2 with fail
  rw [HWX.out]
  clear c1 c2
  go_upto_region 4 with fail
  go_quiet (fail)
  go_upto_region 10 with fail
  have hb1' : (B1 : Int) < 256 := by omega
  have hb2' : (B2 : Int) < 256 := by omega
  clear e1 e2 e3 e4 e5
  obtain ⟨wy, hwy⟩ : ∃ wy, (wx.drewN nq) = wy := ⟨_, rfl⟩
  rw [hwy]
  have HY : Hid (RefG wy S rb mb cs ov st 0 ∧ Outside S w wy) := by rw [← hwy]; exact ⟨HX.out.below (below_drewN _ _ _), HXO.out.below (below_drewN _ _ _)⟩
  clear hwy
  go_quiet (fail)
  obtain ⟨wz, hwz⟩ : ∃ wz, (wy.drewN nq) = wz := ⟨_, rfl⟩
  rw [hwz]
  have HZ : Hid (RefG wz S rb mb cs ov st 0 ∧ Outside S w wz) := by rw [← hwz]; exact ⟨HY.out.1.below (below_drewN _ _ _), HY.out.2.below (below_drewN _ _ _)⟩
  clear hwz HY HX HXO HWX
  obtain ⟨p, cap, q1, q2, q3⟩ := HZ.out.1.overAt WH hwn
  obtain ⟨_, _, g3, g4, _⟩ := HZ.out.1.cells WH hwn
  have HAC : Hid (Calls Tryz.prog 136 #[.slice p (st.m WH).over.length cap, .int .i64 GE] wz fun e w' => e = .returned (.int .i64 (AmongI (st.m WH).over GE)) ∧ w' = wz) := refAmong_any p (st.m WH).over cap GE HOL.out wz (q3.imp (fun h => h.1) id) q2
  obtain ⟨A, hA⟩ : ∃ A, AmongI (st.m WH).over GE = A := ⟨_, rfl⟩
  rw [hA] at HAC HAM
  have hA0 : A < 0 := HAM.out
  have hGN : (GE : Int) < ((st.m WH).next : Int) := HGN.out
  clear hA q2 q3 HAM HGN hi0 hi1 hi2 hor d1 d2 d3 d4 dw dwo dwo2
  go_wp2_with (go_at_call 136; refine HAC.out.mono ?_; rintro e w' ⟨rfl, rfl⟩)
  exact bodyPost_ret (v := .tuple #[.int .i64 0, .int .i64 0, .string ⟨#[]⟩, .int .i64 5]) (by simp [results, Tryz.results101, go_sem]) rfl ⟨rfl, HZ.out.2, HZ.out.1⟩
set_option maxRecDepth 20000 in
set_option maxHeartbeats 4000000 in
theorem refUn_far (w : World) (S : List Nat) (rb mb : Nat) (cs : Array Value) (ov : Nat → Value) (st : St) (steps : Int) (ok : st.Ok) (hr : RefG w S rb mb cs ov st steps) (f : ByteArray) (hcl : st.closed = false) (hs : 7 ≤ f.data.toList.length) (hs2 : f.data.toList.length ≤ 47) (hwn : unWho f.data.toList < st.n) (hwo : unWho f.data.toList ≠ st.own) (hg : (st.m (unWho f.data.toList)).next + 5 < unGen f.data.toList) :
    Calls Tryz.prog 101 #[.pointer (some ⟨rb, 0, none⟩), .string f] w fun x w' => x = .returned (.tuple #[.int .i64 0, .int .i64 0, .string ⟨#[]⟩, .int .i64 6]) ∧ Outside S w w' ∧ RefG w' S rb mb cs ov st 0 := by
  have ho := ok.own
  have h16 := ok.n16
  obtain ⟨wx, hwx⟩ : ∃ wx, w.setCell ⟨rb, 12, none⟩ (.int .i64 0) = wx := ⟨_, rfl⟩
  have hx : RefG wx S rb mb cs ov st 0 := by rw [← hwx]; exact hr.setSteps 0
  have hxo : Outside S w wx := by rw [← hwx]; exact (Outside.refl _ _).setCell _ (fun _ => hr.2.1) _
  obtain ⟨c1, c2, _⟩ := hr.cells st.own ho
  have hsz : f.data.toList.length = f.size := Array.length_toList
  have hi0 : ∀ w, (Instr.index 9 (.string f) (.int .i64 0)).run Tryz.prog w = .ok (.int .u8 (unWho f.data.toList : Int)) w := fun w => index_byte f 0 (by omega) w
  obtain ⟨B1, hB1⟩ : ∃ B1 : Nat, (f.data.toList.getD 1 0).toNat = B1 := ⟨_, rfl⟩
  obtain ⟨B2, hB2⟩ : ∃ B2 : Nat, (f.data.toList.getD 2 0).toNat = B2 := ⟨_, rfl⟩
  have hb1 : B1 < 256 := by rw [← hB1]; exact (f.data.toList.getD 1 0).toNat_lt
  have hb2 : B2 < 256 := by rw [← hB2]; exact (f.data.toList.getD 2 0).toNat_lt
  have hgen : unGen f.data.toList = B1 * 256 + B2 := by unfold unGen; rw [hB1, hB2]
  have hi1 : ∀ w, (Instr.index 9 (.string f) (.int .i64 1)).run Tryz.prog w = .ok (.int .u8 (B1 : Int)) w := fun w => by rw [← hB1]; exact index_byte f 1 (by omega) w
  have hi2 : ∀ w, (Instr.index 9 (.string f) (.int .i64 2)).run Tryz.prog w = .ok (.int .u8 (B2 : Int)) w := fun w => by rw [← hB2]; exact index_byte f 2 (by omega) w
  have hor := or_bytes B1 B2 hb1 hb2
  rw [← hgen] at hor
  obtain ⟨WH, hWH⟩ : ∃ WH : Nat, unWho f.data.toList = WH := ⟨_, rfl⟩
  obtain ⟨GE, hGE⟩ : ∃ GE : Nat, unGen f.data.toList = GE := ⟨_, rfl⟩
  have hgl : unGen f.data.toList < 65536 := unGen_lt _
  rw [hWH] at hi0 hwn hwo hg
  rw [hGE] at hor hg hgl
  obtain ⟨Z, hZ⟩ : ∃ Z : Int, (f.size : Int) = Z := ⟨_, rfl⟩
  have d1 : ¬ Z < 7 := by omega
  have d2 : ¬ 47 < Z := by omega
  have d3 : decide (Z < 7) = false := by simp; omega
  have d4 : decide (47 < Z) = false := by simp; omega
  have dw : ¬ ((st.n : Int) ≤ (WH : Int)) := by omega
  have dw1 : (WH : Int) < (st.n : Int) := by omega
  have dwo : ¬ ((WH : Int) = (st.own : Int)) := by omega
  have dwo2 : ((WH : Int) == (st.own : Int)) = false := by simpa using dwo
  have HX : Hid (RefG wx S rb mb cs ov st 0) := hx
  have HWX : Hid (w.setCell ⟨rb, 12, none⟩ (.int .i64 0) = wx) := hwx
  have HXO : Hid (Outside S w wx) := hxo
  have HGN : Hid (¬ ((GE : Int) < ((st.m WH).next : Int)) ∧ 5 < (GE : Int) - ((st.m WH).next : Int) ∧ wrap64 ((GE : Int) - ((st.m WH).next : Int)) = (GE : Int) - ((st.m WH).next : Int)) := by refine ⟨by omega, by omega, ?_⟩; simp only [wrap64]; omega
  have HOL : Hid ((st.m WH).over.length ≤ 1000) := by have := (ok.m WH).2.1; show _ ≤ _; omega
  clear hr hx hwx hxo hsz hB1 hB2 hgen hWH hGE hs hs2 hg hgl
  obtain ⟨e1, e2, e3, e4, e5⟩ := HX.out.cells WH hwn
  go_enter Tryz.func101, Tryz.ntmps101
  go_upto_region 2 with fail
  rw [HWX.out]
  clear c1 c2
  go_upto_region 4 with fail
  go_quiet (fail)
  go_upto_region 10 with fail
  have hb1' : (B1 : Int) < 256 := by omega
  have hb2' : (B2 : Int) < 256 := by omega
  clear e1 e2 e3 e4 e5
  obtain ⟨wy, hwy⟩ : ∃ wy, (wx.drewN nq) = wy := ⟨_, rfl⟩
  rw [hwy]
  have HY : Hid (RefG wy S rb mb cs ov st 0 ∧ Outside S w wy) := by rw [← hwy]; exact ⟨HX.out.below (below_drewN _ _ _), HXO.out.below (below_drewN _ _ _)⟩
  clear hwy
  go_quiet (fail)
  obtain ⟨wz, hwz⟩ : ∃ wz, (wy.drewN nq) = wz := ⟨_, rfl⟩
  rw [hwz]
  have HZ : Hid (RefG wz S rb mb cs ov st 0 ∧ Outside S w wz) := by rw [← hwz]; exact ⟨HY.out.1.below (below_drewN _ _ _), HY.out.2.below (below_drewN _ _ _)⟩
  clear hwz HY HX HXO HWX
  obtain ⟨p, cap, q1, q2, q3⟩ := HZ.out.1.overAt WH hwn
  obtain ⟨_, _, g3, g4, _⟩ := HZ.out.1.cells WH hwn
  have HAC : Hid (Calls Tryz.prog 136 #[.slice p (st.m WH).over.length cap, .int .i64 GE] wz fun e w' => e = .returned (.int .i64 (AmongI (st.m WH).over GE)) ∧ w' = wz) := refAmong_any p (st.m WH).over cap GE HOL.out wz (q3.imp (fun h => h.1) id) q2
  obtain ⟨A, hA⟩ : ∃ A, AmongI (st.m WH).over GE = A := ⟨_, rfl⟩
  rw [hA] at HAC
  obtain ⟨hG1, hG2, hG3⟩ := HGN.out
  clear hA q2 q3 HGN hi0 hi1 hi2 hor d1 d2 d3 d4 dw dwo dwo2
  go_wp2_with (go_at_call 136; refine HAC.out.mono ?_; rintro e w' ⟨rfl, rfl⟩)
  exact bodyPost_ret (v := .tuple #[.int .i64 0, .int .i64 0, .string ⟨#[]⟩, .int .i64 6]) (by simp [results, Tryz.results101, go_sem]) rfl ⟨rfl, HZ.out.2, HZ.out.1⟩
end Go.Proofs.YtkpebabbnndopaaGreatDoor

/- Lists of numbers in memory that a call has made. -/
namespace Go.Proofs.YtkpebabbnndopaaGreatDoor
open Go.RowKit

def natCells (l : List Nat) : List Value := l.map fun (n : Nat) => Value.int .i64 (n : Int)
def Nums (w : World) (base : Nat) (v : Value) (l : List Nat) : Prop := w.ownsRow base 3 1 v l.length (natCells l)
theorem natCells_length (l : List Nat) : (natCells l).length = l.length := by simp [natCells]
theorem Nums.below {w w' : World} {base : Nat} {v : Value} {l : List Nat} (h : Nums w base v l) (hb : Below w.heap.size w w') : Nums w' base v l := by
  refine ⟨h.1, ?_⟩
  rcases h.2 with h | ⟨g, cap, cur, h1, h2, h3, h4⟩
  · exact .inl h
  · exact .inr ⟨g, cap, cur, h1, h2, by rw [hb.block _ (Array.getElem?_eq_some_iff.1 h3).1, h3], h4⟩
theorem natCells_append (l m : List Nat) : natCells (l ++ m) = natCells l ++ natCells m := by simp [natCells]
theorem natCells_one (l : List Nat) : ∀ u, u ∈ natCells l → u.oneCell' = true := by
  intro u hu
  obtain ⟨x, _, rfl⟩ := List.mem_map.1 hu
  rfl
/-- a slice of numbers, wherever it lies -/
def NumsAt (w : World) (p : Option Addr) (l : List Nat) (cap : Nat) : Prop := (p = none ∧ l = [] ∧ cap = 0) ∨ ∃ b o, p = some ⟨b, o, none⟩ ∧ ∀ j (hj : j < l.length), w.cell? ⟨b, o + j, none⟩ = some (.int .i64 (l[j] : Int))
theorem nums_append (w : World) (base : Nat) (v : Value) (l m : List Nat) (p : Option Addr) (cap : Nat) (h : Nums w base v l) (h2 : NumsAt w p m cap) (hb : base ≤ w.heap.size) (hl : l.length + m.length ≤ 1000) (ty : TypeId) :
    ∃ v' w', (Builtin.append_ #[22, 22] ty #[v, .slice p m.length cap]).run Tryz.prog w = .ok v' w' ∧ Nums w' base v' (l ++ m) ∧ Below base w w' ∧ base ≤ w'.heap.size := by
  have hi : (Tryz.prog.info? 3).map (fun i => (i.zero, i.size, i.bytes)) = some (some (.int .i64 0), 1, 8) := by kernel_rfl
  cases hq : Tryz.prog.info? 3 with
  | none => rw [hq] at hi; simp at hi
  | some i =>
    rw [hq] at hi
    simp at hi
    obtain ⟨hz, hs, hby⟩ := hi
    rcases h2 with ⟨rfl, rfl, rfl⟩ | ⟨g, o, rfl, hc⟩
    · refine ⟨v, w, run_append_owned_none (P := Tryz.prog) w base 22 ty 3 i 1 Tryz.underlying22 hq v l.length (natCells l) h, by rw [List.append_nil]; exact h, Below.refl _ _, hb⟩
    · obtain ⟨v', w', hr, ho, hg, _, hbk⟩ := run_append_own_at (P := Tryz.prog) w base 22 ty 3 i _ 1 8 Tryz.underlying22 hq hz hs hby rfl (by omega) v l.length (natCells l) h ⟨g, o, none⟩ m.length cap (natCells m) (by rw [natCells_length]; omega)
        (fun j u hj => by
          have ea : (⟨g, o, none⟩ : Addr).add j = ⟨g, o + j, none⟩ := by unfold Addr.add; split <;> simp_all
          have hjl : j < m.length := by rw [← natCells_length]; exact (List.getElem?_eq_some_iff.1 hj).1
          rw [ea, hc j hjl]
          unfold natCells at hj
          rw [List.getElem?_map, List.getElem?_eq_getElem hjl] at hj
          exact hj) (natCells_one m) (by unfold maxLen; omega) (by omega) hb
      refine ⟨v', w', hr, ?_, ?_, ?_⟩
      · unfold Nums
        rw [List.length_append, natCells_append]
        exact ho
      · refine (Below.refl base w).grown hg hb (fun k hk => ?_)
        rcases h.2 with ⟨e1, _⟩ | ⟨g', cap', cur, e1, e2, _⟩
        · subst e1; cases hk
        · subst e1; cases hk; exact e2
      · exact Nat.le_trans hb hg.size
end Go.Proofs.YtkpebabbnndopaaGreatDoor

/- The other's group: one member's entry changes. -/
namespace Go.Proofs.YtkpebabbnndopaaGreatDoor
open Go.RowKit

theorem RefG.grow {w : World} {S S' : List Nat} {rb mb : Nat} {cs : Array Value} {ov : Nat → Value} {st : St} {steps : Int} (h : RefG w S rb mb cs ov st steps) (hS : ∀ k, k ∈ S → k ∈ S') : RefG w S' rb mb cs ov st steps := by
  obtain ⟨h1, h2, h3, h4, h5, h6, h7⟩ := h
  refine ⟨h1, hS _ h2, hS _ h3, h4, h5, h6, fun i hi => ?_⟩
  obtain ⟨p, cap, e1, e2, e3⟩ := h7 i hi
  refine ⟨p, cap, e1, e2, ?_⟩
  rcases e3 with e3 | ⟨ob, off, e4, e5, e6⟩
  · exact .inl e3
  · exact .inr ⟨ob, off, e4, hS _ e5, e6⟩
theorem RefG.put {w : World} {S : List Nat} {rb mb : Nat} {cs : Array Value} {ov : Nat → Value} {st : St} {steps : Int} (hlen : st.mem.length = st.n) (h : RefG w S rb mb cs ov st steps) (i : Nat) (hi : i < st.n) (cs' : Array Value) (ov' : Nat → Value) (m : Mem)
    (hsz : cs'.size = cs.size) (hsame : ∀ j, (j < 3 * i ∨ 3 * i + 3 ≤ j) → cs'[j]? = cs[j]?) (h0 : cs'[3 * i]? = some (.bool m.begun)) (h1 : cs'[3 * i + 1]? = some (.int .i64 m.next)) (h2 : cs'[3 * i + 2]? = some (ov' i)) (hov : ∀ j, j ≠ i → ov' j = ov j) (hO : OverAt w S rb mb (ov' i) m.over) :
    RefG (w.setRow mb cs') S rb mb cs' ov' (st.setM i m) steps := by
  obtain ⟨g1, g2, g3, g4, g5, ⟨g6, g6'⟩, g7⟩ := h
  have hm := fun j => St.setM_m st i m (by rw [hlen]; exact hi) j
  refine ⟨g1, g2, g3, by rw [setRow_other _ _ _ _ g1, g4]; rfl, setRow_heap _ _ _ _ _ _ g5, ⟨hsz.trans g6, fun j hj => ?_⟩, fun j hj => ?_⟩
  · rw [hm]
    by_cases e : j = i
    · subst e
      rw [if_pos rfl]
      exact ⟨h0, h1, h2⟩
    · obtain ⟨a1, a2, a3⟩ := g6' j hj
      rw [if_neg e, hsame _ (by omega), hsame _ (by omega), hsame _ (by omega), hov j e]
      exact ⟨a1, a2, a3⟩
  · rw [hm]
    by_cases e : j = i
    · subst e
      rw [if_pos rfl]
      exact hO.keep fun k _ _ _ hk => setRow_other _ _ _ _ hk
    · rw [if_neg e, hov j e]
      exact (g7 j hj).keep fun k _ _ _ hk => setRow_other _ _ _ _ hk
/-- a list that a call has made, as what a member has passed over -/
theorem Nums.over {w : World} {base : Nat} {S : List Nat} {rb mb : Nat} {v : Value} {l : List Nat} (h : Nums w base v l) (hrb : rb < base) (hmb : mb < base) (hS : ∀ k, base ≤ k → k < w.heap.size → k ∈ S) : OverAt w S rb mb v l := by
  rcases h.2 with ⟨e1, e2⟩ | ⟨g, cap, cur, e1, e2, e3, e4, e5, e6, e7⟩
  · exact ⟨none, 0, by rw [e1, e2], by omega, .inl ⟨List.eq_nil_of_length_eq_zero e2, rfl, rfl⟩⟩
  · have hg := (Array.getElem?_eq_some_iff.1 e3).1
    refine ⟨some ⟨g, 0, none⟩, cap, e1, e4, .inr ⟨g, 0, rfl, hS g e2 hg, by omega, by omega, fun j hj => ?_⟩⟩
    rw [Nat.zero_add, cell_of_row _ _ _ _ _ _ e3]
    have : (natCells l)[j]? = some (.int .i64 (l[j] : Int)) := by unfold natCells; rw [List.getElem?_map, List.getElem?_eq_getElem hj]; rfl
    rw [← e7, List.getElem?_take_of_lt (by omega), Array.getElem?_toList] at this
    exact this
/-- the last four of it -/
theorem OverAt.drop {w : World} {S : List Nat} {rb mb : Nat} {p : Option Addr} {l : List Nat} {cap : Nat} (h : OverAt w S rb mb (.slice p l.length cap) l) (k : Nat) (hk : k ≤ l.length) (hc : l.length ≤ cap) : ∀ b o, p = some ⟨b, o, none⟩ → OverAt w S rb mb (.slice (some ⟨b, o + k, none⟩) (l.length - k) (cap - k)) (l.drop k) := by
  intro b o hp
  obtain ⟨p', cap', e1, e2, e3⟩ := h
  cases e1
  refine ⟨some ⟨b, o + k, none⟩, cap - k, by rw [List.length_drop], by rw [List.length_drop]; omega, ?_⟩
  rcases e3 with e3 | ⟨ob, off, e4, e5, e6, e7, e8⟩
  · rw [hp] at e3; cases e3.2.1
  · rw [hp] at e4
    cases e4
    refine .inr ⟨b, o + k, rfl, e5, e6, e7, fun j hj => ?_⟩
    rw [List.length_drop] at hj
    rw [Nat.add_assoc, e8 (k + j) (by omega), List.getElem_drop]
end Go.Proofs.YtkpebabbnndopaaGreatDoor

/- The law's bent. -/
namespace Go.Proofs.YtkpebabbnndopaaGreatDoor
open Go.RowKit
set_option linter.unusedVariables false

theorem wpList_bytesR {ops : Array Oper} {rest : List Oper} {o : Oper} {a : Act} {w : World} {Q : Exit → Act → World → Prop} (hgd : o.guard = none) (x : Operand) (ho : o.op = .convert 9 34 x) (t : ByteArray) (hx : a.eval x = .string t)
    (h : ∀ cap w' Z, t.size ≤ cap → t.size ≤ Z → Below w.heap.size w w' → w'.heap[w.heap.size]? = some (.cells (RowB t.data.toList cap) 5 (Z, Z + 1)) →
      wpList Tryz.prog ops Q rest (a.put o.dst (.slice (some ⟨w.heap.size, 0, none⟩) t.size cap)) w') : wpList Tryz.prog ops Q (o :: rest) a w :=
  wpList_plain hgd fun _ hK => by
    have hr := run_bytes_of_string (P := Tryz.prog) w 9 34 5 t Tryz.underlying9 Tryz.underlying34 Tryz.underlying5
    have hge := grownCap_ge w t.size 0 5
    unfold Oper.wp execOp
    simp only [ho, hx, Sem.run_bind, hr, Result.andThen_ok, Sem.run_pure]
    rw [RowB_of_bytes]
    refine hK _ _ (h _ _ _ hge ?_ ((Below.refl _ w).drew.alloc (Nat.le_refl _) _) (MapKept.heap_alloc w.drew _).1)
    simp [RowB]
set_option maxRecDepth 20000 in
set_option maxHeartbeats 2000000 in
theorem bent_any (f s : ByteArray) (hs : s.size ≤ 65536) (w : World) :
    Calls Tryz.prog 67 #[.string f, .string s] w fun e w' => ∃ f', e = .returned (.string f') ∧ Below w.heap.size w w' := by
  obtain ⟨n, hn⟩ : ∃ n, s.size = n := ⟨_, rfl⟩
  obtain ⟨m, hm⟩ : ∃ m, f.size = m := ⟨_, rfl⟩
  have HNM : Hid (s.size = n ∧ f.size = m ∧ f.data.toList.length = m ∧ s.data.toList.length = n) := ⟨hn, hm, by rw [← hm]; exact Array.length_toList, by rw [← hn]; exact Array.length_toList⟩
  have hnI : (s.size : Int) = (n : Int) := by omega
  have hmI : (f.size : Int) = (m : Int) := by omega
  have hn6 : (n : Int) ≤ 65536 := by omega
  go_enter Tryz.func67, Tryz.ntmps67
  go_wp2_with (refine wpList_bytesR rfl _ rfl f rfl ?_; intro cap1 w1 Z hcap1 hZ b1 R1)
  have HB : Hid (Below w.heap.size w w1 ∧ w1.heap[w.heap.size]? = some (.cells (RowB f.data.toList cap1) 5 (Z, Z + 1))) := ⟨b1, R1⟩
  rw [hm] at hcap1 hZ
  try rw [hm]
  have hcI : (m : Int) ≤ (cap1 : Int) := by omega
  clear b1 R1 hn hm
  go_loopg [6] (n + 2) (fun k v6 wr => ∃ (i : Nat) (l : List UInt8), v6 = .int .i64 i ∧ i + k = n + 2 ∧ i ≤ n ∧ Hid (l.length = m ∧ wr.heap[w.heap.size]? = some (.cells (RowB l cap1) 5 (Z, Z + 1)) ∧ Below w.heap.size w wr))
  case atStart => exact ⟨0, f.data.toList, rfl, by omega, by omega, HNM.out.2.2.1, HB.out.2, HB.out.1⟩
  case round =>
    obtain ⟨i, l, rfl, hik, hin, HR⟩ := hrel
    have hi6 : (i : Int) ≤ 65536 := by omega
    by_cases h1 : (i : Int) + 1 < (n : Int)
    case' pos => by_cases h2 : (0 : Int) < (m : Int)
    · have hx0 := fun W => index_byte s i (by have := HNM.out.2.2.2; omega) W
      have hx1 := fun W => index_byte s (i + 1) (by have := HNM.out.2.2.2; omega) W
      obtain ⟨y0, hy0⟩ : ∃ y0 : UInt8, s.data.toList.getD i 0 = y0 := ⟨_, rfl⟩
      obtain ⟨y1, hy1⟩ : ∃ y1 : UInt8, s.data.toList.getD (i + 1) 0 = y1 := ⟨_, rfl⟩
      rw [hy0] at hx0
      rw [hy1] at hx1
      obtain ⟨K, hK⟩ : ∃ K, y0.toNat % m = K := ⟨_, rfl⟩
      have hKm : K < m := by rw [← hK]; exact Nat.mod_lt _ (by omega)
      have hKI : (K : Int) < (m : Int) := by omega
      have hy0b := byte_bd y0
      have hy1b := byte_bd y1
      have hK1 : ((y0.toNat : Nat) : Int) % (m : Int) = (K : Int) := by rw [← hK]; omega
      have hK2 : ((y0.toNat : Nat) : Int).tmod (m : Int) = (K : Int) := by rw [Int.tmod_eq_emod_of_nonneg (by omega)]; exact hK1
      have hm0 : ¬ (m : Int) = 0 := by omega
      obtain ⟨x0, hx⟩ : ∃ x0 : UInt8, l[K]'(by have := HR.out.1; omega) = x0 := ⟨_, rfl⟩
      have hc : wr.cell? ⟨w.heap.size, K, none⟩ = some (.int .u8 (x0.toNat : Int)) := by rw [cell_of_row _ _ _ _ _ _ HR.out.2.1, RowB_at _ _ _ (by have := HR.out.1; omega), hx]
      have hf : wr.frozen? ⟨w.heap.size, K, none⟩ = false := by simp [World.frozen?, HR.out.2.1]; omega
      have hX := XB_toNat x0 (y1.toNat : Int) hy1b.1 hy1b.2
      obtain ⟨VU, hVU⟩ : ∃ VU : UInt8, XB x0 (y1.toNat : Int) = VU := ⟨_, rfl⟩
      rw [hVU] at hX
      have HR2 : Hid ((l.set K VU).length = m ∧ (wr.setCell ⟨w.heap.size, K, none⟩ (.int .u8 (VU.toNat : Int))).drew.heap[w.heap.size]? = some (.cells (RowB (l.set K VU) cap1) 5 (Z, Z + 1)) ∧ Below w.heap.size w (wr.setCell ⟨w.heap.size, K, none⟩ (.int .u8 (VU.toNat : Int))).drew) := by
        obtain ⟨r1, r2, r3⟩ := HR.out
        refine ⟨by rw [List.length_set]; exact r1, ?_, (r3.setCell (p := ⟨w.heap.size, K, none⟩) (Nat.le_refl _) _).drew⟩
        have h := setRow_heap wr w.heap.size _ ((RowB l cap1).setIfInBounds K (.int .u8 (VU.toNat : Int))) _ _ r2
        rw [← setCell_eq_setRow wr w.heap.size K _ _ _ _ r2, RowB_put l cap1 K VU (by omega)] at h
        exact h
      obtain ⟨X0, hX0⟩ : ∃ X0 : Int, (x0.toNat : Int) = X0 := ⟨_, rfl⟩
      obtain ⟨Y0, hY0⟩ : ∃ Y0 : Int, (y0.toNat : Int) = Y0 := ⟨_, rfl⟩
      obtain ⟨Y1, hY1⟩ : ∃ Y1 : Int, (y1.toNat : Int) = Y1 := ⟨_, rfl⟩
      obtain ⟨RV, hRV⟩ : ∃ RV : Int, (VU.toNat : Int) = RV := ⟨_, rfl⟩
      rw [hRV] at HR2 hX
      rw [hX0] at hX hc
      rw [hY1] at hX hx1 hy1b
      rw [hY0] at hx0 hK1 hK2 hy0b
      have hx1' : ∀ W, (Instr.index 9 (.string s) (.int .i64 ((i : Int) + 1))).run Tryz.prog W = .ok (.int .u8 Y1) W := fun W => hx1 W
      have hwr : IntKind.i64.wrap ((i : Int) + 1) = (i : Int) + 1 := by rw [IntKind.wrap_i64]; omega
      obtain ⟨hy0a, hy0c⟩ := hy0b
      clear hx1 hy0 hy1 hK hx hVU hX0 hY0 hY1 hRV hKm hy1b HR
      go_upto_region 6 with fail
      go_region
      all_goals
        go_wp2_with fail
        go_roundg (gk - 2)
        case measure => omega
        case rel => exact ⟨i + 2, l.set K VU, by go_num, by omega, by omega, HR2.out⟩
    · have hct : (convert 34 9 (.slice (some ⟨w.heap.size, 0, none⟩) m cap1)).run Tryz.prog wr = .ok (.string ⟨l.toArray⟩) wr := by
        have h := cv_of_bts cap1 (bts_of_row HR.out.2.1) wr (Below.refl _ _)
        rw [HR.out.1] at h
        exact h
      have HF : Hid (Below w.heap.size w wr) := HR.out.2.2
      clear HR
      go_wp2_with fail
      go_ret
      exact ⟨⟨_, rfl⟩, HF.out⟩
    · have hct : (convert 34 9 (.slice (some ⟨w.heap.size, 0, none⟩) m cap1)).run Tryz.prog wr = .ok (.string ⟨l.toArray⟩) wr := by
        have h := cv_of_bts cap1 (bts_of_row HR.out.2.1) wr (Below.refl _ _)
        rw [HR.out.1] at h
        exact h
      have HF : Hid (Below w.heap.size w wr) := HR.out.2.2
      clear HR
      go_wp2_with fail
      go_ret
      exact ⟨⟨_, rfl⟩, HF.out⟩
end Go.Proofs.YtkpebabbnndopaaGreatDoor

/- Lists of numbers and scripts among a law's arguments. -/
namespace Go.Proofs.YtkpebabbnndopaaGreatDoor
open Go.ChangeShapes Go.WideShapes Go.ChangeAt Go.RowKit

theorem spot_none {w : World} {a : Addr} {v : Value} (h : w.cell? a = some v) : a = ⟨a.block, a.off, none⟩ := by
  obtain ⟨b, o, s⟩ := a
  cases s with
  | none => rfl
  | some s =>
    unfold World.cell? at h
    split at h
    · simp at h
    · cases h
theorem add_none (b o i : Nat) : (⟨b, o, none⟩ : Addr).add i = ⟨b, o + i, none⟩ := by unfold Addr.add; split <;> simp_all
theorem ints_arg {H : Type} {enc : TypeId × Value → H} {W : World} {a0 : Option Addr} {len cap : Nat} {d : DataW H} {p : List MemPlace} (h : DataW.Trod enc Tryz.prog W 0 (fun _ => true) true 22 (.slice a0 len cap) d p) : IntsArg W a0 len cap := by
  obtain ⟨fuel, hf⟩ := h
  rcases Go.ChangeShapes.open_ints Tryz.underlying22 Tryz.underlying3 (by kernel_rfl) hf with ⟨e, _⟩ | ⟨a, l, c, zs, e, _, hle, _, hzl, _, hcell, _⟩
  · simp [Value.cells] at e
    obtain ⟨rfl, rfl, rfl⟩ := e
    exact ⟨Nat.le_refl _, .inl rfl⟩
  · simp [Value.cells] at e
    obtain ⟨rfl, rfl, rfl⟩ := e
    rw [if_pos rfl] at hzl
    refine ⟨hle, ?_⟩
    by_cases h0 : len = 0
    · exact .inl h0
    · have h1 := hcell 0 (by omega)
      have ha := spot_none (show W.cell? a = _ from h1)
      refine .inr ⟨a.block, a.off, by rw [← ha], fun i hi => ?_⟩
      have h2 := hcell i (by omega)
      rw [ha, add_none] at h2
      exact ⟨_, h2⟩
theorem field_at (t : TypeId) (i : Nat) (ft o : Nat) (h : ((Tryz.prog.fieldsOf t).toList.map fun f => (f.type, f.offset))[i]? = some (ft, o)) : ∃ f, (Tryz.prog.fieldsOf t)[i]? = some f ∧ f.type = ft ∧ f.offset = o := by
  rw [List.getElem?_map] at h
  obtain ⟨f, h1, h2⟩ := Option.map_eq_some_iff.1 h
  simp only [Prod.mk.injEq] at h2
  exact ⟨f, by simpa using h1, h2.1, h2.2⟩
theorem ops_arg {H : Type} {enc : TypeId × Value → H} {W : World} {a0 : Option Addr} {len cap : Nat} {d : DataW H} {p : List MemPlace} (h : DataW.Trod enc Tryz.prog W 0 (fun _ => true) true 23 (.slice a0 len cap) d p) : OpsArg W a0 len cap := by
  obtain ⟨fuel, hf⟩ := h
  have hce : Tryz.prog.cellsOf 73 = 4 := by kernel_rfl
  have hci : Tryz.prog.cellsOf 3 = 1 := by kernel_rfl
  have hcs : Tryz.prog.cellsOf 9 = 1 := by kernel_rfl
  have hst : Tryz.prog.underlying 73 = some (.struct (Tryz.prog.fieldsOf 73)) := by kernel_rfl
  have hF : (Tryz.prog.fieldsOf 73).toList.map (fun f => (f.type, f.offset)) = [(3, 0), (3, 1), (3, 2), (9, 3)] := by kernel_rfl
  rcases Go.Deep.open_slice Tryz.underlying23 hf with ⟨e, _⟩ | ⟨a, l, c, m, n, D, Pl, e, _, hle, _, hm, _, hx⟩
  · simp [Value.cells] at e
    obtain ⟨rfl, rfl, rfl⟩ := e
    exact ⟨Nat.le_refl _, .inl rfl⟩
  · simp [Value.cells] at e
    obtain ⟨rfl, rfl, rfl⟩ := e
    rw [if_pos rfl] at hm
    refine ⟨hle, ?_⟩
    by_cases h0 : len = 0
    · exact .inl h0
    · rw [hce] at hx
      have ha : a = ⟨a.block, a.off, none⟩ := by
        obtain ⟨cs', h1, h2⟩ := hx 0 (by omega)
        obtain ⟨_, hlen, hcell⟩ := World.cells?_some h1
        have h3 := hcell 0 (by omega)
        obtain ⟨v, hv⟩ : ∃ v, cs'[0]? = some v := ⟨_, List.getElem?_eq_getElem (by omega)⟩
        rw [hv] at h3
        exact spot_none (show W.cell? a = some v from h3)
      refine .inr ⟨a.block, a.off, by rw [← ha], fun i hi => ?_⟩
      obtain ⟨cs', h1, h2⟩ := hx i (by omega)
      obtain ⟨_, hlen, hcell⟩ := World.cells?_some h1
      obtain ⟨xs, k, hk, hxy, _, hxl, hfd⟩ := DataW.trod_struct hst h2
      have hfs : (Tryz.prog.fieldsOf 73).size = 4 := by
        have := congrArg List.length hF
        simpa using this
      rw [hfs] at hxl
      rw [ha, add_none] at hcell
      have one : ∀ j (hj : j < 4) ft, ((Tryz.prog.fieldsOf 73).toList.map (fun f => (f.type, f.offset)))[j]? = some (ft, j) → Tryz.prog.cellsOf ft = 1 → ∃ y, DataW.trod enc Tryz.prog W 0 (fun _ => true) true k ft ((cs'.drop j).take 1) = some y := fun j hj ft hft hc1 => by
        obtain ⟨f, g1, g2, g3⟩ := field_at _ j ft j hft
        have g4 := hfd j f g1
        rw [g2, g3, hc1] at g4
        exact ⟨xs[j]'(by omega), by rw [g4]; exact List.getElem?_eq_getElem (by omega)⟩
      have cellj : ∀ j (hj : j < 4) v, (cs'.drop j).take 1 = [v] → W.cell? ⟨a.block, a.off + i * 4 + j, none⟩ = some v := fun j hj v hv => by
        have h5 := hcell j (by omega)
        rw [add_none] at h5
        rw [h5]
        have h6 : ((cs'.drop j).take 1)[0]? = some v := by rw [hv]; rfl
        rw [List.getElem?_take] at h6
        simpa using h6
      obtain ⟨y0, t0⟩ := one 0 (by omega) 3 (by rw [hF]; rfl) hci
      obtain ⟨y1, t1⟩ := one 1 (by omega) 3 (by rw [hF]; rfl) hci
      obtain ⟨y2, t2⟩ := one 2 (by omega) 3 (by rw [hF]; rfl) hci
      obtain ⟨y3, t3⟩ := one 3 (by omega) 9 (by rw [hF]; rfl) hcs
      obtain ⟨n0, c0, _, _⟩ := DataW.trod_int Tryz.underlying3 t0
      obtain ⟨n1, c1, _, w1⟩ := DataW.trod_int Tryz.underlying3 t1
      obtain ⟨n2, c2, _, _⟩ := DataW.trod_int Tryz.underlying3 t2
      obtain ⟨s3, c3, _, _⟩ := DataW.trod_string Tryz.underlying9 t3
      have b1 := Go.bounds_i64 w1
      exact ⟨n0, n1, n2, s3, b1.1, b1.2, cellj 0 (by omega) _ c0, cellj 1 (by omega) _ c1, cellj 2 (by omega) _ c2, cellj 3 (by omega) _ c3⟩
end Go.Proofs.YtkpebabbnndopaaGreatDoor
