/- Laws: copy and clear, of elements of several cells; parts of the tree in a row. -/
import Derived.Test.YtkpebabbnndopaaHome
import Derived.Test.YtkpebabbnndopaaZero
import Derived.WalkKit
import Derived.WalkSpells
import Derived.WalkLawsBesides
import Derived.Deep.WholeRow
import Derived.Laws.IdiomCopy
namespace Go.Proofs.Ytkpebabbnndopaa
open Go.RowKit

theorem run_copyW {P : Program} (w : World) (dT sT ty elem : TypeId) (k b o dLen dCap : Nat) (a : Addr) (sLen sCap : Nat) (cs : List Value)
    (hu : P.underlying dT = some (.slice elem)) (hs : (P.info? elem).map (·.size) = some k) (hn : cs.length = Nat.min sLen dLen * k)
    (hsrc : ∀ j v, cs[j]? = some v → w.cell? (a.add j) = some v) (hc : ∀ j, j < cs.length → (w.cell? ⟨b, o + j, none⟩).isSome = true) (hf : ∀ j, j < cs.length → w.frozen? ⟨b, o + j, none⟩ = false) (h1 : ∀ v ∈ cs, v.oneCell' = true) :
    (Builtin.copy_ #[dT, sT] ty #[.slice (some ⟨b, o, none⟩) dLen dCap, .slice (some a) sLen sCap]).run P w = .ok (goInt (Nat.min sLen dLen)) (w.setCells b o cs) := by
  have hl := run_loadCells_list (P := P) w a cs hsrc
  have hst := run_storeCells_cells (P := P) b o cs 0 w (by simpa using hc) (by simpa using hf) h1
  cases hq : P.info? elem with
  | none => simp [hq] at hs
  | some i =>
    have hi : i.size = k := by simpa [hq] using hs
    simp [Builtin.copy_, run_underlying hu, Builtin.lenOf, Builtin.firstCells, sizeOf, typeInfo, hq, hi, ← hn, hl, hst]
theorem run_clearW {P : Program} (w : World) (t e ty : TypeId) (z : Value) (ht : P.underlying t = some (.slice e)) (hv : ∀ w, (zeroValue e).run P w = .ok z w) (b o n c : Nat) (hn : 0 < n) (h1 : ∀ v ∈ (Builtin.zeroCells z.cells n).toList, v.oneCell' = true)
    (hc : ∀ j, j < (Builtin.zeroCells z.cells n).toList.length → (w.cell? ⟨b, o + j, none⟩).isSome = true) (hf : ∀ j, j < (Builtin.zeroCells z.cells n).toList.length → w.frozen? ⟨b, o + j, none⟩ = false) :
    (Builtin.clear_ #[t] ty #[.slice (some ⟨b, o, none⟩) n c]).run P w = .ok (.tuple #[]) (w.setCells b o (Builtin.zeroCells z.cells n).toList) := by
  have hst := run_storeCells_cells (P := P) b o (Builtin.zeroCells z.cells n).toList 0 w (by simpa using hc) (by simpa using hf) h1
  simp only [Nat.add_zero] at hst
  obtain ⟨m, rfl⟩ : ∃ m, n = m + 1 := ⟨n - 1, by omega⟩
  simp [Builtin.clear_, run_underlying ht, hv, hst]
theorem AtL.append {cs : Array Value} {o : Nat} {x y : List Value} : AtL cs o (x ++ y) ↔ AtL cs o x ∧ AtL cs (o + x.length) y := by
  constructor
  · intro h
    refine ⟨fun j v hv => h j v ?_, fun j v hv => ?_⟩
    · rw [List.getElem?_append_left (List.getElem?_eq_some_iff.1 hv).1, hv]
    · have := h (x.length + j) v (by rw [List.getElem?_append_right (by omega)]; simpa using hv)
      rwa [← Nat.add_assoc] at this
  · rintro ⟨h1, h2⟩ j v hv
    by_cases hj : j < x.length
    · rw [List.getElem?_append_left hj] at hv
      exact h1 j v hv
    · rw [List.getElem?_append_right (by omega)] at hv
      have := h2 _ v hv
      rwa [show o + x.length + (j - x.length) = o + j by omega] at this
theorem AtL.putOther {cs : Array Value} {o : Nat} {l : List Value} (h : AtL cs o l) (p : Nat) (m : List Value) (hd : p + m.length ≤ o ∨ o + l.length ≤ p) : AtL (putL cs p m) o l := fun j v hv => by
  have := (List.getElem?_eq_some_iff.1 hv).1
  rw [putL_out _ _ _ _ (by omega)]
  exact h j v hv

/-- a part of the tree as a value -/
abbrev CellsP (f t : Int) (s : Nat → Int) : Array Value := #[.int .i64 f, .int .i64 t, .int .u8 (s 0), .int .u8 (s 1), .int .u8 (s 2), .int .u8 (s 3), .int .u8 (s 4), .int .u8 (s 5), .int .u8 (s 6), .int .u8 (s 7)]
abbrev AggP (f t : Int) (s : Nat → Int) : Value := .agg (CellsP f t s)
structure PartD where
  f : Nat
  t : Nat
  s : Nat → Int
def PartD.cells (p : PartD) : List Value := (CellsP p.f p.t p.s).toList
def pcells (L : List PartD) : List Value := L.flatMap PartD.cells
theorem PartD.cells_len (p : PartD) : p.cells.length = 10 := rfl
theorem pcells_len (L : List PartD) : (pcells L).length = 10 * L.length := by
  unfold pcells
  induction L with
  | nil => rfl
  | cons p L ih => rw [List.flatMap_cons, List.length_append, ih, PartD.cells_len, List.length_cons]; omega
theorem pcells_append (A B : List PartD) : pcells (A ++ B) = pcells A ++ pcells B := List.flatMap_append
theorem pcells_cons (p : PartD) (B : List PartD) : pcells (p :: B) = p.cells ++ pcells B := rfl
theorem pcells_one (L : List PartD) : ∀ v ∈ pcells L, v.oneCell' = true := by
  intro v hv
  obtain ⟨p, _, hp⟩ := List.mem_flatMap.1 hv
  unfold PartD.cells at hp
  simp at hp
  rcases hp with rfl | rfl | rfl | rfl | rfl | rfl | rfl | rfl | rfl | rfl <;> rfl
theorem pcells_all (L : List PartD) : (pcells L).all (·.oneCell') = true := List.all_eq_true.2 (pcells_one L)
/-- what is kept of a tree, from o on: the parts, and how many -/
structure TreeAt (cs : Array Value) (o : Nat) (L : List PartD) : Prop where
  len : L.length ≤ 16
  parts : AtL cs o (pcells L)
  count : cs[o + 160]? = some (.int .i64 L.length)
  ok : ∀ p ∈ L, p.f ≤ p.t ∧ p.t ≤ 16 ∧ ∀ i, 0 ≤ p.s i ∧ p.s i < 256
theorem TreeAt.size {cs : Array Value} {o : Nat} {L : List PartD} (h : TreeAt cs o L) : o + 161 ≤ cs.size := by
  have := (Array.getElem?_eq_some_iff.1 h.count).1
  omega
theorem TreeAt.part {cs : Array Value} {o : Nat} {A B : List PartD} {p : PartD} (h : TreeAt cs o (A ++ p :: B)) : AtL cs (o + 10 * A.length) p.cells := by
  have h1 := h.parts
  rw [pcells_append, pcells_cons] at h1
  have h2 := (AtL.append.1 h1).2
  rw [pcells_len] at h2
  exact (AtL.append.1 h2).1
theorem TreeAt.mv {q : Option Nat} {n o : Nat} {cs cs' : Array Value} {L : List PartD} (h : TreeAt cs o L) (m : Mv q n 0 0 cs cs') (hf : q ≠ none → o + 161 ≤ ctrOff) : TreeAt cs' o L := by
  have := h.len
  refine ⟨h.len, m.at h.parts (.inr (by omega)) (fun hq => .inl (by have := hf hq; rw [pcells_len]; omega)), ?_, h.ok⟩
  rw [m.out _ (.inr (by omega)) (fun hq => by have := hf hq; omega)]
  exact h.count
end Go.Proofs.Ytkpebabbnndopaa
