/- What is kept, as plain data. -/
import Derived.Test.YtpfijaclghdcdaaGreatDoorPureN
import Derived.WalkKit
namespace Go.Proofs.YtpfijaclghdcdaaGreatDoor
open Go.RowKit

theorem node_norm (k : Nat) : ∀ m f t a b, NodeB k f t a b = true → t - f ≤ m + 1 → NodeB m f t a b = true ∧ ∀ s, PartB k s f t a b = PartB m s f t a b := by
  induction k with
  | zero =>
    intro m f t a b h hm
    simp [NodeB] at h
    obtain ⟨rfl, rfl⟩ := h
    refine ⟨NodeB_zero _ _ _, fun s => ?_⟩
    cases m with
    | zero => rfl
    | succ m => rw [PartB_succ, if_pos ⟨rfl, rfl⟩]; rfl
  | succ k ih =>
    intro m f t a b h hm
    by_cases e : f = a ∧ t = b
    · obtain ⟨rfl, rfl⟩ := e
      refine ⟨NodeB_zero _ _ _, fun s => ?_⟩
      rw [PartB_succ, if_pos ⟨rfl, rfl⟩]
      cases m with
      | zero => rfl
      | succ m => rw [PartB_succ, if_pos ⟨rfl, rfl⟩]
    · rw [NodeB_succ, decide_eq_false e, Bool.false_or, Bool.and_eq_true, decide_eq_true_eq] at h
      obtain ⟨h2, h3⟩ := h
      have hq := SplitN_bd (t - f) h2
      obtain ⟨m, rfl⟩ : ∃ m', m = m' + 1 := ⟨m - 1, by omega⟩
      by_cases ha : a < f + SplitN (t - f)
      · rw [if_pos ha] at h3
        obtain ⟨x1, x2⟩ := ih m _ _ _ _ h3 (by omega)
        refine ⟨?_, fun s => ?_⟩
        · rw [NodeB_succ, decide_eq_false e, Bool.false_or, Bool.and_eq_true, if_pos ha]; exact ⟨by simpa using h2, x1⟩
        · rw [PartB_succ, PartB_succ, if_neg e, if_neg e, if_pos ha, if_pos ha]; exact x2 _
      · rw [if_neg ha] at h3
        obtain ⟨x1, x2⟩ := ih m _ _ _ _ h3 (by omega)
        refine ⟨?_, fun s => ?_⟩
        · rw [NodeB_succ, decide_eq_false e, Bool.false_or, Bool.and_eq_true, if_neg ha]; exact ⟨by simpa using h2, x1⟩
        · rw [PartB_succ, PartB_succ, if_neg e, if_neg e, if_neg ha, if_neg ha]; exact x2 _
/-- a part of a group's tree; its secret -/
def St.node (st : St) (a b : Nat) : Prop := NodeB 16 0 st.n a b = true
def St.part (st : St) (a b : Nat) : Nat → Int := PartB 16 st.s 0 st.n a b
theorem St.node_all (st : St) : st.node 0 st.n := NodeB_zero _ _ _
theorem St.part_all (st : St) : st.part 0 st.n = st.s := by unfold St.part; rw [PartB_succ, if_pos ⟨rfl, rfl⟩]
theorem St.node_in {st : St} (ok : st.Ok) {a b : Nat} (h : st.node a b) : a < b ∧ b ≤ st.n := by
  have := NodeB_in _ _ _ _ _ h ok.n1
  omega
theorem St.halves {st : St} (ok : st.Ok) {a b : Nat} (h : st.node a b) (h2 : 2 ≤ b - a) :
    (st.node a (a + SplitN (b - a)) ∧ st.part a (a + SplitN (b - a)) = DerB (st.part a b) lLeft 0) ∧ (st.node (a + SplitN (b - a)) b ∧ st.part (a + SplitN (b - a)) b = DerB (st.part a b) lRight 0) := by
  have h16 := ok.n16
  obtain ⟨⟨x1, x2⟩, x3, x4⟩ := part_halves 16 st.s 0 st.n a b h ok.n1 h2
  obtain ⟨y1, y2⟩ := node_norm 17 16 0 st.n _ _ x1 (by omega)
  obtain ⟨y3, y4⟩ := node_norm 17 16 0 st.n _ _ x3 (by omega)
  exact ⟨⟨y1, by unfold St.part; rw [← y2, x2]⟩, y3, by unfold St.part; rw [← y4, x4]⟩
theorem St.part_bd {st : St} (ok : st.Ok) (a b : Nat) : ∀ i, 0 ≤ st.part a b i ∧ st.part a b i < 256 := PartB_bd _ _ _ _ _ _ ok.hs
theorem St.part_leaf {st : St} (ok : st.Ok) (m : Nat) (h : m < st.n) : st.node m (m + 1) ∧ st.part m (m + 1) = LeafM st.s st.n m := by
  have h16 := ok.n16
  obtain ⟨x1, x2⟩ := PartB_leaf 16 st.s 0 st.n m (by omega) h (by omega)
  exact ⟨x2, x1⟩
/-- an item that is kept -/
structure It where
  kind : Nat
  f : Nat
  t : Nat
  g : Nat
  s : Nat → Int
def It.cells (x : It) : List Value := [.int .i64 x.kind, .int .i64 x.f, .int .i64 x.t, .int .i64 x.g, .int .u8 (x.s 0), .int .u8 (x.s 1), .int .u8 (x.s 2), .int .u8 (x.s 3), .int .u8 (x.s 4), .int .u8 (x.s 5), .int .u8 (x.s 6), .int .u8 (x.s 7)]
def itCells (l : List It) : List Value := l.flatMap It.cells
theorem itCells_length (l : List It) : (itCells l).length = l.length * 12 := by
  induction l with
  | nil => rfl
  | cons x l ih =>
    have : itCells (x :: l) = x.cells ++ itCells l := rfl
    rw [this, List.length_append, ih, List.length_cons]
    have : x.cells.length = 12 := rfl
    omega
theorem itCells_append (l m : List It) : itCells (l ++ m) = itCells l ++ itCells m := by unfold itCells; rw [List.flatMap_append]
theorem itCells_one (l : List It) : ∀ u, u ∈ itCells l → u.oneCell' = true := by
  intro u hu
  unfold itCells at hu
  obtain ⟨x, _, hx⟩ := List.mem_flatMap.1 hu
  unfold It.cells at hx
  simp at hx
  rcases hx with rfl | rfl | rfl | rfl | rfl | rfl | rfl | rfl | rfl | rfl | rfl | rfl <;> rfl
/-- has one of the members from f to t - 1 begun? -/
def St.begun (st : St) (f t : Nat) : Bool := (List.range (t - f)).any fun i => (st.m (f + i)).begun
theorem St.begun_self (st : St) (f : Nat) : st.begun f f = false := by unfold St.begun; rw [Nat.sub_self]; rfl
theorem St.begun_step (st : St) (f t : Nat) (h : f ≤ t) : st.begun f (t + 1) = (st.begun f t || (st.m t).begun) := by
  unfold St.begun
  have e : t + 1 - f = (t - f) + 1 := by omega
  rw [e, List.range_succ, List.any_append]
  have e2 : f + (t - f) = t := by omega
  simp [e2]
/-- the parts of the tree that are kept -/
def St.parts (st : St) : Nat → Nat → Nat → List It
  | 0, f, t => if st.begun f t then [] else [⟨0, f, t, 0, st.part f t⟩]
  | k + 1, f, t => if st.begun f t then (if t - f = 1 then [] else st.parts k f (f + SplitN (t - f)) ++ st.parts k (f + SplitN (t - f)) t) else [⟨0, f, t, 0, st.part f t⟩]
theorem St.parts_not (st : St) (k f t : Nat) (h : st.begun f t = false) : st.parts k f t = [⟨0, f, t, 0, st.part f t⟩] := by
  cases k <;> (unfold St.parts; rw [h]; rfl)
theorem St.parts_one (st : St) (k f t : Nat) (h : st.begun f t = true) (h1 : t - f = 1) : st.parts k f t = [] := by
  cases k with
  | zero => unfold St.parts; rw [h]; rfl
  | succ k => unfold St.parts; rw [h, if_pos rfl, if_pos h1]
theorem St.parts_two (st : St) (k f t : Nat) (h : st.begun f t = true) (h1 : ¬ t - f = 1) : st.parts (k + 1) f t = st.parts k f (f + SplitN (t - f)) ++ st.parts k (f + SplitN (t - f)) t := by
  rw [St.parts, h, if_pos rfl, if_neg h1]
theorem St.parts_len (st : St) (k : Nat) : ∀ f t, f < t → (st.parts k f t).length ≤ t - f := by
  induction k with
  | zero => intro f t h; unfold St.parts; split <;> simp; omega
  | succ k ih =>
    intro f t h
    rw [St.parts]
    split
    · split
      · simp
      · have hq := SplitN_bd (t - f) (by omega)
        have h1 := ih f (f + SplitN (t - f)) (by omega)
        have h2 := ih (f + SplitN (t - f)) t (by omega)
        rw [List.length_append]
        omega
    · simp; omega
def St.ratAt (st : St) (who gen : Nat) : Nat → Int := RatM st.s st.n who gen
def St.heads (st : St) : Nat → List It
  | 0 => []
  | i + 1 => st.heads i ++ (if (st.m i).begun && decide ((st.m i).next ≤ 65535) then [⟨1, i, i + 1, (st.m i).next, st.ratAt i (st.m i).next⟩] else [])
theorem St.heads_len (st : St) (n : Nat) : (st.heads n).length ≤ n := by
  induction n with
  | zero => exact Nat.le_refl _
  | succ n ih => rw [St.heads, List.length_append]; split <;> simp <;> omega
/-- the keys of one member that were passed over; of all -/
def St.kept1 (st : St) (i : Nat) : List Nat → List It := List.map fun g => ⟨2, i, i + 1, g, KeyM st.s st.n i g⟩
def St.kepts (st : St) : Nat → List It
  | 0 => []
  | i + 1 => st.kepts i ++ st.kept1 i (st.m i).over
theorem St.kepts_len (st : St) (ok : st.Ok) (n : Nat) : (st.kepts n).length ≤ 4 * n := by
  induction n with
  | zero => exact Nat.le_refl _
  | succ n ih =>
    have := (ok.m n).2.1
    rw [St.kepts, List.length_append]
    unfold St.kept1
    rw [List.length_map]
    omega
/-- P13 -/
def St.dump (st : St) : List It := if st.closed then [] else st.parts 16 0 st.n ++ st.heads st.n ++ st.kepts st.n
end Go.Proofs.YtpfijaclghdcdaaGreatDoor
