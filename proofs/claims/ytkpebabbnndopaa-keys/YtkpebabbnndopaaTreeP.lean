/- Taking a tree apart, as plain data. -/
import Derived.Test.YtkpebabbnndopaaTreeL
import Derived.Test.YtkpebabbnndopaaPureN
import Derived.Test.YtkpebabbnndopaaFit
namespace Go.Proofs.Ytkpebabbnndopaa
open Go.RowKit

def PartD.left (p : PartD) : PartD := ⟨p.f, p.f + SplitN (p.t - p.f), DerB p.s lLeft 0⟩
def PartD.right (p : PartD) : PartD := ⟨p.f + SplitN (p.t - p.f), p.t, DerB p.s lRight 0⟩
def PartD.has (p : PartD) (m : Nat) : Prop := p.f ≤ m ∧ m < p.t
/-- what stays to the left of the leaf, to the right of it, the leaf, how many halvings -/
structure Spl where
  x : List PartD
  y : List PartD
  s : Nat → Int
  d : Nat
def PartD.spl : Nat → PartD → Nat → Spl
  | 0, p, _ => ⟨[], [], p.s, 0⟩
  | k + 1, p, m => if p.t - p.f ≤ 1 then ⟨[], [], p.s, 0⟩ else if m < p.f + SplitN (p.t - p.f) then ⟨(p.left.spl k m).x, (p.left.spl k m).y ++ [p.right], (p.left.spl k m).s, (p.left.spl k m).d + 1⟩ else ⟨p.left :: (p.right.spl k m).x, (p.right.spl k m).y, (p.right.spl k m).s, (p.right.spl k m).d + 1⟩
theorem PartD.spl_one (k : Nat) (p : PartD) (m : Nat) (h : p.t - p.f ≤ 1) : p.spl k m = ⟨[], [], p.s, 0⟩ := by
  cases k with
  | zero => rfl
  | succ k => rw [PartD.spl, if_pos h]
theorem PartD.spl_left (k : Nat) (p : PartD) (m : Nat) (h : ¬ p.t - p.f ≤ 1) (hm : m < p.f + SplitN (p.t - p.f)) : p.spl (k + 1) m = ⟨(p.left.spl k m).x, (p.left.spl k m).y ++ [p.right], (p.left.spl k m).s, (p.left.spl k m).d + 1⟩ := by rw [PartD.spl, if_neg h, if_pos hm]
theorem PartD.spl_right (k : Nat) (p : PartD) (m : Nat) (h : ¬ p.t - p.f ≤ 1) (hm : ¬ m < p.f + SplitN (p.t - p.f)) : p.spl (k + 1) m = ⟨p.left :: (p.right.spl k m).x, (p.right.spl k m).y, (p.right.spl k m).s, (p.right.spl k m).d + 1⟩ := by rw [PartD.spl, if_neg h, if_neg hm]
/-- how many members the parts have together -/
def wide (L : List PartD) : Nat := (L.map fun p => p.t - p.f).sum
theorem wide_append (A B : List PartD) : wide (A ++ B) = wide A + wide B := by unfold wide; rw [List.map_append, List.sum_append]
theorem wide_cons (p : PartD) (B : List PartD) : wide (p :: B) = (p.t - p.f) + wide B := by unfold wide; rw [List.map_cons, List.sum_cons]
theorem wide_len (L : List PartD) (h : ∀ p ∈ L, p.f < p.t) : L.length ≤ wide L := by
  induction L with
  | nil => exact Nat.le_refl _
  | cons p L ih =>
    have h1 := h p List.mem_cons_self
    have h2 := ih fun x hx => h x (List.mem_cons_of_mem _ hx)
    rw [wide_cons, List.length_cons]
    omega
theorem halves_bd (p : PartD) (h : ¬ p.t - p.f ≤ 1) : p.f < p.left.t ∧ p.left.t < p.t ∧ p.left.f = p.f ∧ p.right.f = p.left.t ∧ p.right.t = p.t := by
  have := SplitN_bd (p.t - p.f) (by omega)
  exact ⟨by show p.f < p.f + SplitN _; omega, by show p.f + SplitN _ < p.t; omega, rfl, rfl, rfl⟩
end Go.Proofs.Ytkpebabbnndopaa
