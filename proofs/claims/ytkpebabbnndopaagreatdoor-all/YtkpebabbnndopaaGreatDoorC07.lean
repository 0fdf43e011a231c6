import Derived.Test.YtkpebabbnndopaaGreatDoorC01
import Derived.WalkKit
import Derived.Test.YtkpebabbnndopaaGreatDoorC03
import Derived.Test.YtkpebabbnndopaaGreatDoorC04
import Derived.Test.YtkpebabbnndopaaGreatDoorC06
import Derived.Deep.RegionHeld3
import Derived.WalkSpells
import Derived.WalkLawsBesides
import Derived.Deep.WholeRow
import Derived.Deep.MidRow
import Derived.Deep.DeepCutAuto
import Derived.BigRegion
import Derived.Deep.LoopGhost
import Derived.Test.YtkpebabbnndopaaGreatDoorRows
/- The parts of the tree as plain functions. -/
namespace Go.Proofs.YtkpebabbnndopaaGreatDoor
open Go.RowKit

def SplitN (n : Nat) : Nat := if n ≤ 2 then 1 else if n ≤ 4 then 2 else if n ≤ 8 then 4 else 8
theorem SplitN_eq (n : Nat) : SplitI (n : Int) = (SplitN n : Int) := by
  unfold SplitI SplitN
  by_cases h1 : n ≤ 2
  · rw [if_pos (by omega), if_pos h1]; rfl
  · rw [if_neg (by omega), if_neg h1]
    by_cases h2 : n ≤ 4
    · rw [if_pos (by omega), if_pos h2]; rfl
    · rw [if_neg (by omega), if_neg h2]
      by_cases h3 : n ≤ 8
      · rw [if_pos (by omega), if_pos h3]; rfl
      · rw [if_neg (by omega), if_neg h3]; rfl
theorem SplitN_bd (n : Nat) (h : 2 ≤ n) : 1 ≤ SplitN n ∧ SplitN n < n := by
  unfold SplitN; split <;> (try split) <;> (try split) <;> omega
/-- the secret of the part from a to b, within the part from f to t, whose secret is s -/
def PartB : Nat → (Nat → Int) → Nat → Nat → Nat → Nat → (Nat → Int)
  | 0, s, _, _, _, _ => s
  | k + 1, s, f, t, a, b => if f = a ∧ t = b then s else if a < f + SplitN (t - f) then PartB k (DerB s lLeft 0) f (f + SplitN (t - f)) a b else PartB k (DerB s lRight 0) (f + SplitN (t - f)) t a b
/-- is there such a part? -/
def NodeB : Nat → Nat → Nat → Nat → Nat → Bool
  | 0, f, t, a, b => decide (f = a ∧ t = b)
  | k + 1, f, t, a, b => decide (f = a ∧ t = b) || (decide (2 ≤ t - f) && if a < f + SplitN (t - f) then NodeB k f (f + SplitN (t - f)) a b else NodeB k (f + SplitN (t - f)) t a b)
theorem PartB_succ (k : Nat) (s : Nat → Int) (f t a b : Nat) : PartB (k + 1) s f t a b = if f = a ∧ t = b then s else if a < f + SplitN (t - f) then PartB k (DerB s lLeft 0) f (f + SplitN (t - f)) a b else PartB k (DerB s lRight 0) (f + SplitN (t - f)) t a b := rfl
theorem NodeB_succ (k f t a b : Nat) : NodeB (k + 1) f t a b = (decide (f = a ∧ t = b) || (decide (2 ≤ t - f) && if a < f + SplitN (t - f) then NodeB k f (f + SplitN (t - f)) a b else NodeB k (f + SplitN (t - f)) t a b)) := rfl
theorem NodeB_zero (k f t : Nat) : NodeB k f t f t = true := by
  cases k with
  | zero => simp [NodeB]
  | succ k => simp [NodeB]
theorem NodeB_in (k : Nat) : ∀ f t a b, NodeB k f t a b = true → f < t → f ≤ a ∧ a < b ∧ b ≤ t := by
  induction k with
  | zero => intro f t a b h hl; simp [NodeB] at h; omega
  | succ k ih =>
    intro f t a b h hl
    rw [NodeB_succ] at h
    by_cases e : f = a ∧ t = b
    · omega
    · rw [decide_eq_false e, Bool.false_or, Bool.and_eq_true, decide_eq_true_eq] at h
      obtain ⟨h2, h3⟩ := h
      have hb := SplitN_bd (t - f) h2
      split at h3
      · have := ih _ _ _ _ h3 (by omega); omega
      · have := ih _ _ _ _ h3 (by omega); omega
theorem PartB_more (k : Nat) : ∀ s f t a b, NodeB k f t a b = true → PartB (k + 1) s f t a b = PartB k s f t a b := by
  induction k with
  | zero =>
    intro s f t a b h
    simp [NodeB] at h
    rw [PartB_succ, if_pos h]; rfl
  | succ k ih =>
    intro s f t a b h
    rw [PartB_succ]
    conv => rhs; rw [PartB_succ]
    by_cases e : f = a ∧ t = b
    · rw [if_pos e, if_pos e]
    · rw [if_neg e, if_neg e]
      rw [NodeB_succ, decide_eq_false e, Bool.false_or, Bool.and_eq_true] at h
      obtain ⟨_, h3⟩ := h
      by_cases ha : a < f + SplitN (t - f)
      · rw [if_pos ha] at h3 ⊢; rw [if_pos ha]; exact ih _ _ _ _ _ h3
      · rw [if_neg ha] at h3 ⊢; rw [if_neg ha]; exact ih _ _ _ _ _ h3
theorem NodeB_more (k : Nat) : ∀ f t a b, NodeB k f t a b = true → NodeB (k + 1) f t a b = true := by
  induction k with
  | zero => intro f t a b h; simp [NodeB] at h; rw [NodeB_succ, decide_eq_true h]; rfl
  | succ k ih =>
    intro f t a b h
    by_cases e : f = a ∧ t = b
    · rw [NodeB_succ, decide_eq_true e]; rfl
    · rw [NodeB_succ, decide_eq_false e, Bool.false_or, Bool.and_eq_true] at h
      obtain ⟨h2, h3⟩ := h
      rw [NodeB_succ, decide_eq_false e, Bool.false_or, Bool.and_eq_true]
      refine ⟨h2, ?_⟩
      by_cases ha : a < f + SplitN (t - f)
      · rw [if_pos ha] at h3 ⊢; exact ih _ _ _ _ h3
      · rw [if_neg ha] at h3 ⊢; exact ih _ _ _ _ h3
/-- the halves of a part are parts, and their secrets are derived out of its -/
theorem part_halves (k : Nat) : ∀ s f t a b, NodeB k f t a b = true → f < t → 2 ≤ b - a →
    (NodeB (k + 1) f t a (a + SplitN (b - a)) = true ∧ PartB (k + 1) s f t a (a + SplitN (b - a)) = DerB (PartB k s f t a b) lLeft 0) ∧
    (NodeB (k + 1) f t (a + SplitN (b - a)) b = true ∧ PartB (k + 1) s f t (a + SplitN (b - a)) b = DerB (PartB k s f t a b) lRight 0) := by
  induction k with
  | zero =>
    intro s f t a b h hl h2
    simp [NodeB] at h
    obtain ⟨rfl, rfl⟩ := h
    have hb := SplitN_bd (t - f) h2
    have n1 : ¬ (f = f ∧ t = f + SplitN (t - f)) := by omega
    have n2 : ¬ (f = f + SplitN (t - f) ∧ t = t) := by omega
    have n3 : f < f + SplitN (t - f) := by omega
    have n4 : ¬ (f + SplitN (t - f) < f + SplitN (t - f)) := by omega
    refine ⟨⟨?_, ?_⟩, ?_, ?_⟩
    · rw [NodeB_succ, decide_eq_false n1, Bool.false_or, Bool.and_eq_true, if_pos n3]
      exact ⟨by simpa using h2, by simp [NodeB]⟩
    · rw [PartB_succ, if_neg n1, if_pos n3]; rfl
    · rw [NodeB_succ, decide_eq_false n2, Bool.false_or, Bool.and_eq_true, if_neg n4]
      exact ⟨by simpa using h2, by simp [NodeB]⟩
    · rw [PartB_succ, if_neg n2, if_neg n4]; rfl
  | succ k ih =>
    intro s f t a b h hl h2
    have hb := SplitN_bd (b - a) h2
    have hin := NodeB_in _ _ _ _ _ h hl
    by_cases e : f = a ∧ t = b
    · obtain ⟨rfl, rfl⟩ := e
      have n1 : ¬ (f = f ∧ t = f + SplitN (t - f)) := by omega
      have n2 : ¬ (f = f + SplitN (t - f) ∧ t = t) := by omega
      have n3 : f < f + SplitN (t - f) := by omega
      have n4 : ¬ (f + SplitN (t - f) < f + SplitN (t - f)) := by omega
      have hs : PartB (k + 1) s f t f t = s := by rw [PartB_succ, if_pos ⟨rfl, rfl⟩]
      rw [hs]
      refine ⟨⟨?_, ?_⟩, ?_, ?_⟩
      · rw [NodeB_succ, decide_eq_false n1, Bool.false_or, Bool.and_eq_true, if_pos n3]
        exact ⟨by simpa using h2, NodeB_zero _ _ _⟩
      · rw [PartB_succ, if_neg n1, if_pos n3]; rw [PartB_succ, if_pos ⟨rfl, rfl⟩]
      · rw [NodeB_succ, decide_eq_false n2, Bool.false_or, Bool.and_eq_true, if_neg n4]
        exact ⟨by simpa using h2, NodeB_zero _ _ _⟩
      · rw [PartB_succ, if_neg n2, if_neg n4]; rw [PartB_succ, if_pos ⟨rfl, rfl⟩]
    · rw [NodeB_succ, decide_eq_false e, Bool.false_or, Bool.and_eq_true] at h
      obtain ⟨h3, h4⟩ := h
      have h3' : 2 ≤ t - f := by simpa using h3
      have hq := SplitN_bd (t - f) h3'
      have ep : PartB (k + 1) s f t a b = if a < f + SplitN (t - f) then PartB k (DerB s lLeft 0) f (f + SplitN (t - f)) a b else PartB k (DerB s lRight 0) (f + SplitN (t - f)) t a b := by rw [PartB_succ, if_neg e]
      rw [ep]
      have n1 : ¬ (f = a ∧ t = a + SplitN (b - a)) := by omega
      have n2 : ¬ (f = a + SplitN (b - a) ∧ t = b) := by omega
      by_cases ha : a < f + SplitN (t - f)
      · rw [if_pos ha] at h4 ⊢
        have hin2 := NodeB_in _ _ _ _ _ h4 (by omega)
        obtain ⟨⟨x1, x2⟩, x3, x4⟩ := ih (DerB s lLeft 0) f (f + SplitN (t - f)) a b h4 (by omega) h2
        have ha2 : a + SplitN (b - a) < f + SplitN (t - f) := by omega
        refine ⟨⟨?_, ?_⟩, ?_, ?_⟩
        · rw [NodeB_succ, decide_eq_false n1, Bool.false_or, Bool.and_eq_true, if_pos ha]; exact ⟨h3, x1⟩
        · rw [PartB_succ, if_neg n1, if_pos ha]; exact x2
        · rw [NodeB_succ, decide_eq_false n2, Bool.false_or, Bool.and_eq_true, if_pos ha2]; exact ⟨h3, x3⟩
        · rw [PartB_succ, if_neg n2, if_pos ha2]; exact x4
      · rw [if_neg ha] at h4 ⊢
        have hin2 := NodeB_in _ _ _ _ _ h4 (by omega)
        obtain ⟨⟨x1, x2⟩, x3, x4⟩ := ih (DerB s lRight 0) (f + SplitN (t - f)) t a b h4 (by omega) h2
        have ha2 : ¬ a + SplitN (b - a) < f + SplitN (t - f) := by omega
        refine ⟨⟨?_, ?_⟩, ?_, ?_⟩
        · rw [NodeB_succ, decide_eq_false n1, Bool.false_or, Bool.and_eq_true, if_neg ha]; exact ⟨h3, x1⟩
        · rw [PartB_succ, if_neg n1, if_neg ha]; exact x2
        · rw [NodeB_succ, decide_eq_false n2, Bool.false_or, Bool.and_eq_true, if_neg ha2]; exact ⟨h3, x3⟩
        · rw [PartB_succ, if_neg n2, if_neg ha2]; exact x4
theorem PartB_bd (k : Nat) : ∀ s f t a b, (∀ i, 0 ≤ s i ∧ s i < 256) → ∀ i, 0 ≤ PartB k s f t a b i ∧ PartB k s f t a b i < 256 := by
  induction k with
  | zero => intro s f t a b h; exact h
  | succ k ih =>
    intro s f t a b h
    rw [PartB_succ]
    split
    · exact h
    · split
      · exact ih _ _ _ _ _ (DerB_bd _ _ _)
      · exact ih _ _ _ _ _ (DerB_bd _ _ _)
/-- a leaf is the part of one -/
theorem PartB_leaf (k : Nat) : ∀ s f t m, f ≤ m → m < t → t - f ≤ k + 1 → PartB k s f t m (m + 1) = LeafB k s f t m ∧ NodeB k f t m (m + 1) = true := by
  induction k with
  | zero => intro s f t m h1 h2 h3; exact ⟨rfl, by simp [NodeB]; omega⟩
  | succ k ih =>
    intro s f t m h1 h2 h3
    by_cases e : f = m ∧ t = m + 1
    · refine ⟨?_, by rw [NodeB_succ, decide_eq_true e]; rfl⟩
      rw [PartB_succ, if_pos e, LeafB, if_pos (by omega)]
    · have h4 : 2 ≤ t - f := by omega
      have hq := SplitN_bd (t - f) h4
      have eI : SplitI ((t : Int) - f) = (SplitN (t - f) : Int) := by
        rw [← SplitN_eq]; congr 1; omega
      by_cases ha : m < f + SplitN (t - f)
      · obtain ⟨x1, x2⟩ := ih (DerB s lLeft 0) f (f + SplitN (t - f)) m h1 ha (by omega)
        refine ⟨?_, by rw [NodeB_succ, decide_eq_false e, Bool.false_or, Bool.and_eq_true, if_pos ha]; exact ⟨by simpa using h4, x2⟩⟩
        rw [PartB_succ, if_neg e, if_pos ha, LeafB_left _ _ _ _ _ (by omega) (by rw [eI]; omega), eI, x1]
        rfl
      · obtain ⟨x1, x2⟩ := ih (DerB s lRight 0) (f + SplitN (t - f)) t m (by omega) h2 (by omega)
        refine ⟨?_, by rw [NodeB_succ, decide_eq_false e, Bool.false_or, Bool.and_eq_true, if_neg ha]; exact ⟨by simpa using h4, x2⟩⟩
        rw [PartB_succ, if_neg e, if_neg ha, LeafB_right _ _ _ _ _ (by omega) (by rw [eI]; omega), eI, x1]
        rfl
end Go.Proofs.YtkpebabbnndopaaGreatDoor

/- Taking a tree apart, as plain data. -/
namespace Go.Proofs.YtkpebabbnndopaaGreatDoor
open Go.RowKit

def PartD.left (p : PartD) : PartD := ⟨p.f, p.f + SplitN (p.t - p.f), DerB p.s lLeft 0⟩
def PartD.right (p : PartD) : PartD := ⟨p.f + SplitN (p.t - p.f), p.t, DerB p.s lRight 0⟩
def PartD.has (p : PartD) (m : Nat) : Prop := p.f ≤ m ∧ m < p.t
/-- what stays to the left of the leaf, to the right of it, the leaf, how many halvings -/
structure Spl where
  x : List PartD
  y : List PartD
  s : Nat → Int
  d : Nat
def PartD.spl : Nat → PartD → Nat → Spl
  | 0, p, _ => ⟨[], [], p.s, 0⟩
  | k + 1, p, m => if p.t - p.f ≤ 1 then ⟨[], [], p.s, 0⟩ else if m < p.f + SplitN (p.t - p.f) then ⟨(p.left.spl k m).x, (p.left.spl k m).y ++ [p.right], (p.left.spl k m).s, (p.left.spl k m).d + 1⟩ else ⟨p.left :: (p.right.spl k m).x, (p.right.spl k m).y, (p.right.spl k m).s, (p.right.spl k m).d + 1⟩
theorem PartD.spl_one (k : Nat) (p : PartD) (m : Nat) (h : p.t - p.f ≤ 1) : p.spl k m = ⟨[], [], p.s, 0⟩ := by
  cases k with
  | zero => rfl
  | succ k => rw [PartD.spl, if_pos h]
theorem PartD.spl_left (k : Nat) (p : PartD) (m : Nat) (h : ¬ p.t - p.f ≤ 1) (hm : m < p.f + SplitN (p.t - p.f)) : p.spl (k + 1) m = ⟨(p.left.spl k m).x, (p.left.spl k m).y ++ [p.right], (p.left.spl k m).s, (p.left.spl k m).d + 1⟩ := by rw [PartD.spl, if_neg h, if_pos hm]
theorem PartD.spl_right (k : Nat) (p : PartD) (m : Nat) (h : ¬ p.t - p.f ≤ 1) (hm : ¬ m < p.f + SplitN (p.t - p.f)) : p.spl (k + 1) m = ⟨p.left :: (p.right.spl k m).x, (p.right.spl k m).y, (p.right.spl k m).s, (p.right.spl k m).d + 1⟩ := by rw [PartD.spl, if_neg h, if_neg hm]
/-- how many members the parts have together -/
def wide (L : List PartD) : Nat := (L.map fun p => p.t - p.f).sum
theorem wide_append (A B : List PartD) : wide (A ++ B) = wide A + wide B := by unfold wide; rw [List.map_append, List.sum_append]
theorem wide_cons (p : PartD) (B : List PartD) : wide (p :: B) = (p.t - p.f) + wide B := by unfold wide; rw [List.map_cons, List.sum_cons]
theorem wide_len (L : List PartD) (h : ∀ p ∈ L, p.f < p.t) : L.length ≤ wide L := by
  induction L with
  | nil => exact Nat.le_refl _
  | cons p L ih =>
    have h1 := h p List.mem_cons_self
    have h2 := ih fun x hx => h x (List.mem_cons_of_mem _ hx)
    rw [wide_cons, List.length_cons]
    omega
theorem halves_bd (p : PartD) (h : ¬ p.t - p.f ≤ 1) : p.f < p.left.t ∧ p.left.t < p.t ∧ p.left.f = p.f ∧ p.right.f = p.left.t ∧ p.right.t = p.t := by
  have := SplitN_bd (p.t - p.f) (by omega)
  exact ⟨by show p.f < p.f + SplitN _; omega, by show p.f + SplitN _ < p.t; omega, rfl, rfl, rfl⟩
end Go.Proofs.YtkpebabbnndopaaGreatDoor

/- halve. -/
namespace Go.Proofs.YtkpebabbnndopaaGreatDoor
open Go.RowKit
set_option linter.unusedVariables false

abbrev SH (B : Nat) (L R : Array Value) (W : World) : Prop := (∀ i, W.cell? ⟨B, i, none⟩ = L[i]?) ∧ (∀ i, W.cell? ⟨B + 1, i, none⟩ = R[i]?)
theorem SH.drew {B : Nat} {L R : Array Value} {W : World} (h : SH B L R W) : SH B L R W.drew := h
theorem SH.set {B : Nat} {L R : Array Value} {W : World} (h : SH B L R W) (b o : Nat) (v : Value) (h1 : B ≠ b) (h2 : B + 1 ≠ b) : SH B L R (W.setCell ⟨b, o, none⟩ v) := by
  obtain ⟨a1, a2⟩ := h
  refine ⟨fun i => ?_, fun i => ?_⟩
  · rw [← a1 i]; exact World.cell?_of_block (w := W) (Below.heap_setCell _ _ _ _ h1)
  · rw [← a2 i]; exact World.cell?_of_block (w := W) (Below.heap_setCell _ _ _ _ h2)

theorem setCell_drew (w : World) (a : Addr) (v : Value) : (w.setCell a v).drew = w.drew.setCell a v := rfl
theorem two_rows (w : World) (b P : Nat) (v0 v1 v2 v3 v4 v5 v6 v7 v8 v9 u0 u1 u2 u3 u4 u5 u6 u7 u8 u9 : Value) : (((((((((((((((((((((w).setCell ⟨b, P, none⟩ v0).setCell ⟨b, P + 1, none⟩ v1).setCell ⟨b, P + 2, none⟩ v2).setCell ⟨b, P + 3, none⟩ v3).setCell ⟨b, P + 4, none⟩ v4).setCell ⟨b, P + 5, none⟩ v5).setCell ⟨b, P + 6, none⟩ v6).setCell ⟨b, P + 7, none⟩ v7).setCell ⟨b, P + 8, none⟩ v8).setCell ⟨b, P + 9, none⟩ v9).setCell ⟨b, P + 10, none⟩ u0).setCell ⟨b, P + 11, none⟩ u1).setCell ⟨b, P + 12, none⟩ u2).setCell ⟨b, P + 13, none⟩ u3).setCell ⟨b, P + 14, none⟩ u4).setCell ⟨b, P + 15, none⟩ u5).setCell ⟨b, P + 16, none⟩ u6).setCell ⟨b, P + 17, none⟩ u7).setCell ⟨b, P + 18, none⟩ u8).setCell ⟨b, P + 19, none⟩ u9).drew = (w.drew.setCells b P [v0, v1, v2, v3, v4, v5, v6, v7, v8, v9]).setCells b (P + 10) [u0, u1, u2, u3, u4, u5, u6, u7, u8, u9] := by
  simp only [World.setCells, setCell_drew, Nat.add_assoc, Nat.reduceAdd]
theorem index_at (b o j : Nat) (hj : j < 16) : ∀ W, (Instr.indexAt 100 (.pointer (some ⟨b, o, none⟩)) (.int .i64 j)).run Tryz.prog W = .ok (.pointer (some ⟨b, o + j * 10, none⟩)) W := fun W => by
  have h0 : (0 : Int) ≤ j := by omega
  have h1 : (j : Int) < 16 := by omega
  simp [go_sem, h0, h1]
set_option maxHeartbeats 4000000 in
theorem halve_any {F : FuncId} {pre : Array Value} {q : Option Nat} (dv : Drv F pre q) (b o : Nat) (t : TypeId) (cs : Array Value) (A B : List PartD) (p : PartD) (w : World) (h : Home q b t cs w) (hT : TreeAt cs o (A ++ p :: B)) (hp : p.f + 2 ≤ p.t) (hlen : (A ++ p :: B).length ≤ 15) (hf : q ≠ none → o + 161 ≤ ctrOff) :
    Calls Tryz.prog 107 #[.pointer (some ⟨b, o, none⟩), .int .i64 A.length, .func (.func F) pre #[]] w fun e w' => e = .returned (.tuple #[]) ∧ ∃ cs', Upd q 2 b o 161 t cs w w' cs' ∧ TreeAt cs' o (A ++ p.left :: p.right :: B) := by
  obtain ⟨_, pt, ps⟩ := hT.ok p (List.mem_append_right _ List.mem_cons_self)
  have hsp := SplitI_bd ((p.t : Int) - p.f) (by omega)
  have e1 : ((p.t - p.f : Nat) : Int) = (p.t : Int) - p.f := by omega
  have HH : Hid (∀ W, Has q W → Calls Tryz.prog 140 #[AggP p.f p.t p.s, .func (.func F) pre #[]] W fun e w' => e = .returned (.tuple #[AggP p.left.f p.left.t p.left.s, AggP p.right.f p.right.t p.right.s]) ∧ Tick q 2 W w') := fun W hW => by
    have := halves_any dv p.f p.t p.s ps (by omega) (by omega) (by omega) W hW
    have e2 : (p.f : Int) + SplitI ((p.t : Int) - p.f) = ((p.f + SplitN (p.t - p.f) : Nat) : Int) := by rw [← e1, SplitN_eq]; omega
    rw [e2] at this
    exact this
  have hLR : p.left.f ≤ p.left.t ∧ p.left.t ≤ 16 ∧ p.right.f ≤ p.right.t ∧ p.right.t ≤ 16 := by
    have := halves_bd p (by omega)
    omega
  have hLb : ∀ i, 0 ≤ p.left.s i ∧ p.left.s i < 256 := DerB_bd _ _ _
  have hRb : ∀ i, 0 ≤ p.right.s i ∧ p.right.s i < 256 := DerB_bd _ _ _
  generalize p.left = l at *
  generalize p.right = r at *
  clear hsp e1
  have hsz := hT.size
  rw [List.length_append, List.length_cons] at hlen
  obtain ⟨i, hi⟩ : ∃ i, A.length = i := ⟨_, rfl⟩
  obtain ⟨n, hn⟩ : ∃ n, B.length = n := ⟨_, rfl⟩
  rw [hi, hn] at hlen
  have HP : Hid (w.rangeAt b (o + i * 10) (CellsP p.f p.t p.s).toList) := by
    have := hT.part
    rw [hi, Nat.mul_comm] at this
    exact h.range this
  have hcf := dv.enter
  have HQ : Hid (Has q w) := h.has
  have HLT : Hid (b < w.heap.size) := h.lt
  obtain ⟨pf, hpf⟩ : ∃ f : Int, (p.f : Int) = f := ⟨_, rfl⟩
  obtain ⟨pq, hpq⟩ : ∃ f : Int, (p.t : Int) = f := ⟨_, rfl⟩
  obtain ⟨px, hpx⟩ : ∃ s, p.s = s := ⟨_, rfl⟩
  rw [hpf, hpq, hpx] at HP HH
  obtain ⟨lf, hlf⟩ : ∃ f : Int, (l.f : Int) = f := ⟨_, rfl⟩
  obtain ⟨lt, hlt⟩ : ∃ f : Int, (l.t : Int) = f := ⟨_, rfl⟩
  obtain ⟨ls, hls⟩ : ∃ s, l.s = s := ⟨_, rfl⟩
  obtain ⟨rf, hrf⟩ : ∃ f : Int, (r.f : Int) = f := ⟨_, rfl⟩
  obtain ⟨rt, hrt⟩ : ∃ f : Int, (r.t : Int) = f := ⟨_, rfl⟩
  obtain ⟨rs, hrs⟩ : ∃ s, r.s = s := ⟨_, rfl⟩
  rw [hlf, hlt, hls, hrf, hrt, hrs] at HH
  have hlc : l.cells = (CellsP lf lt ls).toList := by unfold PartD.cells; rw [hlf, hlt, hls]
  have hrc : r.cells = (CellsP rf rt rs).toList := by unfold PartD.cells; rw [hrf, hrt, hrs]
  -- everything behind the call of halves, told of its world
  have key : ∀ w1, Tick q 2 w w1 → ∃ w2 w4 w5 cs5, (∀ dc sc ty, (Builtin.copy_ #[127, 127] ty #[.slice (some ⟨b, o + (i + 1) * 10, none⟩) (16 - (i + 1)) dc, .slice (some ⟨b, o + i * 10, none⟩) (n + 1) sc]).run Tryz.prog ((w1.alloc (.cells (CellsP lf lt ls) 99)).alloc (.cells (CellsP rf rt rs) 99)).drew = .ok (goInt (n + 1)) w2) ∧
      ((w1.alloc (.cells (CellsP lf lt ls) 99)).alloc (.cells (CellsP rf rt rs) 99)).cell? ⟨b, o + 160, none⟩ = some (.int .i64 ((i + n + 1 : Nat) : Int)) ∧
      w2.heap[w1.heap.size]? = some (.cells (CellsP lf lt ls) 99 (0, 0)) ∧ w2.heap[w1.heap.size + 1]? = some (.cells (CellsP rf rt rs) 99 (0, 0)) ∧
      (∃ x : Nat → Value, ∀ j, j < 20 → w2.cell? ⟨b, o + i * 10 + j, none⟩ = some (x j)) ∧ (∀ j, w2.frozen? ⟨b, j, none⟩ = false) ∧
      (w2.drew.setCells b (o + i * 10) (CellsP lf lt ls).toList).setCells b (o + i * 10 + 10) (CellsP rf rt rs).toList = w4 ∧
      w4.cell? ⟨b, o + 160, none⟩ = some (.int .i64 ((i + n + 1 : Nat) : Int)) ∧ (∀ j, w4.frozen? ⟨b, j, none⟩ = false) ∧ w4.setCell ⟨b, o + 160, none⟩ (.int .i64 ((i + n + 2 : Nat) : Int)) = w5 ∧ Upd q 2 b o 161 t cs w w5 cs5 ∧ TreeAt cs5 o (A ++ l :: r :: B) := by
    intro w1 ht
    obtain ⟨cs1, v1⟩ := h.tick ht
    have u1 : Upd q 2 b o 161 t cs w w1 cs1 := ⟨v1.outq, v1.home, v1.mv.ofNone o, v1.tk⟩
    have T1 : TreeAt cs1 o (A ++ p :: B) := hT.mv v1.mv hf
    have hs1 : cs1.size = cs.size := u1.mv.size
    have hb1 : b < w1.heap.size := u1.home.lt
    obtain ⟨wa, hwa⟩ : ∃ wa, ((w1.alloc (.cells (CellsP lf lt ls) 99)).alloc (.cells (CellsP rf rt rs) 99)) = wa := ⟨_, rfl⟩
    have ba : Below w1.heap.size w1 wa := by rw [← hwa]; exact ((Below.refl _ w1).alloc (Nat.le_refl _) _).alloc (by simp) _
    have ra : wa.heap[w1.heap.size]? = some (.cells (CellsP lf lt ls) 99 (0, 0)) := by rw [← hwa, Below.heap_alloc _ _ _ (by simp), (MapKept.heap_alloc _ _).1]
    have rb : wa.heap[w1.heap.size + 1]? = some (.cells (CellsP rf rt rs) 99 (0, 0)) := by
      rw [← hwa]
      have e := (MapKept.heap_alloc (w1.alloc (.cells (CellsP lf lt ls) 99)) (.cells (CellsP rf rt rs) 99)).1
      simp only [World.size_alloc] at e
      exact e
    have ua := u1.below ba
    have ud : Upd q 2 b o 161 t cs w wa.drew cs1 := ua.below (Below.refl _ _).drew
    rw [hwa]
    have hM := T1.parts
    rw [pcells_append] at hM
    obtain ⟨hA1, hM1⟩ := AtL.append.1 hM
    rw [pcells_len, hi, show o + 10 * i = o + i * 10 by omega] at hM1
    have hml : (p :: B).length = n + 1 := by rw [List.length_cons, hn]
    have hcp := fun dc sc ty => run_copy_parts q b o t cs1 wa.drew ud.home i (i + 1) (p :: B) hM1 (by omega) (by omega) dc sc ty
    rw [hml] at hcp
    -- behind the copy
    obtain ⟨w2, hw2⟩ : ∃ w2, wa.drew.setCells b (o + (i + 1) * 10) (pcells (p :: B)) = w2 := ⟨_, rfl⟩
    obtain ⟨cs2, hcs2⟩ : ∃ cs2, putL cs1 (o + (i + 1) * 10) (pcells (p :: B)) = cs2 := ⟨_, rfl⟩
    have hpl : (pcells (p :: B)).length = 10 * (n + 1) := by rw [pcells_len, hml]
    have u2 : Upd q 2 b o 161 t cs w w2 cs2 := by
      rw [← hw2, ← hcs2]
      exact ud.setCells hf _ _ (by omega) (by omega) (pcells_all _)
    have A2 : AtL cs2 o (pcells A) := by rw [← hcs2]; exact hA1.putOther _ _ (.inr (by rw [pcells_len, hi]; omega))
    have B2 : AtL cs2 (o + (i + 2) * 10) (pcells B) := by
      have := putL_at (pcells (p :: B)) cs1 (o + (i + 1) * 10) (by omega)
      rw [pcells_cons] at this
      have h2 := (AtL.append.1 this).2
      rw [PartD.cells_len, show o + (i + 1) * 10 + 10 = o + (i + 2) * 10 by omega] at h2
      rw [← hcs2, pcells_cons]
      exact h2
    have N2 : cs2[o + 160]? = some (.int .i64 ((i + n + 1 : Nat) : Int)) := by
      rw [← hcs2, putL_out _ _ _ _ (.inr (by omega)), T1.count, List.length_append, List.length_cons, hi, hn]; rfl
    have S2 : cs2.size = cs.size := by rw [← hcs2, putL_size, hs1]
    have e2 := setCells_row (pcells (p :: B)) wa.drew b (o + (i + 1) * 10) cs1 t ud.home.row
    rw [hw2] at e2
    have ra2 : w2.heap[w1.heap.size]? = some (.cells (CellsP lf lt ls) 99 (0, 0)) := by rw [e2, setRow_other _ _ _ _ (by omega)]; exact ra
    have rb2 : w2.heap[w1.heap.size + 1]? = some (.cells (CellsP rf rt rs) 99 (0, 0)) := by rw [e2, setRow_other _ _ _ _ (by omega)]; exact rb
    rw [hw2] at hcp
    clear hcs2
    have ud2 : Upd q 2 b o 161 t cs w w2.drew cs2 := u2.below (Below.refl _ _).drew
    -- the left half
    have u3 := ud2.setCells hf (o + i * 10) (CellsP lf lt ls).toList (by omega) (by show o + i * 10 + 10 ≤ _; omega)
    obtain ⟨cs3, hcs3⟩ : ∃ cs3, putL cs2 (o + i * 10) (CellsP lf lt ls).toList = cs3 := ⟨_, rfl⟩
    have A3 : AtL cs3 o (pcells A) := by rw [← hcs3]; exact A2.putOther _ _ (.inr (by rw [pcells_len, hi]; omega))
    have L3 : AtL cs3 (o + i * 10) l.cells := by rw [← hcs3, hlc]; exact putL_at _ _ _ (by show o + i * 10 + 10 ≤ _; omega)
    have B3 : AtL cs3 (o + (i + 2) * 10) (pcells B) := by rw [← hcs3]; exact B2.putOther _ _ (.inl (by show o + i * 10 + 10 ≤ _; omega))
    have N3 : cs3[o + 160]? = some (.int .i64 ((i + n + 1 : Nat) : Int)) := by rw [← hcs3, putL_out _ _ _ _ (.inr (by show o + i * 10 + 10 ≤ _; omega)), N2]
    have S3 : cs3.size = cs.size := by rw [← hcs3, putL_size, S2]
    obtain ⟨w3, hw3⟩ : ∃ w3, w2.drew.setCells b (o + i * 10) (CellsP lf lt ls).toList = w3 := ⟨_, rfl⟩
    rw [hw3] at u3
    rw [hcs3] at u3
    clear hcs3
    -- the right half
    have u4 := u3.setCells hf (o + (i + 1) * 10) (CellsP rf rt rs).toList (by omega) (by show o + (i + 1) * 10 + 10 ≤ _; omega)
    obtain ⟨cs4, hcs4⟩ : ∃ cs4, putL cs3 (o + (i + 1) * 10) (CellsP rf rt rs).toList = cs4 := ⟨_, rfl⟩
    have A4 : AtL cs4 o (pcells A) := by rw [← hcs4]; exact A3.putOther _ _ (.inr (by rw [pcells_len, hi]; omega))
    have L4 : AtL cs4 (o + i * 10) l.cells := by rw [← hcs4]; exact L3.putOther _ _ (.inr (by rw [PartD.cells_len]; omega))
    have R4 : AtL cs4 (o + (i + 1) * 10) r.cells := by rw [← hcs4, hrc]; exact putL_at _ _ _ (by show o + (i + 1) * 10 + 10 ≤ _; omega)
    have B4 : AtL cs4 (o + (i + 2) * 10) (pcells B) := by rw [← hcs4]; exact B3.putOther _ _ (.inl (by show o + (i + 1) * 10 + 10 ≤ _; omega))
    have N4 : cs4[o + 160]? = some (.int .i64 ((i + n + 1 : Nat) : Int)) := by rw [← hcs4, putL_out _ _ _ _ (.inr (by show o + (i + 1) * 10 + 10 ≤ _; omega)), N3]
    have S4 : cs4.size = cs.size := by rw [← hcs4, putL_size, S3]
    obtain ⟨w4, hw4⟩ : ∃ w4, w3.setCells b (o + (i + 1) * 10) (CellsP rf rt rs).toList = w4 := ⟨_, rfl⟩
    have hw34 : (w2.drew.setCells b (o + i * 10) (CellsP lf lt ls).toList).setCells b (o + i * 10 + 10) (CellsP rf rt rs).toList = w4 := by rw [hw3, show o + i * 10 + 10 = o + (i + 1) * 10 by omega, hw4]
    rw [hw4] at u4
    rw [hcs4] at u4
    clear hw4 hcs4
    have P4 : AtL cs4 o (pcells (A ++ l :: r :: B)) := by
      rw [pcells_append, pcells_cons, pcells_cons]
      refine AtL.append.2 ⟨A4, ?_⟩
      rw [pcells_len, hi, show o + 10 * i = o + i * 10 by omega]
      refine AtL.append.2 ⟨L4, ?_⟩
      rw [PartD.cells_len, show o + i * 10 + 10 = o + (i + 1) * 10 by omega]
      refine AtL.append.2 ⟨R4, ?_⟩
      rw [PartD.cells_len, show o + (i + 1) * 10 + 10 = o + (i + 2) * 10 by omega]
      exact B4
    have hll : (A ++ l :: r :: B).length = i + n + 2 := by simp only [List.length_append, List.length_cons, hi, hn]; omega
    refine ⟨w2, w4, _, _, hcp, by rw [ua.home.cells.1, T1.count, List.length_append, List.length_cons, hi, hn]; rfl, ra2, rb2, ⟨fun j => (cs2[o + i * 10 + j]?).getD (.bool false), fun j hj => by rw [u2.home.cells.1]; simp only; rw [Array.getElem?_eq_getElem (by omega)]; rfl⟩, u2.home.cells.2, hw34, by rw [u4.home.cells.1, N4], u4.home.cells.2, rfl, u4.setCell hf (o + 160) (by omega) (by omega) _, ?_⟩
    refine ⟨by omega, fun j v hv => ?_, ?_, ?_⟩
    · have hj := (List.getElem?_eq_some_iff.1 hv).1
      rw [pcells_len, hll] at hj
      rw [Array.getElem?_setIfInBounds, if_neg (by omega)]
      exact P4 j v hv
    · rw [Array.getElem?_setIfInBounds, if_pos rfl, if_pos (by omega), hll]
    · intro x hx
      rcases List.mem_append.1 hx with hx | hx
      · exact hT.ok x (List.mem_append_left _ hx)
      · rcases List.mem_cons.1 hx with rfl | hx
        · exact ⟨hLR.1, hLR.2.1, hLb⟩
        · rcases List.mem_cons.1 hx with rfl | hx
          · exact ⟨hLR.2.2.1, hLR.2.2.2, hRb⟩
          · exact hT.ok x (List.mem_append_right _ (List.mem_cons_of_mem _ hx))
  have s1 := slice_from b o (i + 1) (by omega)
  have s2 := slice_upto b o i (i + n + 1) (by omega) (by omega)
  rw [if_neg (show ¬ 16 = i by omega), show i + n + 1 - i = n + 1 by omega] at s2
  rw [hi]
  have HK : Hid (∀ w1, Tick q 2 w w1 → ∃ w2 w4 w5 cs5, (∀ dc sc ty, (Builtin.copy_ #[127, 127] ty #[.slice (some ⟨b, o + (i + 1) * 10, none⟩) (16 - (i + 1)) dc, .slice (some ⟨b, o + i * 10, none⟩) (n + 1) sc]).run Tryz.prog ((w1.alloc (.cells (CellsP lf lt ls) 99)).alloc (.cells (CellsP rf rt rs) 99)).drew = .ok (goInt (n + 1)) w2) ∧
      ((w1.alloc (.cells (CellsP lf lt ls) 99)).alloc (.cells (CellsP rf rt rs) 99)).cell? ⟨b, o + 160, none⟩ = some (.int .i64 ((i + n + 1 : Nat) : Int)) ∧
      w2.heap[w1.heap.size]? = some (.cells (CellsP lf lt ls) 99 (0, 0)) ∧ w2.heap[w1.heap.size + 1]? = some (.cells (CellsP rf rt rs) 99 (0, 0)) ∧
      (∃ x : Nat → Value, ∀ j, j < 20 → w2.cell? ⟨b, o + i * 10 + j, none⟩ = some (x j)) ∧ (∀ j, w2.frozen? ⟨b, j, none⟩ = false) ∧
      (w2.drew.setCells b (o + i * 10) (CellsP lf lt ls).toList).setCells b (o + i * 10 + 10) (CellsP rf rt rs).toList = w4 ∧
      w4.cell? ⟨b, o + 160, none⟩ = some (.int .i64 ((i + n + 1 : Nat) : Int)) ∧ (∀ j, w4.frozen? ⟨b, j, none⟩ = false) ∧ w4.setCell ⟨b, o + 160, none⟩ (.int .i64 ((i + n + 2 : Nat) : Int)) = w5 ∧ Upd q 2 b o 161 t cs w w5 cs5 ∧ TreeAt cs5 o (A ++ l :: r :: B)) := key
  obtain ⟨I, hI⟩ : ∃ I : Int, ((i : Nat) : Int) = I := ⟨_, rfl⟩
  obtain ⟨J, hJ⟩ : ∃ J : Int, ((i + 1 : Nat) : Int) = J := ⟨_, rfl⟩
  obtain ⟨C, hC⟩ : ∃ C : Int, ((i + n + 1 : Nat) : Int) = C := ⟨_, rfl⟩
  obtain ⟨D, hD⟩ : ∃ D : Int, ((i + n + 2 : Nat) : Int) = D := ⟨_, rfl⟩
  have a1 : IntKind.i64.wrap (I + 1) = J := by rw [IntKind.wrap_i64]; omega
  have a2 : wrap64 (I + 1) = J := by simp only [wrap64]; omega
  have a3 : IntKind.i64.wrap (C + 1) = D := by rw [IntKind.wrap_i64]; omega
  have a4 : wrap64 (C + 1) = D := by simp only [wrap64]; omega
  have ix1 := index_at b o i (by omega)
  have ix2 := index_at b o (i + 1) (by omega)
  rw [hI] at ix1
  rw [hJ] at ix2
  rw [hI] at s2 ⊢
  rw [hJ] at s1
  rw [hC] at s2 HK
  rw [hD] at HK
  obtain ⟨Q, hQ⟩ : ∃ Q : Nat, 16 - (i + 1) = Q := ⟨_, rfl⟩
  rw [hQ] at s1 HK
  clear hI hJ hC hD key hQ
  clear hT h hf hsz hlen hi hn hLR hLb hRb hpf hpq hpx hlf hlt hls hrf hrt hrs hlc hrc hp ps pt
  go_enter Tryz.func107, Tryz.ntmps107
  go_wp2_with (refine wpList_load_mid rfl 99 _ rfl b (o + i * 10) rfl (CellsP pf pq px).toList _ HP.out Tryz.underlying99 rfl (by kernel_rfl) ?_)
  refine (HH.out _ HQ.out).mono ?_
  rintro e w1 ⟨rfl, ht⟩
  obtain ⟨w2, w4, w5, cs5, k1, k2, k3, k4, ⟨x, k5⟩, k6, k6b, k7, k8, k9, k10, k11⟩ := HK.out w1 ht
  have HU : Hid (Upd q 2 b o 161 t cs w w5 cs5) := k10
  have HT5 : Hid (TreeAt cs5 o (A ++ l :: r :: B)) := k11
  have HW4 : Hid ((w2.drew.setCells b (o + i * 10) (CellsP lf lt ls).toList).setCells b (o + i * 10 + 10) (CellsP rf rt rs).toList = w4) := k6b
  obtain ⟨m3, _⟩ := row_facts k3
  obtain ⟨m4, _⟩ := row_facts k4
  have hn1 : ¬ (w1.heap.size = b) := by have := ht.size; have := HLT.out; omega
  have hn2 : ¬ (w1.heap.size + 1 = b) := by have := ht.size; have := HLT.out; omega
  have hn3 : ¬ (b = w1.heap.size) := by omega
  have hn4 : ¬ (b = w1.heap.size + 1) := by omega
  have HX : Hid (∀ j, j < 20 → w2.cell? ⟨b, o + i * 10 + j, none⟩ = some (x j)) := k5
  clear ht HK HH HP k10 k11 k3 k4 k6b k5
  go_wp2_with fail
  go_region
  have hpp : o + (i + 1) * 10 = o + i * 10 + 10 := by omega
  rw [hpp] at ix2
  obtain ⟨P1, hP1⟩ : ∃ P1, o + i * 10 = P1 := ⟨_, rfl⟩
  rw [hP1] at ix1 ix2 HX HW4
  clear hpp s1 s2 k1 k2
  have c0 := HX.out 0 (by omega); have c1 := HX.out 1 (by omega); have c2 := HX.out 2 (by omega); have c3 := HX.out 3 (by omega); have c4 := HX.out 4 (by omega); have c5 := HX.out 5 (by omega); have c6 := HX.out 6 (by omega); have c7 := HX.out 7 (by omega); have c8 := HX.out 8 (by omega); have c9 := HX.out 9 (by omega)
  have d0 := HX.out 10 (by omega); have d1 := HX.out 11 (by omega); have d2 := HX.out 12 (by omega); have d3 := HX.out 13 (by omega); have d4 := HX.out 14 (by omega); have d5 := HX.out 15 (by omega); have d6 := HX.out 16 (by omega); have d7 := HX.out 17 (by omega); have d8 := HX.out 18 (by omega); have d9 := HX.out 19 (by omega)
  rw [Nat.add_zero] at c0
  go_upto_region 2 with fail
  go_cut [] (fun wx => wx = w4)
  case first =>
    clear k7 k8 k9
    have hsh : SH w1.heap.size (CellsP lf lt ls) (CellsP rf rt rs) w2 := ⟨m3, m4⟩
    clear m3 m4
    go_region_held3 (fun W => SH w1.heap.size (CellsP lf lt ls) (CellsP rf rt rs) W) ((with_reducible first | exact hsh.drew | (refine SH.drew (SH.set (SH.set (SH.set (SH.set (SH.set (SH.set (SH.set (SH.set (SH.set (SH.set ?_ _ _ _ hn1 hn2) _ _ _ hn1 hn2) _ _ _ hn1 hn2) _ _ _ hn1 hn2) _ _ _ hn1 hn2) _ _ _ hn1 hn2) _ _ _ hn1 hn2) _ _ _ hn1 hn2) _ _ _ hn1 hn2) _ _ _ hn1 hn2); assumption) | (refine SH.drew (SH.set (SH.set (SH.set (SH.set (SH.set (SH.set (SH.set (SH.set (SH.set (SH.set (SH.set (SH.set (SH.set (SH.set (SH.set (SH.set (SH.set (SH.set (SH.set (SH.set ?_ _ _ _ hn1 hn2) _ _ _ hn1 hn2) _ _ _ hn1 hn2) _ _ _ hn1 hn2) _ _ _ hn1 hn2) _ _ _ hn1 hn2) _ _ _ hn1 hn2) _ _ _ hn1 hn2) _ _ _ hn1 hn2) _ _ _ hn1 hn2) _ _ _ hn1 hn2) _ _ _ hn1 hn2) _ _ _ hn1 hn2) _ _ _ hn1 hn2) _ _ _ hn1 hn2) _ _ _ hn1 hn2) _ _ _ hn1 hn2) _ _ _ hn1 hn2) _ _ _ hn1 hn2) _ _ _ hn1 hn2); assumption))) ((fail))
    all_goals
      go_wp2_with fail
      go_meet
      rw [two_rows]
      exact HW4.out
  case rest =>
    subst hcut
    go_wp2_with fail
    go_end0
    exact ⟨rfl, cs5, HU.out, HT5.out⟩
end Go.Proofs.YtkpebabbnndopaaGreatDoor

/- takeLeaf. -/
namespace Go.Proofs.YtkpebabbnndopaaGreatDoor
open Go.RowKit
set_option linter.unusedVariables false

theorem Upd.other {q : Option Nat} {n b o len : Nat} {t : TypeId} {cs cs' : Array Value} {w w' : World} (h : Upd q n b o len t cs w w' cs') {k : Nat} {ob : Obj} (hk : w.heap[k]? = some ob) (hn : k ≠ b) (hq : q ≠ some k) : w'.heap[k]? = some ob := h.outq.row hk (by
  cases q with
  | none => simp [hn]
  | some c => simp [hn]; exact fun e => hq (by rw [e]))

set_option maxHeartbeats 4000000 in
theorem takeLeaf_any {F : FuncId} {pre : Array Value} {q : Option Nat} (dv : Drv F pre q) (b o : Nat) (t : TypeId) (cs : Array Value) (A B : List PartD) (p : PartD) (m : Nat) (w : World) (h : Home q b t cs w) (hT : TreeAt cs o (A ++ p :: B)) (hpm : p.has m) (hA : ∀ x ∈ A, ¬ x.has m) (hlt : ∀ x ∈ A ++ p :: B, x.f < x.t) (hw : wide (A ++ p :: B) ≤ 16) (hf : q ≠ none → o + 161 ≤ ctrOff) :
    Calls Tryz.prog 78 #[.pointer (some ⟨b, o, none⟩), .int .i64 m, .func (.func F) pre #[]] w fun e w' => e = .returned (Agg8 (p.spl 16 m).s) ∧ ∃ cs', Upd q (2 * (p.spl 16 m).d) b o 161 t cs w w' cs' ∧ TreeAt cs' o (A ++ (p.spl 16 m).x ++ ((p.spl 16 m).y ++ B)) := by
  have HF : Hid (∀ W, Home q b t cs W → Calls Tryz.prog 105 #[.pointer (some ⟨b, o, none⟩), .int .i64 m] W fun e w' => e = .returned (.int .i64 A.length) ∧ Below W.heap.size W w') := fun W hW => by
    have e : (A ++ p :: B)[A.length]'(by simp) = p := by simp
    refine find_any q b o t cs (A ++ p :: B) m A.length (by simp) (by rw [e]; exact hpm) (fun i hi => ?_) W hW hT
    rw [List.getElem_append_left hi]
    exact hA _ (List.getElem_mem hi)
  obtain ⟨FIN, hFIN⟩ : ∃ FIN, A ++ (p.spl 16 m).x ++ ((p.spl 16 m).y ++ B) = FIN := ⟨_, rfl⟩
  obtain ⟨X, hX⟩ : ∃ X, (p.spl 16 m).s = X := ⟨_, rfl⟩
  obtain ⟨D, hD⟩ : ∃ D, (p.spl 16 m).d = D := ⟨_, rfl⟩
  rw [hFIN, hX, hD]
  have hb := h.lt
  have HQ0 : Hid (Has q w) := h.has
  obtain ⟨w0, hw0⟩ : ∃ w0, w.alloc (.cells (Cells8 fun _ => 0) 51) = w0 := ⟨_, rfl⟩
  have b0 : Below w.heap.size w w0 := by rw [← hw0]; exact (Below.refl _ w).alloc (Nat.le_refl _) _
  have r0 : w0.heap[w.heap.size]? = some (.cells (Cells8 fun _ => 0) 51 (0, 0)) := by rw [← hw0]; exact (MapKept.heap_alloc _ _).1
  have HW0 : Hid (w.alloc (.cells (Cells8 fun _ => 0) 51) = w0) := hw0
  have HH0 : Hid (Upd q 0 b o 161 t cs w w0 cs) := (Upd.refl h o 161).below b0
  have HFF : Hid (q ≠ none → o + 161 ≤ ctrOff) := hf
  have HINV : Hid (TreeAt cs o (A ++ p :: B) ∧ p.has m ∧ (∀ x ∈ A ++ p :: B, x.f < x.t) ∧ wide (A ++ p :: B) ≤ 16 ∧ (A ++ (p.spl 16 m).x ++ ((p.spl 16 m).y ++ B) = FIN) ∧ (p.spl 16 m).s = X ∧ (p.spl 16 m).d = D) := ⟨hT, hpm, hlt, hw, hFIN, hX, hD⟩
  obtain ⟨i, hi⟩ : ∃ i, A.length = i := ⟨_, rfl⟩
  rw [hi] at HF
  clear hT hpm hA hlt hw hf hFIN hX hD h hw0
  go_enter Tryz.func78, Tryz.ntmps78
  go_wp2_with fail
  rw [HW0.out]
  refine (HF.out _ HH0.out.home).mono ?_
  rintro e w1 ⟨rfl, b1⟩
  have HU1 : Hid (Upd q 0 b o 161 t cs w w1 cs) := HH0.out.below b1
  have r1 : w1.heap[w.heap.size]? = some (.cells (Cells8 fun _ => 0) 51 (0, 0)) := by rw [b1.block _ (Array.getElem?_eq_some_iff.1 r0).1, r0]
  clear b1 HH0 r0 b0 HF HW0
  go_wp2_with fail
  go_loopg [7] 16 (fun k v wr => ∃ (A' B' : List PartD) (c : PartD) (cs' : Array Value) (d : Nat), v = .int .i64 A'.length ∧ Hid (Upd q (2 * d) b o 161 t cs w wr cs' ∧ wr.heap[w.heap.size]? = some (.cells (Cells8 fun _ => 0) 51 (0, 0))) ∧ Hid (TreeAt cs' o (A' ++ c :: B') ∧ c.has m ∧ (∀ x ∈ A' ++ c :: B', x.f < x.t) ∧ wide (A' ++ c :: B') ≤ 16 ∧ (A' ++ (c.spl k m).x ++ ((c.spl k m).y ++ B') = FIN) ∧ (c.spl k m).s = X ∧ d + (c.spl k m).d = D ∧ c.t - c.f ≤ k))
  case atStart =>
    obtain ⟨i1, i2, i3, i4, i5, i6, i7⟩ := HINV.out
    obtain ⟨j1, j2, j3⟩ := i1.ok p (List.mem_append_right _ List.mem_cons_self)
    exact ⟨A, B, p, cs, 0, by rw [hi], ⟨HU1.out, r1⟩, i1, i2, i3, i4, i5, i6, by omega, by omega⟩
  case round =>
    obtain ⟨A', B', c, cs', d, rfl, HU, HI⟩ := hrel
    obtain ⟨i1, i2, i3, i4, i5, i6, i7, i8⟩ := HI.out
    obtain ⟨u1, u2⟩ := HU.out
    obtain ⟨j1, j2, j3⟩ := i1.ok c (List.mem_append_right _ List.mem_cons_self)
    have j4 := i3 c (List.mem_append_right _ List.mem_cons_self)
    have hlen := wide_len _ i3
    have hl2 : A'.length + (B'.length + 1) ≤ 16 := by rw [List.length_append, List.length_cons] at hlen; omega
    obtain ⟨j, hj⟩ : ∃ j, A'.length = j := ⟨_, rfl⟩
    rw [hj] at hl2
    have ix := index_at b o j (by omega)
    have HR : Hid (wr.rangeAt b (o + j * 10) (CellsP c.f c.t c.s).toList) := by
      have := i1.part
      rw [hj, Nat.mul_comm] at this
      exact u1.home.range this
    have HSZ : Hid (∀ W, Calls Tryz.prog 106 #[AggP c.f c.t c.s] W fun e w' => e = .returned (.int .i64 ((c.t : Int) - c.f)) ∧ w' = W.alloc (.cells (CellsP c.f c.t c.s) 99)) := fun W => size_any c.f c.t c.s (by omega) (by omega) (by omega) W
    have z1 : w.heap.size < wr.heap.size := (Array.getElem?_eq_some_iff.1 u2).1
    by_cases hgt : c.t - c.f ≤ 1
    · -- a leaf
      have hsp := PartD.spl_one gk c m hgt
      rw [hsp] at i5 i6 i7
      have i5' : A' ++ B' = FIN := by simpa using i5
      have i6' : c.s = X := i6
      have i7' : d = D := by omega
      have HRM : Hid (∀ W, Home q b t cs' W → Calls Tryz.prog 109 #[.pointer (some ⟨b, o, none⟩), .int .i64 j] W fun e w' => e = .returned (.tuple #[]) ∧ ∃ cs'', Upd q 0 b o 161 t cs' W w' cs'' ∧ TreeAt cs'' o FIN) := fun W hW => by
        have := remove_any q b o t cs' A' B' c W hW i1 HFF.out
        rw [hj, i5'] at this
        exact this
      have b1 : Below wr.heap.size wr (wr.alloc (.cells (CellsP c.f c.t c.s) 99)) := (Below.refl _ wr).alloc (Nat.le_refl _) _
      have v1 := u1.below b1
      have rs1 : (wr.alloc (.cells (CellsP c.f c.t c.s) 99)).rangeAt b (o + j * 10 + 2) (Cells8 c.s).toList := by
        have := i1.part
        rw [hj, Nat.mul_comm] at this
        exact v1.home.range (fun k v hv => by
          have hk : k < 8 := (List.getElem?_eq_some_iff.1 hv).1
          have h2 := this (2 + k) v (by unfold PartD.cells; rw [show (CellsP (c.f : Int) c.t c.s).toList = [.int .i64 (c.f : Int), .int .i64 (c.t : Int)] ++ (Cells8 c.s).toList from rfl, List.getElem?_append_right (by simp)]; simpa using hv)
          rwa [← Nat.add_assoc] at h2)
      have HRS : Hid ((wr.alloc (.cells (CellsP c.f c.t c.s) 99)).rangeAt b (o + j * 10 + 2) (Cells8 c.s).toList) := rs1
      have hcmp : ¬ ((1 : Int) < (c.t : Int) - c.f) := by omega
      obtain ⟨f, hf⟩ : ∃ f : Int, (c.f : Int) = f := ⟨_, rfl⟩
      obtain ⟨g, hg⟩ : ∃ f : Int, (c.t : Int) = f := ⟨_, rfl⟩
      have HV1 : Hid (Upd q (2 * d) b o 161 t cs w (wr.alloc (.cells (CellsP c.f c.t c.s) 99)) cs') := v1
      have HR1 : Hid ((wr.alloc (.cells (CellsP c.f c.t c.s) 99)).heap[w.heap.size]? = some (.cells (Cells8 fun _ => 0) 51 (0, 0))) := by show _ = _; rw [Below.heap_alloc _ _ _ z1]; exact u2
      have z2 : w.heap.size < (wr.alloc (.cells (CellsP c.f c.t c.s) 99)).heap.size := by simp; omega
      rw [i6', hf, hg] at HR HSZ HRS HV1 HR1 z2
      rw [hf, hg] at hcmp
      obtain ⟨S1, hS1⟩ : ∃ S1, g - f = S1 := ⟨_, rfl⟩
      rw [hS1] at HSZ hcmp
      obtain ⟨wa, hwa⟩ : ∃ wa, wr.alloc (.cells (CellsP f g X) 99) = wa := ⟨_, rfl⟩
      have HWA : Hid (wr.alloc (.cells (CellsP f g X) 99) = wa) := hwa
      rw [hwa] at HRS HV1 HR1 z2
      subst i7'
      rw [hj]
      clear i1 i2 i3 i4 i5 i6 i7 i8 u1 u2 j1 j2 j3 j4 hlen hl2 hsp i5' b1 v1 rs1 hgt hf hg hS1 hj HI HU HINV hwa z1
      go_wp2_with (first | refine wpList_load_mid rfl 99 _ rfl b (o + j * 10) rfl (CellsP f g X).toList _ HR.out Tryz.underlying99 rfl (by kernel_rfl) ?_ | (go_at_call 106; refine (HSZ.out _).mono ?_; rintro e w' ⟨rfl, rfl⟩; rw [HWA.out]) | refine wpList_load_mid rfl 51 _ rfl b (o + j * 10 + 2) rfl (Cells8 X).toList _ HRS.out Tryz.underlying51 rfl (by kernel_rfl) ?_)
      have ba : Below wa.heap.size wa (wa.alloc (.cells (Cells8 X) 51)) := (Below.refl _ wa).alloc (Nat.le_refl _) _
      have va := HV1.out.below ba
      refine (HRM.out _ va.home).mono ?_
      rintro e w3 ⟨rfl, cs3, v3, hT3⟩
      have hbk : wa.heap.size ≠ b := by have := HV1.out.home.lt; omega
      have k3 : w3.heap[wa.heap.size]? = some (.cells (Cells8 X) 51 (0, 0)) := v3.other (MapKept.heap_alloc _ _).1 hbk (HV1.out.home.has.ne (Nat.le_refl _))
      have r3 : w3.heap[w.heap.size]? = some (.cells (Cells8 fun _ => 0) 51 (0, 0)) := v3.other (by rw [Below.heap_alloc _ _ _ z2]; exact HR1.out) (by omega) (HQ0.out.ne (Nat.le_refl _))
      have HV3 : Hid (Upd q (2 * d) b o 161 t cs w w3 cs3) := va.trans v3
      have HT3 : Hid (TreeAt cs3 o FIN) := hT3
      clear ba va v3 hT3 HRM HV1 HR1 HRS HR HSZ HWA z2
      go_wp2_with (first | refine wpList_load_row rfl 51 _ rfl wa.heap.size rfl 51 (Cells8 X) (0, 0) _ k3 Tryz.underlying51 rfl (by kernel_rfl) ?_ | refine wpList_store_row rfl 51 _ _ rfl w.heap.size (Cells8 X) rfl rfl 51 (Cells8 fun _ => 0) r3 (by kernel_rfl) rfl (Cells8_one _) ?_)
      exact bodyPost_ret (v := Agg8 X) (results_cell_row rfl _ _ w.heap.size 51 (Cells8 X) (0, 0) _ rfl (setRow_heap _ _ _ _ _ _ r3) Tryz.underlying51 rfl (by kernel_rfl)) rfl ⟨rfl, cs3, HV3.out.fresh hb HQ0.out (Nat.le_refl _) _, HT3.out⟩
    · -- a part of several
      obtain ⟨k, rfl⟩ : ∃ k, gk = k + 1 := ⟨gk - 1, by omega⟩
      have hbd := halves_bd c hgt
      have hlen15 : (A' ++ c :: B').length ≤ 15 := by
        have h1 := wide_len A' (fun x hx => i3 x (List.mem_append_left _ hx))
        have h2 := wide_len B' (fun x hx => i3 x (List.mem_append_right _ (List.mem_cons_of_mem _ hx)))
        rw [wide_append, wide_cons] at i4
        rw [List.length_append, List.length_cons]
        omega
      have HHV : Hid (∀ W, Home q b t cs' W → Calls Tryz.prog 107 #[.pointer (some ⟨b, o, none⟩), .int .i64 j, .func (.func F) pre #[]] W fun e w' => e = .returned (.tuple #[]) ∧ ∃ cs'', Upd q 2 b o 161 t cs' W w' cs'' ∧ TreeAt cs'' o (A' ++ c.left :: c.right :: B')) := fun W hW => by
        have := halve_any dv b o t cs' A' B' c W hW i1 (by omega) hlen15 HFF.out
        rw [hj] at this
        exact this
      -- what holds behind the halving
      have hmem : ∀ x ∈ A' ++ c.left :: c.right :: B', x.f < x.t := fun x hx => by
        rcases List.mem_append.1 hx with hx | hx
        · exact i3 x (List.mem_append_left _ hx)
        · rcases List.mem_cons.1 hx with rfl | hx
          · omega
          · rcases List.mem_cons.1 hx with rfl | hx
            · omega
            · exact i3 x (List.mem_append_right _ (List.mem_cons_of_mem _ hx))
      have hwide : wide (A' ++ c.left :: c.right :: B') ≤ 16 := by
        rw [wide_append, wide_cons] at i4
        rw [wide_append, wide_cons, wide_cons]
        omega
      have HNXT : Hid ((m < c.left.t → c.left.has m ∧ (A' ++ (c.left.spl k m).x ++ ((c.left.spl k m).y ++ (c.right :: B')) = FIN) ∧ (c.left.spl k m).s = X ∧ (d + 1) + (c.left.spl k m).d = D ∧ c.left.t - c.left.f ≤ k) ∧ (¬ m < c.left.t → c.right.has m ∧ ((A' ++ [c.left]) ++ (c.right.spl k m).x ++ ((c.right.spl k m).y ++ B') = FIN) ∧ (c.right.spl k m).s = X ∧ (d + 1) + (c.right.spl k m).d = D ∧ c.right.t - c.right.f ≤ k)) := by
        obtain ⟨e1, e2, e3, e4, e5⟩ := hbd
        refine ⟨fun hm => ?_, fun hm => ?_⟩
        · have hs := PartD.spl_left k c m hgt hm
          rw [hs] at i5 i6 i7
          refine ⟨⟨by rw [e3]; exact i2.1, hm⟩, ?_, i6, ?_, by omega⟩
          · rw [← i5]; simp
          · rw [← i7]; simp only; omega
        · have hs := PartD.spl_right k c m hgt hm
          rw [hs] at i5 i6 i7
          refine ⟨⟨by rw [e4]; omega, by rw [e5]; exact i2.2⟩, ?_, i6, ?_, by omega⟩
          · rw [← i5]; simp
          · rw [← i7]; simp only; omega
      have hdc : (decide ((c.left.f : Int) ≤ m ∧ (m : Int) < c.left.t)) = decide (m < c.left.t) := by
        have := i2.1
        have e3 := hbd.2.2.1
        by_cases hm : m < c.left.t
        · simp [hm]; omega
        · simp [hm]
      have HHAS : Hid (∀ W, Calls Tryz.prog 108 #[AggP c.left.f c.left.t c.left.s, .int .i64 m] W fun e w' => e = .returned (.bool (decide (m < c.left.t))) ∧ w' = W.alloc (.cells (CellsP c.left.f c.left.t c.left.s) 99)) := fun W => by rw [← hdc]; exact has_any c.left.f c.left.t c.left.s m W
      have HMORE : Hid ((∀ x ∈ A' ++ c.left :: c.right :: B', x.f < x.t) ∧ wide (A' ++ c.left :: c.right :: B') ≤ 16) := ⟨hmem, hwide⟩
      have b1 : Below wr.heap.size wr (wr.alloc (.cells (CellsP c.f c.t c.s) 99)) := (Below.refl _ wr).alloc (Nat.le_refl _) _
      have v1 := u1.below b1
      have HV1 : Hid (Upd q (2 * d) b o 161 t cs w (wr.alloc (.cells (CellsP c.f c.t c.s) 99)) cs') := v1
      have HR1 : Hid ((wr.alloc (.cells (CellsP c.f c.t c.s) 99)).heap[w.heap.size]? = some (.cells (Cells8 fun _ => 0) 51 (0, 0))) := by show _ = _; rw [Below.heap_alloc _ _ _ z1]; exact u2
      have hcmp : (1 : Int) < (c.t : Int) - c.f := by omega
      obtain ⟨f, hf⟩ : ∃ f : Int, (c.f : Int) = f := ⟨_, rfl⟩
      obtain ⟨g, hg⟩ : ∃ f : Int, (c.t : Int) = f := ⟨_, rfl⟩
      obtain ⟨x, hx⟩ : ∃ x, c.s = x := ⟨_, rfl⟩
      rw [hx, hf, hg] at HR HSZ HV1 HR1
      rw [hf, hg] at hcmp
      obtain ⟨S1, hS1⟩ : ∃ S1, g - f = S1 := ⟨_, rfl⟩
      rw [hS1] at HSZ hcmp
      obtain ⟨wa, hwa⟩ : ∃ wa, wr.alloc (.cells (CellsP f g x) 99) = wa := ⟨_, rfl⟩
      have HWA : Hid (wr.alloc (.cells (CellsP f g x) 99) = wa) := hwa
      rw [hwa] at HV1 HR1
      have HJ : Hid (A'.length = j) := hj
      have HL2 : Hid (j + (B'.length + 1) ≤ 16) := hl2
      rw [hj]
      clear i1 i2 i3 i4 i5 i6 i7 i8 u1 u2 j1 j2 j3 j4 hlen hl2 b1 v1 hgt hf hg hx hS1 hj HI HU HINV hwa z1 hmem hwide hdc hbd hlen15
      go_wp2_with (first | refine wpList_load_mid rfl 99 _ rfl b (o + j * 10) rfl (CellsP f g x).toList _ HR.out Tryz.underlying99 rfl (by kernel_rfl) ?_ | (go_at_call 106; refine (HSZ.out _).mono ?_; rintro e w' ⟨rfl, rfl⟩; rw [HWA.out]))
      refine (HHV.out _ HV1.out.home).mono ?_
      rintro e w3 ⟨rfl, cs3, v3, hT3⟩
      have HV3 : Hid (Upd q (2 * (d + 1)) b o 161 t cs w w3 cs3) := HV1.out.trans v3
      have hbw : w.heap.size ≠ b := by omega
      have HR3 : Hid (w3.heap[w.heap.size]? = some (.cells (Cells8 fun _ => 0) 51 (0, 0))) := v3.other HR1.out hbw (HQ0.out.ne (Nat.le_refl _))
      have HT3 : Hid (TreeAt cs3 o (A' ++ c.left :: c.right :: B')) := hT3
      have HRL : Hid (w3.rangeAt b (o + j * 10) (CellsP c.left.f c.left.t c.left.s).toList) := by
        have := hT3.part
        rw [HJ.out, Nat.mul_comm] at this
        exact v3.home.range this
      obtain ⟨l, hl⟩ : ∃ l, c.left = l := ⟨_, rfl⟩
      obtain ⟨r, hr⟩ : ∃ r, c.right = r := ⟨_, rfl⟩
      rw [hl] at HRL HHAS HNXT HMORE HT3
      rw [hr] at HNXT HMORE HT3
      obtain ⟨wb, hwb⟩ : ∃ wb, w3.alloc (.cells (CellsP l.f l.t l.s) 99) = wb := ⟨_, rfl⟩
      have bb : Below w3.heap.size w3 wb := by rw [← hwb]; exact (Below.refl _ w3).alloc (Nat.le_refl _) _
      have HVB : Hid (Upd q (2 * (d + 1)) b o 161 t cs w wb cs3) := HV3.out.below bb
      have HRB : Hid (wb.heap[w.heap.size]? = some (.cells (Cells8 fun _ => 0) 51 (0, 0))) := by show _ = _; rw [bb.block _ (Array.getElem?_eq_some_iff.1 HR3.out).1]; exact HR3.out
      have HWB : Hid (w3.alloc (.cells (CellsP l.f l.t l.s) 99) = wb) := hwb
      obtain ⟨lf, hlf⟩ : ∃ f : Int, (l.f : Int) = f := ⟨_, rfl⟩
      obtain ⟨lg, hlg⟩ : ∃ f : Int, (l.t : Int) = f := ⟨_, rfl⟩
      obtain ⟨lx, hlx⟩ : ∃ x, l.s = x := ⟨_, rfl⟩
      rw [hlf, hlg, hlx] at HRL HHAS HWB
      clear v3 hT3 HV3 HR3 hl hr hwb bb hlf hlg hlx HHV HV1 HR1 HR HSZ HWA
      by_cases hm : m < l.t
      · have hmd : decide (m < l.t) = true := by simp [hm]
        obtain ⟨n1, n2, n3, n4, n5⟩ := HNXT.out.1 hm
        have HREL : Hid (TreeAt cs3 o (A' ++ l :: (r :: B')) ∧ l.has m ∧ (∀ x ∈ A' ++ l :: (r :: B'), x.f < x.t) ∧ wide (A' ++ l :: (r :: B')) ≤ 16 ∧ (A' ++ (l.spl k m).x ++ ((l.spl k m).y ++ (r :: B')) = FIN) ∧ (l.spl k m).s = X ∧ (d + 1) + (l.spl k m).d = D ∧ l.t - l.f ≤ k) := ⟨HT3.out, n1, HMORE.out.1, HMORE.out.2, n2, n3, n4, n5⟩
        rw [hmd] at HHAS
        clear n1 n2 n3 n4 n5 HNXT HMORE HT3 hm hmd
        go_wp2_with (first | refine wpList_load_mid rfl 99 _ rfl b (o + j * 10) rfl (CellsP lf lg lx).toList _ HRL.out Tryz.underlying99 rfl (by kernel_rfl) ?_ | (go_at_call 108; refine (HHAS.out _).mono ?_; rintro e w' ⟨rfl, rfl⟩; rw [HWB.out]))
        go_roundg k
        case measure => omega
        case rel => exact ⟨A', r :: B', l, cs3, d + 1, by rw [HJ.out], ⟨HVB.out, HRB.out⟩, HREL.out⟩
      · have hmd : decide (m < l.t) = false := by simp [hm]
        obtain ⟨n1, n2, n3, n4, n5⟩ := HNXT.out.2 hm
        have he : A' ++ l :: r :: B' = (A' ++ [l]) ++ r :: B' := by simp
        have HREL : Hid (TreeAt cs3 o ((A' ++ [l]) ++ r :: B') ∧ r.has m ∧ (∀ x ∈ (A' ++ [l]) ++ r :: B', x.f < x.t) ∧ wide ((A' ++ [l]) ++ r :: B') ≤ 16 ∧ ((A' ++ [l]) ++ (r.spl k m).x ++ ((r.spl k m).y ++ B') = FIN) ∧ (r.spl k m).s = X ∧ (d + 1) + (r.spl k m).d = D ∧ r.t - r.f ≤ k) := by
          refine ⟨?_, n1, ?_, ?_, n2, n3, n4, n5⟩
          · rw [← he]; exact HT3.out
          · rw [← he]; exact HMORE.out.1
          · rw [← he]; exact HMORE.out.2
        have hjl : (A' ++ [l]).length = j + 1 := by rw [List.length_append, HJ.out]; rfl
        have HJL : Hid ((A' ++ [l]).length = j + 1) := hjl
        have hwj : wrap64 ((j : Int) + 1) = ((j + 1 : Nat) : Int) := by have := HL2.out; simp only [wrap64]; omega
        rw [hmd] at HHAS
        clear n1 n2 n3 n4 n5 HNXT HMORE HT3 hm hmd he hjl
        go_wp2_with (first | refine wpList_load_mid rfl 99 _ rfl b (o + j * 10) rfl (CellsP lf lg lx).toList _ HRL.out Tryz.underlying99 rfl (by kernel_rfl) ?_ | (go_at_call 108; refine (HHAS.out _).mono ?_; rintro e w' ⟨rfl, rfl⟩; rw [HWB.out]))
        go_roundg k
        case measure => omega
        case rel => exact ⟨A' ++ [l], B', r, cs3, d + 1, by rw [HJL.out, hwj], ⟨HVB.out, HRB.out⟩, HREL.out⟩
end Go.Proofs.YtkpebabbnndopaaGreatDoor

namespace Go.Proofs.YtkpebabbnndopaaGreatDoor
open Go.RowKit

set_option maxHeartbeats 1000000 in
theorem refDerive_any (s : Nat → Int) (hs : ∀ i, 0 ≤ s i ∧ s i < 256) (l : ByteArray) (hl : l.size ≤ maxLen) (n : Int) (w : World) :
    Calls Tryz.prog 31 #[Agg8 s, .string l, .int .i64 n] w fun e w' => e = .returned (Agg8 (DerB s l.data.toList n)) ∧ Below w.heap.size w w' := by
  unfold maxLen at hl
  have s0 := hs 0
  have s1 := hs 1
  have s2 := hs 2
  have s3 := hs 3
  have s4 := hs 4
  have s5 := hs 5
  have s6 := hs 6
  have s7 := hs 7
  clear hs
  have fm := fold_mix
  have ff := fold_fin
  go_enter Tryz.func31, Tryz.ntmps31
  go_wp2
  refine wp_loop_rounds 9 ?_
  rw [rounds_succ]; go_wp2
  rw [rounds_succ]; go_wp2
  rw [rounds_succ]; go_wp2
  rw [rounds_succ]; go_wp2
  rw [rounds_succ]; go_wp2
  rw [rounds_succ]; go_wp2
  rw [rounds_succ]; go_wp2
  rw [rounds_succ]; go_wp2
  rw [rounds_succ]; go_wp2
  clear s0 s1 s2 s3 s4 s5 s6 s7
  go_loop [7, 9] (fun h i => ∃ k : Nat, k ≤ l.size ∧ i = .int .i64 k ∧ h = .int .u64 (MixL (MixS s) (l.data.toList.take k))) (fun _ i => l.size - (intOf i).toNat)
  case atStart => exact ⟨0, Nat.zero_le _, rfl, rfl⟩
  case round =>
    obtain ⟨k, hk, rfl, rfl⟩ := hrel
    by_cases hlt : k < l.size
    · have HS : Hid (MixL (MixS s) (l.data.toList.take (k + 1)) = Mix (MixL (MixS s) (l.data.toList.take k)) l[k].toNat) := MixL_step _ l k hlt
      have hby := byte_bd l[k]
      go_wp2
      go_round
      case rel => exact ⟨k + 1, by omega, by go_num, by rw [HS.out]⟩
      case measure => simp [intOf]; omega
    · have hfull : l.data.toList.take k = l.data.toList := List.take_of_length_le (by simp; omega)
      rw [hfull]
      clear hfull
      generalize hL : MixL (MixS s) l.data.toList = L
      have HL : Hid (MixL (MixS s) l.data.toList = L) := hL
      clear hL
      go_wp2
      refine wp_loop_rounds 5 ?_
      rw [rounds_succ]; go_wp2
      rw [rounds_succ]; go_wp2
      rw [rounds_succ]; go_wp2
      rw [rounds_succ]; go_wp2
      rw [rounds_succ]; go_wp2
      refine wp_loop_rounds 4 ?_
      rw [rounds_succ]; go_wp2
      rw [rounds_succ]; go_wp2
      rw [rounds_succ]; go_wp2
      rw [rounds_succ]; go_wp2
      refine wp_loop_rounds 9 ?_
      rw [rounds_succ]; go_wp2
      rw [rounds_succ]; go_wp2
      rw [rounds_succ]; go_wp2
      rw [rounds_succ]; go_wp2
      rw [rounds_succ]; go_wp2
      rw [rounds_succ]; go_wp2
      rw [rounds_succ]; go_wp2
      rw [rounds_succ]; go_wp2
      rw [rounds_succ]; go_wp2
      exact bodyPost_ret (v := Agg8 (Byt (DerR L n))) (by simp [results, Tryz.results31, go_sem, DerR, Byt]) rfl ⟨by rw [← HL.out, DerR_eq], ((((Below.refl _ _).alloc (Nat.le_refl _) _).alloc (by simp) _).alloc (by simp; omega) _)⟩
end Go.Proofs.YtkpebabbnndopaaGreatDoor
