/- Worlds that differ within some blocks alone; the state of a group as plain data. -/
import Derived.Test.YtkpebabbnndopaaPureK
import Derived.Test.YtkpebabbnndopaaPureS
import Derived.WalkKit
import Derived.Deep.WholeRow
namespace Go.Proofs.Ytkpebabbnndopaa
open Go.RowKit

/-- outside the blocks S (and what is new) the world w' is as w was -/
structure Outside (S : List Nat) (w w' : World) : Prop where
  os : w'.os = w.os
  tape : w'.tape = w.tape
  output : w'.output = w.output
  size : w.heap.size ≤ w'.heap.size
  block : ∀ k, k < w.heap.size → k ∉ S → w'.heap[k]? = w.heap[k]?
theorem Outside.refl (S : List Nat) (w : World) : Outside S w w := ⟨rfl, rfl, rfl, Nat.le_refl _, fun _ _ _ => rfl⟩
theorem Outside.trans {S S' : List Nat} {a b c : World} (h : Outside S a b) (k : Outside S' b c) (hs : ∀ i, i ∈ S' → i < a.heap.size → i ∈ S) : Outside S a c :=
  ⟨k.os.trans h.os, k.tape.trans h.tape, k.output.trans h.output, Nat.le_trans h.size k.size, fun i hi hn => (k.block i (Nat.lt_of_lt_of_le hi h.size) (fun hm => hn (hs i hm hi))).trans (h.block i hi hn)⟩
theorem Outside.mono {S S' : List Nat} {a b : World} (h : Outside S a b) (hs : ∀ i, i ∈ S → i < a.heap.size → i ∈ S') : Outside S' a b :=
  ⟨h.os, h.tape, h.output, h.size, fun i hi hn => h.block i hi (fun hm => hn (hs i hm hi))⟩
theorem Outside.below {S : List Nat} {a b c : World} (h : Outside S a b) (k : Below b.heap.size b c) : Outside S a c :=
  ⟨k.os.trans h.os, k.tape.trans h.tape, k.output.trans h.output, Nat.le_trans h.size k.size, fun i hi hn => (k.block i (Nat.lt_of_lt_of_le hi h.size)).trans (h.block i hi hn)⟩
theorem Outside.ofBelow {S : List Nat} {a b : World} (k : Below a.heap.size a b) : Outside S a b := (Outside.refl S a).below k
theorem Outside.drew {S : List Nat} {a b : World} (h : Outside S a b) : Outside S a b.drew := ⟨h.os, h.tape, h.output, h.size, h.block⟩
theorem Outside.alloc {S : List Nat} {a b : World} (h : Outside S a b) (o : Obj) : Outside S a (b.alloc o) := h.below ((Below.refl _ _).alloc (Nat.le_refl _) o)
theorem Outside.setRow {S : List Nat} {a b : World} (h : Outside S a b) (g : Nat) (hg : g < a.heap.size → g ∈ S) (cs : Array Value) : Outside S a (b.setRow g cs) := by
  have k := below_setRow (Below.refl 0 b) (Nat.zero_le g) cs
  refine ⟨k.os.trans h.os, k.tape.trans h.tape, k.output.trans h.output, Nat.le_trans h.size k.size, fun i hi hn => ?_⟩
  rw [setRow_other _ _ _ _ (fun e => by subst e; exact hn (hg hi))]
  exact h.block i hi hn
theorem Outside.setCell {S : List Nat} {a b : World} (h : Outside S a b) (p : Addr) (hg : p.block < a.heap.size → p.block ∈ S) (u : Value) : Outside S a (b.setCell p u) := by
  have k := (Below.refl 0 b).setCell (p := p) (Nat.zero_le _) u
  refine ⟨k.os.trans h.os, k.tape.trans h.tape, k.output.trans h.output, Nat.le_trans h.size k.size, fun i hi hn => ?_⟩
  rw [Below.heap_setCell b p u i (fun e => by subst e; exact hn (hg hi))]
  exact h.block i hi hn
theorem Outside.toBelow {S : List Nat} {a b : World} (h : Outside S a b) (B : Nat) (hB : B ≤ a.heap.size) (hS : ∀ i, i ∈ S → B ≤ i) : Below B a b :=
  ⟨h.os, h.tape, h.output, h.size, fun k hk => h.block k (Nat.lt_of_lt_of_le hk hB) (fun hm => by have := hS k hm; omega)⟩
theorem Outside.row {S : List Nat} {a b : World} (h : Outside S a b) {k : Nat} {o : Obj} (hk : a.heap[k]? = some o) (hn : k ∉ S) : b.heap[k]? = some o := by
  rw [h.block k (Array.getElem?_eq_some_iff.1 hk).1 hn, hk]

/-- a member, as another knows it -/
structure Mem where
  begun : Bool
  next : Nat
  over : List Nat
/-- the state of a group -/
structure St where
  s : Nat → Int
  n : Nat
  own : Nat
  mem : List Mem
  closed : Bool
structure St.Ok (st : St) : Prop where
  hs : ∀ i, 0 ≤ st.s i ∧ st.s i < 256
  n1 : 1 ≤ st.n
  n16 : st.n ≤ 16
  own : st.own < st.n
  len : st.mem.length = st.n
  mem : ∀ m, m ∈ st.mem → m.next ≤ 65536 ∧ m.over.length ≤ 4 ∧ (∀ x, x ∈ m.over → x ≤ 65535) ∧ (m.begun = false → m.next = 0 ∧ m.over = [])
def St.new (s : Nat → Int) (n own : Nat) : St := ⟨s, n, own, List.replicate n ⟨false, 0, []⟩, false⟩
def St.m (st : St) (i : Nat) : Mem := st.mem.getD i ⟨false, 0, []⟩
theorem St.Ok.m {st : St} (h : st.Ok) (i : Nat) : (st.m i).next ≤ 65536 ∧ (st.m i).over.length ≤ 4 ∧ (∀ x, x ∈ (st.m i).over → x ≤ 65535) ∧ ((st.m i).begun = false → (st.m i).next = 0 ∧ (st.m i).over = []) := by
  unfold St.m
  by_cases hi : i < st.mem.length
  · rw [List.getD_eq_getElem?_getD, List.getElem?_eq_getElem hi]; exact h.mem _ (List.getElem_mem hi)
  · rw [List.getD_eq_getElem?_getD, List.getElem?_eq_none (by omega)]; exact ⟨by simp, by simp, by simp, by simp⟩
/-- how many halvings -/
def DepB : Nat → Nat → Nat → Nat
  | 0, _, _ => 0
  | k + 1, n, m => if n ≤ 1 then 0 else if m < (SplitI n).toNat then 1 + DepB k (SplitI n).toNat m else 1 + DepB k (n - (SplitI n).toNat) (m - (SplitI n).toNat)
theorem DepB_le (k : Nat) : ∀ n m, DepB k n m ≤ k := by
  induction k with
  | zero => intro n m; exact Nat.le_refl _
  | succ k ih =>
    intro n m
    rw [DepB]
    split
    · omega
    · split
      · have := ih (SplitI n).toNat m; omega
      · have := ih (n - (SplitI n).toNat) (m - (SplitI n).toNat); omega
/-- P14's bound -/
def St.bound (st : St) (who gen len : Nat) : Nat := 4 + 2 * DepB 16 st.n who + 2 * (gen + 1 - (st.m who).next) + (len + 7) / 8
def HeadB (who gen : Nat) : List UInt8 := [UInt8.ofNat who, UInt8.ofNat (gen / 256), UInt8.ofNat gen]
/-- P8 -/
def St.protErr (st : St) (len : Nat) : Int := if st.closed then 9 else if 40 < len then 2 else if 65535 < (st.m st.own).next then 8 else 0
def St.setM (st : St) (i : Nat) (m : Mem) : St := { st with mem := st.mem.set i m }
def St.protNext (st : St) : St := st.setM st.own ⟨true, (st.m st.own).next + 1, (st.m st.own).over⟩
end Go.Proofs.Ytkpebabbnndopaa
