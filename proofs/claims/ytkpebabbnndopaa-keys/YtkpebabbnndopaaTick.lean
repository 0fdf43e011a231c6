/- Deriving through a function value: Derive itself, or a group's own method, which counts. -/
import Derived.Test.YtkpebabbnndopaaDer
import Derived.Test.YtkpebabbnndopaaPureS
import Derived.WalkKit
import Derived.WalkSpells
import Derived.WalkLawsBesides
import Derived.Deep.OwnRows
import Derived.Laws.CopyOwn
import Derived.Laws.LoneSync
namespace Go.Proofs.Ytkpebabbnndopaa
open Go.RowKit

/-- where a group's block holds the count -/
abbrev ctrOff : Nat := 330
def ctr (k : Nat) : Value := .int .i64 (IntKind.i64.wrap k)

/-- n secrets more were derived: nothing is changed but the count, in the block q (if there is one) -/
structure Tick (q : Option Nat) (n : Nat) (w w' : World) : Prop where
  os : w'.os = w.os
  tape : w'.tape = w.tape
  output : w'.output = w.output
  size : w.heap.size ≤ w'.heap.size
  block : ∀ k, k < w.heap.size → q ≠ some k → w'.heap[k]? = w.heap[k]?
  count : ∀ c, q = some c → ∀ cs t k, w.heap[c]? = some (.cells cs t (0, 0)) → cs[ctrOff]? = some (ctr k) → w'.heap[c]? = some (.cells (cs.setIfInBounds ctrOff (ctr (k + n))) t (0, 0))
/-- the count is there -/
def Has (q : Option Nat) (w : World) : Prop := ∀ c, q = some c → ∃ cs t k, w.heap[c]? = some (.cells cs t (0, 0)) ∧ cs[ctrOff]? = some (ctr k)
theorem Has.lt {q : Option Nat} {w : World} (h : Has q w) {c : Nat} (hc : q = some c) : c < w.heap.size := by
  obtain ⟨cs, t, k, h1, _⟩ := h c hc
  exact (Array.getElem?_eq_some_iff.1 h1).1
theorem Has.ne {q : Option Nat} {w : World} (h : Has q w) {k : Nat} (hk : w.heap.size ≤ k) : q ≠ some k := fun e => by have := h.lt e; omega
theorem has_none (w : World) : Has none w := fun c h => by cases h
theorem set_same (cs : Array Value) (k : Nat) (h : cs[ctrOff]? = some (ctr k)) : cs.setIfInBounds ctrOff (ctr k) = cs := by
  apply Array.ext_getElem?
  intro i
  rw [Array.getElem?_setIfInBounds]
  split
  · rename_i e
    subst e
    split
    · exact h.symm
    · rename_i hn
      rw [Array.getElem?_eq_none (by omega)] at h
      cases h
  · rfl
theorem Tick.ofBelow {q : Option Nat} {w w' : World} (h : Below w.heap.size w w') : Tick q 0 w w' :=
  ⟨h.os, h.tape, h.output, h.size, fun k hk _ => h.block k hk, fun c _ cs t k h1 h2 => by rw [h.block c (Array.getElem?_eq_some_iff.1 h1).1, h1, Nat.add_zero, set_same cs k h2]⟩
theorem Tick.plain {n : Nat} {w w' : World} (h : Below w.heap.size w w') : Tick none n w w' :=
  ⟨h.os, h.tape, h.output, h.size, fun k hk _ => h.block k hk, fun c hc => by cases hc⟩
theorem Tick.toBelow {n : Nat} {w w' : World} (h : Tick none n w w') : Below w.heap.size w w' :=
  ⟨h.os, h.tape, h.output, h.size, fun k hk => h.block k hk (by simp)⟩
theorem Tick.refl (q : Option Nat) (w : World) : Tick q 0 w w := Tick.ofBelow (Below.refl _ _)
theorem Tick.trans {q : Option Nat} {n m : Nat} {a b c : World} (h : Tick q n a b) (k : Tick q m b c) : Tick q (n + m) a c := by
  refine ⟨k.os.trans h.os, k.tape.trans h.tape, k.output.trans h.output, Nat.le_trans h.size k.size, fun i hi hq => (k.block i (Nat.lt_of_lt_of_le hi h.size) hq).trans (h.block i hi hq), fun d hd cs t j h1 h2 => ?_⟩
  have e1 := h.count d hd cs t j h1 h2
  have hlt : ctrOff < cs.size := (Array.getElem?_eq_some_iff.1 h2).1
  have e2 := k.count d hd _ t (j + n) e1 (by rw [Array.getElem?_setIfInBounds, if_pos rfl, if_pos hlt])
  rw [e2, Array.setIfInBounds_setIfInBounds, Nat.add_assoc]
theorem Tick.below {q : Option Nat} {n : Nat} {a b c : World} (h : Tick q n a b) (k : Below b.heap.size b c) : Tick q n a c := h.trans (Tick.ofBelow k)
theorem Tick.drew {q : Option Nat} {n : Nat} {a b : World} (h : Tick q n a b) : Tick q n a b.drew := h.below (Below.refl _ _).drew
theorem Tick.alloc {q : Option Nat} {n : Nat} {a b : World} (h : Tick q n a b) (o : Obj) : Tick q n a (b.alloc o) := h.below ((Below.refl _ _).alloc (Nat.le_refl _) o)
/-- a write into what is new -/
theorem Tick.fresh {q : Option Nat} {n : Nat} {a b c : World} (h : Tick q n a b) (k : Below a.heap.size b c) : Tick q n a c :=
  ⟨k.os.trans h.os, k.tape.trans h.tape, k.output.trans h.output, Nat.le_trans h.size k.size, fun i hi hq => (k.block i hi).trans (h.block i hi hq), fun d hd cs t j h1 h2 => by
    rw [k.block d (Array.getElem?_eq_some_iff.1 h1).1]; exact h.count d hd cs t j h1 h2⟩
theorem Tick.setRow {q : Option Nat} {n : Nat} {a b : World} (h : Tick q n a b) {g : Nat} (hg : a.heap.size ≤ g) (cs : Array Value) : Tick q n a (b.setRow g cs) := h.fresh (below_setRow (Below.refl _ b) hg cs)
theorem Tick.setCell {q : Option Nat} {n : Nat} {a b : World} (h : Tick q n a b) {p : Addr} (hg : a.heap.size ≤ p.block) (v : Value) : Tick q n a (b.setCell p v) := h.fresh ((Below.refl _ b).setCell hg v)
theorem Has.tick {q : Option Nat} {n : Nat} {w w' : World} (h : Has q w) (t : Tick q n w w') : Has q w' := fun c hc => by
  obtain ⟨cs, ty, k, h1, h2⟩ := h c hc
  have hlt : ctrOff < cs.size := (Array.getElem?_eq_some_iff.1 h2).1
  exact ⟨_, ty, k + n, t.count c hc cs ty k h1 h2, by rw [Array.getElem?_setIfInBounds, if_pos rfl, if_pos hlt]⟩
theorem Bts.tick {q : Option Nat} {n : Nat} {w w' : World} {a : Option Addr} {l : List UInt8} (h : Bts w a l) (ht : Tick q n w w') (hn : ∀ b o, a = some ⟨b, o, none⟩ → q ≠ some b) : Bts w' a l := by
  rcases h with h | ⟨b, o, rfl, hc⟩
  · exact .inl h
  · refine .inr ⟨b, o, rfl, fun i hi => ?_⟩
    have hci := hc i hi
    rw [← hci]
    exact World.cell?_of_block (w := w) (ht.block b (block_lt_of_cell hci) (hn b o rfl))

theorem bcellT {q : Option Nat} {n : Nat} {w W w1 : World} (hq : Has q w) (hb : Tick q n W w1) : (∀ b o, b < W.heap.size → w.heap.size ≤ b → w1.cell? ⟨b, o, none⟩ = W.cell? ⟨b, o, none⟩) ∧ (∀ b o, b < W.heap.size → w.heap.size ≤ b → w1.frozen? ⟨b, o, none⟩ = W.frozen? ⟨b, o, none⟩) :=
  ⟨fun b o h hl => World.cell?_of_block (w := W) (a := ⟨b, o, none⟩) (hb.block b h (hq.ne hl)), fun b o h hl => by simp [World.frozen?, hb.block b h (hq.ne hl)]⟩
/-- a function value that derives -/
structure Drv (F : FuncId) (pre : Array Value) (q : Option Nat) : Prop where
  enter : ∀ (args : Array Value) (W : World), (callFunc F args).run Try.prog W = .ok (.enter F args) W
  call : ∀ (s : Nat → Int), (∀ i, 0 ≤ s i ∧ s i < 256) → ∀ (l : ByteArray), l.size ≤ maxLen → ∀ (n : Int) (W : World), Has q W →
    Calls Try.prog F (pre ++ #[Agg8 s, .string l, .int .i64 n]) W fun e w' => e = .returned (Agg8 (DerB s l.data.toList n)) ∧ Tick q 1 W w'
theorem drv_plain : Drv 6 #[] none := ⟨fun args W => by simp [callFunc, go_sem, Try.func6, Try.f6], fun s hs l hl n W _ => (derive_any s hs l hl n W).mono fun _ _ ⟨h1, h2⟩ => ⟨h1, Tick.plain h2⟩⟩
end Go.Proofs.Ytkpebabbnndopaa
