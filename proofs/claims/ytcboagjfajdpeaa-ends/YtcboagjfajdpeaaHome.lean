/- A block that is somebody's home: a struct in the midst of it changes, and the count; the rest stays. -/
import Derived.Test.YtcboagjfajdpeaaTick
import Derived.Test.YtcboagjfajdpeaaOut
import Derived.WalkKit
import Derived.Deep.WholeRow
import Derived.Deep.MidRow
import Derived.Laws.CopyRow
namespace Go.Proofs.Ytcboagjfajdpeaa
open Go.RowKit

/-- the cells l lie in cs from o on -/
def AtL (cs : Array Value) (o : Nat) (l : List Value) : Prop := ∀ j v, l[j]? = some v → cs[o + j]? = some v
theorem AtL.le {cs : Array Value} {o : Nat} {l : List Value} (h : AtL cs o l) (hl : l ≠ []) : o + l.length ≤ cs.size := by
  have hp : 0 < l.length := List.length_pos_iff.2 hl
  have h1 := h (l.length - 1) _ (List.getElem?_eq_getElem (by omega))
  have := (Array.getElem?_eq_some_iff.1 h1).1
  omega
/-- between cs and cs' no cell has changed but those from o on, len of them, and the count, by n -/
structure Mv (q : Option Nat) (n o len : Nat) (cs cs' : Array Value) : Prop where
  size : cs'.size = cs.size
  out : ∀ j, (j < o ∨ o + len ≤ j) → (q ≠ none → j ≠ ctrOff) → cs'[j]? = cs[j]?
  cnt : q ≠ none → ∀ k, cs[ctrOff]? = some (ctr k) → cs'[ctrOff]? = some (ctr (k + n))
theorem Mv.refl (q : Option Nat) (o len : Nat) (cs : Array Value) : Mv q 0 o len cs cs := ⟨rfl, fun _ _ _ => rfl, fun _ _ h => h⟩
theorem Mv.trans {q : Option Nat} {n m o len : Nat} {a b c : Array Value} (h : Mv q n o len a b) (k : Mv q m o len b c) : Mv q (n + m) o len a c :=
  ⟨k.size.trans h.size, fun j h1 h2 => (k.out j h1 h2).trans (h.out j h1 h2), fun hq i hi => by rw [k.cnt hq _ (h.cnt hq i hi), Nat.add_assoc]⟩
theorem Mv.mono {q : Option Nat} {n o len o' len' : Nat} {a b : Array Value} (h : Mv q n o len a b) (h1 : o' ≤ o) (h2 : o + len ≤ o' + len') : Mv q n o' len' a b :=
  ⟨h.size, fun j hj => h.out j (by omega), h.cnt⟩
theorem Mv.ofNone {q : Option Nat} {n o len : Nat} {a b : Array Value} (h : Mv q n o 0 a b) (o' : Nat) : Mv q n o' len a b :=
  ⟨h.size, fun j hj => h.out j (by omega), h.cnt⟩
theorem Mv.set {q : Option Nat} {n o len : Nat} {a b : Array Value} (h : Mv q n o len a b) (hf : q ≠ none → o + len ≤ ctrOff) (j : Nat) (h1 : o ≤ j) (h2 : j < o + len) (v : Value) : Mv q n o len a (b.setIfInBounds j v) :=
  ⟨by rw [Array.size_setIfInBounds]; exact h.size, fun i hi hq => by rw [Array.getElem?_setIfInBounds, if_neg (by omega)]; exact h.out i hi hq, fun hq k hk => by
    have := hf hq
    rw [Array.getElem?_setIfInBounds, if_neg (by omega)]; exact h.cnt hq k hk⟩
theorem Mv.at {q : Option Nat} {n o len : Nat} {a b : Array Value} (h : Mv q n o len a b) {p : Nat} {l : List Value} (hl : AtL a p l) (h1 : p + l.length ≤ o ∨ o + len ≤ p) (h2 : q ≠ none → p + l.length ≤ ctrOff ∨ ctrOff < p) : AtL b p l := fun j v hv => by
  have hj := (List.getElem?_eq_some_iff.1 hv).1
  rw [h.out _ (by omega) (fun hq => by have := h2 hq; omega)]
  exact hl j v hv
/-- the block b is the home: the count, if there is one, lies in it -/
structure Home (q : Option Nat) (b : Nat) (t : TypeId) (cs : Array Value) (w : World) : Prop where
  row : w.heap[b]? = some (.cells cs t (0, 0))
  here : q = none ∨ q = some b
  cnt : q ≠ none → ∃ k, cs[ctrOff]? = some (ctr k)
theorem Home.has {q : Option Nat} {b : Nat} {t : TypeId} {cs : Array Value} {w : World} (h : Home q b t cs w) : Has q w := fun c hc => by
  obtain ⟨k, hk⟩ := h.cnt (by rw [hc]; simp)
  rcases h.here with e | e
  · rw [e] at hc; cases hc
  · rw [e] at hc; cases hc
    exact ⟨cs, t, k, h.row, hk⟩
theorem Home.lt {q : Option Nat} {b : Nat} {t : TypeId} {cs : Array Value} {w : World} (h : Home q b t cs w) : b < w.heap.size := (Array.getElem?_eq_some_iff.1 h.row).1
theorem Home.ne {q : Option Nat} {b : Nat} {t : TypeId} {cs : Array Value} {w : World} (h : Home q b t cs w) {k : Nat} (hk : k ≠ b) : q ≠ some k := fun e => by
  rcases h.here with e' | e'
  · rw [e'] at e; cases e
  · rw [e'] at e; cases e; exact hk rfl
/-- the home has changed from cs to cs' -/
structure Upd (q : Option Nat) (n b o len : Nat) (t : TypeId) (cs : Array Value) (w w' : World) (cs' : Array Value) : Prop where
  out : Outside [b] w w'
  home : Home q b t cs' w'
  mv : Mv q n o len cs cs'
theorem Upd.refl {q : Option Nat} {b : Nat} {t : TypeId} {cs : Array Value} {w : World} (h : Home q b t cs w) (o len : Nat) : Upd q 0 b o len t cs w w cs := ⟨Outside.refl _ _, h, Mv.refl _ _ _ _⟩
theorem Upd.trans {q : Option Nat} {n m b o len : Nat} {t : TypeId} {cs cs' cs'' : Array Value} {w w' w'' : World} (h : Upd q n b o len t cs w w' cs') (k : Upd q m b o len t cs' w' w'' cs'') : Upd q (n + m) b o len t cs w w'' cs'' :=
  ⟨h.out.trans k.out (fun _ hi _ => hi), k.home, h.mv.trans k.mv⟩
theorem Upd.mono {q : Option Nat} {n b o len o' len' : Nat} {t : TypeId} {cs cs' : Array Value} {w w' : World} (h : Upd q n b o len t cs w w' cs') (h1 : o' ≤ o) (h2 : o + len ≤ o' + len') : Upd q n b o' len' t cs w w' cs' := ⟨h.out, h.home, h.mv.mono h1 h2⟩
theorem Home.below {q : Option Nat} {b : Nat} {t : TypeId} {cs : Array Value} {w w' : World} (h : Home q b t cs w) (hb : Below w.heap.size w w') : Home q b t cs w' := ⟨by rw [hb.block _ h.lt]; exact h.row, h.here, h.cnt⟩
theorem Upd.below {q : Option Nat} {n b o len : Nat} {t : TypeId} {cs cs' : Array Value} {w w' w'' : World} (h : Upd q n b o len t cs w w' cs') (k : Below w'.heap.size w' w'') : Upd q n b o len t cs w w'' cs' := ⟨h.out.below k, h.home.below k, h.mv⟩
/-- a write into what is new behind w, b apart -/
theorem Upd.fresh {q : Option Nat} {n b o len : Nat} {t : TypeId} {cs cs' : Array Value} {w w' : World} (h : Upd q n b o len t cs w w' cs') (hb : b < w.heap.size) {g : Nat} (hg : w.heap.size ≤ g) (r : Array Value) : Upd q n b o len t cs w (w'.setRow g r) cs' :=
  ⟨h.out.setRow g (fun hl => by omega) r, ⟨by rw [setRow_other _ _ _ _ (by omega)]; exact h.home.row, h.home.here, h.home.cnt⟩, h.mv⟩
theorem Home.tick {q : Option Nat} {n b : Nat} {t : TypeId} {cs : Array Value} {w w' : World} (h : Home q b t cs w) (ht : Tick q n w w') : ∃ cs', Upd q n b 0 0 t cs w w' cs' := by
  rcases h.here with e | e
  · subst e
    exact ⟨cs, Outside.ofBelow ht.toBelow, h.below ht.toBelow, rfl, fun _ _ _ => rfl, fun hq => absurd rfl hq⟩
  · obtain ⟨k, hk⟩ := h.cnt (by rw [e]; simp)
    have hlt : ctrOff < cs.size := (Array.getElem?_eq_some_iff.1 hk).1
    have hr := ht.count b e cs t k h.row hk
    have hc : (cs.setIfInBounds ctrOff (ctr (k + n)))[ctrOff]? = some (ctr (k + n)) := by rw [Array.getElem?_setIfInBounds, if_pos rfl, if_pos hlt]
    refine ⟨_, ⟨ht.os, ht.tape, ht.output, ht.size, fun i hi hn => ht.block i hi (fun e' => hn (by rw [e] at e'; cases e'; exact List.mem_cons_self))⟩, ⟨hr, h.here, fun _ => ⟨_, hc⟩⟩, by rw [Array.size_setIfInBounds], fun j _ hj => ?_, fun _ k' hk' => ?_⟩
    · have := hj (by rw [e]; simp)
      rw [Array.getElem?_setIfInBounds, if_neg (by omega)]
    · rw [hk] at hk'
      rw [hc]
      unfold ctr at hk' ⊢
      simp only [Option.some.injEq, Value.int.injEq, true_and, IntKind.wrap_i64] at hk' ⊢
      push_cast
      omega
theorem Upd.tick {q : Option Nat} {n m b o len : Nat} {t : TypeId} {cs cs' : Array Value} {w w' w'' : World} (h : Upd q n b o len t cs w w' cs') (ht : Tick q m w' w'') : ∃ cs'', Upd q (n + m) b o len t cs w w'' cs'' ∧ Mv q m 0 0 cs' cs'' := by
  obtain ⟨cs'', k⟩ := h.home.tick ht
  exact ⟨cs'', h.trans ⟨k.out, k.home, k.mv.ofNone o⟩, k.mv⟩
theorem Upd.setRow {q : Option Nat} {n b o len : Nat} {t : TypeId} {cs cs' cs'' : Array Value} {w w' : World} (h : Upd q n b o len t cs w w' cs') (hm : Mv q 0 o len cs' cs'') : Upd q n b o len t cs w (w'.setRow b cs'') cs'' :=
  ⟨h.out.setRow b (fun _ => List.mem_cons_self) _, ⟨setRow_heap _ _ _ _ _ _ h.home.row, h.home.here, fun hq => by obtain ⟨k, hk⟩ := h.home.cnt hq; exact ⟨k, hm.cnt hq k hk⟩⟩, h.mv.trans hm⟩
theorem Upd.setCell {q : Option Nat} {n b o len : Nat} {t : TypeId} {cs cs' : Array Value} {w w' : World} (h : Upd q n b o len t cs w w' cs') (hf : q ≠ none → o + len ≤ ctrOff) (j : Nat) (h1 : o ≤ j) (h2 : j < o + len) (v : Value) : Upd q n b o len t cs w (w'.setCell ⟨b, j, none⟩ v) (cs'.setIfInBounds j v) := by
  rw [setCell_eq_setRow w' b j cs' t (0, 0) v h.home.row]
  exact h.setRow ((Mv.refl q o len cs').set hf j h1 h2 v)
theorem Home.cells {q : Option Nat} {b : Nat} {t : TypeId} {cs : Array Value} {w : World} (h : Home q b t cs w) : (∀ j, w.cell? ⟨b, j, none⟩ = cs[j]?) ∧ ∀ j, w.frozen? ⟨b, j, none⟩ = false :=
  ⟨fun j => cell_of_row _ _ _ _ _ _ h.row, fun j => by simp [World.frozen?, h.row]⟩
theorem Home.range {q : Option Nat} {b : Nat} {t : TypeId} {cs : Array Value} {w : World} (h : Home q b t cs w) {o : Nat} {l : List Value} (hl : AtL cs o l) : w.rangeAt b o l := fun j v hv => by rw [h.cells.1, hl j v hv]
theorem Home.there {q : Option Nat} {b : Nat} {t : TypeId} {cs : Array Value} {w : World} (h : Home q b t cs w) {o n : Nat} (hl : o + n ≤ cs.size) : w.there b o n := fun j hj => by
  rw [h.cells.1, Array.getElem?_eq_getElem (by omega)]
  exact ⟨rfl, h.cells.2 _⟩
/-- cells in a row, one after the other -/
def putL (cs : Array Value) (o : Nat) : List Value → Array Value
  | [] => cs
  | v :: r => putL (cs.setIfInBounds o v) (o + 1) r
theorem putL_size : ∀ (l : List Value) (cs : Array Value) (o : Nat), (putL cs o l).size = cs.size
  | [], _, _ => rfl
  | v :: r, cs, o => by rw [putL, putL_size r, Array.size_setIfInBounds]
theorem putL_out : ∀ (l : List Value) (cs : Array Value) (o j : Nat), (j < o ∨ o + l.length ≤ j) → (putL cs o l)[j]? = cs[j]?
  | [], _, _, _, _ => rfl
  | v :: r, cs, o, j, h => by
    have hl : (v :: r).length = r.length + 1 := rfl
    rw [hl] at h
    rw [putL, putL_out r _ _ j (by omega), Array.getElem?_setIfInBounds, if_neg (by omega)]
theorem putL_at : ∀ (l : List Value) (cs : Array Value) (o : Nat), o + l.length ≤ cs.size → AtL (putL cs o l) o l
  | [], _, _, _ => fun j v hv => by simp at hv
  | v :: r, cs, o, h => fun j u hu => by
    have hl : (v :: r).length = r.length + 1 := rfl
    rw [hl] at h
    cases j with
    | zero =>
      rw [putL, putL_out r _ _ _ (by omega), Nat.add_zero, Array.getElem?_setIfInBounds, if_pos rfl, if_pos (by omega)]
      exact hu
    | succ j =>
      have := putL_at r (cs.setIfInBounds o v) (o + 1) (by rw [Array.size_setIfInBounds]; omega) j u (by simpa using hu)
      rw [putL]
      rw [show o + (j + 1) = o + 1 + j by omega]
      exact this
theorem Mv.putL {q : Option Nat} {n o len : Nat} {a b : Array Value} (h : Mv q n o len a b) (hf : q ≠ none → o + len ≤ ctrOff) (p : Nat) (l : List Value) (h1 : o ≤ p) (h2 : p + l.length ≤ o + len) : Mv q n o len a (putL b p l) :=
  ⟨by rw [putL_size]; exact h.size, fun j hj hq => by rw [putL_out _ _ _ _ (by omega)]; exact h.out j hj hq, fun hq k hk => by
    have := hf hq
    rw [putL_out _ _ _ _ (by omega)]; exact h.cnt hq k hk⟩
theorem setCells_row : ∀ (l : List Value) (w : World) (b o : Nat) (cs : Array Value) (t : TypeId), w.heap[b]? = some (.cells cs t (0, 0)) → w.setCells b o l = w.setRow b (putL cs o l)
  | [], w, b, o, cs, t, h => by
    show w = w.setRow b cs
    have e := setRow_self w b cs t (0, 0) h
    exact e.symm
  | v :: r, w, b, o, cs, t, h => by
    rw [World.setCells, putL]
    have h1 := setCell_eq_setRow w b o cs t (0, 0) v h
    rw [setCells_row r _ b (o + 1) (cs.setIfInBounds o v) t (by rw [h1]; exact setRow_heap _ _ _ _ _ _ h), h1, setRow_setRow]
theorem Upd.setCells {q : Option Nat} {n b o len : Nat} {t : TypeId} {cs cs' : Array Value} {w w' : World} (h : Upd q n b o len t cs w w' cs') (hf : q ≠ none → o + len ≤ ctrOff) (p : Nat) (l : List Value) (h1 : o ≤ p) (h2 : p + l.length ≤ o + len) : Upd q n b o len t cs w (w'.setCells b p l) (putL cs' p l) := by
  rw [setCells_row l w' b p cs' t h.home.row]
  exact h.setRow ((Mv.refl q o len cs').putL hf p l h1 h2)
theorem Home.drew {q : Option Nat} {b : Nat} {t : TypeId} {cs : Array Value} {w : World} (h : Home q b t cs w) : Home q b t cs w.drew := h.below (Below.refl _ _).drew
/-- where the call of a deriver was, in a region that draws -/
theorem Home.derived {q : Option Nat} {n b : Nat} {t : TypeId} {cs : Array Value} {w w' : World} (h : Home q b t cs w) (ht : Tick q n w.drew w') (o len : Nat) : ∃ cs', Upd q n b o len t cs w w' cs' ∧ Mv q n 0 0 cs cs' := by
  obtain ⟨cs', k⟩ := h.drew.tick ht
  exact ⟨cs', ⟨((Outside.refl _ w).drew).trans k.out (fun _ hi _ => hi), k.home, k.mv.ofNone o⟩, k.mv⟩
/-- an array of cells of which a stretch is overwritten, piece by piece -/
theorem AtL.put {cs : Array Value} {o : Nat} {l : List Value} (h : AtL cs o l) (p : Nat) (m : List Value) (hp : o ≤ p) (hm : p + m.length ≤ o + l.length) : AtL (putL cs p m) o (l.take (p - o) ++ m ++ l.drop (p - o + m.length)) := fun j v hv => by
  have hpo : (l.take (p - o)).length = p - o := by rw [List.length_take]; omega
  by_cases h1 : j < p - o
  · rw [putL_out _ _ _ _ (by omega)]
    rw [List.append_assoc, List.getElem?_append_left (by omega), List.getElem?_take_of_lt h1] at hv
    exact h j v hv
  · by_cases h2 : j < p - o + m.length
    · rw [List.append_assoc, List.getElem?_append_right (by omega), List.getElem?_append_left (by omega), hpo] at hv
      have hle : p + m.length ≤ cs.size := by
        have := h.le (fun e => by rw [e] at hm; simp at hm; omega)
        omega
      have := putL_at m cs p hle _ v hv
      rwa [show p + (j - (p - o)) = o + j by omega] at this
    · rw [putL_out _ _ _ _ (by omega)]
      rw [List.getElem?_append_right (by rw [List.length_append, hpo]; omega), List.length_append, hpo, List.getElem?_drop, show p - o + m.length + (j - (p - o + m.length)) = j by omega] at hv
      exact h j v hv
end Go.Proofs.Ytcboagjfajdpeaa
