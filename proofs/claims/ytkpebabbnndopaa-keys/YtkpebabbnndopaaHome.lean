/- A block that is somebody's home: a struct in the midst of it changes, and the count; the rest stays. -/
import Derived.Test.YtkpebabbnndopaaTick
import Derived.Test.YtkpebabbnndopaaOut
import Derived.WalkKit
import Derived.Deep.WholeRow
import Derived.Deep.MidRow
import Derived.Laws.CopyRow
namespace Go.Proofs.Ytkpebabbnndopaa
open Go.RowKit

/-- the cells l lie in cs from o on -/
def AtL (cs : Array Value) (o : Nat) (l : List Value) : Prop := ∀ j v, l[j]? = some v → cs[o + j]? = some v
theorem AtL.le {cs : Array Value} {o : Nat} {l : List Value} (h : AtL cs o l) (hl : l ≠ []) : o + l.length ≤ cs.size := by
  have hp : 0 < l.length := List.length_pos_iff.2 hl
  have h1 := h (l.length - 1) _ (List.getElem?_eq_getElem (by omega))
  have := (Array.getElem?_eq_some_iff.1 h1).1
  omega
/-- each is one cell -/
def Ones (cs : Array Value) : Prop := ∀ (j : Nat) (v : Value), cs[j]? = some v → v.oneCell' = true
theorem Ones.set {cs : Array Value} (h : Ones cs) (j : Nat) (v : Value) (hv : v.oneCell' = true) : Ones (cs.setIfInBounds j v) := fun i u hu => by
  rw [Array.getElem?_setIfInBounds] at hu
  split at hu
  · split at hu
    · cases hu; exact hv
    · cases hu
  · exact h i u hu
/-- between cs and cs' no cell has changed but those from o on, len of them, and the count, by n -/
structure Mv (q : Option Nat) (n o len : Nat) (cs cs' : Array Value) : Prop where
  size : cs'.size = cs.size
  out : ∀ j, (j < o ∨ o + len ≤ j) → (q ≠ none → j ≠ ctrOff) → cs'[j]? = cs[j]?
  cnt : q ≠ none → ∀ k, cs[ctrOff]? = some (ctr k) → cs'[ctrOff]? = some (ctr (k + n))
  one : Ones cs → Ones cs'
theorem Mv.refl (q : Option Nat) (o len : Nat) (cs : Array Value) : Mv q 0 o len cs cs := ⟨rfl, fun _ _ _ => rfl, fun _ _ h => h, fun h => h⟩
theorem Mv.trans {q : Option Nat} {n m o len : Nat} {a b c : Array Value} (h : Mv q n o len a b) (k : Mv q m o len b c) : Mv q (n + m) o len a c :=
  ⟨k.size.trans h.size, fun j h1 h2 => (k.out j h1 h2).trans (h.out j h1 h2), fun hq i hi => by rw [k.cnt hq _ (h.cnt hq i hi), Nat.add_assoc], fun h0 => k.one (h.one h0)⟩
theorem Mv.mono {q : Option Nat} {n o len o' len' : Nat} {a b : Array Value} (h : Mv q n o len a b) (h1 : o' ≤ o) (h2 : o + len ≤ o' + len') : Mv q n o' len' a b :=
  ⟨h.size, fun j hj => h.out j (by omega), h.cnt, h.one⟩
theorem Mv.ofNone {q : Option Nat} {n o len : Nat} {a b : Array Value} (h : Mv q n o 0 a b) (o' : Nat) : Mv q n o' len a b :=
  ⟨h.size, fun j hj => h.out j (by omega), h.cnt, h.one⟩
theorem Mv.set {q : Option Nat} {n o len : Nat} {a b : Array Value} (h : Mv q n o len a b) (hf : q ≠ none → o + len ≤ ctrOff) (j : Nat) (h1 : o ≤ j) (h2 : j < o + len) (v : Value) (hv : v.oneCell' = true := by rfl) : Mv q n o len a (b.setIfInBounds j v) :=
  ⟨by rw [Array.size_setIfInBounds]; exact h.size, fun i hi hq => by rw [Array.getElem?_setIfInBounds, if_neg (by omega)]; exact h.out i hi hq, fun hq k hk => by
    have := hf hq
    rw [Array.getElem?_setIfInBounds, if_neg (by omega)]; exact h.cnt hq k hk, fun h0 => (h.one h0).set j v hv⟩
theorem Mv.at {q : Option Nat} {n o len : Nat} {a b : Array Value} (h : Mv q n o len a b) {p : Nat} {l : List Value} (hl : AtL a p l) (h1 : p + l.length ≤ o ∨ o + len ≤ p) (h2 : q ≠ none → p + l.length ≤ ctrOff ∨ ctrOff < p) : AtL b p l := fun j v hv => by
  have hj := (List.getElem?_eq_some_iff.1 hv).1
  rw [h.out _ (by omega) (fun hq => by have := h2 hq; omega)]
  exact hl j v hv
/-- the block b is the home: the count, if there is one, lies in it, or in another block -/
structure Home (q : Option Nat) (b : Nat) (t : TypeId) (cs : Array Value) (w : World) : Prop where
  row : w.heap[b]? = some (.cells cs t (0, 0))
  here : q = none ∨ q = some b ∨ cs.size ≤ ctrOff
  has : Has q w
theorem Home.cnt {b : Nat} {t : TypeId} {cs : Array Value} {w : World} (h : Home (some b) b t cs w) : ∃ k, cs[ctrOff]? = some (ctr k) := by
  obtain ⟨cs', t', k, h1, h2⟩ := h.has b rfl
  rw [h.row] at h1
  cases h1
  exact ⟨k, h2⟩
theorem Home.own {b : Nat} {t : TypeId} {cs : Array Value} {w : World} (h : w.heap[b]? = some (.cells cs t (0, 0))) (hc : ∃ k, cs[ctrOff]? = some (ctr k)) : Home (some b) b t cs w :=
  ⟨h, .inr (.inl rfl), fun c e => by cases e; obtain ⟨k, hk⟩ := hc; exact ⟨cs, t, k, h, hk⟩⟩
theorem Home.bare {b : Nat} {t : TypeId} {cs : Array Value} {w : World} (h : w.heap[b]? = some (.cells cs t (0, 0))) : Home Option.none b t cs w := ⟨h, .inl rfl, has_none w⟩
theorem Home.lt {q : Option Nat} {b : Nat} {t : TypeId} {cs : Array Value} {w : World} (h : Home q b t cs w) : b < w.heap.size := (Array.getElem?_eq_some_iff.1 h.row).1
/-- the count, where it lies in another block than b -/
def TickOut (q : Option Nat) (n b : Nat) (w w' : World) : Prop := ∀ c, q = some c → c ≠ b → ∀ cs t k, w.heap[c]? = some (.cells cs t (0, 0)) → cs[ctrOff]? = some (ctr k) → w'.heap[c]? = some (.cells (cs.setIfInBounds ctrOff (ctr (k + n))) t (0, 0))
theorem TickOut.below {q : Option Nat} {n b : Nat} {w w' w'' : World} (h : TickOut q n b w w') (k : Below w'.heap.size w' w'') : TickOut q n b w w'' := fun c hc hn cs t j h1 h2 => by
  have := h c hc hn cs t j h1 h2
  rw [k.block _ (Array.getElem?_eq_some_iff.1 this).1]
  exact this
theorem TickOut.trans {q : Option Nat} {n m b : Nat} {w w' w'' : World} (h : TickOut q n b w w') (k : TickOut q m b w' w'') : TickOut q (n + m) b w w'' := fun c hc hn cs t j h1 h2 => by
  have e1 := h c hc hn cs t j h1 h2
  have hlt : ctrOff < cs.size := (Array.getElem?_eq_some_iff.1 h2).1
  have e2 := k c hc hn _ t (j + n) e1 (by rw [Array.getElem?_setIfInBounds, if_pos rfl, if_pos hlt])
  rw [e2, Array.setIfInBounds_setIfInBounds, Nat.add_assoc]
theorem TickOut.setRow {q : Option Nat} {n b : Nat} {w w' : World} (h : TickOut q n b w w') (r : Array Value) : TickOut q n b w (w'.setRow b r) := fun c hc hn cs t j h1 h2 => by
  rw [setRow_other _ _ _ _ hn]; exact h c hc hn cs t j h1 h2
theorem Has.setRow {q : Option Nat} {w : World} (h : Has q w) {b : Nat} (r : Array Value) (t : TypeId) (cs : Array Value) (hb : w.heap[b]? = some (.cells cs t (0, 0))) (hr : q = some b → ∃ k, r[ctrOff]? = some (ctr k)) : Has q (w.setRow b r) := fun c hc => by
  by_cases e : c = b
  · subst e
    obtain ⟨k, hk⟩ := hr hc
    exact ⟨r, t, k, setRow_heap _ _ _ _ _ _ hb, hk⟩
  · obtain ⟨cs', t', k, h1, h2⟩ := h c hc
    exact ⟨cs', t', k, by rw [setRow_other _ _ _ _ e]; exact h1, h2⟩
/-- the home has changed from cs to cs' -/
structure Upd (q : Option Nat) (n b o len : Nat) (t : TypeId) (cs : Array Value) (w w' : World) (cs' : Array Value) : Prop where
  outq : Outside (b :: q.toList) w w'
  home : Home q b t cs' w'
  mv : Mv q n o len cs cs'
  tk : TickOut q n b w w'
theorem Upd.out {n b o len : Nat} {t : TypeId} {cs cs' : Array Value} {w w' : World} (h : Upd (some b) n b o len t cs w w' cs') : Outside [b] w w' := h.outq.mono (fun i hi _ => by simpa using hi)
theorem Upd.outn {n b o len : Nat} {t : TypeId} {cs cs' : Array Value} {w w' : World} (h : Upd none n b o len t cs w w' cs') : Outside [b] w w' := h.outq
theorem Upd.refl {q : Option Nat} {b : Nat} {t : TypeId} {cs : Array Value} {w : World} (h : Home q b t cs w) (o len : Nat) : Upd q 0 b o len t cs w w cs := ⟨Outside.refl _ _, h, Mv.refl _ _ _ _, fun c _ _ cs t k h1 h2 => by rw [h1, Nat.add_zero, set_same cs k h2]⟩
theorem Upd.trans {q : Option Nat} {n m b o len : Nat} {t : TypeId} {cs cs' cs'' : Array Value} {w w' w'' : World} (h : Upd q n b o len t cs w w' cs') (k : Upd q m b o len t cs' w' w'' cs'') : Upd q (n + m) b o len t cs w w'' cs'' :=
  ⟨h.outq.trans k.outq (fun _ hi _ => hi), k.home, h.mv.trans k.mv, h.tk.trans k.tk⟩
theorem Upd.mono {q : Option Nat} {n b o len o' len' : Nat} {t : TypeId} {cs cs' : Array Value} {w w' : World} (h : Upd q n b o len t cs w w' cs') (h1 : o' ≤ o) (h2 : o + len ≤ o' + len') : Upd q n b o' len' t cs w w' cs' := ⟨h.outq, h.home, h.mv.mono h1 h2, h.tk⟩
theorem Has.below {q : Option Nat} {w w' : World} (h : Has q w) (hb : Below w.heap.size w w') : Has q w' := h.tick (Tick.ofBelow hb)
theorem Home.below {q : Option Nat} {b : Nat} {t : TypeId} {cs : Array Value} {w w' : World} (h : Home q b t cs w) (hb : Below w.heap.size w w') : Home q b t cs w' := ⟨by rw [hb.block _ h.lt]; exact h.row, h.here, h.has.below hb⟩
theorem Upd.below {q : Option Nat} {n b o len : Nat} {t : TypeId} {cs cs' : Array Value} {w w' w'' : World} (h : Upd q n b o len t cs w w' cs') (k : Below w'.heap.size w' w'') : Upd q n b o len t cs w w'' cs' := ⟨h.outq.below k, h.home.below k, h.mv, h.tk.below k⟩
/-- a write into what is new behind w, b apart -/
theorem Upd.fresh {q : Option Nat} {n b o len : Nat} {t : TypeId} {cs cs' : Array Value} {w w' : World} (h : Upd q n b o len t cs w w' cs') (hb : b < w.heap.size) (hq : Has q w) {g : Nat} (hg : w.heap.size ≤ g) (r : Array Value) : Upd q n b o len t cs w (w'.setRow g r) cs' := by
  have hne : ∀ c, q = some c → c ≠ g := fun c hc => by have := hq.lt hc; omega
  refine ⟨h.outq.setRow g (fun hl => by omega) r, ⟨by rw [setRow_other _ _ _ _ (by omega)]; exact h.home.row, h.home.here, fun c hc => ?_⟩, h.mv, fun c hc hn cs t j h1 h2 => ?_⟩
  · obtain ⟨cs, t, k, h1, h2⟩ := h.home.has c hc
    exact ⟨cs, t, k, by rw [setRow_other _ _ _ _ (hne c hc)]; exact h1, h2⟩
  · rw [setRow_other _ _ _ _ (hne c hc)]; exact h.tk c hc hn cs t j h1 h2
theorem Home.tick {q : Option Nat} {n b : Nat} {t : TypeId} {cs : Array Value} {w w' : World} (h : Home q b t cs w) (ht : Tick q n w w') : ∃ cs', Upd q n b 0 0 t cs w w' cs' := by
  have hO : Outside (b :: q.toList) w w' := ⟨ht.os, ht.tape, ht.output, ht.size, fun i hi hn => ht.block i hi (fun e' => hn (by rw [e']; simp))⟩
  have hK : TickOut q n b w w' := fun c hc _ cs t k h1 h2 => ht.count c hc cs t k h1 h2
  by_cases hqb : q = some b
  · subst hqb
    obtain ⟨k, hk⟩ := h.cnt
    have hlt : ctrOff < cs.size := (Array.getElem?_eq_some_iff.1 hk).1
    have hr := ht.count b rfl cs t k h.row hk
    have hc : (cs.setIfInBounds ctrOff (ctr (k + n)))[ctrOff]? = some (ctr (k + n)) := by rw [Array.getElem?_setIfInBounds, if_pos rfl, if_pos hlt]
    refine ⟨_, hO, ⟨hr, .inr (.inl rfl), h.has.tick ht⟩, ⟨by rw [Array.size_setIfInBounds], fun j _ hj => ?_, fun _ k' hk' => ?_, fun h0 => h0.set _ _ rfl⟩, hK⟩
    · have := hj (by simp)
      rw [Array.getElem?_setIfInBounds, if_neg (by omega)]
    · rw [hk] at hk'
      rw [hc]
      unfold ctr at hk' ⊢
      simp only [Option.some.injEq, Value.int.injEq, true_and, IntKind.wrap_i64] at hk' ⊢
      push_cast
      omega
  · refine ⟨cs, hO, ⟨by rw [ht.block b h.lt hqb]; exact h.row, h.here, h.has.tick ht⟩, ⟨rfl, fun _ _ _ => rfl, fun hq k hk => ?_, fun h0 => h0⟩, hK⟩
    rcases h.here with e | e | e
    · exact absurd e hq
    · exact absurd e hqb
    · rw [Array.getElem?_eq_none (by omega)] at hk; cases hk
theorem Upd.tick {q : Option Nat} {n m b o len : Nat} {t : TypeId} {cs cs' : Array Value} {w w' w'' : World} (h : Upd q n b o len t cs w w' cs') (ht : Tick q m w' w'') : ∃ cs'', Upd q (n + m) b o len t cs w w'' cs'' ∧ Mv q m 0 0 cs' cs'' := by
  obtain ⟨cs'', k⟩ := h.home.tick ht
  exact ⟨cs'', h.trans ⟨k.outq, k.home, k.mv.ofNone o, k.tk⟩, k.mv⟩
theorem Home.setRow {q : Option Nat} {b o len : Nat} {t : TypeId} {cs' cs'' : Array Value} {w' : World} (h : Home q b t cs' w') (hm : Mv q 0 o len cs' cs'') : Home q b t cs'' (w'.setRow b cs'') := by
  refine ⟨setRow_heap _ _ _ _ _ _ h.row, ?_, h.has.setRow _ _ _ h.row fun e => ?_⟩
  · rcases h.here with e | e | e
    · exact .inl e
    · exact .inr (.inl e)
    · exact .inr (.inr (by rw [hm.size]; exact e))
  · subst e
    obtain ⟨k, hk⟩ := h.cnt
    exact ⟨k, hm.cnt (by simp) k hk⟩
theorem Upd.setRow {q : Option Nat} {n b o len : Nat} {t : TypeId} {cs cs' cs'' : Array Value} {w w' : World} (h : Upd q n b o len t cs w w' cs') (hm : Mv q 0 o len cs' cs'') : Upd q n b o len t cs w (w'.setRow b cs'') cs'' :=
  ⟨h.outq.setRow b (fun _ => List.mem_cons_self) _, h.home.setRow hm, h.mv.trans hm, h.tk.setRow _⟩
theorem Upd.setCell {q : Option Nat} {n b o len : Nat} {t : TypeId} {cs cs' : Array Value} {w w' : World} (h : Upd q n b o len t cs w w' cs') (hf : q ≠ none → o + len ≤ ctrOff) (j : Nat) (h1 : o ≤ j) (h2 : j < o + len) (v : Value) (hv : v.oneCell' = true := by rfl) : Upd q n b o len t cs w (w'.setCell ⟨b, j, none⟩ v) (cs'.setIfInBounds j v) := by
  rw [setCell_eq_setRow w' b j cs' t (0, 0) v h.home.row]
  exact h.setRow ((Mv.refl q o len cs').set hf j h1 h2 v hv)
theorem Home.cells {q : Option Nat} {b : Nat} {t : TypeId} {cs : Array Value} {w : World} (h : Home q b t cs w) : (∀ j, w.cell? ⟨b, j, none⟩ = cs[j]?) ∧ ∀ j, w.frozen? ⟨b, j, none⟩ = false :=
  ⟨fun j => cell_of_row _ _ _ _ _ _ h.row, fun j => by simp [World.frozen?, h.row]⟩
theorem Home.range {q : Option Nat} {b : Nat} {t : TypeId} {cs : Array Value} {w : World} (h : Home q b t cs w) {o : Nat} {l : List Value} (hl : AtL cs o l) : w.rangeAt b o l := fun j v hv => by rw [h.cells.1, hl j v hv]
theorem Home.there {q : Option Nat} {b : Nat} {t : TypeId} {cs : Array Value} {w : World} (h : Home q b t cs w) {o n : Nat} (hl : o + n ≤ cs.size) : w.there b o n := fun j hj => by
  rw [h.cells.1, Array.getElem?_eq_getElem (by omega)]
  exact ⟨rfl, h.cells.2 _⟩
/-- cells in a row, one after the other -/
def putL (cs : Array Value) (o : Nat) : List Value → Array Value
  | [] => cs
  | v :: r => putL (cs.setIfInBounds o v) (o + 1) r
theorem putL_size : ∀ (l : List Value) (cs : Array Value) (o : Nat), (putL cs o l).size = cs.size
  | [], _, _ => rfl
  | v :: r, cs, o => by rw [putL, putL_size r, Array.size_setIfInBounds]
theorem putL_out : ∀ (l : List Value) (cs : Array Value) (o j : Nat), (j < o ∨ o + l.length ≤ j) → (putL cs o l)[j]? = cs[j]?
  | [], _, _, _, _ => rfl
  | v :: r, cs, o, j, h => by
    have hl : (v :: r).length = r.length + 1 := rfl
    rw [hl] at h
    rw [putL, putL_out r _ _ j (by omega), Array.getElem?_setIfInBounds, if_neg (by omega)]
theorem putL_at : ∀ (l : List Value) (cs : Array Value) (o : Nat), o + l.length ≤ cs.size → AtL (putL cs o l) o l
  | [], _, _, _ => fun j v hv => by simp at hv
  | v :: r, cs, o, h => fun j u hu => by
    have hl : (v :: r).length = r.length + 1 := rfl
    rw [hl] at h
    cases j with
    | zero =>
      rw [putL, putL_out r _ _ _ (by omega), Nat.add_zero, Array.getElem?_setIfInBounds, if_pos rfl, if_pos (by omega)]
      exact hu
    | succ j =>
      have := putL_at r (cs.setIfInBounds o v) (o + 1) (by rw [Array.size_setIfInBounds]; omega) j u (by simpa using hu)
      rw [putL]
      rw [show o + (j + 1) = o + 1 + j by omega]
      exact this
theorem Ones.putL : ∀ (l : List Value) {cs : Array Value} (o : Nat), Ones cs → l.all (·.oneCell') = true → Ones (putL cs o l)
  | [], _, _, h, _ => h
  | v :: r, _, o, h, hl => by
    rw [List.all_cons, Bool.and_eq_true] at hl
    exact Ones.putL r (o + 1) (h.set o v hl.1) hl.2
theorem Mv.putL {q : Option Nat} {n o len : Nat} {a b : Array Value} (h : Mv q n o len a b) (hf : q ≠ none → o + len ≤ ctrOff) (p : Nat) (l : List Value) (h1 : o ≤ p) (h2 : p + l.length ≤ o + len) (hl : l.all (·.oneCell') = true := by rfl) : Mv q n o len a (Go.Proofs.Ytkpebabbnndopaa.putL b p l) :=
  ⟨by rw [putL_size]; exact h.size, fun j hj hq => by rw [putL_out _ _ _ _ (by omega)]; exact h.out j hj hq, fun hq k hk => by
    have := hf hq
    rw [putL_out _ _ _ _ (by omega)]; exact h.cnt hq k hk, fun h0 => Ones.putL l p (h.one h0) hl⟩
theorem setCells_row : ∀ (l : List Value) (w : World) (b o : Nat) (cs : Array Value) (t : TypeId), w.heap[b]? = some (.cells cs t (0, 0)) → w.setCells b o l = w.setRow b (putL cs o l)
  | [], w, b, o, cs, t, h => by
    show w = w.setRow b cs
    have e := setRow_self w b cs t (0, 0) h
    exact e.symm
  | v :: r, w, b, o, cs, t, h => by
    rw [World.setCells, putL]
    have h1 := setCell_eq_setRow w b o cs t (0, 0) v h
    rw [setCells_row r _ b (o + 1) (cs.setIfInBounds o v) t (by rw [h1]; exact setRow_heap _ _ _ _ _ _ h), h1, setRow_setRow]
theorem Upd.setCells {q : Option Nat} {n b o len : Nat} {t : TypeId} {cs cs' : Array Value} {w w' : World} (h : Upd q n b o len t cs w w' cs') (hf : q ≠ none → o + len ≤ ctrOff) (p : Nat) (l : List Value) (h1 : o ≤ p) (h2 : p + l.length ≤ o + len) (hl : l.all (·.oneCell') = true := by rfl) : Upd q n b o len t cs w (w'.setCells b p l) (putL cs' p l) := by
  rw [setCells_row l w' b p cs' t h.home.row]
  exact h.setRow ((Mv.refl q o len cs').putL hf p l h1 h2 hl)
theorem Home.drew {q : Option Nat} {b : Nat} {t : TypeId} {cs : Array Value} {w : World} (h : Home q b t cs w) : Home q b t cs w.drew := h.below (Below.refl _ _).drew
/-- where the call of a deriver was, in a region that draws -/
theorem Home.derived {q : Option Nat} {n b : Nat} {t : TypeId} {cs : Array Value} {w w' : World} (h : Home q b t cs w) (ht : Tick q n w.drew w') (o len : Nat) : ∃ cs', Upd q n b o len t cs w w' cs' ∧ Mv q n 0 0 cs cs' := by
  obtain ⟨cs', k⟩ := h.drew.tick ht
  exact ⟨cs', ⟨((Outside.refl _ w).drew).trans k.outq (fun _ hi _ => hi), k.home, k.mv.ofNone o, k.tk⟩, k.mv⟩
/-- an array of cells of which a stretch is overwritten, piece by piece -/
theorem AtL.put {cs : Array Value} {o : Nat} {l : List Value} (h : AtL cs o l) (p : Nat) (m : List Value) (hp : o ≤ p) (hm : p + m.length ≤ o + l.length) : AtL (putL cs p m) o (l.take (p - o) ++ m ++ l.drop (p - o + m.length)) := fun j v hv => by
  have hpo : (l.take (p - o)).length = p - o := by rw [List.length_take]; omega
  by_cases h1 : j < p - o
  · rw [putL_out _ _ _ _ (by omega)]
    rw [List.append_assoc, List.getElem?_append_left (by omega), List.getElem?_take_of_lt h1] at hv
    exact h j v hv
  · by_cases h2 : j < p - o + m.length
    · rw [List.append_assoc, List.getElem?_append_right (by omega), List.getElem?_append_left (by omega), hpo] at hv
      have hle : p + m.length ≤ cs.size := by
        have := h.le (fun e => by rw [e] at hm; simp at hm; omega)
        omega
      have := putL_at m cs p hle _ v hv
      rwa [show p + (j - (p - o)) = o + j by omega] at this
    · rw [putL_out _ _ _ _ (by omega)]
      rw [List.getElem?_append_right (by rw [List.length_append, hpo]; omega), List.length_append, hpo, List.getElem?_drop, show p - o + m.length + (j - (p - o + m.length)) = j by omega] at hv
      exact h j v hv
end Go.Proofs.Ytkpebabbnndopaa
