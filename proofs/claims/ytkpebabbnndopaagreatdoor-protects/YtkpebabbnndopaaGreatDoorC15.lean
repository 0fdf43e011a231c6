import Derived.Test.YtkpebabbnndopaaGreatDoorC08
import Derived.Test.YtkpebabbnndopaaGreatDoorC13
import Derived.Test.YtkpebabbnndopaaGreatDoorC11
import Derived.Test.YtkpebabbnndopaaGreatDoorC14
import Derived.WalkKit
import Derived.WalkSpells
import Derived.WalkLawsBesides
import Derived.Deep.WholeRow
import Derived.Deep.LoopGhost
import Derived.Test.YtkpebabbnndopaaGreatDoorC12
import Derived.Deep.MidRow
import Derived.Test.YtkpebabbnndopaaGreatDoorC03
import Derived.Deep.RegionHeld
import Derived.Sort.Grow
import Derived.Deep.DeepCutAuto
import Derived.BigRegion
/- What Unprotect answers, and what it leaves, as plain data. -/
namespace Go.Proofs.YtkpebabbnndopaaGreatDoor
open Go.RowKit

def unWho (l : List UInt8) : Nat := (l.getD 0 0).toNat
def unGen (l : List UInt8) : Nat := (l.getD 1 0).toNat * 256 + (l.getD 2 0).toNat
theorem unWho_lt (l : List UInt8) : unWho l < 256 := (l.getD 0 0).toNat_lt
theorem unGen_lt (l : List UInt8) : unGen l < 65536 := by
  have h1 := (l.getD 1 0).toNat_lt
  have h2 := (l.getD 2 0).toNat_lt
  unfold unGen
  omega
/-- P9, as far as nothing is opened: 0: it is tried -/
def St.unPre (st : St) (l : List UInt8) : Int :=
  if st.closed then 9 else if l.length < 7 ∨ 47 < l.length ∨ st.n ≤ unWho l then 3 else if unWho l = st.own then 4
  else if unGen l < (st.m (unWho l)).next ∧ unGen l ∉ (st.m (unWho l)).over then 5 else if (st.m (unWho l)).next + 5 < unGen l then 6 else 0
/-- what is passed over behind it -/
def unOver (m : Mem) (g : Nat) : List Nat := let o := m.over ++ (List.range (g - m.next)).map (m.next + ·); o.drop (o.length - 4)
/-- the member behind a message that was opened -/
def unMem (m : Mem) (g : Nat) : Mem := if g ∈ m.over then ⟨true, m.next, m.over.erase g⟩ else ⟨true, g + 1, unOver m g⟩
def St.unKey (st : St) (l : List UInt8) : Nat → Int := KeyM st.s st.n (unWho l) (unGen l)
/-- does it open? -/
def St.unOk (st : St) (l : List UInt8) : Bool := OpenOk (st.unKey l) (l.take 3) (l.drop 3)
def St.unText (st : St) (l : List UInt8) : List UInt8 := OpenT (st.unKey l) (l.drop 3)
def St.unNext (st : St) (l : List UInt8) : St := st.setM (unWho l) (unMem (st.m (unWho l)) (unGen l))
/-- P9 -/
def St.unErr (st : St) (l : List UInt8) : Int := if st.unPre l ≠ 0 then st.unPre l else if st.unOk l then 0 else 7
theorem unPre_zero {st : St} {l : List UInt8} (h : st.unPre l = 0) : st.closed = false ∧ 7 ≤ l.length ∧ l.length ≤ 47 ∧ unWho l < st.n ∧ unWho l ≠ st.own ∧ (unGen l < (st.m (unWho l)).next → unGen l ∈ (st.m (unWho l)).over) ∧ unGen l ≤ (st.m (unWho l)).next + 5 := by
  unfold St.unPre at h
  split at h
  · cases h
  rename_i h1
  split at h
  · cases h
  rename_i h2
  split at h
  · cases h
  rename_i h3
  split at h
  · cases h
  rename_i h4
  split at h
  · cases h
  rename_i h5
  refine ⟨by simpa using h1, by omega, by omega, by omega, h3, fun hl => ?_, by omega⟩
  exact Classical.byContradiction fun hc => h4 ⟨hl, hc⟩
end Go.Proofs.YtkpebabbnndopaaGreatDoor

/- What is asked of the program's own calls on a group; the law's worked and protect. -/
namespace Go.Proofs.YtkpebabbnndopaaGreatDoor
open Go.RowKit
set_option linter.unusedVariables false

/-- S' holds nothing but what S held, and new blocks -/
def Fresh (w : World) (S S' : List Nat) : Prop := ∀ k, k ∈ S' → k ∈ S ∨ w.heap.size ≤ k
theorem Fresh.refl (w : World) (S : List Nat) : Fresh w S S := fun _ h => .inl h
theorem Fresh.trans {w w' : World} {S S' S'' : List Nat} (h : Fresh w S S') (k : Fresh w' S' S'') (hs : w.heap.size ≤ w'.heap.size) : Fresh w S S'' := fun i hi => by
  rcases k i hi with h1 | h1
  · exact h i h1
  · exact .inr (by omega)
theorem Fresh.outside {w a b : World} {S S' : List Nat} (h : Outside S w a) (f : Fresh w S S') (k : Outside S' a b) : Outside S w b :=
  h.trans k fun i hi hl => by rcases f i hi with h1 | h1; exact h1; omega

/-- P15 -/
def St.shut (st : St) : St := { st with closed := true }
theorem St.Ok.shut {st : St} (h : st.Ok) : st.shut.Ok := ⟨h.hs, h.n1, h.n16, h.own, h.len, h.mem⟩
/-- the program's group: Rep w S g st wk: the value g stands for a group in the state st that has derived wk secrets; it lies in the blocks S -/
structure Code (Rep : World → List Nat → Value → St → Nat → Prop) : Prop where
  lt : ∀ {w S g st wk}, Rep w S g st wk → ∀ k, k ∈ S → k < w.heap.size
  keep : ∀ {w w' S g st wk}, Rep w S g st wk → w.heap.size ≤ w'.heap.size → (∀ k, k < w.heap.size → k ∈ S → w'.heap[k]? = w.heap[k]?) → Rep w' S g st wk
  ptr : ∀ {w S g st wk}, Rep w S g st wk → ∃ b, g = .pointer (some ⟨b, 0, none⟩)
  newErr : ∀ (s : Nat → Int) (n m : Int) (w : World), (∀ i, 0 ≤ s i ∧ s i < 256) → FitB n m = false → Calls Tryz.prog 25 #[Agg8 s, .int .i64 n, .int .i64 m] w fun e w' => e = .returned (.tuple #[.pointer none, .int .i64 1]) ∧ Below w.heap.size w w'
  new : ∀ (s : Nat → Int) (n m : Nat) (w : World), (∀ i, 0 ≤ s i ∧ s i < 256) → 1 ≤ n → n ≤ 16 → m < n → Calls Tryz.prog 25 #[Agg8 s, .int .i64 n, .int .i64 m] w fun e w' => ∃ b S, e = .returned (.tuple #[.pointer (some ⟨b, 0, none⟩), .int .i64 0]) ∧ Below w.heap.size w w' ∧ (∀ k, k ∈ S → w.heap.size ≤ k) ∧ Rep w' S (.pointer (some ⟨b, 0, none⟩)) (St.new s n m) 0
  work : ∀ {w S g st wk}, st.Ok → wk ≤ 1000000000000 → Rep w S g st wk → Calls Tryz.prog 23 #[g] w fun e w' => e = .returned (.int .i64 wk) ∧ Outside S w w' ∧ ∃ S', Fresh w S S' ∧ Rep w' S' g st wk
  protErr : ∀ {w S g st wk}, st.Ok → Rep w S g st wk → Glob w → ∀ (a : Option Addr) (t : List UInt8) (c : Nat), t.length ≤ 100000 → Bts w a t → (∀ b o, a = some ⟨b, o, none⟩ → b ∉ S) → st.protErr t.length ≠ 0 →
    Calls Tryz.prog 17 #[g, .slice a t.length c] w fun e w' => e = .returned (.tuple #[.slice none 0 0, .int .i64 (st.protErr t.length)]) ∧ Outside S w w' ∧ ∃ S', Fresh w S S' ∧ Rep w' S' g st wk
  prot : ∀ {w S g st wk}, st.Ok → Rep w S g st wk → ∀ (a : Option Addr) (t : List UInt8) (c : Nat), t.length ≤ 100000 → Bts w a t → (∀ b o, a = some ⟨b, o, none⟩ → b ∉ S) → st.protErr t.length = 0 →
    Calls Tryz.prog 17 #[g, .slice a t.length c] w fun e w' => Outside S w w' ∧ ∃ S' wk' f o cap, Fresh w S S' ∧ Rep w' S' g st.protNext wk' ∧ wk < wk' ∧ wk' ≤ wk + st.bound st.own (st.m st.own).next t.length ∧
      e = .returned (.tuple #[.slice (some ⟨f, o, none⟩) (st.frame t).length cap, .int .i64 0]) ∧ w.heap.size ≤ f ∧ f ∉ S' ∧ (st.frame t).length ≤ cap ∧ Bts w' (some ⟨f, o, none⟩) (st.frame t) ∧ ∀ i, i < (st.frame t).length → w'.frozen? ⟨f, o + i, none⟩ = false

  dump : ∀ {w S g st wk}, st.Ok → Rep w S g st wk → Calls Tryz.prog 21 #[g] w fun e w' => Outside S w w' ∧ ∃ S' p cap, Fresh w S S' ∧ Rep w' S' g st wk ∧ e = .returned (.slice p st.dump.length cap) ∧
      (st.dump = [] ∨ ∃ b o, p = some ⟨b, o, none⟩ ∧ st.dump.length ≤ cap ∧ w.heap.size ≤ b ∧ b ∉ S' ∧ (∀ j u, (itCells st.dump)[j]? = some u → w'.cell? ⟨b, o + j, none⟩ = some u) ∧ ∀ j, j < st.dump.length * 12 → w'.frozen? ⟨b, o + j, none⟩ = false)

  unErr : ∀ {w S g st wk}, st.Ok → Rep w S g st wk → Glob w → ∀ (a : Option Addr) (l : List UInt8) (c : Nat), l.length ≤ 100000 → l.length ≤ c → Bts w a l → (∀ b o, a = some ⟨b, o, none⟩ → b ∉ S) → st.unErr l ≠ 0 →
    Calls Tryz.prog 20 #[g, .slice a l.length c] w fun e w' => e = .returned (.tuple #[.agg #[.int .i64 0, .int .i64 0, .slice none 0 0], .int .i64 (st.unErr l)]) ∧ Outside S w w' ∧ ∃ S' wk', Fresh w S S' ∧ Rep w' S' g st wk' ∧ wk ≤ wk' ∧ wk' ≤ wk + (if st.unPre l = 0 then st.bound (unWho l) (unGen l) (l.length - 7) else 0)
  un : ∀ {w S g st wk}, st.Ok → Rep w S g st wk → Glob w → ∀ (a : Option Addr) (l : List UInt8) (c : Nat), l.length ≤ 100000 → l.length ≤ c → Bts w a l → (∀ b o, a = some ⟨b, o, none⟩ → b ∉ S) → st.unErr l = 0 →
    Calls Tryz.prog 20 #[g, .slice a l.length c] w fun e w' => Outside S w w' ∧ ∃ S' wk' f o cap, Fresh w S S' ∧ Rep w' S' g (st.unNext l) wk' ∧ wk < wk' ∧ wk' ≤ wk + st.bound (unWho l) (unGen l) (l.length - 7) ∧
      e = .returned (.tuple #[.agg #[.int .i64 (unWho l), .int .i64 (unGen l), .slice (some ⟨f, o, none⟩) (l.length - 7) cap], .int .i64 0]) ∧ w.heap.size ≤ f ∧ f < w'.heap.size ∧ f ∉ S' ∧ l.length - 7 ≤ cap ∧ Bts w' (some ⟨f, o, none⟩) (st.unText l) ∧ ∀ i, i < l.length - 7 → w'.frozen? ⟨f, o + i, none⟩ = false
  close : ∀ {w S g st wk}, st.Ok → Rep w S g st wk → Glob w → st.closed = false → Calls Tryz.prog 24 #[g] w fun e w' => e = .returned (.int .i64 0) ∧ Outside S w w' ∧ ∃ S', Fresh w S S' ∧ Rep w' S' g st.shut wk
  closeErr : ∀ {w S g st wk}, st.Ok → Rep w S g st wk → Glob w → st.closed = true → Calls Tryz.prog 24 #[g] w fun e w' => e = .returned (.int .i64 9) ∧ Outside S w w' ∧ ∃ S', Fresh w S S' ∧ Rep w' S' g st wk

/-- a side: the program's group and the other's, in one state -/
abbrev CellsS (g : Value) (rb : Nat) (wk : Int) : Array Value := #[g, .pointer (some ⟨rb, 0, none⟩), .int .i64 wk]
set_option maxHeartbeats 1000000 in
theorem worked_any {Rep : World → List Nat → Value → St → Nat → Prop} (C : Code Rep) (w : World) (sb : Nat) (S T : List Nat) (g : Value) (rb : Nat) (st : St) (wk0 wk : Nat) (steps : Nat) (some_ : Bool) (ok : st.Ok)
    (hrow : w.heap[sb]? = some (.cells (CellsS g rb wk0) 71 (0, 0))) (hrep : Rep w S g st wk) (href : RefRep w T rb st steps) (hs1 : sb ∉ S) (hs2 : sb ∉ T) (hst : ∀ k, k ∈ S → k ∉ T)
    (h1 : wk0 ≤ wk) (h2 : wk ≤ wk0 + steps) (h3 : some_ = true → wk0 < wk) (h4 : wk ≤ 1000000000000) (h5 : steps ≤ 1000000000) :
    Calls Tryz.prog 69 #[.pointer (some ⟨sb, 0, none⟩), .bool some_] w fun e w' => e = .returned (.bool true) ∧ Outside (sb :: S) w w' ∧ w'.heap[sb]? = some (.cells (CellsS g rb wk) 71 (0, 0)) ∧ ∃ S', Fresh w S S' ∧ Rep w' S' g st wk := by
  obtain ⟨mb, cs, ov, hr⟩ := href
  have hrs : rb ≠ sb := fun e => hs2 (e ▸ hr.2.1)
  have HW : Hid (Calls Tryz.prog 23 #[g] w fun e w' => e = .returned (.int .i64 wk) ∧ Outside S w w' ∧ ∃ S', Fresh w S S' ∧ Rep w' S' g st wk) := C.work ok h4 hrep
  obtain ⟨hA, hAf⟩ := row_facts' hrow
  have HR : Hid (RefG w T rb mb cs ov st steps) := hr
  have HROW : Hid (w.heap[sb]? = some (.cells (CellsS g rb wk0) 71 (0, 0))) := hrow
  have HRT : Hid (rb ∉ S) := fun h => hst _ h hr.2.1
  have HD1 : Hid (sb ∉ S) := hs1
  have HREP : Hid (Rep w S g st wk) := hrep
  clear hr hrow hst hrep hs1 hs2
  go_enter Tryz.func69, Tryz.ntmps69
  go_wp2_with fail
  refine HW.out.mono ?_
  rintro e w1 ⟨rfl, hout, S', hfr, hrep1⟩
  have hrow1 := hout.row HROW.out HD1.out
  have hrb1 := hout.row HR.out.2.2.2.1 HRT.out
  clear hA hAf
  obtain ⟨hA, hAf⟩ := row_facts' hrow1
  obtain ⟨hB, _⟩ := row_facts' hrb1
  have HO : Hid (Outside S w w1) := hout
  have HF : Hid (Fresh w S S') := hfr
  have HP : Hid (Rep w1 S' g st wk) := hrep1
  have HROW1 : Hid (w1.heap[sb]? = some (.cells (CellsS g rb wk0) 71 (0, 0))) := hrow1
  clear hout hfr hrep1 hrow1 hrb1
  cases some_ with
  | true =>
    have h3' : wk0 < wk := h3 rfl
    clear h3
    go_wp2_with fail
    go_ret
    refine ⟨rfl, ?_, ?_, S', HF.out, ?_⟩
    · exact (HO.out.mono (S' := sb :: S) fun i hi _ => List.mem_cons_of_mem _ hi).setCell ⟨sb, 2, none⟩ (fun _ => List.mem_cons_self) _
    · rw [setCell_eq_setRow w1 sb 2 _ _ (0, 0) _ HROW1.out]
      exact setRow_heap _ _ _ _ _ _ HROW1.out
    · refine C.keep HP.out (by simp [World.setCell]) fun k _ hk => Below.heap_setCell _ _ _ _ (fun e => ?_)
      rw [show k = sb from e] at hk
      rcases HF.out _ hk with h | h
      · exact HD1.out h
      · have := (Array.getElem?_eq_some_iff.1 HROW.out).1
        omega
  | false =>
    clear h3
    go_wp2_with fail
    go_ret
    refine ⟨rfl, ?_, ?_, S', HF.out, ?_⟩
    · exact (HO.out.mono (S' := sb :: S) fun i hi _ => List.mem_cons_of_mem _ hi).setCell ⟨sb, 2, none⟩ (fun _ => List.mem_cons_self) _
    · rw [setCell_eq_setRow w1 sb 2 _ _ (0, 0) _ HROW1.out]
      exact setRow_heap _ _ _ _ _ _ HROW1.out
    · refine C.keep HP.out (by simp [World.setCell]) fun k _ hk => Below.heap_setCell _ _ _ _ (fun e => ?_)
      rw [show k = sb from e] at hk
      rcases HF.out _ hk with h | h
      · exact HD1.out h
      · have := (Array.getElem?_eq_some_iff.1 HROW.out).1
        omega

theorem Bts.out {w w' : World} {S : List Nat} {a : Option Addr} {l : List UInt8} (h : Bts w a l) (ho : Outside S w w') (hn : ∀ b o, a = some ⟨b, o, none⟩ → b ∉ S) : Bts w' a l := by
  rcases h with h | ⟨b, o, rfl, hc⟩
  · exact .inl h
  · refine .inr ⟨b, o, rfl, fun i hi => ?_⟩
    have hci := hc i hi
    rw [← hci]
    exact World.cell?_of_block (w := w) (ho.block b (block_lt_of_cell hci) (hn b o rfl))

/-- a side, at block sb, within the blocks U -/
def Side (Rep : World → List Nat → Value → St → Nat → Prop) (w : World) (sb : Nat) (U : List Nat) (st : St) (wk : Nat) : Prop :=
  ∃ S T g rb, ∃ steps : Nat, U = sb :: (S ++ T) ∧ st.Ok ∧ w.heap[sb]? = some (.cells (CellsS g rb wk) 71 (0, 0)) ∧ Rep w S g st wk ∧ RefRep w T rb st steps ∧ sb ∉ S ∧ sb ∉ T ∧ (∀ k, k ∈ S → k ∉ T) ∧ (∀ k, k ∈ T → k < w.heap.size)
theorem Side.lt {Rep : World → List Nat → Value → St → Nat → Prop} (C : Code Rep) {w : World} {sb : Nat} {U : List Nat} {st : St} {wk : Nat} (h : Side Rep w sb U st wk) : ∀ k, k ∈ U → k < w.heap.size := by
  obtain ⟨S, T, g, rb, steps, rfl, ok, h1, h2, h3, h4, h5, h6, h7⟩ := h
  intro k hk
  rcases List.mem_cons.1 hk with h | h
  · subst h; exact (Array.getElem?_eq_some_iff.1 h1).1
  · rcases List.mem_append.1 h with h | h
    · exact C.lt h2 k h
    · exact h7 k h
theorem Side.keep {Rep : World → List Nat → Value → St → Nat → Prop} (C : Code Rep) {w w' : World} {sb : Nat} {U : List Nat} {st : St} {wk : Nat} (h : Side Rep w sb U st wk) (hs : w.heap.size ≤ w'.heap.size) (hk : ∀ k, k < w.heap.size → k ∈ U → w'.heap[k]? = w.heap[k]?) : Side Rep w' sb U st wk := by
  obtain ⟨S, T, g, rb, steps, rfl, ok, h1, h2, h3, h4, h5, h6, h7⟩ := h
  have l1 := (Array.getElem?_eq_some_iff.1 h1).1
  exact ⟨S, T, g, rb, steps, rfl, ok, by rw [hk _ l1 List.mem_cons_self, h1], C.keep h2 hs (fun k a b => hk k a (List.mem_cons_of_mem _ (List.mem_append_left _ b))), h3.keep (fun k a b => hk k a (List.mem_cons_of_mem _ (List.mem_append_right _ b))), h4, h5, h6, fun k hk => by have := h7 k hk; omega⟩
theorem St.Ok.protNext {st : St} (h : st.Ok) (hn : (st.m st.own).next ≤ 65535) : st.protNext.Ok := by
  refine ⟨h.hs, h.n1, h.n16, h.own, by show (st.mem.set _ _).length = _; rw [List.length_set]; exact h.len, fun m hm => ?_⟩
  rcases List.mem_or_eq_of_mem_set hm with hm | rfl
  · exact h.mem m hm
  · obtain ⟨a, b, c, d⟩ := h.m st.own
    exact ⟨by show _ + 1 ≤ _; omega, b, c, fun e => by cases e⟩
theorem protErr_cases (st : St) (n : Nat) : st.protErr n = 0 ∨ st.protErr n = 9 ∨ st.protErr n = 2 ∨ st.protErr n = 8 := by
  unfold St.protErr
  split
  · simp
  · split
    · simp
    · split <;> simp
theorem protErr_zero {st : St} {n : Nat} (h : st.protErr n = 0) : n ≤ 40 ∧ (st.m st.own).next ≤ 65535 := by
  unfold St.protErr at h
  split at h
  · omega
  · split at h
    · omega
    · split at h
      · omega
      · exact ⟨by omega, by omega⟩

/-- the ends of a step on one side: the program's call, the other's, the look at the work -/
theorem side_fin {Rep : World → List Nat → Value → St → Nat → Prop} (C : Code Rep) {w w1 w2 w3 w4 : World} {sb : Nat} {S T S' S'' : List Nat} {g : Value} {rb : Nat} {st : St} {wk : Nat} {steps : Nat} (ok : st.Ok)
    (hsb : sb < w.heap.size) (h4 : sb ∉ S) (h5 : sb ∉ T) (h6 : ∀ k, k ∈ S → k ∉ T) (h7 : ∀ k, k ∈ T → k < w.heap.size) (b1 : Below w.heap.size w w1) (o2 : Outside S w1 w2) (f2 : Fresh w1 S S') (o3 : Outside T w2 w3) (ref3 : RefRep w3 T rb st steps)
    (o4 : Outside (sb :: S') w3 w4) (row4 : w4.heap[sb]? = some (.cells (CellsS g rb wk) 71 (0, 0))) (f4 : Fresh w3 S' S'') (rep4 : Rep w4 S'' g st wk) :
    Outside (sb :: (S ++ T)) w w4 ∧ Fresh w (sb :: (S ++ T)) (sb :: (S'' ++ T)) ∧ Side Rep w4 sb (sb :: (S'' ++ T)) st wk := by
  have z1 := b1.size
  have z2 := o2.size
  have z3 := o3.size
  have z4 := o4.size
  have inS : ∀ k, k ∈ S' → k < w.heap.size → k ∈ S := fun k hk hl => by
    rcases f2 k hk with h | h
    · exact h
    · omega
  have inS2 : ∀ k, k ∈ S'' → k < w.heap.size → k ∈ S := fun k hk hl => by
    rcases f4 k hk with h | h
    · exact inS k h hl
    · omega
  refine ⟨?_, ?_, S'', T, g, rb, steps, rfl, ok, row4, rep4, ?_, ?_, h5, ?_, ?_⟩
  · have a1 : Outside (sb :: (S ++ T)) w w1 := Outside.ofBelow b1
    have a2 := a1.trans o2 (fun i hi _ => List.mem_cons_of_mem _ (List.mem_append_left _ hi))
    have a3 := a2.trans o3 (fun i hi _ => List.mem_cons_of_mem _ (List.mem_append_right _ hi))
    refine a3.trans o4 (fun i hi hl => ?_)
    rcases List.mem_cons.1 hi with h | h
    · rw [h]; exact List.mem_cons_self
    · exact List.mem_cons_of_mem _ (List.mem_append_left _ (inS i h hl))
  · intro k hk
    by_cases hl : k < w.heap.size
    · left
      rcases List.mem_cons.1 hk with h | h
      · rw [h]; exact List.mem_cons_self
      · rcases List.mem_append.1 h with h | h
        · exact List.mem_cons_of_mem _ (List.mem_append_left _ (inS2 k h hl))
        · exact List.mem_cons_of_mem _ (List.mem_append_right _ h)
    · right; omega
  · refine ref3.keep fun k a b => o4.block k a (fun h => ?_)
    rcases List.mem_cons.1 h with h | h
    · exact h5 (h ▸ b)
    · exact h6 k (inS k h (h7 k b)) b
  · exact fun h => h4 (inS2 sb h hsb)
  · exact fun k hk hT => h6 k (inS2 k hk (h7 k hT)) hT
  · intro k hk
    have := h7 k hk
    omega

theorem bound_le (st : St) (n : Nat) (h : n ≤ 40) : st.bound st.own (st.m st.own).next n ≤ 100 := by
  unfold St.bound
  have := DepB_le 16 st.n st.own
  omega
end Go.Proofs.YtkpebabbnndopaaGreatDoor

/- slices.DeleteFunc of places: those of one member stay. -/
namespace Go.Proofs.YtkpebabbnndopaaGreatDoor
open Go.RowKit
set_option linter.unusedVariables false
set_option linter.unusedSimpArgs false
set_option linter.unnecessarySimpa false

theorem wrap_succ (j : Nat) (h : (j : Int) < 1000000000) : wrap64 ((j : Int) + 1) = ((j + 1 : Nat) : Int) := by simp only [wrap64]; omega
def ofM (M : Int) (xs : List PlI) : List PlI := xs.filter fun x => decide (x.1 = M)
theorem first_other (M : Int) (xs : List PlI) : ∃ k, k ≤ xs.length ∧ (∀ hl : k < xs.length, xs[k].1 ≠ M) ∧ ∀ i (hi : i < xs.length), i < k → xs[i].1 = M := by
  induction xs with
  | nil => exact ⟨0, Nat.le_refl _, fun h => (by cases h), fun i hi => (by cases hi)⟩
  | cons x r ih =>
    by_cases e : x.1 = M
    · obtain ⟨k, h1, h2, h3⟩ := ih
      refine ⟨k + 1, by simpa using h1, fun hl => by simpa using h2 (by simpa using hl), fun i hi hk => ?_⟩
      cases i with
      | zero => exact e
      | succ i => simpa using h3 i (by simpa using hi) (by omega)
    · exact ⟨0, Nat.zero_le _, fun _ => e, fun i _ h => by omega⟩
theorem ofM_all (M : Int) (xs : List PlI) (h : ∀ i (hi : i < xs.length), xs[i].1 = M) : ofM M xs = xs := by
  unfold ofM
  rw [List.filter_eq_self]
  intro x hx
  obtain ⟨i, hi, rfl⟩ := List.mem_iff_getElem.1 hx
  simp [h i hi]
theorem clearP (g n m : Nat) (w : World) (h : ∀ j, j < m * 2 → (w.cell? ⟨g, n * 2 + j, none⟩).isSome = true) (hz : ∀ i, w.frozen? ⟨g, i, none⟩ = false) (hm : 0 < m) (ty : TypeId) (c : Nat) :
    ∃ l, (Builtin.clear_ #[131] ty #[.slice (some ⟨g, n * 2, none⟩) m c]).run Tryz.prog w = .ok (.tuple #[]) (w.setCells g (n * 2) l) := by
  have hv : ∀ w, (zeroValue 123).run Tryz.prog w = .ok (.agg #[.int .i64 0, .int .i64 0]) w := fun w => by kernel_rfl
  have hl : (Builtin.zeroCells #[Value.int .i64 0, .int .i64 0] m).toList.length = m * 2 := by
    rw [Array.length_toList, size_zeroCells]
    rfl
  refine ⟨_, run_clearW (P := Tryz.prog) w 131 123 ty (.agg #[.int .i64 0, .int .i64 0]) Tryz.underlying131 hv g (n * 2) m c hm ?_ (fun j hj => h j (by rw [← hl]; exact hj)) (fun j _ => hz _)⟩
  intro v hv2
  simp only [Value.cells, Builtin.zeroCells, Array.toList_map, List.mem_map] at hv2
  obtain ⟨i, _, rfl⟩ := hv2
  have h2 : i % 2 = 0 ∨ i % 2 = 1 := by omega
  rcases h2 with e | e
  · show (#[Value.int .i64 0, .int .i64 0][i % 2]!).oneCell' = true
    rw [e]; rfl
  · show (#[Value.int .i64 0, .int .i64 0][i % 2]!).oneCell' = true
    rw [e]; rfl
set_option maxHeartbeats 4000000 in
theorem delP_any (g cap : Nat) (xs : List PlI) (hlen : xs.length ≤ 100000) (M : Int) (mb : Nat) (hmg : mb ≠ g) (w : World) (h : RowP w g cap xs) (hm : w.cell? ⟨mb, 0, none⟩ = some (.int .i64 M)) :
    Calls Tryz.prog 184 #[.slice (some ⟨g, 0, none⟩) xs.length cap, .func (.func 185) #[] #[.pointer (some ⟨mb, 0, none⟩)]] w fun e w' => e = .returned (.slice (some ⟨g, 0, none⟩) (ofM M xs).length cap) ∧ Outside [g] w w' ∧ RowP w' g cap (ofM M xs) := by
  obtain ⟨k, hk1, hk2, hk3⟩ := first_other M xs
  have HIX0 := idxP_any g cap xs hlen M mb w h hm k hk1 hk2 (fun i hi => hk3 i (by omega) hi)
  have hmb := block_lt_of_cell hm
  have hgl := h.lt
  have hcap := h.le
  have hleni : (xs.length : Int) ≤ 100000 := by omega
  clear hlen
  by_cases hkl : k < xs.length
  · rw [if_pos hkl] at HIX0
    have HIX : Hid (Calls Tryz.prog 187 #[.slice (some ⟨g, 0, none⟩) xs.length cap, .func (.func 185) #[] #[.pointer (some ⟨mb, 0, none⟩)]] w fun e w' => e = .returned (.int .i64 (k : Int)) ∧ Below w.heap.size w w') := HIX0
    have HF : Hid (∀ (x : PlI) W, W.cell? ⟨mb, 0, none⟩ = some (.int .i64 M) → Calls Tryz.prog 185 #[encP x, .pointer (some ⟨mb, 0, none⟩)] W fun e w' => e = .returned (.bool (decide (x.1 ≠ M))) ∧ Below W.heap.size W w') := fun x W hW => other_any x M mb W hW
    have HST : Hid ((xs.take k).length = k ∧ ofM M (xs.take (k + 1)) = xs.take k) := by
      refine ⟨by rw [List.length_take]; omega, ?_⟩
      rw [List.take_succ_eq_append_getElem hkl]
      unfold ofM
      rw [List.filter_append]
      have e1 : (xs.take k).filter (fun x => decide (x.1 = M)) = xs.take k := ofM_all M (xs.take k) (fun i hi => by
        rw [List.length_take] at hi
        rw [List.getElem_take]
        exact hk3 i (by omega) (by omega))
      rw [e1]
      simp [hk2 hkl]
    have HR : Hid (RowP w g cap xs) := h
    have HM : Hid (w.cell? ⟨mb, 0, none⟩ = some (.int .i64 M)) := hm
    have hkn2 : ((k : Int) == -1) = false := by
      have : ¬ ((k : Int) = -1) := by omega
      simp [this]
    clear HIX0 hk2 hk3 h hm
    go_enter Tryz.func184, Tryz.ntmps184
    go_wp2_with fail
    refine HIX.out.mono ?_
    rintro e w1 ⟨rfl, b1⟩
    have HB1 : Hid (Below w.heap.size w w1) := b1
    clear b1 HIX
    go_wp2_with fail
    go_loopg [5, 6] (xs.length - (k + 1)) (fun r v5 v6 wr => ∃ (i j : Nat) (zs : List PlI), v5 = .int .i64 i ∧ v6 = .int .i64 j ∧ j + r = xs.length ∧ i < j ∧ zs.length = xs.length ∧ Hid (Outside [g] w wr ∧ RowP wr g cap zs ∧ zs.take i = ofM M (xs.take j) ∧ (∀ l (hl : l < xs.length), j ≤ l → zs[l]? = some xs[l])))
    case atStart =>
      refine ⟨k, k + 1, xs, rfl, by go_num, by omega, by omega, rfl, Outside.ofBelow HB1.out, HR.out.keep (HB1.out.block g hgl), HST.out.2.symm, fun l hl _ => List.getElem?_eq_getElem hl⟩
    case round =>
      obtain ⟨i, j, zs, rfl, rfl, hjr, hij, hzl, hX⟩ := hrel
      by_cases hjl : j < xs.length
      · have hlt : (j : Int) < (xs.length : Int) := by omega
        obtain ⟨o1, r1, t1, d1⟩ := hX.out
        have hzj : zs[j]'(by omega) = xs[j] := by
          have := d1 j hjl (Nat.le_refl _)
          rw [List.getElem?_eq_getElem (by omega)] at this
          exact Option.some.inj this
        have HR1 : Hid (wr.rangeAt g (j * 2) [.int .i64 xs[j].1, .int .i64 xs[j].2]) := by
          have := r1.range j (by omega)
          rw [hzj] at this
          exact this
        have HM1 : Hid (wr.cell? ⟨mb, 0, none⟩ = some (.int .i64 M)) := by
          have e := o1.block mb hmb (by simpa using hmg)
          have := HM.out
          unfold World.cell? at this ⊢
          show _ = _
          rw [show (⟨mb, 0, none⟩ : Addr).block = mb from rfl] at this ⊢
          rw [e]
          exact this
        have htk : xs.take (j + 1) = xs.take j ++ [xs[j]] := List.take_succ_eq_append_getElem hjl
        have HTK : Hid (ofM M (xs.take (j + 1)) = ofM M (xs.take j) ++ (if xs[j].1 = M then [xs[j]] else [])) := by
          show _ = _
          rw [htk]
          unfold ofM
          rw [List.filter_append]
          by_cases e : xs[j].1 = M <;> simp [e]
        obtain ⟨x, hx⟩ : ∃ x, xs[j] = x := ⟨_, rfl⟩
        rw [hx] at HR1 HTK
        have HF1 := HF.out x
        have mb2 : mb < wr.heap.size := by have := o1.size; omega
        have hgr : g < wr.heap.size := r1.lt
        obtain ⟨a, ha⟩ : ∃ a, x.1 = a := ⟨_, rfl⟩
        obtain ⟨c, hc⟩ : ∃ a, x.2 = a := ⟨_, rfl⟩
        obtain ⟨wa, hwa⟩ : ∃ wa, wr.alloc (.cells #[.int .i64 a, .int .i64 c] 123) = wa := ⟨_, rfl⟩
        have ba : Below wr.heap.size wr wa := by rw [← hwa]; exact (Below.refl _ wr).alloc (Nat.le_refl _) _
        have ka : wa.heap[wr.heap.size]? = some (.cells #[.int .i64 a, .int .i64 c] 123 (0, 0)) := by rw [← hwa]; exact (MapKept.heap_alloc _ _).1
        have hAa : ∀ o, wa.cell? ⟨wr.heap.size, o, none⟩ = #[Value.int .i64 a, .int .i64 c][o]? := fun o => cell_of_row _ _ _ _ _ _ ka
        have HMa : Hid (wa.cell? ⟨mb, 0, none⟩ = some (.int .i64 M)) := by show _ = _; rw [ba.cell (p := ⟨mb, 0, none⟩) mb2]; exact HM1.out
        have HWA : Hid (wr.alloc (.cells #[.int .i64 a, .int .i64 c] 123) = wa) := hwa
        have HKA : Hid (wa.heap[wr.heap.size]? = some (.cells #[.int .i64 a, .int .i64 c] 123 (0, 0)) ∧ Below wr.heap.size wr wa) := ⟨ka, ba⟩
        have HF2 : Hid (Calls Tryz.prog 185 #[.agg #[.int .i64 a, .int .i64 c], .pointer (some ⟨mb, 0, none⟩)] wa fun e w' => e = .returned (.bool (decide (a ≠ M))) ∧ Below wa.heap.size wa w') := by
          have := HF1 wa HMa.out
          rw [← ha, ← hc]
          exact this
        rw [ha, hc] at HR1
        have HXA : Hid (x.1 = a ∧ x.2 = c) := ⟨ha, hc⟩
        rw [ha] at HTK
        clear ha hc HF1 hx htk o1 r1 t1 d1 hzj hwa ba ka
        by_cases hkeep : a = M
        · have hd : decide (a ≠ M) = false := by simp [hkeep]
          rw [hd] at HF2
          rw [if_pos hkeep] at HTK
          have HKE : Hid (a = M) := hkeep
          clear hkeep hd
          go_wp2_with (first | refine wpList_load_mid rfl 123 _ rfl g (j * 2) rfl [.int .i64 a, .int .i64 c] _ HR1.out Tryz.underlying123 rfl (by kernel_rfl) ?_)
          rw [HWA.out]
          refine HF2.out.mono ?_
          rintro e w3 ⟨rfl, b3⟩
          have kb : w3.heap[wr.heap.size]? = some (.cells #[.int .i64 a, .int .i64 c] 123 (0, 0)) := by rw [b3.block _ (Array.getElem?_eq_some_iff.1 HKA.out.1).1]; exact HKA.out.1
          have hAb : ∀ o, w3.cell? ⟨wr.heap.size, o, none⟩ = #[Value.int .i64 a, .int .i64 c][o]? := fun o => cell_of_row _ _ _ _ _ _ kb
          have HR3 : Hid (RowP w3 g cap zs) := hX.out.2.1.keep (by rw [b3.block g (by have := HKA.out.2.size; omega), HKA.out.2.block g hgr])
          have th3 : w3.there g (i * 2) 2 := HR3.out.there i (by omega)
          obtain ⟨w4, hw4⟩ : ∃ w4, w3.setCells g (i * 2) [.int .i64 a, .int .i64 c] = w4 := ⟨_, rfl⟩
          have HX4 : Hid (Outside [g] w w4 ∧ RowP w4 g cap (zs.set i x) ∧ (zs.set i x).take (i + 1) = ofM M (xs.take (j + 1)) ∧ (∀ l (hl : l < xs.length), j + 1 ≤ l → (zs.set i x)[l]? = some xs[l])) := by
            obtain ⟨o1, r1, t1, d1⟩ := hX.out
            obtain ⟨cur, q1, _⟩ := HR3.out.row
            have hset := HR3.out.set i (by omega) x
            rw [HXA.out.1, HXA.out.2, hw4] at hset
            refine ⟨?_, hset, ?_, fun l hl hle => ?_⟩
            · rw [← hw4, setCells_row _ w3 g (i * 2) cur _ q1]
              exact ((o1.below HKA.out.2).below b3).setRow g (fun _ => List.mem_cons_self) _
            · rw [HTK.out, ← t1, List.take_succ_eq_append_getElem (by rw [List.length_set]; omega), List.getElem_set_self, List.take_set_of_le (Nat.le_refl _)]
            · rw [List.getElem?_set_ne (by omega)]
              exact d1 l hl (by omega)
          have HW4 : Hid (w3.setCells g (i * 2) [.int .i64 a, .int .i64 c] = w4) := hw4
          have hilen : (i : Int) < (xs.length : Int) := by omega
          clear b3 kb hw4 HTK HF2 hAa HMa
          go_wp2_with (refine wpList_store_mid rfl 123 _ _ rfl g (i * 2) #[.int .i64 a, .int .i64 c] rfl rfl th3 (by kernel_rfl) (by simp [Value.oneCell']) ?_; rw [show (#[Value.int .i64 a, .int .i64 c] : Array Value).toList = [.int .i64 a, .int .i64 c] from rfl, HW4.out])
          go_roundg (gk - 1)
          case measure => omega
          case rel => exact ⟨i + 1, j + 1, zs.set i x, by go_num, by go_num, by omega, by omega, by rw [List.length_set]; exact hzl, HX4⟩
        · have hd : decide (a ≠ M) = true := by simp [hkeep]
          rw [hd] at HF2
          rw [if_neg hkeep, List.append_nil] at HTK
          clear hkeep hd
          go_wp2_with (first | refine wpList_load_mid rfl 123 _ rfl g (j * 2) rfl [.int .i64 a, .int .i64 c] _ HR1.out Tryz.underlying123 rfl (by kernel_rfl) ?_)
          rw [HWA.out]
          refine HF2.out.mono ?_
          rintro e w3 ⟨rfl, b3⟩
          have HX4 : Hid (Outside [g] w w3 ∧ RowP w3 g cap zs ∧ zs.take i = ofM M (xs.take (j + 1)) ∧ (∀ l (hl : l < xs.length), j + 1 ≤ l → zs[l]? = some xs[l])) := by
            obtain ⟨o1, r1, t1, d1⟩ := hX.out
            exact ⟨(o1.below HKA.out.2).below b3, r1.keep (by rw [b3.block g (by have := HKA.out.2.size; omega), HKA.out.2.block g hgr]), by rw [HTK.out]; exact t1, fun l hl hle => d1 l hl (by omega)⟩
          clear b3 HTK HF2 hAa HMa
          go_wp2_with fail
          go_roundg (gk - 1)
          case measure => omega
          case rel => exact ⟨i, j + 1, zs, rfl, by go_num, by omega, by omega, hzl, HX4⟩
      · have hge : ¬ (j : Int) < (xs.length : Int) := by omega
        obtain ⟨o1, r1, t1, d1⟩ := hX.out
        have hj : j = xs.length := by omega
        have hfin : zs.take i = ofM M xs := by rw [t1, hj, List.take_length]
        have hil : i < xs.length := by omega
        have hlen2 : (ofM M xs).length = i := by rw [← hfin, List.length_take]; omega
        obtain ⟨cur, q1, q2, q3⟩ := r1.row
        obtain ⟨l, hcl⟩ := clearP g i (xs.length - i) wr (fun a ha => by rw [cell_of_row _ _ _ _ _ _ q1, Array.getElem?_eq_getElem (by omega)]; rfl) (fun a => by simp [World.frozen?, q1]) (by omega) 0 (cap - i)
        obtain ⟨w5, hw5⟩ : ∃ w5, wr.setCells g (i * 2) l = w5 := ⟨_, rfl⟩
        have HFIN : Hid (Outside [g] w w5 ∧ RowP w5 g cap (ofM M xs)) := by
          have hp := r1.prefix i
          rw [hfin] at hp
          have := hp.after (i * 2) l (by rw [hlen2]; exact Nat.le_refl _)
          rw [hw5] at this
          refine ⟨?_, this⟩
          rw [← hw5, setCells_row _ wr g (i * 2) cur _ q1]
          exact o1.setRow g (fun _ => List.mem_cons_self) _
        rw [hw5] at hcl
        have HL2 : Hid ((ofM M xs).length = i) := hlen2
        have hi2 : (i : Int) ≤ (xs.length : Int) := by omega
        have hi3 : (xs.length : Int) ≤ (cap : Int) := by omega
        have hi4 : ¬ cap = i := by omega
        have hi5 : (i : Int) ≤ (cap : Int) := by omega
        clear o1 r1 t1 d1 hfin hlen2 q1 q2 q3 hw5 hX HF HR HM HB1 HST
        go_wp2_with fail
        go_ret
        exact ⟨by rw [HL2.out]; rfl, HFIN.out.1, HFIN.out.2⟩
  · rw [if_neg hkl] at HIX0
    have hall : ofM M xs = xs := ofM_all M xs (fun i hi => hk3 i hi (by omega))
    have HIX : Hid (Calls Tryz.prog 187 #[.slice (some ⟨g, 0, none⟩) xs.length cap, .func (.func 185) #[] #[.pointer (some ⟨mb, 0, none⟩)]] w fun e w' => e = .returned (.int .i64 (-1)) ∧ Below w.heap.size w w') := HIX0
    have HR : Hid (RowP w g cap xs) := h
    rw [hall]
    clear HIX0 hk2 hk3 h hm hall hkl hk1
    go_enter Tryz.func184, Tryz.ntmps184
    go_wp2_with fail
    refine HIX.out.mono ?_
    rintro e w1 ⟨rfl, b1⟩
    have HB1 : Hid (Below w.heap.size w w1) := b1
    clear b1 HIX
    go_wp2_with fail
    go_ret
    exact ⟨rfl, Outside.ofBelow HB1.out, HR.out.keep (HB1.out.block g hgl)⟩
end Go.Proofs.YtkpebabbnndopaaGreatDoor

/- A region that draws its order, by hand: an operation that yields is taken first; a store of many cells. -/
namespace Go.Proofs.YtkpebabbnndopaaGreatDoor
open Go.RowKit

section
variable {P : Program} {ops : Array Oper} {Q : Exit → Act → World → Prop} {md : Region.Mode} {S : World → Prop}
/-- an operation that yields, its parts apart -/
theorem take1 {i d : Nat} {o : Op} {ty : TypeId} {pos : String} {af} {v : Value} {fuel : Nat} {listed : Array Bool} {a : Act} {w : World} (hi : ops[i]? = some (Oper.mk (some d) o ty pos af none))
    (hs : Region.noSelect ops = true) (hf : Region.free md ops listed i = true) (hr : (Region.ready md ops listed).contains i = true)
    (hQ : ∀ c a w, Q (.panic c) (a.put (some d) v) w → Q (.panic c) a w) (hS : S w) (hy : ∀ w, S w → (execOp a.eval (Oper.mk (some d) o ty pos af none)).run P w = .ok (.value v) w)
    (h : wpAnyH P md ops Q S fuel (listed.setIfInBounds i true) (a.put (some d) v) w) : wpAnyH P md ops Q S (fuel + 1) listed a w :=
  wpAnyH_take hi hs hf hr hQ (.inl ⟨by simp [Region.wanted], hy⟩) hS h
/-- a load of many cells, its parts apart -/
theorem load1 {i d : Nat} {t : TypeId} {x : Operand} {ty : TypeId} {pos : String} {af} {fuel : Nat} {listed : Array Bool} {a : Act} {w : World} (hi : ops[i]? = some (Oper.mk (some d) (.load t x) ty pos af none))
    (hs : Region.noSelect ops = true) (hf : Region.free md ops listed i = true) (hr : (Region.ready md ops listed).contains i = true)
    (cells : Array Value) (hQ : ∀ c a w, Q (.panic c) (a.put (some d) (.agg cells)) w → Q (.panic c) a w) (hS : S w) (b o : Nat) (hx : a.eval x = .pointer (some ⟨b, o, none⟩)) (td : TypeDesc) (hc : ∀ w, S w → w.rangeAt b o cells.toList)
    (hu : P.underlying t = some td) (hd : td.isRow = true) (hz : (P.info? t).map (·.size) = some cells.toList.length)
    (h : wpAnyH P md ops Q S fuel (listed.setIfInBounds i true) (a.put (some d) (.agg cells)) w) : wpAnyH P md ops Q S (fuel + 1) listed a w := by
  have hy := yieldsIf_load_mid (P := P) (ops := ops) (S := S) (op := Oper.mk (some d) (.load t x) ty pos af none) (a := a) (by simp [Region.wanted]) t x rfl b o hx cells.toList td hc hu hd hz
  rw [Array.toArray_toList] at hy
  exact wpAnyH_take hi hs hf hr hQ hy hS h
/-- a store, its parts apart: it alone may come up -/
theorem store1 {i : Nat} {t : TypeId} {x y : Operand} {ty : TypeId} {pos : String} {af} {fuel : Nat} {listed : Array Bool} {a : Act} {w : World} (hr : Region.ready md ops listed = [i]) (hi : ops[i]? = some (Oper.mk none (.store t x y) ty pos af none))
    (b o : Nat) (cells : Array Value) (hx : a.eval x = .pointer (some ⟨b, o, none⟩)) (hy : a.eval y = .agg cells)
    (ht : w.there b o cells.size) (hz : (P.info? t).map (·.size) = some cells.size) (h1 : cells.all (·.oneCell') = true) (w' : World) (hw : w.setCells b o cells.toList = w') (hS : S w')
    (h : wpAnyH P md ops Q S fuel (listed.setIfInBounds i true) (a.put none undef) w') : wpAnyH P md ops Q S (fuel + 1) listed a w := by
  refine wpAnyH_ready (rs := [i]) hr (by simp) (AllReadyH.cons hi (fun K hK => ?_) AllReadyH.nil)
  rw [if_pos (by simp [Region.wanted])]
  refine wp_store_mid t x y rfl b o cells hx hy ht hz h1 ?_
  rw [hw]
  exact hK.out _ _ hS (fun _ => h)
/-- a call of a Go function, its parts apart: it alone may come up -/
theorem call1 {i d : Nat} {cc} {ty : TypeId} {pos : String} {af} {fuel : Nat} {listed : Array Bool} {a : Act} {w : World} (hr : Region.ready md ops listed = [i]) (hi : ops[i]? = some (Oper.mk (some d) (.call cc) ty pos af none))
    {f : FuncId} {args : Array Value} (hrun : (execOp a.eval (Oper.mk (some d) (.call cc) ty pos af none)).run P w = .ok (.enter f args) w) {R : Value → World → Prop} (hc : Calls P f args w fun e w' => ∃ v, e = .returned v ∧ R v w')
    (hS : ∀ v w', R v w' → S w') (h : ∀ v w', R v w' → wpAnyH P md ops Q S fuel (listed.setIfInBounds i true) (a.put (some d) v) w') : wpAnyH P md ops Q S (fuel + 1) listed a w := by
  refine wpAnyH_ready (rs := [i]) hr (by simp) (AllReadyH.cons hi (fun K hK => ?_) AllReadyH.nil)
  rw [if_pos (by simp [Region.wanted])]
  unfold Oper.wp
  rw [hrun, Oper.upon_enter]
  exact hc.mono fun e w' ⟨v, he, hR⟩ => by subst he; exact hK.out _ _ (hS v w' hR) (fun _ => h v w' hR)
/-- a call of a Go function that may come up beside others -/
theorem callR {i d : Nat} {cc} {ty : TypeId} {pos : String} {af} {fuel : Nat} {listed : Array Bool} {a : Act} {w : World} {rs : List Nat} (hi : ops[i]? = some (Oper.mk (some d) (.call cc) ty pos af none))
    {f : FuncId} {args : Array Value} (hrun : (execOp a.eval (Oper.mk (some d) (.call cc) ty pos af none)).run P w = .ok (.enter f args) w) {R : Value → World → Prop} (hc : Calls P f args w fun e w' => ∃ v, e = .returned v ∧ R v w')
    (hS : ∀ v w', R v w' → S w') (h : ∀ v w', R v w' → wpAnyH P md ops Q S fuel (listed.setIfInBounds i true) (a.put (some d) v) w') (hs : AllReadyH P md ops Q S fuel listed a w rs) : AllReadyH P md ops Q S fuel listed a w (i :: rs) := by
  refine AllReadyH.cons hi (fun K hK => ?_) hs
  rw [if_pos (by simp [Region.wanted])]
  unfold Oper.wp
  rw [hrun, Oper.upon_enter]
  exact hc.mono fun e w' ⟨v, he, hR⟩ => by subst he; exact hK.out _ _ (hS v w' hR) (fun _ => h v w' hR)
/-- an operation that gives a value and may change the world, its parts apart: it alone may come up -/
theorem step1 {i : Nat} {dst : Option Nat} {o : Op} {ty : TypeId} {pos : String} {af} {fuel : Nat} {listed : Array Bool} {a : Act} {w : World} (hr : Region.ready md ops listed = [i]) (hi : ops[i]? = some (Oper.mk dst o ty pos af none))
    (v : Value) (w' : World) (hrun : (execOp a.eval (Oper.mk dst o ty pos af none)).run P w = .ok (.value v) w') (hS : S w')
    (h : wpAnyH P md ops Q S fuel (listed.setIfInBounds i true) (a.put dst v) w') : wpAnyH P md ops Q S (fuel + 1) listed a w := by
  refine wpAnyH_ready (rs := [i]) hr (by simp) (AllReadyH.cons hi (fun K hK => ?_) AllReadyH.nil)
  rw [if_pos (by simp [Region.wanted])]
  unfold Oper.wp
  rw [hrun, Oper.upon_value]
  exact hK.out _ _ hS (fun _ => h)
/-- append, as such an operation -/
theorem app1 {dst : Option Nat} {x y : Operand} {t ty : TypeId} {pos : String} {af} {a : Act} {w : World} (v u v' : Value) (w' : World) (hx : a.eval x = v) (hy : a.eval y = u)
    (hr : (Builtin.append_ #[t, t] ty #[v, u]).run P w = .ok v' w') : (execOp a.eval (Oper.mk dst (.call { callee := .builtin .append, args := #[x, y], argTypes := #[t, t] }) ty pos af none)).run P w = .ok (.value v') w' := by
  simp [execOp, resolve, invoke, builtin, hx, hy, hr, Result.andThen]
end
end Go.Proofs.YtkpebabbnndopaaGreatDoor

/- place.compare. -/
namespace Go.Proofs.YtkpebabbnndopaaGreatDoor
open Go.RowKit Go.Sort
set_option linter.unusedVariables false
set_option linter.unusedSimpArgs false

theorem isNaN_any (a : Int) (w : World) : Calls Tryz.prog 158 #[.int .i64 a] w fun e w' => e = .returned (.bool false) ∧ w' = w := by
  go_enter Tryz.func158, Tryz.ntmps158
  go_wp2_with fail
  go_ret
  exact ⟨rfl, rfl⟩
theorem cmpI_any (a b : Int) (w : World) : Calls Tryz.prog 131 #[.int .i64 a, .int .i64 b] w fun e w' => e = .returned (.int .i64 (cmpI a b)) ∧ w' = w := by
  have HN : Hid (∀ a W, Calls Tryz.prog 158 #[.int .i64 a] W fun e w' => e = .returned (.bool false) ∧ w' = W) := isNaN_any
  unfold cmpI
  by_cases h1 : a < b
  · rw [if_pos h1]
    go_enter Tryz.func131, Tryz.ntmps131
    go_wp2_with (go_at_call 158; refine (HN.out _ _).mono ?_; rintro e w' ⟨rfl, rfl⟩)
    go_ret
    exact ⟨rfl, rfl⟩
  · rw [if_neg h1]
    by_cases h2 : b < a
    · rw [if_pos h2]
      go_enter Tryz.func131, Tryz.ntmps131
      go_wp2_with (go_at_call 158; refine (HN.out _ _).mono ?_; rintro e w' ⟨rfl, rfl⟩)
      go_ret
      exact ⟨rfl, rfl⟩
    · rw [if_neg h2]
      go_enter Tryz.func131, Tryz.ntmps131
      go_wp2_with (go_at_call 158; refine (HN.out _ _).mono ?_; rintro e w' ⟨rfl, rfl⟩)
      go_ret
      exact ⟨rfl, rfl⟩
theorem or_any (gb : Nat) (a b : Int) (w : World) (h0 : w.cell? ⟨gb, 0, none⟩ = some (.int .i64 a)) (h1 : w.cell? ⟨gb, 1, none⟩ = some (.int .i64 b)) :
    Calls Tryz.prog 130 #[.slice (some ⟨gb, 0, none⟩) 2 2] w fun e w' => e = .returned (.int .i64 (if a = 0 then b else a)) ∧ w' = w := by
  by_cases ha : a = 0
  · subst ha
    rw [if_pos rfl]
    by_cases hb : b = 0
    · subst hb
      go_enter Tryz.func130, Tryz.ntmps130
      go_wp2_with fail
      refine wp_loop_rounds 3 ?_
      rw [rounds_succ]
      go_wp2_with fail
      rw [rounds_succ]
      go_wp2_with fail
      rw [rounds_succ]
      go_wp2_with fail
      go_ret
      exact ⟨rfl, rfl⟩
    · have hb2 : (b == 0) = false := by simpa using hb
      go_enter Tryz.func130, Tryz.ntmps130
      go_wp2_with fail
      refine wp_loop_rounds 2 ?_
      rw [rounds_succ]
      go_wp2_with fail
      rw [rounds_succ]
      go_wp2_with fail
      go_ret
      exact ⟨rfl, rfl⟩
  · have ha2 : (a == 0) = false := by simpa using ha
    rw [if_neg ha]
    go_enter Tryz.func130, Tryz.ntmps130
    go_wp2_with fail
    refine wp_loop_rounds 1 ?_
    rw [rounds_succ]
    go_wp2_with fail
    go_ret
    exact ⟨rfl, rfl⟩
set_option maxHeartbeats 40000000 in
set_option maxRecDepth 20000 in
theorem compare_any (x y : PlI) (w : World) : Calls Tryz.prog 95 #[encP x, encP y] w fun e w' => e = .returned (.int .i64 (cmpP x y)) ∧ ∃ q os', w' = grow (w.drewN q) os' := by
  have HC : Hid (∀ a b W, Calls Tryz.prog 131 #[.int .i64 a, .int .i64 b] W fun e w' => e = .returned (.int .i64 (cmpI a b)) ∧ w' = W) := cmpI_any
  have HO : Hid (∀ gb a b W, W.cell? ⟨gb, 0, none⟩ = some (.int .i64 a) → W.cell? ⟨gb, 1, none⟩ = some (.int .i64 b) → Calls Tryz.prog 130 #[.slice (some ⟨gb, 0, none⟩) 2 2] W fun e w' => e = .returned (.int .i64 (if a = 0 then b else a)) ∧ w' = W) := or_any
  obtain ⟨A, hA⟩ : ∃ A, cmpI x.1 y.1 = A := ⟨_, rfl⟩
  obtain ⟨B, hB⟩ : ∃ B, cmpI x.2 y.2 = B := ⟨_, rfl⟩
  have hC1 := HC.out x.1 y.1
  have hC2 := HC.out x.2 y.2
  unfold cmpP
  rw [hA] at hC1 ⊢
  rw [hB] at hC2 ⊢
  have H1 : Hid (∀ W, Calls Tryz.prog 131 #[.int .i64 x.1, .int .i64 y.1] W fun e w' => e = .returned (.int .i64 A) ∧ w' = W) := hC1
  have H2 : Hid (∀ W, Calls Tryz.prog 131 #[.int .i64 x.2, .int .i64 y.2] W fun e w' => e = .returned (.int .i64 B) ∧ w' = W) := hC2
  obtain ⟨x1, e1⟩ : ∃ a, x.1 = a := ⟨_, rfl⟩
  obtain ⟨x2, e2⟩ : ∃ a, x.2 = a := ⟨_, rfl⟩
  obtain ⟨y1, e3⟩ : ∃ a, y.1 = a := ⟨_, rfl⟩
  obtain ⟨y2, e4⟩ : ∃ a, y.2 = a := ⟨_, rfl⟩
  show Calls Tryz.prog 95 #[.agg #[.int .i64 x.1, .int .i64 x.2], .agg #[.int .i64 y.1, .int .i64 y.2]] w _
  rw [e1, e2, e3, e4]
  rw [e1, e3] at H1
  rw [e2, e4] at H2
  clear hC1 hC2 HC hA hB e1 e2 e3 e4
  obtain ⟨R, hR⟩ : ∃ R : Int, (if A = 0 then B else A) = R := ⟨_, rfl⟩
  have HO2 : Hid (∀ gb W, W.cell? ⟨gb, 0, none⟩ = some (.int .i64 A) → W.cell? ⟨gb, 1, none⟩ = some (.int .i64 B) → Calls Tryz.prog 130 #[.slice (some ⟨gb, 0, none⟩) 2 2] W fun e w' => e = .returned (.int .i64 R) ∧ w' = W) := fun gb W h0 h1 => by rw [← hR]; exact HO.out gb A B W h0 h1
  have HO3 : Hid (Calls Tryz.prog 130 #[.slice (some ⟨w.heap.size + 1 + 1, 0, none⟩) 2 2] (((w.alloc (.cells #[.int .i64 x1, .int .i64 x2] 123)).alloc (.cells #[.int .i64 y1, .int .i64 y2] 123)).alloc (.cells #[.int .i64 A, .int .i64 B] 3)).drew fun e w' => e = .returned (.int .i64 R) ∧ w' = (((w.alloc (.cells #[.int .i64 x1, .int .i64 x2] 123)).alloc (.cells #[.int .i64 y1, .int .i64 y2] 123)).alloc (.cells #[.int .i64 A, .int .i64 B] 3)).drew) := by
    have e := (MapKept.heap_alloc ((w.alloc (.cells #[.int .i64 x1, .int .i64 x2] 123)).alloc (.cells #[.int .i64 y1, .int .i64 y2] 123)) (.cells #[.int .i64 A, .int .i64 B] 3)).1
    simp only [World.size_alloc] at e
    have e' : (((w.alloc (.cells #[.int .i64 x1, .int .i64 x2] 123)).alloc (.cells #[.int .i64 y1, .int .i64 y2] 123)).alloc (.cells #[.int .i64 A, .int .i64 B] 3)).drew.heap[w.heap.size + 1 + 1]? = some (.cells #[.int .i64 A, .int .i64 B] 3 (0, 0)) := e
    exact HO2.out _ _ (by rw [cell_of_row _ _ _ _ _ _ e']; rfl) (by rw [cell_of_row _ _ _ _ _ _ e']; rfl)
  rw [hR]
  clear hR HO HO2
  obtain ⟨wa, hwa⟩ : ∃ wa, (w.alloc (.cells #[.int .i64 x1, .int .i64 x2] 123)).alloc (.cells #[.int .i64 y1, .int .i64 y2] 123) = wa := ⟨_, rfl⟩
  have kx : wa.heap[w.heap.size]? = some (.cells #[.int .i64 x1, .int .i64 x2] 123 (0, 0)) := by rw [← hwa, Below.heap_alloc _ _ _ (by simp)]; exact (MapKept.heap_alloc _ _).1
  have ky : wa.heap[w.heap.size + 1]? = some (.cells #[.int .i64 y1, .int .i64 y2] 123 (0, 0)) := by
    have e := (MapKept.heap_alloc (w.alloc (.cells #[.int .i64 x1, .int .i64 x2] 123)) (.cells #[.int .i64 y1, .int .i64 y2] 123)).1
    rw [← hwa]
    simpa only [World.size_alloc] using e
  have hza : wa.heap.size = w.heap.size + 1 + 1 := by rw [← hwa]; simp
  have HS : Hid (∀ W, Below wa.heap.size wa W → (∀ o, W.cell? ⟨w.heap.size, o, none⟩ = #[Value.int .i64 x1, .int .i64 x2][o]?) ∧ (∀ o, W.cell? ⟨w.heap.size + 1, o, none⟩ = #[Value.int .i64 y1, .int .i64 y2][o]?)) := fun W hW =>
    ⟨fun o => cell_of_row _ _ _ _ _ _ (by rw [hW.block _ (by omega)]; exact kx), fun o => cell_of_row _ _ _ _ _ _ (by rw [hW.block _ (by omega)]; exact ky)⟩
  have HWA : Hid ((w.alloc (.cells #[.int .i64 x1, .int .i64 x2] 123)).alloc (.cells #[.int .i64 y1, .int .i64 y2] 123) = wa ∧ wa.heap.size = w.heap.size + 1 + 1) := ⟨hwa, hza⟩
  rw [hwa] at HO3
  clear hwa kx ky hza
  go_enter Tryz.func95, Tryz.ntmps95
  go_upto_region 1 with fail
  rw [HWA.out.1]
  refine wp_region_held_drew (S := fun W => Below wa.heap.size wa W) (by kernel_rfl) ((Below.refl _ wa).drew) (fun hHeld => ?_)
  change wpAnyH _ _ _ _ _ 13 _ _ _
  refine take1 (i := 0) (v := .pointer (some ⟨w.heap.size, 0, none⟩)) rfl (by kernel_rfl) (by kernel_rfl) (by kernel_rfl) (fun _ _ _ h => h) hHeld (fun W hS => (by clear hHeld; go_simp)) ?_
  simp only [Act.put, List.setIfInBounds_toArray, List.set_cons_zero, List.set_cons_succ]
  refine take1 (i := 1) (v := .int .i64 x1) rfl (by kernel_rfl) (by kernel_rfl) (by kernel_rfl) (fun _ _ _ h => h) hHeld (fun W hS => (by have hc := (HS.out W hS).1; clear hHeld; go_simp)) ?_
  simp only [Act.put, List.setIfInBounds_toArray, List.set_cons_zero, List.set_cons_succ]
  refine take1 (i := 2) (v := .pointer (some ⟨w.heap.size + 1, 0, none⟩)) rfl (by kernel_rfl) (by kernel_rfl) (by kernel_rfl) (fun _ _ _ h => h) hHeld (fun W hS => (by clear hHeld; go_simp)) ?_
  simp only [Act.put, List.setIfInBounds_toArray, List.set_cons_zero, List.set_cons_succ]
  refine take1 (i := 3) (v := .int .i64 y1) rfl (by kernel_rfl) (by kernel_rfl) (by kernel_rfl) (fun _ _ _ h => h) hHeld (fun W hS => (by have hc := (HS.out W hS).2; clear hHeld; go_simp)) ?_
  simp only [Act.put, List.setIfInBounds_toArray, List.set_cons_zero, List.set_cons_succ]
  refine take1 (i := 5) (v := .pointer (some ⟨w.heap.size, 1, none⟩)) rfl (by kernel_rfl) (by kernel_rfl) (by kernel_rfl) (fun _ _ _ h => h) hHeld (fun W hS => (by clear hHeld; go_simp)) ?_
  simp only [Act.put, List.setIfInBounds_toArray, List.set_cons_zero, List.set_cons_succ]
  refine take1 (i := 6) (v := .int .i64 x2) rfl (by kernel_rfl) (by kernel_rfl) (by kernel_rfl) (fun _ _ _ h => h) hHeld (fun W hS => (by have hc := (HS.out W hS).1; clear hHeld; go_simp)) ?_
  simp only [Act.put, List.setIfInBounds_toArray, List.set_cons_zero, List.set_cons_succ]
  refine take1 (i := 7) (v := .pointer (some ⟨w.heap.size + 1, 1, none⟩)) rfl (by kernel_rfl) (by kernel_rfl) (by kernel_rfl) (fun _ _ _ h => h) hHeld (fun W hS => (by clear hHeld; go_simp)) ?_
  simp only [Act.put, List.setIfInBounds_toArray, List.set_cons_zero, List.set_cons_succ]
  refine take1 (i := 8) (v := .int .i64 y2) rfl (by kernel_rfl) (by kernel_rfl) (by kernel_rfl) (fun _ _ _ h => h) hHeld (fun W hS => (by have hc := (HS.out W hS).2; clear hHeld; go_simp)) ?_
  simp only [Act.put, List.setIfInBounds_toArray, List.set_cons_zero, List.set_cons_succ]
  refine call1 (i := 4) (by kernel_rfl) rfl (f := 131) (args := #[.int .i64 x1, .int .i64 y1]) (by clear hHeld; go_simp) (R := fun v W => v = .int .i64 A ∧ W = wa.drew) ((H1.out _).mono fun e w' ⟨h1, h2⟩ => ⟨_, h1, rfl, h2⟩) (fun v W ⟨_, h2⟩ => by rw [h2]; exact hHeld) (fun v W hvW => ?_)
  obtain ⟨rfl, rfl⟩ := hvW
  simp only [Act.put, List.setIfInBounds_toArray, List.set_cons_zero, List.set_cons_succ]
  refine call1 (i := 9) (by kernel_rfl) rfl (f := 131) (args := #[.int .i64 x2, .int .i64 y2]) (by clear hHeld; go_simp) (R := fun v W => v = .int .i64 B ∧ W = wa.drew) ((H2.out _).mono fun e w' ⟨h1, h2⟩ => ⟨_, h1, rfl, h2⟩) (fun v W ⟨_, h2⟩ => by rw [h2]; exact hHeld) (fun v W hvW => ?_)
  obtain ⟨rfl, rfl⟩ := hvW
  simp only [Act.put, List.setIfInBounds_toArray, List.set_cons_zero, List.set_cons_succ]
  refine step1 (i := 10) (by kernel_rfl) rfl (.slice (some ⟨wa.heap.size, 0, none⟩) 2 2) (wa.drew.alloc (.cells #[.int .i64 A, .int .i64 B] 3)) (by clear hHeld; go_simp) (hHeld.alloc (Nat.le_refl _) _) ?_
  simp only [Act.put, List.setIfInBounds_toArray, List.set_cons_zero, List.set_cons_succ]
  refine call1 (i := 11) (by kernel_rfl) rfl (f := 130) (args := #[.slice (some ⟨wa.heap.size, 0, none⟩) 2 2]) (by clear hHeld; go_simp) (R := fun v W => v = .int .i64 R ∧ W = wa.drew.alloc (.cells #[.int .i64 A, .int .i64 B] 3)) (by rw [HWA.out.2]; exact HO3.out.mono fun e w' ⟨h1, h2⟩ => ⟨_, h1, rfl, h2⟩) (fun v W ⟨_, h2⟩ => by rw [h2]; exact hHeld.alloc (Nat.le_refl _) _) (fun v W hvW => ?_)
  obtain ⟨rfl, rfl⟩ := hvW
  simp only [Act.put, List.setIfInBounds_toArray, List.set_cons_zero, List.set_cons_succ]
  refine step1 (i := 12) (by kernel_rfl) rfl (.int .i64 R) (wa.drew.alloc (.cells #[.int .i64 A, .int .i64 B] 3)) (by clear hHeld; go_simp) (hHeld.alloc (Nat.le_refl _) _) ?_
  simp only [Act.put, List.setIfInBounds_toArray, List.set_cons_zero, List.set_cons_succ]
  refine wpAnyH_done (by kernel_rfl) ?_ _
  clear hHeld HS H1 H2 HO3
  go_wp2_with fail
  go_ret
  refine ⟨rfl, 1, #[.cells #[.int .i64 x1, .int .i64 x2] 123, .cells #[.int .i64 y1, .int .i64 y2] 123, .cells #[.int .i64 A, .int .i64 B] 3], ?_⟩
  rw [← HWA.out.1]
  show ((((w.alloc (.cells #[.int .i64 x1, .int .i64 x2] 123)).alloc (.cells #[.int .i64 y1, .int .i64 y2] 123)).alloc (.cells #[.int .i64 A, .int .i64 B] 3)).drew) = _
  rw [alloc_eq_grow, alloc_eq_grow, alloc_eq_grow, grow_grow, grow_grow]
  rfl
end Go.Proofs.YtkpebabbnndopaaGreatDoor
