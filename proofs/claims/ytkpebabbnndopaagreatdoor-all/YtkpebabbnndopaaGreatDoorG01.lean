import Derived.Test.YtkpebabbnndopaaGreatDoorRows
import Derived.WalkKit
import Derived.WalkSpells
import Derived.WalkLawsBesides
import Derived.Test.YtkpebabbnndopaaGreatDoorC08
import Derived.Test.YtkpebabbnndopaaGreatDoorC13
import Derived.Test.YtkpebabbnndopaaGreatDoorC11
import Derived.Test.YtkpebabbnndopaaGreatDoorC14
import Derived.Deep.WholeRow
import Derived.Deep.LoopGhost
/- The law's pick. -/
namespace Go.Proofs.YtkpebabbnndopaaGreatDoor
open Go.RowKit
set_option linter.unusedVariables false

/-- which of n things the raw number c speaks of -/
def PickI (c : Int) (n : Nat) : Nat := if c < 0 then ((-(c + 1)) % (n : Int)).toNat else (c % (n : Int)).toNat
theorem PickI_lt (c : Int) (n : Nat) (hn : 1 ≤ n) : PickI c n < n := by
  unfold PickI
  have hn0 : ¬ (n : Int) = 0 := by omega
  split
  · have a1 := Int.emod_nonneg (-(c + 1)) hn0
    have a2 := Int.emod_lt_of_pos (-(c + 1)) (show (0 : Int) < n by omega)
    omega
  · have a1 := Int.emod_nonneg c hn0
    have a2 := Int.emod_lt_of_pos c (show (0 : Int) < n by omega)
    omega
theorem PickI_neg (c : Int) (n : Nat) (hn : 1 ≤ n) (hc : c < 0) : (PickI c n : Int) = -(c + 1).tmod (n : Int) := by
  have hn0 : ¬ (n : Int) = 0 := by omega
  unfold PickI
  rw [if_pos hc, ← Int.neg_tmod, Int.tmod_eq_emod_of_nonneg (by omega), Int.toNat_of_nonneg (Int.emod_nonneg _ hn0)]
theorem PickI_pos (c : Int) (n : Nat) (hn : 1 ≤ n) (hc : ¬ c < 0) : (PickI c n : Int) = c % (n : Int) := by
  have hn0 : ¬ (n : Int) = 0 := by omega
  unfold PickI
  rw [if_neg hc, Int.toNat_of_nonneg (Int.emod_nonneg _ hn0)]
theorem pick_any (c : Int) (h1 : -9223372036854775808 ≤ c) (h2 : c ≤ 9223372036854775807) (n : Nat) (hn : 1 ≤ n) (hn2 : n ≤ 1000000) (w : World) :
    Calls Tryz.prog 65 #[.int .i64 c, .int .i64 n] w fun e w' => e = .returned (.int .i64 (PickI c n)) ∧ w' = w := by
  have hn0 : ¬ (n : Int) = 0 := by omega
  by_cases hc : c < 0
  · have HE : Hid ((PickI c n : Int) = -(c + 1).tmod (n : Int)) := PickI_neg c n hn hc
    obtain ⟨i, hi⟩ : ∃ i, PickI c n = i := ⟨_, rfl⟩
    rw [hi] at HE ⊢
    clear hi
    go_enter Tryz.func65, Tryz.ntmps65
    go_wp2_with fail
    go_ret
    refine ⟨?_, rfl⟩
    show Ending.returned (Value.int .i64 (-(c + 1).tmod (n : Int))) = _
    rw [HE.out]
  · have HE : Hid ((PickI c n : Int) = c % (n : Int)) := PickI_pos c n hn hc
    obtain ⟨i, hi⟩ : ∃ i, PickI c n = i := ⟨_, rfl⟩
    rw [hi] at HE ⊢
    clear hi
    go_enter Tryz.func65, Tryz.ntmps65
    go_wp2_with fail
    go_ret
    refine ⟨?_, rfl⟩
    show Ending.returned (Value.int .i64 (c % (n : Int))) = _
    rw [HE.out]
end Go.Proofs.YtkpebabbnndopaaGreatDoor

/- What Unprotect answers, and what it leaves, as plain data. -/
namespace Go.Proofs.YtkpebabbnndopaaGreatDoor
open Go.RowKit

def unWho (l : List UInt8) : Nat := (l.getD 0 0).toNat
def unGen (l : List UInt8) : Nat := (l.getD 1 0).toNat * 256 + (l.getD 2 0).toNat
theorem unWho_lt (l : List UInt8) : unWho l < 256 := (l.getD 0 0).toNat_lt
theorem unGen_lt (l : List UInt8) : unGen l < 65536 := by
  have h1 := (l.getD 1 0).toNat_lt
  have h2 := (l.getD 2 0).toNat_lt
  unfold unGen
  omega
/-- P9, as far as nothing is opened: 0: it is tried -/
def St.unPre (st : St) (l : List UInt8) : Int :=
  if st.closed then 9 else if l.length < 7 ∨ 47 < l.length ∨ st.n ≤ unWho l then 3 else if unWho l = st.own then 4
  else if unGen l < (st.m (unWho l)).next ∧ unGen l ∉ (st.m (unWho l)).over then 5 else if (st.m (unWho l)).next + 5 < unGen l then 6 else 0
/-- what is passed over behind it -/
def unOver (m : Mem) (g : Nat) : List Nat := let o := m.over ++ (List.range (g - m.next)).map (m.next + ·); o.drop (o.length - 4)
/-- the member behind a message that was opened -/
def unMem (m : Mem) (g : Nat) : Mem := if g ∈ m.over then ⟨true, m.next, m.over.erase g⟩ else ⟨true, g + 1, unOver m g⟩
def St.unKey (st : St) (l : List UInt8) : Nat → Int := KeyM st.s st.n (unWho l) (unGen l)
/-- does it open? -/
def St.unOk (st : St) (l : List UInt8) : Bool := OpenOk (st.unKey l) (l.take 3) (l.drop 3)
def St.unText (st : St) (l : List UInt8) : List UInt8 := OpenT (st.unKey l) (l.drop 3)
def St.unNext (st : St) (l : List UInt8) : St := st.setM (unWho l) (unMem (st.m (unWho l)) (unGen l))
/-- P9 -/
def St.unErr (st : St) (l : List UInt8) : Int := if st.unPre l ≠ 0 then st.unPre l else if st.unOk l then 0 else 7
theorem unPre_zero {st : St} {l : List UInt8} (h : st.unPre l = 0) : st.closed = false ∧ 7 ≤ l.length ∧ l.length ≤ 47 ∧ unWho l < st.n ∧ unWho l ≠ st.own ∧ (unGen l < (st.m (unWho l)).next → unGen l ∈ (st.m (unWho l)).over) ∧ unGen l ≤ (st.m (unWho l)).next + 5 := by
  unfold St.unPre at h
  split at h
  · cases h
  rename_i h1
  split at h
  · cases h
  rename_i h2
  split at h
  · cases h
  rename_i h3
  split at h
  · cases h
  rename_i h4
  split at h
  · cases h
  rename_i h5
  refine ⟨by simpa using h1, by omega, by omega, by omega, h3, fun hl => ?_, by omega⟩
  exact Classical.byContradiction fun hc => h4 ⟨hl, hc⟩
end Go.Proofs.YtkpebabbnndopaaGreatDoor

/- What is asked of the program's own calls on a group; the law's worked and protect. -/
namespace Go.Proofs.YtkpebabbnndopaaGreatDoor
open Go.RowKit
set_option linter.unusedVariables false

/-- S' holds nothing but what S held, and new blocks -/
def Fresh (w : World) (S S' : List Nat) : Prop := ∀ k, k ∈ S' → k ∈ S ∨ w.heap.size ≤ k
theorem Fresh.refl (w : World) (S : List Nat) : Fresh w S S := fun _ h => .inl h
theorem Fresh.trans {w w' : World} {S S' S'' : List Nat} (h : Fresh w S S') (k : Fresh w' S' S'') (hs : w.heap.size ≤ w'.heap.size) : Fresh w S S'' := fun i hi => by
  rcases k i hi with h1 | h1
  · exact h i h1
  · exact .inr (by omega)
theorem Fresh.outside {w a b : World} {S S' : List Nat} (h : Outside S w a) (f : Fresh w S S') (k : Outside S' a b) : Outside S w b :=
  h.trans k fun i hi hl => by rcases f i hi with h1 | h1; exact h1; omega

/-- P15 -/
def St.shut (st : St) : St := { st with closed := true }
theorem St.Ok.shut {st : St} (h : st.Ok) : st.shut.Ok := ⟨h.hs, h.n1, h.n16, h.own, h.len, h.mem⟩
/-- the program's group: Rep w S g st wk: the value g stands for a group in the state st that has derived wk secrets; it lies in the blocks S -/
structure Code (Rep : World → List Nat → Value → St → Nat → Prop) : Prop where
  lt : ∀ {w S g st wk}, Rep w S g st wk → ∀ k, k ∈ S → k < w.heap.size
  keep : ∀ {w w' S g st wk}, Rep w S g st wk → w.heap.size ≤ w'.heap.size → (∀ k, k < w.heap.size → k ∈ S → w'.heap[k]? = w.heap[k]?) → Rep w' S g st wk
  ptr : ∀ {w S g st wk}, Rep w S g st wk → ∃ b, g = .pointer (some ⟨b, 0, none⟩)
  newErr : ∀ (s : Nat → Int) (n m : Int) (w : World), (∀ i, 0 ≤ s i ∧ s i < 256) → FitB n m = false → Calls Tryz.prog 25 #[Agg8 s, .int .i64 n, .int .i64 m] w fun e w' => e = .returned (.tuple #[.pointer none, .int .i64 1]) ∧ Below w.heap.size w w'
  new : ∀ (s : Nat → Int) (n m : Nat) (w : World), (∀ i, 0 ≤ s i ∧ s i < 256) → 1 ≤ n → n ≤ 16 → m < n → Calls Tryz.prog 25 #[Agg8 s, .int .i64 n, .int .i64 m] w fun e w' => ∃ b S, e = .returned (.tuple #[.pointer (some ⟨b, 0, none⟩), .int .i64 0]) ∧ Below w.heap.size w w' ∧ (∀ k, k ∈ S → w.heap.size ≤ k) ∧ Rep w' S (.pointer (some ⟨b, 0, none⟩)) (St.new s n m) 0
  work : ∀ {w S g st wk}, st.Ok → wk ≤ 1000000000000 → Rep w S g st wk → Calls Tryz.prog 23 #[g] w fun e w' => e = .returned (.int .i64 wk) ∧ Outside S w w' ∧ ∃ S', Fresh w S S' ∧ Rep w' S' g st wk
  protErr : ∀ {w S g st wk}, st.Ok → Rep w S g st wk → Glob w → ∀ (a : Option Addr) (t : List UInt8) (c : Nat), t.length ≤ 100000 → Bts w a t → (∀ b o, a = some ⟨b, o, none⟩ → b ∉ S) → st.protErr t.length ≠ 0 →
    Calls Tryz.prog 17 #[g, .slice a t.length c] w fun e w' => e = .returned (.tuple #[.slice none 0 0, .int .i64 (st.protErr t.length)]) ∧ Outside S w w' ∧ ∃ S', Fresh w S S' ∧ Rep w' S' g st wk
  prot : ∀ {w S g st wk}, st.Ok → Rep w S g st wk → ∀ (a : Option Addr) (t : List UInt8) (c : Nat), t.length ≤ 100000 → Bts w a t → (∀ b o, a = some ⟨b, o, none⟩ → b ∉ S) → st.protErr t.length = 0 →
    Calls Tryz.prog 17 #[g, .slice a t.length c] w fun e w' => Outside S w w' ∧ ∃ S' wk' f o cap, Fresh w S S' ∧ Rep w' S' g st.protNext wk' ∧ wk < wk' ∧ wk' ≤ wk + st.bound st.own (st.m st.own).next t.length ∧
      e = .returned (.tuple #[.slice (some ⟨f, o, none⟩) (st.frame t).length cap, .int .i64 0]) ∧ w.heap.size ≤ f ∧ f ∉ S' ∧ (st.frame t).length ≤ cap ∧ Bts w' (some ⟨f, o, none⟩) (st.frame t) ∧ ∀ i, i < (st.frame t).length → w'.frozen? ⟨f, o + i, none⟩ = false

  dump : ∀ {w S g st wk}, st.Ok → Rep w S g st wk → Calls Tryz.prog 21 #[g] w fun e w' => Outside S w w' ∧ ∃ S' p cap, Fresh w S S' ∧ Rep w' S' g st wk ∧ e = .returned (.slice p st.dump.length cap) ∧
      (st.dump = [] ∨ ∃ b o, p = some ⟨b, o, none⟩ ∧ st.dump.length ≤ cap ∧ w.heap.size ≤ b ∧ b ∉ S' ∧ (∀ j u, (itCells st.dump)[j]? = some u → w'.cell? ⟨b, o + j, none⟩ = some u) ∧ ∀ j, j < st.dump.length * 12 → w'.frozen? ⟨b, o + j, none⟩ = false)

  unErr : ∀ {w S g st wk}, st.Ok → Rep w S g st wk → Glob w → ∀ (a : Option Addr) (l : List UInt8) (c : Nat), l.length ≤ c → Bts w a l → (∀ b o, a = some ⟨b, o, none⟩ → b ∉ S) → st.unErr l ≠ 0 →
    Calls Tryz.prog 20 #[g, .slice a l.length c] w fun e w' => e = .returned (.tuple #[.agg #[.int .i64 0, .int .i64 0, .slice none 0 0], .int .i64 (st.unErr l)]) ∧ Outside S w w' ∧ ∃ S' wk', Fresh w S S' ∧ Rep w' S' g st wk' ∧ wk ≤ wk' ∧ wk' ≤ wk + (if st.unPre l = 0 then st.bound (unWho l) (unGen l) (l.length - 7) else 0)
  un : ∀ {w S g st wk}, st.Ok → Rep w S g st wk → Glob w → ∀ (a : Option Addr) (l : List UInt8) (c : Nat), l.length ≤ c → Bts w a l → (∀ b o, a = some ⟨b, o, none⟩ → b ∉ S) → st.unErr l = 0 →
    Calls Tryz.prog 20 #[g, .slice a l.length c] w fun e w' => Outside S w w' ∧ ∃ S' wk' f o cap, Fresh w S S' ∧ Rep w' S' g (st.unNext l) wk' ∧ wk < wk' ∧ wk' ≤ wk + st.bound (unWho l) (unGen l) (l.length - 7) ∧
      e = .returned (.tuple #[.agg #[.int .i64 (unWho l), .int .i64 (unGen l), .slice (some ⟨f, o, none⟩) (l.length - 7) cap], .int .i64 0]) ∧ w.heap.size ≤ f ∧ f < w'.heap.size ∧ f ∉ S' ∧ l.length - 7 ≤ cap ∧ Bts w' (some ⟨f, o, none⟩) (st.unText l) ∧ ∀ i, i < l.length - 7 → w'.frozen? ⟨f, o + i, none⟩ = false
  close : ∀ {w S g st wk}, st.Ok → Rep w S g st wk → Glob w → st.closed = false → Calls Tryz.prog 24 #[g] w fun e w' => e = .returned (.int .i64 0) ∧ Outside S w w' ∧ ∃ S', Fresh w S S' ∧ Rep w' S' g st.shut wk
  closeErr : ∀ {w S g st wk}, st.Ok → Rep w S g st wk → Glob w → st.closed = true → Calls Tryz.prog 24 #[g] w fun e w' => e = .returned (.int .i64 9) ∧ Outside S w w' ∧ ∃ S', Fresh w S S' ∧ Rep w' S' g st wk

/-- a side: the program's group and the other's, in one state -/
abbrev CellsS (g : Value) (rb : Nat) (wk : Int) : Array Value := #[g, .pointer (some ⟨rb, 0, none⟩), .int .i64 wk]
set_option maxHeartbeats 1000000 in
theorem worked_any {Rep : World → List Nat → Value → St → Nat → Prop} (C : Code Rep) (w : World) (sb : Nat) (S T : List Nat) (g : Value) (rb : Nat) (st : St) (wk0 wk : Nat) (steps : Nat) (some_ : Bool) (ok : st.Ok)
    (hrow : w.heap[sb]? = some (.cells (CellsS g rb wk0) 71 (0, 0))) (hrep : Rep w S g st wk) (href : RefRep w T rb st steps) (hs1 : sb ∉ S) (hs2 : sb ∉ T) (hst : ∀ k, k ∈ S → k ∉ T)
    (h1 : wk0 ≤ wk) (h2 : wk ≤ wk0 + steps) (h3 : some_ = true → wk0 < wk) (h4 : wk ≤ 1000000000000) (h5 : steps ≤ 1000000000) :
    Calls Tryz.prog 69 #[.pointer (some ⟨sb, 0, none⟩), .bool some_] w fun e w' => e = .returned (.bool true) ∧ Outside (sb :: S) w w' ∧ w'.heap[sb]? = some (.cells (CellsS g rb wk) 71 (0, 0)) ∧ ∃ S', Fresh w S S' ∧ Rep w' S' g st wk := by
  obtain ⟨mb, cs, ov, hr⟩ := href
  have hrs : rb ≠ sb := fun e => hs2 (e ▸ hr.2.1)
  have HW : Hid (Calls Tryz.prog 23 #[g] w fun e w' => e = .returned (.int .i64 wk) ∧ Outside S w w' ∧ ∃ S', Fresh w S S' ∧ Rep w' S' g st wk) := C.work ok h4 hrep
  obtain ⟨hA, hAf⟩ := row_facts' hrow
  have HR : Hid (RefG w T rb mb cs ov st steps) := hr
  have HROW : Hid (w.heap[sb]? = some (.cells (CellsS g rb wk0) 71 (0, 0))) := hrow
  have HRT : Hid (rb ∉ S) := fun h => hst _ h hr.2.1
  have HD1 : Hid (sb ∉ S) := hs1
  have HREP : Hid (Rep w S g st wk) := hrep
  clear hr hrow hst hrep hs1 hs2
  go_enter Tryz.func69, Tryz.ntmps69
  go_wp2_with fail
  refine HW.out.mono ?_
  rintro e w1 ⟨rfl, hout, S', hfr, hrep1⟩
  have hrow1 := hout.row HROW.out HD1.out
  have hrb1 := hout.row HR.out.2.2.2.1 HRT.out
  clear hA hAf
  obtain ⟨hA, hAf⟩ := row_facts' hrow1
  obtain ⟨hB, _⟩ := row_facts' hrb1
  have HO : Hid (Outside S w w1) := hout
  have HF : Hid (Fresh w S S') := hfr
  have HP : Hid (Rep w1 S' g st wk) := hrep1
  have HROW1 : Hid (w1.heap[sb]? = some (.cells (CellsS g rb wk0) 71 (0, 0))) := hrow1
  clear hout hfr hrep1 hrow1 hrb1
  cases some_ with
  | true =>
    have h3' : wk0 < wk := h3 rfl
    clear h3
    go_wp2_with fail
    go_ret
    refine ⟨rfl, ?_, ?_, S', HF.out, ?_⟩
    · exact (HO.out.mono (S' := sb :: S) fun i hi _ => List.mem_cons_of_mem _ hi).setCell ⟨sb, 2, none⟩ (fun _ => List.mem_cons_self) _
    · rw [setCell_eq_setRow w1 sb 2 _ _ (0, 0) _ HROW1.out]
      exact setRow_heap _ _ _ _ _ _ HROW1.out
    · refine C.keep HP.out (by simp [World.setCell]) fun k _ hk => Below.heap_setCell _ _ _ _ (fun e => ?_)
      rw [show k = sb from e] at hk
      rcases HF.out _ hk with h | h
      · exact HD1.out h
      · have := (Array.getElem?_eq_some_iff.1 HROW.out).1
        omega
  | false =>
    clear h3
    go_wp2_with fail
    go_ret
    refine ⟨rfl, ?_, ?_, S', HF.out, ?_⟩
    · exact (HO.out.mono (S' := sb :: S) fun i hi _ => List.mem_cons_of_mem _ hi).setCell ⟨sb, 2, none⟩ (fun _ => List.mem_cons_self) _
    · rw [setCell_eq_setRow w1 sb 2 _ _ (0, 0) _ HROW1.out]
      exact setRow_heap _ _ _ _ _ _ HROW1.out
    · refine C.keep HP.out (by simp [World.setCell]) fun k _ hk => Below.heap_setCell _ _ _ _ (fun e => ?_)
      rw [show k = sb from e] at hk
      rcases HF.out _ hk with h | h
      · exact HD1.out h
      · have := (Array.getElem?_eq_some_iff.1 HROW.out).1
        omega

theorem Bts.out {w w' : World} {S : List Nat} {a : Option Addr} {l : List UInt8} (h : Bts w a l) (ho : Outside S w w') (hn : ∀ b o, a = some ⟨b, o, none⟩ → b ∉ S) : Bts w' a l := by
  rcases h with h | ⟨b, o, rfl, hc⟩
  · exact .inl h
  · refine .inr ⟨b, o, rfl, fun i hi => ?_⟩
    have hci := hc i hi
    rw [← hci]
    exact World.cell?_of_block (w := w) (ho.block b (block_lt_of_cell hci) (hn b o rfl))

/-- a side, at block sb, within the blocks U -/
def Side (Rep : World → List Nat → Value → St → Nat → Prop) (w : World) (sb : Nat) (U : List Nat) (st : St) (wk : Nat) : Prop :=
  ∃ S T g rb, ∃ steps : Nat, U = sb :: (S ++ T) ∧ st.Ok ∧ w.heap[sb]? = some (.cells (CellsS g rb wk) 71 (0, 0)) ∧ Rep w S g st wk ∧ RefRep w T rb st steps ∧ sb ∉ S ∧ sb ∉ T ∧ (∀ k, k ∈ S → k ∉ T) ∧ (∀ k, k ∈ T → k < w.heap.size)
theorem Side.lt {Rep : World → List Nat → Value → St → Nat → Prop} (C : Code Rep) {w : World} {sb : Nat} {U : List Nat} {st : St} {wk : Nat} (h : Side Rep w sb U st wk) : ∀ k, k ∈ U → k < w.heap.size := by
  obtain ⟨S, T, g, rb, steps, rfl, ok, h1, h2, h3, h4, h5, h6, h7⟩ := h
  intro k hk
  rcases List.mem_cons.1 hk with h | h
  · subst h; exact (Array.getElem?_eq_some_iff.1 h1).1
  · rcases List.mem_append.1 h with h | h
    · exact C.lt h2 k h
    · exact h7 k h
theorem Side.keep {Rep : World → List Nat → Value → St → Nat → Prop} (C : Code Rep) {w w' : World} {sb : Nat} {U : List Nat} {st : St} {wk : Nat} (h : Side Rep w sb U st wk) (hs : w.heap.size ≤ w'.heap.size) (hk : ∀ k, k < w.heap.size → k ∈ U → w'.heap[k]? = w.heap[k]?) : Side Rep w' sb U st wk := by
  obtain ⟨S, T, g, rb, steps, rfl, ok, h1, h2, h3, h4, h5, h6, h7⟩ := h
  have l1 := (Array.getElem?_eq_some_iff.1 h1).1
  exact ⟨S, T, g, rb, steps, rfl, ok, by rw [hk _ l1 List.mem_cons_self, h1], C.keep h2 hs (fun k a b => hk k a (List.mem_cons_of_mem _ (List.mem_append_left _ b))), h3.keep (fun k a b => hk k a (List.mem_cons_of_mem _ (List.mem_append_right _ b))), h4, h5, h6, fun k hk => by have := h7 k hk; omega⟩
theorem St.Ok.protNext {st : St} (h : st.Ok) (hn : (st.m st.own).next ≤ 65535) : st.protNext.Ok := by
  refine ⟨h.hs, h.n1, h.n16, h.own, by show (st.mem.set _ _).length = _; rw [List.length_set]; exact h.len, fun m hm => ?_⟩
  rcases List.mem_or_eq_of_mem_set hm with hm | rfl
  · exact h.mem m hm
  · obtain ⟨a, b, c, d⟩ := h.m st.own
    exact ⟨by show _ + 1 ≤ _; omega, b, c, fun e => by cases e⟩
theorem protErr_cases (st : St) (n : Nat) : st.protErr n = 0 ∨ st.protErr n = 9 ∨ st.protErr n = 2 ∨ st.protErr n = 8 := by
  unfold St.protErr
  split
  · simp
  · split
    · simp
    · split <;> simp
theorem protErr_zero {st : St} {n : Nat} (h : st.protErr n = 0) : n ≤ 40 ∧ (st.m st.own).next ≤ 65535 := by
  unfold St.protErr at h
  split at h
  · omega
  · split at h
    · omega
    · split at h
      · omega
      · exact ⟨by omega, by omega⟩

/-- the ends of a step on one side: the program's call, the other's, the look at the work -/
theorem side_fin {Rep : World → List Nat → Value → St → Nat → Prop} (C : Code Rep) {w w1 w2 w3 w4 : World} {sb : Nat} {S T S' S'' : List Nat} {g : Value} {rb : Nat} {st : St} {wk : Nat} {steps : Nat} (ok : st.Ok)
    (hsb : sb < w.heap.size) (h4 : sb ∉ S) (h5 : sb ∉ T) (h6 : ∀ k, k ∈ S → k ∉ T) (h7 : ∀ k, k ∈ T → k < w.heap.size) (b1 : Below w.heap.size w w1) (o2 : Outside S w1 w2) (f2 : Fresh w1 S S') (o3 : Outside T w2 w3) (ref3 : RefRep w3 T rb st steps)
    (o4 : Outside (sb :: S') w3 w4) (row4 : w4.heap[sb]? = some (.cells (CellsS g rb wk) 71 (0, 0))) (f4 : Fresh w3 S' S'') (rep4 : Rep w4 S'' g st wk) :
    Outside (sb :: (S ++ T)) w w4 ∧ Fresh w (sb :: (S ++ T)) (sb :: (S'' ++ T)) ∧ Side Rep w4 sb (sb :: (S'' ++ T)) st wk := by
  have z1 := b1.size
  have z2 := o2.size
  have z3 := o3.size
  have z4 := o4.size
  have inS : ∀ k, k ∈ S' → k < w.heap.size → k ∈ S := fun k hk hl => by
    rcases f2 k hk with h | h
    · exact h
    · omega
  have inS2 : ∀ k, k ∈ S'' → k < w.heap.size → k ∈ S := fun k hk hl => by
    rcases f4 k hk with h | h
    · exact inS k h hl
    · omega
  refine ⟨?_, ?_, S'', T, g, rb, steps, rfl, ok, row4, rep4, ?_, ?_, h5, ?_, ?_⟩
  · have a1 : Outside (sb :: (S ++ T)) w w1 := Outside.ofBelow b1
    have a2 := a1.trans o2 (fun i hi _ => List.mem_cons_of_mem _ (List.mem_append_left _ hi))
    have a3 := a2.trans o3 (fun i hi _ => List.mem_cons_of_mem _ (List.mem_append_right _ hi))
    refine a3.trans o4 (fun i hi hl => ?_)
    rcases List.mem_cons.1 hi with h | h
    · rw [h]; exact List.mem_cons_self
    · exact List.mem_cons_of_mem _ (List.mem_append_left _ (inS i h hl))
  · intro k hk
    by_cases hl : k < w.heap.size
    · left
      rcases List.mem_cons.1 hk with h | h
      · rw [h]; exact List.mem_cons_self
      · rcases List.mem_append.1 h with h | h
        · exact List.mem_cons_of_mem _ (List.mem_append_left _ (inS2 k h hl))
        · exact List.mem_cons_of_mem _ (List.mem_append_right _ h)
    · right; omega
  · refine ref3.keep fun k a b => o4.block k a (fun h => ?_)
    rcases List.mem_cons.1 h with h | h
    · exact h5 (h ▸ b)
    · exact h6 k (inS k h (h7 k b)) b
  · exact fun h => h4 (inS2 sb h hsb)
  · exact fun k hk hT => h6 k (inS2 k hk (h7 k hT)) hT
  · intro k hk
    have := h7 k hk
    omega

theorem bound_le (st : St) (n : Nat) (h : n ≤ 40) : st.bound st.own (st.m st.own).next n ≤ 100 := by
  unfold St.bound
  have := DepB_le 16 st.n st.own
  omega
end Go.Proofs.YtkpebabbnndopaaGreatDoor
