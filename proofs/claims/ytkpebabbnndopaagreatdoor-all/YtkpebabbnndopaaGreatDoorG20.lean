import Derived.Test.YtkpebabbnndopaaGreatDoorG17
import Derived.Test.YtkpebabbnndopaaGreatDoorG19
import Derived.Test.YtkpebabbnndopaaGreatDoorC13
import Derived.WalkKit
import Derived.WalkSpells
import Derived.WalkLawsBesides
import Derived.Deep.WholeRow
import Derived.Deep.DeepCutAuto
import Derived.BigRegion
namespace Go.Proofs.YtkpebabbnndopaaGreatDoor
open Go.RowKit

theorem wpList_append_eq {ops : Array Oper} {rest : List Oper} {o : Oper} {a : Act} {w : World} {Q : Exit → Act → World → Prop} (hgd : o.guard = none) (x y : Operand) (t ty : TypeId)
    (ho : o.op = .call { callee := .builtin .append, args := #[x, y], argTypes := #[t, t] }) (hty : o.type = ty) (v u v' : Value) (w' : World) (hx : a.eval x = v) (hy : a.eval y = u)
    (hr : (Builtin.append_ #[t, t] ty #[v, u]).run Tryz.prog w = .ok v' w') (h : wpList Tryz.prog ops Q rest (a.put o.dst v') w') : wpList Tryz.prog ops Q (o :: rest) a w :=
  wpList_plain hgd fun _ hK => by
    subst hty
    unfold Oper.wp execOp
    simp only [ho, resolve, invoke, builtin, Sem.run_bind, Sem.run_pure, Result.andThen_ok, List.map_toArray, List.map_cons, List.map_nil, hx, hy, hr]
    exact hK _ _ h

set_option maxHeartbeats 400000 in
theorem seal_d {F : FuncId} {pre : Array Value} {q : Option Nat} (dv : Drv F pre q) (s : Nat → Int) (hs : ∀ i, 0 ≤ s i ∧ s i < 256) (a : Option Addr) (l : List UInt8) (c : Nat) (hl : l.length ≤ 1000000) (b : Option Addr) (m : List UInt8) (d : Nat) (hm : m.length ≤ 1000000) (w : World) (ha : Bts w a l) (hb : Bts w b m) (hq : Has q w) (hna : ∀ b o, a = some ⟨b, o, none⟩ → q ≠ some b) (hnb : ∀ c o, b = some ⟨c, o, none⟩ → q ≠ some c) :
    Calls Tryz.prog 74 #[Agg8 s, .slice a l.length c, .slice b m.length d, .func (.func F) pre #[]] w fun e w' => ∃ g cap, e = .returned (.slice (some ⟨g, 0, none⟩) (m.length + 4) cap) ∧ m.length + 4 ≤ cap ∧ w.heap.size ≤ g ∧ Tick q ((m.length + 7) / 8 + 1) w w' ∧
      w'.heap[g]? = some (.cells (RowB (SealT s l m) cap) 5 (0, 0)) := by
  have HA : Hid (Bts w a l) := ha
  have HB : Hid (Bts w b m) := hb
  have HQ : Hid (Has q w) := hq
  have HNA : Hid (∀ b o, a = some ⟨b, o, none⟩ → q ≠ some b) := hna
  have HNB : Hid (∀ c o, b = some ⟨c, o, none⟩ → q ≠ some c) := hnb
  clear ha hb hq hna hnb
  go_enter Tryz.func74, Tryz.ntmps74
  go_wp2_with fail
  have bel0 : Tick q 0 w (w.alloc (.cells (Cells8 s) 51)) := (Tick.refl q w).alloc _
  refine (thru_any dv s hs b m d hm (w.alloc (.cells (Cells8 s) 51)) (HB.out.tick bel0 HNB.out) (HQ.out.tick bel0) HNB.out).mono ?_
  rintro e w1 ⟨rfl, hb1, hrow1⟩
  simp only [World.size_alloc] at hrow1
  have hsz1 : w.heap.size + 1 + 1 < w1.heap.size := by
    have := (Array.getElem?_eq_some_iff.1 hrow1).1
    exact this
  have bel1 : Tick q ((m.length + 7) / 8) w w1 := by
    have := bel0.trans hb1
    rwa [Nat.zero_add] at this
  have hkey1 : w1.heap[w.heap.size]? = some (.cells (Cells8 s) 51 (0, 0)) := by rw [hb1.block _ (by simp) (HQ.out.ne (Nat.le_refl _))]; exact (MapKept.heap_alloc _ _).1
  have hml : (MixT s m).length = m.length := MixT_length s m
  have hcell1 : ∀ i (h : i < (MixT s m).length), w1.cell? ⟨w.heap.size + 1 + 1, i, none⟩ = some (cellB (MixT s m)[i]) := fun i h => by rw [cell_of_row _ _ _ _ _ _ hrow1, RowB_at _ _ _ h]
  obtain ⟨T, hT, htag⟩ : ∃ T : Nat → Int, T = Tag s l (MixT s m) ∧ Calls Tryz.prog 104 #[.agg (Cells8 s), .slice a l.length c, .slice (some ⟨w.heap.size + 1 + 1, 0, none⟩) m.length m.length, .func (.func F) pre #[]] w1 fun e w' => e = .returned (.agg (Cells4 T)) ∧ Tick q 1 w1 w' := by
    refine ⟨_, rfl, ?_⟩
    have h := tagOf_any dv s hs a l c hl (some ⟨w.heap.size + 1 + 1, 0, none⟩) (MixT s m) m.length (by omega) w1 (HA.out.tick bel1 HNA.out) (.inr ⟨_, 0, rfl, fun i hi => by rw [Nat.zero_add]; exact hcell1 i hi⟩) (HQ.out.tick bel1)
    rw [hml] at h
    exact h
  have hTb : ∀ i, 0 ≤ T i ∧ T i < 256 := fun i => by rw [hT]; exact Tag_bd _ _ _ _
  have HT : Hid (T = Tag s l (MixT s m)) := hT
  have HTAG : Hid (Calls Tryz.prog 104 #[.agg (Cells8 s), .slice a l.length c, .slice (some ⟨w.heap.size + 1 + 1, 0, none⟩) m.length m.length, .func (.func F) pre #[]] w1 fun e w' => e = .returned (.agg (Cells4 T)) ∧ Tick q 1 w1 w') := htag
  have HC1 : Hid (∀ i (h : i < (MixT s m).length), w1.cell? ⟨w.heap.size + 1 + 1, i, none⟩ = some (cellB (MixT s m)[i])) := hcell1
  clear hT htag hcell1
  have HML : Hid ((MixT s m).length = m.length) := hml
  clear hml hb1
  go_wp2_with (refine wpList_load_row rfl 51 _ rfl w.heap.size rfl 51 (Cells8 s) (0, 0) _ hkey1 Tryz.underlying51 rfl (by kernel_rfl) ?_)
  refine HTAG.out.mono ?_
  rintro e w2 ⟨rfl, hb2⟩
  have bel2 := bel1.trans hb2
  have hsz2 := hb2.size
  obtain ⟨cap, hcap, happ⟩ := run_append_tag (w2.alloc (.cells (Cells4 T) 197)) (w.heap.size + 1 + 1) m.length (MixT s m) HML.out
    (fun i h => by rw [← HC1.out i h]; exact ((Below.refl _ w2).alloc (Nat.le_refl _) _).cell (p := ⟨w.heap.size + 1 + 1, i, none⟩) (by show w.heap.size + 1 + 1 < _; omega) |>.trans (World.cell?_of_block (w := w1) (a := ⟨w.heap.size + 1 + 1, i, none⟩) (hb2.block (w.heap.size + 1 + 1) hsz1 (HQ.out.ne (by omega)))))
    w2.heap.size (TagB T) rfl
    (fun i h => by
      rw [cell_of_row _ _ _ _ _ _ (MapKept.heap_alloc w2 (.cells (Cells4 T) 197)).1]
      have hc := TagB_cells T hTb
      have h2 : ((TagB T).map cellB)[i]? = some (cellB (TagB T)[i]) := by rw [List.getElem?_map, List.getElem?_eq_getElem h]; rfl
      rw [hc] at h2
      simpa using h2) hm Tryz.prog 34 5 Tryz.underlying34 (by kernel_rfl) 34
  go_wp2_with (at_builtin; refine wpList_append_eq rfl _ _ 34 34 rfl rfl _ _ _ _ rfl rfl happ ?_)
  go_ret
  refine ⟨w2.heap.size + 1, cap, rfl, hcap, by omega, ((bel2.alloc _).drew.alloc _), ?_⟩
  have e := (MapKept.heap_alloc (w2.alloc (.cells (Cells4 T) 197)).drew (.cells (RowB (MixT s m ++ TagB T) cap) 5)).1
  simp only [heap_drew, World.size_alloc] at e
  have eS : SealT s l m = MixT s m ++ TagB T := by rw [HT.out]; rfl
  rw [eS]
  exact e

end Go.Proofs.YtkpebabbnndopaaGreatDoor

/- frameOf. -/
namespace Go.Proofs.YtkpebabbnndopaaGreatDoor
open Go.RowKit
set_option linter.unusedVariables false

set_option maxHeartbeats 4000000 in
set_option maxRecDepth 20000 in
theorem frameOf_any {F : FuncId} {pre : Array Value} {q : Option Nat} (dv : Drv F pre q) (who gen : Nat) (hwho : who < 16) (hg : (gen : Int) ≤ 65535) (s : Nat → Int) (hs : ∀ i, 0 ≤ s i ∧ s i < 256) (a : Option Addr) (m : List UInt8) (d : Nat) (hm : m.length ≤ 100000) (w : World) (ha : Bts w a m) (hq : Has q w) (hna : ∀ b o, a = some ⟨b, o, none⟩ → q ≠ some b) :
    Calls Tryz.prog 48 #[.agg #[.int .i64 who, .int .i64 gen], Agg8 s, .slice a m.length d, .func (.func F) pre #[]] w fun e w' => ∃ g cap, e = .returned (.slice (some ⟨g, 0, none⟩) (HeadB who gen ++ SealT s (HeadB who gen) m).length cap) ∧ (HeadB who gen ++ SealT s (HeadB who gen) m).length ≤ cap ∧ w.heap.size ≤ g ∧ Tick q ((m.length + 7) / 8 + 1) w w' ∧ w'.heap[g]? = some (.cells (RowB (HeadB who gen ++ SealT s (HeadB who gen) m) cap) 5 (0, 0)) := by
  have hH := headV_row who gen hwho hg
  have HHO : Hid (∀ W, Calls Tryz.prog 89 #[.agg #[.int .i64 who, .int .i64 gen]] W fun e w' => e = .returned (.agg (HeadV who gen)) ∧ w' = (W.alloc (.cells #[.int .i64 who, .int .i64 gen] 123)).alloc (.cells (HeadV who gen) 169)) := fun W => head_any who gen hwho hg W
  have hsl : (SealT s (HeadB who gen) m).length = m.length + 4 := SealT_length _ _ _
  -- the world with the key, what headOf made, and the head
  obtain ⟨w1, hw1⟩ : ∃ w1, ((((w.alloc (.cells #[.int .i64 who, .int .i64 gen] 123)).alloc (.cells (Cells8 s) 51)).alloc (.cells #[.int .i64 who, .int .i64 gen] 123)).alloc (.cells (HeadV who gen) 169)).alloc (.cells (HeadV who gen) 169) = w1 := ⟨_, rfl⟩
  have t1 : Tick q 0 w w1 := by rw [← hw1]; exact (((((Tick.refl q w).alloc _).alloc _).alloc _).alloc _).alloc _
  have k1 : w1.heap[w.heap.size + 1]? = some (.cells (Cells8 s) 51 (0, 0)) := by rw [← hw1, Below.heap_alloc _ _ _ (by simp <;> omega), Below.heap_alloc _ _ _ (by simp <;> omega), Below.heap_alloc _ _ _ (by simp)]; have e := (MapKept.heap_alloc (w.alloc (.cells #[.int .i64 who, .int .i64 gen] 123)) (.cells (Cells8 s) 51)).1; simp only [World.size_alloc] at e; exact e
  have h1 : w1.heap[w.heap.size + 1 + 1 + 1 + 1]? = some (.cells (RowB (HeadB who gen) 3) 169 (0, 0)) := by
    rw [← hw1, ← hH]
    have e := (MapKept.heap_alloc ((((w.alloc (.cells #[.int .i64 who, .int .i64 gen] 123)).alloc (.cells (Cells8 s) 51)).alloc (.cells #[.int .i64 who, .int .i64 gen] 123)).alloc (.cells (HeadV who gen) 169)) (.cells (HeadV who gen) 169)).1
    simp only [World.size_alloc] at e
    exact e
  have HSE : Hid (∀ W n, Tick q n w W → W.heap[w.heap.size + 1 + 1 + 1 + 1]? = some (.cells (RowB (HeadB who gen) 3) 169 (0, 0)) → Calls Tryz.prog 74 #[Agg8 s, .slice (some ⟨w.heap.size + 1 + 1 + 1 + 1, 0, none⟩) 3 3, .slice a m.length d, .func (.func F) pre #[]] W fun e w' => ∃ g cap, e = .returned (.slice (some ⟨g, 0, none⟩) (m.length + 4) cap) ∧ m.length + 4 ≤ cap ∧ W.heap.size ≤ g ∧ Tick q ((m.length + 7) / 8 + 1) W w' ∧ w'.heap[g]? = some (.cells (RowB (SealT s (HeadB who gen) m) cap) 5 (0, 0))) := fun W n hW hrow => by
    refine seal_d dv s hs (some ⟨w.heap.size + 1 + 1 + 1 + 1, 0, none⟩) (HeadB who gen) 3 (by show 3 ≤ _; omega) a m d (by omega) W (.inr ⟨_, 0, rfl, fun i hi => by rw [Nat.zero_add, cell_of_row _ _ _ _ _ _ hrow, RowB_at _ _ _ hi]⟩) (ha.tick hW hna) (hq.tick hW) (fun b o e => by cases e; exact hq.ne (by omega)) hna
  have HQ : Hid (Has q w) := hq
  have HK1 : Hid (w1.heap[w.heap.size + 1]? = some (.cells (Cells8 s) 51 (0, 0))) := k1
  have HH1 : Hid (w1.heap[w.heap.size + 1 + 1 + 1 + 1]? = some (.cells (RowB (HeadB who gen) 3) 169 (0, 0))) := h1
  have HT1 : Hid (Tick q 0 w w1) := t1
  have HW1 : Hid (((((w.alloc (.cells #[.int .i64 who, .int .i64 gen] 123)).alloc (.cells (Cells8 s) 51)).alloc (.cells #[.int .i64 who, .int .i64 gen] 123)).alloc (.cells (HeadV who gen) 169)).alloc (.cells (HeadV who gen) 169) = w1) := hw1
  have HSL : Hid ((SealT s (HeadB who gen) m).length = m.length + 4) := hsl
  have HCO : Hid (∀ sb g cap cap2 W, W.heap[sb]? = some (.cells #[.slice (some ⟨w.heap.size + 1 + 1 + 1 + 1, 0, none⟩) 3 cap2, .slice (some ⟨g, 0, none⟩) (m.length + 4) cap] 34 (0, 0)) → W.heap[w.heap.size + 1 + 1 + 1 + 1]? = some (.cells (RowB (HeadB who gen) 3) 169 (0, 0)) → W.heap[g]? = some (.cells (RowB (SealT s (HeadB who gen) m) cap) 5 (0, 0)) → Calls Tryz.prog 90 #[.slice (some ⟨sb, 0, none⟩) 2 2] W fun e w' => ∃ cap, e = .returned (.slice (some ⟨W.heap.size, 0, none⟩) (HeadB who gen ++ SealT s (HeadB who gen) m).length cap) ∧ (HeadB who gen ++ SealT s (HeadB who gen) m).length ≤ cap ∧ Below W.heap.size W w' ∧ w'.heap[W.heap.size]? = some (.cells (RowB (HeadB who gen ++ SealT s (HeadB who gen) m) cap) 5 (0, 0))) := fun sb g cap cap2 W r1 r2 r3 => by
    refine concat_any sb (some ⟨w.heap.size + 1 + 1 + 1 + 1, 0, none⟩) (some ⟨g, 0, none⟩) (HeadB who gen) (SealT s (HeadB who gen) m) cap2 cap (by simp [HeadB]) (by intro e; rw [e] at hsl; simp at hsl) (by rw [hsl]; show 3 + _ ≤ _; omega) W (by rw [hsl]; exact r1) ?_ ?_
    · exact .inr ⟨_, 0, rfl, fun i hi => by rw [Nat.zero_add, cell_of_row _ _ _ _ _ _ r2, RowB_at _ _ _ hi]⟩
    · exact .inr ⟨_, 0, rfl, fun i hi => by rw [Nat.zero_add, cell_of_row _ _ _ _ _ _ r3, RowB_at _ _ _ hi]⟩
  obtain ⟨TX, hTX⟩ : ∃ TX, HeadB who gen ++ SealT s (HeadB who gen) m = TX := ⟨_, rfl⟩
  rw [hTX] at HCO ⊢
  clear hTX hH hsl hw1 t1 k1 h1 ha hq hna hm hs
  go_enter Tryz.func48, Tryz.ntmps48
  go_wp2_with (go_at_call 89; refine (HHO.out _).mono ?_; rintro e w' ⟨rfl, rfl⟩)
  rw [HW1.out]
  obtain ⟨hA, _⟩ : (∀ o, w1.cell? ⟨w.heap.size + 1, o, none⟩ = (Cells8 s)[o]?) ∧ True := ⟨fun o => cell_of_row _ _ _ _ _ _ HK1.out, trivial⟩
  have HLT : Hid (w.heap.size + 1 + 1 + 1 + 1 < w1.drew.heap.size) := (Array.getElem?_eq_some_iff.1 HH1.out).1
  go_region_with (first
    | (go_at_call 74; refine (HSE.out _ 0 HT1.out.drew HH1.out).mono ?_; rintro e w2 ⟨g, cap, rfl, hcap, hg2, t2, r2⟩; have HT2 : Hid (Tick q ((m.length + 7) / 8 + 1) w1.drew w2) := t2; have HR2 : Hid (w2.heap[g]? = some (.cells (RowB (SealT s (HeadB who gen) m) cap) 5 (0, 0))) := r2; have HH2 : Hid (w2.heap[w.heap.size + 1 + 1 + 1 + 1]? = some (.cells (RowB (HeadB who gen) 3) 169 (0, 0))) := (t2.block _ HLT.out (HQ.out.ne (by omega))).trans HH1.out; have HG2 : Hid (w1.drew.heap.size ≤ g) := hg2; clear t2 r2 hcap hg2)
    | (go_at_call 90; refine (HCO.out w2.heap.size g cap 3 _ (MapKept.heap_alloc _ _).1 ((Below.heap_alloc _ _ _ (Array.getElem?_eq_some_iff.1 HH2.out).1).trans HH2.out) ((Below.heap_alloc _ _ _ (Array.getElem?_eq_some_iff.1 HR2.out).1).trans HR2.out)).mono ?_; rintro e w3 ⟨cap3, rfl, hc3, b3, r3⟩))
  all_goals
    go_wp2_with fail
    go_ret
    refine ⟨_, cap3, rfl, hc3, ?_, ?_, by simpa only [World.size_alloc] using r3⟩
    · have := HT2.out.size
      have := HT1.out.size
      simp at *
      omega
    · have := (HT1.out.drew.trans HT2.out).alloc (.cells #[.slice (some ⟨w.heap.size + 1 + 1 + 1 + 1, 0, none⟩) 3 3, .slice (some ⟨g, 0, none⟩) (m.length + 4) cap] 34)
      rw [Nat.zero_add] at this
      exact this.below b3
end Go.Proofs.YtkpebabbnndopaaGreatDoor
