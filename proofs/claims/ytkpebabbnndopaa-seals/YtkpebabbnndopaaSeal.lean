import Derived.Test.YtkpebabbnndopaaThru
import Derived.Test.YtkpebabbnndopaaTagOf
import Derived.Test.YtkpebabbnndopaaPureT
import Derived.WalkKit
import Derived.WalkSpells
import Derived.WalkLawsBesides
namespace Go.Proofs.Ytkpebabbnndopaa
open Go.RowKit

theorem wpList_append_eq {ops : Array Oper} {rest : List Oper} {o : Oper} {a : Act} {w : World} {Q : Exit → Act → World → Prop} (hgd : o.guard = none) (x y : Operand) (t ty : TypeId)
    (ho : o.op = .call { callee := .builtin .append, args := #[x, y], argTypes := #[t, t] }) (hty : o.type = ty) (v u v' : Value) (w' : World) (hx : a.eval x = v) (hy : a.eval y = u)
    (hr : (Builtin.append_ #[t, t] ty #[v, u]).run Try.prog w = .ok v' w') (h : wpList Try.prog ops Q rest (a.put o.dst v') w') : wpList Try.prog ops Q (o :: rest) a w :=
  wpList_plain hgd fun _ hK => by
    subst hty
    unfold Oper.wp execOp
    simp only [ho, resolve, invoke, builtin, Sem.run_bind, Sem.run_pure, Result.andThen_ok, List.map_toArray, List.map_cons, List.map_nil, hx, hy, hr]
    exact hK _ _ h

set_option maxHeartbeats 400000 in
theorem seal_d {F : FuncId} {pre : Array Value} {q : Option Nat} (dv : Drv F pre q) (s : Nat → Int) (hs : ∀ i, 0 ≤ s i ∧ s i < 256) (a : Option Addr) (l : List UInt8) (c : Nat) (hl : l.length ≤ 1000000) (b : Option Addr) (m : List UInt8) (d : Nat) (hm : m.length ≤ 1000000) (w : World) (ha : Bts w a l) (hb : Bts w b m) (hq : Has q w) (hna : ∀ b o, a = some ⟨b, o, none⟩ → q ≠ some b) (hnb : ∀ c o, b = some ⟨c, o, none⟩ → q ≠ some c) :
    Calls Try.prog 20 #[Agg8 s, .slice a l.length c, .slice b m.length d, .func (.func F) pre #[]] w fun e w' => ∃ g cap, e = .returned (.slice (some ⟨g, 0, none⟩) (m.length + 4) cap) ∧ m.length + 4 ≤ cap ∧ w.heap.size ≤ g ∧ Tick q ((m.length + 7) / 8 + 1) w w' ∧
      w'.heap[g]? = some (.cells (RowB (SealT s l m) cap) 5 (0, 0)) := by
  have HA : Hid (Bts w a l) := ha
  have HB : Hid (Bts w b m) := hb
  have HQ : Hid (Has q w) := hq
  have HNA : Hid (∀ b o, a = some ⟨b, o, none⟩ → q ≠ some b) := hna
  have HNB : Hid (∀ c o, b = some ⟨c, o, none⟩ → q ≠ some c) := hnb
  clear ha hb hq hna hnb
  go_enter Try.func20, Try.ntmps20
  go_wp2_with fail
  have bel0 : Tick q 0 w (w.alloc (.cells (Cells8 s) 23)) := (Tick.refl q w).alloc _
  refine (thru_any dv s hs b m d hm (w.alloc (.cells (Cells8 s) 23)) (HB.out.tick bel0 HNB.out) (HQ.out.tick bel0) HNB.out).mono ?_
  rintro e w1 ⟨rfl, hb1, hrow1⟩
  simp only [World.size_alloc] at hrow1
  have hsz1 : w.heap.size + 1 + 1 < w1.heap.size := by
    have := (Array.getElem?_eq_some_iff.1 hrow1).1
    exact this
  have bel1 : Tick q ((m.length + 7) / 8) w w1 := by
    have := bel0.trans hb1
    rwa [Nat.zero_add] at this
  have hkey1 : w1.heap[w.heap.size]? = some (.cells (Cells8 s) 23 (0, 0)) := by rw [hb1.block _ (by simp) (HQ.out.ne (Nat.le_refl _))]; exact (MapKept.heap_alloc _ _).1
  have hml : (MixT s m).length = m.length := MixT_length s m
  have hcell1 : ∀ i (h : i < (MixT s m).length), w1.cell? ⟨w.heap.size + 1 + 1, i, none⟩ = some (cellB (MixT s m)[i]) := fun i h => by rw [cell_of_row _ _ _ _ _ _ hrow1, RowB_at _ _ _ h]
  obtain ⟨T, hT, htag⟩ : ∃ T : Nat → Int, T = Tag s l (MixT s m) ∧ Calls Try.prog 36 #[.agg (Cells8 s), .slice a l.length c, .slice (some ⟨w.heap.size + 1 + 1, 0, none⟩) m.length m.length, .func (.func F) pre #[]] w1 fun e w' => e = .returned (.agg (Cells4 T)) ∧ Tick q 1 w1 w' := by
    refine ⟨_, rfl, ?_⟩
    have h := tagOf_any dv s hs a l c hl (some ⟨w.heap.size + 1 + 1, 0, none⟩) (MixT s m) m.length (by omega) w1 (HA.out.tick bel1 HNA.out) (.inr ⟨_, 0, rfl, fun i hi => by rw [Nat.zero_add]; exact hcell1 i hi⟩) (HQ.out.tick bel1)
    rw [hml] at h
    exact h
  have hTb : ∀ i, 0 ≤ T i ∧ T i < 256 := fun i => by rw [hT]; exact Tag_bd _ _ _ _
  have HT : Hid (T = Tag s l (MixT s m)) := hT
  have HTAG : Hid (Calls Try.prog 36 #[.agg (Cells8 s), .slice a l.length c, .slice (some ⟨w.heap.size + 1 + 1, 0, none⟩) m.length m.length, .func (.func F) pre #[]] w1 fun e w' => e = .returned (.agg (Cells4 T)) ∧ Tick q 1 w1 w') := htag
  have HC1 : Hid (∀ i (h : i < (MixT s m).length), w1.cell? ⟨w.heap.size + 1 + 1, i, none⟩ = some (cellB (MixT s m)[i])) := hcell1
  clear hT htag hcell1
  have HML : Hid ((MixT s m).length = m.length) := hml
  clear hml hb1
  go_wp2_with (refine wpList_load_row rfl 23 _ rfl w.heap.size rfl 23 (Cells8 s) (0, 0) _ hkey1 Try.underlying23 rfl (by kernel_rfl) ?_)
  refine HTAG.out.mono ?_
  rintro e w2 ⟨rfl, hb2⟩
  have bel2 := bel1.trans hb2
  have hsz2 := hb2.size
  obtain ⟨cap, hcap, happ⟩ := run_append_tag (w2.alloc (.cells (Cells4 T) 70)) (w.heap.size + 1 + 1) m.length (MixT s m) HML.out
    (fun i h => by rw [← HC1.out i h]; exact ((Below.refl _ w2).alloc (Nat.le_refl _) _).cell (p := ⟨w.heap.size + 1 + 1, i, none⟩) (by show w.heap.size + 1 + 1 < _; omega) |>.trans (World.cell?_of_block (w := w1) (a := ⟨w.heap.size + 1 + 1, i, none⟩) (hb2.block (w.heap.size + 1 + 1) hsz1 (HQ.out.ne (by omega)))))
    w2.heap.size (TagB T) rfl
    (fun i h => by
      rw [cell_of_row _ _ _ _ _ _ (MapKept.heap_alloc w2 (.cells (Cells4 T) 70)).1]
      have hc := TagB_cells T hTb
      have h2 : ((TagB T).map cellB)[i]? = some (cellB (TagB T)[i]) := by rw [List.getElem?_map, List.getElem?_eq_getElem h]; rfl
      rw [hc] at h2
      simpa using h2) hm Try.prog 27 5 Try.underlying27 (by kernel_rfl) 27
  go_wp2_with (at_builtin; refine wpList_append_eq rfl _ _ 27 27 rfl rfl _ _ _ _ rfl rfl happ ?_)
  go_ret
  refine ⟨w2.heap.size + 1, cap, rfl, hcap, by omega, ((bel2.alloc _).drew.alloc _), ?_⟩
  have e := (MapKept.heap_alloc (w2.alloc (.cells (Cells4 T) 70)).drew (.cells (RowB (MixT s m ++ TagB T) cap) 5)).1
  simp only [heap_drew, World.size_alloc] at e
  have eS : SealT s l m = MixT s m ++ TagB T := by rw [HT.out]; rfl
  rw [eS]
  exact e

end Go.Proofs.Ytkpebabbnndopaa
