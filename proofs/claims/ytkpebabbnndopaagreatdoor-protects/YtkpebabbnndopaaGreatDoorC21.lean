import Derived.Test.YtkpebabbnndopaaGreatDoorRows
import Derived.Test.YtkpebabbnndopaaGreatDoorC08
import Derived.WalkKit
import Derived.Maps.AppendAt
import Derived.Laws.OwnMore
import Derived.Test.YtkpebabbnndopaaGreatDoorC11
import Derived.Test.YtkpebabbnndopaaGreatDoorC12
import Derived.WalkSpells
import Derived.WalkLawsBesides
import Derived.Deep.WholeRow
import Derived.Carry
import Derived.Test.YtkpebabbnndopaaGreatDoorC17
import Derived.Test.YtkpebabbnndopaaGreatDoorC20
import Derived.Test.YtkpebabbnndopaaGreatDoorC15
import Derived.Test.YtkpebabbnndopaaGreatDoorC16
import Derived.Deep.DeepCutAuto
import Derived.Deep.LoopGhost
import Derived.BigRegion
import Derived.Deep.QuietTactic
import Derived.BigQuiet
import Derived.Test.YtkpebabbnndopaaGreatDoorC01
import Derived.Laws.StructEq
/- Lists of what is kept, in memory that a call has made. -/
namespace Go.Proofs.YtkpebabbnndopaaGreatDoor
open Go.RowKit

def Its (w : World) (base : Nat) (v : Value) (l : List It) : Prop := w.ownsRow base 53 12 v l.length (itCells l)
theorem Its.nil (w : World) (base : Nat) : Its w base (.slice none 0 0) [] := ⟨rfl, .inl ⟨rfl, rfl⟩⟩
theorem Its.mono {w : World} {base base' : Nat} {v : Value} {l : List It} (h : Its w base v l) (hb : base' ≤ base) : Its w base' v l := by
  refine ⟨h.1, ?_⟩
  rcases h.2 with h | ⟨g, cap, cur, h1, h2, h3⟩
  · exact .inl h
  · exact .inr ⟨g, cap, cur, h1, by omega, h3⟩
theorem Its.below {w w' : World} {base : Nat} {v : Value} {l : List It} (h : Its w base v l) (hb : Below w.heap.size w w') : Its w' base v l := by
  refine ⟨h.1, ?_⟩
  rcases h.2 with h | ⟨g, cap, cur, h1, h2, h3, h4⟩
  · exact .inl h
  · exact .inr ⟨g, cap, cur, h1, h2, by rw [hb.block _ (Array.getElem?_eq_some_iff.1 h3).1, h3], h4⟩
theorem Its.one (w : World) (base : Nat) (hb : base ≤ w.heap.size) (x : It) : Its (w.alloc (.cells x.cells.toArray 53)) base (.slice (some ⟨w.heap.size, 0, none⟩) 1 1) [x] := by
  have h := World.ownsRow_lit (base := base) (e := 53) (size := 12) w x.cells.toArray 1 hb (by decide) rfl
  have e : itCells [x] = x.cells := by show x.cells ++ [] = _; simp
  unfold Its
  rw [e]
  exact h
theorem Its.cells {w : World} {base : Nat} {g n cap : Nat} {l : List It} (h : Its w base (.slice (some ⟨g, 0, none⟩) n cap) l) : n = l.length ∧ ∀ j u, (itCells l)[j]? = some u → w.cell? ⟨g, j, none⟩ = some u := by
  have hn : n = l.length := by
    rcases h.2 with ⟨h, _⟩ | ⟨g', cap', cur, h1, _⟩
    · cases h
    · cases h1; rfl
  subst hn
  refine ⟨rfl, fun j u hj => ?_⟩
  have hl : j < l.length * 12 := by rw [← itCells_length]; exact (List.getElem?_eq_some_iff.1 hj).1
  rw [World.ownsRow.cellAt h j hl]
  exact hj
theorem its_append (w : World) (base base2 : Nat) (v v2 : Value) (l m : List It) (h : Its w base v l) (h2 : Its w base2 v2 m) (hb : base ≤ w.heap.size) (hl : l.length + m.length ≤ 1000) (ty : TypeId) :
    ∃ v' w', (Builtin.append_ #[45, 45] ty #[v, v2]).run Tryz.prog w = .ok v' w' ∧ Its w' base v' (l ++ m) ∧ Below base w w' ∧ base ≤ w'.heap.size := by
  have hi : (Tryz.prog.info? 53).map (fun i => (i.zero, i.size, i.bytes)) = some (some (.agg #[.int .i64 0, .int .i64 0, .int .i64 0, .int .i64 0, .int .u8 0, .int .u8 0, .int .u8 0, .int .u8 0, .int .u8 0, .int .u8 0, .int .u8 0, .int .u8 0]), 12, 40) := by kernel_rfl
  cases hq : Tryz.prog.info? 53 with
  | none => rw [hq] at hi; simp at hi
  | some i =>
    rw [hq] at hi
    simp at hi
    obtain ⟨hz, hs, hby⟩ := hi
    have hcase : v2 = .slice none 0 0 ∧ m = [] ∨ ∃ g cap, v2 = .slice (some ⟨g, 0, none⟩) m.length cap := by
      rcases h2.2 with ⟨e1, e2⟩ | ⟨g, cap, cur, e1, _⟩
      · exact .inl ⟨e1, List.length_eq_zero_iff.1 e2⟩
      · exact .inr ⟨g, cap, e1⟩
    rcases hcase with ⟨rfl, rfl⟩ | ⟨g, cap, rfl⟩
    · refine ⟨v, w, run_append_owned_none (P := Tryz.prog) w base 45 ty 53 i 12 Tryz.underlying45 hq v l.length (itCells l) h, by rw [List.append_nil]; exact h, Below.refl _ _, hb⟩
    · obtain ⟨v', w', hr, ho, hg, _, hbk⟩ := run_append_own_at (P := Tryz.prog) w base 45 ty 53 i _ 12 40 Tryz.underlying45 hq hz hs hby rfl (by omega) v l.length (itCells l) h ⟨g, 0, none⟩ m.length cap (itCells m) (itCells_length m)
        (fun j u hj => by
          have ea : (⟨g, 0, none⟩ : Addr).add j = ⟨g, j, none⟩ := by unfold Addr.add; split <;> simp_all
          rw [ea]
          exact h2.cells.2 j u hj) (itCells_one m) (by unfold maxLen; omega) (by omega) hb
      refine ⟨v', w', hr, ?_, ?_, ?_⟩
      · unfold Its
        rw [List.length_append, itCells_append]
        exact ho
      · refine (Below.refl base w).grown hg hb (fun k hk => ?_)
        rcases h.2 with ⟨e1, _⟩ | ⟨g', cap', cur, e1, e2, _⟩
        · subst e1; cases hk
        · subst e1; cases hk; exact e2
      · exact Nat.le_trans hb hg.size

/-- append as a step of the walk, by its run -/
theorem wpList_app {ops : Array Oper} {rest : List Oper} {o : Oper} {a : Act} {w : World} {Q : Exit → Act → World → Prop} (hgd : o.guard = none) (x y : Operand) (t ty : TypeId)
    (ho : o.op = .call { callee := .builtin .append, args := #[x, y], argTypes := #[t, t] }) (hty : o.type = ty) (v u v' : Value) (w' : World) (hx : a.eval x = v) (hy : a.eval y = u)
    (hr : (Builtin.append_ #[t, t] ty #[v, u]).run Tryz.prog w = .ok v' w') (h : wpList Tryz.prog ops Q rest (a.put o.dst v') w') : wpList Tryz.prog ops Q (o :: rest) a w :=
  wpList_plain hgd fun _ hK => by
    subst hty
    unfold Oper.wp execOp
    simp only [ho, resolve, invoke, builtin, Sem.run_bind, Sem.run_pure, Result.andThen_ok, List.map_toArray, List.map_cons, List.map_nil, hx, hy, hr]
    exact hK _ _ h

/-- append as a step of a region that draws, by its run -/
theorem step_app {ops : Array Oper} {o : Oper} {a : Act} {w : World} {K : Act → World → Prop} {Q : Exit → Act → World → Prop} {E : Prop}
    (hg : o.guard = none) (s x : Operand) (t ty : TypeId) (hop : o.op = Op.call { callee := Callee.builtin Builtin.append, args := #[s, x], argTypes := #[t, t] }) (hty : o.type = ty) (v u v' : Value) (w' : World)
    (hs : a.eval s = v) (hx : a.eval x = u) (hrun : (Builtin.append_ #[t, t] ty #[v, u]).run Tryz.prog w = .ok v' w') (hK : K (a.put o.dst v') w') :
    if Region.wanted o (yielded ops a.tmps) = true then Oper.wp Tryz.prog o a w K Q else E := by
  have hw : Region.wanted o (yielded ops a.tmps) = true := by simp [Region.wanted, hg]
  rw [if_pos hw]
  subst hty
  unfold Oper.wp
  simp [execOp, hop, resolve, invoke, builtin, hs, hx, hrun, Result.andThen]
  exact hK
end Go.Proofs.YtkpebabbnndopaaGreatDoor

/- New, the items. -/
namespace Go.Proofs.YtkpebabbnndopaaGreatDoor
open Go.RowKit
set_option linter.unusedVariables false

theorem nodeItem_any (f t : Nat) (s : Nat → Int) (w : World) :
    Calls Tryz.prog 52 #[AggP f t s] w fun e w' => e = .returned (.agg (It.cells ⟨0, f, t, 0, s⟩).toArray) ∧ Below w.heap.size w w' := by
  go_enter Tryz.func52, Tryz.ntmps52
  go_wp2_with fail
  refine bodyPost_ret (v := .agg (It.cells ⟨0, f, t, 0, s⟩).toArray) (results_cell_row rfl _ _ (w.heap.size + 1) 53 (It.cells ⟨0, f, t, 0, s⟩).toArray (0, 0) _ rfl ?_ Tryz.underlying53 rfl (by kernel_rfl)) rfl ⟨rfl, ((Below.refl _ w).alloc (Nat.le_refl _) _).alloc (by simp) _⟩
  have e := (MapKept.heap_alloc (w.alloc (.cells (CellsP f t s) 99)) (.cells (It.cells ⟨0, f, t, 0, s⟩).toArray 53)).1
  simp only [World.size_alloc] at e
  exact e
theorem headItem_any (m g : Nat) (hm : m < 16) (bg : Bool) (s : Nat → Int) (w : World) :
    Calls Tryz.prog 54 #[.int .i64 m, AggR bg g s] w fun e w' => e = .returned (.agg (It.cells ⟨1, m, m + 1, g, s⟩).toArray) ∧ Below w.heap.size w w' := by
  have hwr : wrap64 ((m : Int) + 1) = ((m + 1 : Nat) : Int) := by simp only [wrap64]; omega
  have hwr2 : IntKind.i64.wrap ((m : Int) + 1) = ((m + 1 : Nat) : Int) := by rw [IntKind.wrap_i64]; omega
  obtain ⟨M, hM⟩ : ∃ M : Int, (m : Int) = M := ⟨_, rfl⟩
  obtain ⟨M1, hM1⟩ : ∃ M : Int, ((m + 1 : Nat) : Int) = M := ⟨_, rfl⟩
  have e1 : It.cells ⟨1, m, m + 1, g, s⟩ = [.int .i64 1, .int .i64 M, .int .i64 M1, .int .i64 g, .int .u8 (s 0), .int .u8 (s 1), .int .u8 (s 2), .int .u8 (s 3), .int .u8 (s 4), .int .u8 (s 5), .int .u8 (s 6), .int .u8 (s 7)] := by unfold It.cells; rw [hM, hM1]; rfl
  rw [e1]
  rw [hM, hM1] at hwr hwr2
  rw [hM]
  clear hM hM1 e1 hm
  go_enter Tryz.func54, Tryz.ntmps54
  go_wp2_with fail
  refine bodyPost_ret (v := .agg [.int .i64 1, .int .i64 M, .int .i64 M1, .int .i64 g, .int .u8 (s 0), .int .u8 (s 1), .int .u8 (s 2), .int .u8 (s 3), .int .u8 (s 4), .int .u8 (s 5), .int .u8 (s 6), .int .u8 (s 7)].toArray) (results_cell_row rfl _ _ (w.heap.size + 1) 53 _ (0, 0) _ rfl ?_ Tryz.underlying53 rfl (by kernel_rfl)) rfl ⟨rfl, ((Below.refl _ w).alloc (Nat.le_refl _) _).alloc (by simp) _⟩
  have e := (MapKept.heap_alloc (w.alloc (.cells (CellsR bg g s) 104)) (.cells [.int .i64 1, .int .i64 M, .int .i64 M1, .int .i64 g, .int .u8 (s 0), .int .u8 (s 1), .int .u8 (s 2), .int .u8 (s 3), .int .u8 (s 4), .int .u8 (s 5), .int .u8 (s 6), .int .u8 (s 7)].toArray 53)).1
  simp only [World.size_alloc] at e
  exact e
set_option maxHeartbeats 1000000 in
theorem newErr_any (s : Nat → Int) (n m : Int) (hf : FitB n m = false) (w : World) :
    Calls Tryz.prog 25 #[Agg8 s, .int .i64 n, .int .i64 m] w fun e w' => e = .returned (.tuple #[.pointer none, .int .i64 1]) ∧ Below w.heap.size w w' := by
  have HM : Hid (∀ W, Calls Tryz.prog 62 #[.int .i64 n, .int .i64 m] W fun e w' => e = .returned (.bool false) ∧ w' = W) := fun W => by rw [← hf]; exact hasMember_any n m W
  clear hf
  go_enter Tryz.func25, Tryz.ntmps25
  go_wp2_with (go_at_call 62; refine (HM.out _).mono ?_; rintro e w' ⟨rfl, rfl⟩)
  go_ret2
  exact ⟨rfl, (Below.refl _ w).alloc (Nat.le_refl _) _⟩
theorem foldl_putL : ∀ (l : List Value) (k : Nat) (Z : Array Value), List.foldl (fun (cs : Array Value) (x : Value × Nat) => cs.setIfInBounds (8 + x.snd) x.fst) Z (l.zipIdx k) = putL Z (8 + k) l
  | [], _, _ => rfl
  | v :: r, k, Z => by
    rw [List.zipIdx_cons, List.foldl_cons, foldl_putL r (k + 1), putL]
    rfl
theorem fold_row (Z TT : Array Value) (h : TT.size = 161) : Array.foldl (fun (cs : Array Value) (x : Value × Nat) => cs.setIfInBounds (8 + x.snd) x.fst) Z TT.zipIdx 0 161 = putL Z 8 TT.toList := by
  have hs : TT.zipIdx.size = 161 := by simp [h]
  have e := foldl_putL TT.toList 0 Z
  rw [Nat.add_zero] at e
  rw [← e, ← hs, ← Array.foldl_toList]
  simp
theorem zero_own : Tryz.zeroCells112.size = 331 ∧ Tryz.zeroCells112[7]? = some (.bool false) ∧ Tryz.zeroCells112[330]? = some (.int .i64 0) := ⟨by kernel_rfl, by kernel_rfl, by kernel_rfl⟩
theorem zero_head : Tryz.zeroCells112[0]? = some (i32 0) ∧ Tryz.zeroCells112[2]? = some (.int .u32 0) ∧ Tryz.zeroCells112[3]? = some (i32 0) := ⟨by kernel_rfl, by kernel_rfl, by kernel_rfl⟩
theorem zero_rat : ∀ i, i < 16 → (Tryz.zeroCells112.extract (169 + i * 10) (169 + i * 10 + 10)).toList = (CellsR false 0 fun _ => 0).toList := by
  intro i hi
  rcases i with _ | _ | _ | _ | _ | _ | _ | _ | _ | _ | _ | _ | _ | _ | _ | _ | i <;> first | omega | kernel_rfl
/-- a new group's cells -/
theorem ones_of_all {cs : Array Value} (h : cs.all (·.oneCell') = true) : Ones cs := fun _ v hv => Array.all_eq_true_iff_forall_mem.1 h v (Array.mem_of_getElem? hv)
theorem zero_ones : Tryz.zeroCells112.all (·.oneCell') = true := by kernel_rfl
def newCells (Z : Array Value) (n m : Int) (TT : Array Value) (pm : Nat) : Array Value := (putL ((Z.setIfInBounds 5 (.int .i64 n)).setIfInBounds 6 (.int .i64 m)) 8 TT.toList).setIfInBounds 329 (.map (some pm))
set_option maxHeartbeats 1000000 in
set_option maxRecDepth 20000 in
theorem new_raw (s : Nat → Int) (n m : Int) (hf : FitB n m = true) (w : World) :
    Calls Tryz.prog 25 #[Agg8 s, .int .i64 n, .int .i64 m] w fun e w' => ∃ b pm, e = .returned (.tuple #[.pointer (some ⟨b, 0, none⟩), .int .i64 0]) ∧ w.heap.size ≤ pm ∧ pm < b ∧ Below w.heap.size w w' ∧ w'.heap[pm]? = some (.map #[] 0) ∧ w'.heap[b]? = some (.cells (newCells Tryz.zeroCells112 n m (TZ Tryz.zeroCells102 n s) pm) 112 (0, 0)) := by
  have HM : Hid (∀ W, Calls Tryz.prog 62 #[.int .i64 n, .int .i64 m] W fun e w' => e = .returned (.bool true) ∧ w' = W) := fun W => by rw [← hf]; exact hasMember_any n m W
  have HT : Hid (∀ W, Calls Tryz.prog 63 #[Agg8 s, .int .i64 n] W fun e w' => e = .returned (.agg (TZ Tryz.zeroCells102 n s)) ∧ Below W.heap.size W w') := fun W => wholeTree_any s n W
  have hTs := TC_size n s
  have hTo := TC_one n s
  obtain ⟨TT, hTT⟩ : ∃ TT, TZ Tryz.zeroCells102 n s = TT := ⟨_, rfl⟩
  rw [hTT] at hTs hTo HT ⊢
  have HFR : Hid (∀ Z, Array.foldl (fun (cs : Array Value) (x : Value × Nat) => cs.setIfInBounds (8 + x.snd) x.fst) Z TT.zipIdx 0 161 = putL Z 8 TT.toList) := fun Z => fold_row Z TT hTs
  clear hf hTT
  have hmm := @run_makeMap Tryz.prog
  go_enter Tryz.func25, Tryz.ntmps25
  go_wp2_with (go_at_call 62; refine (HM.out _).mono ?_; rintro e w' ⟨rfl, rfl⟩)
  refine (HT.out _).mono ?_
  rintro e w1 ⟨rfl, b1⟩
  have d1 : Below w.heap.size w w1 := ((Below.refl _ w).alloc (Nat.le_refl _) _).trans (b1.mono (by simp))
  have z1 : w.heap.size ≤ w1.heap.size := d1.size
  clear b1
  go_wp2_with fail
  · rw [HFR.out, putL_size, Array.size_setIfInBounds, Array.size_setIfInBounds, zero_own.1] at h
    omega
  · go_ret2
    refine ⟨w1.heap.size + 1, w1.heap.size, rfl, z1, Nat.lt_succ_self _, (d1.alloc z1 _).alloc (by simp; omega) _, ?_, ?_⟩
    · rw [Below.heap_alloc _ _ _ (by simp)]
      exact (MapKept.heap_alloc _ _).1
    · rw [HFR.out]
      have e := (MapKept.heap_alloc (w1.alloc (.map #[] 0)) (.cells (newCells Tryz.zeroCells112 n m TT w1.heap.size) 112)).1
      simp only [World.size_alloc] at e
      exact e
theorem new_any (s : Nat → Int) (hs : ∀ i, 0 ≤ s i ∧ s i < 256) (n m : Nat) (h1 : 1 ≤ n) (h2 : n ≤ 16) (hm : m < n) (w : World) :
    Calls Tryz.prog 25 #[Agg8 s, .int .i64 n, .int .i64 m] w fun e w' => ∃ b pm cs, e = .returned (.tuple #[.pointer (some ⟨b, 0, none⟩), .int .i64 0]) ∧ Below w.heap.size w w' ∧ w.heap.size ≤ b ∧ w.heap.size ≤ pm ∧ b ≠ pm ∧ Home (some b) b 112 cs w' ∧ GrpAt cs (St.new s n m) 0 pm 0 ∧ w'.heap[pm]? = some (.map #[] 0) := by
  have hf : FitB n m = true := (fitB_iff _ _).2 ⟨by omega, by omega, by omega, by omega⟩
  obtain ⟨z1, z2, z3⟩ := zero_own
  have ts := TC_size n s
  have tt := TC_tree n h2 s hs
  have tone := TC_one n s
  rw [← Array.all_toList] at tone
  have hm' : ∀ i, (St.new s n m).m i = ⟨false, 0, []⟩ := St.new_m s n m
  refine (new_raw s n m hf w).mono fun e w' ⟨b, pm, e1, e2, e3, e4, e5, e6⟩ => ?_
  obtain ⟨TT, hTT⟩ : ∃ TT, TZ Tryz.zeroCells102 n s = TT := ⟨_, rfl⟩
  rw [hTT] at ts tt e6 tone
  have hlen : TT.toList.length = 161 := by rw [Array.length_toList, ts]
  have hc : ∀ j, j ≠ 329 → (newCells Tryz.zeroCells112 n m TT pm)[j]? = (putL ((Tryz.zeroCells112.setIfInBounds 5 (.int .i64 (n : Int))).setIfInBounds 6 (.int .i64 (m : Int))) 8 TT.toList)[j]? := fun j hj => by
    unfold newCells
    rw [Array.getElem?_setIfInBounds, if_neg (by omega)]
  have ho : ∀ j, j ≠ 329 → (j < 8 ∨ 169 ≤ j) → j ≠ 5 → j ≠ 6 → (newCells Tryz.zeroCells112 n m TT pm)[j]? = Tryz.zeroCells112[j]? := fun j hj h3 h4 h5 => by
    rw [hc j hj, putL_out _ _ _ _ (by rw [hlen]; omega), Array.getElem?_setIfInBounds, if_neg (by omega), Array.getElem?_setIfInBounds, if_neg (by omega)]
  have hz : (newCells Tryz.zeroCells112 n m TT pm).size = 331 := by
    unfold newCells
    rw [Array.size_setIfInBounds, putL_size, Array.size_setIfInBounds, Array.size_setIfInBounds, z1]
  have hones : Ones (newCells Tryz.zeroCells112 n m TT pm) := by
    unfold newCells
    exact (Ones.putL _ _ (((ones_of_all zero_ones).set _ _ rfl).set _ _ rfl) tone).set _ _ rfl
  have hct : (newCells Tryz.zeroCells112 n m TT pm)[330]? = some (.int .i64 0) := by rw [ho _ (by omega) (by omega) (by omega) (by omega)]; exact z3
  refine ⟨b, pm, _, e1, e4, by omega, e2, by omega, Home.own e6 ⟨0, hct⟩, ⟨hz, ?_, ?_, ?_, ?_, fun i hi => ?_, ?_, hct, hones, ?_⟩, e5⟩
  · rw [hc _ (by omega), putL_out _ _ _ _ (.inl (by omega)), Array.getElem?_setIfInBounds, if_neg (by omega), Array.getElem?_setIfInBounds, if_pos rfl, if_pos (by omega)]; rfl
  · rw [hc _ (by omega), putL_out _ _ _ _ (.inl (by omega)), Array.getElem?_setIfInBounds, if_pos rfl, if_pos (by rw [Array.size_setIfInBounds]; omega)]; rfl
  · rw [ho _ (by omega) (by omega) (by omega) (by omega)]; exact z2
  · have hb : (St.new s n m).begun 0 n = false := by
      unfold St.begun
      rw [List.any_eq_false]
      intro i _
      rw [hm']; simp
    have hp : ((St.new s n m).parts 16 0 (St.new s n m).n).map itPart = [⟨0, n, s⟩] := by
      show ((St.new s n m).parts 16 0 n).map itPart = _
      rw [St.parts_not _ _ _ _ hb]
      have : (St.new s n m).part 0 n = s := St.part_all (St.new s n m)
      rw [this]
      rfl
    rw [hp]
    have hat : AtL (putL ((Tryz.zeroCells112.setIfInBounds 5 (.int .i64 (n : Int))).setIfInBounds 6 (.int .i64 (m : Int))) 8 TT.toList) 8 TT.toList := putL_at _ _ _ (by rw [hlen, Array.size_setIfInBounds, Array.size_setIfInBounds, z1]; omega)
    have hat2 : AtL (newCells Tryz.zeroCells112 n m TT pm) 8 TT.toList := fun j v hv => by
      have hj := (List.getElem?_eq_some_iff.1 hv).1
      rw [hc _ (by omega)]
      exact hat j v hv
    refine ⟨tt.len, fun j v hv => hat2 j v ?_, hat2 160 _ ?_, tt.ok⟩
    · have := tt.parts j v hv
      rw [Nat.zero_add] at this
      rw [Array.getElem?_toList]; exact this
    · have := tt.count
      rw [Nat.zero_add] at this
      rw [Array.getElem?_toList]; exact this
  · rw [hm']
    have hr0 : (St.new s n m).ratS i = fun _ => 0 := by unfold St.ratS; rw [hm']; rfl
    rw [hr0]
    intro j v hv
    have hj : j < 10 := (List.getElem?_eq_some_iff.1 hv).1
    have hv2 : (CellsR false 0 fun _ => 0).toList[j]? = some v := hv
    rw [ho _ (by omega) (by omega) (by omega) (by omega)]
    rw [← zero_rat i hi, Array.getElem?_toList, Array.getElem?_extract, if_pos (by omega)] at hv2
    exact hv2
  · unfold newCells
    rw [Array.getElem?_setIfInBounds, if_pos rfl, if_pos (by rw [putL_size, Array.size_setIfInBounds, Array.size_setIfInBounds, z1]; omega)]
  · rw [ho _ (by omega) (by omega) (by omega) (by omega), ho _ (by omega) (by omega) (by omega) (by omega), ho _ (by omega) (by omega) (by omega) (by omega)]
    exact zero_head
end Go.Proofs.YtkpebabbnndopaaGreatDoor

/- A group in memory, whatever its state. -/
namespace Go.Proofs.YtkpebabbnndopaaGreatDoor
open Go.RowKit
set_option linter.unusedVariables false

theorem KeepAt.empty {w : World} {pm : Nat} (h : w.heap[pm]? = some (.map #[] 0)) (B : PlI → Nat) (key : PlI → Nat → Int) : KeepAt w pm [] B key :=
  ⟨⟨.map [], ⟨#[], 0, h, ⟨by simp, by constructor <;> simp, by simp⟩, Nat.le_refl _, rfl⟩, KeepD.empty B⟩, fun _ h => (by cases h), fun _ h => (by cases h)⟩
/-- the places whose keys are kept -/
def St.kl (st : St) : List PlI := if st.closed then [] else keptL st st.n
theorem kl_open {st : St} (h : st.closed = false) : st.kl = keptL st st.n := by unfold St.kl; rw [h]; rfl
theorem kl_shut {st : St} (h : st.closed = true) : st.kl = [] := by unfold St.kl; rw [h]; rfl
/-- the cells of a group whose epoch is over -/
structure ShutAt (cs : Array Value) (wk pm : Nat) (lk : Int) : Prop where
  size : cs.size = 331
  over : cs[7]? = some (.bool true)
  tree : TreeAt cs 8 []
  rat : ∀ i, i < 16 → RatAt cs (169 + i * 10) false 0 (fun _ => 0)
  passed : cs[329]? = some (.map (some pm))
  cnt : cs[ctrOff]? = some (ctr wk)
  ones : Ones cs
  head : cs[0]? = some (i32 lk) ∧ cs[2]? = some (.int .u32 1) ∧ cs[3]? = some (i32 0)
theorem ShutAt.locked {cs : Array Value} {wk pm : Nat} {lk : Int} (h : ShutAt cs wk pm lk) (k : Int) : ShutAt (cs.setIfInBounds 0 (i32 k)) wk pm k := by
  have e : ∀ j, j ≠ 0 → (cs.setIfInBounds 0 (i32 k))[j]? = cs[j]? := fun j hj => by rw [Array.getElem?_setIfInBounds, if_neg (by omega)]
  have hT := h.tree
  exact ⟨by rw [Array.size_setIfInBounds]; exact h.size, by rw [e _ (by omega)]; exact h.over, ⟨hT.len, fun j v hv => by rw [e _ (by omega)]; exact hT.parts j v hv, by rw [e _ (by omega)]; exact hT.count, hT.ok⟩,
    fun i hi j v hv => by rw [e _ (by omega)]; exact h.rat i hi j v hv, by rw [e _ (by omega)]; exact h.passed, by rw [e _ (by show 330 ≠ 0; omega)]; exact h.cnt, h.ones.set _ _ rfl, set_lock h.head.1, by rw [e _ (by omega)]; exact h.head.2.1, by rw [e _ (by omega)]; exact h.head.2.2⟩
/-- a group's cells, whether its epoch is over or not -/
def GAt (cs : Array Value) (st : St) (wk pm : Nat) (lk : Int) : Prop := (st.closed = false ∧ GrpAt cs st wk pm lk) ∨ (st.closed = true ∧ ShutAt cs wk pm lk)
theorem GAt.lock {cs : Array Value} {st : St} {wk pm : Nat} {lk : Int} (h : GAt cs st wk pm lk) : cs[0]? = some (i32 lk) := by
  rcases h with ⟨_, h⟩ | ⟨_, h⟩
  · exact h.head.1
  · exact h.head.1
theorem GAt.cnt {cs : Array Value} {st : St} {wk pm : Nat} {lk : Int} (h : GAt cs st wk pm lk) : cs[ctrOff]? = some (ctr wk) := by
  rcases h with ⟨_, h⟩ | ⟨_, h⟩
  · exact h.cnt
  · exact h.cnt
/-- the blocks S are a group in the state st -/
structure GrpIn (w : World) (S : List Nat) (b pm : Nat) (cs : Array Value) (B : PlI → Nat) (st : St) (wk : Nat) : Prop where
  blocks : S = b :: pm :: st.kl.map B
  ne : b ≠ pm
  apart : ∀ x, x ∈ st.kl → B x ≠ b
  home : Home (some b) b 112 cs w
  keep : KeepAt w pm st.kl B st.keyP
  asc : Asc st
  cells : GAt cs st wk pm 0
def Grp (w : World) (S : List Nat) (g : Value) (st : St) (wk : Nat) : Prop := ∃ b pm cs B, g = .pointer (some ⟨b, 0, none⟩) ∧ GrpIn w S b pm cs B st wk
theorem GrpIn.lt {w : World} {S : List Nat} {b pm : Nat} {cs : Array Value} {B : PlI → Nat} {st : St} {wk : Nat} (h : GrpIn w S b pm cs B st wk) (k : Nat) (hk : k ∈ S) : k < w.heap.size := by
  rw [h.blocks] at hk
  simp only [List.mem_cons] at hk
  rcases hk with rfl | rfl | hk
  · exact h.home.lt
  · exact h.keep.lt
  · obtain ⟨y, hy, rfl⟩ := List.mem_map.1 hk
    exact (Array.getElem?_eq_some_iff.1 (h.keep.row y hy)).1
theorem GrpIn.kept {w w' : World} {S : List Nat} {b pm : Nat} {cs : Array Value} {B : PlI → Nat} {st : St} {wk : Nat} (h : GrpIn w S b pm cs B st wk) (hk : ∀ k, k < w.heap.size → k ∈ S → w'.heap[k]? = w.heap[k]?) : GrpIn w' S b pm cs B st wk := by
  have hb : b ∈ S := by rw [h.blocks]; simp
  refine ⟨h.blocks, h.ne, h.apart, Home.own (by rw [hk b h.home.lt hb]; exact h.home.row) h.home.cnt, h.keep.keep fun k hl hm => hk k hl ?_, h.asc, h.cells⟩
  rw [h.blocks]
  rcases hm with rfl | hm
  · simp
  · simp only [List.mem_cons]
    exact .inr (.inr hm)
/-- the table of errors' types lies beside it -/
theorem GrpIn.zero {w : World} {S : List Nat} {b pm : Nat} {cs : Array Value} {B : PlI → Nat} {st : St} {wk : Nat} (h : GrpIn w S b pm cs B st wk) (hG : Glob w) : 0 ∉ S := by
  intro hz
  rw [h.blocks] at hz
  have h1 : w.cell? ⟨0, 0, none⟩ = some errT := hG
  simp only [List.mem_cons] at hz
  rcases hz with e | e | e
  · exact Glob.ne hG h.home h.cells.lock (by simpa using e)
  · obtain ⟨D, ⟨es, clock, hb, _⟩, _⟩ := h.keep.map
    rw [← e] at hb
    unfold World.cell? at h1
    rw [hb] at h1
    cases h1
  · obtain ⟨y, hy, e2⟩ := List.mem_map.1 e
    have h2 := h.keep.row y hy
    rw [e2] at h2
    rw [cell_of_row _ _ _ _ _ _ h2] at h1
    cases h1
theorem grp_new (s : Nat → Int) (hs : ∀ i, 0 ≤ s i ∧ s i < 256) (n m : Nat) (h1 : 1 ≤ n) (h2 : n ≤ 16) (hm : m < n) (w : World) :
    Calls Tryz.prog 25 #[Agg8 s, .int .i64 n, .int .i64 m] w fun e w' => ∃ b S, e = .returned (.tuple #[.pointer (some ⟨b, 0, none⟩), .int .i64 0]) ∧ Below w.heap.size w w' ∧ (∀ k, k ∈ S → w.heap.size ≤ k) ∧ Grp w' S (.pointer (some ⟨b, 0, none⟩)) (St.new s n m) 0 := by
  refine (new_any s hs n m h1 h2 hm w).mono fun e w' ⟨b, pm, cs, e1, e2, e3, e4, e5, e6, e7, e8⟩ => ?_
  have hkl : (St.new s n m).kl = [] := by
    rw [kl_open rfl]
    refine List.eq_nil_iff_forall_not_mem.2 fun x hx => ?_
    obtain ⟨i, g, _, hg, _⟩ := keptL_mem.1 hx
    rw [St.new_m] at hg
    cases hg
  refine ⟨b, [b, pm], e1, e2, fun k hk => by simp at hk; omega, b, pm, cs, fun _ => 0, rfl, ⟨by rw [hkl]; rfl, e5, fun x hx => (by rw [hkl] at hx; cases hx), e6, by rw [hkl]; exact KeepAt.empty e8 _ _, Asc.new s n m, .inl ⟨rfl, e7⟩⟩⟩
/-- Work -/
theorem grp_work {w : World} {S : List Nat} {g : Value} {st : St} {wk : Nat} (hw : wk ≤ 1000000000000) (h : Grp w S g st wk) :
    Calls Tryz.prog 23 #[g] w fun e w' => e = .returned (.int .i64 wk) ∧ Outside S w w' ∧ ∃ S', Fresh w S S' ∧ Grp w' S' g st wk := by
  obtain ⟨b, pm, cs, B, rfl, h⟩ := h
  refine (gwork_any b cs _ wk w h.home.row h.cells.lock h.cells.cnt).mono fun e w' ⟨e1, e2⟩ => ?_
  have hb : b ∈ S := by rw [h.blocks]; simp
  have hr : w'.heap[b]? = w.heap[b]? := by rw [e2]; exact setRow_back h.home.row
  refine ⟨?_, ?_, S, Fresh.refl _ _, b, pm, cs, B, rfl, h.kept fun k hl hk => ?_⟩
  · rw [e1]
    have e3 : IntKind.i64.wrap (wk : Int) = wk := by rw [IntKind.wrap_i64]; omega
    unfold ctr
    rw [e3]
  · rw [e2]; exact ((Outside.refl S w).setRow b (fun _ => hb) _).setRow b (fun _ => hb) _
  · by_cases e : k = b
    · rw [e, hr]
    · rw [e2, setRow_other _ _ _ _ e, setRow_other _ _ _ _ e]
end Go.Proofs.YtkpebabbnndopaaGreatDoor

/- A trial: passOver, goTo by it, upTo, passed, forget. -/
namespace Go.Proofs.YtkpebabbnndopaaGreatDoor
open Go.RowKit
set_option linter.unusedVariables false

structure TrAt (cs : Array Value) (tp : List PartD) (R : Nat → Int) (g : Nat) (ks : List (Nat → Int)) : Prop where
  size : cs.size = 212
  tree : TreeAt cs 0 tp
  rat : RatAt cs 161 true g (RatB R g)
  keys : ∀ i (h : i < ks.length), AtL cs (171 + i * 8) (Cells8 ks[i]).toList
  zero : ∀ i, ks.length ≤ i → i < 5 → AtL cs (171 + i * 8) (Cells8 fun _ => 0).toList
  cnt : cs[211]? = some (.int .i64 ks.length)
  le : ks.length ≤ 5
theorem TrAt.mv {q : Option Nat} {n : Nat} {cs cs' : Array Value} {tp : List PartD} {R : Nat → Int} {g : Nat} {ks : List (Nat → Int)} (h : TrAt cs tp R g ks) (m : Mv q n 0 0 cs cs') : TrAt cs' tp R g ks := by
  have hl := h.le
  refine ⟨m.size.trans h.size, h.tree.mv m (fun _ => by show 161 ≤ 330; omega), m.at h.rat (.inr (by omega)) (fun _ => .inl (by show 161 + 10 ≤ 330; omega)), fun i hi => m.at (h.keys i hi) (.inr (by omega)) (fun _ => .inl (by show 171 + i * 8 + 8 ≤ 330; omega)), fun i h1 h2 => m.at (h.zero i h1 h2) (.inr (by omega)) (fun _ => .inl (by show 171 + i * 8 + 8 ≤ 330; omega)), ?_, hl⟩
  rw [m.out 211 (.inr (by omega)) (fun _ => by show 211 ≠ 330; omega)]
  exact h.cnt
theorem AtL.cells8 {q : Option Nat} {b : Nat} {t : TypeId} {w : World} {cs : Array Value} {o : Nat} {s : Nat → Int} (h : AtL cs o (Cells8 s).toList) (hh : Home q b t cs w) : w.cell? ⟨b, o, none⟩ = some (.int .u8 (s 0)) ∧ w.cell? ⟨b, o + 1, none⟩ = some (.int .u8 (s 1)) ∧ w.cell? ⟨b, o + 2, none⟩ = some (.int .u8 (s 2)) ∧ w.cell? ⟨b, o + 3, none⟩ = some (.int .u8 (s 3)) ∧ w.cell? ⟨b, o + 4, none⟩ = some (.int .u8 (s 4)) ∧ w.cell? ⟨b, o + 5, none⟩ = some (.int .u8 (s 5)) ∧ w.cell? ⟨b, o + 6, none⟩ = some (.int .u8 (s 6)) ∧ w.cell? ⟨b, o + 7, none⟩ = some (.int .u8 (s 7)) := by
  simp only [hh.cells.1]
  exact ⟨h 0 _ rfl, h 1 _ rfl, h 2 _ rfl, h 3 _ rfl, h 4 _ rfl, h 5 _ rfl, h 6 _ rfl, h 7 _ rfl⟩
theorem keyIndex (b j : Nat) (hj : j < 5) : ∀ W, (Instr.indexAt 257 (.pointer (some ⟨b, 171, none⟩)) (.int .i64 j)).run Tryz.prog W = .ok (.pointer (some ⟨b, 171 + j * 8, none⟩)) W := fun W => by
  have h0 : (0 : Int) ≤ j := by omega
  have h1 : (j : Int) < 5 := by omega
  simp [go_sem, h0, h1]
set_option maxHeartbeats 4000000 in
set_option maxRecDepth 20000 in
theorem passOver_any {F : FuncId} {pre : Array Value} {q : Option Nat} (dv : Drv F pre q) (bt : Nat) (cs : Array Value) (tp : List PartD) (R : Nat → Int) (hR : ∀ i, 0 ≤ R i ∧ R i < 256) (g : Nat) (hg : g < 65535) (ks : List (Nat → Int)) (hk : ks.length < 5) (w : World) (h : Home q bt 259 cs w) (ht : TrAt cs tp R g ks) :
    Calls Tryz.prog 164 #[.pointer (some ⟨bt, 0, none⟩), .func (.func F) pre #[]] w fun e w' => e = .returned (.tuple #[]) ∧ ∃ cs', Upd q 2 bt 161 51 259 cs w w' cs' ∧ TrAt cs' tp R (g + 1) (ks ++ [DerB (RatB R g) lKey g]) := by
  have HKY : Hid (∀ W c, Home q bt 259 c W → TrAt c tp R g ks → Calls Tryz.prog 47 #[.pointer (some ⟨bt, 161, none⟩), .func (.func F) pre #[]] W fun e w' => e = .returned (Agg8 (DerB (RatB R g) lKey g)) ∧ Tick q 1 W w') := fun W c hW hc => rkey_any dv g true (RatB R g) (RatB_bd R hR g) bt 161 _ c W hW hc.rat
  have HTU : Hid (∀ W c, Home q bt 259 c W → RatAt c 161 true g (RatB R g) → Calls Tryz.prog 49 #[.pointer (some ⟨bt, 161, none⟩), .func (.func F) pre #[]] W fun e w' => e = .returned (.tuple #[]) ∧ ∃ cs', Upd q 1 bt 161 10 259 c W w' cs' ∧ RatAt cs' 161 true (g + 1 : Nat) (DerB (RatB R g) lNext g)) := fun W c hW hc => turn_small dv g hg true (RatB R g) (RatB_bd R hR g) bt 161 _ c W hW hc (fun _ => by show 161 + 10 ≤ 330; omega)
  have e1 : DerB (RatB R g) lNext g = RatB R (g + 1) := rfl
  rw [e1] at HTU
  obtain ⟨K, hK⟩ : ∃ K, DerB (RatB R g) lKey g = K := ⟨_, rfl⟩
  rw [hK] at HKY ⊢
  have ix := keyIndex bt ks.length hk
  obtain ⟨P, hP⟩ : ∃ P, 171 + ks.length * 8 = P := ⟨_, rfl⟩
  obtain ⟨C, hC⟩ : ∃ C : Int, (ks.length : Int) = C := ⟨_, rfl⟩
  have HP : Hid (171 + ks.length * 8 = P ∧ (ks.length : Int) = C ∧ ks.length < 5) := ⟨hP, hC, hk⟩
  have hcw : IntKind.i64.wrap (C + 1) = C + 1 := by rw [IntKind.wrap_i64]; omega
  have hcw2 : wrap64 (C + 1) = C + 1 := by simp only [wrap64]; omega
  have HH : Hid (Home q bt 259 cs w) := h
  have HT : Hid (TrAt cs tp R g ks) := ht
  have c211 : w.cell? ⟨bt, 211, none⟩ = some (.int .i64 C) := by rw [h.cells.1, ← hC]; exact ht.cnt
  rw [hP, hC] at ix
  clear h ht hK hP hC hR e1 hk
  go_enter Tryz.func164, Tryz.ntmps164
  go_upto_region 0 with fail
  go_cut [] (fun wx => ∃ cs1, Hid (Upd q 1 bt 161 51 259 cs w wx (putL cs1 P (Cells8 K).toList) ∧ TrAt cs1 tp R g ks))
  case first =>
    go_region_with (go_at_call 47; refine (HKY.out _ cs HH.out.drew HT.out).mono ?_; rintro e w1 ⟨rfl, t1⟩; obtain ⟨cs1, u1, m1⟩ := HH.out.derived t1 161 51; have hT1 := HT.out.mv m1; have hA1 := u1.home.cells.2; obtain ⟨d0, d1, d2, d3, d4, d5, d6, d7⟩ := ((HP.out.1 ▸ hT1.zero ks.length (Nat.le_refl _) HP.out.2.2) : AtL cs1 P (Cells8 fun _ => 0).toList).cells8 u1.home; have e211 : w1.cell? ⟨bt, 211, none⟩ = some (.int .i64 C) := (by rw [u1.home.cells.1, ← HP.out.2.1]; exact hT1.cnt))
    all_goals
      have HU1 : Hid (Upd q 1 bt 161 51 259 cs w w1 cs1 ∧ TrAt cs1 tp R g ks) := ⟨u1, hT1⟩
      clear t1 u1 m1 hT1
      go_wp2_with fail
      go_meet
      exact ⟨cs1, HU1.out.1.setCells (fun _ => by show 161 + 51 ≤ 330; omega) P (Cells8 K).toList (by have := HP.out; omega) (by have := HP.out; show P + 8 ≤ _; omega), HU1.out.2⟩
  case rest =>
    obtain ⟨cs1, hx⟩ := hcut
    have hfc : (q ≠ none → 161 + 51 ≤ ctrOff) := fun _ => by show 161 + 51 ≤ 330; omega
    have hu := hx.out.1
    have c2 : wc.cell? ⟨bt, 211, none⟩ = some (.int .i64 C) := by
      rw [hu.home.cells.1, putL_out _ _ _ _ (.inr (by have := HP.out; show P + 8 ≤ 211; omega)), ← HP.out.2.1]
      exact hx.out.2.cnt
    have hA2 := hu.home.cells.2
    obtain ⟨w3, hw3⟩ : ∃ w3, wc.setCell ⟨bt, 211, none⟩ (.int .i64 (C + 1)) = w3 := ⟨_, rfl⟩
    have HU3 : Hid (Upd q 1 bt 161 51 259 cs w w3 ((putL cs1 P (Cells8 K).toList).setIfInBounds 211 (.int .i64 (C + 1)))) := by
      show Upd _ _ _ _ _ _ _ _ _ _
      rw [← hw3]
      exact hu.setCell hfc 211 (by omega) (by omega) _
    have HR3 : Hid (RatAt ((putL cs1 P (Cells8 K).toList).setIfInBounds 211 (.int .i64 (C + 1))) 161 true g (RatB R g)) := fun j v hv => by
      have hj : j < 10 := (List.getElem?_eq_some_iff.1 hv).1
      rw [Array.getElem?_setIfInBounds, if_neg (by omega), putL_out _ _ _ _ (.inl (by have := HP.out; omega))]
      exact hx.out.2.rat j v hv
    have HX : Hid (TrAt cs1 tp R g ks) := hx.out.2
    have HW3 : Hid (wc.setCell ⟨bt, 211, none⟩ (.int .i64 (C + 1)) = w3) := hw3
    clear hu hx hw3 hfc c211 ix HKY HT
    go_wp2_with fail
    rw [HW3.out]
    refine (HTU.out _ _ HU3.out.home HR3.out).mono ?_
    rintro e w4 ⟨rfl, cs4, u4, hR4⟩
    have HU4 : Hid (Upd q 2 bt 161 51 259 cs w w4 cs4 ∧ TrAt cs4 tp R (g + 1) (ks ++ [K])) := by
      obtain ⟨hp1, hp2, hp3⟩ := HP.out
      have o4 : ∀ j, (j < 161 ∨ 171 ≤ j) → j < 212 → cs4[j]? = ((putL cs1 P (Cells8 K).toList).setIfInBounds 211 (.int .i64 (C + 1)))[j]? := fun j hj hl => u4.mv.out j (by omega) (fun _ => by show j ≠ 330; omega)
      have p4 : ∀ j, (j < 161 ∨ 171 ≤ j) → j < 211 → (j < P ∨ P + 8 ≤ j) → cs4[j]? = cs1[j]? := fun j h1 h2 h3 => by
        rw [o4 j h1 (by omega), Array.getElem?_setIfInBounds, if_neg (by omega), putL_out _ _ _ _ h3]
      have hX := HX.out
      have hsz : cs4.size = 212 := by rw [u4.mv.size, Array.size_setIfInBounds, putL_size, hX.size]
      have hT := hX.tree
      refine ⟨HU3.out.trans (u4.mono (by omega) (by omega)), hsz, ?_, hR4, fun i hi => ?_, fun i h1 h2 => ?_, ?_, by rw [List.length_append]; show ks.length + 1 ≤ 5; omega⟩
      · refine ⟨hT.len, fun j v hv => ?_, ?_, hT.ok⟩
        · have hj := (List.getElem?_eq_some_iff.1 hv).1
          rw [pcells_len] at hj
          have := hT.len
          rw [p4 _ (by omega) (by omega) (by omega)]
          exact hT.parts j v hv
        · rw [p4 _ (by omega) (by omega) (by omega)]
          exact hT.count
      · intro j v hv
        have hj : j < 8 := (List.getElem?_eq_some_iff.1 hv).1
        rw [List.length_append] at hi
        have hi2 : i < ks.length + 1 := hi
        by_cases hik : i < ks.length
        · rw [List.getElem_append_left hik] at hv
          rw [p4 _ (by omega) (by omega) (by omega)]
          exact hX.keys i hik j v hv
        · obtain rfl : i = ks.length := by omega
          have e9 : (ks ++ [K])[ks.length]? = some K := by simp
          rw [List.getElem?_eq_getElem (by simp)] at e9
          simp only [Option.some.injEq] at e9
          rw [e9] at hv
          rw [o4 _ (by omega) (by omega), Array.getElem?_setIfInBounds, if_neg (by omega)]
          have := putL_at (Cells8 K).toList cs1 P (by rw [hX.size]; show P + 8 ≤ 212; omega) j v hv
          rw [hp1]
          exact this
      · intro j v hv
        have hj : j < 8 := (List.getElem?_eq_some_iff.1 hv).1
        rw [List.length_append] at h1
        have h1' : ks.length + 1 ≤ i := h1
        rw [p4 _ (by omega) (by omega) (by omega)]
        exact hX.zero i (by omega) h2 j v hv
      · rw [o4 211 (by omega) (by omega), Array.getElem?_setIfInBounds, if_pos rfl, if_pos (by rw [putL_size, hX.size]; omega), List.length_append, ← hp2]
        rfl
    clear u4 hR4 HTU HU3 HR3 HX
    go_wp2_with fail
    go_end0
    exact ⟨rfl, cs4, HU4.out.1, HU4.out.2⟩
end Go.Proofs.YtkpebabbnndopaaGreatDoor

/- goTo by passOver, upTo. -/
namespace Go.Proofs.YtkpebabbnndopaaGreatDoor
open Go.RowKit
set_option linter.unusedVariables false

/-- the keys of the generations j, j + 1, .. -/
def passK (R : Nat → Int) (j : Nat) : Nat → List (Nat → Int)
  | 0 => []
  | i + 1 => passK R j i ++ [DerB (RatB R (j + i)) lKey (j + i : Nat)]
theorem passK_len (R : Nat → Int) (j n : Nat) : (passK R j n).length = n := by
  induction n with
  | zero => rfl
  | succ n ih => rw [passK, List.length_append, ih]; rfl
set_option maxHeartbeats 1000000 in
theorem goToT_any {F : FuncId} {pre : Array Value} {q : Option Nat} (dv : Drv F pre q) (j g : Nat) (hjg : j ≤ g) (hg : g ≤ 65535) (h5 : g - j ≤ 5) (bt : Nat) (cs : Array Value) (tp : List PartD) (R : Nat → Int) (hR : ∀ i, 0 ≤ R i ∧ R i < 256) (w : World) (h : Home q bt 259 cs w) (ht : TrAt cs tp R j []) :
    Calls Tryz.prog 82 #[.pointer (some ⟨bt, 161, none⟩), .int .i64 g, .func (.func 164) #[.pointer (some ⟨bt, 0, none⟩)] #[], .func (.func F) pre #[]] w fun e w' => e = .returned (.tuple #[]) ∧ ∃ cs', Upd q (2 * (g - j)) bt 161 51 259 cs w w' cs' ∧ TrAt cs' tp R g (passK R j (g - j)) := by
  have HT : Hid (∀ (i : Nat) W c, i < g - j → Home q bt 259 c W → TrAt c tp R (j + i) (passK R j i) → Calls Tryz.prog 164 #[.pointer (some ⟨bt, 0, none⟩), .func (.func F) pre #[]] W fun e w' => e = .returned (.tuple #[]) ∧ ∃ cs', Upd q 2 bt 161 51 259 c W w' cs' ∧ TrAt cs' tp R (j + (i + 1)) (passK R j (i + 1))) := fun i W c hi hW hc => passOver_any dv bt c tp R hR (j + i) (by omega) (passK R j i) (by rw [passK_len]; omega) W hW hc
  have HG : Hid (g ≤ 65535 ∧ j ≤ g) := ⟨hg, hjg⟩
  have hgi : (g : Int) ≤ 65535 := by omega
  have c1 := (ht.rat.facts h).2.1
  have HH : Hid (Home q bt 259 cs w) := h
  have HR : Hid (TrAt cs tp R j []) := ht
  clear h ht hg hR h5
  go_enter Tryz.func82, Tryz.ntmps82
  go_wp2_with fail
  clear c1
  go_loopg [14] (g - j) (fun k i wr => ∃ i' : Nat, i = .int .i64 i' ∧ i' + k = g - j ∧ ∃ c, Hid (Upd q (2 * i') bt 161 51 259 cs w wr c) ∧ Hid (TrAt c tp R (j + i') (passK R j i')))
  case atStart => exact ⟨0, rfl, by omega, cs, Upd.refl HH.out 161 51, HR.out⟩
  case round =>
    obtain ⟨i, rfl, hik, c, hu, hr⟩ := hrel
    by_cases hlt : (i : Int) < (g : Int) - j
    · go_wp2_with fail
      have HG' := HG.out
      refine (HT.out i _ c (by omega) hu.out.home hr.out).mono ?_
      clear HG'
      rintro e w2 ⟨rfl, c2, hu2, hr2⟩
      have HU3 : Hid (Upd q (2 * (i + 1)) bt 161 51 259 cs w w2 c2) := hu.out.trans hu2
      have HR3 : Hid (TrAt c2 tp R (j + (i + 1)) (passK R j (i + 1))) := hr2
      clear hu hr hu2 hr2 HT
      go_wp2_with fail
      go_roundg (gk - 1)
      case measure => omega
      case rel => exact ⟨i + 1, by go_num, by omega, c2, HU3, HR3⟩
    · have hgi2 : g - j = i := by have := HG.out; omega
      have hgj : g = j + i := by have := HG.out; omega
      clear HT
      go_wp2_with fail
      go_end0
      exact ⟨rfl, c, hu.out, hr.out⟩
set_option maxHeartbeats 4000000 in
set_option maxRecDepth 20000 in
theorem upTo_any {F : FuncId} {pre : Array Value} {q : Option Nat} (dv : Drv F pre q) {st : St} (ok : st.Ok) (m g : Nat) (hm : m < st.n) (hjg : (st.m m).next ≤ g) (hg : g ≤ 65535) (h5 : g - (st.m m).next ≤ 5) (bt : Nat) (cs : Array Value) (hsz : cs.size = 212) (hT : TreeAt cs 0 ((st.parts 16 0 st.n).map itPart)) (hRt : RatAt cs 161 (st.m m).begun (st.m m).next (st.ratS m)) (hz : ∀ i, i < 5 → AtL cs (171 + i * 8) (Cells8 fun _ => 0).toList) (hc : cs[211]? = some (.int .i64 0)) (w : World) (h : Home q bt 259 cs w) :
    Calls Tryz.prog 153 #[.pointer (some ⟨bt, 0, none⟩), .agg #[.int .i64 m, .int .i64 g], .func (.func F) pre #[]] w fun e w' => e = .returned (.tuple #[]) ∧ ∃ cs' n, n ≤ 2 * DepB 16 st.n m + 1 + 2 * (g - (st.m m).next) ∧ Upd q n bt 0 212 259 cs w w' cs' ∧ TrAt cs' (((st.begin m).parts 16 0 st.n).map itPart) (st.ratAt m 0) g (passK (st.ratAt m 0) (st.m m).next (g - (st.m m).next)) := by
  have hRR : ∀ k, st.ratAt m k = RatB (st.ratAt m 0) k := fun k => rfl
  have hR0 : ∀ i, 0 ≤ st.ratAt m 0 i ∧ st.ratAt m 0 i < 256 := DerB_bd _ _ _
  have HBE : Hid (∀ W, Home q bt 259 cs W → Calls Tryz.prog 45 #[.pointer (some ⟨bt, 161, none⟩), .pointer (some ⟨bt, 0, none⟩), .int .i64 m, .func (.func F) pre #[]] W fun e w' => e = .returned (.tuple #[]) ∧ ∃ cs' n, n ≤ 2 * DepB 16 st.n m + 1 ∧ Upd q n bt 0 171 259 cs W w' cs' ∧ TrAt cs' (((st.begin m).parts 16 0 st.n).map itPart) (st.ratAt m 0) (st.m m).next []) := fun W hW => by
    refine (begin_any dv ok hm (by omega) hT hRt (by omega) (by omega) (fun _ => by show 161 + 10 ≤ 330; omega) W hW).mono fun e w' ⟨h1, cs', n, h2, h3, h4, h6, h7⟩ => ⟨h1, cs', n, h2, h3, ?_⟩
    refine ⟨by rw [h3.mv.size]; exact hsz, h4, by rw [← hRR]; exact h6, fun i hi => (by cases hi), fun i _ hi j v hv => ?_, ?_, by simp⟩
    · have hj : j < 8 := (List.getElem?_eq_some_iff.1 hv).1
      rw [h7 _ (by omega) (by omega) (fun _ => by show _ ≠ 330; omega)]
      exact hz i hi j v hv
    · rw [h7 _ (by omega) (by omega) (fun _ => by show _ ≠ 330; omega)]
      exact hc
  have HGT : Hid (∀ W c, Home q bt 259 c W → TrAt c (((st.begin m).parts 16 0 st.n).map itPart) (st.ratAt m 0) (st.m m).next [] → Calls Tryz.prog 82 #[.pointer (some ⟨bt, 161, none⟩), .int .i64 g, .func (.func 164) #[.pointer (some ⟨bt, 0, none⟩)] #[], .func (.func F) pre #[]] W fun e w' => e = .returned (.tuple #[]) ∧ ∃ cs', Upd q (2 * (g - (st.m m).next)) bt 161 51 259 c W w' cs' ∧ TrAt cs' (((st.begin m).parts 16 0 st.n).map itPart) (st.ratAt m 0) g (passK (st.ratAt m 0) (st.m m).next (g - (st.m m).next))) := fun W c hW hc => goToT_any dv (st.m m).next g hjg hg h5 bt c _ _ hR0 W hW hc
  obtain ⟨M, hM⟩ : ∃ M : Int, (m : Int) = M := ⟨_, rfl⟩
  obtain ⟨G, hG⟩ : ∃ G : Int, (g : Int) = G := ⟨_, rfl⟩
  rw [hM] at HBE ⊢
  rw [hG] at HGT ⊢
  have HH : Hid (Home q bt 259 cs w) := h
  have hbw := h.lt
  obtain ⟨w1, hw1⟩ : ∃ w1, w.alloc (.cells #[.int .i64 M, .int .i64 G] 123) = w1 := ⟨_, rfl⟩
  have b1 : Below w.heap.size w w1 := by rw [← hw1]; exact (Below.refl _ w).alloc (Nat.le_refl _) _
  have k1 : w1.heap[w.heap.size]? = some (.cells #[.int .i64 M, .int .i64 G] 123 (0, 0)) := by rw [← hw1]; exact (MapKept.heap_alloc _ _).1
  have HU1 : Hid (Upd q 0 bt 0 212 259 cs w w1 cs) := (Upd.refl h 0 212).below b1
  have HQ : Hid (Has q w) := h.has
  have hA1 : ∀ o, w1.cell? ⟨w.heap.size, o, none⟩ = #[Value.int .i64 M, .int .i64 G][o]? := fun o => cell_of_row _ _ _ _ _ _ k1
  have HW1 : Hid (w.alloc (.cells #[.int .i64 M, .int .i64 G] 123) = w1) := hw1
  have HK1 : Hid (w1.heap[w.heap.size]? = some (.cells #[.int .i64 M, .int .i64 G] 123 (0, 0))) := k1
  have hmf : ∀ (fn : Fn) (first cap : Array Value) (w : World), (Instr.makeFunc fn first cap).run Tryz.prog w = .ok (.func fn first cap) w := fun _ _ _ _ => rfl
  clear h hT hRt hz hc hM hG hRR hR0 b1 k1 hw1 hsz
  go_enter Tryz.func153, Tryz.ntmps153
  go_upto_region 1 with fail
  rw [HW1.out]
  go_cut [] (fun wx => ∃ cs1 n, Hid (n ≤ 2 * DepB 16 st.n m + 1 ∧ Upd q n bt 0 212 259 cs w wx cs1 ∧ TrAt cs1 (((st.begin m).parts 16 0 st.n).map itPart) (st.ratAt m 0) (st.m m).next [] ∧ wx.heap[w.heap.size]? = some (.cells #[.int .i64 M, .int .i64 G] 123 (0, 0))))
  case first =>
    go_region_with (go_at_call 45; refine (HBE.out _ HU1.out.home.drew).mono ?_; rintro e w2 ⟨rfl, cs2, n2, hn2, u2, ht2⟩)
    all_goals
      have HX : Hid (n2 ≤ 2 * DepB 16 st.n m + 1 ∧ Upd q n2 bt 0 212 259 cs w w2 cs2 ∧ TrAt cs2 (((st.begin m).parts 16 0 st.n).map itPart) (st.ratAt m 0) (st.m m).next [] ∧ w2.heap[w.heap.size]? = some (.cells #[.int .i64 M, .int .i64 G] 123 (0, 0))) := by
        have hu := (HU1.out.below (Below.refl _ _).drew).trans (u2.mono (o' := 0) (len' := 212) (by omega) (by omega))
        rw [Nat.zero_add] at hu
        refine ⟨hn2, hu, ht2, u2.outq.row (a := w1.drew) HK1.out (fun hm => ?_)⟩
        rcases List.mem_cons.1 hm with e | e
        · omega
        · exact HQ.out.ne (Nat.le_refl _) (by cases q with | none => simp at e | some c => simp at e; rw [e])
      clear hn2 u2 ht2
      go_wp2_with fail
      go_meet
      exact ⟨cs2, n2, HX⟩
  case rest =>
    obtain ⟨cs2, n2, hx⟩ := hcut
    have hA2 : ∀ o, wc.cell? ⟨w.heap.size, o, none⟩ = #[Value.int .i64 M, .int .i64 G][o]? := fun o => cell_of_row _ _ _ _ _ _ hx.out.2.2.2
    clear HBE HW1 HK1 HU1
    go_upto_region 2 with fail
    go_region_with (go_at_call 82; refine (HGT.out _ cs2 hx.out.2.1.home.drew hx.out.2.2.1).mono ?_; rintro e w3 ⟨rfl, cs3, u3, ht3⟩)
    all_goals
      have HX3 : Hid (Upd q (n2 + 2 * (g - (st.m m).next)) bt 0 212 259 cs w w3 cs3 ∧ TrAt cs3 (((st.begin m).parts 16 0 st.n).map itPart) (st.ratAt m 0) g (passK (st.ratAt m 0) (st.m m).next (g - (st.m m).next))) := ⟨(hx.out.2.1.below (Below.refl _ _).drew).trans (u3.mono (o' := 0) (len' := 212) (by omega) (by omega)), ht3⟩
      clear u3 ht3
      go_wp2_with fail
      go_end0
      exact ⟨rfl, cs3, n2 + 2 * (g - (st.m m).next), by have := hx.out.1; omega, HX3.out.1, HX3.out.2⟩
end Go.Proofs.YtkpebabbnndopaaGreatDoor

/- A trial: passed, forget. -/
namespace Go.Proofs.YtkpebabbnndopaaGreatDoor
open Go.RowKit
set_option linter.unusedVariables false

set_option maxHeartbeats 1000000 in
theorem passed_any (bt c : Nat) (hc : c ≤ 5) (w : World) (h : w.cell? ⟨bt, 211, none⟩ = some (.int .i64 c)) :
    Calls Tryz.prog 165 #[.pointer (some ⟨bt, 0, none⟩)] w fun e w' => e = .returned (.slice (some ⟨bt, 171, none⟩) c 5) ∧ Below w.heap.size w w' := by
  have hsl : ∀ W, (Instr.sliceAt 257 (.pointer (some ⟨bt, 171, none⟩)) none (some (.int .i64 c)) none).run Tryz.prog W = .ok (.slice (some ⟨bt, 171, none⟩) c 5) W := fun W => by
    have h0 : (0 : Int) ≤ c := by omega
    have h1 : (c : Int) ≤ 5 := by omega
    simp [go_sem, h0, h1]
  obtain ⟨C, hC⟩ : ∃ C : Int, (c : Int) = C := ⟨_, rfl⟩
  rw [hC] at hsl h
  clear hC hc
  go_enter Tryz.func165, Tryz.ntmps165
  go_wp2_with fail
  go_quiet (fail)
  go_wp2_with fail
  go_ret
  exact ⟨rfl, below_drewQ (Below.refl _ _) _⟩
set_option maxHeartbeats 1000000 in
theorem tforget_wp (bt : Nat) (cs : Array Value) (hsz : cs.size = 212) (w : World) (h : w.heap[bt]? = some (.cells cs 259 (0, 0))) :
    CallsD Tryz.prog 152 #[.pointer (some ⟨bt, 0, none⟩)] .returning w fun e u' w' => (∃ v, e = .returned v) ∧ u' = .returning ∧ w' = w.setRow bt Tryz.zeroCells259 := by
  have hz : Tryz.zeroCells259.size = 212 := by kernel_rfl
  have hone : Tryz.zeroCells259.all (·.oneCell') = true := by kernel_rfl
  refine (callsD_of_wp (R := fun e w' => (∃ v, e = .returned v) ∧ w' = w.setRow bt Tryz.zeroCells259) Tryz.func152 rfl ?_).mono fun e u' w' ⟨h1, h2, h3⟩ => ⟨h2, h1, h3⟩
  simp only [Tryz.ntmps152, List.size_toArray, List.length_cons, List.length_nil, Nat.reduceAdd, Nat.reduceSub, Array.replicate_succ,
     Array.replicate_zero, List.push_toArray, List.append_toArray, List.nil_append, List.cons_append]
  go_wp2_with (refine wpList_store_row rfl 259 _ _ rfl bt Tryz.zeroCells259 rfl rfl 259 cs h (by kernel_rfl) (by rw [hsz, hz]) hone ?_)
  go_end0
  exact ⟨⟨_, rfl⟩, rfl⟩
end Go.Proofs.YtkpebabbnndopaaGreatDoor

/- Arrays of bytes held against each other. -/
namespace Go.Proofs.YtkpebabbnndopaaGreatDoor
open Go.RowKit

theorem all_range (xs ys : List Int) (h : xs.length = ys.length) : ((List.range xs.length).all fun i => xs.getD i 0 == ys.getD i 0) = (xs == ys) := by
  induction xs generalizing ys with
  | nil => cases ys with
    | nil => rfl
    | cons y ys => simp at h
  | cons x xs ih => cases ys with
    | nil => simp at h
    | cons y ys =>
      have ih := ih ys (by simpa using h)
      rw [List.length_cons, List.range_succ_eq_map, List.all_cons, List.all_map]
      simp only [List.getD_cons_zero, Function.comp_def, List.getD_cons_succ, ih]
      simp [List.cons_beq_cons]

theorem eq_ints (d : Nat) (t : TypeId) (n : Nat) (ht : Tryz.prog.underlying t = some (.array n 5)) (xs ys : List Int) (hx : xs.length = n) (hy : ys.length = n) (w : World) :
    (Op.equalIn (d + 2) t (.agg (xs.map (Value.int .u8)).toArray) (.agg (ys.map (Value.int .u8)).toArray)).run Tryz.prog w = .ok (xs == ys) w := by
  have he : Tryz.prog.underlying 5 = some (.int .u8) := Tryz.underlying5
  have hsz : ∀ w, (sizeOf 5).run Tryz.prog w = .ok 1 w := fun w => by kernel_rfl
  rw [← all_range xs ys (hx.trans hy.symm), hx, List.range_eq_range', Op.equalIn]
  simp only [Sem.run_bind, run_underlying ht, Result.andThen_ok, hsz, Std.Legacy.Range.forIn_eq_forIn_range', Std.Legacy.Range.size, Nat.sub_zero, Nat.add_sub_cancel, Nat.div_one]
  have hl : ∀ i ∈ List.range' 0 n 1, i < n := fun i hi => by simpa using (List.mem_range'_1.1 hi).2
  generalize List.range' 0 n 1 = l at hl ⊢
  induction l with
  | nil => simp
  | cons i l ih =>
    have hi : i < n := hl i (by simp)
    have px : (part 5 (xs.map (Value.int .u8)).toArray (i * 1)).run Tryz.prog w = .ok (.int .u8 (xs.getD i 0)) w := by
      simp [part, isAgg, run_underlying he, List.getD, List.getElem?_eq_getElem (show i < xs.length by omega)]
    have py : (part 5 (ys.map (Value.int .u8)).toArray (i * 1)).run Tryz.prog w = .ok (.int .u8 (ys.getD i 0)) w := by
      simp [part, isAgg, run_underlying he, List.getD, List.getElem?_eq_getElem (show i < ys.length by omega)]
    have pe : (Op.equalIn (d + 1) 5 (.int .u8 (xs.getD i 0)) (.int .u8 (ys.getD i 0))).run Tryz.prog w = .ok (xs.getD i 0 == ys.getD i 0) w :=
      run_equalIn_int w d 5 .u8 .u8 _ _ he
    simp only [List.forIn_cons, Sem.run_bind, px, py, pe, Result.andThen_ok, List.all_cons]
    cases hb : (xs.getD i 0 == ys.getD i 0)
    · simp
    · simp only [Bool.not_true, Bool.false_eq_true, if_false, Sem.run_pure, Result.andThen_ok, Bool.true_and]
      exact ih fun j hj => hl j (by simp [hj])

theorem eq_secrets (x y : Nat → Int) (w : World) :
    (Op.equalIn 10000 51 (Agg8 x) (Agg8 y)).run Tryz.prog w = .ok ([x 0, x 1, x 2, x 3, x 4, x 5, x 6, x 7] == [y 0, y 1, y 2, y 3, y 4, y 5, y 6, y 7]) w :=
  eq_ints 9998 51 8 Tryz.underlying51 [x 0, x 1, x 2, x 3, x 4, x 5, x 6, x 7] [y 0, y 1, y 2, y 3, y 4, y 5, y 6, y 7] rfl rfl w
theorem eq_secrets_same (x : Nat → Int) (w : World) : (Op.equalIn 10000 51 (Agg8 x) (Agg8 x)).run Tryz.prog w = .ok true w := by
  rw [eq_secrets]; simp
theorem eq_lit (x0 x1 x2 x3 x4 x5 x6 x7 y0 y1 y2 y3 y4 y5 y6 y7 : Int) (w : World) :
    (Op.equalIn 10000 51 (.agg #[.int .u8 x0, .int .u8 x1, .int .u8 x2, .int .u8 x3, .int .u8 x4, .int .u8 x5, .int .u8 x6, .int .u8 x7]) (.agg #[.int .u8 y0, .int .u8 y1, .int .u8 y2, .int .u8 y3, .int .u8 y4, .int .u8 y5, .int .u8 y6, .int .u8 y7])).run Tryz.prog w = .ok ([x0, x1, x2, x3, x4, x5, x6, x7] == [y0, y1, y2, y3, y4, y5, y6, y7]) w :=
  eq_ints 9998 51 8 Tryz.underlying51 [x0, x1, x2, x3, x4, x5, x6, x7] [y0, y1, y2, y3, y4, y5, y6, y7] rfl rfl w
theorem eqlB (x0 x1 x2 x3 x4 x5 x6 x7 : Int) (w : World) :
    (binOp .eql 51 (.agg #[.int .u8 x0, .int .u8 x1, .int .u8 x2, .int .u8 x3, .int .u8 x4, .int .u8 x5, .int .u8 x6, .int .u8 x7]) (.agg #[.int .u8 x0, .int .u8 x1, .int .u8 x2, .int .u8 x3, .int .u8 x4, .int .u8 x5, .int .u8 x6, .int .u8 x7])).run Tryz.prog w = .ok (.bool true) w := by
  rw [run_eql_struct, eq_lit]
  simp
theorem eq_tags (x y : Nat → Int) (w : World) :
    (Op.equalIn 10000 197 (.agg #[.int .u8 (x 0), .int .u8 (x 1), .int .u8 (x 2), .int .u8 (x 3)]) (.agg #[.int .u8 (y 0), .int .u8 (y 1), .int .u8 (y 2), .int .u8 (y 3)])).run Tryz.prog w = .ok ([x 0, x 1, x 2, x 3] == [y 0, y 1, y 2, y 3]) w :=
  eq_ints 9998 197 4 Tryz.underlying197 [x 0, x 1, x 2, x 3] [y 0, y 1, y 2, y 3] rfl rfl w
/-- '==' or '!=' on two arrays or structs, as a step of the walk -/
theorem wpList_cmp_agg {ops : Array Oper} {rest : List Oper} {o : Oper} {a : Act} {w : World} {Q : Exit → Act → World → Prop} (hgd : o.guard = none) (op : BinOp) (T T2 : TypeId) (x y : Operand) (ho : o.op = .binOp op T x y T2)
    (xs ys : Array Value) (hx : a.eval x = .agg xs) (hy : a.eval y = .agg ys) (hm : Tryz.prog.eqGuardType Tryz.prog.depth T = false) (b : Bool)
    (hrun : (binOp op T (.agg xs) (.agg ys)).run Tryz.prog w = .ok (.bool b) w) (h : wpList Tryz.prog ops Q rest (a.put o.dst (.bool b)) w) : wpList Tryz.prog ops Q (o :: rest) a w :=
  wpList_plain hgd fun _ hK => by
    unfold Oper.wp execOp
    simp only [ho, hx, hy, Sem.run_bind, run_eqGuard_agg w op T x y xs ys hm, Result.andThen_ok, hrun, Sem.run_pure]
    exact hK _ _ h
end Go.Proofs.YtkpebabbnndopaaGreatDoor
