import Derived.Test.YtkpebabbnndopaaGreatDoorC08
import Derived.Test.YtkpebabbnndopaaGreatDoorC07
import Derived.WalkKit
import Derived.WalkSpells
import Derived.WalkLawsBesides
import Derived.Deep.WholeRow
import Derived.Test.YtkpebabbnndopaaGreatDoorRows
import Derived.Maps.AppendAt
import Derived.Laws.OwnMore
import Derived.Test.YtkpebabbnndopaaGreatDoorC14
import Derived.Deep.DeepCutAuto
import Derived.Deep.RegionHeld3
import Derived.Deep.LoopGhost
/- epochref.Part, of any part of the tree. -/
namespace Go.Proofs.YtkpebabbnndopaaGreatDoor
open Go.RowKit
set_option linter.unusedVariables false

theorem refPart_here (s : Nat → Int) (f t : Nat) (w : World) :
    Calls Tryz.prog 79 #[Agg8 s, .int .i64 f, .int .i64 t, .int .i64 f, .int .i64 t] w fun e w' => e = .returned (Agg8 s) ∧ Below w.heap.size w w' := by
  go_enter Tryz.func79, Tryz.ntmps79
  go_wp2_with fail
  exact bodyPost_ret (v := Agg8 s) (by simp [results, Tryz.results79, go_sem]) rfl ⟨rfl, ((Below.refl _ w).alloc (Nat.le_refl _) _).alloc (by simp) _⟩

set_option maxHeartbeats 1000000 in
theorem refPartG_any (k : Nat) : ∀ (s : Nat → Int) (_ : ∀ i, 0 ≤ s i ∧ s i < 256) (f t a b : Nat) (w : World), t ≤ 16 → NodeB k f t a b = true →
    Calls Tryz.prog 79 #[Agg8 s, .int .i64 f, .int .i64 t, .int .i64 a, .int .i64 b] w fun e w' => e = .returned (Agg8 (PartB k s f t a b)) ∧ Below w.heap.size w w' := by
  induction k with
  | zero =>
    intro s hs f t a b w ht h
    simp [NodeB] at h
    obtain ⟨rfl, rfl⟩ := h
    exact refPart_here s f t w
  | succ k ih =>
    intro s hs f t a b w ht h
    by_cases e : f = a ∧ t = b
    · obtain ⟨rfl, rfl⟩ := e
      rw [PartB_succ, if_pos ⟨rfl, rfl⟩]
      exact refPart_here s f t w
    · rw [PartB_succ, if_neg e]
      rw [NodeB_succ, decide_eq_false e, Bool.false_or, Bool.and_eq_true, decide_eq_true_eq] at h
      obtain ⟨h2, h3⟩ := h
      have hsp := SplitN_bd (t - f) h2
      have HSP : Hid (∀ W, Calls Tryz.prog 110 #[.int .i64 ((t : Int) - f)] W fun e w' => e = .returned (.int .i64 (SplitN (t - f))) ∧ w' = W) := fun W => by
        have h := split_any ((t : Int) - f) (by omega) (by omega) W
        have e1 : ((t : Int) - f) = ((t - f : Nat) : Int) := by omega
        rw [e1] at h ⊢
        rw [SplitN_eq] at h
        exact h
      obtain ⟨q, hq⟩ : ∃ q, SplitN (t - f) = q := ⟨_, rfl⟩
      rw [hq] at HSP hsp h3 ⊢
      clear hq
      by_cases ha : a < f + q
      · rw [if_pos ha] at h3 ⊢
        by_cases hfa : f = a
        · have hnt : ¬ (t : Int) = b := by omega
          subst hfa
          obtain ⟨L, hL⟩ : ∃ L, DerB s lLeft 0 = L := ⟨_, rfl⟩
          have hLb : ∀ i, 0 ≤ L i ∧ L i < 256 := fun i => by rw [← hL]; exact DerB_bd _ _ _ _
          have HD : Hid (∀ W, Calls Tryz.prog 31 #[Agg8 s, .string ⟨#[108, 101, 102, 116]⟩, .int .i64 0] W fun e w' => e = .returned (Agg8 L) ∧ Below W.heap.size W w') := fun W => by
            have h := refDerive_any s hs ⟨#[108, 101, 102, 116]⟩ (by decide) 0 W
            rw [← hL]
            exact h
          rw [hL]
          clear hL
          have HP : Hid (∀ W, Calls Tryz.prog 79 #[Agg8 L, .int .i64 (f), .int .i64 ((f : Int) + q), .int .i64 f, .int .i64 b] W fun e w' => e = .returned (Agg8 (PartB k L (f) (f + q) f b)) ∧ Below W.heap.size W w') := fun W => ih L hLb _ _ f b W (by omega) h3
          obtain ⟨X, hX⟩ : ∃ X, PartB k L (f) (f + q) f b = X := ⟨_, rfl⟩
          rw [hX] at HP ⊢
          clear hX ih hLb h3
          go_enter Tryz.func79, Tryz.ntmps79
          go_wp2_with (first | (go_at_call 110; refine (HSP.out _).mono ?_; rintro e w' ⟨rfl, rfl⟩))
          refine (HD.out _).mono ?_
          rintro e w1 ⟨rfl, b1⟩
          obtain ⟨c1, d1, z1⟩ := cell1 _ _ _ b1
          clear b1
          go_wp2_with fail
          refine (HP.out _).mono ?_
          rintro e w2 ⟨rfl, b2⟩
          have c2 : w2.heap[w.heap.size + 1]? = some (.cells C0 51 (0, 0)) := by rw [b2.block _ (by simp; omega), Below.heap_alloc _ _ _ (by omega), c1]
          have d2 : Below w.heap.size w w2 := (d1.alloc (by omega) _).trans (b2.mono (by simp; omega))
          clear b2 c1 d1 HP HD HSP
          go_wp2_with (refine wpList_store_row rfl 51 _ _ rfl (w.heap.size + 1) (Cells8 X) rfl rfl 51 C0 c2 (by kernel_rfl) rfl (by simp [Value.oneCell']) ?_)
          exact bodyPost_ret (v := Agg8 X) (results_cell_row rfl _ _ (w.heap.size + 1) 51 (Cells8 X) (0, 0) _ rfl (setRow_heap _ _ _ _ _ _ c2) Tryz.underlying51 rfl (by kernel_rfl)) rfl ⟨rfl, below_setRow d2 (by omega) _⟩
        · have hnf : ¬ (f : Int) = a := by omega
          obtain ⟨L, hL⟩ : ∃ L, DerB s lLeft 0 = L := ⟨_, rfl⟩
          have hLb : ∀ i, 0 ≤ L i ∧ L i < 256 := fun i => by rw [← hL]; exact DerB_bd _ _ _ _
          have HD : Hid (∀ W, Calls Tryz.prog 31 #[Agg8 s, .string ⟨#[108, 101, 102, 116]⟩, .int .i64 0] W fun e w' => e = .returned (Agg8 L) ∧ Below W.heap.size W w') := fun W => by
            have h := refDerive_any s hs ⟨#[108, 101, 102, 116]⟩ (by decide) 0 W
            rw [← hL]
            exact h
          rw [hL]
          clear hL
          have HP : Hid (∀ W, Calls Tryz.prog 79 #[Agg8 L, .int .i64 (f), .int .i64 ((f : Int) + q), .int .i64 a, .int .i64 b] W fun e w' => e = .returned (Agg8 (PartB k L (f) (f + q) a b)) ∧ Below W.heap.size W w') := fun W => ih L hLb _ _ a b W (by omega) h3
          obtain ⟨X, hX⟩ : ∃ X, PartB k L (f) (f + q) a b = X := ⟨_, rfl⟩
          rw [hX] at HP ⊢
          clear hX ih hLb h3
          go_enter Tryz.func79, Tryz.ntmps79
          go_wp2_with (first | (go_at_call 110; refine (HSP.out _).mono ?_; rintro e w' ⟨rfl, rfl⟩))
          refine (HD.out _).mono ?_
          rintro e w1 ⟨rfl, b1⟩
          obtain ⟨c1, d1, z1⟩ := cell1 _ _ _ b1
          clear b1
          go_wp2_with fail
          refine (HP.out _).mono ?_
          rintro e w2 ⟨rfl, b2⟩
          have c2 : w2.heap[w.heap.size + 1]? = some (.cells C0 51 (0, 0)) := by rw [b2.block _ (by simp; omega), Below.heap_alloc _ _ _ (by omega), c1]
          have d2 : Below w.heap.size w w2 := (d1.alloc (by omega) _).trans (b2.mono (by simp; omega))
          clear b2 c1 d1 HP HD HSP
          go_wp2_with (refine wpList_store_row rfl 51 _ _ rfl (w.heap.size + 1) (Cells8 X) rfl rfl 51 C0 c2 (by kernel_rfl) rfl (by simp [Value.oneCell']) ?_)
          exact bodyPost_ret (v := Agg8 X) (results_cell_row rfl _ _ (w.heap.size + 1) 51 (Cells8 X) (0, 0) _ rfl (setRow_heap _ _ _ _ _ _ c2) Tryz.underlying51 rfl (by kernel_rfl)) rfl ⟨rfl, below_setRow d2 (by omega) _⟩
      · rw [if_neg ha] at h3 ⊢
        have hnf : ¬ (f : Int) = a := by omega
        obtain ⟨L, hL⟩ : ∃ L, DerB s lRight 0 = L := ⟨_, rfl⟩
        have hLb : ∀ i, 0 ≤ L i ∧ L i < 256 := fun i => by rw [← hL]; exact DerB_bd _ _ _ _
        have HD : Hid (∀ W, Calls Tryz.prog 31 #[Agg8 s, .string ⟨#[114, 105, 103, 104, 116]⟩, .int .i64 0] W fun e w' => e = .returned (Agg8 L) ∧ Below W.heap.size W w') := fun W => by
          have h := refDerive_any s hs ⟨#[114, 105, 103, 104, 116]⟩ (by decide) 0 W
          rw [← hL]
          exact h
        rw [hL]
        clear hL
        have HP : Hid (∀ W, Calls Tryz.prog 79 #[Agg8 L, .int .i64 ((f : Int) + q), .int .i64 (t), .int .i64 a, .int .i64 b] W fun e w' => e = .returned (Agg8 (PartB k L (f + q) (t) a b)) ∧ Below W.heap.size W w') := fun W => ih L hLb _ _ a b W (by omega) h3
        obtain ⟨X, hX⟩ : ∃ X, PartB k L (f + q) (t) a b = X := ⟨_, rfl⟩
        rw [hX] at HP ⊢
        clear hX ih hLb h3
        go_enter Tryz.func79, Tryz.ntmps79
        go_wp2_with (first | (go_at_call 110; refine (HSP.out _).mono ?_; rintro e w' ⟨rfl, rfl⟩))
        refine (HD.out _).mono ?_
        rintro e w1 ⟨rfl, b1⟩
        obtain ⟨c1, d1, z1⟩ := cell1 _ _ _ b1
        clear b1
        go_wp2_with fail
        refine (HP.out _).mono ?_
        rintro e w2 ⟨rfl, b2⟩
        have c2 : w2.heap[w.heap.size + 1]? = some (.cells C0 51 (0, 0)) := by rw [b2.block _ (by simp; omega), Below.heap_alloc _ _ _ (by omega), c1]
        have d2 : Below w.heap.size w w2 := (d1.alloc (by omega) _).trans (b2.mono (by simp; omega))
        clear b2 c1 d1 HP HD HSP
        go_wp2_with (refine wpList_store_row rfl 51 _ _ rfl (w.heap.size + 1) (Cells8 X) rfl rfl 51 C0 c2 (by kernel_rfl) rfl (by simp [Value.oneCell']) ?_)
        exact bodyPost_ret (v := Agg8 X) (results_cell_row rfl _ _ (w.heap.size + 1) 51 (Cells8 X) (0, 0) _ rfl (setRow_heap _ _ _ _ _ _ c2) Tryz.underlying51 rfl (by kernel_rfl)) rfl ⟨rfl, below_setRow d2 (by omega) _⟩
end Go.Proofs.YtkpebabbnndopaaGreatDoor

/- Lists of what is kept, in memory that a call has made. -/
namespace Go.Proofs.YtkpebabbnndopaaGreatDoor
open Go.RowKit

def Its (w : World) (base : Nat) (v : Value) (l : List It) : Prop := w.ownsRow base 53 12 v l.length (itCells l)
theorem Its.nil (w : World) (base : Nat) : Its w base (.slice none 0 0) [] := ⟨rfl, .inl ⟨rfl, rfl⟩⟩
theorem Its.mono {w : World} {base base' : Nat} {v : Value} {l : List It} (h : Its w base v l) (hb : base' ≤ base) : Its w base' v l := by
  refine ⟨h.1, ?_⟩
  rcases h.2 with h | ⟨g, cap, cur, h1, h2, h3⟩
  · exact .inl h
  · exact .inr ⟨g, cap, cur, h1, by omega, h3⟩
theorem Its.below {w w' : World} {base : Nat} {v : Value} {l : List It} (h : Its w base v l) (hb : Below w.heap.size w w') : Its w' base v l := by
  refine ⟨h.1, ?_⟩
  rcases h.2 with h | ⟨g, cap, cur, h1, h2, h3, h4⟩
  · exact .inl h
  · exact .inr ⟨g, cap, cur, h1, h2, by rw [hb.block _ (Array.getElem?_eq_some_iff.1 h3).1, h3], h4⟩
theorem Its.one (w : World) (base : Nat) (hb : base ≤ w.heap.size) (x : It) : Its (w.alloc (.cells x.cells.toArray 53)) base (.slice (some ⟨w.heap.size, 0, none⟩) 1 1) [x] := by
  have h := World.ownsRow_lit (base := base) (e := 53) (size := 12) w x.cells.toArray 1 hb (by decide) rfl
  have e : itCells [x] = x.cells := by show x.cells ++ [] = _; simp
  unfold Its
  rw [e]
  exact h
theorem Its.cells {w : World} {base : Nat} {g n cap : Nat} {l : List It} (h : Its w base (.slice (some ⟨g, 0, none⟩) n cap) l) : n = l.length ∧ ∀ j u, (itCells l)[j]? = some u → w.cell? ⟨g, j, none⟩ = some u := by
  have hn : n = l.length := by
    rcases h.2 with ⟨h, _⟩ | ⟨g', cap', cur, h1, _⟩
    · cases h
    · cases h1; rfl
  subst hn
  refine ⟨rfl, fun j u hj => ?_⟩
  have hl : j < l.length * 12 := by rw [← itCells_length]; exact (List.getElem?_eq_some_iff.1 hj).1
  rw [World.ownsRow.cellAt h j hl]
  exact hj
theorem its_append (w : World) (base base2 : Nat) (v v2 : Value) (l m : List It) (h : Its w base v l) (h2 : Its w base2 v2 m) (hb : base ≤ w.heap.size) (hl : l.length + m.length ≤ 1000) (ty : TypeId) :
    ∃ v' w', (Builtin.append_ #[45, 45] ty #[v, v2]).run Tryz.prog w = .ok v' w' ∧ Its w' base v' (l ++ m) ∧ Below base w w' ∧ base ≤ w'.heap.size := by
  have hi : (Tryz.prog.info? 53).map (fun i => (i.zero, i.size, i.bytes)) = some (some (.agg #[.int .i64 0, .int .i64 0, .int .i64 0, .int .i64 0, .int .u8 0, .int .u8 0, .int .u8 0, .int .u8 0, .int .u8 0, .int .u8 0, .int .u8 0, .int .u8 0]), 12, 40) := by kernel_rfl
  cases hq : Tryz.prog.info? 53 with
  | none => rw [hq] at hi; simp at hi
  | some i =>
    rw [hq] at hi
    simp at hi
    obtain ⟨hz, hs, hby⟩ := hi
    have hcase : v2 = .slice none 0 0 ∧ m = [] ∨ ∃ g cap, v2 = .slice (some ⟨g, 0, none⟩) m.length cap := by
      rcases h2.2 with ⟨e1, e2⟩ | ⟨g, cap, cur, e1, _⟩
      · exact .inl ⟨e1, List.length_eq_zero_iff.1 e2⟩
      · exact .inr ⟨g, cap, e1⟩
    rcases hcase with ⟨rfl, rfl⟩ | ⟨g, cap, rfl⟩
    · refine ⟨v, w, run_append_owned_none (P := Tryz.prog) w base 45 ty 53 i 12 Tryz.underlying45 hq v l.length (itCells l) h, by rw [List.append_nil]; exact h, Below.refl _ _, hb⟩
    · obtain ⟨v', w', hr, ho, hg, _, hbk⟩ := run_append_own_at (P := Tryz.prog) w base 45 ty 53 i _ 12 40 Tryz.underlying45 hq hz hs hby rfl (by omega) v l.length (itCells l) h ⟨g, 0, none⟩ m.length cap (itCells m) (itCells_length m)
        (fun j u hj => by
          have ea : (⟨g, 0, none⟩ : Addr).add j = ⟨g, j, none⟩ := by unfold Addr.add; split <;> simp_all
          rw [ea]
          exact h2.cells.2 j u hj) (itCells_one m) (by unfold maxLen; omega) (by omega) hb
      refine ⟨v', w', hr, ?_, ?_, ?_⟩
      · unfold Its
        rw [List.length_append, itCells_append]
        exact ho
      · refine (Below.refl base w).grown hg hb (fun k hk => ?_)
        rcases h.2 with ⟨e1, _⟩ | ⟨g', cap', cur, e1, e2, _⟩
        · subst e1; cases hk
        · subst e1; cases hk; exact e2
      · exact Nat.le_trans hb hg.size

/-- append as a step of the walk, by its run -/
theorem wpList_app {ops : Array Oper} {rest : List Oper} {o : Oper} {a : Act} {w : World} {Q : Exit → Act → World → Prop} (hgd : o.guard = none) (x y : Operand) (t ty : TypeId)
    (ho : o.op = .call { callee := .builtin .append, args := #[x, y], argTypes := #[t, t] }) (hty : o.type = ty) (v u v' : Value) (w' : World) (hx : a.eval x = v) (hy : a.eval y = u)
    (hr : (Builtin.append_ #[t, t] ty #[v, u]).run Tryz.prog w = .ok v' w') (h : wpList Tryz.prog ops Q rest (a.put o.dst v') w') : wpList Tryz.prog ops Q (o :: rest) a w :=
  wpList_plain hgd fun _ hK => by
    subst hty
    unfold Oper.wp execOp
    simp only [ho, resolve, invoke, builtin, Sem.run_bind, Sem.run_pure, Result.andThen_ok, List.map_toArray, List.map_cons, List.map_nil, hx, hy, hr]
    exact hK _ _ h

/-- append as a step of a region that draws, by its run -/
theorem step_app {ops : Array Oper} {o : Oper} {a : Act} {w : World} {K : Act → World → Prop} {Q : Exit → Act → World → Prop} {E : Prop}
    (hg : o.guard = none) (s x : Operand) (t ty : TypeId) (hop : o.op = Op.call { callee := Callee.builtin Builtin.append, args := #[s, x], argTypes := #[t, t] }) (hty : o.type = ty) (v u v' : Value) (w' : World)
    (hs : a.eval s = v) (hx : a.eval x = u) (hrun : (Builtin.append_ #[t, t] ty #[v, u]).run Tryz.prog w = .ok v' w') (hK : K (a.put o.dst v') w') :
    if Region.wanted o (yielded ops a.tmps) = true then Oper.wp Tryz.prog o a w K Q else E := by
  have hw : Region.wanted o (yielded ops a.tmps) = true := by simp [Region.wanted, hg]
  rw [if_pos hw]
  subst hty
  unfold Oper.wp
  simp [execOp, hop, resolve, invoke, builtin, hs, hx, hrun, Result.andThen]
  exact hK
end Go.Proofs.YtkpebabbnndopaaGreatDoor

/- (*epochref.Group).parts, which calls itself. -/
namespace Go.Proofs.YtkpebabbnndopaaGreatDoor
open Go.RowKit
set_option linter.unusedVariables false

/-- what a region's loads read of the other's group itself -/
abbrev SG (rb : Nat) (cs : Array Value) (W : World) : Prop := (∀ o, W.cell? ⟨rb, o, none⟩ = cs[o]?) ∧ rb < W.heap.size
theorem SG.below {rb : Nat} {cs : Array Value} {W W' : World} (h : SG rb cs W) (hb : Below W.heap.size W W') : SG rb cs W' :=
  ⟨fun o => by rw [hb.cell (p := ⟨rb, o, none⟩) h.2, h.1], by have := hb.size; have := h.2; omega⟩
theorem SG.drew {rb : Nat} {cs : Array Value} {W : World} (h : SG rb cs W) : SG rb cs W.drew := h.below (Below.refl _ _).drew
theorem SG.alloc {rb : Nat} {cs : Array Value} {W : World} (h : SG rb cs W) (o : Obj) : SG rb cs (W.alloc o) := h.below ((Below.refl _ _).alloc (Nat.le_refl _) _)
theorem SG.set {rb : Nat} {cs : Array Value} {W : World} (h : SG rb cs W) (b o : Nat) (v : Value) (h1 : rb ≠ b) : SG rb cs (W.setCell ⟨b, o, none⟩ v) :=
  ⟨fun i => by rw [← h.1 i]; exact World.cell?_of_block (w := W) (Below.heap_setCell _ _ _ _ h1), by simp [World.setCell]; exact h.2⟩

def PartsC (S : List Nat) (rb mb : Nat) (cs : Array Value) (ov : Nat → Value) (st : St) (steps : Int) (k : Nat) : Prop := ∀ (f t : Nat) (w : World), RefG w S rb mb cs ov st steps → st.node f t → t - f ≤ k + 1 →
    Calls Tryz.prog 102 #[.pointer (some ⟨rb, 0, none⟩), .int .i64 f, .int .i64 t] w fun e w' => ∃ v, e = .returned v ∧ Below w.heap.size w w' ∧ Its w' w.heap.size v (st.parts k f t)

set_option maxRecDepth 20000 in
set_option maxHeartbeats 2000000 in
theorem refParts_step (S : List Nat) (rb mb : Nat) (cs : Array Value) (ov : Nat → Value) (st : St) (steps : Int) (ok : st.Ok) (k : Nat) (ih : ∀ k', k = k' + 1 → PartsC S rb mb cs ov st steps k') : PartsC S rb mb cs ov st steps k := by
  intro f t w hr hnode hk
  obtain ⟨hft, htn⟩ := St.node_in ok hnode
  have h16 := ok.n16
  have hsg : SG rb (CellsG st steps mb) w := ⟨(row_facts' hr.2.2.2.1).1, (Array.getElem?_eq_some_iff.1 hr.2.2.2.1).1⟩
  have hA := hsg.1
  have HM : Hid (∀ i, i < st.n → w.cell? ⟨mb, i * 3, none⟩ = some (.bool (st.m i).begun)) := fun i hi => (hr.cells i hi).2.2.1
  have HR : Hid (RefG w S rb mb cs ov st steps) := hr
  have HNODE : Hid (st.node f t) := hnode
  have HIH : Hid (∀ k', k = k' + 1 → PartsC S rb mb cs ov st steps k') := ih
  have HP : Hid (∀ W, Calls Tryz.prog 79 #[Agg8 st.s, .int .i64 0, .int .i64 st.n, .int .i64 f, .int .i64 t] W fun e w' => e = .returned (Agg8 (st.part f t)) ∧ Below W.heap.size W w') := fun W => refPartG_any 16 st.s ok.hs 0 st.n f t W ok.n16 hnode
  have HL1 : Hid (st.begun f t = false → st.parts k f t = [⟨0, f, t, 0, st.part f t⟩]) := st.parts_not k f t
  have HL2 : Hid (st.begun f t = true → t - f = 1 → st.parts k f t = []) := st.parts_one k f t
  obtain ⟨L, hL⟩ : ∃ L, st.parts k f t = L := ⟨_, rfl⟩
  rw [hL] at HL1 HL2 ⊢
  have HL : Hid (st.parts k f t = L) := hL
  obtain ⟨X, hX⟩ : ∃ X, st.part f t = X := ⟨_, rfl⟩
  rw [hX] at HL1 HP
  clear hr hnode ih hL hX
  go_enter Tryz.func102, Tryz.ntmps102
  go_wp2_with fail
  go_loopg [7, 8] (t - f) (fun k b i wr => ∃ j : Nat, i = .int .i64 j ∧ f ≤ j ∧ j + k = t ∧ b = .bool (st.begun f j) ∧ wr = w)
  case atStart => exact ⟨f, rfl, Nat.le_refl _, by omega, by rw [St.begun_self], rfl⟩
  case round =>
    obtain ⟨j, rfl, hj1, hj2, rfl, rfl⟩ := hrel
    by_cases hlt : j < t
    · have hstep := St.begun_step st f j hj1
      have HST : Hid (st.begun f (j + 1) = (st.begun f j || (st.m j).begun)) := hstep
      have hm := HM.out j (by omega)
      clear hstep
      cases hb : st.begun f j with
      | true =>
        rw [hb] at HST
        go_wp2_with fail
        go_roundg (gk - 1)
        case measure => omega
        case rel => exact ⟨j + 1, by go_num, by omega, by omega, by rw [HST.out]; rfl, rfl⟩
      | false =>
        rw [hb] at HST
        go_wp2_with fail
        go_roundg (gk - 1)
        case measure => omega
        case rel => exact ⟨j + 1, by go_num, by omega, by omega, by rw [HST.out]; simp, rfl⟩
    · obtain rfl : j = t := by omega
      clear hlt
      cases hb : st.begun f j with
      | false =>
        have hLe := HL1.out hb
        subst hLe
        have hn1 : rb ≠ wr.heap.size := by have := hsg.2; omega
        go_upto_region 7 with fail
        go_cut [9] (fun s9 wy => ∃ kb, s9 = .pointer (some ⟨kb, 0, none⟩) ∧ wy.heap[kb]? = some (.cells (Cells8 X) 51 (0, 0)) ∧ Below wr.heap.size wr wy)
        case first =>
          go_region_held3 (fun W => SG rb (CellsG st steps mb) W) ((with_reducible first | exact hsg.drew | exact (SG.alloc hsg _).drew | (refine SG.set (SG.set (SG.set (SG.set (SG.set (SG.set (SG.set (SG.set ?_ _ _ _ hn1) _ _ _ hn1) _ _ _ hn1) _ _ _ hn1) _ _ _ hn1) _ _ _ hn1) _ _ _ hn1) _ _ _ hn1; assumption) | exact SG.alloc (by assumption) _ | exact SG.below (by assumption) hb1 | exact SG.below (SG.alloc hsg _).drew hb1 | exact SG.below hsg.drew hb1 | exact SG.alloc (SG.below hsg.drew hb1) _)) ((go_at_call 79; refine (HP.out _).mono ?_; rintro e w1 ⟨rfl, hb1⟩; obtain ⟨hc1, hf1⟩ := bcell hb1))
          · go_wp2_with fail
            go_meet
            exact ⟨w1.heap.size, rfl, (MapKept.heap_alloc _ _).1, ((Below.refl _ wr).drew.trans hb1).alloc hb1.size _⟩
          · go_wp2_with fail
            go_meet
            obtain ⟨hk1, hk2⟩ := newcell' wr w1 hb1
            rw [stores8_row w1 wr.heap.size _ _ X hk2]
            exact ⟨wr.heap.size, rfl, setRow_heap _ _ _ _ _ _ hk2, below_setRow hk1 (Nat.le_refl _) _⟩
        case rest =>
          obtain ⟨kb, rfl, hkb, hbel⟩ := hcut
          have hz := hbel.size
          go_wp2_with (refine wpList_load_row rfl 51 _ rfl kb rfl 51 (Cells8 X) (0, 0) _ hkb Tryz.underlying51 rfl (by kernel_rfl) ?_)
          go_ret
          exact ⟨_, rfl, hbel.alloc hz _, Its.one wc wr.heap.size hz ⟨0, f, j, 0, X⟩⟩
      | true =>
        by_cases h1 : j - f = 1
        · have hLe := HL2.out hb h1
          subst hLe
          go_wp2_with fail
          go_ret
          exact ⟨_, rfl, Below.refl _ _, Its.nil _ _⟩
        · obtain ⟨k', rfl⟩ : ∃ k', k = k' + 1 := ⟨k - 1, by omega⟩
          have hq := SplitN_bd (j - f) (by omega)
          have hpt := St.parts_two st k' f j hb h1
          rw [HL.out] at hpt
          subst hpt
          obtain ⟨⟨hn1, _⟩, hn2, _⟩ := St.halves ok HNODE.out (by omega)
          have HSP : Hid (∀ W, Calls Tryz.prog 110 #[.int .i64 ((j : Int) - f)] W fun e w' => e = .returned (.int .i64 (SplitN (j - f))) ∧ w' = W) := fun W => by
            have h := split_any ((j : Int) - f) (by omega) (by omega) W
            have e1 : ((j : Int) - f) = ((j - f : Nat) : Int) := by omega
            rw [e1] at h ⊢
            rw [SplitN_eq] at h
            exact h
          have lq1 := St.parts_len st k' f (f + SplitN (j - f)) (by omega)
          have lq2 := St.parts_len st k' (f + SplitN (j - f)) j (by omega)
          have HC1 : Hid (∀ W, RefG W S rb mb cs ov st steps → Calls Tryz.prog 102 #[.pointer (some ⟨rb, 0, none⟩), .int .i64 f, .int .i64 ((f : Int) + SplitN (j - f))] W fun e w' => ∃ v, e = .returned v ∧ Below W.heap.size W w' ∧ Its w' W.heap.size v (st.parts k' f (f + SplitN (j - f)))) := fun W hW => HIH.out k' rfl f (f + SplitN (j - f)) W hW hn1 (by omega)
          have HC2 : Hid (∀ W, RefG W S rb mb cs ov st steps → Calls Tryz.prog 102 #[.pointer (some ⟨rb, 0, none⟩), .int .i64 ((f : Int) + SplitN (j - f)), .int .i64 j] W fun e w' => ∃ v, e = .returned v ∧ Below W.heap.size W w' ∧ Its w' W.heap.size v (st.parts k' (f + SplitN (j - f)) j)) := fun W hW => HIH.out k' rfl (f + SplitN (j - f)) j W hW hn2 (by omega)
          obtain ⟨P1, hP1⟩ : ∃ P1, st.parts k' f (f + SplitN (j - f)) = P1 := ⟨_, rfl⟩
          obtain ⟨P2, hP2⟩ : ∃ P2, st.parts k' (f + SplitN (j - f)) j = P2 := ⟨_, rfl⟩
          rw [hP1] at HC1 lq1
          rw [hP2] at HC2 lq2
          have HPP : Hid (st.parts k' f (f + SplitN (j - f)) = P1 ∧ st.parts k' (f + SplitN (j - f)) j = P2) := ⟨hP1, hP2⟩
          obtain ⟨q, hqe⟩ : ∃ q, SplitN (j - f) = q := ⟨_, rfl⟩
          rw [hqe] at HC1 HC2 HSP hq lq1 lq2
          clear hP1 hP2 hqe HL HL1 HL2 HIH HNODE hn1 hn2 HP
          go_wp2_with (go_at_call 110; refine (HSP.out _).mono ?_; rintro e w' ⟨rfl, rfl⟩)
          refine (HC1.out _ HR.out).mono ?_
          rintro e w1 ⟨v1, rfl, b1, i1⟩
          have hr1 := HR.out.below b1
          have HI1 : Hid (Its w1 w'.heap.size v1 P1) := i1
          have HR1 : Hid (RefG w1 S rb mb cs ov st steps) := hr1
          clear i1 hr1
          go_wp2_with fail
          refine (HC2.out _ HR1.out).mono ?_
          rintro e w2 ⟨v2, rfl, b2, i2⟩
          have hz1 := b1.size
          have hz2 := b2.size
          obtain ⟨v3, w3, hrun, i3, b3, _⟩ := its_append w2 w'.heap.size w1.heap.size v1 v2 P1 P2 (HI1.out.below b2) i2 (by omega) (by omega) 45
          have HRUN : Hid ((Builtin.append_ #[45, 45] 45 #[v1, v2]).run Tryz.prog w2 = .ok v3 w3) := hrun
          have HI3 : Hid (Its w3 w'.heap.size v3 (P1 ++ P2)) := i3
          clear hrun i3 i2
          go_wp2_with (at_builtin; refine wpList_app rfl _ _ 45 45 rfl rfl _ _ _ _ rfl rfl HRUN.out ?_)
          go_ret
          refine ⟨_, rfl, (b1.trans (b2.mono hz1)).trans b3, ?_⟩
          rw [HPP.out.1, HPP.out.2]
          exact HI3.out

theorem refParts_any (S : List Nat) (rb mb : Nat) (cs : Array Value) (ov : Nat → Value) (st : St) (steps : Int) (ok : st.Ok) (k : Nat) : PartsC S rb mb cs ov st steps k := by
  induction k with
  | zero => exact refParts_step S rb mb cs ov st steps ok 0 (fun k' h => by omega)
  | succ k ih => exact refParts_step S rb mb cs ov st steps ok (k + 1) (fun k' h => by cases h; exact ih)
end Go.Proofs.YtkpebabbnndopaaGreatDoor
