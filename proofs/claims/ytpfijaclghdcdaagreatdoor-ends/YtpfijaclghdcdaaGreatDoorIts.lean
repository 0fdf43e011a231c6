/- Lists of what is kept, in memory that a call has made. -/
import Derived.Test.YtpfijaclghdcdaaGreatDoorRows
import Derived.Test.YtpfijaclghdcdaaGreatDoorPureI
import Derived.WalkKit
import Derived.Maps.AppendAt
import Derived.Laws.OwnMore
namespace Go.Proofs.YtpfijaclghdcdaaGreatDoor
open Go.RowKit

def Its (w : World) (base : Nat) (v : Value) (l : List It) : Prop := w.ownsRow base 49 12 v l.length (itCells l)
theorem Its.nil (w : World) (base : Nat) : Its w base (.slice none 0 0) [] := ⟨rfl, .inl ⟨rfl, rfl⟩⟩
theorem Its.mono {w : World} {base base' : Nat} {v : Value} {l : List It} (h : Its w base v l) (hb : base' ≤ base) : Its w base' v l := by
  refine ⟨h.1, ?_⟩
  rcases h.2 with h | ⟨g, cap, cur, h1, h2, h3⟩
  · exact .inl h
  · exact .inr ⟨g, cap, cur, h1, by omega, h3⟩
theorem Its.below {w w' : World} {base : Nat} {v : Value} {l : List It} (h : Its w base v l) (hb : Below w.heap.size w w') : Its w' base v l := by
  refine ⟨h.1, ?_⟩
  rcases h.2 with h | ⟨g, cap, cur, h1, h2, h3, h4⟩
  · exact .inl h
  · exact .inr ⟨g, cap, cur, h1, h2, by rw [hb.block _ (Array.getElem?_eq_some_iff.1 h3).1, h3], h4⟩
theorem Its.one (w : World) (base : Nat) (hb : base ≤ w.heap.size) (x : It) : Its (w.alloc (.cells x.cells.toArray 49)) base (.slice (some ⟨w.heap.size, 0, none⟩) 1 1) [x] := by
  have h := World.ownsRow_lit (base := base) (e := 49) (size := 12) w x.cells.toArray 1 hb (by decide) rfl
  have e : itCells [x] = x.cells := by show x.cells ++ [] = _; simp
  unfold Its
  rw [e]
  exact h
theorem Its.cells {w : World} {base : Nat} {g n cap : Nat} {l : List It} (h : Its w base (.slice (some ⟨g, 0, none⟩) n cap) l) : n = l.length ∧ ∀ j u, (itCells l)[j]? = some u → w.cell? ⟨g, j, none⟩ = some u := by
  have hn : n = l.length := by
    rcases h.2 with ⟨h, _⟩ | ⟨g', cap', cur, h1, _⟩
    · cases h
    · cases h1; rfl
  subst hn
  refine ⟨rfl, fun j u hj => ?_⟩
  have hl : j < l.length * 12 := by rw [← itCells_length]; exact (List.getElem?_eq_some_iff.1 hj).1
  rw [World.ownsRow.cellAt h j hl]
  exact hj
theorem its_append (w : World) (base base2 : Nat) (v v2 : Value) (l m : List It) (h : Its w base v l) (h2 : Its w base2 v2 m) (hb : base ≤ w.heap.size) (hl : l.length + m.length ≤ 1000) (ty : TypeId) :
    ∃ v' w', (Builtin.append_ #[41, 41] ty #[v, v2]).run Tryz.prog w = .ok v' w' ∧ Its w' base v' (l ++ m) ∧ Below base w w' ∧ base ≤ w'.heap.size := by
  have hi : (Tryz.prog.info? 49).map (fun i => (i.zero, i.size, i.bytes)) = some (some (.agg #[.int .i64 0, .int .i64 0, .int .i64 0, .int .i64 0, .int .u8 0, .int .u8 0, .int .u8 0, .int .u8 0, .int .u8 0, .int .u8 0, .int .u8 0, .int .u8 0]), 12, 40) := by kernel_rfl
  cases hq : Tryz.prog.info? 49 with
  | none => rw [hq] at hi; simp at hi
  | some i =>
    rw [hq] at hi
    simp at hi
    obtain ⟨hz, hs, hby⟩ := hi
    have hcase : v2 = .slice none 0 0 ∧ m = [] ∨ ∃ g cap, v2 = .slice (some ⟨g, 0, none⟩) m.length cap := by
      rcases h2.2 with ⟨e1, e2⟩ | ⟨g, cap, cur, e1, _⟩
      · exact .inl ⟨e1, List.length_eq_zero_iff.1 e2⟩
      · exact .inr ⟨g, cap, e1⟩
    rcases hcase with ⟨rfl, rfl⟩ | ⟨g, cap, rfl⟩
    · refine ⟨v, w, run_append_owned_none (P := Tryz.prog) w base 41 ty 49 i 12 Tryz.underlying41 hq v l.length (itCells l) h, by rw [List.append_nil]; exact h, Below.refl _ _, hb⟩
    · obtain ⟨v', w', hr, ho, hg, _, hbk⟩ := run_append_own_at (P := Tryz.prog) w base 41 ty 49 i _ 12 40 Tryz.underlying41 hq hz hs hby rfl (by omega) v l.length (itCells l) h ⟨g, 0, none⟩ m.length cap (itCells m) (itCells_length m)
        (fun j u hj => by
          have ea : (⟨g, 0, none⟩ : Addr).add j = ⟨g, j, none⟩ := by unfold Addr.add; split <;> simp_all
          rw [ea]
          exact h2.cells.2 j u hj) (itCells_one m) (by unfold maxLen; omega) (by omega) hb
      refine ⟨v', w', hr, ?_, ?_, ?_⟩
      · unfold Its
        rw [List.length_append, itCells_append]
        exact ho
      · refine (Below.refl base w).grown hg hb (fun k hk => ?_)
        rcases h.2 with ⟨e1, _⟩ | ⟨g', cap', cur, e1, e2, _⟩
        · subst e1; cases hk
        · subst e1; cases hk; exact e2
      · exact Nat.le_trans hb hg.size

/-- append as a step of the walk, by its run -/
theorem wpList_app {ops : Array Oper} {rest : List Oper} {o : Oper} {a : Act} {w : World} {Q : Exit → Act → World → Prop} (hgd : o.guard = none) (x y : Operand) (t ty : TypeId)
    (ho : o.op = .call { callee := .builtin .append, args := #[x, y], argTypes := #[t, t] }) (hty : o.type = ty) (v u v' : Value) (w' : World) (hx : a.eval x = v) (hy : a.eval y = u)
    (hr : (Builtin.append_ #[t, t] ty #[v, u]).run Tryz.prog w = .ok v' w') (h : wpList Tryz.prog ops Q rest (a.put o.dst v') w') : wpList Tryz.prog ops Q (o :: rest) a w :=
  wpList_plain hgd fun _ hK => by
    subst hty
    unfold Oper.wp execOp
    simp only [ho, resolve, invoke, builtin, Sem.run_bind, Sem.run_pure, Result.andThen_ok, List.map_toArray, List.map_cons, List.map_nil, hx, hy, hr]
    exact hK _ _ h

/-- append as a step of a region that draws, by its run -/
theorem step_app {ops : Array Oper} {o : Oper} {a : Act} {w : World} {K : Act → World → Prop} {Q : Exit → Act → World → Prop} {E : Prop}
    (hg : o.guard = none) (s x : Operand) (t ty : TypeId) (hop : o.op = Op.call { callee := Callee.builtin Builtin.append, args := #[s, x], argTypes := #[t, t] }) (hty : o.type = ty) (v u v' : Value) (w' : World)
    (hs : a.eval s = v) (hx : a.eval x = u) (hrun : (Builtin.append_ #[t, t] ty #[v, u]).run Tryz.prog w = .ok v' w') (hK : K (a.put o.dst v') w') :
    if Region.wanted o (yielded ops a.tmps) = true then Oper.wp Tryz.prog o a w K Q else E := by
  have hw : Region.wanted o (yielded ops a.tmps) = true := by simp [Region.wanted, hg]
  rw [if_pos hw]
  subst hty
  unfold Oper.wp
  simp [execOp, hop, resolve, invoke, builtin, hs, hx, hrun, Result.andThen]
  exact hK
end Go.Proofs.YtpfijaclghdcdaaGreatDoor
