import Derived.Test.YtkpebabbnndopaaGreatDoorRows
import Derived.Test.YtkpebabbnndopaaGreatDoorC01
import Derived.WalkKit
import Derived.Laws.StructEq
import Derived.Test.YtkpebabbnndopaaGreatDoorC08
/- Arrays of bytes held against each other. -/
namespace Go.Proofs.YtkpebabbnndopaaGreatDoor
open Go.RowKit

theorem all_range (xs ys : List Int) (h : xs.length = ys.length) : ((List.range xs.length).all fun i => xs.getD i 0 == ys.getD i 0) = (xs == ys) := by
  induction xs generalizing ys with
  | nil => cases ys with
    | nil => rfl
    | cons y ys => simp at h
  | cons x xs ih => cases ys with
    | nil => simp at h
    | cons y ys =>
      have ih := ih ys (by simpa using h)
      rw [List.length_cons, List.range_succ_eq_map, List.all_cons, List.all_map]
      simp only [List.getD_cons_zero, Function.comp_def, List.getD_cons_succ, ih]
      simp [List.cons_beq_cons]

theorem eq_ints (d : Nat) (t : TypeId) (n : Nat) (ht : Tryz.prog.underlying t = some (.array n 5)) (xs ys : List Int) (hx : xs.length = n) (hy : ys.length = n) (w : World) :
    (Op.equalIn (d + 2) t (.agg (xs.map (Value.int .u8)).toArray) (.agg (ys.map (Value.int .u8)).toArray)).run Tryz.prog w = .ok (xs == ys) w := by
  have he : Tryz.prog.underlying 5 = some (.int .u8) := Tryz.underlying5
  have hsz : ∀ w, (sizeOf 5).run Tryz.prog w = .ok 1 w := fun w => by kernel_rfl
  rw [← all_range xs ys (hx.trans hy.symm), hx, List.range_eq_range', Op.equalIn]
  simp only [Sem.run_bind, run_underlying ht, Result.andThen_ok, hsz, Std.Legacy.Range.forIn_eq_forIn_range', Std.Legacy.Range.size, Nat.sub_zero, Nat.add_sub_cancel, Nat.div_one]
  have hl : ∀ i ∈ List.range' 0 n 1, i < n := fun i hi => by simpa using (List.mem_range'_1.1 hi).2
  generalize List.range' 0 n 1 = l at hl ⊢
  induction l with
  | nil => simp
  | cons i l ih =>
    have hi : i < n := hl i (by simp)
    have px : (part 5 (xs.map (Value.int .u8)).toArray (i * 1)).run Tryz.prog w = .ok (.int .u8 (xs.getD i 0)) w := by
      simp [part, isAgg, run_underlying he, List.getD, List.getElem?_eq_getElem (show i < xs.length by omega)]
    have py : (part 5 (ys.map (Value.int .u8)).toArray (i * 1)).run Tryz.prog w = .ok (.int .u8 (ys.getD i 0)) w := by
      simp [part, isAgg, run_underlying he, List.getD, List.getElem?_eq_getElem (show i < ys.length by omega)]
    have pe : (Op.equalIn (d + 1) 5 (.int .u8 (xs.getD i 0)) (.int .u8 (ys.getD i 0))).run Tryz.prog w = .ok (xs.getD i 0 == ys.getD i 0) w :=
      run_equalIn_int w d 5 .u8 .u8 _ _ he
    simp only [List.forIn_cons, Sem.run_bind, px, py, pe, Result.andThen_ok, List.all_cons]
    cases hb : (xs.getD i 0 == ys.getD i 0)
    · simp
    · simp only [Bool.not_true, Bool.false_eq_true, if_false, Sem.run_pure, Result.andThen_ok, Bool.true_and]
      exact ih fun j hj => hl j (by simp [hj])

theorem eq_secrets (x y : Nat → Int) (w : World) :
    (Op.equalIn 10000 51 (Agg8 x) (Agg8 y)).run Tryz.prog w = .ok ([x 0, x 1, x 2, x 3, x 4, x 5, x 6, x 7] == [y 0, y 1, y 2, y 3, y 4, y 5, y 6, y 7]) w :=
  eq_ints 9998 51 8 Tryz.underlying51 [x 0, x 1, x 2, x 3, x 4, x 5, x 6, x 7] [y 0, y 1, y 2, y 3, y 4, y 5, y 6, y 7] rfl rfl w
theorem eq_secrets_same (x : Nat → Int) (w : World) : (Op.equalIn 10000 51 (Agg8 x) (Agg8 x)).run Tryz.prog w = .ok true w := by
  rw [eq_secrets]; simp
theorem eq_lit (x0 x1 x2 x3 x4 x5 x6 x7 y0 y1 y2 y3 y4 y5 y6 y7 : Int) (w : World) :
    (Op.equalIn 10000 51 (.agg #[.int .u8 x0, .int .u8 x1, .int .u8 x2, .int .u8 x3, .int .u8 x4, .int .u8 x5, .int .u8 x6, .int .u8 x7]) (.agg #[.int .u8 y0, .int .u8 y1, .int .u8 y2, .int .u8 y3, .int .u8 y4, .int .u8 y5, .int .u8 y6, .int .u8 y7])).run Tryz.prog w = .ok ([x0, x1, x2, x3, x4, x5, x6, x7] == [y0, y1, y2, y3, y4, y5, y6, y7]) w :=
  eq_ints 9998 51 8 Tryz.underlying51 [x0, x1, x2, x3, x4, x5, x6, x7] [y0, y1, y2, y3, y4, y5, y6, y7] rfl rfl w
theorem eqlB (x0 x1 x2 x3 x4 x5 x6 x7 : Int) (w : World) :
    (binOp .eql 51 (.agg #[.int .u8 x0, .int .u8 x1, .int .u8 x2, .int .u8 x3, .int .u8 x4, .int .u8 x5, .int .u8 x6, .int .u8 x7]) (.agg #[.int .u8 x0, .int .u8 x1, .int .u8 x2, .int .u8 x3, .int .u8 x4, .int .u8 x5, .int .u8 x6, .int .u8 x7])).run Tryz.prog w = .ok (.bool true) w := by
  rw [run_eql_struct, eq_lit]
  simp
theorem eq_tags (x y : Nat → Int) (w : World) :
    (Op.equalIn 10000 197 (.agg #[.int .u8 (x 0), .int .u8 (x 1), .int .u8 (x 2), .int .u8 (x 3)]) (.agg #[.int .u8 (y 0), .int .u8 (y 1), .int .u8 (y 2), .int .u8 (y 3)])).run Tryz.prog w = .ok ([x 0, x 1, x 2, x 3] == [y 0, y 1, y 2, y 3]) w :=
  eq_ints 9998 197 4 Tryz.underlying197 [x 0, x 1, x 2, x 3] [y 0, y 1, y 2, y 3] rfl rfl w
/-- '==' or '!=' on two arrays or structs, as a step of the walk -/
theorem wpList_cmp_agg {ops : Array Oper} {rest : List Oper} {o : Oper} {a : Act} {w : World} {Q : Exit → Act → World → Prop} (hgd : o.guard = none) (op : BinOp) (T T2 : TypeId) (x y : Operand) (ho : o.op = .binOp op T x y T2)
    (xs ys : Array Value) (hx : a.eval x = .agg xs) (hy : a.eval y = .agg ys) (hm : Tryz.prog.eqGuardType Tryz.prog.depth T = false) (b : Bool)
    (hrun : (binOp op T (.agg xs) (.agg ys)).run Tryz.prog w = .ok (.bool b) w) (h : wpList Tryz.prog ops Q rest (a.put o.dst (.bool b)) w) : wpList Tryz.prog ops Q (o :: rest) a w :=
  wpList_plain hgd fun _ hK => by
    unfold Oper.wp execOp
    simp only [ho, hx, hy, Sem.run_bind, run_eqGuard_agg w op T x y xs ys hm, Result.andThen_ok, hrun, Sem.run_pure]
    exact hK _ _ h
end Go.Proofs.YtkpebabbnndopaaGreatDoor

/- Items held against each other. -/
namespace Go.Proofs.YtkpebabbnndopaaGreatDoor
open Go.RowKit

theorem eqFields_true (d : Nat) (xs : Array Value) (fs : List Field) (w : World) (h : ∀ f, f ∈ fs → ∃ v, (part f.type xs f.offset).run Tryz.prog w = .ok v w ∧ (Op.equalIn d f.type v v).run Tryz.prog w = .ok true w) : (Op.eqFields d xs xs fs).run Tryz.prog w = .ok true w := by
  induction fs with
  | nil => simp [Op.eqFields]
  | cons f fs ih =>
    obtain ⟨v, h1, h2⟩ := h f List.mem_cons_self
    have ih := ih fun g hg => h g (List.mem_cons_of_mem _ hg)
    simp only [Op.eqFields]
    split
    · simp only [Sem.run_bind, h1, Result.andThen_ok, h2, Bool.not_true, Bool.false_eq_true, if_false]
      exact ih
    · exact ih
theorem eq_item (x : It) (w : World) : (Op.equalIn 10000 53 (.agg x.cells.toArray) (.agg x.cells.toArray)).run Tryz.prog w = .ok true w := by
  rw [run_equalIn_struct w 9999 53 _ _ (by kernel_rfl) (by kernel_rfl)]
  have hF : (Tryz.prog.fieldsOf 53).toList.map (fun f => (f.type, f.offset)) = [(49, 0), (3, 1), (3, 2), (3, 3), (51, 4)] := by kernel_rfl
  refine eqFields_true _ _ _ _ fun f hf => ?_
  have hm : (f.type, f.offset) ∈ (Tryz.prog.fieldsOf 53).toList.map (fun f => (f.type, f.offset)) := List.mem_map.2 ⟨f, hf, rfl⟩
  rw [hF] at hm
  simp only [List.mem_cons, List.not_mem_nil, or_false, Prod.mk.injEq] at hm
  rcases hm with ⟨h1, h2⟩ | ⟨h1, h2⟩ | ⟨h1, h2⟩ | ⟨h1, h2⟩ | ⟨h1, h2⟩ <;> rw [h1, h2]
  · exact ⟨.int .i64 x.kind, by simp [part, isAgg, run_underlying Tryz.underlying49, It.cells], by rw [run_equalIn_int w 9998 49 .i64 .i64 _ _ Tryz.underlying49]; simp⟩
  · exact ⟨.int .i64 x.f, by simp [part, isAgg, run_underlying Tryz.underlying3, It.cells], by rw [run_equalIn_int w 9998 3 .i64 .i64 _ _ Tryz.underlying3]; simp⟩
  · exact ⟨.int .i64 x.t, by simp [part, isAgg, run_underlying Tryz.underlying3, It.cells], by rw [run_equalIn_int w 9998 3 .i64 .i64 _ _ Tryz.underlying3]; simp⟩
  · exact ⟨.int .i64 x.g, by simp [part, isAgg, run_underlying Tryz.underlying3, It.cells], by rw [run_equalIn_int w 9998 3 .i64 .i64 _ _ Tryz.underlying3]; simp⟩
  · refine ⟨Agg8 x.s, ?_, ?_⟩
    · simp [part, isAgg, run_underlying Tryz.underlying51, It.cells]
    · have h := eq_ints 9997 51 8 Tryz.underlying51 [x.s 0, x.s 1, x.s 2, x.s 3, x.s 4, x.s 5, x.s 6, x.s 7] [x.s 0, x.s 1, x.s 2, x.s 3, x.s 4, x.s 5, x.s 6, x.s 7] rfl rfl w
      have e : ([x.s 0, x.s 1, x.s 2, x.s 3, x.s 4, x.s 5, x.s 6, x.s 7] == [x.s 0, x.s 1, x.s 2, x.s 3, x.s 4, x.s 5, x.s 6, x.s 7]) = true := by simp
      rw [e] at h
      exact h
theorem neq_item (x : It) (w : World) : (binOp .neq 53 (.agg x.cells.toArray) (.agg x.cells.toArray)).run Tryz.prog w = .ok (.bool false) w := by
  rw [run_neq_struct, eq_item]
  rfl
end Go.Proofs.YtkpebabbnndopaaGreatDoor
