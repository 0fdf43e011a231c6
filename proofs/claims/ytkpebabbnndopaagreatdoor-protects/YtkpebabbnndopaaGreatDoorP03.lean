import Derived.Test.YtkpebabbnndopaaGreatDoorC21
import Derived.Test.YtkpebabbnndopaaGreatDoorC08
import Derived.WalkKit
import Derived.Laws.StructEq
import Derived.Test.YtkpebabbnndopaaGreatDoorP01
import Derived.Test.YtkpebabbnndopaaGreatDoorP02
import Derived.WalkSpells
import Derived.WalkLawsBesides
import Derived.Deep.WholeRow
import Derived.Deep.MidRow
import Derived.Deep.LoopGhost
import Derived.BigQuiet
import Derived.Test.YtkpebabbnndopaaGreatDoorRows
import Derived.Maps.AppendAt
import Derived.Laws.OwnMore
/- Items held against each other. -/
namespace Go.Proofs.YtkpebabbnndopaaGreatDoor
open Go.RowKit

theorem eqFields_true (d : Nat) (xs : Array Value) (fs : List Field) (w : World) (h : ∀ f, f ∈ fs → ∃ v, (part f.type xs f.offset).run Tryz.prog w = .ok v w ∧ (Op.equalIn d f.type v v).run Tryz.prog w = .ok true w) : (Op.eqFields d xs xs fs).run Tryz.prog w = .ok true w := by
  induction fs with
  | nil => simp [Op.eqFields]
  | cons f fs ih =>
    obtain ⟨v, h1, h2⟩ := h f List.mem_cons_self
    have ih := ih fun g hg => h g (List.mem_cons_of_mem _ hg)
    simp only [Op.eqFields]
    split
    · simp only [Sem.run_bind, h1, Result.andThen_ok, h2, Bool.not_true, Bool.false_eq_true, if_false]
      exact ih
    · exact ih
theorem eq_item (x : It) (w : World) : (Op.equalIn 10000 53 (.agg x.cells.toArray) (.agg x.cells.toArray)).run Tryz.prog w = .ok true w := by
  rw [run_equalIn_struct w 9999 53 _ _ (by kernel_rfl) (by kernel_rfl)]
  have hF : (Tryz.prog.fieldsOf 53).toList.map (fun f => (f.type, f.offset)) = [(49, 0), (3, 1), (3, 2), (3, 3), (51, 4)] := by kernel_rfl
  refine eqFields_true _ _ _ _ fun f hf => ?_
  have hm : (f.type, f.offset) ∈ (Tryz.prog.fieldsOf 53).toList.map (fun f => (f.type, f.offset)) := List.mem_map.2 ⟨f, hf, rfl⟩
  rw [hF] at hm
  simp only [List.mem_cons, List.not_mem_nil, or_false, Prod.mk.injEq] at hm
  rcases hm with ⟨h1, h2⟩ | ⟨h1, h2⟩ | ⟨h1, h2⟩ | ⟨h1, h2⟩ | ⟨h1, h2⟩ <;> rw [h1, h2]
  · exact ⟨.int .i64 x.kind, by simp [part, isAgg, run_underlying Tryz.underlying49, It.cells], by rw [run_equalIn_int w 9998 49 .i64 .i64 _ _ Tryz.underlying49]; simp⟩
  · exact ⟨.int .i64 x.f, by simp [part, isAgg, run_underlying Tryz.underlying3, It.cells], by rw [run_equalIn_int w 9998 3 .i64 .i64 _ _ Tryz.underlying3]; simp⟩
  · exact ⟨.int .i64 x.t, by simp [part, isAgg, run_underlying Tryz.underlying3, It.cells], by rw [run_equalIn_int w 9998 3 .i64 .i64 _ _ Tryz.underlying3]; simp⟩
  · exact ⟨.int .i64 x.g, by simp [part, isAgg, run_underlying Tryz.underlying3, It.cells], by rw [run_equalIn_int w 9998 3 .i64 .i64 _ _ Tryz.underlying3]; simp⟩
  · refine ⟨Agg8 x.s, ?_, ?_⟩
    · simp [part, isAgg, run_underlying Tryz.underlying51, It.cells]
    · have h := eq_ints 9997 51 8 Tryz.underlying51 [x.s 0, x.s 1, x.s 2, x.s 3, x.s 4, x.s 5, x.s 6, x.s 7] [x.s 0, x.s 1, x.s 2, x.s 3, x.s 4, x.s 5, x.s 6, x.s 7] rfl rfl w
      have e : ([x.s 0, x.s 1, x.s 2, x.s 3, x.s 4, x.s 5, x.s 6, x.s 7] == [x.s 0, x.s 1, x.s 2, x.s 3, x.s 4, x.s 5, x.s 6, x.s 7]) = true := by simp
      rw [e] at h
      exact h
theorem neq_item (x : It) (w : World) : (binOp .neq 53 (.agg x.cells.toArray) (.agg x.cells.toArray)).run Tryz.prog w = .ok (.bool false) w := by
  rw [run_neq_struct, eq_item]
  rfl
end Go.Proofs.YtkpebabbnndopaaGreatDoor

/- The law's (*Side).dump. -/
namespace Go.Proofs.YtkpebabbnndopaaGreatDoor
open Go.RowKit
set_option linter.unusedVariables false

/-- the twelve cells of the item x, from an offset on -/
abbrev ItemAt (W : World) (b o j : Nat) (x : It) : Prop := W.cell? ⟨b, o + j * 12, none⟩ = some (.int .i64 (x.kind : Int)) ∧ W.cell? ⟨b, o + j * 12 + 1, none⟩ = some (.int .i64 (x.f : Int)) ∧ W.cell? ⟨b, o + j * 12 + 2, none⟩ = some (.int .i64 (x.t : Int)) ∧ W.cell? ⟨b, o + j * 12 + 3, none⟩ = some (.int .i64 (x.g : Int)) ∧ W.cell? ⟨b, o + j * 12 + 4, none⟩ = some (.int .u8 (x.s 0)) ∧ W.cell? ⟨b, o + j * 12 + 5, none⟩ = some (.int .u8 (x.s 1)) ∧ W.cell? ⟨b, o + j * 12 + 6, none⟩ = some (.int .u8 (x.s 2)) ∧ W.cell? ⟨b, o + j * 12 + 7, none⟩ = some (.int .u8 (x.s 3)) ∧ W.cell? ⟨b, o + j * 12 + 8, none⟩ = some (.int .u8 (x.s 4)) ∧ W.cell? ⟨b, o + j * 12 + 9, none⟩ = some (.int .u8 (x.s 5)) ∧ W.cell? ⟨b, o + j * 12 + 10, none⟩ = some (.int .u8 (x.s 6)) ∧ W.cell? ⟨b, o + j * 12 + 11, none⟩ = some (.int .u8 (x.s 7))
theorem itCells_at (l : List It) (j : Nat) (hj : j < l.length) (i : Nat) (hi : i < 12) : (itCells l)[j * 12 + i]? = l[j].cells[i]? := by
  induction l generalizing j with
  | nil => simp at hj
  | cons x l ih =>
    have hx : x.cells.length = 12 := rfl
    have e : itCells (x :: l) = x.cells ++ itCells l := rfl
    rw [e]
    cases j with
    | zero => rw [List.getElem?_append_left (by omega)]; simp
    | succ j =>
      rw [List.getElem?_append_right (by omega)]
      have e2 : (j + 1) * 12 + i - x.cells.length = j * 12 + i := by omega
      rw [e2, ih j (by simpa using hj)]
      simp
theorem itemAt_of {W : World} {b o : Nat} {l : List It} (h : ∀ j u, (itCells l)[j]? = some u → W.cell? ⟨b, o + j, none⟩ = some u) (j : Nat) (hj : j < l.length) : ItemAt W b o j l[j] := by
  have c : ∀ i (hi : i < 12) u, l[j].cells[i]? = some u → W.cell? ⟨b, o + j * 12 + i, none⟩ = some u := fun i hi u hu => by
    have := h (j * 12 + i) u (by rw [itCells_at l j hj i hi]; exact hu)
    rw [← Nat.add_assoc] at this
    exact this
  exact ⟨c 0 (by omega) _ rfl, c 1 (by omega) _ rfl, c 2 (by omega) _ rfl, c 3 (by omega) _ rfl, c 4 (by omega) _ rfl, c 5 (by omega) _ rfl, c 6 (by omega) _ rfl, c 7 (by omega) _ rfl, c 8 (by omega) _ rfl, c 9 (by omega) _ rfl, c 10 (by omega) _ rfl, c 11 (by omega) _ rfl⟩
theorem eq_item_lit (x : It) (w : World) : (Op.equalIn 10000 53 (.agg #[.int .i64 (x.kind : Int), .int .i64 (x.f : Int), .int .i64 (x.t : Int), .int .i64 (x.g : Int), .int .u8 (x.s 0), .int .u8 (x.s 1), .int .u8 (x.s 2), .int .u8 (x.s 3), .int .u8 (x.s 4), .int .u8 (x.s 5), .int .u8 (x.s 6), .int .u8 (x.s 7)]) (.agg #[.int .i64 (x.kind : Int), .int .i64 (x.f : Int), .int .i64 (x.t : Int), .int .i64 (x.g : Int), .int .u8 (x.s 0), .int .u8 (x.s 1), .int .u8 (x.s 2), .int .u8 (x.s 3), .int .u8 (x.s 4), .int .u8 (x.s 5), .int .u8 (x.s 6), .int .u8 (x.s 7)])).run Tryz.prog w = .ok true w := eq_item x w
abbrev ZI : Array Value := #[.int .i64 0, .int .i64 0, .int .i64 0, .int .i64 0, .int .u8 0, .int .u8 0, .int .u8 0, .int .u8 0, .int .u8 0, .int .u8 0, .int .u8 0, .int .u8 0]
theorem Outside.setCells {S : List Nat} {a : World} (b : Nat) (hb : b < a.heap.size → b ∈ S) : ∀ (vs : List Value) (o : Nat) (w : World), Outside S a w → Outside S a (w.setCells b o vs)
  | [], _, _, h => h
  | v :: r, o, w, h => by rw [World.setCells]; exact Outside.setCells b hb r (o + 1) _ (h.setCell ⟨b, o, none⟩ hb v)

theorem there12 {w : World} {b o : Nat} (h : w.there b o 12) : (∃ y0 y1 y2 y3 y4 y5 y6 y7 y8 y9 y10 y11, w.cell? ⟨b, o, none⟩ = some y0 ∧ w.cell? ⟨b, o + 1, none⟩ = some y1 ∧ w.cell? ⟨b, o + 2, none⟩ = some y2 ∧ w.cell? ⟨b, o + 3, none⟩ = some y3 ∧ w.cell? ⟨b, o + 4, none⟩ = some y4 ∧ w.cell? ⟨b, o + 5, none⟩ = some y5 ∧ w.cell? ⟨b, o + 6, none⟩ = some y6 ∧ w.cell? ⟨b, o + 7, none⟩ = some y7 ∧ w.cell? ⟨b, o + 8, none⟩ = some y8 ∧ w.cell? ⟨b, o + 9, none⟩ = some y9 ∧ w.cell? ⟨b, o + 10, none⟩ = some y10 ∧ w.cell? ⟨b, o + 11, none⟩ = some y11) ∧ w.frozen? ⟨b, o, none⟩ = false ∧ w.frozen? ⟨b, o + 1, none⟩ = false ∧ w.frozen? ⟨b, o + 2, none⟩ = false ∧ w.frozen? ⟨b, o + 3, none⟩ = false ∧ w.frozen? ⟨b, o + 4, none⟩ = false ∧ w.frozen? ⟨b, o + 5, none⟩ = false ∧ w.frozen? ⟨b, o + 6, none⟩ = false ∧ w.frozen? ⟨b, o + 7, none⟩ = false ∧ w.frozen? ⟨b, o + 8, none⟩ = false ∧ w.frozen? ⟨b, o + 9, none⟩ = false ∧ w.frozen? ⟨b, o + 10, none⟩ = false ∧ w.frozen? ⟨b, o + 11, none⟩ = false := by
  have c : ∀ i, i < 12 → ∃ y, w.cell? ⟨b, o + i, none⟩ = some y := fun i hi => Option.isSome_iff_exists.1 (h i hi).1
  obtain ⟨y0, hy0⟩ := c 0 (by omega)
  obtain ⟨y1, hy1⟩ := c 1 (by omega)
  obtain ⟨y2, hy2⟩ := c 2 (by omega)
  obtain ⟨y3, hy3⟩ := c 3 (by omega)
  obtain ⟨y4, hy4⟩ := c 4 (by omega)
  obtain ⟨y5, hy5⟩ := c 5 (by omega)
  obtain ⟨y6, hy6⟩ := c 6 (by omega)
  obtain ⟨y7, hy7⟩ := c 7 (by omega)
  obtain ⟨y8, hy8⟩ := c 8 (by omega)
  obtain ⟨y9, hy9⟩ := c 9 (by omega)
  obtain ⟨y10, hy10⟩ := c 10 (by omega)
  obtain ⟨y11, hy11⟩ := c 11 (by omega)
  exact ⟨⟨y0, y1, y2, y3, y4, y5, y6, y7, y8, y9, y10, y11, hy0, hy1, hy2, hy3, hy4, hy5, hy6, hy7, hy8, hy9, hy10, hy11⟩, (h 0 (by omega)).2, (h 1 (by omega)).2, (h 2 (by omega)).2, (h 3 (by omega)).2, (h 4 (by omega)).2, (h 5 (by omega)).2, (h 6 (by omega)).2, (h 7 (by omega)).2, (h 8 (by omega)).2, (h 9 (by omega)).2, (h 10 (by omega)).2, (h 11 (by omega)).2⟩
theorem there_setCell {w : World} {b' o' n : Nat} (h : w.there b' o' n) (b o : Nat) (v : Value) : (w.setCell ⟨b, o, none⟩ v).there b' o' n := World.there_setCells h b o [v]

set_option maxRecDepth 20000 in
set_option maxHeartbeats 2000000 in
theorem dump_any {Rep : World → List Nat → Value → St → Nat → Prop} (C : Code Rep) (w : World) (sb : Nat) (U : List Nat) (st : St) (wk : Nat) (h : Side Rep w sb U st wk) :
    Calls Tryz.prog 29 #[.pointer (some ⟨sb, 0, none⟩)] w fun e w' => e = .returned (.bool true) ∧ Outside U w w' ∧ ∃ U', Fresh w U U' ∧ Side Rep w' sb U' st wk := by
  have hlt := h.lt C
  obtain ⟨S, T, g, rb, steps, rfl, ok, hrow, hrep, href, h4, h5, h6, h7⟩ := h
  have hsb : sb < w.heap.size := (Array.getElem?_eq_some_iff.1 hrow).1
  obtain ⟨hA, hAf⟩ := row_facts' hrow
  have HREF : Hid (RefRep w T rb st steps) := href
  have HROW : Hid (w.heap[sb]? = some (.cells (CellsS g rb wk) 71 (0, 0))) := hrow
  have HSET : Hid ((∀ k, k ∈ sb :: (S ++ T) → k < w.heap.size) ∧ sb ∉ S ∧ sb ∉ T ∧ (∀ k, k ∈ S → k ∉ T) ∧ (∀ k, k ∈ T → k < w.heap.size)) := ⟨hlt, h4, h5, h6, h7⟩
  have HC : Hid (Calls Tryz.prog 21 #[g] w fun e w' => Outside S w w' ∧ ∃ S' p cap, Fresh w S S' ∧ Rep w' S' g st wk ∧ e = .returned (.slice p st.dump.length cap) ∧
      (st.dump = [] ∨ ∃ b o, p = some ⟨b, o, none⟩ ∧ st.dump.length ≤ cap ∧ w.heap.size ≤ b ∧ b ∉ S' ∧ (∀ j u, (itCells st.dump)[j]? = some u → w'.cell? ⟨b, o + j, none⟩ = some u) ∧ ∀ j, j < st.dump.length * 12 → w'.frozen? ⟨b, o + j, none⟩ = false)) := C.dump ok hrep
  have HD : Hid (∀ W mb cs ov, RefG W T rb mb cs ov st steps → Calls Tryz.prog 70 #[.pointer (some ⟨rb, 0, none⟩)] W fun e w' => ∃ v, e = .returned v ∧ Below W.heap.size W w' ∧ Its w' W.heap.size v st.dump) := fun W mb cs ov hW => by
    cases hc : st.closed with
    | true => exact refDump_closed T rb mb cs ov st steps W hW hc
    | false => exact refDump_open T rb mb cs ov st steps ok W hW hc
  have hdl : st.dump.length ≤ 200 := by
    have n16 := ok.n16
    have l1 := st.parts_len 16 0 st.n ok.n1
    have l2 := st.heads_len st.n
    have l3 := st.kepts_len ok st.n
    unfold St.dump
    split
    · simp
    · rw [List.length_append, List.length_append]; omega
  obtain ⟨L, hL⟩ : ∃ L, st.dump = L := ⟨_, rfl⟩
  rw [hL] at HC HD hdl
  clear hL hrow href hrep hlt h4 h5 h6 h7
  go_enter Tryz.func29, Tryz.ntmps29
  go_wp2_with fail
  refine HC.out.mono ?_
  rintro e w1 ⟨o1, S', p, cap, f1, hrep1, rfl, hcells⟩
  obtain ⟨hlt, h4, h5, h6, h7⟩ := HSET.out
  have hrow1 := o1.row HROW.out h4
  have href1 : RefRep w1 T rb st steps := HREF.out.keep fun k a b => o1.block k a (fun h => h6 k h b)
  clear hA hAf
  obtain ⟨hA, hAf⟩ := row_facts' hrow1
  obtain ⟨mb, cs, ov, hr1⟩ := href1
  have HOLD : Hid (Outside S w w1 ∧ Fresh w S S' ∧ Rep w1 S' g st wk ∧ RefG w1 T rb mb cs ov st steps ∧ w1.heap[sb]? = some (.cells (CellsS g rb wk) 71 (0, 0))) := ⟨o1, f1, hrep1, hr1, hrow1⟩
  have HCE : Hid (L = [] ∨ ∃ b o, p = some ⟨b, o, none⟩ ∧ L.length ≤ cap ∧ w.heap.size ≤ b ∧ b ∉ S' ∧ (∀ j u, (itCells L)[j]? = some u → w1.cell? ⟨b, o + j, none⟩ = some u) ∧ ∀ j, j < L.length * 12 → w1.frozen? ⟨b, o + j, none⟩ = false) := hcells
  clear o1 f1 hrep1 hr1 hrow1 hlt h4 h5 h6 h7 hcells
  go_wp2_with fail
  refine (HD.out _ mb cs ov HOLD.out.2.2.2.1).mono ?_
  rintro e w2 ⟨v2, rfl, b2, i2⟩
  have HFIN : Hid (Outside (sb :: (S ++ T)) w w2 ∧ Fresh w (sb :: (S ++ T)) (sb :: (S' ++ T)) ∧ Side Rep w2 sb (sb :: (S' ++ T)) st wk) := by
    obtain ⟨o1, f1, hrep1, hr1, hrow1⟩ := HOLD.out
    obtain ⟨hlt, h4, h5, h6, h7⟩ := HSET.out
    have z1 := o1.size
    have z2 := b2.size
    have inS : ∀ k, k ∈ S' → k < w.heap.size → k ∈ S := fun k hk hl => by
      rcases f1 k hk with h | h
      · exact h
      · omega
    refine ⟨(o1.mono (fun i hi _ => List.mem_cons_of_mem _ (List.mem_append_left _ hi))).below b2, ?_, S', T, g, rb, steps, rfl, ok, by rw [b2.block _ (by omega), hrow1], C.keep hrep1 b2.size (fun k a _ => b2.block k a), ⟨mb, cs, ov, hr1.below b2⟩, fun h => h4 (inS sb h hsb), h5, fun k hk hT => h6 k (inS k hk (h7 k hT)) hT, fun k hk => by have := h7 k hk; omega⟩
    intro k hk
    by_cases hl : k < w.heap.size
    · left
      rcases List.mem_cons.1 hk with h | h
      · rw [h]; exact List.mem_cons_self
      · rcases List.mem_append.1 h with h | h
        · exact List.mem_cons_of_mem _ (List.mem_append_left _ (inS k h hl))
        · exact List.mem_cons_of_mem _ (List.mem_append_right _ h)
    · right; omega
  have hv2 : ∃ p2 cap2, v2 = .slice p2 L.length cap2 ∧ (L = [] ∨ ∃ b, p2 = some ⟨b, 0, none⟩ ∧ L.length ≤ cap2 ∧ ∀ j u, (itCells L)[j]? = some u → w2.cell? ⟨b, 0 + j, none⟩ = some u) := by
    rcases i2.2 with ⟨e1, e2⟩ | ⟨b, cap2, cur, e1, _, _, e3, _⟩
    · have hl0 : L = [] := List.length_eq_zero_iff.1 e2
      exact ⟨none, 0, by rw [e1, e2], .inl hl0⟩
    · refine ⟨_, cap2, e1, .inr ⟨b, rfl, e3, fun j u hu => ?_⟩⟩
      rw [Nat.zero_add]
      have i2' : Its w2 w1.heap.size (.slice (some ⟨b, 0, none⟩) L.length cap2) L := by rw [← e1]; exact i2
      exact i2'.cells.2 j u hu
  obtain ⟨p2, cap2, rfl, hp2⟩ := hv2
  have HP2 : Hid (L = [] ∨ ∃ b, p2 = some ⟨b, 0, none⟩ ∧ L.length ≤ cap2 ∧ ∀ j u, (itCells L)[j]? = some u → w2.cell? ⟨b, 0 + j, none⟩ = some u) := hp2
  have HB2 : Hid (Below w1.heap.size w1 w2) := b2
  clear hp2 b2 i2 hA hAf
  go_wp2_with fail
  go_loopg [5] L.length (fun k i wr => ∃ j : Nat, i = .int .i64 j ∧ j + k = L.length ∧ Below w2.heap.size w2 wr)
  case atStart => exact ⟨0, rfl, by omega, Below.refl _ _⟩
  case round =>
    obtain ⟨j, rfl, hjk, hbw⟩ := hrel
    by_cases hj : j < L.length
    · rcases HCE.out with he | ⟨b, o, rfl, hcap, hbn, hbS, hcel, hfz⟩
      · rw [he] at hj; simp at hj
      · rcases HP2.out with he | ⟨b', rfl, hcap', hcel'⟩
        · rw [he] at hj; simp at hj
        · have hcelW : ∀ j u, (itCells L)[j]? = some u → wr.cell? ⟨b, o + j, none⟩ = some u := fun j u hu => by
            have h1 := hcel j u hu
            have hl : b < w1.heap.size := block_lt_of_cell h1
            have hz := HB2.out.size
            rw [hbw.cell (p := ⟨b, o + j, none⟩) (by show b < w2.heap.size; omega), HB2.out.cell (p := ⟨b, o + j, none⟩) hl, h1]
          have hcelW' : ∀ j u, (itCells L)[j]? = some u → wr.cell? ⟨b', 0 + j, none⟩ = some u := fun j u hu => by
            have h1 := hcel' j u hu
            rw [hbw.cell (p := ⟨b', 0 + j, none⟩) (block_lt_of_cell h1), h1]
          have hx := itemAt_of hcelW j hj
          have hy := itemAt_of hcelW' j hj
          unfold ItemAt at hy
          simp only [Nat.zero_add] at hy
          have heq := eq_item_lit L[j]
          obtain ⟨x, hxe⟩ : ∃ x, L[j] = x := ⟨_, rfl⟩
          rw [hxe] at hx hy heq
          obtain ⟨p0, p1, p2, p3, p4, p5, p6, p7, p8, p9, p10, p11⟩ := hx
          obtain ⟨q0, q1, q2, q3, q4, q5, q6, q7, q8, q9, q10, q11⟩ := hy
          have HW : Hid (Below w2.heap.size w2 wr) := hbw
          clear hcel hcel' hfz hcelW hcelW' hxe hbw
          go_upto_region 8 with fail
          go_cut [36] (fun s36 wy => s36 = .bool false ∧ Below w2.heap.size w2 wy)
          case first =>
            go_quiet (fail)
            go_wp2_with fail
            go_meet
            exact ⟨rfl, HW.out.trans (below_drewN _ _ _)⟩
          case rest =>
            obtain ⟨rfl, hbw⟩ := hcut
            go_wp2_with fail
            go_roundg (gk - 1)
            case measure => omega
            case rel => exact ⟨j + 1, by go_num, by omega, hbw⟩
    · have hje : j = L.length := by omega
      have HW : Hid (Below w2.heap.size w2 wr) := hbw
      clear hbw
      rcases HCE.out with he | ⟨b, o, rfl, hcap, hbn, hbS, hcel, hfz⟩
      · have hl0 : L.length = 0 := by rw [he]; rfl
        rw [hl0] at hje hj hjk
        rw [hl0]
        go_wp2_with fail
        refine wp_loop_rounds 1 ?_
        rw [rounds_succ]; go_wp2_with fail
        go_ret
        obtain ⟨x1, x2, x3⟩ := HFIN.out
        exact ⟨rfl, x1.below HW.out, _, x2, x3.keep C HW.out.size (fun k a _ => HW.out.block k a)⟩
      · have hth : wr.there b o (L.length * 12) := fun j hj => by
          have h1 : ∃ u, (itCells L)[j]? = some u := ⟨_, List.getElem?_eq_getElem (by rw [itCells_length]; exact hj)⟩
          obtain ⟨u, hu⟩ := h1
          have h2 := hcel j u hu
          have hl : b < w1.heap.size := block_lt_of_cell h2
          have hz := HB2.out.size
          have hblk : wr.heap[b]? = w1.heap[b]? := by rw [HW.out.block b (by omega), HB2.out.block b hl]
          refine ⟨?_, ?_⟩
          · rw [World.cell?_of_block (w := w1) (a := ⟨b, o + j, none⟩) hblk, h2]; rfl
          · rw [World.frozen?_of_block (w := w1) (a := ⟨b, o + j, none⟩) hblk]; exact hfz j hj
        have HTH : Hid (wr.there b o (L.length * 12)) := hth
        have hbS' : Hid (b ∉ S' ∧ w.heap.size ≤ b) := ⟨hbS, hbn⟩
        clear hth hcel hfz hbS hbn
        go_wp2_with fail
        obtain ⟨wA, hwA⟩ : ∃ wA, wA = wr := ⟨_, rfl⟩
        subst hwA
        go_loopg [6] L.length (fun k i wr2 => ∃ j : Nat, i = .int .i64 j ∧ j + k = L.length ∧ Outside [b] wA wr2 ∧ wr2.there b o (L.length * 12))
        case atStart => exact ⟨0, rfl, by omega, Outside.refl _ _, HTH.out⟩
        case round =>
          obtain ⟨q, rfl, hqk, hout, hth⟩ := hrel
          have HO : Hid (Outside [b] wA wr ∧ wr.there b o (L.length * 12)) := ⟨hout, hth⟩
          by_cases hq : q < L.length
          · have hth12 : wr.there b (o + q * 12) 12 := fun i hi => by
              have := hth (q * 12 + i) (by omega)
              rw [← Nat.add_assoc] at this
              exact this
            clear hout hth
            obtain ⟨⟨y0, y1, y2, y3, y4, y5, y6, y7, y8, y9, y10, y11, m0, m1, m2, m3, m4, m5, m6, m7, m8, m9, m10, m11⟩, z0, z1, z2, z3, z4, z5, z6, z7, z8, z9, z10, z11⟩ := there12 hth12
            clear hth12
            go_wp2_with fail
            go_roundg (gk - 1)
            case measure => omega
            case rel => exact ⟨q + 1, by go_num, by omega, ((((((((((((HO.out.1.setCell ⟨b, o + q * 12, none⟩ (fun _ => List.mem_cons_self) _).setCell ⟨b, o + q * 12 + 1, none⟩ (fun _ => List.mem_cons_self) _).setCell ⟨b, o + q * 12 + 2, none⟩ (fun _ => List.mem_cons_self) _).setCell ⟨b, o + q * 12 + 3, none⟩ (fun _ => List.mem_cons_self) _).setCell ⟨b, o + q * 12 + 4, none⟩ (fun _ => List.mem_cons_self) _).setCell ⟨b, o + q * 12 + 5, none⟩ (fun _ => List.mem_cons_self) _).setCell ⟨b, o + q * 12 + 6, none⟩ (fun _ => List.mem_cons_self) _).setCell ⟨b, o + q * 12 + 7, none⟩ (fun _ => List.mem_cons_self) _).setCell ⟨b, o + q * 12 + 8, none⟩ (fun _ => List.mem_cons_self) _).setCell ⟨b, o + q * 12 + 9, none⟩ (fun _ => List.mem_cons_self) _).setCell ⟨b, o + q * 12 + 10, none⟩ (fun _ => List.mem_cons_self) _).setCell ⟨b, o + q * 12 + 11, none⟩ (fun _ => List.mem_cons_self) _), (there_setCell (there_setCell (there_setCell (there_setCell (there_setCell (there_setCell (there_setCell (there_setCell (there_setCell (there_setCell (there_setCell (there_setCell HO.out.2 _ _ _) _ _ _) _ _ _) _ _ _) _ _ _) _ _ _) _ _ _) _ _ _) _ _ _) _ _ _) _ _ _) _ _ _)⟩
          · have hqe : q = L.length := by omega
            clear hout hth
            go_wp2_with fail
            go_ret
            obtain ⟨x1, x2, x3⟩ := HFIN.out
            have y1 := x1.below HW.out
            have y3 := x3.keep C HW.out.size (fun k a _ => HW.out.block k a)
            have hbU : b ∉ sb :: (S' ++ T) := fun h => by
              have := hbS'.out.2
              rcases List.mem_cons.1 h with h | h
              · omega
              · rcases List.mem_append.1 h with h | h
                · exact hbS'.out.1 h
                · have := HSET.out.2.2.2.2 b h; omega
            refine ⟨rfl, y1.trans HO.out.1 (fun i hi hl => ?_), _, x2, y3.keep C HO.out.1.size (fun k a hk => HO.out.1.block k a (fun h => ?_))⟩
            · have := hbS'.out.2
              simp at hi
              omega
            · simp at h
              exact hbU (h ▸ hk)
end Go.Proofs.YtkpebabbnndopaaGreatDoor

/- The law's pick. -/
namespace Go.Proofs.YtkpebabbnndopaaGreatDoor
open Go.RowKit
set_option linter.unusedVariables false

/-- which of n things the raw number c speaks of -/
def PickI (c : Int) (n : Nat) : Nat := if c < 0 then ((-(c + 1)) % (n : Int)).toNat else (c % (n : Int)).toNat
theorem PickI_lt (c : Int) (n : Nat) (hn : 1 ≤ n) : PickI c n < n := by
  unfold PickI
  have hn0 : ¬ (n : Int) = 0 := by omega
  split
  · have a1 := Int.emod_nonneg (-(c + 1)) hn0
    have a2 := Int.emod_lt_of_pos (-(c + 1)) (show (0 : Int) < n by omega)
    omega
  · have a1 := Int.emod_nonneg c hn0
    have a2 := Int.emod_lt_of_pos c (show (0 : Int) < n by omega)
    omega
theorem PickI_neg (c : Int) (n : Nat) (hn : 1 ≤ n) (hc : c < 0) : (PickI c n : Int) = -(c + 1).tmod (n : Int) := by
  have hn0 : ¬ (n : Int) = 0 := by omega
  unfold PickI
  rw [if_pos hc, ← Int.neg_tmod, Int.tmod_eq_emod_of_nonneg (by omega), Int.toNat_of_nonneg (Int.emod_nonneg _ hn0)]
theorem PickI_pos (c : Int) (n : Nat) (hn : 1 ≤ n) (hc : ¬ c < 0) : (PickI c n : Int) = c % (n : Int) := by
  have hn0 : ¬ (n : Int) = 0 := by omega
  unfold PickI
  rw [if_neg hc, Int.toNat_of_nonneg (Int.emod_nonneg _ hn0)]
theorem pick_any (c : Int) (h1 : -9223372036854775808 ≤ c) (h2 : c ≤ 9223372036854775807) (n : Nat) (hn : 1 ≤ n) (hn2 : n ≤ 1000000) (w : World) :
    Calls Tryz.prog 65 #[.int .i64 c, .int .i64 n] w fun e w' => e = .returned (.int .i64 (PickI c n)) ∧ w' = w := by
  have hn0 : ¬ (n : Int) = 0 := by omega
  by_cases hc : c < 0
  · have HE : Hid ((PickI c n : Int) = -(c + 1).tmod (n : Int)) := PickI_neg c n hn hc
    obtain ⟨i, hi⟩ : ∃ i, PickI c n = i := ⟨_, rfl⟩
    rw [hi] at HE ⊢
    clear hi
    go_enter Tryz.func65, Tryz.ntmps65
    go_wp2_with fail
    go_ret
    refine ⟨?_, rfl⟩
    show Ending.returned (Value.int .i64 (-(c + 1).tmod (n : Int))) = _
    rw [HE.out]
  · have HE : Hid ((PickI c n : Int) = c % (n : Int)) := PickI_pos c n hn hc
    obtain ⟨i, hi⟩ : ∃ i, PickI c n = i := ⟨_, rfl⟩
    rw [hi] at HE ⊢
    clear hi
    go_enter Tryz.func65, Tryz.ntmps65
    go_wp2_with fail
    go_ret
    refine ⟨?_, rfl⟩
    show Ending.returned (Value.int .i64 (c % (n : Int))) = _
    rw [HE.out]
end Go.Proofs.YtkpebabbnndopaaGreatDoor

/- The law's World in memory. -/
namespace Go.Proofs.YtkpebabbnndopaaGreatDoor
open Go.RowKit
set_option linter.unusedVariables false

structure SideD where
  sb : Nat
  U : List Nat
  st : St
  wk : Nat
structure WorldAt (Rep : World → List Nat → Value → St → Nat → Prop) (w : World) (base wb : Nat) (lv bv : Value) (bag : List ByteArray) (l : List SideD) (bnd : Nat) : Prop where
  base_le : base ≤ w.heap.size
  wbb : base ≤ wb
  row : w.heap[wb]? = some (.cells #[lv, bv] 63 (0, 0))
  ownl : w.ownsRow base 69 1 lv l.length (l.map fun s => Value.pointer (some ⟨s.sb, 0, none⟩))
  ownb : w.ownsRow base 9 1 bv bag.length (bag.map Value.string)
  bag64 : bag.length ≤ 64
  nl : lv.ownBlock ≠ some wb
  nb : bv.ownBlock ≠ some wb
  nlb : ∀ k, lv.ownBlock = some k → bv.ownBlock ≠ some k
  side : ∀ s, s ∈ l → Side Rep w s.sb s.U s.st s.wk ∧ (∀ k, k ∈ s.U → base ≤ k) ∧ s.wk ≤ bnd ∧ wb ∉ s.U ∧ (∀ k, lv.ownBlock = some k → k ∉ s.U) ∧ (∀ k, bv.ownBlock = some k → k ∉ s.U)
  dis : l.Pairwise fun a b => ∀ k, k ∈ a.U → k ∉ b.U

theorem ownsRow_keep {w w' : World} {base : Nat} {e : TypeId} {size : Nat} {v : Value} {n : Nat} {xs : List Value} (h : w.ownsRow base e size v n xs) (hk : ∀ k, k < w.heap.size → v.ownBlock = some k → w'.heap[k]? = w.heap[k]?) : w'.ownsRow base e size v n xs := by
  refine ⟨h.1, ?_⟩
  rcases h.2 with h | ⟨g, cap, cur, h1, h2, h3, h4⟩
  · exact .inl h
  · exact .inr ⟨g, cap, cur, h1, h2, by rw [hk g (Array.getElem?_eq_some_iff.1 h3).1 (by rw [h1]; rfl), h3], h4⟩
theorem ownsRow_lt {w : World} {base : Nat} {e : TypeId} {size : Nat} {v : Value} {n : Nat} {xs : List Value} (h : w.ownsRow base e size v n xs) (k : Nat) (hk : v.ownBlock = some k) : k < w.heap.size := by
  rcases h.2 with ⟨h, _⟩ | ⟨g, cap, cur, h1, h2, h3, h4⟩
  · subst h; cases hk
  · subst h1; cases hk; exact (Array.getElem?_eq_some_iff.1 h3).1

/-- one side has done a step: the others, and the lists, are as they were -/
theorem WorldAt.step {Rep : World → List Nat → Value → St → Nat → Prop} (C : Code Rep) {w w' : World} {base wb : Nat} {lv bv : Value} {bag : List ByteArray} {l : List SideD} {bnd : Nat} (h : WorldAt Rep w base wb lv bv bag l bnd) (i : Nat) (hi : i < l.length) (U' : List Nat) (st' : St) (wk' bnd' : Nat)
    (ho : Outside l[i].U w w') (hf : Fresh w l[i].U U') (hs : Side Rep w' l[i].sb U' st' wk') (hw : wk' ≤ bnd') (hb : bnd ≤ bnd') : WorldAt Rep w' base wb lv bv bag (l.set i ⟨l[i].sb, U', st', wk'⟩) bnd' := by
  have hmi : l[i] ∈ l := List.getElem_mem hi
  obtain ⟨s1, s2, s3, s4, s5, s6⟩ := h.side _ hmi
  have z := ho.size
  have hU' : ∀ k, k ∈ U' → k < w.heap.size → k ∈ l[i].U := fun k hk hl => by
    rcases hf k hk with h | h
    · exact h
    · omega
  have hwb : wb < w.heap.size := (Array.getElem?_eq_some_iff.1 h.row).1
  refine ⟨Nat.le_trans h.base_le z, h.wbb, by rw [ho.block _ hwb s4, h.row], ?_, ownsRow_keep h.ownb (fun k a b => ho.block k a (s6 k b)), h.bag64, h.nl, h.nb, h.nlb, ?_, ?_⟩
  · have e1 : (l.set i ⟨l[i].sb, U', st', wk'⟩).length = l.length := List.length_set
    have e2 : (l.set i ⟨l[i].sb, U', st', wk'⟩).map (fun s => Value.pointer (some ⟨s.sb, 0, none⟩)) = l.map fun s => Value.pointer (some ⟨s.sb, 0, none⟩) := by
      rw [List.map_set]
      apply List.ext_getElem?
      intro j
      rw [List.getElem?_set]
      split
      · rename_i hij
        subst hij
        simp [hi]
      · rfl
    rw [e1, e2]
    exact ownsRow_keep h.ownl (fun k a b => ho.block k a (s5 k b))
  · intro s hsm
    rcases List.mem_iff_getElem?.1 hsm with ⟨j, hj⟩
    rw [List.getElem?_set] at hj
    split at hj
    · cases hj
      refine ⟨hs, fun k hk => ?_, hw, fun hk => ?_, fun k hk hk' => ?_, fun k hk hk' => ?_⟩
      · by_cases hl : k < w.heap.size
        · exact s2 k (hU' k hk hl)
        · have := h.base_le; omega
      · exact s4 (hU' wb hk hwb)
      · exact s5 k hk (hU' k hk' (ownsRow_lt h.ownl k hk))
      · exact s6 k hk (hU' k hk' (ownsRow_lt h.ownb k hk))
    · rename_i hij
      have hjl : j < l.length := (List.getElem?_eq_some_iff.1 hj).1
      have hjs : l[j] = s := (List.getElem?_eq_some_iff.1 hj).2
      obtain ⟨t1, t2, t3, t4, t5, t6⟩ := h.side s (hjs ▸ List.getElem_mem hjl)
      refine ⟨t1.keep C z (fun k a b => ho.block k a (fun hk => ?_)), t2, Nat.le_trans t3 hb, t4, t5, t6⟩
      have hd := List.pairwise_iff_getElem.1 h.dis
      by_cases hlt : i < j
      · exact hd i j hi hjl hlt k hk (hjs ▸ b)
      · exact hd j i hjl hi (by omega) k (hjs ▸ b) hk
  · have hd := List.pairwise_iff_getElem.1 h.dis
    refine List.pairwise_iff_getElem.2 fun p q hp hq hpq => ?_
    rw [List.length_set] at hp hq
    have lt : ∀ j (hj : j < l.length), ∀ k, k ∈ l[j].U → k < w.heap.size := fun j hj => (h.side _ (List.getElem_mem hj)).1.lt C
    rw [List.getElem_set, List.getElem_set]
    by_cases h1 : i = p
    · have h2 : ¬ i = q := by omega
      rw [if_pos h1, if_neg h2]
      intro k hk hk'
      exact hd i q hi hq (by omega) k (hU' k hk (lt q hq k hk')) hk'
    · rw [if_neg h1]
      by_cases h2 : i = q
      · rw [if_pos h2]
        intro k hk hk'
        exact hd p i hp hi (by omega) k hk (hU' k hk' (lt p hp k hk))
      · rw [if_neg h2]
        exact hd p q hp hq hpq

/-- a world in which nothing that was there has changed -/
theorem WorldAt.below {Rep : World → List Nat → Value → St → Nat → Prop} (C : Code Rep) {w w' : World} {base wb : Nat} {lv bv : Value} {bag : List ByteArray} {l : List SideD} {bnd : Nat} (h : WorldAt Rep w base wb lv bv bag l bnd) (hb : Below w.heap.size w w') : WorldAt Rep w' base wb lv bv bag l bnd := by
  have z := hb.size
  have hwb : wb < w.heap.size := (Array.getElem?_eq_some_iff.1 h.row).1
  refine ⟨Nat.le_trans h.base_le z, h.wbb, by rw [hb.block _ hwb, h.row], ownsRow_keep h.ownl (fun k a _ => hb.block k a), ownsRow_keep h.ownb (fun k a _ => hb.block k a), h.bag64, h.nl, h.nb, h.nlb, fun s hs => ?_, h.dis⟩
  obtain ⟨t1, t2⟩ := h.side s hs
  exact ⟨t1.keep C z (fun k a _ => hb.block k a), t2⟩

/-- a frame goes under way -/
theorem WorldAt.bagged {Rep : World → List Nat → Value → St → Nat → Prop} (C : Code Rep) {w : World} {base wb : Nat} {lv bv : Value} {bag : List ByteArray} {l : List SideD} {bnd : Nat} (h : WorldAt Rep w base wb lv bv bag l bnd) (hl : bag.length < 64) (f : ByteArray) (ty : TypeId) :
    ∃ v' w', (Builtin.append_ #[30, 30] ty #[bv, .slice (some ⟨w.heap.size, 0, none⟩) 1 1]).run Tryz.prog (w.alloc (.cells #[.string f] 9)) = .ok v' w' ∧ w'.heap[wb]? = some (.cells #[lv, bv] 63 (0, 0)) ∧
      WorldAt Rep (w'.setCell ⟨wb, 1, none⟩ v') base wb lv v' (bag ++ [f]) l bnd ∧ Below base w (w'.setCell ⟨wb, 1, none⟩ v') := by
  have hi : (Tryz.prog.info? 9).map (fun i => (i.zero, i.size, i.bytes)) = some (some (.string ⟨#[]⟩), 1, 16) := by kernel_rfl
  have hwb : wb < w.heap.size := (Array.getElem?_eq_some_iff.1 h.row).1
  have b1 : Below w.heap.size w (w.alloc (.cells #[.string f] 9)) := (Below.refl _ w).alloc (Nat.le_refl _) _
  have hown : (w.alloc (.cells #[.string f] 9)).ownsRow base 9 1 bv bag.length (bag.map Value.string) := ownsRow_keep h.ownb (fun k a _ => b1.block k a)
  cases hq : Tryz.prog.info? 9 with
  | none => rw [hq] at hi; simp at hi
  | some i =>
    rw [hq] at hi
    simp at hi
    obtain ⟨hz, hs, hby⟩ := hi
    obtain ⟨v', w', hr, ho, hg, _, hbk⟩ := run_append_own_at (P := Tryz.prog) (w.alloc (.cells #[.string f] 9)) base 30 ty 9 i _ 1 16 Tryz.underlying30 hq hz hs hby rfl (by omega) bv bag.length (bag.map Value.string) hown ⟨w.heap.size, 0, none⟩ 1 1 [.string f] rfl
      (fun j u hj => by
        have ea : (⟨w.heap.size, 0, none⟩ : Addr).add j = ⟨w.heap.size, j, none⟩ := by unfold Addr.add; split <;> simp_all
        rw [ea, cell_of_row _ _ _ _ _ _ (MapKept.heap_alloc w _).1]
        simpa using hj) (by intro u hu; simp at hu; subst hu; rfl) (by unfold maxLen; omega) (by omega) (by have := h.base_le; simp; omega)
    have z1 : w.heap.size + 1 ≤ w'.heap.size := by have := hg.size; simpa using this
    have blk : ∀ k, k < w.heap.size → bv.ownBlock ≠ some k → w'.heap[k]? = w.heap[k]? := fun k hk hne => by
      rw [hg.block k (by simp; omega) (fun e => hne e.symm), Below.heap_alloc _ _ _ hk]
    have hrow' : w'.heap[wb]? = some (.cells #[lv, bv] 63 (0, 0)) := by rw [blk wb hwb h.nb, h.row]
    have blk2 : ∀ k, k < w.heap.size → bv.ownBlock ≠ some k → k ≠ wb → (w'.setCell ⟨wb, 1, none⟩ v').heap[k]? = w.heap[k]? := fun k hk hne hkw => by
      rw [Below.heap_setCell _ _ _ _ hkw, blk k hk hne]
    have hv'wb : v'.ownBlock ≠ some wb := fun e => by
      rcases hbk with h1 | h1
      · exact h.nb (h1 ▸ e)
      · rw [h1] at e; simp at e; omega
    have hnew : ∀ k, v'.ownBlock = some k → bv.ownBlock = some k ∨ k = w.heap.size + 1 := fun k hk => by
      rcases hbk with h1 | h1
      · exact .inl (h1 ▸ hk)
      · rw [h1] at hk; simp at hk; exact .inr hk.symm
    have hsz : (w'.setCell ⟨wb, 1, none⟩ v').heap.size = w'.heap.size := by simp [World.setCell]
    have hbase := h.base_le
    refine ⟨v', w', hr, hrow', ⟨by omega, h.wbb, ?_, ?_, ?_, ?_, h.nl, hv'wb, ?_, ?_, h.dis⟩, ?_⟩
    · rw [setCell_eq_setRow w' wb 1 _ _ (0, 0) _ hrow']
      exact setRow_heap _ _ _ _ _ _ hrow'
    · refine ownsRow_keep h.ownl (fun k a b => blk2 k a (h.nlb k b) (fun e => ?_))
      subst e
      exact h.nl b
    · rw [List.length_append, List.map_append]
      refine ownsRow_keep ho (fun k a b => Below.heap_setCell _ _ _ _ (fun e => ?_))
      exact hv'wb (by rw [b]; exact congrArg some e)
    · rw [List.length_append]
      show bag.length + 1 ≤ 64
      omega
    · intro k hk hk'
      rcases hnew k hk' with h1 | h1
      · exact h.nlb k hk h1
      · have := ownsRow_lt h.ownl k hk; omega
    · intro s hsm
      obtain ⟨t1, t2, t3, t4, t5, t6⟩ := h.side s hsm
      have tl := t1.lt C
      refine ⟨t1.keep C (by omega) (fun k a b => blk2 k a (fun e => t6 k e b) (fun e => t4 (e ▸ b))), t2, t3, t4, t5, fun k hk hk' => ?_⟩
      rcases hnew k hk with h1 | h1
      · exact t6 k h1 hk'
      · have := tl k hk'; omega
    · refine ⟨hg.os, hg.tape, hg.output, by omega, fun k hk => ?_⟩
      have hkw : k ≠ wb := by have := h.wbb; omega
      refine blk2 k (by omega) (fun e => ?_) hkw
      rcases h.ownb.2 with ⟨e1, _⟩ | ⟨g, cap, cur, e1, e2, _⟩
      · subst e1; cases e
      · subst e1
        have : g = k := by simpa [Value.ownBlock] using e
        omega

theorem WorldAt.start {Rep : World → List Nat → Value → St → Nat → Prop} (w : World) (bnd : Nat) : WorldAt Rep (w.alloc (.cells #[.slice none 0 0, .slice none 0 0] 63)) w.heap.size w.heap.size (.slice none 0 0) (.slice none 0 0) [] [] bnd :=
  ⟨by simp, Nat.le_refl _, (MapKept.heap_alloc _ _).1, ⟨rfl, .inl ⟨rfl, rfl⟩⟩, ⟨rfl, .inl ⟨rfl, rfl⟩⟩, by simp, (fun h => by cases h), (fun h => by cases h), (fun k h => by cases h), (fun s hs => by cases hs), List.Pairwise.nil⟩

/-- one side more -/
theorem WorldAt.added {Rep : World → List Nat → Value → St → Nat → Prop} (C : Code Rep) {wA w : World} {base wb : Nat} {lv bv : Value} {bag : List ByteArray} {l : List SideD} {bnd : Nat} (h : WorldAt Rep wA base wb lv bv bag l bnd) (hl : l.length < 16) (hbel : Below wA.heap.size wA w)
    (S T : List Nat) (g : Value) (rb : Nat) (st : St) (steps : Nat) (ok : st.Ok) (hrep : Rep w S g st 0) (href : RefRep w T rb st steps) (hS : ∀ k, k ∈ S → wA.heap.size ≤ k) (hT : ∀ k, k ∈ T → wA.heap.size ≤ k ∧ k < w.heap.size) (hST : ∀ k, k ∈ S → k ∉ T) (ty : TypeId) :
    ∃ v' w', (Builtin.append_ #[61, 61] ty #[lv, .slice (some ⟨w.heap.size + 1, 0, none⟩) 1 1]).run Tryz.prog ((w.alloc (.cells (CellsS g rb 0) 71)).alloc (.cells #[.pointer (some ⟨w.heap.size, 0, none⟩)] 69)) = .ok v' w' ∧ w'.heap[wb]? = some (.cells #[lv, bv] 63 (0, 0)) ∧
      WorldAt Rep (w'.setCell ⟨wb, 0, none⟩ v') base wb v' bv bag (l ++ [⟨w.heap.size, w.heap.size :: (S ++ T), st, 0⟩]) bnd ∧ Below base wA (w'.setCell ⟨wb, 0, none⟩ v') ∧ ∃ p n c, v' = .slice p n c := by
  have hi : (Tryz.prog.info? 69).map (fun i => (i.zero, i.size, i.bytes)) = some (some (.pointer none), 1, 8) := by kernel_rfl
  have zA := hbel.size
  have h0 := h.below C hbel
  have hwb : wb < wA.heap.size := (Array.getElem?_eq_some_iff.1 h.row).1
  have bAB : Below w.heap.size w ((w.alloc (.cells (CellsS g rb 0) 71)).alloc (.cells #[.pointer (some ⟨w.heap.size, 0, none⟩)] 69)) := ((Below.refl _ w).alloc (Nat.le_refl _) _).alloc (by simp) _
  have hown : ((w.alloc (.cells (CellsS g rb 0) 71)).alloc (.cells #[.pointer (some ⟨w.heap.size, 0, none⟩)] 69)).ownsRow base 69 1 lv l.length (l.map fun s => Value.pointer (some ⟨s.sb, 0, none⟩)) := ownsRow_keep h0.ownl (fun k a _ => bAB.block k a)
  cases hq : Tryz.prog.info? 69 with
  | none => rw [hq] at hi; simp at hi
  | some i =>
    rw [hq] at hi
    simp at hi
    obtain ⟨hz, hs, hby⟩ := hi
    have hnewcell : ((w.alloc (.cells (CellsS g rb 0) 71)).alloc (.cells #[.pointer (some ⟨w.heap.size, 0, none⟩)] 69)).heap[w.heap.size + 1]? = some (.cells #[.pointer (some ⟨w.heap.size, 0, none⟩)] 69 (0, 0)) := by
      have e := (MapKept.heap_alloc (w.alloc (.cells (CellsS g rb 0) 71)) (.cells #[.pointer (some ⟨w.heap.size, 0, none⟩)] 69)).1
      simp only [World.size_alloc] at e
      exact e
    obtain ⟨v', w', hr, ho, hg, _, hbk⟩ := run_append_own_at (P := Tryz.prog) _ base 61 ty 69 i _ 1 8 Tryz.underlying61 hq hz hs hby rfl (by omega) lv l.length (l.map fun s => Value.pointer (some ⟨s.sb, 0, none⟩)) hown ⟨w.heap.size + 1, 0, none⟩ 1 1 [.pointer (some ⟨w.heap.size, 0, none⟩)] rfl
      (fun j u hj => by
        have ea : (⟨w.heap.size + 1, 0, none⟩ : Addr).add j = ⟨w.heap.size + 1, j, none⟩ := by unfold Addr.add; split <;> simp_all
        rw [ea, cell_of_row _ _ _ _ _ _ hnewcell]
        simpa using hj) (by intro u hu; simp at hu; subst hu; rfl) (by unfold maxLen; omega) (by omega) (by have := h0.base_le; simp; omega)
    have z1 : w.heap.size + 2 ≤ w'.heap.size := by have := hg.size; simpa using this
    have blk : ∀ k, k < w.heap.size → lv.ownBlock ≠ some k → w'.heap[k]? = w.heap[k]? := fun k hk hne => by
      rw [hg.block k (by simp; omega) (fun e => hne e.symm), bAB.block k hk]
    have hrow' : w'.heap[wb]? = some (.cells #[lv, bv] 63 (0, 0)) := by rw [blk wb (by omega) h.nl, h0.row]
    have hlvlt : ∀ k, lv.ownBlock = some k → k < wA.heap.size := fun k hk => ownsRow_lt h.ownl k hk
    have blk2 : ∀ k, k < w.heap.size → lv.ownBlock ≠ some k → k ≠ wb → (w'.setCell ⟨wb, 0, none⟩ v').heap[k]? = w.heap[k]? := fun k hk hne hkw => by
      rw [Below.heap_setCell _ _ _ _ hkw, blk k hk hne]
    have hsideblk : (w'.setCell ⟨wb, 0, none⟩ v').heap[w.heap.size]? = some (.cells (CellsS g rb 0) 71 (0, 0)) := by
      rw [Below.heap_setCell _ _ _ _ (by show w.heap.size ≠ wb; omega), hg.block _ (by simp; omega) (fun e => by have := hlvlt _ e.symm; omega), Below.heap_alloc _ _ _ (by simp), (MapKept.heap_alloc _ _).1]
    have hnew : ∀ k, v'.ownBlock = some k → lv.ownBlock = some k ∨ k = w.heap.size + 2 := fun k hk => by
      rcases hbk with h1 | h1
      · exact .inl (h1 ▸ hk)
      · rw [h1] at hk; simp at hk; exact .inr hk.symm
    have hv'wb : v'.ownBlock ≠ some wb := fun e => by
      rcases hnew wb e with h1 | h1
      · exact h.nl h1
      · omega
    have hsz : (w'.setCell ⟨wb, 0, none⟩ v').heap.size = w'.heap.size := by simp [World.setCell]
    have hbase := h.base_le
    have hnewU : ∀ k, k ∈ w.heap.size :: (S ++ T) → wA.heap.size ≤ k := fun k hk => by
      rcases List.mem_cons.1 hk with h1 | h1
      · omega
      · rcases List.mem_append.1 h1 with h1 | h1
        · exact hS k h1
        · exact (hT k h1).1
    refine ⟨v', w', hr, hrow', ⟨by omega, h.wbb, ?_, ?_, ?_, h.bag64, hv'wb, h.nb, ?_, ?_, ?_⟩, ?_, ?_⟩
    · rw [setCell_eq_setRow w' wb 0 _ _ (0, 0) _ hrow']
      exact setRow_heap _ _ _ _ _ _ hrow'
    · rw [List.length_append, List.map_append]
      refine ownsRow_keep ho (fun k a b => Below.heap_setCell _ _ _ _ (fun e => ?_))
      exact hv'wb (by rw [b]; exact congrArg some e)
    · refine ownsRow_keep h0.ownb (fun k a b => blk2 k a (fun e => h.nlb k e b) (fun e => ?_))
      subst e
      exact h.nb b
    · intro k hk hk'
      rcases hnew k hk with h1 | h1
      · exact h.nlb k h1 hk'
      · have := ownsRow_lt h.ownb k hk'; omega
    · intro s hsm
      rcases List.mem_append.1 hsm with hsm | hsm
      · obtain ⟨t1, t2, t3, t4, t5, t6⟩ := h0.side s hsm
        have tl := (h.side s hsm).1.lt C
        refine ⟨t1.keep C (by omega) (fun k a b => blk2 k a (fun e => t5 k e b) (fun e => t4 (e ▸ b))), t2, t3, t4, fun k hk hk' => ?_, t6⟩
        rcases hnew k hk with h1 | h1
        · exact t5 k h1 hk'
        · have := tl k hk'; omega
      · simp at hsm
        subst hsm
        have kp : ∀ k, k < w.heap.size → k ∈ S ++ T → (w'.setCell ⟨wb, 0, none⟩ v').heap[k]? = w.heap[k]? := fun k hk hm => by
          have hk2 := hnewU k (List.mem_cons_of_mem _ hm)
          exact blk2 k hk (fun e => by have := hlvlt k e; omega) (by omega)
        refine ⟨⟨S, T, g, rb, steps, rfl, ok, hsideblk, C.keep hrep (by omega) (fun k a b => kp k a (List.mem_append_left _ b)), href.keep (fun k a b => kp k a (List.mem_append_right _ b)), fun hm => ?_, fun hm => ?_, hST, fun k hk => ?_⟩, fun k hk => ?_, by show 0 ≤ bnd; omega, fun hm => ?_, fun k hk hm => ?_, fun k hk hm => ?_⟩
        · have h9 : w.heap.size < w.heap.size := C.lt hrep _ hm
          omega
        · have h9 : w.heap.size < w.heap.size := (hT _ hm).2
          omega
        · have := (hT k hk).2; omega
        · have := hnewU k hk; omega
        · have := hnewU wb hm; omega
        · have hge := hnewU k hm
          rcases hnew k hk with h1 | h1
          · have := hlvlt k h1; omega
          · rcases List.mem_cons.1 hm with h2 | h2
            · omega
            · rcases List.mem_append.1 h2 with h2 | h2
              · have := C.lt hrep k h2; omega
              · have := (hT k h2).2; omega
        · have hge := hnewU k hm
          have := ownsRow_lt h.ownb k hk
          omega
    · refine List.pairwise_append.2 ⟨h.dis, List.pairwise_singleton _ _, fun x hx y hy k hk hk' => ?_⟩
      simp at hy
      subst hy
      have h1 := (h.side x hx).1.lt C k hk
      have h2 := hnewU k hk'
      omega
    · refine ⟨by show (w'.setCell _ _).os = _; rw [show (w'.setCell ⟨wb, 0, none⟩ v').os = w'.os from rfl, hg.os]; exact hbel.os, by show (w'.setCell _ _).tape = _; rw [show (w'.setCell ⟨wb, 0, none⟩ v').tape = w'.tape from rfl, hg.tape]; exact hbel.tape, by show (w'.setCell _ _).output = _; rw [show (w'.setCell ⟨wb, 0, none⟩ v').output = w'.output from rfl, hg.output]; exact hbel.output, by omega, fun k hk => ?_⟩
      have hkw : k ≠ wb := by have := h.wbb; omega
      rw [blk2 k (by omega) (fun e => ?_) hkw, hbel.block k (by omega)]
      rcases h.ownl.2 with ⟨e1, _⟩ | ⟨g', cap, cur, e1, e2, _⟩
      · subst e1; cases e
      · subst e1
        have : g' = k := by simpa [Value.ownBlock] using e
        omega
    · rcases ho.2 with ⟨e1, _⟩ | ⟨g', c', cur, e1, _⟩
      · exact ⟨_, _, _, e1⟩
      · exact ⟨_, _, _, e1⟩
end Go.Proofs.YtkpebabbnndopaaGreatDoor
