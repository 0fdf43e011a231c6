import Derived.Test.YtkpebabbnndopaaGreatDoorG04
import Derived.Test.YtkpebabbnndopaaGreatDoorG06
import Derived.Test.YtkpebabbnndopaaGreatDoorG07
import Derived.WalkKit
import Derived.WalkSpells
import Derived.WalkLawsBesides
import Derived.Deep.WholeRow
import Derived.Deep.MidRow
import Derived.Deep.LoopGhost
import Derived.BigQuiet
/- The law's (*Side).dump. -/
namespace Go.Proofs.YtkpebabbnndopaaGreatDoor
open Go.RowKit
set_option linter.unusedVariables false

/-- the twelve cells of the item x, from an offset on -/
abbrev ItemAt (W : World) (b o j : Nat) (x : It) : Prop := W.cell? ⟨b, o + j * 12, none⟩ = some (.int .i64 (x.kind : Int)) ∧ W.cell? ⟨b, o + j * 12 + 1, none⟩ = some (.int .i64 (x.f : Int)) ∧ W.cell? ⟨b, o + j * 12 + 2, none⟩ = some (.int .i64 (x.t : Int)) ∧ W.cell? ⟨b, o + j * 12 + 3, none⟩ = some (.int .i64 (x.g : Int)) ∧ W.cell? ⟨b, o + j * 12 + 4, none⟩ = some (.int .u8 (x.s 0)) ∧ W.cell? ⟨b, o + j * 12 + 5, none⟩ = some (.int .u8 (x.s 1)) ∧ W.cell? ⟨b, o + j * 12 + 6, none⟩ = some (.int .u8 (x.s 2)) ∧ W.cell? ⟨b, o + j * 12 + 7, none⟩ = some (.int .u8 (x.s 3)) ∧ W.cell? ⟨b, o + j * 12 + 8, none⟩ = some (.int .u8 (x.s 4)) ∧ W.cell? ⟨b, o + j * 12 + 9, none⟩ = some (.int .u8 (x.s 5)) ∧ W.cell? ⟨b, o + j * 12 + 10, none⟩ = some (.int .u8 (x.s 6)) ∧ W.cell? ⟨b, o + j * 12 + 11, none⟩ = some (.int .u8 (x.s 7))
theorem itCells_at (l : List It) (j : Nat) (hj : j < l.length) (i : Nat) (hi : i < 12) : (itCells l)[j * 12 + i]? = l[j].cells[i]? := by
  induction l generalizing j with
  | nil => simp at hj
  | cons x l ih =>
    have hx : x.cells.length = 12 := rfl
    have e : itCells (x :: l) = x.cells ++ itCells l := rfl
    rw [e]
    cases j with
    | zero => rw [List.getElem?_append_left (by omega)]; simp
    | succ j =>
      rw [List.getElem?_append_right (by omega)]
      have e2 : (j + 1) * 12 + i - x.cells.length = j * 12 + i := by omega
      rw [e2, ih j (by simpa using hj)]
      simp
theorem itemAt_of {W : World} {b o : Nat} {l : List It} (h : ∀ j u, (itCells l)[j]? = some u → W.cell? ⟨b, o + j, none⟩ = some u) (j : Nat) (hj : j < l.length) : ItemAt W b o j l[j] := by
  have c : ∀ i (hi : i < 12) u, l[j].cells[i]? = some u → W.cell? ⟨b, o + j * 12 + i, none⟩ = some u := fun i hi u hu => by
    have := h (j * 12 + i) u (by rw [itCells_at l j hj i hi]; exact hu)
    rw [← Nat.add_assoc] at this
    exact this
  exact ⟨c 0 (by omega) _ rfl, c 1 (by omega) _ rfl, c 2 (by omega) _ rfl, c 3 (by omega) _ rfl, c 4 (by omega) _ rfl, c 5 (by omega) _ rfl, c 6 (by omega) _ rfl, c 7 (by omega) _ rfl, c 8 (by omega) _ rfl, c 9 (by omega) _ rfl, c 10 (by omega) _ rfl, c 11 (by omega) _ rfl⟩
theorem eq_item_lit (x : It) (w : World) : (Op.equalIn 10000 53 (.agg #[.int .i64 (x.kind : Int), .int .i64 (x.f : Int), .int .i64 (x.t : Int), .int .i64 (x.g : Int), .int .u8 (x.s 0), .int .u8 (x.s 1), .int .u8 (x.s 2), .int .u8 (x.s 3), .int .u8 (x.s 4), .int .u8 (x.s 5), .int .u8 (x.s 6), .int .u8 (x.s 7)]) (.agg #[.int .i64 (x.kind : Int), .int .i64 (x.f : Int), .int .i64 (x.t : Int), .int .i64 (x.g : Int), .int .u8 (x.s 0), .int .u8 (x.s 1), .int .u8 (x.s 2), .int .u8 (x.s 3), .int .u8 (x.s 4), .int .u8 (x.s 5), .int .u8 (x.s 6), .int .u8 (x.s 7)])).run Tryz.prog w = .ok true w := eq_item x w
abbrev ZI : Array Value := #[.int .i64 0, .int .i64 0, .int .i64 0, .int .i64 0, .int .u8 0, .int .u8 0, .int .u8 0, .int .u8 0, .int .u8 0, .int .u8 0, .int .u8 0, .int .u8 0]
theorem Outside.setCells {S : List Nat} {a : World} (b : Nat) (hb : b < a.heap.size → b ∈ S) : ∀ (vs : List Value) (o : Nat) (w : World), Outside S a w → Outside S a (w.setCells b o vs)
  | [], _, _, h => h
  | v :: r, o, w, h => by rw [World.setCells]; exact Outside.setCells b hb r (o + 1) _ (h.setCell ⟨b, o, none⟩ hb v)

theorem there12 {w : World} {b o : Nat} (h : w.there b o 12) : (∃ y0 y1 y2 y3 y4 y5 y6 y7 y8 y9 y10 y11, w.cell? ⟨b, o, none⟩ = some y0 ∧ w.cell? ⟨b, o + 1, none⟩ = some y1 ∧ w.cell? ⟨b, o + 2, none⟩ = some y2 ∧ w.cell? ⟨b, o + 3, none⟩ = some y3 ∧ w.cell? ⟨b, o + 4, none⟩ = some y4 ∧ w.cell? ⟨b, o + 5, none⟩ = some y5 ∧ w.cell? ⟨b, o + 6, none⟩ = some y6 ∧ w.cell? ⟨b, o + 7, none⟩ = some y7 ∧ w.cell? ⟨b, o + 8, none⟩ = some y8 ∧ w.cell? ⟨b, o + 9, none⟩ = some y9 ∧ w.cell? ⟨b, o + 10, none⟩ = some y10 ∧ w.cell? ⟨b, o + 11, none⟩ = some y11) ∧ w.frozen? ⟨b, o, none⟩ = false ∧ w.frozen? ⟨b, o + 1, none⟩ = false ∧ w.frozen? ⟨b, o + 2, none⟩ = false ∧ w.frozen? ⟨b, o + 3, none⟩ = false ∧ w.frozen? ⟨b, o + 4, none⟩ = false ∧ w.frozen? ⟨b, o + 5, none⟩ = false ∧ w.frozen? ⟨b, o + 6, none⟩ = false ∧ w.frozen? ⟨b, o + 7, none⟩ = false ∧ w.frozen? ⟨b, o + 8, none⟩ = false ∧ w.frozen? ⟨b, o + 9, none⟩ = false ∧ w.frozen? ⟨b, o + 10, none⟩ = false ∧ w.frozen? ⟨b, o + 11, none⟩ = false := by
  have c : ∀ i, i < 12 → ∃ y, w.cell? ⟨b, o + i, none⟩ = some y := fun i hi => Option.isSome_iff_exists.1 (h i hi).1
  obtain ⟨y0, hy0⟩ := c 0 (by omega)
  obtain ⟨y1, hy1⟩ := c 1 (by omega)
  obtain ⟨y2, hy2⟩ := c 2 (by omega)
  obtain ⟨y3, hy3⟩ := c 3 (by omega)
  obtain ⟨y4, hy4⟩ := c 4 (by omega)
  obtain ⟨y5, hy5⟩ := c 5 (by omega)
  obtain ⟨y6, hy6⟩ := c 6 (by omega)
  obtain ⟨y7, hy7⟩ := c 7 (by omega)
  obtain ⟨y8, hy8⟩ := c 8 (by omega)
  obtain ⟨y9, hy9⟩ := c 9 (by omega)
  obtain ⟨y10, hy10⟩ := c 10 (by omega)
  obtain ⟨y11, hy11⟩ := c 11 (by omega)
  exact ⟨⟨y0, y1, y2, y3, y4, y5, y6, y7, y8, y9, y10, y11, hy0, hy1, hy2, hy3, hy4, hy5, hy6, hy7, hy8, hy9, hy10, hy11⟩, (h 0 (by omega)).2, (h 1 (by omega)).2, (h 2 (by omega)).2, (h 3 (by omega)).2, (h 4 (by omega)).2, (h 5 (by omega)).2, (h 6 (by omega)).2, (h 7 (by omega)).2, (h 8 (by omega)).2, (h 9 (by omega)).2, (h 10 (by omega)).2, (h 11 (by omega)).2⟩
theorem there_setCell {w : World} {b' o' n : Nat} (h : w.there b' o' n) (b o : Nat) (v : Value) : (w.setCell ⟨b, o, none⟩ v).there b' o' n := World.there_setCells h b o [v]

set_option maxRecDepth 20000 in
set_option maxHeartbeats 2000000 in
theorem dump_any {Rep : World → List Nat → Value → St → Nat → Prop} (C : Code Rep) (w : World) (sb : Nat) (U : List Nat) (st : St) (wk : Nat) (h : Side Rep w sb U st wk) :
    Calls Tryz.prog 29 #[.pointer (some ⟨sb, 0, none⟩)] w fun e w' => e = .returned (.bool true) ∧ Outside U w w' ∧ ∃ U', Fresh w U U' ∧ Side Rep w' sb U' st wk := by
  have hlt := h.lt C
  obtain ⟨S, T, g, rb, steps, rfl, ok, hrow, hrep, href, h4, h5, h6, h7⟩ := h
  have hsb : sb < w.heap.size := (Array.getElem?_eq_some_iff.1 hrow).1
  obtain ⟨hA, hAf⟩ := row_facts' hrow
  have HREF : Hid (RefRep w T rb st steps) := href
  have HROW : Hid (w.heap[sb]? = some (.cells (CellsS g rb wk) 71 (0, 0))) := hrow
  have HSET : Hid ((∀ k, k ∈ sb :: (S ++ T) → k < w.heap.size) ∧ sb ∉ S ∧ sb ∉ T ∧ (∀ k, k ∈ S → k ∉ T) ∧ (∀ k, k ∈ T → k < w.heap.size)) := ⟨hlt, h4, h5, h6, h7⟩
  have HC : Hid (Calls Tryz.prog 21 #[g] w fun e w' => Outside S w w' ∧ ∃ S' p cap, Fresh w S S' ∧ Rep w' S' g st wk ∧ e = .returned (.slice p st.dump.length cap) ∧
      (st.dump = [] ∨ ∃ b o, p = some ⟨b, o, none⟩ ∧ st.dump.length ≤ cap ∧ w.heap.size ≤ b ∧ b ∉ S' ∧ (∀ j u, (itCells st.dump)[j]? = some u → w'.cell? ⟨b, o + j, none⟩ = some u) ∧ ∀ j, j < st.dump.length * 12 → w'.frozen? ⟨b, o + j, none⟩ = false)) := C.dump ok hrep
  have HD : Hid (∀ W mb cs ov, RefG W T rb mb cs ov st steps → Calls Tryz.prog 70 #[.pointer (some ⟨rb, 0, none⟩)] W fun e w' => ∃ v, e = .returned v ∧ Below W.heap.size W w' ∧ Its w' W.heap.size v st.dump) := fun W mb cs ov hW => by
    cases hc : st.closed with
    | true => exact refDump_closed T rb mb cs ov st steps W hW hc
    | false => exact refDump_open T rb mb cs ov st steps ok W hW hc
  have hdl : st.dump.length ≤ 200 := by
    have n16 := ok.n16
    have l1 := st.parts_len 16 0 st.n ok.n1
    have l2 := st.heads_len st.n
    have l3 := st.kepts_len ok st.n
    unfold St.dump
    split
    · simp
    · rw [List.length_append, List.length_append]; omega
  obtain ⟨L, hL⟩ : ∃ L, st.dump = L := ⟨_, rfl⟩
  rw [hL] at HC HD hdl
  clear hL hrow href hrep hlt h4 h5 h6 h7
  go_enter Tryz.func29, Tryz.ntmps29
  go_wp2_with fail
  refine HC.out.mono ?_
  rintro e w1 ⟨o1, S', p, cap, f1, hrep1, rfl, hcells⟩
  obtain ⟨hlt, h4, h5, h6, h7⟩ := HSET.out
  have hrow1 := o1.row HROW.out h4
  have href1 : RefRep w1 T rb st steps := HREF.out.keep fun k a b => o1.block k a (fun h => h6 k h b)
  clear hA hAf
  obtain ⟨hA, hAf⟩ := row_facts' hrow1
  obtain ⟨mb, cs, ov, hr1⟩ := href1
  have HOLD : Hid (Outside S w w1 ∧ Fresh w S S' ∧ Rep w1 S' g st wk ∧ RefG w1 T rb mb cs ov st steps ∧ w1.heap[sb]? = some (.cells (CellsS g rb wk) 71 (0, 0))) := ⟨o1, f1, hrep1, hr1, hrow1⟩
  have HCE : Hid (L = [] ∨ ∃ b o, p = some ⟨b, o, none⟩ ∧ L.length ≤ cap ∧ w.heap.size ≤ b ∧ b ∉ S' ∧ (∀ j u, (itCells L)[j]? = some u → w1.cell? ⟨b, o + j, none⟩ = some u) ∧ ∀ j, j < L.length * 12 → w1.frozen? ⟨b, o + j, none⟩ = false) := hcells
  clear o1 f1 hrep1 hr1 hrow1 hlt h4 h5 h6 h7 hcells
  go_wp2_with fail
  refine (HD.out _ mb cs ov HOLD.out.2.2.2.1).mono ?_
  rintro e w2 ⟨v2, rfl, b2, i2⟩
  have HFIN : Hid (Outside (sb :: (S ++ T)) w w2 ∧ Fresh w (sb :: (S ++ T)) (sb :: (S' ++ T)) ∧ Side Rep w2 sb (sb :: (S' ++ T)) st wk) := by
    obtain ⟨o1, f1, hrep1, hr1, hrow1⟩ := HOLD.out
    obtain ⟨hlt, h4, h5, h6, h7⟩ := HSET.out
    have z1 := o1.size
    have z2 := b2.size
    have inS : ∀ k, k ∈ S' → k < w.heap.size → k ∈ S := fun k hk hl => by
      rcases f1 k hk with h | h
      · exact h
      · omega
    refine ⟨(o1.mono (fun i hi _ => List.mem_cons_of_mem _ (List.mem_append_left _ hi))).below b2, ?_, S', T, g, rb, steps, rfl, ok, by rw [b2.block _ (by omega), hrow1], C.keep hrep1 b2.size (fun k a _ => b2.block k a), ⟨mb, cs, ov, hr1.below b2⟩, fun h => h4 (inS sb h hsb), h5, fun k hk hT => h6 k (inS k hk (h7 k hT)) hT, fun k hk => by have := h7 k hk; omega⟩
    intro k hk
    by_cases hl : k < w.heap.size
    · left
      rcases List.mem_cons.1 hk with h | h
      · rw [h]; exact List.mem_cons_self
      · rcases List.mem_append.1 h with h | h
        · exact List.mem_cons_of_mem _ (List.mem_append_left _ (inS k h hl))
        · exact List.mem_cons_of_mem _ (List.mem_append_right _ h)
    · right; omega
  have hv2 : ∃ p2 cap2, v2 = .slice p2 L.length cap2 ∧ (L = [] ∨ ∃ b, p2 = some ⟨b, 0, none⟩ ∧ L.length ≤ cap2 ∧ ∀ j u, (itCells L)[j]? = some u → w2.cell? ⟨b, 0 + j, none⟩ = some u) := by
    rcases i2.2 with ⟨e1, e2⟩ | ⟨b, cap2, cur, e1, _, _, e3, _⟩
    · have hl0 : L = [] := List.length_eq_zero_iff.1 e2
      exact ⟨none, 0, by rw [e1, e2], .inl hl0⟩
    · refine ⟨_, cap2, e1, .inr ⟨b, rfl, e3, fun j u hu => ?_⟩⟩
      rw [Nat.zero_add]
      have i2' : Its w2 w1.heap.size (.slice (some ⟨b, 0, none⟩) L.length cap2) L := by rw [← e1]; exact i2
      exact i2'.cells.2 j u hu
  obtain ⟨p2, cap2, rfl, hp2⟩ := hv2
  have HP2 : Hid (L = [] ∨ ∃ b, p2 = some ⟨b, 0, none⟩ ∧ L.length ≤ cap2 ∧ ∀ j u, (itCells L)[j]? = some u → w2.cell? ⟨b, 0 + j, none⟩ = some u) := hp2
  have HB2 : Hid (Below w1.heap.size w1 w2) := b2
  clear hp2 b2 i2 hA hAf
  go_wp2_with fail
  go_loopg [5] L.length (fun k i wr => ∃ j : Nat, i = .int .i64 j ∧ j + k = L.length ∧ Below w2.heap.size w2 wr)
  case atStart => exact ⟨0, rfl, by omega, Below.refl _ _⟩
  case round =>
    obtain ⟨j, rfl, hjk, hbw⟩ := hrel
    by_cases hj : j < L.length
    · rcases HCE.out with he | ⟨b, o, rfl, hcap, hbn, hbS, hcel, hfz⟩
      · rw [he] at hj; simp at hj
      · rcases HP2.out with he | ⟨b', rfl, hcap', hcel'⟩
        · rw [he] at hj; simp at hj
        · have hcelW : ∀ j u, (itCells L)[j]? = some u → wr.cell? ⟨b, o + j, none⟩ = some u := fun j u hu => by
            have h1 := hcel j u hu
            have hl : b < w1.heap.size := block_lt_of_cell h1
            have hz := HB2.out.size
            rw [hbw.cell (p := ⟨b, o + j, none⟩) (by show b < w2.heap.size; omega), HB2.out.cell (p := ⟨b, o + j, none⟩) hl, h1]
          have hcelW' : ∀ j u, (itCells L)[j]? = some u → wr.cell? ⟨b', 0 + j, none⟩ = some u := fun j u hu => by
            have h1 := hcel' j u hu
            rw [hbw.cell (p := ⟨b', 0 + j, none⟩) (block_lt_of_cell h1), h1]
          have hx := itemAt_of hcelW j hj
          have hy := itemAt_of hcelW' j hj
          unfold ItemAt at hy
          simp only [Nat.zero_add] at hy
          have heq := eq_item_lit L[j]
          obtain ⟨x, hxe⟩ : ∃ x, L[j] = x := ⟨_, rfl⟩
          rw [hxe] at hx hy heq
          obtain ⟨p0, p1, p2, p3, p4, p5, p6, p7, p8, p9, p10, p11⟩ := hx
          obtain ⟨q0, q1, q2, q3, q4, q5, q6, q7, q8, q9, q10, q11⟩ := hy
          have HW : Hid (Below w2.heap.size w2 wr) := hbw
          clear hcel hcel' hfz hcelW hcelW' hxe hbw
          go_upto_region 8 with fail
          go_cut [36] (fun s36 wy => s36 = .bool false ∧ Below w2.heap.size w2 wy)
          case first =>
            go_quiet (fail)
            go_wp2_with fail
            go_meet
            exact ⟨rfl, HW.out.trans (below_drewN _ _ _)⟩
          case rest =>
            obtain ⟨rfl, hbw⟩ := hcut
            go_wp2_with fail
            go_roundg (gk - 1)
            case measure => omega
            case rel => exact ⟨j + 1, by go_num, by omega, hbw⟩
    · have hje : j = L.length := by omega
      have HW : Hid (Below w2.heap.size w2 wr) := hbw
      clear hbw
      rcases HCE.out with he | ⟨b, o, rfl, hcap, hbn, hbS, hcel, hfz⟩
      · have hl0 : L.length = 0 := by rw [he]; rfl
        rw [hl0] at hje hj hjk
        rw [hl0]
        go_wp2_with fail
        refine wp_loop_rounds 1 ?_
        rw [rounds_succ]; go_wp2_with fail
        go_ret
        obtain ⟨x1, x2, x3⟩ := HFIN.out
        exact ⟨rfl, x1.below HW.out, _, x2, x3.keep C HW.out.size (fun k a _ => HW.out.block k a)⟩
      · have hth : wr.there b o (L.length * 12) := fun j hj => by
          have h1 : ∃ u, (itCells L)[j]? = some u := ⟨_, List.getElem?_eq_getElem (by rw [itCells_length]; exact hj)⟩
          obtain ⟨u, hu⟩ := h1
          have h2 := hcel j u hu
          have hl : b < w1.heap.size := block_lt_of_cell h2
          have hz := HB2.out.size
          have hblk : wr.heap[b]? = w1.heap[b]? := by rw [HW.out.block b (by omega), HB2.out.block b hl]
          refine ⟨?_, ?_⟩
          · rw [World.cell?_of_block (w := w1) (a := ⟨b, o + j, none⟩) hblk, h2]; rfl
          · rw [World.frozen?_of_block (w := w1) (a := ⟨b, o + j, none⟩) hblk]; exact hfz j hj
        have HTH : Hid (wr.there b o (L.length * 12)) := hth
        have hbS' : Hid (b ∉ S' ∧ w.heap.size ≤ b) := ⟨hbS, hbn⟩
        clear hth hcel hfz hbS hbn
        go_wp2_with fail
        obtain ⟨wA, hwA⟩ : ∃ wA, wA = wr := ⟨_, rfl⟩
        subst hwA
        go_loopg [6] L.length (fun k i wr2 => ∃ j : Nat, i = .int .i64 j ∧ j + k = L.length ∧ Outside [b] wA wr2 ∧ wr2.there b o (L.length * 12))
        case atStart => exact ⟨0, rfl, by omega, Outside.refl _ _, HTH.out⟩
        case round =>
          obtain ⟨q, rfl, hqk, hout, hth⟩ := hrel
          have HO : Hid (Outside [b] wA wr ∧ wr.there b o (L.length * 12)) := ⟨hout, hth⟩
          by_cases hq : q < L.length
          · have hth12 : wr.there b (o + q * 12) 12 := fun i hi => by
              have := hth (q * 12 + i) (by omega)
              rw [← Nat.add_assoc] at this
              exact this
            clear hout hth
            obtain ⟨⟨y0, y1, y2, y3, y4, y5, y6, y7, y8, y9, y10, y11, m0, m1, m2, m3, m4, m5, m6, m7, m8, m9, m10, m11⟩, z0, z1, z2, z3, z4, z5, z6, z7, z8, z9, z10, z11⟩ := there12 hth12
            clear hth12
            go_wp2_with fail
            go_roundg (gk - 1)
            case measure => omega
            case rel => exact ⟨q + 1, by go_num, by omega, ((((((((((((HO.out.1.setCell ⟨b, o + q * 12, none⟩ (fun _ => List.mem_cons_self) _).setCell ⟨b, o + q * 12 + 1, none⟩ (fun _ => List.mem_cons_self) _).setCell ⟨b, o + q * 12 + 2, none⟩ (fun _ => List.mem_cons_self) _).setCell ⟨b, o + q * 12 + 3, none⟩ (fun _ => List.mem_cons_self) _).setCell ⟨b, o + q * 12 + 4, none⟩ (fun _ => List.mem_cons_self) _).setCell ⟨b, o + q * 12 + 5, none⟩ (fun _ => List.mem_cons_self) _).setCell ⟨b, o + q * 12 + 6, none⟩ (fun _ => List.mem_cons_self) _).setCell ⟨b, o + q * 12 + 7, none⟩ (fun _ => List.mem_cons_self) _).setCell ⟨b, o + q * 12 + 8, none⟩ (fun _ => List.mem_cons_self) _).setCell ⟨b, o + q * 12 + 9, none⟩ (fun _ => List.mem_cons_self) _).setCell ⟨b, o + q * 12 + 10, none⟩ (fun _ => List.mem_cons_self) _).setCell ⟨b, o + q * 12 + 11, none⟩ (fun _ => List.mem_cons_self) _), (there_setCell (there_setCell (there_setCell (there_setCell (there_setCell (there_setCell (there_setCell (there_setCell (there_setCell (there_setCell (there_setCell (there_setCell HO.out.2 _ _ _) _ _ _) _ _ _) _ _ _) _ _ _) _ _ _) _ _ _) _ _ _) _ _ _) _ _ _) _ _ _) _ _ _)⟩
          · have hqe : q = L.length := by omega
            clear hout hth
            go_wp2_with fail
            go_ret
            obtain ⟨x1, x2, x3⟩ := HFIN.out
            have y1 := x1.below HW.out
            have y3 := x3.keep C HW.out.size (fun k a _ => HW.out.block k a)
            have hbU : b ∉ sb :: (S' ++ T) := fun h => by
              have := hbS'.out.2
              rcases List.mem_cons.1 h with h | h
              · omega
              · rcases List.mem_append.1 h with h | h
                · exact hbS'.out.1 h
                · have := HSET.out.2.2.2.2 b h; omega
            refine ⟨rfl, y1.trans HO.out.1 (fun i hi hl => ?_), _, x2, y3.keep C HO.out.1.size (fun k a hk => HO.out.1.block k a (fun h => ?_))⟩
            · have := hbS'.out.2
              simp at hi
              omega
            · simp at h
              exact hbU (h ▸ hk)
end Go.Proofs.YtkpebabbnndopaaGreatDoor
