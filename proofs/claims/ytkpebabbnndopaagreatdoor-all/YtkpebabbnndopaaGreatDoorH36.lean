import Derived.Test.YtkpebabbnndopaaGreatDoorG31
import Derived.Test.YtkpebabbnndopaaGreatDoorG33
import Derived.Test.YtkpebabbnndopaaGreatDoorG35
import Derived.Test.YtkpebabbnndopaaGreatDoorRows
import Derived.Test.YtkpebabbnndopaaGreatDoorC09
import Derived.ChangeSame
import Derived.ChangeVars
import Derived.JoinedOf
import Derived.RowKit
import Derived.RowKitTokens
import Derived.LaidLaws
import Derived.LaidHandle
import Derived.Stop.Joined
/- The program's calls on a group are as the law asks. -/
namespace Go.Proofs.YtkpebabbnndopaaGreatDoor
open Go.RowKit
set_option linter.unusedVariables false

theorem zr_at : ∀ i, i < 16 → ((Builtin.zeroCells (CellsR false 0 fun _ => 0) 16).extract (i * 10) (i * 10 + 10)).toList = (CellsR false 0 fun _ => 0).toList := by
  intro i hi
  rcases i with _ | _ | _ | _ | _ | _ | _ | _ | _ | _ | _ | _ | _ | _ | _ | _ | i <;> first | omega | kernel_rfl
theorem zt_count : Tryz.zeroCells102[160]? = some (.int .i64 0) := by kernel_rfl
/-- a group's cells behind Close -/
theorem end_shut {cs : Array Value} {st : St} {wk pm : Nat} (hG : GrpAt cs st wk pm 0) : ShutAt (((((endC Tryz.zeroCells102.toList (Builtin.zeroCells (CellsR false 0 fun _ => 0) 16).toList ((cs.setIfInBounds 0 (i32 1)).setIfInBounds 3 (i32 1))).setIfInBounds 2 (.int .u32 1)).setIfInBounds 3 (i32 0)).setIfInBounds 0 (i32 0))) wk pm 0 := by
  have zl := zr_len
  have ts : Tryz.zeroCells102.toList.length = 161 := by rw [Array.length_toList]; exact zt_size
  have hat := zr_at
  have htc : Tryz.zeroCells102.toList[160]? = some (.int .i64 0) := by rw [Array.getElem?_toList]; exact zt_count
  have hto : Tryz.zeroCells102.toList.all (·.oneCell') = true := by rw [Array.all_toList]; exact zt_one
  have hro := zr_one
  obtain ⟨Zt, hZt⟩ : ∃ Zt, Tryz.zeroCells102.toList = Zt := ⟨_, rfl⟩
  obtain ⟨ZA, hZA⟩ : ∃ ZA, Builtin.zeroCells (CellsR false 0 fun _ => 0) 16 = ZA := ⟨_, rfl⟩
  rw [hZt] at ts htc hto ⊢
  rw [hZA] at zl hat hro ⊢
  unfold endC
  have hz : (putL (putL (((cs.setIfInBounds 0 (i32 1)).setIfInBounds 3 (i32 1)).setIfInBounds 7 (.bool true)) 8 Zt) 169 ZA.toList).size = 331 := by simp only [putL_size, Array.size_setIfInBounds]; exact hG.size
  have e : ∀ j, j ≠ 0 → j ≠ 2 → j ≠ 3 → (((((putL (putL (((cs.setIfInBounds 0 (i32 1)).setIfInBounds 3 (i32 1)).setIfInBounds 7 (.bool true)) 8 Zt) 169 ZA.toList).setIfInBounds 2 (.int .u32 1)).setIfInBounds 3 (i32 0)).setIfInBounds 0 (i32 0)))[j]? = (putL (putL (((cs.setIfInBounds 0 (i32 1)).setIfInBounds 3 (i32 1)).setIfInBounds 7 (.bool true)) 8 Zt) 169 ZA.toList)[j]? := fun j h1 h2 h3 => by
    rw [Array.getElem?_setIfInBounds, if_neg (by omega), Array.getElem?_setIfInBounds, if_neg (by omega), Array.getElem?_setIfInBounds, if_neg (by omega)]
  have eo : ∀ j, j ≠ 0 → j ≠ 2 → j ≠ 3 → j ≠ 7 → (j < 8 ∨ 329 ≤ j) → (putL (putL (((cs.setIfInBounds 0 (i32 1)).setIfInBounds 3 (i32 1)).setIfInBounds 7 (.bool true)) 8 Zt) 169 ZA.toList)[j]? = cs[j]? := fun j h1 h2 h3 h4 h5 => by
    rw [putL_out _ _ _ _ (by omega), putL_out _ _ _ _ (by omega), Array.getElem?_setIfInBounds, if_neg (by omega), Array.getElem?_setIfInBounds, if_neg (by omega), Array.getElem?_setIfInBounds, if_neg (by omega)]
  refine ⟨by simp only [Array.size_setIfInBounds]; exact hz, ?_, ⟨by simp, fun j v hv => by simp [pcells] at hv, ?_, fun p hp => by cases hp⟩, fun i hi j v hv => ?_, ?_, ?_, ?_, ?_, ?_, ?_⟩
  · rw [e _ (by omega) (by omega) (by omega), putL_out _ _ _ _ (by omega), putL_out _ _ _ _ (by omega), Array.getElem?_setIfInBounds, if_pos rfl, if_pos (by simp only [Array.size_setIfInBounds]; rw [hG.size]; omega)]
  · rw [e _ (by omega) (by omega) (by omega), putL_out _ _ _ _ (by omega)]
    exact putL_at Zt _ 8 (by simp only [Array.size_setIfInBounds]; rw [hG.size, ts]; omega) 160 _ htc
  · have hj : j < 10 := (List.getElem?_eq_some_iff.1 hv).1
    rw [e _ (by omega) (by omega) (by omega), show 169 + i * 10 + j = 169 + (i * 10 + j) by omega]
    refine putL_at ZA.toList _ 169 (by rw [putL_size]; simp only [Array.size_setIfInBounds]; rw [hG.size, zl]; omega) (i * 10 + j) v ?_
    have hs : ZA.size = 160 := by rw [← Array.length_toList]; exact zl
    rw [← hat i hi, Array.getElem?_toList, Array.getElem?_extract, if_pos (by omega)] at hv
    rw [Array.getElem?_toList]
    exact hv
  · rw [e _ (by omega) (by omega) (by omega), eo _ (by omega) (by omega) (by omega) (by omega) (by omega)]; exact hG.passed
  · rw [e _ (by show 330 ≠ 0; omega) (by show 330 ≠ 2; omega) (by show 330 ≠ 3; omega), eo _ (by show 330 ≠ 0; omega) (by show 330 ≠ 2; omega) (by show 330 ≠ 3; omega) (by show 330 ≠ 7; omega) (.inr (by show 329 ≤ 330; omega))]; exact hG.cnt
  · exact ((((Ones.putL _ _ (Ones.putL _ _ (((hG.ones.set _ _ rfl).set _ _ rfl).set _ _ rfl) hto) hro).set _ _ rfl).set _ _ rfl).set _ _ rfl)
  · rw [Array.getElem?_setIfInBounds, if_pos rfl, if_pos (by simp only [Array.size_setIfInBounds]; rw [hz]; omega)]
  · rw [Array.getElem?_setIfInBounds, if_neg (by omega), Array.getElem?_setIfInBounds, if_neg (by omega), Array.getElem?_setIfInBounds, if_pos rfl, if_pos (by rw [hz]; omega)]
  · rw [Array.getElem?_setIfInBounds, if_neg (by omega), Array.getElem?_setIfInBounds, if_pos rfl, if_pos (by simp only [Array.size_setIfInBounds]; rw [hz]; omega)]
theorem grp_close {w : World} {S : List Nat} {g : Value} {st : St} {wk : Nat} (ok : st.Ok) (h : Grp w S g st wk) (hGl : Glob w) (hcl : st.closed = false) :
    Calls Tryz.prog 24 #[g] w fun e w' => e = .returned (.int .i64 0) ∧ Outside S w w' ∧ ∃ S', Fresh w S S' ∧ Grp w' S' g st.shut wk := by
  obtain ⟨b, pm, cs, B, rfl, h⟩ := h
  have h0 := h.zero hGl
  have hG : GrpAt cs st wk pm 0 := by
    rcases h.cells with ⟨_, hG⟩ | ⟨hc, _⟩
    · exact hG
    · rw [hcl] at hc; cases hc
  have hkl := kl_open hcl
  have hk := h.keep
  have hap := h.apart
  have hSb := h.blocks
  rw [hkl] at hk hap hSb
  have hbl := h.home.lt
  have hpl := hk.lt
  have hBl : ∀ y, y ∈ keptL st st.n → B y < w.heap.size := fun y hy => (Array.getElem?_eq_some_iff.1 (hk.row y hy)).1
  have hb : b ∈ S := by rw [hSb]; simp
  have hSlt : ∀ k, k ∈ b :: pm :: (keptL st st.n).map B → k < w.heap.size := fun k hk' => h.lt k (by rw [hSb]; exact hk')
  have hpb : pm ≠ b := fun e => h.ne e.symm
  have hs := end_shut hG
  obtain ⟨CS1, hCS1⟩ : ∃ CS1, (cs.setIfInBounds 0 (i32 1)).setIfInBounds 3 (i32 1) = CS1 := ⟨_, rfl⟩
  obtain ⟨EC, hEC⟩ : ∃ EC, endC Tryz.zeroCells102.toList (Builtin.zeroCells (CellsR false 0 fun _ => 0) 16).toList CS1 = EC := ⟨_, rfl⟩
  rw [hCS1, hEC] at hs
  have zl := zr_len
  have ts : Tryz.zeroCells102.toList.length = 161 := by rw [Array.length_toList]; exact zt_size
  have hEo : ∀ j, j < 7 → EC[j]? = CS1[j]? := fun j hj => by
    rw [← hEC]
    unfold endC
    rw [putL_out _ _ _ _ (.inl (by omega)), putL_out _ _ _ _ (.inl (by omega)), Array.getElem?_setIfInBounds, if_neg (by omega)]
  have hC0 : CS1[2]? = some (.int .u32 0) := by rw [← hCS1, Array.getElem?_setIfInBounds, if_neg (by omega), Array.getElem?_setIfInBounds, if_neg (by omega)]; exact hG.head.2.1
  have hC1 : CS1[3]? = some (i32 1) := by rw [← hCS1, Array.getElem?_setIfInBounds, if_pos rfl, if_pos (by simp only [Array.size_setIfInBounds]; rw [hG.size]; omega)]
  have hC2 : CS1[0]? = some (i32 1) := by rw [← hCS1, Array.getElem?_setIfInBounds, if_neg (by omega)]; exact set_lock hG.head.1
  refine (close_raw h.home h.cells.lock (fun W ev N w' => N = 0 ∧ w'.heap[b]? = some (.cells ((EC.setIfInBounds 2 (.int .u32 1)).setIfInBounds 3 (i32 0)) 112 (0, 0)) ∧ KeepAt w' pm [] B st.keyP ∧ Outside S w w') (fun W gb eb hW hgb heb hne hWb hWg hWe => ?_) (fun W ev N w' hR => ⟨_, hR.2.1, ?_⟩)).mono fun e w' ⟨N, he, W, ev, w2, cs2, q1, q2, ⟨q3, q4, q5, q6⟩, q7, q8, q9⟩ => ?_
  · have hz := hW.size
    have hkW : KeepAt W pm (keptL st st.n) B st.keyP := hk.keep fun k hk' hm => hW.block k hk' (by
      rcases hm with rfl | hm
      · simpa using hpb
      · obtain ⟨y, hy, rfl⟩ := List.mem_map.1 hm
        simpa using hap y hy)
    refine (do_first (R := fun cs' w' => cs' = EC ∧ KeepAt w' pm [] B st.keyP ∧ w'.heap[eb]? = some (.cells #[.nilIface] 114 (0, 0)) ∧ Outside (eb :: b :: pm :: (keptL st st.n).map B) W w') hWb (by rw [Array.getElem?_setIfInBounds, if_neg (by omega)]; exact hG.head.2.1) (by rw [Array.getElem?_setIfInBounds, if_neg (by omega)]; exact hG.head.2.2) gb eb (fun W1 hW1 => ?_)).mono fun e w' ⟨h1, cs', w2, ⟨x1, x2, x3, x4⟩, x5, x6⟩ => ?_
    · rw [hCS1] at hW1
      have r1 : W1.heap[b]? = some (.cells CS1 112 (0, 0)) := by rw [hW1]; exact setRow_heap _ _ _ _ _ _ hWb
      have hoth : ∀ k, k ≠ b → W1.heap[k]? = W.heap[k]? := fun k hk' => by rw [hW1, setRow_other _ _ _ _ hk']
      have k1 : KeepAt W1 pm (keptL st st.n) B st.keyP := hkW.keep fun k _ hm => hoth k (by
        rcases hm with rfl | hm
        · exact hpb
        · obtain ⟨y, hy, rfl⟩ := List.mem_map.1 hm
          exact hap y hy)
      refine (close1_any r1 (by rw [← hCS1]; simp only [Array.size_setIfInBounds]; exact hG.size) (by rw [← hCS1, Array.getElem?_setIfInBounds, if_neg (by omega), Array.getElem?_setIfInBounds, if_neg (by omega)]; exact hG.passed) k1 hpb hap (by rw [hoth gb (by omega)]; exact hWg) ⟨_, by rw [hoth eb (by omega)]; exact hWe⟩ (fun hm => by have := hSlt gb hm; omega) (fun hm => by have := hSlt eb hm; omega)).mono fun e w' ⟨y1, y2, y3, y4, y5⟩ => ⟨y1, EC, by rw [← hEC]; exact y2, by rw [hEo _ (by omega)]; exact hC0, by rw [hEo _ (by omega)]; exact hC1, rfl, y3, y5, ?_⟩
      rw [hW1] at y4
      exact ((Outside.refl (eb :: b :: pm :: (keptL st st.n).map B) W).setRow b (fun _ => by simp) _).trans y4 (fun _ hi _ => hi)
    · subst x1
      have hoth : ∀ k, k ≠ b → w'.heap[k]? = w2.heap[k]? := fun k hk' => by rw [x6, setRow_other _ _ _ _ hk', setRow_other _ _ _ _ hk']; rfl
      have hOS : Outside S w w' := by
        rw [x6, hSb]
        refine (((((hW.mono (S' := b :: pm :: (keptL st st.n).map B) (fun i hi _ => by simp at hi; simp [hi])).trans x4 (fun i hi hl => ?_)).drew).setRow b (fun _ => by simp) _).setRow b (fun _ => by simp) _)
        rcases List.mem_cons.1 hi with e | e
        · omega
        · exact e
      refine ⟨h1, .nilIface, 0, by rw [hoth eb (by omega)]; exact x3, .inl ⟨rfl, rfl⟩, hGl.out hOS h0, rfl, ?_, x2.keep fun k _ hm => hoth k (by
        rcases hm with rfl | hm
        · exact hpb
        · cases hm), hOS⟩
      rw [x6]
      exact setRow_heap _ _ _ _ _ _ (setRow_heap w2.drew _ _ _ _ _ x5)
  · rw [Array.getElem?_setIfInBounds, if_neg (by omega), Array.getElem?_setIfInBounds, if_neg (by omega), hEo _ (by omega)]
    exact hC2
  · have e2 : cs2 = (EC.setIfInBounds 2 (.int .u32 1)).setIfInBounds 3 (i32 0) := by
      rw [q4] at q7
      cases q7; rfl
    rw [e2] at q8
    have hkl2 : st.shut.kl = [] := kl_shut rfl
    refine ⟨by rw [he, q3], q6.trans q9 (fun i hi _ => by simp at hi; rw [hi]; exact hb), [b, pm], fun k hk' => .inl ?_, b, pm, _, B, rfl, ⟨by rw [hkl2]; rfl, h.ne, fun x hx => (by rw [hkl2] at hx; cases hx), Home.own q8 ⟨wk, hs.cnt⟩, ?_, ⟨h.asc.asc, h.asc.below⟩, .inr ⟨rfl, hs⟩⟩⟩
    · rw [hSb]
      simp only [List.mem_cons, List.not_mem_nil, or_false] at hk' ⊢
      rcases hk' with e | e
      · exact .inl e
      · exact .inr (.inl e)
    · rw [hkl2]
      show KeepAt w' pm [] B st.keyP
      exact q5.keep fun k hk' hm => q9.block k hk' (by
        rcases hm with rfl | hm
        · simpa using hpb
        · cases hm)
theorem grp_closeErr {w : World} {S : List Nat} {g : Value} {st : St} {wk : Nat} (ok : st.Ok) (h : Grp w S g st wk) (hGl : Glob w) (hcl : st.closed = true) :
    Calls Tryz.prog 24 #[g] w fun e w' => e = .returned (.int .i64 9) ∧ Outside S w w' ∧ ∃ S', Fresh w S S' ∧ Grp w' S' g st wk := by
  obtain ⟨b, pm, cs, B, rfl, h⟩ := h
  have h0 := h.zero hGl
  have hb : b ∈ S := by rw [h.blocks]; simp
  have hGb : 0 ∉ [b] := fun hm => h0 (by rw [show (0 : Nat) = b by simpa using hm]; exact hb)
  have hS : ShutAt cs wk pm 0 := by
    rcases h.cells with ⟨hc, _⟩ | ⟨_, hS⟩
    · rw [hcl] at hc; cases hc
    · exact hS
  refine (close_raw h.home h.cells.lock (fun W ev N w' => N = 9 ∧ w' = W ∧ W.heap[b]? = some (.cells (cs.setIfInBounds 0 (i32 1)) 112 (0, 0))) (fun W gb eb hW hgb heb hne hWb hWg hWe => ?_) (fun W ev N w' hR => ⟨_, by rw [hR.2.1]; exact hR.2.2, set_lock hS.head.1⟩)).mono fun e w' ⟨N, he, W, ev, w2, cs2, q1, q2, ⟨q3, q4, _⟩, q7, q8, q9⟩ => ?_
  · exact (do_done hWb (by rw [Array.getElem?_setIfInBounds, if_neg (by omega)]; exact hS.head.2.1) _).mono fun e w' ⟨x1, x2⟩ => ⟨x1, _, 9, by rw [x2]; exact hWe, .inr rfl, by rw [x2]; exact hGl.out hW hGb, rfl, x2, hWb⟩
  · subst q4
    have e2 : cs2 = cs.setIfInBounds 0 (i32 1) := by
      rw [q2] at q7
      cases q7; rfl
    rw [e2, set_back hS.head.1] at q8
    obtain ⟨x1, x2⟩ : Outside S w w' ∧ GrpIn w' S b pm cs B st wk := by
      have ho : Outside [b] w w' := q1.trans q9 (fun _ hi _ => hi)
      exact h.same ho (by rw [q8, h.home.row])
    exact ⟨by rw [he, q3], x1, S, Fresh.refl _ _, b, pm, cs, B, rfl, x2⟩
theorem code : Code Grp where
  lt := fun {w S g st wk} h k hk => by
    obtain ⟨b, pm, cs, B, rfl, h⟩ := h
    exact h.lt k hk
  keep := fun {w w' S g st wk} h _ hk => by
    obtain ⟨b, pm, cs, B, rfl, h⟩ := h
    exact ⟨b, pm, cs, B, rfl, h.kept hk⟩
  ptr := fun {w S g st wk} h => by
    obtain ⟨b, pm, cs, B, rfl, h⟩ := h
    exact ⟨b, rfl⟩
  newErr := fun s n m w hs hf => newErr_any s n m hf w
  new := fun s n m w hs h1 h2 h3 => grp_new s hs n m h1 h2 h3 w
  work := fun {w S g st wk} ok hw h => grp_work hw h
  protErr := fun {w S g st wk} ok h hG a t c hl hb hn he => grp_protErr ok h hG a t.length c he
  prot := fun {w S g st wk} ok h a t c hl hb hn he => grp_prot ok h a t c hl hb hn he
  dump := fun {w S g st wk} ok h => grp_dump ok h
  unErr := fun {w S g st wk} ok h hG a l c hlc hb hn he => grp_unErr ok h hG a l c hlc hb hn he
  un := fun {w S g st wk} ok h hG a l c hlc hb hn he => grp_un ok h hG a l c hlc hb hn he
  close := fun {w S g st wk} ok h hG hc => grp_close ok h hG hc
  closeErr := fun {w S g st wk} ok h hG hc => grp_closeErr ok h hG hc
end Go.Proofs.YtkpebabbnndopaaGreatDoor

/- What the one listed variable holds; a world that has it. -/
namespace Go.Proofs.YtkpebabbnndopaaGreatDoor
open Go.ChangeShapes Go.WideShapes Go.RowKit

theorem lpOwn : ownKnob Tryz.prog.godebug = none := by kernel_rfl
theorem lpEt : Tryz.prog.globalNamed "errors.errorType" = some 0 := by kernel_rfl
theorem lpRt : (Tryz.prog.cutTypes.find? (·.1 == "internal/reflectlite.rtype")).map (·.2) = some 243 := by kernel_rfl
theorem lpSize : Tryz.prog.types.size = 322 := by kernel_rfl
theorem lpRow : ((List.range 322).filter fun t => Tryz.prog.rowNamed t [101, 114, 114, 111, 114]) = [114] := by kernel_rfl
theorem glob_of_laid {W : World} (h : laidMetH Tryz.prog [("errors.errorType", Rows.laid_errors_errorType)] W) : Glob W := by
  have h' : laidMet Tryz.prog [] W ∧ handlesMet Tryz.prog [("errors.errorType", Rows.laid_errors_errorType)] W := h
  obtain ⟨name, u, ty, e1, e2, e3, e4, e5⟩ := h'.2 _ (List.mem_singleton.2 rfl)
  have en : name = [101, 114, 114, 111, 114] := (Option.some.inj e1).symm
  subst en
  obtain rfl := Option.some.inj (lpRt.symm.trans e2)
  have hm : ty ∈ (List.range 322).filter fun t => Tryz.prog.rowNamed t [101, 114, 114, 111, 114] := List.mem_filter.2 ⟨List.mem_range.2 (by rw [← lpSize]; exact e3), e4⟩
  rw [lpRow] at hm
  obtain rfl := List.mem_singleton.1 hm
  have hh : typeHandle Tryz.prog 114 = .pointer (some ⟨1, 114, none⟩) := by kernel_rfl
  rw [hh] at e5
  have := World.var?_cell lpEt e5 0
  show W.cell? ⟨0, 0, none⟩ = _
  simpa using this
end Go.Proofs.YtkpebabbnndopaaGreatDoor
