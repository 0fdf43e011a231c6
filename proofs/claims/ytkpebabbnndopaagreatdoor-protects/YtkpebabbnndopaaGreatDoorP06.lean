import Derived.Test.YtkpebabbnndopaaGreatDoorP05
import Derived.WalkKit
import Derived.ProofKit
import Derived.OpenShut
import Derived.ChangeSlices
import Derived.Deep.Slices
import Derived.Laws.StructEq
import Derived.Test.YtkpebabbnndopaaGreatDoorRows
import Derived.Test.YtkpebabbnndopaaGreatDoorC09
import Derived.ChangeSame
import Derived.ChangeVars
import Derived.JoinedOf
import Derived.RowKit
import Derived.RowKitTokens
import Derived.LaidLaws
import Derived.LaidHandle
import Derived.Stop.Joined
import Derived.ShutString
import Derived.Carry
import Derived.Test.YtkpebabbnndopaaGreatDoorC29
import Derived.Test.YtkpebabbnndopaaGreatDoorCards
import Derived.Test.YtkpebabbnndopaaGreatDoorTie
import Derived.SevenTiedAt
/- Lists of numbers and scripts among a law's arguments. -/
namespace Go.Proofs.YtkpebabbnndopaaGreatDoor
open Go.ChangeShapes Go.WideShapes Go.ChangeAt Go.RowKit

theorem spot_none {w : World} {a : Addr} {v : Value} (h : w.cell? a = some v) : a = ⟨a.block, a.off, none⟩ := by
  obtain ⟨b, o, s⟩ := a
  cases s with
  | none => rfl
  | some s =>
    unfold World.cell? at h
    split at h
    · simp at h
    · cases h
theorem add_none (b o i : Nat) : (⟨b, o, none⟩ : Addr).add i = ⟨b, o + i, none⟩ := by unfold Addr.add; split <;> simp_all
theorem ints_arg {H : Type} {enc : TypeId × Value → H} {W : World} {a0 : Option Addr} {len cap : Nat} {d : DataW H} {p : List MemPlace} (h : DataW.Trod enc Tryz.prog W 0 (fun _ => true) true 22 (.slice a0 len cap) d p) : IntsArg W a0 len cap := by
  obtain ⟨fuel, hf⟩ := h
  rcases Go.ChangeShapes.open_ints Tryz.underlying22 Tryz.underlying3 (by kernel_rfl) hf with ⟨e, _⟩ | ⟨a, l, c, zs, e, _, hle, _, hzl, _, hcell, _⟩
  · simp [Value.cells] at e
    obtain ⟨rfl, rfl, rfl⟩ := e
    exact ⟨Nat.le_refl _, .inl rfl⟩
  · simp [Value.cells] at e
    obtain ⟨rfl, rfl, rfl⟩ := e
    rw [if_pos rfl] at hzl
    refine ⟨hle, ?_⟩
    by_cases h0 : len = 0
    · exact .inl h0
    · have h1 := hcell 0 (by omega)
      have ha := spot_none (show W.cell? a = _ from h1)
      refine .inr ⟨a.block, a.off, by rw [← ha], fun i hi => ?_⟩
      have h2 := hcell i (by omega)
      rw [ha, add_none] at h2
      exact ⟨_, h2⟩
theorem field_at (t : TypeId) (i : Nat) (ft o : Nat) (h : ((Tryz.prog.fieldsOf t).toList.map fun f => (f.type, f.offset))[i]? = some (ft, o)) : ∃ f, (Tryz.prog.fieldsOf t)[i]? = some f ∧ f.type = ft ∧ f.offset = o := by
  rw [List.getElem?_map] at h
  obtain ⟨f, h1, h2⟩ := Option.map_eq_some_iff.1 h
  simp only [Prod.mk.injEq] at h2
  exact ⟨f, by simpa using h1, h2.1, h2.2⟩
theorem ops_arg {H : Type} {enc : TypeId × Value → H} {W : World} {a0 : Option Addr} {len cap : Nat} {d : DataW H} {p : List MemPlace} (h : DataW.Trod enc Tryz.prog W 0 (fun _ => true) true 23 (.slice a0 len cap) d p) : OpsArg W a0 len cap := by
  obtain ⟨fuel, hf⟩ := h
  have hce : Tryz.prog.cellsOf 73 = 4 := by kernel_rfl
  have hci : Tryz.prog.cellsOf 3 = 1 := by kernel_rfl
  have hcs : Tryz.prog.cellsOf 9 = 1 := by kernel_rfl
  have hst : Tryz.prog.underlying 73 = some (.struct (Tryz.prog.fieldsOf 73)) := by kernel_rfl
  have hF : (Tryz.prog.fieldsOf 73).toList.map (fun f => (f.type, f.offset)) = [(3, 0), (3, 1), (3, 2), (9, 3)] := by kernel_rfl
  rcases Go.Deep.open_slice Tryz.underlying23 hf with ⟨e, _⟩ | ⟨a, l, c, m, n, D, Pl, e, _, hle, _, hm, _, hx⟩
  · simp [Value.cells] at e
    obtain ⟨rfl, rfl, rfl⟩ := e
    exact ⟨Nat.le_refl _, .inl rfl⟩
  · simp [Value.cells] at e
    obtain ⟨rfl, rfl, rfl⟩ := e
    rw [if_pos rfl] at hm
    refine ⟨hle, ?_⟩
    by_cases h0 : len = 0
    · exact .inl h0
    · rw [hce] at hx
      have ha : a = ⟨a.block, a.off, none⟩ := by
        obtain ⟨cs', h1, h2⟩ := hx 0 (by omega)
        obtain ⟨_, hlen, hcell⟩ := World.cells?_some h1
        have h3 := hcell 0 (by omega)
        obtain ⟨v, hv⟩ : ∃ v, cs'[0]? = some v := ⟨_, List.getElem?_eq_getElem (by omega)⟩
        rw [hv] at h3
        exact spot_none (show W.cell? a = some v from h3)
      refine .inr ⟨a.block, a.off, by rw [← ha], fun i hi => ?_⟩
      obtain ⟨cs', h1, h2⟩ := hx i (by omega)
      obtain ⟨_, hlen, hcell⟩ := World.cells?_some h1
      obtain ⟨xs, k, hk, hxy, _, hxl, hfd⟩ := DataW.trod_struct hst h2
      have hfs : (Tryz.prog.fieldsOf 73).size = 4 := by
        have := congrArg List.length hF
        simpa using this
      rw [hfs] at hxl
      rw [ha, add_none] at hcell
      have one : ∀ j (hj : j < 4) ft, ((Tryz.prog.fieldsOf 73).toList.map (fun f => (f.type, f.offset)))[j]? = some (ft, j) → Tryz.prog.cellsOf ft = 1 → ∃ y, DataW.trod enc Tryz.prog W 0 (fun _ => true) true k ft ((cs'.drop j).take 1) = some y := fun j hj ft hft hc1 => by
        obtain ⟨f, g1, g2, g3⟩ := field_at _ j ft j hft
        have g4 := hfd j f g1
        rw [g2, g3, hc1] at g4
        exact ⟨xs[j]'(by omega), by rw [g4]; exact List.getElem?_eq_getElem (by omega)⟩
      have cellj : ∀ j (hj : j < 4) v, (cs'.drop j).take 1 = [v] → W.cell? ⟨a.block, a.off + i * 4 + j, none⟩ = some v := fun j hj v hv => by
        have h5 := hcell j (by omega)
        rw [add_none] at h5
        rw [h5]
        have h6 : ((cs'.drop j).take 1)[0]? = some v := by rw [hv]; rfl
        rw [List.getElem?_take] at h6
        simpa using h6
      obtain ⟨y0, t0⟩ := one 0 (by omega) 3 (by rw [hF]; rfl) hci
      obtain ⟨y1, t1⟩ := one 1 (by omega) 3 (by rw [hF]; rfl) hci
      obtain ⟨y2, t2⟩ := one 2 (by omega) 3 (by rw [hF]; rfl) hci
      obtain ⟨y3, t3⟩ := one 3 (by omega) 9 (by rw [hF]; rfl) hcs
      obtain ⟨n0, c0, _, _⟩ := DataW.trod_int Tryz.underlying3 t0
      obtain ⟨n1, c1, _, w1⟩ := DataW.trod_int Tryz.underlying3 t1
      obtain ⟨n2, c2, _, _⟩ := DataW.trod_int Tryz.underlying3 t2
      obtain ⟨s3, c3, _, _⟩ := DataW.trod_string Tryz.underlying9 t3
      have b1 := Go.bounds_i64 w1
      exact ⟨n0, n1, n2, s3, b1.1, b1.2, cellj 0 (by omega) _ c0, cellj 1 (by omega) _ c1, cellj 2 (by omega) _ c2, cellj 3 (by omega) _ c3⟩
end Go.Proofs.YtkpebabbnndopaaGreatDoor

/- What the one listed variable holds; a world that has it. -/
namespace Go.Proofs.YtkpebabbnndopaaGreatDoor
open Go.ChangeShapes Go.WideShapes Go.RowKit

theorem lpOwn : ownKnob Tryz.prog.godebug = none := by kernel_rfl
theorem lpEt : Tryz.prog.globalNamed "errors.errorType" = some 0 := by kernel_rfl
theorem lpRt : (Tryz.prog.cutTypes.find? (·.1 == "internal/reflectlite.rtype")).map (·.2) = some 243 := by kernel_rfl
theorem lpSize : Tryz.prog.types.size = 322 := by kernel_rfl
theorem lpRow : ((List.range 322).filter fun t => Tryz.prog.rowNamed t [101, 114, 114, 111, 114]) = [114] := by kernel_rfl
theorem glob_of_laid {W : World} (h : laidMetH Tryz.prog [("errors.errorType", Rows.laid_errors_errorType)] W) : Glob W := by
  have h' : laidMet Tryz.prog [] W ∧ handlesMet Tryz.prog [("errors.errorType", Rows.laid_errors_errorType)] W := h
  obtain ⟨name, u, ty, e1, e2, e3, e4, e5⟩ := h'.2 _ (List.mem_singleton.2 rfl)
  have en : name = [101, 114, 114, 111, 114] := (Option.some.inj e1).symm
  subst en
  obtain rfl := Option.some.inj (lpRt.symm.trans e2)
  have hm : ty ∈ (List.range 322).filter fun t => Tryz.prog.rowNamed t [101, 114, 114, 111, 114] := List.mem_filter.2 ⟨List.mem_range.2 (by rw [← lpSize]; exact e3), e4⟩
  rw [lpRow] at hm
  obtain rfl := List.mem_singleton.1 hm
  have hh : typeHandle Tryz.prog 114 = .pointer (some ⟨1, 114, none⟩) := by kernel_rfl
  rw [hh] at e5
  have := World.var?_cell lpEt e5 0
  show W.cell? ⟨0, 0, none⟩ = _
  simpa using this
end Go.Proofs.YtkpebabbnndopaaGreatDoor

/- Protects: P7, P8, P13, P14: of a program whose calls on a group are as Code asks. -/
namespace Go.Proofs.YtkpebabbnndopaaGreatDoor.protects
open Go.ChangeShapes Go.WideShapes Go.ChangeAt Go.RowKit
open Go.ChangeMaps (open_string shut_string)
set_option linter.unusedVariables false

theorem own : ownKnob Tryz.prog.godebug = none := by kernel_rfl
theorem laid : laidOutB Tryz.prog = true := by kernel_rfl

theorem walk {Rep : World → List Nat → Value → St → Nat → Prop} (C : Code Rep) (root : ByteArray) (n : Int) (po : Option Addr) (no co : Nat) (ps : Option Addr) (ns cs : Nat) (w : World) (hown : IntsArg w po no co) (hscr : OpsArg w ps ns cs) (hG : Glob w) :
    Calls Tryz.prog 3 #[.string root, .int .i64 n, .slice po no co, .slice ps ns cs] w fun e w' => e = .returned (.bool true) ∧ Below w.heap.size w w' := by
  have HP : Hid (∀ W, W = w → Calls Tryz.prog 12 #[.string root, .int .i64 n, .slice po no co, .slice ps ns cs, .int .i64 1] W fun e w' => e = .returned (.bool true) ∧ Below W.heap.size W w') := fun W hW => by
    subst hW
    by_cases hbig : 4096 < ns ∨ 16 < no
    · exact plays_big root n po no co ps ns cs 1 hbig W
    · exact plays_small C root n po no co ps ns cs (by omega) (by omega) W hown hscr hG
  clear hown hscr hG
  go_enter Tryz.func3, Tryz.ntmps3
  go_wp2_with fail
  refine (HP.out _ rfl).mono ?_
  rintro e w1 ⟨rfl, b1⟩
  have HB : Hid (Below w.heap.size w w1) := b1
  clear b1 HP
  go_wp2_with fail
  go_ret
  exact ⟨rfl, HB.out⟩

set_option maxRecDepth 100000 in
theorem lifted {Rep : World → List Nat → Value → St → Nat → Prop} (C : Code Rep) (os : Os) (started : os.Started) (H : Type) (enc : TypeId × Value → H) :
    ReturnsInHanded {} Tryz.checked os 3 .any (fun w args => (Rows.protectsSpec.pre enc Tryz.prog Tryz.f3 [] false w args ∧ laidMetH Tryz.prog [("errors.errorType", Rows.laid_errors_errorType)] w) ∧ sizedMet enc Tryz.prog Tryz.f3 (OpenSpec.ofChange Rows.protectsSpec) false w args)
      (Rows.protectsSpec.post enc Tryz.prog Tryz.f3 false true false false) := by
  refine returnsInHanded_of_change_and (C := Tryz.checked) (X := fun w _ => laidMetH Tryz.prog [("errors.errorType", Rows.laid_errors_errorType)] w) (fun _ _ _ hh h => h.of_heap hh) lpOwn started (by kernel_rfl) Tryz.func3
    (ChangeSpec.witness_at (enc := enc) (C := Tryz.checked) (os := os) (X := fun w _ => laidMetH Tryz.prog [("errors.errorType", Rows.laid_errors_errorType)] w) false ({ World.holding Tryz.prog os ⟨#[], #[], []⟩ with heap := (World.holding Tryz.prog os ⟨#[], #[], []⟩).heap.modify 0 fun
      | .cells _ t frozen => .cells #[errT] t frozen
      | o => o }) #[.string ByteArray.empty, .int .i64 0, .slice none 0 0, .slice none 0 0] 8 rfl (by kernel_rfl) (by kernel_rfl) (by kernel_rfl) (by kernel_rfl) (by kernel_rfl) (laidMetH_of_parts (laidMet_nil _ _) (by kernel_rfl))) ?_
  intro W base args ds gs before hval0 hW _ _ hL _
  have hG := glob_of_laid hL
  have hval : ∀ (j : Nat) t v, Tryz.f3.params[j]? = some t → args[j]? = some v → Value.okWide Tryz.prog W .any base t v := hval0
  have hW' := hW
  obtain ⟨p, q, hA0, hV0, rfl, hfz, hnd⟩ := hW
  have hA : DataW.TrodAll enc Tryz.prog W 0 (fun _ => true) true Tryz.f3.params.toList args.toList ds p := hA0
  have hV : DataW.TrodVars enc Tryz.prog W (fun _ => true) [] gs q := hV0
  rw [Tryz.params3] at hA hval
  obtain ⟨v0, vs0, d0, ds0, p0, q0, hargs, rfl, rfl, h0, r0⟩ := trodAll_cons hA
  obtain ⟨v1, vs1, d1, ds1, p1, q1, rfl, rfl, rfl, h1, r1⟩ := trodAll_cons r0
  obtain ⟨v2, vs2, d2, ds2, p2, q2, rfl, rfl, rfl, h2, r2⟩ := trodAll_cons r1
  obtain ⟨v3, vs3, d3, ds3, p3, q3, rfl, rfl, rfl, h3, r3⟩ := trodAll_cons r2
  obtain ⟨rfl, rfl, rfl⟩ := trodAll_nil r3
  obtain rfl : args = #[v0, v1, v2, v3] := by cases args; simp_all
  obtain ⟨rfl, rfl⟩ := trodVars_none hV
  obtain ⟨a0, rfl, rfl, rfl, w0⟩ := open_string Tryz.underlying9 (hval 0 9 v0 rfl rfl) h0
  obtain ⟨a1, rfl, rfl, rfl, w1⟩ := open_int Tryz.underlying3 (hval 1 3 v1 rfl rfl) h1
  obtain ⟨po, no, co, rfl⟩ := okWide_slice Tryz.underlying22 (hval 2 22 v2 rfl rfl)
  obtain ⟨ps, ns, cs, rfl⟩ := okWide_slice Tryz.underlying23 (hval 3 23 v3 rfl rfl)
  have hlt : ∀ x, x ∈ p2 ++ (p3 ++ []) → x.block < W.heap.size := fun x hx => by simpa using hW'.lt x (by simpa using hx)
  refine (walk C a0 a1 po no co ps ns cs W (ints_arg h2) (ops_arg h3) hG).mono fun e W' ⟨he, hg⟩ => ?_
  subst he
  refine ⟨_, rfl, _, _, _, [], [] ++ ([] ++ (p2 ++ (p3 ++ []))), [], hW', trodAll_mk1 (shut_bool Tryz.underlying4 _), ?_, rfl, hg.frame _, fun h => by cases h⟩
  exact trodAll_cons_mk (shut_string Tryz.underlying9 w0) (trodAll_cons_mk (shut_int Tryz.underlying3 w1) (trodAll_cons_mk (Below.trod laid (by kernel_rfl) (of_decide_eq_true (by kernel_rfl)) h2 hg (fun x hx => hlt x (List.mem_append_left _ hx))) (trodAll_cons_mk (Below.trod laid (by kernel_rfl) (of_decide_eq_true (by kernel_rfl)) h3 hg (fun x hx => hlt x (List.mem_append_right _ (List.mem_append_left _ hx)))) trodAll_mk0)))

theorem over {Rep : World → List Nat → Value → St → Nat → Prop} (C : Code Rep) : Rows.protectsRow.holds Tryz.pinned (OpenSpec.ofChange Rows.protectsSpec) :=
  OpenClaim.holds_of_wide 3 Tryz.f3 rfl rfl rfl rfl rfl rfl rfl ⟨rfl, rfl, rfl, rfl, rfl⟩ rfl rfl rfl rfl rfl (by kernel_rfl) Tryz.func3 (by kernel_rfl)
    (of_decide_eq_true (by kernel_rfl)) (by unfold Func.isWrapper; first | (rw [if_pos (by decide +kernel)]; kernel_rfl) | (rw [if_neg (by decide +kernel)]; exact ⟨rfl, rfl⟩))
    (fun os started H enc _ => lifted C os started H enc)
theorem said {Rep : World → List Nat → Value → St → Nat → Prop} (C : Code Rep) : Rows.ProtectsSaid := over C
end Go.Proofs.YtkpebabbnndopaaGreatDoor.protects

/- Protects. -/
namespace Go.Proofs.YtkpebabbnndopaaGreatDoor
open Go

theorem protects_row : Rows.ProtectsSaid := protects.said code
theorem protects_holds : Rows.ProtectsCardSaid :=
  Claim7.holds_tied_plain_at .later [] [.handle] true _ true
    protects_row (fun _ h => by cases h) (by kernel_rfl) (fun _ h => by cases h) protects_row_tie rfl ⟨rfl, rfl⟩ (by kernel_rfl) rfl
    (fun f fn hf hfn => by
      obtain rfl : f = 3 := Option.some.inj ((show Tryz.prog.funcNamed "epoch/epochlaw.Protects" = some 3 by kernel_rfl).symm.trans hf) |>.symm
      obtain rfl : fn = Tryz.f3 := (Option.some.inj (Tryz.func3.symm.trans hfn)).symm
      exact ⟨by kernel_rfl, fun j t ht => by
        rw [Tryz.params3] at ht
        rcases j with _ | _ | _ | _ | j
        · obtain rfl : t = 9 := by simpa using ht.symm
          exact (show Tryz.prog.wantsStandIn 9 = false by kernel_rfl)
        · obtain rfl : t = 3 := by simpa using ht.symm
          exact (show Tryz.prog.wantsStandIn 3 = false by kernel_rfl)
        · obtain rfl : t = 22 := by simpa using ht.symm
          exact (show Tryz.prog.wantsStandIn 22 = false by kernel_rfl)
        · obtain rfl : t = 23 := by simpa using ht.symm
          exact (show Tryz.prog.wantsStandIn 23 = false by kernel_rfl)
        · simp at ht⟩)
    (by kernel_rfl)
#print axioms protects_holds
end Go.Proofs.YtkpebabbnndopaaGreatDoor
