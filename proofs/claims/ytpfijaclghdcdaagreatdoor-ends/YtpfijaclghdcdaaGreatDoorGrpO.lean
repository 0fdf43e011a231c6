import Derived.Test.YtpfijaclghdcdaaGreatDoorRatchet
import Derived.WalkKit
import Derived.WalkSpells
import Derived.WalkLawsBesides
import Derived.Test.YtpfijaclghdcdaaGreatDoorLeafOf
import Derived.Test.YtpfijaclghdcdaaGreatDoorPureI
import Derived.Test.YtpfijaclghdcdaaGreatDoorDrvG
import Derived.Test.YtpfijaclghdcdaaGreatDoorNum
import Derived.Deep.WholeRow
import Derived.Deep.QuietTactic
import Derived.BigQuiet
import Derived.BigRegion
import Derived.Test.YtpfijaclghdcdaaGreatDoorRows
import Derived.Defers
import Derived.Deep.MidRow
/- isSpent, hasSecret. -/
namespace Go.Proofs.YtpfijaclghdcdaaGreatDoor
open Go.RowKit

theorem isSpent_any (g : Int) (b o : Nat) (w : World) (h : w.cell? ⟨b, o + 1, none⟩ = some (.int .i64 g)) :
    Calls Tryz.prog 47 #[.pointer (some ⟨b, o, none⟩)] w fun e w' => e = .returned (.bool (!(GenB g))) ∧ w' = w := by
  have HG : Hid (∀ W, Calls Tryz.prog 67 #[.int .i64 g] W fun e w' => e = .returned (.bool (GenB g)) ∧ w' = W) := fun W => isGeneration_any g W
  go_enter Tryz.func47, Tryz.ntmps47
  go_wp2_with (go_at_call 67; refine (HG.out _).mono ?_; rintro e w' ⟨rfl, rfl⟩)
  go_ret
  exact ⟨rfl, rfl⟩
theorem hasSecret_any (bg : Bool) (g : Int) (b o : Nat) (w : World) (h0 : w.cell? ⟨b, o, none⟩ = some (.bool bg)) (h : w.cell? ⟨b, o + 1, none⟩ = some (.int .i64 g)) :
    Calls Tryz.prog 33 #[.pointer (some ⟨b, o, none⟩)] w fun e w' => e = .returned (.bool (bg && GenB g)) ∧ w' = w := by
  have HG : Hid (∀ W, W.cell? ⟨b, o + 1, none⟩ = some (.int .i64 g) → Calls Tryz.prog 47 #[.pointer (some ⟨b, o, none⟩)] W fun e w' => e = .returned (.bool (!(GenB g))) ∧ w' = W) := fun W hW => isSpent_any g b o W hW
  cases bg with
  | true =>
    go_enter Tryz.func33, Tryz.ntmps33
    go_wp2_with (go_at_call 47; refine (HG.out _ h).mono ?_; rintro e w' ⟨rfl, rfl⟩)
    go_ret
    exact ⟨by simp, rfl⟩
  | false =>
    go_enter Tryz.func33, Tryz.ntmps33
    go_wp2_with fail
    go_ret
    exact ⟨by simp, rfl⟩
end Go.Proofs.YtpfijaclghdcdaaGreatDoor

/- The group in memory; New, whyNotProtect. -/
namespace Go.Proofs.YtpfijaclghdcdaaGreatDoor
open Go.RowKit
set_option linter.unusedVariables false

def itPart (x : It) : PartD := ⟨x.f, x.t, x.s⟩
/-- the secret that a member's ratchet holds -/
def St.ratS (st : St) (i : Nat) : Nat → Int := if (st.m i).begun && decide ((st.m i).next ≤ 65535) then st.ratAt i (st.m i).next else fun _ => 0
structure GrpAt (cs : Array Value) (st : St) (wk pm : Nat) : Prop where
  size : cs.size = 326
  members : cs[0]? = some (.int .i64 st.n)
  own : cs[1]? = some (.int .i64 st.own)
  over : cs[2]? = some (.bool false)
  tree : TreeAt cs 3 ((st.parts 16 0 st.n).map itPart)
  rat : ∀ i, i < 16 → RatAt cs (164 + i * 10) (st.m i).begun (st.m i).next (st.ratS i)
  passed : cs[324]? = some (.map (some pm))
  cnt : cs[ctrOff]? = some (ctr wk)

theorem ratIndex (b j : Nat) (hj : j < 16) : ∀ W, (Instr.indexAt 81 (.pointer (some ⟨b, 164, none⟩)) (.int .i64 j)).run Tryz.prog W = .ok (.pointer (some ⟨b, 164 + j * 10, none⟩)) W := fun W => by
  have h0 : (0 : Int) ≤ j := by omega
  have h1 : (j : Int) < 16 := by omega
  simp [go_sem, h0, h1]
abbrev strLong : ByteArray := ⟨#[116, 104, 101, 32, 116, 101, 120, 116, 32, 105, 115, 32, 116, 111, 111, 32, 108, 111, 110, 103]⟩
abbrev strSpent : ByteArray := ⟨#[97, 108, 108, 32, 103, 101, 110, 101, 114, 97, 116, 105, 111, 110, 115, 32, 119, 101, 114, 101, 32, 117, 115, 101, 100]⟩
set_option maxHeartbeats 2000000 in
theorem why_any (b : Nat) (m : Nat) (hm : m < 16) (g : Int) (a : Option Addr) (n c : Nat) (w : World) (h0 : w.cell? ⟨b, 1, none⟩ = some (.int .i64 m)) (h1 : w.cell? ⟨b, 2, none⟩ = some (.bool false)) (h2 : w.cell? ⟨b, 164 + m * 10 + 1, none⟩ = some (.int .i64 g)) :
    Calls Tryz.prog 23 #[.pointer (some ⟨b, 0, none⟩), .slice a n c] w fun e w' => e = .returned (if 40 < n then faultV 2 strLong else if GenB g then .nilIface else faultV 8 strSpent) ∧ Below w.heap.size w w' := by
  have ix := ratIndex b m hm
  have HS : Hid (∀ W, W.cell? ⟨b, 164 + m * 10 + 1, none⟩ = some (.int .i64 g) → Calls Tryz.prog 47 #[.pointer (some ⟨b, 164 + m * 10, none⟩)] W fun e w' => e = .returned (.bool (!(GenB g))) ∧ w' = W) := fun W hW => isSpent_any g b (164 + m * 10) W hW
  by_cases hn : 40 < n
  · have hn' : (40 : Int) < n := by omega
    rw [if_pos hn]
    clear hn
    go_enter Tryz.func23, Tryz.ntmps23
    go_wp2_with fail
    go_ret
    exact ⟨rfl, Below.refl _ _⟩
  · have hn' : ¬ (40 : Int) < n := by omega
    rw [if_neg hn]
    clear hn
    obtain ⟨M, hM⟩ : ∃ M : Int, (m : Int) = M := ⟨_, rfl⟩
    rw [hM] at h0 ix
    obtain ⟨P, hP⟩ : ∃ P, 164 + m * 10 = P := ⟨_, rfl⟩
    rw [hP] at ix HS h2
    clear hM hP hm
    cases hg : GenB g with
    | true =>
      rw [hg] at HS
      clear hg
      rw [if_pos rfl]
      go_enter Tryz.func23, Tryz.ntmps23
      go_wp2_with fail
      go_quiet ((go_at_call 47; exact Calls.quiet_of_same (HS.out _ (by simpa using h2))))
      go_wp2_with fail
      go_ret
      exact ⟨rfl, below_drewQ (Below.refl _ _) _⟩
    | false =>
      rw [hg] at HS
      clear hg
      rw [if_neg (by simp)]
      go_enter Tryz.func23, Tryz.ntmps23
      go_wp2_with fail
      go_quiet ((go_at_call 47; exact Calls.quiet_of_same (HS.out _ (by simpa using h2))))
      go_wp2_with fail
      go_ret
      exact ⟨rfl, below_drewQ (Below.refl _ _) _⟩
end Go.Proofs.YtpfijaclghdcdaaGreatDoor

/- A function that defers calls of builtins: what is asked where it leaves. -/
namespace Go.Proofs.YtpfijaclghdcdaaGreatDoor
open Go.RowKit

/-- the deferred calls, each a builtin that gives a value; then the results -/
def LeavesB (P : Program) (fn : Func) (tmps : Array Value) (R : Ending → World → Prop) : List Deferred → World → Prop
  | [], w => ∃ v, (results fn tmps).run P w = .ok v w ∧ R (.returned v) w
  | d :: ds, w => ∃ b ts t cs v w', d.target = .builtin b ts t cs ∧ (invoke d.target d.args).run P w = .ok (.value v) w' ∧ LeavesB P fn tmps R ds w'
def bodyPostB (P : Program) (fn : Func) (R : Ending → World → Prop) : Exit → Act → World → Prop
  | .normal, a, w | .ret, a, w => LeavesB P fn a.tmps R a.defers w
  | .outgrown, _, w => R .outgrown w
  | _, _, _ => False

theorem step_deferB {P : Program} {fr : Frame} {cs : List Frame} {w w' : World} {d : Deferred} {ds : List Deferred} {b : Builtin} {ts : Array TypeId} {t : TypeId} {ks : Array Bool} {v : Value}
    (hm : fr.mode = .returning) (hd : fr.defers = d :: ds) (ht : d.target = .builtin b ts t ks) (hi : (invoke d.target d.args).run P w = .ok (.value v) w') :
    step P (lone fr cs w) = .next (lone { fr with defers := ds } cs w') := by
  obtain ⟨t, a⟩ := d
  simp only at ht hi
  subst ht
  refine step_lone_go ?_
  simp [stepG, unwind, callDeferred, hm, hd, hi]

theorem leavesB_steps {P : Program} {fn : Func} {tmps : Array Value} {R : Ending → World → Prop} : ∀ (ds : List Deferred) (w : World) (fr : Frame)
    (cs : List Frame), fr.mode = .returning → fr.defers = ds → fr.tmps = tmps → P.funcs[fr.fn]? = some fn → fr.kind = .normal → LeavesB P fn tmps R ds w →
    ∃ e w' fr', R e w' ∧ Comes P (lone fr cs w) (lone fr' cs w') e ∧ fr'.fn = fr.fn ∧ fr'.leaving P w' e := by
  intro ds
  induction ds with
  | nil =>
    intro w fr cs hu hd ht hf hk h
    obtain ⟨v, hr, hR⟩ := h
    exact ⟨.returned v, w, fr, hR, Steps.refl P _, rfl, hu, hd, hk, fn, hf, ht ▸ hr⟩
  | cons d ds ih =>
    intro w fr cs hu hd ht hf hk h
    obtain ⟨b, ts, t, ks, v, w', htar, hinv, hrest⟩ := h
    have h1 := step_deferB (cs := cs) hu hd htar hinv
    obtain ⟨e', w'', fr', hR', hs', hfn', hl'⟩ := ih w' { fr with defers := ds } cs hu rfl ht hf hk hrest
    exact ⟨e', w'', fr', hR', Comes.of_steps (.one h1) hs', hfn', hl'⟩

theorem calls_of_wpB {P : Program} {f : FuncId} {fn : Func} {c : Code} {args : Array Value} {w : World} {R : Ending → World → Prop}
    (hf : P.funcs[f]? = some fn) (hb : fn.body = some c)
    (h : c.wp P (bodyPostB P fn R) { tmps := args ++ Array.replicate (fn.ntmps - args.size) undef, defers := [] } w) : Calls P f args w R := by
  intro cs
  let b : Frame := { (default : Frame) with fn := f, kind := .normal }
  have henter : Frame.enter P f args .normal =
      b.at { tmps := args ++ Array.replicate (fn.ntmps - args.size) undef, defers := [] } [.code c] := by
    simp [Frame.enter, Frame.at, hf, hb, b]
  obtain ⟨e, a', w', hq, harr⟩ := h b [] cs
  rw [← henter] at harr
  cases e with
  | normal =>
    obtain ⟨e', w'', fr', hR, hs, hfn, hl⟩ := leavesB_steps a'.defers w' { b.at a' [] with mode := .returning } cs rfl rfl rfl hf rfl hq
    exact ⟨e', w'', fr', hR, Comes.of_steps (Steps.trans harr (.one step_end)) hs, hfn, hl⟩
  | ret =>
    obtain ⟨todo, hs₀⟩ := harr
    obtain ⟨e', w'', fr', hR, hs, hfn, hl⟩ := leavesB_steps a'.defers w' { b.at a' todo with mode := .returning } cs rfl rfl rfl hf rfl hq
    exact ⟨e', w'', fr', hR, Comes.of_steps hs₀ hs, hfn, hl⟩
  | panic chain => exact hq.elim
  | exit id => exact hq.elim
  | goto l => exact hq.elim
  | outgrown => exact ⟨.outgrown, w', b, hq, harr.resolve_left (by simp [b]), rfl, trivial⟩
end Go.Proofs.YtpfijaclghdcdaaGreatDoor

/- ratchetFor. -/
namespace Go.Proofs.YtpfijaclghdcdaaGreatDoor
open Go.RowKit
set_option linter.unusedVariables false

theorem clear_door (b : Nat) (x : Nat → Int) (w : World) (t : TypeId) (h : w.heap[b]? = some (.cells (Cells8 x) t (0, 0))) (ty : TypeId) (ks : Array Bool) :
    (invoke (.builtin .clear #[30] ty ks) #[.slice (some ⟨b, 0, none⟩) 8 8]).run Tryz.prog w = .ok (.value (.tuple #[])) (w.setRow b (Cells8 fun _ => 0)) := by
  have hc := clear8 b 0 x w (fun i hi => by rw [Nat.zero_add, cell_of_row _ _ _ _ _ _ h, Cells8_at _ _ hi]) (fun i => by simp [World.frozen?, h]) ty 8
  have e : w.setCells b 0 (Cells8 fun _ => 0).toList = w.setRow b (Cells8 fun _ => 0) := by
    rw [setCells_row _ w b 0 (Cells8 x) t h]
    have e2 : putL (Cells8 x) 0 (Cells8 fun _ => 0).toList = Cells8 fun _ => 0 := by simp [putL]
    rw [e2]
  rw [e] at hc
  simp only [invoke, builtin, Sem.run_bind, hc, Result.andThen_ok, Sem.run_pure]

set_option maxHeartbeats 2000000 in
theorem begin_old (fv tv : Value) (b o : Nat) (m : Int) (w : World) (h : w.cell? ⟨b, o, none⟩ = some (.bool true)) :
    Calls Tryz.prog 25 #[.pointer (some ⟨b, o, none⟩), tv, .int .i64 m, fv] w fun e w' => e = .returned (.tuple #[]) ∧ w' = w := by
  refine calls_of_wpB Tryz.func25 rfl ?_
  simp only [Tryz.ntmps25, List.size_toArray, List.length_cons, List.length_nil, Nat.reduceAdd, Nat.reduceSub, Array.replicate_succ,
     Array.replicate_zero, List.push_toArray, List.append_toArray, List.nil_append, List.cons_append]
  go_wp2_with fail
  exact ⟨_, by simp [results, Tryz.results25, go_sem], rfl, rfl⟩

set_option maxHeartbeats 4000000 in
theorem begin_new {F : FuncId} {pre : Array Value} {q : Option Nat} (dv : Drv F pre q) (b tof ro m : Nat) (cs : Array Value) (t : TypeId) (hro : tof + 161 ≤ ro) (hsz : ro + 10 ≤ cs.size) (hcf : q ≠ none → ro + 10 ≤ ctrOff) (A B : List PartD) (p : PartD) (w : World) (h : Home q b t cs w) (hT : TreeAt cs tof (A ++ p :: B)) (hpm : p.has m) (hA : ∀ x ∈ A, ¬ x.has m) (hlt : ∀ x ∈ A ++ p :: B, x.f < x.t) (hw : wide (A ++ p :: B) ≤ 16) (s0 : Nat → Int) (g0 : Int) (hr : RatAt cs ro false g0 s0) (hsb : ∀ i, 0 ≤ (p.spl 16 m).s i ∧ (p.spl 16 m).s i < 256) :
    Calls Tryz.prog 25 #[.pointer (some ⟨b, ro, none⟩), .pointer (some ⟨b, tof, none⟩), .int .i64 m, .func (.func F) pre #[]] w fun e w' => e = .returned (.tuple #[]) ∧ ∃ cs1, Mv q (2 * (p.spl 16 m).d + 1) tof 161 cs cs1 ∧ TreeAt cs1 tof (A ++ (p.spl 16 m).x ++ ((p.spl 16 m).y ++ B)) ∧ Upd q (2 * (p.spl 16 m).d + 1) b tof (ro + 10 - tof) t cs w w' (putL cs1 ro (CellsR true 0 (DerB (p.spl 16 m).s lRatchet 0)).toList) := by
  have HTL : Hid (∀ W, Home q b t cs W → Calls Tryz.prog 49 #[.pointer (some ⟨b, tof, none⟩), .int .i64 m, .func (.func F) pre #[]] W fun e w' => e = .returned (Agg8 (p.spl 16 m).s) ∧ ∃ cs', Upd q (2 * (p.spl 16 m).d) b tof 161 t cs W w' cs' ∧ TreeAt cs' tof (A ++ (p.spl 16 m).x ++ ((p.spl 16 m).y ++ B))) := fun W hW => takeLeaf_any dv b tof t cs A B p m W hW hT hpm hA hlt hw (fun hq => by have := hcf hq; omega)
  have HRO : Hid (∀ W, Has q W → Calls Tryz.prog 50 #[Agg8 (p.spl 16 m).s, .func (.func F) pre #[]] W fun e w' => e = .returned (AggR true 0 (DerB (p.spl 16 m).s lRatchet 0)) ∧ Tick q 1 W w') := fun W hW => ratchetOf_any dv (p.spl 16 m).s hsb W hW
  obtain ⟨D, hD⟩ : ∃ D, (p.spl 16 m).d = D := ⟨_, rfl⟩
  obtain ⟨X, hX⟩ : ∃ X, (p.spl 16 m).s = X := ⟨_, rfl⟩
  obtain ⟨FIN, hFIN⟩ : ∃ FIN, A ++ (p.spl 16 m).x ++ ((p.spl 16 m).y ++ B) = FIN := ⟨_, rfl⟩
  rw [hD, hX, hFIN] at HTL ⊢
  rw [hX] at HRO
  obtain ⟨R, hR⟩ : ∃ R, DerB X lRatchet 0 = R := ⟨_, rfl⟩
  rw [hR] at HRO ⊢
  have c0 : w.cell? ⟨b, ro, none⟩ = some (.bool false) := (hr.facts h).1
  have HH : Hid (Home q b t cs w) := h
  have HPB : Hid (tof + 161 ≤ ro ∧ ro + 10 ≤ cs.size ∧ (q ≠ none → ro + 10 ≤ ctrOff)) := ⟨hro, hsz, hcf⟩
  have hbw := h.lt
  clear hD hX hFIN hR h hT hpm hA hlt hw hr hsb hcf hsz hro
  refine calls_of_wpB Tryz.func25 rfl ?_
  simp only [Tryz.ntmps25, List.size_toArray, List.length_cons, List.length_nil, Nat.reduceAdd, Nat.reduceSub, Array.replicate_succ,
     Array.replicate_zero, List.push_toArray, List.append_toArray, List.nil_append, List.cons_append]
  go_wp2_with fail
  refine (HTL.out _ HH.out).mono ?_
  rintro e w1 ⟨rfl, cs1, u1, hT1⟩
  have HU1 : Hid (Upd q (2 * D) b tof 161 t cs w w1 cs1) := u1
  have HT1 : Hid (TreeAt cs1 tof FIN) := hT1
  clear u1 hT1 HTL c0
  obtain ⟨w2, hw2⟩ : ∃ w2, w1.alloc (.cells (Cells8 X) 47) = w2 := ⟨_, rfl⟩
  have b2 : Below w1.heap.size w1 w2 := by rw [← hw2]; exact (Below.refl _ w1).alloc (Nat.le_refl _) _
  have k2 : w2.heap[w1.heap.size]? = some (.cells (Cells8 X) 47 (0, 0)) := by rw [← hw2]; exact (MapKept.heap_alloc _ _).1
  have HW2 : Hid (w1.alloc (.cells (Cells8 X) 47) = w2) := hw2
  have HU2 : Hid (Upd q (2 * D) b tof 161 t cs w w2 cs1) := HU1.out.below b2
  clear hw2
  go_wp2_with (first | (rw [HW2.out]; refine wpList_load_row rfl 47 _ rfl w1.heap.size rfl 47 (Cells8 X) (0, 0) _ k2 Tryz.underlying47 rfl (by kernel_rfl) ?_) | refine wpList_load_row rfl 47 _ rfl w1.heap.size rfl 47 (Cells8 X) (0, 0) _ k2 Tryz.underlying47 rfl (by kernel_rfl) ?_)
  refine (HRO.out _ HU2.out.home.has).mono ?_
  rintro e w3 ⟨rfl, t3⟩
  obtain ⟨cs3, u3, m3⟩ := HU2.out.tick t3
  have hbk : w1.heap.size ≠ b := by have := HU1.out.home.lt; omega
  have k3 : w3.heap[w1.heap.size]? = some (.cells (Cells8 X) 47 (0, 0)) := by
    rw [t3.block _ (Array.getElem?_eq_some_iff.1 k2).1 (HU1.out.home.has.ne (Nat.le_refl _))]; exact k2
  have HT3 : Hid (TreeAt cs3 tof FIN) := HT1.out.mv m3 (fun hq => by have := HPB.out.2.2 hq; have := HPB.out.1; omega)
  have HM3 : Hid (Mv q (2 * D + 1) tof 161 cs cs3) := u3.mv
  have s3 : cs3.size = cs.size := u3.mv.size
  have HUM : Hid (Upd q (2 * D + 1) b tof (ro + 10 - tof) t cs w w3 cs3) := u3.mono (Nat.le_refl _) (by have := HPB.out.1; omega)
  have th3 : w3.there b ro 10 := u3.home.there (by have := HPB.out.2.1; omega)
  obtain ⟨w4, hw4⟩ : ∃ w4, w3.setCells b ro (CellsR true 0 R).toList = w4 := ⟨_, rfl⟩
  have HU4 : Hid (Upd q (2 * D + 1) b tof (ro + 10 - tof) t cs w w4 (putL cs3 ro (CellsR true 0 R).toList)) := by
    show Upd _ _ _ _ _ _ _ _ _ _
    rw [← hw4]
    exact HUM.out.setCells (fun hq => by have := HPB.out.2.2 hq; have := HPB.out.1; omega) ro _ (by have := HPB.out.1; omega) (by have := HPB.out.1; show ro + 10 ≤ _; omega)
  have k4 : w4.heap[w1.heap.size]? = some (.cells (Cells8 X) 47 (0, 0)) := by
    rw [← hw4, setCells_row _ w3 b ro cs3 t u3.home.row, setRow_other _ _ _ _ hbk]; exact k3
  have z4 : w.heap.size ≤ w1.heap.size := HU1.out.outq.size
  have HQ : Hid (Has q w) := HH.out.has
  have HW4 : Hid (w3.setCells b ro (CellsR true 0 R).toList = w4) := hw4
  clear t3 u3 m3 hw4 HRO HU2 b2 k2 HW2 HUM
  go_wp2_with (refine wpList_store_mid rfl 75 _ _ rfl b ro (CellsR true 0 R) rfl rfl th3 (by kernel_rfl) (by simp [Value.oneCell']) ?_; rw [HW4.out])
  refine ⟨_, _, _, _, _, _, rfl, clear_door w1.heap.size X w4 _ k4 _ _, _, by simp [results, Tryz.results25, go_sem], rfl, cs3, HM3.out, HT3.out, ?_⟩
  exact HU4.out.fresh hbw HQ.out z4 _
end Go.Proofs.YtpfijaclghdcdaaGreatDoor
