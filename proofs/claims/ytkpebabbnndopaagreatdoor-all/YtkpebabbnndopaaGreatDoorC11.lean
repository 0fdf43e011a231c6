import Derived.Test.YtkpebabbnndopaaGreatDoorC10
import Derived.WalkKit
import Derived.LaidEql
import Derived.Stop.Asserts
import Derived.RowKitTokens
import Derived.Deep.WholeRow
import Derived.WalkSpells
import Derived.WalkLawsBesides
import Derived.Test.YtkpebabbnndopaaGreatDoorC08
import Derived.Deep.QuietTactic
import Derived.BigQuiet
import Derived.BigRegion
import Derived.Deep.MidRow
import Derived.Test.YtkpebabbnndopaaGreatDoorC03
import Derived.Maps.RangeWalk
import Derived.Deep.LoopGhost
/- errors.as at a fault that is wrapped; errors.As; numberOf. -/
namespace Go.Proofs.YtkpebabbnndopaaGreatDoor
open Go.RowKit Go.Extern.Stop Go.Stop Go.Extern
set_option linter.unusedVariables false
set_option linter.unusedSimpArgs false

set_option maxHeartbeats 4000000 in
theorem as71_frame (m g e : Int) (s : ByteArray) (tb va : Nat) (old : Array Value) (ho : old.size = 2) (w : World) (hva : w.cell? ⟨va, 0, none⟩ = some (.pointer (some ⟨tb, 0, none⟩))) (hvl : va < w.heap.size) (ht : w.heap[tb]? = some (.cells old 164 (0, 0))) :
    Calls Tryz.prog 122 #[frameV m g e s, .iface 166 (.pointer (some ⟨tb, 0, none⟩)), .agg (valT va), typE] w fun ev w' => ev = .returned (.bool true) ∧ Outside [tb] w w' ∧ w'.heap[tb]? = some (.cells #[.int .i64 e, .string s] 164 (0, 0)) := by
  have h68 := @run_callFunc_extern Tryz.prog 119 _ (fun args => ReflectliteValue.unpack (args.getD 0 (.tuple #[]))) Tryz.func119 (by kernel_rfl) (by kernel_rfl) (by kernel_rfl) (by kernel_rfl)
  have h99 := @run_callFunc_extern Tryz.prog 148 _ ReflectliteType.typeOf Tryz.func148 (by kernel_rfl) (by kernel_rfl) (by kernel_rfl) (by kernel_rfl)
  have h171 := @run_callFunc_extern Tryz.prog 212 _ (ReflectliteType.relation "AssignableTo" ReflectliteType.assignableTo) Tryz.func212 (by kernel_rfl) (by kernel_rfl) (by kernel_rfl) (by kernel_rfl)
  have h100 := @run_callFunc_extern Tryz.prog 149 _ (ReflectliteValue.method (ReflectliteValue.valueError "reflectlite.Value.Elem" 0) ReflectliteValue.elem) Tryz.func149 (by kernel_rfl) (by kernel_rfl) (by kernel_rfl) (by kernel_rfl)
  have h101 := @run_callFunc_extern Tryz.prog 150 _ ReflectliteValue.set Tryz.func150 (by kernel_rfl) (by kernel_rfl) (by kernel_rfl) (by kernel_rfl)
  have tO := fa_typeOfE
  have tF := fa_typeOfF
  have mA := fa_mAss
  have a25 := fa_assE
  have aF := fa_assF
  have vE := fa_valueOfE
  have nA := fun v w xT => fa_noAs _ v w xT rfl
  have uW := fa_unw
  have mU := fa_mUnw
  have htl : tb < w.heap.size := (Array.getElem?_eq_some_iff.1 ht).1
  have el := fa_elemV ⟨va, 0, none⟩ ⟨tb, 0, none⟩ ((w.alloc (.cells (valT va) 211)).alloc (.cells #[.int .i64 m, .int .i64 g, faultV e s] 177)) (by rw [World.cell?_alloc_lt _ _ ⟨va, 0, none⟩ (by simp; omega), World.cell?_alloc_lt _ _ ⟨va, 0, none⟩ hvl]; exact hva)
  have hT2 : (((w.alloc (.cells (valT va) 211)).alloc (.cells #[.int .i64 m, .int .i64 g, faultV e s] 177)).alloc (.cells #[.int .i64 e, .string s] 164)).heap[tb]? = some (.cells old 164 (0, 0)) := by
    rw [Below.heap_alloc _ _ _ (by simp; omega), Below.heap_alloc _ _ _ (by simp; omega), Below.heap_alloc _ _ _ htl]; exact ht
  have st := fa_set tb (w.heap.size + 1 + 1) old ho e s (((w.alloc (.cells (valT va) 211)).alloc (.cells #[.int .i64 m, .int .i64 g, faultV e s] 177)).alloc (.cells #[.int .i64 e, .string s] 164)) 164 164 (0, 0)
    (by have := (MapKept.heap_alloc ((w.alloc (.cells (valT va) 211)).alloc (.cells #[.int .i64 m, .int .i64 g, faultV e s] 177)) (.cells #[.int .i64 e, .string s] 164)).1; simpa only [World.size_alloc] using this)
    hT2
  have HU : Hid (∀ W, Calls Tryz.prog 207 #[.agg #[.int .i64 m, .int .i64 g, faultV e s]] W fun ev w' => ev = .returned (faultV e s) ∧ w' = W.alloc (.cells #[.int .i64 m, .int .i64 g, faultV e s] 177)) := fun W => unwrap_any m g e s W
  go_enter Tryz.func122, Tryz.ntmps122
  go_wp2
  refine wp_loop_rounds 2 ?_
  rw [rounds_succ]
  go_wp2_with (go_at_call 207; refine (HU.out _).mono ?_; rintro e w' ⟨rfl, rfl⟩)
  rw [rounds_succ]
  go_wp2
  go_ret
  refine ⟨rfl, ?_, ?_⟩
  · exact ((((Outside.refl _ w).alloc _).alloc _).alloc _).setRow _ (fun _ => List.mem_cons_self) _
  · exact setRow_heap _ _ _ _ _ _ hT2
set_option maxHeartbeats 4000000 in
/-- errors.As at a target of a fault's kind, for whatever errors.as answers true to -/
theorem As_of (ev : Value) (hev : ∃ t v, ev = .iface t v) (e : Int) (s : ByteArray) (tb : Nat) (old : Array Value) (ho : old.size = 2)
    (H : ∀ va W, W.cell? ⟨va, 0, none⟩ = some (.pointer (some ⟨tb, 0, none⟩)) → va < W.heap.size → W.heap[tb]? = some (.cells old 164 (0, 0)) → Calls Tryz.prog 122 #[ev, .iface 166 (.pointer (some ⟨tb, 0, none⟩)), .agg (valT va), typE] W fun x w' => x = .returned (.bool true) ∧ Outside [tb] W w' ∧ w'.heap[tb]? = some (.cells #[.int .i64 e, .string s] 164 (0, 0)))
    (w : World) (hg : Glob w) (ht : w.heap[tb]? = some (.cells old 164 (0, 0))) :
    Calls Tryz.prog 87 #[ev, .iface 166 (.pointer (some ⟨tb, 0, none⟩))] w fun x w' => x = .returned (.bool true) ∧ Outside [tb] w w' ∧ w'.heap[tb]? = some (.cells #[.int .i64 e, .string s] 164 (0, 0)) := by
  have h6 := @run_callFunc_extern Tryz.prog 119 _ (fun args => ReflectliteValue.unpack (args.getD 0 (.tuple #[]))) Tryz.func119 (by kernel_rfl) (by kernel_rfl) (by kernel_rfl) (by kernel_rfl)
  have h7 := @run_callFunc_extern Tryz.prog 120 _ (ReflectliteValue.methodAny (ReflectliteValue.valueError "reflectlite.Value.Type" 0) (fun t _ _ _ => ReflectliteType.toType t)) Tryz.func120 (by kernel_rfl) (by kernel_rfl) (by kernel_rfl) (by kernel_rfl)
  have h8 := @run_callFunc_extern Tryz.prog 121 _ (ReflectliteValue.method (ReflectliteValue.valueError "reflectlite.Value.IsNil" 0) ReflectliteValue.isNil) Tryz.func121 (by kernel_rfl) (by kernel_rfl) (by kernel_rfl) (by kernel_rfl)
  have h27 := @run_callFunc_extern Tryz.prog 202 _ (ReflectliteType.abiMethod fun t => do pure (.int .u8 (← Rtype.kind t))) Tryz.func202 (by kernel_rfl) (by kernel_rfl) (by kernel_rfl) (by kernel_rfl)
  have h37 := @run_callFunc_extern Tryz.prog 214 _ (ReflectliteType.method ReflectliteType.elem) Tryz.func214 (by kernel_rfl) (by kernel_rfl) (by kernel_rfl) (by kernel_rfl)
  have h38 := @run_callFunc_extern Tryz.prog 215 _ (ReflectliteType.relation "Implements" ReflectliteType.implements_) Tryz.func215 (by kernel_rfl) (by kernel_rfl) (by kernel_rfl) (by kernel_rfl)
  have f6 := fa_valueOfT
  have f7 := fa_typeT
  have mK := fa_mKind
  have mE := fa_mElem
  have mI := fa_mImpl
  have k27 := fa_kindT
  have k25 := fa_kindE
  have e27 := fa_elemT
  have i25 := fa_implE
  have htl : tb < w.heap.size := (Array.getElem?_eq_some_iff.1 ht).1
  have hlt : 0 < w.heap.size := by omega
  obtain ⟨et, ev', rfl⟩ := hev
  have n8 := fa_isNilT ⟨w.heap.size, 0, none⟩ ⟨tb, 0, none⟩ ((w.alloc (.cells #[.pointer (some ⟨tb, 0, none⟩)] 166)).alloc (.cells (valT w.heap.size) 211)) (by simp)
  have hg2 : ((w.alloc (.cells #[.pointer (some ⟨tb, 0, none⟩)] 166)).alloc (.cells (valT w.heap.size) 211)).cell? ⟨0, 0, none⟩ = some errT := by
    rw [World.cell?_alloc_lt _ _ ⟨0, 0, none⟩ (by simp), World.cell?_alloc_lt _ _ ⟨0, 0, none⟩ hlt]; exact hg
  have HH := H w.heap.size ((w.alloc (.cells #[.pointer (some ⟨tb, 0, none⟩)] 166)).alloc (.cells (valT w.heap.size) 211)) (by rw [World.cell?_alloc_lt _ _ ⟨w.heap.size, 0, none⟩ (by simp)]; simp) (by simp; omega) (by rw [Below.heap_alloc _ _ _ (by simp; omega), Below.heap_alloc _ _ _ htl]; exact ht)
  clear H hg
  have HC : Hid (Calls Tryz.prog 122 #[.iface et ev', .iface 166 (.pointer (some ⟨tb, 0, none⟩)), .agg (valT w.heap.size), typE] ((w.alloc (.cells #[.pointer (some ⟨tb, 0, none⟩)] 166)).alloc (.cells (valT w.heap.size) 211)) fun x w' => x = .returned (.bool true) ∧ Outside [tb] ((w.alloc (.cells #[.pointer (some ⟨tb, 0, none⟩)] 166)).alloc (.cells (valT w.heap.size) 211)) w' ∧ w'.heap[tb]? = some (.cells #[.int .i64 e, .string s] 164 (0, 0))) := HH
  clear HH
  go_enter Tryz.func87, Tryz.ntmps87
  go_wp2_with (go_at_call 122; refine HC.out.mono ?_; rintro e w' ⟨rfl, ho1, hr1⟩)
  all_goals
    go_ret
    exact ⟨rfl, (((Outside.refl _ w).alloc _).alloc _).trans ho1 (fun _ hi _ => hi), hr1⟩
end Go.Proofs.YtkpebabbnndopaaGreatDoor

/- numberOf. -/
namespace Go.Proofs.YtkpebabbnndopaaGreatDoor
open Go.RowKit
set_option linter.unusedVariables false

theorem Glob.out {S : List Nat} {w w' : World} (h : Glob w) (o : Outside S w w') (hs : 0 ∉ S) : Glob w' := by
  have hl : 0 < w.heap.size := block_lt_of_cell h
  show w'.cell? ⟨0, 0, none⟩ = _
  unfold World.cell?
  rw [show (⟨0, 0, none⟩ : Addr).block = 0 from rfl, o.block 0 hl hs]
  exact h
theorem Glob.below {w w' : World} (h : Glob w) (o : Below w.heap.size w w') : Glob w' := h.out (Outside.ofBelow (S := []) o) (by simp)
theorem Glob.belowB {B : Nat} {w w' : World} (h : Glob w) (o : Below B w w') (hB : 0 < B) : Glob w' := by
  show w'.cell? ⟨0, 0, none⟩ = _
  unfold World.cell?
  rw [show (⟨0, 0, none⟩ : Addr).block = 0 from rfl, o.block 0 hB]
  exact h
theorem Glob.pos {w : World} (h : Glob w) : 0 < w.heap.size := block_lt_of_cell h
theorem num_nil (w : World) : Calls Tryz.prog 44 #[.nilIface] w fun e w' => e = .returned (.int .i64 0) ∧ Below w.heap.size w w' := by
  go_enter Tryz.func44, Tryz.ntmps44
  go_wp2_with (go_at_call 87; refine (as_nil _ _).mono ?_; rintro e w' ⟨rfl, rfl⟩)
  go_ret
  exact ⟨rfl, (Below.refl _ w).alloc (Nat.le_refl _) _⟩
set_option maxHeartbeats 1000000 in
theorem num_of (ev : Value) (e : Int) (s : ByteArray) (w : World)
    (H : ∀ W tb old, old.size = 2 → Glob W → W.heap[tb]? = some (.cells old 164 (0, 0)) → Calls Tryz.prog 87 #[ev, .iface 166 (.pointer (some ⟨tb, 0, none⟩))] W fun x w' => x = .returned (.bool true) ∧ Outside [tb] W w' ∧ w'.heap[tb]? = some (.cells #[.int .i64 e, .string s] 164 (0, 0)))
    (hg : Glob w) : Calls Tryz.prog 44 #[ev] w fun x w' => x = .returned (.int .i64 e) ∧ Below w.heap.size w w' := by
  obtain ⟨w1, hw1⟩ : ∃ w1, w.alloc (.cells #[.int .i64 0, .string ByteArray.empty] 164) = w1 := ⟨_, rfl⟩
  have b1 : Below w.heap.size w w1 := by rw [← hw1]; exact (Below.refl _ w).alloc (Nat.le_refl _) _
  have k1 : w1.heap[w.heap.size]? = some (.cells #[.int .i64 0, .string ByteArray.empty] 164 (0, 0)) := by rw [← hw1]; exact (MapKept.heap_alloc _ _).1
  have HC := H w1 w.heap.size _ rfl (hg.below b1) k1
  have HB : Hid (Below w.heap.size w w1) := b1
  have HC2 : Hid (Calls Tryz.prog 87 #[ev, .iface 166 (.pointer (some ⟨w.heap.size, 0, none⟩))] w1 fun x w' => x = .returned (.bool true) ∧ Outside [w.heap.size] w1 w' ∧ w'.heap[w.heap.size]? = some (.cells #[.int .i64 e, .string s] 164 (0, 0))) := HC
  have HW : Hid (w.alloc (.cells #[.int .i64 0, .string ByteArray.empty] 164) = w1) := hw1
  clear H hg b1 k1 HC hw1
  go_enter Tryz.func44, Tryz.ntmps44
  go_wp2_with fail
  rw [show (w.alloc (.cells #[.int .i64 0, .string ⟨#[]⟩] 164)) = w1 from HW.out]
  refine HC2.out.mono ?_
  rintro x w2 ⟨rfl, o2, r2⟩
  have hc : w2.cell? ⟨w.heap.size, 0, none⟩ = some (.int .i64 e) := by rw [cell_of_row _ _ _ _ _ _ r2]; rfl
  have hb : Below w.heap.size w w2 := HB.out.trans (o2.toBelow w.heap.size HB.out.size (fun i hi => by simp at hi; omega))
  clear o2 r2
  go_wp2_with fail
  go_ret
  exact ⟨rfl, hb⟩
theorem num_fault (e : Int) (s : ByteArray) (w : World) (hg : Glob w) : Calls Tryz.prog 44 #[faultV e s] w fun x w' => x = .returned (.int .i64 e) ∧ Below w.heap.size w w' :=
  num_of _ e s w (fun W tb old ho hG ht => As_of _ ⟨_, _, rfl⟩ e s tb old ho (fun va W' h1 h2 h3 => as71_fault e s tb va old ho W' h1 h2 h3) W hG ht) hg
theorem num_frame (m g e : Int) (s : ByteArray) (w : World) (hg : Glob w) : Calls Tryz.prog 44 #[frameV m g e s] w fun x w' => x = .returned (.int .i64 e) ∧ Below w.heap.size w w' :=
  num_of _ e s w (fun W tb old ho hG ht => As_of _ ⟨_, _, rfl⟩ e s tb old ho (fun va W' h1 h2 h3 => as71_frame m g e s tb va old ho W' h1 h2 h3) W hG ht) hg
end Go.Proofs.YtkpebabbnndopaaGreatDoor

/- The group in memory; New, whyNotProtect. -/
namespace Go.Proofs.YtkpebabbnndopaaGreatDoor
open Go.RowKit
set_option linter.unusedVariables false

def itPart (x : It) : PartD := ⟨x.f, x.t, x.s⟩
/-- the secret that a member's ratchet holds -/
def St.ratS (st : St) (i : Nat) : Nat → Int := if (st.m i).begun && decide ((st.m i).next ≤ 65535) then st.ratAt i (st.m i).next else fun _ => 0
/-- a group that is not over; its mutex holds lk -/
structure GrpAt (cs : Array Value) (st : St) (wk pm : Nat) (lk : Int) : Prop where
  size : cs.size = 331
  members : cs[5]? = some (.int .i64 st.n)
  own : cs[6]? = some (.int .i64 st.own)
  over : cs[7]? = some (.bool false)
  tree : TreeAt cs 8 ((st.parts 16 0 st.n).map itPart)
  rat : ∀ i, i < 16 → RatAt cs (169 + i * 10) (st.m i).begun (st.m i).next (st.ratS i)
  passed : cs[329]? = some (.map (some pm))
  cnt : cs[ctrOff]? = some (ctr wk)
  ones : Ones cs
  head : cs[0]? = some (i32 lk) ∧ cs[2]? = some (.int .u32 0) ∧ cs[3]? = some (i32 0)

/-- the mutex is set -/
theorem GrpAt.locked {cs : Array Value} {st : St} {wk pm : Nat} {lk : Int} (h : GrpAt cs st wk pm lk) (k : Int) : GrpAt (cs.setIfInBounds 0 (i32 k)) st wk pm k := by
  have e : ∀ j, j ≠ 0 → (cs.setIfInBounds 0 (i32 k))[j]? = cs[j]? := fun j hj => by rw [Array.getElem?_setIfInBounds, if_neg (by omega)]
  have hT := h.tree
  exact ⟨by rw [Array.size_setIfInBounds]; exact h.size, by rw [e _ (by omega)]; exact h.members, by rw [e _ (by omega)]; exact h.own, by rw [e _ (by omega)]; exact h.over, ⟨hT.len, fun j v hv => by rw [e _ (by omega)]; exact hT.parts j v hv, by rw [e _ (by omega)]; exact hT.count, hT.ok⟩,
    fun i hi j v hv => by rw [e _ (by omega)]; exact h.rat i hi j v hv, by rw [e _ (by omega)]; exact h.passed, by rw [e _ (by show 330 ≠ 0; omega)]; exact h.cnt, h.ones.set _ _ rfl, set_lock h.head.1, by rw [e _ (by omega)]; exact h.head.2.1, by rw [e _ (by omega)]; exact h.head.2.2⟩
theorem ratIndex (b j : Nat) (hj : j < 16) : ∀ W, (Instr.indexAt 105 (.pointer (some ⟨b, 169, none⟩)) (.int .i64 j)).run Tryz.prog W = .ok (.pointer (some ⟨b, 169 + j * 10, none⟩)) W := fun W => by
  have h0 : (0 : Int) ≤ j := by omega
  have h1 : (j : Int) < 16 := by omega
  simp [go_sem, h0, h1]
abbrev strLong : ByteArray := ⟨#[116, 104, 101, 32, 116, 101, 120, 116, 32, 105, 115, 32, 116, 111, 111, 32, 108, 111, 110, 103]⟩
abbrev strSpent : ByteArray := ⟨#[97, 108, 108, 32, 103, 101, 110, 101, 114, 97, 116, 105, 111, 110, 115, 32, 119, 101, 114, 101, 32, 117, 115, 101, 100]⟩
set_option maxHeartbeats 2000000 in
theorem why_any (b : Nat) (m : Nat) (hm : m < 16) (g : Int) (a : Option Addr) (n c : Nat) (w : World) (h0 : w.cell? ⟨b, 6, none⟩ = some (.int .i64 m)) (h1 : w.cell? ⟨b, 7, none⟩ = some (.bool false)) (h2 : w.cell? ⟨b, 169 + m * 10 + 1, none⟩ = some (.int .i64 g)) :
    Calls Tryz.prog 43 #[.pointer (some ⟨b, 0, none⟩), .slice a n c] w fun e w' => e = .returned (if 40 < n then faultV 2 strLong else if GenB g then .nilIface else faultV 8 strSpent) ∧ Below w.heap.size w w' := by
  have ix := ratIndex b m hm
  have HS : Hid (∀ W, W.cell? ⟨b, 169 + m * 10 + 1, none⟩ = some (.int .i64 g) → Calls Tryz.prog 86 #[.pointer (some ⟨b, 169 + m * 10, none⟩)] W fun e w' => e = .returned (.bool (!(GenB g))) ∧ w' = W) := fun W hW => isSpent_any g b (169 + m * 10) W hW
  by_cases hn : 40 < n
  · have hn' : (40 : Int) < n := by omega
    rw [if_pos hn]
    clear hn
    go_enter Tryz.func43, Tryz.ntmps43
    go_wp2_with fail
    go_ret
    exact ⟨rfl, Below.refl _ _⟩
  · have hn' : ¬ (40 : Int) < n := by omega
    rw [if_neg hn]
    clear hn
    obtain ⟨M, hM⟩ : ∃ M : Int, (m : Int) = M := ⟨_, rfl⟩
    rw [hM] at h0 ix
    obtain ⟨P, hP⟩ : ∃ P, 169 + m * 10 = P := ⟨_, rfl⟩
    rw [hP] at ix HS h2
    clear hM hP hm
    cases hg : GenB g with
    | true =>
      rw [hg] at HS
      clear hg
      rw [if_pos rfl]
      go_enter Tryz.func43, Tryz.ntmps43
      go_wp2_with fail
      go_quiet ((go_at_call 86; exact Calls.quiet_of_same (HS.out _ (by simpa using h2))))
      go_wp2_with fail
      go_ret
      exact ⟨rfl, below_drewQ (Below.refl _ _) _⟩
    | false =>
      rw [hg] at HS
      clear hg
      rw [if_neg (by simp)]
      go_enter Tryz.func43, Tryz.ntmps43
      go_wp2_with fail
      go_quiet ((go_at_call 86; exact Calls.quiet_of_same (HS.out _ (by simpa using h2))))
      go_wp2_with fail
      go_ret
      exact ⟨rfl, below_drewQ (Below.refl _ _) _⟩
end Go.Proofs.YtkpebabbnndopaaGreatDoor

/- ratchetFor. -/
namespace Go.Proofs.YtkpebabbnndopaaGreatDoor
open Go.RowKit
set_option linter.unusedVariables false

theorem clear_door (b : Nat) (x : Nat → Int) (w : World) (t : TypeId) (h : w.heap[b]? = some (.cells (Cells8 x) t (0, 0))) (ty : TypeId) (ks : Array Bool) :
    (invoke (.builtin .clear #[34] ty ks) #[.slice (some ⟨b, 0, none⟩) 8 8]).run Tryz.prog w = .ok (.value (.tuple #[])) (w.setRow b (Cells8 fun _ => 0)) := by
  have hc := clear8 b 0 x w (fun i hi => by rw [Nat.zero_add, cell_of_row _ _ _ _ _ _ h, Cells8_at _ _ hi]) (fun i => by simp [World.frozen?, h]) ty 8
  have e : w.setCells b 0 (Cells8 fun _ => 0).toList = w.setRow b (Cells8 fun _ => 0) := by
    rw [setCells_row _ w b 0 (Cells8 x) t h]
    have e2 : putL (Cells8 x) 0 (Cells8 fun _ => 0).toList = Cells8 fun _ => 0 := by simp [putL]
    rw [e2]
  rw [e] at hc
  simp only [invoke, builtin, Sem.run_bind, hc, Result.andThen_ok, Sem.run_pure]

set_option maxHeartbeats 2000000 in
theorem begin_old (fv tv : Value) (b o : Nat) (m : Int) (w : World) (h : w.cell? ⟨b, o, none⟩ = some (.bool true)) :
    Calls Tryz.prog 45 #[.pointer (some ⟨b, o, none⟩), tv, .int .i64 m, fv] w fun e w' => e = .returned (.tuple #[]) ∧ w' = w := by
  refine calls_of_wpB Tryz.func45 rfl ?_
  simp only [Tryz.ntmps45, List.size_toArray, List.length_cons, List.length_nil, Nat.reduceAdd, Nat.reduceSub, Array.replicate_succ,
     Array.replicate_zero, List.push_toArray, List.append_toArray, List.nil_append, List.cons_append]
  go_wp2_with fail
  exact ⟨_, by simp [results, Tryz.results45, go_sem], rfl, rfl⟩

set_option maxHeartbeats 4000000 in
theorem begin_new {F : FuncId} {pre : Array Value} {q : Option Nat} (dv : Drv F pre q) (b tof ro m : Nat) (cs : Array Value) (t : TypeId) (hro : tof + 161 ≤ ro) (hsz : ro + 10 ≤ cs.size) (hcf : q ≠ none → ro + 10 ≤ ctrOff) (A B : List PartD) (p : PartD) (w : World) (h : Home q b t cs w) (hT : TreeAt cs tof (A ++ p :: B)) (hpm : p.has m) (hA : ∀ x ∈ A, ¬ x.has m) (hlt : ∀ x ∈ A ++ p :: B, x.f < x.t) (hw : wide (A ++ p :: B) ≤ 16) (s0 : Nat → Int) (g0 : Int) (hr : RatAt cs ro false g0 s0) (hsb : ∀ i, 0 ≤ (p.spl 16 m).s i ∧ (p.spl 16 m).s i < 256) :
    Calls Tryz.prog 45 #[.pointer (some ⟨b, ro, none⟩), .pointer (some ⟨b, tof, none⟩), .int .i64 m, .func (.func F) pre #[]] w fun e w' => e = .returned (.tuple #[]) ∧ ∃ cs1, Mv q (2 * (p.spl 16 m).d + 1) tof 161 cs cs1 ∧ TreeAt cs1 tof (A ++ (p.spl 16 m).x ++ ((p.spl 16 m).y ++ B)) ∧ Upd q (2 * (p.spl 16 m).d + 1) b tof (ro + 10 - tof) t cs w w' (putL cs1 ro (CellsR true 0 (DerB (p.spl 16 m).s lRatchet 0)).toList) := by
  have HTL : Hid (∀ W, Home q b t cs W → Calls Tryz.prog 78 #[.pointer (some ⟨b, tof, none⟩), .int .i64 m, .func (.func F) pre #[]] W fun e w' => e = .returned (Agg8 (p.spl 16 m).s) ∧ ∃ cs', Upd q (2 * (p.spl 16 m).d) b tof 161 t cs W w' cs' ∧ TreeAt cs' tof (A ++ (p.spl 16 m).x ++ ((p.spl 16 m).y ++ B))) := fun W hW => takeLeaf_any dv b tof t cs A B p m W hW hT hpm hA hlt hw (fun hq => by have := hcf hq; omega)
  have HRO : Hid (∀ W, Has q W → Calls Tryz.prog 81 #[Agg8 (p.spl 16 m).s, .func (.func F) pre #[]] W fun e w' => e = .returned (AggR true 0 (DerB (p.spl 16 m).s lRatchet 0)) ∧ Tick q 1 W w') := fun W hW => ratchetOf_any dv (p.spl 16 m).s hsb W hW
  obtain ⟨D, hD⟩ : ∃ D, (p.spl 16 m).d = D := ⟨_, rfl⟩
  obtain ⟨X, hX⟩ : ∃ X, (p.spl 16 m).s = X := ⟨_, rfl⟩
  obtain ⟨FIN, hFIN⟩ : ∃ FIN, A ++ (p.spl 16 m).x ++ ((p.spl 16 m).y ++ B) = FIN := ⟨_, rfl⟩
  rw [hD, hX, hFIN] at HTL ⊢
  rw [hX] at HRO
  obtain ⟨R, hR⟩ : ∃ R, DerB X lRatchet 0 = R := ⟨_, rfl⟩
  rw [hR] at HRO ⊢
  have c0 : w.cell? ⟨b, ro, none⟩ = some (.bool false) := (hr.facts h).1
  have HH : Hid (Home q b t cs w) := h
  have HPB : Hid (tof + 161 ≤ ro ∧ ro + 10 ≤ cs.size ∧ (q ≠ none → ro + 10 ≤ ctrOff)) := ⟨hro, hsz, hcf⟩
  have hbw := h.lt
  clear hD hX hFIN hR h hT hpm hA hlt hw hr hsb hcf hsz hro
  refine calls_of_wpB Tryz.func45 rfl ?_
  simp only [Tryz.ntmps45, List.size_toArray, List.length_cons, List.length_nil, Nat.reduceAdd, Nat.reduceSub, Array.replicate_succ,
     Array.replicate_zero, List.push_toArray, List.append_toArray, List.nil_append, List.cons_append]
  go_wp2_with fail
  refine (HTL.out _ HH.out).mono ?_
  rintro e w1 ⟨rfl, cs1, u1, hT1⟩
  have HU1 : Hid (Upd q (2 * D) b tof 161 t cs w w1 cs1) := u1
  have HT1 : Hid (TreeAt cs1 tof FIN) := hT1
  clear u1 hT1 HTL c0
  obtain ⟨w2, hw2⟩ : ∃ w2, w1.alloc (.cells (Cells8 X) 51) = w2 := ⟨_, rfl⟩
  have b2 : Below w1.heap.size w1 w2 := by rw [← hw2]; exact (Below.refl _ w1).alloc (Nat.le_refl _) _
  have k2 : w2.heap[w1.heap.size]? = some (.cells (Cells8 X) 51 (0, 0)) := by rw [← hw2]; exact (MapKept.heap_alloc _ _).1
  have HW2 : Hid (w1.alloc (.cells (Cells8 X) 51) = w2) := hw2
  have HU2 : Hid (Upd q (2 * D) b tof 161 t cs w w2 cs1) := HU1.out.below b2
  clear hw2
  go_wp2_with (first | (rw [HW2.out]; refine wpList_load_row rfl 51 _ rfl w1.heap.size rfl 51 (Cells8 X) (0, 0) _ k2 Tryz.underlying51 rfl (by kernel_rfl) ?_) | refine wpList_load_row rfl 51 _ rfl w1.heap.size rfl 51 (Cells8 X) (0, 0) _ k2 Tryz.underlying51 rfl (by kernel_rfl) ?_)
  refine (HRO.out _ HU2.out.home.has).mono ?_
  rintro e w3 ⟨rfl, t3⟩
  obtain ⟨cs3, u3, m3⟩ := HU2.out.tick t3
  have hbk : w1.heap.size ≠ b := by have := HU1.out.home.lt; omega
  have k3 : w3.heap[w1.heap.size]? = some (.cells (Cells8 X) 51 (0, 0)) := by
    rw [t3.block _ (Array.getElem?_eq_some_iff.1 k2).1 (HU1.out.home.has.ne (Nat.le_refl _))]; exact k2
  have HT3 : Hid (TreeAt cs3 tof FIN) := HT1.out.mv m3 (fun hq => by have := HPB.out.2.2 hq; have := HPB.out.1; omega)
  have HM3 : Hid (Mv q (2 * D + 1) tof 161 cs cs3) := u3.mv
  have s3 : cs3.size = cs.size := u3.mv.size
  have HUM : Hid (Upd q (2 * D + 1) b tof (ro + 10 - tof) t cs w w3 cs3) := u3.mono (Nat.le_refl _) (by have := HPB.out.1; omega)
  have th3 : w3.there b ro 10 := u3.home.there (by have := HPB.out.2.1; omega)
  obtain ⟨w4, hw4⟩ : ∃ w4, w3.setCells b ro (CellsR true 0 R).toList = w4 := ⟨_, rfl⟩
  have HU4 : Hid (Upd q (2 * D + 1) b tof (ro + 10 - tof) t cs w w4 (putL cs3 ro (CellsR true 0 R).toList)) := by
    show Upd _ _ _ _ _ _ _ _ _ _
    rw [← hw4]
    exact HUM.out.setCells (fun hq => by have := HPB.out.2.2 hq; have := HPB.out.1; omega) ro _ (by have := HPB.out.1; omega) (by have := HPB.out.1; show ro + 10 ≤ _; omega)
  have k4 : w4.heap[w1.heap.size]? = some (.cells (Cells8 X) 51 (0, 0)) := by
    rw [← hw4, setCells_row _ w3 b ro cs3 t u3.home.row, setRow_other _ _ _ _ hbk]; exact k3
  have z4 : w.heap.size ≤ w1.heap.size := HU1.out.outq.size
  have HQ : Hid (Has q w) := HH.out.has
  have HW4 : Hid (w3.setCells b ro (CellsR true 0 R).toList = w4) := hw4
  clear t3 u3 m3 hw4 HRO HU2 b2 k2 HW2 HUM
  go_wp2_with (refine wpList_store_mid rfl 104 _ _ rfl b ro (CellsR true 0 R) rfl rfl th3 (by kernel_rfl) (by simp [Value.oneCell']) ?_; rw [HW4.out])
  refine ⟨_, _, _, _, _, _, rfl, clear_door w1.heap.size X w4 _ k4 _ _, _, by simp [results, Tryz.results45, go_sem], rfl, cs3, HM3.out, HT3.out, ?_⟩
  exact HU4.out.fresh hbw HQ.out z4 _
end Go.Proofs.YtkpebabbnndopaaGreatDoor

/- The map of the keys that were passed over, in memory: look-up, keep, forget. -/
namespace Go.Proofs.YtkpebabbnndopaaGreatDoor
open Go.RowKit Go.Maps
set_option linter.unusedVariables false
set_option linter.unusedSimpArgs false

theorem RP_inv {v : Value} {ps : List MemPlace} {b : Nat} (h : RP v = some (.lit (.int .i64 b), ps)) : v = .pointer (some ⟨b, 0, none⟩) := by
  unfold RP at h
  split at h
  · simp only [Option.some.injEq, Prod.mk.injEq, DataW.lit.injEq, Lit.int.injEq] at h
    obtain ⟨⟨_, h1⟩, _⟩ := h
    rw [Int.ofNat.inj h1]
  · simp at h
  · cases h
theorem tight {w : World} {b n : Nat} {D : DataW Unit} (h : w.ownsMap Tryz.prog 123 RP b n D) : w.ownsMap Tryz.prog 123 RP b (Maps.size D) D := by
  obtain ⟨es, clock, hb, F, hs, rfl⟩ := h
  refine ⟨es, clock, hb, F, ?_, rfl⟩
  rw [Maps.size_eq, length_sorted]
  simp
/-- the map pm holds just the keys of the places L: the key of x lies in the block B x -/
structure KeepAt (w : World) (pm : Nat) (L : List PlI) (B : PlI → Nat) (key : PlI → Nat → Int) : Prop where
  map : ∃ D, w.ownsMap Tryz.prog 123 RP pm L.length D ∧ KeepD D L B
  row : ∀ x, x ∈ L → w.heap[B x]? = some (.cells (Cells8 (key x)) 51 (0, 0))
  inj : ∀ x, x ∈ L → ∀ y, y ∈ L → B x = B y → x = y
theorem KeepAt.nodup {w : World} {pm : Nat} {L : List PlI} {B : PlI → Nat} {key : PlI → Nat → Int} (h : KeepAt w pm L B key) : L.Nodup := by obtain ⟨D, _, hd⟩ := h.map; exact hd.nodup
theorem KeepAt.wf {w : World} {pm : Nat} {L : List PlI} {B : PlI → Nat} {key : PlI → Nat → Int} (h : KeepAt w pm L B key) : ∀ x, x ∈ L → wfP x := by obtain ⟨D, _, hd⟩ := h.map; exact hd.wf
theorem KeepAt.lt {w : World} {pm : Nat} {L : List PlI} {B : PlI → Nat} {key : PlI → Nat → Int} (h : KeepAt w pm L B key) : pm < w.heap.size := by obtain ⟨D, hm, _⟩ := h.map; exact hm.lt
theorem KeepAt.ne {w : World} {pm : Nat} {L : List PlI} {B : PlI → Nat} {key : PlI → Nat → Int} (h : KeepAt w pm L B key) (x : PlI) (hx : x ∈ L) : B x ≠ pm := fun e => by
  obtain ⟨D, ⟨es, clock, hb, _⟩, _⟩ := h.map
  have := h.row x hx
  rw [e, hb] at this
  cases this
theorem KeepAt.keep {w w' : World} {pm : Nat} {L : List PlI} {B : PlI → Nat} {key : PlI → Nat → Int} (h : KeepAt w pm L B key) (hk : ∀ k, k < w.heap.size → (k = pm ∨ k ∈ L.map B) → w'.heap[k]? = w.heap[k]?) : KeepAt w' pm L B key := by
  obtain ⟨D, ⟨es, clock, hb, h1, h2, h3⟩, hd⟩ := h.map
  refine ⟨⟨D, ⟨es, clock, by rw [hk pm (Array.getElem?_eq_some_iff.1 hb).1 (.inl rfl)]; exact hb, h1, h2, h3⟩, hd⟩, fun x hx => ?_, h.inj⟩
  have := h.row x hx
  rw [hk _ (Array.getElem?_eq_some_iff.1 this).1 (.inr (List.mem_map_of_mem hx))]
  exact this
theorem KeepAt.below {w w' : World} {pm : Nat} {L : List PlI} {B : PlI → Nat} {key : PlI → Nat → Int} (h : KeepAt w pm L B key) (hb : Below w.heap.size w w') : KeepAt w' pm L B key := h.keep fun k hk _ => hb.block k hk
theorem KeepAt.perm {w : World} {pm : Nat} {L L' : List PlI} {B : PlI → Nat} {key : PlI → Nat → Int} (h : KeepAt w pm L B key) (hp : L.Perm L') : KeepAt w pm L' B key := by
  obtain ⟨D, hm, hd⟩ := h.map
  exact ⟨⟨D, by rw [← hp.length_eq]; exact hm, hd.perm hp⟩, fun x hx => h.row x (hp.mem_iff.2 hx), fun x hx y hy => h.inj x (hp.mem_iff.2 hx) y (hp.mem_iff.2 hy)⟩
theorem KeepAt.look {w : World} {pm : Nat} {L : List PlI} {B : PlI → Nat} {key : PlI → Nat → Int} (h : KeepAt w pm L B key) (x : PlI) (hx : wfP x) (c : Bool) :
    (x ∉ L ∧ (Instr.lookup 107 (.map (some pm)) (encP x) c).run Tryz.prog w = .ok (if c then .tuple #[.pointer none, .bool false] else .pointer none) w) ∨
    (x ∈ L ∧ (Instr.lookup 107 (.map (some pm)) (encP x) c).run Tryz.prog w = .ok (if c then .tuple #[.pointer (some ⟨B x, 0, none⟩), .bool true] else .pointer (some ⟨B x, 0, none⟩)) w) := by
  obtain ⟨D, ⟨es, clock, hb, F, _, rfl⟩, hd⟩ := h.map
  have hz : (zeroValue 134).run Tryz.prog w = .ok (.pointer none) w := by kernel_rfl
  rcases Maps.fit_look c plKeyed Tryz.underlying107 hz hb F (keyOf_encP x hx) with ⟨hrun, _, hat⟩ | ⟨e0, y, _, _, hrun, hR, hat, _⟩
  · refine .inl ⟨fun hm => ?_, hrun⟩
    have h1 := hd.atk x hm (.lit (.bool false))
    rw [hat] at h1
    cases h1
  · by_cases hm : x ∈ L
    · refine .inr ⟨hm, ?_⟩
      have h1 := hd.atk x hm (.lit (.bool false))
      rw [hat] at h1
      obtain ⟨y1, y2⟩ := y
      simp only at h1
      subst h1
      rw [hrun, RP_inv hR]
    · exfalso
      have h1 := has_true_of_atKey hat
      rw [hd.has x hx] at h1
      simp [hm] at h1
theorem KeepAt.add {w w' : World} {pm : Nat} {L : List PlI} {B : PlI → Nat} {key : PlI → Nat → Int} (h : KeepAt w pm L B key) (x : PlI) (hx : wfP x) (hn : x ∉ L) (b : Nat) (k : Nat → Int) (hlen : L.length < 1000)
    (hb : w.heap[b]? = some (.cells (Cells8 k) 51 (0, 0))) (hnb : ∀ y, y ∈ L → B y ≠ b) :
    ∃ w', (Instr.mapUpdate 107 (.map (some pm)) (encP x) (.pointer (some ⟨b, 0, none⟩))).run Tryz.prog w = .ok () w' ∧ KeepAt w' pm (L ++ [x]) (fun y => if y = x then b else B y) (fun y => if y = x then k else key y) ∧ Outside [pm] w w' := by
  obtain ⟨D, hm, hd⟩ := h.map
  have hmax : (1000 : Nat) ≤ maxLen := by decide
  obtain ⟨w', hrun, hown, hg⟩ := hm.update plKeyed Tryz.underlying107 (by omega) (keyOf_encP x hx) (val := .pointer (some ⟨b, 0, none⟩)) (d := .lit (.int .i64 b)) (ps := []) rfl
  have hd' := hd.put x hx hn b
  have ho : Outside [pm] w w' := ⟨hg.os, hg.tape, hg.output, hg.size, fun k hk hk' => hg.block k hk (fun e => hk' (by simp at e; simp [e]))⟩
  have hbp : b ≠ pm := fun e => by
    obtain ⟨es, clock, hb2, _⟩ := hm
    rw [e, hb2] at hb; cases hb
  refine ⟨w', hrun, ⟨⟨_, by rw [List.length_append]; exact hown, hd'⟩, fun y hy => ?_, fun y hy z hz e => ?_⟩, ho⟩
  · by_cases e : y = x
    · subst e
      rw [if_pos rfl, if_pos rfl]
      exact ho.row hb (by simpa using hbp)
    · rcases List.mem_append.1 hy with hy | hy
      · rw [if_neg e, if_neg e]
        exact ho.row (h.row y hy) (by simpa using h.ne y hy)
      · simp at hy; exact absurd hy e
  · have hL : ∀ u, u ∈ L ++ [x] → u ≠ x → u ∈ L := fun u hu hne => by
      rcases List.mem_append.1 hu with hu | hu
      · exact hu
      · simp at hu; exact absurd hu hne
    by_cases e1 : y = x
    · by_cases e2 : z = x
      · rw [e1, e2]
      · simp only [e1, e2, if_true, if_false] at e
        exact absurd e.symm (hnb z (hL z hz e2))
    · by_cases e2 : z = x
      · simp only [e1, e2, if_true, if_false] at e
        exact absurd e (hnb y (hL y hy e1))
      · simp only [e1, e2, if_false] at e
        exact h.inj y (hL y hy e1) z (hL z hz e2) e
theorem KeepAt.drop {w : World} {pm : Nat} {L : List PlI} {B : PlI → Nat} {key : PlI → Nat → Int} (h : KeepAt w pm L B key) (x : PlI) (hx : x ∈ L) (ty : TypeId) :
    ∃ w', (Builtin.delete_ #[107, 123] ty #[.map (some pm), encP x]).run Tryz.prog w = .ok (.tuple #[]) w' ∧ KeepAt w' pm (L.erase x) B key ∧ Outside [pm] w w' := by
  obtain ⟨D, ⟨es, clock, hb, F, hs, rfl⟩, hd⟩ := h.map
  have hw := hd.wf x hx
  obtain ⟨es', hrun, F', hdel, _⟩ := WideElems.fit_delete (ty := ty) (R' := RP) plLaw Tryz.underlying107 hb F (fun _ _ _ hz => hz) (keyOf_encP x hw)
  have hd' := hd.del x hx
  have hgo : ∀ i, i ≠ pm → (ChangeMaps.setBlock w pm (.map es' clock)).heap[i]? = w.heap[i]? := fun i hi => ChangeMaps.heap_setBlock_other hb _ hi
  have hown : (ChangeMaps.setBlock w pm (.map es' clock)).ownsMap Tryz.prog 123 RP pm (Maps.size ((DataW.map ((es.toList.map (WideElems.rg Tryz.prog 123 RP)).foldr DataW.insert [])).del (litP x))) ((DataW.map ((es.toList.map (WideElems.rg Tryz.prog 123 RP)).foldr DataW.insert [])).del (litP x)) := by
    refine tight (n := es'.size) ⟨es', clock, ChangeMaps.heap_setBlock_same hb _, F', Nat.le_refl _, ?_⟩
    rw [hdel]
    rfl
  rw [hd'.size] at hown
  refine ⟨_, hrun, ⟨⟨_, hown, hd'⟩, fun y hy => ?_, fun y hy z hz => h.inj y (List.mem_of_mem_erase hy) z (List.mem_of_mem_erase hz)⟩, ⟨rfl, rfl, rfl, by simp [ChangeMaps.setBlock], fun k hk hk' => hgo k (by simpa using hk')⟩⟩
  rw [hgo _ (h.ne y (List.mem_of_mem_erase hy))]
  exact h.row y (List.mem_of_mem_erase hy)
end Go.Proofs.YtkpebabbnndopaaGreatDoor

/- keep and forget, of the keys that were passed over; the places, in whatever order. -/
namespace Go.Proofs.YtkpebabbnndopaaGreatDoor
open Go.RowKit Go.Maps
set_option linter.unusedVariables false
set_option linter.unusedSimpArgs false

theorem KeepAt.congr {w : World} {pm : Nat} {L : List PlI} {B B' : PlI → Nat} {key key' : PlI → Nat → Int} (h : KeepAt w pm L B key) (hB : ∀ x, x ∈ L → B' x = B x) (hk : ∀ x, x ∈ L → key' x = key x) : KeepAt w pm L B' key' := by
  obtain ⟨D, hm, hd⟩ := h.map
  refine ⟨⟨D, hm, ⟨hd.tidy, hd.has, fun x hx z => by rw [hd.atk x hx, hB x hx], hd.size, hd.nodup, hd.wf⟩⟩, fun x hx => by rw [hB x hx, hk x hx]; exact h.row x hx, fun x hx y hy e => h.inj x hx y hy (by rw [← hB x hx, ← hB y hy]; exact e)⟩
theorem keep_any {w : World} {pm : Nat} {L : List PlI} {B : PlI → Nat} {key : PlI → Nat → Int} (h : KeepAt w pm L B key) (x : PlI) (hx : wfP x) (hn : x ∉ L) (k : Nat → Int) (hlen : L.length < 1000) :
    Calls Tryz.prog 166 #[.map (some pm), encP x, Agg8 k] w fun e w' => e = .returned (.tuple #[]) ∧ KeepAt w' pm (L ++ [x]) (fun y => if y = x then w.heap.size + 1 else B y) (fun y => if y = x then k else key y) ∧ Outside [pm] w w' := by
  obtain ⟨w1, hw1⟩ : ∃ w1, (w.alloc (.cells #[.int .i64 x.1, .int .i64 x.2] 123)).alloc (.cells (Cells8 k) 51) = w1 := ⟨_, rfl⟩
  have b1 : Below w.heap.size w w1 := by rw [← hw1]; exact ((Below.refl _ w).alloc (Nat.le_refl _) _).alloc (by simp) _
  have k1 : w1.heap[w.heap.size + 1]? = some (.cells (Cells8 k) 51 (0, 0)) := by
    have e := (MapKept.heap_alloc (w.alloc (.cells #[.int .i64 x.1, .int .i64 x.2] 123)) (.cells (Cells8 k) 51)).1
    simp only [World.size_alloc] at e
    rw [← hw1]
    exact e
  have hlt : ∀ y, y ∈ L → B y < w.heap.size := fun y hy => (Array.getElem?_eq_some_iff.1 (h.row y hy)).1
  obtain ⟨w2, hrun, hk2, o2⟩ := (h.below b1).add (w' := w1) x hx hn (w.heap.size + 1) k hlen k1 (fun y hy => by have := hlt y hy; omega)
  rw [← hw1] at hrun
  have HK : Hid (KeepAt w2 pm (L ++ [x]) (fun y => if y = x then w.heap.size + 1 else B y) (fun y => if y = x then k else key y) ∧ Outside [pm] w w2) := ⟨hk2, (Outside.ofBelow b1).trans o2 (fun _ hi _ => hi)⟩
  clear hk2 o2 hw1 b1 k1 hlt h
  go_enter Tryz.func166, Tryz.ntmps166
  go_wp2_with fail
  go_end0
  exact ⟨rfl, HK.out.1, HK.out.2⟩
set_option maxHeartbeats 1000000 in
theorem forget_any {w : World} {pm : Nat} {L : List PlI} {B : PlI → Nat} {key : PlI → Nat → Int} (h : KeepAt w pm L B key) (x : PlI) (hx : x ∈ L) :
    Calls Tryz.prog 134 #[.map (some pm), encP x] w fun e w' => e = .returned (.tuple #[]) ∧ KeepAt w' pm (L.erase x) B key ∧ Outside [pm, B x] w w' := by
  have hw := h.wf x hx
  obtain ⟨w1, hw1⟩ : ∃ w1, w.alloc (.cells #[.int .i64 x.1, .int .i64 x.2] 123) = w1 := ⟨_, rfl⟩
  have b1 : Below w.heap.size w w1 := by rw [← hw1]; exact (Below.refl _ w).alloc (Nat.le_refl _) _
  have k1 : w1.heap[w.heap.size]? = some (.cells #[.int .i64 x.1, .int .i64 x.2] 123 (0, 0)) := by rw [← hw1]; exact (MapKept.heap_alloc _ _).1
  have h1 := h.below b1
  have hlk : (Instr.lookup 107 (.map (some pm)) (encP x) false).run Tryz.prog w1 = .ok (.pointer (some ⟨B x, 0, none⟩)) w1 := by
    rcases h1.look x hw false with ⟨hn, _⟩ | ⟨_, hr⟩
    · exact absurd hx hn
    · exact hr
  have hrow := h1.row x hx
  have hcl := fun ty => clear8 (B x) 0 (key x) w1 (fun i hi => by rw [Nat.zero_add, cell_of_row _ _ _ _ _ _ hrow, Cells8_at _ _ hi]) (fun i => by simp [World.frozen?, hrow]) ty 8
  have e2 : w1.setCells (B x) 0 (Cells8 fun _ => 0).toList = w1.setRow (B x) (Cells8 fun _ => 0) := by
    rw [setCells_row _ w1 (B x) 0 (Cells8 (key x)) _ hrow]
    have e3 : putL (Cells8 (key x)) 0 (Cells8 fun _ => 0).toList = Cells8 fun _ => 0 := by simp [putL]
    rw [e3]
  rw [e2] at hcl
  obtain ⟨w2, hw2⟩ : ∃ w2, w1.setRow (B x) (Cells8 fun _ => 0) = w2 := ⟨_, rfl⟩
  have hBx : B x < w.heap.size := (Array.getElem?_eq_some_iff.1 (h.row x hx)).1
  have h2 : KeepAt w2 pm L B (fun y => if y = x then fun _ => 0 else key y) := by
    obtain ⟨D, ⟨es, clock, hb, p1, p2, p3⟩, hd⟩ := h1.map
    refine ⟨⟨D, ⟨es, clock, by rw [← hw2, setRow_other _ _ _ _ (fun e => h1.ne x hx e.symm)]; exact hb, p1, p2, p3⟩, hd⟩, fun y hy => ?_, h1.inj⟩
    by_cases e : y = x
    · subst e
      rw [if_pos rfl, ← hw2]
      exact setRow_heap _ _ _ _ _ _ hrow
    · rw [if_neg e, ← hw2, setRow_other _ _ _ _ (fun e' => e (h1.inj y hy x hx e'))]
      exact h1.row y hy
  have k2 : w2.heap[w.heap.size]? = some (.cells #[.int .i64 x.1, .int .i64 x.2] 123 (0, 0)) := by rw [← hw2, setRow_other _ _ _ _ (by omega)]; exact k1
  have hA2 : ∀ o, w2.cell? ⟨w.heap.size, o, none⟩ = #[Value.int .i64 x.1, .int .i64 x.2][o]? := fun o => cell_of_row _ _ _ _ _ _ k2
  have hdel : ∀ ty, ∃ w3, (Builtin.delete_ #[107, 123] ty #[.map (some pm), encP x]).run Tryz.prog w2 = .ok (.tuple #[]) w3 ∧ KeepAt w3 pm (L.erase x) B (fun y => if y = x then fun _ => 0 else key y) ∧ Outside [pm] w2 w3 := fun ty => h2.drop x hx ty
  have o2 : Outside [pm, B x] w w2 := by rw [← hw2]; exact (Outside.ofBelow b1).setRow _ (fun _ => by simp) _
  have HF : Hid (∀ w3, KeepAt w3 pm (L.erase x) B (fun y => if y = x then fun _ => 0 else key y) → Outside [pm] w2 w3 → KeepAt w3 pm (L.erase x) B key ∧ Outside [pm, B x] w w3) := fun w3 h3 h4 =>
    ⟨h3.congr (fun _ _ => rfl) (fun y hy => by rw [if_neg (fun e => h.nodup.not_mem_erase (e ▸ hy))]), o2.trans h4 (fun i hi _ => by simp at hi; simp [hi])⟩
  rw [hw2] at hcl
  obtain ⟨w3, hrun, p1, p2⟩ := hdel 0
  obtain ⟨q1, q2⟩ := HF.out w3 p1 p2
  have HQ : Hid (KeepAt w3 pm (L.erase x) B key ∧ Outside [pm, B x] w w3) := ⟨q1, q2⟩
  rw [← hw1] at hlk hcl
  clear h h1 h2 hrow e2 o2 HF hdel p1 p2 q1 q2 k2 hBx k1 b1 hw2 hx hw1
  go_enter Tryz.func134, Tryz.ntmps134
  go_wp2_with fail
  go_end0
  exact ⟨rfl, HQ.out.1, HQ.out.2⟩
end Go.Proofs.YtkpebabbnndopaaGreatDoor

/- forgetAll. -/
namespace Go.Proofs.YtkpebabbnndopaaGreatDoor
open Go.RowKit Go.Maps
set_option linter.unusedVariables false
set_option linter.unusedSimpArgs false

theorem ranges_keep {w w' : World} {pm r n cnt : Nat} {D : DataW Unit} {left : Lit → Bool} (h : w.ranges Tryz.prog 123 RP pm r n D left cnt) (h1 : w'.heap[pm]? = w.heap[pm]?) (h2 : w'.heap[r]? = w.heap[r]?) : w'.ranges Tryz.prog 123 RP pm r n D left cnt := by
  obtain ⟨es, clock, since, seen, c0, hb, F, hs, hD, hr, rest⟩ := h
  exact ⟨es, clock, since, seen, c0, h1.trans hb, F, hs, hD, h2.trans hr, rest⟩
/-- the map under way: the places L are kept -/
structure IterAt (w : World) (pm r n : Nat) (D : DataW Unit) (left : Lit → Bool) (cnt : Nat) (L : List PlI) (B : PlI → Nat) (key : PlI → Nat → Int) : Prop where
  rng : w.ranges Tryz.prog 123 RP pm r n D left cnt
  keep : KeepD D L B
  row : ∀ x, x ∈ L → w.heap[B x]? = some (.cells (Cells8 (key x)) 51 (0, 0))
  inj : ∀ x, x ∈ L → ∀ y, y ∈ L → B x = B y → x = y
theorem IterAt.lt {w : World} {pm r n cnt : Nat} {D : DataW Unit} {left : Lit → Bool} {L : List PlI} {B : PlI → Nat} {key : PlI → Nat → Int} (h : IterAt w pm r n D left cnt L B key) : pm < w.heap.size ∧ r < w.heap.size ∧ r ≠ pm := ⟨h.rng.owns.lt, h.rng.lt, h.rng.ne⟩
theorem IterAt.ne {w : World} {pm r n cnt : Nat} {D : DataW Unit} {left : Lit → Bool} {L : List PlI} {B : PlI → Nat} {key : PlI → Nat → Int} (h : IterAt w pm r n D left cnt L B key) (x : PlI) (hx : x ∈ L) : B x ≠ pm ∧ B x ≠ r := by
  have h1 := h.row x hx
  obtain ⟨es, clock, since, seen, c0, hb, F, hs, hD, hr, rest⟩ := h.rng
  refine ⟨fun e => ?_, fun e => ?_⟩
  · rw [e, hb] at h1; cases h1
  · rw [e, hr] at h1; cases h1
theorem IterAt.below {w w' : World} {pm r n cnt : Nat} {D : DataW Unit} {left : Lit → Bool} {L : List PlI} {B : PlI → Nat} {key : PlI → Nat → Int} (h : IterAt w pm r n D left cnt L B key) (hb : Below w.heap.size w w') : IterAt w' pm r n D left cnt L B key :=
  ⟨ranges_keep h.rng (hb.block _ h.lt.1) (hb.block _ h.lt.2.1), h.keep, fun x hx => by rw [hb.block _ (Array.getElem?_eq_some_iff.1 (h.row x hx)).1]; exact h.row x hx, h.inj⟩
theorem IterAt.toKeep {w : World} {pm r n cnt : Nat} {D : DataW Unit} {left : Lit → Bool} {L : List PlI} {B : PlI → Nat} {key : PlI → Nat → Int} (h : IterAt w pm r n D left cnt L B key) : KeepAt w pm L B key :=
  ⟨⟨D, by rw [← h.keep.size]; exact tight h.rng.owns, h.keep⟩, h.row, h.inj⟩
set_option maxHeartbeats 1000000 in
theorem forget_iter {w : World} {pm r n cnt : Nat} {D : DataW Unit} {left : Lit → Bool} {L : List PlI} {B : PlI → Nat} {key : PlI → Nat → Int} (h : IterAt w pm r n D left cnt L B key) (x : PlI) (hx : x ∈ L) :
    Calls Tryz.prog 134 #[.map (some pm), .agg #[.int .i64 x.1, .int .i64 x.2]] w fun e w' => e = .returned (.tuple #[]) ∧ ∃ cnt', cnt' ≤ cnt ∧ IterAt w' pm r n (D.del (litP x)) (fun z => left z && !z.sameKey (litP x)) cnt' (L.erase x) B key ∧ Outside [pm, B x] w w' := by
  have hw := h.keep.wf x hx
  obtain ⟨w1, hw1⟩ : ∃ w1, w.alloc (.cells #[.int .i64 x.1, .int .i64 x.2] 123) = w1 := ⟨_, rfl⟩
  have b1 : Below w.heap.size w w1 := by rw [← hw1]; exact (Below.refl _ w).alloc (Nat.le_refl _) _
  have k1 : w1.heap[w.heap.size]? = some (.cells #[.int .i64 x.1, .int .i64 x.2] 123 (0, 0)) := by rw [← hw1]; exact (MapKept.heap_alloc _ _).1
  have h1 := h.below b1
  have hlk : (Instr.lookup 107 (.map (some pm)) (.agg #[.int .i64 x.1, .int .i64 x.2]) false).run Tryz.prog w1 = .ok (.pointer (some ⟨B x, 0, none⟩)) w1 := by
    rcases h1.toKeep.look x hw false with ⟨hn, _⟩ | ⟨_, hr⟩
    · exact absurd hx hn
    · exact hr
  have hrow := h1.row x hx
  have hcl := fun ty => clear8 (B x) 0 (key x) w1 (fun i hi => by rw [Nat.zero_add, cell_of_row _ _ _ _ _ _ hrow, Cells8_at _ _ hi]) (fun i => by simp [World.frozen?, hrow]) ty 8
  have e2 : w1.setCells (B x) 0 (Cells8 fun _ => 0).toList = w1.setRow (B x) (Cells8 fun _ => 0) := by
    rw [setCells_row _ w1 (B x) 0 (Cells8 (key x)) _ hrow]
    have e3 : putL (Cells8 (key x)) 0 (Cells8 fun _ => 0).toList = Cells8 fun _ => 0 := by simp [putL]
    rw [e3]
  rw [e2] at hcl
  obtain ⟨w2, hw2⟩ : ∃ w2, w1.setRow (B x) (Cells8 fun _ => 0) = w2 := ⟨_, rfl⟩
  have hBx : B x < w.heap.size := (Array.getElem?_eq_some_iff.1 (h.row x hx)).1
  have hne := h1.ne x hx
  have hrng2 : w2.ranges Tryz.prog 123 RP pm r n D left cnt := ranges_keep h1.rng (by rw [← hw2, setRow_other _ _ _ _ (fun e => hne.1 e.symm)]) (by rw [← hw2, setRow_other _ _ _ _ (fun e => hne.2 e.symm)])
  have k2 : w2.heap[w.heap.size]? = some (.cells #[.int .i64 x.1, .int .i64 x.2] 123 (0, 0)) := by rw [← hw2, setRow_other _ _ _ _ (by omega)]; exact k1
  have hA2 : ∀ o, w2.cell? ⟨w.heap.size, o, none⟩ = #[Value.int .i64 x.1, .int .i64 x.2][o]? := fun o => cell_of_row _ _ _ _ _ _ k2
  obtain ⟨w3, cnt', hrun0, hrng3, hcnt, es, ck, es', ck', hmb, hmt⟩ := hrng2.drop (ty := 0) plKeyed Tryz.underlying107 (keyOf_encP x hw)
  have hrun : (Builtin.delete_ #[107, 123] 0 #[.map (some pm), .agg #[.int .i64 x.1, .int .i64 x.2]]).run Tryz.prog w2 = .ok (.tuple #[]) w3 := hrun0
  have o2 : Outside [pm, B x] w w2 := by rw [← hw2]; exact (Outside.ofBelow b1).setRow _ (fun _ => by simp) _
  have hoth : ∀ k, k ≠ pm → w3.heap[k]? = w2.heap[k]? := fun k hk => by rw [hmt]; exact ChangeMaps.heap_setBlock_other hmb _ hk
  have o3 : Outside [pm] w2 w3 := by rw [hmt]; exact ⟨rfl, rfl, rfl, by simp [ChangeMaps.setBlock], fun k _ hk => ChangeMaps.heap_setBlock_other hmb _ (by simpa using hk)⟩
  have HQ : Hid (cnt' ≤ cnt ∧ IterAt w3 pm r n (D.del (litP x)) (fun z => left z && !z.sameKey (litP x)) cnt' (L.erase x) B key ∧ Outside [pm, B x] w w3) := by
    refine ⟨hcnt, ⟨hrng3, h.keep.del x hx, fun y hy => ?_, fun y hy z hz => h.inj y (List.mem_of_mem_erase hy) z (List.mem_of_mem_erase hz)⟩, o2.trans o3 (fun i hi _ => by simp at hi; simp [hi])⟩
    have hyL := List.mem_of_mem_erase hy
    have hyx : y ≠ x := fun e => h.keep.nodup.not_mem_erase (e ▸ hy)
    rw [hoth _ (h1.ne y hyL).1, ← hw2, setRow_other _ _ _ _ (fun e => hyx (h1.inj y hyL x hx e))]
    exact h1.row y hyL
  rw [hw2] at hcl
  rw [← hw1] at hlk hcl
  clear h h1 hrow e2 o2 o3 k2 hBx k1 b1 hw2 hx hw1 hrng2 hrng3 hcnt hmb hmt hoth hrun0 hne hw
  go_enter Tryz.func134, Tryz.ntmps134
  go_wp2_with fail
  go_end0
  exact ⟨rfl, cnt', HQ.out⟩
theorem sameKey_litP {x y : PlI} (hx : wfP x) (hy : wfP y) : (litP y).sameKey (litP x) = decide (y = x) := by
  by_cases e : y = x
  · subst e; rw [WideAt.sameKey_self (litP_key y)]; simp
  · rw [sameKey_ne (fun h => e (litP_inj hy hx h))]; simp [e]
set_option maxHeartbeats 2000000 in
theorem forgetAll_any {w : World} {pm : Nat} {L : List PlI} {B : PlI → Nat} {key : PlI → Nat → Int} (h : KeepAt w pm L B key) :
    Calls Tryz.prog 99 #[.map (some pm)] w fun e w' => e = .returned (.tuple #[]) ∧ Outside (pm :: L.map B) w w' ∧ KeepAt w' pm [] B key := by
  obtain ⟨D, hown, hd⟩ := h.map
  have hBl : ∀ y, y ∈ L → B y < w.heap.size := fun y hy => (Array.getElem?_eq_some_iff.1 (h.row y hy)).1
  obtain ⟨w1, hrg0, hrng, hgr, hsz⟩ := hown.range plKeyed Tryz.underlying107
  have hrg : (Instr.range 107 (.map (some pm))).run Tryz.prog w = .ok (.pointer (some ⟨w.heap.size, 0, none⟩)) w1 := hrg0
  have b1 : Below w.heap.size w w1 := ⟨hgr.os, hgr.tape, hgr.output, hgr.size, fun k hk => hgr.block k hk (by simp)⟩
  have hI1 : IterAt w1 pm w.heap.size L.length D (Maps.has D) L.length L B key := ⟨by have := hrng; rw [hd.size] at this; exact this, hd, fun x hx => by rw [b1.block _ (hBl x hx)]; exact h.row x hx, h.inj⟩
  have HFG : Hid (∀ W n cnt D left L' x, IterAt W pm w.heap.size n D left cnt L' B key → x ∈ L' → Calls Tryz.prog 134 #[.map (some pm), .agg #[.int .i64 x.1, .int .i64 x.2]] W fun e w' => e = .returned (.tuple #[]) ∧ ∃ cnt', cnt' ≤ cnt ∧ IterAt w' pm w.heap.size n (D.del (litP x)) (fun z => left z && !z.sameKey (litP x)) cnt' (L'.erase x) B key ∧ Outside [pm, B x] W w') := fun W n cnt D left L' x hW hx => forget_iter hW x hx
  have H1 : Hid (IterAt w1 pm w.heap.size L.length D (Maps.has D) L.length L B key ∧ Below w.heap.size w w1 ∧ ∀ x, wfP x → Maps.has D (litP x) = decide (x ∈ L)) := ⟨hI1, b1, hd.has⟩
  have HBL : Hid (∀ y, y ∈ L → B y < w.heap.size) := hBl
  clear h hown hd hBl hrng hgr hsz b1 hI1 hrg0
  go_enter Tryz.func99, Tryz.ntmps99
  go_wp2_with fail
  clear hrg
  go_loopg [] L.length (fun k wr => ∃ D left L', Hid (IterAt wr pm w.heap.size L.length D left k L' B key ∧ Outside (pm :: L.map B) w wr ∧ (∀ x, x ∈ L' → x ∈ L) ∧ ∀ x, wfP x → left (litP x) = decide (x ∈ L')))
  case atStart => exact ⟨D, _, L, H1.out.1, Outside.ofBelow H1.out.2.1, fun _ hx => hx, H1.out.2.2⟩
  case round =>
    obtain ⟨D', left, L', HI⟩ := hrel
    obtain ⟨i1, i2, i3, i4⟩ := HI.out
    rcases i1.rng.next plKeyed 0 with ⟨_, hl, hnx⟩ | ⟨kv, v, kl, y, w2, cnt2, hkey, hlk, hv, hat, hnx, hrg2, hlt, hgr, hsz, hen⟩
    · have HK : Hid (KeepAt wr pm [] B key ∧ Outside (pm :: L.map B) w wr) := by
        refine ⟨?_, i2⟩
        have hnil : L' = [] := List.eq_nil_iff_forall_not_mem.2 fun x hx => by
          have := i4 x (i1.keep.wf x hx)
          rw [hl] at this
          simp [hx] at this
        have := i1.toKeep
        rw [hnil] at this
        exact this
      clear i1 i2 i3 i4 hl HI HFG
      go_wp2_with fail
      go_end0
      exact ⟨rfl, HK.out.2, HK.out.1⟩
    · obtain ⟨x, rfl, rfl, hwf⟩ := keyOf_P_inv hkey
      have hxL : x ∈ L' := by
        have := i4 x hwf
        rw [hlk] at this
        simpa using this.symm
      have hz := i1.lt
      obtain ⟨w3, hw3⟩ : ∃ w3, w2.alloc (.cells #[.int .i64 x.1, .int .i64 x.2] 123) = w3 := ⟨_, rfl⟩
      have b3 : Below w2.heap.size w2 w3 := by rw [← hw3]; exact (Below.refl _ w2).alloc (Nat.le_refl _) _
      have k3 : w3.heap[w2.heap.size]? = some (.cells #[.int .i64 x.1, .int .i64 x.2] 123 (0, 0)) := by rw [← hw3]; exact (MapKept.heap_alloc _ _).1
      have hA3 : ∀ o, w3.cell? ⟨w2.heap.size, o, none⟩ = #[Value.int .i64 x.1, .int .i64 x.2][o]? := fun o => cell_of_row _ _ _ _ _ _ k3
      have hI2 : IterAt w2 pm w.heap.size L.length D' (fun z => left z && !z.sameKey (litP x)) cnt2 L' B key := ⟨hrg2, i1.keep, fun u hu => by rw [hgr.block _ (Array.getElem?_eq_some_iff.1 (i1.row u hu)).1 (by simpa using (i1.ne u hu).2)]; exact i1.row u hu, i1.inj⟩
      have o2 : Outside (pm :: L.map B) w w2 := i2.trans (S' := [w.heap.size]) ⟨hgr.os, hgr.tape, hgr.output, hgr.size, fun k hk hk' => hgr.block k hk (by simpa using hk')⟩ (fun i hi hl => by simp at hi; omega)
      have HF : Hid (Calls Tryz.prog 134 #[.map (some pm), .agg #[.int .i64 x.1, .int .i64 x.2]] w3 fun e w' => e = .returned (.tuple #[]) ∧ ∃ cnt', cnt' < gk ∧ ∃ D left L', Hid (IterAt w' pm w.heap.size L.length D left cnt' L' B key ∧ Outside (pm :: L.map B) w w' ∧ (∀ x, x ∈ L' → x ∈ L) ∧ ∀ x, wfP x → left (litP x) = decide (x ∈ L'))) := by
        refine (HFG.out w3 L.length cnt2 D' _ L' x (hI2.below b3) hxL).mono fun e w' ⟨h1, cnt', h2, h3, h4⟩ => ⟨h1, cnt', by omega, _, _, _, h3, (o2.below b3).trans h4 (fun i hi _ => ?_), fun u hu => i3 u (List.mem_of_mem_erase hu), fun u hu => ?_⟩
        · simp only [List.mem_cons, List.not_mem_nil, or_false] at hi ⊢
          rcases hi with e | e
          · exact .inl e
          · exact .inr (List.mem_map.2 ⟨x, i3 x hxL, e.symm⟩)
        · show (((left (litP u) && !(litP u).sameKey (litP x)) && !(litP u).sameKey (litP x))) = _
          rw [i4 u hu, sameKey_litP hwf hu]
          by_cases e : u = x
          · subst e
            simp [i1.keep.nodup.not_mem_erase]
          · simp [e, List.mem_erase_of_ne e]
      have HW3 : Hid (w2.alloc (.cells #[.int .i64 x.1, .int .i64 x.2] 123) = w3) := hw3
      have hnx2 : (Instr.next (.pointer (some ⟨w.heap.size, 0, none⟩)) false 0).run Tryz.prog wr = .ok (.tuple #[.bool true, .agg #[.int .i64 x.1, .int .i64 x.2], v]) w2 := hnx
      have hen2 : (Instr.entry (.pointer (some ⟨w.heap.size, 0, none⟩))).run Tryz.prog w2 = .ok (.tuple #[.agg #[.int .i64 x.1, .int .i64 x.2], v]) w2 := hen
      clear i1 i2 i3 i4 HI HFG hkey hlk hv hat hnx hrg2 hlt hgr hsz hen hwf hxL hz hw3 b3 k3 hI2 o2
      go_upto_region 3 with fail
      rw [HW3.out]
      go_wp2_with fail
      refine HF.out.mono ?_
      rintro e w4 ⟨rfl, cnt4, hc4, D4, left4, L4, hx4⟩
      clear HF HW3 hnx2 hen2 hA3
      go_wp2_with fail
      go_roundg cnt4
      case measure => omega
      case rel => exact ⟨D4, left4, L4, hx4⟩
end Go.Proofs.YtkpebabbnndopaaGreatDoor
