/- errors.as at a fault that is wrapped; errors.As; numberOf. -/
import Derived.Test.YtpfijaclghdcdaaGreatDoorAs2
import Derived.WalkKit
import Derived.LaidEql
import Derived.Stop.Asserts
import Derived.RowKitTokens
import Derived.Deep.WholeRow
namespace Go.Proofs.YtpfijaclghdcdaaGreatDoor
open Go.RowKit Go.Extern.Stop Go.Stop Go.Extern
set_option linter.unusedVariables false
set_option linter.unusedSimpArgs false

set_option maxHeartbeats 4000000 in
theorem as71_frame (m g e : Int) (s : ByteArray) (tb va : Nat) (old : Array Value) (ho : old.size = 2) (w : World) (hva : w.cell? ⟨va, 0, none⟩ = some (.pointer (some ⟨tb, 0, none⟩))) (hvl : va < w.heap.size) (ht : w.heap[tb]? = some (.cells old 121 (0, 0))) :
    Calls Tryz.prog 71 #[frameV m g e s, .iface 123 (.pointer (some ⟨tb, 0, none⟩)), .agg (valT va), typE] w fun ev w' => ev = .returned (.bool true) ∧ Outside [tb] w w' ∧ w'.heap[tb]? = some (.cells #[.int .i64 e, .string s] 121 (0, 0)) := by
  have h68 := @run_callFunc_extern Tryz.prog 68 _ (fun args => ReflectliteValue.unpack (args.getD 0 (.tuple #[]))) Tryz.func68 (by kernel_rfl) (by kernel_rfl) (by kernel_rfl) (by kernel_rfl)
  have h99 := @run_callFunc_extern Tryz.prog 99 _ ReflectliteType.typeOf Tryz.func99 (by kernel_rfl) (by kernel_rfl) (by kernel_rfl) (by kernel_rfl)
  have h171 := @run_callFunc_extern Tryz.prog 171 _ (ReflectliteType.relation "AssignableTo" ReflectliteType.assignableTo) Tryz.func171 (by kernel_rfl) (by kernel_rfl) (by kernel_rfl) (by kernel_rfl)
  have h100 := @run_callFunc_extern Tryz.prog 100 _ (ReflectliteValue.method (ReflectliteValue.valueError "reflectlite.Value.Elem" 0) ReflectliteValue.elem) Tryz.func100 (by kernel_rfl) (by kernel_rfl) (by kernel_rfl) (by kernel_rfl)
  have h101 := @run_callFunc_extern Tryz.prog 101 _ ReflectliteValue.set Tryz.func101 (by kernel_rfl) (by kernel_rfl) (by kernel_rfl) (by kernel_rfl)
  have tO := fa_typeOfE
  have tF := fa_typeOfF
  have mA := fa_mAss
  have a25 := fa_assE
  have aF := fa_assF
  have vE := fa_valueOfE
  have nA := fun v w xT => fa_noAs _ v w xT rfl
  have uW := fa_unw
  have mU := fa_mUnw
  have htl : tb < w.heap.size := (Array.getElem?_eq_some_iff.1 ht).1
  have el := fa_elemV ⟨va, 0, none⟩ ⟨tb, 0, none⟩ ((w.alloc (.cells (valT va) 159)).alloc (.cells #[.int .i64 m, .int .i64 g, faultV e s] 137)) (by rw [World.cell?_alloc_lt _ _ ⟨va, 0, none⟩ (by simp; omega), World.cell?_alloc_lt _ _ ⟨va, 0, none⟩ hvl]; exact hva)
  have hT2 : (((w.alloc (.cells (valT va) 159)).alloc (.cells #[.int .i64 m, .int .i64 g, faultV e s] 137)).alloc (.cells #[.int .i64 e, .string s] 121)).heap[tb]? = some (.cells old 121 (0, 0)) := by
    rw [Below.heap_alloc _ _ _ (by simp; omega), Below.heap_alloc _ _ _ (by simp; omega), Below.heap_alloc _ _ _ htl]; exact ht
  have st := fa_set tb (w.heap.size + 1 + 1) old ho e s (((w.alloc (.cells (valT va) 159)).alloc (.cells #[.int .i64 m, .int .i64 g, faultV e s] 137)).alloc (.cells #[.int .i64 e, .string s] 121)) 121 121 (0, 0)
    (by have := (MapKept.heap_alloc ((w.alloc (.cells (valT va) 159)).alloc (.cells #[.int .i64 m, .int .i64 g, faultV e s] 137)) (.cells #[.int .i64 e, .string s] 121)).1; simpa only [World.size_alloc] using this)
    hT2
  have HU : Hid (∀ W, Calls Tryz.prog 166 #[.agg #[.int .i64 m, .int .i64 g, faultV e s]] W fun ev w' => ev = .returned (faultV e s) ∧ w' = W.alloc (.cells #[.int .i64 m, .int .i64 g, faultV e s] 137)) := fun W => unwrap_any m g e s W
  go_enter Tryz.func71, Tryz.ntmps71
  go_wp2
  refine wp_loop_rounds 2 ?_
  rw [rounds_succ]
  go_wp2_with (go_at_call 166; refine (HU.out _).mono ?_; rintro e w' ⟨rfl, rfl⟩)
  rw [rounds_succ]
  go_wp2
  go_ret
  refine ⟨rfl, ?_, ?_⟩
  · exact ((((Outside.refl _ w).alloc _).alloc _).alloc _).setRow _ (fun _ => List.mem_cons_self) _
  · exact setRow_heap _ _ _ _ _ _ hT2
set_option maxHeartbeats 4000000 in
/-- errors.As at a target of a fault's kind, for whatever errors.as answers true to -/
theorem As_of (ev : Value) (hev : ∃ t v, ev = .iface t v) (e : Int) (s : ByteArray) (tb : Nat) (old : Array Value) (ho : old.size = 2)
    (H : ∀ va W, W.cell? ⟨va, 0, none⟩ = some (.pointer (some ⟨tb, 0, none⟩)) → va < W.heap.size → W.heap[tb]? = some (.cells old 121 (0, 0)) → Calls Tryz.prog 71 #[ev, .iface 123 (.pointer (some ⟨tb, 0, none⟩)), .agg (valT va), typE] W fun x w' => x = .returned (.bool true) ∧ Outside [tb] W w' ∧ w'.heap[tb]? = some (.cells #[.int .i64 e, .string s] 121 (0, 0)))
    (w : World) (hg : Glob w) (ht : w.heap[tb]? = some (.cells old 121 (0, 0))) :
    Calls Tryz.prog 48 #[ev, .iface 123 (.pointer (some ⟨tb, 0, none⟩))] w fun x w' => x = .returned (.bool true) ∧ Outside [tb] w w' ∧ w'.heap[tb]? = some (.cells #[.int .i64 e, .string s] 121 (0, 0)) := by
  have h6 := @run_callFunc_extern Tryz.prog 68 _ (fun args => ReflectliteValue.unpack (args.getD 0 (.tuple #[]))) Tryz.func68 (by kernel_rfl) (by kernel_rfl) (by kernel_rfl) (by kernel_rfl)
  have h7 := @run_callFunc_extern Tryz.prog 69 _ (ReflectliteValue.methodAny (ReflectliteValue.valueError "reflectlite.Value.Type" 0) (fun t _ _ _ => ReflectliteType.toType t)) Tryz.func69 (by kernel_rfl) (by kernel_rfl) (by kernel_rfl) (by kernel_rfl)
  have h8 := @run_callFunc_extern Tryz.prog 70 _ (ReflectliteValue.method (ReflectliteValue.valueError "reflectlite.Value.IsNil" 0) ReflectliteValue.isNil) Tryz.func70 (by kernel_rfl) (by kernel_rfl) (by kernel_rfl) (by kernel_rfl)
  have h27 := @run_callFunc_extern Tryz.prog 161 _ (ReflectliteType.abiMethod fun t => do pure (.int .u8 (← Rtype.kind t))) Tryz.func161 (by kernel_rfl) (by kernel_rfl) (by kernel_rfl) (by kernel_rfl)
  have h37 := @run_callFunc_extern Tryz.prog 173 _ (ReflectliteType.method ReflectliteType.elem) Tryz.func173 (by kernel_rfl) (by kernel_rfl) (by kernel_rfl) (by kernel_rfl)
  have h38 := @run_callFunc_extern Tryz.prog 174 _ (ReflectliteType.relation "Implements" ReflectliteType.implements_) Tryz.func174 (by kernel_rfl) (by kernel_rfl) (by kernel_rfl) (by kernel_rfl)
  have f6 := fa_valueOfT
  have f7 := fa_typeT
  have mK := fa_mKind
  have mE := fa_mElem
  have mI := fa_mImpl
  have k27 := fa_kindT
  have k25 := fa_kindE
  have e27 := fa_elemT
  have i25 := fa_implE
  have htl : tb < w.heap.size := (Array.getElem?_eq_some_iff.1 ht).1
  have hlt : 0 < w.heap.size := by omega
  obtain ⟨et, ev', rfl⟩ := hev
  have n8 := fa_isNilT ⟨w.heap.size, 0, none⟩ ⟨tb, 0, none⟩ ((w.alloc (.cells #[.pointer (some ⟨tb, 0, none⟩)] 123)).alloc (.cells (valT w.heap.size) 159)) (by simp)
  have hg2 : ((w.alloc (.cells #[.pointer (some ⟨tb, 0, none⟩)] 123)).alloc (.cells (valT w.heap.size) 159)).cell? ⟨0, 0, none⟩ = some errT := by
    rw [World.cell?_alloc_lt _ _ ⟨0, 0, none⟩ (by simp), World.cell?_alloc_lt _ _ ⟨0, 0, none⟩ hlt]; exact hg
  have HH := H w.heap.size ((w.alloc (.cells #[.pointer (some ⟨tb, 0, none⟩)] 123)).alloc (.cells (valT w.heap.size) 159)) (by rw [World.cell?_alloc_lt _ _ ⟨w.heap.size, 0, none⟩ (by simp)]; simp) (by simp; omega) (by rw [Below.heap_alloc _ _ _ (by simp; omega), Below.heap_alloc _ _ _ htl]; exact ht)
  clear H hg
  have HC : Hid (Calls Tryz.prog 71 #[.iface et ev', .iface 123 (.pointer (some ⟨tb, 0, none⟩)), .agg (valT w.heap.size), typE] ((w.alloc (.cells #[.pointer (some ⟨tb, 0, none⟩)] 123)).alloc (.cells (valT w.heap.size) 159)) fun x w' => x = .returned (.bool true) ∧ Outside [tb] ((w.alloc (.cells #[.pointer (some ⟨tb, 0, none⟩)] 123)).alloc (.cells (valT w.heap.size) 159)) w' ∧ w'.heap[tb]? = some (.cells #[.int .i64 e, .string s] 121 (0, 0))) := HH
  clear HH
  go_enter Tryz.func48, Tryz.ntmps48
  go_wp2_with (go_at_call 71; refine HC.out.mono ?_; rintro e w' ⟨rfl, ho1, hr1⟩)
  all_goals
    go_ret
    exact ⟨rfl, (((Outside.refl _ w).alloc _).alloc _).trans ho1 (fun _ hi _ => hi), hr1⟩
end Go.Proofs.YtpfijaclghdcdaaGreatDoor
