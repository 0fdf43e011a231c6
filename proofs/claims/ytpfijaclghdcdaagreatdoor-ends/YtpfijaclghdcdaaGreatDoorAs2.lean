/- errors.as and errors.As at a fault, and at one that is wrapped; numberOf. -/
import Derived.Test.YtpfijaclghdcdaaGreatDoorAs
import Derived.Test.YtpfijaclghdcdaaGreatDoorOut
import Derived.WalkKit
import Derived.LaidEql
import Derived.Stop.Asserts
import Derived.RowKitTokens
import Derived.Deep.WholeRow
import Derived.Laws.Tables
namespace Go.Proofs.YtpfijaclghdcdaaGreatDoor
open Go.RowKit Go.Extern.Stop Go.Stop Go.Extern
set_option linter.unusedVariables false
set_option linter.unusedSimpArgs false

theorem rls (v x : Value) : ReflectliteValue.set #[v, x] = (do
    let (some (dst, a, fl), some (src, b, _)) := (← ReflectliteValue.parts v, ← ReflectliteValue.parts x)
      | unsupported (.noEntry "extern/(internal/reflectlite.Value).Set.zeroValue")
    if fl / ReflectliteValue.flagAddr % 2 == 0 then unsupported (.noEntry "extern/(internal/reflectlite.Value).Set.unaddressable")
    let val ← loadVar src b
    if ← Rtype.directlyAssignable dst src then storeVar dst a val
    else if ← Rtype.implements dst src then
      if (← Rtype.kind src) == 20 then
        match val with
        | .nilIface => unsupported (.noEntry "extern/reflectlite: a nil value of one interface type handed on as a value of another")
        | _ => storeVar dst a val
      else storeVar dst a (.iface src val)
    else panicString ("reflectlite.Set: value of type " ++ (← Rtype.spelt src) ++ " is not assignable to type " ++ (← Rtype.spelt dst))
    pure (.tuple #[])) := rfl
theorem fa_partsEa (a : Addr) (w : World) : (ReflectliteValue.parts (.agg #[.pointer (some ⟨1, 121, none⟩), .pointer (some a), .int .u64 409])).run Tryz.prog w = .ok (some (121, a, 409)) w := by kernel_rfl
theorem fa_partsE (a : Addr) (w : World) : (ReflectliteValue.parts (.agg #[.pointer (some ⟨1, 121, none⟩), .pointer (some a), .int .u64 153])).run Tryz.prog w = .ok (some (121, a, 153)) w := by kernel_rfl
theorem fa_direct (w : World) : (Rtype.directlyAssignable 121 121).run Tryz.prog w = .ok true w := by kernel_rfl
theorem fa_set (tb sb : Nat) (old : Array Value) (ho : old.size = 2) (e : Int) (s : ByteArray) (W : World) (t1 t2 : TypeId) (fr : Nat × Nat) (hs : W.heap[sb]? = some (.cells #[.int .i64 e, .string s] t1 fr)) (ht : W.heap[tb]? = some (.cells old t2 (0, 0))) :
    (ReflectliteValue.set #[.agg #[.pointer (some ⟨1, 121, none⟩), .pointer (some ⟨tb, 0, none⟩), .int .u64 409], .agg #[.pointer (some ⟨1, 121, none⟩), .pointer (some ⟨sb, 0, none⟩), .int .u64 153]]).run Tryz.prog W
      = .ok (.tuple #[]) (W.setRow tb #[.int .i64 e, .string s]) := by
  rw [rls]
  simp only [Sem.run_bind, fa_partsEa, fa_partsE, Result.andThen]
  have h1 := run_loadVar_row (P := Tryz.prog) W sb t1 121 _ fr _ hs Tryz.underlying121 rfl (by kernel_rfl)
  have h2 := run_storeVar_row (P := Tryz.prog) W tb t2 121 old #[.int .i64 e, .string s] ht (by kernel_rfl) (by rw [ho]; rfl) (by simp [Value.oneCell'])
  simp [ReflectliteValue.flagAddr, h1, h2, fa_direct, Result.andThen]
theorem fa_noAs (t : TypeId) (v : Value) (w : World) (xT : TypeId) (ht : t = 137) : (Instr.typeAssert (.iface t v) xT 202 true).run Tryz.prog w = .ok (.tuple #[.nilIface, .bool false]) w := by
  subst ht
  exact run_typeAssert_lacksB Tryz.underlying202 (by kernel_rfl) (by kernel_rfl) v xT w
theorem fa_unw (v : Value) (w : World) (xT : TypeId) : (Instr.typeAssert (.iface 137 v) xT 205 true).run Tryz.prog w = .ok (.tuple #[.iface 137 v, .bool true]) w :=
  run_typeAssert_hasB Tryz.underlying205 (by kernel_rfl) v xT w
theorem fa_mUnw (v : Value) (w : World) : (Go.method 387 137 v "Unwrap").run Tryz.prog w = .ok (166, v) w := by kernel_rfl
theorem unwrap_any (m g e : Int) (s : ByteArray) (w : World) :
    Calls Tryz.prog 166 #[.agg #[.int .i64 m, .int .i64 g, faultV e s]] w fun ev w' => ev = .returned (faultV e s) ∧ w' = w.alloc (.cells #[.int .i64 m, .int .i64 g, faultV e s] 137) := by
  go_enter Tryz.func166, Tryz.ntmps166
  go_wp2_with fail
  go_ret
  exact ⟨rfl, rfl⟩
abbrev valT (va : Nat) : Array Value := #[.pointer (some ⟨1, 123, none⟩), .pointer (some ⟨va, 0, none⟩), .int .u64 150]
abbrev typE : Value := .iface 197 (.agg #[.pointer (some ⟨1, 121, none⟩)])

set_option maxHeartbeats 4000000 in
theorem as71_fault (e : Int) (s : ByteArray) (tb va : Nat) (old : Array Value) (ho : old.size = 2) (w : World) (hva : w.cell? ⟨va, 0, none⟩ = some (.pointer (some ⟨tb, 0, none⟩))) (hvl : va < w.heap.size) (ht : w.heap[tb]? = some (.cells old 121 (0, 0))) :
    Calls Tryz.prog 71 #[faultV e s, .iface 123 (.pointer (some ⟨tb, 0, none⟩)), .agg (valT va), typE] w fun ev w' => ev = .returned (.bool true) ∧ Outside [tb] w w' ∧ w'.heap[tb]? = some (.cells #[.int .i64 e, .string s] 121 (0, 0)) := by
  have h68 := @run_callFunc_extern Tryz.prog 68 _ (fun args => ReflectliteValue.unpack (args.getD 0 (.tuple #[]))) Tryz.func68 (by kernel_rfl) (by kernel_rfl) (by kernel_rfl) (by kernel_rfl)
  have h99 := @run_callFunc_extern Tryz.prog 99 _ ReflectliteType.typeOf Tryz.func99 (by kernel_rfl) (by kernel_rfl) (by kernel_rfl) (by kernel_rfl)
  have h171 := @run_callFunc_extern Tryz.prog 171 _ (ReflectliteType.relation "AssignableTo" ReflectliteType.assignableTo) Tryz.func171 (by kernel_rfl) (by kernel_rfl) (by kernel_rfl) (by kernel_rfl)
  have h100 := @run_callFunc_extern Tryz.prog 100 _ (ReflectliteValue.method (ReflectliteValue.valueError "reflectlite.Value.Elem" 0) ReflectliteValue.elem) Tryz.func100 (by kernel_rfl) (by kernel_rfl) (by kernel_rfl) (by kernel_rfl)
  have h101 := @run_callFunc_extern Tryz.prog 101 _ ReflectliteValue.set Tryz.func101 (by kernel_rfl) (by kernel_rfl) (by kernel_rfl) (by kernel_rfl)
  have tO := fa_typeOfE
  have mA := fa_mAss
  have a25 := fa_assE
  have vE := fa_valueOfE
  have el := fa_elemV ⟨va, 0, none⟩ ⟨tb, 0, none⟩ (w.alloc (.cells (valT va) 159)) (by rw [World.cell?_alloc_lt _ _ ⟨va, 0, none⟩ hvl]; exact hva)
  have htl : tb < w.heap.size := (Array.getElem?_eq_some_iff.1 ht).1
  have st := fa_set tb (w.heap.size + 1) old ho e s ((w.alloc (.cells (valT va) 159)).alloc (.cells #[.int .i64 e, .string s] 121)) 121 121 (0, 0)
    (by have := (MapKept.heap_alloc (w.alloc (.cells (valT va) 159)) (.cells #[.int .i64 e, .string s] 121)).1; simpa only [World.size_alloc] using this)
    (by rw [Below.heap_alloc _ _ _ (by simp; omega), Below.heap_alloc _ _ _ htl]; exact ht)
  go_enter Tryz.func71, Tryz.ntmps71
  go_wp2
  refine wp_loop_rounds 1 ?_
  rw [rounds_succ]
  go_wp2
  go_ret
  refine ⟨rfl, ?_, ?_⟩
  · exact (((Outside.refl _ w).alloc _).alloc _).setRow _ (fun _ => List.mem_cons_self) _
  · exact setRow_heap _ _ _ _ _ _ (by rw [Below.heap_alloc _ _ _ (by simp; omega), Below.heap_alloc _ _ _ htl]; exact ht)
end Go.Proofs.YtpfijaclghdcdaaGreatDoor
