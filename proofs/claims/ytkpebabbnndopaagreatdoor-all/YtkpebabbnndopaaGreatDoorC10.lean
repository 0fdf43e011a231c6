import Derived.Test.YtkpebabbnndopaaGreatDoorC09
import Derived.Test.YtkpebabbnndopaaGreatDoorC01
import Derived.WalkKit
import Derived.LaidEql
import Derived.Stop.Asserts
import Derived.RowKitTokens
import Derived.Deep.WholeRow
import Derived.Laws.Tables
/- errors.as and errors.As at a fault, and at one that is wrapped; numberOf. -/
namespace Go.Proofs.YtkpebabbnndopaaGreatDoor
open Go.RowKit Go.Extern.Stop Go.Stop Go.Extern
set_option linter.unusedVariables false
set_option linter.unusedSimpArgs false

theorem rls (v x : Value) : ReflectliteValue.set #[v, x] = (do
    let (some (dst, a, fl), some (src, b, _)) := (← ReflectliteValue.parts v, ← ReflectliteValue.parts x)
      | unsupported (.noEntry "extern/(internal/reflectlite.Value).Set.zeroValue")
    if fl / ReflectliteValue.flagAddr % 2 == 0 then unsupported (.noEntry "extern/(internal/reflectlite.Value).Set.unaddressable")
    let val ← loadVar src b
    if ← Rtype.directlyAssignable dst src then storeVar dst a val
    else if ← Rtype.implements dst src then
      if (← Rtype.kind src) == 20 then
        match val with
        | .nilIface => unsupported (.noEntry "extern/reflectlite: a nil value of one interface type handed on as a value of another")
        | _ => storeVar dst a val
      else storeVar dst a (.iface src val)
    else panicString ("reflectlite.Set: value of type " ++ (← Rtype.spelt src) ++ " is not assignable to type " ++ (← Rtype.spelt dst))
    pure (.tuple #[])) := rfl
theorem fa_partsEa (a : Addr) (w : World) : (ReflectliteValue.parts (.agg #[.pointer (some ⟨1, 164, none⟩), .pointer (some a), .int .u64 409])).run Tryz.prog w = .ok (some (164, a, 409)) w := by kernel_rfl
theorem fa_partsE (a : Addr) (w : World) : (ReflectliteValue.parts (.agg #[.pointer (some ⟨1, 164, none⟩), .pointer (some a), .int .u64 153])).run Tryz.prog w = .ok (some (164, a, 153)) w := by kernel_rfl
theorem fa_direct (w : World) : (Rtype.directlyAssignable 164 164).run Tryz.prog w = .ok true w := by kernel_rfl
theorem fa_set (tb sb : Nat) (old : Array Value) (ho : old.size = 2) (e : Int) (s : ByteArray) (W : World) (t1 t2 : TypeId) (fr : Nat × Nat) (hs : W.heap[sb]? = some (.cells #[.int .i64 e, .string s] t1 fr)) (ht : W.heap[tb]? = some (.cells old t2 (0, 0))) :
    (ReflectliteValue.set #[.agg #[.pointer (some ⟨1, 164, none⟩), .pointer (some ⟨tb, 0, none⟩), .int .u64 409], .agg #[.pointer (some ⟨1, 164, none⟩), .pointer (some ⟨sb, 0, none⟩), .int .u64 153]]).run Tryz.prog W
      = .ok (.tuple #[]) (W.setRow tb #[.int .i64 e, .string s]) := by
  rw [rls]
  simp only [Sem.run_bind, fa_partsEa, fa_partsE, Result.andThen]
  have h1 := run_loadVar_row (P := Tryz.prog) W sb t1 164 _ fr _ hs Tryz.underlying164 rfl (by kernel_rfl)
  have h2 := run_storeVar_row (P := Tryz.prog) W tb t2 164 old #[.int .i64 e, .string s] ht (by kernel_rfl) (by rw [ho]; rfl) (by simp [Value.oneCell'])
  simp [ReflectliteValue.flagAddr, h1, h2, fa_direct, Result.andThen]
theorem fa_noAs (t : TypeId) (v : Value) (w : World) (xT : TypeId) (ht : t = 177) : (Instr.typeAssert (.iface t v) xT 248 true).run Tryz.prog w = .ok (.tuple #[.nilIface, .bool false]) w := by
  subst ht
  exact run_typeAssert_lacksB Tryz.underlying248 (by kernel_rfl) (by kernel_rfl) v xT w
theorem fa_unw (v : Value) (w : World) (xT : TypeId) : (Instr.typeAssert (.iface 177 v) xT 251 true).run Tryz.prog w = .ok (.tuple #[.iface 177 v, .bool true]) w :=
  run_typeAssert_hasB Tryz.underlying251 (by kernel_rfl) v xT w
theorem fa_mUnw (v : Value) (w : World) : (Go.method 422 177 v "Unwrap").run Tryz.prog w = .ok (207, v) w := by kernel_rfl
theorem unwrap_any (m g e : Int) (s : ByteArray) (w : World) :
    Calls Tryz.prog 207 #[.agg #[.int .i64 m, .int .i64 g, faultV e s]] w fun ev w' => ev = .returned (faultV e s) ∧ w' = w.alloc (.cells #[.int .i64 m, .int .i64 g, faultV e s] 177) := by
  go_enter Tryz.func207, Tryz.ntmps207
  go_wp2_with fail
  go_ret
  exact ⟨rfl, rfl⟩
abbrev valT (va : Nat) : Array Value := #[.pointer (some ⟨1, 166, none⟩), .pointer (some ⟨va, 0, none⟩), .int .u64 150]
abbrev typE : Value := .iface 243 (.agg #[.pointer (some ⟨1, 164, none⟩)])

set_option maxHeartbeats 4000000 in
theorem as71_fault (e : Int) (s : ByteArray) (tb va : Nat) (old : Array Value) (ho : old.size = 2) (w : World) (hva : w.cell? ⟨va, 0, none⟩ = some (.pointer (some ⟨tb, 0, none⟩))) (hvl : va < w.heap.size) (ht : w.heap[tb]? = some (.cells old 164 (0, 0))) :
    Calls Tryz.prog 122 #[faultV e s, .iface 166 (.pointer (some ⟨tb, 0, none⟩)), .agg (valT va), typE] w fun ev w' => ev = .returned (.bool true) ∧ Outside [tb] w w' ∧ w'.heap[tb]? = some (.cells #[.int .i64 e, .string s] 164 (0, 0)) := by
  have h68 := @run_callFunc_extern Tryz.prog 119 _ (fun args => ReflectliteValue.unpack (args.getD 0 (.tuple #[]))) Tryz.func119 (by kernel_rfl) (by kernel_rfl) (by kernel_rfl) (by kernel_rfl)
  have h99 := @run_callFunc_extern Tryz.prog 148 _ ReflectliteType.typeOf Tryz.func148 (by kernel_rfl) (by kernel_rfl) (by kernel_rfl) (by kernel_rfl)
  have h171 := @run_callFunc_extern Tryz.prog 212 _ (ReflectliteType.relation "AssignableTo" ReflectliteType.assignableTo) Tryz.func212 (by kernel_rfl) (by kernel_rfl) (by kernel_rfl) (by kernel_rfl)
  have h100 := @run_callFunc_extern Tryz.prog 149 _ (ReflectliteValue.method (ReflectliteValue.valueError "reflectlite.Value.Elem" 0) ReflectliteValue.elem) Tryz.func149 (by kernel_rfl) (by kernel_rfl) (by kernel_rfl) (by kernel_rfl)
  have h101 := @run_callFunc_extern Tryz.prog 150 _ ReflectliteValue.set Tryz.func150 (by kernel_rfl) (by kernel_rfl) (by kernel_rfl) (by kernel_rfl)
  have tO := fa_typeOfE
  have mA := fa_mAss
  have a25 := fa_assE
  have vE := fa_valueOfE
  have el := fa_elemV ⟨va, 0, none⟩ ⟨tb, 0, none⟩ (w.alloc (.cells (valT va) 211)) (by rw [World.cell?_alloc_lt _ _ ⟨va, 0, none⟩ hvl]; exact hva)
  have htl : tb < w.heap.size := (Array.getElem?_eq_some_iff.1 ht).1
  have st := fa_set tb (w.heap.size + 1) old ho e s ((w.alloc (.cells (valT va) 211)).alloc (.cells #[.int .i64 e, .string s] 164)) 164 164 (0, 0)
    (by have := (MapKept.heap_alloc (w.alloc (.cells (valT va) 211)) (.cells #[.int .i64 e, .string s] 164)).1; simpa only [World.size_alloc] using this)
    (by rw [Below.heap_alloc _ _ _ (by simp; omega), Below.heap_alloc _ _ _ htl]; exact ht)
  go_enter Tryz.func122, Tryz.ntmps122
  go_wp2
  refine wp_loop_rounds 1 ?_
  rw [rounds_succ]
  go_wp2
  go_ret
  refine ⟨rfl, ?_, ?_⟩
  · exact (((Outside.refl _ w).alloc _).alloc _).setRow _ (fun _ => List.mem_cons_self) _
  · exact setRow_heap _ _ _ _ _ _ (by rw [Below.heap_alloc _ _ _ (by simp; omega), Below.heap_alloc _ _ _ htl]; exact ht)
end Go.Proofs.YtkpebabbnndopaaGreatDoor
