import Derived.Test.YtkpebabbnndopaaGreatDoorC11
import Derived.Test.YtkpebabbnndopaaGreatDoorC08
import Derived.Test.YtkpebabbnndopaaGreatDoorC21
import Derived.Test.YtkpebabbnndopaaGreatDoorC25
import Derived.Laws.LoneSync
import Derived.RegionCalls
import Derived.WalkKit
import Derived.WalkSpells
import Derived.WalkLawsBesides
import Derived.Deep.WholeRow
import Derived.Deep.MidRow
import Derived.Test.YtkpebabbnndopaaGreatDoorC20
/- end; sync.Once; Close. -/
namespace Go.Proofs.YtkpebabbnndopaaGreatDoor
open Go.RowKit
set_option linter.unusedVariables false
set_option linter.unusedSimpArgs false

theorem zeroRat (w : World) : (zeroValue 104).run Tryz.prog w = .ok (.agg (CellsR false 0 fun _ => 0)) w := by kernel_rfl
/-- a group's cells behind end -/
def endC (Zt Zr : List Value) (cs : Array Value) : Array Value := putL (putL (cs.setIfInBounds 7 (.bool true)) 8 Zt) 169 Zr
theorem zr_len : (Builtin.zeroCells (CellsR false 0 fun _ => 0) 16).toList.length = 160 := by kernel_rfl
theorem zr_one : (Builtin.zeroCells (CellsR false 0 fun _ => 0) 16).toList.all (·.oneCell') = true := by kernel_rfl
theorem zt_size : Tryz.zeroCells102.size = 161 := by kernel_rfl
theorem zt_one : Tryz.zeroCells102.all (·.oneCell') = true := by kernel_rfl
set_option maxHeartbeats 1000000 in
set_option maxRecDepth 20000 in
theorem end_any {w : World} {b pm : Nat} {cs : Array Value} {L : List PlI} {B : PlI → Nat} {key : PlI → Nat → Int} (hrow : w.heap[b]? = some (.cells cs 112 (0, 0))) (hsz : cs.size = 331) (hp : cs[329]? = some (.map (some pm))) (hk : KeepAt w pm L B key) (hpb : pm ≠ b) (hBb : ∀ y, y ∈ L → B y ≠ b) :
    Calls Tryz.prog 61 #[.pointer (some ⟨b, 0, none⟩)] w fun e w' => e = .returned (.tuple #[]) ∧ w'.heap[b]? = some (.cells (endC Tryz.zeroCells102.toList (Builtin.zeroCells (CellsR false 0 fun _ => 0) 16).toList cs) 112 (0, 0)) ∧ KeepAt w' pm [] B key ∧ Outside (b :: pm :: L.map B) w w' := by
  have zl := zr_len
  have zo := zr_one
  have ts := zt_size
  have t1 := zt_one
  obtain ⟨Zr, hZr⟩ : ∃ Zr, (Builtin.zeroCells (CellsR false 0 fun _ => 0) 16).toList = Zr := ⟨_, rfl⟩
  obtain ⟨w1, hw1⟩ : ∃ w1, w.setCell ⟨b, 7, none⟩ (.bool true) = w1 := ⟨_, rfl⟩
  have e1 : w1 = w.setRow b (cs.setIfInBounds 7 (.bool true)) := by rw [← hw1, setCell_eq_setRow w b 7 cs _ (0, 0) _ hrow]
  have r1 : w1.heap[b]? = some (.cells (cs.setIfInBounds 7 (.bool true)) 112 (0, 0)) := by rw [e1]; exact setRow_heap _ _ _ _ _ _ hrow
  obtain ⟨w2, hw2⟩ : ∃ w2, w1.setCells b 8 Tryz.zeroCells102.toList = w2 := ⟨_, rfl⟩
  have e2 : w2 = w1.setRow b (putL (cs.setIfInBounds 7 (.bool true)) 8 Tryz.zeroCells102.toList) := by rw [← hw2, setCells_row _ w1 b _ _ _ r1]
  have r2 : w2.heap[b]? = some (.cells (putL (cs.setIfInBounds 7 (.bool true)) 8 Tryz.zeroCells102.toList) 112 (0, 0)) := by rw [e2]; exact setRow_heap _ _ _ _ _ _ r1
  have hz2 : (putL (cs.setIfInBounds 7 (.bool true)) 8 Tryz.zeroCells102.toList).size = 331 := by rw [putL_size, Array.size_setIfInBounds, hsz]
  obtain ⟨w3, hw3⟩ : ∃ w3, w2.setCells b 169 Zr = w3 := ⟨_, rfl⟩
  have hcl : ∀ ty, (Builtin.clear_ #[188] ty #[.slice (some ⟨b, 169, none⟩) 16 16]).run Tryz.prog w2 = .ok (.tuple #[]) w3 := fun ty => by
    have h := run_clearW (P := Tryz.prog) w2 188 104 ty (.agg (CellsR false 0 fun _ => 0)) Tryz.underlying188 zeroRat b 169 16 16 (by decide) (fun v hv => List.all_eq_true.1 zo v hv) (fun j hj => by
      have hj2 : j < 160 := by rw [← zl]; exact hj
      rw [cell_of_row _ _ _ _ _ _ r2, Array.getElem?_eq_getElem (by omega)]; rfl) (fun j hj => by simp [World.frozen?, r2])
    rw [show (Value.agg (CellsR false 0 fun _ => 0)).cells = CellsR false 0 fun _ => 0 from rfl, hZr, hw3] at h
    exact h
  have e3 : w3 = w2.setRow b (endC Tryz.zeroCells102.toList Zr cs) := by rw [← hw3, setCells_row _ w2 b _ _ _ r2]; rfl
  have r3 : w3.heap[b]? = some (.cells (endC Tryz.zeroCells102.toList Zr cs) 112 (0, 0)) := by rw [e3]; exact setRow_heap _ _ _ _ _ _ r2
  have hoth : ∀ k, k ≠ b → w3.heap[k]? = w.heap[k]? := fun k hk => by rw [e3, setRow_other _ _ _ _ hk, e2, setRow_other _ _ _ _ hk, e1, setRow_other _ _ _ _ hk]
  have o3 : Outside [b] w w3 := by rw [e3, e2, e1]; exact (((Outside.refl [b] w).setRow b (fun _ => by simp) _).setRow b (fun _ => by simp) _).setRow b (fun _ => by simp) _
  have k3 : KeepAt w3 pm L B key := hk.keep fun k _ hm => hoth k (by
    rcases hm with rfl | hm
    · exact hpb
    · obtain ⟨y, hy, rfl⟩ := List.mem_map.1 hm
      exact hBb y hy)
  rw [hZr] at zl
  have c3 : w3.cell? ⟨b, 329, none⟩ = some (.map (some pm)) := by
    rw [cell_of_row _ _ _ _ _ _ r3]
    unfold endC
    rw [putL_out _ _ _ _ (by omega), putL_out _ _ _ _ (by rw [Array.length_toList]; omega), Array.getElem?_setIfInBounds, if_neg (by omega)]
    exact hp
  rw [hZr]
  have HFA : Hid (Calls Tryz.prog 99 #[.map (some pm)] w3 fun e w' => e = .returned (.tuple #[]) ∧ Hid (w'.heap[b]? = some (.cells (endC Tryz.zeroCells102.toList Zr cs) 112 (0, 0)) ∧ KeepAt w' pm [] B key ∧ Outside (b :: pm :: L.map B) w w')) := (forgetAll_any k3).mono fun e w' ⟨h1, h2, h3⟩ => by
    refine ⟨h1, h2.row r3 (fun hm => ?_), h3, (o3.mono (fun i hi _ => by simp at hi; simp [hi])).trans h2 (fun i hi _ => List.mem_cons_of_mem _ hi)⟩
    simp only [List.mem_cons] at hm
    rcases hm with e | e
    · exact hpb e.symm
    · obtain ⟨y, hy, e⟩ := List.mem_map.1 e
      exact hBb y hy e
  have c0 := row_facts' hrow
  have hov : ∃ v, cs[7]? = some v := ⟨_, Array.getElem?_eq_getElem (by omega)⟩
  obtain ⟨ov, hov⟩ := hov
  have co : w.cell? ⟨b, 7, none⟩ = some ov := by rw [c0.1, hov]
  have cf : w.frozen? ⟨b, 7, none⟩ = false := c0.2 _
  have ht2 : w1.there b 8 Tryz.zeroCells102.size := fun j hj => by
    rw [cell_of_row _ _ _ _ _ _ r1, Array.getElem?_eq_getElem (by rw [Array.size_setIfInBounds]; omega)]
    exact ⟨rfl, by simp [World.frozen?, r1]⟩
  have HT2 : Hid (w1.there b 8 Tryz.zeroCells102.size ∧ (Tryz.prog.info? 102).map (·.size) = some Tryz.zeroCells102.size ∧ Tryz.zeroCells102.all (·.oneCell') = true) := ⟨ht2, by kernel_rfl, t1⟩
  have HW : Hid (w.setCell ⟨b, 7, none⟩ (.bool true) = w1 ∧ w1.setCells b 8 Tryz.zeroCells102.toList = w2) := ⟨hw1, hw2⟩
  clear hrow hsz hp hk hpb hBb zl zo ts t1 hZr hw1 e1 r1 hw2 e2 r2 hz2 hw3 e3 r3 hoth o3 k3 c0 hov ht2
  go_enter Tryz.func61, Tryz.ntmps61
  go_wp2_with (rw [HW.out.1]; refine wpList_store_mid rfl 102 _ _ rfl b 8 Tryz.zeroCells102 rfl rfl HT2.out.1 HT2.out.2.1 HT2.out.2.2 ?_; rw [HW.out.2])
  refine HFA.out.mono ?_
  rintro e w4 ⟨rfl, h4⟩
  clear HFA hcl c3 co cf
  go_wp2_with fail
  go_end0
  exact ⟨rfl, h4.out⟩
end Go.Proofs.YtkpebabbnndopaaGreatDoor

/- sync.Once; Close. -/
namespace Go.Proofs.YtkpebabbnndopaaGreatDoor
open Go.RowKit
set_option linter.unusedVariables false
set_option linter.unusedSimpArgs false

theorem boolLoad_any (b o : Nat) (d : Int) (w : World) (h : w.cell? ⟨b, o, none⟩ = some (.int .u32 d)) :
    Calls Tryz.prog 97 #[.pointer (some ⟨b, o, none⟩)] w fun e w' => e = .returned (.bool (d != 0)) ∧ w' = w := by
  have hl := run_call_load (P := Tryz.prog) Tryz.func132 (by kernel_rfl) (by kernel_rfl) (by kernel_rfl) .u32 (by kernel_rfl) h
  clear h
  go_enter Tryz.func97, Tryz.ntmps97
  go_wp2_with fail
  go_ret
  exact ⟨rfl, rfl⟩
theorem boolStore_d (b o : Nat) (cs : Array Value) (t : TypeId) (d : Int) (w : World) (h : w.heap[b]? = some (.cells cs t (0, 0))) (hc : cs[o]? = some (.int .u32 d)) :
    CallsD Tryz.prog 133 #[.pointer (some ⟨b, o, none⟩), .bool true] .returning w fun e u' w' => (∃ v, e = .returned v) ∧ u' = .returning ∧ w' = w.drew.setRow b (cs.setIfInBounds o (.int .u32 1)) := by
  have hc' : w.drew.cell? ⟨b, o, none⟩ = some (.int .u32 d) := by
    show w.cell? _ = _
    rw [cell_of_row _ _ _ _ _ _ h, hc]
  have hz' : w.drew.frozen? ⟨b, o, none⟩ = false := frozen_of_row _ _ _ _ _ h
  have hst := run_call_store (P := Tryz.prog) Tryz.func159 (by kernel_rfl) (by kernel_rfl) (by kernel_rfl) (by kernel_rfl) (k := .u32) (y := 1) hc' hz'
  have e1 : w.drew.setCell ⟨b, o, none⟩ (.int .u32 1) = w.drew.setRow b (cs.setIfInBounds o (.int .u32 1)) := setCell_eq_setRow w.drew b o cs t (0, 0) _ h
  refine (callsD_of_wp (R := fun e w' => (∃ v, e = .returned v) ∧ w' = w.drew.setRow b (cs.setIfInBounds o (.int .u32 1))) Tryz.func133 rfl ?_).mono fun e u' w' ⟨h1, h2, h3⟩ => ⟨h2, h1, h3⟩
  rw [← e1]
  clear h hc hc' hz' e1
  simp only [Tryz.ntmps133, List.size_toArray, List.length_cons, List.length_nil, Nat.reduceAdd, Nat.reduceSub, Array.replicate_succ,
     Array.replicate_zero, List.push_toArray, List.append_toArray, List.nil_append, List.cons_append]
  go_wp2
  go_region_calls
  all_goals (go_end0; exact ⟨⟨_, rfl⟩, rfl⟩)
set_option maxHeartbeats 1000000 in
theorem doSlow_any {b : Nat} {cs : Array Value} {w : World} (hrow : w.heap[b]? = some (.cells cs 112 (0, 0))) (h0 : cs[2]? = some (.int .u32 0)) (h1 : cs[3]? = some (i32 0)) (gb eb : Nat) (R : Array Value → World → Prop)
    (HF0 : ∀ W, W = w.setRow b (cs.setIfInBounds 3 (i32 1)) → Calls Tryz.prog 60 #[.pointer (some ⟨gb, 0, none⟩), .pointer (some ⟨eb, 0, none⟩)] W fun e w' => e = .returned (.tuple #[]) ∧ ∃ cs', w'.heap[b]? = some (.cells cs' 112 (0, 0)) ∧ cs'[2]? = some (.int .u32 0) ∧ cs'[3]? = some (i32 1) ∧ R cs' w') :
    Calls Tryz.prog 98 #[.pointer (some ⟨b, 2, none⟩), .func (.func 60) #[] #[.pointer (some ⟨gb, 0, none⟩), .pointer (some ⟨eb, 0, none⟩)]] w fun e w' => e = .returned (.tuple #[]) ∧ ∃ cs' w2, R cs' w2 ∧ w2.heap[b]? = some (.cells cs' 112 (0, 0)) ∧ w' = (w2.drew.setRow b (cs'.setIfInBounds 2 (.int .u32 1))).setRow b ((cs'.setIfInBounds 2 (.int .u32 1)).setIfInBounds 3 (i32 0)) := by
  obtain ⟨w1, hw1⟩ : ∃ w1, w.setRow b (cs.setIfInBounds 3 (i32 1)) = w1 := ⟨_, rfl⟩
  have r1 : w1.heap[b]? = some (.cells (cs.setIfInBounds 3 (i32 1)) 112 (0, 0)) := by rw [← hw1]; exact setRow_heap _ _ _ _ _ _ hrow
  have HLK : Hid (Calls Tryz.prog 41 #[.pointer (some ⟨b, 3, none⟩)] w fun e w' => e = .returned (.tuple #[]) ∧ w' = w1) := by rw [← hw1]; exact lock_row b 3 cs _ w hrow h1
  have HLD : Hid (Calls Tryz.prog 97 #[.pointer (some ⟨b, 2, none⟩)] w1 fun e w' => e = .returned (.bool false) ∧ w' = w1) := boolLoad_any b 2 0 w1 (by rw [cell_of_row _ _ _ _ _ _ r1, Array.getElem?_setIfInBounds, if_neg (by omega)]; exact h0)
  have HF : Hid (Calls Tryz.prog 60 #[.pointer (some ⟨gb, 0, none⟩), .pointer (some ⟨eb, 0, none⟩)] w1 fun e w' => e = .returned (.tuple #[]) ∧ ∃ cs', Hid (w'.heap[b]? = some (.cells cs' 112 (0, 0)) ∧ cs'[2]? = some (.int .u32 0) ∧ cs'[3]? = some (i32 1) ∧ R cs' w')) := HF0 w1 hw1.symm
  have hnot : ∀ (x : Bool) (w : World), (Op.unary .not (.bool x)).run Tryz.prog w = .ok (.bool (!x)) w := fun _ _ => rfl
  clear hrow h0 h1 HF0 hw1 r1
  refine calls_of_wpM Tryz.func98 rfl ?_
  simp only [Tryz.ntmps98, List.size_toArray, List.length_cons, List.length_nil, Nat.reduceAdd, Nat.reduceSub, Array.replicate_succ,
     Array.replicate_zero, List.push_toArray, List.append_toArray, List.nil_append, List.cons_append]
  go_wp2_with (first | (go_at_call 41; refine HLK.out.mono ?_; rintro e w' ⟨rfl, hw'⟩; rw [hw']; clear hw' w') | (go_at_call 97; refine HLD.out.mono ?_; rintro e w' ⟨rfl, hw'⟩; rw [hw']; clear hw' w'))
  refine HF.out.mono ?_
  rintro e w2 ⟨rfl, cs', hx⟩
  clear HF HLK HLD
  go_wp2_with fail
  obtain ⟨x1, x2, x3, x4⟩ := hx.out
  refine .inr ⟨_, _, 133, #[.pointer (some ⟨b, 2, none⟩), .bool true], rfl, by simp [go_sem], (boolStore_d b 2 cs' _ 0 w2 x1 x2).mono fun e u' w3 ⟨y1, y2, y3⟩ => ⟨y1, y2, ?_⟩⟩
  have r3 : w3.heap[b]? = some (.cells (cs'.setIfInBounds 2 (.int .u32 1)) 112 (0, 0)) := by rw [y3]; exact setRow_heap w2.drew _ _ _ _ _ x1
  refine .inr ⟨_, _, 42, #[.pointer (some ⟨b, 3, none⟩)], rfl, by simp [go_sem], (unlock_row b 3 _ _ w3 r3 (by rw [Array.getElem?_setIfInBounds, if_neg (by omega)]; exact x3)).mono fun e u' w4 ⟨z1, z2, z3⟩ => ⟨z1, z2, _, results_none rfl _ _ _, rfl, cs', w2, x4, x1, ?_⟩⟩
  rw [z3, y3]
/-- Do, of the first call -/
theorem do_first {b : Nat} {cs : Array Value} {w : World} (hrow : w.heap[b]? = some (.cells cs 112 (0, 0))) (h0 : cs[2]? = some (.int .u32 0)) (h1 : cs[3]? = some (i32 0)) (gb eb : Nat) (R : Array Value → World → Prop)
    (HF0 : ∀ W, W = w.setRow b (cs.setIfInBounds 3 (i32 1)) → Calls Tryz.prog 60 #[.pointer (some ⟨gb, 0, none⟩), .pointer (some ⟨eb, 0, none⟩)] W fun e w' => e = .returned (.tuple #[]) ∧ ∃ cs', w'.heap[b]? = some (.cells cs' 112 (0, 0)) ∧ cs'[2]? = some (.int .u32 0) ∧ cs'[3]? = some (i32 1) ∧ R cs' w') :
    Calls Tryz.prog 59 #[.pointer (some ⟨b, 2, none⟩), .func (.func 60) #[] #[.pointer (some ⟨gb, 0, none⟩), .pointer (some ⟨eb, 0, none⟩)]] w fun e w' => e = .returned (.tuple #[]) ∧ ∃ cs' w2, R cs' w2 ∧ w2.heap[b]? = some (.cells cs' 112 (0, 0)) ∧ w' = (w2.drew.setRow b (cs'.setIfInBounds 2 (.int .u32 1))).setRow b ((cs'.setIfInBounds 2 (.int .u32 1)).setIfInBounds 3 (i32 0)) := by
  have HDS := doSlow_any hrow h0 h1 gb eb R HF0
  have HLD : Hid (Calls Tryz.prog 97 #[.pointer (some ⟨b, 2, none⟩)] w fun e w' => e = .returned (.bool false) ∧ w' = w) := boolLoad_any b 2 0 w (by rw [cell_of_row _ _ _ _ _ _ hrow]; exact h0)
  have HD : Hid (Calls Tryz.prog 98 #[.pointer (some ⟨b, 2, none⟩), .func (.func 60) #[] #[.pointer (some ⟨gb, 0, none⟩), .pointer (some ⟨eb, 0, none⟩)]] w fun e w' => e = .returned (.tuple #[]) ∧ Hid (∃ cs' w2, R cs' w2 ∧ w2.heap[b]? = some (.cells cs' 112 (0, 0)) ∧ w' = (w2.drew.setRow b (cs'.setIfInBounds 2 (.int .u32 1))).setRow b ((cs'.setIfInBounds 2 (.int .u32 1)).setIfInBounds 3 (i32 0)))) := HDS
  have hnot : ∀ (x : Bool) (w : World), (Op.unary .not (.bool x)).run Tryz.prog w = .ok (.bool (!x)) w := fun _ _ => rfl
  clear hrow h0 h1 HF0 HDS
  go_enter Tryz.func59, Tryz.ntmps59
  go_wp2_with (go_at_call 97; refine HLD.out.mono ?_; rintro e w' ⟨rfl, hw'⟩; rw [hw']; clear hw' w')
  refine HD.out.mono ?_
  rintro e w2 ⟨rfl, hx⟩
  clear HD HLD
  go_wp2_with fail
  go_end0
  exact ⟨rfl, hx.out⟩
/-- Do, of a later call -/
theorem do_done {b : Nat} {cs : Array Value} {w : World} (hrow : w.heap[b]? = some (.cells cs 112 (0, 0))) (h0 : cs[2]? = some (.int .u32 1)) (fv : Value) :
    Calls Tryz.prog 59 #[.pointer (some ⟨b, 2, none⟩), fv] w fun e w' => e = .returned (.tuple #[]) ∧ w' = w := by
  have HLD : Hid (Calls Tryz.prog 97 #[.pointer (some ⟨b, 2, none⟩)] w fun e w' => e = .returned (.bool true) ∧ w' = w) := boolLoad_any b 2 1 w (by rw [cell_of_row _ _ _ _ _ _ hrow]; exact h0)
  have hnot : ∀ (x : Bool) (w : World), (Op.unary .not (.bool x)).run Tryz.prog w = .ok (.bool (!x)) w := fun _ _ => rfl
  clear hrow h0
  go_enter Tryz.func59, Tryz.ntmps59
  go_wp2_with (go_at_call 97; refine HLD.out.mono ?_; rintro e w' ⟨rfl, hw'⟩; rw [hw']; clear hw' w')
  go_end0
  exact ⟨rfl, rfl⟩
/-- Close$1 -/
theorem close1_any {b pm gb eb : Nat} {cs : Array Value} {L : List PlI} {B : PlI → Nat} {key : PlI → Nat → Int} {w : World} (hrow : w.heap[b]? = some (.cells cs 112 (0, 0))) (hsz : cs.size = 331) (hp : cs[329]? = some (.map (some pm))) (hk : KeepAt w pm L B key) (hpb : pm ≠ b) (hBb : ∀ y, y ∈ L → B y ≠ b)
    (hg : w.heap[gb]? = some (.cells #[.pointer (some ⟨b, 0, none⟩)] 31 (0, 0))) (he : ∃ v, w.heap[eb]? = some (.cells #[v] 114 (0, 0))) (hgn : gb ∉ b :: pm :: L.map B) (hen : eb ∉ b :: pm :: L.map B) :
    Calls Tryz.prog 60 #[.pointer (some ⟨gb, 0, none⟩), .pointer (some ⟨eb, 0, none⟩)] w fun e w' => e = .returned (.tuple #[]) ∧ w'.heap[b]? = some (.cells (endC Tryz.zeroCells102.toList (Builtin.zeroCells (CellsR false 0 fun _ => 0) 16).toList cs) 112 (0, 0)) ∧ KeepAt w' pm [] B key ∧ Outside (eb :: b :: pm :: L.map B) w w' ∧ w'.heap[eb]? = some (.cells #[.nilIface] 114 (0, 0)) := by
  obtain ⟨ev, he⟩ := he
  have HEN : Hid (Calls Tryz.prog 61 #[.pointer (some ⟨b, 0, none⟩)] w fun e w' => e = .returned (.tuple #[]) ∧ Hid (w'.heap[b]? = some (.cells (endC Tryz.zeroCells102.toList (Builtin.zeroCells (CellsR false 0 fun _ => 0) 16).toList cs) 112 (0, 0)) ∧ KeepAt w' pm [] B key ∧ Outside (b :: pm :: L.map B) w w')) := end_any hrow hsz hp hk hpb hBb
  have c1 := (row_facts' hg).1
  have HE : Hid (w.heap[eb]? = some (.cells #[ev] 114 (0, 0)) ∧ eb ∉ b :: pm :: L.map B) := ⟨he, hen⟩
  obtain ⟨EC, hEC⟩ : ∃ EC, endC Tryz.zeroCells102.toList (Builtin.zeroCells (CellsR false 0 fun _ => 0) 16).toList cs = EC := ⟨_, rfl⟩
  rw [hEC] at HEN ⊢
  clear hrow hsz hp hk hpb hBb hg he hgn hen hEC
  go_enter Tryz.func60, Tryz.ntmps60
  go_wp2_with fail
  refine HEN.out.mono ?_
  rintro e w2 ⟨rfl, hx⟩
  have r2 : w2.heap[eb]? = some (.cells #[ev] 114 (0, 0)) := hx.out.2.2.row HE.out.1 HE.out.2
  have HF : Hid (((w2.setCell ⟨eb, 0, none⟩ .nilIface).heap[b]? = some (.cells EC 112 (0, 0)) ∧ KeepAt (w2.setCell ⟨eb, 0, none⟩ .nilIface) pm [] B key ∧ Outside (eb :: b :: pm :: L.map B) w (w2.setCell ⟨eb, 0, none⟩ .nilIface) ∧ (w2.setCell ⟨eb, 0, none⟩ .nilIface).heap[eb]? = some (.cells #[.nilIface] 114 (0, 0)))) := by
    have e1 : w2.setCell ⟨eb, 0, none⟩ .nilIface = w2.setRow eb #[.nilIface] := setCell_eq_setRow w2 eb 0 _ _ (0, 0) _ r2
    obtain ⟨x1, x2, x3⟩ := hx.out
    have hn := HE.out.2
    simp only [List.mem_cons, not_or] at hn
    rw [e1]
    refine ⟨by rw [setRow_other _ _ _ _ (fun e => hn.1 e.symm)]; exact x1, x2.keep fun k _ hm => setRow_other _ _ _ _ (fun e => ?_), (x3.mono (fun i hi _ => List.mem_cons_of_mem _ hi)).setRow eb (fun _ => List.mem_cons_self) _, setRow_heap _ _ _ _ _ _ r2⟩
    rcases hm with rfl | hm
    · exact hn.2.1 e.symm
    · cases hm
  obtain ⟨ce, cf⟩ := row_facts' r2
  clear HEN c1 r2
  go_wp2_with fail
  go_end0
  exact ⟨rfl, HF.out⟩
set_option maxHeartbeats 2000000 in
/-- Close, of whatever Do does -/
theorem close_raw {b : Nat} {cs : Array Value} {w0 : World} (h0 : Home (some b) b 112 cs w0) (hlk : cs[0]? = some (i32 0)) (R : World → Value → Int → World → Prop)
    (HDO0 : ∀ W gb eb, Outside [b] w0 W → w0.heap.size ≤ gb → w0.heap.size ≤ eb → gb ≠ eb → W.heap[b]? = some (.cells (cs.setIfInBounds 0 (i32 1)) 112 (0, 0)) → W.heap[gb]? = some (.cells #[.pointer (some ⟨b, 0, none⟩)] 31 (0, 0)) → W.heap[eb]? = some (.cells #[faultV 9 strOver] 114 (0, 0)) →
      Calls Tryz.prog 59 #[.pointer (some ⟨b, 2, none⟩), .func (.func 60) #[] #[.pointer (some ⟨gb, 0, none⟩), .pointer (some ⟨eb, 0, none⟩)]] W fun e w' => e = .returned (.tuple #[]) ∧ ∃ ev N, w'.heap[eb]? = some (.cells #[ev] 114 (0, 0)) ∧ ((ev = .nilIface ∧ N = 0) ∨ ev = faultV N strOver) ∧ Glob w' ∧ R W ev N w')
    (hR : ∀ W ev N w', R W ev N w' → ∃ cs2, w'.heap[b]? = some (.cells cs2 112 (0, 0)) ∧ cs2[0]? = some (i32 1)) :
    Calls Tryz.prog 24 #[.pointer (some ⟨b, 0, none⟩)] w0 fun e w' => ∃ N, e = .returned (.int .i64 N) ∧ ∃ W ev w2 cs2, Outside [b] w0 W ∧ W.heap[b]? = some (.cells (cs.setIfInBounds 0 (i32 1)) 112 (0, 0)) ∧ R W ev N w2 ∧ w2.heap[b]? = some (.cells cs2 112 (0, 0)) ∧ w'.heap[b]? = some (.cells (cs2.setIfInBounds 0 (i32 0)) 112 (0, 0)) ∧ Outside [b] w2 w' := by
  obtain ⟨wA, hwA⟩ : ∃ wA, w0.alloc (.cells #[.pointer (some ⟨b, 0, none⟩)] 31) = wA := ⟨_, rfl⟩
  have bA : Below w0.heap.size w0 wA := by rw [← hwA]; exact (Below.refl _ w0).alloc (Nat.le_refl _) _
  have kA : wA.heap[w0.heap.size]? = some (.cells #[.pointer (some ⟨b, 0, none⟩)] 31 (0, 0)) := by rw [← hwA]; exact (MapKept.heap_alloc _ _).1
  have hbl := h0.lt
  have rA : wA.heap[b]? = some (.cells cs 112 (0, 0)) := by rw [bA.block b hbl]; exact h0.row
  have cA := (row_facts' kA).1
  obtain ⟨w1, hw1⟩ : ∃ w1, wA.setRow b (cs.setIfInBounds 0 (i32 1)) = w1 := ⟨_, rfl⟩
  have r1 : w1.heap[b]? = some (.cells (cs.setIfInBounds 0 (i32 1)) 112 (0, 0)) := by rw [← hw1]; exact setRow_heap _ _ _ _ _ _ rA
  have o1 : Outside [b] w0 w1 := by rw [← hw1]; exact (Outside.ofBelow bA).setRow b (fun _ => by simp) _
  have k1 : w1.heap[w0.heap.size]? = some (.cells #[.pointer (some ⟨b, 0, none⟩)] 31 (0, 0)) := by rw [← hw1, setRow_other _ _ _ _ (by omega)]; exact kA
  have c1 := (row_facts' k1).1
  have HLK : Hid (Calls Tryz.prog 41 #[.pointer (some ⟨b, 0, none⟩)] wA fun e w' => e = .returned (.tuple #[]) ∧ w' = w1) := by rw [← hw1]; exact lock_row b 0 cs _ wA rA hlk
  have HOV : Hid (∀ W, Calls Tryz.prog 58 #[] W fun e w' => e = .returned (faultV 9 strOver) ∧ w' = W) := over_any
  obtain ⟨w2, hw2⟩ : ∃ w2, w1.alloc (.cells #[faultV 9 strOver] 114) = w2 := ⟨_, rfl⟩
  have b2 : Below w1.heap.size w1 w2 := by rw [← hw2]; exact (Below.refl _ w1).alloc (Nat.le_refl _) _
  have e2 : w2.heap[w1.heap.size]? = some (.cells #[faultV 9 strOver] 114 (0, 0)) := by rw [← hw2]; exact (MapKept.heap_alloc _ _).1
  have l1 := (Array.getElem?_eq_some_iff.1 k1).1
  have k2 : w2.heap[w0.heap.size]? = some (.cells #[.pointer (some ⟨b, 0, none⟩)] 31 (0, 0)) := by rw [b2.block _ l1]; exact k1
  have r2 : w2.heap[b]? = some (.cells (cs.setIfInBounds 0 (i32 1)) 112 (0, 0)) := by rw [b2.block _ (Array.getElem?_eq_some_iff.1 r1).1]; exact r1
  have o2 : Outside [b] w0 w2 := o1.below b2
  have c2 := (row_facts' k2).1
  have HDO : Hid (Calls Tryz.prog 59 #[.pointer (some ⟨b, 2, none⟩), .func (.func 60) #[] #[.pointer (some ⟨w0.heap.size, 0, none⟩), .pointer (some ⟨w1.heap.size, 0, none⟩)]] w2 fun e w' => e = .returned (.tuple #[]) ∧ ∃ ev N, Hid (w'.heap[w1.heap.size]? = some (.cells #[ev] 114 (0, 0)) ∧ ((ev = .nilIface ∧ N = 0) ∨ ev = faultV N strOver) ∧ Glob w' ∧ R w2 ev N w')) := HDO0 w2 w0.heap.size w1.heap.size o2 (Nat.le_refl _) (by omega) (by omega) r2 k2 e2
  have HR : Hid (∀ ev N w', R w2 ev N w' → ∃ cs2, w'.heap[b]? = some (.cells cs2 112 (0, 0)) ∧ cs2[0]? = some (i32 1)) := fun ev N w' h => hR w2 ev N w' h
  have HNO : Hid (∀ ev N, ((ev = .nilIface ∧ N = 0) ∨ ev = faultV N strOver) → ∀ W, Glob W → Calls Tryz.prog 44 #[ev] W fun e w' => e = .returned (.int .i64 N) ∧ Below W.heap.size W w') := fun ev N hz W hW => by
    rcases hz with ⟨rfl, rfl⟩ | rfl
    · exact num_nil W
    · exact num_fault N _ W hW
  have HF2 : Hid (Outside [b] w0 w2 ∧ w2.heap[b]? = some (.cells (cs.setIfInBounds 0 (i32 1)) 112 (0, 0))) := ⟨o2, r2⟩
  have HW : Hid (w0.alloc (.cells #[.pointer (some ⟨b, 0, none⟩)] 31) = wA ∧ w1.alloc (.cells #[faultV 9 strOver] 114) = w2) := ⟨hwA, hw2⟩
  have hmf : ∀ (fn : Fn) (first cap : Array Value) (w : World), (Instr.makeFunc fn first cap).run Tryz.prog w = .ok (.func fn first cap) w := fun _ _ _ _ => rfl
  clear h0 hlk HDO0 hR hwA bA kA hbl rA hw1 r1 o1 k1 hw2 b2 e2 l1 k2 r2 o2
  refine calls_of_wpM Tryz.func24 rfl ?_
  simp only [Tryz.ntmps24, List.size_toArray, List.length_cons, List.length_nil, Nat.reduceAdd, Nat.reduceSub, Array.replicate_succ,
     Array.replicate_zero, List.push_toArray, List.append_toArray, List.nil_append, List.cons_append]
  go_upto_region 1 with fail
  rw [HW.out.1]
  go_upto_region 4 with (first | (go_at_call 41; refine HLK.out.mono ?_; rintro e w' ⟨rfl, hw'⟩; rw [hw']; clear hw' w') | (go_at_call 58; refine (HOV.out _).mono ?_; rintro e w' ⟨rfl, hw'⟩; rw [hw']; clear hw' w'))
  rw [HW.out.2]
  go_wp2_with fail
  refine HDO.out.mono ?_
  rintro e w3 ⟨rfl, ev, N, hx⟩
  have c3 := (row_facts' hx.out.1).1
  have HN3 : Hid (Calls Tryz.prog 44 #[ev] w3 fun e w' => e = .returned (.int .i64 N) ∧ Below w3.heap.size w3 w') := HNO.out ev N hx.out.2.1 w3 hx.out.2.2.1
  clear HDO HNO cA c1 c2 HLK HOV HW
  go_wp2_with fail
  refine HN3.out.mono ?_
  rintro e w4 ⟨rfl, b4⟩
  have HB4 : Hid (Below w3.heap.size w3 w4) := b4
  clear HN3 b4 c3
  go_wp2_with fail
  obtain ⟨cs2, y1, y2⟩ := HR.out _ _ _ hx.out.2.2.2
  have r4 : w4.heap[b]? = some (.cells cs2 112 (0, 0)) := by rw [HB4.out.block _ (Array.getElem?_eq_some_iff.1 y1).1]; exact y1
  refine .inr ⟨_, _, 42, #[.pointer (some ⟨b, 0, none⟩)], rfl, by simp [go_sem], (unlock_row b 0 cs2 _ w4 r4 y2).mono fun e u' w' ⟨h1, h2, h3⟩ => ⟨h1, h2, .int .i64 N, by simp [results, Tryz.results24, go_sem], N, rfl, w2, ev, w3, cs2, HF2.out.1, HF2.out.2, hx.out.2.2.2, y1, ?_, ?_⟩⟩
  · rw [h3]; exact setRow_heap _ _ _ _ _ _ r4
  · rw [h3]; exact (Outside.ofBelow HB4.out).setRow b (fun _ => by simp) _
end Go.Proofs.YtkpebabbnndopaaGreatDoor

/- Unprotect, of whatever read does. -/
namespace Go.Proofs.YtkpebabbnndopaaGreatDoor
open Go.RowKit
set_option linter.unusedVariables false
set_option linter.unusedSimpArgs false

set_option maxHeartbeats 2000000 in
set_option maxRecDepth 20000 in
theorem un_raw {w0 : World} {b : Nat} {cs : Array Value} (h0 : Home (some b) b 112 cs w0) (hlk : cs[0]? = some (i32 0)) (sv : Value) (R : World → Int → Int → Value → Int → World → Prop)
    (HRD0 : ∀ W, Outside [b] w0 W → w0.heap.size < W.heap.size → W.heap[b]? = some (.cells (cs.setIfInBounds 0 (i32 1)) 112 (0, 0)) → Calls Tryz.prog 50 #[.pointer (some ⟨b, 0, none⟩), sv] W fun e w' => ∃ m g v z N, e = .returned (.tuple #[.agg (MsgC m g v), z]) ∧ (∃ p n c, v = .slice p n c) ∧ ((z = .nilIface ∧ N = 0) ∨ (∃ s, z = faultV N s) ∨ ∃ a c s, z = frameV a c N s) ∧ R W m g v N w')
    (hR : ∀ W m g v N w', Outside [b] w0 W → R W m g v N w' → (∀ k, w0.heap.size ≤ k → k < W.heap.size → w'.heap[k]? = W.heap[k]?) ∧ Glob w' ∧ ∃ cs2, w'.heap[b]? = some (.cells cs2 112 (0, 0)) ∧ cs2[0]? = some (i32 1)) :
    Calls Tryz.prog 20 #[.pointer (some ⟨b, 0, none⟩), sv] w0 fun e w' => ∃ m g v N, e = .returned (.tuple #[.agg (MsgC m g v), .int .i64 N]) ∧ ∃ W w2 cs2, Outside [b] w0 W ∧ w0.heap.size < W.heap.size ∧ W.heap[b]? = some (.cells (cs.setIfInBounds 0 (i32 1)) 112 (0, 0)) ∧ R W m g v N w2 ∧ w2.heap[b]? = some (.cells cs2 112 (0, 0)) ∧ w'.heap[b]? = some (.cells (cs2.setIfInBounds 0 (i32 0)) 112 (0, 0)) ∧ Outside [b, w0.heap.size] w2 w' := by
  obtain ⟨wA, hwA⟩ : ∃ wA, w0.alloc (.cells (MsgC 0 0 (.slice none 0 0)) 41) = wA := ⟨_, rfl⟩
  have bA : Below w0.heap.size w0 wA := by rw [← hwA]; exact (Below.refl _ w0).alloc (Nat.le_refl _) _
  have kA : wA.heap[w0.heap.size]? = some (.cells (MsgC 0 0 (.slice none 0 0)) 41 (0, 0)) := by rw [← hwA]; exact (MapKept.heap_alloc _ _).1
  have hbl := h0.lt
  have rA : wA.heap[b]? = some (.cells cs 112 (0, 0)) := by rw [bA.block b hbl]; exact h0.row
  obtain ⟨w1, hw1⟩ : ∃ w1, wA.setRow b (cs.setIfInBounds 0 (i32 1)) = w1 := ⟨_, rfl⟩
  have r1 : w1.heap[b]? = some (.cells (cs.setIfInBounds 0 (i32 1)) 112 (0, 0)) := by rw [← hw1]; exact setRow_heap _ _ _ _ _ _ rA
  have o1 : Outside [b] w0 w1 := by rw [← hw1]; exact (Outside.ofBelow bA).setRow b (fun _ => by simp) _
  have k1 : w1.heap[w0.heap.size]? = some (.cells (MsgC 0 0 (.slice none 0 0)) 41 (0, 0)) := by rw [← hw1, setRow_other _ _ _ _ (by omega)]; exact kA
  have HLK : Hid (Calls Tryz.prog 41 #[.pointer (some ⟨b, 0, none⟩)] wA fun e w' => e = .returned (.tuple #[]) ∧ w' = w1) := by rw [← hw1]; exact lock_row b 0 cs _ wA rA hlk
  have HRD : Hid (Calls Tryz.prog 50 #[.pointer (some ⟨b, 0, none⟩), sv] w1 fun e w' => ∃ m g v z N, e = .returned (.tuple #[.agg (MsgC m g v), z]) ∧ (∃ p n c, v = .slice p n c) ∧ Hid (((z = .nilIface ∧ N = 0) ∨ (∃ s, z = faultV N s) ∨ ∃ a c s, z = frameV a c N s) ∧ R w1 m g v N w')) := HRD0 w1 o1 (Array.getElem?_eq_some_iff.1 k1).1 r1
  have HR : Hid (∀ m g v N w', R w1 m g v N w' → (∀ k, w0.heap.size ≤ k → k < w1.heap.size → w'.heap[k]? = w1.heap[k]?) ∧ Glob w' ∧ ∃ cs2, w'.heap[b]? = some (.cells cs2 112 (0, 0)) ∧ cs2[0]? = some (i32 1)) := fun m g v N w' h => hR w1 m g v N w' o1 h
  have HF1 : Hid (Outside [b] w0 w1 ∧ w0.heap.size < w1.heap.size ∧ w1.heap[b]? = some (.cells (cs.setIfInBounds 0 (i32 1)) 112 (0, 0)) ∧ w1.heap[w0.heap.size]? = some (.cells (MsgC 0 0 (.slice none 0 0)) 41 (0, 0)) ∧ b < w0.heap.size) := ⟨o1, (Array.getElem?_eq_some_iff.1 k1).1, r1, k1, hbl⟩
  have HWA : Hid (w0.alloc (.cells (MsgC 0 0 (.slice none 0 0)) 41) = wA) := hwA
  have HNO : Hid (∀ z N, ((z = .nilIface ∧ N = 0) ∨ (∃ s, z = faultV N s) ∨ ∃ a c s, z = frameV a c N s) → ∀ W, Glob W → Calls Tryz.prog 44 #[z] W fun e w' => e = .returned (.int .i64 N) ∧ Below W.heap.size W w') := fun z N hz W hW => by
    rcases hz with ⟨rfl, rfl⟩ | ⟨s, rfl⟩ | ⟨a, c, s, rfl⟩
    · exact num_nil W
    · exact num_fault N s W hW
    · exact num_frame a c N s W hW
  clear h0 hlk bA kA rA r1 o1 k1 hw1 hwA HRD0 hR hbl
  refine calls_of_wpM Tryz.func20 rfl ?_
  simp only [Tryz.ntmps20, List.size_toArray, List.length_cons, List.length_nil, Nat.reduceAdd, Nat.reduceSub, Array.replicate_succ,
     Array.replicate_zero, List.push_toArray, List.append_toArray, List.nil_append, List.cons_append]
  go_upto_region 1 with fail
  rw [HWA.out]
  go_wp2_with (go_at_call 41; refine HLK.out.mono ?_; rintro e w' ⟨rfl, hw'⟩; rw [hw']; clear hw' w')
  refine HRD.out.mono ?_
  rintro e w2 ⟨m, g, v, z, N, rfl, ⟨vp, vn, vc, rfl⟩, hx⟩
  obtain ⟨w3, hw3⟩ : ∃ w3, w2.alloc (.cells (MsgC m g (.slice vp vn vc)) 41) = w3 := ⟨_, rfl⟩
  have HX3 : Hid (Below w2.heap.size w2 w3 ∧ w3.heap[w2.heap.size]? = some (.cells (MsgC m g (.slice vp vn vc)) 41 (0, 0)) ∧ Glob w3 ∧ w3.heap[w0.heap.size]? = some (.cells (MsgC 0 0 (.slice none 0 0)) 41 (0, 0)) ∧ w0.heap.size < w2.heap.size ∧ ∃ cs2, w2.heap[b]? = some (.cells cs2 112 (0, 0)) ∧ cs2[0]? = some (i32 1)) := by
    obtain ⟨q1, q2, q3⟩ := HR.out _ _ _ _ _ hx.out.2
    have b3 : Below w2.heap.size w2 w3 := by rw [← hw3]; exact (Below.refl _ w2).alloc (Nat.le_refl _) _
    have k2 : w2.heap[w0.heap.size]? = some (.cells (MsgC 0 0 (.slice none 0 0)) 41 (0, 0)) := by rw [q1 _ (Nat.le_refl _) HF1.out.2.1]; exact HF1.out.2.2.2.1
    have l2 := (Array.getElem?_eq_some_iff.1 k2).1
    exact ⟨b3, by rw [← hw3]; exact (MapKept.heap_alloc _ _).1, q2.below b3, by rw [b3.block _ l2]; exact k2, l2, q3⟩
  have HW3 : Hid (w2.alloc (.cells (MsgC m g (.slice vp vn vc)) 41) = w3) := hw3
  have HN3 : Hid (Calls Tryz.prog 44 #[z] w3.drew fun e w' => e = .returned (.int .i64 N) ∧ Below w3.heap.size w3 w') := (HNO.out z N hx.out.1 w3.drew HX3.out.2.2.1).mono fun e w' ⟨h1, h2⟩ => ⟨h1, (Below.refl _ w3).drew.trans h2⟩
  clear HRD HR HNO hw3
  go_upto_region 4 with fail
  rw [HW3.out]
  refine wp_region_held_drew (S := fun W => W.heap[w2.heap.size]? = some (.cells (MsgC m g (.slice vp vn vc)) 41 (0, 0))) (by kernel_rfl) HX3.out.2.1 (fun hHeld => ?_)
  change wpAnyH _ _ _ _ _ 5 _ _ _
  refine take1 (i := 0) (v := .agg (MsgC m g (.slice vp vn vc))) rfl (by kernel_rfl) (by kernel_rfl) (by kernel_rfl) (fun _ _ _ h => h) hHeld (fun W hS => (by have hc := (row_facts' hS).1; clear hHeld hS; go_simp)) ?_
  simp only [Act.put, List.setIfInBounds_toArray, List.set_cons_zero, List.set_cons_succ]
  refine take1 (i := 1) (v := z) rfl (by kernel_rfl) (by kernel_rfl) (by kernel_rfl) (fun _ _ _ h => h) hHeld (fun W hS => (by clear hHeld; go_simp)) ?_
  simp only [Act.put, List.setIfInBounds_toArray, List.set_cons_zero, List.set_cons_succ]
  refine call1 (i := 2) (by kernel_rfl) rfl (f := 44) (args := #[z]) (by clear hHeld; go_simp) (R := fun v W => v = .int .i64 N ∧ Below w3.heap.size w3 W) (HN3.out.mono fun e w' ⟨h1, h2⟩ => ⟨_, h1, rfl, h2⟩) (fun v W ⟨_, h2⟩ => by rw [h2.block _ (Array.getElem?_eq_some_iff.1 HX3.out.2.1).1]; exact HX3.out.2.1) (fun v w4 hvW => ?_)
  obtain ⟨rfl, b4⟩ := hvW
  simp only [Act.put, List.setIfInBounds_toArray, List.set_cons_zero, List.set_cons_succ]
  have k4 : w4.heap[w0.heap.size]? = some (.cells (MsgC 0 0 (.slice none 0 0)) 41 (0, 0)) := by rw [b4.block _ (Array.getElem?_eq_some_iff.1 HX3.out.2.2.2.1).1]; exact HX3.out.2.2.2.1
  obtain ⟨w5, hw5⟩ : ∃ w5, w4.setCells w0.heap.size 0 [Value.int .i64 m, .int .i64 g, .slice vp vn vc] = w5 := ⟨_, rfl⟩
  have e5 : w5 = w4.setRow w0.heap.size (MsgC m g (.slice vp vn vc)) := by
    rw [← hw5]
    exact stores3_row w4 w0.heap.size _ _ _ _ _ k4 rfl
  have s5 : w5.heap[w2.heap.size]? = some (.cells (MsgC m g (.slice vp vn vc)) 41 (0, 0)) := by rw [e5, setRow_other _ _ _ _ (by have := HX3.out.2.2.2.2.1; omega), b4.block _ (Array.getElem?_eq_some_iff.1 HX3.out.2.1).1]; exact HX3.out.2.1
  have ht4 : w4.there w0.heap.size 0 3 := fun j hj => by
    rw [Nat.zero_add]
    obtain ⟨kc, kf⟩ := row_facts' k4
    rw [kc]
    refine ⟨?_, kf _⟩
    rcases j with _ | _ | _ | j <;> first | rfl | omega
  refine store1 (i := 3) (by kernel_rfl) rfl w0.heap.size 0 #[.int .i64 m, .int .i64 g, .slice vp vn vc] rfl rfl ht4 (by kernel_rfl) (by kernel_rfl) w5 hw5 s5 ?_
  refine step1 (i := 4) (by kernel_rfl) rfl (.int .i64 N) w5 (by clear hHeld; go_simp) s5 ?_
  simp only [Act.put, List.setIfInBounds_toArray, List.set_cons_zero, List.set_cons_succ]
  refine wpAnyH_done (by kernel_rfl) ?_ _
  have HX5 : Hid (w5.heap[w0.heap.size]? = some (.cells (MsgC m g (.slice vp vn vc)) 41 (0, 0)) ∧ Outside [b, w0.heap.size] w2 w5 ∧ ∃ cs2, w2.heap[b]? = some (.cells cs2 112 (0, 0)) ∧ cs2[0]? = some (i32 1) ∧ w5.heap[b]? = some (.cells cs2 112 (0, 0))) := by
    obtain ⟨x1, x2, x3, x4, x5, cs2, x6, x7⟩ := HX3.out
    have hbl := HF1.out.2.2.2.2
    refine ⟨by rw [e5]; exact setRow_heap _ _ _ _ _ _ k4, ?_, cs2, x6, x7, ?_⟩
    · rw [e5]; exact ((Outside.ofBelow x1).below b4).setRow _ (fun _ => by simp) _
    · have l2 := (Array.getElem?_eq_some_iff.1 x6).1
      have l3 := x1.size
      rw [e5, setRow_other _ _ _ _ (by omega), b4.block _ (by omega), x1.block _ l2]
      exact x6
  clear hHeld HN3 HX3 HW3 b4 k4 hw5 e5 s5 ht4 HLK HWA
  go_wp2_with fail
  obtain ⟨z1, z2, cs2, z3, z4, z5⟩ := HX5.out
  refine .inr ⟨_, _, 42, #[.pointer (some ⟨b, 0, none⟩)], rfl, by simp [go_sem], (unlock_row b 0 cs2 _ w5 z5 z4).mono fun e u' w' ⟨h1, h2, h3⟩ => ⟨h1, h2, .tuple #[.agg (MsgC m g (.slice vp vn vc)), .int .i64 N], ?_, m, g, _, N, rfl, w1, w2, cs2, HF1.out.1, HF1.out.2.1, HF1.out.2.2.1, hx.out.2, z3, ?_, ?_⟩⟩
  · exact results_row_tmp rfl _ _ w0.heap.size 41 (MsgC m g (.slice vp vn vc)) (0, 0) _ _ rfl rfl (by rw [h3, setRow_other _ _ _ _ (by have := HF1.out.2.2.2.2; omega)]; exact z1) Tryz.underlying41 rfl (by kernel_rfl)
  · rw [h3]; exact setRow_heap _ _ _ _ _ _ z5
  · rw [h3]; exact z2.setRow b (fun _ => by simp) _
end Go.Proofs.YtkpebabbnndopaaGreatDoor

/- Unprotect, of a group. -/
namespace Go.Proofs.YtkpebabbnndopaaGreatDoor
open Go.RowKit
set_option linter.unusedVariables false

theorem OpenedTo.size {w : World} {b pm : Nat} {st st' : St} {wk N : Nat} {B : PlI → Nat} {l : List UInt8} {K : Nat → Int} {e : Ending} {w' : World} (h : OpenedTo w b pm st st' wk N B l K e w') : w.heap.size ≤ w'.heap.size := by
  obtain ⟨n, cs', hn, hh, ⟨_, _, h3, _⟩ | ⟨_, h2, _⟩⟩ := h
  · exact h3.size
  · exact h2.size
theorem OpenedTo.blocks {w : World} {b pm : Nat} {st st' : St} {wk N : Nat} {B : PlI → Nat} {l : List UInt8} {K : Nat → Int} {e : Ending} {w' : World} (h : OpenedTo w b pm st st' wk N B l K e w') (k : Nat) (hk : k < w.heap.size) (h1 : k ≠ b) (h2 : k ≠ pm) (h3 : ∀ y, y ∈ keptL st st.n → B y ≠ k) : w'.heap[k]? = w.heap[k]? := by
  obtain ⟨n, cs', hn, hh, ⟨_, _, h4, _⟩ | ⟨_, h4, _⟩⟩ := h
  · exact h4.block k hk (by simpa using h1)
  · refine h4.block k hk fun hm => ?_
    simp only [List.mem_cons] at hm
    rcases hm with hm | hm | hm
    · exact h1 hm
    · exact h2 hm
    · obtain ⟨y, hy, e⟩ := List.mem_map.1 hm
      exact h3 y hy e
/-- what opening from W on leaves, seen from w on, behind changes of what is new since w and older than W -/
theorem OpenedTo.back {w W w2 w' : World} {b pm : Nat} {st st' : St} {wk N : Nat} {B : PlI → Nat} {l : List UInt8} {K : Nat → Int} {e : Ending} {T : List Nat} (h : OpenedTo W b pm st st' wk N B l K e w2) (hin : Outside [b] w W) (hO : Outside T w2 w') (hT : ∀ k, k ∈ T → w.heap.size ≤ k ∧ k < W.heap.size) (hb : b < w.heap.size) (hp : pm < w.heap.size) (hB : ∀ y, y ∈ keptL st st.n → B y < w.heap.size) : OpenedTo w b pm st st' wk N B l K e w' := by
  have hz := hin.size
  have hbT : b ∉ T := fun hm => by have := hT b hm; omega
  obtain ⟨n, cs', hn, hh, hc⟩ := h
  refine ⟨n, cs', hn, Home.own (hO.row hh.row hbT) hh.cnt, ?_⟩
  rcases hc with ⟨h1, h2, h3, h4, h5⟩ | ⟨h1, h2, h3, B', f, h4, h5, h6, h7, h8, h9⟩
  · refine .inl ⟨h1, h2, (hin.trans h3 (fun _ hi _ => hi)).trans hO (fun i hi hl => by have := hT i hi; omega), h4, h5.keep fun k hk hm => hO.block k hk fun ht => ?_⟩
    have := hT k ht
    rcases hm with rfl | hm
    · omega
    · obtain ⟨y, hy, rfl⟩ := List.mem_map.1 hm
      have := hB y hy; omega
  · have hB' : ∀ y, y ∈ keptL st' st.n → B' y ∉ T := fun y hy ht => by
      have h10 := hT _ ht
      rcases h5 y hy with ⟨q1, q2⟩ | q
      · have := hB y q1; omega
      · omega
    refine .inr ⟨h1, ((hin.mono (S' := b :: pm :: (keptL st st.n).map B) (fun i hi _ => by simp at hi; simp [hi])).trans h2 (fun _ hi _ => hi)).trans hO (fun i hi hl => by have := hT i hi; omega), h3, B', f, h4.keep fun k hk hm => hO.block k hk fun ht => ?_, fun x hx => ?_, h6, h7, by omega, hO.row h9 (fun ht => by have := hT f ht; omega)⟩
    · rcases hm with rfl | hm
      · have := hT k ht; omega
      · obtain ⟨y, hy, rfl⟩ := List.mem_map.1 hm
        exact hB' y hy ht
    · rcases h5 x hx with q | q
      · exact .inl q
      · exact .inr (by omega)
theorem bts_cells {w : World} {a : Option Addr} {l : List UInt8} (h : Bts w a l) (hl : 0 < l.length) : ∃ fb fo, a = some ⟨fb, fo, none⟩ ∧ ∀ i (h : i < l.length), w.cell? ⟨fb, fo + i, none⟩ = some (cellB l[i]) := by
  rcases h with h | ⟨b, o, h1, h2⟩
  · rw [h] at hl; simp at hl
  · exact ⟨b, o, h1, h2⟩
/-- where nothing is opened, nothing has changed -/
theorem un_same {w w2 w' W : World} {S : List Nat} {b pm : Nat} {cs cs2 : Array Value} {B : PlI → Nat} {st : St} {wk : Nat} (h : GrpIn w S b pm cs B st wk) (hW : Outside [b] w W) (hWb : W.heap[b]? = some (.cells (cs.setIfInBounds 0 (i32 1)) 112 (0, 0))) (hbel : Below W.heap.size W w2) (h2 : w2.heap[b]? = some (.cells cs2 112 (0, 0))) (h3 : w'.heap[b]? = some (.cells (cs2.setIfInBounds 0 (i32 0)) 112 (0, 0))) (hO : Outside [b, w.heap.size] w2 w') :
    Outside S w w' ∧ GrpIn w' S b pm cs B st wk := by
  have hb : b ∈ S := by rw [h.blocks]; simp
  have hlt := h.home.lt
  have hz := hW.size
  have e2 : cs2 = cs.setIfInBounds 0 (i32 1) := by
    rw [hbel.block b (by omega), hWb] at h2
    cases h2; rfl
  have hrow : w'.heap[b]? = w.heap[b]? := by
    rw [h3, e2, set_back h.cells.lock, h.home.row]
  have hO1 : Outside S w w' := by
    refine (((hW.mono (S' := S) (fun i hi _ => by simp at hi; rw [hi]; exact hb)).below hbel).trans hO (fun i hi hl => ?_))
    simp at hi
    rcases hi with rfl | rfl
    · exact hb
    · omega
  refine ⟨hO1, h.kept fun k hk hm => ?_⟩
  by_cases e : k = b
  · rw [e, hrow]
  · rw [hO.block k (by have := hbel.size; omega) (by simp; omega), hbel.block k (by omega), hW.block k hk (by simpa using e)]
theorem un_pre {w : World} {S : List Nat} {b pm : Nat} {cs : Array Value} {B : PlI → Nat} {st : St} {wk : Nat} (ok : st.Ok) (h : GrpIn w S b pm cs B st wk) (hGl : Glob w) (a : Option Addr) (l : List UInt8) (c : Nat) (hlc : l.length ≤ c) (hbt : Bts w a l) (hna : ∀ b o, a = some ⟨b, o, none⟩ → b ∉ S) (hE : st.unPre l ≠ 0) :
    Calls Tryz.prog 20 #[.pointer (some ⟨b, 0, none⟩), .slice a l.length c] w fun e w' => e = .returned (.tuple #[.agg #[.int .i64 0, .int .i64 0, .slice none 0 0], .int .i64 (st.unPre l)]) ∧ Outside S w w' ∧ GrpIn w' S b pm cs B st wk := by
  have hb : b ∈ S := by rw [h.blocks]; simp
  have h0 := h.zero hGl
  have hGb : 0 ∉ [b] := fun hm => h0 (by rw [show (0 : Nat) = b by simpa using hm]; exact hb)
  refine (un_raw h.home h.cells.lock (.slice a l.length c) (fun W m g v N w' => m = 0 ∧ g = 0 ∧ v = .slice none 0 0 ∧ N = st.unPre l ∧ Below W.heap.size W w' ∧ W.heap[b]? = some (.cells (cs.setIfInBounds 0 (i32 1)) 112 (0, 0))) (fun W hW hsz hWb => ?_) (fun W m g v N w' hW hR => ?_)).mono fun e w' ⟨m, g, v, N, he, W, w2, cs2, q1, q2, q3, ⟨q4, q5, q6, q7, q8, _⟩, q9, q10, q11⟩ => ⟨by rw [he, q4, q5, q6, q7], un_same h q1 q3 q8 q9 q10 q11⟩
  · have hcn : (cs.setIfInBounds 0 (i32 1))[ctrOff]? = some (ctr wk) := by rw [Array.getElem?_setIfInBounds, if_neg (by show 0 ≠ 330; omega)]; exact h.cells.cnt
    have hH : Home (some b) b 112 (cs.setIfInBounds 0 (i32 1)) W := Home.own hWb ⟨wk, hcn⟩
    have hlt := h.home.lt
    have hz := hW.size
    rcases h.cells with ⟨hcl, hG⟩ | ⟨hcl, hS⟩
    · have hG1 := hG.locked 1
      have hkl := kl_open hcl
      have hk := h.keep
      have hap := h.apart
      rw [hkl] at hk hap
      have hbtW : Bts W a l := hbt.out hW (fun k o e hm => hna k o e (by rw [show k = b by simpa using hm]; exact hb))
      by_cases hlen : l.length < 7 ∨ 47 < l.length
      · have hE3 : st.unPre l = 3 := by
          unfold St.unPre
          rw [hcl, if_neg (by simp), if_pos (by omega)]
        refine (read_place hH hG1 (.slice a l.length c) (fun W' _ => place_bad a l.length c st.n hlen W')).mono fun e w' ⟨u, h1, ⟨s, h2⟩, h3⟩ => ⟨0, 0, .slice none 0 0, u, 3, h1, ⟨_, _, _, rfl⟩, .inr (.inl ⟨s, h2⟩), rfl, rfl, rfl, hE3.symm, h3, hWb⟩
      · obtain ⟨fb, fo, rfl, hl⟩ := bts_cells hbtW (by omega)
        have hfl : fb < W.heap.size := block_lt_of_cell (hl 0 (by omega))
        by_cases hwho : st.n ≤ unWho l
        · have hE3 : st.unPre l = 3 := by
            unfold St.unPre
            rw [hcl, if_neg (by simp), if_pos (by omega)]
          refine (read_place hH hG1 (.slice (some ⟨fb, fo, none⟩) l.length c) (fun W' hW' => (place_any fb fo c l (by omega) (by omega) hlc st.n ok.n1 ok.n16 W' (fun i hi => by rw [hW'.cell (p := ⟨fb, fo + i, none⟩) hfl]; exact hl i hi)).mono fun e w' ⟨p1, p2⟩ => ?_)).mono fun e w' ⟨u, h1, ⟨s, h2⟩, h3⟩ => ⟨0, 0, .slice none 0 0, u, 3, h1, ⟨_, _, _, rfl⟩, .inr (.inl ⟨s, h2⟩), rfl, rfl, rfl, hE3.symm, h3, hWb⟩
          rcases p2 with ⟨_, s, p2⟩ | ⟨p3, _⟩
          · exact ⟨s, p2, p1⟩
          · omega
        · have hgl := unGen_lt l
          have hkW : KeepAt W pm (keptL st st.n) B st.keyP := hk.keep fun k hk' hm => hW.block k hk' (by
            rcases hm with rfl | hm
            · simpa using fun e => h.ne e.symm
            · obtain ⟨y, hy, rfl⟩ := List.mem_map.1 hm
              simpa using hap y hy)
          have hcase : ∃ E, st.unPre l = E ∧ ((unWho l = st.own ∧ E = 4) ∨ (unWho l ≠ st.own ∧ unGen l < (st.m (unWho l)).next ∧ unGen l ∉ (st.m (unWho l)).over ∧ E = 5) ∨ (unWho l ≠ st.own ∧ ¬ unGen l < (st.m (unWho l)).next ∧ (st.m (unWho l)).next + 5 < unGen l ∧ E = 6)) := by
            refine ⟨_, rfl, ?_⟩
            unfold St.unPre at hE ⊢
            rw [hcl, if_neg (by simp), if_neg (by omega)] at hE ⊢
            by_cases h1 : unWho l = st.own
            · rw [if_pos h1]; exact .inl ⟨h1, rfl⟩
            · rw [if_neg h1] at hE ⊢
              by_cases h2 : unGen l < (st.m (unWho l)).next ∧ unGen l ∉ (st.m (unWho l)).over
              · rw [if_pos h2]; exact .inr (.inl ⟨h1, h2.1, h2.2, rfl⟩)
              · rw [if_neg h2] at hE ⊢
                by_cases h3 : (st.m (unWho l)).next + 5 < unGen l
                · rw [if_pos h3]; exact .inr (.inr ⟨h1, by omega, h3, rfl⟩)
                · rw [if_neg h3] at hE; exact absurd rfl hE
          obtain ⟨E, hEE, hcase⟩ := hcase
          rw [hEE]
          refine (read_open (m := unWho l) (g := unGen l) hH hG1 (.slice (some ⟨fb, fo, none⟩) l.length c) (fun W' hW' => (place_any fb fo c l (by omega) (by omega) hlc st.n ok.n1 ok.n16 W' (fun i hi => by rw [hW'.cell (p := ⟨fb, fo + i, none⟩) hfl]; exact hl i hi)).mono fun e w' ⟨p1, p2⟩ => ?_) (fun W' v u w' => v = .slice none 0 0 ∧ (∃ s, u = faultV E s) ∧ Below W'.heap.size W' w') (fun W' hW' => (openAt_no ok (by omega) (by omega) (hH.below hW') hG1 (hkW.below hW') _ hcase).mono fun e w' ⟨s, p1, p2⟩ => ⟨_, _, p1, ⟨rfl, ⟨s, rfl⟩, p2⟩, .inr ⟨E, s, rfl⟩⟩) (fun W' v u w' hW' hR k hk1 hk2 => hR.2.2.block k hk2)).mono fun e w' ⟨y, z, h1, W', v, u, w2, h2, h3, ⟨h4, ⟨s, h5⟩, h6⟩, h7, h8⟩ => ?_
          · rcases p2 with ⟨p3, _⟩ | ⟨_, p3⟩
            · omega
            · exact ⟨p3, p1⟩
          · rcases h8 with ⟨q1, _⟩ | ⟨E', s', q1, q2, q3⟩
            · rw [h5] at q1; cases q1
            · rw [h5] at q1
              have hE' : E = E' := by
                have := Value.iface.inj q1
                have h9 := Value.agg.inj this.2
                simp at h9
                exact h9.1
              subst hE'
              refine ⟨0, 0, .slice none 0 0, z, E, by rw [h1, q2], ⟨_, _, _, rfl⟩, .inr (.inr ⟨_, _, s', q3⟩), rfl, rfl, rfl, rfl, ?_, hWb⟩
              exact (h2.trans (h6.mono h2.size)).trans (h7.toBelow W.heap.size (by have := h2.size; have := h6.size; omega) (fun i hi => by simp at hi; omega))
    · have hE9 : st.unPre l = 9 := by unfold St.unPre; rw [hcl, if_pos rfl]
      refine (read_closed hH (hS.locked 1).over (.slice a l.length c)).mono fun e w' ⟨u, h1, h2, h3⟩ => ⟨0, 0, .slice none 0 0, u, 9, h1, ⟨_, _, _, rfl⟩, .inr (.inl ⟨_, h2⟩), rfl, rfl, rfl, hE9.symm, h3, hWb⟩
  · obtain ⟨_, _, _, _, hbel, hWb⟩ := hR
    have hlt := h.home.lt
    have hz := hW.size
    exact ⟨fun k _ hk => hbel.block k hk, (hGl.out hW hGb).below hbel, _, by rw [hbel.block b (by omega)]; exact hWb, set_lock h.cells.lock⟩
end Go.Proofs.YtkpebabbnndopaaGreatDoor
