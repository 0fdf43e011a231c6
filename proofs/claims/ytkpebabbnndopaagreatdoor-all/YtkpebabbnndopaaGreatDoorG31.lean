import Derived.Test.YtkpebabbnndopaaGreatDoorG30
/- sync.Once; Close. -/
namespace Go.Proofs.YtkpebabbnndopaaGreatDoor
open Go.RowKit
set_option linter.unusedVariables false
set_option linter.unusedSimpArgs false

theorem boolLoad_any (b o : Nat) (d : Int) (w : World) (h : w.cell? ⟨b, o, none⟩ = some (.int .u32 d)) :
    Calls Tryz.prog 97 #[.pointer (some ⟨b, o, none⟩)] w fun e w' => e = .returned (.bool (d != 0)) ∧ w' = w := by
  have hl := run_call_load (P := Tryz.prog) Tryz.func132 (by kernel_rfl) (by kernel_rfl) (by kernel_rfl) .u32 (by kernel_rfl) h
  clear h
  go_enter Tryz.func97, Tryz.ntmps97
  go_wp2_with fail
  go_ret
  exact ⟨rfl, rfl⟩
theorem boolStore_d (b o : Nat) (cs : Array Value) (t : TypeId) (d : Int) (w : World) (h : w.heap[b]? = some (.cells cs t (0, 0))) (hc : cs[o]? = some (.int .u32 d)) :
    CallsD Tryz.prog 133 #[.pointer (some ⟨b, o, none⟩), .bool true] .returning w fun e u' w' => (∃ v, e = .returned v) ∧ u' = .returning ∧ w' = w.drew.setRow b (cs.setIfInBounds o (.int .u32 1)) := by
  have hc' : w.drew.cell? ⟨b, o, none⟩ = some (.int .u32 d) := by
    show w.cell? _ = _
    rw [cell_of_row _ _ _ _ _ _ h, hc]
  have hz' : w.drew.frozen? ⟨b, o, none⟩ = false := frozen_of_row _ _ _ _ _ h
  have hst := run_call_store (P := Tryz.prog) Tryz.func159 (by kernel_rfl) (by kernel_rfl) (by kernel_rfl) (by kernel_rfl) (k := .u32) (y := 1) hc' hz'
  have e1 : w.drew.setCell ⟨b, o, none⟩ (.int .u32 1) = w.drew.setRow b (cs.setIfInBounds o (.int .u32 1)) := setCell_eq_setRow w.drew b o cs t (0, 0) _ h
  refine (callsD_of_wp (R := fun e w' => (∃ v, e = .returned v) ∧ w' = w.drew.setRow b (cs.setIfInBounds o (.int .u32 1))) Tryz.func133 rfl ?_).mono fun e u' w' ⟨h1, h2, h3⟩ => ⟨h2, h1, h3⟩
  rw [← e1]
  clear h hc hc' hz' e1
  simp only [Tryz.ntmps133, List.size_toArray, List.length_cons, List.length_nil, Nat.reduceAdd, Nat.reduceSub, Array.replicate_succ,
     Array.replicate_zero, List.push_toArray, List.append_toArray, List.nil_append, List.cons_append]
  go_wp2
  go_region_calls
  all_goals (go_end0; exact ⟨⟨_, rfl⟩, rfl⟩)
set_option maxHeartbeats 1000000 in
theorem doSlow_any {b : Nat} {cs : Array Value} {w : World} (hrow : w.heap[b]? = some (.cells cs 112 (0, 0))) (h0 : cs[2]? = some (.int .u32 0)) (h1 : cs[3]? = some (i32 0)) (gb eb : Nat) (R : Array Value → World → Prop)
    (HF0 : ∀ W, W = w.setRow b (cs.setIfInBounds 3 (i32 1)) → Calls Tryz.prog 60 #[.pointer (some ⟨gb, 0, none⟩), .pointer (some ⟨eb, 0, none⟩)] W fun e w' => e = .returned (.tuple #[]) ∧ ∃ cs', w'.heap[b]? = some (.cells cs' 112 (0, 0)) ∧ cs'[2]? = some (.int .u32 0) ∧ cs'[3]? = some (i32 1) ∧ R cs' w') :
    Calls Tryz.prog 98 #[.pointer (some ⟨b, 2, none⟩), .func (.func 60) #[] #[.pointer (some ⟨gb, 0, none⟩), .pointer (some ⟨eb, 0, none⟩)]] w fun e w' => e = .returned (.tuple #[]) ∧ ∃ cs' w2, R cs' w2 ∧ w2.heap[b]? = some (.cells cs' 112 (0, 0)) ∧ w' = (w2.drew.setRow b (cs'.setIfInBounds 2 (.int .u32 1))).setRow b ((cs'.setIfInBounds 2 (.int .u32 1)).setIfInBounds 3 (i32 0)) := by
  obtain ⟨w1, hw1⟩ : ∃ w1, w.setRow b (cs.setIfInBounds 3 (i32 1)) = w1 := ⟨_, rfl⟩
  have r1 : w1.heap[b]? = some (.cells (cs.setIfInBounds 3 (i32 1)) 112 (0, 0)) := by rw [← hw1]; exact setRow_heap _ _ _ _ _ _ hrow
  have HLK : Hid (Calls Tryz.prog 41 #[.pointer (some ⟨b, 3, none⟩)] w fun e w' => e = .returned (.tuple #[]) ∧ w' = w1) := by rw [← hw1]; exact lock_row b 3 cs _ w hrow h1
  have HLD : Hid (Calls Tryz.prog 97 #[.pointer (some ⟨b, 2, none⟩)] w1 fun e w' => e = .returned (.bool false) ∧ w' = w1) := boolLoad_any b 2 0 w1 (by rw [cell_of_row _ _ _ _ _ _ r1, Array.getElem?_setIfInBounds, if_neg (by omega)]; exact h0)
  have HF : Hid (Calls Tryz.prog 60 #[.pointer (some ⟨gb, 0, none⟩), .pointer (some ⟨eb, 0, none⟩)] w1 fun e w' => e = .returned (.tuple #[]) ∧ ∃ cs', Hid (w'.heap[b]? = some (.cells cs' 112 (0, 0)) ∧ cs'[2]? = some (.int .u32 0) ∧ cs'[3]? = some (i32 1) ∧ R cs' w')) := HF0 w1 hw1.symm
  have hnot : ∀ (x : Bool) (w : World), (Op.unary .not (.bool x)).run Tryz.prog w = .ok (.bool (!x)) w := fun _ _ => rfl
  clear hrow h0 h1 HF0 hw1 r1
  refine calls_of_wpM Tryz.func98 rfl ?_
  simp only [Tryz.ntmps98, List.size_toArray, List.length_cons, List.length_nil, Nat.reduceAdd, Nat.reduceSub, Array.replicate_succ,
     Array.replicate_zero, List.push_toArray, List.append_toArray, List.nil_append, List.cons_append]
  go_wp2_with (first | (go_at_call 41; refine HLK.out.mono ?_; rintro e w' ⟨rfl, hw'⟩; rw [hw']; clear hw' w') | (go_at_call 97; refine HLD.out.mono ?_; rintro e w' ⟨rfl, hw'⟩; rw [hw']; clear hw' w'))
  refine HF.out.mono ?_
  rintro e w2 ⟨rfl, cs', hx⟩
  clear HF HLK HLD
  go_wp2_with fail
  obtain ⟨x1, x2, x3, x4⟩ := hx.out
  refine .inr ⟨_, _, 133, #[.pointer (some ⟨b, 2, none⟩), .bool true], rfl, by simp [go_sem], (boolStore_d b 2 cs' _ 0 w2 x1 x2).mono fun e u' w3 ⟨y1, y2, y3⟩ => ⟨y1, y2, ?_⟩⟩
  have r3 : w3.heap[b]? = some (.cells (cs'.setIfInBounds 2 (.int .u32 1)) 112 (0, 0)) := by rw [y3]; exact setRow_heap w2.drew _ _ _ _ _ x1
  refine .inr ⟨_, _, 42, #[.pointer (some ⟨b, 3, none⟩)], rfl, by simp [go_sem], (unlock_row b 3 _ _ w3 r3 (by rw [Array.getElem?_setIfInBounds, if_neg (by omega)]; exact x3)).mono fun e u' w4 ⟨z1, z2, z3⟩ => ⟨z1, z2, _, results_none rfl _ _ _, rfl, cs', w2, x4, x1, ?_⟩⟩
  rw [z3, y3]
/-- Do, of the first call -/
theorem do_first {b : Nat} {cs : Array Value} {w : World} (hrow : w.heap[b]? = some (.cells cs 112 (0, 0))) (h0 : cs[2]? = some (.int .u32 0)) (h1 : cs[3]? = some (i32 0)) (gb eb : Nat) (R : Array Value → World → Prop)
    (HF0 : ∀ W, W = w.setRow b (cs.setIfInBounds 3 (i32 1)) → Calls Tryz.prog 60 #[.pointer (some ⟨gb, 0, none⟩), .pointer (some ⟨eb, 0, none⟩)] W fun e w' => e = .returned (.tuple #[]) ∧ ∃ cs', w'.heap[b]? = some (.cells cs' 112 (0, 0)) ∧ cs'[2]? = some (.int .u32 0) ∧ cs'[3]? = some (i32 1) ∧ R cs' w') :
    Calls Tryz.prog 59 #[.pointer (some ⟨b, 2, none⟩), .func (.func 60) #[] #[.pointer (some ⟨gb, 0, none⟩), .pointer (some ⟨eb, 0, none⟩)]] w fun e w' => e = .returned (.tuple #[]) ∧ ∃ cs' w2, R cs' w2 ∧ w2.heap[b]? = some (.cells cs' 112 (0, 0)) ∧ w' = (w2.drew.setRow b (cs'.setIfInBounds 2 (.int .u32 1))).setRow b ((cs'.setIfInBounds 2 (.int .u32 1)).setIfInBounds 3 (i32 0)) := by
  have HDS := doSlow_any hrow h0 h1 gb eb R HF0
  have HLD : Hid (Calls Tryz.prog 97 #[.pointer (some ⟨b, 2, none⟩)] w fun e w' => e = .returned (.bool false) ∧ w' = w) := boolLoad_any b 2 0 w (by rw [cell_of_row _ _ _ _ _ _ hrow]; exact h0)
  have HD : Hid (Calls Tryz.prog 98 #[.pointer (some ⟨b, 2, none⟩), .func (.func 60) #[] #[.pointer (some ⟨gb, 0, none⟩), .pointer (some ⟨eb, 0, none⟩)]] w fun e w' => e = .returned (.tuple #[]) ∧ Hid (∃ cs' w2, R cs' w2 ∧ w2.heap[b]? = some (.cells cs' 112 (0, 0)) ∧ w' = (w2.drew.setRow b (cs'.setIfInBounds 2 (.int .u32 1))).setRow b ((cs'.setIfInBounds 2 (.int .u32 1)).setIfInBounds 3 (i32 0)))) := HDS
  have hnot : ∀ (x : Bool) (w : World), (Op.unary .not (.bool x)).run Tryz.prog w = .ok (.bool (!x)) w := fun _ _ => rfl
  clear hrow h0 h1 HF0 HDS
  go_enter Tryz.func59, Tryz.ntmps59
  go_wp2_with (go_at_call 97; refine HLD.out.mono ?_; rintro e w' ⟨rfl, hw'⟩; rw [hw']; clear hw' w')
  refine HD.out.mono ?_
  rintro e w2 ⟨rfl, hx⟩
  clear HD HLD
  go_wp2_with fail
  go_end0
  exact ⟨rfl, hx.out⟩
/-- Do, of a later call -/
theorem do_done {b : Nat} {cs : Array Value} {w : World} (hrow : w.heap[b]? = some (.cells cs 112 (0, 0))) (h0 : cs[2]? = some (.int .u32 1)) (fv : Value) :
    Calls Tryz.prog 59 #[.pointer (some ⟨b, 2, none⟩), fv] w fun e w' => e = .returned (.tuple #[]) ∧ w' = w := by
  have HLD : Hid (Calls Tryz.prog 97 #[.pointer (some ⟨b, 2, none⟩)] w fun e w' => e = .returned (.bool true) ∧ w' = w) := boolLoad_any b 2 1 w (by rw [cell_of_row _ _ _ _ _ _ hrow]; exact h0)
  have hnot : ∀ (x : Bool) (w : World), (Op.unary .not (.bool x)).run Tryz.prog w = .ok (.bool (!x)) w := fun _ _ => rfl
  clear hrow h0
  go_enter Tryz.func59, Tryz.ntmps59
  go_wp2_with (go_at_call 97; refine HLD.out.mono ?_; rintro e w' ⟨rfl, hw'⟩; rw [hw']; clear hw' w')
  go_end0
  exact ⟨rfl, rfl⟩
/-- Close$1 -/
theorem close1_any {b pm gb eb : Nat} {cs : Array Value} {L : List PlI} {B : PlI → Nat} {key : PlI → Nat → Int} {w : World} (hrow : w.heap[b]? = some (.cells cs 112 (0, 0))) (hsz : cs.size = 331) (hp : cs[329]? = some (.map (some pm))) (hk : KeepAt w pm L B key) (hpb : pm ≠ b) (hBb : ∀ y, y ∈ L → B y ≠ b)
    (hg : w.heap[gb]? = some (.cells #[.pointer (some ⟨b, 0, none⟩)] 31 (0, 0))) (he : ∃ v, w.heap[eb]? = some (.cells #[v] 114 (0, 0))) (hgn : gb ∉ b :: pm :: L.map B) (hen : eb ∉ b :: pm :: L.map B) :
    Calls Tryz.prog 60 #[.pointer (some ⟨gb, 0, none⟩), .pointer (some ⟨eb, 0, none⟩)] w fun e w' => e = .returned (.tuple #[]) ∧ w'.heap[b]? = some (.cells (endC Tryz.zeroCells102.toList (Builtin.zeroCells (CellsR false 0 fun _ => 0) 16).toList cs) 112 (0, 0)) ∧ KeepAt w' pm [] B key ∧ Outside (eb :: b :: pm :: L.map B) w w' ∧ w'.heap[eb]? = some (.cells #[.nilIface] 114 (0, 0)) := by
  obtain ⟨ev, he⟩ := he
  have HEN : Hid (Calls Tryz.prog 61 #[.pointer (some ⟨b, 0, none⟩)] w fun e w' => e = .returned (.tuple #[]) ∧ Hid (w'.heap[b]? = some (.cells (endC Tryz.zeroCells102.toList (Builtin.zeroCells (CellsR false 0 fun _ => 0) 16).toList cs) 112 (0, 0)) ∧ KeepAt w' pm [] B key ∧ Outside (b :: pm :: L.map B) w w')) := end_any hrow hsz hp hk hpb hBb
  have c1 := (row_facts' hg).1
  have HE : Hid (w.heap[eb]? = some (.cells #[ev] 114 (0, 0)) ∧ eb ∉ b :: pm :: L.map B) := ⟨he, hen⟩
  obtain ⟨EC, hEC⟩ : ∃ EC, endC Tryz.zeroCells102.toList (Builtin.zeroCells (CellsR false 0 fun _ => 0) 16).toList cs = EC := ⟨_, rfl⟩
  rw [hEC] at HEN ⊢
  clear hrow hsz hp hk hpb hBb hg he hgn hen hEC
  go_enter Tryz.func60, Tryz.ntmps60
  go_wp2_with fail
  refine HEN.out.mono ?_
  rintro e w2 ⟨rfl, hx⟩
  have r2 : w2.heap[eb]? = some (.cells #[ev] 114 (0, 0)) := hx.out.2.2.row HE.out.1 HE.out.2
  have HF : Hid (((w2.setCell ⟨eb, 0, none⟩ .nilIface).heap[b]? = some (.cells EC 112 (0, 0)) ∧ KeepAt (w2.setCell ⟨eb, 0, none⟩ .nilIface) pm [] B key ∧ Outside (eb :: b :: pm :: L.map B) w (w2.setCell ⟨eb, 0, none⟩ .nilIface) ∧ (w2.setCell ⟨eb, 0, none⟩ .nilIface).heap[eb]? = some (.cells #[.nilIface] 114 (0, 0)))) := by
    have e1 : w2.setCell ⟨eb, 0, none⟩ .nilIface = w2.setRow eb #[.nilIface] := setCell_eq_setRow w2 eb 0 _ _ (0, 0) _ r2
    obtain ⟨x1, x2, x3⟩ := hx.out
    have hn := HE.out.2
    simp only [List.mem_cons, not_or] at hn
    rw [e1]
    refine ⟨by rw [setRow_other _ _ _ _ (fun e => hn.1 e.symm)]; exact x1, x2.keep fun k _ hm => setRow_other _ _ _ _ (fun e => ?_), (x3.mono (fun i hi _ => List.mem_cons_of_mem _ hi)).setRow eb (fun _ => List.mem_cons_self) _, setRow_heap _ _ _ _ _ _ r2⟩
    rcases hm with rfl | hm
    · exact hn.2.1 e.symm
    · cases hm
  obtain ⟨ce, cf⟩ := row_facts' r2
  clear HEN c1 r2
  go_wp2_with fail
  go_end0
  exact ⟨rfl, HF.out⟩
set_option maxHeartbeats 2000000 in
/-- Close, of whatever Do does -/
theorem close_raw {b : Nat} {cs : Array Value} {w0 : World} (h0 : Home (some b) b 112 cs w0) (hlk : cs[0]? = some (i32 0)) (R : World → Value → Int → World → Prop)
    (HDO0 : ∀ W gb eb, Outside [b] w0 W → w0.heap.size ≤ gb → w0.heap.size ≤ eb → gb ≠ eb → W.heap[b]? = some (.cells (cs.setIfInBounds 0 (i32 1)) 112 (0, 0)) → W.heap[gb]? = some (.cells #[.pointer (some ⟨b, 0, none⟩)] 31 (0, 0)) → W.heap[eb]? = some (.cells #[faultV 9 strOver] 114 (0, 0)) →
      Calls Tryz.prog 59 #[.pointer (some ⟨b, 2, none⟩), .func (.func 60) #[] #[.pointer (some ⟨gb, 0, none⟩), .pointer (some ⟨eb, 0, none⟩)]] W fun e w' => e = .returned (.tuple #[]) ∧ ∃ ev N, w'.heap[eb]? = some (.cells #[ev] 114 (0, 0)) ∧ ((ev = .nilIface ∧ N = 0) ∨ ev = faultV N strOver) ∧ Glob w' ∧ R W ev N w')
    (hR : ∀ W ev N w', R W ev N w' → ∃ cs2, w'.heap[b]? = some (.cells cs2 112 (0, 0)) ∧ cs2[0]? = some (i32 1)) :
    Calls Tryz.prog 24 #[.pointer (some ⟨b, 0, none⟩)] w0 fun e w' => ∃ N, e = .returned (.int .i64 N) ∧ ∃ W ev w2 cs2, Outside [b] w0 W ∧ W.heap[b]? = some (.cells (cs.setIfInBounds 0 (i32 1)) 112 (0, 0)) ∧ R W ev N w2 ∧ w2.heap[b]? = some (.cells cs2 112 (0, 0)) ∧ w'.heap[b]? = some (.cells (cs2.setIfInBounds 0 (i32 0)) 112 (0, 0)) ∧ Outside [b] w2 w' := by
  obtain ⟨wA, hwA⟩ : ∃ wA, w0.alloc (.cells #[.pointer (some ⟨b, 0, none⟩)] 31) = wA := ⟨_, rfl⟩
  have bA : Below w0.heap.size w0 wA := by rw [← hwA]; exact (Below.refl _ w0).alloc (Nat.le_refl _) _
  have kA : wA.heap[w0.heap.size]? = some (.cells #[.pointer (some ⟨b, 0, none⟩)] 31 (0, 0)) := by rw [← hwA]; exact (MapKept.heap_alloc _ _).1
  have hbl := h0.lt
  have rA : wA.heap[b]? = some (.cells cs 112 (0, 0)) := by rw [bA.block b hbl]; exact h0.row
  have cA := (row_facts' kA).1
  obtain ⟨w1, hw1⟩ : ∃ w1, wA.setRow b (cs.setIfInBounds 0 (i32 1)) = w1 := ⟨_, rfl⟩
  have r1 : w1.heap[b]? = some (.cells (cs.setIfInBounds 0 (i32 1)) 112 (0, 0)) := by rw [← hw1]; exact setRow_heap _ _ _ _ _ _ rA
  have o1 : Outside [b] w0 w1 := by rw [← hw1]; exact (Outside.ofBelow bA).setRow b (fun _ => by simp) _
  have k1 : w1.heap[w0.heap.size]? = some (.cells #[.pointer (some ⟨b, 0, none⟩)] 31 (0, 0)) := by rw [← hw1, setRow_other _ _ _ _ (by omega)]; exact kA
  have c1 := (row_facts' k1).1
  have HLK : Hid (Calls Tryz.prog 41 #[.pointer (some ⟨b, 0, none⟩)] wA fun e w' => e = .returned (.tuple #[]) ∧ w' = w1) := by rw [← hw1]; exact lock_row b 0 cs _ wA rA hlk
  have HOV : Hid (∀ W, Calls Tryz.prog 58 #[] W fun e w' => e = .returned (faultV 9 strOver) ∧ w' = W) := over_any
  obtain ⟨w2, hw2⟩ : ∃ w2, w1.alloc (.cells #[faultV 9 strOver] 114) = w2 := ⟨_, rfl⟩
  have b2 : Below w1.heap.size w1 w2 := by rw [← hw2]; exact (Below.refl _ w1).alloc (Nat.le_refl _) _
  have e2 : w2.heap[w1.heap.size]? = some (.cells #[faultV 9 strOver] 114 (0, 0)) := by rw [← hw2]; exact (MapKept.heap_alloc _ _).1
  have l1 := (Array.getElem?_eq_some_iff.1 k1).1
  have k2 : w2.heap[w0.heap.size]? = some (.cells #[.pointer (some ⟨b, 0, none⟩)] 31 (0, 0)) := by rw [b2.block _ l1]; exact k1
  have r2 : w2.heap[b]? = some (.cells (cs.setIfInBounds 0 (i32 1)) 112 (0, 0)) := by rw [b2.block _ (Array.getElem?_eq_some_iff.1 r1).1]; exact r1
  have o2 : Outside [b] w0 w2 := o1.below b2
  have c2 := (row_facts' k2).1
  have HDO : Hid (Calls Tryz.prog 59 #[.pointer (some ⟨b, 2, none⟩), .func (.func 60) #[] #[.pointer (some ⟨w0.heap.size, 0, none⟩), .pointer (some ⟨w1.heap.size, 0, none⟩)]] w2 fun e w' => e = .returned (.tuple #[]) ∧ ∃ ev N, Hid (w'.heap[w1.heap.size]? = some (.cells #[ev] 114 (0, 0)) ∧ ((ev = .nilIface ∧ N = 0) ∨ ev = faultV N strOver) ∧ Glob w' ∧ R w2 ev N w')) := HDO0 w2 w0.heap.size w1.heap.size o2 (Nat.le_refl _) (by omega) (by omega) r2 k2 e2
  have HR : Hid (∀ ev N w', R w2 ev N w' → ∃ cs2, w'.heap[b]? = some (.cells cs2 112 (0, 0)) ∧ cs2[0]? = some (i32 1)) := fun ev N w' h => hR w2 ev N w' h
  have HNO : Hid (∀ ev N, ((ev = .nilIface ∧ N = 0) ∨ ev = faultV N strOver) → ∀ W, Glob W → Calls Tryz.prog 44 #[ev] W fun e w' => e = .returned (.int .i64 N) ∧ Below W.heap.size W w') := fun ev N hz W hW => by
    rcases hz with ⟨rfl, rfl⟩ | rfl
    · exact num_nil W
    · exact num_fault N _ W hW
  have HF2 : Hid (Outside [b] w0 w2 ∧ w2.heap[b]? = some (.cells (cs.setIfInBounds 0 (i32 1)) 112 (0, 0))) := ⟨o2, r2⟩
  have HW : Hid (w0.alloc (.cells #[.pointer (some ⟨b, 0, none⟩)] 31) = wA ∧ w1.alloc (.cells #[faultV 9 strOver] 114) = w2) := ⟨hwA, hw2⟩
  have hmf : ∀ (fn : Fn) (first cap : Array Value) (w : World), (Instr.makeFunc fn first cap).run Tryz.prog w = .ok (.func fn first cap) w := fun _ _ _ _ => rfl
  clear h0 hlk HDO0 hR hwA bA kA hbl rA hw1 r1 o1 k1 hw2 b2 e2 l1 k2 r2 o2
  refine calls_of_wpM Tryz.func24 rfl ?_
  simp only [Tryz.ntmps24, List.size_toArray, List.length_cons, List.length_nil, Nat.reduceAdd, Nat.reduceSub, Array.replicate_succ,
     Array.replicate_zero, List.push_toArray, List.append_toArray, List.nil_append, List.cons_append]
  go_upto_region 1 with fail
  rw [HW.out.1]
  go_upto_region 4 with (first | (go_at_call 41; refine HLK.out.mono ?_; rintro e w' ⟨rfl, hw'⟩; rw [hw']; clear hw' w') | (go_at_call 58; refine (HOV.out _).mono ?_; rintro e w' ⟨rfl, hw'⟩; rw [hw']; clear hw' w'))
  rw [HW.out.2]
  go_wp2_with fail
  refine HDO.out.mono ?_
  rintro e w3 ⟨rfl, ev, N, hx⟩
  have c3 := (row_facts' hx.out.1).1
  have HN3 : Hid (Calls Tryz.prog 44 #[ev] w3 fun e w' => e = .returned (.int .i64 N) ∧ Below w3.heap.size w3 w') := HNO.out ev N hx.out.2.1 w3 hx.out.2.2.1
  clear HDO HNO cA c1 c2 HLK HOV HW
  go_wp2_with fail
  refine HN3.out.mono ?_
  rintro e w4 ⟨rfl, b4⟩
  have HB4 : Hid (Below w3.heap.size w3 w4) := b4
  clear HN3 b4 c3
  go_wp2_with fail
  obtain ⟨cs2, y1, y2⟩ := HR.out _ _ _ hx.out.2.2.2
  have r4 : w4.heap[b]? = some (.cells cs2 112 (0, 0)) := by rw [HB4.out.block _ (Array.getElem?_eq_some_iff.1 y1).1]; exact y1
  refine .inr ⟨_, _, 42, #[.pointer (some ⟨b, 0, none⟩)], rfl, by simp [go_sem], (unlock_row b 0 cs2 _ w4 r4 y2).mono fun e u' w' ⟨h1, h2, h3⟩ => ⟨h1, h2, .int .i64 N, by simp [results, Tryz.results24, go_sem], N, rfl, w2, ev, w3, cs2, HF2.out.1, HF2.out.2, hx.out.2.2.2, y1, ?_, ?_⟩⟩
  · rw [h3]; exact setRow_heap _ _ _ _ _ _ r4
  · rw [h3]; exact (Outside.ofBelow HB4.out).setRow b (fun _ => by simp) _
end Go.Proofs.YtkpebabbnndopaaGreatDoor
