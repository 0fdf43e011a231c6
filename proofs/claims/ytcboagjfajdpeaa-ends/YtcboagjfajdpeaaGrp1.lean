/- ratchetFor. -/
import Derived.Test.YtcboagjfajdpeaaGrp0
import Derived.Test.YtcboagjfajdpeaaDefB
import Derived.WalkKit
import Derived.WalkSpells
import Derived.WalkLawsBesides
import Derived.Deep.WholeRow
import Derived.Deep.MidRow
namespace Go.Proofs.Ytcboagjfajdpeaa
open Go.RowKit
set_option linter.unusedVariables false

theorem clear_door (b : Nat) (x : Nat → Int) (w : World) (t : TypeId) (h : w.heap[b]? = some (.cells (Cells8 x) t (0, 0))) (ty : TypeId) (ks : Array Bool) :
    (invoke (.builtin .clear #[27] ty ks) #[.slice (some ⟨b, 0, none⟩) 8 8]).run Try.prog w = .ok (.value (.tuple #[])) (w.setRow b (Cells8 fun _ => 0)) := by
  have hc := clear8 b 0 x w (fun i hi => by rw [Nat.zero_add, cell_of_row _ _ _ _ _ _ h, Cells8_at _ _ hi]) (fun i => by simp [World.frozen?, h]) ty 8
  have e : w.setCells b 0 (Cells8 fun _ => 0).toList = w.setRow b (Cells8 fun _ => 0) := by
    rw [setCells_row _ w b 0 (Cells8 x) t h]
    have e2 : putL (Cells8 x) 0 (Cells8 fun _ => 0).toList = Cells8 fun _ => 0 := by simp [putL]
    rw [e2]
  rw [e] at hc
  simp only [invoke, builtin, Sem.run_bind, hc, Result.andThen_ok, Sem.run_pure]

set_option maxHeartbeats 2000000 in
theorem ratchetFor_old (b m : Nat) (hm : m < 16) (w : World) (h : w.cell? ⟨b, 163 + m * 10, none⟩ = some (.bool true)) :
    Calls Try.prog 52 #[.pointer (some ⟨b, 0, none⟩), .int .i64 m] w fun e w' => e = .returned (.pointer (some ⟨b, 163 + m * 10, none⟩)) ∧ w' = w := by
  have ix := ratIndex b m hm
  refine calls_of_wpB Try.func52 rfl ?_
  simp only [Try.ntmps52, List.size_toArray, List.length_cons, List.length_nil, Nat.reduceAdd, Nat.reduceSub, Array.replicate_succ,
     Array.replicate_zero, List.push_toArray, List.append_toArray, List.nil_append, List.cons_append]
  go_wp2_with fail
  exact ⟨_, results_tmp rfl _ _ _, rfl, rfl⟩

set_option maxHeartbeats 4000000 in
theorem ratchetFor_new (b m : Nat) (hm : m < 16) (cs : Array Value) (t : TypeId) (hsz : cs.size = 324) (A B : List PartD) (p : PartD) (w : World) (h : Home (some b) b t cs w) (hT : TreeAt cs 2 (A ++ p :: B)) (hpm : p.has m) (hA : ∀ x ∈ A, ¬ x.has m) (hlt : ∀ x ∈ A ++ p :: B, x.f < x.t) (hw : wide (A ++ p :: B) ≤ 16) (s0 : Nat → Int) (g0 : Int) (hr : RatAt cs (163 + m * 10) false g0 s0) (hsb : ∀ i, 0 ≤ (p.spl 16 m).s i ∧ (p.spl 16 m).s i < 256) :
    Calls Try.prog 52 #[.pointer (some ⟨b, 0, none⟩), .int .i64 m] w fun e w' => e = .returned (.pointer (some ⟨b, 163 + m * 10, none⟩)) ∧ Outside [b] w w' ∧ ∃ cs1, Mv (some b) (2 * (p.spl 16 m).d + 1) 2 161 cs cs1 ∧ TreeAt cs1 2 (A ++ (p.spl 16 m).x ++ ((p.spl 16 m).y ++ B)) ∧ Home (some b) b t (putL cs1 (163 + m * 10) (CellsR true 0 (DerB (p.spl 16 m).s lRatchet 0)).toList) w' := by
  have hf : (some b : Option Nat) ≠ none → 2 + 161 ≤ ctrOff := fun _ => by show 163 ≤ 323; omega
  have HTL : Hid (∀ W, Home (some b) b t cs W → Calls Try.prog 37 #[.pointer (some ⟨b, 2, none⟩), .int .i64 m, .func (.func 53) #[.pointer (some ⟨b, 0, none⟩)] #[]] W fun e w' => e = .returned (Agg8 (p.spl 16 m).s) ∧ ∃ cs', Upd (some b) (2 * (p.spl 16 m).d) b 2 161 t cs W w' cs' ∧ TreeAt cs' 2 (A ++ (p.spl 16 m).x ++ ((p.spl 16 m).y ++ B))) := fun W hW => takeLeaf_any (derive_g b) b 2 t cs A B p m W hW hT hpm hA hlt hw hf
  have HRO : Hid (∀ W, Has (some b) W → Calls Try.prog 41 #[Agg8 (p.spl 16 m).s, .func (.func 53) #[.pointer (some ⟨b, 0, none⟩)] #[]] W fun e w' => e = .returned (AggR true 0 (DerB (p.spl 16 m).s lRatchet 0)) ∧ Tick (some b) 1 W w') := fun W hW => ratchetOf_any (derive_g b) (p.spl 16 m).s hsb W hW
  obtain ⟨D, hD⟩ : ∃ D, (p.spl 16 m).d = D := ⟨_, rfl⟩
  obtain ⟨X, hX⟩ : ∃ X, (p.spl 16 m).s = X := ⟨_, rfl⟩
  obtain ⟨FIN, hFIN⟩ : ∃ FIN, A ++ (p.spl 16 m).x ++ ((p.spl 16 m).y ++ B) = FIN := ⟨_, rfl⟩
  rw [hD, hX, hFIN] at HTL ⊢
  rw [hX] at HRO
  obtain ⟨R, hR⟩ : ∃ R, DerB X lRatchet 0 = R := ⟨_, rfl⟩
  rw [hR] at HRO ⊢
  have ix := ratIndex b m hm
  have c0 : w.cell? ⟨b, 163 + m * 10, none⟩ = some (.bool false) := (hr.facts h).1
  have HH : Hid (Home (some b) b t cs w) := h
  obtain ⟨P, hP⟩ : ∃ P, 163 + m * 10 = P := ⟨_, rfl⟩
  have HPB : Hid (163 ≤ P ∧ P + 10 ≤ 323) := by constructor <;> omega
  rw [hP] at c0 ix ⊢
  have HSZ : Hid (cs.size = 324) := hsz
  clear hD hX hFIN hR hP h hT hpm hA hlt hw hr hsb hf hsz hm
  have hmf : ∀ (fn : Fn) (first cap : Array Value) (w : World), (Instr.makeFunc fn first cap).run Try.prog w = .ok (.func fn first cap) w := fun _ _ _ _ => rfl
  refine calls_of_wpB Try.func52 rfl ?_
  simp only [Try.ntmps52, List.size_toArray, List.length_cons, List.length_nil, Nat.reduceAdd, Nat.reduceSub, Array.replicate_succ,
     Array.replicate_zero, List.push_toArray, List.append_toArray, List.nil_append, List.cons_append]
  go_wp2_with fail
  refine (HTL.out _ HH.out).mono ?_
  rintro e w1 ⟨rfl, cs1, u1, hT1⟩
  have HU1 : Hid (Upd (some b) (2 * D) b 2 161 t cs w w1 cs1) := u1
  have HT1 : Hid (TreeAt cs1 2 FIN) := hT1
  clear u1 hT1 HTL c0
  obtain ⟨w2, hw2⟩ : ∃ w2, w1.alloc (.cells (Cells8 X) 23) = w2 := ⟨_, rfl⟩
  have b2 : Below w1.heap.size w1 w2 := by rw [← hw2]; exact (Below.refl _ w1).alloc (Nat.le_refl _) _
  have k2 : w2.heap[w1.heap.size]? = some (.cells (Cells8 X) 23 (0, 0)) := by rw [← hw2]; exact (MapKept.heap_alloc _ _).1
  have HW2 : Hid (w1.alloc (.cells (Cells8 X) 23) = w2) := hw2
  have HU2 : Hid (Upd (some b) (2 * D) b 2 161 t cs w w2 cs1) := HU1.out.below b2
  clear hw2
  go_wp2_with (first | (rw [HW2.out]; refine wpList_load_row rfl 23 _ rfl w1.heap.size rfl 23 (Cells8 X) (0, 0) _ k2 Try.underlying23 rfl (by kernel_rfl) ?_) | refine wpList_load_row rfl 23 _ rfl w1.heap.size rfl 23 (Cells8 X) (0, 0) _ k2 Try.underlying23 rfl (by kernel_rfl) ?_)
  refine (HRO.out _ HU2.out.home.has).mono ?_
  rintro e w3 ⟨rfl, t3⟩
  obtain ⟨cs3, u3, m3⟩ := HU2.out.tick t3
  have hbk : w1.heap.size ≠ b := by have := HU1.out.home.lt; omega
  have k3 : w3.heap[w1.heap.size]? = some (.cells (Cells8 X) 23 (0, 0)) := by
    rw [t3.block _ (Array.getElem?_eq_some_iff.1 k2).1 (by simp; omega)]; exact k2
  have HT3 : Hid (TreeAt cs3 2 FIN) := HT1.out.mv m3 (fun _ => by show 163 ≤ 323; omega)
  have HU3 : Hid (Upd (some b) (2 * D + 1) b 2 161 t cs w w3 cs3) := u3
  have s3 : cs3.size = 324 := by rw [u3.mv.size]; exact HSZ.out
  have th3 : w3.there b P 10 := u3.home.there (by have := HPB.out; omega)
  obtain ⟨w4, hw4⟩ : ∃ w4, w3.setCells b P (CellsR true 0 R).toList = w4 := ⟨_, rfl⟩
  have e4 := hw4
  rw [setCells_row _ w3 b P cs3 t u3.home.row] at e4
  have HHM : Hid (Home (some b) b t (putL cs3 P (CellsR true 0 R).toList) w4 ∧ Outside [b] w w4) := by
    constructor
    · refine ⟨by rw [← e4]; exact setRow_heap _ _ _ _ _ _ u3.home.row, .inr rfl, fun hq => ?_⟩
      obtain ⟨k, hk⟩ := u3.home.cnt hq
      exact ⟨k, by rw [putL_out _ _ _ _ (.inr (by have := HPB.out; show P + 10 ≤ 323; omega))]; exact hk⟩
    · rw [← e4]; exact u3.out.setRow b (fun _ => List.mem_cons_self) _
  have k4 : w4.heap[w1.heap.size]? = some (.cells (Cells8 X) 23 (0, 0)) := by rw [← e4, setRow_other _ _ _ _ hbk]; exact k3
  have z4 : w.heap.size ≤ w1.heap.size := HU1.out.out.size
  have HW4 : Hid (w3.setCells b P (CellsR true 0 R).toList = w4) := hw4
  clear t3 u3 m3 hw4 e4 HRO HU2 b2 k2 HW2
  go_wp2_with (refine wpList_store_mid rfl 85 _ _ rfl b P (CellsR true 0 R) rfl rfl th3 (by kernel_rfl) (by simp [Value.oneCell']) ?_; rw [HW4.out])
  refine ⟨_, _, _, _, _, _, rfl, clear_door w1.heap.size X w4 _ k4 _ _, _, results_tmp rfl _ _ _, rfl, ?_, cs3, HU3.out.mv, HT3.out, ?_⟩
  · exact HHM.out.2.setRow _ (fun hl => by omega) _
  · exact ⟨by rw [setRow_other _ _ _ _ (fun e => hbk e.symm)]; exact HHM.out.1.row, .inr rfl, HHM.out.1.cnt⟩
end Go.Proofs.Ytcboagjfajdpeaa
