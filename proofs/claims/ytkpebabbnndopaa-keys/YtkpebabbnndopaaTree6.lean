/- takeLeaf. -/
import Derived.Test.YtkpebabbnndopaaTree5
import Derived.WalkKit
import Derived.WalkSpells
import Derived.WalkLawsBesides
import Derived.Deep.WholeRow
import Derived.Deep.MidRow
import Derived.Deep.LoopGhost
namespace Go.Proofs.Ytkpebabbnndopaa
open Go.RowKit
set_option linter.unusedVariables false

theorem Upd.other {q : Option Nat} {n b o len : Nat} {t : TypeId} {cs cs' : Array Value} {w w' : World} (h : Upd q n b o len t cs w w' cs') {k : Nat} {ob : Obj} (hk : w.heap[k]? = some ob) (hn : k ≠ b) (hq : q ≠ some k) : w'.heap[k]? = some ob := h.outq.row hk (by
  cases q with
  | none => simp [hn]
  | some c => simp [hn]; exact fun e => hq (by rw [e]))

set_option maxHeartbeats 4000000 in
theorem takeLeaf_any {F : FuncId} {pre : Array Value} {q : Option Nat} (dv : Drv F pre q) (b o : Nat) (t : TypeId) (cs : Array Value) (A B : List PartD) (p : PartD) (m : Nat) (w : World) (h : Home q b t cs w) (hT : TreeAt cs o (A ++ p :: B)) (hpm : p.has m) (hA : ∀ x ∈ A, ¬ x.has m) (hlt : ∀ x ∈ A ++ p :: B, x.f < x.t) (hw : wide (A ++ p :: B) ≤ 16) (hf : q ≠ none → o + 161 ≤ ctrOff) :
    Calls Try.prog 26 #[.pointer (some ⟨b, o, none⟩), .int .i64 m, .func (.func F) pre #[]] w fun e w' => e = .returned (Agg8 (p.spl 16 m).s) ∧ ∃ cs', Upd q (2 * (p.spl 16 m).d) b o 161 t cs w w' cs' ∧ TreeAt cs' o (A ++ (p.spl 16 m).x ++ ((p.spl 16 m).y ++ B)) := by
  have HF : Hid (∀ W, Home q b t cs W → Calls Try.prog 37 #[.pointer (some ⟨b, o, none⟩), .int .i64 m] W fun e w' => e = .returned (.int .i64 A.length) ∧ Below W.heap.size W w') := fun W hW => by
    have e : (A ++ p :: B)[A.length]'(by simp) = p := by simp
    refine find_any q b o t cs (A ++ p :: B) m A.length (by simp) (by rw [e]; exact hpm) (fun i hi => ?_) W hW hT
    rw [List.getElem_append_left hi]
    exact hA _ (List.getElem_mem hi)
  obtain ⟨FIN, hFIN⟩ : ∃ FIN, A ++ (p.spl 16 m).x ++ ((p.spl 16 m).y ++ B) = FIN := ⟨_, rfl⟩
  obtain ⟨X, hX⟩ : ∃ X, (p.spl 16 m).s = X := ⟨_, rfl⟩
  obtain ⟨D, hD⟩ : ∃ D, (p.spl 16 m).d = D := ⟨_, rfl⟩
  rw [hFIN, hX, hD]
  have hb := h.lt
  have HQ0 : Hid (Has q w) := h.has
  obtain ⟨w0, hw0⟩ : ∃ w0, w.alloc (.cells (Cells8 fun _ => 0) 23) = w0 := ⟨_, rfl⟩
  have b0 : Below w.heap.size w w0 := by rw [← hw0]; exact (Below.refl _ w).alloc (Nat.le_refl _) _
  have r0 : w0.heap[w.heap.size]? = some (.cells (Cells8 fun _ => 0) 23 (0, 0)) := by rw [← hw0]; exact (MapKept.heap_alloc _ _).1
  have HW0 : Hid (w.alloc (.cells (Cells8 fun _ => 0) 23) = w0) := hw0
  have HH0 : Hid (Upd q 0 b o 161 t cs w w0 cs) := (Upd.refl h o 161).below b0
  have HFF : Hid (q ≠ none → o + 161 ≤ ctrOff) := hf
  have HINV : Hid (TreeAt cs o (A ++ p :: B) ∧ p.has m ∧ (∀ x ∈ A ++ p :: B, x.f < x.t) ∧ wide (A ++ p :: B) ≤ 16 ∧ (A ++ (p.spl 16 m).x ++ ((p.spl 16 m).y ++ B) = FIN) ∧ (p.spl 16 m).s = X ∧ (p.spl 16 m).d = D) := ⟨hT, hpm, hlt, hw, hFIN, hX, hD⟩
  obtain ⟨i, hi⟩ : ∃ i, A.length = i := ⟨_, rfl⟩
  rw [hi] at HF
  clear hT hpm hA hlt hw hf hFIN hX hD h hw0
  go_enter Try.func26, Try.ntmps26
  go_wp2_with fail
  rw [HW0.out]
  refine (HF.out _ HH0.out.home).mono ?_
  rintro e w1 ⟨rfl, b1⟩
  have HU1 : Hid (Upd q 0 b o 161 t cs w w1 cs) := HH0.out.below b1
  have r1 : w1.heap[w.heap.size]? = some (.cells (Cells8 fun _ => 0) 23 (0, 0)) := by rw [b1.block _ (Array.getElem?_eq_some_iff.1 r0).1, r0]
  clear b1 HH0 r0 b0 HF HW0
  go_wp2_with fail
  go_loopg [7] 16 (fun k v wr => ∃ (A' B' : List PartD) (c : PartD) (cs' : Array Value) (d : Nat), v = .int .i64 A'.length ∧ Hid (Upd q (2 * d) b o 161 t cs w wr cs' ∧ wr.heap[w.heap.size]? = some (.cells (Cells8 fun _ => 0) 23 (0, 0))) ∧ Hid (TreeAt cs' o (A' ++ c :: B') ∧ c.has m ∧ (∀ x ∈ A' ++ c :: B', x.f < x.t) ∧ wide (A' ++ c :: B') ≤ 16 ∧ (A' ++ (c.spl k m).x ++ ((c.spl k m).y ++ B') = FIN) ∧ (c.spl k m).s = X ∧ d + (c.spl k m).d = D ∧ c.t - c.f ≤ k))
  case atStart =>
    obtain ⟨i1, i2, i3, i4, i5, i6, i7⟩ := HINV.out
    obtain ⟨j1, j2, j3⟩ := i1.ok p (List.mem_append_right _ List.mem_cons_self)
    exact ⟨A, B, p, cs, 0, by rw [hi], ⟨HU1.out, r1⟩, i1, i2, i3, i4, i5, i6, by omega, by omega⟩
  case round =>
    obtain ⟨A', B', c, cs', d, rfl, HU, HI⟩ := hrel
    obtain ⟨i1, i2, i3, i4, i5, i6, i7, i8⟩ := HI.out
    obtain ⟨u1, u2⟩ := HU.out
    obtain ⟨j1, j2, j3⟩ := i1.ok c (List.mem_append_right _ List.mem_cons_self)
    have j4 := i3 c (List.mem_append_right _ List.mem_cons_self)
    have hlen := wide_len _ i3
    have hl2 : A'.length + (B'.length + 1) ≤ 16 := by rw [List.length_append, List.length_cons] at hlen; omega
    obtain ⟨j, hj⟩ : ∃ j, A'.length = j := ⟨_, rfl⟩
    rw [hj] at hl2
    have ix := index_at b o j (by omega)
    have HR : Hid (wr.rangeAt b (o + j * 10) (CellsP c.f c.t c.s).toList) := by
      have := i1.part
      rw [hj, Nat.mul_comm] at this
      exact u1.home.range this
    have HSZ : Hid (∀ W, Calls Try.prog 38 #[AggP c.f c.t c.s] W fun e w' => e = .returned (.int .i64 ((c.t : Int) - c.f)) ∧ w' = W.alloc (.cells (CellsP c.f c.t c.s) 53)) := fun W => size_any c.f c.t c.s (by omega) (by omega) (by omega) W
    have z1 : w.heap.size < wr.heap.size := (Array.getElem?_eq_some_iff.1 u2).1
    by_cases hgt : c.t - c.f ≤ 1
    · -- a leaf
      have hsp := PartD.spl_one gk c m hgt
      rw [hsp] at i5 i6 i7
      have i5' : A' ++ B' = FIN := by simpa using i5
      have i6' : c.s = X := i6
      have i7' : d = D := by omega
      have HRM : Hid (∀ W, Home q b t cs' W → Calls Try.prog 41 #[.pointer (some ⟨b, o, none⟩), .int .i64 j] W fun e w' => e = .returned (.tuple #[]) ∧ ∃ cs'', Upd q 0 b o 161 t cs' W w' cs'' ∧ TreeAt cs'' o FIN) := fun W hW => by
        have := remove_any q b o t cs' A' B' c W hW i1 HFF.out
        rw [hj, i5'] at this
        exact this
      have b1 : Below wr.heap.size wr (wr.alloc (.cells (CellsP c.f c.t c.s) 53)) := (Below.refl _ wr).alloc (Nat.le_refl _) _
      have v1 := u1.below b1
      have rs1 : (wr.alloc (.cells (CellsP c.f c.t c.s) 53)).rangeAt b (o + j * 10 + 2) (Cells8 c.s).toList := by
        have := i1.part
        rw [hj, Nat.mul_comm] at this
        exact v1.home.range (fun k v hv => by
          have hk : k < 8 := (List.getElem?_eq_some_iff.1 hv).1
          have h2 := this (2 + k) v (by unfold PartD.cells; rw [show (CellsP (c.f : Int) c.t c.s).toList = [.int .i64 (c.f : Int), .int .i64 (c.t : Int)] ++ (Cells8 c.s).toList from rfl, List.getElem?_append_right (by simp)]; simpa using hv)
          rwa [← Nat.add_assoc] at h2)
      have HRS : Hid ((wr.alloc (.cells (CellsP c.f c.t c.s) 53)).rangeAt b (o + j * 10 + 2) (Cells8 c.s).toList) := rs1
      have hcmp : ¬ ((1 : Int) < (c.t : Int) - c.f) := by omega
      obtain ⟨f, hf⟩ : ∃ f : Int, (c.f : Int) = f := ⟨_, rfl⟩
      obtain ⟨g, hg⟩ : ∃ f : Int, (c.t : Int) = f := ⟨_, rfl⟩
      have HV1 : Hid (Upd q (2 * d) b o 161 t cs w (wr.alloc (.cells (CellsP c.f c.t c.s) 53)) cs') := v1
      have HR1 : Hid ((wr.alloc (.cells (CellsP c.f c.t c.s) 53)).heap[w.heap.size]? = some (.cells (Cells8 fun _ => 0) 23 (0, 0))) := by show _ = _; rw [Below.heap_alloc _ _ _ z1]; exact u2
      have z2 : w.heap.size < (wr.alloc (.cells (CellsP c.f c.t c.s) 53)).heap.size := by simp; omega
      rw [i6', hf, hg] at HR HSZ HRS HV1 HR1 z2
      rw [hf, hg] at hcmp
      obtain ⟨S1, hS1⟩ : ∃ S1, g - f = S1 := ⟨_, rfl⟩
      rw [hS1] at HSZ hcmp
      obtain ⟨wa, hwa⟩ : ∃ wa, wr.alloc (.cells (CellsP f g X) 53) = wa := ⟨_, rfl⟩
      have HWA : Hid (wr.alloc (.cells (CellsP f g X) 53) = wa) := hwa
      rw [hwa] at HRS HV1 HR1 z2
      subst i7'
      rw [hj]
      clear i1 i2 i3 i4 i5 i6 i7 i8 u1 u2 j1 j2 j3 j4 hlen hl2 hsp i5' b1 v1 rs1 hgt hf hg hS1 hj HI HU HINV hwa z1
      go_wp2_with (first | refine wpList_load_mid rfl 53 _ rfl b (o + j * 10) rfl (CellsP f g X).toList _ HR.out Try.underlying53 rfl (by kernel_rfl) ?_ | (go_at_call 38; refine (HSZ.out _).mono ?_; rintro e w' ⟨rfl, rfl⟩; rw [HWA.out]) | refine wpList_load_mid rfl 23 _ rfl b (o + j * 10 + 2) rfl (Cells8 X).toList _ HRS.out Try.underlying23 rfl (by kernel_rfl) ?_)
      have ba : Below wa.heap.size wa (wa.alloc (.cells (Cells8 X) 23)) := (Below.refl _ wa).alloc (Nat.le_refl _) _
      have va := HV1.out.below ba
      refine (HRM.out _ va.home).mono ?_
      rintro e w3 ⟨rfl, cs3, v3, hT3⟩
      have hbk : wa.heap.size ≠ b := by have := HV1.out.home.lt; omega
      have k3 : w3.heap[wa.heap.size]? = some (.cells (Cells8 X) 23 (0, 0)) := v3.other (MapKept.heap_alloc _ _).1 hbk (HV1.out.home.has.ne (Nat.le_refl _))
      have r3 : w3.heap[w.heap.size]? = some (.cells (Cells8 fun _ => 0) 23 (0, 0)) := v3.other (by rw [Below.heap_alloc _ _ _ z2]; exact HR1.out) (by omega) (HQ0.out.ne (Nat.le_refl _))
      have HV3 : Hid (Upd q (2 * d) b o 161 t cs w w3 cs3) := va.trans v3
      have HT3 : Hid (TreeAt cs3 o FIN) := hT3
      clear ba va v3 hT3 HRM HV1 HR1 HRS HR HSZ HWA z2
      go_wp2_with (first | refine wpList_load_row rfl 23 _ rfl wa.heap.size rfl 23 (Cells8 X) (0, 0) _ k3 Try.underlying23 rfl (by kernel_rfl) ?_ | refine wpList_store_row rfl 23 _ _ rfl w.heap.size (Cells8 X) rfl rfl 23 (Cells8 fun _ => 0) r3 (by kernel_rfl) rfl (Cells8_one _) ?_)
      exact bodyPost_ret (v := Agg8 X) (results_cell_row rfl _ _ w.heap.size 23 (Cells8 X) (0, 0) _ rfl (setRow_heap _ _ _ _ _ _ r3) Try.underlying23 rfl (by kernel_rfl)) rfl ⟨rfl, cs3, HV3.out.fresh hb HQ0.out (Nat.le_refl _) _, HT3.out⟩
    · -- a part of several
      obtain ⟨k, rfl⟩ : ∃ k, gk = k + 1 := ⟨gk - 1, by omega⟩
      have hbd := halves_bd c hgt
      have hlen15 : (A' ++ c :: B').length ≤ 15 := by
        have h1 := wide_len A' (fun x hx => i3 x (List.mem_append_left _ hx))
        have h2 := wide_len B' (fun x hx => i3 x (List.mem_append_right _ (List.mem_cons_of_mem _ hx)))
        rw [wide_append, wide_cons] at i4
        rw [List.length_append, List.length_cons]
        omega
      have HHV : Hid (∀ W, Home q b t cs' W → Calls Try.prog 39 #[.pointer (some ⟨b, o, none⟩), .int .i64 j, .func (.func F) pre #[]] W fun e w' => e = .returned (.tuple #[]) ∧ ∃ cs'', Upd q 2 b o 161 t cs' W w' cs'' ∧ TreeAt cs'' o (A' ++ c.left :: c.right :: B')) := fun W hW => by
        have := halve_any dv b o t cs' A' B' c W hW i1 (by omega) hlen15 HFF.out
        rw [hj] at this
        exact this
      -- what holds behind the halving
      have hmem : ∀ x ∈ A' ++ c.left :: c.right :: B', x.f < x.t := fun x hx => by
        rcases List.mem_append.1 hx with hx | hx
        · exact i3 x (List.mem_append_left _ hx)
        · rcases List.mem_cons.1 hx with rfl | hx
          · omega
          · rcases List.mem_cons.1 hx with rfl | hx
            · omega
            · exact i3 x (List.mem_append_right _ (List.mem_cons_of_mem _ hx))
      have hwide : wide (A' ++ c.left :: c.right :: B') ≤ 16 := by
        rw [wide_append, wide_cons] at i4
        rw [wide_append, wide_cons, wide_cons]
        omega
      have HNXT : Hid ((m < c.left.t → c.left.has m ∧ (A' ++ (c.left.spl k m).x ++ ((c.left.spl k m).y ++ (c.right :: B')) = FIN) ∧ (c.left.spl k m).s = X ∧ (d + 1) + (c.left.spl k m).d = D ∧ c.left.t - c.left.f ≤ k) ∧ (¬ m < c.left.t → c.right.has m ∧ ((A' ++ [c.left]) ++ (c.right.spl k m).x ++ ((c.right.spl k m).y ++ B') = FIN) ∧ (c.right.spl k m).s = X ∧ (d + 1) + (c.right.spl k m).d = D ∧ c.right.t - c.right.f ≤ k)) := by
        obtain ⟨e1, e2, e3, e4, e5⟩ := hbd
        refine ⟨fun hm => ?_, fun hm => ?_⟩
        · have hs := PartD.spl_left k c m hgt hm
          rw [hs] at i5 i6 i7
          refine ⟨⟨by rw [e3]; exact i2.1, hm⟩, ?_, i6, ?_, by omega⟩
          · rw [← i5]; simp
          · rw [← i7]; simp only; omega
        · have hs := PartD.spl_right k c m hgt hm
          rw [hs] at i5 i6 i7
          refine ⟨⟨by rw [e4]; omega, by rw [e5]; exact i2.2⟩, ?_, i6, ?_, by omega⟩
          · rw [← i5]; simp
          · rw [← i7]; simp only; omega
      have hdc : (decide ((c.left.f : Int) ≤ m ∧ (m : Int) < c.left.t)) = decide (m < c.left.t) := by
        have := i2.1
        have e3 := hbd.2.2.1
        by_cases hm : m < c.left.t
        · simp [hm]; omega
        · simp [hm]
      have HHAS : Hid (∀ W, Calls Try.prog 40 #[AggP c.left.f c.left.t c.left.s, .int .i64 m] W fun e w' => e = .returned (.bool (decide (m < c.left.t))) ∧ w' = W.alloc (.cells (CellsP c.left.f c.left.t c.left.s) 53)) := fun W => by rw [← hdc]; exact has_any c.left.f c.left.t c.left.s m W
      have HMORE : Hid ((∀ x ∈ A' ++ c.left :: c.right :: B', x.f < x.t) ∧ wide (A' ++ c.left :: c.right :: B') ≤ 16) := ⟨hmem, hwide⟩
      have b1 : Below wr.heap.size wr (wr.alloc (.cells (CellsP c.f c.t c.s) 53)) := (Below.refl _ wr).alloc (Nat.le_refl _) _
      have v1 := u1.below b1
      have HV1 : Hid (Upd q (2 * d) b o 161 t cs w (wr.alloc (.cells (CellsP c.f c.t c.s) 53)) cs') := v1
      have HR1 : Hid ((wr.alloc (.cells (CellsP c.f c.t c.s) 53)).heap[w.heap.size]? = some (.cells (Cells8 fun _ => 0) 23 (0, 0))) := by show _ = _; rw [Below.heap_alloc _ _ _ z1]; exact u2
      have hcmp : (1 : Int) < (c.t : Int) - c.f := by omega
      obtain ⟨f, hf⟩ : ∃ f : Int, (c.f : Int) = f := ⟨_, rfl⟩
      obtain ⟨g, hg⟩ : ∃ f : Int, (c.t : Int) = f := ⟨_, rfl⟩
      obtain ⟨x, hx⟩ : ∃ x, c.s = x := ⟨_, rfl⟩
      rw [hx, hf, hg] at HR HSZ HV1 HR1
      rw [hf, hg] at hcmp
      obtain ⟨S1, hS1⟩ : ∃ S1, g - f = S1 := ⟨_, rfl⟩
      rw [hS1] at HSZ hcmp
      obtain ⟨wa, hwa⟩ : ∃ wa, wr.alloc (.cells (CellsP f g x) 53) = wa := ⟨_, rfl⟩
      have HWA : Hid (wr.alloc (.cells (CellsP f g x) 53) = wa) := hwa
      rw [hwa] at HV1 HR1
      have HJ : Hid (A'.length = j) := hj
      have HL2 : Hid (j + (B'.length + 1) ≤ 16) := hl2
      rw [hj]
      clear i1 i2 i3 i4 i5 i6 i7 i8 u1 u2 j1 j2 j3 j4 hlen hl2 b1 v1 hgt hf hg hx hS1 hj HI HU HINV hwa z1 hmem hwide hdc hbd hlen15
      go_wp2_with (first | refine wpList_load_mid rfl 53 _ rfl b (o + j * 10) rfl (CellsP f g x).toList _ HR.out Try.underlying53 rfl (by kernel_rfl) ?_ | (go_at_call 38; refine (HSZ.out _).mono ?_; rintro e w' ⟨rfl, rfl⟩; rw [HWA.out]))
      refine (HHV.out _ HV1.out.home).mono ?_
      rintro e w3 ⟨rfl, cs3, v3, hT3⟩
      have HV3 : Hid (Upd q (2 * (d + 1)) b o 161 t cs w w3 cs3) := HV1.out.trans v3
      have hbw : w.heap.size ≠ b := by omega
      have HR3 : Hid (w3.heap[w.heap.size]? = some (.cells (Cells8 fun _ => 0) 23 (0, 0))) := v3.other HR1.out hbw (HQ0.out.ne (Nat.le_refl _))
      have HT3 : Hid (TreeAt cs3 o (A' ++ c.left :: c.right :: B')) := hT3
      have HRL : Hid (w3.rangeAt b (o + j * 10) (CellsP c.left.f c.left.t c.left.s).toList) := by
        have := hT3.part
        rw [HJ.out, Nat.mul_comm] at this
        exact v3.home.range this
      obtain ⟨l, hl⟩ : ∃ l, c.left = l := ⟨_, rfl⟩
      obtain ⟨r, hr⟩ : ∃ r, c.right = r := ⟨_, rfl⟩
      rw [hl] at HRL HHAS HNXT HMORE HT3
      rw [hr] at HNXT HMORE HT3
      obtain ⟨wb, hwb⟩ : ∃ wb, w3.alloc (.cells (CellsP l.f l.t l.s) 53) = wb := ⟨_, rfl⟩
      have bb : Below w3.heap.size w3 wb := by rw [← hwb]; exact (Below.refl _ w3).alloc (Nat.le_refl _) _
      have HVB : Hid (Upd q (2 * (d + 1)) b o 161 t cs w wb cs3) := HV3.out.below bb
      have HRB : Hid (wb.heap[w.heap.size]? = some (.cells (Cells8 fun _ => 0) 23 (0, 0))) := by show _ = _; rw [bb.block _ (Array.getElem?_eq_some_iff.1 HR3.out).1]; exact HR3.out
      have HWB : Hid (w3.alloc (.cells (CellsP l.f l.t l.s) 53) = wb) := hwb
      obtain ⟨lf, hlf⟩ : ∃ f : Int, (l.f : Int) = f := ⟨_, rfl⟩
      obtain ⟨lg, hlg⟩ : ∃ f : Int, (l.t : Int) = f := ⟨_, rfl⟩
      obtain ⟨lx, hlx⟩ : ∃ x, l.s = x := ⟨_, rfl⟩
      rw [hlf, hlg, hlx] at HRL HHAS HWB
      clear v3 hT3 HV3 HR3 hl hr hwb bb hlf hlg hlx HHV HV1 HR1 HR HSZ HWA
      by_cases hm : m < l.t
      · have hmd : decide (m < l.t) = true := by simp [hm]
        obtain ⟨n1, n2, n3, n4, n5⟩ := HNXT.out.1 hm
        have HREL : Hid (TreeAt cs3 o (A' ++ l :: (r :: B')) ∧ l.has m ∧ (∀ x ∈ A' ++ l :: (r :: B'), x.f < x.t) ∧ wide (A' ++ l :: (r :: B')) ≤ 16 ∧ (A' ++ (l.spl k m).x ++ ((l.spl k m).y ++ (r :: B')) = FIN) ∧ (l.spl k m).s = X ∧ (d + 1) + (l.spl k m).d = D ∧ l.t - l.f ≤ k) := ⟨HT3.out, n1, HMORE.out.1, HMORE.out.2, n2, n3, n4, n5⟩
        rw [hmd] at HHAS
        clear n1 n2 n3 n4 n5 HNXT HMORE HT3 hm hmd
        go_wp2_with (first | refine wpList_load_mid rfl 53 _ rfl b (o + j * 10) rfl (CellsP lf lg lx).toList _ HRL.out Try.underlying53 rfl (by kernel_rfl) ?_ | (go_at_call 40; refine (HHAS.out _).mono ?_; rintro e w' ⟨rfl, rfl⟩; rw [HWB.out]))
        go_roundg k
        case measure => omega
        case rel => exact ⟨A', r :: B', l, cs3, d + 1, by rw [HJ.out], ⟨HVB.out, HRB.out⟩, HREL.out⟩
      · have hmd : decide (m < l.t) = false := by simp [hm]
        obtain ⟨n1, n2, n3, n4, n5⟩ := HNXT.out.2 hm
        have he : A' ++ l :: r :: B' = (A' ++ [l]) ++ r :: B' := by simp
        have HREL : Hid (TreeAt cs3 o ((A' ++ [l]) ++ r :: B') ∧ r.has m ∧ (∀ x ∈ (A' ++ [l]) ++ r :: B', x.f < x.t) ∧ wide ((A' ++ [l]) ++ r :: B') ≤ 16 ∧ ((A' ++ [l]) ++ (r.spl k m).x ++ ((r.spl k m).y ++ B') = FIN) ∧ (r.spl k m).s = X ∧ (d + 1) + (r.spl k m).d = D ∧ r.t - r.f ≤ k) := by
          refine ⟨?_, n1, ?_, ?_, n2, n3, n4, n5⟩
          · rw [← he]; exact HT3.out
          · rw [← he]; exact HMORE.out.1
          · rw [← he]; exact HMORE.out.2
        have hjl : (A' ++ [l]).length = j + 1 := by rw [List.length_append, HJ.out]; rfl
        have HJL : Hid ((A' ++ [l]).length = j + 1) := hjl
        have hwj : wrap64 ((j : Int) + 1) = ((j + 1 : Nat) : Int) := by have := HL2.out; simp only [wrap64]; omega
        rw [hmd] at HHAS
        clear n1 n2 n3 n4 n5 HNXT HMORE HT3 hm hmd he hjl
        go_wp2_with (first | refine wpList_load_mid rfl 53 _ rfl b (o + j * 10) rfl (CellsP lf lg lx).toList _ HRL.out Try.underlying53 rfl (by kernel_rfl) ?_ | (go_at_call 40; refine (HHAS.out _).mono ?_; rintro e w' ⟨rfl, rfl⟩; rw [HWB.out]))
        go_roundg k
        case measure => omega
        case rel => exact ⟨A' ++ [l], B', r, cs3, d + 1, by rw [HJL.out, hwj], ⟨HVB.out, HRB.out⟩, HREL.out⟩
end Go.Proofs.Ytkpebabbnndopaa
