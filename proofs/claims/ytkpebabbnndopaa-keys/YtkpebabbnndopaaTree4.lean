/- find, remove. -/
import Derived.Test.YtkpebabbnndopaaTree3
import Derived.WalkKit
import Derived.WalkSpells
import Derived.WalkLawsBesides
import Derived.Deep.WholeRow
import Derived.Deep.MidRow
import Derived.Deep.DeepCutAuto
import Derived.BigRegion
namespace Go.Proofs.Ytkpebabbnndopaa
open Go.RowKit
set_option linter.unusedVariables false

theorem find_any (q : Option Nat) (b o : Nat) (t : TypeId) (cs : Array Value) (L : List PartD) (m k : Nat) (hk : k < L.length) (hkm : L[k].f ≤ m ∧ m < L[k].t) (hbef : ∀ i (hi : i < k), ¬ (L[i].f ≤ m ∧ m < L[i].t)) (w : World) (h : Home q b t cs w) (hT : TreeAt cs o L) :
    Calls Try.prog 37 #[.pointer (some ⟨b, o, none⟩), .int .i64 m] w fun e w' => e = .returned (.int .i64 k) ∧ Below w.heap.size w w' := by
  have HK : Hid (∀ W, W.cell? ⟨b, o + 160, none⟩ = some (.int .i64 L.length) → Calls Try.prog 45 #[.pointer (some ⟨b, o, none⟩)] W fun e w' => e = .returned (.slice (some ⟨b, o, none⟩) L.length 16) ∧ Below W.heap.size W w') := fun W hW => kept_any b o L.length hT.len W hW
  have HI : Hid (∀ mb W, W.rangeAt b o (pcells L) → b < W.heap.size → W.cell? ⟨mb, 0, none⟩ = some (.int .i64 m) → mb < W.heap.size → Calls Try.prog 44 #[.slice (some ⟨b, o, none⟩) L.length 16, .func (.func 46) #[] #[.pointer (some ⟨mb, 0, none⟩)]] W fun e w' => e = .returned (.int .i64 k) ∧ Below W.heap.size W w') :=
    fun mb W h1 h2 h3 h4 => indexFunc_any b o L hT.len m mb k hk hkm hbef W h1 h2 h3 h4
  have HH : Hid (Home q b t cs w) := h
  have HT : Hid (TreeAt cs o L) := hT
  clear h hT hkm hbef
  have hmf : ∀ (fn : Fn) (first cap : Array Value) (w : World), (Instr.makeFunc fn first cap).run Try.prog w = .ok (.func fn first cap) w := fun _ _ _ _ => rfl
  go_enter Try.func37, Try.ntmps37
  go_wp2_with fail
  have H1 : Hid (Home q b t cs (w.alloc (.cells #[.int .i64 m] 3))) := HH.out.below ((Below.refl _ _).alloc (Nat.le_refl _) _)
  refine (HK.out _ (by rw [H1.out.cells.1]; exact HT.out.count)).mono ?_
  rintro e w1 ⟨rfl, b1⟩
  have H2 : Hid (Home q b t cs w1) := H1.out.below b1
  have HM : Hid (w1.cell? ⟨w.heap.size, 0, none⟩ = some (.int .i64 m)) := by
    show _ = _
    rw [b1.cell (p := ⟨w.heap.size, 0, none⟩) (by simp)]
    rw [cell_of_row _ _ _ _ _ _ (MapKept.heap_alloc w (.cells #[.int .i64 m] 3)).1]
    rfl
  have d1 : Below w.heap.size w w1 := ((Below.refl _ w).alloc (Nat.le_refl _) _).trans (b1.mono (by simp))
  have z1 := b1.size
  simp only [World.size_alloc] at z1
  clear b1
  go_wp2_with fail
  refine (HI.out w.heap.size _ (H2.out.range HT.out.parts) H2.out.lt HM.out (by omega)).mono ?_
  rintro e w2 ⟨rfl, b2⟩
  have d2 := d1.trans (b2.mono (by omega))
  clear b2 d1
  go_wp2_with fail
  go_ret
  exact ⟨rfl, d2⟩

/-- what is left of the tree's row behind a copy of the parts from i on, laid over those from j on -/
theorem run_copy_parts (q : Option Nat) (b o : Nat) (t : TypeId) (cs : Array Value) (w : World) (h : Home q b t cs w) (i j : Nat) (M : List PartD) (hM : AtL cs (o + i * 10) (pcells M)) (hj : j + M.length ≤ 16) (hs : o + 160 ≤ cs.size) (dc sc : Nat) (ty : TypeId) :
    (Builtin.copy_ #[80, 80] ty #[.slice (some ⟨b, o + j * 10, none⟩) (16 - j) dc, .slice (some ⟨b, o + i * 10, none⟩) M.length sc]).run Try.prog w = .ok (goInt M.length) (w.setCells b (o + j * 10) (pcells M)) := by
  have hmin : Nat.min M.length (16 - j) = M.length := Nat.min_eq_left (by omega)
  have hr := run_copyW (P := Try.prog) w 80 80 ty 53 10 b (o + j * 10) (16 - j) dc ⟨b, o + i * 10, none⟩ M.length sc (pcells M) Try.underlying80 (by kernel_rfl) (by rw [hmin, pcells_len, Nat.mul_comm])
    (fun k v hv => by rw [Addr.add_mid, h.cells.1]; exact hM k v hv) (fun k hk => by
      rw [pcells_len] at hk
      rw [h.cells.1, Array.getElem?_eq_getElem (by omega)]; rfl) (fun k _ => h.cells.2 _) (pcells_one M)
  rw [hmin] at hr
  exact hr
def zpart : PartD := ⟨0, 0, fun _ => 0⟩
theorem zero_parts : ∀ n, n ≤ 16 → (Builtin.zeroCells (AggP 0 0 fun _ => 0).cells n).toList = pcells (List.replicate n zpart) := by
  have h : ∀ n : Fin 17, (Builtin.zeroCells (AggP 0 0 fun _ => 0).cells n.val).toList = pcells (List.replicate n.val zpart) := by
    intro n
    rcases n with ⟨n, hn⟩
    rcases n with _ | _ | _ | _ | _ | _ | _ | _ | _ | _ | _ | _ | _ | _ | _ | _ | _ | n <;> first | omega | kernel_rfl
  exact fun n hn => h ⟨n, by omega⟩
theorem zeroPart : ∀ w, (zeroValue 53).run Try.prog w = .ok (AggP 0 0 fun _ => 0) w := fun w => by kernel_rfl
theorem run_clear_parts (q : Option Nat) (b o : Nat) (t : TypeId) (cs : Array Value) (w : World) (h : Home q b t cs w) (j : Nat) (hj : j < 16) (hs : o + 160 ≤ cs.size) (dc : Nat) (ty : TypeId) :
    (Builtin.clear_ #[80] ty #[.slice (some ⟨b, o + j * 10, none⟩) (16 - j) dc]).run Try.prog w = .ok (.tuple #[]) (w.setCells b (o + j * 10) (pcells (List.replicate (16 - j) zpart))) := by
  have hr := run_clearW (P := Try.prog) w 80 53 ty (AggP 0 0 fun _ => 0) Try.underlying80 zeroPart b (o + j * 10) (16 - j) dc (by omega)
  rw [zero_parts _ (by omega)] at hr
  refine hr (pcells_one _) (fun k hk => ?_) (fun k _ => h.cells.2 _)
  rw [pcells_len, List.length_replicate] at hk
  rw [h.cells.1, Array.getElem?_eq_getElem (by omega)]; rfl
theorem slice_from (b o j : Nat) (hj : j < 16) : ∀ W, (Instr.sliceAt 54 (.pointer (some ⟨b, o, none⟩)) (some (.int .i64 j)) none none).run Try.prog W = .ok (.slice (some ⟨b, o + j * 10, none⟩) (16 - j) (16 - j)) W := fun W => by
  have h0 : (0 : Int) ≤ j := by omega
  have h1 : (j : Int) ≤ 16 := by omega
  have h2 : ¬ (16 = j) := by omega
  simp [go_sem, h0, h1, h2]
theorem slice_upto (b o j n : Nat) (hj : j ≤ n) (hn : n ≤ 16) : ∀ W, (Instr.sliceAt 54 (.pointer (some ⟨b, o, none⟩)) (some (.int .i64 j)) (some (.int .i64 n)) none).run Try.prog W = .ok (.slice (some (if 16 = j then ⟨b, o, none⟩ else ⟨b, o + j * 10, none⟩)) (n - j) (16 - j)) W := fun W => by
  have h0 : (0 : Int) ≤ j := by omega
  have h1 : (j : Int) ≤ n := by omega
  have h2 : (n : Int) ≤ 16 := by omega
  by_cases e : 16 = j
  · obtain rfl : j = 16 := e.symm
    obtain rfl : n = 16 := by omega
    simp [go_sem]
  · simp [go_sem, h0, h1, h2, e]

set_option maxHeartbeats 4000000 in
theorem remove_any (q : Option Nat) (b o : Nat) (t : TypeId) (cs : Array Value) (A B : List PartD) (p : PartD) (w : World) (h : Home q b t cs w) (hT : TreeAt cs o (A ++ p :: B)) (hf : q ≠ none → o + 161 ≤ ctrOff) :
    Calls Try.prog 41 #[.pointer (some ⟨b, o, none⟩), .int .i64 A.length] w fun e w' => e = .returned (.tuple #[]) ∧ ∃ cs', Upd q 0 b o 161 t cs w w' cs' ∧ TreeAt cs' o (A ++ B) := by
  have hlen := hT.len
  rw [List.length_append, List.length_cons] at hlen
  have hsz := hT.size
  obtain ⟨i, hi⟩ : ∃ i, A.length = i := ⟨_, rfl⟩
  obtain ⟨r, hr⟩ : ∃ r, B.length = r := ⟨_, rfl⟩
  have hcount : cs[o + 160]? = some (.int .i64 ((i + r + 1 : Nat) : Int)) := by
    rw [hT.count, List.length_append, List.length_cons, hi, hr]; rfl
  rw [hi, hr] at hlen
  have hB : AtL cs (o + (i + 1) * 10) (pcells B) := by
    have h1 := hT.parts
    rw [pcells_append, pcells_cons, ← List.append_assoc] at h1
    have h2 := (AtL.append.1 h1).2
    rw [List.length_append, pcells_len, PartD.cells_len, hi] at h2
    rwa [show o + (i + 1) * 10 = o + (10 * i + 10) by omega]
  have hA : AtL cs o (pcells A) := by
    have h1 := hT.parts
    rw [pcells_append] at h1
    exact (AtL.append.1 h1).1
  -- the copy
  obtain ⟨sa, hsa⟩ : ∃ sa : Addr, (if 16 = i + 1 then ⟨b, o, none⟩ else ⟨b, o + (i + 1) * 10, none⟩) = sa := ⟨_, rfl⟩
  have hc1 : ∀ dc sc ty, (Builtin.copy_ #[80, 80] ty #[.slice (some ⟨b, o + i * 10, none⟩) (16 - i) dc, .slice (some sa) r sc]).run Try.prog w.drew = .ok (goInt r) (w.drew.setCells b (o + i * 10) (pcells B)) := fun dc sc ty => by
    by_cases e : 16 = i + 1
    · obtain rfl : B = [] := List.eq_nil_of_length_eq_zero (by omega)
      have hk := run_copy_parts q b o t cs w.drew h.drew 0 i [] (fun j v hv => by simp [pcells] at hv) (by omega) (by omega) dc sc ty
      rw [if_pos e] at hsa
      rw [← hsa, ← hr]
      rw [show o + 0 * 10 = o by omega] at hk
      exact hk
    · have hk := run_copy_parts q b o t cs w.drew h.drew (i + 1) i B hB (by omega) (by omega) dc sc ty
      rw [hr] at hk
      rw [if_neg e] at hsa
      rw [← hsa]
      exact hk
  have hu1 : Upd q 0 b o 161 t cs w (w.drew.setCells b (o + i * 10) (pcells B)) (putL cs (o + i * 10) (pcells B)) :=
    ((Upd.refl h o 161).below (Below.refl _ _).drew).setCells hf _ _ (by omega) (by rw [pcells_len, hr]; omega) (pcells_all _)
  obtain ⟨cs1, hcs1⟩ : ∃ cs1, putL cs (o + i * 10) (pcells B) = cs1 := ⟨_, rfl⟩
  obtain ⟨w1, hw1⟩ : ∃ w1, w.drew.setCells b (o + i * 10) (pcells B) = w1 := ⟨_, rfl⟩
  have hT1 : AtL cs1 o (pcells (A ++ B)) := by
    rw [← hcs1, pcells_append]
    refine AtL.append.2 ⟨hA.putOther _ _ (.inr (by rw [pcells_len, hi]; omega)), ?_⟩
    rw [pcells_len, hi, show o + 10 * i = o + i * 10 by omega]
    exact putL_at _ _ _ (by rw [pcells_len, hr]; omega)
  have hcnt1 : cs1[o + 160]? = some (.int .i64 ((i + r + 1 : Nat) : Int)) := by
    rw [← hcs1, putL_out _ _ _ _ (.inr (by rw [pcells_len, hr]; omega)), hcount]
  rw [hcs1, hw1] at hu1
  rw [hw1] at hc1
  have hsz1 : cs1.size = cs.size := by rw [← hcs1, putL_size]
  clear hcs1 hw1
  -- the count
  obtain ⟨w2, hw2⟩ : ∃ w2, w1.setCell ⟨b, o + 160, none⟩ (.int .i64 ((i + r : Nat) : Int)) = w2 := ⟨_, rfl⟩
  have hu2 : Upd q 0 b o 161 t cs w w2 (cs1.setIfInBounds (o + 160) (.int .i64 ((i + r : Nat) : Int))) := by rw [← hw2]; exact hu1.setCell hf (o + 160) (by omega) (by omega) _
  obtain ⟨cs2, hcs2⟩ : ∃ cs2, cs1.setIfInBounds (o + 160) (.int .i64 ((i + r : Nat) : Int)) = cs2 := ⟨_, rfl⟩
  have hT2 : AtL cs2 o (pcells (A ++ B)) := fun j v hv => by
    have hj := (List.getElem?_eq_some_iff.1 hv).1
    rw [pcells_len, List.length_append, hi, hr] at hj
    rw [← hcs2, Array.getElem?_setIfInBounds, if_neg (by omega)]
    exact hT1 j v hv
  have hcnt2 : cs2[o + 160]? = some (.int .i64 ((i + r : Nat) : Int)) := by rw [← hcs2, Array.getElem?_setIfInBounds, if_pos rfl, if_pos (by omega)]
  have hsz2 : cs2.size = cs.size := by rw [← hcs2, Array.size_setIfInBounds, hsz1]
  rw [hcs2] at hu2
  clear hcs2
  -- what is cleared
  have hc3 := fun dc ty => run_clear_parts q b o t cs2 w2.drew hu2.home.drew (i + r) (by omega) (by omega) dc ty
  have hu3 : Upd q 0 b o 161 t cs w (w2.drew.setCells b (o + (i + r) * 10) (pcells (List.replicate (16 - (i + r)) zpart))) (putL cs2 (o + (i + r) * 10) (pcells (List.replicate (16 - (i + r)) zpart))) :=
    (hu2.below (Below.refl _ _).drew).setCells hf _ _ (by omega) (by rw [pcells_len, List.length_replicate]; omega) (pcells_all _)
  have hT3 : TreeAt (putL cs2 (o + (i + r) * 10) (pcells (List.replicate (16 - (i + r)) zpart))) o (A ++ B) := by
    refine ⟨by rw [List.length_append, hi, hr]; omega, hT2.putOther _ _ (.inr (by rw [pcells_len, List.length_append, hi, hr]; omega)), ?_, fun x hx => hT.ok x ?_⟩
    · rw [putL_out _ _ _ _ (.inr (by rw [pcells_len, List.length_replicate]; omega)), hcnt2, List.length_append, hi, hr]
    · rcases List.mem_append.1 hx with hx | hx
      · exact List.mem_append_left _ hx
      · exact List.mem_append_right _ (List.mem_cons_of_mem _ hx)
  obtain ⟨cs3, hcs3⟩ : ∃ cs3, putL cs2 (o + (i + r) * 10) (pcells (List.replicate (16 - (i + r)) zpart)) = cs3 := ⟨_, rfl⟩
  obtain ⟨w3, hw3⟩ : ∃ w3, w2.drew.setCells b (o + (i + r) * 10) (pcells (List.replicate (16 - (i + r)) zpart)) = w3 := ⟨_, rfl⟩
  rw [hcs3, hw3] at hu3
  rw [hcs3] at hT3
  rw [hw3] at hc3
  clear hcs3 hw3
  have HU : Hid (Upd q 0 b o 161 t cs w w3 cs3) := hu3
  have HT3 : Hid (TreeAt cs3 o (A ++ B)) := hT3
  have s1 := slice_from b o i (by omega)
  have s2 := slice_upto b o (i + 1) (i + r + 1) (by omega) (by omega)
  rw [hsa, show i + r + 1 - (i + 1) = r by omega] at s2
  have s3 := slice_from b o (i + r) (by omega)
  have k0 : w.cell? ⟨b, o + 160, none⟩ = some (.int .i64 ((i + r + 1 : Nat) : Int)) := by rw [h.cells.1, hcount]
  have k1 : w1.cell? ⟨b, o + 160, none⟩ = some (.int .i64 ((i + r + 1 : Nat) : Int)) := by rw [hu1.home.cells.1, hcnt1]
  have k1f := hu1.home.cells.2
  have k2 : w2.cell? ⟨b, o + 160, none⟩ = some (.int .i64 ((i + r : Nat) : Int)) := by rw [hu2.home.cells.1, hcnt2]
  have hw2' : w1.setCell ⟨b, o + 160, none⟩ (.int .i64 ((i + r : Nat) : Int)) = w2 := hw2
  rw [hi]
  obtain ⟨I, hI⟩ : ∃ I : Int, ((i : Nat) : Int) = I := ⟨_, rfl⟩
  obtain ⟨J, hJ⟩ : ∃ J : Int, ((i + 1 : Nat) : Int) = J := ⟨_, rfl⟩
  obtain ⟨C, hC⟩ : ∃ C : Int, ((i + r + 1 : Nat) : Int) = C := ⟨_, rfl⟩
  obtain ⟨D, hD⟩ : ∃ D : Int, ((i + r : Nat) : Int) = D := ⟨_, rfl⟩
  have a1 : IntKind.i64.wrap (I + 1) = J := by rw [IntKind.wrap_i64]; omega
  have a2 : wrap64 (I + 1) = J := by simp only [wrap64]; omega
  have a3 : IntKind.i64.wrap (C - 1) = D := by rw [IntKind.wrap_i64]; omega
  have a4 : wrap64 (C - 1) = D := by simp only [wrap64]; omega
  rw [hI] at s1 ⊢
  rw [hJ, hC] at s2
  rw [hD] at s3 k2 hw2'
  rw [hC] at k0 k1
  clear hI hJ hC hD
  clear hw2 hT hcount hB hA hu1 hT1 hcnt1 hu2 hT2 hcnt2 hu3 hT3 h hf hsz hsz1 hsz2 hlen hi hr hsa
  go_enter Try.func41, Try.ntmps41
  go_wp2_with fail
  go_region
  all_goals
    go_wp2_with fail
    go_region
    all_goals
      go_wp2_with fail
      go_end0
      exact ⟨rfl, cs3, HU.out, HT3.out⟩
end Go.Proofs.Ytkpebabbnndopaa
