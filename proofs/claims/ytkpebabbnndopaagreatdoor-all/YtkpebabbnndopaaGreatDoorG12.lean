import Derived.Test.YtkpebabbnndopaaGreatDoorC12
import Derived.Test.YtkpebabbnndopaaGreatDoorG01
import Derived.WalkKit
import Derived.WalkSpells
import Derived.WalkLawsBesides
import Derived.Deep.WholeRow
import Derived.Deep.MidRow
import Derived.Deep.LoopGhost
/- slices.DeleteFunc of places: those of one member stay. -/
namespace Go.Proofs.YtkpebabbnndopaaGreatDoor
open Go.RowKit
set_option linter.unusedVariables false
set_option linter.unusedSimpArgs false
set_option linter.unnecessarySimpa false

theorem wrap_succ (j : Nat) (h : (j : Int) < 1000000000) : wrap64 ((j : Int) + 1) = ((j + 1 : Nat) : Int) := by simp only [wrap64]; omega
def ofM (M : Int) (xs : List PlI) : List PlI := xs.filter fun x => decide (x.1 = M)
theorem first_other (M : Int) (xs : List PlI) : ∃ k, k ≤ xs.length ∧ (∀ hl : k < xs.length, xs[k].1 ≠ M) ∧ ∀ i (hi : i < xs.length), i < k → xs[i].1 = M := by
  induction xs with
  | nil => exact ⟨0, Nat.le_refl _, fun h => (by cases h), fun i hi => (by cases hi)⟩
  | cons x r ih =>
    by_cases e : x.1 = M
    · obtain ⟨k, h1, h2, h3⟩ := ih
      refine ⟨k + 1, by simpa using h1, fun hl => by simpa using h2 (by simpa using hl), fun i hi hk => ?_⟩
      cases i with
      | zero => exact e
      | succ i => simpa using h3 i (by simpa using hi) (by omega)
    · exact ⟨0, Nat.zero_le _, fun _ => e, fun i _ h => by omega⟩
theorem ofM_all (M : Int) (xs : List PlI) (h : ∀ i (hi : i < xs.length), xs[i].1 = M) : ofM M xs = xs := by
  unfold ofM
  rw [List.filter_eq_self]
  intro x hx
  obtain ⟨i, hi, rfl⟩ := List.mem_iff_getElem.1 hx
  simp [h i hi]
theorem clearP (g n m : Nat) (w : World) (h : ∀ j, j < m * 2 → (w.cell? ⟨g, n * 2 + j, none⟩).isSome = true) (hz : ∀ i, w.frozen? ⟨g, i, none⟩ = false) (hm : 0 < m) (ty : TypeId) (c : Nat) :
    ∃ l, (Builtin.clear_ #[131] ty #[.slice (some ⟨g, n * 2, none⟩) m c]).run Tryz.prog w = .ok (.tuple #[]) (w.setCells g (n * 2) l) := by
  have hv : ∀ w, (zeroValue 123).run Tryz.prog w = .ok (.agg #[.int .i64 0, .int .i64 0]) w := fun w => by kernel_rfl
  have hl : (Builtin.zeroCells #[Value.int .i64 0, .int .i64 0] m).toList.length = m * 2 := by
    rw [Array.length_toList, size_zeroCells]
    rfl
  refine ⟨_, run_clearW (P := Tryz.prog) w 131 123 ty (.agg #[.int .i64 0, .int .i64 0]) Tryz.underlying131 hv g (n * 2) m c hm ?_ (fun j hj => h j (by rw [← hl]; exact hj)) (fun j _ => hz _)⟩
  intro v hv2
  simp only [Value.cells, Builtin.zeroCells, Array.toList_map, List.mem_map] at hv2
  obtain ⟨i, _, rfl⟩ := hv2
  have h2 : i % 2 = 0 ∨ i % 2 = 1 := by omega
  rcases h2 with e | e
  · show (#[Value.int .i64 0, .int .i64 0][i % 2]!).oneCell' = true
    rw [e]; rfl
  · show (#[Value.int .i64 0, .int .i64 0][i % 2]!).oneCell' = true
    rw [e]; rfl
set_option maxHeartbeats 4000000 in
theorem delP_any (g cap : Nat) (xs : List PlI) (hlen : xs.length ≤ 100000) (M : Int) (mb : Nat) (hmg : mb ≠ g) (w : World) (h : RowP w g cap xs) (hm : w.cell? ⟨mb, 0, none⟩ = some (.int .i64 M)) :
    Calls Tryz.prog 184 #[.slice (some ⟨g, 0, none⟩) xs.length cap, .func (.func 185) #[] #[.pointer (some ⟨mb, 0, none⟩)]] w fun e w' => e = .returned (.slice (some ⟨g, 0, none⟩) (ofM M xs).length cap) ∧ Outside [g] w w' ∧ RowP w' g cap (ofM M xs) := by
  obtain ⟨k, hk1, hk2, hk3⟩ := first_other M xs
  have HIX0 := idxP_any g cap xs hlen M mb w h hm k hk1 hk2 (fun i hi => hk3 i (by omega) hi)
  have hmb := block_lt_of_cell hm
  have hgl := h.lt
  have hcap := h.le
  have hleni : (xs.length : Int) ≤ 100000 := by omega
  clear hlen
  by_cases hkl : k < xs.length
  · rw [if_pos hkl] at HIX0
    have HIX : Hid (Calls Tryz.prog 187 #[.slice (some ⟨g, 0, none⟩) xs.length cap, .func (.func 185) #[] #[.pointer (some ⟨mb, 0, none⟩)]] w fun e w' => e = .returned (.int .i64 (k : Int)) ∧ Below w.heap.size w w') := HIX0
    have HF : Hid (∀ (x : PlI) W, W.cell? ⟨mb, 0, none⟩ = some (.int .i64 M) → Calls Tryz.prog 185 #[encP x, .pointer (some ⟨mb, 0, none⟩)] W fun e w' => e = .returned (.bool (decide (x.1 ≠ M))) ∧ Below W.heap.size W w') := fun x W hW => other_any x M mb W hW
    have HST : Hid ((xs.take k).length = k ∧ ofM M (xs.take (k + 1)) = xs.take k) := by
      refine ⟨by rw [List.length_take]; omega, ?_⟩
      rw [List.take_succ_eq_append_getElem hkl]
      unfold ofM
      rw [List.filter_append]
      have e1 : (xs.take k).filter (fun x => decide (x.1 = M)) = xs.take k := ofM_all M (xs.take k) (fun i hi => by
        rw [List.length_take] at hi
        rw [List.getElem_take]
        exact hk3 i (by omega) (by omega))
      rw [e1]
      simp [hk2 hkl]
    have HR : Hid (RowP w g cap xs) := h
    have HM : Hid (w.cell? ⟨mb, 0, none⟩ = some (.int .i64 M)) := hm
    have hkn2 : ((k : Int) == -1) = false := by
      have : ¬ ((k : Int) = -1) := by omega
      simp [this]
    clear HIX0 hk2 hk3 h hm
    go_enter Tryz.func184, Tryz.ntmps184
    go_wp2_with fail
    refine HIX.out.mono ?_
    rintro e w1 ⟨rfl, b1⟩
    have HB1 : Hid (Below w.heap.size w w1) := b1
    clear b1 HIX
    go_wp2_with fail
    go_loopg [5, 6] (xs.length - (k + 1)) (fun r v5 v6 wr => ∃ (i j : Nat) (zs : List PlI), v5 = .int .i64 i ∧ v6 = .int .i64 j ∧ j + r = xs.length ∧ i < j ∧ zs.length = xs.length ∧ Hid (Outside [g] w wr ∧ RowP wr g cap zs ∧ zs.take i = ofM M (xs.take j) ∧ (∀ l (hl : l < xs.length), j ≤ l → zs[l]? = some xs[l])))
    case atStart =>
      refine ⟨k, k + 1, xs, rfl, by go_num, by omega, by omega, rfl, Outside.ofBelow HB1.out, HR.out.keep (HB1.out.block g hgl), HST.out.2.symm, fun l hl _ => List.getElem?_eq_getElem hl⟩
    case round =>
      obtain ⟨i, j, zs, rfl, rfl, hjr, hij, hzl, hX⟩ := hrel
      by_cases hjl : j < xs.length
      · have hlt : (j : Int) < (xs.length : Int) := by omega
        obtain ⟨o1, r1, t1, d1⟩ := hX.out
        have hzj : zs[j]'(by omega) = xs[j] := by
          have := d1 j hjl (Nat.le_refl _)
          rw [List.getElem?_eq_getElem (by omega)] at this
          exact Option.some.inj this
        have HR1 : Hid (wr.rangeAt g (j * 2) [.int .i64 xs[j].1, .int .i64 xs[j].2]) := by
          have := r1.range j (by omega)
          rw [hzj] at this
          exact this
        have HM1 : Hid (wr.cell? ⟨mb, 0, none⟩ = some (.int .i64 M)) := by
          have e := o1.block mb hmb (by simpa using hmg)
          have := HM.out
          unfold World.cell? at this ⊢
          show _ = _
          rw [show (⟨mb, 0, none⟩ : Addr).block = mb from rfl] at this ⊢
          rw [e]
          exact this
        have htk : xs.take (j + 1) = xs.take j ++ [xs[j]] := List.take_succ_eq_append_getElem hjl
        have HTK : Hid (ofM M (xs.take (j + 1)) = ofM M (xs.take j) ++ (if xs[j].1 = M then [xs[j]] else [])) := by
          show _ = _
          rw [htk]
          unfold ofM
          rw [List.filter_append]
          by_cases e : xs[j].1 = M <;> simp [e]
        obtain ⟨x, hx⟩ : ∃ x, xs[j] = x := ⟨_, rfl⟩
        rw [hx] at HR1 HTK
        have HF1 := HF.out x
        have mb2 : mb < wr.heap.size := by have := o1.size; omega
        have hgr : g < wr.heap.size := r1.lt
        obtain ⟨a, ha⟩ : ∃ a, x.1 = a := ⟨_, rfl⟩
        obtain ⟨c, hc⟩ : ∃ a, x.2 = a := ⟨_, rfl⟩
        obtain ⟨wa, hwa⟩ : ∃ wa, wr.alloc (.cells #[.int .i64 a, .int .i64 c] 123) = wa := ⟨_, rfl⟩
        have ba : Below wr.heap.size wr wa := by rw [← hwa]; exact (Below.refl _ wr).alloc (Nat.le_refl _) _
        have ka : wa.heap[wr.heap.size]? = some (.cells #[.int .i64 a, .int .i64 c] 123 (0, 0)) := by rw [← hwa]; exact (MapKept.heap_alloc _ _).1
        have hAa : ∀ o, wa.cell? ⟨wr.heap.size, o, none⟩ = #[Value.int .i64 a, .int .i64 c][o]? := fun o => cell_of_row _ _ _ _ _ _ ka
        have HMa : Hid (wa.cell? ⟨mb, 0, none⟩ = some (.int .i64 M)) := by show _ = _; rw [ba.cell (p := ⟨mb, 0, none⟩) mb2]; exact HM1.out
        have HWA : Hid (wr.alloc (.cells #[.int .i64 a, .int .i64 c] 123) = wa) := hwa
        have HKA : Hid (wa.heap[wr.heap.size]? = some (.cells #[.int .i64 a, .int .i64 c] 123 (0, 0)) ∧ Below wr.heap.size wr wa) := ⟨ka, ba⟩
        have HF2 : Hid (Calls Tryz.prog 185 #[.agg #[.int .i64 a, .int .i64 c], .pointer (some ⟨mb, 0, none⟩)] wa fun e w' => e = .returned (.bool (decide (a ≠ M))) ∧ Below wa.heap.size wa w') := by
          have := HF1 wa HMa.out
          rw [← ha, ← hc]
          exact this
        rw [ha, hc] at HR1
        have HXA : Hid (x.1 = a ∧ x.2 = c) := ⟨ha, hc⟩
        rw [ha] at HTK
        clear ha hc HF1 hx htk o1 r1 t1 d1 hzj hwa ba ka
        by_cases hkeep : a = M
        · have hd : decide (a ≠ M) = false := by simp [hkeep]
          rw [hd] at HF2
          rw [if_pos hkeep] at HTK
          have HKE : Hid (a = M) := hkeep
          clear hkeep hd
          go_wp2_with (first | refine wpList_load_mid rfl 123 _ rfl g (j * 2) rfl [.int .i64 a, .int .i64 c] _ HR1.out Tryz.underlying123 rfl (by kernel_rfl) ?_)
          rw [HWA.out]
          refine HF2.out.mono ?_
          rintro e w3 ⟨rfl, b3⟩
          have kb : w3.heap[wr.heap.size]? = some (.cells #[.int .i64 a, .int .i64 c] 123 (0, 0)) := by rw [b3.block _ (Array.getElem?_eq_some_iff.1 HKA.out.1).1]; exact HKA.out.1
          have hAb : ∀ o, w3.cell? ⟨wr.heap.size, o, none⟩ = #[Value.int .i64 a, .int .i64 c][o]? := fun o => cell_of_row _ _ _ _ _ _ kb
          have HR3 : Hid (RowP w3 g cap zs) := hX.out.2.1.keep (by rw [b3.block g (by have := HKA.out.2.size; omega), HKA.out.2.block g hgr])
          have th3 : w3.there g (i * 2) 2 := HR3.out.there i (by omega)
          obtain ⟨w4, hw4⟩ : ∃ w4, w3.setCells g (i * 2) [.int .i64 a, .int .i64 c] = w4 := ⟨_, rfl⟩
          have HX4 : Hid (Outside [g] w w4 ∧ RowP w4 g cap (zs.set i x) ∧ (zs.set i x).take (i + 1) = ofM M (xs.take (j + 1)) ∧ (∀ l (hl : l < xs.length), j + 1 ≤ l → (zs.set i x)[l]? = some xs[l])) := by
            obtain ⟨o1, r1, t1, d1⟩ := hX.out
            obtain ⟨cur, q1, _⟩ := HR3.out.row
            have hset := HR3.out.set i (by omega) x
            rw [HXA.out.1, HXA.out.2, hw4] at hset
            refine ⟨?_, hset, ?_, fun l hl hle => ?_⟩
            · rw [← hw4, setCells_row _ w3 g (i * 2) cur _ q1]
              exact ((o1.below HKA.out.2).below b3).setRow g (fun _ => List.mem_cons_self) _
            · rw [HTK.out, ← t1, List.take_succ_eq_append_getElem (by rw [List.length_set]; omega), List.getElem_set_self, List.take_set_of_le (Nat.le_refl _)]
            · rw [List.getElem?_set_ne (by omega)]
              exact d1 l hl (by omega)
          have HW4 : Hid (w3.setCells g (i * 2) [.int .i64 a, .int .i64 c] = w4) := hw4
          have hilen : (i : Int) < (xs.length : Int) := by omega
          clear b3 kb hw4 HTK HF2 hAa HMa
          go_wp2_with (refine wpList_store_mid rfl 123 _ _ rfl g (i * 2) #[.int .i64 a, .int .i64 c] rfl rfl th3 (by kernel_rfl) (by simp [Value.oneCell']) ?_; rw [show (#[Value.int .i64 a, .int .i64 c] : Array Value).toList = [.int .i64 a, .int .i64 c] from rfl, HW4.out])
          go_roundg (gk - 1)
          case measure => omega
          case rel => exact ⟨i + 1, j + 1, zs.set i x, by go_num, by go_num, by omega, by omega, by rw [List.length_set]; exact hzl, HX4⟩
        · have hd : decide (a ≠ M) = true := by simp [hkeep]
          rw [hd] at HF2
          rw [if_neg hkeep, List.append_nil] at HTK
          clear hkeep hd
          go_wp2_with (first | refine wpList_load_mid rfl 123 _ rfl g (j * 2) rfl [.int .i64 a, .int .i64 c] _ HR1.out Tryz.underlying123 rfl (by kernel_rfl) ?_)
          rw [HWA.out]
          refine HF2.out.mono ?_
          rintro e w3 ⟨rfl, b3⟩
          have HX4 : Hid (Outside [g] w w3 ∧ RowP w3 g cap zs ∧ zs.take i = ofM M (xs.take (j + 1)) ∧ (∀ l (hl : l < xs.length), j + 1 ≤ l → zs[l]? = some xs[l])) := by
            obtain ⟨o1, r1, t1, d1⟩ := hX.out
            exact ⟨(o1.below HKA.out.2).below b3, r1.keep (by rw [b3.block g (by have := HKA.out.2.size; omega), HKA.out.2.block g hgr]), by rw [HTK.out]; exact t1, fun l hl hle => d1 l hl (by omega)⟩
          clear b3 HTK HF2 hAa HMa
          go_wp2_with fail
          go_roundg (gk - 1)
          case measure => omega
          case rel => exact ⟨i, j + 1, zs, rfl, by go_num, by omega, by omega, hzl, HX4⟩
      · have hge : ¬ (j : Int) < (xs.length : Int) := by omega
        obtain ⟨o1, r1, t1, d1⟩ := hX.out
        have hj : j = xs.length := by omega
        have hfin : zs.take i = ofM M xs := by rw [t1, hj, List.take_length]
        have hil : i < xs.length := by omega
        have hlen2 : (ofM M xs).length = i := by rw [← hfin, List.length_take]; omega
        obtain ⟨cur, q1, q2, q3⟩ := r1.row
        obtain ⟨l, hcl⟩ := clearP g i (xs.length - i) wr (fun a ha => by rw [cell_of_row _ _ _ _ _ _ q1, Array.getElem?_eq_getElem (by omega)]; rfl) (fun a => by simp [World.frozen?, q1]) (by omega) 0 (cap - i)
        obtain ⟨w5, hw5⟩ : ∃ w5, wr.setCells g (i * 2) l = w5 := ⟨_, rfl⟩
        have HFIN : Hid (Outside [g] w w5 ∧ RowP w5 g cap (ofM M xs)) := by
          have hp := r1.prefix i
          rw [hfin] at hp
          have := hp.after (i * 2) l (by rw [hlen2]; exact Nat.le_refl _)
          rw [hw5] at this
          refine ⟨?_, this⟩
          rw [← hw5, setCells_row _ wr g (i * 2) cur _ q1]
          exact o1.setRow g (fun _ => List.mem_cons_self) _
        rw [hw5] at hcl
        have HL2 : Hid ((ofM M xs).length = i) := hlen2
        have hi2 : (i : Int) ≤ (xs.length : Int) := by omega
        have hi3 : (xs.length : Int) ≤ (cap : Int) := by omega
        have hi4 : ¬ cap = i := by omega
        have hi5 : (i : Int) ≤ (cap : Int) := by omega
        clear o1 r1 t1 d1 hfin hlen2 q1 q2 q3 hw5 hX HF HR HM HB1 HST
        go_wp2_with fail
        go_ret
        exact ⟨by rw [HL2.out]; rfl, HFIN.out.1, HFIN.out.2⟩
  · rw [if_neg hkl] at HIX0
    have hall : ofM M xs = xs := ofM_all M xs (fun i hi => hk3 i hi (by omega))
    have HIX : Hid (Calls Tryz.prog 187 #[.slice (some ⟨g, 0, none⟩) xs.length cap, .func (.func 185) #[] #[.pointer (some ⟨mb, 0, none⟩)]] w fun e w' => e = .returned (.int .i64 (-1)) ∧ Below w.heap.size w w') := HIX0
    have HR : Hid (RowP w g cap xs) := h
    rw [hall]
    clear HIX0 hk2 hk3 h hm hall hkl hk1
    go_enter Tryz.func184, Tryz.ntmps184
    go_wp2_with fail
    refine HIX.out.mono ?_
    rintro e w1 ⟨rfl, b1⟩
    have HB1 : Hid (Below w.heap.size w w1) := b1
    clear b1 HIX
    go_wp2_with fail
    go_ret
    exact ⟨rfl, Outside.ofBelow HB1.out, HR.out.keep (HB1.out.block g hgl)⟩
end Go.Proofs.YtkpebabbnndopaaGreatDoor
