/- epochkeep's secret, pick, pair. -/
import Derived.Test.YtcboagjfajdpeaaLawP
import Derived.Test.YtcboagjfajdpeaaLawA
import Derived.Test.YtcboagjfajdpeaaSec
import Derived.WalkKit
import Derived.WalkSpells
import Derived.WalkLawsBesides
import Derived.OwnWalk
namespace Go.Proofs.Ytcboagjfajdpeaa
open Go.RowKit
set_option linter.unusedVariables false

set_option maxHeartbeats 400000 in
theorem keepSecret_any (s : ByteArray) (w : World) :
    Calls Try.prog 50 #[.string s] w fun e w' => e = .returned (Agg8 (SecL s.data.toList)) ∧ w' = (w.alloc (.cells (Cells8 (SecL s.data.toList)) 23)).alloc (.cells (Cells8 (SecL s.data.toList)) 23) := by
  have hcp := fun ty => run_copy_text (w.alloc (.cells #[.int .u8 0, .int .u8 0, .int .u8 0, .int .u8 0, .int .u8 0, .int .u8 0, .int .u8 0, .int .u8 0] 23)) s ty
  have hsz : (w.alloc (.cells #[.int .u8 0, .int .u8 0, .int .u8 0, .int .u8 0, .int .u8 0, .int .u8 0, .int .u8 0, .int .u8 0] 23)).heap.size = w.heap.size + 1 := by simp
  rw [hsz] at hcp
  clear hsz
  go_enter Try.func50, Try.ntmps50
  go_wp2
  exact bodyPost_ret (v := Agg8 (SecL s.data.toList)) (by simp [results, Try.results50, go_sem]) rfl ⟨rfl, rfl⟩
theorem keepPick_any (c : Int) (h1 : -9223372036854775808 ≤ c) (h2 : c ≤ 9223372036854775807) (n : Nat) (hn : 1 ≤ n) (hn2 : n ≤ 1000000) (w : World) :
    Calls Try.prog 27 #[.int .i64 c, .int .i64 n] w fun e w' => e = .returned (.int .i64 (PickI c n)) ∧ w' = w := by
  have hn0 : ¬ (n : Int) = 0 := by omega
  by_cases hc : c < 0
  · have HE : Hid ((PickI c n : Int) = -(c + 1).tmod (n : Int)) := PickI_neg c n hn hc
    obtain ⟨i, hi⟩ : ∃ i, PickI c n = i := ⟨_, rfl⟩
    rw [hi] at HE ⊢
    clear hi
    go_enter Try.func27, Try.ntmps27
    go_wp2_with fail
    go_ret
    refine ⟨?_, rfl⟩
    show Ending.returned (Value.int .i64 (-(c + 1).tmod (n : Int))) = _
    rw [HE.out]
  · have HE : Hid ((PickI c n : Int) = c % (n : Int)) := PickI_pos c n hn hc
    obtain ⟨i, hi⟩ : ∃ i, PickI c n = i := ⟨_, rfl⟩
    rw [hi] at HE ⊢
    clear hi
    go_enter Try.func27, Try.ntmps27
    go_wp2_with fail
    go_ret
    refine ⟨?_, rfl⟩
    show Ending.returned (Value.int .i64 (c % (n : Int))) = _
    rw [HE.out]

theorem keepSecret_below (s : ByteArray) (w : World) :
    Calls Try.prog 50 #[.string s] w fun e w' => e = .returned (Agg8 (SecL s.data.toList)) ∧ Below w.heap.size w w' :=
  (keepSecret_any s w).mono fun e w' ⟨he, hw⟩ => ⟨he, by rw [hw]; exact ((Below.refl _ w).alloc (Nat.le_refl _) _).alloc (by simp) _⟩

set_option maxHeartbeats 1000000 in
theorem pair_any {Rep : World → List Nat → Value → St → Nat → Prop} (C : Code Rep) (root : ByteArray) (m a : Int) (hm1 : -9223372036854775808 ≤ m) (hm2 : m ≤ 9223372036854775807) (ha1 : -9223372036854775808 ≤ a) (ha2 : a ≤ 9223372036854775807) (w : World) :
    Calls Try.prog 21 #[.string root, .int .i64 m, .int .i64 a] w fun e w' => Below w.heap.size w w' ∧ ∃ (N x y b c : Nat) (S T : List Nat), 2 ≤ N ∧ N ≤ 16 ∧ x < N ∧ y < N ∧ x ≠ y ∧ e = .returned (.tuple #[.pointer (some ⟨b, 0, none⟩), .pointer (some ⟨c, 0, none⟩), .int .i64 x]) ∧
      Rep w' S (.pointer (some ⟨b, 0, none⟩)) (St.new (SecL root.data.toList) N x) 0 ∧ Rep w' T (.pointer (some ⟨c, 0, none⟩)) (St.new (SecL root.data.toList) N y) 0 ∧ (∀ k, k ∈ S → w.heap.size ≤ k) ∧ (∀ k, k ∈ T → w.heap.size ≤ k) ∧ (∀ k, k ∈ S → k ∉ T) := by
  have hs := SecL_bd root.data.toList
  have HSEC : Hid (∀ W, Calls Try.prog 50 #[.string root] W fun e w' => e = .returned (Agg8 (SecL root.data.toList)) ∧ Below W.heap.size W w') := fun W => keepSecret_below root W
  obtain ⟨s, hse⟩ : ∃ s, SecL root.data.toList = s := ⟨_, rfl⟩
  rw [hse] at hs HSEC ⊢
  clear hse
  have HP1 : Hid (∀ W, Calls Try.prog 27 #[.int .i64 m, .int .i64 15] W fun e w' => e = .returned (.int .i64 (PickI m 15)) ∧ w' = W) := fun W => keepPick_any m hm1 hm2 15 (by omega) (by omega) W
  have hp1 := PickI_lt m 15 (by omega)
  obtain ⟨k, hk⟩ : ∃ k, PickI m 15 = k := ⟨_, rfl⟩
  rw [hk] at HP1 hp1
  have HP2 : Hid (∀ W, Calls Try.prog 27 #[.int .i64 a, .int .i64 (2 + (k : Int))] W fun e w' => e = .returned (.int .i64 (PickI a (2 + k))) ∧ w' = W) := fun W => by
    have h := keepPick_any a ha1 ha2 (2 + k) (by omega) (by omega) W
    have e : ((2 + k : Nat) : Int) = 2 + (k : Int) := by omega
    rw [e] at h
    exact h
  have hp2 := PickI_lt a (2 + k) (by omega)
  obtain ⟨x, hx⟩ : ∃ x, PickI a (2 + k) = x := ⟨_, rfl⟩
  rw [hx] at HP2 hp2
  obtain ⟨y, hy, hy1, hy2⟩ : ∃ y : Nat, ((x : Int) + 1) % (2 + (k : Int)) = y ∧ y < 2 + k ∧ x ≠ y := by
    by_cases h : x + 1 = 2 + k
    · exact ⟨0, by have : (x : Int) + 1 = 2 + (k : Int) := by omega
                   rw [this]; simp, by omega, by omega⟩
    · exact ⟨x + 1, by rw [Int.emod_eq_of_lt (by omega) (by omega)]; rfl, by omega, by omega⟩
  have HN : Hid (∀ (z : Nat), z < 2 + k → ∀ W, Calls Try.prog 46 #[Agg8 s, .int .i64 (2 + (k : Int)), .int .i64 z] W fun e w' => ∃ b S, e = .returned (.tuple #[.pointer (some ⟨b, 0, none⟩), .int .i64 0]) ∧ Below W.heap.size W w' ∧ (∀ k, k ∈ S → W.heap.size ≤ k) ∧ Rep w' S (.pointer (some ⟨b, 0, none⟩)) (St.new s (2 + k) z) 0) := fun z hz W => by
    have h := C.new s (2 + k) z W hs (by omega) (by omega) hz
    have e : ((2 + k : Nat) : Int) = 2 + (k : Int) := by omega
    rw [e] at h
    exact h
  clear hk hx
  go_enter Try.func21, Try.ntmps21
  go_wp2_with fail
  refine (HP1.out _).mono ?_
  rintro e w0 ⟨rfl, hw0⟩
  subst hw0
  go_wp2_with fail
  refine (HP2.out _).mono ?_
  rintro e w0' ⟨rfl, hw0⟩
  subst hw0
  go_wp2_with fail
  refine (HSEC.out _).mono ?_
  rintro e w1 ⟨rfl, b1⟩
  go_wp2_with fail
  refine (HN.out x hp2 _).mono ?_
  rintro e w2 ⟨b, S, rfl, b2, hS, r2⟩
  have H2 : Hid (Below w1.heap.size w1 w2 ∧ (∀ k, k ∈ S → w1.heap.size ≤ k) ∧ Rep w2 S (.pointer (some ⟨b, 0, none⟩)) (St.new s (2 + k) x) 0) := ⟨b2, hS, r2⟩
  have H1 : Hid (Below w0'.heap.size w0' w1) := b1
  clear b1 b2 hS r2
  go_wp2_with fail
  refine (HSEC.out _).mono ?_
  rintro e w3 ⟨rfl, b3⟩
  go_wp2_with fail
  refine (HN.out y hy1 _).mono ?_
  rintro e w4 ⟨c, T, rfl, b4, hT, r4⟩
  have HFIN : Hid (Below w0'.heap.size w0' w4 ∧ Rep w4 S (.pointer (some ⟨b, 0, none⟩)) (St.new s (2 + k) x) 0 ∧ Rep w4 T (.pointer (some ⟨c, 0, none⟩)) (St.new s (2 + k) y) 0 ∧ (∀ k, k ∈ S → w0'.heap.size ≤ k) ∧ (∀ k, k ∈ T → w0'.heap.size ≤ k) ∧ (∀ k, k ∈ S → k ∉ T)) := by
    obtain ⟨b2, hS, r2⟩ := H2.out
    have z1 := H1.out.size
    have z2 := b2.size
    have z3 := b3.size
    have z4 := b4.size
    have b34 := b3.trans (b4.mono b3.size)
    refine ⟨(H1.out.trans (b2.mono z1)).trans (b34.mono (by omega)), C.keep r2 (by omega) (fun k a _ => b34.block k a), r4, fun k hk => by have := hS k hk; omega, fun k hk => by have := hT k hk; omega, fun k hk hk' => ?_⟩
    have h1 := C.lt r2 k hk
    have h2 := hT k hk'
    omega
  clear b3 b4 hT r4 H1 H2 HN HSEC HP1 HP2
  go_wp2_with fail
  refine bodyPost_ret (results_tmp3 rfl _ _ _) rfl ?_
  obtain ⟨f1, f2, f3, f4, f5, f6⟩ := HFIN.out
  exact ⟨f1, 2 + k, x, y, b, c, S, T, by omega, by omega, hp2, hy1, hy2, rfl, f2, f3, f4, f5, f6⟩
end Go.Proofs.Ytcboagjfajdpeaa
