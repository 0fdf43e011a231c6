import Derived.Test.YtkpebabbnndopaaGreatDoorG01
import Derived.Test.YtkpebabbnndopaaGreatDoorC13
import Derived.WalkKit
import Derived.WalkSpells
import Derived.WalkLawsBesides
import Derived.OwnWalk
import Derived.Test.YtkpebabbnndopaaGreatDoorC14
/- epochkeep's secret, pick, pair. -/
namespace Go.Proofs.YtkpebabbnndopaaGreatDoor
open Go.RowKit
set_option linter.unusedVariables false

set_option maxHeartbeats 400000 in
theorem keepSecret_any (s : ByteArray) (w : World) :
    Calls Tryz.prog 40 #[.string s] w fun e w' => e = .returned (Agg8 (SecL s.data.toList)) ∧ w' = (w.alloc (.cells (Cells8 (SecL s.data.toList)) 51)).alloc (.cells (Cells8 (SecL s.data.toList)) 51) := by
  have hcp := fun ty => run_copy_text (w.alloc (.cells #[.int .u8 0, .int .u8 0, .int .u8 0, .int .u8 0, .int .u8 0, .int .u8 0, .int .u8 0, .int .u8 0] 51)) s ty
  have hsz : (w.alloc (.cells #[.int .u8 0, .int .u8 0, .int .u8 0, .int .u8 0, .int .u8 0, .int .u8 0, .int .u8 0, .int .u8 0] 51)).heap.size = w.heap.size + 1 := by simp
  rw [hsz] at hcp
  clear hsz
  go_enter Tryz.func40, Tryz.ntmps40
  go_wp2
  exact bodyPost_ret (v := Agg8 (SecL s.data.toList)) (by simp [results, Tryz.results40, go_sem]) rfl ⟨rfl, rfl⟩
theorem keepPick_any (c : Int) (h1 : -9223372036854775808 ≤ c) (h2 : c ≤ 9223372036854775807) (n : Nat) (hn : 1 ≤ n) (hn2 : n ≤ 1000000) (w : World) :
    Calls Tryz.prog 19 #[.int .i64 c, .int .i64 n] w fun e w' => e = .returned (.int .i64 (PickI c n)) ∧ w' = w := by
  have hn0 : ¬ (n : Int) = 0 := by omega
  by_cases hc : c < 0
  · have HE : Hid ((PickI c n : Int) = -(c + 1).tmod (n : Int)) := PickI_neg c n hn hc
    obtain ⟨i, hi⟩ : ∃ i, PickI c n = i := ⟨_, rfl⟩
    rw [hi] at HE ⊢
    clear hi
    go_enter Tryz.func19, Tryz.ntmps19
    go_wp2_with fail
    go_ret
    refine ⟨?_, rfl⟩
    show Ending.returned (Value.int .i64 (-(c + 1).tmod (n : Int))) = _
    rw [HE.out]
  · have HE : Hid ((PickI c n : Int) = c % (n : Int)) := PickI_pos c n hn hc
    obtain ⟨i, hi⟩ : ∃ i, PickI c n = i := ⟨_, rfl⟩
    rw [hi] at HE ⊢
    clear hi
    go_enter Tryz.func19, Tryz.ntmps19
    go_wp2_with fail
    go_ret
    refine ⟨?_, rfl⟩
    show Ending.returned (Value.int .i64 (c % (n : Int))) = _
    rw [HE.out]

theorem keepSecret_below (s : ByteArray) (w : World) :
    Calls Tryz.prog 40 #[.string s] w fun e w' => e = .returned (Agg8 (SecL s.data.toList)) ∧ Below w.heap.size w w' :=
  (keepSecret_any s w).mono fun e w' ⟨he, hw⟩ => ⟨he, by rw [hw]; exact ((Below.refl _ w).alloc (Nat.le_refl _) _).alloc (by simp) _⟩

set_option maxHeartbeats 1000000 in
theorem pair_any {Rep : World → List Nat → Value → St → Nat → Prop} (C : Code Rep) (root : ByteArray) (m a : Int) (hm1 : -9223372036854775808 ≤ m) (hm2 : m ≤ 9223372036854775807) (ha1 : -9223372036854775808 ≤ a) (ha2 : a ≤ 9223372036854775807) (w : World) :
    Calls Tryz.prog 16 #[.string root, .int .i64 m, .int .i64 a] w fun e w' => Below w.heap.size w w' ∧ ∃ (N x y b c : Nat) (S T : List Nat), 2 ≤ N ∧ N ≤ 16 ∧ x < N ∧ y < N ∧ x ≠ y ∧ e = .returned (.tuple #[.pointer (some ⟨b, 0, none⟩), .pointer (some ⟨c, 0, none⟩), .int .i64 x]) ∧
      Rep w' S (.pointer (some ⟨b, 0, none⟩)) (St.new (SecL root.data.toList) N x) 0 ∧ Rep w' T (.pointer (some ⟨c, 0, none⟩)) (St.new (SecL root.data.toList) N y) 0 ∧ (∀ k, k ∈ S → w.heap.size ≤ k) ∧ (∀ k, k ∈ T → w.heap.size ≤ k) ∧ (∀ k, k ∈ S → k ∉ T) := by
  have hs := SecL_bd root.data.toList
  have HSEC : Hid (∀ W, Calls Tryz.prog 40 #[.string root] W fun e w' => e = .returned (Agg8 (SecL root.data.toList)) ∧ Below W.heap.size W w') := fun W => keepSecret_below root W
  obtain ⟨s, hse⟩ : ∃ s, SecL root.data.toList = s := ⟨_, rfl⟩
  rw [hse] at hs HSEC ⊢
  clear hse
  have HP1 : Hid (∀ W, Calls Tryz.prog 19 #[.int .i64 m, .int .i64 15] W fun e w' => e = .returned (.int .i64 (PickI m 15)) ∧ w' = W) := fun W => keepPick_any m hm1 hm2 15 (by omega) (by omega) W
  have hp1 := PickI_lt m 15 (by omega)
  obtain ⟨k, hk⟩ : ∃ k, PickI m 15 = k := ⟨_, rfl⟩
  rw [hk] at HP1 hp1
  have HP2 : Hid (∀ W, Calls Tryz.prog 19 #[.int .i64 a, .int .i64 (2 + (k : Int))] W fun e w' => e = .returned (.int .i64 (PickI a (2 + k))) ∧ w' = W) := fun W => by
    have h := keepPick_any a ha1 ha2 (2 + k) (by omega) (by omega) W
    have e : ((2 + k : Nat) : Int) = 2 + (k : Int) := by omega
    rw [e] at h
    exact h
  have hp2 := PickI_lt a (2 + k) (by omega)
  obtain ⟨x, hx⟩ : ∃ x, PickI a (2 + k) = x := ⟨_, rfl⟩
  rw [hx] at HP2 hp2
  obtain ⟨y, hy, hy1, hy2⟩ : ∃ y : Nat, ((x : Int) + 1) % (2 + (k : Int)) = y ∧ y < 2 + k ∧ x ≠ y := by
    by_cases h : x + 1 = 2 + k
    · exact ⟨0, by have : (x : Int) + 1 = 2 + (k : Int) := by omega
                   rw [this]; simp, by omega, by omega⟩
    · exact ⟨x + 1, by rw [Int.emod_eq_of_lt (by omega) (by omega)]; rfl, by omega, by omega⟩
  have HN : Hid (∀ (z : Nat), z < 2 + k → ∀ W, Calls Tryz.prog 25 #[Agg8 s, .int .i64 (2 + (k : Int)), .int .i64 z] W fun e w' => ∃ b S, e = .returned (.tuple #[.pointer (some ⟨b, 0, none⟩), .int .i64 0]) ∧ Below W.heap.size W w' ∧ (∀ k, k ∈ S → W.heap.size ≤ k) ∧ Rep w' S (.pointer (some ⟨b, 0, none⟩)) (St.new s (2 + k) z) 0) := fun z hz W => by
    have h := C.new s (2 + k) z W hs (by omega) (by omega) hz
    have e : ((2 + k : Nat) : Int) = 2 + (k : Int) := by omega
    rw [e] at h
    exact h
  clear hk hx
  go_enter Tryz.func16, Tryz.ntmps16
  go_wp2_with fail
  refine (HP1.out _).mono ?_
  rintro e w0 ⟨rfl, hw0⟩
  subst hw0
  go_wp2_with fail
  refine (HP2.out _).mono ?_
  rintro e w0' ⟨rfl, hw0⟩
  subst hw0
  go_wp2_with fail
  refine (HSEC.out _).mono ?_
  rintro e w1 ⟨rfl, b1⟩
  go_wp2_with fail
  refine (HN.out x hp2 _).mono ?_
  rintro e w2 ⟨b, S, rfl, b2, hS, r2⟩
  have H2 : Hid (Below w1.heap.size w1 w2 ∧ (∀ k, k ∈ S → w1.heap.size ≤ k) ∧ Rep w2 S (.pointer (some ⟨b, 0, none⟩)) (St.new s (2 + k) x) 0) := ⟨b2, hS, r2⟩
  have H1 : Hid (Below w0'.heap.size w0' w1) := b1
  clear b1 b2 hS r2
  go_wp2_with fail
  refine (HSEC.out _).mono ?_
  rintro e w3 ⟨rfl, b3⟩
  go_wp2_with fail
  refine (HN.out y hy1 _).mono ?_
  rintro e w4 ⟨c, T, rfl, b4, hT, r4⟩
  have HFIN : Hid (Below w0'.heap.size w0' w4 ∧ Rep w4 S (.pointer (some ⟨b, 0, none⟩)) (St.new s (2 + k) x) 0 ∧ Rep w4 T (.pointer (some ⟨c, 0, none⟩)) (St.new s (2 + k) y) 0 ∧ (∀ k, k ∈ S → w0'.heap.size ≤ k) ∧ (∀ k, k ∈ T → w0'.heap.size ≤ k) ∧ (∀ k, k ∈ S → k ∉ T)) := by
    obtain ⟨b2, hS, r2⟩ := H2.out
    have z1 := H1.out.size
    have z2 := b2.size
    have z3 := b3.size
    have z4 := b4.size
    have b34 := b3.trans (b4.mono b3.size)
    refine ⟨(H1.out.trans (b2.mono z1)).trans (b34.mono (by omega)), C.keep r2 (by omega) (fun k a _ => b34.block k a), r4, fun k hk => by have := hS k hk; omega, fun k hk => by have := hT k hk; omega, fun k hk hk' => ?_⟩
    have h1 := C.lt r2 k hk
    have h2 := hT k hk'
    omega
  clear b3 b4 hT r4 H1 H2 HN HSEC HP1 HP2
  go_wp2_with fail
  refine bodyPost_ret (results_tmp3 rfl _ _ _) rfl ?_
  obtain ⟨f1, f2, f3, f4, f5, f6⟩ := HFIN.out
  exact ⟨f1, 2 + k, x, y, b, c, S, T, by omega, by omega, hp2, hy1, hy2, rfl, f2, f3, f4, f5, f6⟩
end Go.Proofs.YtkpebabbnndopaaGreatDoor

/- What is kept of a member that has protected some times and opened nothing. -/
namespace Go.Proofs.YtkpebabbnndopaaGreatDoor
open Go.RowKit

/-- a new group behind i messages of one's own -/
def St.after (s : Nat → Int) (n own : Nat) : Nat → St
  | 0 => St.new s n own
  | i + 1 => (St.after s n own i).protNext
theorem after_n (s : Nat → Int) (n own i : Nat) : (St.after s n own i).n = n ∧ (St.after s n own i).own = own ∧ (St.after s n own i).closed = false ∧ (St.after s n own i).mem.length = n := by
  induction i with
  | zero => exact ⟨rfl, rfl, rfl, by simp [St.after, St.new]⟩
  | succ i ih =>
    obtain ⟨h1, h2, h3, h4⟩ := ih
    exact ⟨h1, h2, h3, by show (List.set _ _ _).length = n; rw [List.length_set]; exact h4⟩
theorem after_m (s : Nat → Int) (n own : Nat) (ho : own < n) (i j : Nat) : (St.after s n own i).m j = if j = own then ⟨decide (0 < i), i, []⟩ else ⟨false, 0, []⟩ := by
  induction i generalizing j with
  | zero => rw [St.after, St.new_m]; split <;> rfl
  | succ i ih =>
    obtain ⟨h1, h2, h3, h4⟩ := after_n s n own i
    show ((St.after s n own i).setM (St.after s n own i).own _).m j = _
    rw [St.setM_m _ _ _ (by rw [h2, h4]; exact ho), h2, ih, ih]
    by_cases hj : j = own
    · rw [if_pos hj, if_pos hj, if_pos rfl]
      simp
    · rw [if_neg hj, if_neg hj, if_neg hj]
theorem after_ok (s : Nat → Int) (hs : ∀ i, 0 ≤ s i ∧ s i < 256) (n own : Nat) (h1 : 1 ≤ n) (h2 : n ≤ 16) (ho : own < n) (i : Nat) (hi : i ≤ 65536) : (St.after s n own i).Ok := by
  induction i with
  | zero => exact St.new_ok s hs n own h1 h2 ho
  | succ i ih =>
    have h := ih (by omega)
    refine h.protNext ?_
    obtain ⟨_, g2, _, _⟩ := after_n s n own i
    rw [g2, after_m s n own ho, if_pos rfl]
    show i ≤ 65535
    omega
theorem after_kepts (s : Nat → Int) (n own : Nat) (ho : own < n) (i k : Nat) : (St.after s n own i).kepts k = [] := by
  induction k with
  | zero => rfl
  | succ k ih =>
    rw [St.kepts, ih, after_m s n own ho]
    split <;> rfl
theorem after_heads (s : Nat → Int) (n own : Nat) (ho : own < n) (i k : Nat) : (St.after s n own i).heads k = if own < k ∧ 0 < i ∧ i ≤ 65535 then [⟨1, own, own + 1, i, (St.after s n own i).ratAt own i⟩] else [] := by
  induction k with
  | zero => rw [if_neg (by omega)]; rfl
  | succ k ih =>
    rw [St.heads, ih, after_m s n own ho]
    by_cases hk : k = own
    · subst hk
      have e0 : ¬ (k < k ∧ 0 < i ∧ i ≤ 65535) := by omega
      rw [if_neg e0, if_pos rfl, List.nil_append]
      show (if (decide (0 < i) && decide (i ≤ 65535)) = true then [(⟨1, k, k + 1, i, (St.after s n k i).ratAt k i⟩ : It)] else []) = _
      by_cases h : 0 < i ∧ i ≤ 65535
      · have e1 : (decide (0 < i) && decide (i ≤ 65535)) = true := by simp; exact h
        have e2 : k < k + 1 ∧ 0 < i ∧ i ≤ 65535 := ⟨by omega, h⟩
        rw [if_pos e1, if_pos e2]
      · have e1 : ¬ (decide (0 < i) && decide (i ≤ 65535)) = true := by simp; omega
        have e2 : ¬ (k < k + 1 ∧ 0 < i ∧ i ≤ 65535) := fun h' => h h'.2
        rw [if_neg e1, if_neg e2]
    · rw [if_neg hk]
      have e : (own < k ∧ 0 < i ∧ i ≤ 65535) ↔ (own < k + 1 ∧ 0 < i ∧ i ≤ 65535) := by omega
      simp only [e]
      simp
theorem after_dump (s : Nat → Int) (n own : Nat) (ho : own < n) (i : Nat) : (St.after s n own i).dump = (St.after s n own i).parts 16 0 n ++ (if 0 < i ∧ i ≤ 65535 then [⟨1, own, own + 1, i, (St.after s n own i).ratAt own i⟩] else []) := by
  obtain ⟨h1, h2, h3, h4⟩ := after_n s n own i
  unfold St.dump
  rw [h3, h1, after_kepts s n own ho, after_heads s n own ho, List.append_nil]
  have e : (own < n ∧ 0 < i ∧ i ≤ 65535) ↔ (0 < i ∧ i ≤ 65535) := by omega
  simp only [e]
  rfl
theorem begun_true (st : St) (f t j : Nat) (h1 : f ≤ j) (h2 : j < t) (hb : (st.m j).begun = true) : st.begun f t = true := by
  unfold St.begun
  rw [List.any_eq_true]
  exact ⟨j - f, List.mem_range.2 (by omega), by rw [show f + (j - f) = j by omega]; exact hb⟩
/-- what is kept of the tree is of no member that has begun -/
theorem parts_clear (st : St) (k : Nat) : ∀ f t x, x ∈ st.parts k f t → x.kind = 0 ∧ f ≤ x.f ∧ x.t ≤ t ∧ st.begun x.f x.t = false := by
  induction k with
  | zero =>
    intro f t x hx
    unfold St.parts at hx
    split at hx
    · cases hx
    · simp at hx
      subst hx
      rename_i h
      exact ⟨rfl, Nat.le_refl _, Nat.le_refl _, by simpa using h⟩
  | succ k ih =>
    intro f t x hx
    rw [St.parts] at hx
    split at hx
    · split at hx
      · cases hx
      · rename_i h1 h2
        rcases List.mem_append.1 hx with h | h
        · obtain ⟨a1, a2, a3, a4⟩ := ih _ _ _ h
          by_cases hd : 2 ≤ t - f
          · have hb := SplitN_bd (t - f) hd
            exact ⟨a1, a2, by omega, a4⟩
          · have hft : t ≤ f := by omega
            exfalso
            unfold St.begun at h1
            rw [show t - f = 0 by omega] at h1
            simp at h1
        · obtain ⟨a1, a2, a3, a4⟩ := ih _ _ _ h
          exact ⟨a1, by omega, a3, a4⟩
    · simp at hx
      subst hx
      rename_i h
      exact ⟨rfl, Nat.le_refl _, Nat.le_refl _, by simpa using h⟩
/-- something of the tree is kept as long as one member has not begun -/
theorem parts_some (st : St) (k : Nat) : ∀ f t j, f ≤ j → j < t → t - f ≤ k + 1 → (st.m j).begun = false → st.parts k f t ≠ [] := by
  induction k with
  | zero =>
    intro f t j h1 h2 h3 hb
    have hbf : st.begun f t = false := by
      have ht : t = j + 1 := by omega
      have hf : f = j := by omega
      subst ht hf
      rw [St.begun_step st f f (Nat.le_refl _), St.begun_self, hb]
      rfl
    rw [St.parts_not _ _ _ _ hbf]
    simp
  | succ k ih =>
    intro f t j h1 h2 h3 hb
    cases hbf : st.begun f t with
    | false => rw [St.parts_not _ _ _ _ hbf]; simp
    | true =>
      by_cases hd : t - f = 1
      · exfalso
        have ht : t = j + 1 := by omega
        have hf : f = j := by omega
        subst ht hf
        rw [St.begun_step st f f (Nat.le_refl _), St.begun_self, hb] at hbf
        cases hbf
      · rw [St.parts_two _ _ _ _ hbf hd]
        have hq := SplitN_bd (t - f) (by omega)
        intro he
        rw [List.append_eq_nil_iff] at he
        by_cases hj : j < f + SplitN (t - f)
        · exact ih f (f + SplitN (t - f)) j h1 hj (by omega) hb he.1
        · exact ih (f + SplitN (t - f)) t j (by omega) h2 (by omega) hb he.2
end Go.Proofs.YtkpebabbnndopaaGreatDoor

/- What is behind a message that was opened is a state. -/
namespace Go.Proofs.YtkpebabbnndopaaGreatDoor
open Go.RowKit
set_option linter.unusedVariables false

/-- all that a member's keys are behind a message that lies ahead, before some are given up -/
def overAll (m : Mem) (g : Nat) : List Nat := m.over ++ (List.range (g - m.next)).map (m.next + ·)
theorem unOver_eq (m : Mem) (g : Nat) : unOver m g = (overAll m g).drop ((overAll m g).length - 4) := rfl
theorem St.Ok.unNext {st : St} (ok : st.Ok) {l : List UInt8} (hw : unWho l < st.n) : (st.unNext l).Ok := by
  refine ⟨ok.hs, ok.n1, ok.n16, ok.own, by show (st.mem.set _ _).length = _; rw [List.length_set]; exact ok.len, fun m hm => ?_⟩
  rcases List.mem_or_eq_of_mem_set hm with hm | rfl
  · exact ok.mem m hm
  · have hg := unGen_lt l
    obtain ⟨a, b, c, d⟩ := ok.m (unWho l)
    unfold unMem
    split
    · exact ⟨a, Nat.le_trans (List.length_erase_le) b, fun x hx => c x (List.mem_of_mem_erase hx), fun e => by cases e⟩
    · refine ⟨by show unGen l + 1 ≤ 65536; omega, ?_, fun x hx => ?_, fun e => by cases e⟩
      · show (unOver _ _).length ≤ 4
        rw [unOver_eq, List.length_drop]; omega
      · have hx2 : x ∈ unOver (st.m (unWho l)) (unGen l) := hx
        rw [unOver_eq] at hx2
        have hx3 := List.mem_of_mem_drop hx2
        unfold overAll at hx3
        rcases List.mem_append.1 hx3 with h3 | h3
        · exact c x h3
        · obtain ⟨i, hi, rfl⟩ := List.mem_map.1 h3
          have := List.mem_range.1 hi
          omega
end Go.Proofs.YtkpebabbnndopaaGreatDoor
