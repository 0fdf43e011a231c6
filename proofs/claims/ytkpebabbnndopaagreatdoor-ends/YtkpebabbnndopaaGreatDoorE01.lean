import Derived.Test.YtkpebabbnndopaaGreatDoorRows
import Derived.WalkKit
import Derived.WalkSpells
import Derived.WalkLawsBesides
import Derived.Test.YtkpebabbnndopaaGreatDoorC15
import Derived.Test.YtkpebabbnndopaaGreatDoorC13
import Derived.OwnWalk
import Derived.Test.YtkpebabbnndopaaGreatDoorC16
import Derived.Deep.WholeRow
import Derived.Deep.LoopGhost
import Derived.Test.YtkpebabbnndopaaGreatDoorC09
import Derived.ChangeSame
import Derived.ChangeVars
import Derived.JoinedOf
import Derived.RowKit
import Derived.RowKitTokens
import Derived.LaidLaws
import Derived.LaidHandle
import Derived.Stop.Joined
import Derived.Test.YtkpebabbnndopaaGreatDoorC29
import Derived.Test.YtkpebabbnndopaaGreatDoorCards
import Derived.Test.YtkpebabbnndopaaGreatDoorTie
import Derived.SevenTiedAt
import Derived.ProofKit
import Derived.OpenShut
import Derived.ShutString
/- The law's pick. -/
namespace Go.Proofs.YtkpebabbnndopaaGreatDoor
open Go.RowKit
set_option linter.unusedVariables false

/-- which of n things the raw number c speaks of -/
def PickI (c : Int) (n : Nat) : Nat := if c < 0 then ((-(c + 1)) % (n : Int)).toNat else (c % (n : Int)).toNat
theorem PickI_lt (c : Int) (n : Nat) (hn : 1 ≤ n) : PickI c n < n := by
  unfold PickI
  have hn0 : ¬ (n : Int) = 0 := by omega
  split
  · have a1 := Int.emod_nonneg (-(c + 1)) hn0
    have a2 := Int.emod_lt_of_pos (-(c + 1)) (show (0 : Int) < n by omega)
    omega
  · have a1 := Int.emod_nonneg c hn0
    have a2 := Int.emod_lt_of_pos c (show (0 : Int) < n by omega)
    omega
theorem PickI_neg (c : Int) (n : Nat) (hn : 1 ≤ n) (hc : c < 0) : (PickI c n : Int) = -(c + 1).tmod (n : Int) := by
  have hn0 : ¬ (n : Int) = 0 := by omega
  unfold PickI
  rw [if_pos hc, ← Int.neg_tmod, Int.tmod_eq_emod_of_nonneg (by omega), Int.toNat_of_nonneg (Int.emod_nonneg _ hn0)]
theorem PickI_pos (c : Int) (n : Nat) (hn : 1 ≤ n) (hc : ¬ c < 0) : (PickI c n : Int) = c % (n : Int) := by
  have hn0 : ¬ (n : Int) = 0 := by omega
  unfold PickI
  rw [if_neg hc, Int.toNat_of_nonneg (Int.emod_nonneg _ hn0)]
theorem pick_any (c : Int) (h1 : -9223372036854775808 ≤ c) (h2 : c ≤ 9223372036854775807) (n : Nat) (hn : 1 ≤ n) (hn2 : n ≤ 1000000) (w : World) :
    Calls Tryz.prog 65 #[.int .i64 c, .int .i64 n] w fun e w' => e = .returned (.int .i64 (PickI c n)) ∧ w' = w := by
  have hn0 : ¬ (n : Int) = 0 := by omega
  by_cases hc : c < 0
  · have HE : Hid ((PickI c n : Int) = -(c + 1).tmod (n : Int)) := PickI_neg c n hn hc
    obtain ⟨i, hi⟩ : ∃ i, PickI c n = i := ⟨_, rfl⟩
    rw [hi] at HE ⊢
    clear hi
    go_enter Tryz.func65, Tryz.ntmps65
    go_wp2_with fail
    go_ret
    refine ⟨?_, rfl⟩
    show Ending.returned (Value.int .i64 (-(c + 1).tmod (n : Int))) = _
    rw [HE.out]
  · have HE : Hid ((PickI c n : Int) = c % (n : Int)) := PickI_pos c n hn hc
    obtain ⟨i, hi⟩ : ∃ i, PickI c n = i := ⟨_, rfl⟩
    rw [hi] at HE ⊢
    clear hi
    go_enter Tryz.func65, Tryz.ntmps65
    go_wp2_with fail
    go_ret
    refine ⟨?_, rfl⟩
    show Ending.returned (Value.int .i64 (c % (n : Int))) = _
    rw [HE.out]
end Go.Proofs.YtkpebabbnndopaaGreatDoor

/- epochkeep's secret, pick, pair. -/
namespace Go.Proofs.YtkpebabbnndopaaGreatDoor
open Go.RowKit
set_option linter.unusedVariables false

set_option maxHeartbeats 400000 in
theorem keepSecret_any (s : ByteArray) (w : World) :
    Calls Tryz.prog 40 #[.string s] w fun e w' => e = .returned (Agg8 (SecL s.data.toList)) ∧ w' = (w.alloc (.cells (Cells8 (SecL s.data.toList)) 51)).alloc (.cells (Cells8 (SecL s.data.toList)) 51) := by
  have hcp := fun ty => run_copy_text (w.alloc (.cells #[.int .u8 0, .int .u8 0, .int .u8 0, .int .u8 0, .int .u8 0, .int .u8 0, .int .u8 0, .int .u8 0] 51)) s ty
  have hsz : (w.alloc (.cells #[.int .u8 0, .int .u8 0, .int .u8 0, .int .u8 0, .int .u8 0, .int .u8 0, .int .u8 0, .int .u8 0] 51)).heap.size = w.heap.size + 1 := by simp
  rw [hsz] at hcp
  clear hsz
  go_enter Tryz.func40, Tryz.ntmps40
  go_wp2
  exact bodyPost_ret (v := Agg8 (SecL s.data.toList)) (by simp [results, Tryz.results40, go_sem]) rfl ⟨rfl, rfl⟩
theorem keepPick_any (c : Int) (h1 : -9223372036854775808 ≤ c) (h2 : c ≤ 9223372036854775807) (n : Nat) (hn : 1 ≤ n) (hn2 : n ≤ 1000000) (w : World) :
    Calls Tryz.prog 19 #[.int .i64 c, .int .i64 n] w fun e w' => e = .returned (.int .i64 (PickI c n)) ∧ w' = w := by
  have hn0 : ¬ (n : Int) = 0 := by omega
  by_cases hc : c < 0
  · have HE : Hid ((PickI c n : Int) = -(c + 1).tmod (n : Int)) := PickI_neg c n hn hc
    obtain ⟨i, hi⟩ : ∃ i, PickI c n = i := ⟨_, rfl⟩
    rw [hi] at HE ⊢
    clear hi
    go_enter Tryz.func19, Tryz.ntmps19
    go_wp2_with fail
    go_ret
    refine ⟨?_, rfl⟩
    show Ending.returned (Value.int .i64 (-(c + 1).tmod (n : Int))) = _
    rw [HE.out]
  · have HE : Hid ((PickI c n : Int) = c % (n : Int)) := PickI_pos c n hn hc
    obtain ⟨i, hi⟩ : ∃ i, PickI c n = i := ⟨_, rfl⟩
    rw [hi] at HE ⊢
    clear hi
    go_enter Tryz.func19, Tryz.ntmps19
    go_wp2_with fail
    go_ret
    refine ⟨?_, rfl⟩
    show Ending.returned (Value.int .i64 (c % (n : Int))) = _
    rw [HE.out]

theorem keepSecret_below (s : ByteArray) (w : World) :
    Calls Tryz.prog 40 #[.string s] w fun e w' => e = .returned (Agg8 (SecL s.data.toList)) ∧ Below w.heap.size w w' :=
  (keepSecret_any s w).mono fun e w' ⟨he, hw⟩ => ⟨he, by rw [hw]; exact ((Below.refl _ w).alloc (Nat.le_refl _) _).alloc (by simp) _⟩

set_option maxHeartbeats 1000000 in
theorem pair_any {Rep : World → List Nat → Value → St → Nat → Prop} (C : Code Rep) (root : ByteArray) (m a : Int) (hm1 : -9223372036854775808 ≤ m) (hm2 : m ≤ 9223372036854775807) (ha1 : -9223372036854775808 ≤ a) (ha2 : a ≤ 9223372036854775807) (w : World) :
    Calls Tryz.prog 16 #[.string root, .int .i64 m, .int .i64 a] w fun e w' => Below w.heap.size w w' ∧ ∃ (N x y b c : Nat) (S T : List Nat), 2 ≤ N ∧ N ≤ 16 ∧ x < N ∧ y < N ∧ x ≠ y ∧ e = .returned (.tuple #[.pointer (some ⟨b, 0, none⟩), .pointer (some ⟨c, 0, none⟩), .int .i64 x]) ∧
      Rep w' S (.pointer (some ⟨b, 0, none⟩)) (St.new (SecL root.data.toList) N x) 0 ∧ Rep w' T (.pointer (some ⟨c, 0, none⟩)) (St.new (SecL root.data.toList) N y) 0 ∧ (∀ k, k ∈ S → w.heap.size ≤ k) ∧ (∀ k, k ∈ T → w.heap.size ≤ k) ∧ (∀ k, k ∈ S → k ∉ T) := by
  have hs := SecL_bd root.data.toList
  have HSEC : Hid (∀ W, Calls Tryz.prog 40 #[.string root] W fun e w' => e = .returned (Agg8 (SecL root.data.toList)) ∧ Below W.heap.size W w') := fun W => keepSecret_below root W
  obtain ⟨s, hse⟩ : ∃ s, SecL root.data.toList = s := ⟨_, rfl⟩
  rw [hse] at hs HSEC ⊢
  clear hse
  have HP1 : Hid (∀ W, Calls Tryz.prog 19 #[.int .i64 m, .int .i64 15] W fun e w' => e = .returned (.int .i64 (PickI m 15)) ∧ w' = W) := fun W => keepPick_any m hm1 hm2 15 (by omega) (by omega) W
  have hp1 := PickI_lt m 15 (by omega)
  obtain ⟨k, hk⟩ : ∃ k, PickI m 15 = k := ⟨_, rfl⟩
  rw [hk] at HP1 hp1
  have HP2 : Hid (∀ W, Calls Tryz.prog 19 #[.int .i64 a, .int .i64 (2 + (k : Int))] W fun e w' => e = .returned (.int .i64 (PickI a (2 + k))) ∧ w' = W) := fun W => by
    have h := keepPick_any a ha1 ha2 (2 + k) (by omega) (by omega) W
    have e : ((2 + k : Nat) : Int) = 2 + (k : Int) := by omega
    rw [e] at h
    exact h
  have hp2 := PickI_lt a (2 + k) (by omega)
  obtain ⟨x, hx⟩ : ∃ x, PickI a (2 + k) = x := ⟨_, rfl⟩
  rw [hx] at HP2 hp2
  obtain ⟨y, hy, hy1, hy2⟩ : ∃ y : Nat, ((x : Int) + 1) % (2 + (k : Int)) = y ∧ y < 2 + k ∧ x ≠ y := by
    by_cases h : x + 1 = 2 + k
    · exact ⟨0, by have : (x : Int) + 1 = 2 + (k : Int) := by omega
                   rw [this]; simp, by omega, by omega⟩
    · exact ⟨x + 1, by rw [Int.emod_eq_of_lt (by omega) (by omega)]; rfl, by omega, by omega⟩
  have HN : Hid (∀ (z : Nat), z < 2 + k → ∀ W, Calls Tryz.prog 25 #[Agg8 s, .int .i64 (2 + (k : Int)), .int .i64 z] W fun e w' => ∃ b S, e = .returned (.tuple #[.pointer (some ⟨b, 0, none⟩), .int .i64 0]) ∧ Below W.heap.size W w' ∧ (∀ k, k ∈ S → W.heap.size ≤ k) ∧ Rep w' S (.pointer (some ⟨b, 0, none⟩)) (St.new s (2 + k) z) 0) := fun z hz W => by
    have h := C.new s (2 + k) z W hs (by omega) (by omega) hz
    have e : ((2 + k : Nat) : Int) = 2 + (k : Int) := by omega
    rw [e] at h
    exact h
  clear hk hx
  go_enter Tryz.func16, Tryz.ntmps16
  go_wp2_with fail
  refine (HP1.out _).mono ?_
  rintro e w0 ⟨rfl, hw0⟩
  subst hw0
  go_wp2_with fail
  refine (HP2.out _).mono ?_
  rintro e w0' ⟨rfl, hw0⟩
  subst hw0
  go_wp2_with fail
  refine (HSEC.out _).mono ?_
  rintro e w1 ⟨rfl, b1⟩
  go_wp2_with fail
  refine (HN.out x hp2 _).mono ?_
  rintro e w2 ⟨b, S, rfl, b2, hS, r2⟩
  have H2 : Hid (Below w1.heap.size w1 w2 ∧ (∀ k, k ∈ S → w1.heap.size ≤ k) ∧ Rep w2 S (.pointer (some ⟨b, 0, none⟩)) (St.new s (2 + k) x) 0) := ⟨b2, hS, r2⟩
  have H1 : Hid (Below w0'.heap.size w0' w1) := b1
  clear b1 b2 hS r2
  go_wp2_with fail
  refine (HSEC.out _).mono ?_
  rintro e w3 ⟨rfl, b3⟩
  go_wp2_with fail
  refine (HN.out y hy1 _).mono ?_
  rintro e w4 ⟨c, T, rfl, b4, hT, r4⟩
  have HFIN : Hid (Below w0'.heap.size w0' w4 ∧ Rep w4 S (.pointer (some ⟨b, 0, none⟩)) (St.new s (2 + k) x) 0 ∧ Rep w4 T (.pointer (some ⟨c, 0, none⟩)) (St.new s (2 + k) y) 0 ∧ (∀ k, k ∈ S → w0'.heap.size ≤ k) ∧ (∀ k, k ∈ T → w0'.heap.size ≤ k) ∧ (∀ k, k ∈ S → k ∉ T)) := by
    obtain ⟨b2, hS, r2⟩ := H2.out
    have z1 := H1.out.size
    have z2 := b2.size
    have z3 := b3.size
    have z4 := b4.size
    have b34 := b3.trans (b4.mono b3.size)
    refine ⟨(H1.out.trans (b2.mono z1)).trans (b34.mono (by omega)), C.keep r2 (by omega) (fun k a _ => b34.block k a), r4, fun k hk => by have := hS k hk; omega, fun k hk => by have := hT k hk; omega, fun k hk hk' => ?_⟩
    have h1 := C.lt r2 k hk
    have h2 := hT k hk'
    omega
  clear b3 b4 hT r4 H1 H2 HN HSEC HP1 HP2
  go_wp2_with fail
  refine bodyPost_ret (results_tmp3 rfl _ _ _) rfl ?_
  obtain ⟨f1, f2, f3, f4, f5, f6⟩ := HFIN.out
  exact ⟨f1, 2 + k, x, y, b, c, S, T, by omega, by omega, hp2, hy1, hy2, rfl, f2, f3, f4, f5, f6⟩
end Go.Proofs.YtkpebabbnndopaaGreatDoor

/- Ends: the walk, of any program whose calls are as Code asks. -/
namespace Go.Proofs.YtkpebabbnndopaaGreatDoor
open Go.RowKit
set_option linter.unusedVariables false

theorem after_next (s : Nat → Int) (n own : Nat) (ho : own < n) (i : Nat) : ((St.after s n own i).m (St.after s n own i).own).next = i := by
  rw [(after_n s n own i).2.1, after_m s n own ho, if_pos rfl]
theorem after_err (s : Nat → Int) (n own : Nat) (ho : own < n) (i : Nat) (hi : i ≤ 65535) : (St.after s n own i).protErr ([] : List UInt8).length = 0 := by
  unfold St.protErr
  rw [(after_n s n own i).2.2.1, after_next s n own ho i, if_neg (by simp), if_neg (by simp), if_neg (by omega)]
theorem after_spent (s : Nat → Int) (n own : Nat) (ho : own < n) : (St.after s n own 65536).protErr ([] : List UInt8).length = 8 := by
  unfold St.protErr
  rw [(after_n s n own 65536).2.2.1, after_next s n own ho 65536, if_neg (by simp), if_neg (by simp), if_pos (by omega)]
theorem frame_nil (st : St) : (st.frame []).length = 7 ∧ (st.frame [])[0]? = some (UInt8.ofNat st.own) ∧ (st.frame [])[1]? = some (UInt8.ofNat ((st.m st.own).next / 256)) ∧ (st.frame [])[2]? = some (UInt8.ofNat (st.m st.own).next) := by
  unfold St.frame
  refine ⟨by rw [List.length_append, SealT_length]; rfl, ?_, ?_, ?_⟩ <;> rfl
/-- the frame's head, where it lies -/
theorem frame_cells {w : World} {f o : Nat} {st : St} (ho : st.own < 16) (hn : (st.m st.own).next ≤ 65535) (h : Bts w (some ⟨f, o, none⟩) (st.frame [])) : w.cell? ⟨f, o, none⟩ = some (.int .u8 (st.own : Int)) ∧ w.cell? ⟨f, o + 1, none⟩ = some (.int .u8 (((st.m st.own).next : Int) / 256)) ∧ w.cell? ⟨f, o + 2, none⟩ = some (.int .u8 (((st.m st.own).next : Int) % 256)) := by
  obtain ⟨h1, h2, h3, h4⟩ := frame_nil st
  rcases h with h | ⟨b, p, e, hc⟩
  · rw [h] at h1; cases h1
  · cases e
    have g : ∀ i c, (st.frame [])[i]? = some c → w.cell? ⟨f, o + i, none⟩ = some (.int .u8 (c.toNat : Int)) := fun i c hi => by
      obtain ⟨hl, he⟩ := List.getElem?_eq_some_iff.1 hi
      rw [hc i hl, he]
    refine ⟨?_, ?_, ?_⟩
    · have := g 0 _ h2
      rw [Nat.add_zero] at this
      rw [this, UInt8.toNat_ofNat']
      congr 2
      omega
    · rw [g 1 _ h3, UInt8.toNat_ofNat']
      congr 2
      omega
    · rw [g 2 _ h4, UInt8.toNat_ofNat']
      congr 2
theorem it_cell (l : List It) (i : Nat) (hi : i < l.length) : (itCells l)[i * 12]? = some (.int .i64 l[i].kind) ∧ (itCells l)[i * 12 + 1]? = some (.int .i64 l[i].f) ∧ (itCells l)[i * 12 + 2]? = some (.int .i64 l[i].t) ∧ (itCells l)[i * 12 + 3]? = some (.int .i64 l[i].g) := by
  have e : l = l.take i ++ l[i] :: l.drop (i + 1) := by rw [List.getElem_cons_drop, List.take_append_drop]
  have hl : (itCells (l.take i)).length = i * 12 := by rw [itCells_length, List.length_take]; omega
  have h : ∀ j, j < 12 → (itCells l)[i * 12 + j]? = l[i].cells[j]? := fun j hj => by
    have e2 : itCells l = itCells (l.take i) ++ (l[i].cells ++ itCells (l.drop (i + 1))) := by
      have : itCells (l[i] :: l.drop (i + 1)) = l[i].cells ++ itCells (l.drop (i + 1)) := rfl
      rw [← this, ← itCells_append, ← e]
    rw [e2, List.getElem?_append_right (by omega), hl, show i * 12 + j - i * 12 = j by omega, List.getElem?_append_left (by show j < 12; exact hj)]
  exact ⟨h 0 (by omega), h 1 (by omega), h 2 (by omega), h 3 (by omega)⟩

theorem and_255 (n : Int) : bits .and .i64 n 255 = n % 256 := by
  have h1 : (BitVec.ofInt 64 255).toNat = 2 ^ 8 - 1 := by decide
  have h2 : (BitVec.ofInt 64 n &&& BitVec.ofInt 64 255).toNat = (n % ((2 ^ 64 : Nat) : Int)).toNat % 2 ^ 8 := by rw [BitVec.toNat_and, BitVec.toNat_ofInt, h1, Nat.and_two_pow_sub_one_eq_mod]
  show IntKind.i64.wrap ((BitVec.ofInt 64 n &&& BitVec.ofInt 64 255).toNat : Nat) = n % 256
  rw [h2, IntKind.wrap_i64]
  omega
set_option maxHeartbeats 4000000 in
set_option maxRecDepth 20000 in
theorem ends_any {Rep : World → List Nat → Value → St → Nat → Prop} (C : Code Rep) (root : ByteArray) (m a : Int) (hm1 : -9223372036854775808 ≤ m) (hm2 : m ≤ 9223372036854775807) (ha1 : -9223372036854775808 ≤ a) (ha2 : a ≤ 9223372036854775807) (w : World) (hG : Glob w) :
    Calls Tryz.prog 10 #[.string root, .int .i64 m, .int .i64 a] w fun e w' => e = .returned (.bool true) ∧ Below w.heap.size w w' := by
  have hs := SecL_bd root.data.toList
  have HPR : Hid (Calls Tryz.prog 16 #[.string root, .int .i64 m, .int .i64 a] w fun e w' => Below w.heap.size w w' ∧ ∃ (N x y b c : Nat) (S T : List Nat), 2 ≤ N ∧ N ≤ 16 ∧ x < N ∧ y < N ∧ x ≠ y ∧ e = .returned (.tuple #[.pointer (some ⟨b, 0, none⟩), .pointer (some ⟨c, 0, none⟩), .int .i64 x]) ∧
      Rep w' S (.pointer (some ⟨b, 0, none⟩)) (St.new (SecL root.data.toList) N x) 0 ∧ Rep w' T (.pointer (some ⟨c, 0, none⟩)) (St.new (SecL root.data.toList) N y) 0 ∧ (∀ k, k ∈ S → w.heap.size ≤ k) ∧ (∀ k, k ∈ T → w.heap.size ≤ k) ∧ (∀ k, k ∈ S → k ∉ T)) := pair_any C root m a hm1 hm2 ha1 ha2 w
  obtain ⟨s, hse⟩ : ∃ s, SecL root.data.toList = s := ⟨_, rfl⟩
  rw [hse] at hs HPR
  have HGL : Hid (Glob w) := hG
  clear hse hm1 hm2 ha1 ha2 hG
  obtain ⟨MX, hMX⟩ : ∃ MX : Nat, MX = 65536 := ⟨_, rfl⟩
  have HMX : Hid (MX = 65536) := hMX
  clear hMX
  go_enter Tryz.func10, Tryz.ntmps10
  go_wp2_with fail
  refine HPR.out.mono ?_
  rintro e w1 ⟨b1, N, x, y, b, c, S, T, hN1, hN2, hx, hy, hxy, rfl, hr1, _, hS, _, _⟩
  have H1 : Hid (Rep w1 S (.pointer (some ⟨b, 0, none⟩)) (St.after s N x 0) 0 ∧ Below w.heap.size w w1 ∧ ∀ k, k ∈ S → w.heap.size ≤ k) := ⟨hr1, b1, hS⟩
  obtain ⟨X, hX⟩ : ∃ X : Int, (x : Int) = X := ⟨_, rfl⟩
  have HXX : Hid ((x : Int) = X) := hX
  have hXw : wrap64 X = X := by simp only [wrap64]; omega
  rw [hX]
  clear hr1 b1 hS HPR hX
  go_wp2_with fail
  go_loopg [10] MX (fun k v wr => ∃ i : Nat, v = .int .i64 i ∧ i + k = MX ∧ ∃ S wk, Hid (Rep wr S (.pointer (some ⟨b, 0, none⟩)) (St.after s N x i) wk ∧ Below w.heap.size w wr ∧ ∀ k, k ∈ S → w.heap.size ≤ k))
  case atStart => exact ⟨0, rfl, by omega, S, 0, H1.out⟩
  case round =>
    clear H1
    obtain ⟨i, rfl, hik, S, wk, HR⟩ := hrel
    obtain ⟨I, hI⟩ : ∃ I : Int, (i : Int) = I := ⟨_, rfl⟩
    have HII : Hid ((i : Int) = I) := hI
    have HIK : Hid (i + gk = MX) := hik
    rw [hI]
    have hI0 : 0 ≤ I := by omega
    by_cases hlt : I < 65536
    · have HIL : Hid (i < 65536) := by show _ < _; omega
      have HI1 : Hid (((i + 1 : Nat) : Int) = I + 1) := by show _ = _; omega
      have hbnd : I ≤ 65535 := by omega
      have hand : bits .and .i64 I 255 = I % 256 := and_255 I
      have hwr : wrap64 (I + 1) = I + 1 := by simp only [wrap64]; omega
      clear hik hI
      by_cases hlast : I = 65535
      · -- the last one: what is kept ahead of it
        have hl2 : (I == 65535) = true := by simpa using hlast
        have HLA : Hid (I = 65535) := hlast
        clear hlast
        have ok := after_ok s hs N x (by omega) hN2 hx i (by have := HIL.out; omega)
        have hnw : i = 65535 := by have := HII.out; have := HLA.out; omega
        have hdm := after_dump s N x hx i
        rw [if_pos (by omega)] at hdm
        obtain ⟨PL, hPL⟩ : ∃ PL, (St.after s N x i).parts 16 0 N = PL := ⟨_, rfl⟩
        have hPLl : PL.length ≤ 16 := by rw [← hPL]; have := St.parts_len (St.after s N x i) 16 0 N (by omega); omega
        rw [hPL] at hdm
        have HDU : Hid (Calls Tryz.prog 21 #[.pointer (some ⟨b, 0, none⟩)] wr fun e w' => Outside S wr w' ∧ ∃ S' p cap, Fresh wr S S' ∧ Rep w' S' (.pointer (some ⟨b, 0, none⟩)) (St.after s N x i) wk ∧ e = .returned (.slice p (PL.length + 1) cap) ∧ ∃ db dof, p = some ⟨db, dof, none⟩ ∧ w'.cell? ⟨db, dof + PL.length * 12, none⟩ = some (.int .i64 1) ∧ w'.cell? ⟨db, dof + PL.length * 12 + 1, none⟩ = some (.int .i64 X) ∧ w'.cell? ⟨db, dof + PL.length * 12 + 3, none⟩ = some (.int .i64 I)) := by
          refine (C.dump ok HR.out.1).mono fun e w' ⟨d1, S', p, cap, d2, d3, d4, d5⟩ => ⟨d1, S', p, cap, d2, d3, ?_, ?_⟩
          · rw [d4, hdm, List.length_append]; rfl
          · rcases d5 with d5 | ⟨db, dof, d6, _, _, _, d7, _⟩
            · rw [hdm] at d5; simp at d5
            · rw [hdm] at d7
              obtain ⟨q1, q2, q3, q4⟩ := it_cell (PL ++ [⟨1, x, x + 1, i, (St.after s N x i).ratAt x i⟩]) PL.length (by simp)
              have hget : (PL ++ [(⟨1, x, x + 1, i, (St.after s N x i).ratAt x i⟩ : It)])[PL.length]'(by simp) = ⟨1, x, x + 1, i, (St.after s N x i).ratAt x i⟩ := by simp
              rw [hget] at q1 q2 q3 q4
              refine ⟨db, dof, d6, ?_, ?_, ?_⟩
              · exact d7 _ _ q1
              · rw [← HXX.out, Nat.add_assoc]; exact d7 _ _ q2
              · rw [← HII.out, Nat.add_assoc]; exact d7 _ _ q4
        obtain ⟨n, hn⟩ : ∃ n, PL.length = n := ⟨_, rfl⟩
        rw [hn] at HDU hPLl
        clear hdm hPL hn ok hnw
        go_wp2_with fail
        refine HDU.out.mono ?_
        rintro e w4 ⟨o4, S4, p, cap4, fr4, rep4, rfl, db, dof, rfl, k1, k2, k3⟩
        have HRQ : Hid (Rep w4 S4 (.pointer (some ⟨b, 0, none⟩)) (St.after s N x i) wk) := rep4
        have HBQ : Hid (Below w.heap.size w w4 ∧ ∀ k, k ∈ S4 → w.heap.size ≤ k) := by
          refine ⟨HR.out.2.1.trans (o4.toBelow w.heap.size HR.out.2.1.size HR.out.2.2), fun k hk => ?_⟩
          rcases fr4 k hk with h | h
          · exact HR.out.2.2 k h
          · have := HR.out.2.1.size; omega
        clear o4 fr4 rep4 HR HDU
        go_wp2_with fail
        clear k1 k2 k3
        refine (C.prot (after_ok s hs N x (by omega) hN2 hx i (by have := HIL.out; omega)) HRQ.out none [] 0 (by simp) (.inl rfl) (by intro b o e; cases e) (after_err s N x hx i (by have := HIL.out; omega))).mono ?_
        rintro e w5 ⟨o5, S5, wk5, f, fo, cap, fr5, rep5, _, _, rfl, hf5, _, hcap5, hb5, _⟩
        have hcell := frame_cells (st := St.after s N x i) (by rw [(after_n s N x i).2.1]; omega) (by rw [after_next s N x hx i]; have := HIL.out; omega) hb5
        rw [after_next s N x hx i, (after_n s N x i).2.1, HII.out, HXX.out] at hcell
        obtain ⟨c0, c1, c2⟩ := hcell
        rw [(frame_nil (St.after s N x i)).1]
        have HNX : Hid (Rep w5 S5 (.pointer (some ⟨b, 0, none⟩)) (St.after s N x (i + 1)) wk5 ∧ Below w.heap.size w w5 ∧ ∀ k, k ∈ S5 → w.heap.size ≤ k) := by
          refine ⟨rep5, HBQ.out.1.trans (o5.toBelow w.heap.size HBQ.out.1.size HBQ.out.2), fun k hk => ?_⟩
          rcases fr5 k hk with h | h
          · exact HBQ.out.2 k h
          · have := HBQ.out.1.size; omega
        have HC7 : Hid (7 ≤ cap) := by have := hcap5; rw [(frame_nil (St.after s N x i)).1] at this; exact this
        clear o5 fr5 rep5 hf5 hcap5 hb5 HRQ HBQ
        go_wp2_with fail
        go_roundg (gk - 1)
        case measure => have := HMX.out; have := HIK.out; have := HIL.out; omega
        case rel => exact ⟨i + 1, by rw [HI1.out], by have := HMX.out; have := HIK.out; have := HIL.out; omega, S5, wk5, HNX.out⟩
      · have hl2 : (I == 65535) = false := by simpa using hlast
        clear hlast
        have HRQ : Hid (Rep wr S (.pointer (some ⟨b, 0, none⟩)) (St.after s N x i) wk) := HR.out.1
        have HBQ : Hid (Below w.heap.size w wr ∧ ∀ k, k ∈ S → w.heap.size ≤ k) := HR.out.2
        clear HR
        go_wp2_with fail
        refine (C.prot (after_ok s hs N x (by omega) hN2 hx i (by have := HIL.out; omega)) HRQ.out none [] 0 (by simp) (.inl rfl) (by intro b o e; cases e) (after_err s N x hx i (by have := HIL.out; omega))).mono ?_
        rintro e w5 ⟨o5, S5, wk5, f, fo, cap, fr5, rep5, _, _, rfl, hf5, _, hcap5, hb5, _⟩
        have hcell := frame_cells (st := St.after s N x i) (by rw [(after_n s N x i).2.1]; omega) (by rw [after_next s N x hx i]; have := HIL.out; omega) hb5
        rw [after_next s N x hx i, (after_n s N x i).2.1, HII.out, HXX.out] at hcell
        obtain ⟨c0, c1, c2⟩ := hcell
        rw [(frame_nil (St.after s N x i)).1]
        have HNX : Hid (Rep w5 S5 (.pointer (some ⟨b, 0, none⟩)) (St.after s N x (i + 1)) wk5 ∧ Below w.heap.size w w5 ∧ ∀ k, k ∈ S5 → w.heap.size ≤ k) := by
          refine ⟨rep5, HBQ.out.1.trans (o5.toBelow w.heap.size HBQ.out.1.size HBQ.out.2), fun k hk => ?_⟩
          rcases fr5 k hk with h | h
          · exact HBQ.out.2 k h
          · have := HBQ.out.1.size; omega
        have HC7 : Hid (7 ≤ cap) := by have := hcap5; rw [(frame_nil (St.after s N x i)).1] at this; exact this
        clear o5 fr5 rep5 hf5 hcap5 hb5 HRQ HBQ
        go_wp2_with fail
        go_roundg (gk - 1)
        case measure => have := HMX.out; have := HIK.out; have := HIL.out; omega
        case rel => exact ⟨i + 1, by rw [HI1.out], by have := HMX.out; have := HIK.out; have := HIL.out; omega, S5, wk5, HNX.out⟩
    · have hi6 : i = 65536 := by have := HMX.out; omega
      have hge : ¬ (I < 65536) := hlt
      have ok := after_ok s hs N x (by omega) hN2 hx i (by omega)
      have herr : (St.after s N x i).protErr ([] : List UInt8).length = 8 := by rw [hi6]; exact after_spent s N x hx
      have hdm := after_dump s N x hx i
      rw [if_neg (by omega), List.append_nil] at hdm
      have HPE : Hid (Calls Tryz.prog 17 #[.pointer (some ⟨b, 0, none⟩), .slice none 0 0] wr fun e w' => e = .returned (.tuple #[.slice none 0 0, .int .i64 8]) ∧ Outside S wr w' ∧ ∃ S', Fresh wr S S' ∧ Rep w' S' (.pointer (some ⟨b, 0, none⟩)) (St.after s N x i) wk) := by
        have := C.protErr ok HR.out.1 (HGL.out.below HR.out.2.1) none [] 0 (by simp) (.inl rfl) (by intro b o e; cases e) (by rw [herr]; decide)
        rw [herr] at this
        exact this
      have hsome := parts_some (St.after s N x i) 16 0 N y (Nat.zero_le _) hy (by omega) (by rw [after_m s N x hx, if_neg (fun e => hxy e.symm)])
      have hclear := parts_clear (St.after s N x i) 16 0 N
      have hbx : ((St.after s N x i).m x).begun = true := by rw [after_m s N x hx, if_pos rfl]; simp; omega
      obtain ⟨PL, hPL⟩ : ∃ PL, (St.after s N x i).parts 16 0 N = PL := ⟨_, rfl⟩
      have hPLl : PL.length ≤ 16 := by rw [← hPL]; have := St.parts_len (St.after s N x i) 16 0 N (by omega); omega
      rw [hPL] at hdm hsome hclear
      have hpos : 0 < PL.length := List.length_pos_iff.2 hsome
      have HDU : Hid (∀ W S, Rep W S (.pointer (some ⟨b, 0, none⟩)) (St.after s N x i) wk → Calls Tryz.prog 21 #[.pointer (some ⟨b, 0, none⟩)] W fun e w' => Outside S W w' ∧ ∃ db dof cap, e = .returned (.slice (some ⟨db, dof, none⟩) PL.length cap) ∧ ∀ j (hj : j < PL.length), w'.cell? ⟨db, dof + j * 12, none⟩ = some (.int .i64 0) ∧ w'.cell? ⟨db, dof + j * 12 + 1, none⟩ = some (.int .i64 PL[j].f) ∧ w'.cell? ⟨db, dof + j * 12 + 2, none⟩ = some (.int .i64 PL[j].t) ∧ (decide ((PL[j].f : Int) ≤ X) && decide (X < (PL[j].t : Int))) = false) := fun W S hW => by
        refine (C.dump ok hW).mono fun e w' ⟨d1, S', p, cap, d2, d3, d4, d5⟩ => ⟨d1, ?_⟩
        rw [hdm] at d4 d5
        rcases d5 with d5 | ⟨db, dof, d6, _, _, _, d7, _⟩
        · exact absurd d5 hsome
        · refine ⟨db, dof, cap, by rw [d4, d6], fun j hj => ?_⟩
          obtain ⟨q1, q2, q3, q4⟩ := it_cell PL j hj
          obtain ⟨k1, k2, k3, k4⟩ := hclear PL[j] (List.getElem_mem hj)
          rw [k1] at q1
          refine ⟨d7 _ _ q1, by rw [Nat.add_assoc]; exact d7 _ _ q2, by rw [Nat.add_assoc]; exact d7 _ _ q3, ?_⟩
          cases hdc : (decide ((PL[j].f : Int) ≤ X) && decide (X < (PL[j].t : Int))) with
          | false => rfl
          | true =>
            rw [Bool.and_eq_true, decide_eq_true_eq, decide_eq_true_eq] at hdc
            have hxx := HXX.out
            have := begun_true (St.after s N x i) PL[j].f PL[j].t x (by omega) (by omega) hbx
            rw [this] at k4
            cases k4
      have HPL : Hid (PL.length ≤ 16) := hPLl
      obtain ⟨n, hn⟩ : ∃ n, PL.length = n := ⟨_, rfl⟩
      have HNN : Hid (PL.length = n) := hn
      have hn0 : (0 : Int) < n := by omega
      have hn16 : (n : Int) ≤ 16 := by omega
      have HSZ := HR.out.2
      have HBQ : Hid (Below w.heap.size w wr ∧ ∀ k, k ∈ S → w.heap.size ≤ k) := HR.out.2
      clear HSZ hdm herr hsome hclear hbx hPL hpos hPLl hn hi6 ok hik hI hlt HIK
      go_wp2_with fail
      refine HPE.out.mono ?_
      rintro e w4 ⟨rfl, o4, S4, fr4, rep4⟩
      have HB4 : Hid (Below w.heap.size w w4 ∧ ∀ k, k ∈ S4 → w.heap.size ≤ k) := by
        refine ⟨HBQ.out.1.trans (o4.toBelow w.heap.size HBQ.out.1.size HBQ.out.2), fun k hk => ?_⟩
        rcases fr4 k hk with h | h
        · exact HBQ.out.2 k h
        · have := HBQ.out.1.size; omega
      have HR4 : Hid (Rep w4 S4 (.pointer (some ⟨b, 0, none⟩)) (St.after s N x i) wk) := rep4
      clear o4 fr4 rep4 HPE HBQ HR
      go_wp2_with fail
      refine (HDU.out _ S4 HR4.out).mono ?_
      rintro e w5 ⟨o5, db, dof, cap5, rfl, hcells⟩
      have HB5 : Hid (Below w.heap.size w w5) := HB4.out.1.trans (o5.toBelow w.heap.size HB4.out.1.size HB4.out.2)
      have HCE : Hid (∀ j (hj : j < PL.length), w5.cell? ⟨db, dof + j * 12, none⟩ = some (.int .i64 0) ∧ w5.cell? ⟨db, dof + j * 12 + 1, none⟩ = some (.int .i64 PL[j].f) ∧ w5.cell? ⟨db, dof + j * 12 + 2, none⟩ = some (.int .i64 PL[j].t) ∧ (decide ((PL[j].f : Int) ≤ X) && decide (X < (PL[j].t : Int))) = false) := hcells
      rw [HNN.out]
      clear o5 hcells HDU HR4 HB4
      go_wp2_with fail
      go_loopg [18] n (fun k v wq => wq = w5 ∧ ∃ j : Nat, v = .int .i64 j ∧ j + k = n)
      case atStart => exact ⟨rfl, 0, rfl, by omega⟩
      case round =>
        obtain ⟨rfl, j, rfl, hjk⟩ := hrel
        by_cases hj : j < n
        · have hj' : (j : Int) < (n : Int) := by omega
          obtain ⟨k1, k2, k3, k4⟩ := HCE.out j (by rw [HNN.out]; exact hj)
          obtain ⟨f, hf⟩ : ∃ f : Int, (PL[j]'(by rw [HNN.out]; exact hj)).f = f := ⟨_, rfl⟩
          obtain ⟨t, ht⟩ : ∃ t : Int, ((PL[j]'(by rw [HNN.out]; exact hj)).t : Int) = t := ⟨_, rfl⟩
          rw [hf] at k2 k4
          rw [ht] at k3 k4
          clear hf ht
          by_cases hfx : f ≤ X
          · have hxt : ¬ X < t := by simp [hfx] at k4; omega
            clear k4
            go_wp2_with fail
            go_roundg (gk - 1)
            case measure => omega
            case rel => exact ⟨rfl, j + 1, by go_num, by omega⟩
          · clear k4
            go_wp2_with fail
            go_roundg (gk - 1)
            case measure => omega
            case rel => exact ⟨rfl, j + 1, by go_num, by omega⟩
        · have hj' : ¬ (j : Int) < (n : Int) := by omega
          go_wp2_with fail
          go_ret
          refine ⟨?_, HB5.out⟩
          show Ending.returned (.bool (decide (0 < n))) = _
          rw [decide_eq_true (by omega)]
end Go.Proofs.YtkpebabbnndopaaGreatDoor

/- What the one listed variable holds; a world that has it. -/
namespace Go.Proofs.YtkpebabbnndopaaGreatDoor
open Go.ChangeShapes Go.WideShapes Go.RowKit

theorem lpOwn : ownKnob Tryz.prog.godebug = none := by kernel_rfl
theorem lpEt : Tryz.prog.globalNamed "errors.errorType" = some 0 := by kernel_rfl
theorem lpRt : (Tryz.prog.cutTypes.find? (·.1 == "internal/reflectlite.rtype")).map (·.2) = some 243 := by kernel_rfl
theorem lpSize : Tryz.prog.types.size = 322 := by kernel_rfl
theorem lpRow : ((List.range 322).filter fun t => Tryz.prog.rowNamed t [101, 114, 114, 111, 114]) = [114] := by kernel_rfl
theorem glob_of_laid {W : World} (h : laidMetH Tryz.prog [("errors.errorType", Rows.laid_errors_errorType)] W) : Glob W := by
  have h' : laidMet Tryz.prog [] W ∧ handlesMet Tryz.prog [("errors.errorType", Rows.laid_errors_errorType)] W := h
  obtain ⟨name, u, ty, e1, e2, e3, e4, e5⟩ := h'.2 _ (List.mem_singleton.2 rfl)
  have en : name = [101, 114, 114, 111, 114] := (Option.some.inj e1).symm
  subst en
  obtain rfl := Option.some.inj (lpRt.symm.trans e2)
  have hm : ty ∈ (List.range 322).filter fun t => Tryz.prog.rowNamed t [101, 114, 114, 111, 114] := List.mem_filter.2 ⟨List.mem_range.2 (by rw [← lpSize]; exact e3), e4⟩
  rw [lpRow] at hm
  obtain rfl := List.mem_singleton.1 hm
  have hh : typeHandle Tryz.prog 114 = .pointer (some ⟨1, 114, none⟩) := by kernel_rfl
  rw [hh] at e5
  have := World.var?_cell lpEt e5 0
  show W.cell? ⟨0, 0, none⟩ = _
  simpa using this
end Go.Proofs.YtkpebabbnndopaaGreatDoor

/- Ends: the generations of one's own, up to the last one. -/
namespace Go.Proofs.YtkpebabbnndopaaGreatDoor.ends
open Go.ChangeShapes Go.WideShapes Go.ChangeAt Go.RowKit
open Go.ChangeMaps (open_string shut_string)
set_option linter.unusedVariables false

theorem walk (a0 : ByteArray) (a1 : Int) (a2 : Int) (w0 : a0.size ≤ maxLen) (hw1 : (Lit.int .i64 a1).wf = true) (hw2 : (Lit.int .i64 a2).wf = true) (w : World) (hG : Glob w) :
    Calls Tryz.prog 10 #[.string a0, .int .i64 a1, .int .i64 a2] w fun e w' => e = .returned (.bool true) ∧ Below w.heap.size w w' :=
  ends_any code a0 a1 a2 (bounds_i64 hw1).1 (bounds_i64 hw1).2 (bounds_i64 hw2).1 (bounds_i64 hw2).2 w hG

set_option maxRecDepth 100000 in
theorem lifted (os : Os) (started : os.Started) (H : Type) (enc : TypeId × Value → H) :
    ReturnsInHanded {} Tryz.checked os 10 .any (fun w args => (Rows.endsSpec.pre enc Tryz.prog Tryz.f10 [] false w args ∧ laidMetH Tryz.prog [("errors.errorType", Rows.laid_errors_errorType)] w) ∧ sizedMet enc Tryz.prog Tryz.f10 (OpenSpec.ofChange Rows.endsSpec) false w args)
      (Rows.endsSpec.post enc Tryz.prog Tryz.f10 false true false false) := by
  refine returnsInHanded_of_change_and (C := Tryz.checked) (X := fun w _ => laidMetH Tryz.prog [("errors.errorType", Rows.laid_errors_errorType)] w) (fun _ _ _ hh h => h.of_heap hh) lpOwn started (by kernel_rfl) Tryz.func10
    (ChangeSpec.witness_at (enc := enc) (C := Tryz.checked) (os := os) (X := fun w _ => laidMetH Tryz.prog [("errors.errorType", Rows.laid_errors_errorType)] w) false ({ World.holding Tryz.prog os ⟨#[], #[], []⟩ with heap := (World.holding Tryz.prog os ⟨#[], #[], []⟩).heap.modify 0 fun
      | .cells _ t frozen => .cells #[errT] t frozen
      | o => o }) #[.string ByteArray.empty, .int .i64 0, .int .i64 0] 8 rfl (by kernel_rfl) (by kernel_rfl) (by kernel_rfl) (by kernel_rfl) (by kernel_rfl) (laidMetH_of_parts (laidMet_nil _ _) (by kernel_rfl))) ?_
  intro W base args ds gs before hval0 hW _ _ hL _
  have hG := glob_of_laid hL
  have hval : ∀ (j : Nat) t v, Tryz.f10.params[j]? = some t → args[j]? = some v → Value.okWide Tryz.prog W .any base t v := hval0
  have hW' := hW
  obtain ⟨p, q, hA0, hV0, rfl, hfz, hnd⟩ := hW
  have hV : DataW.TrodVars enc Tryz.prog W (fun _ => true) [] gs q := hV0
  have hA : DataW.TrodAll enc Tryz.prog W 0 (fun _ => true) true Tryz.f10.params.toList args.toList ds p := hA0
  rw [Tryz.params10] at hA hval
  obtain ⟨v0, vs0, d0, ds0, p0, q0, hargs, rfl, rfl, h0, r0⟩ := trodAll_cons hA
  obtain ⟨v1, vs1, d1, ds1, p1, q1, rfl, rfl, rfl, h1, r1⟩ := trodAll_cons r0
  obtain ⟨v2, vs2, d2, ds2, p2, q2, rfl, rfl, rfl, h2, r2⟩ := trodAll_cons r1
  obtain ⟨rfl, rfl, rfl⟩ := trodAll_nil r2
  obtain rfl : args = #[v0, v1, v2] := by cases args; simp_all
  obtain ⟨rfl, rfl⟩ := trodVars_none hV
  obtain ⟨a0, rfl, rfl, rfl, w0⟩ := open_string Tryz.underlying9 (hval 0 9 v0 rfl rfl) h0
  obtain ⟨a1, rfl, rfl, rfl, w1⟩ := open_int Tryz.underlying3 (hval 1 3 v1 rfl rfl) h1
  obtain ⟨a2, rfl, rfl, rfl, w2⟩ := open_int Tryz.underlying3 (hval 2 3 v2 rfl rfl) h2
  clear hA0 hval0
  simp only [List.append_nil] at hW'
  refine (walk a0 a1 a2 w0 w1 w2 W hG).mono fun e W' ⟨he, hg⟩ => ?_
  subst he
  exact ⟨_, rfl, _, _, _, [], [], [], hW', trodAll_mk1 (shut_bool Tryz.underlying4 _), (trodAll_cons_mk (shut_string Tryz.underlying9 w0) (trodAll_cons_mk (shut_int Tryz.underlying3 w1) (trodAll_cons_mk (shut_int Tryz.underlying3 w2) trodAll_mk0))), rfl, hg.frame _, fun h => by cases h⟩

theorem over : Rows.endsRow.holds Tryz.pinned (OpenSpec.ofChange Rows.endsSpec) :=
  OpenClaim.holds_of_wide 10 Tryz.f10 rfl rfl rfl rfl rfl rfl rfl ⟨rfl, rfl, rfl, rfl, rfl⟩ rfl rfl rfl rfl rfl (by kernel_rfl) Tryz.func10 (by kernel_rfl)
    (of_decide_eq_true (by kernel_rfl)) (by unfold Func.isWrapper; first | (rw [if_pos (by decide +kernel)]; kernel_rfl) | (rw [if_neg (by decide +kernel)]; exact ⟨rfl, rfl⟩))
    (fun os started H enc _ => lifted os started H enc)

theorem proved : Rows.EndsSaid :=
  over
end Go.Proofs.YtkpebabbnndopaaGreatDoor.ends
namespace Go.Proofs.YtkpebabbnndopaaGreatDoor
open Go
theorem ends_holds : Rows.EndsCardSaid :=
  Claim7.holds_tied_plain_at .later [] [.handle] true _ true
    ends.proved (fun _ h => by cases h) (by kernel_rfl) (fun _ h => by cases h) ends_row_tie rfl ⟨rfl, rfl⟩ (by kernel_rfl) rfl
    (fun f fn hf hfn => by
      obtain rfl : f = 10 := Option.some.inj ((show Tryz.prog.funcNamed "epoch/epochkeep.Ends" = some 10 by kernel_rfl).symm.trans hf) |>.symm
      obtain rfl : fn = Tryz.f10 := (Option.some.inj (Tryz.func10.symm.trans hfn)).symm
      exact ⟨by kernel_rfl, fun j t ht => by
        rw [Tryz.params10] at ht
        rcases j with _ | _ | _ | j
        · obtain rfl : t = 9 := by simpa using ht.symm
          exact (show Tryz.prog.wantsStandIn 9 = false by kernel_rfl)
        · obtain rfl : t = 3 := by simpa using ht.symm
          exact (show Tryz.prog.wantsStandIn 3 = false by kernel_rfl)
        · obtain rfl : t = 3 := by simpa using ht.symm
          exact (show Tryz.prog.wantsStandIn 3 = false by kernel_rfl)
        · simp at ht⟩)
    (by kernel_rfl)
#print axioms ends_holds
end Go.Proofs.YtkpebabbnndopaaGreatDoor
