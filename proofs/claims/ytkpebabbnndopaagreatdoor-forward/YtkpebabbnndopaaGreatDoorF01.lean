import Derived.Test.YtkpebabbnndopaaGreatDoorRows
import Derived.WalkKit
import Derived.WalkSpells
import Derived.WalkLawsBesides
import Derived.Test.YtkpebabbnndopaaGreatDoorC15
import Derived.Test.YtkpebabbnndopaaGreatDoorC13
import Derived.OwnWalk
import Derived.Test.YtkpebabbnndopaaGreatDoorC16
import Derived.Deep.QuietTactic
import Derived.BigQuiet
import Derived.Deep.WholeRow
import Derived.Deep.LoopGhost
import Derived.Deep.MidRow
import Derived.Test.YtkpebabbnndopaaGreatDoorC09
import Derived.ChangeSame
import Derived.ChangeVars
import Derived.JoinedOf
import Derived.RowKit
import Derived.RowKitTokens
import Derived.LaidLaws
import Derived.LaidHandle
import Derived.Stop.Joined
import Derived.Test.YtkpebabbnndopaaGreatDoorC29
import Derived.Test.YtkpebabbnndopaaGreatDoorCards
import Derived.Test.YtkpebabbnndopaaGreatDoorTie
import Derived.SevenTiedAt
import Derived.ProofKit
import Derived.OpenShut
import Derived.ShutString
/- The law's pick. -/
namespace Go.Proofs.YtkpebabbnndopaaGreatDoor
open Go.RowKit
set_option linter.unusedVariables false

/-- which of n things the raw number c speaks of -/
def PickI (c : Int) (n : Nat) : Nat := if c < 0 then ((-(c + 1)) % (n : Int)).toNat else (c % (n : Int)).toNat
theorem PickI_lt (c : Int) (n : Nat) (hn : 1 ≤ n) : PickI c n < n := by
  unfold PickI
  have hn0 : ¬ (n : Int) = 0 := by omega
  split
  · have a1 := Int.emod_nonneg (-(c + 1)) hn0
    have a2 := Int.emod_lt_of_pos (-(c + 1)) (show (0 : Int) < n by omega)
    omega
  · have a1 := Int.emod_nonneg c hn0
    have a2 := Int.emod_lt_of_pos c (show (0 : Int) < n by omega)
    omega
theorem PickI_neg (c : Int) (n : Nat) (hn : 1 ≤ n) (hc : c < 0) : (PickI c n : Int) = -(c + 1).tmod (n : Int) := by
  have hn0 : ¬ (n : Int) = 0 := by omega
  unfold PickI
  rw [if_pos hc, ← Int.neg_tmod, Int.tmod_eq_emod_of_nonneg (by omega), Int.toNat_of_nonneg (Int.emod_nonneg _ hn0)]
theorem PickI_pos (c : Int) (n : Nat) (hn : 1 ≤ n) (hc : ¬ c < 0) : (PickI c n : Int) = c % (n : Int) := by
  have hn0 : ¬ (n : Int) = 0 := by omega
  unfold PickI
  rw [if_neg hc, Int.toNat_of_nonneg (Int.emod_nonneg _ hn0)]
theorem pick_any (c : Int) (h1 : -9223372036854775808 ≤ c) (h2 : c ≤ 9223372036854775807) (n : Nat) (hn : 1 ≤ n) (hn2 : n ≤ 1000000) (w : World) :
    Calls Tryz.prog 65 #[.int .i64 c, .int .i64 n] w fun e w' => e = .returned (.int .i64 (PickI c n)) ∧ w' = w := by
  have hn0 : ¬ (n : Int) = 0 := by omega
  by_cases hc : c < 0
  · have HE : Hid ((PickI c n : Int) = -(c + 1).tmod (n : Int)) := PickI_neg c n hn hc
    obtain ⟨i, hi⟩ : ∃ i, PickI c n = i := ⟨_, rfl⟩
    rw [hi] at HE ⊢
    clear hi
    go_enter Tryz.func65, Tryz.ntmps65
    go_wp2_with fail
    go_ret
    refine ⟨?_, rfl⟩
    show Ending.returned (Value.int .i64 (-(c + 1).tmod (n : Int))) = _
    rw [HE.out]
  · have HE : Hid ((PickI c n : Int) = c % (n : Int)) := PickI_pos c n hn hc
    obtain ⟨i, hi⟩ : ∃ i, PickI c n = i := ⟨_, rfl⟩
    rw [hi] at HE ⊢
    clear hi
    go_enter Tryz.func65, Tryz.ntmps65
    go_wp2_with fail
    go_ret
    refine ⟨?_, rfl⟩
    show Ending.returned (Value.int .i64 (c % (n : Int))) = _
    rw [HE.out]
end Go.Proofs.YtkpebabbnndopaaGreatDoor

/- epochkeep's secret, pick, pair. -/
namespace Go.Proofs.YtkpebabbnndopaaGreatDoor
open Go.RowKit
set_option linter.unusedVariables false

set_option maxHeartbeats 400000 in
theorem keepSecret_any (s : ByteArray) (w : World) :
    Calls Tryz.prog 40 #[.string s] w fun e w' => e = .returned (Agg8 (SecL s.data.toList)) ∧ w' = (w.alloc (.cells (Cells8 (SecL s.data.toList)) 51)).alloc (.cells (Cells8 (SecL s.data.toList)) 51) := by
  have hcp := fun ty => run_copy_text (w.alloc (.cells #[.int .u8 0, .int .u8 0, .int .u8 0, .int .u8 0, .int .u8 0, .int .u8 0, .int .u8 0, .int .u8 0] 51)) s ty
  have hsz : (w.alloc (.cells #[.int .u8 0, .int .u8 0, .int .u8 0, .int .u8 0, .int .u8 0, .int .u8 0, .int .u8 0, .int .u8 0] 51)).heap.size = w.heap.size + 1 := by simp
  rw [hsz] at hcp
  clear hsz
  go_enter Tryz.func40, Tryz.ntmps40
  go_wp2
  exact bodyPost_ret (v := Agg8 (SecL s.data.toList)) (by simp [results, Tryz.results40, go_sem]) rfl ⟨rfl, rfl⟩
theorem keepPick_any (c : Int) (h1 : -9223372036854775808 ≤ c) (h2 : c ≤ 9223372036854775807) (n : Nat) (hn : 1 ≤ n) (hn2 : n ≤ 1000000) (w : World) :
    Calls Tryz.prog 19 #[.int .i64 c, .int .i64 n] w fun e w' => e = .returned (.int .i64 (PickI c n)) ∧ w' = w := by
  have hn0 : ¬ (n : Int) = 0 := by omega
  by_cases hc : c < 0
  · have HE : Hid ((PickI c n : Int) = -(c + 1).tmod (n : Int)) := PickI_neg c n hn hc
    obtain ⟨i, hi⟩ : ∃ i, PickI c n = i := ⟨_, rfl⟩
    rw [hi] at HE ⊢
    clear hi
    go_enter Tryz.func19, Tryz.ntmps19
    go_wp2_with fail
    go_ret
    refine ⟨?_, rfl⟩
    show Ending.returned (Value.int .i64 (-(c + 1).tmod (n : Int))) = _
    rw [HE.out]
  · have HE : Hid ((PickI c n : Int) = c % (n : Int)) := PickI_pos c n hn hc
    obtain ⟨i, hi⟩ : ∃ i, PickI c n = i := ⟨_, rfl⟩
    rw [hi] at HE ⊢
    clear hi
    go_enter Tryz.func19, Tryz.ntmps19
    go_wp2_with fail
    go_ret
    refine ⟨?_, rfl⟩
    show Ending.returned (Value.int .i64 (c % (n : Int))) = _
    rw [HE.out]

theorem keepSecret_below (s : ByteArray) (w : World) :
    Calls Tryz.prog 40 #[.string s] w fun e w' => e = .returned (Agg8 (SecL s.data.toList)) ∧ Below w.heap.size w w' :=
  (keepSecret_any s w).mono fun e w' ⟨he, hw⟩ => ⟨he, by rw [hw]; exact ((Below.refl _ w).alloc (Nat.le_refl _) _).alloc (by simp) _⟩

set_option maxHeartbeats 1000000 in
theorem pair_any {Rep : World → List Nat → Value → St → Nat → Prop} (C : Code Rep) (root : ByteArray) (m a : Int) (hm1 : -9223372036854775808 ≤ m) (hm2 : m ≤ 9223372036854775807) (ha1 : -9223372036854775808 ≤ a) (ha2 : a ≤ 9223372036854775807) (w : World) :
    Calls Tryz.prog 16 #[.string root, .int .i64 m, .int .i64 a] w fun e w' => Below w.heap.size w w' ∧ ∃ (N x y b c : Nat) (S T : List Nat), 2 ≤ N ∧ N ≤ 16 ∧ x < N ∧ y < N ∧ x ≠ y ∧ e = .returned (.tuple #[.pointer (some ⟨b, 0, none⟩), .pointer (some ⟨c, 0, none⟩), .int .i64 x]) ∧
      Rep w' S (.pointer (some ⟨b, 0, none⟩)) (St.new (SecL root.data.toList) N x) 0 ∧ Rep w' T (.pointer (some ⟨c, 0, none⟩)) (St.new (SecL root.data.toList) N y) 0 ∧ (∀ k, k ∈ S → w.heap.size ≤ k) ∧ (∀ k, k ∈ T → w.heap.size ≤ k) ∧ (∀ k, k ∈ S → k ∉ T) := by
  have hs := SecL_bd root.data.toList
  have HSEC : Hid (∀ W, Calls Tryz.prog 40 #[.string root] W fun e w' => e = .returned (Agg8 (SecL root.data.toList)) ∧ Below W.heap.size W w') := fun W => keepSecret_below root W
  obtain ⟨s, hse⟩ : ∃ s, SecL root.data.toList = s := ⟨_, rfl⟩
  rw [hse] at hs HSEC ⊢
  clear hse
  have HP1 : Hid (∀ W, Calls Tryz.prog 19 #[.int .i64 m, .int .i64 15] W fun e w' => e = .returned (.int .i64 (PickI m 15)) ∧ w' = W) := fun W => keepPick_any m hm1 hm2 15 (by omega) (by omega) W
  have hp1 := PickI_lt m 15 (by omega)
  obtain ⟨k, hk⟩ : ∃ k, PickI m 15 = k := ⟨_, rfl⟩
  rw [hk] at HP1 hp1
  have HP2 : Hid (∀ W, Calls Tryz.prog 19 #[.int .i64 a, .int .i64 (2 + (k : Int))] W fun e w' => e = .returned (.int .i64 (PickI a (2 + k))) ∧ w' = W) := fun W => by
    have h := keepPick_any a ha1 ha2 (2 + k) (by omega) (by omega) W
    have e : ((2 + k : Nat) : Int) = 2 + (k : Int) := by omega
    rw [e] at h
    exact h
  have hp2 := PickI_lt a (2 + k) (by omega)
  obtain ⟨x, hx⟩ : ∃ x, PickI a (2 + k) = x := ⟨_, rfl⟩
  rw [hx] at HP2 hp2
  obtain ⟨y, hy, hy1, hy2⟩ : ∃ y : Nat, ((x : Int) + 1) % (2 + (k : Int)) = y ∧ y < 2 + k ∧ x ≠ y := by
    by_cases h : x + 1 = 2 + k
    · exact ⟨0, by have : (x : Int) + 1 = 2 + (k : Int) := by omega
                   rw [this]; simp, by omega, by omega⟩
    · exact ⟨x + 1, by rw [Int.emod_eq_of_lt (by omega) (by omega)]; rfl, by omega, by omega⟩
  have HN : Hid (∀ (z : Nat), z < 2 + k → ∀ W, Calls Tryz.prog 25 #[Agg8 s, .int .i64 (2 + (k : Int)), .int .i64 z] W fun e w' => ∃ b S, e = .returned (.tuple #[.pointer (some ⟨b, 0, none⟩), .int .i64 0]) ∧ Below W.heap.size W w' ∧ (∀ k, k ∈ S → W.heap.size ≤ k) ∧ Rep w' S (.pointer (some ⟨b, 0, none⟩)) (St.new s (2 + k) z) 0) := fun z hz W => by
    have h := C.new s (2 + k) z W hs (by omega) (by omega) hz
    have e : ((2 + k : Nat) : Int) = 2 + (k : Int) := by omega
    rw [e] at h
    exact h
  clear hk hx
  go_enter Tryz.func16, Tryz.ntmps16
  go_wp2_with fail
  refine (HP1.out _).mono ?_
  rintro e w0 ⟨rfl, hw0⟩
  subst hw0
  go_wp2_with fail
  refine (HP2.out _).mono ?_
  rintro e w0' ⟨rfl, hw0⟩
  subst hw0
  go_wp2_with fail
  refine (HSEC.out _).mono ?_
  rintro e w1 ⟨rfl, b1⟩
  go_wp2_with fail
  refine (HN.out x hp2 _).mono ?_
  rintro e w2 ⟨b, S, rfl, b2, hS, r2⟩
  have H2 : Hid (Below w1.heap.size w1 w2 ∧ (∀ k, k ∈ S → w1.heap.size ≤ k) ∧ Rep w2 S (.pointer (some ⟨b, 0, none⟩)) (St.new s (2 + k) x) 0) := ⟨b2, hS, r2⟩
  have H1 : Hid (Below w0'.heap.size w0' w1) := b1
  clear b1 b2 hS r2
  go_wp2_with fail
  refine (HSEC.out _).mono ?_
  rintro e w3 ⟨rfl, b3⟩
  go_wp2_with fail
  refine (HN.out y hy1 _).mono ?_
  rintro e w4 ⟨c, T, rfl, b4, hT, r4⟩
  have HFIN : Hid (Below w0'.heap.size w0' w4 ∧ Rep w4 S (.pointer (some ⟨b, 0, none⟩)) (St.new s (2 + k) x) 0 ∧ Rep w4 T (.pointer (some ⟨c, 0, none⟩)) (St.new s (2 + k) y) 0 ∧ (∀ k, k ∈ S → w0'.heap.size ≤ k) ∧ (∀ k, k ∈ T → w0'.heap.size ≤ k) ∧ (∀ k, k ∈ S → k ∉ T)) := by
    obtain ⟨b2, hS, r2⟩ := H2.out
    have z1 := H1.out.size
    have z2 := b2.size
    have z3 := b3.size
    have z4 := b4.size
    have b34 := b3.trans (b4.mono b3.size)
    refine ⟨(H1.out.trans (b2.mono z1)).trans (b34.mono (by omega)), C.keep r2 (by omega) (fun k a _ => b34.block k a), r4, fun k hk => by have := hS k hk; omega, fun k hk => by have := hT k hk; omega, fun k hk hk' => ?_⟩
    have h1 := C.lt r2 k hk
    have h2 := hT k hk'
    omega
  clear b3 b4 hT r4 H1 H2 HN HSEC HP1 HP2
  go_wp2_with fail
  refine bodyPost_ret (results_tmp3 rfl _ _ _) rfl ?_
  obtain ⟨f1, f2, f3, f4, f5, f6⟩ := HFIN.out
  exact ⟨f1, 2 + k, x, y, b, c, S, T, by omega, by omega, hp2, hy1, hy2, rfl, f2, f3, f4, f5, f6⟩
end Go.Proofs.YtkpebabbnndopaaGreatDoor

/- Two members of a group, call by call; a frame of the one's, at the other. -/
namespace Go.Proofs.YtkpebabbnndopaaGreatDoor
open Go.RowKit
set_option linter.unusedVariables false
set_option linter.unusedSimpArgs false

/-- a text of at most 40 bytes -/
def TextB (s : ByteArray) : ByteArray := if 40 < s.size then s.extract 0 40 else s
theorem TextB_le (s : ByteArray) : (TextB s).size ≤ 40 := by
  unfold TextB
  split
  · simp [ByteArray.size_extract]; omega
  · omega
theorem text_any (s : ByteArray) (w : World) : Calls Tryz.prog 18 #[.string s] w fun e w' => e = .returned (.string (TextB s)) ∧ w' = w := by
  unfold TextB
  by_cases h : 40 < s.size
  · have h1 : (40 : Int) < (s.size : Int) := by omega
    have h2 : (40 : Int) ≤ (s.size : Int) := by omega
    rw [if_pos h]
    clear h
    go_enter Tryz.func18, Tryz.ntmps18
    go_wp2_with fail
    go_ret
    exact ⟨rfl, rfl⟩
  · have h1 : ¬ (40 : Int) < (s.size : Int) := by omega
    rw [if_neg h]
    clear h
    go_enter Tryz.func18, Tryz.ntmps18
    go_wp2_with fail
    go_ret
    exact ⟨rfl, rfl⟩
/-- two members' groups, in blocks U that are new since w0 -/
structure Duo (Rep : World → List Nat → Value → St → Nat → Prop) (w0 w : World) (U : List Nat) (b c : Nat) (s1 s2 : St) (k1 k2 : Nat) : Prop where
  parts : ∃ S T, U = S ++ T ∧ Rep w S (.pointer (some ⟨b, 0, none⟩)) s1 k1 ∧ Rep w T (.pointer (some ⟨c, 0, none⟩)) s2 k2 ∧ ∀ k, k ∈ S → k ∉ T
  fresh : ∀ k, k ∈ U → w0.heap.size ≤ k
  below : Below w0.heap.size w0 w
  ok1 : s1.Ok
  ok2 : s2.Ok
  glob : Glob w0
section
variable {Rep : World → List Nat → Value → St → Nat → Prop} {w0 w w' : World} {U : List Nat} {b c : Nat} {s1 s2 s' : St} {k1 k2 k' : Nat}
theorem Duo.gl (h : Duo Rep w0 w U b c s1 s2 k1 k2) : Glob w := h.glob.belowB h.below h.glob.pos
theorem Duo.lt (C : Code Rep) (h : Duo Rep w0 w U b c s1 s2 k1 k2) : ∀ k, k ∈ U → k < w.heap.size := fun k hk => by
  obtain ⟨S, T, rfl, r1, r2, _⟩ := h.parts
  rcases List.mem_append.1 hk with hk | hk
  · exact C.lt r1 k hk
  · exact C.lt r2 k hk
theorem Duo.to (C : Code Rep) (h : Duo Rep w0 w U b c s1 s2 k1 k2) (hb : Below w.heap.size w w') : Duo Rep w0 w' U b c s1 s2 k1 k2 := by
  obtain ⟨S, T, rfl, r1, r2, hd⟩ := h.parts
  exact ⟨⟨S, T, rfl, C.keep r1 hb.size (fun k hk _ => hb.block k hk), C.keep r2 hb.size (fun k hk _ => hb.block k hk), hd⟩, h.fresh, h.below.trans (hb.mono h.below.size), h.ok1, h.ok2, h.glob⟩
/-- a call on the first -/
theorem Duo.left (C : Code Rep) {S T S' : List Nat} (h : Duo Rep w0 w (S ++ T) b c s1 s2 k1 k2) (hd : ∀ k, k ∈ S → k ∉ T) (r1 : Rep w S (.pointer (some ⟨b, 0, none⟩)) s1 k1) (r2 : Rep w T (.pointer (some ⟨c, 0, none⟩)) s2 k2) (ho : Outside S w w') (hf : Fresh w S S') (hr : Rep w' S' (.pointer (some ⟨b, 0, none⟩)) s' k') (ok : s'.Ok) :
    Duo Rep w0 w' (S' ++ T) b c s' s2 k' k2 ∧ Outside (S ++ T) w w' ∧ Fresh w (S ++ T) (S' ++ T) := by
  have hz := h.below.size
  have hTl := C.lt r2
  refine ⟨⟨⟨S', T, rfl, hr, C.keep r2 ho.size (fun k hk hm => ho.block k hk (fun hs => hd k hs hm)), fun k hk hm => ?_⟩, fun k hk => ?_, h.below.trans (ho.toBelow w0.heap.size hz (fun i hi => h.fresh i (List.mem_append_left _ hi))), ok, h.ok2, h.glob⟩, ho.mono (fun i hi _ => List.mem_append_left _ hi), fun k hk => ?_⟩
  · rcases hf k hk with e | e
    · exact hd k e hm
    · have := hTl k hm; omega
  · rcases List.mem_append.1 hk with hk | hk
    · rcases hf k hk with e | e
      · exact h.fresh k (List.mem_append_left _ e)
      · omega
    · exact h.fresh k (List.mem_append_right _ hk)
  · rcases List.mem_append.1 hk with hk | hk
    · rcases hf k hk with e | e
      · exact .inl (List.mem_append_left _ e)
      · exact .inr e
    · exact .inl (List.mem_append_right _ hk)
/-- a call on the second -/
theorem Duo.right (C : Code Rep) {S T T' : List Nat} (h : Duo Rep w0 w (S ++ T) b c s1 s2 k1 k2) (hd : ∀ k, k ∈ S → k ∉ T) (r1 : Rep w S (.pointer (some ⟨b, 0, none⟩)) s1 k1) (r2 : Rep w T (.pointer (some ⟨c, 0, none⟩)) s2 k2) (ho : Outside T w w') (hf : Fresh w T T') (hr : Rep w' T' (.pointer (some ⟨c, 0, none⟩)) s' k') (ok : s'.Ok) :
    Duo Rep w0 w' (S ++ T') b c s1 s' k1 k' ∧ Outside (S ++ T) w w' ∧ Fresh w (S ++ T) (S ++ T') := by
  have hz := h.below.size
  have hSl := C.lt r1
  refine ⟨⟨⟨S, T', rfl, C.keep r1 ho.size (fun k hk hm => ho.block k hk (fun hs => hd k hm hs)), hr, fun k hk hm => ?_⟩, fun k hk => ?_, h.below.trans (ho.toBelow w0.heap.size hz (fun i hi => h.fresh i (List.mem_append_right _ hi))), h.ok1, ok, h.glob⟩, ho.mono (fun i hi _ => List.mem_append_right _ hi), fun k hk => ?_⟩
  · rcases hf k hm with e | e
    · exact hd k hk e
    · have := hSl k hk; omega
  · rcases List.mem_append.1 hk with hk | hk
    · exact h.fresh k (List.mem_append_left _ hk)
    · rcases hf k hk with e | e
      · exact h.fresh k (List.mem_append_right _ e)
      · omega
  · rcases List.mem_append.1 hk with hk | hk
    · exact .inl (List.mem_append_left _ hk)
    · rcases hf k hk with e | e
      · exact .inl (List.mem_append_right _ e)
      · exact .inr e
end
/-- bytes that lie beside the groups -/
def Buf (w : World) (U : List Nat) (a : Option Addr) (l : List UInt8) : Prop := Bts w a l ∧ ∀ b o, a = some ⟨b, o, none⟩ → b ∉ U ∧ b < w.heap.size
theorem Buf.step {w w' : World} {U U' : List Nat} {a : Option Addr} {l : List UInt8} (h : Buf w U a l) (ho : Outside U w w') (hf : Fresh w U U') : Buf w' U' a l :=
  ⟨h.1.out ho (fun b o e => (h.2 b o e).1), fun b o e => ⟨fun hm => by
    rcases hf b hm with e1 | e1
    · exact (h.2 b o e).1 e1
    · have := (h.2 b o e).2; omega, by have := (h.2 b o e).2; have := ho.size; omega⟩⟩
theorem Buf.below {w w' : World} {U : List Nat} {a : Option Addr} {l : List UInt8} (h : Buf w U a l) (hb : Below w.heap.size w w') : Buf w' U a l := h.step (Outside.ofBelow hb) (Fresh.refl _ _)
theorem Buf.new {w : World} {U : List Nat} {a : Option Addr} {l : List UInt8} (h : Bts w a l) {n : Nat} (hn : ∀ b o, a = some ⟨b, o, none⟩ → n ≤ b ∧ b < w.heap.size) (hU : ∀ k, k ∈ U → k < n) : Buf w U a l := ⟨h, fun b o e => ⟨fun hm => by have := hU b hm; have := hn b o e; omega, (hn b o e).2⟩⟩
section
variable {Rep : World → List Nat → Value → St → Nat → Prop} (C : Code Rep) {w0 w : World} {U : List Nat} {b c : Nat} {s1 s2 : St} {k1 k2 : Nat}
include C
/-- Protect, of the first -/
theorem Duo.prot1 (h : Duo Rep w0 w U b c s1 s2 k1 k2) (a : Option Addr) (t : List UInt8) (cp : Nat) (hb : Buf w U a t) (he : s1.protErr t.length = 0) :
    Calls Tryz.prog 17 #[.pointer (some ⟨b, 0, none⟩), .slice a t.length cp] w fun e w' => ∃ f o cap, e = .returned (.tuple #[.slice (some ⟨f, o, none⟩) (s1.frame t).length cap, .int .i64 0]) ∧ ∃ U' k1', Duo Rep w0 w' U' b c s1.protNext s2 k1' k2 ∧ Outside U w w' ∧ Fresh w U U' ∧ (k1 < k1' ∧ k1' ≤ k1 + 100) ∧ (s1.frame t).length ≤ cap ∧ Buf w' U' (some ⟨f, o, none⟩) (s1.frame t) := by
  obtain ⟨S, T, rfl, r1, r2, hd⟩ := h.parts
  obtain ⟨e1, e2⟩ := protErr_zero he
  have hbd := bound_le s1 t.length e1
  refine (C.prot h.ok1 r1 a t cp (by omega) hb.1 (fun b o e hm => (hb.2 b o e).1 (List.mem_append_left _ hm)) he).mono fun e w' ⟨h1, S', wk', f, o, cap, h2, h3, h4, h5, h6, h7, h8, h9, h10, h11⟩ => ?_
  obtain ⟨x1, x2, x3⟩ := h.left C hd r1 r2 h1 h2 h3 (h.ok1.protNext e2)
  refine ⟨f, o, cap, h6, S' ++ T, wk', x1, x2, x3, ⟨h4, by omega⟩, h9, h10, fun b' o' e => ?_⟩
  cases e
  refine ⟨fun hm => ?_, ?_⟩
  · rcases List.mem_append.1 hm with hm | hm
    · exact h8 hm
    · have := C.lt r2 f hm; omega
  · rcases h10 with hn | ⟨b', o', e, hc⟩
    · exfalso
      have : (s1.frame t).length = 0 := by rw [hn]; rfl
      unfold St.frame at this
      rw [List.length_append, SealT_length] at this
      omega
    · cases e
      refine block_lt_of_cell (hc 0 ?_)
      unfold St.frame
      rw [List.length_append, SealT_length]
      omega
theorem Duo.protErr1 (h : Duo Rep w0 w U b c s1 s2 k1 k2) (a : Option Addr) (t : List UInt8) (cp : Nat) (hl : t.length ≤ 100000) (hb : Buf w U a t) (he : s1.protErr t.length ≠ 0) :
    Calls Tryz.prog 17 #[.pointer (some ⟨b, 0, none⟩), .slice a t.length cp] w fun e w' => e = .returned (.tuple #[.slice none 0 0, .int .i64 (s1.protErr t.length)]) ∧ ∃ U', Duo Rep w0 w' U' b c s1 s2 k1 k2 ∧ Outside U w w' ∧ Fresh w U U' := by
  obtain ⟨S, T, rfl, r1, r2, hd⟩ := h.parts
  refine (C.protErr h.ok1 r1 h.gl a t cp hl hb.1 (fun b o e hm => (hb.2 b o e).1 (List.mem_append_left _ hm)) he).mono fun e w' ⟨h1, h2, S', h3, h4⟩ => ?_
  obtain ⟨x1, x2, x3⟩ := h.left C hd r1 r2 h2 h3 h4 h.ok1
  exact ⟨h1, _, x1, x2, x3⟩
theorem Duo.work1 (h : Duo Rep w0 w U b c s1 s2 k1 k2) (hk : k1 ≤ 1000000000000) :
    Calls Tryz.prog 23 #[.pointer (some ⟨b, 0, none⟩)] w fun e w' => e = .returned (.int .i64 k1) ∧ ∃ U', Duo Rep w0 w' U' b c s1 s2 k1 k2 ∧ Outside U w w' ∧ Fresh w U U' := by
  obtain ⟨S, T, rfl, r1, r2, hd⟩ := h.parts
  refine (C.work h.ok1 hk r1).mono fun e w' ⟨h1, h2, S', h3, h4⟩ => ?_
  obtain ⟨x1, x2, x3⟩ := h.left C hd r1 r2 h2 h3 h4 h.ok1
  exact ⟨h1, _, x1, x2, x3⟩
theorem Duo.close1 (h : Duo Rep w0 w U b c s1 s2 k1 k2) (hc : s1.closed = false) :
    Calls Tryz.prog 24 #[.pointer (some ⟨b, 0, none⟩)] w fun e w' => e = .returned (.int .i64 0) ∧ ∃ U', Duo Rep w0 w' U' b c s1.shut s2 k1 k2 ∧ Outside U w w' ∧ Fresh w U U' := by
  obtain ⟨S, T, rfl, r1, r2, hd⟩ := h.parts
  refine (C.close h.ok1 r1 h.gl hc).mono fun e w' ⟨h1, h2, S', h3, h4⟩ => ?_
  obtain ⟨x1, x2, x3⟩ := h.left C hd r1 r2 h2 h3 h4 h.ok1.shut
  exact ⟨h1, _, x1, x2, x3⟩
theorem Duo.closeErr1 (h : Duo Rep w0 w U b c s1 s2 k1 k2) (hc : s1.closed = true) :
    Calls Tryz.prog 24 #[.pointer (some ⟨b, 0, none⟩)] w fun e w' => e = .returned (.int .i64 9) ∧ ∃ U', Duo Rep w0 w' U' b c s1 s2 k1 k2 ∧ Outside U w w' ∧ Fresh w U U' := by
  obtain ⟨S, T, rfl, r1, r2, hd⟩ := h.parts
  refine (C.closeErr h.ok1 r1 h.gl hc).mono fun e w' ⟨h1, h2, S', h3, h4⟩ => ?_
  obtain ⟨x1, x2, x3⟩ := h.left C hd r1 r2 h2 h3 h4 h.ok1
  exact ⟨h1, _, x1, x2, x3⟩
/-- Unprotect that does not open, of the first; of the second -/
theorem Duo.unErr1 (h : Duo Rep w0 w U b c s1 s2 k1 k2) (a : Option Addr) (l : List UInt8) (cp : Nat) (hl : l.length ≤ 100000) (hlc : l.length ≤ cp) (hb : Buf w U a l) (he : s1.unErr l ≠ 0) :
    Calls Tryz.prog 20 #[.pointer (some ⟨b, 0, none⟩), .slice a l.length cp] w fun e w' => e = .returned (.tuple #[.agg #[.int .i64 0, .int .i64 0, .slice none 0 0], .int .i64 (s1.unErr l)]) ∧ ∃ U' k', Duo Rep w0 w' U' b c s1 s2 k' k2 ∧ Outside U w w' ∧ Fresh w U U' ∧ k1 ≤ k' ∧ k' ≤ k1 + (if s1.unPre l = 0 then s1.bound (unWho l) (unGen l) (l.length - 7) else 0) := by
  obtain ⟨S, T, rfl, r1, r2, hd⟩ := h.parts
  refine (C.unErr h.ok1 r1 h.gl a l cp hl hlc hb.1 (fun b o e hm => (hb.2 b o e).1 (List.mem_append_left _ hm)) he).mono fun e w' ⟨h1, h2, S', wk', h3, h4, h5, h6⟩ => ?_
  obtain ⟨x1, x2, x3⟩ := h.left C hd r1 r2 h2 h3 h4 h.ok1
  exact ⟨h1, _, wk', x1, x2, x3, h5, h6⟩
theorem Duo.unErr2 (h : Duo Rep w0 w U b c s1 s2 k1 k2) (a : Option Addr) (l : List UInt8) (cp : Nat) (hl : l.length ≤ 100000) (hlc : l.length ≤ cp) (hb : Buf w U a l) (he : s2.unErr l ≠ 0) :
    Calls Tryz.prog 20 #[.pointer (some ⟨c, 0, none⟩), .slice a l.length cp] w fun e w' => e = .returned (.tuple #[.agg #[.int .i64 0, .int .i64 0, .slice none 0 0], .int .i64 (s2.unErr l)]) ∧ ∃ U' k', Duo Rep w0 w' U' b c s1 s2 k1 k' ∧ Outside U w w' ∧ Fresh w U U' := by
  obtain ⟨S, T, rfl, r1, r2, hd⟩ := h.parts
  refine (C.unErr h.ok2 r2 h.gl a l cp hl hlc hb.1 (fun b o e hm => (hb.2 b o e).1 (List.mem_append_right _ hm)) he).mono fun e w' ⟨h1, h2, S', wk', h3, h4, h5, h6⟩ => ?_
  obtain ⟨x1, x2, x3⟩ := h.right C hd r1 r2 h2 h3 h4 h.ok2
  exact ⟨h1, _, wk', x1, x2, x3⟩
/-- Unprotect that opens, of the second -/
theorem Duo.un2 (h : Duo Rep w0 w U b c s1 s2 k1 k2) (a : Option Addr) (l : List UInt8) (cp : Nat) (hl : l.length ≤ 100000) (hlc : l.length ≤ cp) (hb : Buf w U a l) (he : s2.unErr l = 0) (ok : (s2.unNext l).Ok) :
    Calls Tryz.prog 20 #[.pointer (some ⟨c, 0, none⟩), .slice a l.length cp] w fun e w' => ∃ f o cap, e = .returned (.tuple #[.agg #[.int .i64 (unWho l), .int .i64 (unGen l), .slice (some ⟨f, o, none⟩) (l.length - 7) cap], .int .i64 0]) ∧ ∃ U' k', Duo Rep w0 w' U' b c s1 (s2.unNext l) k1 k' ∧ Outside U w w' ∧ Fresh w U U' ∧ l.length - 7 ≤ cap ∧ Buf w' U' (some ⟨f, o, none⟩) (s2.unText l) := by
  obtain ⟨S, T, rfl, r1, r2, hd⟩ := h.parts
  refine (C.un h.ok2 r2 h.gl a l cp hl hlc hb.1 (fun b o e hm => (hb.2 b o e).1 (List.mem_append_right _ hm)) he).mono fun e w' ⟨h1, S', wk', f, o, cap, h2, h3, h4, h5, h6, h7, h8, h9, h10, h11, h12⟩ => ?_
  obtain ⟨x1, x2, x3⟩ := h.right C hd r1 r2 h1 h2 h3 ok
  refine ⟨f, o, cap, h6, S ++ S', wk', x1, x2, x3, h10, h11, fun b' o' e => ?_⟩
  cases e
  refine ⟨fun hm => ?_, h8⟩
  rcases List.mem_append.1 hm with hm | hm
  · have := C.lt r1 f hm; omega
  · exact h9 hm
/-- Dump, of the first; of the second -/
theorem Duo.dump1 (h : Duo Rep w0 w U b c s1 s2 k1 k2) (hdm : s1.dump = []) :
    Calls Tryz.prog 21 #[.pointer (some ⟨b, 0, none⟩)] w fun e w' => ∃ p cap, e = .returned (.slice p 0 cap) ∧ ∃ U', Duo Rep w0 w' U' b c s1 s2 k1 k2 ∧ Outside U w w' ∧ Fresh w U U' := by
  obtain ⟨S, T, rfl, r1, r2, hd⟩ := h.parts
  refine (C.dump h.ok1 r1).mono fun e w' ⟨h1, S', p, cap, h2, h3, h4, h5⟩ => ?_
  obtain ⟨x1, x2, x3⟩ := h.left C hd r1 r2 h1 h2 h3 h.ok1
  rw [hdm] at h4
  exact ⟨p, cap, h4, _, x1, x2, x3⟩
end
/-- a list of items that lies beside the groups -/
def ItBuf (w : World) (U : List Nat) (p : Option Addr) (l : List It) (cap : Nat) : Prop := l = [] ∨ ∃ b o, p = some ⟨b, o, none⟩ ∧ l.length ≤ cap ∧ b ∉ U ∧ b < w.heap.size ∧ ∀ j u, (itCells l)[j]? = some u → w.cell? ⟨b, o + j, none⟩ = some u
theorem ItBuf.step {w w' : World} {U U' : List Nat} {p : Option Addr} {l : List It} {cap : Nat} (h : ItBuf w U p l cap) (ho : Outside U w w') (hf : Fresh w U U') : ItBuf w' U' p l cap := by
  rcases h with h | ⟨b, o, h1, h2, h3, h4, h5⟩
  · exact .inl h
  · refine .inr ⟨b, o, h1, h2, fun hm => ?_, by have := ho.size; omega, fun j u hu => ?_⟩
    · rcases hf b hm with e | e
      · exact h3 e
      · omega
    · rw [← h5 j u hu]
      exact World.cell?_of_block (w := w) (ho.block b h4 h3)
theorem Duo.dump2 {Rep : World → List Nat → Value → St → Nat → Prop} (C : Code Rep) {w0 w : World} {U : List Nat} {b c : Nat} {s1 s2 : St} {k1 k2 : Nat} (h : Duo Rep w0 w U b c s1 s2 k1 k2) :
    Calls Tryz.prog 21 #[.pointer (some ⟨c, 0, none⟩)] w fun e w' => ∃ p cap, e = .returned (.slice p s2.dump.length cap) ∧ ∃ U', Duo Rep w0 w' U' b c s1 s2 k1 k2 ∧ Outside U w w' ∧ Fresh w U U' ∧ ItBuf w' U' p s2.dump cap := by
  obtain ⟨S, T, rfl, r1, r2, hd⟩ := h.parts
  refine (C.dump h.ok2 r2).mono fun e w' ⟨h1, T', p, cap, h2, h3, h4, h5⟩ => ?_
  obtain ⟨x1, x2, x3⟩ := h.right C hd r1 r2 h1 h2 h3 h.ok2
  refine ⟨p, cap, h4, _, x1, x2, x3, ?_⟩
  rcases h5 with h5 | ⟨f, o, y1, y2, y3, y4, y5, y6⟩
  · exact .inl h5
  · by_cases hn : s2.dump = []
    · exact .inl hn
    · refine .inr ⟨f, o, y1, y2, fun hm => ?_, ?_, y5⟩
      · rcases List.mem_append.1 hm with hm | hm
        · have := C.lt r1 f hm; omega
        · exact y4 hm
      · have hp : 0 < (itCells s2.dump).length := by rw [itCells_length]; have := List.length_pos_iff.2 hn; omega
        exact block_lt_of_cell (y5 0 _ (List.getElem?_eq_getElem hp))
/-- a frame of the one's, as the other reads it -/
theorem frame_un {s1 s2 : St} (hs : s2.s = s1.s) (hn : s2.n = s1.n) (ho : s1.own < 16) (hx : (s1.m s1.own).next ≤ 65535) (t : List UInt8) : unWho (s1.frame t) = s1.own ∧ unGen (s1.frame t) = (s1.m s1.own).next ∧ (s1.frame t).length = t.length + 7 ∧ s2.unOk (s1.frame t) = true ∧ s2.unText (s1.frame t) = t := by
  have e1 : unWho (s1.frame t) = s1.own := by
    show (UInt8.ofNat s1.own).toNat = _
    rw [UInt8.toNat_ofNat']; omega
  have e2 : unGen (s1.frame t) = (s1.m s1.own).next := by
    show (UInt8.ofNat ((s1.m s1.own).next / 256)).toNat * 256 + (UInt8.ofNat (s1.m s1.own).next).toNat = _
    rw [UInt8.toNat_ofNat', UInt8.toNat_ofNat']; omega
  have ek : s2.unKey (s1.frame t) = s1.keyAt s1.own (s1.m s1.own).next := by unfold St.unKey St.keyAt; rw [e1, e2, hs, hn]
  have et : (s1.frame t).take 3 = HeadB s1.own (s1.m s1.own).next := rfl
  have ed : (s1.frame t).drop 3 = SealT (s1.keyAt s1.own (s1.m s1.own).next) (HeadB s1.own (s1.m s1.own).next) t := rfl
  refine ⟨e1, e2, ?_, ?_, ?_⟩
  · unfold St.frame
    rw [List.length_append, SealT_length]
    show 3 + (t.length + 4) = _
    omega
  · unfold St.unOk
    rw [ek, et, ed]
    exact (seal_open _ _ _).1
  · unfold St.unText
    rw [ek, ed]
    exact (seal_open _ (HeadB s1.own (s1.m s1.own).next) _).2
end Go.Proofs.YtkpebabbnndopaaGreatDoor

/- Over: the walk, of any program whose calls are as Code asks. -/
namespace Go.Proofs.YtkpebabbnndopaaGreatDoor
open Go.RowKit
set_option linter.unusedVariables false
set_option linter.unusedSimpArgs false

theorem duo_new {Rep : World → List Nat → Value → St → Nat → Prop} (C : Code Rep) {w w1 : World} {S T : List Nat} {b c : Nat} {s : Nat → Int} {N x y : Nat} (hs : ∀ i, 0 ≤ s i ∧ s i < 256) (hN1 : 2 ≤ N) (hN2 : N ≤ 16) (hx : x < N) (hy : y < N) (hG : Glob w) (b1 : Below w.heap.size w w1)
    (r1 : Rep w1 S (.pointer (some ⟨b, 0, none⟩)) (St.new s N x) 0) (r2 : Rep w1 T (.pointer (some ⟨c, 0, none⟩)) (St.new s N y) 0) (hS : ∀ k, k ∈ S → w.heap.size ≤ k) (hT : ∀ k, k ∈ T → w.heap.size ≤ k) (hd : ∀ k, k ∈ S → k ∉ T) : Duo Rep w w1 (S ++ T) b c (St.new s N x) (St.new s N y) 0 0 :=
  ⟨⟨S, T, rfl, r1, r2, hd⟩, fun k hk => by
    rcases List.mem_append.1 hk with h | h
    · exact hS k h
    · exact hT k h, b1, St.new_ok s hs N x (by omega) hN2 hx, St.new_ok s hs N y (by omega) hN2 hy, hG⟩
/-- a first message, at the other -/
theorem first_err (s : Nat → Int) (N x y : Nat) (hN2 : N ≤ 16) (hx : x < N) (hxy : x ≠ y) (t : List UInt8) (ht : t.length ≤ 40) : (St.new s N y).unErr ((St.new s N x).frame t) = 0 := by
  have hm : ∀ z i, ((St.new s N z).m i) = ⟨false, 0, []⟩ := fun z i => St.new_m s N z i
  obtain ⟨e1, e2, e3, e4, e5⟩ := frame_un (s1 := St.new s N x) (s2 := St.new s N y) rfl rfl (by show x < 16; omega) (by rw [hm]; show (0 : Nat) ≤ 65535; omega) t
  have e2' : unGen ((St.new s N x).frame t) = 0 := by rw [e2, hm]
  have e1' : unWho ((St.new s N x).frame t) = x := e1
  have hp : (St.new s N y).unPre ((St.new s N x).frame t) = 0 := by
    unfold St.unPre
    rw [e3, e1', e2', hm, if_neg (by show ¬ false = true; simp), if_neg (by show ¬ (_ ∨ _ ∨ N ≤ x); omega), if_neg (show ¬ x = (St.new s N y).own from hxy), if_neg (by simp), if_neg (by simp)]
  unfold St.unErr
  rw [if_neg (by omega), e4, if_pos rfl]
set_option maxHeartbeats 4000000 in
set_option maxRecDepth 20000 in
theorem over_walk {Rep : World → List Nat → Value → St → Nat → Prop} (C : Code Rep) (root : ByteArray) (m a : Int) (words : ByteArray) (hm1 : -9223372036854775808 ≤ m) (hm2 : m ≤ 9223372036854775807) (ha1 : -9223372036854775808 ≤ a) (ha2 : a ≤ 9223372036854775807) (w : World) (hG : Glob w) :
    Calls Tryz.prog 11 #[.string root, .int .i64 m, .int .i64 a, .string words] w fun e w' => e = .returned (.bool true) ∧ Below w.heap.size w w' := by
  have hs := SecL_bd root.data.toList
  have HPR : Hid (Calls Tryz.prog 16 #[.string root, .int .i64 m, .int .i64 a] w fun e w' => Below w.heap.size w w' ∧ ∃ (N x y b c : Nat) (S T : List Nat), 2 ≤ N ∧ N ≤ 16 ∧ x < N ∧ y < N ∧ x ≠ y ∧ e = .returned (.tuple #[.pointer (some ⟨b, 0, none⟩), .pointer (some ⟨c, 0, none⟩), .int .i64 x]) ∧
      Rep w' S (.pointer (some ⟨b, 0, none⟩)) (St.new (SecL root.data.toList) N x) 0 ∧ Rep w' T (.pointer (some ⟨c, 0, none⟩)) (St.new (SecL root.data.toList) N y) 0 ∧ (∀ k, k ∈ S → w.heap.size ≤ k) ∧ (∀ k, k ∈ T → w.heap.size ≤ k) ∧ (∀ k, k ∈ S → k ∉ T)) := pair_any C root m a hm1 hm2 ha1 ha2 w
  obtain ⟨s, hse⟩ : ∃ s, SecL root.data.toList = s := ⟨_, rfl⟩
  rw [hse] at hs HPR
  have HGL : Hid (Glob w) := hG
  have HTX : Hid (∀ W, Calls Tryz.prog 18 #[.string words] W fun e w' => e = .returned (.string (TextB words)) ∧ w' = W) := text_any words
  have htl := TextB_le words
  obtain ⟨TX, hTX⟩ : ∃ TX, TextB words = TX := ⟨_, rfl⟩
  rw [hTX] at HTX htl
  have HE1 : Hid (TX.data.toList.length = TX.size ∧ TX.size ≤ 40) := ⟨Array.length_toList, htl⟩
  clear hse hm1 hm2 ha1 ha2 hG hTX
  go_enter Tryz.func11, Tryz.ntmps11
  go_wp2_with fail
  refine HPR.out.mono ?_
  rintro e w1 ⟨b1, N, x, y, b, c, S, T, hN1, hN2, hx, hy, hxy, rfl, hr1, hr2, hS, hT, hd⟩
  have D1 : Hid (Duo Rep w w1 (S ++ T) b c (St.new s N x) (St.new s N y) 0 0) := duo_new C hs hN1 hN2 hx hy HGL.out b1 hr1 hr2 hS hT hd
  have HNX : Hid (N ≤ 16 ∧ x < N ∧ y < N ∧ x ≠ y) := ⟨hN2, hx, hy, hxy⟩
  clear HPR b1 hr1 hr2 hS hT hd hN1 hN2 hx hy hxy htl
  go_wp2_with (first | (go_at_call 18; refine (HTX.out _).mono ?_; rintro e w' ⟨rfl, hw'⟩; rw [hw']; clear hw' w') | (refine wpList_bytes rfl _ rfl TX rfl ?_; intro cap1 w2 hcap1 b2 z2 B2))
  -- Protect
  have D2 : Duo Rep w w2 (S ++ T) b c (St.new s N x) (St.new s N y) 0 0 := D1.out.to C b2
  have hbuf : Buf w2 (S ++ T) (some ⟨w1.heap.size, 0, none⟩) TX.data.toList := Buf.new B2 (n := w1.heap.size) (fun b o e => by cases e; omega) (fun k hk => D1.out.lt C k hk)
  have hpe : (St.new s N x).protErr TX.data.toList.length = 0 := by
    unfold St.protErr
    rw [HE1.out.1, St.new_m, if_neg (by show ¬ false = true; simp), if_neg (by have := HE1.out.2; omega), if_neg (by simp)]
  have hP := D2.prot1 C (some ⟨w1.heap.size, 0, none⟩) TX.data.toList cap1 hbuf hpe
  rw [HE1.out.1] at hP
  refine hP.mono ?_
  clear hP hpe hbuf D2 b2 z2 B2 D1 hcap1
  obtain ⟨L, hL⟩ : ∃ L, (St.new s N x).frame TX.data.toList = L := ⟨_, rfl⟩
  rw [hL]
  rintro e w3 ⟨f, o, cap, rfl, U3, k3, D3, _, _, hk3, hcp, B3⟩
  have HL : Hid ((St.new s N x).frame TX.data.toList = L ∧ L.length ≤ 47 ∧ L.length ≤ cap ∧ 0 < k3 ∧ k3 ≤ 100) := by
    refine ⟨hL, ?_, hcp, by omega, by omega⟩
    have h1 := HE1.out
    rw [← hL]
    unfold St.frame
    rw [List.length_append, SealT_length, h1.1]
    show 3 + (TX.size + 4) ≤ 47
    omega
  obtain ⟨s1, hs1⟩ : ∃ s1, (St.new s N x).protNext = s1 := ⟨_, rfl⟩
  have HC1 : Hid (s1.closed = false) := by rw [← hs1]; rfl
  rw [hs1] at D3
  have HD3 : Hid (Duo Rep w w3 U3 b c s1 (St.new s N y) k3 0 ∧ Buf w3 U3 (some ⟨f, o, none⟩) L) := ⟨D3, B3⟩
  obtain ⟨K, hK⟩ : ∃ K : Int, (k3 : Int) = K := ⟨_, rfl⟩
  have hK0 : 0 < K := by omega
  clear D3 B3 hL hs1 hcp hk3
  go_wp2_with fail
  -- Work
  have hW := HD3.out.1.work1 C (by have := HL.out.2.2.2.2; omega)
  rw [hK] at hW
  refine hW.mono ?_
  clear hW
  rintro e w4 ⟨rfl, U4, D4, o4, f4⟩
  have HD4 : Hid (Duo Rep w w4 U4 b c s1 (St.new s N y) k3 0 ∧ Buf w4 U4 (some ⟨f, o, none⟩) L) := ⟨D4, HD3.out.2.step o4 f4⟩
  clear D4 o4 f4 HD3
  go_wp2_with fail
  -- Close, twice
  refine (HD4.out.1.close1 C HC1.out).mono ?_
  rintro e w5 ⟨rfl, U5, D5, o5, f5⟩
  have HD5 : Hid (Duo Rep w w5 U5 b c s1.shut (St.new s N y) k3 0 ∧ Buf w5 U5 (some ⟨f, o, none⟩) L) := ⟨D5, HD4.out.2.step o5 f5⟩
  clear D5 o5 f5 HD4
  go_wp2_with fail
  refine (HD5.out.1.closeErr1 C rfl).mono ?_
  rintro e w6 ⟨rfl, U6, D6, o6, f6⟩
  have HD6 : Hid (Duo Rep w w6 U6 b c s1.shut (St.new s N y) k3 0 ∧ Buf w6 U6 (some ⟨f, o, none⟩) L) := ⟨D6, HD5.out.2.step o6 f6⟩
  clear D6 o6 f6 HD5
  go_wp2_with fail
  -- Protect(nil)
  have hpn : s1.shut.protErr ([] : List UInt8).length = 9 := rfl
  have hP := HD6.out.1.protErr1 C none [] 0 (by simp) ⟨.inl rfl, fun b o e => by cases e⟩ (by rw [hpn]; decide)
  rw [hpn] at hP
  refine hP.mono ?_
  clear hP hpn
  rintro e w7 ⟨rfl, U7, D7, o7, f7⟩
  have HD7 : Hid (Duo Rep w w7 U7 b c s1.shut (St.new s N y) k3 0 ∧ Buf w7 U7 (some ⟨f, o, none⟩) L) := ⟨D7, HD6.out.2.step o7 f7⟩
  clear D7 o7 f7 HD6
  go_wp2_with fail
  -- Unprotect(b)
  have hun : s1.shut.unErr L = 9 := rfl
  have hU := HD7.out.1.unErr1 C (some ⟨f, o, none⟩) L cap (by have := HL.out; omega) HL.out.2.2.1 HD7.out.2 (by rw [hun]; decide)
  rw [hun] at hU
  refine hU.mono ?_
  clear hU
  rintro e w8 ⟨rfl, U8, k8, D8, o8, f8, hk8, hk8'⟩
  have e8 : k8 = k3 := by
    have : ¬ s1.shut.unPre L = 0 := by rw [show s1.shut.unPre L = 9 from rfl]; decide
    rw [if_neg this] at hk8'
    omega
  subst e8
  have HD8 : Hid (Duo Rep w w8 U8 b c s1.shut (St.new s N y) k8 0 ∧ Buf w8 U8 (some ⟨f, o, none⟩) L) := ⟨D8, HD7.out.2.step o8 f8⟩
  obtain ⟨w9, hw9⟩ : ∃ w9, w8.alloc (.cells #[.int .i64 0, .int .i64 0, .slice none 0 0] 41) = w9 := ⟨_, rfl⟩
  have b9 : Below w8.heap.size w8 w9 := by rw [← hw9]; exact (Below.refl _ w8).alloc (Nat.le_refl _) _
  have HD9 : Hid (Duo Rep w w9 U8 b c s1.shut (St.new s N y) k8 0 ∧ Buf w9 U8 (some ⟨f, o, none⟩) L) := ⟨HD8.out.1.to C b9, HD8.out.2.below b9⟩
  have HW9 : Hid (w8.alloc (.cells #[.int .i64 0, .int .i64 0, .slice none 0 0] 41) = w9) := hw9
  clear D8 o8 f8 hk8 hk8' HD7 HD8 hw9 b9 hun
  go_upto_region 10 with fail
  rw [HW9.out]
  go_wp2_with fail
  -- Dump
  refine (HD9.out.1.dump1 C rfl).mono ?_
  rintro e w10 ⟨dp, dc, rfl, U10, D10, o10, f10⟩
  have HD10 : Hid (Duo Rep w w10 U10 b c s1.shut (St.new s N y) k8 0 ∧ Buf w10 U10 (some ⟨f, o, none⟩) L) := ⟨D10, HD9.out.2.step o10 f10⟩
  clear D10 o10 f10 HD9 HW9
  go_wp2_with fail
  -- Work
  have hW := HD10.out.1.work1 C (by have := HL.out.2.2.2.2; omega)
  rw [hK] at hW
  refine hW.mono ?_
  clear hW
  rintro e w11 ⟨rfl, U11, D11, o11, f11⟩
  have HD11 : Hid (Duo Rep w w11 U11 b c s1.shut (St.new s N y) k8 0 ∧ Buf w11 U11 (some ⟨f, o, none⟩) L) := ⟨D11, HD10.out.2.step o11 f11⟩
  clear D11 o11 f11 HD10
  go_wp2_with fail
  -- the other opens it
  have hfu := frame_un (s1 := St.new s N x) (s2 := St.new s N y) rfl rfl (by have := HNX.out; show x < 16; omega) (by rw [St.new_m]; show (0 : Nat) ≤ 65535; omega) TX.data.toList
  have hfe := first_err s N x y HNX.out.1 HNX.out.2.1 HNX.out.2.2.2 TX.data.toList (by have := HE1.out; omega)
  rw [HL.out.1] at hfu hfe
  have hU := HD11.out.1.un2 C (some ⟨f, o, none⟩) L cap (by have := HL.out; omega) HL.out.2.2.1 HD11.out.2 hfe (HD11.out.1.ok2.unNext (by rw [hfu.1]; exact HNX.out.2.1))
  rw [hfu.2.2.2.2, show L.length - 7 = TX.size by rw [hfu.2.2.1, HE1.out.1]; omega] at hU
  refine hU.mono ?_
  clear hU hfe
  obtain ⟨WH, hWH⟩ : ∃ WH : Int, (unWho L : Int) = WH := ⟨_, rfl⟩
  obtain ⟨GE, hGE⟩ : ∃ GE : Int, (unGen L : Int) = GE := ⟨_, rfl⟩
  rw [hWH, hGE]
  rintro e w12 ⟨f2, o2, cap2, rfl, U12, k12, D12, _, _, hcp2, B12⟩
  obtain ⟨w13, hw13⟩ : ∃ w13, w12.alloc (.cells #[.int .i64 WH, .int .i64 GE, .slice (some ⟨f2, o2, none⟩) TX.size cap2] 41) = w13 := ⟨_, rfl⟩
  have b13 : Below w12.heap.size w12 w13 := by rw [← hw13]; exact (Below.refl _ w12).alloc (Nat.le_refl _) _
  have k13 : w13.heap[w12.heap.size]? = some (.cells #[.int .i64 WH, .int .i64 GE, .slice (some ⟨f2, o2, none⟩) TX.size cap2] 41 (0, 0)) := by rw [← hw13]; exact (MapKept.heap_alloc _ _).1
  have c13 := (row_facts' k13).1
  have hct : ∀ n, (convert 34 9 (.slice (some ⟨f2, o2, none⟩) TX.size cap2)).run Tryz.prog (w13.drewN n) = .ok (.string TX) (w13.drewN n) := fun n => by
    have h := cv_of_bts cap2 (B12.1.below b13) (w13.drewN n) (below_drewN _ _ _)
    rw [HE1.out.1] at h
    exact h
  have HF : Hid (Below w.heap.size w w13) := D12.below.trans (b13.mono D12.below.size)
  have HW13 : Hid (w12.alloc (.cells #[.int .i64 WH, .int .i64 GE, .slice (some ⟨f2, o2, none⟩) TX.size cap2] 41) = w13) := hw13
  have hn9 : ¬ K = 0 := by omega
  clear D12 hcp2 B12 hw13 b13 k13 HD11 hfu hWH hGE hK HL HNX HC1 HE1 HGL
  go_upto_region 13 with fail
  rw [HW13.out]
  go_quiet ((go_at_call 18; exact Calls.quiet_of_same (HTX.out _)))
  go_wp2_with fail
  go_ret

  exact ⟨rfl, HF.out.trans ((below_drewN _ _ _).mono HF.out.size)⟩
end Go.Proofs.YtkpebabbnndopaaGreatDoor

/- Ends: the walk, of any program whose calls are as Code asks. -/
namespace Go.Proofs.YtkpebabbnndopaaGreatDoor
open Go.RowKit
set_option linter.unusedVariables false

theorem after_next (s : Nat → Int) (n own : Nat) (ho : own < n) (i : Nat) : ((St.after s n own i).m (St.after s n own i).own).next = i := by
  rw [(after_n s n own i).2.1, after_m s n own ho, if_pos rfl]
theorem after_err (s : Nat → Int) (n own : Nat) (ho : own < n) (i : Nat) (hi : i ≤ 65535) : (St.after s n own i).protErr ([] : List UInt8).length = 0 := by
  unfold St.protErr
  rw [(after_n s n own i).2.2.1, after_next s n own ho i, if_neg (by simp), if_neg (by simp), if_neg (by omega)]
theorem after_spent (s : Nat → Int) (n own : Nat) (ho : own < n) : (St.after s n own 65536).protErr ([] : List UInt8).length = 8 := by
  unfold St.protErr
  rw [(after_n s n own 65536).2.2.1, after_next s n own ho 65536, if_neg (by simp), if_neg (by simp), if_pos (by omega)]
theorem frame_nil (st : St) : (st.frame []).length = 7 ∧ (st.frame [])[0]? = some (UInt8.ofNat st.own) ∧ (st.frame [])[1]? = some (UInt8.ofNat ((st.m st.own).next / 256)) ∧ (st.frame [])[2]? = some (UInt8.ofNat (st.m st.own).next) := by
  unfold St.frame
  refine ⟨by rw [List.length_append, SealT_length]; rfl, ?_, ?_, ?_⟩ <;> rfl
/-- the frame's head, where it lies -/
theorem frame_cells {w : World} {f o : Nat} {st : St} (ho : st.own < 16) (hn : (st.m st.own).next ≤ 65535) (h : Bts w (some ⟨f, o, none⟩) (st.frame [])) : w.cell? ⟨f, o, none⟩ = some (.int .u8 (st.own : Int)) ∧ w.cell? ⟨f, o + 1, none⟩ = some (.int .u8 (((st.m st.own).next : Int) / 256)) ∧ w.cell? ⟨f, o + 2, none⟩ = some (.int .u8 (((st.m st.own).next : Int) % 256)) := by
  obtain ⟨h1, h2, h3, h4⟩ := frame_nil st
  rcases h with h | ⟨b, p, e, hc⟩
  · rw [h] at h1; cases h1
  · cases e
    have g : ∀ i c, (st.frame [])[i]? = some c → w.cell? ⟨f, o + i, none⟩ = some (.int .u8 (c.toNat : Int)) := fun i c hi => by
      obtain ⟨hl, he⟩ := List.getElem?_eq_some_iff.1 hi
      rw [hc i hl, he]
    refine ⟨?_, ?_, ?_⟩
    · have := g 0 _ h2
      rw [Nat.add_zero] at this
      rw [this, UInt8.toNat_ofNat']
      congr 2
      omega
    · rw [g 1 _ h3, UInt8.toNat_ofNat']
      congr 2
      omega
    · rw [g 2 _ h4, UInt8.toNat_ofNat']
      congr 2
theorem it_cell (l : List It) (i : Nat) (hi : i < l.length) : (itCells l)[i * 12]? = some (.int .i64 l[i].kind) ∧ (itCells l)[i * 12 + 1]? = some (.int .i64 l[i].f) ∧ (itCells l)[i * 12 + 2]? = some (.int .i64 l[i].t) ∧ (itCells l)[i * 12 + 3]? = some (.int .i64 l[i].g) := by
  have e : l = l.take i ++ l[i] :: l.drop (i + 1) := by rw [List.getElem_cons_drop, List.take_append_drop]
  have hl : (itCells (l.take i)).length = i * 12 := by rw [itCells_length, List.length_take]; omega
  have h : ∀ j, j < 12 → (itCells l)[i * 12 + j]? = l[i].cells[j]? := fun j hj => by
    have e2 : itCells l = itCells (l.take i) ++ (l[i].cells ++ itCells (l.drop (i + 1))) := by
      have : itCells (l[i] :: l.drop (i + 1)) = l[i].cells ++ itCells (l.drop (i + 1)) := rfl
      rw [← this, ← itCells_append, ← e]
    rw [e2, List.getElem?_append_right (by omega), hl, show i * 12 + j - i * 12 = j by omega, List.getElem?_append_left (by show j < 12; exact hj)]
  exact ⟨h 0 (by omega), h 1 (by omega), h 2 (by omega), h 3 (by omega)⟩

theorem and_255 (n : Int) : bits .and .i64 n 255 = n % 256 := by
  have h1 : (BitVec.ofInt 64 255).toNat = 2 ^ 8 - 1 := by decide
  have h2 : (BitVec.ofInt 64 n &&& BitVec.ofInt 64 255).toNat = (n % ((2 ^ 64 : Nat) : Int)).toNat % 2 ^ 8 := by rw [BitVec.toNat_and, BitVec.toNat_ofInt, h1, Nat.and_two_pow_sub_one_eq_mod]
  show IntKind.i64.wrap ((BitVec.ofInt 64 n &&& BitVec.ofInt 64 255).toNat : Nat) = n % 256
  rw [h2, IntKind.wrap_i64]
  omega
set_option maxHeartbeats 4000000 in
set_option maxRecDepth 20000 in
theorem ends_any {Rep : World → List Nat → Value → St → Nat → Prop} (C : Code Rep) (root : ByteArray) (m a : Int) (hm1 : -9223372036854775808 ≤ m) (hm2 : m ≤ 9223372036854775807) (ha1 : -9223372036854775808 ≤ a) (ha2 : a ≤ 9223372036854775807) (w : World) (hG : Glob w) :
    Calls Tryz.prog 10 #[.string root, .int .i64 m, .int .i64 a] w fun e w' => e = .returned (.bool true) ∧ Below w.heap.size w w' := by
  have hs := SecL_bd root.data.toList
  have HPR : Hid (Calls Tryz.prog 16 #[.string root, .int .i64 m, .int .i64 a] w fun e w' => Below w.heap.size w w' ∧ ∃ (N x y b c : Nat) (S T : List Nat), 2 ≤ N ∧ N ≤ 16 ∧ x < N ∧ y < N ∧ x ≠ y ∧ e = .returned (.tuple #[.pointer (some ⟨b, 0, none⟩), .pointer (some ⟨c, 0, none⟩), .int .i64 x]) ∧
      Rep w' S (.pointer (some ⟨b, 0, none⟩)) (St.new (SecL root.data.toList) N x) 0 ∧ Rep w' T (.pointer (some ⟨c, 0, none⟩)) (St.new (SecL root.data.toList) N y) 0 ∧ (∀ k, k ∈ S → w.heap.size ≤ k) ∧ (∀ k, k ∈ T → w.heap.size ≤ k) ∧ (∀ k, k ∈ S → k ∉ T)) := pair_any C root m a hm1 hm2 ha1 ha2 w
  obtain ⟨s, hse⟩ : ∃ s, SecL root.data.toList = s := ⟨_, rfl⟩
  rw [hse] at hs HPR
  have HGL : Hid (Glob w) := hG
  clear hse hm1 hm2 ha1 ha2 hG
  obtain ⟨MX, hMX⟩ : ∃ MX : Nat, MX = 65536 := ⟨_, rfl⟩
  have HMX : Hid (MX = 65536) := hMX
  clear hMX
  go_enter Tryz.func10, Tryz.ntmps10
  go_wp2_with fail
  refine HPR.out.mono ?_
  rintro e w1 ⟨b1, N, x, y, b, c, S, T, hN1, hN2, hx, hy, hxy, rfl, hr1, _, hS, _, _⟩
  have H1 : Hid (Rep w1 S (.pointer (some ⟨b, 0, none⟩)) (St.after s N x 0) 0 ∧ Below w.heap.size w w1 ∧ ∀ k, k ∈ S → w.heap.size ≤ k) := ⟨hr1, b1, hS⟩
  obtain ⟨X, hX⟩ : ∃ X : Int, (x : Int) = X := ⟨_, rfl⟩
  have HXX : Hid ((x : Int) = X) := hX
  have hXw : wrap64 X = X := by simp only [wrap64]; omega
  rw [hX]
  clear hr1 b1 hS HPR hX
  go_wp2_with fail
  go_loopg [10] MX (fun k v wr => ∃ i : Nat, v = .int .i64 i ∧ i + k = MX ∧ ∃ S wk, Hid (Rep wr S (.pointer (some ⟨b, 0, none⟩)) (St.after s N x i) wk ∧ Below w.heap.size w wr ∧ ∀ k, k ∈ S → w.heap.size ≤ k))
  case atStart => exact ⟨0, rfl, by omega, S, 0, H1.out⟩
  case round =>
    clear H1
    obtain ⟨i, rfl, hik, S, wk, HR⟩ := hrel
    obtain ⟨I, hI⟩ : ∃ I : Int, (i : Int) = I := ⟨_, rfl⟩
    have HII : Hid ((i : Int) = I) := hI
    have HIK : Hid (i + gk = MX) := hik
    rw [hI]
    have hI0 : 0 ≤ I := by omega
    by_cases hlt : I < 65536
    · have HIL : Hid (i < 65536) := by show _ < _; omega
      have HI1 : Hid (((i + 1 : Nat) : Int) = I + 1) := by show _ = _; omega
      have hbnd : I ≤ 65535 := by omega
      have hand : bits .and .i64 I 255 = I % 256 := and_255 I
      have hwr : wrap64 (I + 1) = I + 1 := by simp only [wrap64]; omega
      clear hik hI
      by_cases hlast : I = 65535
      · -- the last one: what is kept ahead of it
        have hl2 : (I == 65535) = true := by simpa using hlast
        have HLA : Hid (I = 65535) := hlast
        clear hlast
        have ok := after_ok s hs N x (by omega) hN2 hx i (by have := HIL.out; omega)
        have hnw : i = 65535 := by have := HII.out; have := HLA.out; omega
        have hdm := after_dump s N x hx i
        rw [if_pos (by omega)] at hdm
        obtain ⟨PL, hPL⟩ : ∃ PL, (St.after s N x i).parts 16 0 N = PL := ⟨_, rfl⟩
        have hPLl : PL.length ≤ 16 := by rw [← hPL]; have := St.parts_len (St.after s N x i) 16 0 N (by omega); omega
        rw [hPL] at hdm
        have HDU : Hid (Calls Tryz.prog 21 #[.pointer (some ⟨b, 0, none⟩)] wr fun e w' => Outside S wr w' ∧ ∃ S' p cap, Fresh wr S S' ∧ Rep w' S' (.pointer (some ⟨b, 0, none⟩)) (St.after s N x i) wk ∧ e = .returned (.slice p (PL.length + 1) cap) ∧ ∃ db dof, p = some ⟨db, dof, none⟩ ∧ w'.cell? ⟨db, dof + PL.length * 12, none⟩ = some (.int .i64 1) ∧ w'.cell? ⟨db, dof + PL.length * 12 + 1, none⟩ = some (.int .i64 X) ∧ w'.cell? ⟨db, dof + PL.length * 12 + 3, none⟩ = some (.int .i64 I)) := by
          refine (C.dump ok HR.out.1).mono fun e w' ⟨d1, S', p, cap, d2, d3, d4, d5⟩ => ⟨d1, S', p, cap, d2, d3, ?_, ?_⟩
          · rw [d4, hdm, List.length_append]; rfl
          · rcases d5 with d5 | ⟨db, dof, d6, _, _, _, d7, _⟩
            · rw [hdm] at d5; simp at d5
            · rw [hdm] at d7
              obtain ⟨q1, q2, q3, q4⟩ := it_cell (PL ++ [⟨1, x, x + 1, i, (St.after s N x i).ratAt x i⟩]) PL.length (by simp)
              have hget : (PL ++ [(⟨1, x, x + 1, i, (St.after s N x i).ratAt x i⟩ : It)])[PL.length]'(by simp) = ⟨1, x, x + 1, i, (St.after s N x i).ratAt x i⟩ := by simp
              rw [hget] at q1 q2 q3 q4
              refine ⟨db, dof, d6, ?_, ?_, ?_⟩
              · exact d7 _ _ q1
              · rw [← HXX.out, Nat.add_assoc]; exact d7 _ _ q2
              · rw [← HII.out, Nat.add_assoc]; exact d7 _ _ q4
        obtain ⟨n, hn⟩ : ∃ n, PL.length = n := ⟨_, rfl⟩
        rw [hn] at HDU hPLl
        clear hdm hPL hn ok hnw
        go_wp2_with fail
        refine HDU.out.mono ?_
        rintro e w4 ⟨o4, S4, p, cap4, fr4, rep4, rfl, db, dof, rfl, k1, k2, k3⟩
        have HRQ : Hid (Rep w4 S4 (.pointer (some ⟨b, 0, none⟩)) (St.after s N x i) wk) := rep4
        have HBQ : Hid (Below w.heap.size w w4 ∧ ∀ k, k ∈ S4 → w.heap.size ≤ k) := by
          refine ⟨HR.out.2.1.trans (o4.toBelow w.heap.size HR.out.2.1.size HR.out.2.2), fun k hk => ?_⟩
          rcases fr4 k hk with h | h
          · exact HR.out.2.2 k h
          · have := HR.out.2.1.size; omega
        clear o4 fr4 rep4 HR HDU
        go_wp2_with fail
        clear k1 k2 k3
        refine (C.prot (after_ok s hs N x (by omega) hN2 hx i (by have := HIL.out; omega)) HRQ.out none [] 0 (by simp) (.inl rfl) (by intro b o e; cases e) (after_err s N x hx i (by have := HIL.out; omega))).mono ?_
        rintro e w5 ⟨o5, S5, wk5, f, fo, cap, fr5, rep5, _, _, rfl, hf5, _, hcap5, hb5, _⟩
        have hcell := frame_cells (st := St.after s N x i) (by rw [(after_n s N x i).2.1]; omega) (by rw [after_next s N x hx i]; have := HIL.out; omega) hb5
        rw [after_next s N x hx i, (after_n s N x i).2.1, HII.out, HXX.out] at hcell
        obtain ⟨c0, c1, c2⟩ := hcell
        rw [(frame_nil (St.after s N x i)).1]
        have HNX : Hid (Rep w5 S5 (.pointer (some ⟨b, 0, none⟩)) (St.after s N x (i + 1)) wk5 ∧ Below w.heap.size w w5 ∧ ∀ k, k ∈ S5 → w.heap.size ≤ k) := by
          refine ⟨rep5, HBQ.out.1.trans (o5.toBelow w.heap.size HBQ.out.1.size HBQ.out.2), fun k hk => ?_⟩
          rcases fr5 k hk with h | h
          · exact HBQ.out.2 k h
          · have := HBQ.out.1.size; omega
        have HC7 : Hid (7 ≤ cap) := by have := hcap5; rw [(frame_nil (St.after s N x i)).1] at this; exact this
        clear o5 fr5 rep5 hf5 hcap5 hb5 HRQ HBQ
        go_wp2_with fail
        go_roundg (gk - 1)
        case measure => have := HMX.out; have := HIK.out; have := HIL.out; omega
        case rel => exact ⟨i + 1, by rw [HI1.out], by have := HMX.out; have := HIK.out; have := HIL.out; omega, S5, wk5, HNX.out⟩
      · have hl2 : (I == 65535) = false := by simpa using hlast
        clear hlast
        have HRQ : Hid (Rep wr S (.pointer (some ⟨b, 0, none⟩)) (St.after s N x i) wk) := HR.out.1
        have HBQ : Hid (Below w.heap.size w wr ∧ ∀ k, k ∈ S → w.heap.size ≤ k) := HR.out.2
        clear HR
        go_wp2_with fail
        refine (C.prot (after_ok s hs N x (by omega) hN2 hx i (by have := HIL.out; omega)) HRQ.out none [] 0 (by simp) (.inl rfl) (by intro b o e; cases e) (after_err s N x hx i (by have := HIL.out; omega))).mono ?_
        rintro e w5 ⟨o5, S5, wk5, f, fo, cap, fr5, rep5, _, _, rfl, hf5, _, hcap5, hb5, _⟩
        have hcell := frame_cells (st := St.after s N x i) (by rw [(after_n s N x i).2.1]; omega) (by rw [after_next s N x hx i]; have := HIL.out; omega) hb5
        rw [after_next s N x hx i, (after_n s N x i).2.1, HII.out, HXX.out] at hcell
        obtain ⟨c0, c1, c2⟩ := hcell
        rw [(frame_nil (St.after s N x i)).1]
        have HNX : Hid (Rep w5 S5 (.pointer (some ⟨b, 0, none⟩)) (St.after s N x (i + 1)) wk5 ∧ Below w.heap.size w w5 ∧ ∀ k, k ∈ S5 → w.heap.size ≤ k) := by
          refine ⟨rep5, HBQ.out.1.trans (o5.toBelow w.heap.size HBQ.out.1.size HBQ.out.2), fun k hk => ?_⟩
          rcases fr5 k hk with h | h
          · exact HBQ.out.2 k h
          · have := HBQ.out.1.size; omega
        have HC7 : Hid (7 ≤ cap) := by have := hcap5; rw [(frame_nil (St.after s N x i)).1] at this; exact this
        clear o5 fr5 rep5 hf5 hcap5 hb5 HRQ HBQ
        go_wp2_with fail
        go_roundg (gk - 1)
        case measure => have := HMX.out; have := HIK.out; have := HIL.out; omega
        case rel => exact ⟨i + 1, by rw [HI1.out], by have := HMX.out; have := HIK.out; have := HIL.out; omega, S5, wk5, HNX.out⟩
    · have hi6 : i = 65536 := by have := HMX.out; omega
      have hge : ¬ (I < 65536) := hlt
      have ok := after_ok s hs N x (by omega) hN2 hx i (by omega)
      have herr : (St.after s N x i).protErr ([] : List UInt8).length = 8 := by rw [hi6]; exact after_spent s N x hx
      have hdm := after_dump s N x hx i
      rw [if_neg (by omega), List.append_nil] at hdm
      have HPE : Hid (Calls Tryz.prog 17 #[.pointer (some ⟨b, 0, none⟩), .slice none 0 0] wr fun e w' => e = .returned (.tuple #[.slice none 0 0, .int .i64 8]) ∧ Outside S wr w' ∧ ∃ S', Fresh wr S S' ∧ Rep w' S' (.pointer (some ⟨b, 0, none⟩)) (St.after s N x i) wk) := by
        have := C.protErr ok HR.out.1 (HGL.out.below HR.out.2.1) none [] 0 (by simp) (.inl rfl) (by intro b o e; cases e) (by rw [herr]; decide)
        rw [herr] at this
        exact this
      have hsome := parts_some (St.after s N x i) 16 0 N y (Nat.zero_le _) hy (by omega) (by rw [after_m s N x hx, if_neg (fun e => hxy e.symm)])
      have hclear := parts_clear (St.after s N x i) 16 0 N
      have hbx : ((St.after s N x i).m x).begun = true := by rw [after_m s N x hx, if_pos rfl]; simp; omega
      obtain ⟨PL, hPL⟩ : ∃ PL, (St.after s N x i).parts 16 0 N = PL := ⟨_, rfl⟩
      have hPLl : PL.length ≤ 16 := by rw [← hPL]; have := St.parts_len (St.after s N x i) 16 0 N (by omega); omega
      rw [hPL] at hdm hsome hclear
      have hpos : 0 < PL.length := List.length_pos_iff.2 hsome
      have HDU : Hid (∀ W S, Rep W S (.pointer (some ⟨b, 0, none⟩)) (St.after s N x i) wk → Calls Tryz.prog 21 #[.pointer (some ⟨b, 0, none⟩)] W fun e w' => Outside S W w' ∧ ∃ db dof cap, e = .returned (.slice (some ⟨db, dof, none⟩) PL.length cap) ∧ ∀ j (hj : j < PL.length), w'.cell? ⟨db, dof + j * 12, none⟩ = some (.int .i64 0) ∧ w'.cell? ⟨db, dof + j * 12 + 1, none⟩ = some (.int .i64 PL[j].f) ∧ w'.cell? ⟨db, dof + j * 12 + 2, none⟩ = some (.int .i64 PL[j].t) ∧ (decide ((PL[j].f : Int) ≤ X) && decide (X < (PL[j].t : Int))) = false) := fun W S hW => by
        refine (C.dump ok hW).mono fun e w' ⟨d1, S', p, cap, d2, d3, d4, d5⟩ => ⟨d1, ?_⟩
        rw [hdm] at d4 d5
        rcases d5 with d5 | ⟨db, dof, d6, _, _, _, d7, _⟩
        · exact absurd d5 hsome
        · refine ⟨db, dof, cap, by rw [d4, d6], fun j hj => ?_⟩
          obtain ⟨q1, q2, q3, q4⟩ := it_cell PL j hj
          obtain ⟨k1, k2, k3, k4⟩ := hclear PL[j] (List.getElem_mem hj)
          rw [k1] at q1
          refine ⟨d7 _ _ q1, by rw [Nat.add_assoc]; exact d7 _ _ q2, by rw [Nat.add_assoc]; exact d7 _ _ q3, ?_⟩
          cases hdc : (decide ((PL[j].f : Int) ≤ X) && decide (X < (PL[j].t : Int))) with
          | false => rfl
          | true =>
            rw [Bool.and_eq_true, decide_eq_true_eq, decide_eq_true_eq] at hdc
            have hxx := HXX.out
            have := begun_true (St.after s N x i) PL[j].f PL[j].t x (by omega) (by omega) hbx
            rw [this] at k4
            cases k4
      have HPL : Hid (PL.length ≤ 16) := hPLl
      obtain ⟨n, hn⟩ : ∃ n, PL.length = n := ⟨_, rfl⟩
      have HNN : Hid (PL.length = n) := hn
      have hn0 : (0 : Int) < n := by omega
      have hn16 : (n : Int) ≤ 16 := by omega
      have HSZ := HR.out.2
      have HBQ : Hid (Below w.heap.size w wr ∧ ∀ k, k ∈ S → w.heap.size ≤ k) := HR.out.2
      clear HSZ hdm herr hsome hclear hbx hPL hpos hPLl hn hi6 ok hik hI hlt HIK
      go_wp2_with fail
      refine HPE.out.mono ?_
      rintro e w4 ⟨rfl, o4, S4, fr4, rep4⟩
      have HB4 : Hid (Below w.heap.size w w4 ∧ ∀ k, k ∈ S4 → w.heap.size ≤ k) := by
        refine ⟨HBQ.out.1.trans (o4.toBelow w.heap.size HBQ.out.1.size HBQ.out.2), fun k hk => ?_⟩
        rcases fr4 k hk with h | h
        · exact HBQ.out.2 k h
        · have := HBQ.out.1.size; omega
      have HR4 : Hid (Rep w4 S4 (.pointer (some ⟨b, 0, none⟩)) (St.after s N x i) wk) := rep4
      clear o4 fr4 rep4 HPE HBQ HR
      go_wp2_with fail
      refine (HDU.out _ S4 HR4.out).mono ?_
      rintro e w5 ⟨o5, db, dof, cap5, rfl, hcells⟩
      have HB5 : Hid (Below w.heap.size w w5) := HB4.out.1.trans (o5.toBelow w.heap.size HB4.out.1.size HB4.out.2)
      have HCE : Hid (∀ j (hj : j < PL.length), w5.cell? ⟨db, dof + j * 12, none⟩ = some (.int .i64 0) ∧ w5.cell? ⟨db, dof + j * 12 + 1, none⟩ = some (.int .i64 PL[j].f) ∧ w5.cell? ⟨db, dof + j * 12 + 2, none⟩ = some (.int .i64 PL[j].t) ∧ (decide ((PL[j].f : Int) ≤ X) && decide (X < (PL[j].t : Int))) = false) := hcells
      rw [HNN.out]
      clear o5 hcells HDU HR4 HB4
      go_wp2_with fail
      go_loopg [18] n (fun k v wq => wq = w5 ∧ ∃ j : Nat, v = .int .i64 j ∧ j + k = n)
      case atStart => exact ⟨rfl, 0, rfl, by omega⟩
      case round =>
        obtain ⟨rfl, j, rfl, hjk⟩ := hrel
        by_cases hj : j < n
        · have hj' : (j : Int) < (n : Int) := by omega
          obtain ⟨k1, k2, k3, k4⟩ := HCE.out j (by rw [HNN.out]; exact hj)
          obtain ⟨f, hf⟩ : ∃ f : Int, (PL[j]'(by rw [HNN.out]; exact hj)).f = f := ⟨_, rfl⟩
          obtain ⟨t, ht⟩ : ∃ t : Int, ((PL[j]'(by rw [HNN.out]; exact hj)).t : Int) = t := ⟨_, rfl⟩
          rw [hf] at k2 k4
          rw [ht] at k3 k4
          clear hf ht
          by_cases hfx : f ≤ X
          · have hxt : ¬ X < t := by simp [hfx] at k4; omega
            clear k4
            go_wp2_with fail
            go_roundg (gk - 1)
            case measure => omega
            case rel => exact ⟨rfl, j + 1, by go_num, by omega⟩
          · clear k4
            go_wp2_with fail
            go_roundg (gk - 1)
            case measure => omega
            case rel => exact ⟨rfl, j + 1, by go_num, by omega⟩
        · have hj' : ¬ (j : Int) < (n : Int) := by omega
          go_wp2_with fail
          go_ret
          refine ⟨?_, HB5.out⟩
          show Ending.returned (.bool (decide (0 < n))) = _
          rw [decide_eq_true (by omega)]
end Go.Proofs.YtkpebabbnndopaaGreatDoor

/- Forward: the walk, of any program whose calls are as Code asks. -/
namespace Go.Proofs.YtkpebabbnndopaaGreatDoor
open Go.RowKit
set_option linter.unusedVariables false
set_option linter.unusedSimpArgs false

/-- a message of the generation n of x, at another who has opened nothing -/
theorem early_err (s : Nat → Int) (N x y n : Nat) (hN2 : N ≤ 16) (hx : x < N) (hxy : x ≠ y) (hn : n ≤ 5) (t : List UInt8) (ht : t.length ≤ 40) : unWho ((St.after s N x n).frame t) = x ∧ unGen ((St.after s N x n).frame t) = n ∧ ((St.after s N x n).frame t).length = t.length + 7 ∧ (St.new s N y).unErr ((St.after s N x n).frame t) = 0 ∧ (St.new s N y).unText ((St.after s N x n).frame t) = t := by
  obtain ⟨a1, a2, a3, a4⟩ := after_n s N x n
  have ha := after_next s N x hx n
  have hs : (St.after s N x n).s = s := by
    induction n with
    | zero => rfl
    | succ n ih => exact ih (by omega) (after_n s N x n).1 (after_n s N x n).2.1 (after_n s N x n).2.2.1 (after_n s N x n).2.2.2 (after_next s N x hx n)
  obtain ⟨e1, e2, e3, e4, e5⟩ := frame_un (s1 := St.after s N x n) (s2 := St.new s N y) hs.symm a1.symm (by rw [a2]; omega) (by rw [ha]; omega) t
  rw [a2] at e1
  rw [ha] at e2
  refine ⟨e1, e2, e3, ?_, e5⟩
  have hp : (St.new s N y).unPre ((St.after s N x n).frame t) = 0 := by
    unfold St.unPre
    rw [e3, e1, e2, St.new_m, if_neg (by show ¬ false = true; simp), if_neg (by show ¬ (_ ∨ _ ∨ N ≤ x); omega), if_neg (show ¬ x = (St.new s N y).own from hxy), if_neg (by simp), if_neg (by show ¬ 0 + 5 < n; omega)]
  unfold St.unErr
  rw [if_neg (by omega), e4, if_pos rfl]
/-- what may be kept behind the message n of x -/
def FwdIt (x n : Nat) (it : It) : Prop := (it.kind = 0 ∧ ¬ (it.f ≤ x ∧ x < it.t)) ∨ (it.kind = 1 ∧ it.f = x ∧ it.g = n + 1) ∨ (it.kind = 2 ∧ it.f = x ∧ it.g < n)
/-- how many heads there are -/
def headsIn (l : List It) : Nat := (l.filter fun it => it.kind == 1).length
theorem headsIn_append (a b : List It) : headsIn (a ++ b) = headsIn a + headsIn b := by unfold headsIn; rw [List.filter_append, List.length_append]
theorem fwd_dump {st : St} {x n : Nat} (ok : st.Ok) (hc : st.closed = false) (hx : x < st.n) (hm : ∀ i, st.m i = if i = x then ⟨true, n + 1, unOver ⟨false, 0, []⟩ n⟩ else ⟨false, 0, []⟩) (hn : n ≤ 5) : (∀ it, it ∈ st.dump → FwdIt x n it) ∧ headsIn st.dump = 1 := by
  have hov : ∀ g, g ∈ unOver ⟨false, 0, []⟩ n → g < n := fun g hg => by
    have h1 : g ∈ overAll ⟨false, 0, []⟩ n := List.mem_of_mem_drop (by rw [unOver_eq] at hg; exact hg)
    unfold overAll at h1
    simp at h1
    exact h1
  have hb : (st.m x).begun = true := by rw [hm, if_pos rfl]
  have hp : ∀ it, it ∈ st.parts 16 0 st.n → it.kind = 0 ∧ ¬ (it.f ≤ x ∧ x < it.t) := fun it hi => by
    obtain ⟨h1, _, _, h4⟩ := parts_clear st 16 0 st.n it hi
    refine ⟨h1, fun h => ?_⟩
    rw [begun_true st it.f it.t x h.1 h.2 hb] at h4
    cases h4
  have hh : ∀ k, st.heads k = if x < k then [⟨1, x, x + 1, n + 1, st.ratAt x (n + 1)⟩] else [] := fun k => by
    induction k with
    | zero => rfl
    | succ k ih =>
      rw [St.heads, ih, hm]
      by_cases hk : k = x
      · subst hk
        rw [if_neg (by omega), if_pos rfl, List.nil_append, if_pos (show k < k + 1 by omega)]
        show (if (true && decide (n + 1 ≤ 65535)) = true then _ else _) = _
        rw [if_pos (by simp; omega)]
      · rw [if_neg hk]
        have e : (x < k) ↔ (x < k + 1) := by omega
        simp only [e]
        simp
  have hk : ∀ k it, it ∈ st.kepts k → it.kind = 2 ∧ it.f = x ∧ it.g < n := fun k => by
    induction k with
    | zero => intro it hi; cases hi
    | succ k ih =>
      intro it hi
      rw [St.kepts] at hi
      rcases List.mem_append.1 hi with h | h
      · exact ih it h
      · unfold St.kept1 at h
        obtain ⟨g, hg, rfl⟩ := List.mem_map.1 h
        rw [hm] at hg
        by_cases hkx : k = x
        · rw [if_pos hkx] at hg
          exact ⟨rfl, hkx, hov g hg⟩
        · rw [if_neg hkx] at hg
          cases hg
  have hd : st.dump = st.parts 16 0 st.n ++ st.heads st.n ++ st.kepts st.n := by unfold St.dump; rw [hc]; rfl
  rw [hd]
  refine ⟨fun it hi => ?_, ?_⟩
  · rcases List.mem_append.1 hi with h | h
    · rcases List.mem_append.1 h with h | h
      · exact .inl (hp it h)
      · rw [hh, if_pos hx] at h
        simp at h
        rw [h]
        exact .inr (.inl ⟨rfl, rfl, rfl⟩)
    · exact .inr (.inr (hk st.n it h))
  · rw [headsIn_append, headsIn_append, hh, if_pos hx]
    have h1 : headsIn (st.parts 16 0 st.n) = 0 := by
      unfold headsIn
      rw [List.length_eq_zero_iff, List.filter_eq_nil_iff]
      intro it hi
      rw [(hp it hi).1]
      decide
    have h2 : headsIn (st.kepts st.n) = 0 := by
      unfold headsIn
      rw [List.length_eq_zero_iff, List.filter_eq_nil_iff]
      intro it hi
      rw [(hk _ it hi).1]
      decide
    rw [h1, h2]
    rfl
theorem unNew_m (s : Nat → Int) (N y : Nat) (l : List UInt8) (hx : unWho l < N) (i : Nat) : ((St.new s N y).unNext l).m i = if i = unWho l then ⟨true, unGen l + 1, unOver ⟨false, 0, []⟩ (unGen l)⟩ else ⟨false, 0, []⟩ := by
  unfold St.unNext
  rw [St.setM_m _ _ _ (by simp [St.new]; exact hx)]
  split
  · rename_i h
    unfold unMem
    rw [St.new_m, if_neg (by simp)]
  · rw [St.new_m]
set_option maxHeartbeats 1500000 in
set_option maxRecDepth 20000 in
theorem fwd_walk {Rep : World → List Nat → Value → St → Nat → Prop} (C : Code Rep) (root : ByteArray) (m a sk : Int) (words : ByteArray) (hm1 : -9223372036854775808 ≤ m) (hm2 : m ≤ 9223372036854775807) (ha1 : -9223372036854775808 ≤ a) (ha2 : a ≤ 9223372036854775807) (hk1 : -9223372036854775808 ≤ sk) (hk2 : sk ≤ 9223372036854775807) (w : World) (hG : Glob w) :
    Calls Tryz.prog 9 #[.string root, .int .i64 m, .int .i64 a, .int .i64 sk, .string words] w fun e w' => e = .returned (.bool true) ∧ Below w.heap.size w w' := by
  have hs := SecL_bd root.data.toList
  have HPR : Hid (Calls Tryz.prog 16 #[.string root, .int .i64 m, .int .i64 a] w fun e w' => Below w.heap.size w w' ∧ ∃ (N x y b c : Nat) (S T : List Nat), 2 ≤ N ∧ N ≤ 16 ∧ x < N ∧ y < N ∧ x ≠ y ∧ e = .returned (.tuple #[.pointer (some ⟨b, 0, none⟩), .pointer (some ⟨c, 0, none⟩), .int .i64 x]) ∧
      Rep w' S (.pointer (some ⟨b, 0, none⟩)) (St.new (SecL root.data.toList) N x) 0 ∧ Rep w' T (.pointer (some ⟨c, 0, none⟩)) (St.new (SecL root.data.toList) N y) 0 ∧ (∀ k, k ∈ S → w.heap.size ≤ k) ∧ (∀ k, k ∈ T → w.heap.size ≤ k) ∧ (∀ k, k ∈ S → k ∉ T)) := pair_any C root m a hm1 hm2 ha1 ha2 w
  obtain ⟨s, hse⟩ : ∃ s, SecL root.data.toList = s := ⟨_, rfl⟩
  rw [hse] at hs HPR
  have HGL : Hid (Glob w) := hG
  have HTX : Hid (∀ W, Calls Tryz.prog 18 #[.string words] W fun e w' => e = .returned (.string (TextB words)) ∧ w' = W) := text_any words
  have htl := TextB_le words
  obtain ⟨TX, hTX⟩ : ∃ TX, TextB words = TX := ⟨_, rfl⟩
  rw [hTX] at HTX htl
  have HE1 : Hid (TX.data.toList.length = TX.size ∧ TX.size ≤ 40) := ⟨Array.length_toList, htl⟩
  have HPK : Hid (∀ W, Calls Tryz.prog 19 #[.int .i64 sk, .int .i64 6] W fun e w' => e = .returned (.int .i64 (PickI sk 6)) ∧ w' = W) := fun W => keepPick_any sk hk1 hk2 6 (by omega) (by omega) W
  have hpk := PickI_lt sk 6 (by omega)
  obtain ⟨n, hn⟩ : ∃ n, PickI sk 6 = n := ⟨_, rfl⟩
  rw [hn] at HPK hpk
  have hn5 : (n : Int) ≤ 5 := by omega
  have HN5 : Hid (n ≤ 5) := by show n ≤ 5; omega
  clear hse hm1 hm2 ha1 ha2 hG hTX hk1 hk2 hn hpk
  go_enter Tryz.func9, Tryz.ntmps9
  go_wp2_with fail
  refine HPR.out.mono ?_
  rintro e w1 ⟨b1, N, x, y, b, c, S, T, hN1, hN2, hx, hy, hxy, rfl, hr1, hr2, hS, hT, hd⟩
  have D1 : Hid (Duo Rep w w1 (S ++ T) b c (St.new s N x) (St.new s N y) 0 0) := duo_new C hs hN1 hN2 hx hy HGL.out b1 hr1 hr2 hS hT hd
  have HNX : Hid (N ≤ 16 ∧ x < N ∧ y < N ∧ x ≠ y) := ⟨hN2, hx, hy, hxy⟩
  obtain ⟨X, hX⟩ : ∃ X : Int, (x : Int) = X := ⟨_, rfl⟩
  have HX : Hid ((x : Int) = X) := hX
  rw [hX]
  clear HPR b1 hr1 hr2 hS hT hd hN1 hN2 hx hy hxy htl hX
  go_wp2_with (go_at_call 19; refine (HPK.out _).mono ?_; rintro e w' ⟨rfl, hw'⟩; rw [hw']; clear hw' w')
  obtain ⟨FL, hFL⟩ : ∃ FL, TX.size + 7 = FL := ⟨_, rfl⟩
  have HFL : Hid (TX.size + 7 = FL) := hFL
  clear hFL
  go_loopg [15, 16] (n + 1) (fun k v15 v16 wr => ∃ (i : Nat) (U : List Nat) (k1 : Nat), v16 = .int .i64 i ∧ i + k = n + 1 ∧ Hid (Duo Rep w wr U b c (St.after s N x i) (St.new s N y) k1 0) ∧ ((i = 0 ∧ v15 = .slice none 0 0) ∨ ∃ f o cap, v15 = .slice (some ⟨f, o, none⟩) FL cap ∧ Hid (0 < i ∧ FL ≤ cap ∧ Buf wr U (some ⟨f, o, none⟩) ((St.after s N x (i - 1)).frame TX.data.toList))))
  case atStart => exact ⟨0, S ++ T, 0, rfl, by omega, D1.out, .inl ⟨rfl, rfl⟩⟩
  case round =>
    clear D1
    obtain ⟨i, U, k1, rfl, hik, HD, hv⟩ := hrel
    by_cases hlt : (i : Int) ≤ (n : Int)
    · have hi5 : (i : Int) ≤ 5 := by omega
      have HI : Hid (i + gk = n + 1 ∧ i ≤ n) := ⟨hik, by omega⟩
      clear hv
      go_wp2_with (first | (go_at_call 18; refine (HTX.out _).mono ?_; rintro e w' ⟨rfl, hw'⟩; rw [hw']; clear hw' w') | (refine wpList_bytes rfl _ rfl TX rfl ?_; intro cap1 w2 hcap1 b2 z2 B2))
      have D2 : Duo Rep w w2 U b c (St.after s N x i) (St.new s N y) k1 0 := HD.out.to C b2
      have hbuf : Buf w2 U (some ⟨wr.heap.size, 0, none⟩) TX.data.toList := Buf.new B2 (n := wr.heap.size) (fun b o e => by cases e; omega) (fun k hk => HD.out.lt C k hk)
      have hpe : (St.after s N x i).protErr TX.data.toList.length = 0 := by
        unfold St.protErr
        rw [HE1.out.1, (after_n s N x i).2.2.1, after_next s N x HNX.out.2.1 i, if_neg (by simp), if_neg (by have := HE1.out.2; omega), if_neg (by omega)]
      have hP := D2.prot1 C (some ⟨wr.heap.size, 0, none⟩) TX.data.toList cap1 hbuf hpe
      have hfl : ((St.after s N x i).frame TX.data.toList).length = FL := by
        have h1 := HFL.out
        unfold St.frame
        rw [List.length_append, SealT_length, HE1.out.1]
        show 3 + (TX.size + 4) = _
        omega
      rw [HE1.out.1, hfl] at hP
      refine hP.mono ?_
      clear hP hpe hbuf D2 b2 z2 B2 hcap1 hfl
      rintro e w3 ⟨f, o, cap, rfl, U3, k3, D3, _, _, _, hcp, B3⟩
      have HD3 : Hid (Duo Rep w w3 U3 b c (St.after s N x (i + 1)) (St.new s N y) k3 0 ∧ FL ≤ cap ∧ Buf w3 U3 (some ⟨f, o, none⟩) ((St.after s N x i).frame TX.data.toList)) := ⟨D3, hcp, B3⟩
      clear D3 hcp B3 HD
      go_wp2_with fail
      go_roundg (gk - 1)
      case measure => omega
      case rel => exact ⟨i + 1, U3, k3, by go_num, by omega, HD3.out.1, .inr ⟨f, o, cap, rfl, by omega, HD3.out.2.1, by rw [show i + 1 - 1 = i by omega]; exact HD3.out.2.2⟩⟩
    · have hin : i = n + 1 := by omega
      rcases hv with ⟨h0, _⟩ | ⟨f, o, cap, rfl, hB⟩
      · omega
      · have HB : Hid (FL ≤ cap ∧ Buf wr U (some ⟨f, o, none⟩) ((St.after s N x n).frame TX.data.toList)) := by
          have := hB.out.2
          rw [hin, show n + 1 - 1 = n by omega] at this
          exact this
        rw [hin] at HD ⊢
        obtain ⟨e1, e2, e3, e4, e5⟩ := early_err s N x y n HNX.out.1 HNX.out.2.1 HNX.out.2.2.2 HN5.out TX.data.toList (by have := HE1.out; omega)
        have hmm := unNew_m s N y ((St.after s N x n).frame TX.data.toList) (by rw [e1]; exact HNX.out.2.1)
        rw [e1, e2] at hmm
        have hoku := HD.out.ok2.unNext (l := (St.after s N x n).frame TX.data.toList) (by rw [e1]; exact HNX.out.2.1)
        have hfd := fwd_dump hoku rfl HNX.out.2.1 hmm HN5.out
        have hlen : ((St.after s N x n).frame TX.data.toList).length = FL := by rw [e3, HE1.out.1]; exact HFL.out
        have hU := HD.out.un2 C (some ⟨f, o, none⟩) ((St.after s N x n).frame TX.data.toList) cap (by have := HE1.out; have := HFL.out; omega) (by rw [hlen]; exact HB.out.1) HB.out.2 e4 hoku
        rw [e1, e2, e5, hlen, HX.out] at hU
        obtain ⟨st2, hst2⟩ : ∃ st2, (St.new s N y).unNext ((St.after s N x n).frame TX.data.toList) = st2 := ⟨_, rfl⟩
        rw [hst2] at hU hoku hfd
        have HU : Hid (Calls Tryz.prog 20 #[.pointer (some ⟨c, 0, none⟩), .slice (some ⟨f, o, none⟩) FL cap] wr fun e w' => ∃ f' o' cap', e = .returned (.tuple #[.agg #[.int .i64 X, .int .i64 n, .slice (some ⟨f', o', none⟩) (FL - 7) cap'], .int .i64 0]) ∧ ∃ U' k', Hid (Duo Rep w w' U' b c (St.after s N x (n + 1)) st2 k1 k')) := hU.mono fun e w' ⟨f', o', cap', h1, U', k', h2, _⟩ => ⟨f', o', cap', h1, U', k', h2⟩
        have HFD : Hid ((∀ it, it ∈ st2.dump → FwdIt x n it) ∧ headsIn st2.dump = 1) := hfd
        have HDL : Hid (st2.dump.length ≤ 100000) := by
          have h1 := St.parts_len st2 16 0 st2.n (by have := hoku.n1; omega)
          have h2 := St.heads_len st2 st2.n
          have h3 := St.kepts_len st2 hoku st2.n
          have h4 := hoku.n16
          show _ ≤ _
          unfold St.dump
          split
          · simp
          · rw [List.length_append, List.length_append]; omega
        clear hU hfd hoku hmm e1 e2 e3 e4 e5 hlen hB HB HD HTX hst2 hin HPK
        go_wp2_with fail
        refine HU.out.mono ?_
        rintro e w4 ⟨f', o', cap', rfl, U4, k4, D4⟩
        obtain ⟨w5, hw5⟩ : ∃ w5, w4.alloc (.cells #[.int .i64 X, .int .i64 n, .slice (some ⟨f', o', none⟩) (FL - 7) cap'] 41) = w5 := ⟨_, rfl⟩
        have b5 : Below w4.heap.size w4 w5 := by rw [← hw5]; exact (Below.refl _ w4).alloc (Nat.le_refl _) _
        have k5 : w5.heap[w4.heap.size]? = some (.cells #[.int .i64 X, .int .i64 n, .slice (some ⟨f', o', none⟩) (FL - 7) cap'] 41 (0, 0)) := by rw [← hw5]; exact (MapKept.heap_alloc _ _).1
        have c5 := (row_facts' k5).1
        have D5 : Hid (Duo Rep w w5 U4 b c (St.after s N x (n + 1)) st2 k1 k4) := D4.out.to C b5
        have HW5 : Hid (w4.alloc (.cells #[.int .i64 X, .int .i64 n, .slice (some ⟨f', o', none⟩) (FL - 7) cap'] 41) = w5) := hw5
        clear HU D4 hw5 b5 k5
        go_upto_region 14 with fail
        rw [HW5.out]
        go_wp2_with fail
        refine (D5.out.dump2 C).mono ?_
        rintro e w6 ⟨dp, dc, rfl, U6, D6, _, _, hit⟩
        have HD6 : Hid (Below w.heap.size w w6 ∧ ItBuf w6 U6 dp st2.dump dc) := ⟨D6.below, hit⟩
        obtain ⟨DL, hDL⟩ : ∃ DL, st2.dump = DL := ⟨_, rfl⟩
        rw [hDL] at HD6 HFD HDL ⊢
        clear D5 HW5 D6 hit c5 hDL
        obtain ⟨dl, hdl⟩ : ∃ dl, DL.length = dl := ⟨_, rfl⟩
        have HDL2 : Hid (DL.length = dl ∧ dl ≤ 100000) := ⟨hdl, by rw [← hdl]; exact HDL.out⟩
        have hdi : (dl : Int) ≤ 100000 := by have := HDL2.out.2; omega
        rw [hdl]
        clear hdl HDL
        go_wp2_with fail
        go_loopg [22, 23] dl (fun k v22 v23 wq => ∃ j : Nat, v23 = .int .i64 j ∧ j + k = dl ∧ v22 = .int .i64 (headsIn (DL.take j) : Int) ∧ Hid (Below w6.heap.size w6 wq))
        case atStart => exact ⟨0, rfl, by omega, rfl, Below.refl _ _⟩
        case round =>
          obtain ⟨j, rfl, hjk, rfl, hbq⟩ := hrel
          by_cases hjl : (j : Int) < (dl : Int)
          · have hj : j < DL.length := by have := HDL2.out.1; omega
            have hit := HD6.out.2
            rcases hit with h0 | ⟨db, dof, rfl, hdc, hdU, hdlt, hcells⟩
            · rw [h0] at hj; cases hj
            · obtain ⟨IT, hIT⟩ : ∃ IT, DL[j] = IT := ⟨_, rfl⟩
              have hok := HFD.out.1 IT (by rw [← hIT]; exact List.getElem_mem hj)
              have htk : headsIn (DL.take (j + 1)) = headsIn (DL.take j) + (if IT.kind = 1 then 1 else 0) := by
                rw [List.take_succ_eq_append_getElem hj, headsIn_append, hIT]
                unfold headsIn
                by_cases hk : IT.kind = 1
                · simp [hk]
                · simp [hk]
              have hhl : headsIn (DL.take j) ≤ 100000 := by
                unfold headsIn
                refine Nat.le_trans (List.length_filter_le _ _) ?_
                rw [List.length_take]
                have := HDL2.out
                omega
              have hdbr : db < wr.heap.size := Nat.lt_of_lt_of_le hdlt hbq.out.size
              have hrange : wr.rangeAt db (dof + j * 12) IT.cells := fun q v hv => by
                have hq : q < 12 := (List.getElem?_eq_some_iff.1 hv).1
                rw [show dof + j * 12 + q = dof + (j * 12 + q) by omega, hbq.out.cell (p := ⟨db, dof + (j * 12 + q), none⟩) hdlt]
                refine hcells (j * 12 + q) v ?_
                have e : DL = DL.take j ++ IT :: DL.drop (j + 1) := by rw [← hIT, List.getElem_cons_drop, List.take_append_drop]
                have hl : (itCells (DL.take j)).length = j * 12 := by rw [itCells_length, List.length_take]; omega
                have e2 : itCells DL = itCells (DL.take j) ++ (IT.cells ++ itCells (DL.drop (j + 1))) := by
                  have : itCells (IT :: DL.drop (j + 1)) = IT.cells ++ itCells (DL.drop (j + 1)) := rfl
                  rw [← this, ← itCells_append, ← e]
                rw [e2, List.getElem?_append_right (by omega), hl, show j * 12 + q - j * 12 = q by omega, List.getElem?_append_left (by show q < 12; exact hq)]
                exact hv
              obtain ⟨KD, hKD⟩ : ∃ KD : Int, (IT.kind : Int) = KD := ⟨_, rfl⟩
              obtain ⟨IF, hIF⟩ : ∃ IF : Int, (IT.f : Int) = IF := ⟨_, rfl⟩
              obtain ⟨ITO, hITO⟩ : ∃ ITO : Int, (IT.t : Int) = ITO := ⟨_, rfl⟩
              obtain ⟨IG, hIG⟩ : ∃ IG : Int, (IT.g : Int) = IG := ⟨_, rfl⟩
              obtain ⟨sx, hsx⟩ : ∃ sx, IT.s = sx := ⟨_, rfl⟩
              obtain ⟨H, hH⟩ : ∃ H : Int, (headsIn (DL.take j) : Int) = H := ⟨_, rfl⟩
              have hcs : IT.cells = [.int .i64 KD, .int .i64 IF, .int .i64 ITO, .int .i64 IG, .int .u8 (sx 0), .int .u8 (sx 1), .int .u8 (sx 2), .int .u8 (sx 3), .int .u8 (sx 4), .int .u8 (sx 5), .int .u8 (sx 6), .int .u8 (sx 7)] := by unfold It.cells; rw [hKD, hIF, hITO, hIG, hsx]
              rw [hcs] at hrange
              have HR : Hid (wr.rangeAt db (dof + j * 12) [.int .i64 KD, .int .i64 IF, .int .i64 ITO, .int .i64 IG, .int .u8 (sx 0), .int .u8 (sx 1), .int .u8 (sx 2), .int .u8 (sx 3), .int .u8 (sx 4), .int .u8 (sx 5), .int .u8 (sx 6), .int .u8 (sx 7)]) := hrange
              have hH0 : 0 ≤ H := by omega
              have hH1 : H ≤ 100000 := by omega
              have HB2 : Hid (Below w6.heap.size w6 (wr.alloc (.cells #[.int .i64 KD, .int .i64 IF, .int .i64 ITO, .int .i64 IG, .int .u8 (sx 0), .int .u8 (sx 1), .int .u8 (sx 2), .int .u8 (sx 3), .int .u8 (sx 4), .int .u8 (sx 5), .int .u8 (sx 6), .int .u8 (sx 7)] 53))) := hbq.out.alloc hbq.out.size _
              have hjd : (j : Int) ≤ (dl : Int) := by omega
              have hdcI : (dl : Int) ≤ (dc : Int) := by have := HDL2.out.1; omega
              have HTK : Hid ((IT.kind = 1 → (headsIn (DL.take (j + 1)) : Int) = H + 1) ∧ (IT.kind ≠ 1 → (headsIn (DL.take (j + 1)) : Int) = H)) := by
                refine ⟨fun hk => ?_, fun hk => ?_⟩
                · rw [htk, if_pos hk]; push_cast; omega
                · rw [htk, if_neg hk]; omega
              have hcase : (KD = 0 ∧ IT.kind ≠ 1 ∧ ¬ (IF ≤ X ∧ X < ITO)) ∨ (KD = 1 ∧ IT.kind = 1 ∧ IF = X ∧ IG = n + 1) ∨ (KD = 2 ∧ IT.kind ≠ 1 ∧ IF = X ∧ IG < n) := by
                have hXX := HX.out
                rcases hok with ⟨h1, h2⟩ | ⟨h1, h2, h3⟩ | ⟨h1, h2, h3⟩
                · exact .inl ⟨by omega, by omega, by omega⟩
                · exact .inr (.inl ⟨by omega, h1, by omega, by omega⟩)
                · exact .inr (.inr ⟨by omega, by omega, by omega, by omega⟩)
              rw [hH]
              clear hbq hok htk hhl hrange hKD hIF hITO hIG hsx hH hcs hcells hdU hdlt hdbr hIT hj hdc
              have HCS : Hid ((KD = 0 ∧ IT.kind ≠ 1 ∧ ¬ (IF ≤ X ∧ X < ITO)) ∨ (KD = 1 ∧ IT.kind = 1 ∧ IF = X ∧ IG = n + 1) ∨ (KD = 2 ∧ IT.kind ≠ 1 ∧ IF = X ∧ IG < n)) := hcase
              obtain ⟨wa, hwa⟩ : ∃ wa, wr.alloc (.cells #[.int .i64 KD, .int .i64 IF, .int .i64 ITO, .int .i64 IG, .int .u8 (sx 0), .int .u8 (sx 1), .int .u8 (sx 2), .int .u8 (sx 3), .int .u8 (sx 4), .int .u8 (sx 5), .int .u8 (sx 6), .int .u8 (sx 7)] 53) = wa := ⟨_, rfl⟩
              rw [hwa] at HB2
              have ka : wa.heap[wr.heap.size]? = some (.cells #[.int .i64 KD, .int .i64 IF, .int .i64 ITO, .int .i64 IG, .int .u8 (sx 0), .int .u8 (sx 1), .int .u8 (sx 2), .int .u8 (sx 3), .int .u8 (sx 4), .int .u8 (sx 5), .int .u8 (sx 6), .int .u8 (sx 7)] 53 (0, 0)) := by rw [← hwa]; exact (MapKept.heap_alloc _ _).1
              have q0 : wa.cell? ⟨wr.heap.size, 0, none⟩ = some (.int .i64 KD) := by rw [cell_of_row _ _ _ _ _ _ ka]; rfl
              have q1 : wa.cell? ⟨wr.heap.size, 1, none⟩ = some (.int .i64 IF) := by rw [cell_of_row _ _ _ _ _ _ ka]; rfl
              have q2 : wa.cell? ⟨wr.heap.size, 2, none⟩ = some (.int .i64 ITO) := by rw [cell_of_row _ _ _ _ _ _ ka]; rfl
              have q3 : wa.cell? ⟨wr.heap.size, 3, none⟩ = some (.int .i64 IG) := by rw [cell_of_row _ _ _ _ _ _ ka]; rfl
              have HWA : Hid (wr.alloc (.cells #[.int .i64 KD, .int .i64 IF, .int .i64 ITO, .int .i64 IG, .int .u8 (sx 0), .int .u8 (sx 1), .int .u8 (sx 2), .int .u8 (sx 3), .int .u8 (sx 4), .int .u8 (sx 5), .int .u8 (sx 6), .int .u8 (sx 7)] 53) = wa) := hwa
              clear hcase hwa ka
              go_upto_region 22 with (refine wpList_load_mid rfl 53 _ rfl db (dof + j * 12) rfl _ _ HR.out Tryz.underlying53 rfl (by kernel_rfl) ?_)
              rw [HWA.out]
              clear HWA HR
              rcases HCS.out with ⟨rfl, hk, hno⟩ | ⟨rfl, hk, rfl, rfl⟩ | ⟨rfl, hk, rfl, hlt2⟩
              · by_cases hfx : IF ≤ X
                · have hxt : ¬ X < ITO := fun h => hno ⟨hfx, h⟩
                  have HV : Hid ((headsIn (DL.take (j + 1)) : Int) = H) := HTK.out.2 hk
                  clear HTK hk hno
                  go_wp2_with fail
                  go_roundg (gk - 1)
                  case measure => omega
                  case rel => exact ⟨j + 1, by go_num, by omega, by rw [HV.out], HB2⟩
                · have HV : Hid ((headsIn (DL.take (j + 1)) : Int) = H) := HTK.out.2 hk
                  clear HTK hk hno
                  go_wp2_with fail
                  go_roundg (gk - 1)
                  case measure => omega
                  case rel => exact ⟨j + 1, by go_num, by omega, by rw [HV.out], HB2⟩
              · have HV : Hid ((headsIn (DL.take (j + 1)) : Int) = H + 1) := HTK.out.1 hk
                have hff : (IF == IF) = true := by simp
                clear HTK hk
                go_wp2_with fail
                go_roundg (gk - 1)
                case measure => omega
                case rel => exact ⟨j + 1, by go_num, by omega, by rw [HV.out], HB2⟩
              · have HV : Hid ((headsIn (DL.take (j + 1)) : Int) = H) := HTK.out.2 hk
                clear HTK hk
                go_wp2_with fail
                go_roundg (gk - 1)
                case measure => omega
                case rel => exact ⟨j + 1, by go_num, by omega, by rw [HV.out], HB2⟩
          · have hje : j = dl := by omega
            have hh : headsIn (DL.take j) = 1 := by
              rw [List.take_of_length_le (by have := HDL2.out.1; omega)]
              exact HFD.out.2
            rw [hh]
            have HF : Hid (Below w.heap.size w wr) := HD6.out.1.trans (hbq.out.mono HD6.out.1.size)
            clear hbq HFD HDL2 HD6
            go_wp2_with fail
            go_ret
            exact ⟨rfl, HF.out⟩
end Go.Proofs.YtkpebabbnndopaaGreatDoor

/- What the one listed variable holds; a world that has it. -/
namespace Go.Proofs.YtkpebabbnndopaaGreatDoor
open Go.ChangeShapes Go.WideShapes Go.RowKit

theorem lpOwn : ownKnob Tryz.prog.godebug = none := by kernel_rfl
theorem lpEt : Tryz.prog.globalNamed "errors.errorType" = some 0 := by kernel_rfl
theorem lpRt : (Tryz.prog.cutTypes.find? (·.1 == "internal/reflectlite.rtype")).map (·.2) = some 243 := by kernel_rfl
theorem lpSize : Tryz.prog.types.size = 322 := by kernel_rfl
theorem lpRow : ((List.range 322).filter fun t => Tryz.prog.rowNamed t [101, 114, 114, 111, 114]) = [114] := by kernel_rfl
theorem glob_of_laid {W : World} (h : laidMetH Tryz.prog [("errors.errorType", Rows.laid_errors_errorType)] W) : Glob W := by
  have h' : laidMet Tryz.prog [] W ∧ handlesMet Tryz.prog [("errors.errorType", Rows.laid_errors_errorType)] W := h
  obtain ⟨name, u, ty, e1, e2, e3, e4, e5⟩ := h'.2 _ (List.mem_singleton.2 rfl)
  have en : name = [101, 114, 114, 111, 114] := (Option.some.inj e1).symm
  subst en
  obtain rfl := Option.some.inj (lpRt.symm.trans e2)
  have hm : ty ∈ (List.range 322).filter fun t => Tryz.prog.rowNamed t [101, 114, 114, 111, 114] := List.mem_filter.2 ⟨List.mem_range.2 (by rw [← lpSize]; exact e3), e4⟩
  rw [lpRow] at hm
  obtain rfl := List.mem_singleton.1 hm
  have hh : typeHandle Tryz.prog 114 = .pointer (some ⟨1, 114, none⟩) := by kernel_rfl
  rw [hh] at e5
  have := World.var?_cell lpEt e5 0
  show W.cell? ⟨0, 0, none⟩ = _
  simpa using this
end Go.Proofs.YtkpebabbnndopaaGreatDoor

/- Forward. -/
namespace Go.Proofs.YtkpebabbnndopaaGreatDoor.forward
open Go.ChangeShapes Go.WideShapes Go.ChangeAt Go.RowKit
open Go.ChangeMaps (open_string shut_string)
set_option linter.unusedVariables false

theorem walk (a0 : ByteArray) (a1 : Int) (a2 : Int) (a3 : Int) (a4 : ByteArray) (w0 : a0.size ≤ maxLen) (w1 : (Lit.int .i64 a1).wf = true) (w2 : (Lit.int .i64 a2).wf = true) (w3 : (Lit.int .i64 a3).wf = true) (w4 : a4.size ≤ maxLen) (w : World) (hG : Glob w) :
    Calls Tryz.prog 9 #[.string a0, .int .i64 a1, .int .i64 a2, .int .i64 a3, .string a4] w fun e w' => e = .returned (.bool true) ∧ Below w.heap.size w w' :=
  fwd_walk code a0 a1 a2 a3 a4 (bounds_i64 w1).1 (bounds_i64 w1).2 (bounds_i64 w2).1 (bounds_i64 w2).2 (bounds_i64 w3).1 (bounds_i64 w3).2 w hG

set_option maxRecDepth 100000 in
theorem lifted (os : Os) (started : os.Started) (H : Type) (enc : TypeId × Value → H) :
    ReturnsInHanded {} Tryz.checked os 9 .any (fun w args => (Rows.forwardSpec.pre enc Tryz.prog Tryz.f9 [] false w args ∧ laidMetH Tryz.prog [("errors.errorType", Rows.laid_errors_errorType)] w) ∧ sizedMet enc Tryz.prog Tryz.f9 (OpenSpec.ofChange Rows.forwardSpec) false w args)
      (Rows.forwardSpec.post enc Tryz.prog Tryz.f9 false true false false) := by
  refine returnsInHanded_of_change_and (C := Tryz.checked) (X := fun w _ => laidMetH Tryz.prog [("errors.errorType", Rows.laid_errors_errorType)] w) (fun _ _ _ hh h => h.of_heap hh) lpOwn started (by kernel_rfl) Tryz.func9
    (ChangeSpec.witness_at (enc := enc) (C := Tryz.checked) (os := os) (X := fun w _ => laidMetH Tryz.prog [("errors.errorType", Rows.laid_errors_errorType)] w) false ({ World.holding Tryz.prog os ⟨#[], #[], []⟩ with heap := (World.holding Tryz.prog os ⟨#[], #[], []⟩).heap.modify 0 fun
      | .cells _ t frozen => .cells #[errT] t frozen
      | o => o }) #[.string ByteArray.empty, .int .i64 0, .int .i64 0, .int .i64 0, .string ByteArray.empty] 8 rfl (by kernel_rfl) (by kernel_rfl) (by kernel_rfl) (by kernel_rfl) (by kernel_rfl) (laidMetH_of_parts (laidMet_nil _ _) (by kernel_rfl))) ?_
  intro W base args ds gs before hval0 hW _ _ hL _
  have hG := glob_of_laid hL
  have hval : ∀ (j : Nat) t v, Tryz.f9.params[j]? = some t → args[j]? = some v → Value.okWide Tryz.prog W .any base t v := hval0
  have hW' := hW
  obtain ⟨p, q, hA0, hV0, rfl, hfz, hnd⟩ := hW
  have hV : DataW.TrodVars enc Tryz.prog W (fun _ => true) [] gs q := hV0
  have hA : DataW.TrodAll enc Tryz.prog W 0 (fun _ => true) true Tryz.f9.params.toList args.toList ds p := hA0
  rw [Tryz.params9] at hA hval
  obtain ⟨v0, vs0, d0, ds0, p0, q0, hargs, rfl, rfl, h0, r0⟩ := trodAll_cons hA
  obtain ⟨v1, vs1, d1, ds1, p1, q1, rfl, rfl, rfl, h1, r1⟩ := trodAll_cons r0
  obtain ⟨v2, vs2, d2, ds2, p2, q2, rfl, rfl, rfl, h2, r2⟩ := trodAll_cons r1
  obtain ⟨v3, vs3, d3, ds3, p3, q3, rfl, rfl, rfl, h3, r3⟩ := trodAll_cons r2
  obtain ⟨v4, vs4, d4, ds4, p4, q4, rfl, rfl, rfl, h4, r4⟩ := trodAll_cons r3
  obtain ⟨rfl, rfl, rfl⟩ := trodAll_nil r4
  obtain rfl : args = #[v0, v1, v2, v3, v4] := by cases args; simp_all
  obtain ⟨rfl, rfl⟩ := trodVars_none hV
  obtain ⟨a0, rfl, rfl, rfl, w0⟩ := open_string Tryz.underlying9 (hval 0 9 v0 rfl rfl) h0
  obtain ⟨a1, rfl, rfl, rfl, w1⟩ := open_int Tryz.underlying3 (hval 1 3 v1 rfl rfl) h1
  obtain ⟨a2, rfl, rfl, rfl, w2⟩ := open_int Tryz.underlying3 (hval 2 3 v2 rfl rfl) h2
  obtain ⟨a3, rfl, rfl, rfl, w3⟩ := open_int Tryz.underlying3 (hval 3 3 v3 rfl rfl) h3
  obtain ⟨a4, rfl, rfl, rfl, w4⟩ := open_string Tryz.underlying9 (hval 4 9 v4 rfl rfl) h4
  clear hA0 hval0
  simp only [List.append_nil] at hW'
  refine (walk a0 a1 a2 a3 a4 w0 w1 w2 w3 w4 W hG).mono fun e W' ⟨he, hg⟩ => ?_
  subst he
  exact ⟨_, rfl, _, _, _, [], [], [], hW', trodAll_mk1 (shut_bool Tryz.underlying4 _), (trodAll_cons_mk (shut_string Tryz.underlying9 w0) (trodAll_cons_mk (shut_int Tryz.underlying3 w1) (trodAll_cons_mk (shut_int Tryz.underlying3 w2) (trodAll_cons_mk (shut_int Tryz.underlying3 w3) (trodAll_cons_mk (shut_string Tryz.underlying9 w4) trodAll_mk0))))), rfl, hg.frame _, fun h => by cases h⟩

theorem over : Rows.forwardRow.holds Tryz.pinned (OpenSpec.ofChange Rows.forwardSpec) :=
  OpenClaim.holds_of_wide 9 Tryz.f9 rfl rfl rfl rfl rfl rfl rfl ⟨rfl, rfl, rfl, rfl, rfl⟩ rfl rfl rfl rfl rfl (by kernel_rfl) Tryz.func9 (by kernel_rfl)
    (of_decide_eq_true (by kernel_rfl)) (by unfold Func.isWrapper; first | (rw [if_pos (by decide +kernel)]; kernel_rfl) | (rw [if_neg (by decide +kernel)]; exact ⟨rfl, rfl⟩))
    (fun os started H enc _ => lifted os started H enc)

theorem proved : Rows.ForwardSaid :=
  over
end Go.Proofs.YtkpebabbnndopaaGreatDoor.forward
namespace Go.Proofs.YtkpebabbnndopaaGreatDoor
open Go
theorem forward_holds : Rows.ForwardCardSaid :=
  Claim7.holds_tied_plain_at .later [] [.handle] true _ true
    forward.proved (fun _ h => by cases h) (by kernel_rfl) (fun _ h => by cases h) forward_row_tie rfl ⟨rfl, rfl⟩ (by kernel_rfl) rfl
    (fun f fn hf hfn => by
      obtain rfl : f = 9 := Option.some.inj ((show Tryz.prog.funcNamed "epoch/epochkeep.Forward" = some 9 by kernel_rfl).symm.trans hf) |>.symm
      obtain rfl : fn = Tryz.f9 := (Option.some.inj (Tryz.func9.symm.trans hfn)).symm
      exact ⟨by kernel_rfl, fun j t ht => by
        rw [Tryz.params9] at ht
        rcases j with _ | _ | _ | _ | _ | j
        · obtain rfl : t = 9 := by simpa using ht.symm
          exact (show Tryz.prog.wantsStandIn 9 = false by kernel_rfl)
        · obtain rfl : t = 3 := by simpa using ht.symm
          exact (show Tryz.prog.wantsStandIn 3 = false by kernel_rfl)
        · obtain rfl : t = 3 := by simpa using ht.symm
          exact (show Tryz.prog.wantsStandIn 3 = false by kernel_rfl)
        · obtain rfl : t = 3 := by simpa using ht.symm
          exact (show Tryz.prog.wantsStandIn 3 = false by kernel_rfl)
        · obtain rfl : t = 9 := by simpa using ht.symm
          exact (show Tryz.prog.wantsStandIn 9 = false by kernel_rfl)
        · simp at ht⟩)
    (by kernel_rfl)
#print axioms forward_holds
end Go.Proofs.YtkpebabbnndopaaGreatDoor
