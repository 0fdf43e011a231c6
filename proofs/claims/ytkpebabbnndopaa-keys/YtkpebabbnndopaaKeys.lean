/- Keys: P5 and P6, at every root, size, member and generation. -/
import Derived.Test.YtkpebabbnndopaaRows
import Derived.Test.YtkpebabbnndopaaSec
import Derived.Test.YtkpebabbnndopaaEq
import Derived.Test.YtkpebabbnndopaaKey
import Derived.WalkKit
import Derived.WalkSpells
import Derived.WalkLawsBesides
import Derived.ProofKit
import Derived.OpenShut
import Derived.ShutString
namespace Go.Proofs.Ytkpebabbnndopaa.keys
open Go.ChangeShapes Go.WideShapes Go.ChangeAt Go.RowKit
open Go.ChangeMaps (open_string shut_string)
set_option linter.unusedVariables false

theorem own : ownKnob Try.prog.godebug = none := by kernel_rfl

theorem secB (s : ByteArray) (w : World) : Calls Try.prog 7 #[.string s] w fun e w' => e = .returned (Agg8 (SecL s.data.toList)) ∧ Below w.heap.size w w' := by
  refine (secret_any s w).mono ?_
  rintro e w' ⟨rfl, rfl⟩
  exact ⟨rfl, ((Below.refl _ w).alloc (Nat.le_refl _) _).alloc (by simp) _⟩

theorem neqB (x0 x1 x2 x3 x4 x5 x6 x7 : Int) (w : World) :
    (binOp .neq 23 (.agg #[.int .u8 x0, .int .u8 x1, .int .u8 x2, .int .u8 x3, .int .u8 x4, .int .u8 x5, .int .u8 x6, .int .u8 x7]) (.agg #[.int .u8 x0, .int .u8 x1, .int .u8 x2, .int .u8 x3, .int .u8 x4, .int .u8 x5, .int .u8 x6, .int .u8 x7])).run Try.prog w = .ok (.bool false) w := by
  rw [run_neq_struct, eq_lit]
  simp

set_option maxHeartbeats 1000000 in
set_option maxRecDepth 20000 in
theorem walk (a0 : ByteArray) (a1 : Int) (a2 : Int) (a3 : Int) (w0 : a0.size ≤ maxLen) (hw1 : (Lit.int .i64 a1).wf = true) (hw2 : (Lit.int .i64 a2).wf = true) (hw3 : (Lit.int .i64 a3).wf = true) (w : World) :
    Calls Try.prog 5 #[.string a0, .int .i64 a1, .int .i64 a2, .int .i64 a3] w fun e w' => e = .returned (.bool true) ∧ Below w.heap.size w w' := by
  have hk := SecL_bd a0.data.toList
  obtain ⟨s, hs⟩ : ∃ s, SecL a0.data.toList = s := ⟨_, rfl⟩
  rw [hs] at hk
  have HS : Hid (SecL a0.data.toList = s) := hs
  clear hs
  have HSEC : Hid (∀ W, Calls Try.prog 7 #[.string a0] W fun e w' => e = .returned (Agg8 s) ∧ Below W.heap.size W w') := by
    intro W
    have h := secB a0 W
    rw [HS.out] at h
    exact h
  have HL : Hid (∀ W, Calls Try.prog 13 #[Agg8 s, .int .i64 a1, .int .i64 a2] W fun e w' => e = .returned (.tuple #[Agg8 (LeafV s a1 a2), .int .i64 (LeafE a1 a2)]) ∧ Below W.heap.size W w') := fun W => leaf_any s hk a1 a2 W
  have HRL : Hid (∀ W, Calls Try.prog 14 #[Agg8 s, .int .i64 a1, .int .i64 a2] W fun e w' => e = .returned (.tuple #[Agg8 (LeafV s a1 a2), .int .i64 (LeafE a1 a2)]) ∧ Below W.heap.size W w') := fun W => refLeaf_any s hk a1 a2 W
  have HK : Hid (∀ g W, Calls Try.prog 15 #[Agg8 s, .int .i64 a1, .int .i64 a2, .int .i64 g] W fun e w' => e = .returned (.tuple #[Agg8 (KeyV s a1 a2 g), .int .i64 (KeyE a1 a2 g)]) ∧ Below W.heap.size W w') := fun g W => key_any s hk a1 a2 g W
  have HRK : Hid (∀ g W, Calls Try.prog 16 #[Agg8 s, .int .i64 a1, .int .i64 a2, .int .i64 g] W fun e w' => e = .returned (.tuple #[Agg8 (KeyV s a1 a2 g), .int .i64 (KeyE a1 a2 g)]) ∧ Below W.heap.size W w') := fun g W => refKey_any s hk a1 a2 g W
  obtain ⟨V, hV⟩ : ∃ V, LeafV s a1 a2 = V := ⟨_, rfl⟩
  obtain ⟨E, hE⟩ : ∃ E, LeafE a1 a2 = E := ⟨_, rfl⟩
  obtain ⟨KV, hKV⟩ : ∃ KV, KeyV s a1 a2 = KV := ⟨_, rfl⟩
  obtain ⟨KE, hKE⟩ : ∃ KE, KeyE a1 a2 = KE := ⟨_, rfl⟩
  rw [hV, hE] at HL HRL
  rw [hKV, hKE] at HK HRK
  clear hV hE hKV hKE HS hk w0 hw1 hw2
  go_enter Try.func5, Try.ntmps5
  go_wp2_with fail
  refine (HSEC.out _).mono ?_
  rintro e w1 ⟨rfl, b1⟩
  go_wp2_with fail
  refine (HL.out _).mono ?_
  rintro e w2 ⟨rfl, b2⟩
  have d2 : Below w.heap.size w w2 := b1.trans (b2.mono b1.size)
  have z2 := d2.size
  clear b1 b2
  go_wp2_with fail
  refine (HSEC.out _).mono ?_
  rintro e w3 ⟨rfl, b3⟩
  go_wp2_with fail
  refine (HRL.out _).mono ?_
  rintro e w4 ⟨rfl, b4⟩
  have b34 := b3.trans (b4.mono b3.size)
  have z4 : w2.heap.size + 1 ≤ w4.heap.size := by have := b34.size; simp at this; omega
  have d4 : Below w.heap.size w w4 := (d2.alloc (by omega) _).trans (b34.mono (by simp; omega))
  have c9 : (w4.alloc (.cells (Cells8 V) 23)).heap[w2.heap.size]? = some (.cells (Cells8 V) 23 (0, 0)) := by
    rw [Below.heap_alloc _ _ _ (by omega), b34.block _ (by simp), (MapKept.heap_alloc _ _).1]
  have c11 : (w4.alloc (.cells (Cells8 V) 23)).heap[w4.heap.size]? = some (.cells (Cells8 V) 23 (0, 0)) := (MapKept.heap_alloc _ _).1
  clear b3 b4 b34 d2 HL HRL
  have hne := neqB (V 0) (V 1) (V 2) (V 3) (V 4) (V 5) (V 6) (V 7) (w4.alloc (.cells (Cells8 V) 23))
  by_cases hbig : 4096 < a3
  · by_cases hlast : a3 ≤ 65535
    · go_wp2_with (first | refine wpList_load_row rfl 23 _ rfl w2.heap.size rfl 23 (Cells8 V) (0, 0) _ c9 Try.underlying23 rfl (by kernel_rfl) ?_ | refine wpList_load_row rfl 23 _ rfl w4.heap.size rfl 23 (Cells8 V) (0, 0) _ c11 Try.underlying23 rfl (by kernel_rfl) ?_ | refine wpList_cmp_agg rfl .neq 23 23 _ _ rfl (Cells8 V) (Cells8 V) rfl rfl Try.eqGuardType23 false hne ?_)
      refine (HSEC.out _).mono ?_
      rintro e w5 ⟨rfl, b5⟩
      go_wp2_with fail
      obtain ⟨Y, hY⟩ : ∃ Y, KV (a3 % 4096) = Y := ⟨_, rfl⟩
      obtain ⟨F, hF⟩ : ∃ F, KE (a3 % 4096) = F := ⟨_, rfl⟩
      have HK' : Hid (∀ W, Calls Try.prog 15 #[Agg8 s, .int .i64 a1, .int .i64 a2, .int .i64 (a3 % 4096)] W fun e w' => e = .returned (.tuple #[Agg8 Y, .int .i64 F]) ∧ Below W.heap.size W w') := fun W => by
        have h := HK.out (a3 % 4096) W
        rw [hY, hF] at h
        exact h
      have HRK' : Hid (∀ W, Calls Try.prog 16 #[Agg8 s, .int .i64 a1, .int .i64 a2, .int .i64 (a3 % 4096)] W fun e w' => e = .returned (.tuple #[Agg8 Y, .int .i64 F]) ∧ Below W.heap.size W w') := fun W => by
        have h := HRK.out (a3 % 4096) W
        rw [hY, hF] at h
        exact h
      clear hY hF HK HRK
      refine (HK'.out _).mono ?_
      rintro e w6 ⟨rfl, b6⟩
      have b56 := b5.trans (b6.mono b5.size)
      have z6 : w4.heap.size + 1 ≤ w6.heap.size := by have := b56.size; simp at this; omega
      have d6 : Below w.heap.size w w6 := (d4.alloc (by omega) _).trans (b56.mono (by simp; omega))
      have k9 : w6.heap[w2.heap.size]? = some (.cells (Cells8 V) 23 (0, 0)) := by rw [b56.block _ (by simp; omega), c9]
      have k11 : w6.heap[w4.heap.size]? = some (.cells (Cells8 V) 23 (0, 0)) := by rw [b56.block _ (by simp), c11]
      clear b5 b6 b56 c9 c11 d4 HK' hne
      go_wp2_with (refine wpList_store_row rfl 23 _ _ rfl w2.heap.size (Cells8 Y) rfl rfl 23 (Cells8 V) k9 (by kernel_rfl) rfl (by simp [Value.oneCell']) ?_)
      refine (HSEC.out _).mono ?_
      rintro e w7 ⟨rfl, b7⟩
      go_wp2_with fail
      refine (HRK'.out _).mono ?_
      rintro e w8 ⟨rfl, b8⟩
      have b78 := b7.trans (b8.mono b7.size)
      have m9 : w8.heap[w2.heap.size]? = some (.cells (Cells8 Y) 23 (0, 0)) := by rw [b78.block _ (by simp; omega)]; exact setRow_heap _ _ _ _ _ _ k9
      have m11 : w8.heap[w4.heap.size]? = some (.cells (Cells8 V) 23 (0, 0)) := by rw [b78.block _ (by simp; omega), setRow_other _ _ _ _ (by omega), k11]
      have d8 : Below w.heap.size w w8 := (below_setRow d6 (by omega) _).trans (b78.mono (by simp; omega))
      have n9 : (w8.setRow w4.heap.size (Cells8 Y)).heap[w2.heap.size]? = some (.cells (Cells8 Y) 23 (0, 0)) := by rw [setRow_other _ _ _ _ (by omega), m9]
      have n11 : (w8.setRow w4.heap.size (Cells8 Y)).heap[w4.heap.size]? = some (.cells (Cells8 Y) 23 (0, 0)) := setRow_heap _ _ _ _ _ _ m11
      clear b7 b8 b78 k9 k11 d6 HRK' HSEC m9
      have heq := eqlB (Y 0) (Y 1) (Y 2) (Y 3) (Y 4) (Y 5) (Y 6) (Y 7) (w8.setRow w4.heap.size (Cells8 Y))
      go_wp2_with (first | refine wpList_store_row rfl 23 _ _ rfl w4.heap.size (Cells8 Y) rfl rfl 23 (Cells8 V) m11 (by kernel_rfl) rfl (by simp [Value.oneCell']) ?_ | refine wpList_load_row rfl 23 _ rfl w2.heap.size rfl 23 (Cells8 Y) (0, 0) _ n9 Try.underlying23 rfl (by kernel_rfl) ?_ | refine wpList_load_row rfl 23 _ rfl w4.heap.size rfl 23 (Cells8 Y) (0, 0) _ n11 Try.underlying23 rfl (by kernel_rfl) ?_ | refine wpList_cmp_agg rfl .eql 23 23 _ _ rfl (Cells8 Y) (Cells8 Y) rfl rfl Try.eqGuardType23 true heq ?_)
      go_ret
      exact ⟨rfl, below_setRow d8 (by omega) _⟩
    · go_wp2_with (first | refine wpList_load_row rfl 23 _ rfl w2.heap.size rfl 23 (Cells8 V) (0, 0) _ c9 Try.underlying23 rfl (by kernel_rfl) ?_ | refine wpList_load_row rfl 23 _ rfl w4.heap.size rfl 23 (Cells8 V) (0, 0) _ c11 Try.underlying23 rfl (by kernel_rfl) ?_ | refine wpList_cmp_agg rfl .neq 23 23 _ _ rfl (Cells8 V) (Cells8 V) rfl rfl Try.eqGuardType23 false hne ?_)
      refine (HSEC.out _).mono ?_
      rintro e w5 ⟨rfl, b5⟩
      go_wp2_with fail
      obtain ⟨Y, hY⟩ : ∃ Y, KV (a3) = Y := ⟨_, rfl⟩
      obtain ⟨F, hF⟩ : ∃ F, KE (a3) = F := ⟨_, rfl⟩
      have HK' : Hid (∀ W, Calls Try.prog 15 #[Agg8 s, .int .i64 a1, .int .i64 a2, .int .i64 (a3)] W fun e w' => e = .returned (.tuple #[Agg8 Y, .int .i64 F]) ∧ Below W.heap.size W w') := fun W => by
        have h := HK.out (a3) W
        rw [hY, hF] at h
        exact h
      have HRK' : Hid (∀ W, Calls Try.prog 16 #[Agg8 s, .int .i64 a1, .int .i64 a2, .int .i64 (a3)] W fun e w' => e = .returned (.tuple #[Agg8 Y, .int .i64 F]) ∧ Below W.heap.size W w') := fun W => by
        have h := HRK.out (a3) W
        rw [hY, hF] at h
        exact h
      clear hY hF HK HRK
      refine (HK'.out _).mono ?_
      rintro e w6 ⟨rfl, b6⟩
      have b56 := b5.trans (b6.mono b5.size)
      have z6 : w4.heap.size + 1 ≤ w6.heap.size := by have := b56.size; simp at this; omega
      have d6 : Below w.heap.size w w6 := (d4.alloc (by omega) _).trans (b56.mono (by simp; omega))
      have k9 : w6.heap[w2.heap.size]? = some (.cells (Cells8 V) 23 (0, 0)) := by rw [b56.block _ (by simp; omega), c9]
      have k11 : w6.heap[w4.heap.size]? = some (.cells (Cells8 V) 23 (0, 0)) := by rw [b56.block _ (by simp), c11]
      clear b5 b6 b56 c9 c11 d4 HK' hne
      go_wp2_with (refine wpList_store_row rfl 23 _ _ rfl w2.heap.size (Cells8 Y) rfl rfl 23 (Cells8 V) k9 (by kernel_rfl) rfl (by simp [Value.oneCell']) ?_)
      refine (HSEC.out _).mono ?_
      rintro e w7 ⟨rfl, b7⟩
      go_wp2_with fail
      refine (HRK'.out _).mono ?_
      rintro e w8 ⟨rfl, b8⟩
      have b78 := b7.trans (b8.mono b7.size)
      have m9 : w8.heap[w2.heap.size]? = some (.cells (Cells8 Y) 23 (0, 0)) := by rw [b78.block _ (by simp; omega)]; exact setRow_heap _ _ _ _ _ _ k9
      have m11 : w8.heap[w4.heap.size]? = some (.cells (Cells8 V) 23 (0, 0)) := by rw [b78.block _ (by simp; omega), setRow_other _ _ _ _ (by omega), k11]
      have d8 : Below w.heap.size w w8 := (below_setRow d6 (by omega) _).trans (b78.mono (by simp; omega))
      have n9 : (w8.setRow w4.heap.size (Cells8 Y)).heap[w2.heap.size]? = some (.cells (Cells8 Y) 23 (0, 0)) := by rw [setRow_other _ _ _ _ (by omega), m9]
      have n11 : (w8.setRow w4.heap.size (Cells8 Y)).heap[w4.heap.size]? = some (.cells (Cells8 Y) 23 (0, 0)) := setRow_heap _ _ _ _ _ _ m11
      clear b7 b8 b78 k9 k11 d6 HRK' HSEC m9
      have heq := eqlB (Y 0) (Y 1) (Y 2) (Y 3) (Y 4) (Y 5) (Y 6) (Y 7) (w8.setRow w4.heap.size (Cells8 Y))
      go_wp2_with (first | refine wpList_store_row rfl 23 _ _ rfl w4.heap.size (Cells8 Y) rfl rfl 23 (Cells8 V) m11 (by kernel_rfl) rfl (by simp [Value.oneCell']) ?_ | refine wpList_load_row rfl 23 _ rfl w2.heap.size rfl 23 (Cells8 Y) (0, 0) _ n9 Try.underlying23 rfl (by kernel_rfl) ?_ | refine wpList_load_row rfl 23 _ rfl w4.heap.size rfl 23 (Cells8 Y) (0, 0) _ n11 Try.underlying23 rfl (by kernel_rfl) ?_ | refine wpList_cmp_agg rfl .eql 23 23 _ _ rfl (Cells8 Y) (Cells8 Y) rfl rfl Try.eqGuardType23 true heq ?_)
      go_ret
      exact ⟨rfl, below_setRow d8 (by omega) _⟩
  · go_wp2_with (first | refine wpList_load_row rfl 23 _ rfl w2.heap.size rfl 23 (Cells8 V) (0, 0) _ c9 Try.underlying23 rfl (by kernel_rfl) ?_ | refine wpList_load_row rfl 23 _ rfl w4.heap.size rfl 23 (Cells8 V) (0, 0) _ c11 Try.underlying23 rfl (by kernel_rfl) ?_ | refine wpList_cmp_agg rfl .neq 23 23 _ _ rfl (Cells8 V) (Cells8 V) rfl rfl Try.eqGuardType23 false hne ?_)
    refine (HSEC.out _).mono ?_
    rintro e w5 ⟨rfl, b5⟩
    go_wp2_with fail
    obtain ⟨Y, hY⟩ : ∃ Y, KV (a3) = Y := ⟨_, rfl⟩
    obtain ⟨F, hF⟩ : ∃ F, KE (a3) = F := ⟨_, rfl⟩
    have HK' : Hid (∀ W, Calls Try.prog 15 #[Agg8 s, .int .i64 a1, .int .i64 a2, .int .i64 (a3)] W fun e w' => e = .returned (.tuple #[Agg8 Y, .int .i64 F]) ∧ Below W.heap.size W w') := fun W => by
      have h := HK.out (a3) W
      rw [hY, hF] at h
      exact h
    have HRK' : Hid (∀ W, Calls Try.prog 16 #[Agg8 s, .int .i64 a1, .int .i64 a2, .int .i64 (a3)] W fun e w' => e = .returned (.tuple #[Agg8 Y, .int .i64 F]) ∧ Below W.heap.size W w') := fun W => by
      have h := HRK.out (a3) W
      rw [hY, hF] at h
      exact h
    clear hY hF HK HRK
    refine (HK'.out _).mono ?_
    rintro e w6 ⟨rfl, b6⟩
    have b56 := b5.trans (b6.mono b5.size)
    have z6 : w4.heap.size + 1 ≤ w6.heap.size := by have := b56.size; simp at this; omega
    have d6 : Below w.heap.size w w6 := (d4.alloc (by omega) _).trans (b56.mono (by simp; omega))
    have k9 : w6.heap[w2.heap.size]? = some (.cells (Cells8 V) 23 (0, 0)) := by rw [b56.block _ (by simp; omega), c9]
    have k11 : w6.heap[w4.heap.size]? = some (.cells (Cells8 V) 23 (0, 0)) := by rw [b56.block _ (by simp), c11]
    clear b5 b6 b56 c9 c11 d4 HK' hne
    go_wp2_with (refine wpList_store_row rfl 23 _ _ rfl w2.heap.size (Cells8 Y) rfl rfl 23 (Cells8 V) k9 (by kernel_rfl) rfl (by simp [Value.oneCell']) ?_)
    refine (HSEC.out _).mono ?_
    rintro e w7 ⟨rfl, b7⟩
    go_wp2_with fail
    refine (HRK'.out _).mono ?_
    rintro e w8 ⟨rfl, b8⟩
    have b78 := b7.trans (b8.mono b7.size)
    have m9 : w8.heap[w2.heap.size]? = some (.cells (Cells8 Y) 23 (0, 0)) := by rw [b78.block _ (by simp; omega)]; exact setRow_heap _ _ _ _ _ _ k9
    have m11 : w8.heap[w4.heap.size]? = some (.cells (Cells8 V) 23 (0, 0)) := by rw [b78.block _ (by simp; omega), setRow_other _ _ _ _ (by omega), k11]
    have d8 : Below w.heap.size w w8 := (below_setRow d6 (by omega) _).trans (b78.mono (by simp; omega))
    have n9 : (w8.setRow w4.heap.size (Cells8 Y)).heap[w2.heap.size]? = some (.cells (Cells8 Y) 23 (0, 0)) := by rw [setRow_other _ _ _ _ (by omega), m9]
    have n11 : (w8.setRow w4.heap.size (Cells8 Y)).heap[w4.heap.size]? = some (.cells (Cells8 Y) 23 (0, 0)) := setRow_heap _ _ _ _ _ _ m11
    clear b7 b8 b78 k9 k11 d6 HRK' HSEC m9
    have heq := eqlB (Y 0) (Y 1) (Y 2) (Y 3) (Y 4) (Y 5) (Y 6) (Y 7) (w8.setRow w4.heap.size (Cells8 Y))
    go_wp2_with (first | refine wpList_store_row rfl 23 _ _ rfl w4.heap.size (Cells8 Y) rfl rfl 23 (Cells8 V) m11 (by kernel_rfl) rfl (by simp [Value.oneCell']) ?_ | refine wpList_load_row rfl 23 _ rfl w2.heap.size rfl 23 (Cells8 Y) (0, 0) _ n9 Try.underlying23 rfl (by kernel_rfl) ?_ | refine wpList_load_row rfl 23 _ rfl w4.heap.size rfl 23 (Cells8 Y) (0, 0) _ n11 Try.underlying23 rfl (by kernel_rfl) ?_ | refine wpList_cmp_agg rfl .eql 23 23 _ _ rfl (Cells8 Y) (Cells8 Y) rfl rfl Try.eqGuardType23 true heq ?_)
    go_ret
    exact ⟨rfl, below_setRow d8 (by omega) _⟩

set_option maxRecDepth 100000 in
theorem lifted (os : Os) (started : os.Started) (H : Type) (enc : TypeId × Value → H) :
    ReturnsInHanded {} Try.checked os 5 .any (Rows.keysSpec.pre6 enc Try.prog Try.f5 Rows.keysRow.domain false) (Rows.keysSpec.post enc Try.prog Try.f5 false true false false) := by
  refine returnsInHanded_of_change (C := Try.checked) own started (by kernel_rfl) Try.func5
    (ChangeSpec.witness6 (enc := enc) (C := Try.checked) false ⟨#[], #[.string ByteArray.empty, .int .i64 0, .int .i64 0, .int .i64 0], []⟩ 8 (by kernel_rfl) (by kernel_rfl) (by kernel_rfl) (by kernel_rfl)) ?_
  intro W base args ds gs before hval0 hW hcnd _
  have hval : ∀ (j : Nat) t v, Try.f5.params[j]? = some t → args[j]? = some v → Value.okWide Try.prog W .any base t v := hval0
  have hW' := hW
  obtain ⟨p, q, hA0, hV, rfl, hfz, hnd⟩ := hW
  have hA : DataW.TrodAll enc Try.prog W 0 (fun _ => true) true Try.f5.params.toList args.toList ds p := hA0
  rw [Try.params5] at hA hval
  obtain ⟨v0, vs0, d0, ds0, p0, q0, hargs, rfl, rfl, h0, r0⟩ := trodAll_cons hA
  obtain ⟨v1, vs1, d1, ds1, p1, q1, rfl, rfl, rfl, h1, r1⟩ := trodAll_cons r0
  obtain ⟨v2, vs2, d2, ds2, p2, q2, rfl, rfl, rfl, h2, r2⟩ := trodAll_cons r1
  obtain ⟨v3, vs3, d3, ds3, p3, q3, rfl, rfl, rfl, h3, r3⟩ := trodAll_cons r2
  obtain ⟨rfl, rfl, rfl⟩ := trodAll_nil r3
  obtain rfl : args = #[v0, v1, v2, v3] := by cases args; simp_all
  obtain ⟨rfl, rfl⟩ := trodVars_none hV
  obtain ⟨a0, rfl, rfl, rfl, w0⟩ := open_string Try.underlying9 (hval 0 9 v0 rfl rfl) h0
  obtain ⟨a1, rfl, rfl, rfl, w1⟩ := open_int Try.underlying3 (hval 1 3 v1 rfl rfl) h1
  obtain ⟨a2, rfl, rfl, rfl, w2⟩ := open_int Try.underlying3 (hval 2 3 v2 rfl rfl) h2
  obtain ⟨a3, rfl, rfl, rfl, w3⟩ := open_int Try.underlying3 (hval 3 3 v3 rfl rfl) h3
  clear hA0 hval0
  simp only [List.append_nil] at hW'
  refine (walk a0 a1 a2 a3 w0 w1 w2 w3 W).mono fun e W' ⟨he, hg⟩ => ?_
  subst he
  exact ⟨_, rfl, _, _, _, [], [], [], hW', trodAll_mk1 (shut_bool Try.underlying4 _), (trodAll_cons_mk (shut_string Try.underlying9 w0) (trodAll_cons_mk (shut_int Try.underlying3 w1) (trodAll_cons_mk (shut_int Try.underlying3 w2) (trodAll_cons_mk (shut_int Try.underlying3 w3) trodAll_mk0)))), rfl, hg.frame _, fun h => by cases h⟩

theorem over : Rows.keysRow.holds Try.pinned (OpenSpec.ofChange Rows.keysSpec) :=
  OpenClaim.holds_of_wide 5 Try.f5 rfl rfl rfl rfl rfl rfl rfl ⟨rfl, rfl, rfl, rfl, rfl⟩ rfl rfl rfl rfl rfl (by kernel_rfl) Try.func5 (by kernel_rfl)
    (of_decide_eq_true (by kernel_rfl)) (by unfold Func.isWrapper; first | (rw [if_pos (by decide +kernel)]; kernel_rfl) | (rw [if_neg (by decide +kernel)]; exact ⟨rfl, rfl⟩))
    (fun os started H enc _ => lifted os started H enc)

theorem proved : Rows.KeysSaid :=
  over
end Go.Proofs.Ytkpebabbnndopaa.keys
namespace Go.Proofs.Ytkpebabbnndopaa
theorem keys_holds : Rows.KeysSaid := keys.proved
#print axioms keys_holds
end Go.Proofs.Ytkpebabbnndopaa
