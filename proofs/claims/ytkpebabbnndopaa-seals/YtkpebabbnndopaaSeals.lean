/- Seals: P4, at every key, head, text and bytes. -/
import Derived.Test.YtkpebabbnndopaaRows
import Derived.Test.YtkpebabbnndopaaSec
import Derived.Test.YtkpebabbnndopaaSeal
import Derived.Test.YtkpebabbnndopaaOpen
import Derived.Test.YtkpebabbnndopaaRefOpen
import Derived.Test.YtkpebabbnndopaaOpens2
import Derived.WalkKit
import Derived.WalkSpells
import Derived.WalkLawsBesides
import Derived.Deep.DeepCutAuto
import Derived.BigRegion
import Derived.ProofKit
import Derived.OpenShut
import Derived.ShutString
namespace Go.Proofs.Ytkpebabbnndopaa.seals
open Go.ChangeShapes Go.WideShapes Go.ChangeAt Go.RowKit
open Go.ChangeMaps (open_string shut_string)
set_option linter.unusedVariables false

theorem own : ownKnob Try.prog.godebug = none := by kernel_rfl

set_option maxHeartbeats 1000000 in
theorem walk_big (a0 a1 a2 a3 : ByteArray) (hbig : 65536 < a1.size ∨ 65536 < a2.size ∨ 65536 < a3.size) (w : World) :
    Calls Try.prog 4 #[.string a0, .string a1, .string a2, .string a3] w fun e w' => e = .returned (.bool true) ∧ Below w.heap.size w w' := by
  by_cases h1 : 65536 < a1.size
  · have d1 : decide (65536 < (a1.size : Int)) = true := by simp; omega
    go_enter Try.func4, Try.ntmps4
    go_wp2_with fail
    go_ret
    exact ⟨rfl, Below.refl _ _⟩
  · have d1 : decide (65536 < (a1.size : Int)) = false := by simp; omega
    by_cases h2 : 65536 < a2.size
    · have d2 : decide (65536 < (a2.size : Int)) = true := by simp; omega
      go_enter Try.func4, Try.ntmps4
      go_wp2_with fail
      go_ret
      exact ⟨rfl, Below.refl _ _⟩
    · have d2 : decide (65536 < (a2.size : Int)) = false := by simp; omega
      have d3 : decide (65536 < (a3.size : Int)) = true := by simp; omega
      go_enter Try.func4, Try.ntmps4
      go_wp2_with fail
      go_ret
      exact ⟨rfl, Below.refl _ _⟩

set_option maxHeartbeats 1000000 in
theorem walk_small (a0 a1 a2 a3 : ByteArray) (h1 : a1.size ≤ 65536) (h2 : a2.size ≤ 65536) (h3 : a3.size ≤ 65536) (w : World) :
    Calls Try.prog 4 #[.string a0, .string a1, .string a2, .string a3] w fun e w' => e = .returned (.bool true) ∧ Below w.heap.size w w' := by
  have d1 : decide (65536 < (a1.size : Int)) = false := by simp; omega
  have d2 : decide (65536 < (a2.size : Int)) = false := by simp; omega
  have d3 : decide (65536 < (a3.size : Int)) = false := by simp; omega
  have e1 : a1.data.toList.length = a1.size := by simp
  have e2 : a2.data.toList.length = a2.size := by simp
  have e3 : a3.data.toList.length = a3.size := by simp
  have hk := SecL_bd a0.data.toList
  obtain ⟨s, hs⟩ : ∃ s, SecL a0.data.toList = s := ⟨_, rfl⟩
  rw [hs] at hk
  have HS : Hid (SecL a0.data.toList = s) := hs
  clear hs
  have HSEC : Hid (∀ W, Calls Try.prog 7 #[.string a0] W fun e w' => e = .returned (Agg8 s) ∧ Below W.heap.size W w') := by
    intro W
    have h := secret_below a0 W
    rw [HS.out] at h
    exact h
  go_enter Try.func4, Try.ntmps4
  go_wp2_with (first
    | (refine wpList_bytes rfl _ rfl a1 rfl ?_; intro cap1 W1 hcap1 b1 z1 B1)
    | (refine wpList_bytes rfl _ rfl a2 rfl ?_; intro cap2 W2 hcap2 b2 z2 B2)
    | (refine wpList_bytes rfl _ rfl a3 rfl ?_; intro cap3 W3 hcap3 b3 z3 B3))
  rw [z1] at B2
  rw [z2, z1] at B3
  have bel3 : Below w.heap.size w W3 := b1.trans ((b2.trans (b3.mono (by omega))).mono (by omega))
  have A1 : Bts W3 (some ⟨w.heap.size, 0, none⟩) a1.data.toList := (B1.below b2).below b3
  have A2 : Bts W3 (some ⟨w.heap.size + 1, 0, none⟩) a2.data.toList := B2.below b3
  have HSEAL : Hid (∀ W, Below W3.heap.size W3 W → Calls Try.prog 9 #[Agg8 s, .slice (some ⟨w.heap.size, 0, none⟩) a1.size cap1, .slice (some ⟨w.heap.size + 1, 0, none⟩) a2.size cap2] W fun e w' => Below W.heap.size W w' ∧ ∃ p cap, e = .returned (.slice p (a2.size + 4) cap) ∧ a2.size + 4 ≤ cap ∧ Bts w' p (SealT s a1.data.toList a2.data.toList)) := by
    intro W hW
    have h := seal_cv s hk (some ⟨w.heap.size, 0, none⟩) a1.data.toList cap1 (by omega) (some ⟨w.heap.size + 1, 0, none⟩) a2.data.toList cap2 (by omega) W (A1.below hW) (A2.below hW)
    rw [e1, e2] at h
    exact h
  obtain ⟨ok, hok⟩ : ∃ ok, OpenOk s a1.data.toList a3.data.toList = ok := ⟨_, rfl⟩
  obtain ⟨zo, hzo⟩ : ∃ zo, Opened s a1.data.toList a3.data.toList = zo := ⟨_, rfl⟩
  have HOPEN : Hid (∀ W, Below W3.heap.size W3 W → Calls Try.prog 11 #[Agg8 s, .slice (some ⟨w.heap.size, 0, none⟩) a1.size cap1, .slice (some ⟨w.heap.size + 1 + 1, 0, none⟩) a3.size cap3] W fun e w' => Below W.heap.size W w' ∧ ∃ p n q, e = .returned (.tuple #[.slice p n q, .bool ok]) ∧ Cv w' (.slice p n q) zo) := by
    intro W hW
    have h := open_any s hk (some ⟨w.heap.size, 0, none⟩) a1.data.toList cap1 (by omega) (some ⟨w.heap.size + 1 + 1, 0, none⟩) a3.data.toList cap3 (by omega) (by omega) W (A1.below hW) (B3.below hW)
    rw [e1, e3, hok, hzo] at h
    exact h
  have HREFO : Hid (∀ W, Calls Try.prog 12 #[Agg8 s, .string a1, .string a3] W fun e w' => Below W.heap.size W w' ∧ e = .returned (.tuple #[.string zo, .bool ok])) := by
    intro W
    have h := refOpen_any s hk a1 a3 (by omega) (by omega) W
    rw [hok, hzo] at h
    exact h
  obtain ⟨y, hy⟩ : ∃ y : ByteArray, ⟨(SealT s a1.data.toList a2.data.toList).toArray⟩ = y := ⟨_, rfl⟩
  have HREFS : Hid (∀ W, Calls Try.prog 10 #[Agg8 s, .string a1, .string a2] W fun e w' => e = .returned (.string y) ∧ Below W.heap.size W w') := by
    intro W
    have h := refSeal_any s hk a1 a2 (by omega) (by omega) W
    rw [hy] at h
    exact h
  have HOPX : Hid (∀ W p cap, Below W3.heap.size W3 W → a2.size + 4 ≤ cap → Bts W p (SealT s a1.data.toList a2.data.toList) → Calls Try.prog 11 #[Agg8 s, .slice (some ⟨w.heap.size, 0, none⟩) a1.size cap1, .slice p (a2.size + 4) cap] W fun e w' => Below W.heap.size W w' ∧ ∃ p n q, e = .returned (.tuple #[.slice p n q, .bool true]) ∧ Cv w' (.slice p n q) a2) := by
    intro W p cap hW hcap hp
    have hsl : (SealT s a1.data.toList a2.data.toList).length = a2.size + 4 := by rw [SealT_length, e2]
    have h := open_any s hk (some ⟨w.heap.size, 0, none⟩) a1.data.toList cap1 (by omega) p (SealT s a1.data.toList a2.data.toList) cap (by omega) (by omega) W (A1.below hW) hp
    have ho := seal_open s a1.data.toList a2.data.toList
    have hoz : Opened s a1.data.toList (SealT s a1.data.toList a2.data.toList) = a2 := by
      unfold Opened
      rw [ho.1, ho.2]
      rfl
    rw [e1, hsl, ho.1, hoz] at h
    exact h
  have CH : Hid (Cv W3 (.slice (some ⟨w.heap.size, 0, none⟩) a1.size cap1) a1) := by have h := cv_of_bts cap1 A1; rw [e1] at h; exact h
  have CT : Hid (Cv W3 (.slice (some ⟨w.heap.size + 1, 0, none⟩) a2.size cap2) a2) := by have h := cv_of_bts cap2 A2; rw [e2] at h; exact h
  have CB : Hid (Cv W3 (.slice (some ⟨w.heap.size + 1 + 1, 0, none⟩) a3.size cap3) a3) := by have h := cv_of_bts cap3 B3; rw [e3] at h; exact h
  have HCX : Hid (∀ W p cap, Bts W p (SealT s a1.data.toList a2.data.toList) → Cv W (.slice p (a2.size + 4) cap) y) := by
    intro W p cap hp
    have hsl : (SealT s a1.data.toList a2.data.toList).length = a2.size + 4 := by rw [SealT_length, e2]
    have h := cv_of_bts cap hp
    rw [hsl, hy] at h
    exact h
  clear z1 z2 z3 b1 b2 b3 B1 B2 B3 A1 A2 hok hzo hy e1 e2 e3 hcap1 hcap2 hcap3
  refine (HSEC.out _).mono ?_
  rintro e w1 ⟨rfl, c1⟩
  go_wp2_with fail
  refine (HSEAL.out _ c1).mono ?_
  rintro e w2 ⟨c2, p, capx, rfl, hcapx, X⟩
  have C2 := c1.trans (c2.mono c1.size)
  clear c1 c2
  go_wp2_with fail
  refine (HSEC.out _).mono ?_
  rintro e w3 ⟨rfl, c3⟩
  have X3 := X.below c3
  have C3 := C2.trans (c3.mono C2.size)
  clear X C2 c3
  go_wp2_with fail
  refine (HREFS.out _).mono ?_
  rintro e w4 ⟨rfl, c4⟩
  have X4 := X3.below c4
  have C4 := C3.trans (c4.mono C3.size)
  clear X3 C3 c4
  go_wp2_with fail
  refine (HSEC.out _).mono ?_
  rintro e w5 ⟨rfl, c5⟩
  have X5 := X4.below c5
  have C5 := C4.trans (c5.mono C4.size)
  clear X4 C4 c5
  go_wp2_with fail
  refine (HOPEN.out _ C5).mono ?_
  rintro e w6 ⟨c6, p1, n1, q1, rfl, P6⟩
  have X6 := X5.below c6
  have C6 := C5.trans (c6.mono C5.size)
  clear X5 C5 c6
  go_wp2_with fail
  refine (HSEC.out _).mono ?_
  rintro e w7 ⟨rfl, c7⟩
  have X7 := X6.below c7
  have P7 := P6.later c7
  have C7 := C6.trans (c7.mono C6.size)
  clear X6 C6 c7 P6
  go_wp2_with fail
  refine (HREFO.out _).mono ?_
  rintro e w8 ⟨c8, rfl⟩
  have X8 := X7.below c8
  have P8 := P7.later c8
  have C8 := C7.trans (c8.mono C7.size)
  clear X7 C7 c8 P7
  go_wp2_with fail
  refine (HSEC.out _).mono ?_
  rintro e w9 ⟨rfl, c9⟩
  have X9 := X8.below c9
  have P9 := P8.later c9
  have C9 := C8.trans (c9.mono C8.size)
  clear X8 C8 c9 P8
  go_wp2_with fail
  refine (HOPX.out _ _ _ C9 hcapx X9).mono ?_
  rintro e w10 ⟨c10, p2, n2, q2, rfl, R10⟩
  have X10 := X9.below c10
  have P10 := P9.later c10
  have C10 := C9.trans (c10.mono C9.size)
  clear X9 C9 c10 P9
  have hcx := HCX.out _ _ capx X10 _ (Below.refl _ _)
  have hcp := P10 _ (Below.refl _ _)
  have hcr := R10 _ (Below.refl _ _)
  have hch := (CH.out.later C10) _ (Below.refl _ _)
  have hct := (CT.out.later C10) _ (Below.refl _ _)
  have hcb := (CB.out.later C10) _ (Below.refl _ _)
  have hend : Below w.heap.size w w10 := bel3.trans (C10.mono bel3.size)
  clear P10 R10 X10 C10 HSEC HSEAL HOPEN HREFO HREFS HOPX CH CT CB HCX hcapx bel3
  go_wp2_with fail
  go_ret
  exact ⟨rfl, hend⟩

theorem walk (a0 : ByteArray) (a1 : ByteArray) (a2 : ByteArray) (a3 : ByteArray) (w0 : a0.size ≤ maxLen) (w1 : a1.size ≤ maxLen) (w2 : a2.size ≤ maxLen) (w3 : a3.size ≤ maxLen) (w : World) :
    Calls Try.prog 4 #[.string a0, .string a1, .string a2, .string a3] w fun e w' => e = .returned (.bool true) ∧ Below w.heap.size w w' := by
  by_cases hbig : 65536 < a1.size ∨ 65536 < a2.size ∨ 65536 < a3.size
  · exact walk_big a0 a1 a2 a3 hbig w
  · exact walk_small a0 a1 a2 a3 (by omega) (by omega) (by omega) w

set_option maxRecDepth 100000 in
theorem lifted (os : Os) (started : os.Started) (H : Type) (enc : TypeId × Value → H) :
    ReturnsInHanded {} Try.checked os 4 .any (Rows.sealsSpec.pre6 enc Try.prog Try.f4 Rows.sealsRow.domain false) (Rows.sealsSpec.post enc Try.prog Try.f4 false true false false) := by
  refine returnsInHanded_of_change (C := Try.checked) own started (by kernel_rfl) Try.func4
    (ChangeSpec.witness6 (enc := enc) (C := Try.checked) false ⟨#[], #[.string ByteArray.empty, .string ByteArray.empty, .string ByteArray.empty, .string ByteArray.empty], []⟩ 8 (by kernel_rfl) (by kernel_rfl) (by kernel_rfl) (by kernel_rfl)) ?_
  intro W base args ds gs before hval0 hW hcnd _
  have hval : ∀ (j : Nat) t v, Try.f4.params[j]? = some t → args[j]? = some v → Value.okWide Try.prog W .any base t v := hval0
  have hW' := hW
  obtain ⟨p, q, hA0, hV, rfl, hfz, hnd⟩ := hW
  have hA : DataW.TrodAll enc Try.prog W 0 (fun _ => true) true Try.f4.params.toList args.toList ds p := hA0
  rw [Try.params4] at hA hval
  obtain ⟨v0, vs0, d0, ds0, p0, q0, hargs, rfl, rfl, h0, r0⟩ := trodAll_cons hA
  obtain ⟨v1, vs1, d1, ds1, p1, q1, rfl, rfl, rfl, h1, r1⟩ := trodAll_cons r0
  obtain ⟨v2, vs2, d2, ds2, p2, q2, rfl, rfl, rfl, h2, r2⟩ := trodAll_cons r1
  obtain ⟨v3, vs3, d3, ds3, p3, q3, rfl, rfl, rfl, h3, r3⟩ := trodAll_cons r2
  obtain ⟨rfl, rfl, rfl⟩ := trodAll_nil r3
  obtain rfl : args = #[v0, v1, v2, v3] := by cases args; simp_all
  obtain ⟨rfl, rfl⟩ := trodVars_none hV
  obtain ⟨a0, rfl, rfl, rfl, w0⟩ := open_string Try.underlying9 (hval 0 9 v0 rfl rfl) h0
  obtain ⟨a1, rfl, rfl, rfl, w1⟩ := open_string Try.underlying9 (hval 1 9 v1 rfl rfl) h1
  obtain ⟨a2, rfl, rfl, rfl, w2⟩ := open_string Try.underlying9 (hval 2 9 v2 rfl rfl) h2
  obtain ⟨a3, rfl, rfl, rfl, w3⟩ := open_string Try.underlying9 (hval 3 9 v3 rfl rfl) h3
  clear hA0 hval0
  simp only [List.append_nil] at hW'
  refine (walk a0 a1 a2 a3 w0 w1 w2 w3 W).mono fun e W' ⟨he, hg⟩ => ?_
  subst he
  exact ⟨_, rfl, _, _, _, [], [], [], hW', trodAll_mk1 (shut_bool Try.underlying4 _), (trodAll_cons_mk (shut_string Try.underlying9 w0) (trodAll_cons_mk (shut_string Try.underlying9 w1) (trodAll_cons_mk (shut_string Try.underlying9 w2) (trodAll_cons_mk (shut_string Try.underlying9 w3) trodAll_mk0)))), rfl, hg.frame _, fun h => by cases h⟩

theorem over : Rows.sealsRow.holds Try.pinned (OpenSpec.ofChange Rows.sealsSpec) :=
  OpenClaim.holds_of_wide 4 Try.f4 rfl rfl rfl rfl rfl rfl rfl ⟨rfl, rfl, rfl, rfl, rfl⟩ rfl rfl rfl rfl rfl (by kernel_rfl) Try.func4 (by kernel_rfl)
    (of_decide_eq_true (by kernel_rfl)) (by unfold Func.isWrapper; first | (rw [if_pos (by decide +kernel)]; kernel_rfl) | (rw [if_neg (by decide +kernel)]; exact ⟨rfl, rfl⟩))
    (fun os started H enc _ => lifted os started H enc)

theorem proved : Rows.SealsSaid :=
  over
end Go.Proofs.Ytkpebabbnndopaa.seals
namespace Go.Proofs.Ytkpebabbnndopaa
theorem seals_holds : Rows.SealsSaid := seals.proved
#print axioms seals_holds
end Go.Proofs.Ytkpebabbnndopaa
