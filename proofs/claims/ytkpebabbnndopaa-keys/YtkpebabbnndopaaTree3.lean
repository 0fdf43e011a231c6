/- kept, find. -/
import Derived.Test.YtkpebabbnndopaaTree2
import Derived.WalkKit
import Derived.WalkSpells
import Derived.WalkLawsBesides
import Derived.Deep.WholeRow
import Derived.Deep.MidRow
import Derived.Deep.LoopGhost
import Derived.Deep.QuietTactic
import Derived.BigQuiet
namespace Go.Proofs.Ytkpebabbnndopaa
open Go.RowKit
set_option linter.unusedVariables false

theorem below_drewQ {B : Nat} {a b : World} (h : Below B a b) (n : Nat) : Below B a (b.drewN n) := by
  induction n with
  | zero => exact h
  | succ n ih => exact ih.drew
theorem kept_any (b o n : Nat) (hn : n ≤ 16) (w : World) (h : w.cell? ⟨b, o + 160, none⟩ = some (.int .i64 n)) :
    Calls Try.prog 45 #[.pointer (some ⟨b, o, none⟩)] w fun e w' => e = .returned (.slice (some ⟨b, o, none⟩) n 16) ∧ Below w.heap.size w w' := by
  have h1 : (n : Int) ≤ 16 := by omega
  have h0 : (0 : Int) ≤ n := by omega
  have hsl : ∀ W, (Instr.sliceAt 54 (.pointer (some ⟨b, o, none⟩)) none (some (.int .i64 n)) none).run Try.prog W = .ok (.slice (some ⟨b, o, none⟩) n 16) W := fun W => by
    simp [go_sem, h0, h1]
  go_enter Try.func45, Try.ntmps45
  go_wp2_with fail
  go_region
  all_goals
    go_wp2_with fail
    go_ret
    exact ⟨rfl, (Below.refl _ _).drew⟩
theorem range_part {w : World} {b o : Nat} {L : List PartD} (h : w.rangeAt b o (pcells L)) (i : Nat) (hi : i < L.length) : w.rangeAt b (o + i * 10) (CellsP L[i].f L[i].t L[i].s).toList := by
  have e : L = L.take i ++ L[i] :: L.drop (i + 1) := by rw [List.getElem_cons_drop, List.take_append_drop]
  intro j v hv
  have hj : j < 10 := (List.getElem?_eq_some_iff.1 hv).1
  have := h (i * 10 + j) v (by
    rw [e, pcells_append, pcells_cons]
    have hl : (pcells (L.take i)).length = i * 10 := by rw [pcells_len, List.length_take]; omega
    rw [List.getElem?_append_right (by omega), hl, show i * 10 + j - i * 10 = j by omega, List.getElem?_append_left (by rw [PartD.cells_len]; exact hj)]
    exact hv)
  rwa [← Nat.add_assoc] at this
set_option maxHeartbeats 2000000 in
theorem indexFunc_any (b o : Nat) (L : List PartD) (hL : L.length ≤ 16) (m : Nat) (mb : Nat) (k : Nat) (hk : k < L.length) (hkm : L[k].f ≤ m ∧ m < L[k].t) (hbef : ∀ i (hi : i < k), ¬ (L[i].f ≤ m ∧ m < L[i].t)) (w : World) (hr : w.rangeAt b o (pcells L)) (hb : b < w.heap.size) (hm : w.cell? ⟨mb, 0, none⟩ = some (.int .i64 m)) (hmb : mb < w.heap.size) :
    Calls Try.prog 44 #[.slice (some ⟨b, o, none⟩) L.length 16, .func (.func 46) #[] #[.pointer (some ⟨mb, 0, none⟩)]] w fun e w' => e = .returned (.int .i64 k) ∧ Below w.heap.size w w' := by
  have HF : Hid (∀ (f t : Int) (s : Nat → Int) W, W.cell? ⟨mb, 0, none⟩ = some (.int .i64 m) → Calls Try.prog 46 #[AggP f t s, .pointer (some ⟨mb, 0, none⟩)] W fun e w' => e = .returned (.bool (decide (f ≤ m ∧ m < t))) ∧ Below W.heap.size W w') := fun f t s W hW => find1_any f t s m mb W hW
  have HR : Hid (w.rangeAt b o (pcells L)) := hr
  have HM : Hid (w.cell? ⟨mb, 0, none⟩ = some (.int .i64 m)) := hm
  have HK : Hid (L[k].f ≤ m ∧ m < L[k].t) := hkm
  have HB : Hid (∀ i (hi : i < k), ¬ (L[i].f ≤ m ∧ m < L[i].t)) := hbef
  clear hr hm hkm hbef
  go_enter Try.func44, Try.ntmps44
  go_wp2_with fail
  go_loopg [8] k (fun j i wr => ∃ i' : Nat, i = .int .i64 i' ∧ i' + j = k ∧ Below w.heap.size w wr)
  case atStart => exact ⟨0, rfl, by omega, Below.refl _ _⟩
  case round =>
    obtain ⟨i, rfl, hik, hbel⟩ := hrel
    have hlt : (i : Int) < (L.length : Int) := by omega
    have hiL : i < L.length := by omega
    have HR1 : Hid (wr.rangeAt b (o + i * 10) (CellsP L[i].f L[i].t L[i].s).toList) := range_part (fun j v hv => by rw [hbel.cell (p := ⟨b, o + j, none⟩) hb]; exact HR.out j v hv) i hiL
    have HM1 : Hid (wr.cell? ⟨mb, 0, none⟩ = some (.int .i64 m)) := by show _ = _; rw [hbel.cell (p := ⟨mb, 0, none⟩) hmb]; exact HM.out
    have HD : Hid (decide ((L[i].f : Int) ≤ m ∧ (m : Int) < L[i].t) = decide (i = k)) := by
      show _ = _
      by_cases e : i = k
      · subst e
        have := HK.out
        simp; omega
      · have := HB.out i (by omega)
        simp [e]; omega
    obtain ⟨f, hf⟩ : ∃ f : Int, (L[i].f : Int) = f := ⟨_, rfl⟩
    obtain ⟨t, ht⟩ : ∃ t : Int, (L[i].t : Int) = t := ⟨_, rfl⟩
    obtain ⟨s, hs⟩ : ∃ s, L[i].s = s := ⟨_, rfl⟩
    rw [hf, ht, hs] at HR1
    rw [hf, ht] at HD
    clear hf ht hs
    by_cases hik2 : i = k
    · subst hik2
      have HD' : Hid (decide (f ≤ m ∧ (m : Int) < t) = true) := by show _ = _; rw [HD.out]; simp
      clear HD HB HK
      go_wp2_with (refine wpList_load_mid rfl 53 _ rfl b (o + i * 10) rfl (CellsP f t s).toList _ HR1.out Try.underlying53 rfl (by kernel_rfl) ?_)
      refine (HF.out f t s _ HM1.out).mono ?_
      rintro e w1 ⟨rfl, b1⟩
      rw [HD'.out]
      have b2 : Below w.heap.size w w1 := hbel.trans (b1.mono hbel.size)
      clear hbel b1 HR1 HM1
      go_wp2_with fail
      go_ret
      exact ⟨rfl, b2⟩
    · have HD' : Hid (decide (f ≤ m ∧ (m : Int) < t) = false) := by show _ = _; rw [HD.out]; simp [hik2]
      clear HD HB HK
      go_wp2_with (refine wpList_load_mid rfl 53 _ rfl b (o + i * 10) rfl (CellsP f t s).toList _ HR1.out Try.underlying53 rfl (by kernel_rfl) ?_)
      refine (HF.out f t s _ HM1.out).mono ?_
      rintro e w1 ⟨rfl, b1⟩
      rw [HD'.out]
      have b2 : Below w.heap.size w w1 := hbel.trans (b1.mono hbel.size)
      clear hbel b1 HR1 HM1
      go_wp2_with fail
      go_roundg (gk - 1)
      case measure => omega
      case rel => exact ⟨i + 1, by go_num, by omega, b2⟩
end Go.Proofs.Ytkpebabbnndopaa
