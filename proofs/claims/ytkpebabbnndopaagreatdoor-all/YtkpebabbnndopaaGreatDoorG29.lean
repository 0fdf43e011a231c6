import Derived.Test.YtkpebabbnndopaaGreatDoorG01
import Derived.Test.YtkpebabbnndopaaGreatDoorC02
import Derived.Test.YtkpebabbnndopaaGreatDoorC09
import Derived.Test.YtkpebabbnndopaaGreatDoorC04
import Derived.WalkKit
import Derived.WalkSpells
import Derived.WalkLawsBesides
import Derived.Deep.WholeRow
import Derived.Deep.DeepCutAuto
import Derived.BigRegion
/- placeIn. -/
namespace Go.Proofs.YtkpebabbnndopaaGreatDoor
open Go.RowKit
set_option linter.unusedVariables false
set_option linter.unusedSimpArgs false

theorem or_by (a b : Nat) (ha : a < 256) (hb : b < 256) : bits .or .i64 ((a : Int) * 256) (b : Int) = ((a * 256 + b : Nat) : Int) := by
  have h1 : (BitVec.ofInt 64 ((a : Int) * 256)).toNat = a * 256 := by rw [BitVec.toNat_ofInt]; omega
  have h2 : (BitVec.ofInt 64 (b : Int)).toNat = b := by rw [BitVec.toNat_ofInt]; omega
  have h3 : (BitVec.ofInt 64 ((a : Int) * 256) ||| BitVec.ofInt 64 (b : Int)).toNat = a * 256 + b := by
    rw [BitVec.toNat_or, h1, h2]
    have := Nat.two_pow_add_eq_or_of_lt (i := 8) (b := b) (by omega) a
    rw [Nat.mul_comm a 256]
    exact this.symm
  show IntKind.i64.wrap ((BitVec.ofInt 64 ((a : Int) * 256) ||| BitVec.ofInt 64 (b : Int)).toNat : Nat) = _
  rw [h3, IntKind.wrap_i64]
  omega
theorem row2 {w : World} {r : Nat} {x y : Value} {t : TypeId} (h : w.heap[r]? = some (.cells #[x, y] t (0, 0))) (a b : Value) : ((w.setCell ⟨r, 0, none⟩ a).setCell ⟨r, 1, none⟩ b).heap[r]? = some (.cells #[a, b] t (0, 0)) := by
  rw [setCell_eq_setRow w r 0 _ t (0, 0) a h, setCell_eq_setRow _ r 1 _ t (0, 0) b (setRow_heap _ _ _ _ _ _ h)]
  exact setRow_heap _ _ _ _ _ _ (setRow_heap _ _ _ _ _ _ h)
theorem place_bad (a : Option Addr) (n c : Nat) (m : Int) (hn : n < 7 ∨ 47 < n) (w : World) :
    Calls Tryz.prog 91 #[.slice a n c, .int .i64 m] w fun e w' => ∃ s, e = .returned (.tuple #[encP (0, 0), faultV 3 s]) ∧ Below w.heap.size w w' := by
  have e := (MapKept.heap_alloc w (.cells #[.int .i64 0, .int .i64 0] 123)).1
  by_cases h : n < 7
  · have h1 : (n : Int) < 7 := by omega
    have d1 : decide ((n : Int) < 7) = true := by simp; omega
    clear h hn
    go_enter Tryz.func91, Tryz.ntmps91
    go_wp2_with fail
    exact bodyPost_ret (v := .tuple #[.agg #[.int .i64 0, .int .i64 0], faultV 3 _]) (results_row_tmp rfl _ _ w.heap.size 123 #[.int .i64 0, .int .i64 0] (0, 0) _ _ rfl rfl e Tryz.underlying123 rfl (by kernel_rfl)) rfl (by first | exact ⟨_, rfl, (Below.refl _ w).alloc (Nat.le_refl _) _⟩ | exact ⟨⟨_, rfl⟩, (Below.refl _ w).alloc (Nat.le_refl _) _⟩)
  · have h1 : ¬ (n : Int) < 7 := by omega
    have h2 : (47 : Int) < n := by omega
    have d1 : decide ((n : Int) < 7) = false := by simp; omega
    have d2 : decide ((47 : Int) < n) = true := by simp; omega
    clear h hn
    go_enter Tryz.func91, Tryz.ntmps91
    go_wp2_with fail
    exact bodyPost_ret (v := .tuple #[.agg #[.int .i64 0, .int .i64 0], faultV 3 _]) (results_row_tmp rfl _ _ w.heap.size 123 #[.int .i64 0, .int .i64 0] (0, 0) _ _ rfl rfl e Tryz.underlying123 rfl (by kernel_rfl)) rfl (by first | exact ⟨_, rfl, (Below.refl _ w).alloc (Nat.le_refl _) _⟩ | exact ⟨⟨_, rfl⟩, (Below.refl _ w).alloc (Nat.le_refl _) _⟩)
set_option maxHeartbeats 2000000 in
theorem place_any (fb fo c : Nat) (l : List UInt8) (h7 : 7 ≤ l.length) (h47 : l.length ≤ 47) (hc : l.length ≤ c) (n : Nat) (h1 : 1 ≤ n) (h16 : n ≤ 16) (w : World) (hl : ∀ i (h : i < l.length), w.cell? ⟨fb, fo + i, none⟩ = some (.int .u8 (l[i].toNat : Int))) :
    Calls Tryz.prog 91 #[.slice (some ⟨fb, fo, none⟩) l.length c, .int .i64 n] w fun e w' => Below w.heap.size w w' ∧ ((n ≤ unWho l ∧ ∃ s, e = .returned (.tuple #[encP (0, 0), faultV 3 s])) ∨ (unWho l < n ∧ e = .returned (.tuple #[encP (unWho l, unGen l), .nilIface]))) := by
  have hlt : fb < w.heap.size := block_lt_of_cell (hl 0 (by omega))
  obtain ⟨B1, hB1⟩ : ∃ B1, (l.getD 1 0).toNat = B1 := ⟨_, rfl⟩
  obtain ⟨B2, hB2⟩ : ∃ B2, (l.getD 2 0).toNat = B2 := ⟨_, rfl⟩
  have hb1 : B1 < 256 := by rw [← hB1]; exact (l.getD 1 0).toNat_lt
  have hb2 : B2 < 256 := by rw [← hB2]; exact (l.getD 2 0).toNat_lt
  have hgen : unGen l = B1 * 256 + B2 := by unfold unGen; rw [hB1, hB2]
  have hor := or_by B1 B2 hb1 hb2
  rw [← hgen] at hor
  have hwl := unWho_lt l
  obtain ⟨w0, hw0⟩ : ∃ w0, w.alloc (.cells #[.int .i64 0, .int .i64 0] 123) = w0 := ⟨_, rfl⟩
  have b0 : Below w.heap.size w w0 := by rw [← hw0]; exact (Below.refl _ w).alloc (Nat.le_refl _) _
  have k0 : w0.heap[w.heap.size]? = some (.cells #[.int .i64 0, .int .i64 0] 123 (0, 0)) := by rw [← hw0]; exact (MapKept.heap_alloc _ _).1
  have c0 : w0.cell? ⟨fb, fo, none⟩ = some (.int .u8 (unWho l : Int)) := by
    rw [b0.cell (p := ⟨fb, fo, none⟩) hlt]
    have := hl 0 (by omega)
    rw [Nat.add_zero] at this
    rw [this]
    unfold unWho
    rw [List.getD_eq_getElem?_getD, List.getElem?_eq_getElem (by omega)]
    rfl
  have c1 : w0.cell? ⟨fb, fo + 1, none⟩ = some (.int .u8 (B1 : Int)) := by
    rw [b0.cell (p := ⟨fb, fo + 1, none⟩) hlt, hl 1 (by omega), ← hB1, List.getD_eq_getElem?_getD, List.getElem?_eq_getElem (by omega)]
    rfl
  have c2 : w0.cell? ⟨fb, fo + 2, none⟩ = some (.int .u8 (B2 : Int)) := by
    rw [b0.cell (p := ⟨fb, fo + 2, none⟩) hlt, hl 2 (by omega), ← hB2, List.getD_eq_getElem?_getD, List.getElem?_eq_getElem (by omega)]
    rfl
  have z0 : fb < w0.heap.size := by have := b0.size; omega
  have c0' : (w0.alloc (.cells #[.int .i64 0, .int .i64 0] 123)).cell? ⟨fb, fo, none⟩ = some (.int .u8 (unWho l : Int)) := by rw [World.cell?_alloc_lt _ _ ⟨fb, fo, none⟩ z0]; exact c0
  have c1' : (w0.alloc (.cells #[.int .i64 0, .int .i64 0] 123)).cell? ⟨fb, fo + 1, none⟩ = some (.int .u8 (B1 : Int)) := by rw [World.cell?_alloc_lt _ _ ⟨fb, fo + 1, none⟩ z0]; exact c1
  have c2' : (w0.alloc (.cells #[.int .i64 0, .int .i64 0] 123)).cell? ⟨fb, fo + 2, none⟩ = some (.int .u8 (B2 : Int)) := by rw [World.cell?_alloc_lt _ _ ⟨fb, fo + 2, none⟩ z0]; exact c2
  have hfit : FitB (n : Int) (unWho l : Int) = decide (unWho l < n) := by
    by_cases e : unWho l < n
    · rw [(fitB_iff _ _).2 ⟨by omega, by omega, by omega, by omega⟩]; simp [e]
    · cases hf : FitB (n : Int) (unWho l : Int) with
      | false => simp [e]
      | true => have := (fitB_iff _ _).1 hf; omega
  have HM : Hid (∀ W, Calls Tryz.prog 62 #[.int .i64 n, .int .i64 (unWho l)] W fun e w' => e = .returned (.bool (decide (unWho l < n))) ∧ w' = W) := fun W => by rw [← hfit]; exact hasMember_any n (unWho l) W
  obtain ⟨WH, hWH⟩ : ∃ WH : Int, (unWho l : Int) = WH := ⟨_, rfl⟩
  obtain ⟨GE, hGE⟩ : ∃ GE : Int, (unGen l : Int) = GE := ⟨_, rfl⟩
  obtain ⟨BB, hBB⟩ : ∃ BB, decide (unWho l < n) = BB := ⟨_, rfl⟩
  rw [hWH, hBB] at HM
  rw [hWH] at c0 c0' ⊢
  rw [hGE] at hor ⊢
  obtain ⟨N, hN⟩ : ∃ N, l.length = N := ⟨_, rfl⟩
  have d1 : ¬ (N : Int) < 7 := by omega
  have d2 : ¬ (47 : Int) < N := by omega
  have d3 : decide ((N : Int) < 7) = false := by simp; omega
  have d4 : decide ((47 : Int) < N) = false := by simp; omega
  have d5 : (0 : Int) < N := by omega
  have d6 : (1 : Int) < N := by omega
  have d7 : (2 : Int) < N := by omega
  have hw1 : 0 ≤ WH := by omega
  have hw2 : WH < 256 := by omega
  have hB1i : (0 : Int) ≤ B1 := by omega
  have hB1j : (B1 : Int) < 256 := by omega
  have hB2i : (0 : Int) ≤ B2 := by omega
  have hB2j : (B2 : Int) < 256 := by omega
  have hsh : wrap64 ((B1 : Int) * 256) = (B1 : Int) * 256 := by simp only [wrap64]; omega
  rw [hN]
  have HBB : Hid ((BB = true → unWho l < n) ∧ (BB = false → n ≤ unWho l)) := ⟨fun h => by rw [h] at hBB; simpa using hBB, fun h => by rw [h] at hBB; simpa using hBB⟩
  have HB0 : Hid (Below w.heap.size w w0) := b0
  have HK0 : Hid (w0.heap[w.heap.size]? = some (.cells #[.int .i64 0, .int .i64 0] 123 (0, 0))) := k0
  have HW0 : Hid (w.alloc (.cells #[.int .i64 0, .int .i64 0] 123) = w0) := hw0
  clear hl hB1 hB2 hgen hwl hWH hGE hBB hN h7 h47 hc hfit b0 k0 hw0 hb1 hb2
  go_enter Tryz.func91, Tryz.ntmps91
  go_upto_region 3 with fail
  rw [HW0.out]
  go_cut [6] (fun s6 wx => ∃ pb, s6 = .pointer (some ⟨pb, 0, none⟩) ∧ Hid (Below w.heap.size w wx ∧ w.heap.size < pb ∧ wx.heap[pb]? = some (.cells #[.int .i64 WH, .int .i64 GE] 123 (0, 0)) ∧ wx.heap[w.heap.size]? = some (.cells #[.int .i64 0, .int .i64 0] 123 (0, 0))))
  case first =>
    go_region
    all_goals
      go_wp2_with fail
      go_meet
      refine ⟨_, rfl, ?_⟩
      have z := HB0.out.size
      have z2 : w.heap.size < w0.heap.size := (Array.getElem?_eq_some_iff.1 HK0.out).1
      exact ⟨(HB0.out.alloc z _).drew, z2, (MapKept.heap_alloc w0 _).1, ((Below.heap_alloc w0 _ _ z2).trans HK0.out)⟩
  case rest =>
    obtain ⟨pb, rfl, hx⟩ := hcut
    have hA : ∀ o, wc.cell? ⟨pb, o, none⟩ = #[Value.int .i64 WH, .int .i64 GE][o]? := fun o => cell_of_row _ _ _ _ _ _ hx.out.2.2.1
    have kz := hx.out.2.2.2
    obtain ⟨hz1, hz2⟩ := (⟨fun o => cell_of_row _ _ _ _ _ _ kz, fun o => by simp [World.frozen?, kz]⟩ : (∀ o, wc.cell? ⟨w.heap.size, o, none⟩ = #[Value.int .i64 0, .int .i64 0][o]?) ∧ (∀ o, wc.frozen? ⟨w.heap.size, o, none⟩ = false))
    clear HW0 HB0 HK0 c0 c1 c2 c0' c1' c2' z0 hor hsh
    have HFIN : Hid (∀ a b, Below w.heap.size w ((wc.setCell ⟨w.heap.size, 0, none⟩ a).setCell ⟨w.heap.size, 1, none⟩ b) ∧ ((wc.setCell ⟨w.heap.size, 0, none⟩ a).setCell ⟨w.heap.size, 1, none⟩ b).heap[w.heap.size]? = some (.cells #[a, b] 123 (0, 0))) := fun a b => ⟨(hx.out.1.setCell (p := ⟨w.heap.size, 0, none⟩) (Nat.le_refl _) a).setCell (p := ⟨w.heap.size, 1, none⟩) (Nat.le_refl _) b, row2 kz a b⟩
    clear kz
    by_cases hb : BB = true
    · have hlt2 := HBB.out.1 hb
      rw [hb] at HM
      clear hb HBB
      go_wp2_with (go_at_call 62; refine (HM.out _).mono ?_; rintro e w' ⟨rfl, rfl⟩)
      exact bodyPost_ret (v := .tuple #[.agg #[.int .i64 WH, .int .i64 GE], .nilIface]) (results_row_tmp rfl _ _ w.heap.size 123 #[.int .i64 WH, .int .i64 GE] (0, 0) _ _ rfl rfl (HFIN.out _ _).2 Tryz.underlying123 rfl (by kernel_rfl)) rfl ⟨(HFIN.out _ _).1, .inr ⟨hlt2, rfl⟩⟩
    · have hle2 := HBB.out.2 (by simpa using hb)
      rw [show BB = false by simpa using hb] at HM
      clear hb HBB
      go_wp2_with (go_at_call 62; refine (HM.out _).mono ?_; rintro e w' ⟨rfl, rfl⟩)
      exact bodyPost_ret (v := .tuple #[.agg #[.int .i64 0, .int .i64 0], faultV 3 _]) (results_row_tmp rfl _ _ w.heap.size 123 #[.int .i64 0, .int .i64 0] (0, 0) _ _ rfl rfl (HFIN.out _ _).2 Tryz.underlying123 rfl (by kernel_rfl)) rfl ⟨(HFIN.out _ _).1, .inl ⟨hle2, _, rfl⟩⟩
end Go.Proofs.YtkpebabbnndopaaGreatDoor
