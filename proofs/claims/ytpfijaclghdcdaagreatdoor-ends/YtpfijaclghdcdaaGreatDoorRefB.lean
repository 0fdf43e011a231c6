/- epochref.depth, (*Group).bound. -/
import Derived.Test.YtpfijaclghdcdaaGreatDoorRefG
import Derived.WalkKit
import Derived.WalkSpells
import Derived.WalkLawsBesides
namespace Go.Proofs.YtpfijaclghdcdaaGreatDoor
open Go.RowKit

theorem DepB_lt (k : Nat) : ∀ n m, 1 ≤ n → DepB k n m + 1 ≤ n := by
  induction k with
  | zero => intro n m h; exact h
  | succ k ih =>
    intro n m h
    rw [DepB]
    split
    · omega
    · have hsp := SplitI_bd (n : Int) (by omega)
      split
      · have := ih (SplitI n).toNat m (by omega); omega
      · have := ih (n - (SplitI n).toNat) (m - (SplitI n).toNat) (by omega); omega

set_option maxHeartbeats 1000000 in
theorem refDepth_any (k : Nat) : ∀ (n m : Nat) (w : World), 1 ≤ n → n ≤ 16 → m < n → n ≤ k + 1 →
    Calls Tryz.prog 115 #[.int .i64 n, .int .i64 m] w fun e w' => e = .returned (.int .i64 (DepB k n m)) ∧ w' = w := by
  induction k with
  | zero =>
    intro n m w h1 h2 h3 h4
    obtain rfl : n = 1 := by omega
    go_enter Tryz.func115, Tryz.ntmps115
    go_wp2_with fail
    go_ret
    exact ⟨rfl, rfl⟩
  | succ k ih =>
    intro n m w h1 h2 h3 h4
    by_cases hn : n = 1
    · subst hn
      go_enter Tryz.func115, Tryz.ntmps115
      go_wp2_with fail
      go_ret
      exact ⟨rfl, rfl⟩
    · have hsp := SplitI_bd (n : Int) (by omega)
      have HSP : Hid (∀ W, Calls Tryz.prog 97 #[.int .i64 n] W fun e w' => e = .returned (.int .i64 (SplitI n)) ∧ w' = W) := fun W => split_any n (by omega) (by omega) W
      rw [DepB, if_neg (by omega)]
      obtain ⟨q, hq⟩ : ∃ q : Nat, SplitI n = q := ⟨(SplitI n).toNat, by omega⟩
      rw [hq] at HSP hsp ⊢
      have hq1 : ((q : Int)).toNat = q := by omega
      rw [hq1]
      clear hq hq1
      by_cases hm : m < q
      · rw [if_pos hm]
        have HP : Hid (∀ W, Calls Tryz.prog 115 #[.int .i64 q, .int .i64 m] W fun e w' => e = .returned (.int .i64 (DepB k q m)) ∧ w' = W) := fun W => ih q m W (by omega) (by omega) hm (by omega)
        have hle := DepB_lt k q m (by omega)
        obtain ⟨d, hd⟩ : ∃ d, DepB k q m = d := ⟨_, rfl⟩
        rw [hd] at HP hle ⊢
        clear hd ih
        go_enter Tryz.func115, Tryz.ntmps115
        go_wp2_with (first | (go_at_call 97; refine (HSP.out _).mono ?_; rintro e w' ⟨rfl, rfl⟩) | (go_at_call 115; refine (HP.out _).mono ?_; rintro e w' ⟨rfl, rfl⟩))
        go_ret
        exact ⟨by go_num, rfl⟩
      · rw [if_neg hm]
        have HP : Hid (∀ W, Calls Tryz.prog 115 #[.int .i64 ((n : Int) - q), .int .i64 ((m : Int) - q)] W fun e w' => e = .returned (.int .i64 (DepB k (n - q) (m - q))) ∧ w' = W) := fun W => by
          have h := ih (n - q) (m - q) W (by omega) (by omega) (by omega) (by omega)
          have e1 : ((n - q : Nat) : Int) = (n : Int) - q := by omega
          have e2 : ((m - q : Nat) : Int) = (m : Int) - q := by omega
          rw [e1, e2] at h
          exact h
        have hle := DepB_lt k (n - q) (m - q) (by omega)
        obtain ⟨d, hd⟩ : ∃ d, DepB k (n - q) (m - q) = d := ⟨_, rfl⟩
        rw [hd] at HP hle ⊢
        clear hd ih
        go_enter Tryz.func115, Tryz.ntmps115
        go_wp2_with (first | (go_at_call 97; refine (HSP.out _).mono ?_; rintro e w' ⟨rfl, rfl⟩) | (go_at_call 115; refine (HP.out _).mono ?_; rintro e w' ⟨rfl, rfl⟩))
        go_ret
        exact ⟨by go_num, rfl⟩

theorem row_facts' {w : World} {g : Nat} {cs : Array Value} {t : TypeId} (h : w.heap[g]? = some (.cells cs t (0, 0))) : (∀ o, w.cell? ⟨g, o, none⟩ = cs[o]?) ∧ (∀ o, w.frozen? ⟨g, o, none⟩ = false) :=
  ⟨fun o => cell_of_row _ _ _ _ _ _ h, fun o => by simp [World.frozen?, h]⟩

set_option maxHeartbeats 1000000 in
theorem refBound_any (w : World) (S : List Nat) (rb mb : Nat) (cs : Array Value) (ov : Nat → Value) (st : St) (steps : Int) (ok : st.Ok) (h : RefG w S rb mb cs ov st steps) (who gen len : Nat) (hw : who < st.n) (hg : gen ≤ 65536) (hl : len ≤ 1000000) :
    Calls Tryz.prog 91 #[.pointer (some ⟨rb, 0, none⟩), .int .i64 who, .int .i64 gen, .int .i64 len] w fun e w' => e = .returned (.int .i64 (st.bound who gen len)) ∧ w' = w := by
  obtain ⟨h1, h2, h3, h4, h5, h6, h7⟩ := h
  have n16 := ok.n16
  have HD : Hid (∀ W, Calls Tryz.prog 115 #[.int .i64 st.n, .int .i64 who] W fun e w' => e = .returned (.int .i64 (DepB 16 st.n who)) ∧ w' = W) := fun W => refDepth_any 16 st.n who W ok.n1 ok.n16 hw (by omega)
  have hle := DepB_le 16 st.n who
  have hnx := (ok.m who).1
  obtain ⟨hA, hAf⟩ := row_facts' h4
  obtain ⟨hM, _⟩ := row_facts' h5
  have hN : w.cell? ⟨mb, who * 3 + 1, none⟩ = some (.int .i64 (st.m who).next) := by rw [hM, Nat.mul_comm]; exact (h6.2 who hw).2.1
  unfold St.bound
  obtain ⟨d, hd⟩ : ∃ d, DepB 16 st.n who = d := ⟨_, rfl⟩
  obtain ⟨x, hx⟩ : ∃ x, (st.m who).next = x := ⟨_, rfl⟩
  rw [hd] at HD hle ⊢
  rw [hx] at hN hnx ⊢
  clear hd hx hM h2 h3 h4 h5 h6 h7 hAf ok
  by_cases hneg : (gen : Int) - x + 1 < 0
  · go_enter Tryz.func91, Tryz.ntmps91
    go_wp2_with (go_at_call 115; refine (HD.out _).mono ?_; rintro e w' ⟨rfl, rfl⟩)
    go_ret
    exact ⟨by go_num, rfl⟩
  · go_enter Tryz.func91, Tryz.ntmps91
    go_wp2_with (go_at_call 115; refine (HD.out _).mono ?_; rintro e w' ⟨rfl, rfl⟩)
    go_ret
    exact ⟨by go_num, rfl⟩
end Go.Proofs.YtpfijaclghdcdaaGreatDoor
