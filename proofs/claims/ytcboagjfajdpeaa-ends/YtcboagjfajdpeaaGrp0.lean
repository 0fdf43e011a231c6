/- The group in memory; New, whyNotProtect. -/
import Derived.Test.YtcboagjfajdpeaaLeafOf
import Derived.Test.YtcboagjfajdpeaaPureI
import Derived.Test.YtcboagjfajdpeaaDrvG
import Derived.WalkKit
import Derived.WalkSpells
import Derived.WalkLawsBesides
import Derived.Deep.WholeRow
import Derived.Deep.QuietTactic
import Derived.BigQuiet
import Derived.BigRegion
namespace Go.Proofs.Ytcboagjfajdpeaa
open Go.RowKit
set_option linter.unusedVariables false

def itPart (x : It) : PartD := ⟨x.f, x.t, x.s⟩
/-- the secret that a member's ratchet holds -/
def St.ratS (st : St) (i : Nat) : Nat → Int := if (st.m i).begun && decide ((st.m i).next ≤ 65535) then st.ratAt i (st.m i).next else fun _ => 0
structure GrpAt (cs : Array Value) (st : St) (wk : Nat) : Prop where
  size : cs.size = 324
  own : cs[0]? = some (.int .i64 st.own)
  over : cs[1]? = some (.bool false)
  tree : TreeAt cs 2 ((st.parts 16 0 st.n).map itPart)
  rat : ∀ i, i < 16 → RatAt cs (163 + i * 10) (st.m i).begun (st.m i).next (st.ratS i)
  cnt : cs[ctrOff]? = some (ctr wk)
structure GrpOk (st : St) (wk : Nat) : Prop where
  closed : st.closed = false
  over : ∀ i, (st.m i).over = []
  work : wk ≤ 100 * (st.m st.own).next
/-- the block b is a group in the state st -/
def Grp (w : World) (S : List Nat) (g : Value) (st : St) (wk : Nat) : Prop :=
  ∃ b cs, g = .pointer (some ⟨b, 0, none⟩) ∧ S = [b] ∧ Home (some b) b 117 cs w ∧ GrpAt cs st wk ∧ GrpOk st wk

theorem ratIndex (b j : Nat) (hj : j < 16) : ∀ W, (Instr.indexAt 110 (.pointer (some ⟨b, 163, none⟩)) (.int .i64 j)).run Try.prog W = .ok (.pointer (some ⟨b, 163 + j * 10, none⟩)) W := fun W => by
  have h0 : (0 : Int) ≤ j := by omega
  have h1 : (j : Int) < 16 := by omega
  simp [go_sem, h0, h1]
set_option maxHeartbeats 2000000 in
theorem why_any (b : Nat) (m : Nat) (hm : m < 16) (g : Int) (a : Option Addr) (n c : Nat) (w : World) (h0 : w.cell? ⟨b, 0, none⟩ = some (.int .i64 m)) (h1 : w.cell? ⟨b, 1, none⟩ = some (.bool false)) (h2 : w.cell? ⟨b, 163 + m * 10 + 1, none⟩ = some (.int .i64 g)) :
    Calls Try.prog 51 #[.pointer (some ⟨b, 0, none⟩), .slice a n c] w fun e w' => e = .returned (.int .i64 (if 40 < n then 2 else if GenB g then 0 else 8)) ∧ Below w.heap.size w w' := by
  have ix := ratIndex b m hm
  have HS : Hid (∀ W, W.cell? ⟨b, 163 + m * 10 + 1, none⟩ = some (.int .i64 g) → Calls Try.prog 74 #[.pointer (some ⟨b, 163 + m * 10, none⟩)] W fun e w' => e = .returned (.bool (!(GenB g))) ∧ w' = W) := fun W hW => isSpent_any g b (163 + m * 10) W hW
  by_cases hn : 40 < n
  · have hn' : (40 : Int) < n := by omega
    rw [if_pos hn]
    clear hn
    go_enter Try.func51, Try.ntmps51
    go_wp2_with fail
    go_ret
    exact ⟨rfl, Below.refl _ _⟩
  · have hn' : ¬ (40 : Int) < n := by omega
    rw [if_neg hn]
    clear hn
    obtain ⟨M, hM⟩ : ∃ M : Int, (m : Int) = M := ⟨_, rfl⟩
    rw [hM] at h0 ix
    obtain ⟨P, hP⟩ : ∃ P, 163 + m * 10 = P := ⟨_, rfl⟩
    rw [hP] at ix HS h2
    clear hM hP hm
    cases hg : GenB g with
    | true =>
      rw [hg] at HS
      clear hg
      rw [if_pos rfl]
      go_enter Try.func51, Try.ntmps51
      go_wp2_with fail
      go_quiet ((go_at_call 74; exact Calls.quiet_of_same (HS.out _ (by simpa using h2))))
      go_wp2_with fail
      go_ret
      exact ⟨rfl, below_drewQ (Below.refl _ _) _⟩
    | false =>
      rw [hg] at HS
      clear hg
      rw [if_neg (by simp)]
      go_enter Try.func51, Try.ntmps51
      go_wp2_with fail
      go_quiet ((go_at_call 74; exact Calls.quiet_of_same (HS.out _ (by simpa using h2))))
      go_wp2_with fail
      go_ret
      exact ⟨rfl, below_drewQ (Below.refl _ _) _⟩
end Go.Proofs.Ytcboagjfajdpeaa
