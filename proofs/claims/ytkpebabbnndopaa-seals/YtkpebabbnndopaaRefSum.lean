import Derived.Test.YtkpebabbnndopaaRows
import Derived.Test.YtkpebabbnndopaaPureS
import Derived.WalkKit
import Derived.WalkSpells
import Derived.WalkLawsBesides
namespace Go.Proofs.Ytkpebabbnndopaa
open Go.RowKit

set_option maxHeartbeats 400000 in
theorem refSum_any (s t : ByteArray) (hs : s.size ≤ 1000000) (ht : t.size ≤ 1000000) (w : World) :
    Calls Try.prog 22 #[.string s, .string t] w fun e w' => e = .returned (.int .i64 (TagN (SumAll s.data.toList t.data.toList))) ∧ w' = w := by
  have H0 : Hid ((s ++ { data := #[0] } ++ t).data.toList = s.data.toList ++ [0] ++ t.data.toList) := by show _ = _; simp [ByteArray.data_append]
  have hz : (s ++ { data := #[0] } ++ t).size ≤ 3000000 := by simp [ByteArray.size_append]; show s.size + 1 + t.size ≤ _; omega
  go_enter Try.func22, Try.ntmps22
  go_wp2
  generalize hU : s ++ { data := #[0] } ++ t = u at *
  have HU : Hid (s ++ { data := #[0] } ++ t = u) := hU
  clear hU
  go_loop [6, 7] (fun h i => ∃ k : Nat, k ≤ u.size ∧ i = .int .i64 k ∧ h = .int .u32 (SumL 2166136261 (u.data.toList.take k))) (fun _ i => u.size - (intOf i).toNat)
  case atStart => exact ⟨0, Nat.zero_le _, rfl, rfl⟩
  case round =>
    obtain ⟨k, hk, rfl, rfl⟩ := hrel
    by_cases hlt : k < u.size
    · have HS : Hid (SumL 2166136261 (u.data.toList.take (k + 1)) = SumB (SumL 2166136261 (u.data.toList.take k)) u[k].toNat) := by
        show _ = _
        rw [take_snoc u k hlt, SumL_snoc]
      have hby := byte_bd u[k]
      go_wp2
      go_round
      case rel => exact ⟨k + 1, by omega, by go_num, by rw [HS.out]; rfl⟩
      case measure => simp [intOf]; omega
    · have hfull : u.data.toList.take k = u.data.toList := List.take_of_length_le (by simp; omega)
      rw [hfull, H0.out, SumAll_eq]
      clear hfull
      go_wp2
      go_ret
      exact ⟨rfl, rfl⟩
end Go.Proofs.Ytkpebabbnndopaa
