import Derived.Test.YtkpebabbnndopaaRefSeal
import Derived.WalkKit
import Derived.WalkSpells
import Derived.WalkLawsBesides
import Derived.Deep.DeepCutAuto
import Derived.BigRegion
namespace Go.Proofs.Ytkpebabbnndopaa
open Go.RowKit

set_option maxHeartbeats 400000 in
theorem refOpen_short (s : Nat → Int) (h t : ByteArray) (ht : t.size < 4) (w : World) :
    Calls Try.prog 12 #[Agg8 s, .string h, .string t] w fun e w' => e = .returned (.tuple #[.string ⟨#[]⟩, .bool false]) ∧ Below w.heap.size w w' := by
  go_enter Try.func12, Try.ntmps12
  go_wp2
  go_ret2
  exact ⟨rfl, (Below.refl _ w).alloc (Nat.le_refl _) _⟩

set_option maxHeartbeats 1000000 in
theorem refOpen_long (s : Nat → Int) (hs : ∀ i, 0 ≤ s i ∧ s i < 256) (h t : ByteArray) (k : Nat) (hh : h.size ≤ 1000000) (ht : t.size = k + 4) (hk : k ≤ 900000) (w : World) :
    Calls Try.prog 12 #[Agg8 s, .string h, .string t] w fun e w' => Below w.heap.size w w' ∧ ((OpenOk s h.data.toList t.data.toList = false ∧ e = .returned (.tuple #[.string ⟨#[]⟩, .bool false])) ∨
      (OpenOk s h.data.toList t.data.toList = true ∧ e = .returned (.tuple #[.string ⟨(OpenT s t.data.toList).toArray⟩, .bool true]))) := by
  have hlen : t.data.toList.length = k + 4 := by simpa using ht
  have hcut0 : (t.extract 0 k).data.toList = t.data.toList.take k := by simp [ByteArray.data_extract]
  have hcs : (t.extract 0 k).size = k := by simp [ByteArray.size_extract]; omega
  have hmix : ∀ W', Calls Try.prog 21 #[.agg (Cells8 s), .string (t.extract 0 k)] W' fun e w' => e = .returned (.string ⟨(OpenT s t.data.toList).toArray⟩) ∧ Below W'.heap.size W' w' := fun W' => by
    have h1 := mixed_any s hs (t.extract 0 k) (by omega) W'
    rw [hcut0] at h1
    have e : OpenT s t.data.toList = MixT s (t.data.toList.take k) := by unfold OpenT; rw [hlen]; rfl
    rw [e]
    exact h1
  obtain ⟨u, hu⟩ : ∃ u : ByteArray, ⟨(OpenT s t.data.toList).toArray⟩ = u := ⟨_, rfl⟩
  have hul : u.data.toList = MixT s (t.data.toList.take k) := by rw [← hu]; show OpenT s _ = _; unfold OpenT; rw [hlen]; rfl
  have hus : u.size ≤ 1000000 := by
    have e1 : u.size = u.data.toList.length := by simp
    rw [e1, hul, MixT_length, List.length_take]; omega
  have hseal : ∀ W', Calls Try.prog 10 #[.agg (Cells8 s), .string h, .string u] W' fun e w' => e = .returned (.string ⟨(SealT s h.data.toList (MixT s (t.data.toList.take k))).toArray⟩) ∧ Below W'.heap.size W' w' := fun W' => by
    have h1 := refSeal_any s hs h u hh hus W'
    rw [hul] at h1
    exact h1
  have hop := open_seal s h.data.toList t.data.toList (by omega)
  rw [hlen] at hop
  have hop' : (SealT s h.data.toList (MixT s (t.data.toList.take k)) == t.data.toList) = OpenOk s h.data.toList t.data.toList := hop
  obtain ⟨z, hz⟩ : ∃ z : ByteArray, ⟨(SealT s h.data.toList (MixT s (t.data.toList.take k))).toArray⟩ = z := ⟨_, rfl⟩
  have hzl : z.data.toList = SealT s h.data.toList (MixT s (t.data.toList.take k)) := by rw [← hz]
  rw [← hzl] at hop'
  rw [hu] at hmix
  rw [hu]
  rw [hz] at hseal
  have HMIX : Hid (∀ W', Calls Try.prog 21 #[.agg (Cells8 s), .string (t.extract 0 k)] W' fun e w' => e = .returned (.string u) ∧ Below W'.heap.size W' w') := hmix
  have HSEAL : Hid (∀ W', Calls Try.prog 10 #[.agg (Cells8 s), .string h, .string u] W' fun e w' => e = .returned (.string z) ∧ Below W'.heap.size W' w') := hseal
  have HOP : Hid ((z.data.toList == t.data.toList) = OpenOk s h.data.toList t.data.toList) := hop'
  clear hmix hseal hop hop' hzl hz hul hu hcut0 hcs hlen
  go_enter Try.func12, Try.ntmps12
  go_upto_region 4 with fail
  go_cut [9] (fun s9 wx => s9 = .string u ∧ Below w.heap.size w wx ∧ wx.heap[w.heap.size]? = some (.cells (Cells8 s) 23 (0, 0)) ∧ w.heap.size + 1 ≤ wx.heap.size)
  case first =>
    go_region_with (go_at_call 21; refine (HMIX.out _).mono ?_; rintro e w1 ⟨rfl, hb1⟩)
    all_goals
      go_wp2_with fail
      go_meet
      have hw0 := (((Below.refl _ w).alloc (Nat.le_refl _) (.cells (Cells8 s) 23)).drew).trans (hb1.mono (by show w.heap.size ≤ (w.alloc _).heap.size; simp))
      exact ⟨rfl, hw0, by rw [hb1.block _ (by show w.heap.size < (w.alloc _).heap.size; simp)]; exact (MapKept.heap_alloc _ _).1, by have := hb1.size; simpa using this⟩
  case rest =>
    obtain ⟨rfl, belc, hkeyc, hszc⟩ := hcut
    go_wp2_with (refine wpList_load_row rfl 23 _ rfl w.heap.size rfl 23 (Cells8 s) (0, 0) _ hkeyc Try.underlying23 rfl (by kernel_rfl) ?_)
    refine (HSEAL.out _).mono ?_
    rintro e w2 ⟨rfl, hb2⟩
    have bel2 : Below w.heap.size w w2 := belc.trans (hb2.mono (by omega))
    have hzt : (z.toList == t.toList) = OpenOk s h.data.toList t.data.toList := by rw [ByteArray.toList_eq, ByteArray.toList_eq]; exact HOP.out
    cases hok : OpenOk s h.data.toList t.data.toList with
    | false =>
      rw [hok] at hzt
      have HK : Hid (OpenOk s h.data.toList t.data.toList = false) := hok
      clear hok
      go_wp2
      go_ret2
      exact ⟨bel2, .inl ⟨HK.out, rfl⟩⟩
    | true =>
      rw [hok] at hzt
      have HK : Hid (OpenOk s h.data.toList t.data.toList = true) := hok
      clear hok
      go_wp2
      go_ret2
      exact ⟨bel2, .inr ⟨HK.out, rfl⟩⟩
end Go.Proofs.Ytkpebabbnndopaa
