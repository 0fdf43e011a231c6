import Derived.Test.YtkpebabbnndopaaMixed
import Derived.Test.YtkpebabbnndopaaRefSum
import Derived.Test.YtkpebabbnndopaaPureT
import Derived.WalkKit
import Derived.WalkSpells
import Derived.WalkLawsBesides
import Derived.Deep.DeepCutAuto
import Derived.BigRegion
namespace Go.Proofs.Ytkpebabbnndopaa
open Go.RowKit

set_option maxHeartbeats 400000 in
theorem refSeal_any (s : Nat → Int) (hs : ∀ i, 0 ≤ s i ∧ s i < 256) (h t : ByteArray) (hh : h.size ≤ 1000000) (ht : t.size ≤ 1000000) (w : World) :
    Calls Try.prog 10 #[Agg8 s, .string h, .string t] w fun e w' => e = .returned (.string ⟨(SealT s h.data.toList t.data.toList).toArray⟩) ∧ Below w.heap.size w w' := by
  go_enter Try.func10, Try.ntmps10
  go_wp2_with fail
  refine (mixed_any s hs t ht _).mono ?_
  rintro e w1 ⟨rfl, hb1⟩
  have bel1 : Below w.heap.size w w1 := ((Below.refl _ w).alloc (Nat.le_refl _) _).trans (hb1.mono (by simp))
  have hsz1 : w.heap.size + 1 ≤ w1.heap.size := by have := hb1.size; simpa using this
  have hkey1 : w1.heap[w.heap.size]? = some (.cells (Cells8 s) 23 (0, 0)) := by rw [hb1.block _ (by simp)]; exact (MapKept.heap_alloc _ _).1
  obtain ⟨u, hu⟩ : ∃ u : ByteArray, ⟨(MixT s t.data.toList).toArray⟩ = u := ⟨_, rfl⟩
  have hul : u.data.toList = MixT s t.data.toList := by rw [← hu]
  have hus : u.size = t.size := by
    have e1 : u.size = u.data.toList.length := by simp
    rw [e1, hul, MixT_length]; simp
  rw [hu]
  have HU : Hid (u.data.toList = MixT s t.data.toList) := hul
  clear hu hul hb1
  go_wp2_with fail
  refine (refSum_any h u hh (by omega) _).mono ?_
  rintro e w2 ⟨rfl, rfl⟩
  rw [HU.out]
  obtain ⟨T, hT, hder⟩ : ∃ T : Nat → Int, T = Tag s h.data.toList (MixT s t.data.toList) ∧ Calls Try.prog 8 #[.agg (Cells8 s), .string ⟨#[116, 97, 103]⟩, .int .i64 (TagN (SumAll h.data.toList (MixT s t.data.toList)))] w2 fun e w' => e = .returned (Agg8 T) ∧ Below w2.heap.size w2 w' :=
    ⟨_, rfl, refDerive_any s hs ⟨#[116, 97, 103]⟩ (by decide) _ w2⟩
  generalize TagN (SumAll h.data.toList (MixT s t.data.toList)) = N at *
  have HT : Hid (T = Tag s h.data.toList (MixT s t.data.toList)) := hT
  have hTb : ∀ i, 0 ≤ T i ∧ T i < 256 := fun i => by rw [hT]; exact Tag_bd _ _ _ _
  have HDE : Hid (Calls Try.prog 8 #[.agg (Cells8 s), .string ⟨#[116, 97, 103]⟩, .int .i64 N] w2 fun e w' => e = .returned (Agg8 T) ∧ Below w2.heap.size w2 w') := hder
  clear hT hder
  go_wp2_with (refine wpList_load_row rfl 23 _ rfl w.heap.size rfl 23 (Cells8 s) (0, 0) _ hkey1 Try.underlying23 rfl (by kernel_rfl) ?_)
  refine HDE.out.mono ?_
  rintro e w3 ⟨rfl, hb3⟩
  have bel3 : Below w.heap.size w w3 := bel1.trans (hb3.mono (by omega))
  have hsz3 := hb3.size
  have hcv : ∀ c, (convert 27 9 (.slice (some ⟨w3.heap.size, 0, none⟩) 4 c)).run Try.prog (w3.alloc (.cells (Cells8 T) 23)) = .ok (.string ⟨(TagB T).toArray⟩) (w3.alloc (.cells (Cells8 T) 23)) := fun c =>
    run_convert_bytes_back (w3.alloc (.cells (Cells8 T) 23)) 27 9 5 ⟨w3.heap.size, 0, none⟩ c (TagB T) Try.underlying27 Try.underlying5 Try.underlying9 (fun j hj => by
      have ea : (⟨w3.heap.size, 0, none⟩ : Addr).add j = ⟨w3.heap.size, j, none⟩ := by unfold Addr.add; split <;> simp_all
      have hj4 : j < 4 := hj
      rw [ea, cell_of_row _ _ _ _ _ _ (MapKept.heap_alloc w3 (.cells (Cells8 T) 23)).1, Cells8_at _ _ (by omega)]
      exact congrArg some (TagB_at T hTb j hj))
  obtain ⟨v, hv⟩ : ∃ v : ByteArray, ⟨(TagB T).toArray⟩ = v := ⟨_, rfl⟩
  have hvs : v.size ≤ 4 := by rw [← hv]; exact Nat.le_refl 4
  have hus2 : u.size ≤ 1000000 := by omega
  have HV : Hid ((⟨(TagB T).toArray⟩ : ByteArray) = v) := hv
  rw [hv] at hcv
  clear hv
  go_wp2
  go_ret
  refine ⟨?_, bel3.alloc (by omega) _⟩
  have e : u ++ v = ⟨(SealT s h.data.toList t.data.toList).toArray⟩ := by
    apply ByteArray.ext
    apply Array.ext'
    rw [ByteArray.data_append, Array.toList_append, HU.out, ← HV.out]
    unfold SealT
    rw [HT.out]
  show Ending.returned (Value.string (u ++ v)) = _
  rw [e]
end Go.Proofs.Ytkpebabbnndopaa
