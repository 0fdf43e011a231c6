/- Seal, Open and the document's, in the form that the law asks for. -/
import Derived.Test.YtkpebabbnndopaaCv
import Derived.Test.YtkpebabbnndopaaSealE
import Derived.Test.YtkpebabbnndopaaOpenE
import Derived.Test.YtkpebabbnndopaaRefOpen
import Derived.Laws.BytesArg
namespace Go.Proofs.Ytkpebabbnndopaa
open Go.RowKit

theorem open_any (s : Nat → Int) (hs : ∀ i, 0 ≤ s i ∧ s i < 256) (a : Option Addr) (l : List UInt8) (c : Nat) (hl : l.length ≤ 1000000) (b : Option Addr) (x : List UInt8) (d : Nat) (hx : x.length ≤ 900000) (hd : x.length ≤ d) (w : World) (ha : Bts w a l) (hb : Bts w b x) :
    Calls Try.prog 11 #[Agg8 s, .slice a l.length c, .slice b x.length d] w fun e w' => Below w.heap.size w w' ∧ ∃ p n q, e = .returned (.tuple #[.slice p n q, .bool (OpenOk s l x)]) ∧ Cv w' (.slice p n q) (Opened s l x) := by
  by_cases h4 : x.length < 4
  · have hok : OpenOk s l x = false := by unfold OpenOk; simp; omega
    refine (open_short s a l c b x.length d h4 w).mono ?_
    rintro e w' ⟨rfl, hbel⟩
    refine ⟨hbel, none, 0, 0, by rw [hok], ?_⟩
    unfold Opened
    rw [hok]
    exact cv_of_bts (a := none) (l := []) 0 (.inl rfl)
  · obtain ⟨k, hk⟩ : ∃ k, x.length = k + 4 := ⟨x.length - 4, by omega⟩
    rcases hb with h0 | ⟨bb, bo, rfl, hc⟩
    · rw [h0] at h4; simp at h4
    · have h := open_long s hs a l c hl bb bo k d x hk (by omega) (by omega) w ha hc
      rw [← hk] at h
      refine h.mono ?_
      rintro e w' ⟨hbel, ⟨hok, rfl⟩ | ⟨hok, g, rfl, hg, hrow⟩⟩
      · refine ⟨hbel, none, 0, 0, by rw [hok], ?_⟩
        unfold Opened
        rw [hok]
        exact cv_of_bts (a := none) (l := []) 0 (.inl rfl)
      · refine ⟨hbel, some ⟨g, 0, none⟩, k, k, by rw [hok], ?_⟩
        unfold Opened
        rw [hok]
        have hlen : (OpenT s x).length = k := by unfold OpenT; rw [MixT_length, List.length_take]; omega
        have hcv := cv_of_bts k (bts_of_row hrow)
        rw [hlen] at hcv
        exact hcv

theorem seal_cv (s : Nat → Int) (hs : ∀ i, 0 ≤ s i ∧ s i < 256) (a : Option Addr) (l : List UInt8) (c : Nat) (hl : l.length ≤ 1000000) (b : Option Addr) (m : List UInt8) (d : Nat) (hm : m.length ≤ 1000000) (w : World) (ha : Bts w a l) (hb : Bts w b m) :
    Calls Try.prog 9 #[Agg8 s, .slice a l.length c, .slice b m.length d] w fun e w' => Below w.heap.size w w' ∧ ∃ p cap, e = .returned (.slice p (m.length + 4) cap) ∧ m.length + 4 ≤ cap ∧ Bts w' p (SealT s l m) :=
  (seal_any s hs a l c hl b m d hm w ha hb).mono fun _ _ ⟨g, cap, he, hcap, _, hbel, hrow⟩ => ⟨hbel, some ⟨g, 0, none⟩, cap, he, hcap, bts_of_row hrow⟩

end Go.Proofs.Ytkpebabbnndopaa
