import Derived.Test.YtkpebabbnndopaaGreatDoorRows
import Derived.Test.YtkpebabbnndopaaGreatDoorC03
import Derived.Test.YtkpebabbnndopaaGreatDoorC13
import Derived.Test.YtkpebabbnndopaaGreatDoorC07
import Derived.Test.YtkpebabbnndopaaGreatDoorG07
import Derived.WalkKit
import Derived.WalkSpells
import Derived.WalkLawsBesides
import Derived.ProofKit
import Derived.OpenShut
import Derived.ShutString
import Derived.Test.YtkpebabbnndopaaGreatDoorG20
import Derived.Test.YtkpebabbnndopaaGreatDoorG24
import Derived.Deep.DeepCutAuto
import Derived.BigRegion
import Derived.Laws.CopyRow
import Derived.Deep.WholeRow
import Derived.Laws.BytesArg
import Derived.Test.YtkpebabbnndopaaGreatDoorC08
import Derived.Deep.LoopGhost
import Derived.Test.YtkpebabbnndopaaGreatDoorC05
import Derived.Test.YtkpebabbnndopaaGreatDoorN04
import Derived.Test.YtkpebabbnndopaaGreatDoorH36
import Derived.Test.YtkpebabbnndopaaGreatDoorCards
import Derived.Test.YtkpebabbnndopaaGreatDoorTie
import Derived.SevenTiedAt
import Derived.Carry
/- Derives: P3, at every secret, label and number. -/
namespace Go.Proofs.YtkpebabbnndopaaGreatDoor.derives
open Go.ChangeShapes Go.WideShapes Go.ChangeAt Go.RowKit
open Go.ChangeMaps (open_string shut_string)
set_option linter.unusedVariables false

theorem bcell {W w1 : World} (hb : Below W.heap.size W w1) : (∀ b o, b < W.heap.size → w1.cell? ⟨b, o, none⟩ = W.cell? ⟨b, o, none⟩) ∧ (∀ b o, b < W.heap.size → w1.frozen? ⟨b, o, none⟩ = W.frozen? ⟨b, o, none⟩) :=
  ⟨fun b o h => hb.cell (p := ⟨b, o, none⟩) h, fun b o h => hb.frozen (p := ⟨b, o, none⟩) h⟩

theorem own : ownKnob Tryz.prog.godebug = none := by kernel_rfl

set_option maxRecDepth 20000 in
theorem walk (a0 : ByteArray) (a1 : ByteArray) (a2 : Int) (w0 : a0.size ≤ maxLen) (hw1 : a1.size ≤ maxLen) (w2 : (Lit.int .i64 a2).wf = true) (w : World) :
    Calls Tryz.prog 13 #[.string a0, .string a1, .int .i64 a2] w fun e w' => e = .returned (.bool true) ∧ Below w.heap.size w w' := by
  by_cases hbig : 65536 < a1.size
  · go_enter Tryz.func13, Tryz.ntmps13
    go_wp2_with fail
    go_ret
    exact ⟨rfl, Below.refl _ _⟩
  · go_enter Tryz.func13, Tryz.ntmps13
    go_wp2_with fail
    refine (secret_any a0 _).mono ?_
    rintro e w1 ⟨rfl, rfl⟩
    go_wp2_with fail
    refine (derive_any _ (SecL_bd _) a1 hw1 a2 _).mono ?_
    rintro e w2 ⟨rfl, hb2⟩
    go_wp2_with fail
    refine (secret_any a0 _).mono ?_
    rintro e w3 ⟨rfl, rfl⟩
    go_wp2_with fail
    refine (refDerive_any _ (SecL_bd _) a1 hw1 a2 _).mono ?_
    rintro e w4 ⟨rfl, hb4⟩
    have hb2' : Below w.heap.size w w2 := (((Below.refl _ w).alloc (Nat.le_refl _) _).alloc (by simp) _).trans (hb2.mono (by simp; omega))
    have hsz2 := hb2'.size
    clear hb2
    generalize DerB (SecL a0.data.toList) a1.data.toList a2 = D at *
    have hsz4 : w2.heap.size < w4.heap.size := by have := hb4.size; simp at this; omega
    have hg2 : (w4.alloc (.cells (Cells8 D) 51)).heap[w2.heap.size]? = some (.cells (Cells8 D) 51 (0, 0)) := by
      rw [Below.heap_alloc _ _ _ hsz4, hb4.block _ (by simp; omega), Below.heap_alloc _ _ _ (by simp; omega), Below.heap_alloc _ _ _ (by simp), (MapKept.heap_alloc _ _).1]
    have hg4 : (w4.alloc (.cells (Cells8 D) 51)).heap[w4.heap.size]? = some (.cells (Cells8 D) 51 (0, 0)) := (MapKept.heap_alloc _ _).1
    have hb4' : Below w.heap.size w w4 := (((hb2'.alloc hsz2 _).alloc (by simp; omega) _).alloc (by simp; omega) _).trans (hb4.mono (by simp; omega))
    clear hb4 hb2'
    have heq := eqlB (D 0) (D 1) (D 2) (D 3) (D 4) (D 5) (D 6) (D 7) (w4.alloc (.cells (Cells8 D) 51))
    go_wp2_with (first | refine wpList_load_row rfl 51 _ rfl w2.heap.size rfl 51 (Cells8 D) (0, 0) _ hg2 Tryz.underlying51 rfl (by kernel_rfl) ?_ | refine wpList_load_row rfl 51 _ rfl w4.heap.size rfl 51 (Cells8 D) (0, 0) _ hg4 Tryz.underlying51 rfl (by kernel_rfl) ?_ | refine wpList_cmp_agg rfl .eql 51 51 _ _ rfl (Cells8 D) (Cells8 D) rfl rfl Tryz.eqGuardType51 true heq ?_)
    go_ret
    exact ⟨rfl, hb4'.alloc (by omega) _⟩
end Go.Proofs.YtkpebabbnndopaaGreatDoor.derives

/- Seal. -/
namespace Go.Proofs.YtkpebabbnndopaaGreatDoor
open Go.RowKit

theorem seal_any (s : Nat → Int) (hs : ∀ i, 0 ≤ s i ∧ s i < 256) (a : Option Addr) (l : List UInt8) (c : Nat) (hl : l.length ≤ 1000000) (b : Option Addr) (m : List UInt8) (d : Nat) (hm : m.length ≤ 1000000) (w : World) (ha : Bts w a l) (hb : Bts w b m) :
    Calls Tryz.prog 32 #[Agg8 s, .slice a l.length c, .slice b m.length d] w fun e w' => ∃ g cap, e = .returned (.slice (some ⟨g, 0, none⟩) (m.length + 4) cap) ∧ m.length + 4 ≤ cap ∧ w.heap.size ≤ g ∧ Below w.heap.size w w' ∧
      w'.heap[g]? = some (.cells (RowB (SealT s l m) cap) 5 (0, 0)) := by
  have bel0 : Below w.heap.size w (w.alloc (.cells (Cells8 s) 51)) := (Below.refl _ w).alloc (Nat.le_refl _) _
  have HS : Hid (Calls Tryz.prog 74 #[Agg8 s, .slice a l.length c, .slice b m.length d, .func (.func 30) #[] #[]] (w.alloc (.cells (Cells8 s) 51)) fun e w' => ∃ g cap, e = .returned (.slice (some ⟨g, 0, none⟩) (m.length + 4) cap) ∧ m.length + 4 ≤ cap ∧ (w.alloc (.cells (Cells8 s) 51)).heap.size ≤ g ∧ Tick none ((m.length + 7) / 8 + 1) (w.alloc (.cells (Cells8 s) 51)) w' ∧
      w'.heap[g]? = some (.cells (RowB (SealT s l m) cap) 5 (0, 0))) := seal_d drv_plain s hs a l c hl b m d hm _ (ha.below bel0) (hb.below bel0) (has_none _) (fun _ _ _ => by simp) (fun _ _ _ => by simp)
  clear ha hb hs
  go_enter Tryz.func32, Tryz.ntmps32
  go_wp2_with fail
  refine HS.out.mono ?_
  rintro e w1 ⟨g, cap, rfl, h1, h2, h3, h4⟩
  have h3' : Below w.heap.size w w1 := bel0.trans (h3.toBelow.mono (by simp))
  simp only [World.size_alloc] at h2
  clear h3 bel0
  go_wp2_with fail
  go_ret
  exact ⟨g, cap, rfl, h1, by omega, h3', h4⟩
end Go.Proofs.YtkpebabbnndopaaGreatDoor

/- Open. -/
namespace Go.Proofs.YtkpebabbnndopaaGreatDoor
open Go.RowKit

theorem open_short (s : Nat → Int) (a : Option Addr) (l : List UInt8) (c : Nat) (b : Option Addr) (n : Nat) (d : Nat) (hn : n < 4) (w : World) :
    Calls Tryz.prog 34 #[Agg8 s, .slice a l.length c, .slice b n d] w fun e w' => e = .returned (.tuple #[.slice none 0 0, .bool false]) ∧ Below w.heap.size w w' := by
  have HS : Hid (∀ W, Calls Tryz.prog 77 #[Agg8 s, .slice a l.length c, .slice b n d, .func (.func 30) #[] #[]] W fun e w' => e = .returned (.tuple #[.slice none 0 0, .bool false]) ∧ Below W.heap.size W w') := fun W => open_short_d _ s a l c b n d hn W
  go_enter Tryz.func34, Tryz.ntmps34
  go_wp2_with fail
  refine (HS.out _).mono ?_
  rintro e w1 ⟨rfl, h1⟩
  have h1' : Below w.heap.size w w1 := ((Below.refl _ w).alloc (Nat.le_refl _) _).trans (h1.mono (by simp))
  clear h1
  go_wp2_with fail
  go_ret2
  exact ⟨rfl, h1'⟩
set_option maxHeartbeats 400000 in
theorem open_long (s : Nat → Int) (hs : ∀ i, 0 ≤ s i ∧ s i < 256) (a : Option Addr) (l : List UInt8) (c : Nat) (hl : l.length ≤ 1000000) (bb bo k d : Nat) (x : List UInt8) (hx : x.length = k + 4) (hk : k ≤ 1000000) (hd : k + 4 ≤ d) (w : World)
    (ha : Bts w a l) (hc : ∀ i (h : i < x.length), w.cell? ⟨bb, bo + i, none⟩ = some (cellB x[i])) :
    Calls Tryz.prog 34 #[Agg8 s, .slice a l.length c, .slice (some ⟨bb, bo, none⟩) (k + 4) d] w fun e w' => Below w.heap.size w w' ∧ ((OpenOk s l x = false ∧ e = .returned (.tuple #[.slice none 0 0, .bool false])) ∨ (OpenOk s l x = true ∧ ∃ g, e = .returned (.tuple #[.slice (some ⟨g, 0, none⟩) k k, .bool true]) ∧ w.heap.size ≤ g ∧ w'.heap[g]? = some (.cells (RowB (OpenT s x) k) 5 (0, 0)))) := by
  have hbb : bb < w.heap.size := block_lt_of_cell (hc 0 (by omega))
  have bel0 : Below w.heap.size w (w.alloc (.cells (Cells8 s) 51)) := (Below.refl _ w).alloc (Nat.le_refl _) _
  have HS : Hid (Calls Tryz.prog 77 #[Agg8 s, .slice a l.length c, .slice (some ⟨bb, bo, none⟩) (k + 4) d, .func (.func 30) #[] #[]] (w.alloc (.cells (Cells8 s) 51)) fun e w' => (∃ n, (0 < n ∧ n ≤ (k + 7) / 8 + 1) ∧ Tick none n (w.alloc (.cells (Cells8 s) 51)) w') ∧ ((OpenOk s l x = false ∧ e = .returned (.tuple #[.slice none 0 0, .bool false])) ∨ (OpenOk s l x = true ∧ ∃ g, e = .returned (.tuple #[.slice (some ⟨g, 0, none⟩) k k, .bool true]) ∧ (w.alloc (.cells (Cells8 s) 51)).heap.size ≤ g ∧ w'.heap[g]? = some (.cells (RowB (OpenT s x) k) 5 (0, 0))))) :=
    open_long_d drv_plain s hs a l c hl bb bo k d x hx hk hd _ (ha.below bel0) (fun i h => by rw [bel0.cell (p := ⟨bb, bo + i, none⟩) hbb]; exact hc i h) (has_none _) (fun _ _ _ => by simp) (by simp)
  clear ha hc hs
  go_enter Tryz.func34, Tryz.ntmps34
  go_wp2_with fail
  refine HS.out.mono ?_
  rintro e w1 ⟨⟨n, hn, h1⟩, ⟨h2, rfl⟩ | ⟨h2, g, rfl, h3, h4⟩⟩
  · have h1' : Below w.heap.size w w1 := bel0.trans (h1.toBelow.mono (by simp))
    clear h1 bel0
    go_wp2_with fail
    go_ret2
    exact ⟨h1', .inl ⟨h2, rfl⟩⟩
  · have h1' : Below w.heap.size w w1 := bel0.trans (h1.toBelow.mono (by simp))
    simp only [World.size_alloc] at h3
    clear h1 bel0
    go_wp2_with fail
    go_ret2
    exact ⟨h1', .inr ⟨h2, g, rfl, by omega, h4⟩⟩
end Go.Proofs.YtkpebabbnndopaaGreatDoor

/- Seal, Open and the document's, in the form that the law asks for. -/
namespace Go.Proofs.YtkpebabbnndopaaGreatDoor
open Go.RowKit

theorem open_any (s : Nat → Int) (hs : ∀ i, 0 ≤ s i ∧ s i < 256) (a : Option Addr) (l : List UInt8) (c : Nat) (hl : l.length ≤ 1000000) (b : Option Addr) (x : List UInt8) (d : Nat) (hx : x.length ≤ 900000) (hd : x.length ≤ d) (w : World) (ha : Bts w a l) (hb : Bts w b x) :
    Calls Tryz.prog 34 #[Agg8 s, .slice a l.length c, .slice b x.length d] w fun e w' => Below w.heap.size w w' ∧ ∃ p n q, e = .returned (.tuple #[.slice p n q, .bool (OpenOk s l x)]) ∧ Cv w' (.slice p n q) (Opened s l x) := by
  by_cases h4 : x.length < 4
  · have hok : OpenOk s l x = false := by unfold OpenOk; simp; omega
    refine (open_short s a l c b x.length d h4 w).mono ?_
    rintro e w' ⟨rfl, hbel⟩
    refine ⟨hbel, none, 0, 0, by rw [hok], ?_⟩
    unfold Opened
    rw [hok]
    exact cv_of_bts (a := none) (l := []) 0 (.inl rfl)
  · obtain ⟨k, hk⟩ : ∃ k, x.length = k + 4 := ⟨x.length - 4, by omega⟩
    rcases hb with h0 | ⟨bb, bo, rfl, hc⟩
    · rw [h0] at h4; simp at h4
    · have h := open_long s hs a l c hl bb bo k d x hk (by omega) (by omega) w ha hc
      rw [← hk] at h
      refine h.mono ?_
      rintro e w' ⟨hbel, ⟨hok, rfl⟩ | ⟨hok, g, rfl, hg, hrow⟩⟩
      · refine ⟨hbel, none, 0, 0, by rw [hok], ?_⟩
        unfold Opened
        rw [hok]
        exact cv_of_bts (a := none) (l := []) 0 (.inl rfl)
      · refine ⟨hbel, some ⟨g, 0, none⟩, k, k, by rw [hok], ?_⟩
        unfold Opened
        rw [hok]
        have hlen : (OpenT s x).length = k := by unfold OpenT; rw [MixT_length, List.length_take]; omega
        have hcv := cv_of_bts k (bts_of_row hrow)
        rw [hlen] at hcv
        exact hcv

theorem seal_cv (s : Nat → Int) (hs : ∀ i, 0 ≤ s i ∧ s i < 256) (a : Option Addr) (l : List UInt8) (c : Nat) (hl : l.length ≤ 1000000) (b : Option Addr) (m : List UInt8) (d : Nat) (hm : m.length ≤ 1000000) (w : World) (ha : Bts w a l) (hb : Bts w b m) :
    Calls Tryz.prog 32 #[Agg8 s, .slice a l.length c, .slice b m.length d] w fun e w' => Below w.heap.size w w' ∧ ∃ p cap, e = .returned (.slice p (m.length + 4) cap) ∧ m.length + 4 ≤ cap ∧ Bts w' p (SealT s l m) :=
  (seal_any s hs a l c hl b m d hm w ha hb).mono fun _ _ ⟨g, cap, he, hcap, _, hbel, hrow⟩ => ⟨hbel, some ⟨g, 0, none⟩, cap, he, hcap, bts_of_row hrow⟩

end Go.Proofs.YtkpebabbnndopaaGreatDoor

/- Seals: P4, at every key, head, text and bytes. -/
namespace Go.Proofs.YtkpebabbnndopaaGreatDoor.seals
open Go.ChangeShapes Go.WideShapes Go.ChangeAt Go.RowKit
open Go.ChangeMaps (open_string shut_string)
set_option linter.unusedVariables false

theorem own : ownKnob Tryz.prog.godebug = none := by kernel_rfl

set_option maxHeartbeats 1000000 in
theorem walk_big (a0 a1 a2 a3 : ByteArray) (hbig : 65536 < a1.size ∨ 65536 < a2.size ∨ 65536 < a3.size) (w : World) :
    Calls Tryz.prog 14 #[.string a0, .string a1, .string a2, .string a3] w fun e w' => e = .returned (.bool true) ∧ Below w.heap.size w w' := by
  by_cases h1 : 65536 < a1.size
  · have d1 : decide (65536 < (a1.size : Int)) = true := by simp; omega
    go_enter Tryz.func14, Tryz.ntmps14
    go_wp2_with fail
    go_ret
    exact ⟨rfl, Below.refl _ _⟩
  · have d1 : decide (65536 < (a1.size : Int)) = false := by simp; omega
    by_cases h2 : 65536 < a2.size
    · have d2 : decide (65536 < (a2.size : Int)) = true := by simp; omega
      go_enter Tryz.func14, Tryz.ntmps14
      go_wp2_with fail
      go_ret
      exact ⟨rfl, Below.refl _ _⟩
    · have d2 : decide (65536 < (a2.size : Int)) = false := by simp; omega
      have d3 : decide (65536 < (a3.size : Int)) = true := by simp; omega
      go_enter Tryz.func14, Tryz.ntmps14
      go_wp2_with fail
      go_ret
      exact ⟨rfl, Below.refl _ _⟩

set_option maxHeartbeats 1000000 in
theorem walk_small (a0 a1 a2 a3 : ByteArray) (h1 : a1.size ≤ 65536) (h2 : a2.size ≤ 65536) (h3 : a3.size ≤ 65536) (w : World) :
    Calls Tryz.prog 14 #[.string a0, .string a1, .string a2, .string a3] w fun e w' => e = .returned (.bool true) ∧ Below w.heap.size w w' := by
  have d1 : decide (65536 < (a1.size : Int)) = false := by simp; omega
  have d2 : decide (65536 < (a2.size : Int)) = false := by simp; omega
  have d3 : decide (65536 < (a3.size : Int)) = false := by simp; omega
  have e1 : a1.data.toList.length = a1.size := by simp
  have e2 : a2.data.toList.length = a2.size := by simp
  have e3 : a3.data.toList.length = a3.size := by simp
  have hk := SecL_bd a0.data.toList
  obtain ⟨s, hs⟩ : ∃ s, SecL a0.data.toList = s := ⟨_, rfl⟩
  rw [hs] at hk
  have HS : Hid (SecL a0.data.toList = s) := hs
  clear hs
  have HSEC : Hid (∀ W, Calls Tryz.prog 26 #[.string a0] W fun e w' => e = .returned (Agg8 s) ∧ Below W.heap.size W w') := by
    intro W
    have h := secret_below a0 W
    rw [HS.out] at h
    exact h
  go_enter Tryz.func14, Tryz.ntmps14
  go_wp2_with (first
    | (refine wpList_bytes rfl _ rfl a1 rfl ?_; intro cap1 W1 hcap1 b1 z1 B1)
    | (refine wpList_bytes rfl _ rfl a2 rfl ?_; intro cap2 W2 hcap2 b2 z2 B2)
    | (refine wpList_bytes rfl _ rfl a3 rfl ?_; intro cap3 W3 hcap3 b3 z3 B3))
  rw [z1] at B2
  rw [z2, z1] at B3
  have bel3 : Below w.heap.size w W3 := b1.trans ((b2.trans (b3.mono (by omega))).mono (by omega))
  have A1 : Bts W3 (some ⟨w.heap.size, 0, none⟩) a1.data.toList := (B1.below b2).below b3
  have A2 : Bts W3 (some ⟨w.heap.size + 1, 0, none⟩) a2.data.toList := B2.below b3
  have HSEAL : Hid (∀ W, Below W3.heap.size W3 W → Calls Tryz.prog 32 #[Agg8 s, .slice (some ⟨w.heap.size, 0, none⟩) a1.size cap1, .slice (some ⟨w.heap.size + 1, 0, none⟩) a2.size cap2] W fun e w' => Below W.heap.size W w' ∧ ∃ p cap, e = .returned (.slice p (a2.size + 4) cap) ∧ a2.size + 4 ≤ cap ∧ Bts w' p (SealT s a1.data.toList a2.data.toList)) := by
    intro W hW
    have h := seal_cv s hk (some ⟨w.heap.size, 0, none⟩) a1.data.toList cap1 (by omega) (some ⟨w.heap.size + 1, 0, none⟩) a2.data.toList cap2 (by omega) W (A1.below hW) (A2.below hW)
    rw [e1, e2] at h
    exact h
  obtain ⟨ok, hok⟩ : ∃ ok, OpenOk s a1.data.toList a3.data.toList = ok := ⟨_, rfl⟩
  obtain ⟨zo, hzo⟩ : ∃ zo, Opened s a1.data.toList a3.data.toList = zo := ⟨_, rfl⟩
  have HOPEN : Hid (∀ W, Below W3.heap.size W3 W → Calls Tryz.prog 34 #[Agg8 s, .slice (some ⟨w.heap.size, 0, none⟩) a1.size cap1, .slice (some ⟨w.heap.size + 1 + 1, 0, none⟩) a3.size cap3] W fun e w' => Below W.heap.size W w' ∧ ∃ p n q, e = .returned (.tuple #[.slice p n q, .bool ok]) ∧ Cv w' (.slice p n q) zo) := by
    intro W hW
    have h := open_any s hk (some ⟨w.heap.size, 0, none⟩) a1.data.toList cap1 (by omega) (some ⟨w.heap.size + 1 + 1, 0, none⟩) a3.data.toList cap3 (by omega) (by omega) W (A1.below hW) (B3.below hW)
    rw [e1, e3, hok, hzo] at h
    exact h
  have HREFO : Hid (∀ W, Calls Tryz.prog 35 #[Agg8 s, .string a1, .string a3] W fun e w' => Below W.heap.size W w' ∧ e = .returned (.tuple #[.string zo, .bool ok])) := by
    intro W
    have h := refOpen_any s hk a1 a3 (by omega) (by omega) W
    rw [hok, hzo] at h
    exact h
  obtain ⟨y, hy⟩ : ∃ y : ByteArray, ⟨(SealT s a1.data.toList a2.data.toList).toArray⟩ = y := ⟨_, rfl⟩
  have HREFS : Hid (∀ W, Calls Tryz.prog 33 #[Agg8 s, .string a1, .string a2] W fun e w' => e = .returned (.string y) ∧ Below W.heap.size W w') := by
    intro W
    have h := refSeal_any s hk a1 a2 (by omega) (by omega) W
    rw [hy] at h
    exact h
  have HOPX : Hid (∀ W p cap, Below W3.heap.size W3 W → a2.size + 4 ≤ cap → Bts W p (SealT s a1.data.toList a2.data.toList) → Calls Tryz.prog 34 #[Agg8 s, .slice (some ⟨w.heap.size, 0, none⟩) a1.size cap1, .slice p (a2.size + 4) cap] W fun e w' => Below W.heap.size W w' ∧ ∃ p n q, e = .returned (.tuple #[.slice p n q, .bool true]) ∧ Cv w' (.slice p n q) a2) := by
    intro W p cap hW hcap hp
    have hsl : (SealT s a1.data.toList a2.data.toList).length = a2.size + 4 := by rw [SealT_length, e2]
    have h := open_any s hk (some ⟨w.heap.size, 0, none⟩) a1.data.toList cap1 (by omega) p (SealT s a1.data.toList a2.data.toList) cap (by omega) (by omega) W (A1.below hW) hp
    have ho := seal_open s a1.data.toList a2.data.toList
    have hoz : Opened s a1.data.toList (SealT s a1.data.toList a2.data.toList) = a2 := by
      unfold Opened
      rw [ho.1, ho.2]
      rfl
    rw [e1, hsl, ho.1, hoz] at h
    exact h
  have CH : Hid (Cv W3 (.slice (some ⟨w.heap.size, 0, none⟩) a1.size cap1) a1) := by have h := cv_of_bts cap1 A1; rw [e1] at h; exact h
  have CT : Hid (Cv W3 (.slice (some ⟨w.heap.size + 1, 0, none⟩) a2.size cap2) a2) := by have h := cv_of_bts cap2 A2; rw [e2] at h; exact h
  have CB : Hid (Cv W3 (.slice (some ⟨w.heap.size + 1 + 1, 0, none⟩) a3.size cap3) a3) := by have h := cv_of_bts cap3 B3; rw [e3] at h; exact h
  have HCX : Hid (∀ W p cap, Bts W p (SealT s a1.data.toList a2.data.toList) → Cv W (.slice p (a2.size + 4) cap) y) := by
    intro W p cap hp
    have hsl : (SealT s a1.data.toList a2.data.toList).length = a2.size + 4 := by rw [SealT_length, e2]
    have h := cv_of_bts cap hp
    rw [hsl, hy] at h
    exact h
  clear z1 z2 z3 b1 b2 b3 B1 B2 B3 A1 A2 hok hzo hy e1 e2 e3 hcap1 hcap2 hcap3
  refine (HSEC.out _).mono ?_
  rintro e w1 ⟨rfl, c1⟩
  go_wp2_with fail
  refine (HSEAL.out _ c1).mono ?_
  rintro e w2 ⟨c2, p, capx, rfl, hcapx, X⟩
  have C2 := c1.trans (c2.mono c1.size)
  clear c1 c2
  go_wp2_with fail
  refine (HSEC.out _).mono ?_
  rintro e w3 ⟨rfl, c3⟩
  have X3 := X.below c3
  have C3 := C2.trans (c3.mono C2.size)
  clear X C2 c3
  go_wp2_with fail
  refine (HREFS.out _).mono ?_
  rintro e w4 ⟨rfl, c4⟩
  have X4 := X3.below c4
  have C4 := C3.trans (c4.mono C3.size)
  clear X3 C3 c4
  go_wp2_with fail
  refine (HSEC.out _).mono ?_
  rintro e w5 ⟨rfl, c5⟩
  have X5 := X4.below c5
  have C5 := C4.trans (c5.mono C4.size)
  clear X4 C4 c5
  go_wp2_with fail
  refine (HOPEN.out _ C5).mono ?_
  rintro e w6 ⟨c6, p1, n1, q1, rfl, P6⟩
  have X6 := X5.below c6
  have C6 := C5.trans (c6.mono C5.size)
  clear X5 C5 c6
  go_wp2_with fail
  refine (HSEC.out _).mono ?_
  rintro e w7 ⟨rfl, c7⟩
  have X7 := X6.below c7
  have P7 := P6.later c7
  have C7 := C6.trans (c7.mono C6.size)
  clear X6 C6 c7 P6
  go_wp2_with fail
  refine (HREFO.out _).mono ?_
  rintro e w8 ⟨c8, rfl⟩
  have X8 := X7.below c8
  have P8 := P7.later c8
  have C8 := C7.trans (c8.mono C7.size)
  clear X7 C7 c8 P7
  go_wp2_with fail
  refine (HSEC.out _).mono ?_
  rintro e w9 ⟨rfl, c9⟩
  have X9 := X8.below c9
  have P9 := P8.later c9
  have C9 := C8.trans (c9.mono C8.size)
  clear X8 C8 c9 P8
  go_wp2_with fail
  refine (HOPX.out _ _ _ C9 hcapx X9).mono ?_
  rintro e w10 ⟨c10, p2, n2, q2, rfl, R10⟩
  have X10 := X9.below c10
  have P10 := P9.later c10
  have C10 := C9.trans (c10.mono C9.size)
  clear X9 C9 c10 P9
  have hcx := HCX.out _ _ capx X10 _ (Below.refl _ _)
  have hcp := P10 _ (Below.refl _ _)
  have hcr := R10 _ (Below.refl _ _)
  have hch := (CH.out.later C10) _ (Below.refl _ _)
  have hct := (CT.out.later C10) _ (Below.refl _ _)
  have hcb := (CB.out.later C10) _ (Below.refl _ _)
  have hend : Below w.heap.size w w10 := bel3.trans (C10.mono bel3.size)
  clear P10 R10 X10 C10 HSEC HSEAL HOPEN HREFO HREFS HOPX CH CT CB HCX hcapx bel3
  go_wp2_with fail
  go_ret
  exact ⟨rfl, hend⟩

theorem walk (a0 : ByteArray) (a1 : ByteArray) (a2 : ByteArray) (a3 : ByteArray) (w0 : a0.size ≤ maxLen) (w1 : a1.size ≤ maxLen) (w2 : a2.size ≤ maxLen) (w3 : a3.size ≤ maxLen) (w : World) :
    Calls Tryz.prog 14 #[.string a0, .string a1, .string a2, .string a3] w fun e w' => e = .returned (.bool true) ∧ Below w.heap.size w w' := by
  by_cases hbig : 65536 < a1.size ∨ 65536 < a2.size ∨ 65536 < a3.size
  · exact walk_big a0 a1 a2 a3 hbig w
  · exact walk_small a0 a1 a2 a3 (by omega) (by omega) (by omega) w
end Go.Proofs.YtkpebabbnndopaaGreatDoor.seals

/- Leaf. -/
namespace Go.Proofs.YtkpebabbnndopaaGreatDoor
open Go.RowKit

set_option maxHeartbeats 2000000 in
set_option maxRecDepth 50000 in
theorem leaf_any (s : Nat → Int) (hs : ∀ i, 0 ≤ s i ∧ s i < 256) (n m : Int) (w : World) :
    Calls Tryz.prog 36 #[Agg8 s, .int .i64 n, .int .i64 m] w fun e w' => e = .returned (.tuple #[Agg8 (LeafV s n m), .int .i64 (LeafE n m)]) ∧ Below w.heap.size w w' := by
  have HM : Hid (∀ W, Calls Tryz.prog 62 #[.int .i64 n, .int .i64 m] W fun e w' => e = .returned (.bool (FitB n m)) ∧ w' = W) := fun W => hasMember_any n m W
  cases hfit : FitB n m with
  | false =>
    have e1 : LeafV s n m = fun _ => 0 := by unfold LeafV; rw [hfit]; rfl
    have e2 : LeafE n m = 1 := by unfold LeafE; rw [hfit]; rfl
    rw [e1, e2]
    rw [hfit] at HM
    clear e1 e2 hfit
    go_enter Tryz.func36, Tryz.ntmps36
    go_wp2_with (go_at_call 62; refine (HM.out _).mono ?_; rintro e w' ⟨rfl, rfl⟩)
    obtain ⟨c1, d1, _⟩ := cell1 w _ (.cells (Cells8 s) 51) (Below.refl _ _)
    exact bodyPost_ret (v := .tuple #[.agg C0, .int .i64 1]) (results_row_tmp rfl _ _ (w.heap.size + 1) 51 C0 (0, 0) _ (.int .i64 1) rfl rfl c1 Tryz.underlying51 rfl (by kernel_rfl)) rfl ⟨rfl, d1⟩
  | true =>
    obtain ⟨f1, f2, f3, f4⟩ := (fitB_iff n m).1 hfit
    have e1 : LeafV s n m = LeafM s n m := by unfold LeafV; rw [hfit]; rfl
    have e2 : LeafE n m = 0 := by unfold LeafE; rw [hfit]; rfl
    rw [e1, e2]
    rw [hfit] at HM
    clear e1 e2 hfit
    obtain ⟨n, rfl⟩ : ∃ k : Nat, n = k := ⟨n.toNat, by omega⟩
    obtain ⟨m, rfl⟩ : ∃ k : Nat, m = k := ⟨m.toNat, by omega⟩
    have HT : Hid (∀ W, Calls Tryz.prog 63 #[Agg8 s, .int .i64 n] W fun e w' => e = .returned (.agg (TZ Tryz.zeroCells102 n s)) ∧ Below W.heap.size W w') := fun W => wholeTree_any s n W
    have HL : Hid (∀ W tb, W.heap[tb]? = some (.cells (TZ Tryz.zeroCells102 n s) 102 (0, 0)) → Calls Tryz.prog 78 #[.pointer (some ⟨tb, 0, none⟩), .int .i64 m, .func (.func 30) #[] #[]] W fun e w' => e = .returned (Agg8 (LeafM s n m)) ∧ Outside [tb] W w') := fun W tb hW => by
      have := takeLeaf_any drv_plain tb 0 102 _ [] [] ⟨0, n, s⟩ m W (Home.bare hW) (TC_tree n (by omega) s hs) ⟨Nat.zero_le _, by show m < n; omega⟩ (by simp) (by intro x hx; simp at hx; subst hx; show 0 < n; omega) (by show wide [⟨0, n, s⟩] ≤ 16; rw [wide_cons]; simp [wide]; omega) (fun h => absurd rfl h)
      refine this.mono fun e w' ⟨h1, cs', h2, _⟩ => ⟨?_, h2.outn⟩
      rw [h1, spl_leaf 16 0 n s m (by omega) (by omega) (by omega)]
      rfl
    obtain ⟨X, hX⟩ : ∃ X, LeafM s n m = X := ⟨_, rfl⟩
    rw [hX] at HL ⊢
    clear hX
    go_enter Tryz.func36, Tryz.ntmps36
    go_wp2_with (go_at_call 62; refine (HM.out _).mono ?_; rintro e w' ⟨rfl, rfl⟩)
    refine (HT.out _).mono ?_
    rintro e w1 ⟨rfl, b1⟩
    obtain ⟨c1, d1, z1⟩ := cell1 _ _ _ b1
    clear b1
    obtain ⟨w1b, hw1b⟩ : ∃ w1b, w1.alloc (.cells Tryz.zeroCells102 102) = w1b := ⟨_, rfl⟩
    have HW1B : Hid (w1.alloc (.cells Tryz.zeroCells102 102) = w1b) := hw1b
    have t1b : w1b.heap[w1.heap.size]? = some (.cells Tryz.zeroCells102 102 (0, 0)) := by rw [← hw1b]; exact (MapKept.heap_alloc _ _).1
    have e1b : Below w1.heap.size w1 w1b := by rw [← hw1b]; exact (Below.refl _ w1).alloc (Nat.le_refl _) _
    have z1b : w1.heap.size < w1b.heap.size := (Array.getElem?_eq_some_iff.1 t1b).1
    have hTs := TC_size n s
    have hTo := TC_one n s
    obtain ⟨TT, hTT⟩ : ∃ TT, TZ Tryz.zeroCells102 n s = TT := ⟨_, rfl⟩
    rw [hTT] at hTs hTo HL ⊢
    obtain ⟨w1c, hw1c⟩ : ∃ w1c, w1b.setRow w1.heap.size TT = w1c := ⟨_, rfl⟩
    have HW1C : Hid (w1b.setRow w1.heap.size TT = w1c) := hw1c
    have t1c : w1c.heap[w1.heap.size]? = some (.cells TT 102 (0, 0)) := by rw [← hw1c]; exact setRow_heap _ _ _ _ _ _ t1b
    have c1c : w1c.heap[w.heap.size + 1]? = some (.cells C0 51 (0, 0)) := by rw [← hw1c, setRow_other _ _ _ _ (by omega), e1b.block _ (by omega), c1]
    have d1c : Below w.heap.size w w1c := by rw [← hw1c]; exact below_setRow (d1.trans (e1b.mono (by omega))) (by omega) _
    have z1c : w1.heap.size < w1c.heap.size := (Array.getElem?_eq_some_iff.1 t1c).1
    clear hw1b hw1c hTT
    go_wp2_with (rw [HW1B.out]; refine wpList_store_row rfl 102 _ _ rfl w1.heap.size TT rfl rfl 102 Tryz.zeroCells102 t1b (by rw [hTs]; kernel_rfl) (by rw [hTs]; kernel_rfl) hTo ?_; rw [HW1C.out])
    refine (HL.out _ w1.heap.size t1c).mono ?_
    rintro e w2 ⟨rfl, o2⟩
    have c2 : w2.heap[w.heap.size + 1]? = some (.cells C0 51 (0, 0)) := o2.row c1c (by simp; omega)
    have d2 : Below w.heap.size w w2 := d1c.trans (o2.toBelow w.heap.size (by omega) (by intro i hi; simp at hi; omega))
    clear o2 c1 d1 c1c d1c t1c HW1B HW1C t1b e1b hTs hTo
    go_wp2_with (refine wpList_store_row rfl 51 _ _ rfl (w.heap.size + 1) (Cells8 X) rfl rfl 51 C0 c2 (by kernel_rfl) rfl (by simp [Value.oneCell']) ?_)
    exact bodyPost_ret (v := .tuple #[.agg (Cells8 X), .int .i64 0]) (results_row_tmp rfl _ _ (w.heap.size + 1) 51 (Cells8 X) (0, 0) _ (.int .i64 0) rfl rfl (setRow_heap _ _ _ _ _ _ c2) Tryz.underlying51 rfl (by kernel_rfl)) rfl ⟨rfl, below_setRow d2 (by omega) _⟩
end Go.Proofs.YtkpebabbnndopaaGreatDoor

/- epochref.Leaf. -/
namespace Go.Proofs.YtkpebabbnndopaaGreatDoor
open Go.RowKit

set_option maxHeartbeats 1000000 in
theorem refLeaf_any (s : Nat → Int) (hs : ∀ i, 0 ≤ s i ∧ s i < 256) (n m : Int) (w : World) :
    Calls Tryz.prog 37 #[Agg8 s, .int .i64 n, .int .i64 m] w fun e w' => e = .returned (.tuple #[Agg8 (LeafV s n m), .int .i64 (LeafE n m)]) ∧ Below w.heap.size w w' := by
  have HM : Hid (∀ W, Calls Tryz.prog 64 #[.int .i64 n, .int .i64 m] W fun e w' => e = .returned (.bool (FitB n m)) ∧ w' = W) := fun W => fits_any n m W
  cases hfit : FitB n m with
  | false =>
    have e1 : LeafV s n m = fun _ => 0 := by unfold LeafV; rw [hfit]; rfl
    have e2 : LeafE n m = 1 := by unfold LeafE; rw [hfit]; rfl
    rw [e1, e2]
    rw [hfit] at HM
    clear e1 e2 hfit
    go_enter Tryz.func37, Tryz.ntmps37
    go_wp2_with (go_at_call 64; refine (HM.out _).mono ?_; rintro e w' ⟨rfl, rfl⟩)
    obtain ⟨c1, d1, _⟩ := cell1 w _ (.cells (Cells8 s) 51) (Below.refl _ _)
    exact bodyPost_ret (v := .tuple #[.agg C0, .int .i64 1]) (results_row_tmp rfl _ _ (w.heap.size + 1) 51 C0 (0, 0) _ (.int .i64 1) rfl rfl c1 Tryz.underlying51 rfl (by kernel_rfl)) rfl ⟨rfl, d1⟩
  | true =>
    obtain ⟨f1, f2, f3, f4⟩ := (fitB_iff n m).1 hfit
    have e1 : LeafV s n m = LeafM s n m := by unfold LeafV; rw [hfit]; rfl
    have e2 : LeafE n m = 0 := by unfold LeafE; rw [hfit]; rfl
    rw [e1, e2]
    rw [hfit] at HM
    clear e1 e2 hfit
    have HP : Hid (∀ W, Calls Tryz.prog 79 #[Agg8 s, .int .i64 0, .int .i64 n, .int .i64 m, .int .i64 (m + 1)] W fun e w' => e = .returned (Agg8 (LeafM s n m)) ∧ Below W.heap.size W w') := fun W => refPart_any 16 s hs 0 n m W (by omega) (by omega) (by omega) (by omega) (by omega)
    obtain ⟨X, hX⟩ : ∃ X, LeafM s n m = X := ⟨_, rfl⟩
    rw [hX] at HP ⊢
    clear hX
    go_enter Tryz.func37, Tryz.ntmps37
    go_wp2_with (go_at_call 64; refine (HM.out _).mono ?_; rintro e w' ⟨rfl, rfl⟩)
    refine (HP.out _).mono ?_
    rintro e w1 ⟨rfl, b1⟩
    obtain ⟨c1, d1, z1⟩ := cell1 _ _ _ b1
    clear b1
    have c2 : (w1.alloc (.cells (Cells8 X) 51)).heap[w.heap.size + 1]? = some (.cells C0 51 (0, 0)) := by rw [Below.heap_alloc _ _ _ (by omega), c1]
    go_wp2_with (refine wpList_store_row rfl 51 _ _ rfl (w.heap.size + 1) (Cells8 X) rfl rfl 51 C0 c2 (by kernel_rfl) rfl (by simp [Value.oneCell']) ?_)
    exact bodyPost_ret (v := .tuple #[.agg (Cells8 X), .int .i64 0]) (results_row_tmp rfl _ _ (w.heap.size + 1) 51 (Cells8 X) (0, 0) _ (.int .i64 0) rfl rfl (setRow_heap _ _ _ _ _ _ c2) Tryz.underlying51 rfl (by kernel_rfl)) rfl ⟨rfl, below_setRow (d1.alloc (by omega) _) (by omega) _⟩
end Go.Proofs.YtkpebabbnndopaaGreatDoor

/- Key. -/
namespace Go.Proofs.YtkpebabbnndopaaGreatDoor
open Go.RowKit

set_option maxHeartbeats 1000000 in
theorem key_any (s : Nat → Int) (hs : ∀ i, 0 ≤ s i ∧ s i < 256) (n m g : Int) (w : World) :
    Calls Tryz.prog 38 #[Agg8 s, .int .i64 n, .int .i64 m, .int .i64 g] w fun e w' => e = .returned (.tuple #[Agg8 (KeyV s n m g), .int .i64 (KeyE n m g)]) ∧ Below w.heap.size w w' := by
  have HL : Hid (∀ W, Calls Tryz.prog 36 #[Agg8 s, .int .i64 n, .int .i64 m] W fun e w' => e = .returned (.tuple #[Agg8 (LeafV s n m), .int .i64 (LeafE n m)]) ∧ Below W.heap.size W w') := fun W => leaf_any s hs n m W
  have HG : Hid (∀ W, Calls Tryz.prog 80 #[.int .i64 g] W fun e w' => e = .returned (.bool (GenB g)) ∧ w' = W) := fun W => isGeneration_any g W
  cases hfit : FitB n m with
  | false =>
    have e1 : KeyV s n m g = fun _ => 0 := by unfold KeyV; rw [hfit]; rfl
    have e2 : KeyE n m g = 1 := by unfold KeyE; rw [hfit]; rfl
    have e3 : LeafE n m = 1 := by unfold LeafE; rw [hfit]; rfl
    rw [e1, e2]
    rw [e3] at HL
    obtain ⟨X, hX⟩ : ∃ X, LeafV s n m = X := ⟨_, rfl⟩
    rw [hX] at HL
    clear e1 e2 e3 hX hfit hs
    go_enter Tryz.func38, Tryz.ntmps38
    go_wp2_with fail
    refine (HL.out _).mono ?_
    rintro e w1 ⟨rfl, b1⟩
    obtain ⟨c1, d1, z1⟩ := cell1 _ _ _ b1
    clear b1
    have c2 : (w1.alloc (.cells (Cells8 X) 51)).heap[w.heap.size + 1]? = some (.cells C0 51 (0, 0)) := by rw [Below.heap_alloc _ _ _ (by omega), c1]
    go_wp2_with (refine wpList_store_row rfl 51 _ _ rfl (w.heap.size + 1) (Cells8 fun _ => 0) rfl rfl 51 C0 c2 (by kernel_rfl) rfl (by simp [Value.oneCell']) ?_)
    exact bodyPost_ret (v := .tuple #[.agg C0, .int .i64 1]) (results_row_tmp rfl _ _ (w.heap.size + 1) 51 C0 (0, 0) _ (.int .i64 1) rfl rfl (setRow_heap _ _ _ _ _ _ c2) Tryz.underlying51 rfl (by kernel_rfl)) rfl ⟨rfl, below_setRow (d1.alloc (by omega) _) (by omega) _⟩
  | true =>
    have e3 : LeafE n m = 0 := by unfold LeafE; rw [hfit]; rfl
    have hXb := LeafV_bd s hs n m
    have e4 : LeafV s n m = LeafM s n m := by unfold LeafV; rw [hfit]; rfl
    rw [e4] at HL hXb
    rw [e3] at HL
    cases hgen : GenB g with
    | false =>
      have e1 : KeyV s n m g = fun _ => 0 := by unfold KeyV; rw [hfit, hgen]; rfl
      have e2 : KeyE n m g = 8 := by unfold KeyE; rw [hfit, hgen]; rfl
      rw [e1, e2]
      rw [hgen] at HG
      obtain ⟨X, hX⟩ : ∃ X, LeafM s n m = X := ⟨_, rfl⟩
      rw [hX] at HL
      clear e1 e2 e3 e4 hX hfit hgen hs hXb
      go_enter Tryz.func38, Tryz.ntmps38
      go_wp2_with fail
      refine (HL.out _).mono ?_
      rintro e w1 ⟨rfl, b1⟩
      obtain ⟨c1, d1, z1⟩ := cell1 _ _ _ b1
      clear b1
      have c2 : (w1.alloc (.cells (Cells8 X) 51)).heap[w.heap.size + 1]? = some (.cells C0 51 (0, 0)) := by rw [Below.heap_alloc _ _ _ (by omega), c1]
      go_wp2_with (first | (go_at_call 80; refine (HG.out _).mono ?_; rintro e w' ⟨rfl, rfl⟩) | refine wpList_store_row rfl 51 _ _ rfl (w.heap.size + 1) (Cells8 fun _ => 0) rfl rfl 51 C0 c2 (by kernel_rfl) rfl (by simp [Value.oneCell']) ?_)
      exact bodyPost_ret (v := .tuple #[.agg C0, .int .i64 8]) (results_row_tmp rfl _ _ (w.heap.size + 1) 51 C0 (0, 0) _ (.int .i64 8) rfl rfl (setRow_heap _ _ _ _ _ _ c2) Tryz.underlying51 rfl (by kernel_rfl)) rfl ⟨rfl, below_setRow (d1.alloc (by omega) _) (by omega) _⟩
    | true =>
      obtain ⟨g0, g1⟩ := (genB_iff g).1 hgen
      obtain ⟨k, rfl⟩ : ∃ k : Nat, g = k := ⟨g.toNat, by omega⟩
      have e1 : KeyV s n m k = KeyM s n m k := by unfold KeyV; rw [hfit, hgen]; rfl
      have e2 : KeyE n m k = 0 := by unfold KeyE; rw [hfit, hgen]; rfl
      rw [e1, e2]
      rw [hgen] at HG
      unfold KeyM RatM
      obtain ⟨X, hX⟩ : ∃ X, LeafM s n m = X := ⟨_, rfl⟩
      rw [hX] at HL hXb ⊢
      clear e1 e2 e3 e4 hX hfit hgen hs
      have HR : Hid (∀ W, Calls Tryz.prog 81 #[Agg8 X, .func (.func 30) #[] #[]] W fun e w' => e = .returned (AggR true 0 (DerB X lRatchet 0)) ∧ Below W.heap.size W w') := fun W => (ratchetOf_any drv_plain X hXb W (has_none _)).mono fun _ _ ⟨h1, h2⟩ => ⟨h1, h2.toBelow⟩
      have hRb : ∀ i, 0 ≤ DerB X lRatchet 0 i ∧ DerB X lRatchet 0 i < 256 := DerB_bd _ _ _
      obtain ⟨R, hR⟩ : ∃ R, DerB X lRatchet 0 = R := ⟨_, rfl⟩
      rw [hR] at HR hRb ⊢
      clear hR hXb
      have HT : Hid (∀ b W, W.heap[b]? = some (.cells (CellsR true (0 : Nat) R) 104 (0, 0)) → Calls Tryz.prog 82 #[.pointer (some ⟨b, 0, none⟩), .int .i64 k, .func (.func 49) #[.pointer (some ⟨b, 0, none⟩)] #[], .func (.func 30) #[] #[]] W fun e w' => e = .returned (.tuple #[]) ∧ Outside [b] W w' ∧ ∃ cs, w'.heap[b]? = some (.cells cs 104 (0, 0)) ∧ RatAt cs 0 true k (RatB R k)) := fun b W h =>
        (goTo_any drv_plain 0 k (Nat.zero_le _) (by omega) true R hRb b 0 104 _ W (Home.bare h) (fun j v hv => by rw [Nat.zero_add]; simpa [RatB] using hv) (fun h => absurd rfl h)).mono fun _ _ ⟨h1, cs', h2, h3⟩ => ⟨h1, h2.outn, cs', h2.home.row, h3⟩
      have HK : Hid (∀ b W cs, W.heap[b]? = some (.cells cs 104 (0, 0)) → RatAt cs 0 true k (RatB R k) → Calls Tryz.prog 47 #[.pointer (some ⟨b, 0, none⟩), .func (.func 30) #[] #[]] W fun e w' => e = .returned (Agg8 (DerB (RatB R k) lKey k)) ∧ Below W.heap.size W w') := fun b W cs h hr =>
        (rkey_any drv_plain k true (RatB R k) (RatB_bd R hRb k) b 0 104 cs W (Home.bare h) hr).mono fun _ _ ⟨h1, h2⟩ => ⟨h1, h2.toBelow⟩
      obtain ⟨Y, hY⟩ : ∃ Y, DerB (RatB R k) lKey k = Y := ⟨_, rfl⟩
      rw [hY] at HK ⊢
      clear hY
      have hmf : ∀ (fn : Fn) (first cap : Array Value) (w : World), (Instr.makeFunc fn first cap).run Tryz.prog w = .ok (.func fn first cap) w := fun _ _ _ _ => rfl
      go_enter Tryz.func38, Tryz.ntmps38
      go_wp2_with fail
      refine (HL.out _).mono ?_
      rintro e w1 ⟨rfl, b1⟩
      obtain ⟨c1, d1, z1⟩ := cell1 _ _ _ b1
      clear b1
      go_wp2_with (go_at_call 80; refine (HG.out _).mono ?_; rintro e w' ⟨rfl, rfl⟩)
      refine (HR.out _).mono ?_
      rintro e w2 ⟨rfl, b2⟩
      have c2 : w2.heap[w.heap.size + 1]? = some (.cells C0 51 (0, 0)) := by rw [b2.block _ (by simp; omega), Below.heap_alloc _ _ _ (by omega), c1]
      have d2 : Below w.heap.size w w2 := (d1.alloc (by omega) _).trans (b2.mono (by simp; omega))
      have z2 : w.heap.size + 2 ≤ w2.heap.size := by have := b2.size; simp at this; omega
      clear b2 c1 d1 z1 HL HG HR
      go_wp2_with fail
      refine (HT.out w2.heap.size _ (MapKept.heap_alloc _ _).1).mono ?_
      rintro e w3 ⟨rfl, q1, cs3, q3, q4⟩
      have z3 := q1.size
      simp only [World.size_alloc] at z3
      have d3 : Below w.heap.size w w3 := (d2.alloc (by omega) _).trans (q1.toBelow w.heap.size (by simp; omega) (by intro i hi; simp at hi; omega))
      have c3 : w3.heap[w.heap.size + 1]? = some (.cells C0 51 (0, 0)) := q1.row (by rw [Below.heap_alloc _ _ _ (by omega), c2]) (by simp; omega)
      have Q4 : Hid (RatAt cs3 0 true k (RatB R k)) := q4
      clear q1 c2 d2 HT hmf q4
      go_wp2_with fail
      refine (HK.out _ _ cs3 q3 Q4.out).mono ?_
      rintro e w4 ⟨rfl, b4⟩
      have d4 : Below w.heap.size w w4 := d3.trans (b4.mono (by omega))
      have c4 : w4.heap[w.heap.size + 1]? = some (.cells C0 51 (0, 0)) := by rw [b4.block _ (by omega), c3]
      clear b4 c3 d3 q3 HK
      go_wp2_with (refine wpList_store_row rfl 51 _ _ rfl (w.heap.size + 1) (Cells8 Y) rfl rfl 51 C0 c4 (by kernel_rfl) rfl (by simp [Value.oneCell']) ?_)
      exact bodyPost_ret (v := .tuple #[.agg (Cells8 Y), .int .i64 0]) (results_row_tmp rfl _ _ (w.heap.size + 1) 51 (Cells8 Y) (0, 0) _ (.int .i64 0) rfl rfl (setRow_heap _ _ _ _ _ _ c4) Tryz.underlying51 rfl (by kernel_rfl)) rfl ⟨rfl, below_setRow d4 (by omega) _⟩

end Go.Proofs.YtkpebabbnndopaaGreatDoor

/- Keys: P5 and P6, at every root, size, member and generation. -/
namespace Go.Proofs.YtkpebabbnndopaaGreatDoor.keys
open Go.ChangeShapes Go.WideShapes Go.ChangeAt Go.RowKit
open Go.ChangeMaps (open_string shut_string)
set_option linter.unusedVariables false

theorem own : ownKnob Tryz.prog.godebug = none := by kernel_rfl

theorem secB (s : ByteArray) (w : World) : Calls Tryz.prog 26 #[.string s] w fun e w' => e = .returned (Agg8 (SecL s.data.toList)) ∧ Below w.heap.size w w' := by
  refine (secret_any s w).mono ?_
  rintro e w' ⟨rfl, rfl⟩
  exact ⟨rfl, ((Below.refl _ w).alloc (Nat.le_refl _) _).alloc (by simp) _⟩

theorem neqB (x0 x1 x2 x3 x4 x5 x6 x7 : Int) (w : World) :
    (binOp .neq 51 (.agg #[.int .u8 x0, .int .u8 x1, .int .u8 x2, .int .u8 x3, .int .u8 x4, .int .u8 x5, .int .u8 x6, .int .u8 x7]) (.agg #[.int .u8 x0, .int .u8 x1, .int .u8 x2, .int .u8 x3, .int .u8 x4, .int .u8 x5, .int .u8 x6, .int .u8 x7])).run Tryz.prog w = .ok (.bool false) w := by
  rw [run_neq_struct, eq_lit]
  simp

set_option maxHeartbeats 1000000 in
set_option maxRecDepth 20000 in
theorem walk (a0 : ByteArray) (a1 : Int) (a2 : Int) (a3 : Int) (w0 : a0.size ≤ maxLen) (hw1 : (Lit.int .i64 a1).wf = true) (hw2 : (Lit.int .i64 a2).wf = true) (hw3 : (Lit.int .i64 a3).wf = true) (w : World) :
    Calls Tryz.prog 15 #[.string a0, .int .i64 a1, .int .i64 a2, .int .i64 a3] w fun e w' => e = .returned (.bool true) ∧ Below w.heap.size w w' := by
  have hk := SecL_bd a0.data.toList
  obtain ⟨s, hs⟩ : ∃ s, SecL a0.data.toList = s := ⟨_, rfl⟩
  rw [hs] at hk
  have HS : Hid (SecL a0.data.toList = s) := hs
  clear hs
  have HSEC : Hid (∀ W, Calls Tryz.prog 26 #[.string a0] W fun e w' => e = .returned (Agg8 s) ∧ Below W.heap.size W w') := by
    intro W
    have h := secB a0 W
    rw [HS.out] at h
    exact h
  have HL : Hid (∀ W, Calls Tryz.prog 36 #[Agg8 s, .int .i64 a1, .int .i64 a2] W fun e w' => e = .returned (.tuple #[Agg8 (LeafV s a1 a2), .int .i64 (LeafE a1 a2)]) ∧ Below W.heap.size W w') := fun W => leaf_any s hk a1 a2 W
  have HRL : Hid (∀ W, Calls Tryz.prog 37 #[Agg8 s, .int .i64 a1, .int .i64 a2] W fun e w' => e = .returned (.tuple #[Agg8 (LeafV s a1 a2), .int .i64 (LeafE a1 a2)]) ∧ Below W.heap.size W w') := fun W => refLeaf_any s hk a1 a2 W
  have HK : Hid (∀ g W, Calls Tryz.prog 38 #[Agg8 s, .int .i64 a1, .int .i64 a2, .int .i64 g] W fun e w' => e = .returned (.tuple #[Agg8 (KeyV s a1 a2 g), .int .i64 (KeyE a1 a2 g)]) ∧ Below W.heap.size W w') := fun g W => key_any s hk a1 a2 g W
  have HRK : Hid (∀ g W, Calls Tryz.prog 39 #[Agg8 s, .int .i64 a1, .int .i64 a2, .int .i64 g] W fun e w' => e = .returned (.tuple #[Agg8 (KeyV s a1 a2 g), .int .i64 (KeyE a1 a2 g)]) ∧ Below W.heap.size W w') := fun g W => refKey_any s hk a1 a2 g W
  obtain ⟨V, hV⟩ : ∃ V, LeafV s a1 a2 = V := ⟨_, rfl⟩
  obtain ⟨E, hE⟩ : ∃ E, LeafE a1 a2 = E := ⟨_, rfl⟩
  obtain ⟨KV, hKV⟩ : ∃ KV, KeyV s a1 a2 = KV := ⟨_, rfl⟩
  obtain ⟨KE, hKE⟩ : ∃ KE, KeyE a1 a2 = KE := ⟨_, rfl⟩
  rw [hV, hE] at HL HRL
  rw [hKV, hKE] at HK HRK
  clear hV hE hKV hKE HS hk w0 hw1 hw2
  go_enter Tryz.func15, Tryz.ntmps15
  go_wp2_with fail
  refine (HSEC.out _).mono ?_
  rintro e w1 ⟨rfl, b1⟩
  go_wp2_with fail
  refine (HL.out _).mono ?_
  rintro e w2 ⟨rfl, b2⟩
  have d2 : Below w.heap.size w w2 := b1.trans (b2.mono b1.size)
  have z2 := d2.size
  clear b1 b2
  go_wp2_with fail
  refine (HSEC.out _).mono ?_
  rintro e w3 ⟨rfl, b3⟩
  go_wp2_with fail
  refine (HRL.out _).mono ?_
  rintro e w4 ⟨rfl, b4⟩
  have b34 := b3.trans (b4.mono b3.size)
  have z4 : w2.heap.size + 1 ≤ w4.heap.size := by have := b34.size; simp at this; omega
  have d4 : Below w.heap.size w w4 := (d2.alloc (by omega) _).trans (b34.mono (by simp; omega))
  have c9 : (w4.alloc (.cells (Cells8 V) 51)).heap[w2.heap.size]? = some (.cells (Cells8 V) 51 (0, 0)) := by
    rw [Below.heap_alloc _ _ _ (by omega), b34.block _ (by simp), (MapKept.heap_alloc _ _).1]
  have c11 : (w4.alloc (.cells (Cells8 V) 51)).heap[w4.heap.size]? = some (.cells (Cells8 V) 51 (0, 0)) := (MapKept.heap_alloc _ _).1
  clear b3 b4 b34 d2 HL HRL
  have hne := neqB (V 0) (V 1) (V 2) (V 3) (V 4) (V 5) (V 6) (V 7) (w4.alloc (.cells (Cells8 V) 51))
  by_cases hbig : 4096 < a3
  · by_cases hlast : a3 ≤ 65535
    · go_wp2_with (first | refine wpList_load_row rfl 51 _ rfl w2.heap.size rfl 51 (Cells8 V) (0, 0) _ c9 Tryz.underlying51 rfl (by kernel_rfl) ?_ | refine wpList_load_row rfl 51 _ rfl w4.heap.size rfl 51 (Cells8 V) (0, 0) _ c11 Tryz.underlying51 rfl (by kernel_rfl) ?_ | refine wpList_cmp_agg rfl .neq 51 51 _ _ rfl (Cells8 V) (Cells8 V) rfl rfl Tryz.eqGuardType51 false hne ?_)
      refine (HSEC.out _).mono ?_
      rintro e w5 ⟨rfl, b5⟩
      go_wp2_with fail
      obtain ⟨Y, hY⟩ : ∃ Y, KV (a3 % 4096) = Y := ⟨_, rfl⟩
      obtain ⟨F, hF⟩ : ∃ F, KE (a3 % 4096) = F := ⟨_, rfl⟩
      have HK' : Hid (∀ W, Calls Tryz.prog 38 #[Agg8 s, .int .i64 a1, .int .i64 a2, .int .i64 (a3 % 4096)] W fun e w' => e = .returned (.tuple #[Agg8 Y, .int .i64 F]) ∧ Below W.heap.size W w') := fun W => by
        have h := HK.out (a3 % 4096) W
        rw [hY, hF] at h
        exact h
      have HRK' : Hid (∀ W, Calls Tryz.prog 39 #[Agg8 s, .int .i64 a1, .int .i64 a2, .int .i64 (a3 % 4096)] W fun e w' => e = .returned (.tuple #[Agg8 Y, .int .i64 F]) ∧ Below W.heap.size W w') := fun W => by
        have h := HRK.out (a3 % 4096) W
        rw [hY, hF] at h
        exact h
      clear hY hF HK HRK
      refine (HK'.out _).mono ?_
      rintro e w6 ⟨rfl, b6⟩
      have b56 := b5.trans (b6.mono b5.size)
      have z6 : w4.heap.size + 1 ≤ w6.heap.size := by have := b56.size; simp at this; omega
      have d6 : Below w.heap.size w w6 := (d4.alloc (by omega) _).trans (b56.mono (by simp; omega))
      have k9 : w6.heap[w2.heap.size]? = some (.cells (Cells8 V) 51 (0, 0)) := by rw [b56.block _ (by simp; omega), c9]
      have k11 : w6.heap[w4.heap.size]? = some (.cells (Cells8 V) 51 (0, 0)) := by rw [b56.block _ (by simp), c11]
      clear b5 b6 b56 c9 c11 d4 HK' hne
      go_wp2_with (refine wpList_store_row rfl 51 _ _ rfl w2.heap.size (Cells8 Y) rfl rfl 51 (Cells8 V) k9 (by kernel_rfl) rfl (by simp [Value.oneCell']) ?_)
      refine (HSEC.out _).mono ?_
      rintro e w7 ⟨rfl, b7⟩
      go_wp2_with fail
      refine (HRK'.out _).mono ?_
      rintro e w8 ⟨rfl, b8⟩
      have b78 := b7.trans (b8.mono b7.size)
      have m9 : w8.heap[w2.heap.size]? = some (.cells (Cells8 Y) 51 (0, 0)) := by rw [b78.block _ (by simp; omega)]; exact setRow_heap _ _ _ _ _ _ k9
      have m11 : w8.heap[w4.heap.size]? = some (.cells (Cells8 V) 51 (0, 0)) := by rw [b78.block _ (by simp; omega), setRow_other _ _ _ _ (by omega), k11]
      have d8 : Below w.heap.size w w8 := (below_setRow d6 (by omega) _).trans (b78.mono (by simp; omega))
      have n9 : (w8.setRow w4.heap.size (Cells8 Y)).heap[w2.heap.size]? = some (.cells (Cells8 Y) 51 (0, 0)) := by rw [setRow_other _ _ _ _ (by omega), m9]
      have n11 : (w8.setRow w4.heap.size (Cells8 Y)).heap[w4.heap.size]? = some (.cells (Cells8 Y) 51 (0, 0)) := setRow_heap _ _ _ _ _ _ m11
      clear b7 b8 b78 k9 k11 d6 HRK' HSEC m9
      have heq := eqlB (Y 0) (Y 1) (Y 2) (Y 3) (Y 4) (Y 5) (Y 6) (Y 7) (w8.setRow w4.heap.size (Cells8 Y))
      go_wp2_with (first | refine wpList_store_row rfl 51 _ _ rfl w4.heap.size (Cells8 Y) rfl rfl 51 (Cells8 V) m11 (by kernel_rfl) rfl (by simp [Value.oneCell']) ?_ | refine wpList_load_row rfl 51 _ rfl w2.heap.size rfl 51 (Cells8 Y) (0, 0) _ n9 Tryz.underlying51 rfl (by kernel_rfl) ?_ | refine wpList_load_row rfl 51 _ rfl w4.heap.size rfl 51 (Cells8 Y) (0, 0) _ n11 Tryz.underlying51 rfl (by kernel_rfl) ?_ | refine wpList_cmp_agg rfl .eql 51 51 _ _ rfl (Cells8 Y) (Cells8 Y) rfl rfl Tryz.eqGuardType51 true heq ?_)
      go_ret
      exact ⟨rfl, below_setRow d8 (by omega) _⟩
    · go_wp2_with (first | refine wpList_load_row rfl 51 _ rfl w2.heap.size rfl 51 (Cells8 V) (0, 0) _ c9 Tryz.underlying51 rfl (by kernel_rfl) ?_ | refine wpList_load_row rfl 51 _ rfl w4.heap.size rfl 51 (Cells8 V) (0, 0) _ c11 Tryz.underlying51 rfl (by kernel_rfl) ?_ | refine wpList_cmp_agg rfl .neq 51 51 _ _ rfl (Cells8 V) (Cells8 V) rfl rfl Tryz.eqGuardType51 false hne ?_)
      refine (HSEC.out _).mono ?_
      rintro e w5 ⟨rfl, b5⟩
      go_wp2_with fail
      obtain ⟨Y, hY⟩ : ∃ Y, KV (a3) = Y := ⟨_, rfl⟩
      obtain ⟨F, hF⟩ : ∃ F, KE (a3) = F := ⟨_, rfl⟩
      have HK' : Hid (∀ W, Calls Tryz.prog 38 #[Agg8 s, .int .i64 a1, .int .i64 a2, .int .i64 (a3)] W fun e w' => e = .returned (.tuple #[Agg8 Y, .int .i64 F]) ∧ Below W.heap.size W w') := fun W => by
        have h := HK.out (a3) W
        rw [hY, hF] at h
        exact h
      have HRK' : Hid (∀ W, Calls Tryz.prog 39 #[Agg8 s, .int .i64 a1, .int .i64 a2, .int .i64 (a3)] W fun e w' => e = .returned (.tuple #[Agg8 Y, .int .i64 F]) ∧ Below W.heap.size W w') := fun W => by
        have h := HRK.out (a3) W
        rw [hY, hF] at h
        exact h
      clear hY hF HK HRK
      refine (HK'.out _).mono ?_
      rintro e w6 ⟨rfl, b6⟩
      have b56 := b5.trans (b6.mono b5.size)
      have z6 : w4.heap.size + 1 ≤ w6.heap.size := by have := b56.size; simp at this; omega
      have d6 : Below w.heap.size w w6 := (d4.alloc (by omega) _).trans (b56.mono (by simp; omega))
      have k9 : w6.heap[w2.heap.size]? = some (.cells (Cells8 V) 51 (0, 0)) := by rw [b56.block _ (by simp; omega), c9]
      have k11 : w6.heap[w4.heap.size]? = some (.cells (Cells8 V) 51 (0, 0)) := by rw [b56.block _ (by simp), c11]
      clear b5 b6 b56 c9 c11 d4 HK' hne
      go_wp2_with (refine wpList_store_row rfl 51 _ _ rfl w2.heap.size (Cells8 Y) rfl rfl 51 (Cells8 V) k9 (by kernel_rfl) rfl (by simp [Value.oneCell']) ?_)
      refine (HSEC.out _).mono ?_
      rintro e w7 ⟨rfl, b7⟩
      go_wp2_with fail
      refine (HRK'.out _).mono ?_
      rintro e w8 ⟨rfl, b8⟩
      have b78 := b7.trans (b8.mono b7.size)
      have m9 : w8.heap[w2.heap.size]? = some (.cells (Cells8 Y) 51 (0, 0)) := by rw [b78.block _ (by simp; omega)]; exact setRow_heap _ _ _ _ _ _ k9
      have m11 : w8.heap[w4.heap.size]? = some (.cells (Cells8 V) 51 (0, 0)) := by rw [b78.block _ (by simp; omega), setRow_other _ _ _ _ (by omega), k11]
      have d8 : Below w.heap.size w w8 := (below_setRow d6 (by omega) _).trans (b78.mono (by simp; omega))
      have n9 : (w8.setRow w4.heap.size (Cells8 Y)).heap[w2.heap.size]? = some (.cells (Cells8 Y) 51 (0, 0)) := by rw [setRow_other _ _ _ _ (by omega), m9]
      have n11 : (w8.setRow w4.heap.size (Cells8 Y)).heap[w4.heap.size]? = some (.cells (Cells8 Y) 51 (0, 0)) := setRow_heap _ _ _ _ _ _ m11
      clear b7 b8 b78 k9 k11 d6 HRK' HSEC m9
      have heq := eqlB (Y 0) (Y 1) (Y 2) (Y 3) (Y 4) (Y 5) (Y 6) (Y 7) (w8.setRow w4.heap.size (Cells8 Y))
      go_wp2_with (first | refine wpList_store_row rfl 51 _ _ rfl w4.heap.size (Cells8 Y) rfl rfl 51 (Cells8 V) m11 (by kernel_rfl) rfl (by simp [Value.oneCell']) ?_ | refine wpList_load_row rfl 51 _ rfl w2.heap.size rfl 51 (Cells8 Y) (0, 0) _ n9 Tryz.underlying51 rfl (by kernel_rfl) ?_ | refine wpList_load_row rfl 51 _ rfl w4.heap.size rfl 51 (Cells8 Y) (0, 0) _ n11 Tryz.underlying51 rfl (by kernel_rfl) ?_ | refine wpList_cmp_agg rfl .eql 51 51 _ _ rfl (Cells8 Y) (Cells8 Y) rfl rfl Tryz.eqGuardType51 true heq ?_)
      go_ret
      exact ⟨rfl, below_setRow d8 (by omega) _⟩
  · go_wp2_with (first | refine wpList_load_row rfl 51 _ rfl w2.heap.size rfl 51 (Cells8 V) (0, 0) _ c9 Tryz.underlying51 rfl (by kernel_rfl) ?_ | refine wpList_load_row rfl 51 _ rfl w4.heap.size rfl 51 (Cells8 V) (0, 0) _ c11 Tryz.underlying51 rfl (by kernel_rfl) ?_ | refine wpList_cmp_agg rfl .neq 51 51 _ _ rfl (Cells8 V) (Cells8 V) rfl rfl Tryz.eqGuardType51 false hne ?_)
    refine (HSEC.out _).mono ?_
    rintro e w5 ⟨rfl, b5⟩
    go_wp2_with fail
    obtain ⟨Y, hY⟩ : ∃ Y, KV (a3) = Y := ⟨_, rfl⟩
    obtain ⟨F, hF⟩ : ∃ F, KE (a3) = F := ⟨_, rfl⟩
    have HK' : Hid (∀ W, Calls Tryz.prog 38 #[Agg8 s, .int .i64 a1, .int .i64 a2, .int .i64 (a3)] W fun e w' => e = .returned (.tuple #[Agg8 Y, .int .i64 F]) ∧ Below W.heap.size W w') := fun W => by
      have h := HK.out (a3) W
      rw [hY, hF] at h
      exact h
    have HRK' : Hid (∀ W, Calls Tryz.prog 39 #[Agg8 s, .int .i64 a1, .int .i64 a2, .int .i64 (a3)] W fun e w' => e = .returned (.tuple #[Agg8 Y, .int .i64 F]) ∧ Below W.heap.size W w') := fun W => by
      have h := HRK.out (a3) W
      rw [hY, hF] at h
      exact h
    clear hY hF HK HRK
    refine (HK'.out _).mono ?_
    rintro e w6 ⟨rfl, b6⟩
    have b56 := b5.trans (b6.mono b5.size)
    have z6 : w4.heap.size + 1 ≤ w6.heap.size := by have := b56.size; simp at this; omega
    have d6 : Below w.heap.size w w6 := (d4.alloc (by omega) _).trans (b56.mono (by simp; omega))
    have k9 : w6.heap[w2.heap.size]? = some (.cells (Cells8 V) 51 (0, 0)) := by rw [b56.block _ (by simp; omega), c9]
    have k11 : w6.heap[w4.heap.size]? = some (.cells (Cells8 V) 51 (0, 0)) := by rw [b56.block _ (by simp), c11]
    clear b5 b6 b56 c9 c11 d4 HK' hne
    go_wp2_with (refine wpList_store_row rfl 51 _ _ rfl w2.heap.size (Cells8 Y) rfl rfl 51 (Cells8 V) k9 (by kernel_rfl) rfl (by simp [Value.oneCell']) ?_)
    refine (HSEC.out _).mono ?_
    rintro e w7 ⟨rfl, b7⟩
    go_wp2_with fail
    refine (HRK'.out _).mono ?_
    rintro e w8 ⟨rfl, b8⟩
    have b78 := b7.trans (b8.mono b7.size)
    have m9 : w8.heap[w2.heap.size]? = some (.cells (Cells8 Y) 51 (0, 0)) := by rw [b78.block _ (by simp; omega)]; exact setRow_heap _ _ _ _ _ _ k9
    have m11 : w8.heap[w4.heap.size]? = some (.cells (Cells8 V) 51 (0, 0)) := by rw [b78.block _ (by simp; omega), setRow_other _ _ _ _ (by omega), k11]
    have d8 : Below w.heap.size w w8 := (below_setRow d6 (by omega) _).trans (b78.mono (by simp; omega))
    have n9 : (w8.setRow w4.heap.size (Cells8 Y)).heap[w2.heap.size]? = some (.cells (Cells8 Y) 51 (0, 0)) := by rw [setRow_other _ _ _ _ (by omega), m9]
    have n11 : (w8.setRow w4.heap.size (Cells8 Y)).heap[w4.heap.size]? = some (.cells (Cells8 Y) 51 (0, 0)) := setRow_heap _ _ _ _ _ _ m11
    clear b7 b8 b78 k9 k11 d6 HRK' HSEC m9
    have heq := eqlB (Y 0) (Y 1) (Y 2) (Y 3) (Y 4) (Y 5) (Y 6) (Y 7) (w8.setRow w4.heap.size (Cells8 Y))
    go_wp2_with (first | refine wpList_store_row rfl 51 _ _ rfl w4.heap.size (Cells8 Y) rfl rfl 51 (Cells8 V) m11 (by kernel_rfl) rfl (by simp [Value.oneCell']) ?_ | refine wpList_load_row rfl 51 _ rfl w2.heap.size rfl 51 (Cells8 Y) (0, 0) _ n9 Tryz.underlying51 rfl (by kernel_rfl) ?_ | refine wpList_load_row rfl 51 _ rfl w4.heap.size rfl 51 (Cells8 Y) (0, 0) _ n11 Tryz.underlying51 rfl (by kernel_rfl) ?_ | refine wpList_cmp_agg rfl .eql 51 51 _ _ rfl (Cells8 Y) (Cells8 Y) rfl rfl Tryz.eqGuardType51 true heq ?_)
    go_ret
    exact ⟨rfl, below_setRow d8 (by omega) _⟩
end Go.Proofs.YtkpebabbnndopaaGreatDoor.keys

/- All: the walk, of any program whose calls are as Code asks. -/
namespace Go.Proofs.YtkpebabbnndopaaGreatDoor
open Go.RowKit
set_option linter.unusedVariables false

theorem IntsArg.to {w w' : World} {p : Option Addr} {n c : Nat} (h : IntsArg w p n c) (hb : Below w.heap.size w w') : IntsArg w' p n c := by
  refine ⟨h.1, ?_⟩
  rcases h.2 with h | ⟨b, o, e, h⟩
  · exact .inl h
  · refine .inr ⟨b, o, e, fun i hi => ?_⟩
    obtain ⟨x, hx⟩ := h i hi
    exact ⟨x, by rw [hb.cell (block_lt_of_cell hx), hx]⟩
theorem OpsArg2.to {w w' : World} {p : Option Addr} {n c : Nat} (h : OpsArg2 w p n c) (hb : Below w.heap.size w w') : OpsArg2 w' p n c := by
  refine ⟨h.1, ?_⟩
  rcases h.2 with h | ⟨b, o, e, h⟩
  · exact .inl h
  · refine .inr ⟨b, o, e, fun i hi => ?_⟩
    obtain ⟨k, a, d, s, h1, h2, h3, h4, h5, h6, h7, h8⟩ := h i hi
    exact ⟨k, a, d, s, h1, h2, h3, h4, by rw [hb.cell (block_lt_of_cell h5), h5], by rw [hb.cell (block_lt_of_cell h6), h6], by rw [hb.cell (block_lt_of_cell h7), h7], by rw [hb.cell (block_lt_of_cell h8), h8]⟩
set_option maxRecDepth 20000 in
theorem all_walk {Rep : World → List Nat → Value → St → Nat → Prop} (C : Code Rep) (root : ByteArray) (m : Int) (po : Option Addr) (no co : Nat) (ps : Option Addr) (ns cs : Nat) (label text : ByteArray) (n : Int) (h0 : root.size ≤ maxLen) (hm : (Lit.int .i64 m).wf = true) (h4 : label.size ≤ maxLen) (h5 : text.size ≤ maxLen) (hn : (Lit.int .i64 n).wf = true) (w : World) (hG : Glob w) (hown : IntsArg w po no co) (hscr : OpsArg2 w ps ns cs) :
    Calls Tryz.prog 6 #[.string root, .int .i64 m, .slice po no co, .slice ps ns cs, .string label, .string text, .int .i64 n] w fun e w' => e = .returned (.bool true) ∧ Below w.heap.size w w' := by
  have HA : Hid (∀ W, Calls Tryz.prog 13 #[.string root, .string label, .int .i64 n] W fun e w' => e = .returned (.bool true) ∧ Below W.heap.size W w') := fun W => derives.walk root label n h0 h4 hn W
  have HB : Hid (∀ W, Calls Tryz.prog 14 #[.string root, .string label, .string text, .string label] W fun e w' => e = .returned (.bool true) ∧ Below W.heap.size W w') := fun W => seals.walk root label text label h0 h4 h5 h4 W
  have HC : Hid (∀ W, Calls Tryz.prog 15 #[.string root, .int .i64 m, .int .i64 n, .int .i64 n] W fun e w' => e = .returned (.bool true) ∧ Below W.heap.size W w') := fun W => keys.walk root m n n h0 hm hn hn W
  have HD : Hid (∀ W, Below w.heap.size w W → Calls Tryz.prog 5 #[.string root, .int .i64 m, .slice po no co, .slice ps ns cs] W fun e w' => e = .returned (.bool true) ∧ Below W.heap.size W w') := fun W hb => closes_walk C root m po no co ps ns cs (bounds_i64 hm).1 (bounds_i64 hm).2 W (hG.below hb) (hown.to hb) (hscr.to hb)
  clear h0 hm h4 h5 hn hG hown hscr
  go_enter Tryz.func6, Tryz.ntmps6
  go_wp2_with fail
  go_loopg [15] 2 (fun k v wr => ∃ j : Nat, v = .int .i64 j ∧ j + k = 2 ∧ Hid (Below w.heap.size w wr))
  case atStart => exact ⟨0, rfl, by omega, Below.refl _ _⟩
  case round =>
    obtain ⟨j, rfl, hjk, HR⟩ := hrel
    by_cases hj : (j : Int) < 2
    · go_wp2_with fail
      refine (HA.out _).mono ?_
      rintro e w1 ⟨rfl, b1⟩
      have HR1 : Hid (Below w.heap.size w w1) := HR.out.trans (b1.mono HR.out.size)
      clear b1 HR
      go_wp2_with fail
      refine (HB.out _).mono ?_
      rintro e w2 ⟨rfl, b2⟩
      have HR2 : Hid (Below w.heap.size w w2) := HR1.out.trans (b2.mono HR1.out.size)
      clear b2 HR1
      go_wp2_with fail
      refine (HC.out _).mono ?_
      rintro e w3 ⟨rfl, b3⟩
      have HR3 : Hid (Below w.heap.size w w3) := HR2.out.trans (b3.mono HR2.out.size)
      clear b3 HR2
      go_wp2_with fail
      refine (HD.out _ HR3.out).mono ?_
      rintro e w4 ⟨rfl, b4⟩
      have HR4 : Hid (Below w.heap.size w w4) := HR3.out.trans (b4.mono HR3.out.size)
      clear b4 HR3
      go_wp2_with fail
      go_roundg (gk - 1)
      case measure => omega
      case rel => exact ⟨j + 1, by go_num, by omega, HR4⟩
    · go_wp2_with fail
      go_ret
      exact ⟨rfl, HR.out⟩
end Go.Proofs.YtkpebabbnndopaaGreatDoor

/- All. -/
namespace Go.Proofs.YtkpebabbnndopaaGreatDoor.all
open Go.ChangeShapes Go.WideShapes Go.ChangeAt Go.RowKit
open Go.ChangeMaps (open_string shut_string)
set_option linter.unusedVariables false
theorem laid : laidOutB Tryz.prog = true := by kernel_rfl

set_option maxRecDepth 100000 in
theorem lifted (os : Os) (started : os.Started) (H : Type) (enc : TypeId × Value → H) :
    ReturnsInHanded {} Tryz.checked os 6 .any (fun w args => (Rows.allSpec.pre enc Tryz.prog Tryz.f6 [] false w args ∧ laidMetH Tryz.prog [("errors.errorType", Rows.laid_errors_errorType)] w) ∧ sizedMet enc Tryz.prog Tryz.f6 (OpenSpec.ofChange Rows.allSpec) false w args)
      (Rows.allSpec.post enc Tryz.prog Tryz.f6 false true false false) := by
  refine returnsInHanded_of_change_and (C := Tryz.checked) (X := fun w _ => laidMetH Tryz.prog [("errors.errorType", Rows.laid_errors_errorType)] w) (fun _ _ _ hh h => h.of_heap hh) lpOwn started (by kernel_rfl) Tryz.func6
    (ChangeSpec.witness_at (enc := enc) (C := Tryz.checked) (os := os) (X := fun w _ => laidMetH Tryz.prog [("errors.errorType", Rows.laid_errors_errorType)] w) false ({ World.holding Tryz.prog os ⟨#[], #[], []⟩ with heap := (World.holding Tryz.prog os ⟨#[], #[], []⟩).heap.modify 0 fun
      | .cells _ t frozen => .cells #[errT] t frozen
      | o => o }) #[.string ByteArray.empty, .int .i64 0, .slice none 0 0, .slice none 0 0, .string ByteArray.empty, .string ByteArray.empty, .int .i64 0] 8 rfl (by kernel_rfl) (by kernel_rfl) (by kernel_rfl) (by kernel_rfl) (by kernel_rfl) (laidMetH_of_parts (laidMet_nil _ _) (by kernel_rfl))) ?_
  intro W base args ds gs before hval0 hW _ _ hL _
  have hG := glob_of_laid hL
  have hval : ∀ (j : Nat) t v, Tryz.f6.params[j]? = some t → args[j]? = some v → Value.okWide Tryz.prog W .any base t v := hval0
  have hW' := hW
  obtain ⟨p, q, hA0, hV0, rfl, hfz, hnd⟩ := hW
  have hV : DataW.TrodVars enc Tryz.prog W (fun _ => true) [] gs q := hV0
  have hA : DataW.TrodAll enc Tryz.prog W 0 (fun _ => true) true Tryz.f6.params.toList args.toList ds p := hA0
  rw [Tryz.params6] at hA hval
  obtain ⟨v0, vs0, d0, ds0, p0, q0, hargs, rfl, rfl, h0, r0⟩ := trodAll_cons hA
  obtain ⟨v1, vs1, d1, ds1, p1, q1, rfl, rfl, rfl, h1, r1⟩ := trodAll_cons r0
  obtain ⟨v2, vs2, d2, ds2, p2, q2, rfl, rfl, rfl, h2, r2⟩ := trodAll_cons r1
  obtain ⟨v3, vs3, d3, ds3, p3, q3, rfl, rfl, rfl, h3, r3⟩ := trodAll_cons r2
  obtain ⟨v4, vs4, d4, ds4, p4, q4, rfl, rfl, rfl, h4, r4⟩ := trodAll_cons r3
  obtain ⟨v5, vs5, d5, ds5, p5, q5, rfl, rfl, rfl, h5, r5⟩ := trodAll_cons r4
  obtain ⟨v6, vs6, d6, ds6, p6, q6, rfl, rfl, rfl, h6, r6⟩ := trodAll_cons r5
  obtain ⟨rfl, rfl, rfl⟩ := trodAll_nil r6
  obtain rfl : args = #[v0, v1, v2, v3, v4, v5, v6] := by cases args; simp_all
  obtain ⟨rfl, rfl⟩ := trodVars_none hV
  obtain ⟨a0, rfl, rfl, rfl, w0⟩ := open_string Tryz.underlying9 (hval 0 9 v0 rfl rfl) h0
  obtain ⟨a1, rfl, rfl, rfl, w1⟩ := open_int Tryz.underlying3 (hval 1 3 v1 rfl rfl) h1
  obtain ⟨a2, n2, c2, rfl⟩ := okWide_slice Tryz.underlying22 (hval 2 22 v2 rfl rfl)
  obtain ⟨a3, n3, c3, rfl⟩ := okWide_slice Tryz.underlying23 (hval 3 23 v3 rfl rfl)
  obtain ⟨a4, rfl, rfl, rfl, w4⟩ := open_string Tryz.underlying9 (hval 4 9 v4 rfl rfl) h4
  obtain ⟨a5, rfl, rfl, rfl, w5⟩ := open_string Tryz.underlying9 (hval 5 9 v5 rfl rfl) h5
  obtain ⟨a6, rfl, rfl, rfl, w6⟩ := open_int Tryz.underlying3 (hval 6 3 v6 rfl rfl) h6
  have hlt : ∀ x, x ∈ p2 ++ (p3 ++ ([])) → x.block < W.heap.size := fun x hx => by simpa using hW'.lt x (by simpa using hx)
  refine (all_walk code a0 a1 a2 n2 c2 a3 n3 c3 a4 a5 a6 w0 w1 w4 w5 w6 W hG (ints_arg h2) (ops_arg2 h3)).mono fun e W' ⟨he, hg⟩ => ?_
  subst he
  refine ⟨_, rfl, _, _, _, [], [] ++ ([] ++ (p2 ++ (p3 ++ ([] ++ ([] ++ ([] ++ ([]))))))), [], hW', trodAll_mk1 (shut_bool Tryz.underlying4 _), ?_, rfl, hg.frame _, fun h => by cases h⟩
  exact (trodAll_cons_mk (shut_string Tryz.underlying9 w0) (trodAll_cons_mk (shut_int Tryz.underlying3 w1) (trodAll_cons_mk (Below.trod laid (by kernel_rfl) (of_decide_eq_true (by kernel_rfl)) h2 hg (fun x hx => hlt x (List.mem_append_left _ hx))) (trodAll_cons_mk (Below.trod laid (by kernel_rfl) (of_decide_eq_true (by kernel_rfl)) h3 hg (fun x hx => hlt x (List.mem_append_right _ (List.mem_append_left _ hx)))) (trodAll_cons_mk (shut_string Tryz.underlying9 w4) (trodAll_cons_mk (shut_string Tryz.underlying9 w5) (trodAll_cons_mk (shut_int Tryz.underlying3 w6) trodAll_mk0)))))))

theorem over : Rows.allRow.holds Tryz.pinned (OpenSpec.ofChange Rows.allSpec) :=
  OpenClaim.holds_of_wide 6 Tryz.f6 rfl rfl rfl rfl rfl rfl rfl ⟨rfl, rfl, rfl, rfl, rfl⟩ rfl rfl rfl rfl rfl (by kernel_rfl) Tryz.func6 (by kernel_rfl)
    (of_decide_eq_true (by kernel_rfl)) (by unfold Func.isWrapper; first | (rw [if_pos (by decide +kernel)]; kernel_rfl) | (rw [if_neg (by decide +kernel)]; exact ⟨rfl, rfl⟩))
    (fun os started H enc _ => lifted os started H enc)

theorem proved : Rows.AllSaid :=
  over
end Go.Proofs.YtkpebabbnndopaaGreatDoor.all
namespace Go.Proofs.YtkpebabbnndopaaGreatDoor
open Go
theorem all_holds : Rows.AllCardSaid :=
  Claim7.holds_tied_plain_at .later [] [.handle] true _ true
    all.proved (fun _ h => by cases h) (by kernel_rfl) (fun _ h => by cases h) all_row_tie rfl ⟨rfl, rfl⟩ (by kernel_rfl) rfl
    (fun f fn hf hfn => by
      obtain rfl : f = 6 := Option.some.inj ((show Tryz.prog.funcNamed "epoch/epochlaw.All" = some 6 by kernel_rfl).symm.trans hf) |>.symm
      obtain rfl : fn = Tryz.f6 := (Option.some.inj (Tryz.func6.symm.trans hfn)).symm
      exact ⟨by kernel_rfl, fun j t ht => by
        rw [Tryz.params6] at ht
        rcases j with _ | _ | _ | _ | _ | _ | _ | j
        · obtain rfl : t = 9 := by simpa using ht.symm
          exact (show Tryz.prog.wantsStandIn 9 = false by kernel_rfl)
        · obtain rfl : t = 3 := by simpa using ht.symm
          exact (show Tryz.prog.wantsStandIn 3 = false by kernel_rfl)
        · obtain rfl : t = 22 := by simpa using ht.symm
          exact (show Tryz.prog.wantsStandIn 22 = false by kernel_rfl)
        · obtain rfl : t = 23 := by simpa using ht.symm
          exact (show Tryz.prog.wantsStandIn 23 = false by kernel_rfl)
        · obtain rfl : t = 9 := by simpa using ht.symm
          exact (show Tryz.prog.wantsStandIn 9 = false by kernel_rfl)
        · obtain rfl : t = 9 := by simpa using ht.symm
          exact (show Tryz.prog.wantsStandIn 9 = false by kernel_rfl)
        · obtain rfl : t = 3 := by simpa using ht.symm
          exact (show Tryz.prog.wantsStandIn 3 = false by kernel_rfl)
        · simp at ht⟩)
    (by kernel_rfl)
#print axioms all_holds
end Go.Proofs.YtkpebabbnndopaaGreatDoor
