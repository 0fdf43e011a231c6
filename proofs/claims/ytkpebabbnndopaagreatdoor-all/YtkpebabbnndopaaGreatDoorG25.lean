import Derived.Test.YtkpebabbnndopaaGreatDoorG24
import Derived.Test.YtkpebabbnndopaaGreatDoorC09
import Derived.WalkKit
import Derived.WalkSpells
import Derived.WalkLawsBesides
import Derived.Deep.WholeRow
import Derived.BigRegion
import Derived.Test.YtkpebabbnndopaaGreatDoorC11
import Derived.Test.YtkpebabbnndopaaGreatDoorG15
import Derived.Test.YtkpebabbnndopaaGreatDoorG01
import Derived.Deep.DeepCutAuto
/- openFrame. -/
namespace Go.Proofs.YtkpebabbnndopaaGreatDoor
open Go.RowKit
set_option linter.unusedVariables false
set_option linter.unusedSimpArgs false

abbrev strSeal : ByteArray := ⟨#[105, 116, 32, 100, 111, 101, 115, 32, 110, 111, 116, 32, 111, 112, 101, 110, 32, 119, 105, 116, 104, 32, 105, 116, 115, 32, 107, 101, 121]⟩
set_option maxHeartbeats 2000000 in
theorem openFrame_any {F : FuncId} {pre : Array Value} {q : Option Nat} (dv : Drv F pre q) (s : Nat → Int) (hs : ∀ i, 0 ≤ s i ∧ s i < 256) (fb fo c : Nat) (l : List UInt8) (h7 : 7 ≤ l.length) (h47 : l.length ≤ 47) (hc : l.length ≤ c) (w : World)
    (hl : ∀ i (h : i < l.length), w.cell? ⟨fb, fo + i, none⟩ = some (cellB l[i])) (hq : Has q w) (hnb : q ≠ some fb) :
    Calls Tryz.prog 151 #[.slice (some ⟨fb, fo, none⟩) l.length c, Agg8 s, .func (.func F) pre #[]] w fun e w' => (∃ n, (0 < n ∧ n ≤ l.length / 8 + 1) ∧ Tick q n w w') ∧ ((OpenOk s (l.take 3) (l.drop 3) = false ∧ e = .returned (.tuple #[.slice none 0 0, faultV 7 strSeal])) ∨ (OpenOk s (l.take 3) (l.drop 3) = true ∧ ∃ g, e = .returned (.tuple #[.slice (some ⟨g, 0, none⟩) (l.length - 7) (l.length - 7), .nilIface]) ∧ w.heap.size ≤ g ∧ w'.heap[g]? = some (.cells (RowB (OpenT s (l.drop 3)) (l.length - 7)) 5 (0, 0)))) := by
  have hlt : fb < w.heap.size := block_lt_of_cell (hl 0 (by omega))
  obtain ⟨k, hk⟩ : ∃ k, l.length = k + 7 := ⟨l.length - 7, by omega⟩
  have HOP : Hid (∀ W, Below w.heap.size w W → Calls Tryz.prog 77 #[Agg8 s, .slice (some ⟨fb, fo, none⟩) 3 c, .slice (some ⟨fb, fo + 3, none⟩) (k + 4) (c - 3), .func (.func F) pre #[]] W fun e w' => (∃ n, (0 < n ∧ n ≤ (k + 7) / 8 + 1) ∧ Tick q n W w') ∧ ((OpenOk s (l.take 3) (l.drop 3) = false ∧ e = .returned (.tuple #[.slice none 0 0, .bool false])) ∨ (OpenOk s (l.take 3) (l.drop 3) = true ∧ ∃ g, e = .returned (.tuple #[.slice (some ⟨g, 0, none⟩) k k, .bool true]) ∧ W.heap.size ≤ g ∧ w'.heap[g]? = some (.cells (RowB (OpenT s (l.drop 3)) k) 5 (0, 0))))) := fun W hW => by
    have h3 : (l.take 3).length = 3 := by rw [List.length_take]; omega
    have := open_long_d dv s hs (some ⟨fb, fo, none⟩) (l.take 3) c (by omega) fb (fo + 3) k (c - 3) (l.drop 3) (by rw [List.length_drop]; omega) (by omega) (by omega) W
      (.inr ⟨fb, fo, rfl, fun i hi => by
        rw [hW.cell (p := ⟨fb, fo + i, none⟩) hlt, hl i (by omega), List.getElem_take]⟩)
      (fun i hi => by
        rw [List.length_drop] at hi
        rw [hW.cell (p := ⟨fb, fo + 3 + i, none⟩) hlt, show fo + 3 + i = fo + (3 + i) by omega, hl (3 + i) (by omega), List.getElem_drop]) (hq.tick (Tick.ofBelow hW)) (fun b o e => by cases e; exact hnb) hnb
    rw [h3] at this
    exact this
  have HTK : Hid (∀ n W W', Below w.heap.size w W → Tick q n W W' → Tick q n w W') := fun n W W' h1 h2 => by have := (Tick.ofBelow (q := q) h1).trans h2; rwa [Nat.zero_add] at this
  rw [hk, show k + 7 - 7 = k by omega]
  have hc3 : (3 : Int) ≤ c := by omega
  have hk3 : (3 : Int) ≤ ((k + 7 : Nat) : Int) := by omega
  have hkc : ((k + 7 : Nat) : Int) ≤ c := by omega
  obtain ⟨OK, hOK⟩ : ∃ OK, OpenOk s (l.take 3) (l.drop 3) = OK := ⟨_, rfl⟩
  obtain ⟨TX, hTX⟩ : ∃ TX, OpenT s (l.drop 3) = TX := ⟨_, rfl⟩
  rw [hOK, hTX] at HOP ⊢
  have hsl1 : ∀ W, (Instr.sliceAt 34 (.slice (some ⟨fb, fo, none⟩) (k + 7) c) none (some (.int .i64 3)) none).run Tryz.prog W = .ok (.slice (some ⟨fb, fo, none⟩) 3 c) W := fun W => by
    simp [go_sem, hc3]
  have hsl2 : ∀ W, (Instr.sliceAt 34 (.slice (some ⟨fb, fo, none⟩) (k + 7) c) (some (.int .i64 3)) none none).run Tryz.prog W = .ok (.slice (some ⟨fb, fo + 3, none⟩) (k + 4) (c - 3)) W := fun W => by
    have e1 : ¬ (c : Int) = 3 := by omega
    have e2 : ¬ c = 3 := by omega
    have e3 : ¬ (3 = c) := by omega
    simp [go_sem, hk3, hkc, e1, e2, e3]
    omega
  have HOP2 : Hid (∀ W, Below w.heap.size w W → Calls Tryz.prog 77 #[Agg8 s, .slice (some ⟨fb, fo, none⟩) 3 c, .slice (some ⟨fb, fo + 3, none⟩) (k + 4) (c - 3), .func (.func F) pre #[]] W fun e w' => ∃ v, e = .returned (.tuple #[v, .bool OK]) ∧ Hid ((∃ n, (0 < n ∧ n ≤ (k + 7) / 8 + 1) ∧ Tick q n W w') ∧ ((OK = false ∧ v = .slice none 0 0) ∨ (OK = true ∧ ∃ g, v = .slice (some ⟨g, 0, none⟩) k k ∧ W.heap.size ≤ g ∧ w'.heap[g]? = some (.cells (RowB TX k) 5 (0, 0)))))) := fun W hW => by
    refine (HOP.out W hW).mono fun e w' ⟨h1, h2⟩ => ?_
    rcases h2 with ⟨ho, he⟩ | ⟨ho, g, he, hg, hr⟩
    · exact ⟨_, by rw [he, ho], h1, .inl ⟨ho, rfl⟩⟩
    · exact ⟨_, by rw [he, ho], h1, .inr ⟨ho, g, rfl, hg, hr⟩⟩
  clear HOP
  clear hl hq hnb hs hOK hTX h7 h47 hc hk dv hlt hc3 hk3 hkc
  obtain ⟨N, hN⟩ : ∃ N, k + 7 = N := ⟨_, rfl⟩
  obtain ⟨N4, hN4⟩ : ∃ N, k + 4 = N := ⟨_, rfl⟩
  rw [hN, hN4] at hsl2
  rw [hN] at hsl1
  rw [hN4] at HOP2
  rw [hN]
  rw [hN] at HOP2
  clear hN hN4
  go_enter Tryz.func151, Tryz.ntmps151
  go_upto_region 1 with fail
  have b1 : Below w.heap.size w (w.alloc (.cells (Cells8 s) 51)) := (Below.refl _ w).alloc (Nat.le_refl _) _
  go_cut [8, 9] (fun s8 s9 wx => Hid (∃ n, (0 < n ∧ n ≤ N / 8 + 1) ∧ Tick q n w wx) ∧ ((OK = false ∧ s8 = .slice none 0 0 ∧ s9 = .bool false) ∨ (OK = true ∧ s9 = .bool true ∧ ∃ g, s8 = .slice (some ⟨g, 0, none⟩) k k ∧ Hid (w.heap.size ≤ g ∧ wx.heap[g]? = some (.cells (RowB TX k) 5 (0, 0))))))
  case first =>
    go_region_with (go_at_call 77; refine (HOP2.out _ b1.drew).mono ?_; rintro e w1 ⟨v, rfl, hx⟩)
    all_goals
      have HX : Hid ((∃ n, (0 < n ∧ n ≤ N / 8 + 1) ∧ Tick q n w w1) ∧ ((OK = false ∧ v = .slice none 0 0) ∨ (OK = true ∧ ∃ g, v = .slice (some ⟨g, 0, none⟩) k k ∧ w.heap.size ≤ g ∧ w1.heap[g]? = some (.cells (RowB TX k) 5 (0, 0))))) := by
        obtain ⟨⟨n, hn, t1⟩, h2⟩ := hx.out
        refine ⟨⟨n, hn, HTK.out n _ _ b1.drew t1⟩, ?_⟩
        rcases h2 with h | ⟨h, g, h3, h4, h5⟩
        · exact .inl h
        · exact .inr ⟨h, g, h3, by have := b1.size; have h6 : (w.alloc (.cells (Cells8 s) 51)).heap.size ≤ g := h4; omega, h5⟩
      clear hx
      go_wp2_with fail
      go_meet
      refine ⟨HX.out.1, ?_⟩
      rcases HX.out.2 with ⟨h1, h2⟩ | ⟨h1, g, h2, h3⟩
      · exact .inl ⟨h1, h2, by rw [h1]⟩
      · exact .inr ⟨h1, by rw [h1], g, h2, h3⟩
  case rest =>
    obtain ⟨HT, ⟨ho, rfl, rfl⟩ | ⟨ho, rfl, g, rfl, HG⟩⟩ := hcut
    · clear HOP2 HTK b1
      go_wp2_with fail
      go_ret2
      exact ⟨HT.out, .inl ⟨ho, rfl⟩⟩
    · clear HOP2 HTK b1
      go_wp2_with fail
      go_ret2
      exact ⟨HT.out, .inr ⟨ho, g, rfl, HG.out.1, HG.out.2⟩⟩
end Go.Proofs.YtkpebabbnndopaaGreatDoor

/- openBehind. -/
namespace Go.Proofs.YtkpebabbnndopaaGreatDoor
open Go.RowKit Go.Maps
set_option linter.unusedVariables false
set_option linter.unusedSimpArgs false

theorem KeepAt.drew {w : World} {pm : Nat} {L : List PlI} {B : PlI → Nat} {key : PlI → Nat → Int} (h : KeepAt w pm L B key) : KeepAt w.drew pm L B key := h.below (Below.refl _ _).drew
set_option maxHeartbeats 2000000 in
theorem behind_no {w : World} {b pm : Nat} {L : List PlI} {B : PlI → Nat} {key : PlI → Nat → Int} (hk : KeepAt w pm L B key) (hb : w.cell? ⟨b, 329, none⟩ = some (.map (some pm))) (x : PlI) (hx : wfP x) (hn : x ∉ L) (sv : Value) :
    Calls Tryz.prog 125 #[.pointer (some ⟨b, 0, none⟩), encP x, sv] w fun e w' => ∃ s, e = .returned (.tuple #[.slice none 0 0, faultV 5 s]) ∧ Below w.heap.size w w' := by
  obtain ⟨w1, hw1⟩ : ∃ w1, w.alloc (.cells #[.int .i64 x.1, .int .i64 x.2] 123) = w1 := ⟨_, rfl⟩
  have b1 : Below w.heap.size w w1 := by rw [← hw1]; exact (Below.refl _ w).alloc (Nat.le_refl _) _
  have k1 : w1.heap[w.heap.size]? = some (.cells #[.int .i64 x.1, .int .i64 x.2] 123 (0, 0)) := by rw [← hw1]; exact (MapKept.heap_alloc _ _).1
  have hA : ∀ o, w1.cell? ⟨w.heap.size, o, none⟩ = #[Value.int .i64 x.1, .int .i64 x.2][o]? := fun o => cell_of_row _ _ _ _ _ _ k1
  have hbl := block_lt_of_cell hb
  have c1 : w1.cell? ⟨b, 329, none⟩ = some (.map (some pm)) := by rw [b1.cell (p := ⟨b, 329, none⟩) hbl]; exact hb
  have hlk : (Instr.lookup 107 (.map (some pm)) (encP x) true).run Tryz.prog w1.drew = .ok (.tuple #[.pointer none, .bool false]) w1.drew := by
    rcases (hk.below b1).drew.look x hx true with ⟨_, hr⟩ | ⟨hm, _⟩
    · exact hr
    · exact absurd hm hn
  have HB : Hid (Below w.heap.size w w1) := b1
  have HW : Hid (w.alloc (.cells #[.int .i64 x.1, .int .i64 x.2] 123) = w1) := hw1
  clear hk hb b1 k1 hw1 hn hx
  go_enter Tryz.func125, Tryz.ntmps125
  go_upto_region 1 with fail
  rw [HW.out]
  go_cut [8, 9] (fun s8 s9 wx => s8 = .pointer none ∧ s9 = .bool false ∧ Below w.heap.size w wx)
  case first =>
    go_region
    all_goals
      go_wp2_with fail
      go_meet
      exact ⟨rfl, rfl, HB.out.drew⟩
  case rest =>
    obtain ⟨rfl, rfl, hb2⟩ := hcut
    clear hlk hA c1 HW HB
    go_wp2_with fail
    go_ret2
    exact ⟨⟨_, rfl⟩, hb2⟩
set_option maxHeartbeats 4000000 in
set_option maxRecDepth 20000 in
theorem behind_yes {w : World} {b pm : Nat} {cs : Array Value} {L : List PlI} {B : PlI → Nat} {key : PlI → Nat → Int} (hk : KeepAt w pm L B key) (hh : Home (some b) b 112 cs w) (hb : cs[329]? = some (.map (some pm))) (hbp : b ≠ pm) (hbB : ∀ y, y ∈ L → B y ≠ b) (x : PlI) (hx : x ∈ L) (hkb : ∀ i, 0 ≤ key x i ∧ key x i < 256) (fb fo c : Nat) (l : List UInt8) (h7 : 7 ≤ l.length) (h47 : l.length ≤ 47) (hc : l.length ≤ c)
    (hl : ∀ i (h : i < l.length), w.cell? ⟨fb, fo + i, none⟩ = some (cellB l[i])) (hnb : b ≠ fb) :
    Calls Tryz.prog 125 #[.pointer (some ⟨b, 0, none⟩), encP x, .slice (some ⟨fb, fo, none⟩) l.length c] w fun e w' => ∃ cs' n, (0 < n ∧ n ≤ l.length / 8 + 1) ∧ Mv (some b) n 0 0 cs cs' ∧ Home (some b) b 112 cs' w' ∧
      ((OpenOk (key x) (l.take 3) (l.drop 3) = false ∧ e = .returned (.tuple #[.slice none 0 0, faultV 7 strSeal]) ∧ Outside [b] w w' ∧ KeepAt w' pm L B key) ∨
       (OpenOk (key x) (l.take 3) (l.drop 3) = true ∧ Outside [b, pm, B x] w w' ∧ KeepAt w' pm (L.erase x) B key ∧ ∃ g, e = .returned (.tuple #[.slice (some ⟨g, 0, none⟩) (l.length - 7) (l.length - 7), .nilIface]) ∧ w.heap.size ≤ g ∧ w'.heap[g]? = some (.cells (RowB (OpenT (key x) (l.drop 3)) (l.length - 7)) 5 (0, 0)))) := by
  have hw := hk.wf x hx
  obtain ⟨w1, hw1⟩ : ∃ w1, w.alloc (.cells #[.int .i64 x.1, .int .i64 x.2] 123) = w1 := ⟨_, rfl⟩
  have b1 : Below w.heap.size w w1 := by rw [← hw1]; exact (Below.refl _ w).alloc (Nat.le_refl _) _
  have k1 : w1.heap[w.heap.size]? = some (.cells #[.int .i64 x.1, .int .i64 x.2] 123 (0, 0)) := by rw [← hw1]; exact (MapKept.heap_alloc _ _).1
  have hA : ∀ o, w1.cell? ⟨w.heap.size, o, none⟩ = #[Value.int .i64 x.1, .int .i64 x.2][o]? := fun o => cell_of_row _ _ _ _ _ _ k1
  have hbl := hh.lt
  have c1 : w1.cell? ⟨b, 329, none⟩ = some (.map (some pm)) := by rw [(hh.below b1).cells.1]; exact hb
  have hlk : (Instr.lookup 107 (.map (some pm)) (encP x) true).run Tryz.prog w1.drew = .ok (.tuple #[.pointer (some ⟨B x, 0, none⟩), .bool true]) w1.drew := by
    rcases (hk.below b1).drew.look x hw true with ⟨hm, _⟩ | ⟨_, hr⟩
    · exact absurd hx hm
    · exact hr
  have hfl : fb < w.heap.size := block_lt_of_cell (hl 0 (by omega))
  have HOF : Hid (∀ W, Below w.heap.size w W → Calls Tryz.prog 151 #[.slice (some ⟨fb, fo, none⟩) l.length c, Agg8 (key x), .func (.func 46) #[.pointer (some ⟨b, 0, none⟩)] #[]] W fun e w' => (∃ n, (0 < n ∧ n ≤ l.length / 8 + 1) ∧ Tick (some b) n W w') ∧ ((OpenOk (key x) (l.take 3) (l.drop 3) = false ∧ e = .returned (.tuple #[.slice none 0 0, faultV 7 strSeal])) ∨ (OpenOk (key x) (l.take 3) (l.drop 3) = true ∧ ∃ g, e = .returned (.tuple #[.slice (some ⟨g, 0, none⟩) (l.length - 7) (l.length - 7), .nilIface]) ∧ W.heap.size ≤ g ∧ w'.heap[g]? = some (.cells (RowB (OpenT (key x) (l.drop 3)) (l.length - 7)) 5 (0, 0))))) := fun W hW => openFrame_any (derive_g b) (key x) hkb fb fo c l h7 h47 hc W (fun i hi => by rw [hW.cell (p := ⟨fb, fo + i, none⟩) hfl]; exact hl i hi) (hh.below hW).has (by simp; exact hnb)
  have HFG : Hid (∀ W, KeepAt W pm L B key → Calls Tryz.prog 134 #[.map (some pm), encP x] W fun e w' => e = .returned (.tuple #[]) ∧ KeepAt w' pm (L.erase x) B key ∧ Outside [pm, B x] W w') := fun W hW => forget_any hW x hx
  obtain ⟨OK, hOK⟩ : ∃ OK, OpenOk (key x) (l.take 3) (l.drop 3) = OK := ⟨_, rfl⟩
  obtain ⟨TX, hTX⟩ : ∃ TX, OpenT (key x) (l.drop 3) = TX := ⟨_, rfl⟩
  obtain ⟨N7, hN7⟩ : ∃ N7, l.length - 7 = N7 := ⟨_, rfl⟩
  rw [hOK, hTX, hN7] at HOF ⊢
  obtain ⟨K, hK⟩ : ∃ K, key x = K := ⟨_, rfl⟩
  rw [hK] at HOF
  obtain ⟨bx, hbx⟩ : ∃ bx, B x = bx := ⟨_, rfl⟩
  have hrow := hk.row x hx
  rw [hbx, hK] at hrow
  rw [hbx] at hlk HFG ⊢
  have HKE : Hid (KeepAt w pm L B key ∧ bx ≠ b ∧ pm ≠ b ∧ bx < w.heap.size ∧ (∀ y, y ∈ L → B y ≠ b)) := ⟨hk, by rw [← hbx]; exact hbB x hx, fun e => hbp e.symm, (Array.getElem?_eq_some_iff.1 hrow).1, hbB⟩
  have HH : Hid (Home (some b) b 112 cs w) := hh
  have HP : Hid (cs[329]? = some (.map (some pm))) := hb
  have HB : Hid (Below w.heap.size w w1) := b1
  have HW : Hid (w.alloc (.cells #[.int .i64 x.1, .int .i64 x.2] 123) = w1) := hw1
  have HROW : Hid (w.heap[bx]? = some (.cells (Cells8 K) 51 (0, 0))) := hrow
  have HK1 : Hid (w1.heap[w.heap.size]? = some (.cells #[.int .i64 x.1, .int .i64 x.2] 123 (0, 0))) := k1
  have hmf : ∀ (fn : Fn) (first cap : Array Value) (w : World), (Instr.makeFunc fn first cap).run Tryz.prog w = .ok (.func fn first cap) w := fun _ _ _ _ => rfl
  have hlf : l.length / 8 + 1 = l.length / 8 + 1 := rfl
  obtain ⟨NB, hNB⟩ : ∃ NB, l.length / 8 + 1 = NB := ⟨_, rfl⟩
  rw [hNB] at HOF ⊢
  obtain ⟨LL, hLL⟩ : ∃ LL, l.length = LL := ⟨_, rfl⟩
  rw [hLL] at HOF ⊢
  clear hk hh hb b1 k1 hw1 hx hw hkb hl hnb h7 h47 hc hOK hTX hN7 hK hbx hrow hbB hbp hlf hNB hLL
  go_enter Tryz.func125, Tryz.ntmps125
  go_upto_region 1 with fail
  rw [HW.out]
  go_cut [8, 9] (fun s8 s9 wx => s8 = .pointer (some ⟨bx, 0, none⟩) ∧ s9 = .bool true ∧ Below w1.heap.size w1 wx)
  case first =>
    go_region
    all_goals
      go_wp2_with fail
      go_meet
      exact ⟨rfl, rfl, (Below.refl _ _).drew⟩
  case rest =>
    obtain ⟨rfl, rfl, hb2⟩ := hcut
    have HB2 : Hid (Below w.heap.size w wc) := HB.out.trans (hb2.mono HB.out.size)
    have kk : wc.heap[bx]? = some (.cells (Cells8 K) 51 (0, 0)) := by rw [HB2.out.block _ HKE.out.2.2.2.1]; exact HROW.out
    have kp : wc.heap[w.heap.size]? = some (.cells #[.int .i64 x.1, .int .i64 x.2] 123 (0, 0)) := by rw [hb2.block _ (Array.getElem?_eq_some_iff.1 HK1.out).1]; exact HK1.out
    have HKP : Hid (wc.heap[w.heap.size]? = some (.cells #[.int .i64 x.1, .int .i64 x.2] 123 (0, 0))) := kp
    clear hlk hA c1 HW hb2 kp
    go_wp2_with (refine wpList_load_row rfl 51 _ rfl bx rfl 51 (Cells8 K) (0, 0) _ kk Tryz.underlying51 rfl (by kernel_rfl) ?_)
    refine (HOF.out _ HB2.out).mono ?_
    rintro e w3 ⟨⟨n, hn, t3⟩, hcase⟩
    obtain ⟨cs3, u3⟩ := (HH.out.below HB2.out).tick t3
    have HU3 : Hid ((0 < n ∧ n ≤ NB) ∧ Mv (some b) n 0 0 cs cs3 ∧ Home (some b) b 112 cs3 w3 ∧ Outside [b] w w3 ∧ KeepAt w3 pm L B key ∧ w3.heap[w.heap.size]? = some (.cells #[.int .i64 x.1, .int .i64 x.2] 123 (0, 0))) := by
      refine ⟨hn, u3.mv, u3.home, (Outside.ofBelow HB2.out).trans u3.out (fun _ hi _ => hi), (HKE.out.1.below HB2.out).keep fun k hk hm => ?_, ?_⟩
      · refine u3.out.block k hk ?_
        rcases hm with rfl | hm
        · simp; exact HKE.out.2.2.1
        · obtain ⟨y, hy, rfl⟩ := List.mem_map.1 hm
          simp; exact HKE.out.2.2.2.2 y hy
      · exact u3.out.row HKP.out (by have := HH.out.lt; simp; omega)
    clear t3 u3 hn
    rcases hcase with ⟨ho, rfl⟩ | ⟨ho, g, rfl, hg, r3⟩
    · clear HOF HFG kk HKP
      go_wp2_with fail
      go_ret2
      exact ⟨cs3, n, HU3.out.1, HU3.out.2.1, HU3.out.2.2.1, .inl ⟨ho, rfl, HU3.out.2.2.2.1, HU3.out.2.2.2.2.1⟩⟩
    · have c3 : w3.cell? ⟨b, 329, none⟩ = some (.map (some pm)) := by
        rw [HU3.out.2.2.1.cells.1, HU3.out.2.1.out _ (.inr (by omega)) (fun _ => by show 329 ≠ 330; omega)]
        exact HP.out
      have hA3 : ∀ o, w3.cell? ⟨w.heap.size, o, none⟩ = #[Value.int .i64 x.1, .int .i64 x.2][o]? := fun o => cell_of_row _ _ _ _ _ _ HU3.out.2.2.2.2.2
      have HG : Hid (w.heap.size ≤ g ∧ w3.heap[g]? = some (.cells (RowB TX N7) 5 (0, 0))) := ⟨by have := HB2.out.size; omega, r3⟩
      clear HOF kk HKP hg r3
      go_upto_region 6 with fail
      go_cut [] (fun wx => Hid (KeepAt wx pm (L.erase x) B key ∧ Outside [pm, bx] w3 wx))
      case first =>
        go_region_with (go_at_call 134; refine (HFG.out _ HU3.out.2.2.2.2.1.drew).mono ?_; rintro e w4 ⟨rfl, k4, o4⟩)
        all_goals
          have HX : Hid (KeepAt w4 pm (L.erase x) B key ∧ Outside [pm, bx] w3 w4) := ⟨k4, ((Outside.refl _ w3).drew).trans o4 (fun _ hi _ => hi)⟩
          clear k4 o4
          go_wp2_with fail
          go_meet
          exact HX
      case rest =>
        have hX := hcut.out
        have HFIN : Hid (Home (some b) b 112 cs3 wc ∧ Outside [b, pm, bx] w wc ∧ wc.heap[g]? = some (.cells (RowB TX N7) 5 (0, 0))) := by
          obtain ⟨p1, p2, p3, p4, p5⟩ := HKE.out
          obtain ⟨q1, q2, q3, q4, q5, q6⟩ := HU3.out
          have hbn : b ∉ [pm, bx] := by simp; exact ⟨fun e => p3 e.symm, fun e => p2 e.symm⟩
          refine ⟨Home.own (hX.2.row q3.row hbn) q3.cnt, (q4.mono (fun i hi => by simp at hi; simp [hi])).trans hX.2 (fun i hi _ => (by
            simp only [List.mem_cons, List.not_mem_nil, or_false] at hi ⊢
            exact Or.inr hi)), ?_⟩
          exact hX.2.row HG.out.2 (by have := p1.lt; have := HG.out.1; simp; omega)
        have HX2 : Hid (KeepAt wc pm (L.erase x) B key) := hX.1
        clear hX hcut HFG c3 hA3
        go_wp2_with fail
        go_ret2
        exact ⟨cs3, n, HU3.out.1, HU3.out.2.1, HFIN.out.1, .inr ⟨ho, HFIN.out.2.1, HX2.out, g, rfl, HG.out.1, HFIN.out.2.2⟩⟩
end Go.Proofs.YtkpebabbnndopaaGreatDoor
