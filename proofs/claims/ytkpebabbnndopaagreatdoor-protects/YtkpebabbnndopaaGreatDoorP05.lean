import Derived.Test.YtkpebabbnndopaaGreatDoorP04
import Derived.WalkKit
import Derived.WalkSpells
import Derived.WalkLawsBesides
import Derived.Deep.DeepCutAuto
import Derived.Deep.RegionHeld3
import Derived.Deep.LoopGhost
/- The law's plays, as far as members protect. -/
namespace Go.Proofs.YtkpebabbnndopaaGreatDoor
open Go.RowKit
set_option linter.unusedVariables false

/-- a list of numbers among the arguments -/
def IntsArg (w : World) (p : Option Addr) (n c : Nat) : Prop := n ≤ c ∧ (n = 0 ∨ ∃ b o, p = some ⟨b, o, none⟩ ∧ ∀ i, i < n → ∃ x : Int, w.cell? ⟨b, o + i, none⟩ = some (.int .i64 x))
/-- a script among the arguments -/
def OpsArg (w : World) (p : Option Addr) (n c : Nat) : Prop := n ≤ c ∧ (n = 0 ∨ ∃ b o, p = some ⟨b, o, none⟩ ∧ ∀ i, i < n → ∃ (k a d : Int) (s : ByteArray), -9223372036854775808 ≤ a ∧ a ≤ 9223372036854775807 ∧ w.cell? ⟨b, o + i * 4, none⟩ = some (.int .i64 k) ∧ w.cell? ⟨b, o + i * 4 + 1, none⟩ = some (.int .i64 a) ∧ w.cell? ⟨b, o + i * 4 + 2, none⟩ = some (.int .i64 d) ∧ w.cell? ⟨b, o + i * 4 + 3, none⟩ = some (.string s))

abbrev S1 (b o : Nat) (x : Int) (W : World) : Prop := W.cell? ⟨b, o, none⟩ = some (.int .i64 x) ∧ b < W.heap.size
theorem S1.below {b o : Nat} {x : Int} {W W' : World} (h : S1 b o x W) (hb : Below W.heap.size W W') : S1 b o x W' := ⟨by rw [hb.cell (p := ⟨b, o, none⟩) h.2, h.1], by have := hb.size; have := h.2; omega⟩
theorem S1.drew {b o : Nat} {x : Int} {W : World} (h : S1 b o x W) : S1 b o x W.drew := h.below (Below.refl _ _).drew

theorem plays_big (root : ByteArray) (n : Int) (po : Option Addr) (no co : Nat) (ps : Option Addr) (ns cs : Nat) (u : Int) (hbig : 4096 < ns ∨ 16 < no) (w : World) :
    Calls Tryz.prog 12 #[.string root, .int .i64 n, .slice po no co, .slice ps ns cs, .int .i64 u] w fun e w' => e = .returned (.bool true) ∧ Below w.heap.size w w' := by
  by_cases h1 : 4096 < ns
  · have d1 : decide (4096 < (ns : Int)) = true := by simp; omega
    go_enter Tryz.func12, Tryz.ntmps12
    go_wp2_with fail
    go_ret
    exact ⟨rfl, Below.refl _ _⟩
  · have d1 : decide (4096 < (ns : Int)) = false := by simp; omega
    have d2 : decide (16 < (no : Int)) = true := by simp; omega
    go_enter Tryz.func12, Tryz.ntmps12
    go_wp2_with fail
    go_ret
    exact ⟨rfl, Below.refl _ _⟩

set_option maxRecDepth 20000 in
set_option maxHeartbeats 4000000 in
theorem plays_small {Rep : World → List Nat → Value → St → Nat → Prop} (C : Code Rep) (root : ByteArray) (n : Int) (po : Option Addr) (no co : Nat) (ps : Option Addr) (ns cs : Nat) (hns : ns ≤ 4096) (hno : no ≤ 16) (w : World) (hown : IntsArg w po no co) (hscr : OpsArg w ps ns cs) (hG : Glob w) :
    Calls Tryz.prog 12 #[.string root, .int .i64 n, .slice po no co, .slice ps ns cs, .int .i64 1] w fun e w' => e = .returned (.bool true) ∧ Below w.heap.size w w' := by
  have d1 : decide (4096 < (ns : Int)) = false := by simp; omega
  have d2 : decide (16 < (no : Int)) = false := by simp; omega
  have hsb := SecL_bd root.data.toList
  have HSEC : Hid (∀ W, Calls Tryz.prog 26 #[.string root] W fun e w' => e = .returned (Agg8 (SecL root.data.toList)) ∧ Below W.heap.size W w') := fun W => secret_below root W
  obtain ⟨s, hs⟩ : ∃ s, SecL root.data.toList = s := ⟨_, rfl⟩
  rw [hs] at hsb HSEC
  clear hs
  have HOWN : Hid (IntsArg w po no co) := hown
  have HSCR : Hid (OpsArg w ps ns cs) := hscr
  have hco := hown.1
  have hcs := hscr.1
  have HGL : Hid (Glob w) := hG
  clear hown hscr hG
  go_enter Tryz.func12, Tryz.ntmps12
  go_wp2_with fail
  go_loopg [12] no (fun k i wr => ∃ (j : Nat) (lv : Value) (l : List SideD), i = .int .i64 j ∧ j + k = no ∧ l.length ≤ j ∧ WorldAt Rep wr w.heap.size w.heap.size lv (.slice none 0 0) [] l 0 ∧ Below w.heap.size w wr)
  case atStart => exact ⟨0, _, [], rfl, by omega, Nat.le_refl _, WorldAt.start w 0, (Below.refl _ w).alloc (Nat.le_refl _) _⟩
  case round =>
    obtain ⟨j, lv, l, rfl, hjk, hlj, hwa, hbel⟩ := hrel
    by_cases hj : j < no
    · rcases HOWN.out.2 with h0 | ⟨ob, off, rfl, hcell⟩
      · omega
      · obtain ⟨x, hx⟩ := hcell j hj
        have hobl : ob < w.heap.size := block_lt_of_cell hx
        have hS1 : S1 ob (off + j) x wr := ⟨by rw [hbel.cell (p := ⟨ob, off + j, none⟩) hobl]; exact hx, by have := hbel.size; omega⟩
        have HWA : Hid (WorldAt Rep wr w.heap.size w.heap.size lv (.slice none 0 0) [] l 0 ∧ Below w.heap.size w wr) := ⟨hwa, hbel⟩
        clear hwa hbel hcell hx
        cases hfit : FitB n x with
        | false =>
          have HN : Hid (∀ W, Calls Tryz.prog 25 #[Agg8 s, .int .i64 n, .int .i64 x] W fun e w' => e = .returned (.tuple #[.pointer none, .int .i64 1]) ∧ Below W.heap.size W w') := fun W => C.newErr s n x W hsb hfit
          have HRN : Hid (∀ W, Calls Tryz.prog 27 #[Agg8 s, .int .i64 n, .int .i64 x] W fun e w' => e = .returned (.pointer none) ∧ Below W.heap.size W w') := fun W => refNew_none s n x hfit W
          go_upto_region 7 with fail
          go_cut [13, 14] (fun s13 s14 wy => s13 = .pointer none ∧ s14 = .int .i64 1 ∧ Below wr.heap.size wr wy)
          case first =>
            go_region_held3 (fun W => S1 ob (off + j) x W) ((with_reducible first | exact hS1.drew | exact S1.below hS1.drew hb1 | exact S1.below (S1.below hS1.drew hb1) hb2)) ((first | (go_at_call 26; refine (HSEC.out _).mono ?_; rintro e w1 ⟨rfl, hb1⟩) | (go_at_call 25; refine (HN.out _).mono ?_; rintro e w2 ⟨rfl, hb2⟩)))
            all_goals
              go_wp2_with fail
              go_meet
              exact ⟨rfl, rfl, ((Below.refl _ wr).drew.trans hb1).trans (hb2.mono hb1.size)⟩
          case rest =>
            obtain ⟨rfl, rfl, hb7⟩ := hcut
            have hS2 := S1.below hS1 hb7
            clear HN hS1
            go_upto_region 8 with fail
            go_cut [15] (fun s15 wy => s15 = .pointer none ∧ Below wc.heap.size wc wy)
            case first =>
              go_region_held3 (fun W => S1 ob (off + j) x W) ((with_reducible first | exact hS2.drew | exact S1.below hS2.drew hb1 | exact S1.below (S1.below hS2.drew hb1) hb2)) ((first | (go_at_call 26; refine (HSEC.out _).mono ?_; rintro e w1 ⟨rfl, hb1⟩) | (go_at_call 27; refine (HRN.out _).mono ?_; rintro e w2 ⟨rfl, hb2⟩)))
              all_goals
                go_wp2_with fail
                go_meet
                exact ⟨rfl, ((Below.refl _ wc).drew.trans hb1).trans (hb2.mono hb1.size)⟩
            case rest =>
              obtain ⟨rfl, hb8⟩ := hcut
              have HB8 : Hid (Below wr.heap.size wr wc) := hb7.trans (hb8.mono hb7.size)
              clear hb7 hb8 hS2 HRN
              go_wp2_with fail
              go_roundg (gk - 1)
              case measure => omega
              case rel => exact ⟨j + 1, lv, l, by go_num, by omega, by omega, HWA.out.1.below C HB8.out, HWA.out.2.trans (HB8.out.mono HWA.out.2.size)⟩
        | true =>
          obtain ⟨g1, g2, g3, g4⟩ := (fitB_iff n x).1 hfit
          obtain ⟨N, rfl⟩ : ∃ N : Nat, n = N := ⟨n.toNat, by omega⟩
          obtain ⟨M, rfl⟩ : ∃ M : Nat, x = M := ⟨x.toNat, by omega⟩
          have HN : Hid (∀ W, Calls Tryz.prog 25 #[Agg8 s, .int .i64 N, .int .i64 M] W fun e w' => ∃ b S, e = .returned (.tuple #[.pointer (some ⟨b, 0, none⟩), .int .i64 0]) ∧ Below W.heap.size W w' ∧ (∀ k, k ∈ S → W.heap.size ≤ k) ∧ Rep w' S (.pointer (some ⟨b, 0, none⟩)) (St.new s N M) 0) := fun W => C.new s N M W hsb (by omega) (by omega) (by omega)
          have HRN : Hid (∀ W, Calls Tryz.prog 27 #[Agg8 s, .int .i64 N, .int .i64 M] W fun e w' => ∃ rb S, e = .returned (.pointer (some ⟨rb, 0, none⟩)) ∧ Below W.heap.size W w' ∧ (∀ k, k ∈ S → W.heap.size ≤ k ∧ k < w'.heap.size) ∧ RefRep w' S rb (St.new s N M) 0) := fun W => refNew_some s N M (by omega) (by omega) (by omega) W
          have HOK : Hid ((St.new s N M).Ok) := St.new_ok s hsb N M (by omega) (by omega) (by omega)
          clear hfit
          go_upto_region 7 with fail
          go_cut [13, 14] (fun s13 s14 wy => ∃ b S, s13 = .pointer (some ⟨b, 0, none⟩) ∧ s14 = .int .i64 0 ∧ Below wr.heap.size wr wy ∧ (∀ k, k ∈ S → wr.heap.size ≤ k) ∧ Rep wy S (.pointer (some ⟨b, 0, none⟩)) (St.new s N M) 0)
          case first =>
            go_region_held3 (fun W => S1 ob (off + j) M W) ((with_reducible first | exact hS1.drew | exact S1.below hS1.drew hb1 | exact S1.below (S1.below hS1.drew hb1) hb2)) ((first | (go_at_call 26; refine (HSEC.out _).mono ?_; rintro e w1 ⟨rfl, hb1⟩) | (go_at_call 25; refine (HN.out _).mono ?_; rintro e w2 ⟨b, S, rfl, hb2, hSS, hrp⟩)))
            all_goals
              go_wp2_with fail
              go_meet
              have z1 : wr.heap.size ≤ w1.heap.size := hb1.size
              exact ⟨b, S, rfl, rfl, ((Below.refl _ wr).drew.trans hb1).trans (hb2.mono hb1.size), fun k hk => by have := hSS k hk; omega, hrp⟩
          case rest =>
            obtain ⟨b, S, rfl, rfl, hb7, hSS, hrp⟩ := hcut
            have hS2 := S1.below hS1 hb7
            have HH7 : Hid (Below wr.heap.size wr wc ∧ (∀ k, k ∈ S → wr.heap.size ≤ k) ∧ Rep wc S (.pointer (some ⟨b, 0, none⟩)) (St.new s N M) 0) := ⟨hb7, hSS, hrp⟩
            clear HN hS1 hb7 hSS hrp
            go_upto_region 8 with fail
            go_cut [15] (fun s15 wy => ∃ rb T, s15 = .pointer (some ⟨rb, 0, none⟩) ∧ Below wc.heap.size wc wy ∧ (∀ k, k ∈ T → wc.heap.size ≤ k ∧ k < wy.heap.size) ∧ RefRep wy T rb (St.new s N M) 0)
            case first =>
              go_region_held3 (fun W => S1 ob (off + j) M W) ((with_reducible first | exact hS2.drew | exact S1.below hS2.drew hb1 | exact S1.below (S1.below hS2.drew hb1) hb2)) ((first | (go_at_call 26; refine (HSEC.out _).mono ?_; rintro e w1 ⟨rfl, hb1⟩) | (go_at_call 27; refine (HRN.out _).mono ?_; rintro e w2 ⟨rb, T, rfl, hb2, hTT, hrf⟩)))
              all_goals
                go_wp2_with fail
                go_meet
                have z1 : wc.heap.size ≤ w1.heap.size := hb1.size
                exact ⟨rb, T, rfl, ((Below.refl _ wc).drew.trans hb1).trans (hb2.mono hb1.size), fun k hk => by have := hTT k hk; omega, hrf⟩
            case rest =>
              obtain ⟨rb, T, rfl, hb8, hTT, hrf⟩ := hcut
              obtain ⟨hb7, hSS, hrp⟩ := HH7.out
              have hb78 := hb7.trans (hb8.mono hb7.size)
              have z7 := hb7.size
              have hrp8 := C.keep hrp hb8.size (fun k a _ => hb8.block k a)
              obtain ⟨v', w', hrun, hrow, hwa2, hbel2, p', n', c', rfl⟩ := HWA.out.1.added C (by omega) hb78 S T (.pointer (some ⟨b, 0, none⟩)) rb (St.new s N M) 0 HOK.out hrp8 hrf hSS (fun k hk => ⟨by have := hTT k hk; omega, (hTT k hk).2⟩) (fun k hk hk' => by have h1 := C.lt hrp k hk; have h2 := hTT k hk'; omega) 61
              have hA := (row_facts' (HWA.out.1.below C hb78).row).1
              have hwb8 : w.heap.size < wc.heap.size := (Array.getElem?_eq_some_iff.1 (HWA.out.1.below C hb78).row).1
              obtain ⟨hA3, hAf3⟩ := row_facts' hrow
              have hlvs : ∃ pl nl cl, lv = .slice pl nl cl := by
                rcases HWA.out.1.ownl.2 with ⟨e1, _⟩ | ⟨g', c', cur, e1, _⟩
                · exact ⟨_, _, _, e1⟩
                · exact ⟨_, _, _, e1⟩
              obtain ⟨pl, nl, cl, rfl⟩ := hlvs
              have HRUN : Hid ((Builtin.append_ #[61, 61] 61 #[.slice pl nl cl, .slice (some ⟨wc.heap.size + 1, 0, none⟩) 1 1]).run Tryz.prog ((wc.alloc (.cells (CellsS (.pointer (some ⟨b, 0, none⟩)) rb 0) 71)).alloc (.cells #[.pointer (some ⟨wc.heap.size, 0, none⟩)] 69)) = .ok (.slice p' n' c') w') := hrun
              have HFIN : Hid (WorldAt Rep (w'.setCell ⟨w.heap.size, 0, none⟩ (.slice p' n' c')) w.heap.size w.heap.size (.slice p' n' c') (.slice none 0 0) [] (l ++ [⟨wc.heap.size, wc.heap.size :: (S ++ T), St.new s N M, 0⟩]) 0 ∧ Below w.heap.size wr (w'.setCell ⟨w.heap.size, 0, none⟩ (.slice p' n' c'))) := ⟨hwa2, hbel2⟩
              clear hb7 hSS hrp hb8 hTT hrf hb78 hrp8 hrun hrow hwa2 hbel2 hS2 HRN
              go_wp2_with (at_builtin; refine wpList_app rfl _ _ 61 61 rfl rfl _ _ _ _ rfl rfl HRUN.out ?_)
              go_roundg (gk - 1)
              case measure => omega
              case rel => exact ⟨j + 1, _, _, by go_num, by omega, by simp; omega, HFIN.out.1, HWA.out.2.trans HFIN.out.2⟩
    · have HWA : Hid (WorldAt Rep wr w.heap.size w.heap.size lv (.slice none 0 0) [] l 0 ∧ Below w.heap.size w wr) := ⟨hwa, hbel⟩
      have hlv : ∃ pl cl, lv = .slice pl l.length cl := by
        rcases hwa.ownl.2 with ⟨e1, e2⟩ | ⟨g', c', cur, e1, _⟩
        · exact ⟨none, 0, by rw [e1, e2]⟩
        · exact ⟨_, _, e1⟩
      obtain ⟨pl, cl, rfl⟩ := hlv
      have hA := (row_facts' hwa.row).1
      have hl16 : l.length ≤ 16 := by omega
      clear hwa hbel
      by_cases hl0 : l.length = 0
      · have hl0' : ((l.length : Int) == 0) = true := by rw [hl0]; rfl
        go_wp2_with fail
        go_ret
        exact ⟨rfl, HWA.out.2⟩
      · have hl0' : ((l.length : Int) == 0) = false := by
          have : ¬ (l.length : Int) = 0 := by omega
          simpa using this
        go_wp2_with fail
        clear hA hl0'
        obtain ⟨LN, hLN⟩ : ∃ LN, l.length = LN := ⟨_, rfl⟩
        rw [hLN]
        have HLN : Hid (l.length = LN) := hLN
        rw [hLN] at hl16 hl0
        clear hLN
        go_loopg [16] ns (fun k i wr2 => ∃ (j : Nat) (bv : Value) (bag : List ByteArray) (l' : List SideD), i = .int .i64 j ∧ j + k = ns ∧ l'.length = LN ∧ WorldAt Rep wr2 w.heap.size w.heap.size (.slice pl LN cl) bv bag l' (100 * j) ∧ Below w.heap.size w wr2)
        case atStart => exact ⟨0, _, [], l, rfl, by omega, HLN.out, by have h := HWA.out.1; rw [HLN.out] at h; exact h, HWA.out.2⟩
        case round =>
          obtain ⟨q, bv, bag, l', rfl, hqk, hl', hwa, hbel⟩ := hrel
          by_cases hq : q < ns
          · rcases HSCR.out.2 with h0 | ⟨sb, soff, rfl, hcell⟩
            · omega
            · obtain ⟨kd, a, d, str, ha1, ha2, k0, k1, k2, k3⟩ := hcell q hq
              have hsbl : sb < w.heap.size := block_lt_of_cell k0
              have m0 : wr.cell? ⟨sb, soff + q * 4, none⟩ = some (.int .i64 kd) := by rw [hbel.cell (p := ⟨sb, soff + q * 4, none⟩) hsbl, k0]
              have m1 : wr.cell? ⟨sb, soff + q * 4 + 1, none⟩ = some (.int .i64 a) := by rw [hbel.cell (p := ⟨sb, soff + q * 4 + 1, none⟩) hsbl, k1]
              have m2 : wr.cell? ⟨sb, soff + q * 4 + 2, none⟩ = some (.int .i64 d) := by rw [hbel.cell (p := ⟨sb, soff + q * 4 + 2, none⟩) hsbl, k2]
              have m3 : wr.cell? ⟨sb, soff + q * 4 + 3, none⟩ = some (.string str) := by rw [hbel.cell (p := ⟨sb, soff + q * 4 + 3, none⟩) hsbl, k3]
              have HQ : Hid (WorldAt Rep wr w.heap.size w.heap.size (.slice pl LN cl) bv bag l' (100 * q) ∧ Below w.heap.size w wr) := ⟨hwa, hbel⟩
              have hmono : Hid (∀ W bv bag l', WorldAt Rep W w.heap.size w.heap.size (.slice pl LN cl) bv bag l' (100 * q) → WorldAt Rep W w.heap.size w.heap.size (.slice pl LN cl) bv bag l' (100 * (q + 1))) := fun W bv bag l' h => ⟨h.base_le, h.wbb, h.row, h.ownl, h.ownb, h.bag64, h.nl, h.nb, h.nlb, fun s hs => by obtain ⟨a1, a2, a3, a4⟩ := h.side s hs; exact ⟨a1, a2, by omega, a4⟩, h.dis⟩
              clear hwa hbel hcell k0 k1 k2 k3
              by_cases hbig : 65536 < str.size
              · have e1 : decide (65536 < (str.size : Int)) = true := by simp; omega
                go_wp2_with fail
                go_roundg (gk - 1)
                case measure => omega
                case rel => exact ⟨q + 1, bv, bag, l', by go_num, by omega, hl', hmono.out _ _ _ _ HQ.out.1, HQ.out.2⟩
              · have e1 : decide (65536 < (str.size : Int)) = false := by simp; omega
                by_cases hkd : 1 < kd
                · go_wp2_with fail
                  go_roundg (gk - 1)
                  case measure => omega
                  case rel => exact ⟨q + 1, bv, bag, l', by go_num, by omega, hl', hmono.out _ _ _ _ HQ.out.1, HQ.out.2⟩
                · have HST : Hid (Calls Tryz.prog 28 #[.pointer (some ⟨w.heap.size, 0, none⟩), .agg (OpV kd a d str)] wr fun e w' => e = .returned (.bool true) ∧ Stepped Rep wr w.heap.size w.heap.size (.slice pl LN cl) LN (100 * (q + 1)) w') := by
                    by_cases hk1 : kd = 1
                    · subst hk1
                      have h := step_protect C wr w.heap.size w.heap.size (.slice pl LN cl) bv bag l' (100 * q) HQ.out.1 (by omega) (by omega) a d str (by omega) (by omega) ha1 ha2 (HGL.out.below HQ.out.2)
                      rw [hl'] at h
                      exact h
                    · have h := step_idle C wr w.heap.size w.heap.size (.slice pl LN cl) bv bag l' (100 * (q + 1)) (hmono.out _ _ _ _ HQ.out.1) (by omega) (by omega) kd a d str (by omega) ha1 ha2
                      rw [hl'] at h
                      exact h
                  go_wp2_with fail
                  refine HST.out.mono ?_
                  rintro e w2 ⟨rfl, hb2, bv2, bag2, l2, hl2, hwa2⟩
                  have HF : Hid (WorldAt Rep w2 w.heap.size w.heap.size (.slice pl LN cl) bv2 bag2 l2 (100 * (q + 1)) ∧ Below w.heap.size wr w2) := ⟨hwa2, hb2⟩
                  clear hwa2 hb2 m0 m1 m2 m3 HST
                  go_wp2_with fail
                  go_roundg (gk - 1)
                  case measure => omega
                  case rel => exact ⟨q + 1, bv2, bag2, l2, by go_num, by omega, hl2, HF.out.1, HQ.out.2.trans HF.out.2⟩
          · have HQ : Hid (WorldAt Rep wr w.heap.size w.heap.size (.slice pl LN cl) bv bag l' (100 * q) ∧ Below w.heap.size w wr) := ⟨hwa, hbel⟩
            have hqe : ¬ (q : Int) < ns := by omega
            clear hwa hbel
            go_wp2_with fail
            go_loopg [18] LN (fun k i wr2 => ∃ (j : Nat) (l2 : List SideD), i = .int .i64 j ∧ j + k = LN ∧ l2.length = LN ∧ WorldAt Rep wr2 w.heap.size w.heap.size (.slice pl LN cl) bv bag l2 (100 * q) ∧ Below w.heap.size w wr2)
            case atStart => exact ⟨0, l', rfl, by omega, hl', HQ.out.1, HQ.out.2⟩
            case round =>
              obtain ⟨r, l2, rfl, hrk, hl2, hwa, hbel⟩ := hrel
              have hA := (row_facts' hwa.row).1
              by_cases hr : r < LN
              · have hpi : r < l2.length := by omega
                obtain ⟨lb, cap, hlv, hcap, hlb, hcell⟩ := worldAt_ptr hwa (by omega)
                rw [hl2] at hlv
                cases hlv
                have hci := hcell r hpi
                obtain ⟨sd, hsd⟩ : ∃ sd, (l2[r]'hpi).sb = sd := ⟨_, rfl⟩
                rw [hsd] at hci
                have hdm := dump_any C wr (l2[r]'hpi).sb (l2[r]'hpi).U (l2[r]'hpi).st (l2[r]'hpi).wk (hwa.side _ (List.getElem_mem hpi)).1
                rw [hsd] at hdm
                have HDM : Hid (Calls Tryz.prog 29 #[.pointer (some ⟨sd, 0, none⟩)] wr fun e w' => e = .returned (.bool true) ∧ Outside (l2[r]'hpi).U wr w' ∧ ∃ U', Fresh wr (l2[r]'hpi).U U' ∧ Side Rep w' sd U' (l2[r]'hpi).st (l2[r]'hpi).wk) := hdm
                have HSD : Hid ((l2[r]'hpi).sb = sd) := hsd
                have HW : Hid (WorldAt Rep wr w.heap.size w.heap.size (.slice (some ⟨lb, 0, none⟩) LN cl) bv bag l2 (100 * q) ∧ Below w.heap.size w wr) := ⟨hwa, hbel⟩
                clear hwa hbel hcell hdm hsd
                go_wp2_with fail
                refine HDM.out.mono ?_
                rintro e w2 ⟨rfl, o2, U', f2, s2⟩
                have HF : Hid (WorldAt Rep w2 w.heap.size w.heap.size (.slice (some ⟨lb, 0, none⟩) LN cl) bv bag (l2.set r ⟨(l2[r]'hpi).sb, U', (l2[r]'hpi).st, (l2[r]'hpi).wk⟩) (100 * q) ∧ Below w.heap.size wr w2) := by
                  have hs2 : Side Rep w2 (l2[r]'hpi).sb U' (l2[r]'hpi).st (l2[r]'hpi).wk := by rw [HSD.out]; exact s2
                  have hsd := HW.out.1.side _ (List.getElem_mem hpi)
                  exact ⟨HW.out.1.step C r hpi U' (l2[r]'hpi).st (l2[r]'hpi).wk (100 * q) o2 f2 hs2 hsd.2.2.1 (Nat.le_refl _), o2.toBelow w.heap.size HW.out.1.base_le hsd.2.1⟩
                clear o2 f2 s2 hA hci HDM
                go_wp2_with fail
                go_roundg (gk - 1)
                case measure => omega
                case rel => exact ⟨r + 1, _, by go_num, by omega, by rw [List.length_set]; exact hl2, HF.out.1, HW.out.2.trans HF.out.2⟩
              · have HW : Hid (Below w.heap.size w wr) := hbel
                have hre : ¬ (r : Int) < LN := by omega
                clear hwa hbel
                go_wp2_with fail
                go_ret
                exact ⟨rfl, HW.out⟩
end Go.Proofs.YtkpebabbnndopaaGreatDoor
