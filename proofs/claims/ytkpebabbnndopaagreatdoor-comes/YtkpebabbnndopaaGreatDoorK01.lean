import Derived.Test.YtkpebabbnndopaaGreatDoorG02
import Derived.WalkKit
import Derived.WalkSpells
import Derived.WalkLawsBesides
import Derived.Deep.WholeRow
import Derived.Deep.LoopGhost
import Derived.Test.YtkpebabbnndopaaGreatDoorG03
import Derived.Test.YtkpebabbnndopaaGreatDoorG16
import Derived.Test.YtkpebabbnndopaaGreatDoorRows
import Derived.Test.YtkpebabbnndopaaGreatDoorC08
import Derived.Maps.AppendAt
import Derived.Laws.OwnMore
/- Ends: the walk, of any program whose calls are as Code asks. -/
namespace Go.Proofs.YtkpebabbnndopaaGreatDoor
open Go.RowKit
set_option linter.unusedVariables false

theorem after_next (s : Nat → Int) (n own : Nat) (ho : own < n) (i : Nat) : ((St.after s n own i).m (St.after s n own i).own).next = i := by
  rw [(after_n s n own i).2.1, after_m s n own ho, if_pos rfl]
theorem after_err (s : Nat → Int) (n own : Nat) (ho : own < n) (i : Nat) (hi : i ≤ 65535) : (St.after s n own i).protErr ([] : List UInt8).length = 0 := by
  unfold St.protErr
  rw [(after_n s n own i).2.2.1, after_next s n own ho i, if_neg (by simp), if_neg (by simp), if_neg (by omega)]
theorem after_spent (s : Nat → Int) (n own : Nat) (ho : own < n) : (St.after s n own 65536).protErr ([] : List UInt8).length = 8 := by
  unfold St.protErr
  rw [(after_n s n own 65536).2.2.1, after_next s n own ho 65536, if_neg (by simp), if_neg (by simp), if_pos (by omega)]
theorem frame_nil (st : St) : (st.frame []).length = 7 ∧ (st.frame [])[0]? = some (UInt8.ofNat st.own) ∧ (st.frame [])[1]? = some (UInt8.ofNat ((st.m st.own).next / 256)) ∧ (st.frame [])[2]? = some (UInt8.ofNat (st.m st.own).next) := by
  unfold St.frame
  refine ⟨by rw [List.length_append, SealT_length]; rfl, ?_, ?_, ?_⟩ <;> rfl
/-- the frame's head, where it lies -/
theorem frame_cells {w : World} {f o : Nat} {st : St} (ho : st.own < 16) (hn : (st.m st.own).next ≤ 65535) (h : Bts w (some ⟨f, o, none⟩) (st.frame [])) : w.cell? ⟨f, o, none⟩ = some (.int .u8 (st.own : Int)) ∧ w.cell? ⟨f, o + 1, none⟩ = some (.int .u8 (((st.m st.own).next : Int) / 256)) ∧ w.cell? ⟨f, o + 2, none⟩ = some (.int .u8 (((st.m st.own).next : Int) % 256)) := by
  obtain ⟨h1, h2, h3, h4⟩ := frame_nil st
  rcases h with h | ⟨b, p, e, hc⟩
  · rw [h] at h1; cases h1
  · cases e
    have g : ∀ i c, (st.frame [])[i]? = some c → w.cell? ⟨f, o + i, none⟩ = some (.int .u8 (c.toNat : Int)) := fun i c hi => by
      obtain ⟨hl, he⟩ := List.getElem?_eq_some_iff.1 hi
      rw [hc i hl, he]
    refine ⟨?_, ?_, ?_⟩
    · have := g 0 _ h2
      rw [Nat.add_zero] at this
      rw [this, UInt8.toNat_ofNat']
      congr 2
      omega
    · rw [g 1 _ h3, UInt8.toNat_ofNat']
      congr 2
      omega
    · rw [g 2 _ h4, UInt8.toNat_ofNat']
      congr 2
theorem it_cell (l : List It) (i : Nat) (hi : i < l.length) : (itCells l)[i * 12]? = some (.int .i64 l[i].kind) ∧ (itCells l)[i * 12 + 1]? = some (.int .i64 l[i].f) ∧ (itCells l)[i * 12 + 2]? = some (.int .i64 l[i].t) ∧ (itCells l)[i * 12 + 3]? = some (.int .i64 l[i].g) := by
  have e : l = l.take i ++ l[i] :: l.drop (i + 1) := by rw [List.getElem_cons_drop, List.take_append_drop]
  have hl : (itCells (l.take i)).length = i * 12 := by rw [itCells_length, List.length_take]; omega
  have h : ∀ j, j < 12 → (itCells l)[i * 12 + j]? = l[i].cells[j]? := fun j hj => by
    have e2 : itCells l = itCells (l.take i) ++ (l[i].cells ++ itCells (l.drop (i + 1))) := by
      have : itCells (l[i] :: l.drop (i + 1)) = l[i].cells ++ itCells (l.drop (i + 1)) := rfl
      rw [← this, ← itCells_append, ← e]
    rw [e2, List.getElem?_append_right (by omega), hl, show i * 12 + j - i * 12 = j by omega, List.getElem?_append_left (by show j < 12; exact hj)]
  exact ⟨h 0 (by omega), h 1 (by omega), h 2 (by omega), h 3 (by omega)⟩

theorem and_255 (n : Int) : bits .and .i64 n 255 = n % 256 := by
  have h1 : (BitVec.ofInt 64 255).toNat = 2 ^ 8 - 1 := by decide
  have h2 : (BitVec.ofInt 64 n &&& BitVec.ofInt 64 255).toNat = (n % ((2 ^ 64 : Nat) : Int)).toNat % 2 ^ 8 := by rw [BitVec.toNat_and, BitVec.toNat_ofInt, h1, Nat.and_two_pow_sub_one_eq_mod]
  show IntKind.i64.wrap ((BitVec.ofInt 64 n &&& BitVec.ofInt 64 255).toNat : Nat) = n % 256
  rw [h2, IntKind.wrap_i64]
  omega
set_option maxHeartbeats 4000000 in
set_option maxRecDepth 20000 in
theorem ends_any {Rep : World → List Nat → Value → St → Nat → Prop} (C : Code Rep) (root : ByteArray) (m a : Int) (hm1 : -9223372036854775808 ≤ m) (hm2 : m ≤ 9223372036854775807) (ha1 : -9223372036854775808 ≤ a) (ha2 : a ≤ 9223372036854775807) (w : World) (hG : Glob w) :
    Calls Tryz.prog 10 #[.string root, .int .i64 m, .int .i64 a] w fun e w' => e = .returned (.bool true) ∧ Below w.heap.size w w' := by
  have hs := SecL_bd root.data.toList
  have HPR : Hid (Calls Tryz.prog 16 #[.string root, .int .i64 m, .int .i64 a] w fun e w' => Below w.heap.size w w' ∧ ∃ (N x y b c : Nat) (S T : List Nat), 2 ≤ N ∧ N ≤ 16 ∧ x < N ∧ y < N ∧ x ≠ y ∧ e = .returned (.tuple #[.pointer (some ⟨b, 0, none⟩), .pointer (some ⟨c, 0, none⟩), .int .i64 x]) ∧
      Rep w' S (.pointer (some ⟨b, 0, none⟩)) (St.new (SecL root.data.toList) N x) 0 ∧ Rep w' T (.pointer (some ⟨c, 0, none⟩)) (St.new (SecL root.data.toList) N y) 0 ∧ (∀ k, k ∈ S → w.heap.size ≤ k) ∧ (∀ k, k ∈ T → w.heap.size ≤ k) ∧ (∀ k, k ∈ S → k ∉ T)) := pair_any C root m a hm1 hm2 ha1 ha2 w
  obtain ⟨s, hse⟩ : ∃ s, SecL root.data.toList = s := ⟨_, rfl⟩
  rw [hse] at hs HPR
  have HGL : Hid (Glob w) := hG
  clear hse hm1 hm2 ha1 ha2 hG
  obtain ⟨MX, hMX⟩ : ∃ MX : Nat, MX = 65536 := ⟨_, rfl⟩
  have HMX : Hid (MX = 65536) := hMX
  clear hMX
  go_enter Tryz.func10, Tryz.ntmps10
  go_wp2_with fail
  refine HPR.out.mono ?_
  rintro e w1 ⟨b1, N, x, y, b, c, S, T, hN1, hN2, hx, hy, hxy, rfl, hr1, _, hS, _, _⟩
  have H1 : Hid (Rep w1 S (.pointer (some ⟨b, 0, none⟩)) (St.after s N x 0) 0 ∧ Below w.heap.size w w1 ∧ ∀ k, k ∈ S → w.heap.size ≤ k) := ⟨hr1, b1, hS⟩
  obtain ⟨X, hX⟩ : ∃ X : Int, (x : Int) = X := ⟨_, rfl⟩
  have HXX : Hid ((x : Int) = X) := hX
  have hXw : wrap64 X = X := by simp only [wrap64]; omega
  rw [hX]
  clear hr1 b1 hS HPR hX
  go_wp2_with fail
  go_loopg [10] MX (fun k v wr => ∃ i : Nat, v = .int .i64 i ∧ i + k = MX ∧ ∃ S wk, Hid (Rep wr S (.pointer (some ⟨b, 0, none⟩)) (St.after s N x i) wk ∧ Below w.heap.size w wr ∧ ∀ k, k ∈ S → w.heap.size ≤ k))
  case atStart => exact ⟨0, rfl, by omega, S, 0, H1.out⟩
  case round =>
    clear H1
    obtain ⟨i, rfl, hik, S, wk, HR⟩ := hrel
    obtain ⟨I, hI⟩ : ∃ I : Int, (i : Int) = I := ⟨_, rfl⟩
    have HII : Hid ((i : Int) = I) := hI
    have HIK : Hid (i + gk = MX) := hik
    rw [hI]
    have hI0 : 0 ≤ I := by omega
    by_cases hlt : I < 65536
    · have HIL : Hid (i < 65536) := by show _ < _; omega
      have HI1 : Hid (((i + 1 : Nat) : Int) = I + 1) := by show _ = _; omega
      have hbnd : I ≤ 65535 := by omega
      have hand : bits .and .i64 I 255 = I % 256 := and_255 I
      have hwr : wrap64 (I + 1) = I + 1 := by simp only [wrap64]; omega
      clear hik hI
      by_cases hlast : I = 65535
      · -- the last one: what is kept ahead of it
        have hl2 : (I == 65535) = true := by simpa using hlast
        have HLA : Hid (I = 65535) := hlast
        clear hlast
        have ok := after_ok s hs N x (by omega) hN2 hx i (by have := HIL.out; omega)
        have hnw : i = 65535 := by have := HII.out; have := HLA.out; omega
        have hdm := after_dump s N x hx i
        rw [if_pos (by omega)] at hdm
        obtain ⟨PL, hPL⟩ : ∃ PL, (St.after s N x i).parts 16 0 N = PL := ⟨_, rfl⟩
        have hPLl : PL.length ≤ 16 := by rw [← hPL]; have := St.parts_len (St.after s N x i) 16 0 N (by omega); omega
        rw [hPL] at hdm
        have HDU : Hid (Calls Tryz.prog 21 #[.pointer (some ⟨b, 0, none⟩)] wr fun e w' => Outside S wr w' ∧ ∃ S' p cap, Fresh wr S S' ∧ Rep w' S' (.pointer (some ⟨b, 0, none⟩)) (St.after s N x i) wk ∧ e = .returned (.slice p (PL.length + 1) cap) ∧ ∃ db dof, p = some ⟨db, dof, none⟩ ∧ w'.cell? ⟨db, dof + PL.length * 12, none⟩ = some (.int .i64 1) ∧ w'.cell? ⟨db, dof + PL.length * 12 + 1, none⟩ = some (.int .i64 X) ∧ w'.cell? ⟨db, dof + PL.length * 12 + 3, none⟩ = some (.int .i64 I)) := by
          refine (C.dump ok HR.out.1).mono fun e w' ⟨d1, S', p, cap, d2, d3, d4, d5⟩ => ⟨d1, S', p, cap, d2, d3, ?_, ?_⟩
          · rw [d4, hdm, List.length_append]; rfl
          · rcases d5 with d5 | ⟨db, dof, d6, _, _, _, d7, _⟩
            · rw [hdm] at d5; simp at d5
            · rw [hdm] at d7
              obtain ⟨q1, q2, q3, q4⟩ := it_cell (PL ++ [⟨1, x, x + 1, i, (St.after s N x i).ratAt x i⟩]) PL.length (by simp)
              have hget : (PL ++ [(⟨1, x, x + 1, i, (St.after s N x i).ratAt x i⟩ : It)])[PL.length]'(by simp) = ⟨1, x, x + 1, i, (St.after s N x i).ratAt x i⟩ := by simp
              rw [hget] at q1 q2 q3 q4
              refine ⟨db, dof, d6, ?_, ?_, ?_⟩
              · exact d7 _ _ q1
              · rw [← HXX.out, Nat.add_assoc]; exact d7 _ _ q2
              · rw [← HII.out, Nat.add_assoc]; exact d7 _ _ q4
        obtain ⟨n, hn⟩ : ∃ n, PL.length = n := ⟨_, rfl⟩
        rw [hn] at HDU hPLl
        clear hdm hPL hn ok hnw
        go_wp2_with fail
        refine HDU.out.mono ?_
        rintro e w4 ⟨o4, S4, p, cap4, fr4, rep4, rfl, db, dof, rfl, k1, k2, k3⟩
        have HRQ : Hid (Rep w4 S4 (.pointer (some ⟨b, 0, none⟩)) (St.after s N x i) wk) := rep4
        have HBQ : Hid (Below w.heap.size w w4 ∧ ∀ k, k ∈ S4 → w.heap.size ≤ k) := by
          refine ⟨HR.out.2.1.trans (o4.toBelow w.heap.size HR.out.2.1.size HR.out.2.2), fun k hk => ?_⟩
          rcases fr4 k hk with h | h
          · exact HR.out.2.2 k h
          · have := HR.out.2.1.size; omega
        clear o4 fr4 rep4 HR HDU
        go_wp2_with fail
        clear k1 k2 k3
        refine (C.prot (after_ok s hs N x (by omega) hN2 hx i (by have := HIL.out; omega)) HRQ.out none [] 0 (by simp) (.inl rfl) (by intro b o e; cases e) (after_err s N x hx i (by have := HIL.out; omega))).mono ?_
        rintro e w5 ⟨o5, S5, wk5, f, fo, cap, fr5, rep5, _, _, rfl, hf5, _, hcap5, hb5, _⟩
        have hcell := frame_cells (st := St.after s N x i) (by rw [(after_n s N x i).2.1]; omega) (by rw [after_next s N x hx i]; have := HIL.out; omega) hb5
        rw [after_next s N x hx i, (after_n s N x i).2.1, HII.out, HXX.out] at hcell
        obtain ⟨c0, c1, c2⟩ := hcell
        rw [(frame_nil (St.after s N x i)).1]
        have HNX : Hid (Rep w5 S5 (.pointer (some ⟨b, 0, none⟩)) (St.after s N x (i + 1)) wk5 ∧ Below w.heap.size w w5 ∧ ∀ k, k ∈ S5 → w.heap.size ≤ k) := by
          refine ⟨rep5, HBQ.out.1.trans (o5.toBelow w.heap.size HBQ.out.1.size HBQ.out.2), fun k hk => ?_⟩
          rcases fr5 k hk with h | h
          · exact HBQ.out.2 k h
          · have := HBQ.out.1.size; omega
        have HC7 : Hid (7 ≤ cap) := by have := hcap5; rw [(frame_nil (St.after s N x i)).1] at this; exact this
        clear o5 fr5 rep5 hf5 hcap5 hb5 HRQ HBQ
        go_wp2_with fail
        go_roundg (gk - 1)
        case measure => have := HMX.out; have := HIK.out; have := HIL.out; omega
        case rel => exact ⟨i + 1, by rw [HI1.out], by have := HMX.out; have := HIK.out; have := HIL.out; omega, S5, wk5, HNX.out⟩
      · have hl2 : (I == 65535) = false := by simpa using hlast
        clear hlast
        have HRQ : Hid (Rep wr S (.pointer (some ⟨b, 0, none⟩)) (St.after s N x i) wk) := HR.out.1
        have HBQ : Hid (Below w.heap.size w wr ∧ ∀ k, k ∈ S → w.heap.size ≤ k) := HR.out.2
        clear HR
        go_wp2_with fail
        refine (C.prot (after_ok s hs N x (by omega) hN2 hx i (by have := HIL.out; omega)) HRQ.out none [] 0 (by simp) (.inl rfl) (by intro b o e; cases e) (after_err s N x hx i (by have := HIL.out; omega))).mono ?_
        rintro e w5 ⟨o5, S5, wk5, f, fo, cap, fr5, rep5, _, _, rfl, hf5, _, hcap5, hb5, _⟩
        have hcell := frame_cells (st := St.after s N x i) (by rw [(after_n s N x i).2.1]; omega) (by rw [after_next s N x hx i]; have := HIL.out; omega) hb5
        rw [after_next s N x hx i, (after_n s N x i).2.1, HII.out, HXX.out] at hcell
        obtain ⟨c0, c1, c2⟩ := hcell
        rw [(frame_nil (St.after s N x i)).1]
        have HNX : Hid (Rep w5 S5 (.pointer (some ⟨b, 0, none⟩)) (St.after s N x (i + 1)) wk5 ∧ Below w.heap.size w w5 ∧ ∀ k, k ∈ S5 → w.heap.size ≤ k) := by
          refine ⟨rep5, HBQ.out.1.trans (o5.toBelow w.heap.size HBQ.out.1.size HBQ.out.2), fun k hk => ?_⟩
          rcases fr5 k hk with h | h
          · exact HBQ.out.2 k h
          · have := HBQ.out.1.size; omega
        have HC7 : Hid (7 ≤ cap) := by have := hcap5; rw [(frame_nil (St.after s N x i)).1] at this; exact this
        clear o5 fr5 rep5 hf5 hcap5 hb5 HRQ HBQ
        go_wp2_with fail
        go_roundg (gk - 1)
        case measure => have := HMX.out; have := HIK.out; have := HIL.out; omega
        case rel => exact ⟨i + 1, by rw [HI1.out], by have := HMX.out; have := HIK.out; have := HIL.out; omega, S5, wk5, HNX.out⟩
    · have hi6 : i = 65536 := by have := HMX.out; omega
      have hge : ¬ (I < 65536) := hlt
      have ok := after_ok s hs N x (by omega) hN2 hx i (by omega)
      have herr : (St.after s N x i).protErr ([] : List UInt8).length = 8 := by rw [hi6]; exact after_spent s N x hx
      have hdm := after_dump s N x hx i
      rw [if_neg (by omega), List.append_nil] at hdm
      have HPE : Hid (Calls Tryz.prog 17 #[.pointer (some ⟨b, 0, none⟩), .slice none 0 0] wr fun e w' => e = .returned (.tuple #[.slice none 0 0, .int .i64 8]) ∧ Outside S wr w' ∧ ∃ S', Fresh wr S S' ∧ Rep w' S' (.pointer (some ⟨b, 0, none⟩)) (St.after s N x i) wk) := by
        have := C.protErr ok HR.out.1 (HGL.out.below HR.out.2.1) none [] 0 (by simp) (.inl rfl) (by intro b o e; cases e) (by rw [herr]; decide)
        rw [herr] at this
        exact this
      have hsome := parts_some (St.after s N x i) 16 0 N y (Nat.zero_le _) hy (by omega) (by rw [after_m s N x hx, if_neg (fun e => hxy e.symm)])
      have hclear := parts_clear (St.after s N x i) 16 0 N
      have hbx : ((St.after s N x i).m x).begun = true := by rw [after_m s N x hx, if_pos rfl]; simp; omega
      obtain ⟨PL, hPL⟩ : ∃ PL, (St.after s N x i).parts 16 0 N = PL := ⟨_, rfl⟩
      have hPLl : PL.length ≤ 16 := by rw [← hPL]; have := St.parts_len (St.after s N x i) 16 0 N (by omega); omega
      rw [hPL] at hdm hsome hclear
      have hpos : 0 < PL.length := List.length_pos_iff.2 hsome
      have HDU : Hid (∀ W S, Rep W S (.pointer (some ⟨b, 0, none⟩)) (St.after s N x i) wk → Calls Tryz.prog 21 #[.pointer (some ⟨b, 0, none⟩)] W fun e w' => Outside S W w' ∧ ∃ db dof cap, e = .returned (.slice (some ⟨db, dof, none⟩) PL.length cap) ∧ ∀ j (hj : j < PL.length), w'.cell? ⟨db, dof + j * 12, none⟩ = some (.int .i64 0) ∧ w'.cell? ⟨db, dof + j * 12 + 1, none⟩ = some (.int .i64 PL[j].f) ∧ w'.cell? ⟨db, dof + j * 12 + 2, none⟩ = some (.int .i64 PL[j].t) ∧ (decide ((PL[j].f : Int) ≤ X) && decide (X < (PL[j].t : Int))) = false) := fun W S hW => by
        refine (C.dump ok hW).mono fun e w' ⟨d1, S', p, cap, d2, d3, d4, d5⟩ => ⟨d1, ?_⟩
        rw [hdm] at d4 d5
        rcases d5 with d5 | ⟨db, dof, d6, _, _, _, d7, _⟩
        · exact absurd d5 hsome
        · refine ⟨db, dof, cap, by rw [d4, d6], fun j hj => ?_⟩
          obtain ⟨q1, q2, q3, q4⟩ := it_cell PL j hj
          obtain ⟨k1, k2, k3, k4⟩ := hclear PL[j] (List.getElem_mem hj)
          rw [k1] at q1
          refine ⟨d7 _ _ q1, by rw [Nat.add_assoc]; exact d7 _ _ q2, by rw [Nat.add_assoc]; exact d7 _ _ q3, ?_⟩
          cases hdc : (decide ((PL[j].f : Int) ≤ X) && decide (X < (PL[j].t : Int))) with
          | false => rfl
          | true =>
            rw [Bool.and_eq_true, decide_eq_true_eq, decide_eq_true_eq] at hdc
            have hxx := HXX.out
            have := begun_true (St.after s N x i) PL[j].f PL[j].t x (by omega) (by omega) hbx
            rw [this] at k4
            cases k4
      have HPL : Hid (PL.length ≤ 16) := hPLl
      obtain ⟨n, hn⟩ : ∃ n, PL.length = n := ⟨_, rfl⟩
      have HNN : Hid (PL.length = n) := hn
      have hn0 : (0 : Int) < n := by omega
      have hn16 : (n : Int) ≤ 16 := by omega
      have HSZ := HR.out.2
      have HBQ : Hid (Below w.heap.size w wr ∧ ∀ k, k ∈ S → w.heap.size ≤ k) := HR.out.2
      clear HSZ hdm herr hsome hclear hbx hPL hpos hPLl hn hi6 ok hik hI hlt HIK
      go_wp2_with fail
      refine HPE.out.mono ?_
      rintro e w4 ⟨rfl, o4, S4, fr4, rep4⟩
      have HB4 : Hid (Below w.heap.size w w4 ∧ ∀ k, k ∈ S4 → w.heap.size ≤ k) := by
        refine ⟨HBQ.out.1.trans (o4.toBelow w.heap.size HBQ.out.1.size HBQ.out.2), fun k hk => ?_⟩
        rcases fr4 k hk with h | h
        · exact HBQ.out.2 k h
        · have := HBQ.out.1.size; omega
      have HR4 : Hid (Rep w4 S4 (.pointer (some ⟨b, 0, none⟩)) (St.after s N x i) wk) := rep4
      clear o4 fr4 rep4 HPE HBQ HR
      go_wp2_with fail
      refine (HDU.out _ S4 HR4.out).mono ?_
      rintro e w5 ⟨o5, db, dof, cap5, rfl, hcells⟩
      have HB5 : Hid (Below w.heap.size w w5) := HB4.out.1.trans (o5.toBelow w.heap.size HB4.out.1.size HB4.out.2)
      have HCE : Hid (∀ j (hj : j < PL.length), w5.cell? ⟨db, dof + j * 12, none⟩ = some (.int .i64 0) ∧ w5.cell? ⟨db, dof + j * 12 + 1, none⟩ = some (.int .i64 PL[j].f) ∧ w5.cell? ⟨db, dof + j * 12 + 2, none⟩ = some (.int .i64 PL[j].t) ∧ (decide ((PL[j].f : Int) ≤ X) && decide (X < (PL[j].t : Int))) = false) := hcells
      rw [HNN.out]
      clear o5 hcells HDU HR4 HB4
      go_wp2_with fail
      go_loopg [18] n (fun k v wq => wq = w5 ∧ ∃ j : Nat, v = .int .i64 j ∧ j + k = n)
      case atStart => exact ⟨rfl, 0, rfl, by omega⟩
      case round =>
        obtain ⟨rfl, j, rfl, hjk⟩ := hrel
        by_cases hj : j < n
        · have hj' : (j : Int) < (n : Int) := by omega
          obtain ⟨k1, k2, k3, k4⟩ := HCE.out j (by rw [HNN.out]; exact hj)
          obtain ⟨f, hf⟩ : ∃ f : Int, (PL[j]'(by rw [HNN.out]; exact hj)).f = f := ⟨_, rfl⟩
          obtain ⟨t, ht⟩ : ∃ t : Int, ((PL[j]'(by rw [HNN.out]; exact hj)).t : Int) = t := ⟨_, rfl⟩
          rw [hf] at k2 k4
          rw [ht] at k3 k4
          clear hf ht
          by_cases hfx : f ≤ X
          · have hxt : ¬ X < t := by simp [hfx] at k4; omega
            clear k4
            go_wp2_with fail
            go_roundg (gk - 1)
            case measure => omega
            case rel => exact ⟨rfl, j + 1, by go_num, by omega⟩
          · clear k4
            go_wp2_with fail
            go_roundg (gk - 1)
            case measure => omega
            case rel => exact ⟨rfl, j + 1, by go_num, by omega⟩
        · have hj' : ¬ (j : Int) < (n : Int) := by omega
          go_wp2_with fail
          go_ret
          refine ⟨?_, HB5.out⟩
          show Ending.returned (.bool (decide (0 < n))) = _
          rw [decide_eq_true (by omega)]
end Go.Proofs.YtkpebabbnndopaaGreatDoor

/- Groups of five in any order: what the receiver keeps, as plain data. -/
namespace Go.Proofs.YtkpebabbnndopaaGreatDoor
open Go.RowKit
set_option linter.unusedVariables false
set_option linter.unusedSimpArgs false

/-- the numbers from a to b that are not in D -/
def RestL (a b : Nat) (D : List Nat) : List Nat := ((List.range (b - a)).map (a + ·)).filter fun g => decide (g ∉ D)
theorem RestL_mem {a b : Nat} {D : List Nat} {g : Nat} : g ∈ RestL a b D ↔ a ≤ g ∧ g < b ∧ g ∉ D := by
  unfold RestL
  rw [List.mem_filter, List.mem_map]
  constructor
  · rintro ⟨⟨i, hi, rfl⟩, hd⟩
    rw [List.mem_range] at hi
    exact ⟨by omega, by omega, by simpa using hd⟩
  · rintro ⟨h1, h2, h3⟩
    exact ⟨⟨g - a, by rw [List.mem_range]; omega, by omega⟩, by simpa using h3⟩
theorem RestL_nodup (a b : Nat) (D : List Nat) : (RestL a b D).Nodup := by
  unfold RestL
  refine List.Pairwise.filter _ ?_
  exact List.Pairwise.map _ (fun x y (h : x ≠ y) => by omega) List.nodup_range
theorem RestL_len (a b : Nat) (D : List Nat) : (RestL a b D).length ≤ b - a := by
  unfold RestL
  refine Nat.le_trans (List.length_filter_le _ _) ?_
  simp
theorem RestL_add {a b c : Nat} {D : List Nat} (h1 : a ≤ b) (h2 : b ≤ c) (hD : ∀ g, g ∈ D → g < b) : RestL a b D ++ (List.range (c - b)).map (b + ·) = RestL a c D := by
  have e : (List.range (c - a)).map (a + ·) = (List.range (b - a)).map (a + ·) ++ (List.range (c - b)).map (b + ·) := by
    rw [show c - a = (b - a) + (c - b) by omega, List.range_add, List.map_append, List.map_map]
    congr 1
    apply List.map_congr_left
    intro i _
    show a + (b - a + i) = b + i
    omega
  unfold RestL
  rw [e, List.filter_append]
  congr 1
  rw [List.filter_eq_self.2]
  intro g hg
  rw [List.mem_map] at hg
  obtain ⟨i, _, rfl⟩ := hg
  simp only [decide_eq_true_eq]
  intro hd
  have := hD _ hd
  omega
theorem RestL_cons {a b g : Nat} {D : List Nat} : (RestL a b D).erase g = RestL a b (g :: D) := by
  rw [(RestL_nodup a b D).erase_eq_filter]
  unfold RestL
  rw [List.filter_filter]
  apply List.filter_congr
  intro i _
  by_cases h : i = g
  · simp [h]
  · simp [h]
theorem RestL_last {a g : Nat} {D : List Nat} (h : a ≤ g) : RestL a (g + 1) (g :: D) = RestL a g D := by
  unfold RestL
  rw [show g + 1 - a = (g - a) + 1 by omega, List.range_succ, List.map_append, List.filter_append]
  have e : ([g - a].map (a + ·)).filter (fun i => decide (i ∉ g :: D)) = [] := by
    have : a + (g - a) = g := by omega
    simp [this]
  rw [e, List.append_nil]
  apply List.filter_congr
  intro i hi
  rw [List.mem_map] at hi
  obtain ⟨j, hj, rfl⟩ := hi
  rw [List.mem_range] at hj
  have : a + j ≠ g := by omega
  simp [this]
theorem RestL_none {a b : Nat} {D : List Nat} (h : ∀ g, a ≤ g → g < b → g ∈ D) : RestL a b D = [] := by
  rw [List.eq_nil_iff_forall_not_mem]
  intro g hg
  rw [RestL_mem] at hg
  exact hg.2.2 (h g hg.1 hg.2.1)
/-- the receiver, in a group that goes from f to t, behind the messages D of it -/
structure InG (s : Nat → Int) (N x y f t : Nat) (D : List Nat) (st : St) : Prop where
  ok : st.Ok
  s : st.s = s
  n : st.n = N
  own : st.own = y
  cl : st.closed = false
  ft : f ≤ t ∧ t ≤ f + 5
  lo : f ≤ (st.m x).next
  hi : (st.m x).next ≤ t
  over : (st.m x).over = RestL f (st.m x).next D
  dn : ∀ g, g ∈ D → f ≤ g ∧ g < (st.m x).next
theorem after_s (s : Nat → Int) (N x i : Nat) : (St.after s N x i).s = s := by
  induction i with
  | zero => rfl
  | succ i ih => exact ih
theorem after_frame {s : Nat → Int} {N x i : Nat} {st : St} (hx : x < N) (hN : N ≤ 16) (hi : i ≤ 65535) (hs : st.s = s) (hn : st.n = N) (t : List UInt8) : unWho ((St.after s N x i).frame t) = x ∧ unGen ((St.after s N x i).frame t) = i ∧ ((St.after s N x i).frame t).length = t.length + 7 ∧ st.unOk ((St.after s N x i).frame t) = true ∧ st.unText ((St.after s N x i).frame t) = t := by
  obtain ⟨a1, a2, a3, a4⟩ := after_n s N x i
  have ha := after_next s N x hx i
  have e := frame_un (s1 := St.after s N x i) (s2 := st) (by rw [hs, after_s]) (by rw [hn, a1]) (by rw [a2]; omega) (by rw [ha]; omega) t
  rw [ha, a2] at e
  exact e
section
variable {s : Nat → Int} {N x y f t : Nat} {D : List Nat} {st : St}
/-- a message of the group that was not opened yet opens -/
theorem InG.opens (h : InG s N x y f t D st) (hx : x < N) (hN : N ≤ 16) (hxy : x ≠ y) {i : Nat} (hf : f ≤ i) (hi : i < t) (hd : i ∉ D) (hb : i ≤ 65535) {tx : List UInt8} (ht : tx.length ≤ 40) : st.unErr ((St.after s N x i).frame tx) = 0 ∧ InG s N x y f t (i :: D) (st.unNext ((St.after s N x i).frame tx)) := by
  obtain ⟨e1, e2, e3, e4, e5⟩ := after_frame (st := st) hx hN hb h.s h.n tx
  generalize (St.after s N x i).frame tx = l at *
  have hft := h.ft
  have hlo := h.lo
  have hp : st.unPre l = 0 := by
    unfold St.unPre
    rw [h.cl, e3, e1, e2, h.n, h.own, if_neg (by simp), if_neg (by omega), if_neg hxy, if_neg ?_, if_neg (by omega)]
    rintro ⟨h1, h2⟩
    exact h2 (by rw [h.over, RestL_mem]; exact ⟨hf, h1, hd⟩)
  refine ⟨by unfold St.unErr; rw [if_neg (by omega), e4, if_pos rfl], ?_⟩
  have hxn : x < st.n := by rw [h.n]; exact hx
  have hok := h.ok.unNext (l := l) (by rw [e1]; exact hxn)
  by_cases hm : i ∈ (st.m x).over
  · have hu : st.unNext l = st.useKey x i := by rw [unNext_use (by rw [e1, e2]; exact hm), e1, e2]
    have hmm := useKey_m h.ok hxn i x
    rw [if_pos rfl] at hmm
    rw [hu] at hok ⊢
    have him := hm
    rw [h.over, RestL_mem] at him
    refine ⟨hok, h.s, h.n, h.own, h.cl, h.ft, by rw [hmm]; exact h.lo, by rw [hmm]; exact h.hi, ?_, ?_⟩
    · rw [hmm]
      show (st.m x).over.erase i = RestL f (st.m x).next (i :: D)
      rw [h.over, RestL_cons]
    · rw [hmm]
      intro g hg
      rcases List.mem_cons.1 hg with e | e
      · subst e; exact ⟨him.1, him.2.1⟩
      · exact h.dn g e
  · have hge : (st.m x).next ≤ i := Nat.le_of_not_lt fun hlt => hm (by rw [h.over, RestL_mem]; exact ⟨hf, hlt, hd⟩)
    have hu : st.unNext l = st.passTo x i := by rw [unNext_pass (by rw [e1, e2]; exact hm), e1, e2]
    have hmm := passTo_m h.ok hxn i x
    rw [if_pos rfl] at hmm
    have hov : unOver (st.m x) i = RestL f i D := by
      have e : overAll (st.m x) i = RestL f i D := by
        unfold overAll
        rw [h.over]
        exact RestL_add h.lo hge (fun g hg => (h.dn g hg).2)
      rw [unOver_eq, e]
      have := RestL_len f i D
      rw [show (RestL f i D).length - 4 = 0 by omega]
      rfl
    rw [hov] at hmm
    rw [hu] at hok ⊢
    refine ⟨hok, h.s, h.n, h.own, h.cl, h.ft, by rw [hmm]; show f ≤ i + 1; omega, by rw [hmm]; show i + 1 ≤ t; omega, ?_, ?_⟩
    · rw [hmm]
      show RestL f i D = RestL f (i + 1) (i :: D)
      rw [RestL_last hf]
    · rw [hmm]
      intro g hg
      show f ≤ g ∧ g < i + 1
      rcases List.mem_cons.1 hg with e | e
      · omega
      · have := h.dn g e; omega
/-- one that was opened, or lies behind, opens no more -/
theorem InG.shut (h : InG s N x y f t D st) (hx : x < N) (hN : N ≤ 16) (hxy : x ≠ y) {i : Nat} (hi : i ∈ D ∨ i < f) (hb : i ≤ 65535) {tx : List UInt8} (ht : tx.length ≤ 40) : st.unErr ((St.after s N x i).frame tx) = 5 := by
  obtain ⟨e1, e2, e3, e4, e5⟩ := after_frame (st := st) hx hN hb h.s h.n tx
  generalize (St.after s N x i).frame tx = l at *
  have hlt : i < (st.m x).next := by
    rcases hi with hi | hi
    · exact (h.dn i hi).2
    · exact Nat.lt_of_lt_of_le hi h.lo
  have hno : i ∉ (st.m x).over := by
    rw [h.over, RestL_mem]
    rintro ⟨h1, _, h3⟩
    rcases hi with hi | hi
    · exact h3 hi
    · omega
  have hp : st.unPre l = 5 := by
    unfold St.unPre
    rw [h.cl, e3, e1, e2, h.n, h.own, if_neg (by simp), if_neg (by omega), if_neg hxy, if_pos ⟨hlt, hno⟩]
  unfold St.unErr
  rw [hp, if_pos (by decide)]
/-- the next group -/
theorem InG.next (h : InG s N x y f t D st) (hf : f < t) (hall : ∀ g, f ≤ g → g < t → g ∈ D) {t' : Nat} (h1 : t ≤ t') (h2 : t' ≤ t + 5) : InG s N x y t t' [] st := by
  have hn : (st.m x).next = t := by
    have h3 := (h.dn (t - 1) (hall (t - 1) (by omega) (by omega))).2
    have := h.hi
    omega
  refine ⟨h.ok, h.s, h.n, h.own, h.cl, ⟨h1, h2⟩, by omega, by omega, ?_, fun g hg => by cases hg⟩
  rw [h.over, hn, RestL_none hall]
  unfold RestL
  rw [Nat.sub_self]
  rfl
end
/-- the beginning -/
theorem InG.new (s : Nat → Int) (hs : ∀ i, 0 ≤ s i ∧ s i < 256) (N x y t : Nat) (h1 : 1 ≤ N) (h2 : N ≤ 16) (hy : y < N) (ht : t ≤ 5) : InG s N x y 0 t [] (St.new s N y) :=
  ⟨St.new_ok s hs N y h1 h2 hy, rfl, rfl, rfl, rfl, ⟨by omega, by omega⟩, by omega, by rw [St.new_m]; show 0 ≤ t; omega, by rw [St.new_m]; rfl, fun g hg => by cases hg⟩
end Go.Proofs.YtkpebabbnndopaaGreatDoor

/- Lists of numbers in memory that a call has made. -/
namespace Go.Proofs.YtkpebabbnndopaaGreatDoor
open Go.RowKit

def natCells (l : List Nat) : List Value := l.map fun (n : Nat) => Value.int .i64 (n : Int)
def Nums (w : World) (base : Nat) (v : Value) (l : List Nat) : Prop := w.ownsRow base 3 1 v l.length (natCells l)
theorem natCells_length (l : List Nat) : (natCells l).length = l.length := by simp [natCells]
theorem Nums.below {w w' : World} {base : Nat} {v : Value} {l : List Nat} (h : Nums w base v l) (hb : Below w.heap.size w w') : Nums w' base v l := by
  refine ⟨h.1, ?_⟩
  rcases h.2 with h | ⟨g, cap, cur, h1, h2, h3, h4⟩
  · exact .inl h
  · exact .inr ⟨g, cap, cur, h1, h2, by rw [hb.block _ (Array.getElem?_eq_some_iff.1 h3).1, h3], h4⟩
theorem natCells_append (l m : List Nat) : natCells (l ++ m) = natCells l ++ natCells m := by simp [natCells]
theorem natCells_one (l : List Nat) : ∀ u, u ∈ natCells l → u.oneCell' = true := by
  intro u hu
  obtain ⟨x, _, rfl⟩ := List.mem_map.1 hu
  rfl
/-- a slice of numbers, wherever it lies -/
def NumsAt (w : World) (p : Option Addr) (l : List Nat) (cap : Nat) : Prop := (p = none ∧ l = [] ∧ cap = 0) ∨ ∃ b o, p = some ⟨b, o, none⟩ ∧ ∀ j (hj : j < l.length), w.cell? ⟨b, o + j, none⟩ = some (.int .i64 (l[j] : Int))
theorem nums_append (w : World) (base : Nat) (v : Value) (l m : List Nat) (p : Option Addr) (cap : Nat) (h : Nums w base v l) (h2 : NumsAt w p m cap) (hb : base ≤ w.heap.size) (hl : l.length + m.length ≤ 1000) (ty : TypeId) :
    ∃ v' w', (Builtin.append_ #[22, 22] ty #[v, .slice p m.length cap]).run Tryz.prog w = .ok v' w' ∧ Nums w' base v' (l ++ m) ∧ Below base w w' ∧ base ≤ w'.heap.size := by
  have hi : (Tryz.prog.info? 3).map (fun i => (i.zero, i.size, i.bytes)) = some (some (.int .i64 0), 1, 8) := by kernel_rfl
  cases hq : Tryz.prog.info? 3 with
  | none => rw [hq] at hi; simp at hi
  | some i =>
    rw [hq] at hi
    simp at hi
    obtain ⟨hz, hs, hby⟩ := hi
    rcases h2 with ⟨rfl, rfl, rfl⟩ | ⟨g, o, rfl, hc⟩
    · refine ⟨v, w, run_append_owned_none (P := Tryz.prog) w base 22 ty 3 i 1 Tryz.underlying22 hq v l.length (natCells l) h, by rw [List.append_nil]; exact h, Below.refl _ _, hb⟩
    · obtain ⟨v', w', hr, ho, hg, _, hbk⟩ := run_append_own_at (P := Tryz.prog) w base 22 ty 3 i _ 1 8 Tryz.underlying22 hq hz hs hby rfl (by omega) v l.length (natCells l) h ⟨g, o, none⟩ m.length cap (natCells m) (by rw [natCells_length]; omega)
        (fun j u hj => by
          have ea : (⟨g, o, none⟩ : Addr).add j = ⟨g, o + j, none⟩ := by unfold Addr.add; split <;> simp_all
          have hjl : j < m.length := by rw [← natCells_length]; exact (List.getElem?_eq_some_iff.1 hj).1
          rw [ea, hc j hjl]
          unfold natCells at hj
          rw [List.getElem?_map, List.getElem?_eq_getElem hjl] at hj
          exact hj) (natCells_one m) (by unfold maxLen; omega) (by omega) hb
      refine ⟨v', w', hr, ?_, ?_, ?_⟩
      · unfold Nums
        rw [List.length_append, natCells_append]
        exact ho
      · refine (Below.refl base w).grown hg hb (fun k hk => ?_)
        rcases h.2 with ⟨e1, _⟩ | ⟨g', cap', cur, e1, e2, _⟩
        · subst e1; cases hk
        · subst e1; cases hk; exact e2
      · exact Nat.le_trans hb hg.size
end Go.Proofs.YtkpebabbnndopaaGreatDoor

/- Lists of strings in memory that a call has made. -/
namespace Go.Proofs.YtkpebabbnndopaaGreatDoor
open Go.RowKit
set_option linter.unusedVariables false

def strC (l : List ByteArray) : List Value := l.map Value.string
def Strs (w : World) (base : Nat) (v : Value) (l : List ByteArray) : Prop := w.ownsRow base 9 1 v l.length (strC l)
theorem strC_length (l : List ByteArray) : (strC l).length = l.length := by simp [strC]
theorem strC_append (l m : List ByteArray) : strC (l ++ m) = strC l ++ strC m := by simp [strC]
theorem strC_one (l : List ByteArray) : ∀ u, u ∈ strC l → u.oneCell' = true := by
  intro u hu
  obtain ⟨x, _, rfl⟩ := List.mem_map.1 hu
  rfl
theorem Strs.keep {w w' : World} {base : Nat} {v : Value} {l : List ByteArray} (h : Strs w base v l) (hb : ∀ k, k < w.heap.size → v.ownBlock = some k → w'.heap[k]? = w.heap[k]?) : Strs w' base v l := by
  refine ⟨h.1, ?_⟩
  rcases h.2 with h | ⟨g, cap, cur, h1, h2, h3, h4⟩
  · exact .inl h
  · exact .inr ⟨g, cap, cur, h1, h2, by rw [hb g (Array.getElem?_eq_some_iff.1 h3).1 (by rw [h1]; rfl), h3], h4⟩
theorem Strs.below {w w' : World} {base : Nat} {v : Value} {l : List ByteArray} (h : Strs w base v l) (hb : Below w.heap.size w w') : Strs w' base v l := h.keep fun k hk _ => hb.block k hk
/-- what lies at a place of the list -/
theorem Strs.at {w : World} {base : Nat} {v : Value} {l : List ByteArray} (h : Strs w base v l) (j : Nat) (hj : j < l.length) : ∃ g cap, v = .slice (some ⟨g, 0, none⟩) l.length cap ∧ base ≤ g ∧ g < w.heap.size ∧ l.length ≤ cap ∧ w.cell? ⟨g, j, none⟩ = some (.string l[j]) := by
  rcases h.2 with ⟨_, h0⟩ | ⟨g, cap, cur, h1, h2, h3, h4, h5, h6, h7⟩
  · omega
  · refine ⟨g, cap, h1, h2, (Array.getElem?_eq_some_iff.1 h3).1, h4, ?_⟩
    rw [cell_of_row _ _ _ _ _ _ h3]
    have e : (cur.toList.take (l.length * 1))[j]? = some (.string l[j]) := by
      rw [h7]
      unfold strC
      rw [List.getElem?_map, List.getElem?_eq_getElem hj]
      rfl
    rw [List.getElem?_take_of_lt (by omega)] at e
    simpa using e
theorem Strs.val {w : World} {base : Nat} {v : Value} {l : List ByteArray} (h : Strs w base v l) : ∃ p cap, v = .slice p l.length cap ∧ ∀ k, v.ownBlock = some k → k < w.heap.size ∧ base ≤ k := by
  rcases h.2 with ⟨e, h0⟩ | ⟨g, cap, cur, h1, h2, h3, _⟩
  · exact ⟨none, 0, by rw [e, h0], fun k hk => by rw [e] at hk; cases hk⟩
  · refine ⟨_, cap, h1, fun k hk => ?_⟩
    rw [h1] at hk
    cases hk
    exact ⟨(Array.getElem?_eq_some_iff.1 h3).1, h2⟩
/-- a slice of strings, wherever it lies -/
def StrsAt (w : World) (p : Option Addr) (l : List ByteArray) (cap : Nat) : Prop := (p = none ∧ l = [] ∧ cap = 0) ∨ ∃ a : Addr, p = some a ∧ ∀ j (hj : j < l.length), w.cell? (a.add j) = some (.string l[j])
theorem strs_append (w : World) (base : Nat) (v : Value) (l m : List ByteArray) (p : Option Addr) (cap : Nat) (h : Strs w base v l) (h2 : StrsAt w p m cap) (hb : base ≤ w.heap.size) (hl : l.length + m.length ≤ 1000) (ty : TypeId) :
    ∃ v' w', (Builtin.append_ #[30, 30] ty #[v, .slice p m.length cap]).run Tryz.prog w = .ok v' w' ∧ Strs w' base v' (l ++ m) ∧ Below base w w' ∧ w.heap.size ≤ w'.heap.size ∧ (∀ k, k < w.heap.size → v.ownBlock ≠ some k → w'.heap[k]? = w.heap[k]?) ∧ ∀ k, v'.ownBlock = some k → v.ownBlock = some k ∨ w.heap.size ≤ k := by
  have hi : (Tryz.prog.info? 9).map (fun i => (i.zero, i.size, i.bytes)) = some (some (.string ⟨#[]⟩), 1, 16) := by kernel_rfl
  cases hq : Tryz.prog.info? 9 with
  | none => rw [hq] at hi; simp at hi
  | some i =>
    rw [hq] at hi
    simp at hi
    obtain ⟨hz, hs, hby⟩ := hi
    rcases h2 with ⟨rfl, rfl, rfl⟩ | ⟨g, rfl, hc⟩
    · refine ⟨v, w, run_append_owned_none (P := Tryz.prog) w base 30 ty 9 i 1 Tryz.underlying30 hq v l.length (strC l) h, by rw [List.append_nil]; exact h, Below.refl _ _, Nat.le_refl _, fun _ _ _ => rfl, fun k hk => .inl hk⟩
    · obtain ⟨v', w', hr, ho, hg, _, hbk⟩ := run_append_own_at (P := Tryz.prog) w base 30 ty 9 i _ 1 16 Tryz.underlying30 hq hz hs hby rfl (by omega) v l.length (strC l) h g m.length cap (strC m) (by rw [strC_length]; omega)
        (fun j u hj => by
          have hjl : j < m.length := by rw [← strC_length]; exact (List.getElem?_eq_some_iff.1 hj).1
          rw [hc j hjl]
          unfold strC at hj
          rw [List.getElem?_map, List.getElem?_eq_getElem hjl] at hj
          exact hj) (strC_one m) (by unfold maxLen; omega) (by omega) hb
      refine ⟨v', w', hr, ?_, ?_, hg.size, fun k hk hne => hg.block k hk (fun e => hne e.symm), fun k hk => ?_⟩
      · unfold Strs
        rw [List.length_append, strC_append]
        exact ho
      · refine (Below.refl base w).grown hg hb (fun k hk => ?_)
        rcases h.2 with ⟨e1, _⟩ | ⟨g', cap', cur, e1, e2, _⟩
        · subst e1; cases hk
        · subst e1; cases hk; exact e2
      · rcases hbk with e | e
        · exact .inl (e ▸ hk)
        · rw [e] at hk; cases hk; exact .inr (Nat.le_refl _)
theorem StrsAt.to {w w' : World} {p : Option Addr} {l : List ByteArray} {cap : Nat} (h : StrsAt w p l cap) (hb : Below w.heap.size w w') : StrsAt w' p l cap := by
  rcases h with h | ⟨a, e, h⟩
  · exact .inl h
  · refine .inr ⟨a, e, fun j hj => ?_⟩
    rw [hb.cell (block_lt_of_cell (h j hj)), h j hj]
/-- groups, where other blocks have changed -/
theorem Duo.beside {Rep : World → List Nat → Value → St → Nat → Prop} (C : Code Rep) {w0 w w' : World} {U : List Nat} {b c : Nat} {s1 s2 : St} {k1 k2 : Nat} (h : Duo Rep w0 w U b c s1 s2 k1 k2) (hz : w.heap.size ≤ w'.heap.size) (hk : ∀ k, k < w.heap.size → k ∈ U → w'.heap[k]? = w.heap[k]?) (hb : Below w0.heap.size w w') : Duo Rep w0 w' U b c s1 s2 k1 k2 := by
  obtain ⟨S, T, rfl, r1, r2, hd⟩ := h.parts
  exact ⟨⟨S, T, rfl, C.keep r1 hz (fun k a b => hk k a (List.mem_append_left _ b)), C.keep r2 hz (fun k a b => hk k a (List.mem_append_right _ b)), hd⟩, h.fresh, h.below.trans hb, h.ok1, h.ok2, h.glob⟩
/-- a list of strings that lies beside the groups -/
def StrBuf (w : World) (U : List Nat) (base : Nat) (v : Value) (l : List ByteArray) : Prop := Strs w base v l ∧ ∀ k, v.ownBlock = some k → k ∉ U
theorem StrBuf.step {w w' : World} {U U' : List Nat} {base : Nat} {v : Value} {l : List ByteArray} (h : StrBuf w U base v l) (ho : Outside U w w') (hf : Fresh w U U') : StrBuf w' U' base v l := by
  refine ⟨h.1.keep fun k hk e => ho.block k hk (h.2 k e), fun k e hm => ?_⟩
  rcases hf k hm with e1 | e1
  · exact h.2 k e e1
  · obtain ⟨_, _, _, hv⟩ := h.1.val
    have := (hv k e).1
    omega
theorem StrBuf.below {w w' : World} {U : List Nat} {base : Nat} {v : Value} {l : List ByteArray} (h : StrBuf w U base v l) (hb : Below w.heap.size w w') : StrBuf w' U base v l := h.step (Outside.ofBelow hb) (Fresh.refl _ _)
end Go.Proofs.YtkpebabbnndopaaGreatDoor

/- A number put into a list of numbers, by three appends. -/
namespace Go.Proofs.YtkpebabbnndopaaGreatDoor
open Go.RowKit
set_option linter.unusedVariables false

theorem Nums.val {w : World} {base : Nat} {v : Value} {l : List Nat} (h : Nums w base v l) : (v = .slice none 0 0 ∧ l = []) ∨ ∃ g cap, v = .slice (some ⟨g, 0, none⟩) l.length cap ∧ l.length ≤ cap ∧ base ≤ g ∧ g < w.heap.size ∧ ∀ j (hj : j < l.length), w.cell? ⟨g, j, none⟩ = some (.int .i64 (l[j] : Int)) := by
  rcases h.2 with ⟨e, h0⟩ | ⟨g, cap, cur, h1, h2, h3, h4, h5, h6, h7⟩
  · exact .inl ⟨e, List.length_eq_zero_iff.1 h0⟩
  · refine .inr ⟨g, cap, h1, h4, h2, (Array.getElem?_eq_some_iff.1 h3).1, fun j hj => ?_⟩
    rw [cell_of_row _ _ _ _ _ _ h3]
    have e : (cur.toList.take (l.length * 1))[j]? = some (.int .i64 (l[j] : Int)) := by
      rw [h7]
      unfold natCells
      rw [List.getElem?_map, List.getElem?_eq_getElem hj]
      rfl
    rw [List.getElem?_take_of_lt (by omega)] at e
    simpa using e
theorem Nums.up {w : World} {base base' : Nat} {v : Value} {l : List Nat} (h : Nums w base v l) (hb : base' ≤ base) : Nums w base' v l := by
  refine ⟨h.1, ?_⟩
  rcases h.2 with h | ⟨g, cap, cur, h1, h2, h3⟩
  · exact .inl h
  · exact .inr ⟨g, cap, cur, h1, Nat.le_trans hb h2, h3⟩
theorem Nums.keep {w w' : World} {base : Nat} {v : Value} {l : List Nat} (h : Nums w base v l) (hb : ∀ k, k < w.heap.size → v.ownBlock = some k → w'.heap[k]? = w.heap[k]?) : Nums w' base v l := by
  refine ⟨h.1, ?_⟩
  rcases h.2 with h | ⟨g, cap, cur, h1, h2, h3, h4⟩
  · exact .inl h
  · exact .inr ⟨g, cap, cur, h1, h2, by rw [hb g (Array.getElem?_eq_some_iff.1 h3).1 (by rw [h1]; rfl), h3], h4⟩
theorem Nums.nil (w : World) (base : Nat) : Nums w base (.slice none 0 0) [] := ⟨rfl, .inl ⟨rfl, rfl⟩⟩
/-- the list in parts -/
theorem numsAt_take {w : World} {g cap : Nat} {l : List Nat} (h : ∀ j (hj : j < l.length), w.cell? ⟨g, j, none⟩ = some (.int .i64 (l[j] : Int))) (A : Nat) : NumsAt w (some ⟨g, 0, none⟩) (l.take A) cap := .inr ⟨g, 0, rfl, fun j hj => by
  have hj' : j < l.length := by rw [List.length_take] at hj; omega
  rw [Nat.zero_add, h j hj', List.getElem_take]⟩
theorem numsAt_drop {w : World} {g cap : Nat} {l : List Nat} (h : ∀ j (hj : j < l.length), w.cell? ⟨g, j, none⟩ = some (.int .i64 (l[j] : Int))) (A : Nat) : NumsAt w (some ⟨g, A, none⟩) (l.drop A) cap := .inr ⟨g, A, rfl, fun j hj => by
  have hj' : A + j < l.length := by rw [List.length_drop] at hj; omega
  rw [h (A + j) hj', List.getElem_drop]⟩
theorem numsAt_from {w : World} {g cap : Nat} {l : List Nat} (h : ∀ j (hj : j < l.length), w.cell? ⟨g, j, none⟩ = some (.int .i64 (l[j] : Int))) (A oA : Nat) (ho : oA = A ∨ l.length ≤ A) : NumsAt w (some ⟨g, oA, none⟩) (l.drop A) cap := by
  rcases ho with rfl | ho
  · exact numsAt_drop h _
  · exact .inr ⟨g, oA, rfl, fun j hj => by rw [List.length_drop] at hj; omega⟩
theorem ins_any (w : World) (g cap cap2 : Nat) (l : List Nat) (hg : g < w.heap.size) (h : ∀ j (hj : j < l.length), w.cell? ⟨g, j, none⟩ = some (.int .i64 (l[j] : Int))) (A i oA : Nat) (ho : oA = A ∨ l.length ≤ A) (hA : A ≤ l.length) (hl : l.length ≤ 100) (ty : TypeId) :
    ∃ v1 w1 v2 w2 v3 w3, (Builtin.append_ #[22, 22] ty #[.slice none 0 0, .slice (some ⟨g, 0, none⟩) A cap]).run Tryz.prog w = .ok v1 w1 ∧
      (Builtin.append_ #[22, 22] ty #[v1, .slice (some ⟨w1.heap.size, 0, none⟩) 1 1]).run Tryz.prog (w1.alloc (.cells #[.int .i64 (i : Int)] 3)) = .ok v2 w2 ∧
      (Builtin.append_ #[22, 22] ty #[v2, .slice (some ⟨g, oA, none⟩) (l.length - A) cap2]).run Tryz.prog w2 = .ok v3 w3 ∧ Nums w3 w.heap.size v3 (l.take A ++ [i] ++ l.drop A) ∧ Below w.heap.size w w3 := by
  have hA' : (l.take A).length = A := by rw [List.length_take]; omega
  obtain ⟨v1, w1, r1, n1, b1, z1⟩ := nums_append w w.heap.size (.slice none 0 0) [] (l.take A) _ cap (Nums.nil _ _) (numsAt_take h A) (Nat.le_refl _) (by simp; omega) ty
  rw [hA'] at r1
  rw [List.nil_append] at n1
  have ba : Below w1.heap.size w1 (w1.alloc (.cells #[.int .i64 (i : Int)] 3)) := (Below.refl _ w1).alloc (Nat.le_refl _) _
  have hi : NumsAt (w1.alloc (.cells #[.int .i64 (i : Int)] 3)) (some ⟨w1.heap.size, 0, none⟩) [i] 1 := .inr ⟨_, _, rfl, fun j hj => by
    have : j = 0 := by simp at hj; exact hj
    subst this
    rw [cell_of_row _ _ _ _ _ _ (MapKept.heap_alloc w1 _).1]
    rfl⟩
  obtain ⟨v2, w2, r2, n2, b2, z2⟩ := nums_append _ w.heap.size v1 (l.take A) [i] _ 1 (n1.below ba) hi (by have := ba.size; omega) (by rw [hA']; simp; omega) ty
  have b12 : Below w.heap.size w w2 := (b1.trans (ba.mono z1)).trans b2
  have h2 : ∀ j (hj : j < l.length), w2.cell? ⟨g, j, none⟩ = some (.int .i64 (l[j] : Int)) := fun j hj => by rw [b12.cell (p := ⟨g, j, none⟩) hg]; exact h j hj
  obtain ⟨v3, w3, r3, n3, b3, z3⟩ := nums_append w2 w.heap.size v2 (l.take A ++ [i]) (l.drop A) _ cap2 n2 (numsAt_from h2 A oA ho) z2 (by rw [List.length_append, hA', List.length_drop]; simp; omega) ty
  rw [List.length_drop] at r3
  exact ⟨v1, w1, v2, w2, v3, w3, r1, r2, r3, n3, b12.trans b3⟩
/-- and where there was nothing -/
theorem ins_nil (w : World) (i : Nat) (ty : TypeId) :
    ∃ v2 w2, (Builtin.append_ #[22, 22] ty #[.slice none 0 0, .slice (some ⟨w.heap.size, 0, none⟩) 1 1]).run Tryz.prog (w.alloc (.cells #[.int .i64 (i : Int)] 3)) = .ok v2 w2 ∧ Nums w2 w.heap.size v2 [i] ∧ Below w.heap.size w w2 := by
  have ba : Below w.heap.size w (w.alloc (.cells #[.int .i64 (i : Int)] 3)) := (Below.refl _ w).alloc (Nat.le_refl _) _
  have hi : NumsAt (w.alloc (.cells #[.int .i64 (i : Int)] 3)) (some ⟨w.heap.size, 0, none⟩) [i] 1 := .inr ⟨_, _, rfl, fun j hj => by
    have : j = 0 := by simp at hj; exact hj
    subst this
    rw [cell_of_row _ _ _ _ _ _ (MapKept.heap_alloc w _).1]
    rfl⟩
  obtain ⟨v2, w2, r2, n2, b2, z2⟩ := nums_append _ w.heap.size (.slice none 0 0) [] [i] _ 1 (Nums.nil _ _) hi ba.size (by simp) ty
  exact ⟨v2, w2, r2, n2, ba.trans b2⟩
theorem app_nil {w : World} {base : Nat} {v : Value} {l : List Nat} (h : Nums w base v l) (ty : TypeId) : (Builtin.append_ #[22, 22] ty #[v, .slice none 0 0]).run Tryz.prog w = .ok v w := by
  have hi : (Tryz.prog.info? 3).map (fun i => (i.zero, i.size, i.bytes)) = some (some (.int .i64 0), 1, 8) := by kernel_rfl
  cases hq : Tryz.prog.info? 3 with
  | none => rw [hq] at hi; simp at hi
  | some i =>
    rw [hq] at hi
    simp at hi
    obtain ⟨_, hs, _⟩ := hi
    exact run_append_owned_none (P := Tryz.prog) w base 22 ty 3 i 1 Tryz.underlying22 hq v l.length (natCells l) h
theorem sl_to (g cap len A : Nat) (hA : A ≤ cap) (W : World) : (Instr.sliceAt 22 (.slice (some ⟨g, 0, none⟩) len cap) none (some (.int .i64 (A : Int))) none).run Tryz.prog W = .ok (.slice (some ⟨g, 0, none⟩) A cap) W := by
  have x0 : (0 : Int) ≤ (A : Int) := by omega
  have x1 : (A : Int) ≤ (cap : Int) := by omega
  simp [go_sem, x0, x1]
theorem sl_from (g cap len A : Nat) (hA : A ≤ len) (hl : len ≤ cap) (W : World) : (Instr.sliceAt 22 (.slice (some ⟨g, 0, none⟩) len cap) (some (.int .i64 (A : Int))) none none).run Tryz.prog W = .ok (.slice (some ⟨g, if cap = A then 0 else A, none⟩) (len - A) (cap - A)) W := by
  have x0 : (0 : Int) ≤ (A : Int) := by omega
  have x1 : (A : Int) ≤ (len : Int) := by omega
  by_cases h : cap = A
  · simp [go_sem, x0, x1, h]
  · simp [go_sem, x0, x1, h]
/-- what is in it behind -/
theorem ins_list {l : List Nat} {F i : Nat} (hn : l.Nodup) (hm : ∀ g, g ∈ l ↔ F ≤ g ∧ g < i) (hF : F ≤ i) (A : Nat) : (l.take A ++ [i] ++ l.drop A).Nodup ∧ (l.take A ++ [i] ++ l.drop A).length = l.length + 1 ∧ ∀ g, g ∈ l.take A ++ [i] ++ l.drop A ↔ F ≤ g ∧ g < i + 1 := by
  have hp : (l.take A ++ [i] ++ l.drop A).Perm (i :: l) := by
    have h1 : (l.take A ++ [i] ++ l.drop A).Perm ([i] ++ l.take A ++ l.drop A) := List.Perm.append_right _ List.perm_append_comm
    refine h1.trans ?_
    rw [List.append_assoc, List.take_append_drop]
    exact List.Perm.refl _
  refine ⟨hp.nodup_iff.2 (List.nodup_cons.2 ⟨fun h => ?_, hn⟩), by rw [hp.length_eq]; rfl, fun g => ?_⟩
  · have := (hm i).1 h; omega
  · rw [hp.mem_iff, List.mem_cons, hm]
    constructor
    · rintro (h | h) <;> omega
    · intro h
      by_cases e : g = i
      · exact .inl e
      · exact .inr (by omega)
end Go.Proofs.YtkpebabbnndopaaGreatDoor
