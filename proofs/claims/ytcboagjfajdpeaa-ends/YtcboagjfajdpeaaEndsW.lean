/- Ends: the walk, of any program whose calls are as Code asks. -/
import Derived.Test.YtcboagjfajdpeaaKeepA
import Derived.Test.YtcboagjfajdpeaaPureE
import Derived.WalkKit
import Derived.WalkSpells
import Derived.WalkLawsBesides
import Derived.Deep.WholeRow
import Derived.Deep.LoopGhost
namespace Go.Proofs.Ytcboagjfajdpeaa
open Go.RowKit
set_option linter.unusedVariables false

theorem after_next (s : Nat → Int) (n own : Nat) (ho : own < n) (i : Nat) : ((St.after s n own i).m (St.after s n own i).own).next = i := by
  rw [(after_n s n own i).2.1, after_m s n own ho, if_pos rfl]
theorem after_err (s : Nat → Int) (n own : Nat) (ho : own < n) (i : Nat) (hi : i ≤ 65535) : (St.after s n own i).protErr ([] : List UInt8).length = 0 := by
  unfold St.protErr
  rw [(after_n s n own i).2.2.1, after_next s n own ho i, if_neg (by simp), if_neg (by simp), if_neg (by omega)]
theorem after_spent (s : Nat → Int) (n own : Nat) (ho : own < n) : (St.after s n own 65536).protErr ([] : List UInt8).length = 8 := by
  unfold St.protErr
  rw [(after_n s n own 65536).2.2.1, after_next s n own ho 65536, if_neg (by simp), if_neg (by simp), if_pos (by omega)]
theorem frame_nil (st : St) : (st.frame []).length = 7 ∧ (st.frame [])[0]? = some (UInt8.ofNat st.own) ∧ (st.frame [])[1]? = some (UInt8.ofNat ((st.m st.own).next / 256)) ∧ (st.frame [])[2]? = some (UInt8.ofNat (st.m st.own).next) := by
  unfold St.frame
  refine ⟨by rw [List.length_append, SealT_length]; rfl, ?_, ?_, ?_⟩ <;> rfl
/-- the frame's head, where it lies -/
theorem frame_cells {w : World} {f o : Nat} {st : St} (ho : st.own < 16) (hn : (st.m st.own).next ≤ 65535) (h : Bts w (some ⟨f, o, none⟩) (st.frame [])) : w.cell? ⟨f, o, none⟩ = some (.int .u8 (st.own : Int)) ∧ w.cell? ⟨f, o + 1, none⟩ = some (.int .u8 (((st.m st.own).next : Int) / 256)) ∧ w.cell? ⟨f, o + 2, none⟩ = some (.int .u8 (((st.m st.own).next : Int) % 256)) := by
  obtain ⟨h1, h2, h3, h4⟩ := frame_nil st
  rcases h with h | ⟨b, p, e, hc⟩
  · rw [h] at h1; cases h1
  · cases e
    have g : ∀ i c, (st.frame [])[i]? = some c → w.cell? ⟨f, o + i, none⟩ = some (.int .u8 (c.toNat : Int)) := fun i c hi => by
      obtain ⟨hl, he⟩ := List.getElem?_eq_some_iff.1 hi
      rw [hc i hl, he]
    refine ⟨?_, ?_, ?_⟩
    · have := g 0 _ h2
      rw [Nat.add_zero] at this
      rw [this, UInt8.toNat_ofNat']
      congr 2
      omega
    · rw [g 1 _ h3, UInt8.toNat_ofNat']
      congr 2
      omega
    · rw [g 2 _ h4, UInt8.toNat_ofNat']
      congr 2
theorem it_cell (l : List It) (i : Nat) (hi : i < l.length) : (itCells l)[i * 12]? = some (.int .i64 l[i].kind) ∧ (itCells l)[i * 12 + 1]? = some (.int .i64 l[i].f) ∧ (itCells l)[i * 12 + 2]? = some (.int .i64 l[i].t) ∧ (itCells l)[i * 12 + 3]? = some (.int .i64 l[i].g) := by
  have e : l = l.take i ++ l[i] :: l.drop (i + 1) := by rw [List.getElem_cons_drop, List.take_append_drop]
  have hl : (itCells (l.take i)).length = i * 12 := by rw [itCells_length, List.length_take]; omega
  have h : ∀ j, j < 12 → (itCells l)[i * 12 + j]? = l[i].cells[j]? := fun j hj => by
    have e2 : itCells l = itCells (l.take i) ++ (l[i].cells ++ itCells (l.drop (i + 1))) := by
      have : itCells (l[i] :: l.drop (i + 1)) = l[i].cells ++ itCells (l.drop (i + 1)) := rfl
      rw [← this, ← itCells_append, ← e]
    rw [e2, List.getElem?_append_right (by omega), hl, show i * 12 + j - i * 12 = j by omega, List.getElem?_append_left (by show j < 12; exact hj)]
  exact ⟨h 0 (by omega), h 1 (by omega), h 2 (by omega), h 3 (by omega)⟩

theorem and_255 (n : Int) : bits .and .i64 n 255 = n % 256 := by
  have h1 : (BitVec.ofInt 64 255).toNat = 2 ^ 8 - 1 := by decide
  have h2 : (BitVec.ofInt 64 n &&& BitVec.ofInt 64 255).toNat = (n % ((2 ^ 64 : Nat) : Int)).toNat % 2 ^ 8 := by rw [BitVec.toNat_and, BitVec.toNat_ofInt, h1, Nat.and_two_pow_sub_one_eq_mod]
  show IntKind.i64.wrap ((BitVec.ofInt 64 n &&& BitVec.ofInt 64 255).toNat : Nat) = n % 256
  rw [h2, IntKind.wrap_i64]
  omega
set_option maxHeartbeats 4000000 in
set_option maxRecDepth 20000 in
theorem ends_any {Rep : World → List Nat → Value → St → Nat → Prop} (C : Code Rep) (root : ByteArray) (m a : Int) (hm1 : -9223372036854775808 ≤ m) (hm2 : m ≤ 9223372036854775807) (ha1 : -9223372036854775808 ≤ a) (ha2 : a ≤ 9223372036854775807) (w : World) :
    Calls Try.prog 8 #[.string root, .int .i64 m, .int .i64 a] w fun e w' => e = .returned (.bool true) ∧ Below w.heap.size w w' := by
  have hs := SecL_bd root.data.toList
  have HPR : Hid (Calls Try.prog 21 #[.string root, .int .i64 m, .int .i64 a] w fun e w' => Below w.heap.size w w' ∧ ∃ (N x y b c : Nat) (S T : List Nat), 2 ≤ N ∧ N ≤ 16 ∧ x < N ∧ y < N ∧ x ≠ y ∧ e = .returned (.tuple #[.pointer (some ⟨b, 0, none⟩), .pointer (some ⟨c, 0, none⟩), .int .i64 x]) ∧
      Rep w' S (.pointer (some ⟨b, 0, none⟩)) (St.new (SecL root.data.toList) N x) 0 ∧ Rep w' T (.pointer (some ⟨c, 0, none⟩)) (St.new (SecL root.data.toList) N y) 0 ∧ (∀ k, k ∈ S → w.heap.size ≤ k) ∧ (∀ k, k ∈ T → w.heap.size ≤ k) ∧ (∀ k, k ∈ S → k ∉ T)) := pair_any C root m a hm1 hm2 ha1 ha2 w
  obtain ⟨s, hse⟩ : ∃ s, SecL root.data.toList = s := ⟨_, rfl⟩
  rw [hse] at hs HPR
  clear hse hm1 hm2 ha1 ha2
  obtain ⟨MX, hMX⟩ : ∃ MX : Nat, MX = 65536 := ⟨_, rfl⟩
  have HMX : Hid (MX = 65536) := hMX
  clear hMX
  go_enter Try.func8, Try.ntmps8
  go_wp2_with fail
  refine HPR.out.mono ?_
  rintro e w1 ⟨b1, N, x, y, b, c, S, T, hN1, hN2, hx, hy, hxy, rfl, hr1, _, hS, _, _⟩
  have H1 : Hid (Rep w1 S (.pointer (some ⟨b, 0, none⟩)) (St.after s N x 0) 0 ∧ Below w.heap.size w w1 ∧ ∀ k, k ∈ S → w.heap.size ≤ k) := ⟨hr1, b1, hS⟩
  obtain ⟨X, hX⟩ : ∃ X : Int, (x : Int) = X := ⟨_, rfl⟩
  have HXX : Hid ((x : Int) = X) := hX
  have hXw : wrap64 X = X := by simp only [wrap64]; omega
  rw [hX]
  clear hr1 b1 hS HPR hX
  go_wp2_with fail
  go_loopg [10] MX (fun k v wr => ∃ i : Nat, v = .int .i64 i ∧ i + k = MX ∧ ∃ S wk, Hid (Rep wr S (.pointer (some ⟨b, 0, none⟩)) (St.after s N x i) wk ∧ Below w.heap.size w wr ∧ ∀ k, k ∈ S → w.heap.size ≤ k))
  case atStart => exact ⟨0, rfl, by omega, S, 0, H1.out⟩
  case round =>
    clear H1
    obtain ⟨i, rfl, hik, S, wk, HR⟩ := hrel
    obtain ⟨I, hI⟩ : ∃ I : Int, (i : Int) = I := ⟨_, rfl⟩
    have HII : Hid ((i : Int) = I) := hI
    have HIK : Hid (i + gk = MX) := hik
    rw [hI]
    have hI0 : 0 ≤ I := by omega
    by_cases hlt : I < 65536
    · have HIL : Hid (i < 65536) := by show _ < _; omega
      have HI1 : Hid (((i + 1 : Nat) : Int) = I + 1) := by show _ = _; omega
      have hbnd : I ≤ 65535 := by omega
      have hand : bits .and .i64 I 255 = I % 256 := and_255 I
      have hwr : wrap64 (I + 1) = I + 1 := by simp only [wrap64]; omega
      clear hik hI
      by_cases hlast : I = 65535
      · -- the last one: what is kept ahead of it
        have hl2 : (I == 65535) = true := by simpa using hlast
        have HLA : Hid (I = 65535) := hlast
        clear hlast
        have ok := after_ok s hs N x (by omega) hN2 hx i (by have := HIL.out; omega)
        have hnw : i = 65535 := by have := HII.out; have := HLA.out; omega
        have hdm := after_dump s N x hx i
        rw [if_pos (by omega)] at hdm
        obtain ⟨PL, hPL⟩ : ∃ PL, (St.after s N x i).parts 16 0 N = PL := ⟨_, rfl⟩
        have hPLl : PL.length ≤ 16 := by rw [← hPL]; have := St.parts_len (St.after s N x i) 16 0 N (by omega); omega
        rw [hPL] at hdm
        have HDU : Hid (Calls Try.prog 24 #[.pointer (some ⟨b, 0, none⟩)] wr fun e w' => Outside S wr w' ∧ ∃ S' p cap, Fresh wr S S' ∧ Rep w' S' (.pointer (some ⟨b, 0, none⟩)) (St.after s N x i) wk ∧ e = .returned (.slice p (PL.length + 1) cap) ∧ ∃ db dof, p = some ⟨db, dof, none⟩ ∧ w'.cell? ⟨db, dof + PL.length * 12, none⟩ = some (.int .i64 1) ∧ w'.cell? ⟨db, dof + PL.length * 12 + 1, none⟩ = some (.int .i64 X) ∧ w'.cell? ⟨db, dof + PL.length * 12 + 3, none⟩ = some (.int .i64 I)) := by
          refine (C.dump ok HR.out.1).mono fun e w' ⟨d1, S', p, cap, d2, d3, d4, d5⟩ => ⟨d1, S', p, cap, d2, d3, ?_, ?_⟩
          · rw [d4, hdm, List.length_append]; rfl
          · rcases d5 with d5 | ⟨db, dof, d6, _, _, _, d7, _⟩
            · rw [hdm] at d5; simp at d5
            · rw [hdm] at d7
              obtain ⟨q1, q2, q3, q4⟩ := it_cell (PL ++ [⟨1, x, x + 1, i, (St.after s N x i).ratAt x i⟩]) PL.length (by simp)
              have hget : (PL ++ [(⟨1, x, x + 1, i, (St.after s N x i).ratAt x i⟩ : It)])[PL.length]'(by simp) = ⟨1, x, x + 1, i, (St.after s N x i).ratAt x i⟩ := by simp
              rw [hget] at q1 q2 q3 q4
              refine ⟨db, dof, d6, ?_, ?_, ?_⟩
              · exact d7 _ _ q1
              · rw [← HXX.out, Nat.add_assoc]; exact d7 _ _ q2
              · rw [← HII.out, Nat.add_assoc]; exact d7 _ _ q4
        obtain ⟨n, hn⟩ : ∃ n, PL.length = n := ⟨_, rfl⟩
        rw [hn] at HDU hPLl
        clear hdm hPL hn ok hnw
        go_wp2_with fail
        refine HDU.out.mono ?_
        rintro e w4 ⟨o4, S4, p, cap4, fr4, rep4, rfl, db, dof, rfl, k1, k2, k3⟩
        have HRQ : Hid (Rep w4 S4 (.pointer (some ⟨b, 0, none⟩)) (St.after s N x i) wk) := rep4
        have HBQ : Hid (Below w.heap.size w w4 ∧ ∀ k, k ∈ S4 → w.heap.size ≤ k) := by
          refine ⟨HR.out.2.1.trans (o4.toBelow w.heap.size HR.out.2.1.size HR.out.2.2), fun k hk => ?_⟩
          rcases fr4 k hk with h | h
          · exact HR.out.2.2 k h
          · have := HR.out.2.1.size; omega
        clear o4 fr4 rep4 HR HDU
        go_wp2_with fail
        clear k1 k2 k3
        refine (C.prot (after_ok s hs N x (by omega) hN2 hx i (by have := HIL.out; omega)) HRQ.out none [] 0 (by simp) (.inl rfl) (by intro b o e; cases e) (after_err s N x hx i (by have := HIL.out; omega))).mono ?_
        rintro e w5 ⟨o5, S5, wk5, f, fo, cap, fr5, rep5, _, _, rfl, hf5, _, hcap5, hb5, _⟩
        have hcell := frame_cells (st := St.after s N x i) (by rw [(after_n s N x i).2.1]; omega) (by rw [after_next s N x hx i]; have := HIL.out; omega) hb5
        rw [after_next s N x hx i, (after_n s N x i).2.1, HII.out, HXX.out] at hcell
        obtain ⟨c0, c1, c2⟩ := hcell
        rw [(frame_nil (St.after s N x i)).1]
        have HNX : Hid (Rep w5 S5 (.pointer (some ⟨b, 0, none⟩)) (St.after s N x (i + 1)) wk5 ∧ Below w.heap.size w w5 ∧ ∀ k, k ∈ S5 → w.heap.size ≤ k) := by
          refine ⟨rep5, HBQ.out.1.trans (o5.toBelow w.heap.size HBQ.out.1.size HBQ.out.2), fun k hk => ?_⟩
          rcases fr5 k hk with h | h
          · exact HBQ.out.2 k h
          · have := HBQ.out.1.size; omega
        have HC7 : Hid (7 ≤ cap) := by have := hcap5; rw [(frame_nil (St.after s N x i)).1] at this; exact this
        clear o5 fr5 rep5 hf5 hcap5 hb5 HRQ HBQ
        go_wp2_with fail
        go_roundg (gk - 1)
        case measure => have := HMX.out; have := HIK.out; have := HIL.out; omega
        case rel => exact ⟨i + 1, by rw [HI1.out], by have := HMX.out; have := HIK.out; have := HIL.out; omega, S5, wk5, HNX.out⟩
      · have hl2 : (I == 65535) = false := by simpa using hlast
        clear hlast
        have HRQ : Hid (Rep wr S (.pointer (some ⟨b, 0, none⟩)) (St.after s N x i) wk) := HR.out.1
        have HBQ : Hid (Below w.heap.size w wr ∧ ∀ k, k ∈ S → w.heap.size ≤ k) := HR.out.2
        clear HR
        go_wp2_with fail
        refine (C.prot (after_ok s hs N x (by omega) hN2 hx i (by have := HIL.out; omega)) HRQ.out none [] 0 (by simp) (.inl rfl) (by intro b o e; cases e) (after_err s N x hx i (by have := HIL.out; omega))).mono ?_
        rintro e w5 ⟨o5, S5, wk5, f, fo, cap, fr5, rep5, _, _, rfl, hf5, _, hcap5, hb5, _⟩
        have hcell := frame_cells (st := St.after s N x i) (by rw [(after_n s N x i).2.1]; omega) (by rw [after_next s N x hx i]; have := HIL.out; omega) hb5
        rw [after_next s N x hx i, (after_n s N x i).2.1, HII.out, HXX.out] at hcell
        obtain ⟨c0, c1, c2⟩ := hcell
        rw [(frame_nil (St.after s N x i)).1]
        have HNX : Hid (Rep w5 S5 (.pointer (some ⟨b, 0, none⟩)) (St.after s N x (i + 1)) wk5 ∧ Below w.heap.size w w5 ∧ ∀ k, k ∈ S5 → w.heap.size ≤ k) := by
          refine ⟨rep5, HBQ.out.1.trans (o5.toBelow w.heap.size HBQ.out.1.size HBQ.out.2), fun k hk => ?_⟩
          rcases fr5 k hk with h | h
          · exact HBQ.out.2 k h
          · have := HBQ.out.1.size; omega
        have HC7 : Hid (7 ≤ cap) := by have := hcap5; rw [(frame_nil (St.after s N x i)).1] at this; exact this
        clear o5 fr5 rep5 hf5 hcap5 hb5 HRQ HBQ
        go_wp2_with fail
        go_roundg (gk - 1)
        case measure => have := HMX.out; have := HIK.out; have := HIL.out; omega
        case rel => exact ⟨i + 1, by rw [HI1.out], by have := HMX.out; have := HIK.out; have := HIL.out; omega, S5, wk5, HNX.out⟩
    · have hi6 : i = 65536 := by have := HMX.out; omega
      have hge : ¬ (I < 65536) := hlt
      have ok := after_ok s hs N x (by omega) hN2 hx i (by omega)
      have herr : (St.after s N x i).protErr ([] : List UInt8).length = 8 := by rw [hi6]; exact after_spent s N x hx
      have hdm := after_dump s N x hx i
      rw [if_neg (by omega), List.append_nil] at hdm
      have HPE : Hid (Calls Try.prog 22 #[.pointer (some ⟨b, 0, none⟩), .slice none 0 0] wr fun e w' => e = .returned (.tuple #[.slice none 0 0, .int .i64 8]) ∧ Outside S wr w' ∧ ∃ S', Fresh wr S S' ∧ Rep w' S' (.pointer (some ⟨b, 0, none⟩)) (St.after s N x i) wk) := by
        have := C.protErr ok HR.out.1 none [] 0 (by simp) (.inl rfl) (by intro b o e; cases e) (by rw [herr]; decide)
        rw [herr] at this
        exact this
      have hsome := parts_some (St.after s N x i) 16 0 N y (Nat.zero_le _) hy (by omega) (by rw [after_m s N x hx, if_neg (fun e => hxy e.symm)])
      have hclear := parts_clear (St.after s N x i) 16 0 N
      have hbx : ((St.after s N x i).m x).begun = true := by rw [after_m s N x hx, if_pos rfl]; simp; omega
      obtain ⟨PL, hPL⟩ : ∃ PL, (St.after s N x i).parts 16 0 N = PL := ⟨_, rfl⟩
      have hPLl : PL.length ≤ 16 := by rw [← hPL]; have := St.parts_len (St.after s N x i) 16 0 N (by omega); omega
      rw [hPL] at hdm hsome hclear
      have hpos : 0 < PL.length := List.length_pos_iff.2 hsome
      have HDU : Hid (∀ W S, Rep W S (.pointer (some ⟨b, 0, none⟩)) (St.after s N x i) wk → Calls Try.prog 24 #[.pointer (some ⟨b, 0, none⟩)] W fun e w' => Outside S W w' ∧ ∃ db dof cap, e = .returned (.slice (some ⟨db, dof, none⟩) PL.length cap) ∧ ∀ j (hj : j < PL.length), w'.cell? ⟨db, dof + j * 12, none⟩ = some (.int .i64 0) ∧ w'.cell? ⟨db, dof + j * 12 + 1, none⟩ = some (.int .i64 PL[j].f) ∧ w'.cell? ⟨db, dof + j * 12 + 2, none⟩ = some (.int .i64 PL[j].t) ∧ (decide ((PL[j].f : Int) ≤ X) && decide (X < (PL[j].t : Int))) = false) := fun W S hW => by
        refine (C.dump ok hW).mono fun e w' ⟨d1, S', p, cap, d2, d3, d4, d5⟩ => ⟨d1, ?_⟩
        rw [hdm] at d4 d5
        rcases d5 with d5 | ⟨db, dof, d6, _, _, _, d7, _⟩
        · exact absurd d5 hsome
        · refine ⟨db, dof, cap, by rw [d4, d6], fun j hj => ?_⟩
          obtain ⟨q1, q2, q3, q4⟩ := it_cell PL j hj
          obtain ⟨k1, k2, k3, k4⟩ := hclear PL[j] (List.getElem_mem hj)
          rw [k1] at q1
          refine ⟨d7 _ _ q1, by rw [Nat.add_assoc]; exact d7 _ _ q2, by rw [Nat.add_assoc]; exact d7 _ _ q3, ?_⟩
          cases hdc : (decide ((PL[j].f : Int) ≤ X) && decide (X < (PL[j].t : Int))) with
          | false => rfl
          | true =>
            rw [Bool.and_eq_true, decide_eq_true_eq, decide_eq_true_eq] at hdc
            have hxx := HXX.out
            have := begun_true (St.after s N x i) PL[j].f PL[j].t x (by omega) (by omega) hbx
            rw [this] at k4
            cases k4
      have HPL : Hid (PL.length ≤ 16) := hPLl
      obtain ⟨n, hn⟩ : ∃ n, PL.length = n := ⟨_, rfl⟩
      have HNN : Hid (PL.length = n) := hn
      have hn0 : (0 : Int) < n := by omega
      have hn16 : (n : Int) ≤ 16 := by omega
      have HSZ := HR.out.2
      have HBQ : Hid (Below w.heap.size w wr ∧ ∀ k, k ∈ S → w.heap.size ≤ k) := HR.out.2
      clear HSZ hdm herr hsome hclear hbx hPL hpos hPLl hn hi6 ok hik hI hlt HIK
      go_wp2_with fail
      refine HPE.out.mono ?_
      rintro e w4 ⟨rfl, o4, S4, fr4, rep4⟩
      have HB4 : Hid (Below w.heap.size w w4 ∧ ∀ k, k ∈ S4 → w.heap.size ≤ k) := by
        refine ⟨HBQ.out.1.trans (o4.toBelow w.heap.size HBQ.out.1.size HBQ.out.2), fun k hk => ?_⟩
        rcases fr4 k hk with h | h
        · exact HBQ.out.2 k h
        · have := HBQ.out.1.size; omega
      have HR4 : Hid (Rep w4 S4 (.pointer (some ⟨b, 0, none⟩)) (St.after s N x i) wk) := rep4
      clear o4 fr4 rep4 HPE HBQ HR
      go_wp2_with fail
      refine (HDU.out _ S4 HR4.out).mono ?_
      rintro e w5 ⟨o5, db, dof, cap5, rfl, hcells⟩
      have HB5 : Hid (Below w.heap.size w w5) := HB4.out.1.trans (o5.toBelow w.heap.size HB4.out.1.size HB4.out.2)
      have HCE : Hid (∀ j (hj : j < PL.length), w5.cell? ⟨db, dof + j * 12, none⟩ = some (.int .i64 0) ∧ w5.cell? ⟨db, dof + j * 12 + 1, none⟩ = some (.int .i64 PL[j].f) ∧ w5.cell? ⟨db, dof + j * 12 + 2, none⟩ = some (.int .i64 PL[j].t) ∧ (decide ((PL[j].f : Int) ≤ X) && decide (X < (PL[j].t : Int))) = false) := hcells
      rw [HNN.out]
      clear o5 hcells HDU HR4 HB4
      go_wp2_with fail
      go_loopg [18] n (fun k v wq => wq = w5 ∧ ∃ j : Nat, v = .int .i64 j ∧ j + k = n)
      case atStart => exact ⟨rfl, 0, rfl, by omega⟩
      case round =>
        obtain ⟨rfl, j, rfl, hjk⟩ := hrel
        by_cases hj : j < n
        · have hj' : (j : Int) < (n : Int) := by omega
          obtain ⟨k1, k2, k3, k4⟩ := HCE.out j (by rw [HNN.out]; exact hj)
          obtain ⟨f, hf⟩ : ∃ f : Int, (PL[j]'(by rw [HNN.out]; exact hj)).f = f := ⟨_, rfl⟩
          obtain ⟨t, ht⟩ : ∃ t : Int, ((PL[j]'(by rw [HNN.out]; exact hj)).t : Int) = t := ⟨_, rfl⟩
          rw [hf] at k2 k4
          rw [ht] at k3 k4
          clear hf ht
          by_cases hfx : f ≤ X
          · have hxt : ¬ X < t := by simp [hfx] at k4; omega
            clear k4
            go_wp2_with fail
            go_roundg (gk - 1)
            case measure => omega
            case rel => exact ⟨rfl, j + 1, by go_num, by omega⟩
          · clear k4
            go_wp2_with fail
            go_roundg (gk - 1)
            case measure => omega
            case rel => exact ⟨rfl, j + 1, by go_num, by omega⟩
        · have hj' : ¬ (j : Int) < (n : Int) := by omega
          go_wp2_with fail
          go_ret
          refine ⟨?_, HB5.out⟩
          show Ending.returned (.bool (decide (0 < n))) = _
          rw [decide_eq_true (by omega)]
end Go.Proofs.Ytcboagjfajdpeaa
