import Derived.Test.YtkpebabbnndopaaGreatDoorG03
import Derived.Test.YtkpebabbnndopaaGreatDoorG08
import Derived.Test.YtkpebabbnndopaaGreatDoorC13
import Derived.Deep.AppendSrc
import Derived.WalkKit
import Derived.WalkSpells
import Derived.WalkLawsBesides
import Derived.Deep.QuietTactic
import Derived.BigQuiet
/- What Forged wants: same, any Unprotect, a copy of bytes, dumps of one item and of more. -/
namespace Go.Proofs.YtkpebabbnndopaaGreatDoor
open Go.RowKit
set_option linter.unusedVariables false
set_option linter.unusedSimpArgs false

theorem same_ne (p1 p2 : Option Addr) (n1 n2 c1 c2 : Nat) (h : n1 ≠ n2) (w : World) :
    Calls Tryz.prog 22 #[.slice p1 n1 c1, .slice p2 n2 c2] w fun e w' => e = .returned (.bool false) ∧ w' = w := by
  have h1 : ¬ (n1 : Int) = (n2 : Int) := by omega
  clear h
  go_enter Tryz.func22, Tryz.ntmps22
  go_wp2_with fail
  go_ret
  exact ⟨rfl, rfl⟩
set_option maxRecDepth 20000 in
set_option maxHeartbeats 2000000 in
theorem same_eq (p1 p2 : Option Addr) (c1 c2 : Nat) (U V : List Nat) (L : List It) (w : World) (h1 : ItBuf w U p1 L c1) (h2 : ItBuf w V p2 L c2) (hdl : L.length ≤ 200) :
    Calls Tryz.prog 22 #[.slice p1 L.length c1, .slice p2 L.length c2] w fun e w' => e = .returned (.bool true) ∧ Below w.heap.size w w' := by
  have H1 : Hid (ItBuf w U p1 L c1) := h1
  have H2 : Hid (ItBuf w V p2 L c2) := h2
  clear h1 h2
  go_enter Tryz.func22, Tryz.ntmps22
  go_wp2_with fail
  go_loopg [5] L.length (fun k i wr => ∃ j : Nat, i = .int .i64 j ∧ j + k = L.length ∧ Hid (Below w.heap.size w wr))
  case atStart => exact ⟨0, rfl, by omega, Below.refl _ _⟩
  case round =>
    obtain ⟨j, rfl, hjk, hbw⟩ := hrel
    by_cases hj : j < L.length
    · rcases H1.out with he | ⟨b, o, rfl, hcap, _, hbl, hcel⟩
      · rw [he] at hj; simp at hj
      · rcases H2.out with he | ⟨b', o', rfl, hcap', _, hbl', hcel'⟩
        · rw [he] at hj; simp at hj
        · have hcelW : ∀ j u, (itCells L)[j]? = some u → wr.cell? ⟨b, o + j, none⟩ = some u := fun j u hu => by
            rw [hbw.out.cell (p := ⟨b, o + j, none⟩) hbl, hcel j u hu]
          have hcelW' : ∀ j u, (itCells L)[j]? = some u → wr.cell? ⟨b', o' + j, none⟩ = some u := fun j u hu => by
            rw [hbw.out.cell (p := ⟨b', o' + j, none⟩) hbl', hcel' j u hu]
          have hx := itemAt_of hcelW j hj
          have hy := itemAt_of hcelW' j hj
          have heq := eq_item_lit L[j]
          obtain ⟨x, hxe⟩ : ∃ x, L[j] = x := ⟨_, rfl⟩
          rw [hxe] at hx hy heq
          obtain ⟨p0, p1, p2, p3, p4, p5, p6, p7, p8, p9, p10, p11⟩ := hx
          obtain ⟨q0, q1, q2, q3, q4, q5, q6, q7, q8, q9, q10, q11⟩ := hy
          clear hcel hcel' hcelW hcelW' hxe hbl hbl'
          go_upto_region 6 with fail
          go_cut [25] (fun s25 wy => s25 = .bool false ∧ Hid (Below w.heap.size w wy))
          case first =>
            go_quiet (fail)
            go_wp2_with fail
            go_meet
            exact ⟨rfl, hbw.out.trans ((below_drewN _ _ _).mono hbw.out.size)⟩
          case rest =>
            obtain ⟨rfl, hbw⟩ := hcut
            go_wp2_with fail
            go_roundg (gk - 1)
            case measure => omega
            case rel => exact ⟨j + 1, by go_num, by omega, hbw⟩
    · have hje : j = L.length := by omega
      go_wp2_with fail
      go_ret
      exact ⟨rfl, hbw.out⟩
theorem same_any (p1 p2 : Option Addr) (c1 c2 : Nat) (U V : List Nat) (L M : List It) (w : World) (h1 : ItBuf w U p1 L c1) (h2 : ItBuf w V p2 M c2) (hdl : L.length ≤ 200) (hor : M = L ∨ M.length ≠ L.length) :
    Calls Tryz.prog 22 #[.slice p1 L.length c1, .slice p2 M.length c2] w fun e w' => ∃ B, e = .returned (.bool B) ∧ Below w.heap.size w w' ∧ (M = L → B = true) := by
  rcases hor with rfl | hor
  · exact (same_eq p1 p2 c1 c2 U V M w h1 h2 hdl).mono fun e w' ⟨a, b⟩ => ⟨true, a, b, fun _ => rfl⟩
  · exact (same_ne p1 p2 _ _ c1 c2 (fun e => hor e.symm) w).mono fun e w' ⟨a, b⟩ => ⟨false, a, by rw [b]; exact Below.refl _ _, fun e => absurd (by rw [e]) hor⟩
/-- Unprotect of any bytes, of the second -/
theorem Duo.unAny2 {Rep : World → List Nat → Value → St → Nat → Prop} (C : Code Rep) {w0 w : World} {U : List Nat} {b c : Nat} {s1 s2 : St} {k1 k2 : Nat} (h : Duo Rep w0 w U b c s1 s2 k1 k2) (a : Option Addr) (l : List UInt8) (cp : Nat) (hlc : l.length ≤ cp) (hb : Buf w U a l) :
    Calls Tryz.prog 20 #[.pointer (some ⟨c, 0, none⟩), .slice a l.length cp] w fun e w' => ∃ (X G : Int) (p : Option Addr) (n cap : Nat) (N : Int) (s3 : St), e = .returned (.tuple #[.agg #[.int .i64 X, .int .i64 G, .slice p n cap], .int .i64 N]) ∧ ∃ U' k', Duo Rep w0 w' U' b c s1 s3 k1 k' ∧ Outside U w w' ∧ Fresh w U U' ∧ ((N ≠ 0 ∧ s3 = s2 ∧ n = 0) ∨ (N = 0 ∧ s3 = s2.unNext l ∧ s2.unErr l = 0)) := by
  by_cases he : s2.unErr l = 0
  · have hw : unWho l < s2.n := by
      unfold St.unErr at he
      by_cases hp : s2.unPre l = 0
      · exact (unPre_zero hp).2.2.2.1
      · rw [if_pos hp] at he; exact absurd he hp
    exact (h.un2 C a l cp hlc hb he (h.ok2.unNext hw)).mono fun e w' ⟨f, o, cap, h1, U', k', h2, h3, h4, _, _⟩ => ⟨_, _, _, _, cap, 0, _, h1, U', k', h2, h3, h4, .inr ⟨rfl, rfl, he⟩⟩
  · exact (h.unErr2 C a l cp hlc hb he).mono fun e w' ⟨h1, U', k', h2, h3, h4⟩ => ⟨0, 0, none, 0, 0, _, s2, h1, U', k', h2, h3, h4, .inl ⟨he, rfl, rfl⟩⟩
/-- append([]byte{}, y...) -/
theorem run_copy_bytes (w : World) (b g o cp : Nat) (y : List UInt8) (hb : b < w.heap.size) (hl : y.length ≤ 1000000) (hcy : y.length ≤ cp) (hc : ∀ i (h : i < y.length), w.cell? ⟨g, o + i, none⟩ = some (.int .u8 (y[i].toNat : Int))) (ty : TypeId) :
    ∃ p cap w', (Builtin.append_ #[34, 34] ty #[.slice (some ⟨b, 0, none⟩) 0 0, .slice (some ⟨g, o, none⟩) y.length cp]).run Tryz.prog w = .ok (.slice (some ⟨p, 0, none⟩) y.length cap) w' ∧ y.length ≤ cap ∧ Below w.heap.size w w' ∧ (p = b ∨ p = w.heap.size) ∧ p < w'.heap.size ∧ Bts w' (some ⟨p, 0, none⟩) y ∧ (0 < y.length → w'.heap[p]? = some (.cells (RowB y cap) 5 (0, 0))) := by
  have hinfo : (Tryz.prog.info? 5).map (fun i => (i.zero, i.size, i.bytes)) = some (some (.int .u8 0), 1, 1) := by kernel_rfl
  obtain ⟨i, hi, hzz⟩ := Option.map_eq_some_iff.1 hinfo
  simp only [Prod.mk.injEq] at hzz
  obtain ⟨hz, hs, hby⟩ := hzz
  have hsrc : Src Tryz.prog i.size 34 (.slice (some ⟨g, o, none⟩) y.length cp) y.length (y.map cellB) w := by
    rw [hs]
    refine Src.ofSlice w Tryz.underlying34 ⟨g, o, none⟩ y.length cp (y.map cellB) (by simp) (fun j v hj => ?_) (by intro u hu; obtain ⟨c, _, rfl⟩ := List.mem_map.1 hu; rfl)
    have hjl : j < y.length := by simpa using (List.getElem?_eq_some_iff.1 hj).1
    have ea : (⟨g, o, none⟩ : Addr).add j = ⟨g, o + j, none⟩ := by unfold Addr.add; split <;> simp_all
    rw [ea, hc j hjl]
    rw [List.getElem?_map, List.getElem?_eq_getElem hjl] at hj
    simpa [cellB] using hj
  by_cases hy : y.length = 0
  · have hyn : y = [] := List.length_eq_zero_iff.1 hy
    subst hyn
    have h := run_append_room_src (P := Tryz.prog) w 34 34 ty 5 i Tryz.underlying34 hi b 0 0 0 _ _ _ hsrc (by simp) (by simp) (by simp)
    exact ⟨b, 0, w, h, by simp, Below.refl _ _, .inl rfl, hb, .inl rfl, fun h => absurd h (by simp)⟩
  · have h := run_append_grow_src (P := Tryz.prog) w 34 34 ty 5 i (.int .u8 0) Tryz.underlying34 hi hz (some ⟨b, 0, none⟩) 0 0 []
      (by rw [hs]; exact run_firstCells_some w.drew 1 0 ⟨b, 0, none⟩ 0 0 [] rfl (fun j v hj => by cases hj))
      _ _ _ hsrc (by omega) (by omega) (by rw [hby]; have := nextslicecap_le (need := 0 + y.length) (old := 0) (by omega); omega)
    simp only [Nat.zero_add, List.nil_append] at h
    have hg := grownCap_ge w y.length 0 5
    generalize grownCap w y.length 0 5 = cap at *
    have hrow : (y.map cellB).toArray ++ Builtin.zeroCells (Value.int .u8 0).cells (cap - y.length) = RowB y cap := by
      apply Array.ext'
      have hzc : (Builtin.zeroCells (Value.int .u8 0).cells (cap - y.length)).toList = List.replicate (cap - y.length) (Value.int .u8 0) := by
        apply List.ext_getElem
        · simp [Builtin.zeroCells, Value.cells]
        · intro i h1 h2
          simp [Builtin.zeroCells, Value.cells, Nat.mod_one]
      simp [RowB, hzc]
    rw [hrow] at h
    have hblk : (w.drew.alloc (.cells (RowB y cap) 5)).heap[w.heap.size]? = some (.cells (RowB y cap) 5 (0, 0)) := (MapKept.heap_alloc w.drew _).1
    exact ⟨w.heap.size, cap, _, h, hg, ((Below.refl _ w).drew).alloc (Nat.le_refl _) _, .inr rfl, (Array.getElem?_eq_some_iff.1 hblk).1, bts_of_row hblk, fun _ => hblk⟩
/-- the dump of one who has opened nothing is one part; of one who has, more -/
theorem new_dump_len (s : Nat → Int) (N y : Nat) : (St.new s N y).dump.length = 1 := by
  have hb : ∀ f t, (St.new s N y).begun f t = false := fun f t => by
    cases hc : (St.new s N y).begun f t with
    | false => rfl
    | true =>
      unfold St.begun at hc
      simp [St.new_m] at hc
  have hh : ∀ k, (St.new s N y).heads k = [] := fun k => by
    induction k with
    | zero => rfl
    | succ k ih => rw [St.heads, ih, St.new_m]; rfl
  have hk : ∀ k, (St.new s N y).kepts k = [] := fun k => by
    induction k with
    | zero => rfl
    | succ k ih => rw [St.kepts, ih]; unfold St.kept1; rw [St.new_m]; rfl
  show (St.parts _ 16 0 _ ++ St.heads _ _ ++ St.kepts _ _).length = 1
  rw [hh, hk, St.parts_not _ _ _ _ (hb _ _)]
  rfl
theorem heads_some (st : St) (x k : Nat) (hx : x < k) (hb : (st.m x).begun = true) (hn : (st.m x).next ≤ 65535) : 0 < (st.heads k).length := by
  induction k with
  | zero => omega
  | succ k ih =>
    rw [St.heads, List.length_append]
    by_cases e : x = k
    · subst e
      rw [hb]
      simp [hn]
    · have := ih (by omega)
      omega
theorem unNew_m2 (s : Nat → Int) (N y : Nat) (l : List UInt8) (hx : unWho l < N) (i : Nat) : ((St.new s N y).unNext l).m i = if i = unWho l then ⟨true, unGen l + 1, unOver ⟨false, 0, []⟩ (unGen l)⟩ else ⟨false, 0, []⟩ := by
  unfold St.unNext
  rw [St.setM_m _ _ _ (by simp [St.new]; exact hx)]
  split
  · rename_i h
    unfold unMem
    rw [St.new_m, if_neg (by simp)]
  · rw [St.new_m]
theorem open_dump_len (s : Nat → Int) (N y : Nat) (hN : 1 ≤ N) (hN2 : N ≤ 16) (hy : y < N) (l : List UInt8) (he : (St.new s N y).unErr l = 0) : ((St.new s N y).unNext l).dump.length ≠ 1 := by
  have hp : (St.new s N y).unPre l = 0 := by
    unfold St.unErr at he
    by_cases hp : (St.new s N y).unPre l = 0
    · exact hp
    · rw [if_pos hp] at he; exact he
  obtain ⟨h1, h2, h3, h4, h5, h6, h7⟩ := unPre_zero hp
  rw [St.new_m] at h7
  have h4' : unWho l < N := h4
  have h5' : unWho l ≠ y := h5
  have hm := unNew_m2 s N y l h4'
  have hx : ((St.new s N y).unNext l).m (unWho l) = ⟨true, unGen l + 1, unOver ⟨false, 0, []⟩ (unGen l)⟩ := by rw [hm, if_pos rfl]
  have hyb : (((St.new s N y).unNext l).m y).begun = false := by rw [hm, if_neg (fun e => h5' e.symm)]
  have a1 := parts_some ((St.new s N y).unNext l) 16 0 N y (by omega) hy (by omega) hyb
  have a2 := heads_some ((St.new s N y).unNext l) (unWho l) N h4' (by rw [hx]) (by rw [hx]; show unGen l + 1 ≤ 65535; have : unGen l ≤ 0 + 5 := h7; omega)
  have a3 := List.length_pos_iff.2 a1
  show (St.parts _ 16 0 N ++ St.heads _ N ++ St.kepts _ N).length ≠ 1
  rw [List.length_append, List.length_append]
  omega
end Go.Proofs.YtkpebabbnndopaaGreatDoor

/- Over: the walk, of any program whose calls are as Code asks. -/
namespace Go.Proofs.YtkpebabbnndopaaGreatDoor
open Go.RowKit
set_option linter.unusedVariables false
set_option linter.unusedSimpArgs false

theorem duo_new {Rep : World → List Nat → Value → St → Nat → Prop} (C : Code Rep) {w w1 : World} {S T : List Nat} {b c : Nat} {s : Nat → Int} {N x y : Nat} (hs : ∀ i, 0 ≤ s i ∧ s i < 256) (hN1 : 2 ≤ N) (hN2 : N ≤ 16) (hx : x < N) (hy : y < N) (hG : Glob w) (b1 : Below w.heap.size w w1)
    (r1 : Rep w1 S (.pointer (some ⟨b, 0, none⟩)) (St.new s N x) 0) (r2 : Rep w1 T (.pointer (some ⟨c, 0, none⟩)) (St.new s N y) 0) (hS : ∀ k, k ∈ S → w.heap.size ≤ k) (hT : ∀ k, k ∈ T → w.heap.size ≤ k) (hd : ∀ k, k ∈ S → k ∉ T) : Duo Rep w w1 (S ++ T) b c (St.new s N x) (St.new s N y) 0 0 :=
  ⟨⟨S, T, rfl, r1, r2, hd⟩, fun k hk => by
    rcases List.mem_append.1 hk with h | h
    · exact hS k h
    · exact hT k h, b1, St.new_ok s hs N x (by omega) hN2 hx, St.new_ok s hs N y (by omega) hN2 hy, hG⟩
/-- a first message, at the other -/
theorem first_err (s : Nat → Int) (N x y : Nat) (hN2 : N ≤ 16) (hx : x < N) (hxy : x ≠ y) (t : List UInt8) (ht : t.length ≤ 40) : (St.new s N y).unErr ((St.new s N x).frame t) = 0 := by
  have hm : ∀ z i, ((St.new s N z).m i) = ⟨false, 0, []⟩ := fun z i => St.new_m s N z i
  obtain ⟨e1, e2, e3, e4, e5⟩ := frame_un (s1 := St.new s N x) (s2 := St.new s N y) rfl rfl (by show x < 16; omega) (by rw [hm]; show (0 : Nat) ≤ 65535; omega) t
  have e2' : unGen ((St.new s N x).frame t) = 0 := by rw [e2, hm]
  have e1' : unWho ((St.new s N x).frame t) = x := e1
  have hp : (St.new s N y).unPre ((St.new s N x).frame t) = 0 := by
    unfold St.unPre
    rw [e3, e1', e2', hm, if_neg (by show ¬ false = true; simp), if_neg (by show ¬ (_ ∨ _ ∨ N ≤ x); omega), if_neg (show ¬ x = (St.new s N y).own from hxy), if_neg (by simp), if_neg (by simp)]
  unfold St.unErr
  rw [if_neg (by omega), e4, if_pos rfl]
set_option maxHeartbeats 4000000 in
set_option maxRecDepth 20000 in
theorem over_walk {Rep : World → List Nat → Value → St → Nat → Prop} (C : Code Rep) (root : ByteArray) (m a : Int) (words : ByteArray) (hm1 : -9223372036854775808 ≤ m) (hm2 : m ≤ 9223372036854775807) (ha1 : -9223372036854775808 ≤ a) (ha2 : a ≤ 9223372036854775807) (w : World) (hG : Glob w) :
    Calls Tryz.prog 11 #[.string root, .int .i64 m, .int .i64 a, .string words] w fun e w' => e = .returned (.bool true) ∧ Below w.heap.size w w' := by
  have hs := SecL_bd root.data.toList
  have HPR : Hid (Calls Tryz.prog 16 #[.string root, .int .i64 m, .int .i64 a] w fun e w' => Below w.heap.size w w' ∧ ∃ (N x y b c : Nat) (S T : List Nat), 2 ≤ N ∧ N ≤ 16 ∧ x < N ∧ y < N ∧ x ≠ y ∧ e = .returned (.tuple #[.pointer (some ⟨b, 0, none⟩), .pointer (some ⟨c, 0, none⟩), .int .i64 x]) ∧
      Rep w' S (.pointer (some ⟨b, 0, none⟩)) (St.new (SecL root.data.toList) N x) 0 ∧ Rep w' T (.pointer (some ⟨c, 0, none⟩)) (St.new (SecL root.data.toList) N y) 0 ∧ (∀ k, k ∈ S → w.heap.size ≤ k) ∧ (∀ k, k ∈ T → w.heap.size ≤ k) ∧ (∀ k, k ∈ S → k ∉ T)) := pair_any C root m a hm1 hm2 ha1 ha2 w
  obtain ⟨s, hse⟩ : ∃ s, SecL root.data.toList = s := ⟨_, rfl⟩
  rw [hse] at hs HPR
  have HGL : Hid (Glob w) := hG
  have HTX : Hid (∀ W, Calls Tryz.prog 18 #[.string words] W fun e w' => e = .returned (.string (TextB words)) ∧ w' = W) := text_any words
  have htl := TextB_le words
  obtain ⟨TX, hTX⟩ : ∃ TX, TextB words = TX := ⟨_, rfl⟩
  rw [hTX] at HTX htl
  have HE1 : Hid (TX.data.toList.length = TX.size ∧ TX.size ≤ 40) := ⟨Array.length_toList, htl⟩
  clear hse hm1 hm2 ha1 ha2 hG hTX
  go_enter Tryz.func11, Tryz.ntmps11
  go_wp2_with fail
  refine HPR.out.mono ?_
  rintro e w1 ⟨b1, N, x, y, b, c, S, T, hN1, hN2, hx, hy, hxy, rfl, hr1, hr2, hS, hT, hd⟩
  have D1 : Hid (Duo Rep w w1 (S ++ T) b c (St.new s N x) (St.new s N y) 0 0) := duo_new C hs hN1 hN2 hx hy HGL.out b1 hr1 hr2 hS hT hd
  have HNX : Hid (N ≤ 16 ∧ x < N ∧ y < N ∧ x ≠ y) := ⟨hN2, hx, hy, hxy⟩
  clear HPR b1 hr1 hr2 hS hT hd hN1 hN2 hx hy hxy htl
  go_wp2_with (first | (go_at_call 18; refine (HTX.out _).mono ?_; rintro e w' ⟨rfl, hw'⟩; rw [hw']; clear hw' w') | (refine wpList_bytes rfl _ rfl TX rfl ?_; intro cap1 w2 hcap1 b2 z2 B2))
  -- Protect
  have D2 : Duo Rep w w2 (S ++ T) b c (St.new s N x) (St.new s N y) 0 0 := D1.out.to C b2
  have hbuf : Buf w2 (S ++ T) (some ⟨w1.heap.size, 0, none⟩) TX.data.toList := Buf.new B2 (n := w1.heap.size) (fun b o e => by cases e; omega) (fun k hk => D1.out.lt C k hk)
  have hpe : (St.new s N x).protErr TX.data.toList.length = 0 := by
    unfold St.protErr
    rw [HE1.out.1, St.new_m, if_neg (by show ¬ false = true; simp), if_neg (by have := HE1.out.2; omega), if_neg (by simp)]
  have hP := D2.prot1 C (some ⟨w1.heap.size, 0, none⟩) TX.data.toList cap1 hbuf hpe
  rw [HE1.out.1] at hP
  refine hP.mono ?_
  clear hP hpe hbuf D2 b2 z2 B2 D1 hcap1
  obtain ⟨L, hL⟩ : ∃ L, (St.new s N x).frame TX.data.toList = L := ⟨_, rfl⟩
  rw [hL]
  rintro e w3 ⟨f, o, cap, rfl, U3, k3, D3, _, _, hk3, hcp, B3⟩
  have HL : Hid ((St.new s N x).frame TX.data.toList = L ∧ L.length ≤ 47 ∧ L.length ≤ cap ∧ 0 < k3 ∧ k3 ≤ 100) := by
    refine ⟨hL, ?_, hcp, by omega, by omega⟩
    have h1 := HE1.out
    rw [← hL]
    unfold St.frame
    rw [List.length_append, SealT_length, h1.1]
    show 3 + (TX.size + 4) ≤ 47
    omega
  obtain ⟨s1, hs1⟩ : ∃ s1, (St.new s N x).protNext = s1 := ⟨_, rfl⟩
  have HC1 : Hid (s1.closed = false) := by rw [← hs1]; rfl
  rw [hs1] at D3
  have HD3 : Hid (Duo Rep w w3 U3 b c s1 (St.new s N y) k3 0 ∧ Buf w3 U3 (some ⟨f, o, none⟩) L) := ⟨D3, B3⟩
  obtain ⟨K, hK⟩ : ∃ K : Int, (k3 : Int) = K := ⟨_, rfl⟩
  have hK0 : 0 < K := by omega
  clear D3 B3 hL hs1 hcp hk3
  go_wp2_with fail
  -- Work
  have hW := HD3.out.1.work1 C (by have := HL.out.2.2.2.2; omega)
  rw [hK] at hW
  refine hW.mono ?_
  clear hW
  rintro e w4 ⟨rfl, U4, D4, o4, f4⟩
  have HD4 : Hid (Duo Rep w w4 U4 b c s1 (St.new s N y) k3 0 ∧ Buf w4 U4 (some ⟨f, o, none⟩) L) := ⟨D4, HD3.out.2.step o4 f4⟩
  clear D4 o4 f4 HD3
  go_wp2_with fail
  -- Close, twice
  refine (HD4.out.1.close1 C HC1.out).mono ?_
  rintro e w5 ⟨rfl, U5, D5, o5, f5⟩
  have HD5 : Hid (Duo Rep w w5 U5 b c s1.shut (St.new s N y) k3 0 ∧ Buf w5 U5 (some ⟨f, o, none⟩) L) := ⟨D5, HD4.out.2.step o5 f5⟩
  clear D5 o5 f5 HD4
  go_wp2_with fail
  refine (HD5.out.1.closeErr1 C rfl).mono ?_
  rintro e w6 ⟨rfl, U6, D6, o6, f6⟩
  have HD6 : Hid (Duo Rep w w6 U6 b c s1.shut (St.new s N y) k3 0 ∧ Buf w6 U6 (some ⟨f, o, none⟩) L) := ⟨D6, HD5.out.2.step o6 f6⟩
  clear D6 o6 f6 HD5
  go_wp2_with fail
  -- Protect(nil)
  have hpn : s1.shut.protErr ([] : List UInt8).length = 9 := rfl
  have hP := HD6.out.1.protErr1 C none [] 0 (by simp) ⟨.inl rfl, fun b o e => by cases e⟩ (by rw [hpn]; decide)
  rw [hpn] at hP
  refine hP.mono ?_
  clear hP hpn
  rintro e w7 ⟨rfl, U7, D7, o7, f7⟩
  have HD7 : Hid (Duo Rep w w7 U7 b c s1.shut (St.new s N y) k3 0 ∧ Buf w7 U7 (some ⟨f, o, none⟩) L) := ⟨D7, HD6.out.2.step o7 f7⟩
  clear D7 o7 f7 HD6
  go_wp2_with fail
  -- Unprotect(b)
  have hun : s1.shut.unErr L = 9 := rfl
  have hU := HD7.out.1.unErr1 C (some ⟨f, o, none⟩) L cap HL.out.2.2.1 HD7.out.2 (by rw [hun]; decide)
  rw [hun] at hU
  refine hU.mono ?_
  clear hU
  rintro e w8 ⟨rfl, U8, k8, D8, o8, f8, hk8, hk8'⟩
  have e8 : k8 = k3 := by
    have : ¬ s1.shut.unPre L = 0 := by rw [show s1.shut.unPre L = 9 from rfl]; decide
    rw [if_neg this] at hk8'
    omega
  subst e8
  have HD8 : Hid (Duo Rep w w8 U8 b c s1.shut (St.new s N y) k8 0 ∧ Buf w8 U8 (some ⟨f, o, none⟩) L) := ⟨D8, HD7.out.2.step o8 f8⟩
  obtain ⟨w9, hw9⟩ : ∃ w9, w8.alloc (.cells #[.int .i64 0, .int .i64 0, .slice none 0 0] 41) = w9 := ⟨_, rfl⟩
  have b9 : Below w8.heap.size w8 w9 := by rw [← hw9]; exact (Below.refl _ w8).alloc (Nat.le_refl _) _
  have HD9 : Hid (Duo Rep w w9 U8 b c s1.shut (St.new s N y) k8 0 ∧ Buf w9 U8 (some ⟨f, o, none⟩) L) := ⟨HD8.out.1.to C b9, HD8.out.2.below b9⟩
  have HW9 : Hid (w8.alloc (.cells #[.int .i64 0, .int .i64 0, .slice none 0 0] 41) = w9) := hw9
  clear D8 o8 f8 hk8 hk8' HD7 HD8 hw9 b9 hun
  go_upto_region 10 with fail
  rw [HW9.out]
  go_wp2_with fail
  -- Dump
  refine (HD9.out.1.dump1 C rfl).mono ?_
  rintro e w10 ⟨dp, dc, rfl, U10, D10, o10, f10⟩
  have HD10 : Hid (Duo Rep w w10 U10 b c s1.shut (St.new s N y) k8 0 ∧ Buf w10 U10 (some ⟨f, o, none⟩) L) := ⟨D10, HD9.out.2.step o10 f10⟩
  clear D10 o10 f10 HD9 HW9
  go_wp2_with fail
  -- Work
  have hW := HD10.out.1.work1 C (by have := HL.out.2.2.2.2; omega)
  rw [hK] at hW
  refine hW.mono ?_
  clear hW
  rintro e w11 ⟨rfl, U11, D11, o11, f11⟩
  have HD11 : Hid (Duo Rep w w11 U11 b c s1.shut (St.new s N y) k8 0 ∧ Buf w11 U11 (some ⟨f, o, none⟩) L) := ⟨D11, HD10.out.2.step o11 f11⟩
  clear D11 o11 f11 HD10
  go_wp2_with fail
  -- the other opens it
  have hfu := frame_un (s1 := St.new s N x) (s2 := St.new s N y) rfl rfl (by have := HNX.out; show x < 16; omega) (by rw [St.new_m]; show (0 : Nat) ≤ 65535; omega) TX.data.toList
  have hfe := first_err s N x y HNX.out.1 HNX.out.2.1 HNX.out.2.2.2 TX.data.toList (by have := HE1.out; omega)
  rw [HL.out.1] at hfu hfe
  have hU := HD11.out.1.un2 C (some ⟨f, o, none⟩) L cap HL.out.2.2.1 HD11.out.2 hfe (HD11.out.1.ok2.unNext (by rw [hfu.1]; exact HNX.out.2.1))
  rw [hfu.2.2.2.2, show L.length - 7 = TX.size by rw [hfu.2.2.1, HE1.out.1]; omega] at hU
  refine hU.mono ?_
  clear hU hfe
  obtain ⟨WH, hWH⟩ : ∃ WH : Int, (unWho L : Int) = WH := ⟨_, rfl⟩
  obtain ⟨GE, hGE⟩ : ∃ GE : Int, (unGen L : Int) = GE := ⟨_, rfl⟩
  rw [hWH, hGE]
  rintro e w12 ⟨f2, o2, cap2, rfl, U12, k12, D12, _, _, hcp2, B12⟩
  obtain ⟨w13, hw13⟩ : ∃ w13, w12.alloc (.cells #[.int .i64 WH, .int .i64 GE, .slice (some ⟨f2, o2, none⟩) TX.size cap2] 41) = w13 := ⟨_, rfl⟩
  have b13 : Below w12.heap.size w12 w13 := by rw [← hw13]; exact (Below.refl _ w12).alloc (Nat.le_refl _) _
  have k13 : w13.heap[w12.heap.size]? = some (.cells #[.int .i64 WH, .int .i64 GE, .slice (some ⟨f2, o2, none⟩) TX.size cap2] 41 (0, 0)) := by rw [← hw13]; exact (MapKept.heap_alloc _ _).1
  have c13 := (row_facts' k13).1
  have hct : ∀ n, (convert 34 9 (.slice (some ⟨f2, o2, none⟩) TX.size cap2)).run Tryz.prog (w13.drewN n) = .ok (.string TX) (w13.drewN n) := fun n => by
    have h := cv_of_bts cap2 (B12.1.below b13) (w13.drewN n) (below_drewN _ _ _)
    rw [HE1.out.1] at h
    exact h
  have HF : Hid (Below w.heap.size w w13) := D12.below.trans (b13.mono D12.below.size)
  have HW13 : Hid (w12.alloc (.cells #[.int .i64 WH, .int .i64 GE, .slice (some ⟨f2, o2, none⟩) TX.size cap2] 41) = w13) := hw13
  have hn9 : ¬ K = 0 := by omega
  clear D12 hcp2 B12 hw13 b13 k13 HD11 hfu hWH hGE hK HL HNX HC1 HE1 HGL
  go_upto_region 13 with fail
  rw [HW13.out]
  go_quiet ((go_at_call 18; exact Calls.quiet_of_same (HTX.out _)))
  go_wp2_with fail
  go_ret

  exact ⟨rfl, HF.out.trans ((below_drewN _ _ _).mono HF.out.size)⟩
end Go.Proofs.YtkpebabbnndopaaGreatDoor
