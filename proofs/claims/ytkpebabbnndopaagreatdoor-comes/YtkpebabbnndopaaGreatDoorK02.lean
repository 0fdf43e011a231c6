import Derived.Test.YtkpebabbnndopaaGreatDoorK01
import Derived.Test.YtkpebabbnndopaaGreatDoorG09
import Derived.Test.YtkpebabbnndopaaGreatDoorG05
import Derived.Deep.LoopGhost
import Derived.Deep.WholeRow
import Derived.Deep.MidRow
import Derived.Deep.Strs
import Derived.WalkKit
import Derived.ProofKit
import Derived.OpenShut
import Derived.ChangeSlices
import Derived.Deep.Slices
import Derived.Test.YtkpebabbnndopaaGreatDoorRows
import Derived.Test.YtkpebabbnndopaaGreatDoorG36
import Derived.Test.YtkpebabbnndopaaGreatDoorCards
import Derived.Test.YtkpebabbnndopaaGreatDoorTie
import Derived.SevenTiedAt
import Derived.WalkSpells
import Derived.WalkLawsBesides
import Derived.ShutString
import Derived.Carry
/- Comes: the walk, of any program whose calls are as Code asks. -/
namespace Go.Proofs.YtkpebabbnndopaaGreatDoor
open Go.RowKit
set_option linter.unusedVariables false
set_option linter.unusedSimpArgs false

/-- the frames -/
def FrB (s : Nat → Int) (N x : Nat) (TL : List ByteArray) (j : Nat) : ByteArray := ⟨((St.after s N x j).frame (TextB (TL.getD j ByteArray.empty)).data.toList).toArray⟩
def FrL (s : Nat → Int) (N x : Nat) (TL : List ByteArray) (i : Nat) : List ByteArray := (List.range i).map (FrB s N x TL)
theorem FrL_succ (s : Nat → Int) (N x : Nat) (TL : List ByteArray) (i : Nat) : FrL s N x TL (i + 1) = FrL s N x TL i ++ [FrB s N x TL i] := by unfold FrL; rw [List.range_succ, List.map_append]; rfl
theorem FrL_length (s : Nat → Int) (N x : Nat) (TL : List ByteArray) (i : Nat) : (FrL s N x TL i).length = i := by unfold FrL; simp
theorem FrB_list (s : Nat → Int) (N x : Nat) (TL : List ByteArray) (j : Nat) : (FrB s N x TL j).data.toList = (St.after s N x j).frame (TextB (TL.getD j ByteArray.empty)).data.toList := by unfold FrB; simp
def firstB : ByteArray := ⟨#[102, 105, 114, 115, 116]⟩
/-- a frame joins the others -/
theorem frames_step {Rep : World → List Nat → Value → St → Nat → Prop} (C : Code Rep) {w0 w : World} {U : List Nat} {b c : Nat} {s1 s2 : St} {k1 k2 : Nat} (h : Duo Rep w0 w U b c s1 s2 k1 k2) {v v3 : Value} {l TL : List ByteArray} (hl : StrBuf w U w0.heap.size v l) (h3 : StrBuf w U w0.heap.size v3 TL) (hne : ∀ k, v.ownBlock = some k → v3.ownBlock ≠ some k) (f : ByteArray) (hlen : l.length < 900) (ty : TypeId) :
    ∃ v' w', (Builtin.append_ #[30, 30] ty #[v, .slice (some ⟨w.heap.size, 0, none⟩) 1 1]).run Tryz.prog (w.alloc (.cells #[.string f] 9)) = .ok v' w' ∧ Duo Rep w0 w' U b c s1 s2 k1 k2 ∧ StrBuf w' U w0.heap.size v' (l ++ [f]) ∧ StrBuf w' U w0.heap.size v3 TL ∧ ∀ k, v'.ownBlock = some k → v3.ownBlock ≠ some k := by
  have hz := h.below.size
  have b1 : Below w.heap.size w (w.alloc (.cells #[.string f] 9)) := (Below.refl _ w).alloc (Nat.le_refl _) _
  have z1 := b1.size
  have hst : StrsAt (w.alloc (.cells #[.string f] 9)) (some ⟨w.heap.size, 0, none⟩) [f] 1 := .inr ⟨_, rfl, fun j hj => by
    have : j = 0 := by simp at hj; exact hj
    subst this
    exact cell_one_new w (.string f) 9 0 _ rfl⟩
  obtain ⟨v', w', hr, q1, q2, q3, q4, q5⟩ := strs_append (w.alloc (.cells #[.string f] 9)) w0.heap.size v l [f] _ 1 (hl.1.below b1) hst (by omega) (by simp; omega) ty
  obtain ⟨_, _, _, hv⟩ := hl.1.val
  obtain ⟨_, _, _, hv3⟩ := h3.1.val
  have hUl := h.lt C
  have e4 : ∀ k, k < w.heap.size → v.ownBlock ≠ some k → w'.heap[k]? = w.heap[k]? := fun k hk hn => by rw [q4 k (by omega) hn, b1.block k hk]
  refine ⟨v', w', hr, h.beside C (by omega) (fun k hk hm => e4 k hk (fun e => hl.2 k e hm)) ((b1.mono hz).trans q2), ⟨q1, fun k hk hm => ?_⟩, ⟨h3.1.keep fun k hk e => e4 k hk (fun e' => hne k e' e), h3.2⟩, fun k hk e => ?_⟩
  · rcases q5 k hk with e | e
    · exact hl.2 k e hm
    · have := hUl k hm; omega
  · rcases q5 k hk with e' | e'
    · exact hne k e' e
    · have := (hv3 k e).1; omega
/-- numbers beside the groups -/
def NumBuf (w : World) (U : List Nat) (base : Nat) (v : Value) (l : List Nat) : Prop := Nums w base v l ∧ ∀ k, v.ownBlock = some k → k ∉ U
theorem NumBuf.step {w w' : World} {U U' : List Nat} {base : Nat} {v : Value} {l : List Nat} (h : NumBuf w U base v l) (ho : Outside U w w') (hf : Fresh w U U') : NumBuf w' U' base v l := by
  refine ⟨h.1.keep fun k hk e => ho.block k hk (h.2 k e), fun k e hm => ?_⟩
  rcases hf k hm with e1 | e1
  · exact h.2 k e e1
  · rcases h.1.val with ⟨hv, _⟩ | ⟨g, cap, hv, _, _, hg, _⟩
    · rw [hv] at e; cases e
    · rw [hv] at e
      have e' : g = k := Option.some.inj e
      omega
theorem NumBuf.below {w w' : World} {U : List Nat} {base : Nat} {v : Value} {l : List Nat} (h : NumBuf w U base v l) (hb : Below w.heap.size w w') : NumBuf w' U base v l := h.step (Outside.ofBelow hb) (Fresh.refl _ _)
theorem NumBuf.cell {w : World} {U : List Nat} {base g n cap : Nat} {l : List Nat} (h : NumBuf w U base (.slice (some ⟨g, 0, none⟩) n cap) l) (j : Nat) (hj : j < l.length) : w.cell? ⟨g, j, none⟩ = some (.int .i64 (l[j] : Int)) := by
  rcases h.1.val with ⟨hv, _⟩ | ⟨g', cap', hv, _, _, _, hc⟩
  · cases hv
  · have e : g = g' := by simp only [Value.slice.injEq, Option.some.injEq, Addr.mk.injEq] at hv; exact hv.1.1
    rw [e]
    exact hc j hj
theorem StrBuf.cell {w : World} {U : List Nat} {base g n cap : Nat} {l : List ByteArray} (h : StrBuf w U base (.slice (some ⟨g, 0, none⟩) n cap) l) (j : Nat) (hj : j < l.length) : w.cell? ⟨g, j, none⟩ = some (.string l[j]) := by
  obtain ⟨g', cap', hv, _, _, _, hc⟩ := h.1.at j hj
  have e : g = g' := by simp only [Value.slice.injEq, Option.some.injEq, Addr.mk.injEq] at hv; exact hv.1.1
  rw [e]
  exact hc
theorem FrL_get (s : Nat → Int) (N x : Nat) (TL : List ByteArray) (n i : Nat) (h : i < (FrL s N x TL n).length) : (FrL s N x TL n)[i] = FrB s N x TL i := by simp [FrL]
theorem nodup_take {l : List Nat} (h : l.Nodup) {j : Nat} (hj : j < l.length) : l[j] ∉ l.take j := fun hm => by
  obtain ⟨q, hq, e⟩ := List.mem_take_iff_getElem.1 hm
  exact (List.pairwise_iff_getElem.1 h) q j (by omega) hj (by omega) e
theorem mem_take_succ {l : List Nat} {j : Nat} (hj : j < l.length) (g : Nat) : g ∈ l.take (j + 1) ↔ g = l[j] ∨ g ∈ l.take j := by
  rw [List.take_succ_eq_append_getElem hj, List.mem_append, List.mem_singleton, or_comm]
section
variable {Rep : World → List Nat → Value → St → Nat → Prop} (C : Code Rep) {w0 w : World} {U : List Nat} {b c : Nat} {s1 st : St} {k1 k2 : Nat} {s : Nat → Int} {N x y f t : Nat} {DD : List Nat}
include C
/-- a frame that opens -/
theorem opens_step (D : Duo Rep w0 w U b c s1 st k1 k2) (h : InG s N x y f t DD st) (hx : x < N) (hN : N ≤ 16) (hxy : x ≠ y) (TL : List ByteArray) {i : Nat} (hf : f ≤ i) (hi : i < t) (hd : i ∉ DD) (hb : i ≤ 65535) {FB TX : ByteArray} (hFB : FrB s N x TL i = FB) (hTX : TextB (TL.getD i ByteArray.empty) = TX) (a : Option Addr) (cp : Nat) (hcp : FB.size ≤ cp) (hbuf : Buf w U a FB.data.toList) :
    Calls Tryz.prog 20 #[.pointer (some ⟨c, 0, none⟩), .slice a FB.size cp] w fun e w' => ∃ g o cap, e = .returned (.tuple #[.agg #[.int .i64 x, .int .i64 i, .slice (some ⟨g, o, none⟩) TX.size cap], .int .i64 0]) ∧ ∃ U' k' st', Duo Rep w0 w' U' b c s1 st' k1 k' ∧ InG s N x y f t (i :: DD) st' ∧ Outside U w w' ∧ Fresh w U U' ∧ Buf w' U' (some ⟨g, o, none⟩) TX.data.toList := by
  have hl : FB.data.toList = (St.after s N x i).frame TX.data.toList := by rw [← hFB, FrB_list, hTX]
  have h40 : TX.data.toList.length ≤ 40 := by rw [← hTX, Array.length_toList]; exact TextB_le _
  have ht : TX.data.toList.length = TX.size := Array.length_toList
  have hz : FB.data.toList.length = FB.size := Array.length_toList
  obtain ⟨e1, e2, e3, e4, e5⟩ := after_frame (st := st) hx hN hb h.s h.n TX.data.toList
  obtain ⟨o1, o2⟩ := h.opens hx hN hxy hf hi hd hb h40
  rw [← hl] at e1 e2 e3 e4 e5 o1 o2
  have hU := D.un2 C a FB.data.toList cp (by omega) hbuf o1 o2.ok
  rw [e1, e2, e5, show FB.data.toList.length - 7 = TX.size by omega, hz] at hU
  exact hU.mono fun e w' ⟨g, o, cap, h1, U', k', h2, h3, h4, _, h5⟩ => ⟨g, o, cap, h1, U', k', _, h2, o2, h3, h4, h5⟩
/-- one that opens no more -/
theorem shut_step (D : Duo Rep w0 w U b c s1 st k1 k2) (h : InG s N x y f t DD st) (hx : x < N) (hN : N ≤ 16) (hxy : x ≠ y) (TL : List ByteArray) {i : Nat} (hi : i ∈ DD ∨ i < f) (hb : i ≤ 65535) {FB : ByteArray} (hFB : FrB s N x TL i = FB) (a : Option Addr) (cp : Nat) (hcp : FB.size ≤ cp) (hbuf : Buf w U a FB.data.toList) :
    Calls Tryz.prog 20 #[.pointer (some ⟨c, 0, none⟩), .slice a FB.size cp] w fun e w' => e = .returned (.tuple #[.agg #[.int .i64 0, .int .i64 0, .slice none 0 0], .int .i64 5]) ∧ ∃ U' k', Duo Rep w0 w' U' b c s1 st k1 k' ∧ Outside U w w' ∧ Fresh w U U' := by
  have hl : FB.data.toList = (St.after s N x i).frame (TextB (TL.getD i ByteArray.empty)).data.toList := by rw [← hFB, FrB_list]
  have h40 : (TextB (TL.getD i ByteArray.empty)).data.toList.length ≤ 40 := by rw [Array.length_toList]; exact TextB_le _
  have hz : FB.data.toList.length = FB.size := Array.length_toList
  have o1 := h.shut hx hN hxy hi hb h40
  rw [← hl] at o1
  have hU := D.unErr2 C a FB.data.toList cp (by omega) hbuf (by rw [o1]; decide)
  rw [o1, hz] at hU
  exact hU
end
set_option maxHeartbeats 4000000 in
set_option maxRecDepth 20000 in
theorem comes_walk {Rep : World → List Nat → Value → St → Nat → Prop} (C : Code Rep) (root : ByteArray) (m a : Int) (tp : Option Addr) (tl : List ByteArray) (tcap : Nat) (op : Option Addr) (ol : List Int) (ocap : Nat) (hm1 : -9223372036854775808 ≤ m) (hm2 : m ≤ 9223372036854775807) (ha1 : -9223372036854775808 ≤ a) (ha2 : a ≤ 9223372036854775807) (w : World) (hG : Glob w)
    (htl : StrsAt w tp tl tcap) (hol : ol = [] ∨ ∃ b o, op = some ⟨b, o, none⟩ ∧ b < w.heap.size ∧ ol.length ≤ ocap ∧ ∀ j (hj : j < ol.length), w.cell? ⟨b, o + j, none⟩ = some (.int .i64 ol[j])) (hob : ∀ z, z ∈ ol → -9223372036854775808 ≤ z ∧ z ≤ 9223372036854775807) :
    Calls Tryz.prog 7 #[.string root, .int .i64 m, .int .i64 a, .slice tp tl.length tcap, .slice op ol.length ocap] w fun e w' => e = .returned (.bool true) ∧ Below w.heap.size w w' := by
  have hs := SecL_bd root.data.toList
  have HPR : Hid (Calls Tryz.prog 16 #[.string root, .int .i64 m, .int .i64 a] w fun e w' => Below w.heap.size w w' ∧ ∃ (N x y b c : Nat) (S T : List Nat), 2 ≤ N ∧ N ≤ 16 ∧ x < N ∧ y < N ∧ x ≠ y ∧ e = .returned (.tuple #[.pointer (some ⟨b, 0, none⟩), .pointer (some ⟨c, 0, none⟩), .int .i64 x]) ∧
      Rep w' S (.pointer (some ⟨b, 0, none⟩)) (St.new (SecL root.data.toList) N x) 0 ∧ Rep w' T (.pointer (some ⟨c, 0, none⟩)) (St.new (SecL root.data.toList) N y) 0 ∧ (∀ k, k ∈ S → w.heap.size ≤ k) ∧ (∀ k, k ∈ T → w.heap.size ≤ k) ∧ (∀ k, k ∈ S → k ∉ T)) := pair_any C root m a hm1 hm2 ha1 ha2 w
  obtain ⟨s, hse⟩ : ∃ s, SecL root.data.toList = s := ⟨_, rfl⟩
  rw [hse] at hs HPR
  have HGL : Hid (Glob w) := hG
  have HTX : Hid (∀ t W, Calls Tryz.prog 18 #[.string t] W fun e w' => e = .returned (.string (TextB t)) ∧ w' = W) := text_any
  have HTL : Hid (StrsAt w tp tl tcap) := htl
  have HOL : Hid ((ol = [] ∨ ∃ b o, op = some ⟨b, o, none⟩ ∧ b < w.heap.size ∧ ol.length ≤ ocap ∧ ∀ j (hj : j < ol.length), w.cell? ⟨b, o + j, none⟩ = some (.int .i64 ol[j])) ∧ ∀ z, z ∈ ol → -9223372036854775808 ≤ z ∧ z ≤ 9223372036854775807) := ⟨hol, hob⟩
  clear hse hm1 hm2 ha1 ha2 hG htl hol hob
  obtain ⟨nl, hnl⟩ : ∃ nl, tl.length = nl := ⟨_, rfl⟩
  obtain ⟨no, hno⟩ : ∃ no, ol.length = no := ⟨_, rfl⟩
  have HNL : Hid (tl.length = nl ∧ ol.length = no) := ⟨hnl, hno⟩
  rw [hnl, hno]
  clear hnl hno
  go_enter Tryz.func7, Tryz.ntmps7
  go_wp2_with fail
  refine HPR.out.mono ?_
  rintro e w1 ⟨b1, N, x, y, b, c, S, T, hN1, hN2, hx, hy, hxy, rfl, hr1, hr2, hS, hT, hd⟩
  have D1 : Hid (Duo Rep w w1 (S ++ T) b c (St.new s N x) (St.new s N y) 0 0) := duo_new C hs hN1 hN2 hx hy HGL.out b1 hr1 hr2 hS hT hd
  have HNX : Hid (1 ≤ N ∧ N ≤ 16 ∧ x < N ∧ y < N ∧ x ≠ y) := ⟨by omega, hN2, hx, hy, hxy⟩
  have HF1 : Hid (Below w.heap.size w w1) := b1
  clear HPR b1 hr1 hr2 hS hT hd hN1 hN2 hx hy hxy
  by_cases h400 : (400 : Int) < (nl : Int)
  · clear D1 HOL HTL
    go_wp2_with fail
    go_ret
    exact ⟨rfl, HF1.out⟩
  have h4 : (nl : Int) ≤ 400 := by omega
  -- the texts
  have bA : Below w1.heap.size w1 (w1.alloc (.cells #[.string firstB] 9)) := (Below.refl _ w1).alloc (Nat.le_refl _) _
  have hS0 : Strs (w1.alloc (.cells #[.string firstB] 9)) w.heap.size (.slice (some ⟨w1.heap.size, 0, none⟩) 1 1) [firstB] :=
    ⟨rfl, .inr ⟨w1.heap.size, 1, _, rfl, HF1.out.size, (MapKept.heap_alloc w1 _).1, by simp, by unfold maxLen; omega, rfl, rfl⟩⟩
  have hTA : StrsAt (w1.alloc (.cells #[.string firstB] 9)) tp tl tcap := (HTL.out.to HF1.out).to bA
  obtain ⟨v3, w2, hrun, q1, q2, q3, q4, q5⟩ := strs_append _ w.heap.size _ [firstB] tl tp tcap hS0 hTA (by have := HF1.out.size; have := bA.size; omega) (by have := HNL.out.1; simp; omega) 30
  rw [HNL.out.1] at hrun
  obtain ⟨TL, hTL⟩ : ∃ TL, [firstB] ++ tl = TL := ⟨_, rfl⟩
  rw [hTL] at q1
  have hTn : TL.length = nl + 1 := by rw [← hTL, List.length_append, HNL.out.1]; simp; omega
  obtain ⟨g3, cap3, hv3, hg3, hg3l, hcap3, hat⟩ := q1.at 0 (by omega)
  subst hv3
  rw [hTn] at hrun
  have HRUN : Hid ((Builtin.append_ #[30, 30] 30 #[.slice (some ⟨w1.heap.size, 0, none⟩) 1 1, .slice tp nl tcap]).run Tryz.prog (w1.alloc (.cells #[.string ⟨#[102, 105, 114, 115, 116]⟩] 9)) = .ok (.slice (some ⟨g3, 0, none⟩) (nl + 1) cap3) w2) := hrun
  have HD2 : Hid (Duo Rep w w2 (S ++ T) b c (St.new s N x) (St.new s N y) 0 0 ∧ StrBuf w2 (S ++ T) w.heap.size (.slice (some ⟨g3, 0, none⟩) (nl + 1) cap3) TL ∧ TL.length = nl + 1 ∧ nl + 1 ≤ cap3) := by
    have hUl := D1.out.lt C
    have zz := bA.size
    have e4 : ∀ k, k < w1.heap.size → w2.heap[k]? = w1.heap[k]? := fun k hk => by
      rw [q4 k (by omega) (fun e => by have e' : w1.heap.size = k := Option.some.inj e; omega), bA.block k hk]
    refine ⟨D1.out.beside C (by omega) (fun k hk _ => e4 k hk) ((bA.mono HF1.out.size).trans q2), ⟨?_, fun k hk hm => ?_⟩, hTn, by omega⟩
    · rw [hTn] at q1; exact q1
    · have h1 := hUl k hm
      rcases q5 k hk with e | e
      · have e' : w1.heap.size = k := Option.some.inj e; omega
      · omega
  clear hat bA hS0 hTA hrun q1 q2 q3 q4 q5 hTL hTn hg3 hg3l hcap3 D1 HTL HF1
  obtain ⟨n, hn⟩ : ∃ n, nl + 1 = n := ⟨_, rfl⟩
  rw [hn] at HRUN HD2
  have hn4 : (n : Int) ≤ 401 := by omega
  have hn1 : (1 : Int) ≤ (n : Int) := by omega
  clear hn h4
  go_wp2_with (at_builtin; refine wpList_app rfl _ _ 30 30 rfl rfl _ _ _ _ rfl rfl HRUN.out ?_)
  clear HRUN h400
  -- the frames
  go_loopg [14, 15] n (fun k v14 v15 wr => ∃ (V : Value) (i : Nat) (U : List Nat) (k1 : Nat), V = v14 ∧ v15 = .int .i64 i ∧ i + k = n ∧ Hid (Duo Rep w wr U b c (St.after s N x i) (St.new s N y) k1 0 ∧ StrBuf wr U w.heap.size V (FrL s N x TL i) ∧ StrBuf wr U w.heap.size (.slice (some ⟨g3, 0, none⟩) n cap3) TL ∧ ∀ k, V.ownBlock = some k → (Value.slice (some ⟨g3, 0, none⟩) n cap3).ownBlock ≠ some k))
  case atStart => exact ⟨_, 0, S ++ T, 0, rfl, rfl, by omega, HD2.out.1, ⟨⟨rfl, .inl ⟨rfl, rfl⟩⟩, fun k hk => by cases hk⟩, HD2.out.2.1, fun k hk => by cases hk⟩
  case round =>
    obtain ⟨V, i, U, k1, hV, rfl, hik, HR⟩ := hrel
    subst hV
    by_cases hlt : (i : Int) < (n : Int)
    -- mark L1
    · have hiN : i < TL.length := by have := HD2.out.2.2.1; omega
      obtain ⟨g3', cap3', hv3', _, _, _, hc3⟩ := HR.out.2.2.1.1.at i hiN
      have hgg : g3 = g3' := by cases hv3'; rfl
      rw [← hgg] at hc3
      obtain ⟨TI, hTI⟩ : ∃ TI, TL[i] = TI := ⟨_, rfl⟩
      rw [hTI] at hc3
      have htx := TextB_le TI
      obtain ⟨TX, hTX⟩ : ∃ TX, TextB TI = TX := ⟨_, rfl⟩
      have HTI : Hid (∀ W, Calls Tryz.prog 18 #[.string TI] W fun e w' => e = .returned (.string TX) ∧ w' = W) := fun W => by have := HTX.out TI W; rw [hTX] at this; exact this
      rw [hTX] at htx
      have HE1 : Hid (TX.data.toList.length = TX.size ∧ TX.size ≤ 40) := ⟨Array.length_toList, htx⟩
      have HFB : Hid ((St.after s N x i).frame TX.data.toList = (FrB s N x TL i).data.toList) := by
        show _ = _
        rw [FrB_list, List.getD_eq_getElem?_getD, List.getElem?_eq_getElem hiN, hTI]
        show _ = (St.after s N x i).frame (TextB TI).data.toList
        rw [hTX]
      have HI : Hid (i + gk = n ∧ i < n) := ⟨hik, by omega⟩
      have hc3n : (n : Int) ≤ (cap3 : Int) := by have := HD2.out.2.2.2; omega
      clear hv3' hgg hTI hTX htx hiN
      go_wp2_with (first | (go_at_call 18; refine (HTI.out _).mono ?_; rintro e w' ⟨rfl, hw'⟩; rw [hw']; clear hw' w') | (refine wpList_bytes rfl _ rfl TX rfl ?_; intro cap1 w3 hcap1 b3 z3 B3))
      -- Protect
      have D3 : Duo Rep w w3 U b c (St.after s N x i) (St.new s N y) k1 0 := HR.out.1.to C b3
      have hbuf : Buf w3 U (some ⟨wr.heap.size, 0, none⟩) TX.data.toList := Buf.new B3 (n := wr.heap.size) (fun b o e => by cases e; omega) (fun k hk => HR.out.1.lt C k hk)
      have hpe : (St.after s N x i).protErr TX.data.toList.length = 0 := by
        unfold St.protErr
        rw [HE1.out.1, (after_n s N x i).2.2.1, after_next s N x HNX.out.2.2.1 i, if_neg (by simp), if_neg (by have := HE1.out.2; omega), if_neg (by omega)]
      have hP := D3.prot1 C (some ⟨wr.heap.size, 0, none⟩) TX.data.toList cap1 hbuf hpe
      obtain ⟨FB, hFB⟩ : ∃ FB, FrB s N x TL i = FB := ⟨_, rfl⟩
      have hfb := HFB.out
      rw [hFB] at hfb
      rw [HE1.out.1, hfb] at hP
      refine hP.mono ?_
      rintro e w4 ⟨f, o, cap, rfl, U4, k4, D4, o4, f4, _, hcp, B4⟩
      have hne : (⟨FB.data.toList.toArray⟩ : ByteArray) = FB := by simp
      have hct : (convert 34 9 (.slice (some ⟨f, o, none⟩) FB.data.toList.length cap)).run Tryz.prog w4 = .ok (.string FB) w4 := by
        have h := cv_of_bts cap B4.1 w4 (Below.refl _ _)
        rw [hne] at h
        exact h
      obtain ⟨_, r2, r3, r4⟩ := HR.out
      obtain ⟨v', w5, hrun, s1, s2, s3, s4⟩ := frames_step C D4 ((r2.below b3).step o4 f4) ((r3.below b3).step o4 f4) r4 FB (by rw [FrL_length]; omega) 30
      have HRUN : Hid ((Builtin.append_ #[30, 30] 30 #[V, .slice (some ⟨w4.heap.size, 0, none⟩) 1 1]).run Tryz.prog (w4.alloc (.cells #[.string FB] 9)) = .ok v' w5) := hrun
      have HR5 : Hid (Duo Rep w w5 U4 b c (St.after s N x (i + 1)) (St.new s N y) k4 0 ∧ StrBuf w5 U4 w.heap.size v' (FrL s N x TL (i + 1)) ∧ StrBuf w5 U4 w.heap.size (.slice (some ⟨g3, 0, none⟩) n cap3) TL ∧ ∀ k, v'.ownBlock = some k → (Value.slice (some ⟨g3, 0, none⟩) n cap3).ownBlock ≠ some k) := by
        refine ⟨s1, ?_, s3, s4⟩
        rw [FrL_succ, hFB]
        exact s2
      obtain ⟨FL, hFL⟩ : ∃ FL, FB.data.toList.length = FL := ⟨_, rfl⟩
      rw [hFL] at hct ⊢
      clear hP D3 hbuf hpe b3 z3 B3 hcap1 hFB hfb D4 o4 f4 hcp B4 hne r2 r3 r4 hrun s1 s2 s3 s4 HFB HR hFL hc3 HTI HE1
      go_wp2_with (at_builtin; refine wpList_app rfl _ _ 30 30 rfl rfl _ _ _ _ rfl rfl HRUN.out ?_)
      go_roundg (gk - 1)
      case measure => have := HI.out; omega
      case rel => exact ⟨v', i + 1, U4, k4, rfl, by go_num, by have := HI.out; omega, HR5.out⟩
    -- mark L1 end
    · have hin : i = n := by omega
      rw [hin] at HR ⊢
      clear hlt hik hin
      obtain ⟨g4, cap4, hv4, hg4, hg4l, hcap4, hat⟩ := HR.out.2.1.1.at 0 (by rw [FrL_length]; omega)
      rw [FrL_length] at hv4 hcap4
      subst hv4
      have hc4n : (n : Int) ≤ (cap4 : Int) := by omega
      have hc3n : (n : Int) ≤ (cap3 : Int) := by have := HD2.out.2.2.2; omega
      have HRL : Hid (Duo Rep w wr U b c (St.after s N x n) (St.new s N y) k1 0 ∧ StrBuf wr U w.heap.size (.slice (some ⟨g4, 0, none⟩) n cap4) (FrL s N x TL n) ∧ StrBuf wr U w.heap.size (.slice (some ⟨g3, 0, none⟩) n cap3) TL) := ⟨HR.out.1, HR.out.2.1, HR.out.2.2.1⟩
      clear HR hg4 hg4l hcap4 hat
      go_wp2_with fail
      -- the groups
      go_loopg [18] (n + 5) (fun k v18 wq => ∃ (F : Nat) (U : List Nat) (st : St) (k2 : Nat), v18 = .int .i64 F ∧ F + k = n + 5 ∧ F ≤ n + 4 ∧ Hid (Duo Rep w wq U b c (St.after s N x n) st k1 k2 ∧ InG s N x y (min F n) (min (F + 5) n) [] st ∧ StrBuf wq U w.heap.size (.slice (some ⟨g4, 0, none⟩) n cap4) (FrL s N x TL n) ∧ StrBuf wq U w.heap.size (.slice (some ⟨g3, 0, none⟩) n cap3) TL))
      case atStart =>
        refine ⟨0, U, _, 0, rfl, by omega, by omega, HRL.out.1, ?_, HRL.out.2.1, HRL.out.2.2⟩
        rw [Nat.zero_min]
        exact InG.new s hs N x y _ HNX.out.1 HNX.out.2.1 HNX.out.2.2.2.1 (by omega)
      case round =>
        clear HRL
        obtain ⟨F, U, st, k2, rfl, hFk, hFn, HQ⟩ := hrel
        by_cases hFlt : (F : Int) < (n : Int)
        · have hFi : (F : Int) ≤ (n : Int) := by omega
          obtain ⟨t, ht⟩ : ∃ t, min (F + 5) n = t := ⟨_, rfl⟩
          have HT : Hid (F < t ∧ t ≤ n ∧ t ≤ F + 5 ∧ (t = n ∨ t = F + 5)) := by refine ⟨?_, ?_, ?_, ?_⟩ <;> omega
          have htn : (t : Int) ≤ (n : Int) := by have := HT.out; omega
          have hFt : (F : Int) < (t : Int) := by have := HT.out; omega
          have HQ2 : Hid (Duo Rep w wr U b c (St.after s N x n) st k1 k2 ∧ InG s N x y F t [] st ∧ StrBuf wr U w.heap.size (.slice (some ⟨g4, 0, none⟩) n cap4) (FrL s N x TL n) ∧ StrBuf wr U w.heap.size (.slice (some ⟨g3, 0, none⟩) n cap3) TL) := by
            have h := HQ.out
            rw [show min F n = F by omega, ht] at h
            exact h
          have HFK : Hid (F + gk = n + 5 ∧ F ≤ n + 4) := ⟨hFk, hFn⟩
          clear HQ hFk hFn
          have HQ1 : Hid (Below w.heap.size w wr) := HQ2.out.1.below
          obtain ⟨wB, hwB⟩ : ∃ wB, wB = wr := ⟨_, rfl⟩
          subst hwB
          obtain ⟨gk2, hgk2⟩ : ∃ gk2, gk2 = gk := ⟨_, rfl⟩
          subst hgk2
          go_upto_if 86 with fail
          go_cut [19] (fun s19 wq => s19 = .int .i64 (t : Int) ∧ wq = wB)
          case first =>
            by_cases hto : (n : Int) < (F : Int) + 5
            · have e : (t : Int) = (n : Int) := by have := HT.out; omega
              clear ht htn hFt
              go_wp2_with fail
              go_meet
              exact ⟨by rw [e], rfl⟩
            · have e : (t : Int) = (F : Int) + 5 := by have := HT.out; omega
              clear ht htn hFt
              go_wp2_with fail
              go_meet
              exact ⟨by rw [e], rfl⟩
          case rest =>
            obtain ⟨rfl, hwc⟩ := hcut
            have hwc' := hwc.symm
            subst hwc'
            clear ht
            go_wp2_with fail
            -- an order
            go_loopg [20, 21] (t - F) (fun k v20 v21 wq => ∃ (V : Value) (i : Nat) (L3 : List Nat), V = v20 ∧ v21 = .int .i64 i ∧ i + k = t ∧ F ≤ i ∧ Hid (Nums wq wB.heap.size V L3 ∧ L3.Nodup ∧ L3.length = i - F ∧ (∀ g, g ∈ L3 ↔ F ≤ g ∧ g < i) ∧ Below wB.heap.size wB wq))
            case atStart => exact ⟨_, F, [], rfl, rfl, by have := HT.out; omega, by omega, ⟨⟨rfl, .inl ⟨rfl, rfl⟩⟩, List.Pairwise.nil, by simp, fun g => ⟨fun h => (by cases h), fun h => (by omega)⟩, Below.refl _ _⟩⟩
            case round =>
              obtain ⟨V, i, L3, hV, rfl, hik, hFi3, HN⟩ := hrel
              subst hV
              by_cases hit : (i : Int) < (t : Int)
              · have HI3 : Hid (i + gk = t ∧ F ≤ i ∧ i < t) := ⟨hik, hFi3, by omega⟩
                have hi4 : (i : Int) ≤ 401 := by omega
                clear hik hFi3
                obtain ⟨pV, cV, hVe⟩ : ∃ pV cV, V = .slice pV L3.length cV := by
                  rcases HN.out.1.val with ⟨h1, h2⟩ | ⟨g, cap, h1, _⟩
                  · exact ⟨none, 0, by rw [h1, h2]; rfl⟩
                  · exact ⟨_, cap, h1⟩
                subst hVe
                have hl55 : (L3.length : Int) ≤ 5 := by have := HT.out; have := HN.out.2.2.1; omega
                go_upto_if 97 with fail
                go_cut [22] (fun s22 wq => ∃ A : Nat, s22 = .int .i64 (A : Int) ∧ A ≤ L3.length ∧ wq = wr)
                case first =>
                  -- mark L3a
                  by_cases hno : (0 : Int) < (no : Int)
                  · rcases HOL.out.1 with h0 | ⟨ob, oo, rfl, hob, hoc, hcel⟩
                    · have := HNL.out.2; rw [h0] at this; simp at this; omega
                    · have hq : i % no < ol.length := by rw [HNL.out.2]; exact Nat.mod_lt _ (by omega)
                      obtain ⟨J, hJ⟩ : ∃ J, i % no = J := ⟨_, rfl⟩
                      have hj1 : (i : Int) % (no : Int) = (J : Int) := by rw [← hJ]; omega
                      have hj2 : (i : Int).tmod (no : Int) = (J : Int) := by rw [Int.tmod_eq_emod_of_nonneg (by omega)]; exact hj1
                      have hcJ : w.cell? ⟨ob, oo + J, none⟩ = some (.int .i64 (ol[i % no]'hq)) := by rw [← hJ]; exact hcel _ hq
                      have hJn : (J : Int) < (no : Int) := by have := HNL.out.2; omega
                      have hnoc : (no : Int) ≤ (ocap : Int) := by have := HNL.out.2; omega
                      obtain ⟨z, hz⟩ : ∃ z, ol[i % no]'hq = z := ⟨_, rfl⟩
                      have hzb := HOL.out.2 z (by rw [← hz]; exact List.getElem_mem hq)
                      rw [hz] at hcJ
                      have hcW : wr.cell? ⟨ob, oo + J, none⟩ = some (.int .i64 z) := by
                        rw [HN.out.2.2.2.2.cell (p := ⟨ob, oo + J, none⟩) (by show ob < wB.heap.size; have := HQ1.out.size; omega), HQ1.out.cell (p := ⟨ob, oo + J, none⟩) hob]
                        exact hcJ
                      have HPK : Hid (∀ W, Calls Tryz.prog 19 #[.int .i64 z, .int .i64 ((L3.length : Int) + 1)] W fun e w' => e = .returned (.int .i64 (PickI z (L3.length + 1))) ∧ w' = W) := fun W => keepPick_any z hzb.1 hzb.2 (L3.length + 1) (by omega) (by omega) W
                      have hpk := PickI_lt z (L3.length + 1) (by omega)
                      obtain ⟨A, hA⟩ : ∃ A, PickI z (L3.length + 1) = A := ⟨_, rfl⟩
                      rw [hA] at HPK hpk
                      have hno0 : ¬ (no : Int) = 0 := by omega
                      clear hcel hcJ hzb hA hz hJ hoc hq
                      go_wp2_with (go_at_call 19; refine (HPK.out _).mono ?_; rintro e w' ⟨rfl, hw'⟩; rw [hw']; clear hw' w')
                      go_meet
                      exact ⟨A, rfl, by omega, rfl⟩
                  · go_wp2_with fail
                    go_meet
                    exact ⟨0, rfl, by omega, rfl⟩
                  -- mark L3a end
                case rest =>
                  obtain ⟨A, rfl, hA, hwr⟩ := hcut
                  have hwr' := hwr.symm
                  subst hwr'
                  obtain ⟨hn1', hn2', hn3', hn4', hn5'⟩ := HN.out
                  rcases hn1'.val with ⟨hv0, h0⟩ | ⟨g5, cap5, hv0, hcap5, hg5, hg5l, hc5⟩
                  -- mark L3b
                  · simp only [Value.slice.injEq] at hv0
                    obtain ⟨rfl, _, rfl⟩ := hv0
                    have h0l : L3.length = 0 := by rw [h0]; rfl
                    obtain rfl : A = 0 := by omega
                    obtain ⟨v2, w2', r2, n2, b2⟩ := ins_nil wr i 22
                    have HR1 : Hid ((Builtin.append_ #[22, 22] 22 #[.slice none 0 0, .slice none 0 0]).run Tryz.prog wr = .ok (.slice none 0 0) wr) := app_nil (Nums.nil wr wB.heap.size) _
                    have HR2 : Hid ((Builtin.append_ #[22, 22] 22 #[.slice none 0 0, .slice (some ⟨wr.heap.size, 0, none⟩) 1 1]).run Tryz.prog (wr.alloc (.cells #[.int .i64 (i : Int)] 3)) = .ok v2 w2') := r2
                    have HR3 : Hid ((Builtin.append_ #[22, 22] 22 #[v2, .slice none 0 0]).run Tryz.prog w2' = .ok v2 w2') := app_nil n2 _
                    have HN3 : Hid (Nums w2' wB.heap.size v2 [i] ∧ [i].Nodup ∧ [i].length = i + 1 - F ∧ (∀ g, g ∈ [i] ↔ F ≤ g ∧ g < i + 1) ∧ Below wB.heap.size wB w2') := by
                      have hiF : i = F := by have := HI3.out; omega
                      refine ⟨n2.up hn5'.size, List.pairwise_singleton _ _, by simp; omega, fun g => ?_, hn5'.trans (b2.mono hn5'.size)⟩
                      rw [List.mem_singleton]
                      omega
                    obtain ⟨v2p, v2n, v2c, hv2⟩ : ∃ p m c, v2 = .slice p m c := by
                      rcases n2.val with ⟨h1, h2⟩ | ⟨g, cap, h1, _⟩
                      · exact ⟨_, _, _, h1⟩
                      · exact ⟨_, _, _, h1⟩
                    subst hv2
                    rw [h0l]
                    clear r2 n2 b2 hn1' hn2' hn3' hn4' hn5' HN hA h0l h0 hl55
                    go_upto_region 28 with (at_builtin; refine wpList_app rfl _ _ 22 22 rfl rfl _ _ _ _ rfl rfl HR1.out ?_)
                    go_upto_region 29 with (at_builtin; refine wpList_app rfl _ _ 22 22 rfl rfl _ _ _ _ rfl rfl HR2.out ?_)
                    go_wp2_with (at_builtin; refine wpList_app rfl _ _ 22 22 rfl rfl _ _ _ _ rfl rfl HR3.out ?_)
                    go_roundg (gk - 1)
                    case measure => have := HI3.out; omega
                    case rel => exact ⟨_, i + 1, _, rfl, by go_num, by have := HI3.out; omega, by have := HI3.out; omega, HN3.out⟩
                  -- mark L3b end
                  -- mark L3c
                  · simp only [Value.slice.injEq] at hv0
                    obtain ⟨rfl, _, rfl⟩ := hv0
                    have hsl1 := fun W => sl_to g5 cV L3.length A (by omega) W
                    have hsl2 := fun W => sl_from g5 cV L3.length A hA (by omega) W
                    obtain ⟨oA, hoA⟩ : ∃ oA, (if cV = A then 0 else A) = oA := ⟨_, rfl⟩
                    rw [hoA] at hsl2
                    have ho : oA = A ∨ L3.length ≤ A := by
                      rw [← hoA]
                      by_cases h : cV = A
                      · exact .inr (by omega)
                      · exact .inl (if_neg h)
                    have hI := ins_any wr g5 cV (cV - A) L3 hg5l hc5 A i oA ho hA (by omega) 22
                    obtain ⟨v1, w1', v2, w2', v3, w3', r1, r2, r3, n3, b3⟩ := hI
                    have HR1 : Hid ((Builtin.append_ #[22, 22] 22 #[.slice none 0 0, .slice (some ⟨g5, 0, none⟩) A cV]).run Tryz.prog wr = .ok v1 w1') := r1
                    have HR2 : Hid ((Builtin.append_ #[22, 22] 22 #[v1, .slice (some ⟨w1'.heap.size, 0, none⟩) 1 1]).run Tryz.prog (w1'.alloc (.cells #[.int .i64 (i : Int)] 3)) = .ok v2 w2') := r2
                    have HR3 : Hid ((Builtin.append_ #[22, 22] 22 #[v2, .slice (some ⟨g5, oA, none⟩) (L3.length - A) (cV - A)]).run Tryz.prog w2' = .ok v3 w3') := r3
                    have HN3 : Hid (Nums w3' wB.heap.size v3 (L3.take A ++ [i] ++ L3.drop A) ∧ (L3.take A ++ [i] ++ L3.drop A).Nodup ∧ (L3.take A ++ [i] ++ L3.drop A).length = i + 1 - F ∧ (∀ g, g ∈ L3.take A ++ [i] ++ L3.drop A ↔ F ≤ g ∧ g < i + 1) ∧ Below wB.heap.size wB w3') := by
                      obtain ⟨e1, e2, e3⟩ := ins_list hn2' hn4' HI3.out.2.1 A
                      exact ⟨n3.up hn5'.size, e1, by rw [e2]; have := HI3.out; omega, e3, hn5'.trans (b3.mono hn5'.size)⟩
                    clear r1 r2 r3 n3 b3 hn1' hn2' hn3' hn4' hn5' hc5 HN ho hoA hg5 hg5l
                    go_wp2_with (at_builtin; first | refine wpList_app rfl _ _ 22 22 rfl rfl _ _ _ _ rfl rfl HR1.out ?_ | refine wpList_app rfl _ _ 22 22 rfl rfl _ _ _ _ rfl rfl HR2.out ?_ | refine wpList_app rfl _ _ 22 22 rfl rfl _ _ _ _ rfl rfl HR3.out ?_)
                    go_roundg (gk - 1)
                    case measure => have := HI3.out; omega
                    case rel => exact ⟨v3, i + 1, _, rfl, by go_num, by have := HI3.out; omega, by have := HI3.out; omega, HN3.out⟩
                  -- mark L3c end
              · have hit' : i = t := by omega
                rw [hit'] at HN ⊢
                clear hit hik hFi3 hit'
                obtain ⟨hn1', hn2', hn3', hn4', hn5'⟩ := HN.out
                have hLp : 0 < L3.length := by have := HT.out; omega
                rcases hn1'.val with ⟨_, h0⟩ | ⟨g5, cap5, hv0, hcap5, hg5, hg5l, hc5⟩
                · rw [h0] at hLp; simp at hLp
                · subst hv0
                  have HQ4 : Hid (Duo Rep w wr U b c (St.after s N x n) st k1 k2 ∧ InG s N x y F t [] st ∧ StrBuf wr U w.heap.size (.slice (some ⟨g4, 0, none⟩) n cap4) (FrL s N x TL n) ∧ StrBuf wr U w.heap.size (.slice (some ⟨g3, 0, none⟩) n cap3) TL ∧ NumBuf wr U wB.heap.size (.slice (some ⟨g5, 0, none⟩) L3.length cap5) L3) := by
                    obtain ⟨z1, z2, z3, z4⟩ := HQ2.out
                    have hlt := z1.lt C
                    exact ⟨z1.to C hn5', z2, z3.below hn5', z4.below hn5', hn1', fun k hk hm => by
                      have hk' : g5 = k := Option.some.inj hk
                      have := hlt _ hm
                      omega⟩
                  have HL3 : Hid (L3.Nodup ∧ ∀ g, g ∈ L3 ↔ F ≤ g ∧ g < t) := ⟨hn2', hn4'⟩
                  obtain ⟨LN, hLN⟩ : ∃ LN, L3.length = LN := ⟨_, rfl⟩
                  have HLN : Hid (L3.length = LN) := hLN
                  have hLc : (LN : Int) ≤ (cap5 : Int) := by omega
                  have hL5 : (LN : Int) ≤ 5 := by have := HT.out; omega
                  rw [hLN] at HQ4 ⊢
                  clear hn1' hn2' hn3' hn4' hn5' hLp hcap5 hg5 hg5l hc5 hLN HN HQ2
                  obtain ⟨wD, hwD⟩ : ∃ wD, wD = wr := ⟨_, rfl⟩
                  subst hwD
                  obtain ⟨gk3, hgk3⟩ : ∃ gk3, gk3 = gk := ⟨_, rfl⟩
                  subst hgk3
                  go_wp2_with fail
                  -- they come
                  go_loopg [24] LN (fun k v24 wq => ∃ (j : Nat) (U : List Nat) (st : St) (k2 : Nat) (D : List Nat), v24 = .int .i64 j ∧ j + k = LN ∧ Hid (Duo Rep w wq U b c (St.after s N x n) st k1 k2 ∧ InG s N x y F t D st ∧ StrBuf wq U w.heap.size (.slice (some ⟨g4, 0, none⟩) n cap4) (FrL s N x TL n) ∧ StrBuf wq U w.heap.size (.slice (some ⟨g3, 0, none⟩) n cap3) TL ∧ NumBuf wq U wB.heap.size (.slice (some ⟨g5, 0, none⟩) LN cap5) L3 ∧ ∀ g, g ∈ D ↔ g ∈ L3.take j))
                  case atStart => exact ⟨0, U, st, k2, [], rfl, by omega, HQ4.out.1, HQ4.out.2.1, HQ4.out.2.2.1, HQ4.out.2.2.2.1, HQ4.out.2.2.2.2, fun g => by simp⟩
                  case round =>
                    clear HQ4
                    obtain ⟨j, U, st, k2, D, rfl, hjk, HR⟩ := hrel
                    by_cases hj : (j : Int) < (LN : Int)
                    -- mark L4
                    · have hjl : j < L3.length := by have := HLN.out; omega
                      obtain ⟨r1, r2, r3, r4, r5, r6⟩ := HR.out
                      have hcI := r5.cell j hjl
                      have hnT := nodup_take HL3.out.1 hjl
                      have hmS := fun g => mem_take_succ hjl g
                      obtain ⟨i, hi⟩ : ∃ i, L3[j] = i := ⟨_, rfl⟩
                      have hiL : i ∈ L3 := by rw [← hi]; exact List.getElem_mem hjl
                      rw [hi] at hcI hnT hmS
                      have hiF := (HL3.out.2 i).1 hiL
                      have hin : (i : Int) < (n : Int) := by have := HT.out; omega
                      have HID : Hid (F ≤ i ∧ i < t ∧ i ∉ D ∧ i ≤ 65535 ∧ ∀ g, g ∈ L3.take (j + 1) ↔ g = i ∨ g ∈ L3.take j) := ⟨hiF.1, hiF.2, fun hm => hnT ((r6 i).1 hm), by omega, hmS⟩
                      have hcF := r3.cell i (by rw [FrL_length]; omega)
                      rw [FrL_get] at hcF
                      obtain ⟨FB, hFB⟩ : ∃ FB, FrB s N x TL i = FB := ⟨_, rfl⟩
                      rw [hFB] at hcF
                      have HFB : Hid (FrB s N x TL i = FB) := hFB
                      have hiT : i < TL.length := by have := HD2.out.2.2.1; omega
                      obtain ⟨TI, hTI⟩ : ∃ TI, TL[i] = TI := ⟨_, rfl⟩
                      obtain ⟨TX, hTX⟩ : ∃ TX, TextB TI = TX := ⟨_, rfl⟩
                      have HTI : Hid (∀ W, Calls Tryz.prog 18 #[.string TI] W fun e w' => e = .returned (.string TX) ∧ w' = W) := fun W => by have := HTX.out TI W; rw [hTX] at this; exact this
                      have HTB : Hid (TextB (TL.getD i ByteArray.empty) = TX ∧ TX.data.toList.length = TX.size ∧ ∃ h : i < TL.length, TL[i] = TI) := ⟨by rw [List.getD_eq_getElem?_getD, List.getElem?_eq_getElem hiT, hTI]; exact hTX, Array.length_toList, hiT, hTI⟩
                      have HJ : Hid (j + gk = LN ∧ j < LN) := ⟨hjk, by omega⟩
                      clear r1 r2 r3 r4 r5 r6 hnT hmS hi hiL hiF hFB hTI hTX hiT hjl hjk
                      go_wp2_with (refine wpList_bytes rfl _ rfl FB rfl ?_; intro cap1 w3 hcap1 b3 z3 B3)
                      obtain ⟨r1, r2, r3, r4, r5, r6⟩ := HR.out
                      have hbuf : Buf w3 U (some ⟨wr.heap.size, 0, none⟩) FB.data.toList := Buf.new B3 (n := wr.heap.size) (fun b o e => by cases e; omega) (fun k hk => r1.lt C k hk)
                      obtain ⟨i1, i2, i3, i4, i5⟩ := HID.out
                      refine (opens_step C (r1.to C b3) r2 HNX.out.2.2.1 HNX.out.2.1 HNX.out.2.2.2.2 TL i1 i2 i3 i4 HFB.out HTB.out.1 (some ⟨wr.heap.size, 0, none⟩) cap1 hcap1 hbuf).mono ?_
                      rintro e w4 ⟨f, o, cap, rfl, U4, k4, st4, D4, I4, o4, f4, B4⟩
                      obtain ⟨w5, hw5⟩ : ∃ w5, w4.alloc (.cells #[.int .i64 (x : Int), .int .i64 (i : Int), .slice (some ⟨f, o, none⟩) TX.size cap] 41) = w5 := ⟨_, rfl⟩
                      have b5 : Below w4.heap.size w4 w5 := by rw [← hw5]; exact (Below.refl _ w4).alloc (Nat.le_refl _) _
                      have k5 : w5.heap[w4.heap.size]? = some (.cells #[.int .i64 (x : Int), .int .i64 (i : Int), .slice (some ⟨f, o, none⟩) TX.size cap] 41 (0, 0)) := by rw [← hw5]; exact (MapKept.heap_alloc _ _).1
                      have c5 := (row_facts' k5).1
                      have s5 := ((r4.below b3).step o4 f4).below b5
                      have HQ5 : Hid (Duo Rep w w5 U4 b c (St.after s N x n) st4 k1 k4 ∧ InG s N x y F t (i :: D) st4 ∧ StrBuf w5 U4 w.heap.size (.slice (some ⟨g4, 0, none⟩) n cap4) (FrL s N x TL n) ∧ StrBuf w5 U4 w.heap.size (.slice (some ⟨g3, 0, none⟩) n cap3) TL ∧ NumBuf w5 U4 wB.heap.size (.slice (some ⟨g5, 0, none⟩) LN cap5) L3 ∧ ∀ g, g ∈ i :: D ↔ g ∈ L3.take (j + 1)) := ⟨D4.to C b5, I4, ((r3.below b3).step o4 f4).below b5, s5, ((r5.below b3).step o4 f4).below b5, fun g => by rw [i5, List.mem_cons, r6]⟩
                      have hct : ∀ n, (convert 34 9 (.slice (some ⟨f, o, none⟩) TX.size cap)).run Tryz.prog (w5.drewN n) = .ok (.string TX) (w5.drewN n) := fun n => by
                        have h := cv_of_bts cap (B4.1.below b5) (w5.drewN n) (below_drewN _ _ _)
                        rw [HTB.out.2.1] at h
                        exact h
                      have hcT : w5.cell? ⟨g3, i, none⟩ = some (.string TI) := by
                        obtain ⟨_, _, hlt, e⟩ := HTB.out
                        rw [s5.cell i hlt, e]
                      have HW5 : Hid (w4.alloc (.cells #[.int .i64 (x : Int), .int .i64 (i : Int), .slice (some ⟨f, o, none⟩) TX.size cap] 41) = w5) := hw5
                      have hxx : ((x : Int) != (x : Int)) = false := by simp
                      have hii : ((i : Int) != (i : Int)) = false := by simp
                      clear D4 I4 o4 f4 B4 b3 z3 B3 hcap1 hbuf r1 r2 r3 r4 r5 r6 i1 i2 i3 i5 hw5 b5 k5 s5 HR hcF hcI
                      go_upto_region 36 with fail
                      rw [HW5.out]
                      go_quiet ((go_at_call 18; exact Calls.quiet_of_same (HTI.out _)))
                      obtain ⟨w6, hw6⟩ : ∃ w6, w5.drewN nq = w6 := ⟨_, rfl⟩
                      rw [hw6]
                      have b6 : Below w5.heap.size w5 w6 := by rw [← hw6]; exact below_drewN _ _ _
                      have HQ6 : Hid (Duo Rep w w6 U4 b c (St.after s N x n) st4 k1 k4 ∧ InG s N x y F t (i :: D) st4 ∧ StrBuf w6 U4 w.heap.size (.slice (some ⟨g4, 0, none⟩) n cap4) (FrL s N x TL n) ∧ StrBuf w6 U4 w.heap.size (.slice (some ⟨g3, 0, none⟩) n cap3) TL ∧ NumBuf w6 U4 wB.heap.size (.slice (some ⟨g5, 0, none⟩) LN cap5) L3 ∧ ∀ g, g ∈ i :: D ↔ g ∈ L3.take (j + 1)) := by
                        obtain ⟨r1, r2, r3, r4, r5, r6⟩ := HQ5.out
                        exact ⟨r1.to C b6, r2, r3.below b6, r4.below b6, r5.below b6, r6⟩
                      have hcF := HQ6.out.2.2.1.cell i (by rw [FrL_length]; omega)
                      rw [FrL_get, HFB.out] at hcF
                      clear hw6 b6 HQ5 HW5 hct hcT c5 hxx hii
                      go_wp2_with (refine wpList_bytes rfl _ rfl FB rfl ?_; intro cap1 w7 hcap1 b7 z7 B7)
                      obtain ⟨r1, r2, r3, r4, r5, r6⟩ := HQ6.out
                      have hbuf : Buf w7 U4 (some ⟨w6.heap.size, 0, none⟩) FB.data.toList := Buf.new B7 (n := w6.heap.size) (fun b o e => by cases e; omega) (fun k hk => r1.lt C k hk)
                      refine (shut_step C (r1.to C b7) r2 HNX.out.2.2.1 HNX.out.2.1 HNX.out.2.2.2.2 TL (.inl List.mem_cons_self) i4 HFB.out (some ⟨w6.heap.size, 0, none⟩) cap1 hcap1 hbuf).mono ?_
                      rintro e w8 ⟨rfl, U8, k8, D8, o8, f8⟩
                      have HQ8 : Hid (Duo Rep w w8 U8 b c (St.after s N x n) st4 k1 k8 ∧ InG s N x y F t (i :: D) st4 ∧ StrBuf w8 U8 w.heap.size (.slice (some ⟨g4, 0, none⟩) n cap4) (FrL s N x TL n) ∧ StrBuf w8 U8 w.heap.size (.slice (some ⟨g3, 0, none⟩) n cap3) TL ∧ NumBuf w8 U8 wB.heap.size (.slice (some ⟨g5, 0, none⟩) LN cap5) L3 ∧ ∀ g, g ∈ i :: D ↔ g ∈ L3.take (j + 1)) := ⟨D8, r2, (r3.below b7).step o8 f8, (r4.below b7).step o8 f8, (r5.below b7).step o8 f8, r6⟩
                      clear D8 o8 f8 r1 r2 r3 r4 r5 r6 b7 z7 B7 hcap1 hbuf HQ6 hcF
                      go_wp2_with fail
                      go_roundg (gk - 1)
                      case measure => have := HJ.out; omega
                      case rel => exact ⟨j + 1, U8, st4, k8, i :: D, by go_num, by have := HJ.out; omega, HQ8.out⟩
                    -- mark L4 end
                    -- mark L4x
                    · have hjl : j = LN := by omega
                      have HX : Hid (Duo Rep w wr U b c (St.after s N x n) st k1 k2 ∧ InG s N x y (min (F + 5) n) (min (F + 5 + 5) n) [] st ∧ StrBuf wr U w.heap.size (.slice (some ⟨g4, 0, none⟩) n cap4) (FrL s N x TL n) ∧ StrBuf wr U w.heap.size (.slice (some ⟨g3, 0, none⟩) n cap3) TL) := by
                        obtain ⟨r1, r2, r3, r4, r5, r6⟩ := HR.out
                        have hT := HT.out
                        refine ⟨r1, ?_, r3, r4⟩
                        rw [show min (F + 5) n = t by omega]
                        refine r2.next hT.1 (fun g h1 h2 => ?_) (by omega) (by omega)
                        rw [r6, List.take_of_length_le (by have := HLN.out; omega)]
                        exact (HL3.out.2 g).2 ⟨h1, h2⟩
                      have HFK2 := HFK.out
                      have hFi' : (F : Int) ≤ 401 := by omega
                      clear HR hjk HL3 HLN
                      go_wp2_with fail
                      go_roundg (gk2 - 5)
                      case measure => omega
                      case rel => exact ⟨F + 5, U, st, k2, by go_num, by omega, by omega, HX.out⟩
                    -- mark L4x end
        -- mark L5
        · have HQ5 : Hid (Duo Rep w wr U b c (St.after s N x n) st k1 k2 ∧ InG s N x y n n [] st ∧ StrBuf wr U w.heap.size (.slice (some ⟨g4, 0, none⟩) n cap4) (FrL s N x TL n)) := by
            have h := HQ.out
            rw [show min F n = n by omega, show min (F + 5) n = n by omega] at h
            exact ⟨h.1, h.2.1, h.2.2.1⟩
          clear HQ hFk hFn
          obtain ⟨wB, hwB⟩ : ∃ wB, wB = wr := ⟨_, rfl⟩
          subst hwB
          obtain ⟨gk2, hgk2⟩ : ∃ gk2, gk2 = gk := ⟨_, rfl⟩
          subst hgk2
          go_wp2_with fail
          go_loopg [28] n (fun k v28 wq => ∃ (i : Nat) (U : List Nat) (k2 : Nat), v28 = .int .i64 i ∧ i + k = n ∧ Hid (Duo Rep w wq U b c (St.after s N x n) st k1 k2 ∧ InG s N x y n n [] st ∧ StrBuf wq U w.heap.size (.slice (some ⟨g4, 0, none⟩) n cap4) (FrL s N x TL n)))
          case atStart => exact ⟨0, U, k2, rfl, by omega, HQ5.out⟩
          case round =>
            clear HQ5
            obtain ⟨i, U, k2, rfl, hik, HR⟩ := hrel
            by_cases hin : (i : Int) < (n : Int)
            · obtain ⟨r1, r2, r3⟩ := HR.out
              have hcF := r3.cell i (by rw [FrL_length]; omega)
              rw [FrL_get] at hcF
              obtain ⟨FB, hFB⟩ : ∃ FB, FrB s N x TL i = FB := ⟨_, rfl⟩
              rw [hFB] at hcF
              have HFB : Hid (FrB s N x TL i = FB) := hFB
              have HI : Hid (i + gk = n ∧ i < n) := ⟨hik, by omega⟩
              clear r1 r2 r3 hFB hik
              go_wp2_with (refine wpList_bytes rfl _ rfl FB rfl ?_; intro cap1 w3 hcap1 b3 z3 B3)
              obtain ⟨r1, r2, r3⟩ := HR.out
              have hbuf : Buf w3 U (some ⟨wr.heap.size, 0, none⟩) FB.data.toList := Buf.new B3 (n := wr.heap.size) (fun b o e => by cases e; omega) (fun k hk => r1.lt C k hk)
              refine (shut_step C (r1.to C b3) r2 HNX.out.2.2.1 HNX.out.2.1 HNX.out.2.2.2.2 TL (.inr HI.out.2) (by have := HI.out; omega) HFB.out (some ⟨wr.heap.size, 0, none⟩) cap1 hcap1 hbuf).mono ?_
              rintro e w4 ⟨rfl, U4, k4, D4, o4, f4⟩
              obtain ⟨w5, hw5⟩ : ∃ w5, w4.alloc (.cells #[.int .i64 0, .int .i64 0, .slice none 0 0] 41) = w5 := ⟨_, rfl⟩
              have b5 : Below w4.heap.size w4 w5 := by rw [← hw5]; exact (Below.refl _ w4).alloc (Nat.le_refl _) _
              have HQ5 : Hid (Duo Rep w w5 U4 b c (St.after s N x n) st k1 k4 ∧ InG s N x y n n [] st ∧ StrBuf w5 U4 w.heap.size (.slice (some ⟨g4, 0, none⟩) n cap4) (FrL s N x TL n)) := ⟨D4.to C b5, r2, ((r3.below b3).step o4 f4).below b5⟩
              have HW5 : Hid (w4.alloc (.cells #[.int .i64 0, .int .i64 0, .slice none 0 0] 41) = w5) := hw5
              clear D4 o4 f4 b3 z3 B3 hcap1 hbuf r1 r2 r3 hw5 b5 HR hcF
              go_upto_region 45 with fail
              rw [HW5.out]
              go_wp2_with fail
              go_roundg (gk - 1)
              case measure => have := HI.out; omega
              case rel => exact ⟨i + 1, U4, k4, by go_num, by have := HI.out; omega, HQ5.out⟩
            · have HF : Hid (Below w.heap.size w wr) := HR.out.1.below
              have hie : ¬ (i : Int) < (n : Int) := hin
              clear HR hik
              go_wp2_with fail
              go_ret
              exact ⟨rfl, HF.out⟩
        -- mark L5 end
end Go.Proofs.YtkpebabbnndopaaGreatDoor

/- Lists of strings, and of numbers with their bounds, among a law's arguments. -/
namespace Go.Proofs.YtkpebabbnndopaaGreatDoor
open Go.ChangeShapes Go.WideShapes Go.ChangeAt Go.RowKit

theorem spotNone {w : World} {a : Addr} {v : Value} (h : w.cell? a = some v) : a = ⟨a.block, a.off, none⟩ := by
  obtain ⟨b, o, s⟩ := a
  cases s with
  | none => rfl
  | some s =>
    unfold World.cell? at h
    split at h
    · simp at h
    · cases h
theorem addNone (b o i : Nat) : (⟨b, o, none⟩ : Addr).add i = ⟨b, o + i, none⟩ := by unfold Addr.add; split <;> simp_all
theorem strs_arg {H : Type} {enc : TypeId × Value → H} {W : World} {a0 : Option Addr} {len cap : Nat} {d : DataW H} {p : List MemPlace} (h : DataW.Trod enc Tryz.prog W 0 (fun _ => true) true 30 (.slice a0 len cap) d p) : ∃ tl : List ByteArray, tl.length = len ∧ StrsAt W a0 tl cap := by
  obtain ⟨fuel, hf⟩ := h
  rcases Go.Deep.open_strs Tryz.underlying30 Tryz.underlying9 (by kernel_rfl) hf with ⟨e, _⟩ | ⟨a, l, c, m, Sx, e, _, hle, _, hm, _, hcell⟩
  · simp [Value.cells] at e
    obtain ⟨rfl, rfl, rfl⟩ := e
    exact ⟨[], rfl, .inl ⟨rfl, rfl, rfl⟩⟩
  · simp [Value.cells] at e
    obtain ⟨rfl, rfl, rfl⟩ := e
    rw [if_pos rfl] at hm
    refine ⟨(List.range len).map Sx, by simp, .inr ⟨a, rfl, fun j hj => ?_⟩⟩
    have hj' : j < len := by simpa using hj
    rw [(hcell j (by omega)).1]
    simp
theorem nums_arg {H : Type} {enc : TypeId × Value → H} {W : World} {a0 : Option Addr} {len cap : Nat} {d : DataW H} {p : List MemPlace} (h : DataW.Trod enc Tryz.prog W 0 (fun _ => true) true 22 (.slice a0 len cap) d p) : ∃ ol : List Int, ol.length = len ∧ (ol = [] ∨ ∃ b o, a0 = some ⟨b, o, none⟩ ∧ b < W.heap.size ∧ ol.length ≤ cap ∧ ∀ j (hj : j < ol.length), W.cell? ⟨b, o + j, none⟩ = some (.int .i64 ol[j])) ∧ ∀ z, z ∈ ol → -9223372036854775808 ≤ z ∧ z ≤ 9223372036854775807 := by
  obtain ⟨fuel, hf⟩ := h
  rcases Go.ChangeShapes.open_ints Tryz.underlying22 Tryz.underlying3 (by kernel_rfl) hf with ⟨e, _⟩ | ⟨a, l, c, zs, e, _, hle, _, hzl, _, hcell, hwf⟩
  · simp [Value.cells] at e
    obtain ⟨rfl, rfl, rfl⟩ := e
    exact ⟨[], rfl, .inl rfl, fun z hz => by cases hz⟩
  · simp [Value.cells] at e
    obtain ⟨rfl, rfl, rfl⟩ := e
    rw [if_pos rfl] at hzl
    have hl : (zs.take len).length = len := by rw [List.length_take]; omega
    refine ⟨zs.take len, hl, ?_, fun z hz => Go.bounds_i64 (hwf z (List.mem_of_mem_take hz))⟩
    by_cases h0 : len = 0
    · exact .inl (by rw [h0]; rfl)
    · have h1 := hcell 0 (by omega)
      have ha := spotNone (show W.cell? a = _ from h1)
      have hb := block_lt_of_cell h1
      refine .inr ⟨a.block, a.off, by rw [← ha], hb, by omega, fun j hj => ?_⟩
      have h2 := hcell j (by omega)
      rw [ha, addNone] at h2
      rw [h2, List.getElem_take, List.getD_eq_getElem?_getD, List.getElem?_eq_getElem (by omega)]
      rfl
end Go.Proofs.YtkpebabbnndopaaGreatDoor

/- Comes. -/
namespace Go.Proofs.YtkpebabbnndopaaGreatDoor.comes
open Go.ChangeShapes Go.WideShapes Go.ChangeAt Go.RowKit
open Go.ChangeMaps (open_string shut_string)
set_option linter.unusedVariables false
theorem laid : laidOutB Tryz.prog = true := by kernel_rfl

set_option maxRecDepth 100000 in
theorem lifted (os : Os) (started : os.Started) (H : Type) (enc : TypeId × Value → H) :
    ReturnsInHanded {} Tryz.checked os 7 .any (fun w args => (Rows.comesSpec.pre enc Tryz.prog Tryz.f7 [] false w args ∧ laidMetH Tryz.prog [("errors.errorType", Rows.laid_errors_errorType)] w) ∧ sizedMet enc Tryz.prog Tryz.f7 (OpenSpec.ofChange Rows.comesSpec) false w args)
      (Rows.comesSpec.post enc Tryz.prog Tryz.f7 false true false false) := by
  refine returnsInHanded_of_change_and (C := Tryz.checked) (X := fun w _ => laidMetH Tryz.prog [("errors.errorType", Rows.laid_errors_errorType)] w) (fun _ _ _ hh h => h.of_heap hh) lpOwn started (by kernel_rfl) Tryz.func7
    (ChangeSpec.witness_at (enc := enc) (C := Tryz.checked) (os := os) (X := fun w _ => laidMetH Tryz.prog [("errors.errorType", Rows.laid_errors_errorType)] w) false ({ World.holding Tryz.prog os ⟨#[], #[], []⟩ with heap := (World.holding Tryz.prog os ⟨#[], #[], []⟩).heap.modify 0 fun
      | .cells _ t frozen => .cells #[errT] t frozen
      | o => o }) #[.string ByteArray.empty, .int .i64 0, .int .i64 0, .slice none 0 0, .slice none 0 0] 8 rfl (by kernel_rfl) (by kernel_rfl) (by kernel_rfl) (by kernel_rfl) (by kernel_rfl) (laidMetH_of_parts (laidMet_nil _ _) (by kernel_rfl))) ?_
  intro W base args ds gs before hval0 hW _ _ hL _
  have hG := glob_of_laid hL
  have hval : ∀ (j : Nat) t v, Tryz.f7.params[j]? = some t → args[j]? = some v → Value.okWide Tryz.prog W .any base t v := hval0
  have hW' := hW
  obtain ⟨p, q, hA0, hV0, rfl, hfz, hnd⟩ := hW
  have hV : DataW.TrodVars enc Tryz.prog W (fun _ => true) [] gs q := hV0
  have hA : DataW.TrodAll enc Tryz.prog W 0 (fun _ => true) true Tryz.f7.params.toList args.toList ds p := hA0
  rw [Tryz.params7] at hA hval
  obtain ⟨v0, vs0, d0, ds0, p0, q0, hargs, rfl, rfl, h0, r0⟩ := trodAll_cons hA
  obtain ⟨v1, vs1, d1, ds1, p1, q1, rfl, rfl, rfl, h1, r1⟩ := trodAll_cons r0
  obtain ⟨v2, vs2, d2, ds2, p2, q2, rfl, rfl, rfl, h2, r2⟩ := trodAll_cons r1
  obtain ⟨v3, vs3, d3, ds3, p3, q3, rfl, rfl, rfl, h3, r3⟩ := trodAll_cons r2
  obtain ⟨v4, vs4, d4, ds4, p4, q4, rfl, rfl, rfl, h4, r4⟩ := trodAll_cons r3
  obtain ⟨rfl, rfl, rfl⟩ := trodAll_nil r4
  obtain rfl : args = #[v0, v1, v2, v3, v4] := by cases args; simp_all
  obtain ⟨rfl, rfl⟩ := trodVars_none hV
  obtain ⟨a0, rfl, rfl, rfl, w0⟩ := open_string Tryz.underlying9 (hval 0 9 v0 rfl rfl) h0
  obtain ⟨a1, rfl, rfl, rfl, w1⟩ := open_int Tryz.underlying3 (hval 1 3 v1 rfl rfl) h1
  obtain ⟨a2, rfl, rfl, rfl, w2⟩ := open_int Tryz.underlying3 (hval 2 3 v2 rfl rfl) h2
  obtain ⟨a3, n3, c3, rfl⟩ := okWide_slice Tryz.underlying30 (hval 3 30 v3 rfl rfl)
  obtain ⟨l3, e3, s3⟩ := strs_arg h3
  subst e3
  obtain ⟨a4, n4, c4, rfl⟩ := okWide_slice Tryz.underlying22 (hval 4 22 v4 rfl rfl)
  obtain ⟨l4, e4, s4, t4⟩ := nums_arg h4
  subst e4
  have hlt : ∀ x, x ∈ p3 ++ (p4 ++ ([])) → x.block < W.heap.size := fun x hx => by simpa using hW'.lt x (by simpa using hx)
  refine (comes_walk code a0 a1 a2 a3 l3 c3 a4 l4 c4  (bounds_i64 w1).1 (bounds_i64 w1).2 (bounds_i64 w2).1 (bounds_i64 w2).2   W hG    s3 s4 t4).mono fun e W' ⟨he, hg⟩ => ?_
  subst he
  refine ⟨_, rfl, _, _, _, [], [] ++ ([] ++ ([] ++ (p3 ++ (p4 ++ ([]))))), [], hW', trodAll_mk1 (shut_bool Tryz.underlying4 _), ?_, rfl, hg.frame _, fun h => by cases h⟩
  exact (trodAll_cons_mk (shut_string Tryz.underlying9 w0) (trodAll_cons_mk (shut_int Tryz.underlying3 w1) (trodAll_cons_mk (shut_int Tryz.underlying3 w2) (trodAll_cons_mk (Below.trod laid (by kernel_rfl) (of_decide_eq_true (by kernel_rfl)) h3 hg (fun x hx => hlt x (List.mem_append_left _ hx))) (trodAll_cons_mk (Below.trod laid (by kernel_rfl) (of_decide_eq_true (by kernel_rfl)) h4 hg (fun x hx => hlt x (List.mem_append_right _ (List.mem_append_left _ hx)))) trodAll_mk0)))))

theorem over : Rows.comesRow.holds Tryz.pinned (OpenSpec.ofChange Rows.comesSpec) :=
  OpenClaim.holds_of_wide 7 Tryz.f7 rfl rfl rfl rfl rfl rfl rfl ⟨rfl, rfl, rfl, rfl, rfl⟩ rfl rfl rfl rfl rfl (by kernel_rfl) Tryz.func7 (by kernel_rfl)
    (of_decide_eq_true (by kernel_rfl)) (by unfold Func.isWrapper; first | (rw [if_pos (by decide +kernel)]; kernel_rfl) | (rw [if_neg (by decide +kernel)]; exact ⟨rfl, rfl⟩))
    (fun os started H enc _ => lifted os started H enc)

theorem proved : Rows.ComesSaid :=
  over
end Go.Proofs.YtkpebabbnndopaaGreatDoor.comes
namespace Go.Proofs.YtkpebabbnndopaaGreatDoor
open Go
theorem comes_holds : Rows.ComesCardSaid :=
  Claim7.holds_tied_plain_at .later [] [.handle] true _ true
    comes.proved (fun _ h => by cases h) (by kernel_rfl) (fun _ h => by cases h) comes_row_tie rfl ⟨rfl, rfl⟩ (by kernel_rfl) rfl
    (fun f fn hf hfn => by
      obtain rfl : f = 7 := Option.some.inj ((show Tryz.prog.funcNamed "epoch/epochkeep.Comes" = some 7 by kernel_rfl).symm.trans hf) |>.symm
      obtain rfl : fn = Tryz.f7 := (Option.some.inj (Tryz.func7.symm.trans hfn)).symm
      exact ⟨by kernel_rfl, fun j t ht => by
        rw [Tryz.params7] at ht
        rcases j with _ | _ | _ | _ | _ | j
        · obtain rfl : t = 9 := by simpa using ht.symm
          exact (show Tryz.prog.wantsStandIn 9 = false by kernel_rfl)
        · obtain rfl : t = 3 := by simpa using ht.symm
          exact (show Tryz.prog.wantsStandIn 3 = false by kernel_rfl)
        · obtain rfl : t = 3 := by simpa using ht.symm
          exact (show Tryz.prog.wantsStandIn 3 = false by kernel_rfl)
        · obtain rfl : t = 30 := by simpa using ht.symm
          exact (show Tryz.prog.wantsStandIn 30 = false by kernel_rfl)
        · obtain rfl : t = 22 := by simpa using ht.symm
          exact (show Tryz.prog.wantsStandIn 22 = false by kernel_rfl)
        · simp at ht⟩)
    (by kernel_rfl)
#print axioms comes_holds
end Go.Proofs.YtkpebabbnndopaaGreatDoor
