import Derived.Test.YtkpebabbnndopaaGreatDoorG09
import Derived.Test.YtkpebabbnndopaaGreatDoorG10
import Derived.Test.YtkpebabbnndopaaGreatDoorG05
import Derived.Laws.CopyOwn
/- Forged: the walk, of any program whose calls are as Code asks. -/
namespace Go.Proofs.YtkpebabbnndopaaGreatDoor
open Go.RowKit
set_option linter.unusedVariables false
set_option linter.unusedSimpArgs false

/-- a message that lies beside the groups -/
def MsgBuf (w : World) (U : List Nat) (f : Nat) (cs : Array Value) : Prop := w.heap[f]? = some (.cells cs 41 (0, 0)) ∧ f ∉ U
theorem MsgBuf.step {w w' : World} {U U' : List Nat} {f : Nat} {cs : Array Value} (h : MsgBuf w U f cs) (ho : Outside U w w') (hf : Fresh w U U') : MsgBuf w' U' f cs := by
  have hl : f < w.heap.size := (Array.getElem?_eq_some_iff.1 h.1).1
  refine ⟨by rw [ho.block f hl h.2]; exact h.1, fun hm => ?_⟩
  rcases hf f hm with e | e
  · exact h.2 e
  · omega
theorem MsgBuf.below {w w' : World} {U : List Nat} {f : Nat} {cs : Array Value} (h : MsgBuf w U f cs) (hb : Below w.heap.size w w') : MsgBuf w' U f cs := h.step (Outside.ofBelow hb) (Fresh.refl _ _)
theorem ItBuf.below {w w' : World} {U : List Nat} {p : Option Addr} {l : List It} {cap : Nat} (h : ItBuf w U p l cap) (hb : Below w.heap.size w w') : ItBuf w' U p l cap := h.step (Outside.ofBelow hb) (Fresh.refl _ _)
/-- a message that was laid down new -/
theorem msg_new {Rep : World → List Nat → Value → St → Nat → Prop} (C : Code Rep) {w0 w w' : World} {U : List Nat} {b c : Nat} {s1 s2 : St} {k1 k2 : Nat} (h : Duo Rep w0 w U b c s1 s2 k1 k2) {cs : Array Value} (e : w.alloc (.cells cs 41) = w') : Below w.heap.size w w' ∧ MsgBuf w' U w.heap.size cs := by
  subst e
  exact ⟨(Below.refl _ w).alloc (Nat.le_refl _) _, (MapKept.heap_alloc _ _).1, fun hm => by have := h.lt C _ hm; omega⟩
/-- an operation that may come up beside others -/
theorem stepR {P : Program} {ops : Array Oper} {Q : Exit → Act → World → Prop} {md : Region.Mode} {S : World → Prop} {i : Nat} {dst : Option Nat} {o : Op} {ty : TypeId} {pos : String} {af} {fuel : Nat} {listed : Array Bool} {a : Act} {w : World} {rs : List Nat} (hi : ops[i]? = some (Oper.mk dst o ty pos af none))
    (v : Value) (w' : World) (hrun : (execOp a.eval (Oper.mk dst o ty pos af none)).run P w = .ok (.value v) w') (hS : S w')
    (h : wpAnyH P md ops Q S fuel (listed.setIfInBounds i true) (a.put dst v) w') (hs : AllReadyH P md ops Q S fuel listed a w rs) : AllReadyH P md ops Q S fuel listed a w (i :: rs) := by
  refine AllReadyH.cons hi (fun K hK => ?_) hs
  rw [if_pos (by simp [Region.wanted])]
  unfold Oper.wp
  rw [hrun, Oper.upon_value]
  exact hK.out _ _ hS (fun _ => h)
/-- a store of one cell -/
theorem skip1 {P : Program} {ops : Array Oper} {Q : Exit → Act → World → Prop} {md : Region.Mode} {S : World → Prop} {i : Nat} {dst : Option Nat} {o : Op} {ty : TypeId} {pos : String} {af} {fuel : Nat} {listed : Array Bool} {a : Act} {w : World} (hr : Region.ready md ops listed = [i]) (hi : ops[i]? = some (Oper.mk dst o ty pos af none))
    (w' : World) (hrun : (execOp a.eval (Oper.mk dst o ty pos af none)).run P w = .ok .skip w') (hS : S w')
    (h : wpAnyH P md ops Q S fuel (listed.setIfInBounds i true) (a.put dst undef) w') : wpAnyH P md ops Q S (fuel + 1) listed a w := by
  refine wpAnyH_ready (rs := [i]) hr (by simp) (AllReadyH.cons hi (fun K hK => ?_) AllReadyH.nil)
  rw [if_pos (by simp [Region.wanted])]
  unfold Oper.wp
  rw [hrun, Oper.upon_skip]
  exact hK.out _ _ hS (fun _ => h)
theorem take_getD (l : List UInt8) (q i : Nat) (h : i < q) : (l.take q).getD i 0 = l.getD i 0 := by
  simp [List.getD_eq_getElem?_getD, List.getElem?_take, h]
theorem set_getD (l : List UInt8) (k i : Nat) (v : UInt8) (h : i < k) : (l.set k v).getD i 0 = l.getD i 0 := by
  rw [List.getD_eq_getElem?_getD, List.getElem?_set_ne (by omega), List.getD_eq_getElem?_getD]
/-- what was opened opens no more -/
theorem shut_err (s : Nat → Int) (N y : Nat) (c d : List UInt8) (he : (St.new s N y).unErr c = 0) (hd : d.length < 7 ∨ (unWho d = unWho c ∧ unGen d = unGen c)) : ((St.new s N y).unNext c).unErr d ≠ 0 := by
  have hp : (St.new s N y).unPre c = 0 := by
    unfold St.unErr at he
    by_cases hp : (St.new s N y).unPre c = 0
    · exact hp
    · rw [if_pos hp] at he; exact he
  obtain ⟨h1, h2, h3, h4, h5, h6, h7⟩ := unPre_zero hp
  have h4' : unWho c < N := h4
  have hm := unNew_m2 s N y c h4'
  have hq : ((St.new s N y).unNext c).unPre d ≠ 0 := fun h0 => by
    obtain ⟨g1, g2, g3, g4, g5, g6, g7⟩ := unPre_zero h0
    rcases hd with hd | ⟨e1, e2⟩
    · omega
    · rw [e1, e2, hm, if_pos rfl] at g6
      have h := g6 (show unGen c < unGen c + 1 by omega)
      have hx : unGen c ∈ overAll ⟨false, 0, []⟩ (unGen c) := List.mem_of_mem_drop (by rw [← unOver_eq]; exact h)
      unfold overAll at hx
      simp at hx
  unfold St.unErr
  rw [if_pos hq]
  exact hq
set_option maxHeartbeats 4000000 in
set_option maxRecDepth 20000 in
theorem forg_walk {Rep : World → List Nat → Value → St → Nat → Prop} (C : Code Rep) (root : ByteArray) (m a : Int) (words any : ByteArray) (at' by' cut : Int) (hm1 : -9223372036854775808 ≤ m) (hm2 : m ≤ 9223372036854775807) (ha1 : -9223372036854775808 ≤ a) (ha2 : a ≤ 9223372036854775807)
    (hx1 : -9223372036854775808 ≤ at') (hx2 : at' ≤ 9223372036854775807) (hy1 : -9223372036854775808 ≤ by') (hy2 : by' ≤ 9223372036854775807) (hz1 : -9223372036854775808 ≤ cut) (hz2 : cut ≤ 9223372036854775807) (w : World) (hG : Glob w) :
    Calls Tryz.prog 8 #[.string root, .int .i64 m, .int .i64 a, .string words, .string any, .int .i64 at', .int .i64 by', .int .i64 cut] w fun e w' => e = .returned (.bool true) ∧ Below w.heap.size w w' := by
  have hs := SecL_bd root.data.toList
  have HPR : Hid (Calls Tryz.prog 16 #[.string root, .int .i64 m, .int .i64 a] w fun e w' => Below w.heap.size w w' ∧ ∃ (N x y b c : Nat) (S T : List Nat), 2 ≤ N ∧ N ≤ 16 ∧ x < N ∧ y < N ∧ x ≠ y ∧ e = .returned (.tuple #[.pointer (some ⟨b, 0, none⟩), .pointer (some ⟨c, 0, none⟩), .int .i64 x]) ∧
      Rep w' S (.pointer (some ⟨b, 0, none⟩)) (St.new (SecL root.data.toList) N x) 0 ∧ Rep w' T (.pointer (some ⟨c, 0, none⟩)) (St.new (SecL root.data.toList) N y) 0 ∧ (∀ k, k ∈ S → w.heap.size ≤ k) ∧ (∀ k, k ∈ T → w.heap.size ≤ k) ∧ (∀ k, k ∈ S → k ∉ T)) := pair_any C root m a hm1 hm2 ha1 ha2 w
  obtain ⟨s, hse⟩ : ∃ s, SecL root.data.toList = s := ⟨_, rfl⟩
  rw [hse] at hs HPR
  have HGL : Hid (Glob w) := hG
  have HPA : Hid (∀ n : Nat, 1 ≤ n → n ≤ 1000000 → ∀ W, Calls Tryz.prog 19 #[.int .i64 at', .int .i64 n] W fun e w' => e = .returned (.int .i64 (PickI at' n)) ∧ w' = W) := fun n h1 h2 W => keepPick_any at' hx1 hx2 n h1 h2 W
  have HPB : Hid (∀ W, Calls Tryz.prog 19 #[.int .i64 by', .int .i64 255] W fun e w' => e = .returned (.int .i64 (PickI by' 255)) ∧ w' = W) := fun W => keepPick_any by' hy1 hy2 255 (by omega) (by omega) W
  have HPC : Hid (∀ n : Nat, 1 ≤ n → n ≤ 1000000 → ∀ W, Calls Tryz.prog 19 #[.int .i64 cut, .int .i64 n] W fun e w' => e = .returned (.int .i64 (PickI cut n)) ∧ w' = W) := fun n h1 h2 W => keepPick_any cut hz1 hz2 n h1 h2 W
  have HTX : Hid (∀ W, Calls Tryz.prog 18 #[.string words] W fun e w' => e = .returned (.string (TextB words)) ∧ w' = W) := text_any words
  have htl := TextB_le words
  obtain ⟨TX, hTX⟩ : ∃ TX, TextB words = TX := ⟨_, rfl⟩
  rw [hTX] at HTX htl
  have HE1 : Hid (TX.data.toList.length = TX.size ∧ TX.size ≤ 40) := ⟨Array.length_toList, htl⟩
  have HE2 : Hid (any.data.toList.length = any.size) := Array.length_toList
  clear hse hm1 hm2 ha1 ha2 hx1 hx2 hy1 hy2 hz1 hz2 hG hTX
  go_enter Tryz.func8, Tryz.ntmps8
  go_wp2_with fail
  refine HPR.out.mono ?_
  rintro e w1 ⟨b1, N, x, y, b, c, S, T, hN1, hN2, hx, hy, hxy, rfl, hr1, hr2, hS, hT, hd⟩
  have D1 : Hid (Duo Rep w w1 (S ++ T) b c (St.new s N x) (St.new s N y) 0 0) := duo_new C hs hN1 hN2 hx hy HGL.out b1 hr1 hr2 hS hT hd
  have HNX : Hid (1 ≤ N ∧ N ≤ 16 ∧ x < N ∧ y < N ∧ x ≠ y) := ⟨by omega, hN2, hx, hy, hxy⟩
  clear HPR b1 hr1 hr2 hS hT hd hN1 hN2 hx hy hxy htl
  go_wp2_with (first | (go_at_call 18; refine (HTX.out _).mono ?_; rintro e w' ⟨rfl, hw'⟩; rw [hw']; clear hw' w') | (refine wpList_bytes rfl _ rfl TX rfl ?_; intro cap1 w2 hcap1 b2 z2 B2))
  -- Protect
  have D2 : Duo Rep w w2 (S ++ T) b c (St.new s N x) (St.new s N y) 0 0 := D1.out.to C b2
  have hbuf : Buf w2 (S ++ T) (some ⟨w1.heap.size, 0, none⟩) TX.data.toList := Buf.new B2 (n := w1.heap.size) (fun b o e => by cases e; omega) (fun k hk => D1.out.lt C k hk)
  have hpe : (St.new s N x).protErr TX.data.toList.length = 0 := by
    unfold St.protErr
    rw [HE1.out.1, St.new_m, if_neg (by show ¬ false = true; simp), if_neg (by have := HE1.out.2; omega), if_neg (by simp)]
  have hP := D2.prot1 C (some ⟨w1.heap.size, 0, none⟩) TX.data.toList cap1 hbuf hpe
  have hfr : ((St.new s N x).frame TX.data.toList).length = TX.size + 7 := by
    unfold St.frame
    rw [List.length_append, SealT_length, HE1.out.1]
    show 3 + (TX.size + 4) = _
    omega
  rw [HE1.out.1, hfr] at hP
  refine hP.mono ?_
  clear hP hpe hbuf D2 b2 z2 B2 D1 hcap1
  obtain ⟨L, hL⟩ : ∃ L, (St.new s N x).frame TX.data.toList = L := ⟨_, rfl⟩
  rw [hL]
  obtain ⟨LL, hLL⟩ : ∃ LL, TX.size + 7 = LL := ⟨_, rfl⟩
  rw [hLL]
  rintro e w3 ⟨f, o, cap, rfl, U3, k3, D3, _, _, hk3, hcp, B3⟩
  have HL : Hid ((St.new s N x).frame TX.data.toList = L ∧ L.length = LL ∧ LL ≤ cap ∧ TX.size + 7 = LL) := ⟨hL, by rw [← hL, hfr]; exact hLL, hcp, hLL⟩
  have hL7 : (7 : Int) ≤ (LL : Int) := by omega
  have hL47 : (LL : Int) ≤ 47 := by have := HE1.out.2; omega
  obtain ⟨s1, hs1⟩ : ∃ s1, (St.new s N x).protNext = s1 := ⟨_, rfl⟩
  rw [hs1] at D3
  have HD3 : Hid (Duo Rep w w3 U3 b c s1 (St.new s N y) k3 0 ∧ Buf w3 U3 (some ⟨f, o, none⟩) L) := ⟨D3, B3⟩
  clear D3 B3 hL hs1 hcp hk3 hfr hLL
  go_wp2_with fail
  -- Dump
  have hD := HD3.out.1.dump2 C
  rw [new_dump_len] at hD
  refine hD.mono ?_
  clear hD
  obtain ⟨D0, hD0⟩ : ∃ D0, (St.new s N y).dump = D0 := ⟨_, rfl⟩
  have HD0 : Hid ((St.new s N y).dump = D0 ∧ D0.length = 1) := ⟨hD0, by rw [← hD0]; exact new_dump_len s N y⟩
  rw [hD0]
  clear hD0
  rintro e w4 ⟨dp, dc, rfl, U4, D4, o4, f4, I4⟩
  have HD4 : Hid (Duo Rep w w4 U4 b c s1 (St.new s N y) k3 0 ∧ Buf w4 U4 (some ⟨f, o, none⟩) L ∧ ItBuf w4 U4 dp D0 dc) := ⟨D4, HD3.out.2.step o4 f4, I4⟩
  clear D4 o4 f4 I4 HD3
  go_wp2_with (refine wpList_bytes rfl _ rfl any rfl ?_; intro cap5 w5 hcap5 b5 z5 B5)
  -- Unprotect, of any bytes
  have D5 : Duo Rep w w5 U4 b c s1 (St.new s N y) k3 0 := HD4.out.1.to C b5
  have hbuf : Buf w5 U4 (some ⟨w4.heap.size, 0, none⟩) any.data.toList := Buf.new B5 (n := w4.heap.size) (fun b o e => by cases e; omega) (fun k hk => HD4.out.1.lt C k hk)
  have hU := D5.unAny2 C (some ⟨w4.heap.size, 0, none⟩) any.data.toList cap5 (by rw [HE2.out]; exact hcap5) hbuf
  rw [HE2.out] at hU
  refine hU.mono ?_
  rintro e w6 ⟨X0, G0, p0, n0, cap0, N0, s3, rfl, U6, k6, D6, o6, f6, hor⟩
  have hmm := HD4.out
  have HM6 : Hid (Duo Rep w w6 U6 b c s1 s3 k3 k6 ∧ Buf w6 U6 (some ⟨f, o, none⟩) L ∧ ItBuf w6 U6 dp D0 dc) := ⟨D6, (hmm.2.1.below b5).step o6 f6, (hmm.2.2.below b5).step o6 f6⟩
  have HOR : Hid ((N0 ≠ 0 ∧ s3 = St.new s N y ∧ s3.dump = D0) ∨ (N0 = 0 ∧ s3.dump.length ≠ 1)) := by
    rcases hor with ⟨h1, h2, _⟩ | ⟨h1, h2, h3⟩
    · exact .inl ⟨h1, h2, by rw [h2]; exact HD0.out.1⟩
    · exact .inr ⟨h1, by rw [h2]; exact open_dump_len s N y HNX.out.1 HNX.out.2.1 HNX.out.2.2.2.1 _ h3⟩
  obtain ⟨w7, hw7⟩ : ∃ w7, w6.alloc (.cells #[.int .i64 X0, .int .i64 G0, .slice p0 n0 cap0] 41) = w7 := ⟨_, rfl⟩
  have HW7 : Hid (w6.alloc (.cells #[.int .i64 X0, .int .i64 G0, .slice p0 n0 cap0] 41) = w7) := hw7
  have HD7 : Hid (Duo Rep w w7 U6 b c s1 s3 k3 k6 ∧ Buf w7 U6 (some ⟨f, o, none⟩) L ∧ ItBuf w7 U6 dp D0 dc) := by
    have h := HM6.out
    have hb := (msg_new C h.1 hw7).1
    exact ⟨h.1.to C hb, h.2.1.below hb, h.2.2.below hb⟩
  clear hU hbuf D5 b5 z5 B5 hcap5 D6 o6 f6 hor hmm HM6 HD4 hw7
  go_upto_region 9 with fail
  rw [HW7.out]
  go_wp2_with fail
  refine (HD7.out.1.dump2 C).mono ?_
  rintro e w8 ⟨dp2, dc2, rfl, U8, D8, o8, f8, I8⟩
  have HD8 : Hid (Duo Rep w w8 U8 b c s1 s3 k3 k6 ∧ Buf w8 U8 (some ⟨f, o, none⟩) L ∧ ItBuf w8 U8 dp D0 dc) := ⟨D8, HD7.out.2.1.step o8 f8, HD7.out.2.2.step o8 f8⟩
  have hSA := same_any dp dp2 dc dc2 U8 U8 D0 s3.dump w8 HD8.out.2.2 I8 (by rw [HD0.out.2]; omega) (by
    rcases HOR.out with h | h
    · exact .inl h.2.2
    · exact .inr (by rw [HD0.out.2]; exact h.2))
  rw [HD0.out.2] at hSA
  have HSA : Hid (Calls Tryz.prog 22 #[.slice dp 1 dc, .slice dp2 s3.dump.length dc2] w8 fun e w' => ∃ B, e = .returned (.bool B) ∧ Below w8.heap.size w8 w' ∧ (s3.dump = D0 → B = true)) := hSA
  obtain ⟨dl, hdl⟩ : ∃ dl, s3.dump.length = dl := ⟨_, rfl⟩
  rw [hdl] at HSA ⊢
  clear D8 o8 f8 I8 HD7 HW7 hSA hdl
  go_wp2_with fail
  refine HSA.out.mono ?_
  rintro e w9 ⟨B, rfl, b9, hB⟩
  have HD9 : Hid (Duo Rep w w9 U8 b c s1 s3 k3 k6 ∧ Buf w9 U8 (some ⟨f, o, none⟩) L ∧ ItBuf w9 U8 dp D0 dc) := ⟨HD8.out.1.to C b9, HD8.out.2.1.below b9, HD8.out.2.2.below b9⟩
  have HF9 : Hid (Below w.heap.size w w9) := HD9.out.1.below
  have HBB : Hid (s3.dump = D0 → B = true) := hB
  clear HSA HD8 b9 hB
  rcases HOR.out with ⟨hn0, rfl, hsd⟩ | ⟨rfl, _⟩
  rotate_left
  · clear HOR HD9 HBB
    go_wp2_with fail
    go_ret
    exact ⟨rfl, HF9.out⟩
  obtain rfl := HBB.out hsd
  clear HOR HBB hsd HF9
  -- a copy
  have bA : Below w9.heap.size w9 (w9.alloc (.cells #[] 5)) := (Below.refl _ w9).alloc (Nat.le_refl _) _
  have hLc : ∀ i (h : i < L.length), (w9.alloc (.cells #[] 5)).cell? ⟨f, o + i, none⟩ = some (.int .u8 (L[i].toNat : Int)) := by
    rcases (HD9.out.2.1.below bA).1 with h | ⟨b', o', e, h⟩
    · have := HL.out.2.1; rw [h] at this; simp at this; omega
    · cases e; exact h
  obtain ⟨pc, capc, wC, hrun, hcc, bC, hpc, hpl, _, hrow⟩ := run_copy_bytes (w9.alloc (.cells #[] 5)) w9.heap.size f o cap L (by simp) (by have := HL.out.2.1; omega) (by have := HL.out; omega) hLc 34
  rw [HL.out.2.1] at hrun
  have HRUN : Hid ((Builtin.append_ #[34, 34] 34 #[.slice (some ⟨w9.heap.size, 0, none⟩) 0 0, .slice (some ⟨f, o, none⟩) LL cap]).run Tryz.prog (w9.alloc (.cells #[] 5)) = .ok (.slice (some ⟨pc, 0, none⟩) LL capc) wC) := hrun
  have HC1 : Hid (Below w9.heap.size w9 wC ∧ w9.heap.size ≤ pc ∧ wC.heap[pc]? = some (.cells (RowB L capc) 5 (0, 0)) ∧ LL ≤ capc) := by
    refine ⟨bA.trans (bC.mono bA.size), ?_, hrow (by have := HL.out.2.1; omega), by have := HL.out.2.1; omega⟩
    have := bA.size
    rcases hpc with e | e <;> omega
  clear bA hLc hrun hcc bC hpc hpl hrow
  have hpk := PickI_lt at' (LL - 3) (by omega)
  have HP1 : Hid (∀ W, Calls Tryz.prog 19 #[.int .i64 at', .int .i64 ((LL : Int) - 3)] W fun e w' => e = .returned (.int .i64 (PickI at' (LL - 3))) ∧ w' = W) := fun W => by
    have h := HPA.out (LL - 3) (by omega) (by omega) W
    have e : ((LL - 3 : Nat) : Int) = (LL : Int) - 3 := by omega
    rw [e] at h
    exact h
  obtain ⟨k0, hk0⟩ : ∃ k0, PickI at' (LL - 3) = k0 := ⟨_, rfl⟩
  rw [hk0] at hpk HP1
  obtain ⟨KK, hKK⟩ : ∃ KK : Nat, 3 + k0 = KK := ⟨_, rfl⟩
  have hK3 : 3 + (k0 : Int) = (KK : Int) := by omega
  have HKK : Hid (3 ≤ KK ∧ KK < LL) := by constructor <;> omega
  have hKl : (KK : Int) < (LL : Int) := by have := HKK.out; omega
  clear hk0 HPA hpk hKK
  go_upto_region 17 with (first | (at_builtin; refine wpList_app rfl _ _ 34 34 rfl rfl _ _ _ _ rfl rfl HRUN.out ?_) | (go_at_call 19; refine (HP1.out _).mono ?_; rintro e w' ⟨rfl, hw'⟩; rw [hw']; clear hw' w'))
  have hpb := PickI_lt by' 255 (by omega)
  obtain ⟨pb, hpbe⟩ : ∃ pb, PickI by' 255 = pb := ⟨_, rfl⟩
  rw [hpbe] at HPB hpb
  have hpbi : (pb : Int) < 255 := by omega
  obtain ⟨V0, hV0⟩ : ∃ V0 : UInt8, (RowB L capc)[KK]? = some (.int .u8 (V0.toNat : Int)) := ⟨_, RowB_at L capc KK (by have := HL.out.2.1; have := HKK.out; omega)⟩
  obtain ⟨v0, hv0⟩ : ∃ v0 : Int, (V0.toNat : Int) = v0 := ⟨_, rfl⟩
  have hld : wC.drew.cell? ⟨pc, KK, none⟩ = some (.int .u8 v0) := by
    rw [show wC.drew.cell? ⟨pc, KK, none⟩ = wC.cell? ⟨pc, KK, none⟩ from rfl, cell_of_row _ _ _ _ _ _ HC1.out.2.2.1, hV0, hv0]
  have hfz : wC.frozen? ⟨pc, KK, none⟩ = false := (row_facts' HC1.out.2.2.1).2 KK
  obtain ⟨VU, hVU⟩ : ∃ VU : UInt8, XB V0 (1 + (pb : Int)) = VU := ⟨_, rfl⟩
  obtain ⟨RV, hRV⟩ : ∃ RV : Int, (VU.toNat : Int) = RV := ⟨_, rfl⟩
  have HX8 : Hid (IntKind.i64.wrap (1 + (pb : Int)) = 1 + (pb : Int)) := by rw [IntKind.wrap_i64]; show _ = _; omega
  have HX9 : Hid (IntKind.u8.wrap (1 + (pb : Int)) = 1 + (pb : Int)) := by show _ = _; rw [IntKind.wrap_u8]; omega
  have HX10 : Hid (bits BinOp.xor IntKind.u8 v0 (1 + (pb : Int)) = RV) := by show _ = _; rw [← hv0, XB_toNat V0 _ (by omega) (by omega), hVU, hRV]
  obtain ⟨wD, hwD⟩ : ∃ wD, (wC.setCell ⟨pc, KK, none⟩ (.int .u8 RV)).drew = wD := ⟨_, rfl⟩
  have HWD : Hid ((wC.setCell ⟨pc, KK, none⟩ (.int .u8 RV)).drew = wD) := hwD
  have HD10 : Hid (Below w9.heap.size w9 wD ∧ w9.heap.size ≤ pc ∧ wD.heap[pc]? = some (.cells (RowB (L.set KK VU) capc) 5 (0, 0)) ∧ LL ≤ capc) := by
    obtain ⟨c1, c2, c3, c4⟩ := HC1.out
    refine ⟨?_, c2, ?_, c4⟩
    · rw [← hwD]; exact (c1.setCell (p := ⟨pc, KK, none⟩) c2 _).drew
    · rw [← hwD, ← hRV]
      have h := setRow_heap wC pc _ ((RowB L capc).setIfInBounds KK (.int .u8 (VU.toNat : Int))) _ _ c3
      rw [← setCell_eq_setRow wC pc KK _ _ _ _ c3, RowB_put L capc KK VU (by have := HL.out.2.1; have := HKK.out; omega)] at h
      exact h
  clear hpb hpbe hV0 hv0 HRUN HP1 hVU hRV hwD HC1 hpbi
  go_cut [104] (fun s104 wy => s104 = .int .u8 RV ∧ wy = wD)
  case first =>
    refine wp_region_held_drew (S := fun W => True) (by kernel_rfl) trivial (fun hHeld => ?_)
    change wpAnyH _ _ _ _ _ 13 _ _ _
    refine take1 (i := 0) (v := .slice (some ⟨pc, 0, none⟩) LL capc) rfl (by kernel_rfl) (by kernel_rfl) (by kernel_rfl) (fun _ _ _ h => h) hHeld (fun W hS => (by clear hHeld; go_simp)) ?_
    simp only [Act.put, List.setIfInBounds_toArray, List.set_cons_zero, List.set_cons_succ]
    refine take1 (i := 1) (v := .int .i64 KK) rfl (by kernel_rfl) (by kernel_rfl) (by kernel_rfl) (fun _ _ _ h => h) hHeld (fun W hS => (by clear hHeld; go_simp)) ?_
    simp only [Act.put, List.setIfInBounds_toArray, List.set_cons_zero, List.set_cons_succ]
    refine take1 (i := 2) (v := .slice (some ⟨pc, 0, none⟩) LL capc) rfl (by kernel_rfl) (by kernel_rfl) (by kernel_rfl) (fun _ _ _ h => h) hHeld (fun W hS => (by clear hHeld; go_simp)) ?_
    simp only [Act.put, List.setIfInBounds_toArray, List.set_cons_zero, List.set_cons_succ]
    refine take1 (i := 3) (v := .int .i64 KK) rfl (by kernel_rfl) (by kernel_rfl) (by kernel_rfl) (fun _ _ _ h => h) hHeld (fun W hS => (by clear hHeld; go_simp)) ?_
    simp only [Act.put, List.setIfInBounds_toArray, List.set_cons_zero, List.set_cons_succ]
    refine take1 (i := 4) (v := .pointer (some ⟨pc, KK, none⟩)) rfl (by kernel_rfl) (by kernel_rfl) (by kernel_rfl) (fun _ _ _ h => h) hHeld (fun W hS => (by clear hHeld; go_simp)) ?_
    simp only [Act.put, List.setIfInBounds_toArray, List.set_cons_zero, List.set_cons_succ]
    refine take1 (i := 6) (v := .int .i64 by') rfl (by kernel_rfl) (by kernel_rfl) (by kernel_rfl) (fun _ _ _ h => h) hHeld (fun W hS => (by clear hHeld; go_simp)) ?_
    simp only [Act.put, List.setIfInBounds_toArray, List.set_cons_zero, List.set_cons_succ]
    refine wpAnyH_ready (rs := [5, 7]) (by kernel_rfl) (by simp) ?_
    refine stepR (i := 5) rfl (.int .u8 v0) wC.drew (by clear hHeld; go_simp) trivial ?_ (callR (i := 7) rfl (f := 19) (args := #[.int .i64 by', .int .i64 255]) (by clear hHeld; go_simp) (R := fun v W => v = .int .i64 pb ∧ W = wC.drew) ((HPB.out _).mono fun e w' ⟨h1, h2⟩ => ⟨_, h1, rfl, h2⟩) (fun v W _ => trivial) (fun v W hvW => ?_) AllReadyH.nil)
    · simp only [Act.put, List.setIfInBounds_toArray, List.set_cons_zero, List.set_cons_succ]
      refine call1 (i := 7) (by kernel_rfl) rfl (f := 19) (args := #[.int .i64 by', .int .i64 255]) (by clear hHeld; go_simp) (R := fun v W => v = .int .i64 pb ∧ W = wC.drew) ((HPB.out _).mono fun e w' ⟨h1, h2⟩ => ⟨_, h1, rfl, h2⟩) (fun v W _ => trivial) (fun v W hvW => ?_)
      obtain ⟨rfl, rfl⟩ := hvW
      simp only [Act.put, List.setIfInBounds_toArray, List.set_cons_zero, List.set_cons_succ]
      refine take1 (i := 8) (v := .int .i64 (1 + (pb : Int))) rfl (by kernel_rfl) (by kernel_rfl) (by kernel_rfl) (fun _ _ _ h => h) hHeld (fun W hS => (by clear hHeld; go_simp <;> exact HX8.out)) ?_
      simp only [Act.put, List.setIfInBounds_toArray, List.set_cons_zero, List.set_cons_succ]
      refine take1 (i := 9) (v := .int .u8 (1 + (pb : Int))) rfl (by kernel_rfl) (by kernel_rfl) (by kernel_rfl) (fun _ _ _ h => h) hHeld (fun W hS => (by clear hHeld; go_simp <;> exact HX9.out)) ?_
      simp only [Act.put, List.setIfInBounds_toArray, List.set_cons_zero, List.set_cons_succ]
      refine take1 (i := 10) (v := .int .u8 RV) rfl (by kernel_rfl) (by kernel_rfl) (by kernel_rfl) (fun _ _ _ h => h) hHeld (fun W hS => (by clear hHeld; go_simp <;> exact HX10.out)) ?_
      simp only [Act.put, List.setIfInBounds_toArray, List.set_cons_zero, List.set_cons_succ]
      refine take1 (i := 11) (v := .pointer (some ⟨pc, KK, none⟩)) rfl (by kernel_rfl) (by kernel_rfl) (by kernel_rfl) (fun _ _ _ h => h) hHeld (fun W hS => (by clear hHeld; go_simp)) ?_
      simp only [Act.put, List.setIfInBounds_toArray, List.set_cons_zero, List.set_cons_succ]
      refine skip1 (i := 12) (by kernel_rfl) rfl wD (by clear hHeld; go_simp <;> exact HWD.out) trivial ?_
      refine wpAnyH_done (by kernel_rfl) ?_ _
      go_wp2_with fail
      go_meet
      exact ⟨rfl, rfl⟩
    · obtain ⟨rfl, rfl⟩ := hvW
      simp only [Act.put, List.setIfInBounds_toArray, List.set_cons_zero, List.set_cons_succ]
      refine take1 (i := 8) (v := .int .i64 (1 + (pb : Int))) rfl (by kernel_rfl) (by kernel_rfl) (by kernel_rfl) (fun _ _ _ h => h) hHeld (fun W hS => (by clear hHeld; go_simp <;> exact HX8.out)) ?_
      simp only [Act.put, List.setIfInBounds_toArray, List.set_cons_zero, List.set_cons_succ]
      refine take1 (i := 9) (v := .int .u8 (1 + (pb : Int))) rfl (by kernel_rfl) (by kernel_rfl) (by kernel_rfl) (fun _ _ _ h => h) hHeld (fun W hS => (by clear hHeld; go_simp <;> exact HX9.out)) ?_
      simp only [Act.put, List.setIfInBounds_toArray, List.set_cons_zero, List.set_cons_succ]
      refine step1 (i := 5) (by kernel_rfl) rfl (.int .u8 v0) wC.drew (by clear hHeld; go_simp) trivial ?_
      simp only [Act.put, List.setIfInBounds_toArray, List.set_cons_zero, List.set_cons_succ]
      refine take1 (i := 10) (v := .int .u8 RV) rfl (by kernel_rfl) (by kernel_rfl) (by kernel_rfl) (fun _ _ _ h => h) hHeld (fun W hS => (by clear hHeld; go_simp <;> exact HX10.out)) ?_
      simp only [Act.put, List.setIfInBounds_toArray, List.set_cons_zero, List.set_cons_succ]
      refine take1 (i := 11) (v := .pointer (some ⟨pc, KK, none⟩)) rfl (by kernel_rfl) (by kernel_rfl) (by kernel_rfl) (fun _ _ _ h => h) hHeld (fun W hS => (by clear hHeld; go_simp)) ?_
      simp only [Act.put, List.setIfInBounds_toArray, List.set_cons_zero, List.set_cons_succ]
      refine skip1 (i := 12) (by kernel_rfl) rfl wD (by clear hHeld; go_simp <;> exact HWD.out) trivial ?_
      refine wpAnyH_done (by kernel_rfl) ?_ _
      go_wp2_with fail
      go_meet
      exact ⟨rfl, rfl⟩
  case rest =>
    obtain ⟨rfl, hwc⟩ := hcut
    rw [hwc]
    clear hwc HWD HX8 HX9 HX10 hld hfz HPB
    go_wp2_with fail
    -- Unprotect, of the turned frame
    obtain ⟨bD, hpc9, hrowD, hcapc⟩ := HD10.out
    have D10 : Duo Rep w wD U8 b c s1 (St.new s N y) k3 k6 := HD9.out.1.to C bD
    have hbuf : Buf wD U8 (some ⟨pc, 0, none⟩) (L.set KK VU) := Buf.new (bts_of_row hrowD) (n := w9.heap.size) (fun b o e => by cases e; exact ⟨hpc9, (Array.getElem?_eq_some_iff.1 hrowD).1⟩) (fun k hk => HD9.out.1.lt C k hk)
    have hU := D10.unAny2 C (some ⟨pc, 0, none⟩) (L.set KK VU) capc (by rw [List.length_set, HL.out.2.1]; exact hcapc) hbuf
    rw [List.length_set, HL.out.2.1] at hU
    refine hU.mono ?_
    rintro e w11 ⟨X1, G1, p1, n1, cap11, N1, s4, rfl, U11, k11, D11, o11, f11, hor⟩
    have hmm := HD9.out
    have HM11 : Hid (Duo Rep w w11 U11 b c s1 s4 k3 k11 ∧ Buf w11 U11 (some ⟨f, o, none⟩) L ∧ ItBuf w11 U11 dp D0 dc) := ⟨D11, (hmm.2.1.below bD).step o11 f11, (hmm.2.2.below bD).step o11 f11⟩
    have HOR1 : Hid ((N1 ≠ 0 ∧ s4 = St.new s N y ∧ n1 = 0) ∨ (N1 = 0 ∧ s4 = (St.new s N y).unNext (L.set KK VU) ∧ (St.new s N y).unErr (L.set KK VU) = 0)) := hor
    obtain ⟨w12, hw12⟩ : ∃ w12, w11.alloc (.cells #[.int .i64 X1, .int .i64 G1, .slice p1 n1 cap11] 41) = w12 := ⟨_, rfl⟩
    have HW12 : Hid (w11.alloc (.cells #[.int .i64 X1, .int .i64 G1, .slice p1 n1 cap11] 41) = w12) := hw12
    have HD12 : Hid (Duo Rep w w12 U11 b c s1 s4 k3 k11 ∧ Buf w12 U11 (some ⟨f, o, none⟩) L ∧ ItBuf w12 U11 dp D0 dc ∧ MsgBuf w12 U11 w11.heap.size #[.int .i64 X1, .int .i64 G1, .slice p1 n1 cap11]) := by
      have h := HM11.out
      obtain ⟨hb, hm⟩ := msg_new C h.1 hw12
      exact ⟨h.1.to C hb, h.2.1.below hb, h.2.2.below hb, hm⟩
    obtain ⟨bm, hbm⟩ : ∃ bm, w11.heap.size = bm := ⟨_, rfl⟩
    have HBM : Hid (w11.heap.size = bm) := hbm
    have HBM2 : Hid (w.heap.size ≤ bm) := by rw [← hbm]; exact D11.below.size
    rw [hbm] at HD12
    clear hU hbuf D10 D11 o11 f11 hor hmm HM11 HD9 hw12 bD hpc9 hrowD hcapc HD10 hbm
    go_upto_region 19 with fail
    rw [HW12.out, HBM.out]
    -- a piece
    have hqk := PickI_lt cut LL (by omega)
    have HP1 : Hid (∀ W, Calls Tryz.prog 19 #[.int .i64 cut, .int .i64 LL] W fun e w' => e = .returned (.int .i64 (PickI cut LL)) ∧ w' = W) := fun W => HPC.out LL (by omega) (by omega) W
    obtain ⟨q, hq⟩ : ∃ q, PickI cut LL = q := ⟨_, rfl⟩
    rw [hq] at hqk HP1
    have hqI : (q : Int) ≤ (cap : Int) := by have := HL.out.2.2.1; omega
    have bA : Below w12.heap.size w12 (w12.alloc (.cells #[] 5)) := (Below.refl _ w12).alloc (Nat.le_refl _) _
    have htl : (L.take q).length = q := by rw [List.length_take, HL.out.2.1]; omega
    have hLc : ∀ i (h : i < (L.take q).length), (w12.alloc (.cells #[] 5)).cell? ⟨f, o + i, none⟩ = some (.int .u8 ((L.take q)[i].toNat : Int)) := by
      rcases (HD12.out.2.1.below bA).1 with h | ⟨b', o', e, h⟩
      · have := HL.out.2.1; rw [h] at this; simp at this; omega
      · cases e
        intro i hi
        rw [h i (by have := HL.out.2.1; omega)]
        simp
    obtain ⟨pd, capd, wE, hrun, hcc, bC, hpc, hpl, hbt, _⟩ := run_copy_bytes (w12.alloc (.cells #[] 5)) w12.heap.size f o cap (L.take q) (by simp) (by omega) (by have := HL.out; omega) hLc 34
    rw [htl] at hrun hcc
    have HRUN : Hid ((Builtin.append_ #[34, 34] 34 #[.slice (some ⟨w12.heap.size, 0, none⟩) 0 0, .slice (some ⟨f, o, none⟩) q cap]).run Tryz.prog (w12.alloc (.cells #[] 5)) = .ok (.slice (some ⟨pd, 0, none⟩) q capd) wE) := hrun
    have bE : Below w12.heap.size w12 wE := bA.trans (bC.mono bA.size)
    have hbuf : Buf wE U11 (some ⟨pd, 0, none⟩) (L.take q) := Buf.new hbt (n := w12.heap.size) (fun b o e => by cases e; exact ⟨by have := bA.size; rcases hpc with e | e <;> omega, hpl⟩) (fun k hk => HD12.out.1.lt C k hk)
    have HD13 : Hid (Duo Rep w wE U11 b c s1 s4 k3 k11 ∧ Buf wE U11 (some ⟨f, o, none⟩) L ∧ ItBuf wE U11 dp D0 dc ∧ MsgBuf wE U11 bm #[.int .i64 X1, .int .i64 G1, .slice p1 n1 cap11] ∧ Buf wE U11 (some ⟨pd, 0, none⟩) (L.take q) ∧ q ≤ capd ∧ (L.take q).length = q ∧ q < LL) := by
      obtain ⟨h1, h2, h3, h4⟩ := HD12.out
      exact ⟨h1.to C bE, h2.below bE, h3.below bE, h4.below bE, hbuf, hcc, htl, hqk⟩
    clear bA hLc hrun hcc bC hpc hpl hbt bE hbuf HD12 HPC hq HW12 htl hqk HBM
    go_wp2_with (first | (at_builtin; refine wpList_app rfl _ _ 34 34 rfl rfl _ _ _ _ rfl rfl HRUN.out ?_) | (go_at_call 19; refine (HP1.out _).mono ?_; rintro e w' ⟨rfl, hw'⟩; rw [hw']; clear hw' w'))
    -- Unprotect, of the piece
    obtain ⟨h13a, h13b, h13c, h13d, h13e, h13f, h13g, h13h⟩ := HD13.out
    have hU := h13a.unAny2 C (some ⟨pd, 0, none⟩) (L.take q) capd (by rw [h13g]; exact h13f) h13e
    rw [h13g] at hU
    refine hU.mono ?_
    rintro e w14 ⟨X2, G2, p2, n2, cap14, N2, s5, rfl, U14, k14, D14, o14, f14, hor⟩
    have HM14 : Hid (Duo Rep w w14 U14 b c s1 s5 k3 k14 ∧ Buf w14 U14 (some ⟨f, o, none⟩) L ∧ ItBuf w14 U14 dp D0 dc ∧ MsgBuf w14 U14 bm #[.int .i64 X1, .int .i64 G1, .slice p1 n1 cap11]) := ⟨D14, h13b.step o14 f14, h13c.step o14 f14, h13d.step o14 f14⟩
    have HOR2 : Hid ((N1 ≠ 0 ∧ N2 ≠ 0 ∧ n1 = 0 ∧ n2 = 0 ∧ s5 = St.new s N y ∧ s5.dump = D0) ∨ ((N1 = 0 ∨ (N1 ≠ 0 ∧ N2 = 0)) ∧ s5.dump.length ≠ 1)) := by
      obtain ⟨k1, k2, k3, k4, k5⟩ := HNX.out
      rcases HOR1.out with ⟨a1, a2, a3⟩ | ⟨a1, a2, a3⟩
      · rcases hor with ⟨b1, b2, b3⟩ | ⟨b1, b2, b3⟩
        · exact .inl ⟨a1, b1, a3, b3, by rw [b2, a2], by rw [b2, a2]; exact HD0.out.1⟩
        · rw [a2] at b2 b3
          exact .inr ⟨.inr ⟨a1, b1⟩, by rw [b2]; exact open_dump_len s N y k1 k2 k4 _ b3⟩
      · rcases hor with ⟨b1, b2, b3⟩ | ⟨b1, b2, b3⟩
        · exact .inr ⟨.inl a1, by rw [b2, a2]; exact open_dump_len s N y k1 k2 k4 _ a3⟩
        · exfalso
          rw [a2] at b3
          refine shut_err s N y _ _ a3 ?_ b3
          by_cases h7 : q < 7
          · exact .inl (by rw [h13g]; exact h7)
          · have g3 := HKK.out.1
            right
            unfold unWho unGen
            rw [take_getD L q 0 (by omega), take_getD L q 1 (by omega), take_getD L q 2 (by omega), set_getD L KK 0 VU (by omega), set_getD L KK 1 VU (by omega), set_getD L KK 2 VU (by omega)]
            exact ⟨rfl, rfl⟩
    obtain ⟨w15, hw15⟩ : ∃ w15, w14.alloc (.cells #[.int .i64 X2, .int .i64 G2, .slice p2 n2 cap14] 41) = w15 := ⟨_, rfl⟩
    have HW15 : Hid (w14.alloc (.cells #[.int .i64 X2, .int .i64 G2, .slice p2 n2 cap14] 41) = w15) := hw15
    have HD15 : Hid (Duo Rep w w15 U14 b c s1 s5 k3 k14 ∧ Buf w15 U14 (some ⟨f, o, none⟩) L ∧ ItBuf w15 U14 dp D0 dc ∧ MsgBuf w15 U14 bm #[.int .i64 X1, .int .i64 G1, .slice p1 n1 cap11] ∧ MsgBuf w15 U14 w14.heap.size #[.int .i64 X2, .int .i64 G2, .slice p2 n2 cap14]) := by
      have h := HM14.out
      obtain ⟨hb, hm⟩ := msg_new C h.1 hw15
      exact ⟨h.1.to C hb, h.2.1.below hb, h.2.2.1.below hb, h.2.2.2.below hb, hm⟩
    obtain ⟨bp, hbp⟩ : ∃ bp, w14.heap.size = bp := ⟨_, rfl⟩
    have HBP : Hid (w14.heap.size = bp) := hbp
    rw [hbp] at HD15
    clear hU D14 o14 f14 hor HM14 hw15 hbp HD13 h13a h13b h13c h13d h13e h13f h13g h13h HOR1 HP1 HRUN HKK hqI
    go_upto_region 21 with fail
    rw [HW15.out, HBP.out]
    go_wp2_with fail
    refine (HD15.out.1.dump2 C).mono ?_
    rintro e w16 ⟨dp3, dc3, rfl, U16, D16, o16, f16, I16⟩
    have HD16 : Hid (Duo Rep w w16 U16 b c s1 s5 k3 k14 ∧ Buf w16 U16 (some ⟨f, o, none⟩) L ∧ ItBuf w16 U16 dp D0 dc ∧ MsgBuf w16 U16 bm #[.int .i64 X1, .int .i64 G1, .slice p1 n1 cap11] ∧ MsgBuf w16 U16 bp #[.int .i64 X2, .int .i64 G2, .slice p2 n2 cap14]) := by
      obtain ⟨h1, h2, h3, h4, h5⟩ := HD15.out
      exact ⟨D16, h2.step o16 f16, h3.step o16 f16, h4.step o16 f16, h5.step o16 f16⟩
    have hSA := same_any dp dp3 dc dc3 U16 U16 D0 s5.dump w16 HD16.out.2.2.1 I16 (by rw [HD0.out.2]; omega) (by
      rcases HOR2.out with h | h
      · exact .inl h.2.2.2.2.2
      · exact .inr (by rw [HD0.out.2]; exact h.2))
    rw [HD0.out.2] at hSA
    have HSA : Hid (Calls Tryz.prog 22 #[.slice dp 1 dc, .slice dp3 s5.dump.length dc3] w16 fun e w' => ∃ B, e = .returned (.bool B) ∧ Below w16.heap.size w16 w' ∧ (s5.dump = D0 → B = true)) := hSA
    obtain ⟨dl2, hdl2⟩ : ∃ dl2, s5.dump.length = dl2 := ⟨_, rfl⟩
    rw [hdl2] at HSA ⊢
    clear D16 o16 f16 I16 HD15 HW15 hSA hdl2 HBP
    go_wp2_with fail
    refine HSA.out.mono ?_
    rintro e w17 ⟨B2, rfl, b17, hB⟩
    have HD17 : Hid (Duo Rep w w17 U16 b c s1 s5 k3 k14 ∧ Buf w17 U16 (some ⟨f, o, none⟩) L ∧ MsgBuf w17 U16 bm #[.int .i64 X1, .int .i64 G1, .slice p1 n1 cap11] ∧ MsgBuf w17 U16 bp #[.int .i64 X2, .int .i64 G2, .slice p2 n2 cap14]) := by
      obtain ⟨h1, h2, h3, h4, h5⟩ := HD16.out
      exact ⟨h1.to C b17, h2.below b17, h4.below b17, h5.below b17⟩
    have HF17 : Hid (Below w.heap.size w w17) := HD17.out.1.below
    have HBB : Hid (s5.dump = D0 → B2 = true) := hB
    clear HSA HD16 b17 hB
    rcases HOR2.out with ⟨hn1, hn2, rfl, rfl, rfl, hsd⟩ | ⟨rfl | ⟨hn1, rfl⟩, _⟩
    rotate_left
    · clear HOR2 HD17 HBB
      go_wp2_with fail
      go_ret
      exact ⟨rfl, HF17.out⟩
    · clear HOR2 HD17 HBB
      go_wp2_with fail
      go_ret
      exact ⟨rfl, HF17.out⟩
    obtain rfl := HBB.out hsd
    have hc1 := (row_facts' HD17.out.2.2.1.1).1
    have hc2 := (row_facts' HD17.out.2.2.2.1).1
    have he1 : (N1 == 0) = false := by simpa using hn1
    have he2 : (N2 == 0) = false := by simpa using hn2
    clear HOR2 HBB hsd HF17 hn1 hn2
    go_wp2_with fail
    -- Unprotect, of the frame itself
    have hfu := frame_un (s1 := St.new s N x) (s2 := St.new s N y) rfl rfl (by have := HNX.out; show x < 16; omega) (by rw [St.new_m]; show (0 : Nat) ≤ 65535; omega) TX.data.toList
    have hfe := first_err s N x y HNX.out.2.1 HNX.out.2.2.1 HNX.out.2.2.2.2 TX.data.toList (by have := HE1.out; omega)
    rw [HL.out.1] at hfu hfe
    have hU := HD17.out.1.un2 C (some ⟨f, o, none⟩) L cap (by rw [HL.out.2.1]; exact HL.out.2.2.1) HD17.out.2.1 hfe (HD17.out.1.ok2.unNext (by rw [hfu.1]; exact HNX.out.2.2.1))
    rw [hfu.2.2.2.2, HL.out.2.1, show LL - 7 = TX.size by have := HL.out.2.2.2; omega] at hU
    refine hU.mono ?_
    clear hU hfe
    obtain ⟨WH, hWH⟩ : ∃ WH : Int, (unWho L : Int) = WH := ⟨_, rfl⟩
    obtain ⟨GE, hGE⟩ : ∃ GE : Int, (unGen L : Int) = GE := ⟨_, rfl⟩
    rw [hWH, hGE]
    rintro e w18 ⟨f2, o2, cap2, rfl, U18, k18, D18, o18, f18, hcp2, B18⟩
    have hM := HD17.out.2.2.1.step o18 f18
    obtain ⟨w19, hw19⟩ : ∃ w19, w18.setRow bm #[.int .i64 WH, .int .i64 GE, .slice (some ⟨f2, o2, none⟩) TX.size cap2] = w19 := ⟨_, rfl⟩
    have hr19 : w19.heap[bm]? = some (.cells #[.int .i64 WH, .int .i64 GE, .slice (some ⟨f2, o2, none⟩) TX.size cap2] 41 (0, 0)) := by rw [← hw19]; exact setRow_heap _ _ _ _ _ _ hM.1
    have c19 := (row_facts' hr19).1
    have hne : ∀ k : Nat, k ≠ bm → w19.heap[k]? = w18.heap[k]? := fun k hk => by rw [← hw19]; exact setRow_other _ _ _ _ hk
    have B19 : Bts w19 (some ⟨f2, o2, none⟩) TX.data.toList := by
      rcases B18.1 with h | ⟨b', o', e, h⟩
      · exact .inl h
      · cases e
        by_cases h0 : TX.data.toList.length = 0
        · exact .inl (List.length_eq_zero_iff.1 h0)
        · refine .inr ⟨f2, o2, rfl, fun i hi => ?_⟩
          have hb : f2 ≠ bm := fun e => by
            have h1 := h 0 (by omega)
            rw [e, cell_of_row _ _ _ _ _ _ hM.1] at h1
            generalize o2 + 0 = z at h1
            rcases z with _ | _ | _ | z <;> simp at h1
          rw [← h i hi]
          exact World.cell?_of_block (w := w18) (hne f2 hb)
    have hct : ∀ n, (convert 34 9 (.slice (some ⟨f2, o2, none⟩) TX.size cap2)).run Tryz.prog (w19.drewN n) = .ok (.string TX) (w19.drewN n) := fun n => by
      have h := cv_of_bts cap2 B19 (w19.drewN n) (below_drewN _ _ _)
      rw [HE1.out.1] at h
      exact h
    have HF : Hid (Below w.heap.size w w19) := by
      have hbm : w.heap.size ≤ bm := HBM2.out
      rw [← hw19]
      exact below_setRow D18.below hbm _
    have HW19 : Hid (w18.setRow bm #[.int .i64 WH, .int .i64 GE, .slice (some ⟨f2, o2, none⟩) TX.size cap2] = w19) := hw19
    have HM : Hid (w18.heap[bm]? = some (.cells #[.int .i64 X1, .int .i64 G1, .slice p1 0 cap11] 41 (0, 0))) := hM.1
    clear hc1 hc2 D18 o18 f18 hcp2 B18 hM hw19 hr19 hne B19 HD17 hfu hWH hGE
    go_upto_region 26 with (refine wpList_store_row rfl 41 _ _ rfl bm #[.int .i64 WH, .int .i64 GE, .slice (some ⟨f2, o2, none⟩) TX.size cap2] rfl rfl 41 _ HM.out (by kernel_rfl) rfl (by simp [Value.oneCell']) ?_)
    rw [HW19.out]
    go_quiet ((go_at_call 18; exact Calls.quiet_of_same (HTX.out _)))
    go_wp2_with fail
    go_ret
    exact ⟨rfl, HF.out.trans ((below_drewN _ _ _).mono HF.out.size)⟩
end Go.Proofs.YtkpebabbnndopaaGreatDoor
