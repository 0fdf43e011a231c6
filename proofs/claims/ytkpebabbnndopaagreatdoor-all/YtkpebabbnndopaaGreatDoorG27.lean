import Derived.Test.YtkpebabbnndopaaGreatDoorG14
import Derived.Test.YtkpebabbnndopaaGreatDoorG23
import Derived.Test.YtkpebabbnndopaaGreatDoorG25
import Derived.Test.YtkpebabbnndopaaGreatDoorG26
import Derived.Test.YtkpebabbnndopaaGreatDoorG16
import Derived.WalkKit
import Derived.WalkSpells
import Derived.WalkLawsBesides
import Derived.Deep.WholeRow
import Derived.Deep.MidRow
import Derived.Deep.LoopGhost
import Derived.Deep.DeepCutAuto
import Derived.BigRegion
/- settle. -/
namespace Go.Proofs.YtkpebabbnndopaaGreatDoor
open Go.RowKit
set_option linter.unusedVariables false
set_option linter.unusedSimpArgs false

/-- what the exchange reads, and where it writes -/
structure SX (bt b P : Nat) (TV RV : Array Value) (pl : Nat) (M : Int) (W : World) : Prop where
  tree : W.rangeAt bt 0 TV.toList
  rat : W.rangeAt bt 161 RV.toList
  to1 : W.there b 8 161
  to2 : W.there b P 10
  cell : W.cell? ⟨pl, 0, none⟩ = some (.int .i64 M)
theorem SX.set {bt b P : Nat} {TV RV : Array Value} {pl : Nat} {M : Int} {W : World} (h : SX bt b P TV RV pl M W) (h1 : bt ≠ b) (h2 : pl ≠ b) (o : Nat) (l : List Value) : SX bt b P TV RV pl M (W.setCells b o l) :=
  ⟨World.rangeAt_setCells_apart h.tree b o l (.inl h1), World.rangeAt_setCells_apart h.rat b o l (.inl h1), World.there_setCells h.to1 b o l, World.there_setCells h.to2 b o l, by
    rw [World.cell?_setCells_out b l o W ⟨pl, 0, none⟩ (fun e => absurd e h2)]
    exact h.cell⟩
/-- a group's cells behind the exchange -/
structure SetAt (cs ct csN : Array Value) (P : Nat) (G2 : Int) (S2 : Nat → Int) (n : Nat) : Prop where
  size : csN.size = cs.size
  out : ∀ j, (j < 8 ∨ 169 ≤ j) → (j < P ∨ P + 10 ≤ j) → j ≠ 330 → csN[j]? = cs[j]?
  tree : ∀ j, j < 161 → csN[8 + j]? = ct[j]?
  rat : RatAt csN P true G2 S2
  cnt : ∀ k, cs[ctrOff]? = some (ctr k) → csN[ctrOff]? = some (ctr (k + n))
  one : Ones cs → Ones csN
theorem passK_get (R : Nat → Int) (j n i : Nat) (h : i < (passK R j n).length) : (passK R j n)[i] = DerB (RatB R (j + i)) lKey ((j + i : Nat) : Int) := by
  induction n with
  | zero => exact absurd h (Nat.not_lt_zero _)
  | succ n ih =>
    have hl : (passK R j n).length = n := passK_len R j n
    have hl2 : (passK R j (n + 1)).length = n + 1 := passK_len R j (n + 1)
    simp only [passK]
    by_cases hi : i < n
    · rw [List.getElem_append_left (by omega)]
      exact ih (by omega)
    · obtain rfl : i = n := by omega
      rw [List.getElem_append_right (by omega)]
      simp [hl]
set_option maxHeartbeats 2000000 in
set_option maxRecDepth 20000 in
theorem settle_raw {w : World} {b bt pm : Nat} {cs ct : Array Value} {m g : Nat} {G2 : Int} {S2 : Nat → Int} {L : List PlI} {B : PlI → Nat} {key : PlI → Nat → Int} {tp : List PartD} {R : Nat → Int} {ks : List (Nat → Int)} (hm : m < 16) (hg : g ≤ 65535) (hkg : ks.length ≤ g) (hh : Home (some b) b 112 cs w) (hsz : cs.size = 331) (hpm : cs[329]? = some (.map (some pm))) (ht : Home (some b) bt 259 ct w) (hbt : bt ≠ b) (htr : TrAt ct tp R g ks) (hones : Ones ct)
    (hk : KeepAt w pm L B key) (hlen : L.length ≤ 900) (hpb : pm ≠ b) (hpt : pm ≠ bt) (hBb : ∀ y, y ∈ L → B y ≠ b ∧ B y ≠ bt) (key' : PlI → Nat → Int) (hkey1 : ∀ y, y ∈ L → key' y = key y) (hkey2 : ∀ i (h : i < ks.length), key' ((m : Int), ((g - ks.length + i : Nat) : Int)) = ks[i]) (hnew : ∀ i, i < ks.length → ((m : Int), ((g - ks.length + i : Nat) : Int)) ∉ L)
    (HTU0 : ∀ W, Below w.heap.size w W → Calls Tryz.prog 49 #[.pointer (some ⟨bt, 161, none⟩), .func (.func 46) #[.pointer (some ⟨b, 0, none⟩)] #[]] W fun e w' => e = .returned (.tuple #[]) ∧ ∃ ct' n, n ≤ 1 ∧ Upd (some b) n bt 161 10 259 ct W w' ct' ∧ RatAt ct' 161 true G2 S2) :
    Calls Tryz.prog 154 #[.pointer (some ⟨b, 0, none⟩), .pointer (some ⟨bt, 0, none⟩), .agg #[.int .i64 m, .int .i64 g]] w fun e w' => e = .returned (.tuple #[]) ∧ ∃ csN ct2 n2 Bc, Home (some b) b 112 csN w' ∧ n2 ≤ 1 ∧ SetAt cs ct csN (169 + m * 10) G2 S2 n2 ∧ w'.heap[bt]? = some (.cells ct2 259 (0, 0)) ∧ ct2.size = 212 ∧ KeepAt w' pm (gaveP (m : Int) (L ++ newPl m (g - ks.length) ks.length)) Bc key' ∧ (∀ y, y ∈ L ++ newPl m (g - ks.length) ks.length → (y ∈ L ∧ Bc y = B y) ∨ w.heap.size ≤ Bc y) ∧ Outside (b :: bt :: pm :: L.map B) w w' := by
  have HTU : Hid (∀ W, Below w.heap.size w W → Calls Tryz.prog 49 #[.pointer (some ⟨bt, 161, none⟩), .func (.func 46) #[.pointer (some ⟨b, 0, none⟩)] #[]] W fun e w' => e = .returned (.tuple #[]) ∧ ∃ ct' n, n ≤ 1 ∧ Upd (some b) n bt 161 10 259 ct W w' ct' ∧ RatAt ct' 161 true G2 S2) := HTU0
  have ix := ratIndex b m hm
  obtain ⟨P, hP⟩ : ∃ P, 169 + m * 10 = P := ⟨_, rfl⟩
  rw [hP] at ix
  obtain ⟨M, hM⟩ : ∃ M : Int, (m : Int) = M := ⟨_, rfl⟩
  obtain ⟨G, hG⟩ : ∃ G : Int, (g : Int) = G := ⟨_, rfl⟩
  rw [hM] at ix
  rw [hM, hG]
  obtain ⟨w1, hw1⟩ : ∃ w1, w.alloc (.cells #[.int .i64 M, .int .i64 G] 123) = w1 := ⟨_, rfl⟩
  have b1 : Below w.heap.size w w1 := by rw [← hw1]; exact (Below.refl _ w).alloc (Nat.le_refl _) _
  have k1 : w1.heap[w.heap.size]? = some (.cells #[.int .i64 M, .int .i64 G] 123 (0, 0)) := by rw [← hw1]; exact (MapKept.heap_alloc _ _).1
  have HB1 : Hid (Below w.heap.size w w1 ∧ w1.heap[w.heap.size]? = some (.cells #[.int .i64 M, .int .i64 G] 123 (0, 0))) := ⟨b1, k1⟩
  have HW1 : Hid (w.alloc (.cells #[.int .i64 M, .int .i64 G] 123) = w1) := hw1
  have hmf : ∀ (fn : Fn) (first cap : Array Value) (w : World), (Instr.makeFunc fn first cap).run Tryz.prog w = .ok (.func fn first cap) w := fun _ _ _ _ => rfl
  have HH : Hid (Home (some b) b 112 cs w ∧ cs.size = 331) := ⟨hh, hsz⟩
  have HT : Hid (ct.size = 212 ∧ P + 10 ≤ 331 ∧ P + 10 ≤ 330 ∧ b < w.heap.size ∧ bt < w.heap.size ∧ bt ≠ b ∧ Ones ct ∧ TrAt ct tp R g ks) := ⟨htr.size, by omega, by omega, hh.lt, ht.lt, hbt, hones, htr⟩
  have HG : Hid ((g : Int) = G ∧ (m : Int) = M) := ⟨hG, hM⟩
  have HMM : Hid (m < 16 ∧ g ≤ 65535 ∧ ks.length ≤ g ∧ 169 + m * 10 = P) := ⟨hm, hg, hkg, hP⟩
  have HKEY : Hid ((∀ y, y ∈ L → key' y = key y) ∧ ∀ i (h : i < ks.length), key' ((m : Int), ((g - ks.length + i : Nat) : Int)) = ks[i]) := ⟨hkey1, hkey2⟩
  have HNEW : Hid (∀ i, i < ks.length → ((m : Int), ((g - ks.length + i : Nat) : Int)) ∉ L) := hnew
  have HPP : Hid (P + 10 ≤ 330 ∧ 169 ≤ P ∧ P + 10 ≤ 329) := ⟨by omega, by omega, by omega⟩
  have HKE : Hid (KeepAt w pm L B key ∧ L.length ≤ 900 ∧ pm ≠ b ∧ pm ≠ bt ∧ (∀ y, y ∈ L → B y ≠ b ∧ B y ≠ bt)) := ⟨hk, hlen, hpb, hpt, hBb⟩
  clear hh ht hsz hM hG hm hP b1 k1 hw1 HTU0 htr hones hk hlen hpb hpt hBb hbt hkey1 hkey2 hnew
  go_enter Tryz.func154, Tryz.ntmps154
  go_wp2_with fail
  rw [HW1.out]
  refine (HTU.out _ HB1.out.1).mono ?_
  rintro e w2 ⟨rfl, ct2, n2, hn2, u2, q2⟩
  -- what the exchange reads and writes
  have r2 := u2.home.row
  have hz2 : ct2.size = 212 := u2.mv.size.trans HT.out.1
  obtain ⟨TV, hTV⟩ : ∃ TV, ct2.extract 0 161 = TV := ⟨_, rfl⟩
  obtain ⟨RV, hRV⟩ : ∃ RV, ct2.extract 161 171 = RV := ⟨_, rfl⟩
  have hTz : TV.size = 161 := by rw [← hTV, Array.size_extract]; omega
  have hRz : RV.size = 10 := by rw [← hRV, Array.size_extract]; omega
  obtain ⟨w3, hw3⟩ : ∃ w3, w2.drew.setCells b 8 TV.toList = w3 := ⟨_, rfl⟩
  obtain ⟨w4, hw4⟩ : ∃ w4, w3.setCells b P RV.toList = w4 := ⟨_, rfl⟩
  have hTi : (Tryz.prog.info? 102).map (·.size) = some TV.toList.length := by rw [Array.length_toList, hTz]; kernel_rfl
  have hRi : (Tryz.prog.info? 104).map (·.size) = some RV.toList.length := by rw [Array.length_toList, hRz]; kernel_rfl
  have hTi2 : (Tryz.prog.info? 102).map (·.size) = some TV.size := by rw [hTz]; kernel_rfl
  have hRi2 : (Tryz.prog.info? 104).map (·.size) = some RV.size := by rw [hRz]; kernel_rfl
  obtain ⟨k, hk⟩ := HH.out.1.cnt
  obtain ⟨cs1, hcs1⟩ : ∃ cs1, cs.setIfInBounds ctrOff (ctr (k + n2)) = cs1 := ⟨_, rfl⟩
  have hb2 : w2.heap[b]? = some (.cells cs1 112 (0, 0)) := by
    rw [← hcs1]
    exact u2.tk b rfl (fun e => HT.out.2.2.2.2.2.1 e.symm) cs _ k (by rw [HB1.out.1.block b HT.out.2.2.2.1]; exact HH.out.1.row) hk
  have hz1 : cs1.size = 331 := by rw [← hcs1, Array.size_setIfInBounds]; exact HH.out.2
  have hk1 : cs1[ctrOff]? = some (ctr (k + n2)) := by
    rw [← hcs1, Array.getElem?_setIfInBounds, if_pos rfl, if_pos (Array.getElem?_eq_some_iff.1 hk).1]
  have h1 : Home (some b) b 112 cs1 w2 := Home.own hb2 ⟨_, hk1⟩
  have hplb : w.heap.size ≠ b := by have := HT.out.2.2.2.1; omega
  have HS2 : Hid (SX bt b P TV RV w.heap.size M w2.drew) := by
    refine ⟨?_, ?_, ?_, ?_, ?_⟩
    · rw [World.rangeAt_drew, ← hTV]; exact World.rangeAt_of_block r2 0 161
    · rw [World.rangeAt_drew, ← hRV]; exact World.rangeAt_of_block r2 161 10
    · rw [World.there_drew]; exact h1.there (by omega)
    · rw [World.there_drew]; exact h1.there (by have := HT.out.2.1; omega)
    · have hr := u2.outq.row HB1.out.2 (fun hm => by have := HT.out; simp at hm; omega)
      show w2.cell? _ = _
      rw [cell_of_row _ _ _ _ _ _ hr]; rfl
  have HST : Hid (w2.drew.there b 8 TV.size ∧ TV.all (·.oneCell') = true ∧ SX bt b P TV RV w.heap.size M w3 ∧ w3.there b P RV.size ∧ RV.all (·.oneCell') = true ∧ SX bt b P TV RV w.heap.size M w4) := by
    have s3 : SX bt b P TV RV w.heap.size M w3 := by rw [← hw3]; exact HS2.out.set HT.out.2.2.2.2.2.1 hplb _ _
    have s4 : SX bt b P TV RV w.heap.size M w4 := by rw [← hw4]; exact s3.set HT.out.2.2.2.2.2.1 hplb _ _
    have ho := u2.mv.one HT.out.2.2.2.2.2.2.1
    refine ⟨by rw [hTz]; exact HS2.out.to1, by rw [← hTV]; exact ones_extract ho _ _, s3, by rw [hRz]; exact s3.to2, by rw [← hRV]; exact ones_extract ho _ _, s4⟩
  have HF : Hid (∃ csN, Home (some b) b 112 csN w4 ∧ csN = putL (putL cs1 8 TV.toList) P RV.toList ∧ csN.size = 331 ∧ Outside [bt, b] w w4 ∧ w4.heap[bt]? = some (.cells ct2 259 (0, 0)) ∧ KeepAt w4 pm L B key ∧ w4.heap[w.heap.size]? = some (.cells #[.int .i64 M, .int .i64 G] 123 (0, 0)) ∧ csN[329]? = some (.map (some pm)) ∧ SetAt cs ct csN P G2 S2 n2 ∧ ct2.size = 212) := by
    have hne := HT.out.2.2.2.2.2.1
    have row3 : w3.heap[b]? = some (.cells (putL cs1 8 TV.toList) 112 (0, 0)) := by
      rw [← hw3, setCells_row _ w2.drew b _ cs1 _ hb2]; exact setRow_heap _ _ _ _ _ _ hb2
    have row4 : w4.heap[b]? = some (.cells (putL (putL cs1 8 TV.toList) P RV.toList) 112 (0, 0)) := by
      rw [← hw4, setCells_row _ w3 b _ _ _ row3]; exact setRow_heap _ _ _ _ _ _ row3
    have o2 : Outside [bt, b] w w2 := (Outside.ofBelow HB1.out.1).trans u2.outq (fun _ hi _ => hi)
    have o3 : Outside [bt, b] w w3 := by
      rw [← hw3, setCells_row _ w2.drew b _ cs1 _ hb2]; exact o2.drew.setRow b (fun _ => by simp) _
    have o4 : Outside [bt, b] w w4 := by
      rw [← hw4, setCells_row _ w3 b _ _ _ row3]; exact o3.setRow b (fun _ => by simp) _
    have hoth : ∀ j, j ≠ b → w4.heap[j]? = w2.heap[j]? := fun j hj => by
      rw [← hw4, setCells_row _ w3 b _ _ _ row3, setRow_other _ _ _ _ hj, ← hw3, setCells_row _ w2.drew b _ cs1 _ hb2, setRow_other _ _ _ _ hj]; rfl
    have hTl : TV.toList.length = 161 := by rw [Array.length_toList, hTz]
    have hRl : RV.toList.length = 10 := by rw [Array.length_toList, hRz]
    have hPP : P + 10 ≤ 330 ∧ 169 ≤ P ∧ P + 10 ≤ 329 := HPP.out
    refine ⟨_, Home.own row4 ⟨k + n2, ?_⟩, rfl, ?_, o4, by rw [hoth bt hne]; exact r2, HKE.out.1.keep fun j hj hm => o4.block j hj ?_, ?_, ?_, ⟨?_, ?_, ?_, ?_, ?_, ?_⟩, hz2⟩
    · rw [putL_out _ _ _ _ (.inr (by show _ ≤ 330; omega)), putL_out _ _ _ _ (.inr (by show _ ≤ 330; omega))]; exact hk1
    · rw [putL_size, putL_size]; exact hz1
    · rcases hm with rfl | hm
      · have := HKE.out.2.2; simp; exact ⟨this.2.1, this.1⟩
      · obtain ⟨y, hy, rfl⟩ := List.mem_map.1 hm
        have := HKE.out.2.2.2.2 y hy
        simp; exact ⟨this.2, this.1⟩
    · rw [hoth _ hplb]
      exact u2.outq.row HB1.out.2 (fun hm => by have := HT.out; simp at hm; omega)
    · rw [putL_out _ _ _ _ (.inr (by omega)), putL_out _ _ _ _ (.inr (by omega)), ← hcs1, Array.getElem?_setIfInBounds, if_neg (by show 330 ≠ 329; omega)]
      exact hpm
    · rw [putL_size, putL_size, ← hcs1, Array.size_setIfInBounds]
    · intro j h1 h2 h3
      rw [putL_out _ _ _ _ (by omega), putL_out _ _ _ _ (by omega), ← hcs1, Array.getElem?_setIfInBounds, if_neg (by show 330 ≠ j; omega)]
    · intro j hj
      rw [putL_out _ _ _ _ (by omega)]
      have h0 : TV.toList[j]? = some (TV.toList[j]'(by omega)) := List.getElem?_eq_getElem _
      rw [putL_at TV.toList cs1 8 (by omega) j _ h0, ← h0, Array.getElem?_toList, ← hTV, Array.getElem?_extract, if_pos (by omega), Nat.zero_add]
      exact u2.mv.out j (.inl hj) (fun _ => by show j ≠ 330; omega)
    · intro j v hv
      have hj : j < 10 := (List.getElem?_eq_some_iff.1 hv).1
      refine putL_at RV.toList _ P (by rw [putL_size]; omega) j v ?_
      rw [Array.getElem?_toList, ← hRV, Array.getElem?_extract, if_pos (by omega)]
      exact q2 j v hv
    · intro k' hk'
      rw [putL_out _ _ _ _ (.inr (by show _ ≤ 330; omega)), putL_out _ _ _ _ (.inr (by show _ ≤ 330; omega)), hk1]
      rw [hk] at hk'
      unfold ctr at hk' ⊢
      simp only [Option.some.injEq, Value.int.injEq, true_and, IntKind.wrap_i64] at hk' ⊢
      push_cast
      omega
    · intro h0
      have ho := u2.mv.one HT.out.2.2.2.2.2.2.1
      have a1 : TV.toList.all (·.oneCell') = true := by rw [Array.all_toList, ← hTV]; exact ones_extract ho _ _
      have a2 : RV.toList.all (·.oneCell') = true := by rw [Array.all_toList, ← hRV]; exact ones_extract ho _ _
      rw [← hcs1]
      exact Ones.putL _ _ (Ones.putL _ _ (h0.set _ _ rfl) a1) a2
  have HX : Hid (w2.drew.setCells b 8 TV.toList = w3 ∧ w3.setCells b P RV.toList = w4 ∧ n2 ≤ 1 ∧ Upd (some b) n2 bt 161 10 259 ct w1 w2 ct2) := ⟨hw3, hw4, hn2, u2⟩
  clear r2 hz2 hTV hTz hRV hRz hw3 hw4 hn2 u2 q2 hk hcs1 hb2 hz1 hk1 h1 hplb
  go_upto_region 2 with fail
  go_cut [] (fun wx => Hid (wx = w4))
  case first =>
    clear HTU hmf HW1 HB1 HH HT HKE HF HPP HNEW HKEY HMM hkg hg hpm
    refine wp_region_held_drew (S := fun W => SX bt b P TV RV w.heap.size M W) (by kernel_rfl) HS2.out (fun hHeld => ?_)
    change wpAnyH _ _ _ _ _ 19 _ _ _
    refine take1 (i := 0) (v := .pointer (some ⟨b, 0, none⟩)) rfl (by kernel_rfl) (by kernel_rfl) (by kernel_rfl) (fun _ _ _ h => h) hHeld (fun W hS => (by clear hHeld; go_simp)) ?_
    simp only [Act.put, List.setIfInBounds_toArray, List.set_cons_zero, List.set_cons_succ]
    refine take1 (i := 1) (v := .pointer (some ⟨b, 0, none⟩)) rfl (by kernel_rfl) (by kernel_rfl) (by kernel_rfl) (fun _ _ _ h => h) hHeld (fun W hS => (by clear hHeld; go_simp)) ?_
    simp only [Act.put, List.setIfInBounds_toArray, List.set_cons_zero, List.set_cons_succ]
    refine take1 (i := 2) (v := .pointer (some ⟨w.heap.size, 0, none⟩)) rfl (by kernel_rfl) (by kernel_rfl) (by kernel_rfl) (fun _ _ _ h => h) hHeld (fun W hS => (by clear hHeld; go_simp)) ?_
    simp only [Act.put, List.setIfInBounds_toArray, List.set_cons_zero, List.set_cons_succ]
    refine take1 (i := 3) (v := .int .i64 M) rfl (by kernel_rfl) (by kernel_rfl) (by kernel_rfl) (fun _ _ _ h => h) hHeld (fun W hS => (by have hc := hS.cell; clear hHeld; go_simp)) ?_
    simp only [Act.put, List.setIfInBounds_toArray, List.set_cons_zero, List.set_cons_succ]
    refine take1 (i := 4) (v := .pointer (some ⟨bt, 0, none⟩)) rfl (by kernel_rfl) (by kernel_rfl) (by kernel_rfl) (fun _ _ _ h => h) hHeld (fun W hS => (by clear hHeld; go_simp)) ?_
    simp only [Act.put, List.setIfInBounds_toArray, List.set_cons_zero, List.set_cons_succ]
    refine take1 (i := 5) (v := .pointer (some ⟨bt, 0, none⟩)) rfl (by kernel_rfl) (by kernel_rfl) (by kernel_rfl) (fun _ _ _ h => h) hHeld (fun W hS => (by clear hHeld; go_simp)) ?_
    simp only [Act.put, List.setIfInBounds_toArray, List.set_cons_zero, List.set_cons_succ]
    refine take1 (i := 6) (v := .pointer (some ⟨bt, 0, none⟩)) rfl (by kernel_rfl) (by kernel_rfl) (by kernel_rfl) (fun _ _ _ h => h) hHeld (fun W hS => (by clear hHeld; go_simp)) ?_
    simp only [Act.put, List.setIfInBounds_toArray, List.set_cons_zero, List.set_cons_succ]
    refine load1 (i := 7) rfl (by kernel_rfl) (by kernel_rfl) (by kernel_rfl) TV (fun _ _ _ h => h) hHeld bt 0 rfl _ (fun W hS => hS.tree) Tryz.underlying102 rfl hTi ?_
    simp only [Act.put, List.setIfInBounds_toArray, List.set_cons_zero, List.set_cons_succ]
    refine take1 (i := 8) (v := .pointer (some ⟨bt, 0, none⟩)) rfl (by kernel_rfl) (by kernel_rfl) (by kernel_rfl) (fun _ _ _ h => h) hHeld (fun W hS => (by clear hHeld; go_simp)) ?_
    simp only [Act.put, List.setIfInBounds_toArray, List.set_cons_zero, List.set_cons_succ]
    refine take1 (i := 9) (v := .pointer (some ⟨bt, 0, none⟩)) rfl (by kernel_rfl) (by kernel_rfl) (by kernel_rfl) (fun _ _ _ h => h) hHeld (fun W hS => (by clear hHeld; go_simp)) ?_
    simp only [Act.put, List.setIfInBounds_toArray, List.set_cons_zero, List.set_cons_succ]
    refine take1 (i := 10) (v := .pointer (some ⟨bt, 161, none⟩)) rfl (by kernel_rfl) (by kernel_rfl) (by kernel_rfl) (fun _ _ _ h => h) hHeld (fun W hS => (by clear hHeld; go_simp)) ?_
    simp only [Act.put, List.setIfInBounds_toArray, List.set_cons_zero, List.set_cons_succ]
    refine load1 (i := 11) rfl (by kernel_rfl) (by kernel_rfl) (by kernel_rfl) RV (fun _ _ _ h => h) hHeld bt 161 rfl _ (fun W hS => hS.rat) Tryz.underlying104 rfl hRi ?_
    simp only [Act.put, List.setIfInBounds_toArray, List.set_cons_zero, List.set_cons_succ]
    refine take1 (i := 12) (v := .pointer (some ⟨b, 0, none⟩)) rfl (by kernel_rfl) (by kernel_rfl) (by kernel_rfl) (fun _ _ _ h => h) hHeld (fun W hS => (by clear hHeld; go_simp)) ?_
    simp only [Act.put, List.setIfInBounds_toArray, List.set_cons_zero, List.set_cons_succ]
    refine take1 (i := 13) (v := .pointer (some ⟨b, 8, none⟩)) rfl (by kernel_rfl) (by kernel_rfl) (by kernel_rfl) (fun _ _ _ h => h) hHeld (fun W hS => (by clear hHeld; go_simp)) ?_
    simp only [Act.put, List.setIfInBounds_toArray, List.set_cons_zero, List.set_cons_succ]
    refine take1 (i := 15) (v := .pointer (some ⟨b, 0, none⟩)) rfl (by kernel_rfl) (by kernel_rfl) (by kernel_rfl) (fun _ _ _ h => h) hHeld (fun W hS => (by clear hHeld; go_simp)) ?_
    simp only [Act.put, List.setIfInBounds_toArray, List.set_cons_zero, List.set_cons_succ]
    refine take1 (i := 16) (v := .pointer (some ⟨b, 169, none⟩)) rfl (by kernel_rfl) (by kernel_rfl) (by kernel_rfl) (fun _ _ _ h => h) hHeld (fun W hS => (by clear hHeld; go_simp)) ?_
    simp only [Act.put, List.setIfInBounds_toArray, List.set_cons_zero, List.set_cons_succ]
    refine store1 (i := 14) (by kernel_rfl) rfl b 8 TV rfl rfl HST.out.1 hTi2 HST.out.2.1 w3 HX.out.1 HST.out.2.2.1 ?_
    clear hHeld
    have hHeld := HST.out.2.2.1
    refine take1 (i := 17) (v := .pointer (some ⟨b, P, none⟩)) rfl (by kernel_rfl) (by kernel_rfl) (by kernel_rfl) (fun _ _ _ h => h) hHeld (fun W hS => (by clear hHeld; go_simp)) ?_
    simp only [Act.put, List.setIfInBounds_toArray, List.set_cons_zero, List.set_cons_succ]
    refine store1 (i := 18) (by kernel_rfl) rfl b P RV rfl rfl HST.out.2.2.2.1 hRi2 HST.out.2.2.2.2.1 w4 HX.out.2.1 HST.out.2.2.2.2.2 ?_
    clear hHeld
    have hHeld := HST.out.2.2.2.2.2
    refine wpAnyH_done (by kernel_rfl) ?_ _
    go_wp2_with fail
    go_meet
    exact (rfl : w4 = w4)
  case rest =>
    obtain ⟨csN, f1, f2, f3, f4, f5, f6, f7, f8, f9, f10⟩ := HF.out
    have HSA : Hid (SetAt cs ct csN P G2 S2 n2 ∧ ct2.size = 212 ∧ n2 ≤ 1) := ⟨f9, f10, HX.out.2.2.1⟩
    rw [show wc = w4 from hcut.out]
    obtain ⟨x1, x2, hn2, u2⟩ := HX.out
    have htr := HT.out.2.2.2.2.2.2.2
    have hk5 := htr.le
    obtain ⟨c, hc⟩ : ∃ c, ks.length = c := ⟨_, rfl⟩
    have c211 : w4.cell? ⟨bt, 211, none⟩ = some (.int .i64 (c : Int)) := by
      rw [cell_of_row _ _ _ _ _ _ f5, u2.mv.out 211 (.inr (by omega)) (fun _ => by show 211 ≠ 330; omega), ← hc]
      exact htr.cnt
    have HPA : Hid (∀ W, W.cell? ⟨bt, 211, none⟩ = some (.int .i64 (c : Int)) → Calls Tryz.prog 165 #[.pointer (some ⟨bt, 0, none⟩)] W fun e w' => e = .returned (.slice (some ⟨bt, 171, none⟩) c 5) ∧ Below W.heap.size W w') := fun W hW => passed_any bt c (by omega) W hW
    have HKS : Hid (∀ i (h : i < ks.length), AtL ct2 (171 + i * 8) (Cells8 ks[i]).toList) := fun i h => u2.mv.at (htr.keys i h) (.inr (by omega)) (fun _ => .inl (by show 171 + i * 8 + 8 ≤ 330; omega))
    have hc5 : (c : Int) ≤ 5 := by omega
    have hG0 : (0 : Int) ≤ G := by have := HG.out.1; omega
    have hG1 : G ≤ 65535 := by have := HG.out.1; omega
    have hcG : (c : Int) ≤ G := by have := HG.out.1; omega
    obtain ⟨F, hF⟩ : ∃ F : Int, G - c = F := ⟨_, rfl⟩
    have HWF : Hid (IntKind.i64.wrap F = F) := by show _ = _; rw [IntKind.wrap_i64]; omega
    have hF0 : 0 ≤ F := by omega
    have hF1 : F ≤ 65535 := by omega
    have hA4 : ∀ o, w4.cell? ⟨w.heap.size, o, none⟩ = #[Value.int .i64 M, .int .i64 G][o]? := fun o => cell_of_row _ _ _ _ _ _ f7
    have HF4 : Hid (Home (some b) b 112 csN w4 ∧ csN = putL (putL cs1 8 TV.toList) P RV.toList ∧ csN.size = 331 ∧ Outside [bt, b] w w4 ∧ w4.heap[bt]? = some (.cells ct2 259 (0, 0)) ∧ KeepAt w4 pm L B key ∧ w4.heap[w.heap.size]? = some (.cells #[.int .i64 M, .int .i64 G] 123 (0, 0)) ∧ csN[329]? = some (.map (some pm))) := ⟨f1, f2, f3, f4, f5, f6, f7, f8⟩
    have HA5 : Hid (∀ W, Below w4.drew.heap.size w4.drew W → ∀ o, W.cell? ⟨w.heap.size, o, none⟩ = #[Value.int .i64 M, .int .i64 G][o]?) := fun W hW o => by
      have hlt : w.heap.size < w4.heap.size := (Array.getElem?_eq_some_iff.1 f7).1
      rw [hW.cell (p := ⟨w.heap.size, o, none⟩) hlt]
      exact hA4 o
    have HC2 : Hid (w4.drew.cell? ⟨bt, 211, none⟩ = some (.int .i64 (c : Int))) := c211
    clear HF hcut f1 f2 f3 f4 f5 f6 f7 f8 f9 f10 x1 x2 hn2 u2 htr hk5 ix hpm hkg hg hTi hRi hTi2 hRi2 HS2 HST HTU
    go_upto_region 3 with fail
    go_cut [6] (fun s6 wx => s6 = .int .i64 F ∧ Hid (Below w4.heap.size w4 wx))
    case first =>
      go_region_with (go_at_call 165; refine (HPA.out _ HC2.out).mono ?_; rintro e w5 ⟨rfl, b5⟩; have hA5 := HA5.out w5 b5)
      all_goals
        have HB5 : Hid (Below w4.heap.size w4 w5) := ((Below.refl _ w4).drew).trans b5
        clear b5
        go_wp2_with fail
        go_meet
        exact ⟨by rw [HWF.out], HB5⟩
    case rest =>
      obtain ⟨rfl, hb5⟩ := hcut
      have HB5 : Hid (Below w4.heap.size w4 wc) := hb5
      have HFN : Hid (G - c = F) := hF
      have HC5 : Hid (wc.cell? ⟨bt, 211, none⟩ = some (.int .i64 (c : Int))) := by
        show _ = _
        rw [hb5.out.cell (p := ⟨bt, 211, none⟩) (Array.getElem?_eq_some_iff.1 HF4.out.2.2.2.2.1).1]
        exact HC2.out
      clear hb5 hA4 HA5 c211 hF
      go_wp2_with fail
      refine (HPA.out _ HC5.out).mono ?_
      rintro e w6 ⟨rfl, b6⟩
      have HB6 : Hid (Below w4.heap.size w4 w6) := HB5.out.trans (b6.mono HB5.out.size)
      clear b6 HPA HB5 HC5 HC2
      go_wp2_with fail
      go_loopg [41] c (fun r v41 wr => ∃ i : Nat, v41 = .int .i64 i ∧ i + r = c ∧ ∃ (Bi : PlI → Nat) (ki : PlI → Nat → Int), Hid (KeepAt wr pm (L ++ newPl m (g - c) i) Bi ki ∧ Outside [pm] w4 wr ∧ (∀ y, y ∈ L → Bi y = B y ∧ ki y = key y) ∧ (∀ y, y ∈ newPl m (g - c) i → w4.heap.size ≤ Bi y) ∧ (∀ j (h : j < ks.length), j < i → ki ((m : Int), ((g - c + j : Nat) : Int)) = ks[j])))
      case atStart =>
        exact ⟨0, rfl, by omega, B, key, by rw [newPl_zero, List.append_nil]; exact HF4.out.2.2.2.2.2.1.below HB6.out, Outside.ofBelow HB6.out, ⟨fun y _ => ⟨rfl, rfl⟩, ⟨fun y hy => absurd hy List.not_mem_nil, fun j _ h => absurd h (Nat.not_lt_zero j)⟩⟩⟩
      case round =>
        obtain ⟨i, rfl, hir, Bi, ki, hX⟩ := hrel
        have HX1 := hX.out
        have hbtr : wr.heap[bt]? = some (.cells ct2 259 (0, 0)) := HX1.2.1.row HF4.out.2.2.2.2.1 (by have := HKE.out.2.2.2.1; simp; exact fun e => this e.symm)
        have hplr : wr.heap[w.heap.size]? = some (.cells #[.int .i64 M, .int .i64 G] 123 (0, 0)) := HX1.2.1.row HF4.out.2.2.2.2.2.2.1 (by have := HKE.out.1.lt; simp; omega)
        have hbr : wr.heap[b]? = some (.cells csN 112 (0, 0)) := HX1.2.1.row HF4.out.1.row (by have := HKE.out.2.2.1; simp; exact fun e => this e.symm)
        by_cases hlt : (i : Int) < (c : Int)
        · have hik : i < ks.length := by omega
          obtain ⟨K, hK⟩ : ∃ K, ks[i] = K := ⟨_, rfl⟩
          have HR6 : Hid (wr.rangeAt bt (171 + i * 8) (Cells8 K).toList) := by
            intro j v hv
            rw [cell_of_row _ _ _ _ _ _ hbtr]
            have := HKS.out i hik
            rw [hK] at this
            exact this j v hv
          obtain ⟨wa, hwa⟩ : ∃ wa, wr.alloc (.cells (Cells8 K) 51) = wa := ⟨_, rfl⟩
          have ba : Below wr.heap.size wr wa := by rw [← hwa]; exact (Below.refl _ wr).alloc (Nat.le_refl _) _
          have ka : wa.heap[wr.heap.size]? = some (.cells (Cells8 K) 51 (0, 0)) := by rw [← hwa]; exact (MapKept.heap_alloc _ _).1
          have hAk : ∀ o, wa.cell? ⟨wr.heap.size, o, none⟩ = (Cells8 K)[o]? := fun o => cell_of_row _ _ _ _ _ _ ka
          have hAp : ∀ o, wa.cell? ⟨w.heap.size, o, none⟩ = #[Value.int .i64 M, .int .i64 G][o]? := fun o => by
            rw [ba.cell (p := ⟨w.heap.size, o, none⟩) (Array.getElem?_eq_some_iff.1 hplr).1]; exact cell_of_row _ _ _ _ _ _ hplr
          have hAb : wa.cell? ⟨b, 329, none⟩ = some (.map (some pm)) := by
            rw [ba.cell (p := ⟨b, 329, none⟩) (Array.getElem?_eq_some_iff.1 hbr).1, cell_of_row _ _ _ _ _ _ hbr]; exact HF4.out.2.2.2.2.2.2.2
          obtain ⟨Z, hZ⟩ : ∃ Z : Int, F + i = Z := ⟨_, rfl⟩
          have hZ0 : 0 ≤ Z := by omega
          have hZ1 : Z ≤ 70000 := by omega
          have HZ : Hid (((g - c + i : Nat) : Int) = Z) := by have := HG.out.1; have := HFN.out; show _ = _; omega
          have HWZ : IntKind.i64.wrap Z = Z := by rw [IntKind.wrap_i64]; omega
          have HKC : Hid (Calls Tryz.prog 166 #[.map (some pm), .agg #[.int .i64 M, .int .i64 Z], Agg8 K] wa.drew fun e w' => e = .returned (.tuple #[]) ∧ ∃ Bj kj, Hid (KeepAt w' pm (L ++ newPl m (g - c) (i + 1)) Bj kj ∧ Outside [pm] w4 w' ∧ (∀ y, y ∈ L → Bj y = B y ∧ kj y = key y) ∧ (∀ y, y ∈ newPl m (g - c) (i + 1) → w4.heap.size ≤ Bj y) ∧ (∀ j (h : j < ks.length), j < i + 1 → kj ((m : Int), ((g - c + j : Nat) : Int)) = ks[j]))) := by
            obtain ⟨x1, x2, x3, x4, x5⟩ := HX1
            have hni : (((m : Int), ((g - c + i : Nat) : Int)) : PlI) ∉ L ++ newPl m (g - c) i := fun hm => by
              rcases List.mem_append.1 hm with hm | hm
              · exact HNEW.out i hik (by rw [hc]; exact hm)
              · obtain ⟨i', h1, h2⟩ := newPl_mem.1 hm
                simp only [Prod.mk.injEq, Int.natCast_inj, true_and] at h2
                omega
            have hlt1 : wr.heap.size < wa.heap.size := (Array.getElem?_eq_some_iff.1 ka).1
            have hle4 : w4.heap.size ≤ wr.heap.size := x2.size
            have hkk := keep_any (x1.below ba).drew ((m : Int), ((g - c + i : Nat) : Int)) (pl_wf HMM.out.1 (by have := HMM.out; omega)) hni K (by rw [List.length_append, newPl_len]; have := HKE.out.2.1; omega)
            have e1 : encP ((m : Int), ((g - c + i : Nat) : Int)) = .agg #[.int .i64 M, .int .i64 Z] := by rw [← HG.out.2, ← HZ.out]
            rw [e1] at hkk
            refine hkk.mono fun e w' ⟨h1, h2, h3⟩ => ⟨h1, _, _, by rw [newPl_succ, ← List.append_assoc]; exact h2, (x2.below (ba.trans (Below.refl _ _).drew)).trans h3 (fun _ hi _ => hi), fun y hy => ?_, fun y hy => ?_, fun j h4 h5 => ?_⟩
            · have hne : y ≠ ((m : Int), ((g - c + i : Nat) : Int)) := fun e => HNEW.out i hik (by rw [hc, ← e]; exact hy)
              simp only [if_neg hne]
              exact x3 y hy
            · by_cases e : y = ((m : Int), ((g - c + i : Nat) : Int))
              · simp only [if_pos e]
                show w4.heap.size ≤ wa.heap.size + 1
                omega
              · simp only [if_neg e]
                rw [newPl_succ] at hy
                rcases List.mem_append.1 hy with hy | hy
                · exact x4 y hy
                · simp at hy; exact absurd hy e
            · by_cases e : j = i
              · subst e
                simp only [if_true]
                rw [← hK]
              · have hne : (((m : Int), ((g - c + j : Nat) : Int)) : PlI) ≠ ((m : Int), ((g - c + i : Nat) : Int)) := fun h => by
                  simp only [Prod.mk.injEq, Int.natCast_inj, true_and] at h
                  omega
                simp only [if_neg hne]
                exact x5 j h4 (by omega)
          have HWA : Hid (wr.alloc (.cells (Cells8 K) 51) = wa) := hwa
          clear HX1 hbtr hwa ba ka hplr hbr
          go_wp2_with (first | refine wpList_load_mid rfl 51 _ rfl bt (171 + i * 8) rfl (Cells8 K).toList _ HR6.out Tryz.underlying51 rfl (by kernel_rfl) ?_)
          rw [HWA.out]
          clear HR6 HWA
          go_region_with (go_at_call 166; refine HKC.out.mono ?_; rintro e w7 ⟨rfl, Bj, kj, hj⟩)
          all_goals
            clear HKC hAk hAp hAb
            go_wp2_with fail
            go_roundg (gk - 1)
            case measure => omega
            case rel => exact ⟨i + 1, by go_num, by omega, Bj, kj, hj⟩
        · have hic : i = c := by omega
          subst hic
          have hAp : ∀ o, wr.cell? ⟨w.heap.size, o, none⟩ = #[Value.int .i64 M, .int .i64 G][o]? := fun o => cell_of_row _ _ _ _ _ _ hplr
          have hAb : wr.cell? ⟨b, 329, none⟩ = some (.map (some pm)) := by
            rw [cell_of_row _ _ _ _ _ _ hbr]; exact HF4.out.2.2.2.2.2.2.2
          have HGU : Hid (Calls Tryz.prog 167 #[.map (some pm), .int .i64 M] wr.drew fun e w' => e = .returned (.tuple #[]) ∧ Hid (Outside (pm :: (L ++ newPl m (g - i) i).map Bi) wr.drew w' ∧ KeepAt w' pm (gaveP (m : Int) (L ++ newPl m (g - i) i)) Bi ki)) := by
            have h9 := giveUp_any HX1.1.drew (by rw [List.length_append, newPl_len]; have := HKE.out.2.1; omega) (m : Int)
            rw [HG.out.2] at h9
            refine h9.mono fun e w' ⟨h1, h2, h3⟩ => ⟨h1, h2, ?_⟩
            rw [HG.out.2]
            exact h3
          have HBR : Hid (wr.heap[b]? = some (.cells csN 112 (0, 0)) ∧ wr.heap[bt]? = some (.cells ct2 259 (0, 0))) := ⟨hbr, hbtr⟩
          clear HX1 hbtr hplr hbr
          go_wp2_with fail
          go_region_with (go_at_call 167; refine HGU.out.mono ?_; rintro e w7 ⟨rfl, hj⟩)
          all_goals
            clear HGU hAp hAb
            go_wp2_with fail
            go_end0
            refine ⟨rfl, ?_⟩
            obtain ⟨o7, k7⟩ := hj.out
            obtain ⟨x1, x2, x3, x4, x5⟩ := hX.out
            obtain ⟨y1, y2, y3, y4, y5, y6, y7, y8⟩ := HF4.out
            obtain ⟨s1, s2, s3⟩ := HSA.out
            obtain ⟨e1, e2, e3, e4, e5⟩ := HKE.out
            have hw4 : w.heap.size ≤ w4.heap.size := y4.size
            have hor : Outside (pm :: (L ++ newPl m (g - i) i).map Bi) wr w7 := ((Outside.refl _ wr).drew).trans o7 (fun _ h _ => h)
            have hin : ∀ y, y ∈ L ++ newPl m (g - i) i → (y ∈ L ∧ Bi y = B y) ∨ w4.heap.size ≤ Bi y := fun y hy => by
              rcases List.mem_append.1 hy with h | h
              · exact .inl ⟨h, (x3 y h).1⟩
              · exact .inr (x4 y h)
            have hbl : b < w.heap.size ∧ bt < w.heap.size := ⟨HT.out.2.2.2.1, HT.out.2.2.2.2.1⟩
            have hbn : b ∉ pm :: (L ++ newPl m (g - i) i).map Bi := fun hm => by
              rcases List.mem_cons.1 hm with h | h
              · exact e3 h.symm
              · obtain ⟨y, hy, h⟩ := List.mem_map.1 h
                rcases hin y hy with ⟨h1, h2⟩ | h1
                · exact (e5 y h1).1 (h2.symm.trans h)
                · omega
            have hbtn : bt ∉ pm :: (L ++ newPl m (g - i) i).map Bi := fun hm => by
              rcases List.mem_cons.1 hm with h | h
              · exact e4 h.symm
              · obtain ⟨y, hy, h⟩ := List.mem_map.1 h
                rcases hin y hy with ⟨h1, h2⟩ | h1
                · exact (e5 y h1).2 (h2.symm.trans h)
                · omega
            refine ⟨csN, ct2, n2, Bi, Home.own (hor.row HBR.out.1 hbn) y1.cnt, s3, ?_, hor.row HBR.out.2 hbtn, s2, ?_, ?_, ?_⟩
            · rw [HMM.out.2.2.2]; exact s1
            · rw [hc, ← HG.out.2]
              refine k7.congr (fun _ _ => rfl) fun y hy => ?_
              rcases List.mem_append.1 (gaveP_sub hy) with h | h
              · rw [HKEY.out.1 y h, (x3 y h).2]
              · obtain ⟨j, hj1, rfl⟩ := newPl_mem.1 h
                have h1 := HKEY.out.2 j (by omega)
                have e9 : g - ks.length + j = g - i + j := by omega
                rw [e9] at h1
                rw [h1, x5 j (by omega) hj1]
            · rw [hc]
              intro y hy
              rcases hin y hy with h | h
              · exact .inl h
              · exact .inr (by omega)
            · refine ((y4.mono (S' := b :: bt :: pm :: L.map B) (fun j hj _ => by simp at hj; simp; omega)).trans x2 (fun j hj _ => by simp at hj; simp [hj])).trans hor (fun j hj hl => ?_)
              rcases List.mem_cons.1 hj with h | h
              · rw [h]; simp
              · obtain ⟨y, hy, h⟩ := List.mem_map.1 h
                rcases hin y hy with ⟨h1, h2⟩ | h1
                · have : j ∈ L.map B := List.mem_map.2 ⟨y, h1, by rw [← h2]; exact h⟩
                  simp only [List.mem_cons]
                  exact .inr (.inr (.inr this))
                · omega
/-- a group's cells behind the exchange are those of the state behind the message -/
theorem SetAt.grp {cs ct csN : Array Value} {st : St} {wk pm m g n : Nat} {lk : Int} (ok : st.Ok) (hm : m < st.n) (hG : GrpAt cs st wk pm lk) (hT : TreeAt ct 0 (((st.begin m).parts 16 0 st.n).map itPart)) (h : SetAt cs ct csN (169 + m * 10) (g + 1 : Nat) ((st.passTo m g).ratS m) n) : GrpAt csN (st.passTo m g) (wk + n) pm lk := by
  have h16 : m < 16 := by have := ok.n16; omega
  have hun := passTo_m ok hm g
  have e0 : ∀ j, (j < 8 ∨ 169 ≤ j) → (j < 169 + m * 10 ∨ 169 + m * 10 + 10 ≤ j) → j ≠ 330 → csN[j]? = cs[j]? := h.out
  have hp : ∀ f t, (st.passTo m g).parts 16 f t = (st.begin m).parts 16 f t := parts_same (st := st.begin m) (st' := st.passTo m g) rfl rfl (fun i => by rw [hun, begin_m ok hm]; split <;> rfl) 16
  refine ⟨h.size.trans hG.size, ?_, ?_, ?_, ?_, fun i hi => ?_, ?_, h.cnt wk hG.cnt, h.one hG.ones, ?_⟩
  · rw [e0 _ (by omega) (by omega) (by omega)]; exact hG.members
  · rw [e0 _ (by omega) (by omega) (by omega)]; exact hG.own
  · rw [e0 _ (by omega) (by omega) (by omega)]; exact hG.over
  · show TreeAt csN 8 (((st.passTo m g).parts 16 0 st.n).map itPart)
    rw [hp]
    refine ⟨hT.len, fun j v hv => ?_, ?_, hT.ok⟩
    · have hj := (List.getElem?_eq_some_iff.1 hv).1
      rw [pcells_len] at hj
      have := hT.len
      rw [h.tree j (by omega)]
      have := hT.parts j v hv
      rwa [Nat.zero_add] at this
    · rw [h.tree 160 (by omega)]
      have := hT.count
      rwa [Nat.zero_add] at this
  · by_cases hi2 : i = m
    · subst hi2
      rw [hun, if_pos rfl]
      exact h.rat
    · have hms : (st.passTo m g).m i = st.m i := by rw [hun, if_neg hi2]
      rw [hms, ratS_other (st := st) (st' := st.passTo m g) rfl rfl i hms]
      intro j v hv
      have hj : j < 10 := (List.getElem?_eq_some_iff.1 hv).1
      rw [e0 _ (by omega) (by omega) (by omega)]
      exact hG.rat i hi j v hv
  · rw [e0 _ (by omega) (by omega) (by omega)]; exact hG.passed
  · rw [e0 _ (by omega) (by omega) (by omega), e0 _ (by omega) (by omega) (by omega), e0 _ (by omega) (by omega) (by omega)]; exact hG.head
/-- what settle leaves, from the world w on -/
def Settled (w : World) (b bt pm : Nat) (st : St) (wk m g : Nat) (B : PlI → Nat) (w' : World) : Prop :=
  ∃ csN ct' n B', n ≤ 1 ∧ Home (some b) b 112 csN w' ∧ GrpAt csN (st.passTo m g) (wk + n) pm 1 ∧ w'.heap[bt]? = some (.cells ct' 259 (0, 0)) ∧ ct'.size = 212 ∧ KeepAt w' pm (keptL (st.passTo m g) st.n) B' st.keyP ∧ (∀ x, x ∈ keptL (st.passTo m g) st.n → (x ∈ keptL st st.n ∧ B' x = B x) ∨ w.heap.size ≤ B' x) ∧ Outside (b :: bt :: pm :: (keptL st st.n).map B) w w'
theorem settle_any {w : World} {b bt pm : Nat} {cs ct : Array Value} {st : St} {wk m g : Nat} {B : PlI → Nat} (ok : st.Ok) (asc : Asc st) (hm : m < st.n) (hle : (st.m m).next ≤ g) (hg : g ≤ 65535)
    (hh : Home (some b) b 112 cs w) (hG : GrpAt cs st wk pm 1) (ht : Home (some b) bt 259 ct w) (hbt : bt ≠ b) (htr : TrAt ct (((st.begin m).parts 16 0 st.n).map itPart) (st.ratAt m 0) g (passK (st.ratAt m 0) (st.m m).next (g - (st.m m).next))) (hones : Ones ct)
    (hk : KeepAt w pm (keptL st st.n) B st.keyP) (hpb : pm ≠ b) (hpt : pm ≠ bt) (hBb : ∀ y, y ∈ keptL st st.n → B y ≠ b ∧ B y ≠ bt) :
    Calls Tryz.prog 154 #[.pointer (some ⟨b, 0, none⟩), .pointer (some ⟨bt, 0, none⟩), .agg #[.int .i64 m, .int .i64 g]] w fun e w' => e = .returned (.tuple #[]) ∧ Settled w b bt pm st wk m g B w' := by
  have h16 : m < 16 := by have := ok.n16; omega
  have hlen : (passK (st.ratAt m 0) (st.m m).next (g - (st.m m).next)).length = g - (st.m m).next := passK_len _ _ _
  have hfirst : g - (g - (st.m m).next) = (st.m m).next := by omega
  have hun := passTo_m ok hm g m
  rw [if_pos rfl] at hun
  have hbd : ∀ i, 0 ≤ RatB (st.ratAt m 0) g i ∧ RatB (st.ratAt m 0) g i < 256 := RatB_bd _ (DerB_bd _ _ _) _
  have hcnt : (some b : Option Nat) ≠ none → 161 + 10 ≤ ctrOff := fun _ => by show 161 + 10 ≤ 330; omega
  have HTU : ∀ W, Below w.heap.size w W → Calls Tryz.prog 49 #[.pointer (some ⟨bt, 161, none⟩), .func (.func 46) #[.pointer (some ⟨b, 0, none⟩)] #[]] W fun e w' => e = .returned (.tuple #[]) ∧ ∃ ct' n, n ≤ 1 ∧ Upd (some b) n bt 161 10 259 ct W w' ct' ∧ RatAt ct' 161 true ((g + 1 : Nat) : Int) ((st.passTo m g).ratS m) := fun W hW => by
    by_cases hl : g < 65535
    · have e2 : (st.passTo m g).ratS m = DerB (RatB (st.ratAt m 0) g) lNext g := by
        unfold St.ratS
        rw [hun]
        show (if (true && decide (g + 1 ≤ 65535)) = true then _ else _) = _
        rw [if_pos (by simp; omega)]
        rfl
      rw [e2]
      exact (turn_small (derive_g b) g hl true _ hbd bt 161 _ ct W (ht.below hW) htr.rat hcnt).mono fun e w' ⟨h1, cs', u, h2⟩ => ⟨h1, cs', 1, by omega, u, h2⟩
    · have e1 : g = 65535 := by omega
      have e2 : (st.passTo m g).ratS m = fun _ => 0 := by
        unfold St.ratS
        rw [hun]
        show (if (true && decide (g + 1 ≤ 65535)) = true then _ else _) = _
        rw [if_neg (by simp; omega)]
      rw [e2]
      have hr := htr.rat
      rw [e1] at hr ⊢
      exact (turn_last _ (some b) true _ bt 161 _ ct W (ht.below hW) hr hcnt).mono fun e w' ⟨h1, cs', u, h2⟩ => ⟨h1, cs', 0, by omega, u, h2⟩
  have hraw := settle_raw (w := w) (b := b) (bt := bt) (pm := pm) (cs := cs) (ct := ct) (m := m) (g := g) (G2 := ((g + 1 : Nat) : Int)) (S2 := (st.passTo m g).ratS m) (L := keptL st st.n) (B := B) (key := st.keyP) h16 hg (by omega) hh hG.size hG.passed ht hbt htr hones hk (by have := keptL_len ok st.n; have := ok.n16; omega) hpb hpt hBb st.keyP (fun _ _ => rfl) (fun i hi => by
      rw [hlen] at hi
      rw [hlen, hfirst, keyP_nat, passK_get]
      rfl) (fun i hi => by rw [hlen, hfirst]; exact new_notin asc m st.n i) HTU
  rw [hlen, hfirst] at hraw
  refine hraw.mono fun e w' ⟨h1, csN, ct2, n2, Bc, h2, h3, h4, h5, h6, h7, h8, h9⟩ => ⟨h1, csN, ct2, n2, Bc, h3, h2, h4.grp ok hm hG htr.tree, h5, h6, h7.perm (gaveP_perm ok asc hm hle), fun x hx => ?_, h9⟩
  exact h8 x (gaveP_sub ((gaveP_perm ok asc hm hle).mem_iff.2 hx))
end Go.Proofs.YtkpebabbnndopaaGreatDoor
