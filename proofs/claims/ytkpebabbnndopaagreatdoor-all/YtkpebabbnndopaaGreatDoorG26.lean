import Derived.Test.YtkpebabbnndopaaGreatDoorG23
import Derived.Test.YtkpebabbnndopaaGreatDoorG25
import Derived.Test.YtkpebabbnndopaaGreatDoorG10
import Derived.Test.YtkpebabbnndopaaGreatDoorG22
import Derived.WalkKit
import Derived.WalkSpells
import Derived.WalkLawsBesides
import Derived.Deep.WholeRow
import Derived.Deep.MidRow
import Derived.Deep.DeepCutAuto
import Derived.BigRegion
/- openAhead, of whatever settle does. -/
namespace Go.Proofs.YtkpebabbnndopaaGreatDoor
open Go.RowKit
set_option linter.unusedVariables false
set_option linter.unusedSimpArgs false

theorem ones_extract {cs : Array Value} (h : Ones cs) (i j : Nat) : (cs.extract i j).all (·.oneCell') = true := by
  refine Array.all_eq_true_iff_forall_mem.2 fun v hv => ?_
  obtain ⟨k, hk, rfl⟩ := Array.mem_iff_getElem.1 hv
  rw [Array.getElem_extract]
  exact h _ _ (Array.getElem?_eq_getElem _)
/-- where a group's cells go in a trial -/
def trialOf (Z : Array Value) (cs : Array Value) (P : Nat) : Array Value := putL (putL Z 0 (cs.extract 8 169).toList) 161 (cs.extract P (P + 10)).toList
theorem foldl_putO : ∀ (l : List Value) (o k : Nat) (Z : Array Value), List.foldl (fun (cs : Array Value) (x : Value × Nat) => cs.setIfInBounds (o + x.snd) x.fst) Z (l.zipIdx k) = putL Z (o + k) l
  | [], _, _, _ => rfl
  | v :: r, o, k, Z => by
    rw [List.zipIdx_cons, List.foldl_cons, foldl_putO r o (k + 1), putL]
    rfl
theorem fold_putO (Z TT : Array Value) (o n : Nat) (h : TT.size = n) : Array.foldl (fun (cs : Array Value) (x : Value × Nat) => cs.setIfInBounds (o + x.snd) x.fst) Z TT.zipIdx 0 n = putL Z o TT.toList := by
  have hs : TT.zipIdx.size = n := by simp [h]
  have e := foldl_putO TT.toList o 0 Z
  rw [Nat.add_zero] at e
  rw [← e, ← hs, ← Array.foldl_toList]
  simp
theorem fold_put0 (Z TT : Array Value) (n : Nat) (h : TT.size = n) : Array.foldl (fun (cs : Array Value) (x : Value × Nat) => cs.setIfInBounds x.snd x.fst) Z TT.zipIdx 0 n = putL Z 0 TT.toList := by
  have e := fold_putO Z TT 0 n h
  simp only [Nat.zero_add] at e
  exact e
theorem zero_keys : ∀ i, i < 5 → (Tryz.zeroCells259.extract (171 + i * 8) (171 + i * 8 + 8)).toList = (Cells8 fun _ => 0).toList := by
  intro i hi
  rcases i with _ | _ | _ | _ | _ | i <;> first | omega | kernel_rfl
theorem zero_trial : Tryz.zeroCells259.size = 212 ∧ Tryz.zeroCells259[211]? = some (.int .i64 0) ∧ Tryz.zeroCells259.all (·.oneCell') = true := ⟨by kernel_rfl, by kernel_rfl, by kernel_rfl⟩
/-- a trial at its beginning -/
structure TrBeg (CT : Array Value) (st : St) (m : Nat) : Prop where
  size : CT.size = 212
  ones : Ones CT
  tree : TreeAt CT 0 ((st.parts 16 0 st.n).map itPart)
  rat : RatAt CT 161 (st.m m).begun (st.m m).next (st.ratS m)
  zero : ∀ i, i < 5 → AtL CT (171 + i * 8) (Cells8 fun _ => 0).toList
  cnt : CT[211]? = some (.int .i64 0)
theorem trial_facts {cs : Array Value} {st : St} {wk pm : Nat} {lk : Int} (hG : GrpAt cs st wk pm lk) {m : Nat} (hm : m < 16) : TrBeg (putL Tryz.zeroCells259 0 (trialOf Tryz.zeroCells259 cs (169 + m * 10)).toList) st m ∧ (trialOf Tryz.zeroCells259 cs (169 + m * 10)).size = 212 ∧ (trialOf Tryz.zeroCells259 cs (169 + m * 10)).all (·.oneCell') = true := by
  obtain ⟨z1, z2, z3⟩ := zero_trial
  obtain ⟨TV, hTV⟩ : ∃ TV, (cs.extract 8 169).toList = TV := ⟨_, rfl⟩
  obtain ⟨RV, hRV⟩ : ∃ RV, (cs.extract (169 + m * 10) (169 + m * 10 + 10)).toList = RV := ⟨_, rfl⟩
  have hTz : TV.length = 161 := by rw [← hTV, Array.length_toList, Array.size_extract, hG.size]; rfl
  have hRz : RV.length = 10 := by rw [← hRV, Array.length_toList, Array.size_extract, hG.size]; omega
  have hTo : TV.all (·.oneCell') = true := by rw [← hTV, Array.all_toList]; exact ones_extract hG.ones _ _
  have hRo : RV.all (·.oneCell') = true := by rw [← hRV, Array.all_toList]; exact ones_extract hG.ones _ _
  have hones : Ones (trialOf Tryz.zeroCells259 cs (169 + m * 10)) := by
    unfold trialOf
    rw [hTV, hRV]
    exact Ones.putL _ _ (Ones.putL _ _ (ones_of_all z3) hTo) hRo
  have hsz : (trialOf Tryz.zeroCells259 cs (169 + m * 10)).size = 212 := by unfold trialOf; rw [putL_size, putL_size, z1]
  have c1 : ∀ j, j < 161 → (trialOf Tryz.zeroCells259 cs (169 + m * 10))[j]? = cs[8 + j]? := fun j hj => by
    unfold trialOf
    rw [hTV, hRV, putL_out _ _ _ _ (.inl hj)]
    have h0 : TV[j]? = some (TV[j]'(by omega)) := List.getElem?_eq_getElem _
    have := putL_at TV Tryz.zeroCells259 0 (by omega) j _ h0
    rw [Nat.zero_add] at this
    rw [this, ← h0, ← hTV, Array.getElem?_toList, Array.getElem?_extract, if_pos (by rw [hG.size]; show j < 161; exact hj)]
  have c2 : ∀ j, j < 10 → (trialOf Tryz.zeroCells259 cs (169 + m * 10))[161 + j]? = cs[169 + m * 10 + j]? := fun j hj => by
    unfold trialOf
    rw [hTV, hRV]
    have h0 : RV[j]? = some (RV[j]'(by omega)) := List.getElem?_eq_getElem _
    rw [putL_at RV _ 161 (by rw [putL_size]; omega) j _ h0, ← h0, ← hRV, Array.getElem?_toList, Array.getElem?_extract, if_pos (by rw [hG.size]; omega)]
  have c3 : ∀ j, 171 ≤ j → (trialOf Tryz.zeroCells259 cs (169 + m * 10))[j]? = Tryz.zeroCells259[j]? := fun j hj => by
    unfold trialOf
    rw [hTV, hRV, putL_out _ _ _ _ (by omega), putL_out _ _ _ _ (by omega)]
  obtain ⟨T0, hT0⟩ : ∃ T0, trialOf Tryz.zeroCells259 cs (169 + m * 10) = T0 := ⟨_, rfl⟩
  rw [hT0] at c1 c2 c3 hsz hones ⊢
  have hall : T0.all (·.oneCell') = true := Array.all_eq_true_iff_forall_mem.2 fun v hv => by
    obtain ⟨k, hk, rfl⟩ := Array.mem_iff_getElem.1 hv
    exact hones k _ (Array.getElem?_eq_getElem _)
  have e : ∀ j, (putL Tryz.zeroCells259 0 T0.toList)[j]? = T0[j]? := fun j => by
    by_cases hj : j < 212
    · have h0 : T0.toList[j]? = some (T0.toList[j]'(by rw [Array.length_toList]; omega)) := List.getElem?_eq_getElem _
      have := putL_at T0.toList Tryz.zeroCells259 0 (by rw [Array.length_toList]; omega) j _ h0
      rw [Nat.zero_add] at this
      rw [this, ← h0, Array.getElem?_toList]
    · rw [Array.getElem?_eq_none (by rw [putL_size]; omega), Array.getElem?_eq_none (by omega)]
  have hT := hG.tree
  refine ⟨⟨by rw [putL_size, z1], fun j v hv => hones j v (by rw [← e]; exact hv), ⟨hT.len, fun j v hv => ?_, ?_, hT.ok⟩, fun j v hv => ?_, fun i hi j v hv => ?_, ?_⟩, hsz, hall⟩
  · have hj := (List.getElem?_eq_some_iff.1 hv).1
    rw [pcells_len] at hj
    have := hT.len
    rw [Nat.zero_add, e, c1 _ (by omega)]
    exact hT.parts j v hv
  · rw [Nat.zero_add, e, c1 _ (by omega)]; exact hT.count
  · have hj : j < 10 := (List.getElem?_eq_some_iff.1 hv).1
    rw [e, c2 _ hj]
    exact hG.rat m hm j v hv
  · have hj : j < 8 := (List.getElem?_eq_some_iff.1 hv).1
    rw [e, c3 _ (by omega)]
    rw [← zero_keys i hi, Array.getElem?_toList, Array.getElem?_extract, if_pos (by omega)] at hv
    exact hv
  · rw [e, c3 _ (by omega)]; exact z2
/-- the group behind n derivings, the trial ct beside it -/
structure AhAt (w : World) (b bt n : Nat) (cs ct : Array Value) (pl : Obj) (W : World) : Prop where
  out : Outside [b] w W
  home : ∃ cs', Home (some b) b 112 cs' W ∧ Mv (some b) n 0 0 cs cs'
  row : W.heap[bt]? = some (.cells ct 259 (0, 0))
  pl : W.heap[w.heap.size]? = some pl
theorem AhAt.trial {w W : World} {b bt n : Nat} {cs ct : Array Value} {pl : Obj} (h : AhAt w b bt n cs ct pl W) (hs : ct.size = 212) : Home (some b) bt 259 ct W := by
  obtain ⟨cs', hh, _⟩ := h.home
  exact ⟨h.row, .inr (.inr (by rw [hs]; show 212 ≤ 330; omega)), hh.has⟩
theorem AhAt.below {w W W' : World} {b bt n : Nat} {cs ct : Array Value} {pl : Obj} (h : AhAt w b bt n cs ct pl W) (hb : Below W.heap.size W W') : AhAt w b bt n cs ct pl W' := by
  obtain ⟨cs', hh, hm⟩ := h.home
  exact ⟨h.out.below hb, ⟨cs', hh.below hb, hm⟩, by rw [hb.block _ (Array.getElem?_eq_some_iff.1 h.row).1]; exact h.row, by rw [hb.block _ (Array.getElem?_eq_some_iff.1 h.pl).1]; exact h.pl⟩
theorem AhAt.tick {w W W' : World} {b bt n k : Nat} {cs ct : Array Value} {pl : Obj} (h : AhAt w b bt n cs ct pl W) (hbt : bt ≠ b) (hb : b < w.heap.size) (ht : Tick (some b) k W W') : AhAt w b bt (n + k) cs ct pl W' := by
  obtain ⟨cs', hh, hm⟩ := h.home
  obtain ⟨cs2, u⟩ := hh.tick ht
  exact ⟨h.out.trans u.out (fun _ hi _ => hi), ⟨cs2, u.home, hm.trans u.mv⟩, u.out.row h.row (by simpa using hbt), u.out.row h.pl (by simp; omega)⟩
theorem AhAt.upd {w W W' : World} {b bt n k : Nat} {cs ct ct' : Array Value} {pl : Obj} (h : AhAt w b bt n cs ct pl W) (hbt : bt ≠ b) (hb : b < w.heap.size) (hw : w.heap.size < bt) (u : Upd (some b) k bt 0 212 259 ct W W' ct') : AhAt w b bt (n + k) cs ct' pl W' := by
  obtain ⟨cs', hh, hm⟩ := h.home
  obtain ⟨j, hj⟩ := hh.cnt
  have hr := u.tk b rfl (fun e => hbt e.symm) cs' _ j hh.row hj
  have hlt : ctrOff < cs'.size := (Array.getElem?_eq_some_iff.1 hj).1
  have hc : (cs'.setIfInBounds ctrOff (ctr (j + k)))[ctrOff]? = some (ctr (j + k)) := by rw [Array.getElem?_setIfInBounds, if_pos rfl, if_pos hlt]
  refine ⟨h.out.trans u.outq (fun i hi hl => ?_), ⟨_, Home.own hr ⟨_, hc⟩, hm.trans ⟨by rw [Array.size_setIfInBounds], fun i _ hi => ?_, fun _ k' hk' => ?_, fun h0 => h0.set _ _ rfl⟩⟩, u.home.row, u.outq.row h.pl (fun hm => ?_)⟩
  · simp at hi
    rcases hi with rfl | rfl
    · omega
    · simp
  · have := hi (by simp)
    rw [Array.getElem?_setIfInBounds, if_neg (by omega)]
  · rw [hj] at hk'
    rw [hc]
    unfold ctr at hk' ⊢
    simp only [Option.some.injEq, Value.int.injEq, true_and, IntKind.wrap_i64] at hk' ⊢
    push_cast
    omega
  · simp at hm; omega
set_option maxHeartbeats 4000000 in
set_option maxRecDepth 20000 in
theorem ahead_raw {w : World} {b : Nat} {cs : Array Value} {st : St} {wk pm : Nat} {m g : Nat} (ok : st.Ok) (hm : m < st.n) (hle : (st.m m).next ≤ g) (h5 : g - (st.m m).next ≤ 5) (hg : g ≤ 65535)
    (hh : Home (some b) b 112 cs w) (hG : GrpAt cs st wk pm 1) (fb fo c : Nat) (l : List UInt8) (h7 : 7 ≤ l.length) (h47 : l.length ≤ 47) (hc : l.length ≤ c) (hl : ∀ i (h : i < l.length), w.cell? ⟨fb, fo + i, none⟩ = some (cellB l[i])) (hnb : b ≠ fb)
    (R : Nat → World → World → Prop)
    (HSE0 : ∀ W n ct pl, AhAt w b (w.heap.size + 1) n cs ct pl W → TrAt ct (((st.begin m).parts 16 0 st.n).map itPart) (st.ratAt m 0) g (passK (st.ratAt m 0) (st.m m).next (g - (st.m m).next)) → Ones ct → Calls Tryz.prog 154 #[.pointer (some ⟨b, 0, none⟩), .pointer (some ⟨w.heap.size + 1, 0, none⟩), .agg #[.int .i64 m, .int .i64 g]] W fun e w' => e = .returned (.tuple #[]) ∧ R n W w')
    (hR : ∀ n W W', R n W W' → (∀ k, w.heap.size ≤ k → k < W.heap.size → k ≠ w.heap.size + 1 → W'.heap[k]? = W.heap[k]?) ∧ ∃ ct', W'.heap[w.heap.size + 1]? = some (.cells ct' 259 (0, 0)) ∧ ct'.size = 212) :
    Calls Tryz.prog 126 #[.pointer (some ⟨b, 0, none⟩), .agg #[.int .i64 m, .int .i64 g], .slice (some ⟨fb, fo, none⟩) l.length c] w fun e w' => ∃ n kb W ct pl, (0 < n ∧ n ≤ 2 * DepB 16 st.n m + 1 + 2 * (g - (st.m m).next) + 1 + (l.length / 8 + 1)) ∧ AhAt w b (w.heap.size + 1) n cs ct pl W ∧ w.heap.size + 1 < kb ∧ kb < W.heap.size ∧
      ((OpenOk (st.keyAt m g) (l.take 3) (l.drop 3) = false ∧ e = .returned (.tuple #[.slice none 0 0, faultV 7 strSeal]) ∧ w' = (W.setRow kb (Cells8 fun _ => 0)).setRow (w.heap.size + 1) Tryz.zeroCells259) ∨
       (OpenOk (st.keyAt m g) (l.take 3) (l.drop 3) = true ∧ ∃ f W', e = .returned (.tuple #[.slice (some ⟨f, 0, none⟩) (l.length - 7) (l.length - 7), .nilIface]) ∧ w.heap.size + 1 < f ∧ f < W.heap.size ∧ f ≠ kb ∧ W.heap[f]? = some (.cells (RowB (OpenT (st.keyAt m g) (l.drop 3)) (l.length - 7)) 5 (0, 0)) ∧ R n W W' ∧ w' = (W'.setRow kb (Cells8 fun _ => 0)).setRow (w.heap.size + 1) Tryz.zeroCells259)) := by
  have h16 : m < 16 := by have := ok.n16; omega
  have ix := ratIndex b m h16
  obtain ⟨P, hP⟩ : ∃ P, 169 + m * 10 = P := ⟨_, rfl⟩
  rw [hP] at ix
  obtain ⟨M, hM⟩ : ∃ M : Int, (m : Int) = M := ⟨_, rfl⟩
  obtain ⟨G, hGG⟩ : ∃ G : Int, (g : Int) = G := ⟨_, rfl⟩
  rw [hM] at ix
  rw [hM, hGG]
  obtain ⟨w1, hw1⟩ : ∃ w1, w.alloc (.cells #[.int .i64 M, .int .i64 G] 123) = w1 := ⟨_, rfl⟩
  have b1 : Below w.heap.size w w1 := by rw [← hw1]; exact (Below.refl _ w).alloc (Nat.le_refl _) _
  have k1 : w1.heap[w.heap.size]? = some (.cells #[.int .i64 M, .int .i64 G] 123 (0, 0)) := by rw [← hw1]; exact (MapKept.heap_alloc _ _).1
  have z1 : w1.heap.size = w.heap.size + 1 := by rw [← hw1]; simp
  obtain ⟨TV, hTV⟩ : ∃ TV, cs.extract 8 169 = TV := ⟨_, rfl⟩
  obtain ⟨RV, hRV⟩ : ∃ RV, cs.extract P (P + 10) = RV := ⟨_, rfl⟩
  have hTz : TV.size = 161 := by rw [← hTV, Array.size_extract, hG.size]; rfl
  have hRz : RV.size = 10 := by rw [← hRV, Array.size_extract, hG.size]; omega
  have hTi : (Tryz.prog.info? 102).map (·.size) = some TV.toList.length := by rw [Array.length_toList, hTz]; kernel_rfl
  have hRi : (Tryz.prog.info? 104).map (·.size) = some RV.toList.length := by rw [Array.length_toList, hRz]; kernel_rfl
  obtain ⟨tb, ts, tn⟩ := trial_facts hG h16
  rw [hP] at tb ts tn
  have eT : trialOf Tryz.zeroCells259 cs P = putL (putL Tryz.zeroCells259 0 TV.toList) 161 RV.toList := by unfold trialOf; rw [hTV, hRV]
  obtain ⟨T0, hT0⟩ : ∃ T0, trialOf Tryz.zeroCells259 cs P = T0 := ⟨_, rfl⟩
  rw [hT0] at tb ts tn eT
  obtain ⟨zt1, _, _⟩ := zero_trial
  have HF0 : Hid (Array.foldl (fun (cs : Array Value) (x : Value × Nat) => cs.setIfInBounds x.snd x.fst) Tryz.zeroCells259 TV.zipIdx 0 161 = putL Tryz.zeroCells259 0 TV.toList ∧ (∀ Z, Array.foldl (fun (cs : Array Value) (x : Value × Nat) => cs.setIfInBounds (161 + x.snd) x.fst) Z RV.zipIdx 0 10 = putL Z 161 RV.toList) ∧ (putL Tryz.zeroCells259 0 TV.toList).size = 212 ∧ T0 = putL (putL Tryz.zeroCells259 0 TV.toList) 161 RV.toList) := ⟨fold_put0 _ TV 161 hTz, fun Z => fold_putO Z RV 161 10 hRz, by rw [putL_size, zt1], eT⟩
  have HS : Hid (∀ W, Below w1.heap.size w1 W → W.rangeAt b 8 TV.toList ∧ W.rangeAt b P RV.toList ∧ W.cell? ⟨w.heap.size, 0, none⟩ = some (.int .i64 M)) := fun W hW => by
    have hr : W.heap[b]? = some (.cells cs 112 (0, 0)) := by rw [hW.block b (by have := hh.lt; omega), b1.block b hh.lt]; exact hh.row
    refine ⟨by rw [← hTV]; exact World.rangeAt_of_block hr 8 161, by rw [← hRV]; exact World.rangeAt_of_block hr P 10, ?_⟩
    have hq : W.heap[w.heap.size]? = some (.cells #[.int .i64 M, .int .i64 G] 123 (0, 0)) := by rw [hW.block _ (by omega)]; exact k1
    rw [cell_of_row _ _ _ _ _ _ hq]; rfl
  obtain ⟨CT, hCT⟩ : ∃ CT, putL Tryz.zeroCells259 0 T0.toList = CT := ⟨_, rfl⟩
  rw [hCT] at tb
  obtain ⟨wA, hwA⟩ : ∃ wA, w1.drew.alloc (.cells Tryz.zeroCells259 259) = wA := ⟨_, rfl⟩
  obtain ⟨w2, hw2⟩ : ∃ w2, wA.setCells w1.heap.size 0 T0.toList = w2 := ⟨_, rfl⟩
  have hrA : wA.heap[w1.heap.size]? = some (.cells Tryz.zeroCells259 259 (0, 0)) := by rw [← hwA]; exact (MapKept.heap_alloc w1.drew _).1
  have bA : Below w1.heap.size w1 wA := by rw [← hwA]; exact ((Below.refl _ w1).drew).alloc (Nat.le_refl _) _
  have e2 : w2 = wA.setRow w1.heap.size CT := by rw [← hw2, setCells_row _ wA w1.heap.size 0 _ _ hrA, hCT]
  have b2 : Below w1.heap.size w1 w2 := by rw [e2]; exact below_setRow bA (Nat.le_refl _) _
  have r2 : w2.heap[w1.heap.size]? = some (.cells CT 259 (0, 0)) := by rw [e2]; exact setRow_heap _ _ _ _ _ _ hrA
  have HZA : Hid (Below w1.heap.size w1 wA ∧ wA.there w1.heap.size 0 T0.size ∧ (Tryz.prog.info? 259).map (·.size) = some T0.size ∧ T0.all (·.oneCell') = true ∧ wA.setCells w1.heap.size 0 T0.toList = w2 ∧ Below w1.heap.size w1 w2) :=
    ⟨bA, fun j hj => by
      rw [Nat.zero_add, cell_of_row _ _ _ _ _ _ hrA, Array.getElem?_eq_getElem (by omega)]
      exact ⟨rfl, by simp [World.frozen?, hrA]⟩, by rw [ts]; kernel_rfl, tn, hw2, b2⟩
  have HA2 : Hid (AhAt w b w1.heap.size 0 cs CT (.cells #[.int .i64 M, .int .i64 G] 123 (0, 0)) w2 ∧ TrBeg CT st m ∧ b < w.heap.size ∧ w.heap.size < w1.heap.size ∧ w1.heap.size ≠ b) :=
    ⟨⟨(Outside.ofBelow b1).below b2, ⟨cs, (hh.below b1).below b2, Mv.refl _ _ _ _⟩, r2, by rw [b2.block _ (by omega)]; exact k1⟩, tb, hh.lt, by omega, by have := hh.lt; omega⟩
  have hfl : fb < w.heap.size := block_lt_of_cell (hl 0 (by omega))
  obtain ⟨pl, hpl⟩ : ∃ pl : Obj, pl = .cells #[.int .i64 M, .int .i64 G] 123 (0, 0) := ⟨_, rfl⟩
  rw [← hpl] at HA2
  obtain ⟨bt, hbt⟩ : ∃ bt, w1.heap.size = bt := ⟨_, rfl⟩
  rw [z1.symm.trans hbt] at HSE0 hR ⊢
  rw [hbt] at HA2
  have hb0 := hh.lt
  have hwt : w.heap.size < bt := by omega
  have hne : bt ≠ b := by omega
  have hkbd : ∀ i, 0 ≤ st.keyAt m g i ∧ st.keyAt m g i < 256 := DerB_bd _ _ _
  obtain ⟨tp, htp⟩ : ∃ tp, ((st.begin m).parts 16 0 st.n).map itPart = tp := ⟨_, rfl⟩
  obtain ⟨ks, hks⟩ : ∃ ks, passK (st.ratAt m 0) (st.m m).next (g - (st.m m).next) = ks := ⟨_, rfl⟩
  obtain ⟨N1, hN1⟩ : ∃ N1, 2 * DepB 16 st.n m + 1 + 2 * (g - (st.m m).next) = N1 := ⟨_, rfl⟩
  have HUP : Hid (∀ W, AhAt w b bt 0 cs CT pl W → Calls Tryz.prog 153 #[.pointer (some ⟨bt, 0, none⟩), .agg #[.int .i64 M, .int .i64 G], .func (.func 46) #[.pointer (some ⟨b, 0, none⟩)] #[]] W fun e w' => e = .returned (.tuple #[]) ∧ ∃ ct n, Hid (n ≤ N1 ∧ AhAt w b bt n cs ct pl w' ∧ TrAt ct tp (st.ratAt m 0) g ks ∧ Ones ct)) := fun W hW => by
    have h := upTo_any (derive_g b) ok m g hm hle hg h5 bt CT tb.size tb.tree tb.rat tb.zero tb.cnt W (hW.trial tb.size)
    rw [hM, hGG, htp, hks, hN1] at h
    refine h.mono fun e w' ⟨h1, ct, n, h2, h3, h4⟩ => ⟨h1, ct, n, h2, ?_, h4, h3.mv.one tb.ones⟩
    have := hW.upd hne hb0 hwt h3
    rwa [Nat.zero_add] at this
  have HKY : Hid (∀ W n ct, AhAt w b bt n cs ct pl W → TrAt ct tp (st.ratAt m 0) g ks → Calls Tryz.prog 47 #[.pointer (some ⟨bt, 161, none⟩), .func (.func 46) #[.pointer (some ⟨b, 0, none⟩)] #[]] W fun e w' => e = .returned (Agg8 (st.keyAt m g)) ∧ Hid (AhAt w b bt (n + 1) cs ct pl w')) := fun W n ct hW hT => (rkey_any (derive_g b) g true (RatB (st.ratAt m 0) g) (RatB_bd _ (DerB_bd _ _ _) _) bt 161 _ ct W (hW.trial hT.size) hT.rat).mono fun e w' ⟨h1, h2⟩ => ⟨h1, hW.tick hne hb0 h2⟩
  have HOF : Hid (∀ W n ct, AhAt w b bt n cs ct pl W → Calls Tryz.prog 151 #[.slice (some ⟨fb, fo, none⟩) l.length c, Agg8 (st.keyAt m g), .func (.func 46) #[.pointer (some ⟨b, 0, none⟩)] #[]] W fun e w' => ∃ k, Hid (k ≤ l.length / 8 + 1 ∧ AhAt w b bt (n + k) cs ct pl w' ∧ Outside [b] W w') ∧ ((OpenOk (st.keyAt m g) (l.take 3) (l.drop 3) = false ∧ e = .returned (.tuple #[.slice none 0 0, faultV 7 strSeal])) ∨ (OpenOk (st.keyAt m g) (l.take 3) (l.drop 3) = true ∧ ∃ f, e = .returned (.tuple #[.slice (some ⟨f, 0, none⟩) (l.length - 7) (l.length - 7), .nilIface]) ∧ Hid (W.heap.size ≤ f ∧ w'.heap[f]? = some (.cells (RowB (OpenT (st.keyAt m g) (l.drop 3)) (l.length - 7)) 5 (0, 0)))))) := fun W n ct hW => by
    obtain ⟨cs', hh', _⟩ := hW.home
    refine (openFrame_any (derive_g b) (st.keyAt m g) hkbd fb fo c l h7 h47 hc W (fun i hi => ?_) hh'.has (by simp; exact hnb)).mono fun e w' ⟨⟨k, hk, ht⟩, h2⟩ => ⟨k, ⟨hk.2, hW.tick hne hb0 ht, ?_⟩, ?_⟩
    · rw [← hl i hi]
      exact World.cell?_of_block (w := w) (hW.out.block fb hfl (by simp; exact fun e => hnb e.symm))
    · obtain ⟨cs2, u⟩ := hh'.tick ht
      exact u.out
    · rcases h2 with h2 | ⟨h2, f, h3, h4, h5⟩
      · exact .inl h2
      · exact .inr ⟨h2, f, h3, h4, h5⟩
  have HSE : Hid (∀ W n ct, AhAt w b bt n cs ct pl W → TrAt ct tp (st.ratAt m 0) g ks → Ones ct → Calls Tryz.prog 154 #[.pointer (some ⟨b, 0, none⟩), .pointer (some ⟨bt, 0, none⟩), .agg #[.int .i64 M, .int .i64 G]] W fun e w' => e = .returned (.tuple #[]) ∧ Hid (R n W w')) := fun W n ct h1 h2 h3 => by
    rw [← htp, ← hks] at h2
    have h := HSE0 W n ct pl h1 h2 h3
    rw [hM, hGG] at h
    exact h
  have HR : Hid (∀ n W W', R n W W' → (∀ k, w.heap.size ≤ k → k < W.heap.size → k ≠ bt → W'.heap[k]? = W.heap[k]?) ∧ ∃ ct', W'.heap[bt]? = some (.cells ct' 259 (0, 0)) ∧ ct'.size = 212) := hR
  rw [hN1]
  obtain ⟨OK, hOK⟩ : ∃ OK, OpenOk (st.keyAt m g) (l.take 3) (l.drop 3) = OK := ⟨_, rfl⟩
  obtain ⟨TX, hTX⟩ : ∃ TX, RowB (OpenT (st.keyAt m g) (l.drop 3)) (l.length - 7) = TX := ⟨_, rfl⟩
  rw [hOK, hTX] at HOF ⊢
  obtain ⟨K, hK⟩ : ∃ K, st.keyAt m g = K := ⟨_, rfl⟩
  rw [hK] at HKY HOF
  obtain ⟨N7, hN7⟩ : ∃ N7, l.length - 7 = N7 := ⟨_, rfl⟩
  obtain ⟨N8, hN8⟩ : ∃ N8, l.length / 8 + 1 = N8 := ⟨_, rfl⟩
  rw [hN7, hN8] at HOF ⊢
  obtain ⟨LL, hLL⟩ : ∃ LL, l.length = LL := ⟨_, rfl⟩
  rw [hLL] at HOF ⊢
  have HBT : Hid (w1.heap.size = bt ∧ w.heap.size < bt ∧ bt ≠ b ∧ b < w.heap.size) := ⟨hbt, hwt, hne, hb0⟩
  have HPL : Hid (pl = .cells #[.int .i64 M, .int .i64 G] 123 (0, 0)) := hpl
  have HSZ : Hid (∀ ct, TrAt ct tp (st.ratAt m 0) g ks → ct.size = 212) := fun ct h => h.size
  have hA2 : ∀ o, w2.cell? ⟨w.heap.size, o, none⟩ = #[Value.int .i64 M, .int .i64 G][o]? := fun o => by
    have h := HA2.out.1.pl
    rw [hpl] at h
    exact cell_of_row _ _ _ _ _ _ h
  have HAC : Hid (∀ W n ct, AhAt w b bt n cs ct pl W → ∀ o, W.cell? ⟨w.heap.size, o, none⟩ = #[Value.int .i64 M, .int .i64 G][o]?) := fun W n ct hW o => by
    have h := hW.pl
    rw [hpl] at h
    exact cell_of_row _ _ _ _ _ _ h
  have hmf : ∀ (fn : Fn) (first cap : Array Value) (w : World), (Instr.makeFunc fn first cap).run Tryz.prog w = .ok (.func fn first cap) w := fun _ _ _ _ => rfl
  clear hle h5 hg h7 h47 hc hnb HSE0 hR hfl hbt hwt hne hkbd htp hks hN1 hOK hTX hK hN7 hN8 hLL hpl hb0 h16 hm
  have HW1 : Hid (w.alloc (.cells #[.int .i64 M, .int .i64 G] 123) = w1) := hw1
  rw [hwA.symm] at HZA
  clear hw1 b1 k1 hTV hRV hP hM hGG hG hh hl tb ts tn eT hT0 hCT hwA hw2 hrA bA e2 b2 r2 zt1
  refine calls_of_wpM Tryz.func126 rfl ?_
  simp only [Tryz.ntmps126, List.size_toArray, List.length_cons, List.length_nil, Nat.reduceAdd, Nat.reduceSub, Array.replicate_succ,
     Array.replicate_zero, List.push_toArray, List.append_toArray, List.nil_append, List.cons_append]
  go_upto_region 1 with fail
  rw [HW1.out]
  refine wp_region_held_drew (S := fun W => Below w1.heap.size w1 W) (by kernel_rfl) ((Below.refl _ w1).drew) (fun hHeld => ?_)
  change wpAnyH _ _ _ _ _ 14 _ _ _
  refine take1 (i := 0) (v := .pointer (some ⟨b, 0, none⟩)) rfl (by kernel_rfl) (by kernel_rfl) (by kernel_rfl) (fun _ _ _ h => h) hHeld (fun W hS => (by clear hHeld; go_simp)) ?_
  simp only [Act.put, List.setIfInBounds_toArray, List.set_cons_zero, List.set_cons_succ]
  refine take1 (i := 1) (v := .pointer (some ⟨b, 0, none⟩)) rfl (by kernel_rfl) (by kernel_rfl) (by kernel_rfl) (fun _ _ _ h => h) hHeld (fun W hS => (by clear hHeld; go_simp)) ?_
  simp only [Act.put, List.setIfInBounds_toArray, List.set_cons_zero, List.set_cons_succ]
  refine take1 (i := 2) (v := .pointer (some ⟨b, 8, none⟩)) rfl (by kernel_rfl) (by kernel_rfl) (by kernel_rfl) (fun _ _ _ h => h) hHeld (fun W hS => (by clear hHeld; go_simp)) ?_
  simp only [Act.put, List.setIfInBounds_toArray, List.set_cons_zero, List.set_cons_succ]
  refine load1 (i := 3) rfl (by kernel_rfl) (by kernel_rfl) (by kernel_rfl) TV (fun _ _ _ h => h) hHeld b 8 rfl _ (fun W hS => (HS.out W hS).1) Tryz.underlying102 rfl hTi ?_
  simp only [Act.put, List.setIfInBounds_toArray, List.set_cons_zero, List.set_cons_succ]
  refine take1 (i := 4) (v := .pointer (some ⟨b, 0, none⟩)) rfl (by kernel_rfl) (by kernel_rfl) (by kernel_rfl) (fun _ _ _ h => h) hHeld (fun W hS => (by clear hHeld; go_simp)) ?_
  simp only [Act.put, List.setIfInBounds_toArray, List.set_cons_zero, List.set_cons_succ]
  refine take1 (i := 5) (v := .pointer (some ⟨w.heap.size, 0, none⟩)) rfl (by kernel_rfl) (by kernel_rfl) (by kernel_rfl) (fun _ _ _ h => h) hHeld (fun W hS => (by clear hHeld; go_simp)) ?_
  simp only [Act.put, List.setIfInBounds_toArray, List.set_cons_zero, List.set_cons_succ]
  refine take1 (i := 6) (v := .int .i64 M) rfl (by kernel_rfl) (by kernel_rfl) (by kernel_rfl) (fun _ _ _ h => h) hHeld (fun W hS => (by have hc := (HS.out W hS).2.2; clear hHeld; go_simp)) ?_
  simp only [Act.put, List.setIfInBounds_toArray, List.set_cons_zero, List.set_cons_succ]
  refine take1 (i := 7) (v := .pointer (some ⟨b, 0, none⟩)) rfl (by kernel_rfl) (by kernel_rfl) (by kernel_rfl) (fun _ _ _ h => h) hHeld (fun W hS => (by clear hHeld; go_simp)) ?_
  simp only [Act.put, List.setIfInBounds_toArray, List.set_cons_zero, List.set_cons_succ]
  refine take1 (i := 8) (v := .pointer (some ⟨b, 169, none⟩)) rfl (by kernel_rfl) (by kernel_rfl) (by kernel_rfl) (fun _ _ _ h => h) hHeld (fun W hS => (by clear hHeld; go_simp)) ?_
  simp only [Act.put, List.setIfInBounds_toArray, List.set_cons_zero, List.set_cons_succ]
  refine take1 (i := 9) (v := .pointer (some ⟨b, P, none⟩)) rfl (by kernel_rfl) (by kernel_rfl) (by kernel_rfl) (fun _ _ _ h => h) hHeld (fun W hS => (by clear hHeld; go_simp)) ?_
  simp only [Act.put, List.setIfInBounds_toArray, List.set_cons_zero, List.set_cons_succ]
  refine load1 (i := 10) rfl (by kernel_rfl) (by kernel_rfl) (by kernel_rfl) RV (fun _ _ _ h => h) hHeld b P rfl _ (fun W hS => (HS.out W hS).2.1) Tryz.underlying104 rfl hRi ?_
  simp only [Act.put, List.setIfInBounds_toArray, List.set_cons_zero, List.set_cons_succ]
  refine take1 (i := 11) (v := .agg T0) rfl (by kernel_rfl) (by kernel_rfl) (by kernel_rfl) (fun _ _ _ h => h) hHeld (fun W hS => (by clear hHeld; go_simp; rw [HF0.out.1, HF0.out.2.1, HF0.out.2.2.1, if_neg (by omega), ← HF0.out.2.2.2]; rfl)) ?_
  simp only [Act.put, List.setIfInBounds_toArray, List.set_cons_zero, List.set_cons_succ]
  refine step1 (i := 12) (by kernel_rfl) rfl (.pointer (some ⟨w1.heap.size, 0, none⟩)) (w1.drew.alloc (.cells Tryz.zeroCells259 259)) (by clear hHeld; go_simp) HZA.out.1 ?_
  simp only [Act.put, List.setIfInBounds_toArray, List.set_cons_zero, List.set_cons_succ]
  refine store1 (i := 13) (by kernel_rfl) rfl w1.heap.size 0 T0 rfl rfl HZA.out.2.1 HZA.out.2.2.1 HZA.out.2.2.2.1 w2 HZA.out.2.2.2.2.1 HZA.out.2.2.2.2.2 ?_
  refine wpAnyH_done (by kernel_rfl) ?_ _
  clear hHeld HS HF0 hTi hRi ix hTz hRz HZA HW1
  rw [HBT.out.1]
  go_wp2_with fail
  refine (HUP.out _ HA2.out.1).mono ?_
  rintro e w3 ⟨rfl, ct3, n3, hx3⟩
  have hA3 := HAC.out w3 n3 ct3 hx3.out.2.1
  clear HUP HA2 hA2
  go_wp2_with fail
  refine (HKY.out _ n3 ct3 hx3.out.2.1 hx3.out.2.2.1).mono ?_
  rintro e w4 ⟨rfl, hx4⟩
  obtain ⟨w5, hw5⟩ : ∃ w5, w4.alloc (.cells (Cells8 K) 51) = w5 := ⟨_, rfl⟩
  have b5 : Below w4.heap.size w4 w5 := by rw [← hw5]; exact (Below.refl _ w4).alloc (Nat.le_refl _) _
  have k5 : w5.heap[w4.heap.size]? = some (.cells (Cells8 K) 51 (0, 0)) := by rw [← hw5]; exact (MapKept.heap_alloc _ _).1
  obtain ⟨kc5, _⟩ := row_facts k5
  have hx5 : Hid (AhAt w b bt (n3 + 1) cs ct3 pl w5) := hx4.out.below b5
  have hA5 := HAC.out w5 _ ct3 hx5.out
  have HK5 : Hid (w5.heap[w4.heap.size]? = some (.cells (Cells8 K) 51 (0, 0)) ∧ bt < w4.heap.size) := ⟨k5, (Array.getElem?_eq_some_iff.1 hx4.out.row).1⟩
  have HW5 : Hid (w4.alloc (.cells (Cells8 K) 51) = w5) := hw5
  clear HKY hA3 b5 k5 hw5 hx4
  go_wp2_with (rw [HW5.out])
  refine (HOF.out _ (n3 + 1) ct3 hx5.out).mono ?_
  rintro e w6 ⟨k6, hx6, hcase⟩
  have HK6 : Hid (w6.heap[w4.heap.size]? = some (.cells (Cells8 K) 51 (0, 0)) ∧ w4.heap.size < w6.heap.size ∧ w4.heap.size < w5.heap.size) := by
    have hb := HBT.out
    have h1 := HK5.out
    have hlt := (Array.getElem?_eq_some_iff.1 h1.1).1
    exact ⟨hx6.out.2.2.row h1.1 (by simp; omega), by have := hx6.out.2.2.size; omega, hlt⟩
  have HN : Hid (0 < n3 + 1 + k6 ∧ n3 + 1 + k6 ≤ N1 + 1 + N8) := by have h1 := hx3.out.1; have h2 := hx6.out.1; exact ⟨by omega, by omega⟩
  rcases hcase with ⟨ho, rfl⟩ | ⟨ho, f, rfl, hf⟩
  · clear HOF HSE HR kc5 hA5
    go_wp2_with fail
    refine .inl ⟨_, _, _, _, _, _, rfl, clear_door w4.heap.size K w6 _ HK6.out.1 _ _, ?_⟩
    obtain ⟨w7, hw7⟩ : ∃ w7, w6.setRow w4.heap.size (Cells8 fun _ => 0) = w7 := ⟨_, rfl⟩
    show LeavesM _ _ _ _ _ (w6.setRow w4.heap.size (Cells8 fun _ => 0))
    rw [hw7]
    have r7 : w7.heap[bt]? = some (.cells ct3 259 (0, 0)) := by rw [← hw7, setRow_other _ _ _ _ (by have := HK5.out.2; omega)]; exact hx6.out.2.1.row
    refine .inr ⟨_, _, 152, #[.pointer (some ⟨bt, 0, none⟩)], rfl, by simp [go_sem], (tforget_wp bt ct3 (HSZ.out ct3 hx3.out.2.2.1) w7 r7).mono fun e u' w' ⟨h1, h2, h3⟩ => ⟨h1, h2, _, by simp [results, Tryz.results126, go_sem], n3 + 1 + k6, w4.heap.size, w6, ct3, pl, HN.out, hx6.out.2.1, HK5.out.2, HK6.out.2.1, .inl ⟨ho, rfl, ?_⟩⟩⟩
    rw [h3, hw7]
  · have hA6 := HAC.out w6 _ ct3 hx6.out.2.1
    clear HOF kc5 hA5
    go_wp2_with fail
    refine (HSE.out _ _ ct3 hx6.out.2.1 hx3.out.2.2.1 hx3.out.2.2.2).mono ?_
    rintro e w8 ⟨rfl, hr8⟩
    have HR8 : Hid (w8.heap[w4.heap.size]? = some (.cells (Cells8 K) 51 (0, 0)) ∧ ∃ ct', w8.heap[bt]? = some (.cells ct' 259 (0, 0)) ∧ ct'.size = 212) := by
      obtain ⟨x1, x2⟩ := HR.out _ _ _ hr8.out
      have hb := HBT.out
      have h5 := HK5.out
      have h6 := HK6.out
      exact ⟨by rw [x1 _ (by omega) h6.2.1 (by omega)]; exact h6.1, x2⟩
    clear HSE HR hA6
    go_wp2_with fail
    refine .inl ⟨_, _, _, _, _, _, rfl, clear_door w4.heap.size K w8 _ HR8.out.1 _ _, ?_⟩
    obtain ⟨w9, hw9⟩ : ∃ w9, w8.setRow w4.heap.size (Cells8 fun _ => 0) = w9 := ⟨_, rfl⟩
    show LeavesM _ _ _ _ _ (w8.setRow w4.heap.size (Cells8 fun _ => 0))
    rw [hw9]
    obtain ⟨ct', r8, z8⟩ := HR8.out.2
    have r9 : w9.heap[bt]? = some (.cells ct' 259 (0, 0)) := by rw [← hw9, setRow_other _ _ _ _ (by have := HK5.out.2; omega)]; exact r8
    have hfw : f < w6.heap.size := (Array.getElem?_eq_some_iff.1 hf.out.2).1
    have hfk : w4.heap.size < f := by have := hf.out.1; have := HK6.out.2.2; omega
    refine .inr ⟨_, _, 152, #[.pointer (some ⟨bt, 0, none⟩)], rfl, by simp [go_sem], (tforget_wp bt ct' z8 w9 r9).mono fun e u' w' ⟨h1, h2, h3⟩ => ⟨h1, h2, _, by simp [results, Tryz.results126, go_sem], n3 + 1 + k6, w4.heap.size, w6, ct3, pl, HN.out, hx6.out.2.1, HK5.out.2, HK6.out.2.1, .inr ⟨ho, f, w8, rfl, by have := HK5.out.2; omega, hfw, by omega, hf.out.2, hr8.out, ?_⟩⟩⟩
    rw [h3, hw9]
end Go.Proofs.YtkpebabbnndopaaGreatDoor
