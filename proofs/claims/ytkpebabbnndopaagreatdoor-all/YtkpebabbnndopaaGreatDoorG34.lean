import Derived.Test.YtkpebabbnndopaaGreatDoorG33
import Derived.Test.YtkpebabbnndopaaGreatDoorG14
import Derived.Test.YtkpebabbnndopaaGreatDoorC11
import Derived.Test.YtkpebabbnndopaaGreatDoorG10
import Derived.Test.YtkpebabbnndopaaGreatDoorC08
import Derived.WalkKit
import Derived.WalkSpells
import Derived.WalkLawsBesides
import Derived.Deep.WholeRow
import Derived.Deep.MidRow
import Derived.Deep.LoopGhost
/- Dump. -/
namespace Go.Proofs.YtkpebabbnndopaaGreatDoor
open Go.RowKit
set_option linter.unusedVariables false
set_option linter.unusedSimpArgs false

/-- append of one item: what is not the list's own block stays -/
theorem its_append2 (w : World) (base : Nat) (v : Value) (l : List It) (x : It) (h : Its w base v l) (hb : base ≤ w.heap.size) (hl : l.length + 1 ≤ 1000) (ty : TypeId) :
    ∃ v' w', (Builtin.append_ #[45, 45] ty #[v, .slice (some ⟨w.heap.size, 0, none⟩) 1 1]).run Tryz.prog (w.alloc (.cells x.cells.toArray 53)) = .ok v' w' ∧ Its w' base v' (l ++ [x]) ∧ Below base w w' ∧ w.heap.size ≤ w'.heap.size ∧ (∀ k, k < w.heap.size → v.ownBlock ≠ some k → w'.heap[k]? = w.heap[k]?) ∧ (v'.ownBlock = v.ownBlock ∨ v'.ownBlock = some (w.heap.size + 1)) := by
  have h2 := Its.one w base hb x
  have h1 := h.below ((Below.refl _ w).alloc (Nat.le_refl _) (.cells x.cells.toArray 53))
  have hi : (Tryz.prog.info? 53).map (fun i => (i.zero, i.size, i.bytes)) = some (some (.agg #[.int .i64 0, .int .i64 0, .int .i64 0, .int .i64 0, .int .u8 0, .int .u8 0, .int .u8 0, .int .u8 0, .int .u8 0, .int .u8 0, .int .u8 0, .int .u8 0]), 12, 40) := by kernel_rfl
  cases hq : Tryz.prog.info? 53 with
  | none => rw [hq] at hi; simp at hi
  | some i =>
    rw [hq] at hi
    simp at hi
    obtain ⟨hz, hs, hby⟩ := hi
    obtain ⟨v', w', hr, ho, hg, _, hbk⟩ := run_append_own_at (P := Tryz.prog) _ base 45 ty 53 i _ 12 40 Tryz.underlying45 hq hz hs hby rfl (by omega) v l.length (itCells l) h1 ⟨w.heap.size, 0, none⟩ 1 1 (itCells [x]) (itCells_length [x])
      (fun j u hj => by
        have ea : (⟨w.heap.size, 0, none⟩ : Addr).add j = ⟨w.heap.size, j, none⟩ := by unfold Addr.add; split <;> simp_all
        rw [ea]
        exact h2.cells.2 j u hj) (itCells_one [x]) (by unfold maxLen; omega) (by omega) (by simp; omega)
    have hsz : w.heap.size + 1 ≤ w'.heap.size := by have := hg.size; simpa using this
    have blk : ∀ k, k < w.heap.size → v.ownBlock ≠ some k → w'.heap[k]? = w.heap[k]? := fun k hk hne => by
      rw [hg.block k (by simp; omega) (fun e => hne e.symm), Below.heap_alloc _ _ _ (by omega)]
    refine ⟨v', w', hr, ?_, ?_, by omega, blk, by simpa using hbk⟩
    · unfold Its
      rw [List.length_append, itCells_append]
      exact ho
    · refine ⟨hg.os, hg.tape, hg.output, by omega, fun k hk => blk k (by omega) (fun e => ?_)⟩
      rcases h.2 with ⟨e1, _⟩ | ⟨g', cap', cur, e1, e2, _⟩
      · subst e1; cases e
      · subst e1
        have : g' = k := by simpa [Value.ownBlock] using e
        omega
theorem Its.block {w : World} {base : Nat} {v : Value} {l : List It} (h : Its w base v l) (k : Nat) (hk : v.ownBlock = some k) : k < w.heap.size := by
  rcases h.2 with ⟨e1, _⟩ | ⟨g', cap', cur, e1, e2, e3, _⟩
  · subst e1; cases hk
  · subst e1
    have : g' = k := by simpa [Value.ownBlock] using hk
    subst this
    exact (Array.getElem?_eq_some_iff.1 e3).1
/-- what the walk of the last loop holds: below n all is as in w, and the place lies in its block -/
def SD (n : Nat) (w : World) (p : Nat) (cs : Array Value) (W : World) : Prop := Below n w W ∧ W.heap[p]? = some (.cells cs 123 (0, 0))
theorem SD.below {n p : Nat} {cs : Array Value} {w W0 W : World} (h : SD n w p cs W0) (hW : Below w.heap.size w W) (hs : n ≤ w.heap.size ∧ p < w.heap.size) (h0 : w.heap[p]? = some (.cells cs 123 (0, 0)) := by assumption) : SD n w p cs W := ⟨hW.mono hs.1, by rw [hW.block p hs.2]; exact h0⟩
/-- a place's key as an item -/
def itG (key : PlI → Nat → Int) (x : PlI) : It := ⟨2, x.1.toNat, x.1.toNat + 1, x.2.toNat, key x⟩
set_option maxHeartbeats 4000000 in
set_option maxRecDepth 20000 in
theorem gdump {b pm : Nat} {cs : Array Value} {w0 : World} {L : List It} {bg : Nat → Bool} {nx : Nat → Nat} {ss : Nat → Nat → Int} {KL : List PlI} {B : PlI → Nat} {key : PlI → Nat → Int}
    (hlk : cs[0]? = some (i32 0)) (hT : TreeAt cs 8 (L.map itPart)) (hnode : ∀ x ∈ L, x = ⟨0, x.f, x.t, 0, x.s⟩) (hR : ∀ i, i < 16 → RatAt cs (169 + i * 10) (bg i) (nx i) (ss i)) (hnx : ∀ i, nx i ≤ 65536)
    (hpm : cs[329]? = some (.map (some pm))) (hk : KeepAt w0 pm KL B key) (hkl : KL.length ≤ 100) (hkp : ∀ x, x ∈ KL → ∃ m g : Nat, m < 16 ∧ x = ((m : Int), (g : Int))) (hpb : pm ≠ b) (hBb : ∀ x, x ∈ KL → B x ≠ b) (h0 : Home (some b) b 112 cs w0) :
    Calls Tryz.prog 21 #[.pointer (some ⟨b, 0, none⟩)] w0 fun e w' => ∃ v, e = .returned v ∧ Outside [b] w0 w' ∧ w'.heap[b]? = w0.heap[b]? ∧ Its w' w0.heap.size v (L ++ headsG bg nx ss 16 ++ (sortP KL).map (itG key)) := by
  have hll : L.length ≤ 16 := by have := hT.len; rwa [List.length_map] at this
  -- the mutex is taken
  obtain ⟨w, hw⟩ : ∃ w, w0.setRow b (cs.setIfInBounds 0 (i32 1)) = w := ⟨_, rfl⟩
  have r1 : w.heap[b]? = some (.cells (cs.setIfInBounds 0 (i32 1)) 112 (0, 0)) := by rw [← hw]; exact setRow_heap _ _ _ _ _ _ h0.row
  have o1 : Outside [b] w0 w := by rw [← hw]; exact (Outside.refl [b] w0).setRow b (fun _ => by simp) _
  have hz : w.heap.size = w0.heap.size := by rw [← hw]; simp [World.setRow]
  have HLK : Hid (Calls Tryz.prog 41 #[.pointer (some ⟨b, 0, none⟩)] w0 fun e w' => e = .returned (.tuple #[]) ∧ w' = w) := by rw [← hw]; exact lock_row b 0 cs _ w0 h0.row hlk
  have e : ∀ j, j ≠ 0 → (cs.setIfInBounds 0 (i32 1))[j]? = cs[j]? := fun j hj => by rw [Array.getElem?_setIfInBounds, if_neg (by omega)]
  have hcell : ∀ j, j ≠ 0 → w.cell? ⟨b, j, none⟩ = cs[j]? := fun j hj => by rw [cell_of_row _ _ _ _ _ _ r1, e j hj]
  have HFIN : Hid (∀ W v l, Below w.heap.size w W → Its W w.heap.size v l → CallsD Tryz.prog 42 #[.pointer (some ⟨b, 0, none⟩)] .returning W fun e u' w' => (∃ v, e = .returned v) ∧ u' = .returning ∧ Outside [b] w0 w' ∧ w'.heap[b]? = w0.heap[b]? ∧ Its w' w0.heap.size v l) := fun W v l hb hi => by
    have hbw : b < w.heap.size := (Array.getElem?_eq_some_iff.1 r1).1
    have hrW : W.heap[b]? = some (.cells (cs.setIfInBounds 0 (i32 1)) 112 (0, 0)) := by rw [hb.block b hbw]; exact r1
    have hu := unlock_row b 0 _ _ W hrW (set_lock hlk)
    rw [set_back hlk] at hu
    refine hu.mono fun e u' w' ⟨h1, h2, h3⟩ => ⟨h1, h2, ?_, ?_, ?_⟩
    · rw [h3]; exact (o1.below hb).setRow b (fun _ => by simp) _
    · rw [h3, setRow_heap _ _ _ _ _ _ hrW, h0.row]
    · rw [← hz, h3]
      refine ⟨hi.1, ?_⟩
      rcases hi.2 with h | ⟨g, cap, cur, x1, x2, x3, x4⟩
      · exact .inl h
      · exact .inr ⟨g, cap, cur, x1, x2, by rw [setRow_other _ _ _ _ (by omega)]; exact x3, x4⟩
  have HKP : Hid (Calls Tryz.prog 51 #[.pointer (some ⟨b, 8, none⟩)] w fun e w' => e = .returned (.slice (some ⟨b, 8, none⟩) L.length 16) ∧ Below w.heap.size w w') := by
    refine kept_any b 8 L.length hll w ?_
    rw [hcell _ (by omega)]
    have := hT.count
    rw [List.length_map] at this
    exact this
  have HPC : Hid (w.rangeAt b 8 (pcells (L.map itPart))) := fun j v hv => by rw [hcell _ (by omega)]; exact hT.parts j v hv
  have hrat : AtL cs 169 (ratCells bg nx ss 16) := ratCells_at bg nx ss cs 169 16 hR
  have HRC : Hid (w.rangeAt b 169 (ratCells bg nx ss 16)) := fun j v hv => by rw [hcell _ (by omega)]; exact hrat j v hv
  have hbw : b < w.heap.size := (Array.getElem?_eq_some_iff.1 r1).1
  have hkw : KeepAt w pm KL B key := hk.keep fun k hk hm => o1.block k hk (by
    rcases hm with rfl | hm
    · simpa using hpb
    · obtain ⟨y, hy, rfl⟩ := List.mem_map.1 hm
      simpa using hBb y hy)
  have HPM : Hid (w.cell? ⟨b, 329, none⟩ = some (.map (some pm)) ∧ KeepAt w pm KL B key ∧ KL.length ≤ 100 ∧ (∀ x, x ∈ KL → ∃ m g : Nat, m < 16 ∧ x = ((m : Int), (g : Int)))) := ⟨by rw [hcell _ (by omega)]; exact hpm, hkw, hkl, hkp⟩
  have HNI : Hid (∀ (f t : Nat) (s : Nat → Int) W, Calls Tryz.prog 52 #[AggP f t s] W fun e w' => e = .returned (.agg (It.cells ⟨0, f, t, 0, s⟩).toArray) ∧ Below W.heap.size W w') := nodeItem_any
  have HOK : Hid (∀ i, nx i ≤ 65536) := hnx
  obtain ⟨LH, hLH⟩ : ∃ LH, L ++ headsG bg nx ss 16 = LH := ⟨_, rfl⟩
  obtain ⟨T, hTT⟩ : ∃ T, sortP KL = T := ⟨_, rfl⟩
  have HLH : Hid (L ++ headsG bg nx ss 16 = LH ∧ LH.length ≤ 32 ∧ sortP KL = T) := ⟨hLH, by rw [← hLH, List.length_append]; have := headsG_len bg nx ss 16; omega, hTT⟩
  rw [hLH, hTT]
  clear hLH hTT
  clear hlk hT hR hnx hpm hk hkl hkp hpb hBb h0 r1 o1 hz e hcell hw hrat hkw
  have HND : Hid (∀ x ∈ L, x = ⟨0, x.f, x.t, 0, x.s⟩) := hnode
  have HLL : Hid (L.length ≤ 16) := hll
  clear hnode hll
  refine calls_of_wpM Tryz.func21 rfl ?_
  simp only [Tryz.ntmps21, List.size_toArray, List.length_cons, List.length_nil, Nat.reduceAdd, Nat.reduceSub, Array.replicate_succ,
     Array.replicate_zero, List.push_toArray, List.append_toArray, List.nil_append, List.cons_append]
  go_wp2_with (go_at_call 41; refine HLK.out.mono ?_; rintro e w' ⟨rfl, hw'⟩; rw [hw']; clear hw' w')
  refine HKP.out.mono ?_
  rintro e w1 ⟨rfl, b1⟩
  have HB1 : Hid (Below w.heap.size w w1) := b1
  clear b1 HKP
  go_wp2_with fail
  go_loopg [3, 22] L.length (fun k v3 v22 wr => ∃ i : Nat, v22 = .int .i64 i ∧ i + k = L.length ∧ Hid (Below w.heap.size w wr ∧ Its wr w.heap.size v3 (L.take i)))
  case atStart => exact ⟨0, rfl, by omega, HB1.out, Its.nil _ _⟩
  case round =>
    obtain ⟨i, rfl, hik, HI⟩ := hrel
    have hll := HLL.out
    by_cases hlt : i < L.length
    · have hlt' : (i : Int) < (L.length : Int) := by omega
      obtain ⟨hbel, hits⟩ := HI.out
      have hx := HND.out L[i] (List.getElem_mem hlt)
      have HR1 : Hid (wr.rangeAt b (8 + i * 10) (CellsP L[i].f L[i].t L[i].s).toList) := by
        have := range_part (w := wr) (b := b) (o := 8) (L := L.map itPart) (fun j v hv => by rw [hbel.cell (p := ⟨b, 8 + j, none⟩) hbw]; exact HPC.out j v hv) i (by rw [List.length_map]; exact hlt)
        rw [List.getElem_map] at this
        exact this
      obtain ⟨X, hX⟩ : ∃ X, L[i] = X := ⟨_, rfl⟩
      rw [hX] at HR1 hx
      have htk : L.take (i + 1) = L.take i ++ [X] := by rw [List.take_succ_eq_append_getElem hlt, hX]
      have HTK : Hid (L.take (i + 1) = L.take i ++ [X]) := htk
      have HX : Hid (X = ⟨0, X.f, X.t, 0, X.s⟩) := hx
      have hlen : (L.take i).length + 1 ≤ 1000 := by rw [List.length_take]; omega
      have z1 : w.heap.size ≤ wr.heap.size := hbel.size
      have hwi : wrap64 ((i : Int) + 1) = ((i + 1 : Nat) : Int) := by simp only [wrap64]; omega
      have HN1 : Hid (∀ W, Calls Tryz.prog 52 #[AggP X.f X.t X.s] W fun e w' => e = .returned (.agg X.cells.toArray) ∧ Below W.heap.size W w') := fun W => by
        have := HNI.out X.f X.t X.s W
        rw [← HX.out] at this
        exact this
      obtain ⟨f, hf⟩ : ∃ f : Int, (X.f : Int) = f := ⟨_, rfl⟩
      obtain ⟨g, hg⟩ : ∃ f : Int, (X.t : Int) = f := ⟨_, rfl⟩
      obtain ⟨x, hx2⟩ : ∃ x, X.s = x := ⟨_, rfl⟩
      have hxc : X.cells.toArray = itemC 0 f g 0 x := by rw [itemC_eq, ← hf, ← hg, ← hx2, show X.kind = 0 by rw [HX.out], show X.g = 0 by rw [HX.out]]; rfl
      have HXC : Hid (X.cells.toArray = itemC 0 f g 0 x) := hxc
      rw [hxc] at HN1
      rw [hf, hg, hx2] at HR1 HN1
      clear hxc
      have HI2 : Hid (Below w.heap.size w (wr.alloc (.cells (CellsP f g x) 99)) ∧ Its (wr.alloc (.cells (CellsP f g x) 99)) w.heap.size u3 (L.take i)) := ⟨hbel.alloc z1 _, hits.below ((Below.refl _ _).alloc (Nat.le_refl _) _)⟩
      clear hx hf hg hx2 hX htk hbel hits HI
      go_wp2_with (refine wpList_load_mid rfl 99 _ rfl b (8 + i * 10) rfl (CellsP f g x).toList _ HR1.out Tryz.underlying99 rfl (by kernel_rfl) ?_)
      refine (HN1.out _).mono ?_
      rintro e w2 ⟨rfl, b2⟩
      have hb2 : Below w.heap.size w w2 := HI2.out.1.trans (b2.mono (by simp; omega))
      have hi2 := HI2.out.2.below b2
      obtain ⟨v', w', hrun, hi3, hb3, hz3⟩ := its_append (w2.alloc (.cells X.cells.toArray 53)) w.heap.size w.heap.size u3 (.slice (some ⟨w2.heap.size, 0, none⟩) 1 1) (L.take i) [X] (hi2.below ((Below.refl _ _).alloc (Nat.le_refl _) _)) (Its.one w2 w.heap.size hb2.size X) (by simp; have := hb2.size; omega) (by simpa using hlen) 45
      have HRUN : Hid ((Builtin.append_ #[45, 45] 45 #[u3, .slice (some ⟨w2.heap.size, 0, none⟩) 1 1]).run Tryz.prog (w2.alloc (.cells X.cells.toArray 53)) = .ok v' w') := hrun
      have HREL : Hid (Below w.heap.size w w' ∧ Its w' w.heap.size v' (L.take (i + 1))) := by
        refine ⟨(hb2.alloc hb2.size _).trans hb3, ?_⟩
        rw [HTK.out]
        exact hi3
      rw [HXC.out] at HRUN
      clear b2 hb2 hi2 hrun hi3 hb3 hz3 HI2 HN1 HR1 HXC
      go_wp2_with (at_builtin; refine wpList_app rfl _ _ 45 45 rfl rfl _ _ _ _ rfl rfl HRUN.out ?_)
      go_roundg (gk - 1)
      case measure => omega
      case rel => exact ⟨i + 1, by go_num, by omega, HREL.out⟩
    · have hge : ¬ (i : Int) < (L.length : Int) := by omega
      obtain rfl : i = L.length := by omega
      have HI2 : Hid (Below w.heap.size w wr ∧ Its wr w.heap.size u3 L) := by
        have := HI.out
        rw [List.take_length] at this
        exact this
      have HR2 : Hid (wr.rangeAt b 169 (ratCells bg nx ss 16)) := fun j v hv => by rw [HI.out.1.cell (p := ⟨b, 169 + j, none⟩) hbw]; exact HRC.out j v hv
      have hrl : (ratCells bg nx ss 16).length = 160 := ratCells_len bg nx ss 16
      obtain ⟨RL, hRL⟩ : ∃ RL, ratCells bg nx ss 16 = RL := ⟨_, rfl⟩
      have HIX : Hid (∀ i : Nat, i < 16 → ∀ w, (Instr.index 105 (.agg RL.toArray) (.int .i64 i)).run Tryz.prog w = .ok (AggR (bg i) (nx i) (ss i)) w) := fun i hi w => by
        have := index_rat (ratCells bg nx ss 16).toArray (by simpa using hrl) i hi w
        rw [ratCells_get bg nx ss 16 i hi] at this
        rw [← hRL]
        exact this
      rw [hRL] at HR2 hrl
      have HHI : Hid (∀ (m g : Nat), m < 16 → ∀ (bg : Bool) (s : Nat → Int) W, Calls Tryz.prog 54 #[.int .i64 m, AggR bg g s] W fun e w' => e = .returned (.agg (It.cells ⟨1, m, m + 1, g, s⟩).toArray) ∧ Below W.heap.size W w') := headItem_any
      clear HI hlt hRL HRC HPC HND HNI
      go_wp2_with (refine wpList_load_mid rfl 105 _ rfl b 169 rfl RL _ HR2.out Tryz.underlying105 rfl (by rw [hrl]; kernel_rfl) ?_)
      clear HR2
      go_loopg [3, 36] 16 (fun k v3 v36 wq => ∃ i : Nat, v36 = .int .i64 i ∧ i + k = 16 ∧ Hid (Below w.heap.size w wq ∧ Its wq w.heap.size v3 (L ++ headsG bg nx ss i)))
      case atStart => exact ⟨0, rfl, by omega, by have := HI2.out; show Below _ _ _ ∧ Its _ _ _ (L ++ []); rw [List.append_nil]; exact this⟩
      case round =>
        obtain ⟨i, rfl, hik, HJ⟩ := hrel
        by_cases hlt : i < 16
        · have hlt' : (i : Int) < 16 := by omega
          obtain ⟨hbel, hits⟩ := HJ.out
          have z1 : w.heap.size ≤ wr.heap.size := hbel.size
          have hix := HIX.out i hlt
          have hnx := HOK.out i
          have hlen : (L ++ headsG bg nx ss i).length + 1 ≤ 1000 := by rw [List.length_append]; have := headsG_len bg nx ss i; have := HLL.out; omega
          have hH : headsG bg nx ss (i + 1) = headsG bg nx ss i ++ (if bg i && decide (nx i ≤ 65535) then [⟨1, i, i + 1, (nx i), (ss i)⟩] else []) := rfl
          have hgb : GenB (nx i : Int) = decide (nx i ≤ 65535) := by
            by_cases hc : (nx i) ≤ 65535
            · rw [(genB_iff _).2 ⟨by omega, by omega⟩]; simp [hc]
            · cases hg : GenB (nx i : Int) with
              | false => simp [hc]
              | true => have := ((genB_iff _).1 hg).2; omega
          have HHS : Hid (∀ W o, W.cell? ⟨o, 0, none⟩ = some (.bool (bg i)) → W.cell? ⟨o, 1, none⟩ = some (.int .i64 (nx i)) → Calls Tryz.prog 53 #[.pointer (some ⟨o, 0, none⟩)] W fun e w' => e = .returned (.bool (bg i && decide (nx i ≤ 65535))) ∧ w' = W) := fun W o h0 h1 => by
            rw [← hgb]
            exact hasSecret_any (bg i) (nx i) o 0 W h0 h1
          obtain ⟨BB, hBB⟩ : ∃ BB, (bg i && decide (nx i ≤ 65535)) = BB := ⟨_, rfl⟩
          rw [hBB] at HHS hH
          have HHH : Hid (∀ W, Calls Tryz.prog 54 #[.int .i64 i, AggR (bg i) (nx i) (ss i)] W fun e w' => e = .returned (.agg (It.cells ⟨1, i, i + 1, (nx i), (ss i)⟩).toArray) ∧ Below W.heap.size W w') := fun W => HHI.out i (nx i) hlt (bg i) (ss i) W
          obtain ⟨X, hX⟩ : ∃ X : It, (⟨1, i, i + 1, (nx i), (ss i)⟩ : It) = X := ⟨_, rfl⟩
          have hXX : BB = true → headsG bg nx ss (i + 1) = headsG bg nx ss i ++ [X] := fun hb => by rw [hH, hb, if_pos rfl, ← hX]
          have hXN : BB = false → headsG bg nx ss (i + 1) = headsG bg nx ss i := fun hb => by rw [hH, hb]; simp
          have hxc : X.cells.toArray = itemC 1 i (i + 1 : Nat) (nx i) (ss i) := by rw [← hX]; rfl
          have HXC : Hid (X.cells.toArray = itemC 1 i (i + 1 : Nat) (nx i) (ss i)) := hxc
          rw [hX, hxc] at HHH
          have HXX : Hid ((BB = true → headsG bg nx ss (i + 1) = headsG bg nx ss i ++ [X]) ∧ (BB = false → headsG bg nx ss (i + 1) = headsG bg nx ss i)) := ⟨hXX, hXN⟩
          obtain ⟨bq, hbg⟩ : ∃ bq, bg i = bq := ⟨_, rfl⟩
          obtain ⟨G, hG⟩ : ∃ G : Int, (nx i : Int) = G := ⟨_, rfl⟩
          obtain ⟨sx, hsx⟩ : ∃ sx, (ss i) = sx := ⟨_, rfl⟩
          obtain ⟨I1, hI1⟩ : ∃ I1 : Int, ((i + 1 : Nat) : Int) = I1 := ⟨_, rfl⟩
          rw [hbg, hG, hsx] at hix HHH
          rw [hbg, hG] at HHS
          rw [hG, hsx, hI1] at HXC
          rw [hI1] at HHH
          have HI1 : Hid (((i + 1 : Nat) : Int) = I1) := hI1
          have HJ2 : Hid (Below w.heap.size w (wr.alloc (.cells (CellsR bq G sx) 104)) ∧ Its (wr.alloc (.cells (CellsR bq G sx) 104)) w.heap.size u3 (L ++ headsG bg nx ss i)) := ⟨hbel.alloc z1 _, hits.below ((Below.refl _ _).alloc (Nat.le_refl _) _)⟩
          have q0 : (wr.alloc (.cells (CellsR bq G sx) 104)).cell? ⟨wr.heap.size, 0, none⟩ = some (.bool bq) := by rw [cell_of_row _ _ _ _ _ _ (MapKept.heap_alloc wr _).1]; rfl
          have q1 : (wr.alloc (.cells (CellsR bq G sx) 104)).cell? ⟨wr.heap.size, 1, none⟩ = some (.int .i64 G) := by rw [cell_of_row _ _ _ _ _ _ (MapKept.heap_alloc wr _).1]; rfl
          clear hbel hits HJ hXX hXN hxc hX hbg hG hsx hI1 hgb hH hBB hnx
          go_wp2_with fail
          refine (HHS.out _ wr.heap.size q0 q1).mono ?_
          rintro e w2 ⟨rfl, rfl⟩
          clear q0 q1 HHS hix
          cases BB with
          | false =>
            have HREL : Hid (Below w.heap.size w (wr.alloc (.cells (CellsR bq G sx) 104)) ∧ Its (wr.alloc (.cells (CellsR bq G sx) 104)) w.heap.size u3 (L ++ headsG bg nx ss (i + 1))) := by
              have := HJ2.out
              rw [← HXX.out.2 rfl] at this
              exact this
            clear HJ2 HXX HHH HXC
            go_wp2_with fail
            go_roundg (gk - 1)
            case measure => omega
            case rel => exact ⟨i + 1, by go_num, by omega, HREL.out⟩
          | true =>
            go_wp2_with fail
            refine (HHH.out _).mono ?_
            rintro e w3 ⟨rfl, b3⟩
            have hb2 : Below w.heap.size w w3 := HJ2.out.1.trans (b3.mono (by simp; omega))
            have hi2 := HJ2.out.2.below b3
            obtain ⟨v', w', hrun, hi3, hb3, hz3⟩ := its_append (w3.alloc (.cells X.cells.toArray 53)) w.heap.size w.heap.size u3 (.slice (some ⟨w3.heap.size, 0, none⟩) 1 1) (L ++ headsG bg nx ss i) [X] (hi2.below ((Below.refl _ _).alloc (Nat.le_refl _) _)) (Its.one w3 w.heap.size hb2.size X) (by simp; have := hb2.size; omega) (by simpa using hlen) 45
            have HRUN : Hid ((Builtin.append_ #[45, 45] 45 #[u3, .slice (some ⟨w3.heap.size, 0, none⟩) 1 1]).run Tryz.prog (w3.alloc (.cells X.cells.toArray 53)) = .ok v' w') := hrun
            have HREL : Hid (Below w.heap.size w w' ∧ Its w' w.heap.size v' (L ++ headsG bg nx ss (i + 1))) := by
              refine ⟨(hb2.alloc hb2.size _).trans hb3, ?_⟩
              rw [HXX.out.1 (by trivial), ← List.append_assoc]
              exact hi3
            rw [HXC.out] at HRUN
            clear b3 hb2 hi2 hrun hi3 hb3 hz3 HJ2 HHH HXC HXX
            go_wp2_with (at_builtin; refine wpList_app rfl _ _ 45 45 rfl rfl _ _ _ _ rfl rfl HRUN.out ?_)
            go_roundg (gk - 1)
            case measure => omega
            case rel => exact ⟨i + 1, by go_num, by omega, HREL.out⟩
        · have hge : ¬ (i : Int) < 16 := by omega
          obtain rfl : i = 16 := by omega
          have hLH16 := HLH.out.2.1
          rw [HLH.out.1] at HJ
          obtain ⟨p1, p2, p3, p4⟩ := HPM.out
          have hpc : wr.cell? ⟨b, 329, none⟩ = some (.map (some pm)) := by rw [HJ.out.1.cell (p := ⟨b, 329, none⟩) hbw]; exact p1
          have hkr : KeepAt wr pm KL B key := p2.below HJ.out.1
          have HPB0 : Hid (pm < w.heap.size ∧ (∀ x, x ∈ KL → B x < w.heap.size)) := ⟨p2.lt, fun x hx => (Array.getElem?_eq_some_iff.1 (p2.row x hx)).1⟩
          have hTm : ∀ x, x ∈ sortP KL → x ∈ KL := fun x hx => (sortP_perm KL).mem_iff.1 hx
          have hTl := sortP_len KL
          have HPL : Hid (Calls Tryz.prog 55 #[.map (some pm)] wr fun e w' => ∃ v, e = .returned v ∧ Below wr.heap.size wr w' ∧ SlP w' wr.heap.size v (sortP KL)) := (places_any hkr (by omega)).mono fun e w' ⟨q1, q2⟩ => by
            rcases q2 with ⟨hL, rfl⟩ | ⟨hL, g, cap, rfl, hg, hr⟩
            · exact ⟨_, rfl, q1, .inl ⟨List.eq_nil_of_length_eq_zero (by rw [hTl, hL]; rfl), rfl⟩⟩
            · exact ⟨_, rfl, q1, .inr ⟨g, cap, by rw [hTl], hg, hr⟩⟩
          rw [HLH.out.2.2] at HPL hTm hTl
          have HTT : Hid ((∀ x, x ∈ T → x ∈ KL ∧ ∃ m g : Nat, m < 16 ∧ x = ((m : Int), (g : Int))) ∧ T.length ≤ 100 ∧ KeepAt wr pm KL B key ∧ LH.length ≤ 32) := ⟨fun x hx => ⟨hTm x hx, p4 x (hTm x hx)⟩, by omega, hkr, hLH16⟩
          clear HPM HIX HHI HOK p1 p2 p3 p4 hkr hTm hTl hLH16 HLH
          go_wp2_with fail
          refine HPL.out.mono ?_
          rintro e w4 ⟨pv, rfl, b4, hs⟩
          have HJ4 : Hid (Below w.heap.size w w4 ∧ Its w4 w.heap.size u3 LH ∧ Below wr.heap.size wr w4) := ⟨HJ.out.1.trans (b4.mono HJ.out.1.size), HJ.out.2.below b4, b4⟩
          have hpcr := hpc
          have HPB : Hid (pm < w.heap.size ∧ (∀ x, x ∈ KL → B x < w.heap.size)) := HPB0
          clear b4 HPL hpc HPB0
          rcases hs with ⟨rfl, rfl⟩ | ⟨g, cap, rfl, hg, hr⟩
          · clear HTT HJ
            go_wp2_with fail
            refine wp_loop_rounds 1 ?_
            rw [rounds_succ]
            go_wp2_with fail
            refine .inr ⟨_, _, 42, #[.pointer (some ⟨b, 0, none⟩)], rfl, by simp [go_sem], (HFIN.out _ _ _ HJ4.out.1 HJ4.out.2.1).mono fun e u' w' ⟨h1, h2, h3, h4, h5⟩ => ⟨h1, h2, ?_⟩⟩
            exact ⟨u3, by simp [results, Tryz.results21, go_sem], u3, rfl, h3, h4, by rw [List.map_nil, List.append_nil]; exact h5⟩
          · have hcap := hr.le
            have hTl := HTT.out.2.1
            have HR : Hid (RowP w4 g cap T ∧ wr.heap.size ≤ g ∧ Its wr w.heap.size u3 LH ∧ wr.heap.size ≤ w4.heap.size) := ⟨hr, hg, HJ.out.2, HJ4.out.2.2.size⟩
            have hpc4 : w4.cell? ⟨b, 329, none⟩ = some (.map (some pm)) := by rw [HJ4.out.2.2.cell (p := ⟨b, 329, none⟩) (by have := HJ.out.1.size; show b < wr.heap.size; omega)]; exact hpcr
            have HK4 : Hid (KeepAt w4 pm KL B key ∧ pm < w.heap.size ∧ (∀ x, x ∈ KL → B x < w.heap.size)) := ⟨HTT.out.2.2.1.below HJ4.out.2.2, HPB.out⟩
            have HPC4 : Hid (w4.cell? ⟨b, 329, none⟩ = some (.map (some pm))) := hpc4
            obtain ⟨n, hn⟩ : ∃ n, T.length = n := ⟨_, rfl⟩
            rw [hn] at hcap hTl
            have hni : (n : Int) ≤ 100 := by omega
            have hci : (n : Int) ≤ cap := by omega
            have HN : Hid (T.length = n) := hn
            rw [hn]
            clear hr hg hn hcap HJ hpc4 hpcr hTl
            go_wp2_with fail
            go_loopg [3, 54] n (fun k v3 v54 wq => ∃ i : Nat, v54 = .int .i64 i ∧ i + k = n ∧ Hid (Below w.heap.size w wq ∧ Below w.heap.size w4 wq ∧ Its wq w.heap.size v3 (LH ++ (T.take i).map (itG key)) ∧ RowP wq g cap T ∧ v3.ownBlock ≠ some g))
            case atStart =>
              refine ⟨0, rfl, by omega, HJ4.out.1, Below.refl _ _, by simpa using HJ4.out.2.1, HR.out.1, fun e => ?_⟩
              have := HR.out.2.2.1.block g e
              have := HR.out.2.1
              omega
            case round =>
              obtain ⟨i, rfl, hik, HI⟩ := hrel
              by_cases hlt : (i : Int) < (n : Int)
              · have hiT : i < T.length := by have := HN.out; omega
                obtain ⟨hbw1, hbw4, hits, hrow, hob⟩ := HI.out
                obtain ⟨x, hx⟩ : ∃ x, T[i] = x := ⟨_, rfl⟩
                have hxm : x ∈ T := by rw [← hx]; exact List.getElem_mem hiT
                obtain ⟨hxK, M, G, hM16, hxe⟩ := HTT.out.1 x hxm
                have HR1 : Hid (wr.rangeAt g (i * 2) [.int .i64 x.1, .int .i64 x.2]) := by
                  have := hrow.range i hiT
                  rw [hx] at this
                  exact this
                have HTK : Hid (T.take (i + 1) = T.take i ++ [x]) := by
                  have ht := List.take_succ_eq_append_getElem hiT
                  rw [hx] at ht
                  exact ht
                have hsz : w.heap.size ≤ wr.heap.size := hbw1.size
                obtain ⟨wa, hwa⟩ : ∃ wa, wr.alloc (.cells #[.int .i64 x.1, .int .i64 x.2] 123) = wa := ⟨_, rfl⟩
                have ba : Below wr.heap.size wr wa := by rw [← hwa]; exact (Below.refl _ wr).alloc (Nat.le_refl _) _
                have ka : wa.heap[wr.heap.size]? = some (.cells #[.int .i64 x.1, .int .i64 x.2] 123 (0, 0)) := by rw [← hwa]; exact (MapKept.heap_alloc _ _).1
                have kpr : KeepAt wr pm KL B key := HK4.out.1.keep fun k hk hm => hbw4.block k (by
                  rcases hm with rfl | hm
                  · exact HK4.out.2.1
                  · obtain ⟨y, hy, rfl⟩ := List.mem_map.1 hm
                    exact HK4.out.2.2 y hy)
                obtain ⟨bx, hbx⟩ : ∃ bx, B x = bx := ⟨_, rfl⟩
                obtain ⟨K, hK⟩ : ∃ K, key x = K := ⟨_, rfl⟩
                -- what the region reads, in every world that meets SD
                have HS : Hid (∀ W, SD w.heap.size wa wr.heap.size #[.int .i64 x.1, .int .i64 x.2] W → (∀ o, W.cell? ⟨wr.heap.size, o, none⟩ = #[Value.int .i64 x.1, .int .i64 x.2][o]?) ∧ W.cell? ⟨b, 329, none⟩ = some (.map (some pm)) ∧ (Instr.lookup 107 (.map (some pm)) (.agg #[.int .i64 x.1, .int .i64 x.2]) false).run Tryz.prog W = .ok (.pointer (some ⟨bx, 0, none⟩)) W ∧ W.rangeAt bx 0 (Cells8 K).toList) := fun W hW => by
                  have hka := kpr.below ba
                  have hk2 : KeepAt W pm KL B key := hka.keep fun k hk hm => hW.1.block k (by
                    rcases hm with rfl | hm
                    · exact HK4.out.2.1
                    · obtain ⟨y, hy, rfl⟩ := List.mem_map.1 hm
                      exact HK4.out.2.2 y hy)
                  refine ⟨fun o => cell_of_row _ _ _ _ _ _ hW.2, ?_, ?_, ?_⟩
                  · rw [hW.1.cell (p := ⟨b, 329, none⟩) hbw, ba.cell (p := ⟨b, 329, none⟩) (by show b < wr.heap.size; omega), hbw4.cell (p := ⟨b, 329, none⟩) hbw]
                    exact HPC4.out
                  · rcases hk2.look x (hk2.wf x hxK) false with ⟨hm, _⟩ | ⟨_, hr⟩
                    · exact absurd hxK hm
                    · rw [← hbx]; exact hr
                  · intro j v hv
                    have hr := hk2.row x hxK
                    rw [hbx, hK] at hr
                    rw [Nat.zero_add, cell_of_row _ _ _ _ _ _ hr, ← Array.getElem?_toList]
                    exact hv
                have HKI : Hid (∀ W, Calls Tryz.prog 56 #[.agg #[.int .i64 x.1, .int .i64 x.2], Agg8 K] W fun e w' => e = .returned (.agg (itG key x).cells.toArray) ∧ Below W.heap.size W w') := fun W => by
                  have := keptItem_any M G hM16 K W
                  have e2 : itG key x = ⟨2, M, M + 1, G, K⟩ := by unfold itG; rw [hK, hxe]; rfl
                  rw [e2]
                  rw [hxe]
                  exact this
                have hlen2 : (LH ++ (T.take i).map (itG key)).length + 1 ≤ 1000 := by
                  rw [List.length_append, List.length_map, List.length_take]
                  have := HTT.out.2.2.2
                  have := HTT.out.2.1
                  omega
                have HREL : Hid (∀ W, Below wa.heap.size wa W → ∃ v' w', (Builtin.append_ #[45, 45] 45 #[u3, .slice (some ⟨W.heap.size, 0, none⟩) 1 1]).run Tryz.prog (W.alloc (.cells (itG key x).cells.toArray 53)) = .ok v' w' ∧ SD w.heap.size wa wr.heap.size #[.int .i64 x.1, .int .i64 x.2] w' ∧ Hid (Below w.heap.size w w' ∧ Below w.heap.size w4 w' ∧ Its w' w.heap.size v' (LH ++ (T.take (i + 1)).map (itG key)) ∧ RowP w' g cap T ∧ v'.ownBlock ≠ some g)) := fun W hW => by
                  have hrW : Below wr.heap.size wr W := ba.trans (hW.mono ba.size)
                  have hla : wr.heap.size < wa.heap.size := (Array.getElem?_eq_some_iff.1 ka).1
                  have hlW : wa.heap.size ≤ W.heap.size := hW.size
                  obtain ⟨v', w', y1, y2, y3, y4, y5, y6⟩ := its_append2 W w.heap.size u3 (LH ++ (T.take i).map (itG key)) (itG key x) (hits.below hrW) (by omega) hlen2 45
                  have hgr : g < wr.heap.size := hrow.lt
                  refine ⟨v', w', y1, ⟨(hW.mono (by omega)).trans y3, ?_⟩, (hbw1.trans (hrW.mono hsz)).trans y3, (hbw4.trans (hrW.mono hsz)).trans y3, ?_, hrow.keep ?_, fun e => ?_⟩
                  · rw [y5 wr.heap.size (by omega) (fun e => by have := hits.block _ e; omega), hW.block _ hla]
                    exact ka
                  · rw [HTK.out, List.map_append, ← List.append_assoc]
                    exact y2
                  · rw [y5 g (by omega) hob, hrW.block g hgr]
                  · rcases y6 with y6 | y6
                    · exact hob (y6 ▸ e)
                    · rw [y6] at e
                      have : W.heap.size + 1 = g := by simpa using e
                      omega
                obtain ⟨i1, hi1⟩ : ∃ i1 : Int, ((itG key x).f : Int) = i1 := ⟨_, rfl⟩
                obtain ⟨i2, hi2⟩ : ∃ i2 : Int, ((itG key x).t : Int) = i2 := ⟨_, rfl⟩
                obtain ⟨i3, hi3⟩ : ∃ i3 : Int, ((itG key x).g : Int) = i3 := ⟨_, rfl⟩
                have hXC : (itG key x).cells.toArray = itemC 2 i1 i2 i3 K := by rw [itemC_eq, hi1, hi2, hi3, show (itG key x).s = K from hK]; rfl
                rw [hXC] at HKI HREL
                have HHW : Hid (SD w.heap.size wa wr.heap.size #[.int .i64 x.1, .int .i64 x.2] wa.drew) := ⟨(Below.refl _ wa).drew, ka⟩
                have HKA : Hid (wa.heap[wr.heap.size]? = some (.cells #[.int .i64 x.1, .int .i64 x.2] 123 (0, 0))) := ka
                have HWA : Hid (wr.alloc (.cells #[.int .i64 x.1, .int .i64 x.2] 123) = wa) := hwa
                have HSZ : Hid (w.heap.size ≤ wa.heap.size ∧ wr.heap.size < wa.heap.size) := ⟨by have := ba.size; omega, (Array.getElem?_eq_some_iff.1 ka).1⟩
                have hK8 : (Tryz.prog.info? 51).map (·.size) = some (Cells8 K).toList.length := by kernel_rfl
                clear hbw1 hbw4 hits hrow hob hx hxm hxK hM16 hxe hwa ba ka kpr hbx hK hlen2 hXC hi1 hi2 hi3 hsz HI
                go_wp2_with (first | refine wpList_load_mid rfl 123 _ rfl g (i * 2) rfl [.int .i64 x.1, .int .i64 x.2] _ HR1.out Tryz.underlying123 rfl (by kernel_rfl) ?_)
                rw [HWA.out]
                clear HR1 HWA
                refine wp_region_held_drew (S := fun W => SD w.heap.size wa wr.heap.size #[.int .i64 x.1, .int .i64 x.2] W) (by kernel_rfl) HHW.out (fun hHeld => ?_)
                change wpAnyH _ _ _ _ _ 14 _ _ _
                refine take1 (i := 0) (v := u3) rfl (by kernel_rfl) (by kernel_rfl) (by kernel_rfl) (fun _ _ _ h => h) hHeld (fun W hS => (by clear hHeld; go_simp)) ?_
                simp only [Act.put, List.setIfInBounds_toArray, List.set_cons_zero, List.set_cons_succ]
                refine take1 (i := 1) (v := .agg #[.int .i64 x.1, .int .i64 x.2]) rfl (by kernel_rfl) (by kernel_rfl) (by kernel_rfl) (fun _ _ _ h => h) hHeld (fun W hS => (by have hc := (HS.out W hS).1; clear hHeld; go_simp)) ?_
                simp only [Act.put, List.setIfInBounds_toArray, List.set_cons_zero, List.set_cons_succ]
                refine take1 (i := 2) (v := .pointer (some ⟨b, 0, none⟩)) rfl (by kernel_rfl) (by kernel_rfl) (by kernel_rfl) (fun _ _ _ h => h) hHeld (fun W hS => (by clear hHeld; go_simp)) ?_
                simp only [Act.put, List.setIfInBounds_toArray, List.set_cons_zero, List.set_cons_succ]
                refine take1 (i := 3) (v := .pointer (some ⟨b, 0, none⟩)) rfl (by kernel_rfl) (by kernel_rfl) (by kernel_rfl) (fun _ _ _ h => h) hHeld (fun W hS => (by clear hHeld; go_simp)) ?_
                simp only [Act.put, List.setIfInBounds_toArray, List.set_cons_zero, List.set_cons_succ]
                refine take1 (i := 4) (v := .pointer (some ⟨b, 329, none⟩)) rfl (by kernel_rfl) (by kernel_rfl) (by kernel_rfl) (fun _ _ _ h => h) hHeld (fun W hS => (by clear hHeld; go_simp)) ?_
                simp only [Act.put, List.setIfInBounds_toArray, List.set_cons_zero, List.set_cons_succ]
                refine take1 (i := 5) (v := .map (some pm)) rfl (by kernel_rfl) (by kernel_rfl) (by kernel_rfl) (fun _ _ _ h => h) hHeld (fun W hS => (by have hc := (HS.out W hS).2.1; clear hHeld; go_simp)) ?_
                simp only [Act.put, List.setIfInBounds_toArray, List.set_cons_zero, List.set_cons_succ]
                refine take1 (i := 6) (v := .agg #[.int .i64 x.1, .int .i64 x.2]) rfl (by kernel_rfl) (by kernel_rfl) (by kernel_rfl) (fun _ _ _ h => h) hHeld (fun W hS => (by have hc := (HS.out W hS).1; clear hHeld; go_simp)) ?_
                simp only [Act.put, List.setIfInBounds_toArray, List.set_cons_zero, List.set_cons_succ]
                refine take1 (i := 7) (v := .pointer (some ⟨bx, 0, none⟩)) rfl (by kernel_rfl) (by kernel_rfl) (by kernel_rfl) (fun _ _ _ h => h) hHeld (fun W hS => (by have hc := (HS.out W hS).2.2.1; clear hHeld; go_simp)) ?_
                simp only [Act.put, List.setIfInBounds_toArray, List.set_cons_zero, List.set_cons_succ]
                refine take1 (i := 8) (v := .pointer (some ⟨bx, 0, none⟩)) rfl (by kernel_rfl) (by kernel_rfl) (by kernel_rfl) (fun _ _ _ h => h) hHeld (fun W hS => (by clear hHeld; go_simp)) ?_
                simp only [Act.put, List.setIfInBounds_toArray, List.set_cons_zero, List.set_cons_succ]
                refine load1 (i := 9) rfl (by kernel_rfl) (by kernel_rfl) (by kernel_rfl) (Cells8 K) (fun _ _ _ h => h) hHeld bx 0 rfl _ (fun W hS => (HS.out W hS).2.2.2) Tryz.underlying51 rfl hK8 ?_
                simp only [Act.put, List.setIfInBounds_toArray, List.set_cons_zero, List.set_cons_succ]
                refine call1 (i := 10) (by kernel_rfl) rfl (f := 56) (args := #[.agg #[.int .i64 x.1, .int .i64 x.2], Agg8 K]) (by clear hHeld; go_simp) (R := fun v W => v = .agg (itemC 2 i1 i2 i3 K) ∧ Below wa.heap.size wa W) ((HKI.out _).mono fun e w' ⟨h1, h2⟩ => ⟨_, h1, rfl, (Below.refl _ wa).drew.trans h2⟩) (fun v W ⟨_, h2⟩ => SD.below hHeld h2 HSZ.out HKA.out) (fun v W hvW => ?_)
                obtain ⟨rfl, hW⟩ := hvW
                simp only [Act.put, List.setIfInBounds_toArray, List.set_cons_zero, List.set_cons_succ]
                obtain ⟨v', w', y1, y2, y3⟩ := HREL.out W hW
                have hHeld2 := SD.below hHeld hW HSZ.out HKA.out
                refine step1 (i := 11) (by kernel_rfl) rfl (.slice (some ⟨W.heap.size, 0, none⟩) 1 1) (W.alloc (.cells (itemC 2 i1 i2 i3 K) 53)) (by clear hHeld hHeld2; go_simp) (SD.below hHeld (hW.alloc hW.size _) HSZ.out HKA.out) ?_
                simp only [Act.put, List.setIfInBounds_toArray, List.set_cons_zero, List.set_cons_succ]
                refine step1 (i := 12) (by kernel_rfl) rfl v' w' (app1 _ _ _ _ rfl rfl y1) y2 ?_
                simp only [Act.put, List.setIfInBounds_toArray, List.set_cons_zero, List.set_cons_succ]
                refine step1 (i := 13) (by kernel_rfl) rfl v' w' (by clear hHeld hHeld2; go_simp) y2 ?_
                simp only [Act.put, List.setIfInBounds_toArray, List.set_cons_zero, List.set_cons_succ]
                refine wpAnyH_done (by kernel_rfl) ?_ _
                have Y3 := y3
                clear hHeld hHeld2 y1 y2 y3 hW HREL HKI HS HHW
                go_wp2_with fail
                go_roundg (gk - 1)
                case measure => omega
                case rel => exact ⟨i + 1, by go_num, by omega, Y3⟩
              · obtain rfl : i = n := by omega
                have HE : Hid (Below w.heap.size w wr ∧ Its wr w.heap.size u3 (LH ++ T.map (itG key))) := by
                  have := HI.out
                  rw [List.take_of_length_le (by have := HN.out; omega)] at this
                  exact ⟨this.1, this.2.2.1⟩
                clear HI
                go_wp2_with fail
                refine .inr ⟨_, _, 42, #[.pointer (some ⟨b, 0, none⟩)], rfl, by simp [go_sem], (HFIN.out _ _ _ HE.out.1 HE.out.2).mono fun e u' w' ⟨h1, h2, h3, h4, h5⟩ => ⟨h1, h2, ?_⟩⟩
                exact ⟨u3, by simp [results, Tryz.results21, go_sem], u3, rfl, h3, h4, h5⟩
end Go.Proofs.YtkpebabbnndopaaGreatDoor
