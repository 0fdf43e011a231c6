import Derived.Test.YtkpebabbnndopaaGreatDoorProg
import Derived.Shelf.SlSortCmp.NoneTotal
import Derived.Test.YtkpebabbnndopaaGreatDoorC03
import Derived.Test.YtkpebabbnndopaaGreatDoorC04
import Derived.WalkKit
import Derived.WalkSpells
import Derived.WalkLawsBesides
import Derived.Test.YtkpebabbnndopaaGreatDoorC11
import Derived.RangeFuncNested
import Derived.RangeFuncBound
import Derived.RangeFuncCalls
import Derived.RangeFuncLeaves
import Derived.Shelf.Abstract
import Derived.Shelf.RegionOpen
import Derived.OwnWalkIn
import Derived.TacticsInMore
import Derived.LoopNIn
import Derived.LoopIn
import Derived.Maps.OwnIn
import Derived.Sort.MapsRangeIn
import Derived.Deep.WholeRow
import Derived.Deep.MidRow
import Derived.Deep.LoopGhost
import Derived.Test.YtkpebabbnndopaaGreatDoorRows
import Derived.Test.YtkpebabbnndopaaGreatDoorC01
import Derived.Deep.DeepCutAuto
import Derived.BigRegion
/- The sort of places, laid. -/
namespace Go.Proofs.YtkpebabbnndopaaGreatDoor
open Go.Shelf

def sortRen : Go.Shelf.Ren := ⟨fun | 6 => 128 | 15 => 157 | 14 => 156 | 28 => 176 | 29 => 177 | 20 => 168 | 21 => 169 | 22 => 170 | 23 => 171 | 24 => 172 | 25 => 173 | 26 => 174 | 27 => 175 | 46 => 179 | 47 => 180 | 48 => 181 | 49 => 182 | 50 => 183 | 57 => 186 | n => n, fun | 22 => 131 | 24 => 123 | 25 => 182 | 3 => 3 | 39 => 55 | 0 => 0 | 53 => 88 | 55 => 147 | 4 => 4 | 46 => 274 | 45 => 273 | 50 => 278 | 5 => 5 | 9 => 9 | 66 => 283 | 70 => 287 | 76 => 290 | 77 => 291 | n => n, fun | n => n⟩
theorem sortLay : Go.Proofs.SlLaysF0.n6 Tryz.prog sortRen := {
  mixed := by kernel_rfl,
  f6 := ⟨Tryz.f128.name, by decide, Tryz.func128.trans (congrArg some (by kernel_rfl))⟩,
  f14 := ⟨Tryz.f156.name, by decide, Tryz.func156.trans (congrArg some (by kernel_rfl))⟩,
  f15 := Tryz.func157.trans (congrArg some (by kernel_rfl)),
  f20 := ⟨Tryz.f168.name, by decide, Tryz.func168.trans (congrArg some (by kernel_rfl))⟩,
  f21 := ⟨Tryz.f169.name, by decide, Tryz.func169.trans (congrArg some (by kernel_rfl))⟩,
  f22 := ⟨Tryz.f170.name, by decide, Tryz.func170.trans (congrArg some (by kernel_rfl))⟩,
  f23 := ⟨Tryz.f171.name, by decide, Tryz.func171.trans (congrArg some (by kernel_rfl))⟩,
  f24 := ⟨Tryz.f172.name, by decide, Tryz.func172.trans (congrArg some (by kernel_rfl))⟩,
  f25 := ⟨Tryz.f173.name, by decide, Tryz.func173.trans (congrArg some (by kernel_rfl))⟩,
  f26 := ⟨Tryz.f174.name, by decide, Tryz.func174.trans (congrArg some (by kernel_rfl))⟩,
  f27 := ⟨Tryz.f175.name, by decide, Tryz.func175.trans (congrArg some (by kernel_rfl))⟩,
  f28 := Tryz.func176.trans (congrArg some (by kernel_rfl)),
  f29 := Tryz.func177.trans (congrArg some (by kernel_rfl)),
  f46 := ⟨Tryz.f179.name, by decide, Tryz.func179.trans (congrArg some (by kernel_rfl))⟩,
  f47 := Tryz.func180.trans (congrArg some (by kernel_rfl)),
  f48 := Tryz.func181.trans (congrArg some (by kernel_rfl)),
  f49 := ⟨Tryz.f182.name, by decide, Tryz.func182.trans (congrArg some (by kernel_rfl))⟩,
  f50 := ⟨Tryz.f183.name, by decide, Tryz.func183.trans (congrArg some (by kernel_rfl))⟩,
  f57 := ⟨Tryz.f186.name, by decide, Tryz.func186.trans (congrArg some (by kernel_rfl))⟩,
  t0 := Tryz.underlying0,
  a0 := Tryz.isAgg0,
  z0 := Tryz.sizeOf0,
  v0 := Tryz.zeroValue0,
  t3 := Tryz.underlying3,
  a3 := Tryz.isAgg3,
  z3 := Tryz.sizeOf3,
  v3 := Tryz.zeroValue3,
  t4 := Tryz.underlying4,
  a4 := Tryz.isAgg4,
  z4 := Tryz.sizeOf4,
  v4 := Tryz.zeroValue4,
  t5 := Tryz.underlying5,
  a5 := Tryz.isAgg5,
  z5 := Tryz.sizeOf5,
  v5 := Tryz.zeroValue5,
  t9 := Tryz.underlying9,
  a9 := Tryz.isAgg9,
  z9 := Tryz.sizeOf9,
  v9 := Tryz.zeroValue9,
  t22 := Tryz.underlying131,
  a22 := Tryz.isAgg131,
  z22 := Tryz.sizeOf131,
  v22 := Tryz.zeroValue131,
  t25 := Tryz.underlying182,
  a25 := Tryz.isAgg182,
  z25 := Tryz.sizeOf182,
  v25 := Tryz.zeroValue182,
  t39 := Tryz.underlying55,
  a39 := Tryz.isAgg55,
  z39 := Tryz.sizeOf55,
  v39 := Tryz.zeroValue55,
  t45 := Tryz.underlying273,
  a45 := Tryz.isAgg273,
  z45 := Tryz.sizeOf273,
  v45 := Tryz.zeroValue273,
  t46 := Tryz.underlying274,
  a46 := Tryz.isAgg274,
  z46 := Tryz.sizeOf274,
  v46 := Tryz.zeroValue274,
  t50 := Tryz.underlying278,
  a50 := Tryz.isAgg278,
  z50 := Tryz.sizeOf278,
  v50 := Tryz.zeroValue278,
  t53 := Tryz.underlying88,
  a53 := Tryz.isAgg88,
  z53 := Tryz.sizeOf88,
  v53 := Tryz.zeroValue88,
  t55 := Tryz.underlying147,
  a55 := Tryz.isAgg147,
  z55 := Tryz.sizeOf147,
  v55 := Tryz.zeroValue147,
  t66 := Tryz.underlying283,
  a66 := Tryz.isAgg283,
  z66 := Tryz.sizeOf283,
  v66 := Tryz.zeroValue283,
  t70 := Tryz.underlying287,
  a70 := Tryz.isAgg287,
  z70 := Tryz.sizeOf287,
  v70 := Tryz.zeroValue287,
  t76 := Tryz.underlying290,
  a76 := Tryz.isAgg290,
  z76 := Tryz.sizeOf290,
  v76 := Tryz.zeroValue290,
  t77 := Tryz.underlying291,
  a77 := Tryz.isAgg291,
  z77 := Tryz.sizeOf291,
  v77 := Tryz.zeroValue291 }
end Go.Proofs.YtkpebabbnndopaaGreatDoor

/- slices.SortedFunc of no places; places, where no key is kept. -/
namespace Go.Proofs.YtkpebabbnndopaaGreatDoor
open Go.RowKit Go.Shelf Go.Maps
set_option linter.unusedVariables false
set_option linter.unusedSimpArgs false

/-- slices.Collect of the places of a map -/
theorem collect_any (g : Nat) (lb : Array Value) (eg : ∀ args w, (callFunc g args).run Tryz.prog w = .ok (.enter g args) w) (S Sp : List PlI → Prop) (N : Nat) (hN : N ≤ 100000) (w : World) (hseq : SeqStops Fence.wide 8 Tryz.prog g lb encP S Sp N w) :
    Calls Tryz.prog 127 #[.func (.func g) #[] lb] w fun e w' => ∃ (v : Value) (xs : List PlI), e = .returned v ∧ S xs ∧ w'.ownsRow w.heap.size 123 2 v xs.length (flatP xs) ∧ (v = .slice none 0 0 ↔ xs = []) ∧ Below w.heap.size w w' :=
  (callsIn_wide (n := 10)).1 (collect_in Fence.wide 10 trivial trivial rfl (by omega) g lb trivial eg S Sp N hN w hseq)
set_option maxRecDepth 100000 in
set_option maxHeartbeats 2000000 in
theorem sort_nil (fv : Value) (w : World) : Calls Tryz.prog 128 #[.slice none 0 0, fv] w fun e w' => e = .returned (.tuple #[]) ∧ w' = w := by
  have HI : Hid (∀ W, Calls Tryz.prog 168 #[.slice none 0 0, .int .i64 0, .int .i64 0, fv] W fun e w' => e = .returned (.tuple #[]) ∧ w' = W) := fun W => by
    go_enter Tryz.func168, Tryz.ntmps168
    go_wp2_with fail
    refine wp_loop_rounds 1 ?_
    rw [rounds_succ]
    go_wp2_with fail
    go_end0
    exact ⟨rfl, rfl⟩
  have HP : Hid (∀ k W, Calls Tryz.prog 156 #[.slice none 0 0, .int .i64 0, .int .i64 0, .int .i64 k, fv] W fun e w' => e = .returned (.tuple #[]) ∧ w' = W) := fun k W => by
    go_enter Tryz.func156, Tryz.ntmps156
    go_wp2_with fail
    refine wp_loop_rounds 1 ?_
    rw [rounds_succ]
    go_wp2_with (go_at_call 168; refine (HI.out _).mono ?_; rintro e w' ⟨rfl, rfl⟩)
    exact bodyPost_ret (v := .tuple #[]) (by simp [results, Tryz.results156, go_sem]) rfl ⟨rfl, rfl⟩
  have HL : Hid (∀ W, Calls Tryz.prog 157 #[.int .u64 0] W fun e w' => e = .returned (.int .i64 0) ∧ w' = W) := fun W => by
    have H64 : Hid (∀ W, Calls Tryz.prog 177 #[.int .u64 0] W fun e w' => e = .returned (.int .i64 0) ∧ w' = W) := fun W => by
      go_enter Tryz.func177, Tryz.ntmps177
      go_wp2
      go_ret
      exact ⟨by kernel_rfl, rfl⟩
    clear HI HP
    go_enter Tryz.func157, Tryz.ntmps157
    go_wp2_with (go_at_call 177; refine (H64.out _).mono ?_; rintro e w' ⟨rfl, rfl⟩)
    go_ret
    exact ⟨rfl, rfl⟩
  clear HI
  go_enter Tryz.func128, Tryz.ntmps128
  go_wp2_with (first | (go_at_call 157; refine (HL.out _).mono ?_; rintro e w' ⟨rfl, rfl⟩) | (go_at_call 156; refine (HP.out _ _).mono ?_; rintro e w' ⟨rfl, rfl⟩))
  go_end0
  exact ⟨rfl, rfl⟩
/-- places of a map that has none -/
theorem places0 (pm : Nat) (w : World) (h : w.heap[pm]? = some (.map #[] 0)) : Calls Tryz.prog 55 #[.map (some pm)] w fun e w' => e = .returned (.slice none 0 0) ∧ Below w.heap.size w w' := by
  have hpl : pm < w.heap.size := (Array.getElem?_eq_some_iff.1 h).1
  have HK : Hid (∀ W mb, Calls Tryz.prog 94 #[.map mb] W fun e w' => e = .returned (.func (.func 129) #[] #[.pointer (some ⟨W.heap.size, 0, none⟩)]) ∧ w' = W.alloc (.cells #[.map mb] 107)) := fun W mb => (callsIn_wide (n := 3)).1 (mkeys_any Fence.wide 3 trivial rfl mb W)
  obtain ⟨w1, hw1⟩ : ∃ w1, w.alloc (.cells #[.map (some pm)] 107) = w1 := ⟨_, rfl⟩
  have b1 : Below w.heap.size w w1 := by rw [← hw1]; exact (Below.refl _ w).alloc (Nat.le_refl _) _
  have k1 : w1.heap[w.heap.size]? = some (.cells #[.map (some pm)] 107 (0, 0)) := by rw [← hw1]; exact (MapKept.heap_alloc _ _).1
  have c1 : w1.cell? ⟨w.heap.size, 0, none⟩ = some (.map (some pm)) := by rw [cell_of_row _ _ _ _ _ _ k1]; rfl
  have hs := keys0_stops Fence.wide 8 trivial rfl w.heap.size pm w1 (Array.getElem?_eq_some_iff.1 k1).1 (by have := b1.size; omega) c1 (by rw [b1.block _ hpl]; exact h)
  have HC0 := collect_any _ _ (enters_of Tryz.func129 (by kernel_rfl) rfl) _ _ 0 (by omega) w1 hs
  have HC : Hid (Calls Tryz.prog 127 #[.func (.func 129) #[] #[.pointer (some ⟨w.heap.size, 0, none⟩)]] w1 fun e w' => e = .returned (.slice none 0 0) ∧ Below w1.heap.size w1 w') := by
    refine HC0.mono fun e w' ⟨v, xs, e1, e2, _, e4, e5⟩ => ⟨?_, e5⟩
    rw [e1, e4.2 e2]
  have HS : Hid (∀ fv W, Calls Tryz.prog 128 #[.slice none 0 0, fv] W fun e w' => e = .returned (.tuple #[]) ∧ w' = W) := sort_nil
  have HSF : Hid (∀ fv, Calls Tryz.prog 93 #[.func (.func 129) #[] #[.pointer (some ⟨w.heap.size, 0, none⟩)], fv] w1 fun e w' => e = .returned (.slice none 0 0) ∧ Below w1.heap.size w1 w') := fun fv => by
    clear HC0 hs c1 k1 b1 hw1 HK
    go_enter Tryz.func93, Tryz.ntmps93
    go_wp2_with fail
    refine HC.out.mono ?_
    rintro e w2 ⟨rfl, b2⟩
    have HB : Hid (Below w1.heap.size w1 w2) := b2
    clear b2
    go_wp2_with (go_at_call 128; refine (HS.out _ _).mono ?_; rintro e w' ⟨rfl, rfl⟩)
    go_ret
    exact ⟨rfl, HB.out⟩
  have HB1 : Hid (Below w.heap.size w w1) := b1
  have HW1 : Hid (w.alloc (.cells #[.map (some pm)] 107) = w1) := hw1
  clear HC0 hs c1 k1 b1 hw1 HC HS h
  go_enter Tryz.func55, Tryz.ntmps55
  go_wp2_with (first | (go_at_call 94; refine (HK.out _ _).mono ?_; rintro e w' ⟨rfl, rfl⟩; rw [HW1.out]) | (go_at_call 93; refine (HSF.out _).mono ?_; rintro e w2 ⟨rfl, b2⟩))
  go_ret
  exact ⟨rfl, HB1.out.trans (b2.mono HB1.out.size)⟩
end Go.Proofs.YtkpebabbnndopaaGreatDoor

/- The places of the keys that were passed over, in whatever order they come. -/
namespace Go.Proofs.YtkpebabbnndopaaGreatDoor
open Go.RowKit Go.Shelf Go.Maps
attribute [local go_sem] Oper.semAt_some
set_option linter.unusedVariables false
set_option linter.unusedSimpArgs false

theorem encP_inj {x y : PlI} (h : encP x = encP y) : x = y := by
  simp only [Value.agg.injEq, Array.mk.injEq, List.cons.injEq, Value.int.injEq] at h
  exact Prod.ext h.1.2 h.2.1.2
theorem RP_val {v : Value} {y : DataW Unit × List MemPlace} (h : RP v = some y) : ∃ c : Value, v = c := ⟨v, rfl⟩
set_option maxRecDepth 100000 in
set_option maxHeartbeats 1000000 in
theorem keysN_in (F : Fence) (n : Nat) (h88 : F.fn 129) (hro : F.round = none) (hn : 1 ≤ n) (l Bm pm : Nat) (D : DataW Unit) (L : List PlI) (B : PlI → Nat) (hD : KeepD D L B) (J Jx : List PlI → World → Prop)
    (hY : ∀ pre x W1, J pre W1 → pre.length < L.length → YieldAt F (n - 1) Tryz.prog l #[encP x] W1 fun e W' => (e = .returned (.bool true) ∧ J (pre ++ [x]) W' ∧ KeepsWalks W1 W') ∨ (e = .returned (.bool false) ∧ Jx (pre ++ [x]) W'))
    (W : World) (hJ : AbidesFrom W.heap.size J) (hm : W.cell? ⟨Bm, 0, none⟩ = some (.map (some pm))) (hown : W.ownsMap Tryz.prog 123 RP pm L.length D) (h0 : J [] W) :
    CallsIn F n Tryz.prog 129 #[.func (.yield l) #[] #[], .pointer (some ⟨Bm, 0, none⟩)] W fun e W' => (∃ v, e = .returned v) ∧ ((∃ xs, xs.Perm L ∧ J xs W') ∨ (∃ pre, True ∧ Jx pre W')) := by
  refine callsIn_of_wp Tryz.func129 rfl h88 ?_ hro
  simp only [Tryz.ntmps129, List.size_toArray, List.length_cons, List.length_nil, Nat.reduceAdd, Nat.reduceSub, Array.replicate_succ, Array.replicate_zero, List.push_toArray, List.append_toArray, List.nil_append, List.cons_append]
  gi_wp2_with (first
    | (gi_at_range; refine wpListIn_range_own _ rfl _ 107 rfl 123 134 plKeyed Tryz.underlying107 _ pm L.length _ rfl hown ?_; intro w0 hrg0 hg0 hs0)
    | gi_in)
  go_frame
  gi_loopw [3] (fun _ wr => ∃ (left : Lit → Bool) (cnt : Nat) (ss : List PlI), wr.ranges Tryz.prog 123 RP pm W.heap.size L.length D left cnt ∧ Hid (ss.length + cnt ≤ L.length ∧ ss.Nodup ∧ (∀ x, x ∈ ss → x ∈ L) ∧ ∀ x, wfP x → left (litP x) = decide (x ∈ L ∧ x ∉ ss)) ∧ J ss wr)
    (fun _ wr => wr.rangeLeft pm W.heap.size)
  case atStart =>
    refine ⟨_, _, [], hrg0, (⟨by rw [hD.size]; simp, List.nodup_nil, fun _ h => (by cases h), fun x hx => by rw [hD.has x hx]; simp⟩ : _ ∧ _ ∧ _ ∧ _), hJ [] W w0 none h0 hg0 (fun r e => by cases e)⟩
  case round =>
    obtain ⟨left, cnt, ss, hrg, hC, hJs⟩ := hrel
    gi_wp2_with (first
      | (gi_at_next; refine wpListIn_next_ranges _ rfl _ rfl 123 plKeyed RP encP id (fun key kl hk => by obtain ⟨x, hx, _⟩ := keyOf_P_inv hk; exact ⟨x, hx⟩) (fun v _ _ => ⟨v, rfl⟩) pm W.heap.size L.length _ _ _ rfl hrg ?_ ?_)
      | gi_in)
    · intro hc0 hl0
      have hperm : ss.Perm L := by
        obtain ⟨_, c2, c3, c4⟩ := hC.out
        refine (List.perm_ext_iff_of_nodup c2 hD.nodup).2 fun x => ⟨c3 x, fun hx => ?_⟩
        have := c4 x (hD.wf x hx)
        rw [hl0] at this
        simp at this
        exact this hx
      gi_wp2
      go_end0
      exact ⟨⟨_, rfl⟩, .inl ⟨ss, hperm, hJs⟩⟩
    · intro x1 x2 c kl yd yp w2 cnt2 hkey hlk hv hat hrg2 hlt hg2 hs2 hen
      obtain ⟨x, e1, e2⟩ : ∃ x : PlI, x1 = x.1 ∧ x2 = x.2 := ⟨(x1, x2), rfl, rfl⟩
      subst e1
      subst e2
      obtain ⟨x', ex, rfl, hwx⟩ := keyOf_P_inv hkey
      obtain rfl : x = x' := encP_inj ex
      have hC2 : Hid (ss.length + 1 + cnt2 ≤ L.length ∧ (ss ++ [x]).Nodup ∧ (∀ y, y ∈ ss ++ [x] → y ∈ L) ∧ ∀ y, wfP y → (left (litP y) && !(litP y).sameKey (litP x)) = decide (y ∈ L ∧ y ∉ ss ++ [x])) := by
        obtain ⟨c1, c2, c3, c4⟩ := hC.out
        have hx1 := c4 x hwx
        rw [hlk] at hx1
        have hx2 : x ∈ L ∧ x ∉ ss := by simpa using hx1.symm
        refine ⟨by omega, ?_, fun y hy => ?_, fun y hy => ?_⟩
        · rw [List.nodup_append]
          refine ⟨c2, by simp, fun a ha b hb e => ?_⟩
          simp at hb
          exact hx2.2 (by rw [← hb, ← e]; exact ha)
        · rcases List.mem_append.1 hy with hy | hy
          · exact c3 y hy
          · simp at hy; subst hy; exact hx2.1
        · rw [c4 y hy]
          by_cases e : y = x
          · subst e
            rw [WideAt.sameKey_self (litP_key y)]
            simp
          · rw [sameKey_ne (fun e' => e (litP_inj hy hwx e'))]
            simp [e]
      have hlen : ss.length < L.length := by have := hC2.out.1; omega
      have hJ2 : J ss w2 := hJ ss wr w2 (some W.heap.size) hJs hg2 (fun r e => by cases e; exact ⟨Nat.le_refl _, hrg.iter_walk⟩)
      have hJ2' : J ss (w2.alloc (.cells #[.int .i64 x.1, .int .i64 x.2] 123)) := hJ ss w2 _ none hJ2 (World.grownBy_alloc w2 _ none) (fun r e => by cases e)
      obtain ⟨fn, tmps, assign, body, hy, hR⟩ := hY ss x _ hJ2' hlen
      clear hs2 hlk hkey
      gi_wp2
      refine hR.mono ?_
      rintro e W3 (⟨rfl, hJ3, hk3⟩ | ⟨rfl, hJx3⟩)
      · gi_wp2
        have hrg3 := (hrg2.of_walks (KeepsWalks.alloc _ _)).of_walks hk3
        go_roundw
        case rel => exact ⟨_, cnt2, ss ++ [x], hrg3, (by have := hC2.out; exact ⟨by rw [List.length_append]; exact this.1, this.2⟩), hJ3⟩
        case measure => rw [hrg3.left_eq, hrg.left_eq]; exact hlt
      · gi_wp2
        exact bodyPost_ret (v := .tuple #[]) (by simp [results, Tryz.results129, go_sem]) rfl ⟨⟨_, rfl⟩, .inr ⟨_, trivial, hJx3⟩⟩
theorem keysN_stops (F : Fence) (n : Nat) (h88 : F.fn 129) (hro : F.round = none) (hn : 1 ≤ n) (Bm pm : Nat) (D : DataW Unit) (L : List PlI) (B : PlI → Nat) (hD : KeepD D L B) (w : World) (hBm : Bm < w.heap.size) (hm : w.cell? ⟨Bm, 0, none⟩ = some (.map (some pm))) (hown : w.ownsMap Tryz.prog 123 RP pm L.length D) :
    SeqStops F n Tryz.prog 129 #[.pointer (some ⟨Bm, 0, none⟩)] encP (fun xs : List PlI => xs.Perm L) (fun _ => True) L.length w := fun l J Jx W hW hJ hJx hY h0 => by
  have hown' : W.ownsMap Tryz.prog 123 RP pm L.length D := by
    have hbl := hown.lt
    obtain ⟨es, clock, hb, Ft, hs, hD⟩ := hown
    exact ⟨es, clock, (hW.block pm hbl).trans hb, Ft, hs, hD⟩
  exact keysN_in F n h88 hro hn l Bm pm D L B hD J Jx hY W hJ ((hW.cell (p := ⟨Bm, 0, none⟩) hBm).trans hm) hown' h0
end Go.Proofs.YtkpebabbnndopaaGreatDoor

/- Places in their order; a row of places. -/
namespace Go.Proofs.YtkpebabbnndopaaGreatDoor
open Go.RowKit Go.Shelf Go.Sort Go.Lib
set_option linter.unusedVariables false
set_option linter.unusedSimpArgs false

def cmpI (a b : Int) : Int := if a < b then -1 else if b < a then 1 else 0
def cmpP (x y : PlI) : Int := if cmpI x.1 y.1 = 0 then cmpI x.2 y.2 else cmpI x.1 y.1
def encL (x : PlI) : List Value := [.int .i64 x.1, .int .i64 x.2]
def ltP (x y : PlI) : Prop := x.1 < y.1 ∨ (x.1 = y.1 ∧ x.2 < y.2)
theorem cmpP_lt (x y : PlI) : ltOf cmpP x y = true ↔ ltP x y := by
  unfold ltOf cmpP cmpI ltP
  simp only [decide_eq_true_eq]
  split <;> (try split) <;> omega
theorem cmpP_nlt (x y : PlI) : ltOf cmpP x y = false ↔ ¬ ltP x y := by rw [← cmpP_lt]; simp
theorem swoP : SWO (ltOf cmpP) where
  irrefl x := by rw [cmpP_nlt]; unfold ltP; omega
  trans x y z h1 h2 := by rw [cmpP_lt] at *; unfold ltP at *; omega
  ntrans x y z h1 h2 := by rw [cmpP_nlt] at *; unfold ltP at *; omega
theorem totP (x y : PlI) (h1 : ltOf cmpP x y = false) (h2 : ltOf cmpP y x = false) : x = y := by
  rw [cmpP_nlt] at h1 h2
  unfold ltP at h1 h2
  exact Prod.ext (by omega) (by omega)
/-- places in their order -/
def sortP (xs : List PlI) : List PlI := xs.mergeSort fun x y => !(ltOf cmpP) y x
theorem sortP_perm (xs : List PlI) : (sortP xs).Perm xs := List.mergeSort_perm _ _
theorem sortP_len (xs : List PlI) : (sortP xs).length = xs.length := (sortP_perm xs).length_eq
theorem sortP_sorted (xs : List PlI) : (sortP xs).Pairwise fun x y => ¬ ltP y x := by
  have h := List.pairwise_mergeSort (le := fun x y : PlI => !(ltOf cmpP) y x) (fun a b c h1 h2 => by
    simp only [Bool.not_eq_true'] at *
    exact swoP.ntrans c b a h2 h1) (fun a b => by
    simp only [Bool.or_eq_true, Bool.not_eq_true']
    rw [cmpP_nlt, cmpP_nlt]
    unfold ltP
    omega) xs
  exact h.imp fun {x y} hxy => by simpa only [Bool.not_eq_true', cmpP_nlt] using hxy
theorem sortP_eq (xs ys : List PlI) (hp : ys.Perm xs) (hs : ys.Pairwise ltP) : sortP xs = ys := by
  have h1 := sortP_sorted xs
  have hn : (sortP xs).Perm ys := (sortP_perm xs).trans hp.symm
  have h2 : ys.Pairwise fun x y => ¬ ltP y x := hs.imp fun {x y} h => by unfold ltP at *; omega
  refine hn.eq_of_pairwise (le := fun x y => ¬ ltP y x) (fun a b _ _ h3 h4 => ?_) h1 h2
  exact totP a b ((cmpP_nlt _ _).2 h4) ((cmpP_nlt _ _).2 h3)
theorem flatP_get (xs : List PlI) (i : Nat) (hi : i < xs.length) : (flatP xs)[2 * i]? = some (.int .i64 xs[i].1) ∧ (flatP xs)[2 * i + 1]? = some (.int .i64 xs[i].2) := by
  induction xs generalizing i with
  | nil => cases hi
  | cons x r ih =>
    cases i with
    | zero => exact ⟨rfl, rfl⟩
    | succ i =>
      have := ih i (by simpa using hi)
      rw [show 2 * (i + 1) = 2 * i + 1 + 1 by omega]
      simpa [flatP] using this
/-- a row of places in the block g -/
structure RowP (w : World) (g cap : Nat) (xs : List PlI) : Prop where
  row : ∃ cur : Array Value, w.heap[g]? = some (.cells cur 123 (0, 0)) ∧ cur.size = cap * 2 ∧ ∀ (j : Nat) (u : Value), (flatP xs)[j]? = some u → cur[j]? = some u
  le : xs.length ≤ cap
theorem RowP.of_owns {w : World} {base g n cap : Nat} {xs : List PlI} (h : w.ownsRow base 123 2 (.slice (some ⟨g, 0, none⟩) n cap) xs.length (flatP xs)) : n = xs.length ∧ base ≤ g ∧ RowP w g cap xs := by
  rcases h.2 with ⟨h1, _⟩ | ⟨g', cap', cur, h1, h2, h3, h4, h5, h6, h7⟩
  · cases h1
  · cases h1
    refine ⟨rfl, h2, ⟨cur, h3, h6, fun j u hu => ?_⟩, h4⟩
    have hj := (List.getElem?_eq_some_iff.1 hu).1
    rw [← h7, List.getElem?_take] at hu
    split at hu
    · rwa [Array.getElem?_toList] at hu
    · cases hu
theorem RowP.cell {w : World} {g cap : Nat} {xs : List PlI} (h : RowP w g cap xs) (i : Nat) (hi : i < xs.length) : w.cell? ⟨g, 2 * i, none⟩ = some (.int .i64 xs[i].1) ∧ w.cell? ⟨g, 2 * i + 1, none⟩ = some (.int .i64 xs[i].2) := by
  obtain ⟨cur, h1, _, h3⟩ := h.row
  obtain ⟨e1, e2⟩ := flatP_get xs i hi
  rw [cell_of_row _ _ _ _ _ _ h1, cell_of_row _ _ _ _ _ _ h1]
  exact ⟨h3 _ _ e1, h3 _ _ e2⟩
theorem RowP.keep {w w' : World} {g cap : Nat} {xs : List PlI} (h : RowP w g cap xs) (hk : w'.heap[g]? = w.heap[g]?) : RowP w' g cap xs := by
  obtain ⟨cur, h1, h2, h3⟩ := h.row
  exact ⟨⟨cur, by rw [hk]; exact h1, h2, h3⟩, h.le⟩
theorem RowP.lt {w : World} {g cap : Nat} {xs : List PlI} (h : RowP w g cap xs) : g < w.heap.size := by
  obtain ⟨cur, h1, _⟩ := h.row
  exact (Array.getElem?_eq_some_iff.1 h1).1
end Go.Proofs.YtkpebabbnndopaaGreatDoor

/- Of the places in order: those of one member. -/
namespace Go.Proofs.YtkpebabbnndopaaGreatDoor
open Go.RowKit
set_option linter.unusedVariables false
set_option linter.unusedSimpArgs false

theorem RowP.range {w : World} {g cap : Nat} {xs : List PlI} (h : RowP w g cap xs) (i : Nat) (hi : i < xs.length) : w.rangeAt g (i * 2) [.int .i64 xs[i].1, .int .i64 xs[i].2] := fun j v hv => by
  obtain ⟨e1, e2⟩ := h.cell i hi
  rcases j with _ | _ | j
  · rw [show i * 2 + 0 = 2 * i by omega, e1]; exact hv
  · rw [show i * 2 + (0 + 1) = 2 * i + 1 by omega, e2]; exact hv
  · simp at hv
theorem RowP.there {w : World} {g cap : Nat} {xs : List PlI} (h : RowP w g cap xs) (i : Nat) (hi : i < xs.length) : w.there g (i * 2) 2 := fun j hj => by
  obtain ⟨cur, h1, h2, _⟩ := h.row
  have := h.le
  rw [cell_of_row _ _ _ _ _ _ h1, Array.getElem?_eq_getElem (by omega)]
  exact ⟨rfl, by simp [World.frozen?, h1]⟩
theorem flatP_set (xs : List PlI) (i : Nat) (hi : i < xs.length) (x : PlI) (j : Nat) : (flatP (xs.set i x))[j]? = if j = i * 2 then some (.int .i64 x.1) else if j = i * 2 + 1 then some (.int .i64 x.2) else (flatP xs)[j]? := by
  induction xs generalizing i j with
  | nil => cases hi
  | cons y r ih =>
    cases i with
    | zero =>
      rw [List.set_cons_zero]
      rcases j with _ | _ | j
      · rfl
      · rfl
      · simp [flatP]
    | succ i =>
      rw [List.set_cons_succ]
      rcases j with _ | _ | j
      · simp [flatP] <;> omega
      · simp [flatP] <;> omega
      · have := ih i (by simpa using hi) j
        have p1 : (j + 1 + 1 = (i + 1) * 2) ↔ (j = i * 2) := by omega
        have p2 : (j + 1 + 1 = (i + 1) * 2 + 1) ↔ (j = i * 2 + 1) := by omega
        simp only [flatP, List.getElem?_cons_succ, this, p1, p2]
theorem RowP.set {w : World} {g cap : Nat} {xs : List PlI} (h : RowP w g cap xs) (i : Nat) (hi : i < xs.length) (x : PlI) : RowP (w.setCells g (i * 2) [.int .i64 x.1, .int .i64 x.2]) g cap (xs.set i x) := by
  obtain ⟨cur, h1, h2, h3⟩ := h.row
  have hle := h.le
  rw [setCells_row _ w g (i * 2) cur _ h1]
  refine ⟨⟨_, setRow_heap _ _ _ _ _ _ h1, by rw [putL_size]; exact h2, fun j u hu => ?_⟩, by simpa using hle⟩
  rw [flatP_set xs i hi] at hu
  by_cases e1 : j = i * 2
  · rw [if_pos e1] at hu
    rw [e1]
    exact putL_at [Value.int .i64 x.1, .int .i64 x.2] cur (i * 2) (by simp; omega) 0 u hu
  · rw [if_neg e1] at hu
    by_cases e2 : j = i * 2 + 1
    · rw [if_pos e2] at hu
      rw [e2]
      exact putL_at [Value.int .i64 x.1, .int .i64 x.2] cur (i * 2) (by simp; omega) 1 u hu
    · rw [if_neg e2] at hu
      rw [putL_out _ _ _ _ (by simp; omega)]
      exact h3 j u hu
theorem RowP.prefix {w : World} {g cap : Nat} {xs : List PlI} (h : RowP w g cap xs) (i : Nat) : RowP w g cap (xs.take i) := by
  obtain ⟨cur, h1, h2, h3⟩ := h.row
  refine ⟨⟨cur, h1, h2, fun j u hu => h3 j u ?_⟩, by rw [List.length_take]; have := h.le; omega⟩
  have e : flatP xs = flatP (xs.take i) ++ flatP (xs.drop i) := by rw [← flatP_append, List.take_append_drop]
  rw [e, List.getElem?_append_left (List.getElem?_eq_some_iff.1 hu).1]
  exact hu
theorem RowP.after {w : World} {g cap : Nat} {xs : List PlI} (h : RowP w g cap xs) (o : Nat) (l : List Value) (ho : xs.length * 2 ≤ o) : RowP (w.setCells g o l) g cap xs := by
  obtain ⟨cur, h1, h2, h3⟩ := h.row
  rw [setCells_row _ w g o cur _ h1]
  refine ⟨⟨_, setRow_heap _ _ _ _ _ _ h1, by rw [putL_size]; exact h2, fun j u hu => ?_⟩, h.le⟩
  have hj := (List.getElem?_eq_some_iff.1 hu).1
  rw [flatP_len] at hj
  rw [putL_out _ _ _ _ (.inl (by omega))]
  exact h3 j u hu
/-- the closure: is it another member's? -/
theorem other_any (x : PlI) (M : Int) (mb : Nat) (w : World) (h : w.cell? ⟨mb, 0, none⟩ = some (.int .i64 M)) :
    Calls Tryz.prog 185 #[encP x, .pointer (some ⟨mb, 0, none⟩)] w fun e w' => e = .returned (.bool (decide (x.1 ≠ M))) ∧ Below w.heap.size w w' := by
  have hb := block_lt_of_cell h
  have h' : (w.alloc (.cells #[.int .i64 x.1, .int .i64 x.2] 123)).cell? ⟨mb, 0, none⟩ = some (.int .i64 M) := by rw [← h]; exact ((Below.refl _ w).alloc (Nat.le_refl _) _).cell (p := ⟨mb, 0, none⟩) hb
  clear h
  obtain ⟨X1, h1⟩ : ∃ a, x.1 = a := ⟨_, rfl⟩
  obtain ⟨X2, h2⟩ : ∃ a, x.2 = a := ⟨_, rfl⟩
  show Calls Tryz.prog 185 #[.agg #[.int .i64 x.1, .int .i64 x.2], _] w _
  rw [h1, h2]
  rw [h1, h2] at h'
  clear h1 h2
  go_enter Tryz.func185, Tryz.ntmps185
  go_wp2_with fail
  go_ret
  refine ⟨?_, (Below.refl _ w).alloc (Nat.le_refl _) _⟩
  by_cases e : X1 = M
  · simp [e]
  · simp [e, bne]
set_option maxHeartbeats 1000000 in
/-- the first place of another member; -1: there is none -/
theorem idxP_any (g cap : Nat) (xs : List PlI) (hlen : xs.length ≤ 100000) (M : Int) (mb : Nat) (w : World) (h : RowP w g cap xs) (hm : w.cell? ⟨mb, 0, none⟩ = some (.int .i64 M)) (k : Nat) (hk : k ≤ xs.length) (hkm : ∀ hl : k < xs.length, xs[k].1 ≠ M) (hbef : ∀ i (hi : i < k), (xs[i]'(by omega)).1 = M) :
    Calls Tryz.prog 187 #[.slice (some ⟨g, 0, none⟩) xs.length cap, .func (.func 185) #[] #[.pointer (some ⟨mb, 0, none⟩)]] w fun e w' => e = .returned (.int .i64 (if k < xs.length then (k : Int) else -1)) ∧ Below w.heap.size w w' := by
  have HF : Hid (∀ (x : PlI) W, W.cell? ⟨mb, 0, none⟩ = some (.int .i64 M) → Calls Tryz.prog 185 #[encP x, .pointer (some ⟨mb, 0, none⟩)] W fun e w' => e = .returned (.bool (decide (x.1 ≠ M))) ∧ Below W.heap.size W w') := fun x W hW => other_any x M mb W hW
  have hmb := block_lt_of_cell hm
  have hgl := h.lt
  have HR : Hid (RowP w g cap xs) := h
  have HM : Hid (w.cell? ⟨mb, 0, none⟩ = some (.int .i64 M)) := hm
  have HK : Hid (∀ hl : k < xs.length, xs[k].1 ≠ M) := hkm
  have HB : Hid (∀ i (hi : i < k), (xs[i]'(by omega)).1 = M) := hbef
  obtain ⟨RES, hRES⟩ : ∃ RES : Int, (if k < xs.length then (k : Int) else -1) = RES := ⟨_, rfl⟩
  rw [hRES]
  have HRES : Hid ((k < xs.length → RES = k) ∧ (¬ k < xs.length → RES = -1)) := ⟨fun h => by rw [← hRES, if_pos h], fun h => by rw [← hRES, if_neg h]⟩
  clear h hm hkm hbef hRES
  go_enter Tryz.func187, Tryz.ntmps187
  go_wp2_with fail
  go_loopg [8] k (fun j i wr => ∃ i' : Nat, i = .int .i64 i' ∧ i' + j = k ∧ Below w.heap.size w wr)
  case atStart => exact ⟨0, rfl, by omega, Below.refl _ _⟩
  case round =>
    obtain ⟨i, rfl, hik, hbel⟩ := hrel
    by_cases hiL : i < xs.length
    · have hlt : (i : Int) < (xs.length : Int) := by omega
      have HR1 : Hid (wr.rangeAt g (i * 2) [.int .i64 xs[i].1, .int .i64 xs[i].2]) := (HR.out.keep (hbel.block g hgl)).range i hiL
      have HM1 : Hid (wr.cell? ⟨mb, 0, none⟩ = some (.int .i64 M)) := by show _ = _; rw [hbel.cell (p := ⟨mb, 0, none⟩) hmb]; exact HM.out
      have HF1 := HF.out xs[i]
      have HD : Hid (decide (xs[i].1 ≠ M) = decide (i = k)) := by
        show _ = _
        by_cases e : i = k
        · subst e
          have := HK.out hiL
          simp [this]
        · have := HB.out i (by omega)
          simp [e, this]
      have HF2 : Hid (∀ W, W.cell? ⟨mb, 0, none⟩ = some (.int .i64 M) → Calls Tryz.prog 185 #[.agg #[.int .i64 xs[i].1, .int .i64 xs[i].2], .pointer (some ⟨mb, 0, none⟩)] W fun e w' => e = .returned (.bool (decide (i = k))) ∧ Below W.heap.size W w') := fun W hW => by rw [← HD.out]; exact HF1 W hW
      obtain ⟨a, ha⟩ : ∃ a, xs[i].1 = a := ⟨_, rfl⟩
      obtain ⟨c, hc⟩ : ∃ a, xs[i].2 = a := ⟨_, rfl⟩
      rw [ha, hc] at HR1 HF2
      clear ha hc HF1 HD
      by_cases hik2 : i = k
      · subst hik2
        have hk2 : RES = i := HRES.out.1 (by omega)
        rw [show decide (i = i) = true by simp] at HF2
        clear HB HK HRES HF
        go_wp2_with (refine wpList_load_mid rfl 123 _ rfl g (i * 2) rfl [.int .i64 a, .int .i64 c] _ HR1.out Tryz.underlying123 rfl (by kernel_rfl) ?_)
        refine (HF2.out _ HM1.out).mono ?_
        rintro e w1 ⟨rfl, b1⟩
        have b2 : Below w.heap.size w w1 := hbel.trans (b1.mono hbel.size)
        clear hbel b1 HR1 HM1
        go_wp2_with fail
        go_ret
        exact ⟨by rw [hk2]; rfl, b2⟩
      · rw [show decide (i = k) = false by simp [hik2]] at HF2
        clear HB HK HRES HF
        go_wp2_with (refine wpList_load_mid rfl 123 _ rfl g (i * 2) rfl [.int .i64 a, .int .i64 c] _ HR1.out Tryz.underlying123 rfl (by kernel_rfl) ?_)
        refine (HF2.out _ HM1.out).mono ?_
        rintro e w1 ⟨rfl, b1⟩
        have b2 : Below w.heap.size w w1 := hbel.trans (b1.mono hbel.size)
        clear hbel b1 HR1 HM1
        go_wp2_with fail
        go_roundg (gk - 1)
        case measure => omega
        case rel => exact ⟨i + 1, by go_num, by omega, b2⟩
    · have hge : ¬ (i : Int) < (xs.length : Int) := by omega
      have hr : RES = -1 := HRES.out.2 (by omega)
      clear HB HK HRES HF
      go_wp2_with fail
      go_ret
      exact ⟨rfl, hbel⟩
end Go.Proofs.YtkpebabbnndopaaGreatDoor

/- The other's group in memory; epochref.New, depth, bound. -/
namespace Go.Proofs.YtkpebabbnndopaaGreatDoor
open Go.RowKit

abbrev CellsG (st : St) (steps : Int) (mb : Nat) : Array Value := #[.int .u8 (st.s 0), .int .u8 (st.s 1), .int .u8 (st.s 2), .int .u8 (st.s 3), .int .u8 (st.s 4), .int .u8 (st.s 5), .int .u8 (st.s 6), .int .u8 (st.s 7), .int .i64 st.n, .int .i64 st.own, .slice (some ⟨mb, 0, none⟩) st.n st.n, .bool st.closed, .int .i64 steps, .bool false]
def MemRow (cs : Array Value) (st : St) (ov : Nat → Value) : Prop :=
  cs.size = 3 * st.n ∧ ∀ i, i < st.n → cs[3 * i]? = some (.bool (st.m i).begun) ∧ cs[3 * i + 1]? = some (.int .i64 (st.m i).next) ∧ cs[3 * i + 2]? = some (ov i)
def OverAt (w : World) (S : List Nat) (rb mb : Nat) (v : Value) (l : List Nat) : Prop :=
  ∃ p cap, v = .slice p l.length cap ∧ l.length ≤ cap ∧ ((l = [] ∧ p = none ∧ cap = 0) ∨ ∃ ob off, p = some ⟨ob, off, none⟩ ∧ ob ∈ S ∧ ob ≠ rb ∧ ob ≠ mb ∧ ∀ j (h : j < l.length), w.cell? ⟨ob, off + j, none⟩ = some (.int .i64 (l[j] : Int)))
def RefG (w : World) (S : List Nat) (rb mb : Nat) (cs : Array Value) (ov : Nat → Value) (st : St) (steps : Int) : Prop :=
  rb ≠ mb ∧ rb ∈ S ∧ mb ∈ S ∧ w.heap[rb]? = some (.cells (CellsG st steps mb) 142 (0, 0)) ∧ w.heap[mb]? = some (.cells cs 195 (0, 0)) ∧ MemRow cs st ov ∧ ∀ i, i < st.n → OverAt w S rb mb (ov i) (st.m i).over
/-- the block rb holds the other's group, in the state st -/
def RefRep (w : World) (S : List Nat) (rb : Nat) (st : St) (steps : Int) : Prop := ∃ mb cs ov, RefG w S rb mb cs ov st steps
theorem OverAt.block_lt {w : World} {S : List Nat} {rb mb : Nat} {v : Value} {l : List Nat} (h : OverAt w S rb mb v l) : l = [] ∨ ∃ ob off cap, v = .slice (some ⟨ob, off, none⟩) l.length cap ∧ ob < w.heap.size := by
  obtain ⟨p, cap, hv, _, h | ⟨ob, off, hp, _, _, _, hc⟩⟩ := h
  · exact .inl h.1
  · cases hl : l with
    | nil => exact .inl rfl
    | cons x r =>
      refine .inr ⟨ob, off, cap, by rw [hv, hp, hl], ?_⟩
      have := hc 0 (by rw [hl]; simp)
      exact block_lt_of_cell this
theorem OverAt.keep {w w' : World} {S : List Nat} {rb mb : Nat} {v : Value} {l : List Nat} (h : OverAt w S rb mb v l) (hk : ∀ k, k < w.heap.size → k ∈ S → k ≠ rb → k ≠ mb → w'.heap[k]? = w.heap[k]?) : OverAt w' S rb mb v l := by
  obtain ⟨p, cap, hv, hle, h | ⟨ob, off, hp, h1, h2, h3, hc⟩⟩ := h
  · exact ⟨p, cap, hv, hle, .inl h⟩
  · refine ⟨p, cap, hv, hle, .inr ⟨ob, off, hp, h1, h2, h3, fun j hj => ?_⟩⟩
    have h := hc j hj
    have hlt : ob < w.heap.size := block_lt_of_cell h
    rw [← h]
    exact World.cell?_of_block (w := w) (hk ob hlt h1 h2 h3)
/-- whoever leaves the blocks S as they are leaves the group as it is -/
theorem RefRep.keep {w w' : World} {S : List Nat} {rb : Nat} {st : St} {steps : Int} (h : RefRep w S rb st steps) (hk : ∀ k, k < w.heap.size → k ∈ S → w'.heap[k]? = w.heap[k]?) : RefRep w' S rb st steps := by
  obtain ⟨mb, cs, ov, h1, h2, h3, h4, h5, h6, h7⟩ := h
  have l4 := (Array.getElem?_eq_some_iff.1 h4).1
  have l5 := (Array.getElem?_eq_some_iff.1 h5).1
  exact ⟨mb, cs, ov, h1, h2, h3, by rw [hk _ l4 h2, h4], by rw [hk _ l5 h3, h5], h6, fun i hi => (h7 i hi).keep fun k a b _ _ => hk k a b⟩
theorem RefRep.below {w w' : World} {S : List Nat} {rb : Nat} {st : St} {steps : Int} (h : RefRep w S rb st steps) (hb : Below w.heap.size w w') : RefRep w' S rb st steps := h.keep fun k a _ => hb.block k a
theorem RefG.below {w w' : World} {S : List Nat} {rb mb : Nat} {cs : Array Value} {ov : Nat → Value} {st : St} {steps : Int} (h : RefG w S rb mb cs ov st steps) (hb : Below w.heap.size w w') : RefG w' S rb mb cs ov st steps := by
  obtain ⟨h1, h2, h3, h4, h5, h6, h7⟩ := h
  have l4 := (Array.getElem?_eq_some_iff.1 h4).1
  have l5 := (Array.getElem?_eq_some_iff.1 h5).1
  exact ⟨h1, h2, h3, by rw [hb.block _ l4, h4], by rw [hb.block _ l5, h5], h6, fun i hi => (h7 i hi).keep fun k a _ _ _ => hb.block k a⟩
theorem RefG.drew {w : World} {S : List Nat} {rb mb : Nat} {cs : Array Value} {ov : Nat → Value} {st : St} {steps : Int} (h : RefG w S rb mb cs ov st steps) : RefG w.drew S rb mb cs ov st steps := h.below (Below.refl _ _).drew

def Z3 : Array Value := #[.bool false, .int .i64 0, .slice none 0 0]
theorem made_at (n i : Nat) (h : i < n) : (madeCells Z3 (n * 3))[3 * i]? = some (.bool false) ∧ (madeCells Z3 (n * 3))[3 * i + 1]? = some (.int .i64 0) ∧ (madeCells Z3 (n * 3))[3 * i + 2]? = some (.slice none 0 0) := by
  have e0 : 3 * i % 3 = 0 := by omega
  have e1 : (3 * i + 1) % 3 = 1 := by omega
  have e2 : (3 * i + 2) % 3 = 2 := by omega
  have hz : Z3.size = 3 := rfl
  unfold madeCells
  refine ⟨?_, ?_, ?_⟩
  · rw [Array.getElem?_map, Array.getElem?_range, if_pos (by omega)]
    show some (Z3[3 * i % Z3.size]!) = _
    rw [hz, e0]; rfl
  · rw [Array.getElem?_map, Array.getElem?_range, if_pos (by omega)]
    show some (Z3[(3 * i + 1) % Z3.size]!) = _
    rw [hz, e1]; rfl
  · rw [Array.getElem?_map, Array.getElem?_range, if_pos (by omega)]
    show some (Z3[(3 * i + 2) % Z3.size]!) = _
    rw [hz, e2]; rfl
/-- make, of a type whose row in the table is known -/
theorem run_make_info (t e : TypeId) (z : Value) (size bytes : Nat) (ht : Tryz.prog.underlying t = some (.slice e)) (hi : (Tryz.prog.info? e).map (fun i => (i.zero, i.size, i.bytes)) = some (some z, size, bytes)) (n : Nat) (hb : bytes * n ≤ 281474976710656) (hn : n ≤ 1000000000) (w : World) :
    (Instr.makeSlice t (.int .i64 (n : Int)) (.int .i64 (n : Int))).run Tryz.prog w = .ok (.slice (some ⟨w.heap.size, 0, none⟩) n n) (w.alloc (.cells (madeCells z.cells (n * size)) e)) := by
  cases hq : Tryz.prog.info? e with
  | none => rw [hq] at hi; simp at hi
  | some i =>
    rw [hq] at hi
    simp at hi
    have h := run_make w t e i z ht hq hi.1 .i64 .i64 (n : Int) (n : Int) (by omega) (by omega) (by rw [hi.2.2, ← Int.natCast_mul]; omega) (by omega)
    rw [hi.2.1] at h
    simpa using h
theorem St.new_m (s : Nat → Int) (n own i : Nat) : (St.new s n own).m i = ⟨false, 0, []⟩ := by
  unfold St.new St.m
  simp only [List.getD_eq_getElem?_getD, List.getElem?_replicate]
  split <;> rfl
theorem St.new_ok (s : Nat → Int) (hs : ∀ i, 0 ≤ s i ∧ s i < 256) (n own : Nat) (h1 : 1 ≤ n) (h2 : n ≤ 16) (h3 : own < n) : (St.new s n own).Ok :=
  ⟨hs, h1, h2, h3, by simp [St.new], fun m hm => by
    have : m = ⟨false, 0, []⟩ := by simp [St.new] at hm; exact hm.2
    subst this
    exact ⟨by simp, by simp, by simp, by simp⟩⟩

theorem refNew_none (s : Nat → Int) (n m : Int) (hfit : FitB n m = false) (w : World) :
    Calls Tryz.prog 27 #[Agg8 s, .int .i64 n, .int .i64 m] w fun e w' => e = .returned (.pointer none) ∧ Below w.heap.size w w' := by
  have HM : Hid (∀ W, Calls Tryz.prog 64 #[.int .i64 n, .int .i64 m] W fun e w' => e = .returned (.bool (FitB n m)) ∧ w' = W) := fun W => fits_any n m W
  rw [hfit] at HM
  clear hfit
  go_enter Tryz.func27, Tryz.ntmps27
  go_wp2_with (go_at_call 64; refine (HM.out _).mono ?_; rintro e w' ⟨rfl, rfl⟩)
  go_ret
  exact ⟨rfl, (Below.refl _ w).alloc (Nat.le_refl _) _⟩

set_option maxHeartbeats 1000000 in
theorem refNew_some (s : Nat → Int) (n m : Nat) (h1 : 1 ≤ n) (h2 : n ≤ 16) (h3 : m < n) (w : World) :
    Calls Tryz.prog 27 #[Agg8 s, .int .i64 n, .int .i64 m] w fun e w' => ∃ rb S, e = .returned (.pointer (some ⟨rb, 0, none⟩)) ∧ Below w.heap.size w w' ∧ (∀ k, k ∈ S → w.heap.size ≤ k ∧ k < w'.heap.size) ∧ RefRep w' S rb (St.new s n m) 0 := by
  have HM : Hid (∀ W, Calls Tryz.prog 64 #[.int .i64 n, .int .i64 m] W fun e w' => e = .returned (.bool (FitB n m)) ∧ w' = W) := fun W => fits_any n m W
  have hfit : FitB n m = true := by simp [FitB]; omega
  rw [hfit] at HM
  clear hfit
  have hmk : ∀ w, (Instr.makeSlice 140 (.int .i64 (n : Int)) (.int .i64 (n : Int))).run Tryz.prog w = .ok (.slice (some ⟨w.heap.size, 0, none⟩) n n) (w.alloc (.cells (madeCells Z3 (n * 3)) 195)) :=
    run_make_info 140 195 (.agg Z3) 3 40 Tryz.underlying140 (by kernel_rfl) n (by omega) (by omega)
  go_enter Tryz.func27, Tryz.ntmps27
  go_wp2_with (go_at_call 64; refine (HM.out _).mono ?_; rintro e w' ⟨rfl, rfl⟩)
  go_region
  go_wp2_with fail
  go_ret
  refine ⟨w.heap.size + 1 + 1, [w.heap.size + 1 + 1, w.heap.size + 1], rfl, ((((Below.refl _ w).alloc (Nat.le_refl _) _).alloc (by simp) _).alloc (by simp; omega) _).drew, ?_, w.heap.size + 1, madeCells Z3 (n * 3), fun _ => .slice none 0 0, by omega, by simp, by simp, ?_, ?_, ⟨?_, ?_⟩, ?_⟩
  · intro k hk
    simp at hk
    simp
    omega
  · have e := (MapKept.heap_alloc ((w.alloc (.cells (Cells8 s) 51)).alloc (.cells (madeCells Z3 (n * 3)) 195)) (.cells (CellsG (St.new s n m) 0 (w.heap.size + 1)) 142)).1
    simp only [World.size_alloc] at e
    exact e
  · show (World.alloc _ _).heap[_]? = _
    rw [Below.heap_alloc _ _ _ (by simp)]
    have e := (MapKept.heap_alloc (w.alloc (.cells (Cells8 s) 51)) (.cells (madeCells Z3 (n * 3)) 195)).1
    simp only [World.size_alloc] at e
    exact e
  · rw [size_madeCells]; show n * 3 = 3 * n; omega
  · intro i hi
    rw [St.new_m]
    exact made_at n i hi
  · intro i hi
    rw [St.new_m]
    exact ⟨none, 0, rfl, Nat.le_refl _, .inl ⟨rfl, rfl, rfl⟩⟩
end Go.Proofs.YtkpebabbnndopaaGreatDoor

/- epochref.depth, (*Group).bound. -/
namespace Go.Proofs.YtkpebabbnndopaaGreatDoor
open Go.RowKit

theorem DepB_lt (k : Nat) : ∀ n m, 1 ≤ n → DepB k n m + 1 ≤ n := by
  induction k with
  | zero => intro n m h; exact h
  | succ k ih =>
    intro n m h
    rw [DepB]
    split
    · omega
    · have hsp := SplitI_bd (n : Int) (by omega)
      split
      · have := ih (SplitI n).toNat m (by omega); omega
      · have := ih (n - (SplitI n).toNat) (m - (SplitI n).toNat) (by omega); omega

set_option maxHeartbeats 1000000 in
theorem refDepth_any (k : Nat) : ∀ (n m : Nat) (w : World), 1 ≤ n → n ≤ 16 → m < n → n ≤ k + 1 →
    Calls Tryz.prog 161 #[.int .i64 n, .int .i64 m] w fun e w' => e = .returned (.int .i64 (DepB k n m)) ∧ w' = w := by
  induction k with
  | zero =>
    intro n m w h1 h2 h3 h4
    obtain rfl : n = 1 := by omega
    go_enter Tryz.func161, Tryz.ntmps161
    go_wp2_with fail
    go_ret
    exact ⟨rfl, rfl⟩
  | succ k ih =>
    intro n m w h1 h2 h3 h4
    by_cases hn : n = 1
    · subst hn
      go_enter Tryz.func161, Tryz.ntmps161
      go_wp2_with fail
      go_ret
      exact ⟨rfl, rfl⟩
    · have hsp := SplitI_bd (n : Int) (by omega)
      have HSP : Hid (∀ W, Calls Tryz.prog 110 #[.int .i64 n] W fun e w' => e = .returned (.int .i64 (SplitI n)) ∧ w' = W) := fun W => split_any n (by omega) (by omega) W
      rw [DepB, if_neg (by omega)]
      obtain ⟨q, hq⟩ : ∃ q : Nat, SplitI n = q := ⟨(SplitI n).toNat, by omega⟩
      rw [hq] at HSP hsp ⊢
      have hq1 : ((q : Int)).toNat = q := by omega
      rw [hq1]
      clear hq hq1
      by_cases hm : m < q
      · rw [if_pos hm]
        have HP : Hid (∀ W, Calls Tryz.prog 161 #[.int .i64 q, .int .i64 m] W fun e w' => e = .returned (.int .i64 (DepB k q m)) ∧ w' = W) := fun W => ih q m W (by omega) (by omega) hm (by omega)
        have hle := DepB_lt k q m (by omega)
        obtain ⟨d, hd⟩ : ∃ d, DepB k q m = d := ⟨_, rfl⟩
        rw [hd] at HP hle ⊢
        clear hd ih
        go_enter Tryz.func161, Tryz.ntmps161
        go_wp2_with (first | (go_at_call 110; refine (HSP.out _).mono ?_; rintro e w' ⟨rfl, rfl⟩) | (go_at_call 161; refine (HP.out _).mono ?_; rintro e w' ⟨rfl, rfl⟩))
        go_ret
        exact ⟨by go_num, rfl⟩
      · rw [if_neg hm]
        have HP : Hid (∀ W, Calls Tryz.prog 161 #[.int .i64 ((n : Int) - q), .int .i64 ((m : Int) - q)] W fun e w' => e = .returned (.int .i64 (DepB k (n - q) (m - q))) ∧ w' = W) := fun W => by
          have h := ih (n - q) (m - q) W (by omega) (by omega) (by omega) (by omega)
          have e1 : ((n - q : Nat) : Int) = (n : Int) - q := by omega
          have e2 : ((m - q : Nat) : Int) = (m : Int) - q := by omega
          rw [e1, e2] at h
          exact h
        have hle := DepB_lt k (n - q) (m - q) (by omega)
        obtain ⟨d, hd⟩ : ∃ d, DepB k (n - q) (m - q) = d := ⟨_, rfl⟩
        rw [hd] at HP hle ⊢
        clear hd ih
        go_enter Tryz.func161, Tryz.ntmps161
        go_wp2_with (first | (go_at_call 110; refine (HSP.out _).mono ?_; rintro e w' ⟨rfl, rfl⟩) | (go_at_call 161; refine (HP.out _).mono ?_; rintro e w' ⟨rfl, rfl⟩))
        go_ret
        exact ⟨by go_num, rfl⟩

theorem row_facts' {w : World} {g : Nat} {cs : Array Value} {t : TypeId} (h : w.heap[g]? = some (.cells cs t (0, 0))) : (∀ o, w.cell? ⟨g, o, none⟩ = cs[o]?) ∧ (∀ o, w.frozen? ⟨g, o, none⟩ = false) :=
  ⟨fun o => cell_of_row _ _ _ _ _ _ h, fun o => by simp [World.frozen?, h]⟩

set_option maxHeartbeats 1000000 in
theorem refBound_any (w : World) (S : List Nat) (rb mb : Nat) (cs : Array Value) (ov : Nat → Value) (st : St) (steps : Int) (ok : st.Ok) (h : RefG w S rb mb cs ov st steps) (who gen len : Nat) (hw : who < st.n) (hg : gen ≤ 65536) (hl : len ≤ 1000000) :
    Calls Tryz.prog 135 #[.pointer (some ⟨rb, 0, none⟩), .int .i64 who, .int .i64 gen, .int .i64 len] w fun e w' => e = .returned (.int .i64 (st.bound who gen len)) ∧ w' = w := by
  obtain ⟨h1, h2, h3, h4, h5, h6, h7⟩ := h
  have n16 := ok.n16
  have HD : Hid (∀ W, Calls Tryz.prog 161 #[.int .i64 st.n, .int .i64 who] W fun e w' => e = .returned (.int .i64 (DepB 16 st.n who)) ∧ w' = W) := fun W => refDepth_any 16 st.n who W ok.n1 ok.n16 hw (by omega)
  have hle := DepB_le 16 st.n who
  have hnx := (ok.m who).1
  obtain ⟨hA, hAf⟩ := row_facts' h4
  obtain ⟨hM, _⟩ := row_facts' h5
  have hN : w.cell? ⟨mb, who * 3 + 1, none⟩ = some (.int .i64 (st.m who).next) := by rw [hM, Nat.mul_comm]; exact (h6.2 who hw).2.1
  unfold St.bound
  obtain ⟨d, hd⟩ : ∃ d, DepB 16 st.n who = d := ⟨_, rfl⟩
  obtain ⟨x, hx⟩ : ∃ x, (st.m who).next = x := ⟨_, rfl⟩
  rw [hd] at HD hle ⊢
  rw [hx] at hN hnx ⊢
  clear hd hx hM h2 h3 h4 h5 h6 h7 hAf ok
  by_cases hneg : (gen : Int) - x + 1 < 0
  · go_enter Tryz.func135, Tryz.ntmps135
    go_wp2_with (go_at_call 161; refine (HD.out _).mono ?_; rintro e w' ⟨rfl, rfl⟩)
    go_ret
    exact ⟨by go_num, rfl⟩
  · go_enter Tryz.func135, Tryz.ntmps135
    go_wp2_with (go_at_call 161; refine (HD.out _).mono ?_; rintro e w' ⟨rfl, rfl⟩)
    go_ret
    exact ⟨by go_num, rfl⟩
end Go.Proofs.YtkpebabbnndopaaGreatDoor
