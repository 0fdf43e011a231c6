import Derived.Test.YtkpebabbnndopaaGreatDoorG12
import Derived.Test.YtkpebabbnndopaaGreatDoorG13
import Derived.WalkKit
import Derived.WalkSpells
import Derived.WalkLawsBesides
import Derived.Deep.WholeRow
import Derived.Deep.MidRow
import Derived.Deep.LoopGhost
import Derived.Test.YtkpebabbnndopaaGreatDoorC11
import Derived.Test.YtkpebabbnndopaaGreatDoorG02
/- placesOf, giveUp. -/
namespace Go.Proofs.YtkpebabbnndopaaGreatDoor
open Go.RowKit
set_option linter.unusedVariables false
set_option linter.unusedSimpArgs false

theorem del_nil (fv : Value) (w : World) : Calls Tryz.prog 184 #[.slice none 0 0, fv] w fun e w' => e = .returned (.slice none 0 0) ∧ w' = w := by
  have HI : Hid (∀ W, Calls Tryz.prog 187 #[.slice none 0 0, fv] W fun e w' => e = .returned (.int .i64 (-1)) ∧ w' = W) := fun W => by
    go_enter Tryz.func187, Tryz.ntmps187
    go_wp2_with fail
    refine wp_loop_rounds 1 ?_
    rw [rounds_succ]
    go_wp2_with fail
    go_ret
    exact ⟨rfl, rfl⟩
  go_enter Tryz.func184, Tryz.ntmps184
  go_wp2_with (go_at_call 187; refine (HI.out _).mono ?_; rintro e w' ⟨rfl, rfl⟩)
  go_ret
  exact ⟨rfl, rfl⟩
/-- a slice of places: none, or a row of its own -/
def SlP (w : World) (n : Nat) (v : Value) (xs : List PlI) : Prop := (xs = [] ∧ v = .slice none 0 0) ∨ ∃ g cap, v = .slice (some ⟨g, 0, none⟩) xs.length cap ∧ n ≤ g ∧ RowP w g cap xs
set_option maxHeartbeats 1000000 in
theorem placesOf_any {w : World} {pm : Nat} {L : List PlI} {B : PlI → Nat} {key : PlI → Nat → Int} (h : KeepAt w pm L B key) (hlen : L.length ≤ 1000) (M : Int) :
    Calls Tryz.prog 178 #[.map (some pm), .int .i64 M] w fun e w' => ∃ v, e = .returned v ∧ Below w.heap.size w w' ∧ SlP w' w.heap.size v (ofM M (sortP L)) := by
  obtain ⟨w1, hw1⟩ : ∃ w1, w.alloc (.cells #[.int .i64 M] 3) = w1 := ⟨_, rfl⟩
  have b1 : Below w.heap.size w w1 := by rw [← hw1]; exact (Below.refl _ w).alloc (Nat.le_refl _) _
  have k1 : w1.heap[w.heap.size]? = some (.cells #[.int .i64 M] 3 (0, 0)) := by rw [← hw1]; exact (MapKept.heap_alloc _ _).1
  have z1 : w1.heap.size = w.heap.size + 1 := by rw [← hw1]; simp
  have HP0 := places_any (h.below b1) hlen
  have HP : Hid (Calls Tryz.prog 55 #[.map (some pm)] w1 fun e w' => ∃ v, e = .returned v ∧ Hid (Below w1.heap.size w1 w' ∧ SlP w' w1.heap.size v (sortP L))) := HP0.mono fun e w' ⟨q1, q2⟩ => by
    rcases q2 with ⟨hL, rfl⟩ | ⟨hL, g, cap, rfl, hg, hr⟩
    · exact ⟨_, rfl, q1, .inl ⟨List.eq_nil_of_length_eq_zero (by rw [sortP_len, hL]; rfl), rfl⟩⟩
    · exact ⟨_, rfl, q1, .inr ⟨g, cap, by rw [sortP_len], hg, hr⟩⟩
  have hmf : ∀ (fn : Fn) (first cap : Array Value) (w : World), (Instr.makeFunc fn first cap).run Tryz.prog w = .ok (.func fn first cap) w := fun _ _ _ _ => rfl
  have HL : Hid ((sortP L).length ≤ 1000) := by show _ ≤ _; rw [sortP_len]; exact hlen
  have HB1 : Hid (Below w.heap.size w w1 ∧ w1.heap[w.heap.size]? = some (.cells #[.int .i64 M] 3 (0, 0)) ∧ w1.heap.size = w.heap.size + 1) := ⟨b1, k1, z1⟩
  have HW1 : Hid (w.alloc (.cells #[.int .i64 M] 3) = w1) := hw1
  clear HP0 h hlen hw1 b1 k1 z1
  go_enter Tryz.func178, Tryz.ntmps178
  go_wp2_with fail
  rw [HW1.out]
  refine HP.out.mono ?_
  rintro e w2 ⟨v, rfl, hx⟩
  have HD : Hid (Calls Tryz.prog 184 #[v, .func (.func 185) #[] #[.pointer (some ⟨w.heap.size, 0, none⟩)]] w2 fun e w' => ∃ u, e = .returned u ∧ Hid (Below w.heap.size w w' ∧ SlP w' w.heap.size u (ofM M (sortP L)))) := by
    obtain ⟨q1, q2⟩ := hx.out
    obtain ⟨p1, p2, p3⟩ := HB1.out
    have hc : w2.cell? ⟨w.heap.size, 0, none⟩ = some (.int .i64 M) := by
      rw [q1.cell (p := ⟨w.heap.size, 0, none⟩) (by show w.heap.size < w1.heap.size; omega), cell_of_row _ _ _ _ _ _ p2]
      rfl
    rcases q2 with ⟨hL, hv⟩ | ⟨g, cap, hv, hg, hr⟩
    · show Calls _ _ _ _ _
      rw [hv]
      refine (del_nil _ w2).mono fun e w' ⟨e1, e2⟩ => ⟨_, e1, ?_⟩
      rw [e2, hL]
      exact ⟨p1.trans (q1.mono (by omega)), .inl ⟨rfl, rfl⟩⟩
    · show Calls _ _ _ _ _
      rw [hv]
      refine (delP_any g cap (sortP L) (by have := HL.out; omega) M w.heap.size (by omega) w2 hr hc).mono fun e w' ⟨e1, e2, e3⟩ => ⟨_, e1, ?_⟩
      exact ⟨(p1.trans (q1.mono (by omega))).trans (e2.toBelow w.heap.size (by have := q1.size; omega) (fun i hi => by simp at hi; omega)), .inr ⟨g, cap, rfl, by omega, e3⟩⟩
  clear hx HP HL HB1 HW1
  go_wp2_with fail
  refine HD.out.mono ?_
  rintro e w3 ⟨u, rfl, hy⟩
  clear HD
  go_wp2_with fail
  go_ret
  exact ⟨u, rfl, hy.out.1, hy.out.2⟩
end Go.Proofs.YtkpebabbnndopaaGreatDoor

/- giveUp. -/
namespace Go.Proofs.YtkpebabbnndopaaGreatDoor
open Go.RowKit
set_option linter.unusedVariables false
set_option linter.unusedSimpArgs false

theorem mem_erases {x : PlI} {ys L : List PlI} (h : x ∈ L) (hn : x ∉ ys) : x ∈ ys.foldl List.erase L := by
  induction ys generalizing L with
  | nil => exact h
  | cons y r ih =>
    rw [List.mem_cons, not_or] at hn
    exact ih ((List.mem_erase_of_ne hn.1).2 h) hn.2
theorem erases_sub {x : PlI} {ys L : List PlI} (h : x ∈ ys.foldl List.erase L) : x ∈ L := by
  induction ys generalizing L with
  | nil => exact h
  | cons y r ih => exact List.mem_of_mem_erase (ih h)
/-- what giveUp leaves -/
def gaveP (M : Int) (L : List PlI) : List PlI := ((ofM M (sortP L)).take ((ofM M (sortP L)).length - 4)).foldl List.erase L
theorem gaveP_sub {M : Int} {L : List PlI} {x : PlI} (h : x ∈ gaveP M L) : x ∈ L := erases_sub h
theorem ofM_mem {M : Int} {L : List PlI} {x : PlI} (h : x ∈ ofM M (sortP L)) : x ∈ L := (sortP_perm L).mem_iff.1 (List.mem_filter.1 h).1
theorem ofM_nodup {M : Int} {L : List PlI} (h : L.Nodup) : (ofM M (sortP L)).Nodup := ((sortP_perm L).nodup_iff.2 h).sublist List.filter_sublist
set_option maxHeartbeats 1000000 in
theorem giveUp_any {w : World} {pm : Nat} {L : List PlI} {B : PlI → Nat} {key : PlI → Nat → Int} (h : KeepAt w pm L B key) (hlen : L.length ≤ 1000) (M : Int) :
    Calls Tryz.prog 167 #[.map (some pm), .int .i64 M] w fun e w' => e = .returned (.tuple #[]) ∧ Outside (pm :: L.map B) w w' ∧ KeepAt w' pm (gaveP M L) B key := by
  have HPO : Hid (Calls Tryz.prog 178 #[.map (some pm), .int .i64 M] w fun e w' => ∃ v, e = .returned v ∧ Below w.heap.size w w' ∧ SlP w' w.heap.size v (ofM M (sortP L))) := placesOf_any h hlen M
  have HFG : Hid (∀ W L' x, KeepAt W pm L' B key → x ∈ L' → Calls Tryz.prog 134 #[.map (some pm), .agg #[.int .i64 x.1, .int .i64 x.2]] W fun e w' => e = .returned (.tuple #[]) ∧ KeepAt w' pm (L'.erase x) B key ∧ Outside [pm, B x] W w') := fun W L' x hW hx => forget_any hW x hx
  have HK : Hid (KeepAt w pm L B key) := h
  have HL : Hid (∀ x, x ∈ L → B x < w.heap.size) := fun x hx => (Array.getElem?_eq_some_iff.1 (h.row x hx)).1
  have HND : Hid ((ofM M (sortP L)).Nodup ∧ (∀ x, x ∈ ofM M (sortP L) → x ∈ L) ∧ (ofM M (sortP L)).length ≤ 1000) := ⟨ofM_nodup h.nodup, fun x hx => ofM_mem hx, Nat.le_trans (List.length_filter_le _ _) (by rw [sortP_len]; exact hlen)⟩
  have hpl := h.lt
  unfold gaveP
  obtain ⟨T, hT⟩ : ∃ T, ofM M (sortP L) = T := ⟨_, rfl⟩
  rw [hT] at HPO HND ⊢
  obtain ⟨k, hk⟩ : ∃ k, T.length - 4 = k := ⟨_, rfl⟩
  rw [hk]
  clear hT h hlen
  go_enter Tryz.func167, Tryz.ntmps167
  go_wp2_with fail
  refine HPO.out.mono ?_
  rintro e w1 ⟨v, rfl, b1, hs⟩
  have HB1 : Hid (Below w.heap.size w w1) := b1
  clear HPO b1
  rcases hs with ⟨rfl, rfl⟩ | ⟨g, cap, rfl, hg, hr⟩
  · clear HFG HL HND
    go_wp2_with fail
    rw [show (max 0 (-4) : Int) = 0 from rfl]
    refine wp_loop_rounds 1 ?_
    rw [rounds_succ]
    go_wp2_with fail
    go_end0
    rw [show k = 0 from by rw [← hk]; rfl]
    exact ⟨rfl, Outside.ofBelow HB1.out, HK.out.below HB1.out⟩
  · have HR : Hid (RowP w1 g cap T) := hr
    have hcap := hr.le
    obtain ⟨n, hn⟩ : ∃ n, T.length = n := ⟨_, rfl⟩
    rw [hn] at hcap ⊢
    have hn0 : (0 : Int) ≤ n := by omega
    have hni : (n : Int) ≤ 1000 := by have := HND.out.2.2; omega
    have hci : (n : Int) ≤ cap := by omega
    clear hr
    go_wp2_with fail
    rw [show (max 0 ((n : Int) - 4)) = (k : Int) from by omega, Int.toNat_natCast]
    have hkn : k ≤ n := by omega
    have hki : (k : Int) ≤ 1000 := by omega
    go_loopg [17] k (fun r v17 wr => ∃ i : Nat, v17 = .int .i64 i ∧ i + r = k ∧ Hid (Outside (pm :: L.map B) w wr ∧ RowP wr g cap T ∧ KeepAt wr pm ((T.take i).foldl List.erase L) B key))
    case atStart => exact ⟨0, rfl, by omega, Outside.ofBelow HB1.out, HR.out, HK.out.below HB1.out⟩
    case round =>
      obtain ⟨i, rfl, hik, hX⟩ := hrel
      by_cases hlt : (i : Int) < (k : Int)
      · have hiT : i < T.length := by omega
        obtain ⟨x, hx⟩ : ∃ x, T[i] = x := ⟨_, rfl⟩
        have HR1 : Hid (wr.rangeAt g (i * 2) [.int .i64 x.1, .int .i64 x.2]) := by
          have := hX.out.2.1.range i hiT
          rw [hx] at this
          exact this
        have HMX : Hid (x ∈ T ∧ x ∈ (T.take i).foldl List.erase L ∧ T.take (i + 1) = T.take i ++ [x]) := by
          have hxm : x ∈ T := by rw [← hx]; exact List.getElem_mem hiT
          have ht := List.take_succ_eq_append_getElem hiT
          rw [hx] at ht
          refine ⟨hxm, mem_erases (HND.out.2.1 x hxm) (fun hm => ?_), ht⟩
          have hnd : (T.take (i + 1)).Nodup := HND.out.1.sublist (List.take_sublist _ _)
          rw [ht, List.nodup_append] at hnd
          exact hnd.2.2 x hm x (List.mem_singleton.2 rfl) rfl
        have hgr : g < wr.heap.size := hX.out.2.1.lt
        obtain ⟨wa, hwa⟩ : ∃ wa, wr.alloc (.cells #[.int .i64 x.1, .int .i64 x.2] 123) = wa := ⟨_, rfl⟩
        have ba : Below wr.heap.size wr wa := by rw [← hwa]; exact (Below.refl _ wr).alloc (Nat.le_refl _) _
        have ka : wa.heap[wr.heap.size]? = some (.cells #[.int .i64 x.1, .int .i64 x.2] 123 (0, 0)) := by rw [← hwa]; exact (MapKept.heap_alloc _ _).1
        have hAa : ∀ o, wa.cell? ⟨wr.heap.size, o, none⟩ = #[Value.int .i64 x.1, .int .i64 x.2][o]? := fun o => cell_of_row _ _ _ _ _ _ ka
        have HWA : Hid (wr.alloc (.cells #[.int .i64 x.1, .int .i64 x.2] 123) = wa) := hwa
        have HBA : Hid (Below wr.heap.size wr wa) := ba
        have HF2 : Hid (Calls Tryz.prog 134 #[.map (some pm), .agg #[.int .i64 x.1, .int .i64 x.2]] wa fun e w' => e = .returned (.tuple #[]) ∧ KeepAt w' pm (((T.take i).foldl List.erase L).erase x) B key ∧ Outside [pm, B x] wa w') := HFG.out wa _ x (hX.out.2.2.below ba) HMX.out.2.1
        clear hx hwa ba ka hn
        go_wp2_with (first | refine wpList_load_mid rfl 123 _ rfl g (i * 2) rfl [.int .i64 x.1, .int .i64 x.2] _ HR1.out Tryz.underlying123 rfl (by kernel_rfl) ?_)
        rw [HWA.out]
        clear HFG HWA
        go_wp2_with fail
        refine HF2.out.mono ?_
        rintro e w3 ⟨rfl, k3, o3⟩
        have HX4 : Hid (Outside (pm :: L.map B) w w3 ∧ RowP w3 g cap T ∧ KeepAt w3 pm ((T.take (i + 1)).foldl List.erase L) B key) := by
          obtain ⟨o1, r1, t1⟩ := hX.out
          have hxL := HND.out.2.1 x HMX.out.1
          have hbx := HL.out x hxL
          refine ⟨(o1.below HBA.out).trans o3 (fun j hj _ => ?_), r1.keep ?_, ?_⟩
          · rcases List.mem_cons.1 hj with rfl | hj
            · exact List.mem_cons_self
            · rw [List.mem_singleton] at hj
              subst hj
              exact List.mem_cons_of_mem _ (List.mem_map.2 ⟨x, hxL, rfl⟩)
          · rw [o3.block g (by have := HBA.out.size; omega) (by simp; omega), HBA.out.block g hgr]
          · rw [HMX.out.2.2, List.foldl_append]
            exact k3
        clear k3 o3 HF2 hAa
        go_wp2_with fail
        go_roundg (gk - 1)
        case measure => omega
        case rel => exact ⟨i + 1, by go_num, by omega, HX4⟩
      · have hik2 : i = k := by omega
        rw [hik2] at hX
        clear HFG
        go_wp2_with fail
        go_end0
        exact ⟨rfl, hX.out.1, hX.out.2.2⟩
end Go.Proofs.YtkpebabbnndopaaGreatDoor

/- What a member's first message takes of the tree, as plain data. -/
namespace Go.Proofs.YtkpebabbnndopaaGreatDoor
open Go.RowKit

theorem spl_fuel (k : Nat) : ∀ k' (p : PartD) m, p.t - p.f ≤ k + 1 → p.t - p.f ≤ k' + 1 → p.spl k m = p.spl k' m := by
  induction k with
  | zero =>
    intro k' p m h1 h2
    rw [PartD.spl_one 0 p m (by omega), PartD.spl_one k' p m (by omega)]
  | succ k ih =>
    intro k' p m h1 h2
    by_cases h : p.t - p.f ≤ 1
    · rw [PartD.spl_one _ p m h, PartD.spl_one _ p m h]
    · obtain ⟨k', rfl⟩ : ∃ j, k' = j + 1 := ⟨k' - 1, by omega⟩
      have hb := halves_bd p h
      by_cases hm : m < p.f + SplitN (p.t - p.f)
      · rw [PartD.spl_left k p m h hm, PartD.spl_left k' p m h hm, ih k' p.left m (by omega) (by omega)]
      · rw [PartD.spl_right k p m h hm, PartD.spl_right k' p m h hm, ih k' p.right m (by omega) (by omega)]
theorem begun_iff (st : St) (f t : Nat) : st.begun f t = true ↔ ∃ i, f ≤ i ∧ i < t ∧ (st.m i).begun = true := by
  constructor
  · intro h
    unfold St.begun at h
    rw [List.any_eq_true] at h
    obtain ⟨i, hi, hb⟩ := h
    have := List.mem_range.1 hi
    exact ⟨f + i, by omega, by omega, hb⟩
  · rintro ⟨i, h1, h2, h3⟩
    exact begun_true st f t i h1 h2 h3
theorem begun_false (st : St) (f t : Nat) : st.begun f t = false ↔ ∀ i, f ≤ i → i < t → (st.m i).begun = false := by
  constructor
  · intro h i h1 h2
    cases hb : (st.m i).begun with
    | false => rfl
    | true => rw [begun_true st f t i h1 h2 hb] at h; cases h
  · intro h
    cases hb : st.begun f t with
    | false => rfl
    | true =>
      obtain ⟨i, h1, h2, h3⟩ := (begun_iff st f t).1 hb
      rw [h i h1 h2] at h3; cases h3
/-- st' is st, but that the member j has begun -/
structure Began (st st' : St) (j : Nat) : Prop where
  s : st'.s = st.s
  n : st'.n = st.n
  not : (st.m j).begun = false
  now : (st'.m j).begun = true
  oth : ∀ i, i ≠ j → (st'.m i).begun = (st.m i).begun
theorem Began.part {st st' : St} {j : Nat} (h : Began st st' j) (a b : Nat) : st'.part a b = st.part a b := by unfold St.part; rw [h.s, h.n]
theorem Began.same {st st' : St} {j : Nat} (h : Began st st' j) (f t : Nat) (hj : j < f ∨ t ≤ j) : st'.begun f t = st.begun f t := by
  cases hb : st.begun f t with
  | false =>
    rw [begun_false] at hb ⊢
    intro i h1 h2
    rw [h.oth i (by omega)]; exact hb i h1 h2
  | true =>
    rw [begun_iff] at hb ⊢
    obtain ⟨i, h1, h2, h3⟩ := hb
    exact ⟨i, h1, h2, by rw [h.oth i (by omega)]; exact h3⟩
theorem Began.parts {st st' : St} {j : Nat} (h : Began st st' j) (k : Nat) : ∀ f t, (j < f ∨ t ≤ j) → st'.parts k f t = st.parts k f t := by
  induction k with
  | zero => intro f t hj; unfold St.parts; rw [h.same f t hj, h.part]
  | succ k ih =>
    intro f t hj
    have hs := h.same f t hj
    cases hb : st.begun f t with
    | false =>
      rw [hb] at hs
      rw [St.parts_not st _ _ _ hb, St.parts_not st' _ _ _ hs, h.part]
    | true =>
      rw [hb] at hs
      by_cases h1 : t - f = 1
      · rw [St.parts_one st _ _ _ hb h1, St.parts_one st' _ _ _ hs h1]
      · have h2 : 2 ≤ t - f := by
          obtain ⟨i, a, b, _⟩ := (begun_iff _ _ _).1 hb
          omega
        have hq := SplitN_bd (t - f) h2
        rw [St.parts_two st k f t hb h1, St.parts_two st' k f t hs h1, ih f _ (by omega), ih _ t (by omega)]
/-- a part of which nobody had begun, taken apart -/
theorem parts_fresh {st st' : St} (ok : st.Ok) {j : Nat} (h : Began st st' j) (k : Nat) : ∀ f t, st.node f t → f ≤ j → j < t → t - f ≤ k + 1 → st.begun f t = false →
    (st'.parts k f t).map itPart = ((⟨f, t, st.part f t⟩ : PartD).spl k j).x ++ ((⟨f, t, st.part f t⟩ : PartD).spl k j).y ∧ ((⟨f, t, st.part f t⟩ : PartD).spl k j).s = st.part j (j + 1) ∧ ((⟨f, t, st.part f t⟩ : PartD).spl k j).d = DepB k (t - f) (j - f) := by
  induction k with
  | zero =>
    intro f t hn h1 h2 h3 hb
    obtain rfl : f = j := by omega
    obtain rfl : t = f + 1 := by omega
    rw [St.parts_one st' 0 f (f + 1) (begun_true st' f (f + 1) f (by omega) (by omega) h.now) (by omega)]
    exact ⟨rfl, rfl, rfl⟩
  | succ k ih =>
    intro f t hn h1 h2 h3 hb
    have hb' : st'.begun f t = true := begun_true st' f t j h1 h2 h.now
    by_cases h4 : t - f = 1
    · obtain rfl : f = j := by omega
      obtain rfl : t = f + 1 := by omega
      rw [St.parts_one st' _ _ _ hb' h4, PartD.spl_one _ _ _ (by show f + 1 - f ≤ 1; omega)]
      refine ⟨rfl, rfl, ?_⟩
      rw [DepB, if_pos (by omega)]
    · have hsp := SplitN_bd (t - f) (by omega)
      obtain ⟨⟨n1, p1⟩, n2, p2⟩ := St.halves ok hn (by omega)
      have hgt : ¬ ((⟨f, t, st.part f t⟩ : PartD).t - (⟨f, t, st.part f t⟩ : PartD).f ≤ 1) := by show ¬ (t - f ≤ 1); omega
      have hS : (SplitI ((t - f : Nat) : Int)).toNat = SplitN (t - f) := by rw [SplitN_eq]; omega
      rw [St.parts_two st' k f t hb' h4, List.map_append]
      have eL : (⟨f, t, st.part f t⟩ : PartD).left = ⟨f, f + SplitN (t - f), st.part f (f + SplitN (t - f))⟩ := by unfold PartD.left; rw [p1]
      have eR : (⟨f, t, st.part f t⟩ : PartD).right = ⟨f + SplitN (t - f), t, st.part (f + SplitN (t - f)) t⟩ := by unfold PartD.right; rw [p2]
      by_cases hm : j < f + SplitN (t - f)
      · obtain ⟨i1, i2, i3⟩ := ih f (f + SplitN (t - f)) n1 h1 hm (by omega) ((begun_false _ _ _).2 fun i a b => (begun_false st f t).1 hb i a (by omega))
        rw [PartD.spl_left k _ j hgt hm, eL, eR]
        have hnr : st'.begun (f + SplitN (t - f)) t = false := by
          rw [h.same _ _ (.inl hm)]
          exact (begun_false _ _ _).2 fun i a b => (begun_false st f t).1 hb i (by omega) b
        rw [i1, St.parts_not _ _ _ _ hnr, h.part]
        refine ⟨by simp [itPart], i2, ?_⟩
        simp only
        rw [i3, DepB, if_neg (by omega), hS, if_pos (by omega), show f + SplitN (t - f) - f = SplitN (t - f) by omega]
        omega
      · obtain ⟨i1, i2, i3⟩ := ih (f + SplitN (t - f)) t n2 (by omega) h2 (by omega) ((begun_false _ _ _).2 fun i a b => (begun_false st f t).1 hb i (by omega) b)
        rw [PartD.spl_right k _ j hgt hm, eL, eR]
        have hnl : st'.begun f (f + SplitN (t - f)) = false := by
          rw [h.same _ _ (.inr (by omega))]
          exact (begun_false _ _ _).2 fun i a b => (begun_false st f t).1 hb i a (by omega)
        rw [i1, St.parts_not _ _ _ _ hnl, h.part]
        refine ⟨by simp [itPart], i2, ?_⟩
        simp only
        rw [i3, DepB, if_neg (by omega), hS, if_neg (by omega), show t - (f + SplitN (t - f)) = t - f - SplitN (t - f) by omega, show j - (f + SplitN (t - f)) = j - f - SplitN (t - f) by omega]
        omega
theorem parts_take {st st' : St} (ok : st.Ok) {j : Nat} (h : Began st st' j) (k : Nat) : ∀ f t, st.node f t → f ≤ j → j < t → t - f ≤ k + 1 →
    ∃ A p B, (st.parts k f t).map itPart = A ++ p :: B ∧ p.has j ∧ (∀ x ∈ A, ¬ x.has j) ∧ (st'.parts k f t).map itPart = A ++ (p.spl 16 j).x ++ ((p.spl 16 j).y ++ B) ∧ (p.spl 16 j).s = st.part j (j + 1) ∧ (p.spl 16 j).d ≤ DepB k (t - f) (j - f) := by
  have h16 := ok.n16
  induction k with
  | zero =>
    intro f t hn h1 h2 h3
    have hb : st.begun f t = false := (begun_false _ _ _).2 fun i a b => by
      obtain rfl : i = j := by omega
      exact h.not
    obtain ⟨i1, i2, i3⟩ := parts_fresh ok h 0 f t hn h1 h2 h3 hb
    have hf := spl_fuel 0 16 ⟨f, t, st.part f t⟩ j h3 (by show t - f ≤ 17; omega)
    rw [hf] at i1 i2 i3
    refine ⟨[], ⟨f, t, st.part f t⟩, [], ?_, ⟨h1, h2⟩, by simp, ?_, i2, by omega⟩
    · rw [St.parts_not _ _ _ _ hb]; rfl
    · rw [i1]; simp
  | succ k ih =>
    intro f t hn h1 h2 h3
    cases hb : st.begun f t with
    | false =>
      obtain ⟨i1, i2, i3⟩ := parts_fresh ok h (k + 1) f t hn h1 h2 h3 hb
      have hin := St.node_in ok hn
      have hf := spl_fuel (k + 1) 16 ⟨f, t, st.part f t⟩ j h3 (by show t - f ≤ 17; omega)
      rw [hf] at i1 i2 i3
      refine ⟨[], ⟨f, t, st.part f t⟩, [], ?_, ⟨h1, h2⟩, by simp, ?_, i2, by omega⟩
      · rw [St.parts_not _ _ _ _ hb]; rfl
      · rw [i1]; simp
    | true =>
      have hb' : st'.begun f t = true := begun_true st' f t j h1 h2 h.now
      have h4 : ¬ t - f = 1 := fun e => by
        obtain ⟨i, a1, a2, a3⟩ := (begun_iff _ _ _).1 hb
        obtain rfl : i = j := by omega
        rw [h.not] at a3; cases a3
      have hsp := SplitN_bd (t - f) (by omega)
      obtain ⟨⟨n1, p1⟩, n2, p2⟩ := St.halves ok hn (by omega)
      have hS : (SplitI ((t - f : Nat) : Int)).toNat = SplitN (t - f) := by rw [SplitN_eq]; omega
      rw [St.parts_two st k f t hb h4, St.parts_two st' k f t hb' h4, List.map_append, List.map_append]
      by_cases hm : j < f + SplitN (t - f)
      · obtain ⟨A, p, B, i1, i2, i3, i4, i5, i6⟩ := ih f (f + SplitN (t - f)) n1 h1 hm (by omega)
        refine ⟨A, p, B ++ (st.parts k (f + SplitN (t - f)) t).map itPart, by rw [i1]; simp, i2, i3, ?_, i5, ?_⟩
        · rw [i4, h.parts k _ _ (.inl hm)]; simp
        · rw [DepB, if_neg (by omega), hS, if_pos (by omega)]
          rw [show f + SplitN (t - f) - f = SplitN (t - f) by omega] at i6
          omega
      · obtain ⟨A, p, B, i1, i2, i3, i4, i5, i6⟩ := ih (f + SplitN (t - f)) t n2 (by omega) h2 (by omega)
        refine ⟨(st.parts k f (f + SplitN (t - f))).map itPart ++ A, p, B, by rw [i1]; simp, i2, ?_, ?_, i5, ?_⟩
        · intro x hx
          rcases List.mem_append.1 hx with hx | hx
          · obtain ⟨y, hy, rfl⟩ := List.mem_map.1 hx
            obtain ⟨_, _, c3, _⟩ := parts_clear st k _ _ y hy
            intro hh
            have : j < y.t := hh.2
            omega
          · exact i3 x hx
        · rw [i4, h.parts k _ _ (.inr (by omega))]; simp
        · rw [DepB, if_neg (by omega), hS, if_neg (by omega)]
          rw [show t - (f + SplitN (t - f)) = t - f - SplitN (t - f) by omega, show j - (f + SplitN (t - f)) = j - f - SplitN (t - f) by omega] at i6
          omega
theorem parts_lt (st : St) (k : Nat) : ∀ f t, f < t → t - f ≤ k + 1 → (∀ x ∈ (st.parts k f t).map itPart, x.f < x.t) ∧ wide ((st.parts k f t).map itPart) ≤ t - f := by
  induction k with
  | zero =>
    intro f t h h2
    unfold St.parts
    split
    · exact ⟨by simp, by simp [wide]⟩
    · refine ⟨by intro x hx; simp [itPart] at hx; subst hx; exact h, ?_⟩
      simp [wide, itPart]
  | succ k ih =>
    intro f t h h2
    rw [St.parts]
    split
    · split
      · exact ⟨by simp, by simp [wide]⟩
      · have hq := SplitN_bd (t - f) (by omega)
        obtain ⟨a1, a2⟩ := ih f (f + SplitN (t - f)) (by omega) (by omega)
        obtain ⟨b1, b2⟩ := ih (f + SplitN (t - f)) t (by omega) (by omega)
        rw [List.map_append]
        refine ⟨fun x hx => ?_, ?_⟩
        · rcases List.mem_append.1 hx with hx | hx
          · exact a1 x hx
          · exact b1 x hx
        · rw [wide_append]; omega
    · refine ⟨by intro x hx; simp [itPart] at hx; subst hx; exact h, ?_⟩
      simp [wide, itPart]
end Go.Proofs.YtkpebabbnndopaaGreatDoor
