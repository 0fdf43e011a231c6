import Derived.Test.YtkpebabbnndopaaGreatDoorC12
import Derived.Test.YtkpebabbnndopaaGreatDoorC15
import Derived.WalkKit
import Derived.WalkSpells
import Derived.WalkLawsBesides
import Derived.Deep.WholeRow
import Derived.Deep.MidRow
import Derived.Deep.LoopGhost
import Derived.Test.YtkpebabbnndopaaGreatDoorC11
import Derived.Test.YtkpebabbnndopaaGreatDoorC14
/- The sort of places. -/
namespace Go.Proofs.YtkpebabbnndopaaGreatDoor
open Go.RowKit Go.Shelf Go.Sort Go.Lib
set_option linter.unusedVariables false
set_option linter.unusedSimpArgs false

theorem flatK_get (ys : List PlI) (j : Nat) (u : Value) (h : (flatP ys)[j]? = some u) : j < (flatK encL 2 ys.toArray).size ∧ (flatK encL 2 ys.toArray)[j]! = u := by
  have hj := (List.getElem?_eq_some_iff.1 h).1
  rw [flatP_len] at hj
  refine ⟨by simpa using hj, ?_⟩
  rw [get_flatK _ _ _ _ (by simpa using hj)]
  obtain ⟨i, hi⟩ : ∃ i, j / 2 = i := ⟨_, rfl⟩
  have hil : i < ys.length := by omega
  obtain ⟨e1, e2⟩ := flatP_get ys i hil
  have ey : ys.toArray[i]! = ys[i] := by simp [hil]
  rw [hi, ey]
  by_cases hr : j % 2 = 0
  · rw [hr]
    rw [show j = 2 * i by omega, e1] at h
    cases h
    rfl
  · rw [show j % 2 = 1 by omega]
    rw [show j = 2 * i + 1 by omega, e2] at h
    cases h
    rfl
set_option maxHeartbeats 1000000 in
theorem sort_any (g cap : Nat) (xs : List PlI) (hlen : xs.length ≤ 100000) (w : World) (h : RowP w g cap xs) :
    Calls Tryz.prog 128 #[.slice (some ⟨g, 0, none⟩) xs.length cap, .func (.func 95) #[] #[]] w fun e w' => e = .returned (.tuple #[]) ∧ Outside [g] w w' ∧ RowP w' g cap (sortP xs) := by
  have eg : ∀ args w, (callFunc 95 args).run Tryz.prog w = .ok (.enter 95 args) w := enters_of Tryz.func95 (by kernel_rfl) rfl
  obtain ⟨cur, h1, h2, h3⟩ := h.row
  have hH : HoldsK encL 2 w g 0 xs.toArray := fun j hj => by
    rw [size_flatK] at hj
    have hj2 : j < xs.length * 2 := by simpa using hj
    obtain ⟨u, hu⟩ : ∃ u, (flatP xs)[j]? = some u := ⟨_, List.getElem?_eq_getElem (by rw [flatP_len]; exact hj2)⟩
    rw [(flatK_get xs j u hu).2, Nat.zero_add]
    refine ⟨by rw [cell_of_row _ _ _ _ _ _ h1]; exact h3 j u hu, by simp [World.frozen?, h1]⟩
  have hcon := AnyQ.slices_SortFunc_total sortLay 2 (fun w => Tryz.isAgg123 w) (fun w => Tryz.sizeOf123 w) encL (fun _ => rfl) (fun x v hv => by simp [encL] at hv; rcases hv with rfl | rfl <;> rfl) cmpP swoP 95 #[] g 0 cap xs.toArray w eg (fun _ _ _ _ x y => compare_any x y _) hH (Array.getElem?_eq_some_iff.1 h1).1 (by simp; omega) totP
  change Calls Tryz.prog 128 _ _ _ at hcon
  rw [List.size_toArray] at hcon
  refine hcon.mono fun e w' ⟨he, n, os, hw⟩ => ⟨he, ?_, ?_⟩
  · rw [hw]
    refine ⟨rfl, rfl, rfl, by simp [sortWorldK, putRowK, putRow, mapBlock, Sort.ahead, grow], fun k hk hne => ?_⟩
    unfold sortWorldK
    rw [heap_grow_old _ _ (by simpa [putRowK, putRow, mapBlock, Sort.ahead] using hk)]
    have : g ≠ k := fun e => hne (by simp [e])
    simp [putRowK, putRow, mapBlock, Sort.ahead, Array.getElem?_modify, this]
  · rw [hw]
    have hg : (sortWorldK encL 2 w g 0 n (xs.toArray.toList.mergeSort fun x y => !(ltOf cmpP) y x).toArray os).heap[g]? = some (.cells (putCells id 0 (flatK encL 2 (sortP xs).toArray) cur) 123 (0, 0)) := by
      unfold sortWorldK
      rw [heap_grow_old _ _ (by simpa [putRowK, putRow, mapBlock, Sort.ahead] using (Array.getElem?_eq_some_iff.1 h1).1)]
      simp [putRowK, putRow, mapBlock, Sort.ahead, Array.getElem?_modify, h1, onCells, sortP]
    refine ⟨⟨_, hg, by simp [putCells, h2], fun j u hu => ?_⟩, by rw [sortP_len]; exact h.le⟩
    obtain ⟨f1, f2⟩ := flatK_get (sortP xs) j u hu
    have hjc : j < cur.size := by rw [size_flatK] at f1; simp [sortP_len] at f1; have := h.le; omega
    simp [putCells, Array.getElem?_mapIdx, Array.getElem?_eq_getElem hjc]
    rw [if_pos (by simpa using f1)]
    exact f2
end Go.Proofs.YtkpebabbnndopaaGreatDoor

/- places, of whatever map of kept keys. -/
namespace Go.Proofs.YtkpebabbnndopaaGreatDoor
open Go.RowKit Go.Shelf Go.Maps
set_option linter.unusedVariables false
set_option linter.unusedSimpArgs false

theorem sortP_congr {xs ys : List PlI} (h : xs.Perm ys) : sortP xs = sortP ys := by
  have hp : (sortP xs).Perm (sortP ys) := ((sortP_perm xs).trans h).trans (sortP_perm ys).symm
  refine hp.eq_of_pairwise (le := fun x y => ¬ ltP y x) (fun a b _ _ h3 h4 => ?_) (sortP_sorted xs) (sortP_sorted ys)
  exact totP a b ((cmpP_nlt _ _).2 h4) ((cmpP_nlt _ _).2 h3)
set_option maxHeartbeats 1000000 in
theorem places_any {w : World} {pm : Nat} {L : List PlI} {B : PlI → Nat} {key : PlI → Nat → Int} (h : KeepAt w pm L B key) (hlen : L.length ≤ 1000) :
    Calls Tryz.prog 55 #[.map (some pm)] w fun e w' => Below w.heap.size w w' ∧ ((L = [] ∧ e = .returned (.slice none 0 0)) ∨ (L ≠ [] ∧ ∃ g cap, e = .returned (.slice (some ⟨g, 0, none⟩) L.length cap) ∧ w.heap.size ≤ g ∧ RowP w' g cap (sortP L))) := by
  obtain ⟨D, hown, hD⟩ := h.map
  have hpl := h.lt
  have HK : Hid (∀ W mb, Calls Tryz.prog 94 #[.map mb] W fun e w' => e = .returned (.func (.func 129) #[] #[.pointer (some ⟨W.heap.size, 0, none⟩)]) ∧ w' = W.alloc (.cells #[.map mb] 107)) := fun W mb => (callsIn_wide (n := 3)).1 (mkeys_any Fence.wide 3 trivial rfl mb W)
  obtain ⟨w1, hw1⟩ : ∃ w1, w.alloc (.cells #[.map (some pm)] 107) = w1 := ⟨_, rfl⟩
  have b1 : Below w.heap.size w w1 := by rw [← hw1]; exact (Below.refl _ w).alloc (Nat.le_refl _) _
  have k1 : w1.heap[w.heap.size]? = some (.cells #[.map (some pm)] 107 (0, 0)) := by rw [← hw1]; exact (MapKept.heap_alloc _ _).1
  have c1 : w1.cell? ⟨w.heap.size, 0, none⟩ = some (.map (some pm)) := by rw [cell_of_row _ _ _ _ _ _ k1]; rfl
  have hown1 : w1.ownsMap Tryz.prog 123 RP pm L.length D := by
    obtain ⟨es, clock, hb, Ft, hs, hd⟩ := hown
    exact ⟨es, clock, (b1.block pm hpl).trans hb, Ft, hs, hd⟩
  have hs := keysN_stops Fence.wide 8 trivial rfl (by omega) w.heap.size pm D L B hD w1 (Array.getElem?_eq_some_iff.1 k1).1 c1 hown1
  have HC0 := collect_any _ _ (enters_of Tryz.func129 (by kernel_rfl) rfl) _ _ L.length (by omega) w1 hs
  -- what lies behind the sort
  have HSF : Hid (Calls Tryz.prog 93 #[.func (.func 129) #[] #[.pointer (some ⟨w.heap.size, 0, none⟩)], .func (.func 95) #[] #[]] w1 fun e w' => ∃ v, e = .returned v ∧ Hid (Below w1.heap.size w1 w' ∧ ((L = [] ∧ v = .slice none 0 0) ∨ (L ≠ [] ∧ ∃ g cap, v = .slice (some ⟨g, 0, none⟩) L.length cap ∧ w1.heap.size ≤ g ∧ RowP w' g cap (sortP L))))) := by
    have HC : Hid (Calls Tryz.prog 127 #[.func (.func 129) #[] #[.pointer (some ⟨w.heap.size, 0, none⟩)]] w1 fun e w' => ∃ (v : Value) (xs : List PlI), e = .returned v ∧ Hid (xs.Perm L ∧ w'.ownsRow w1.heap.size 123 2 v xs.length (flatP xs) ∧ (v = .slice none 0 0 ↔ xs = []) ∧ Below w1.heap.size w1 w')) := HC0.mono fun e w' ⟨v, xs, e1, e2, e3, e4, e5⟩ => ⟨v, xs, e1, e2, e3, e4, e5⟩
    have HL : Hid (L.length ≤ 1000) := hlen
    clear HC0 hs c1 k1 b1 hw1 HK hown hown1 hD h hlen hpl
    show Calls _ _ _ _ _
    go_enter Tryz.func93, Tryz.ntmps93
    go_wp2_with fail
    refine HC.out.mono ?_
    rintro e w2 ⟨v, xs, rfl, hx⟩
    have HSO : Hid (Calls Tryz.prog 128 #[v, .func (.func 95) #[] #[]] w2 fun e w' => e = .returned (.tuple #[]) ∧ Hid (Below w1.heap.size w1 w' ∧ ((L = [] ∧ v = .slice none 0 0) ∨ (L ≠ [] ∧ ∃ g cap, v = .slice (some ⟨g, 0, none⟩) L.length cap ∧ w1.heap.size ≤ g ∧ RowP w' g cap (sortP L))))) := by
      obtain ⟨hp, hrow, hnil, hb⟩ := hx.out
      by_cases hxs : xs = []
      · have hv := hnil.2 hxs
        have hL : L = [] := by rw [hxs] at hp; exact hp.symm.eq_nil
        show Calls _ _ _ _ _
        rw [hv]
        refine (sort_nil _ w2).mono fun e w' ⟨e1, e2⟩ => ⟨e1, ?_⟩
        rw [e2]
        exact ⟨hb, .inl ⟨hL, rfl⟩⟩
      · have hL : L ≠ [] := fun e => hxs (by rw [e] at hp; exact hp.eq_nil)
        rcases hrow.2 with ⟨h1, _⟩ | ⟨g, cap, cur, h1, _⟩
        · exact absurd (hnil.1 h1) hxs
        · rw [h1] at hrow
          obtain ⟨_, hg, hr⟩ := RowP.of_owns hrow
          show Calls _ _ _ _ _
          rw [h1]
          refine (sort_any g cap xs (by have := HL.out; rw [hp.length_eq]; omega) w2 hr).mono fun e w' ⟨e1, e2, e3⟩ => ⟨e1, ?_⟩
          rw [sortP_congr hp] at e3
          exact ⟨hb.trans (e2.toBelow w1.heap.size hb.size (fun i hi => by simp at hi; omega)), .inr ⟨hL, g, cap, by rw [hp.length_eq], hg, e3⟩⟩
    clear hx HC HL
    go_wp2_with fail
    refine HSO.out.mono ?_
    rintro e w3 ⟨rfl, hy⟩
    clear HSO
    go_wp2_with fail
    go_ret
    exact ⟨v, rfl, hy⟩
  have HB1 : Hid (Below w.heap.size w w1) := b1
  have HW1 : Hid (w.alloc (.cells #[.map (some pm)] 107) = w1) := hw1
  clear HC0 hs c1 k1 b1 hw1 h hown hown1 hD hlen hpl
  go_enter Tryz.func55, Tryz.ntmps55
  go_wp2_with (first | (go_at_call 94; refine (HK.out _ _).mono ?_; rintro e w' ⟨rfl, rfl⟩; rw [HW1.out]) | (go_at_call 93; refine HSF.out.mono ?_; rintro e w2 ⟨v, rfl, hz⟩))
  go_ret
  obtain ⟨q1, q2⟩ := hz.out
  have z := HB1.out.size
  refine ⟨HB1.out.trans (q1.mono z), ?_⟩
  rcases q2 with ⟨hL, hv⟩ | ⟨hL, g, cap, hv, hg, hr⟩
  · exact .inl ⟨hL, by rw [hv]; rfl⟩
  · exact .inr ⟨hL, g, cap, by rw [hv]; rfl, by omega, hr⟩
end Go.Proofs.YtkpebabbnndopaaGreatDoor

/- placesOf, giveUp. -/
namespace Go.Proofs.YtkpebabbnndopaaGreatDoor
open Go.RowKit
set_option linter.unusedVariables false
set_option linter.unusedSimpArgs false

theorem del_nil (fv : Value) (w : World) : Calls Tryz.prog 184 #[.slice none 0 0, fv] w fun e w' => e = .returned (.slice none 0 0) ∧ w' = w := by
  have HI : Hid (∀ W, Calls Tryz.prog 187 #[.slice none 0 0, fv] W fun e w' => e = .returned (.int .i64 (-1)) ∧ w' = W) := fun W => by
    go_enter Tryz.func187, Tryz.ntmps187
    go_wp2_with fail
    refine wp_loop_rounds 1 ?_
    rw [rounds_succ]
    go_wp2_with fail
    go_ret
    exact ⟨rfl, rfl⟩
  go_enter Tryz.func184, Tryz.ntmps184
  go_wp2_with (go_at_call 187; refine (HI.out _).mono ?_; rintro e w' ⟨rfl, rfl⟩)
  go_ret
  exact ⟨rfl, rfl⟩
/-- a slice of places: none, or a row of its own -/
def SlP (w : World) (n : Nat) (v : Value) (xs : List PlI) : Prop := (xs = [] ∧ v = .slice none 0 0) ∨ ∃ g cap, v = .slice (some ⟨g, 0, none⟩) xs.length cap ∧ n ≤ g ∧ RowP w g cap xs
set_option maxHeartbeats 1000000 in
theorem placesOf_any {w : World} {pm : Nat} {L : List PlI} {B : PlI → Nat} {key : PlI → Nat → Int} (h : KeepAt w pm L B key) (hlen : L.length ≤ 1000) (M : Int) :
    Calls Tryz.prog 178 #[.map (some pm), .int .i64 M] w fun e w' => ∃ v, e = .returned v ∧ Below w.heap.size w w' ∧ SlP w' w.heap.size v (ofM M (sortP L)) := by
  obtain ⟨w1, hw1⟩ : ∃ w1, w.alloc (.cells #[.int .i64 M] 3) = w1 := ⟨_, rfl⟩
  have b1 : Below w.heap.size w w1 := by rw [← hw1]; exact (Below.refl _ w).alloc (Nat.le_refl _) _
  have k1 : w1.heap[w.heap.size]? = some (.cells #[.int .i64 M] 3 (0, 0)) := by rw [← hw1]; exact (MapKept.heap_alloc _ _).1
  have z1 : w1.heap.size = w.heap.size + 1 := by rw [← hw1]; simp
  have HP0 := places_any (h.below b1) hlen
  have HP : Hid (Calls Tryz.prog 55 #[.map (some pm)] w1 fun e w' => ∃ v, e = .returned v ∧ Hid (Below w1.heap.size w1 w' ∧ SlP w' w1.heap.size v (sortP L))) := HP0.mono fun e w' ⟨q1, q2⟩ => by
    rcases q2 with ⟨hL, rfl⟩ | ⟨hL, g, cap, rfl, hg, hr⟩
    · exact ⟨_, rfl, q1, .inl ⟨List.eq_nil_of_length_eq_zero (by rw [sortP_len, hL]; rfl), rfl⟩⟩
    · exact ⟨_, rfl, q1, .inr ⟨g, cap, by rw [sortP_len], hg, hr⟩⟩
  have hmf : ∀ (fn : Fn) (first cap : Array Value) (w : World), (Instr.makeFunc fn first cap).run Tryz.prog w = .ok (.func fn first cap) w := fun _ _ _ _ => rfl
  have HL : Hid ((sortP L).length ≤ 1000) := by show _ ≤ _; rw [sortP_len]; exact hlen
  have HB1 : Hid (Below w.heap.size w w1 ∧ w1.heap[w.heap.size]? = some (.cells #[.int .i64 M] 3 (0, 0)) ∧ w1.heap.size = w.heap.size + 1) := ⟨b1, k1, z1⟩
  have HW1 : Hid (w.alloc (.cells #[.int .i64 M] 3) = w1) := hw1
  clear HP0 h hlen hw1 b1 k1 z1
  go_enter Tryz.func178, Tryz.ntmps178
  go_wp2_with fail
  rw [HW1.out]
  refine HP.out.mono ?_
  rintro e w2 ⟨v, rfl, hx⟩
  have HD : Hid (Calls Tryz.prog 184 #[v, .func (.func 185) #[] #[.pointer (some ⟨w.heap.size, 0, none⟩)]] w2 fun e w' => ∃ u, e = .returned u ∧ Hid (Below w.heap.size w w' ∧ SlP w' w.heap.size u (ofM M (sortP L)))) := by
    obtain ⟨q1, q2⟩ := hx.out
    obtain ⟨p1, p2, p3⟩ := HB1.out
    have hc : w2.cell? ⟨w.heap.size, 0, none⟩ = some (.int .i64 M) := by
      rw [q1.cell (p := ⟨w.heap.size, 0, none⟩) (by show w.heap.size < w1.heap.size; omega), cell_of_row _ _ _ _ _ _ p2]
      rfl
    rcases q2 with ⟨hL, hv⟩ | ⟨g, cap, hv, hg, hr⟩
    · show Calls _ _ _ _ _
      rw [hv]
      refine (del_nil _ w2).mono fun e w' ⟨e1, e2⟩ => ⟨_, e1, ?_⟩
      rw [e2, hL]
      exact ⟨p1.trans (q1.mono (by omega)), .inl ⟨rfl, rfl⟩⟩
    · show Calls _ _ _ _ _
      rw [hv]
      refine (delP_any g cap (sortP L) (by have := HL.out; omega) M w.heap.size (by omega) w2 hr hc).mono fun e w' ⟨e1, e2, e3⟩ => ⟨_, e1, ?_⟩
      exact ⟨(p1.trans (q1.mono (by omega))).trans (e2.toBelow w.heap.size (by have := q1.size; omega) (fun i hi => by simp at hi; omega)), .inr ⟨g, cap, rfl, by omega, e3⟩⟩
  clear hx HP HL HB1 HW1
  go_wp2_with fail
  refine HD.out.mono ?_
  rintro e w3 ⟨u, rfl, hy⟩
  clear HD
  go_wp2_with fail
  go_ret
  exact ⟨u, rfl, hy.out.1, hy.out.2⟩
end Go.Proofs.YtkpebabbnndopaaGreatDoor

/- giveUp. -/
namespace Go.Proofs.YtkpebabbnndopaaGreatDoor
open Go.RowKit
set_option linter.unusedVariables false
set_option linter.unusedSimpArgs false

theorem mem_erases {x : PlI} {ys L : List PlI} (h : x ∈ L) (hn : x ∉ ys) : x ∈ ys.foldl List.erase L := by
  induction ys generalizing L with
  | nil => exact h
  | cons y r ih =>
    rw [List.mem_cons, not_or] at hn
    exact ih ((List.mem_erase_of_ne hn.1).2 h) hn.2
theorem erases_sub {x : PlI} {ys L : List PlI} (h : x ∈ ys.foldl List.erase L) : x ∈ L := by
  induction ys generalizing L with
  | nil => exact h
  | cons y r ih => exact List.mem_of_mem_erase (ih h)
/-- what giveUp leaves -/
def gaveP (M : Int) (L : List PlI) : List PlI := ((ofM M (sortP L)).take ((ofM M (sortP L)).length - 4)).foldl List.erase L
theorem gaveP_sub {M : Int} {L : List PlI} {x : PlI} (h : x ∈ gaveP M L) : x ∈ L := erases_sub h
theorem ofM_mem {M : Int} {L : List PlI} {x : PlI} (h : x ∈ ofM M (sortP L)) : x ∈ L := (sortP_perm L).mem_iff.1 (List.mem_filter.1 h).1
theorem ofM_nodup {M : Int} {L : List PlI} (h : L.Nodup) : (ofM M (sortP L)).Nodup := ((sortP_perm L).nodup_iff.2 h).sublist List.filter_sublist
set_option maxHeartbeats 1000000 in
theorem giveUp_any {w : World} {pm : Nat} {L : List PlI} {B : PlI → Nat} {key : PlI → Nat → Int} (h : KeepAt w pm L B key) (hlen : L.length ≤ 1000) (M : Int) :
    Calls Tryz.prog 167 #[.map (some pm), .int .i64 M] w fun e w' => e = .returned (.tuple #[]) ∧ Outside (pm :: L.map B) w w' ∧ KeepAt w' pm (gaveP M L) B key := by
  have HPO : Hid (Calls Tryz.prog 178 #[.map (some pm), .int .i64 M] w fun e w' => ∃ v, e = .returned v ∧ Below w.heap.size w w' ∧ SlP w' w.heap.size v (ofM M (sortP L))) := placesOf_any h hlen M
  have HFG : Hid (∀ W L' x, KeepAt W pm L' B key → x ∈ L' → Calls Tryz.prog 134 #[.map (some pm), .agg #[.int .i64 x.1, .int .i64 x.2]] W fun e w' => e = .returned (.tuple #[]) ∧ KeepAt w' pm (L'.erase x) B key ∧ Outside [pm, B x] W w') := fun W L' x hW hx => forget_any hW x hx
  have HK : Hid (KeepAt w pm L B key) := h
  have HL : Hid (∀ x, x ∈ L → B x < w.heap.size) := fun x hx => (Array.getElem?_eq_some_iff.1 (h.row x hx)).1
  have HND : Hid ((ofM M (sortP L)).Nodup ∧ (∀ x, x ∈ ofM M (sortP L) → x ∈ L) ∧ (ofM M (sortP L)).length ≤ 1000) := ⟨ofM_nodup h.nodup, fun x hx => ofM_mem hx, Nat.le_trans (List.length_filter_le _ _) (by rw [sortP_len]; exact hlen)⟩
  have hpl := h.lt
  unfold gaveP
  obtain ⟨T, hT⟩ : ∃ T, ofM M (sortP L) = T := ⟨_, rfl⟩
  rw [hT] at HPO HND ⊢
  obtain ⟨k, hk⟩ : ∃ k, T.length - 4 = k := ⟨_, rfl⟩
  rw [hk]
  clear hT h hlen
  go_enter Tryz.func167, Tryz.ntmps167
  go_wp2_with fail
  refine HPO.out.mono ?_
  rintro e w1 ⟨v, rfl, b1, hs⟩
  have HB1 : Hid (Below w.heap.size w w1) := b1
  clear HPO b1
  rcases hs with ⟨rfl, rfl⟩ | ⟨g, cap, rfl, hg, hr⟩
  · clear HFG HL HND
    go_wp2_with fail
    rw [show (max 0 (-4) : Int) = 0 from rfl]
    refine wp_loop_rounds 1 ?_
    rw [rounds_succ]
    go_wp2_with fail
    go_end0
    rw [show k = 0 from by rw [← hk]; rfl]
    exact ⟨rfl, Outside.ofBelow HB1.out, HK.out.below HB1.out⟩
  · have HR : Hid (RowP w1 g cap T) := hr
    have hcap := hr.le
    obtain ⟨n, hn⟩ : ∃ n, T.length = n := ⟨_, rfl⟩
    rw [hn] at hcap ⊢
    have hn0 : (0 : Int) ≤ n := by omega
    have hni : (n : Int) ≤ 1000 := by have := HND.out.2.2; omega
    have hci : (n : Int) ≤ cap := by omega
    clear hr
    go_wp2_with fail
    rw [show (max 0 ((n : Int) - 4)) = (k : Int) from by omega, Int.toNat_natCast]
    have hkn : k ≤ n := by omega
    have hki : (k : Int) ≤ 1000 := by omega
    go_loopg [17] k (fun r v17 wr => ∃ i : Nat, v17 = .int .i64 i ∧ i + r = k ∧ Hid (Outside (pm :: L.map B) w wr ∧ RowP wr g cap T ∧ KeepAt wr pm ((T.take i).foldl List.erase L) B key))
    case atStart => exact ⟨0, rfl, by omega, Outside.ofBelow HB1.out, HR.out, HK.out.below HB1.out⟩
    case round =>
      obtain ⟨i, rfl, hik, hX⟩ := hrel
      by_cases hlt : (i : Int) < (k : Int)
      · have hiT : i < T.length := by omega
        obtain ⟨x, hx⟩ : ∃ x, T[i] = x := ⟨_, rfl⟩
        have HR1 : Hid (wr.rangeAt g (i * 2) [.int .i64 x.1, .int .i64 x.2]) := by
          have := hX.out.2.1.range i hiT
          rw [hx] at this
          exact this
        have HMX : Hid (x ∈ T ∧ x ∈ (T.take i).foldl List.erase L ∧ T.take (i + 1) = T.take i ++ [x]) := by
          have hxm : x ∈ T := by rw [← hx]; exact List.getElem_mem hiT
          have ht := List.take_succ_eq_append_getElem hiT
          rw [hx] at ht
          refine ⟨hxm, mem_erases (HND.out.2.1 x hxm) (fun hm => ?_), ht⟩
          have hnd : (T.take (i + 1)).Nodup := HND.out.1.sublist (List.take_sublist _ _)
          rw [ht, List.nodup_append] at hnd
          exact hnd.2.2 x hm x (List.mem_singleton.2 rfl) rfl
        have hgr : g < wr.heap.size := hX.out.2.1.lt
        obtain ⟨wa, hwa⟩ : ∃ wa, wr.alloc (.cells #[.int .i64 x.1, .int .i64 x.2] 123) = wa := ⟨_, rfl⟩
        have ba : Below wr.heap.size wr wa := by rw [← hwa]; exact (Below.refl _ wr).alloc (Nat.le_refl _) _
        have ka : wa.heap[wr.heap.size]? = some (.cells #[.int .i64 x.1, .int .i64 x.2] 123 (0, 0)) := by rw [← hwa]; exact (MapKept.heap_alloc _ _).1
        have hAa : ∀ o, wa.cell? ⟨wr.heap.size, o, none⟩ = #[Value.int .i64 x.1, .int .i64 x.2][o]? := fun o => cell_of_row _ _ _ _ _ _ ka
        have HWA : Hid (wr.alloc (.cells #[.int .i64 x.1, .int .i64 x.2] 123) = wa) := hwa
        have HBA : Hid (Below wr.heap.size wr wa) := ba
        have HF2 : Hid (Calls Tryz.prog 134 #[.map (some pm), .agg #[.int .i64 x.1, .int .i64 x.2]] wa fun e w' => e = .returned (.tuple #[]) ∧ KeepAt w' pm (((T.take i).foldl List.erase L).erase x) B key ∧ Outside [pm, B x] wa w') := HFG.out wa _ x (hX.out.2.2.below ba) HMX.out.2.1
        clear hx hwa ba ka hn
        go_wp2_with (first | refine wpList_load_mid rfl 123 _ rfl g (i * 2) rfl [.int .i64 x.1, .int .i64 x.2] _ HR1.out Tryz.underlying123 rfl (by kernel_rfl) ?_)
        rw [HWA.out]
        clear HFG HWA
        go_wp2_with fail
        refine HF2.out.mono ?_
        rintro e w3 ⟨rfl, k3, o3⟩
        have HX4 : Hid (Outside (pm :: L.map B) w w3 ∧ RowP w3 g cap T ∧ KeepAt w3 pm ((T.take (i + 1)).foldl List.erase L) B key) := by
          obtain ⟨o1, r1, t1⟩ := hX.out
          have hxL := HND.out.2.1 x HMX.out.1
          have hbx := HL.out x hxL
          refine ⟨(o1.below HBA.out).trans o3 (fun j hj _ => ?_), r1.keep ?_, ?_⟩
          · rcases List.mem_cons.1 hj with rfl | hj
            · exact List.mem_cons_self
            · rw [List.mem_singleton] at hj
              subst hj
              exact List.mem_cons_of_mem _ (List.mem_map.2 ⟨x, hxL, rfl⟩)
          · rw [o3.block g (by have := HBA.out.size; omega) (by simp; omega), HBA.out.block g hgr]
          · rw [HMX.out.2.2, List.foldl_append]
            exact k3
        clear k3 o3 HF2 hAa
        go_wp2_with fail
        go_roundg (gk - 1)
        case measure => omega
        case rel => exact ⟨i + 1, by go_num, by omega, HX4⟩
      · have hik2 : i = k := by omega
        rw [hik2] at hX
        clear HFG
        go_wp2_with fail
        go_end0
        exact ⟨rfl, hX.out.1, hX.out.2.2⟩
end Go.Proofs.YtkpebabbnndopaaGreatDoor

/- What is behind a message that was opened is a state. -/
namespace Go.Proofs.YtkpebabbnndopaaGreatDoor
open Go.RowKit
set_option linter.unusedVariables false

/-- all that a member's keys are behind a message that lies ahead, before some are given up -/
def overAll (m : Mem) (g : Nat) : List Nat := m.over ++ (List.range (g - m.next)).map (m.next + ·)
theorem unOver_eq (m : Mem) (g : Nat) : unOver m g = (overAll m g).drop ((overAll m g).length - 4) := rfl
theorem St.Ok.unNext {st : St} (ok : st.Ok) {l : List UInt8} (hw : unWho l < st.n) : (st.unNext l).Ok := by
  refine ⟨ok.hs, ok.n1, ok.n16, ok.own, by show (st.mem.set _ _).length = _; rw [List.length_set]; exact ok.len, fun m hm => ?_⟩
  rcases List.mem_or_eq_of_mem_set hm with hm | rfl
  · exact ok.mem m hm
  · have hg := unGen_lt l
    obtain ⟨a, b, c, d⟩ := ok.m (unWho l)
    unfold unMem
    split
    · exact ⟨a, Nat.le_trans (List.length_erase_le) b, fun x hx => c x (List.mem_of_mem_erase hx), fun e => by cases e⟩
    · refine ⟨by show unGen l + 1 ≤ 65536; omega, ?_, fun x hx => ?_, fun e => by cases e⟩
      · show (unOver _ _).length ≤ 4
        rw [unOver_eq, List.length_drop]; omega
      · have hx2 : x ∈ unOver (st.m (unWho l)) (unGen l) := hx
        rw [unOver_eq] at hx2
        have hx3 := List.mem_of_mem_drop hx2
        unfold overAll at hx3
        rcases List.mem_append.1 hx3 with h3 | h3
        · exact c x h3
        · obtain ⟨i, hi, rfl⟩ := List.mem_map.1 h3
          have := List.mem_range.1 hi
          omega
end Go.Proofs.YtkpebabbnndopaaGreatDoor

/- What is kept of a member that has protected some times and opened nothing. -/
namespace Go.Proofs.YtkpebabbnndopaaGreatDoor
open Go.RowKit

/-- a new group behind i messages of one's own -/
def St.after (s : Nat → Int) (n own : Nat) : Nat → St
  | 0 => St.new s n own
  | i + 1 => (St.after s n own i).protNext
theorem after_n (s : Nat → Int) (n own i : Nat) : (St.after s n own i).n = n ∧ (St.after s n own i).own = own ∧ (St.after s n own i).closed = false ∧ (St.after s n own i).mem.length = n := by
  induction i with
  | zero => exact ⟨rfl, rfl, rfl, by simp [St.after, St.new]⟩
  | succ i ih =>
    obtain ⟨h1, h2, h3, h4⟩ := ih
    exact ⟨h1, h2, h3, by show (List.set _ _ _).length = n; rw [List.length_set]; exact h4⟩
theorem after_m (s : Nat → Int) (n own : Nat) (ho : own < n) (i j : Nat) : (St.after s n own i).m j = if j = own then ⟨decide (0 < i), i, []⟩ else ⟨false, 0, []⟩ := by
  induction i generalizing j with
  | zero => rw [St.after, St.new_m]; split <;> rfl
  | succ i ih =>
    obtain ⟨h1, h2, h3, h4⟩ := after_n s n own i
    show ((St.after s n own i).setM (St.after s n own i).own _).m j = _
    rw [St.setM_m _ _ _ (by rw [h2, h4]; exact ho), h2, ih, ih]
    by_cases hj : j = own
    · rw [if_pos hj, if_pos hj, if_pos rfl]
      simp
    · rw [if_neg hj, if_neg hj, if_neg hj]
theorem after_ok (s : Nat → Int) (hs : ∀ i, 0 ≤ s i ∧ s i < 256) (n own : Nat) (h1 : 1 ≤ n) (h2 : n ≤ 16) (ho : own < n) (i : Nat) (hi : i ≤ 65536) : (St.after s n own i).Ok := by
  induction i with
  | zero => exact St.new_ok s hs n own h1 h2 ho
  | succ i ih =>
    have h := ih (by omega)
    refine h.protNext ?_
    obtain ⟨_, g2, _, _⟩ := after_n s n own i
    rw [g2, after_m s n own ho, if_pos rfl]
    show i ≤ 65535
    omega
theorem after_kepts (s : Nat → Int) (n own : Nat) (ho : own < n) (i k : Nat) : (St.after s n own i).kepts k = [] := by
  induction k with
  | zero => rfl
  | succ k ih =>
    rw [St.kepts, ih, after_m s n own ho]
    split <;> rfl
theorem after_heads (s : Nat → Int) (n own : Nat) (ho : own < n) (i k : Nat) : (St.after s n own i).heads k = if own < k ∧ 0 < i ∧ i ≤ 65535 then [⟨1, own, own + 1, i, (St.after s n own i).ratAt own i⟩] else [] := by
  induction k with
  | zero => rw [if_neg (by omega)]; rfl
  | succ k ih =>
    rw [St.heads, ih, after_m s n own ho]
    by_cases hk : k = own
    · subst hk
      have e0 : ¬ (k < k ∧ 0 < i ∧ i ≤ 65535) := by omega
      rw [if_neg e0, if_pos rfl, List.nil_append]
      show (if (decide (0 < i) && decide (i ≤ 65535)) = true then [(⟨1, k, k + 1, i, (St.after s n k i).ratAt k i⟩ : It)] else []) = _
      by_cases h : 0 < i ∧ i ≤ 65535
      · have e1 : (decide (0 < i) && decide (i ≤ 65535)) = true := by simp; exact h
        have e2 : k < k + 1 ∧ 0 < i ∧ i ≤ 65535 := ⟨by omega, h⟩
        rw [if_pos e1, if_pos e2]
      · have e1 : ¬ (decide (0 < i) && decide (i ≤ 65535)) = true := by simp; omega
        have e2 : ¬ (k < k + 1 ∧ 0 < i ∧ i ≤ 65535) := fun h' => h h'.2
        rw [if_neg e1, if_neg e2]
    · rw [if_neg hk]
      have e : (own < k ∧ 0 < i ∧ i ≤ 65535) ↔ (own < k + 1 ∧ 0 < i ∧ i ≤ 65535) := by omega
      simp only [e]
      simp
theorem after_dump (s : Nat → Int) (n own : Nat) (ho : own < n) (i : Nat) : (St.after s n own i).dump = (St.after s n own i).parts 16 0 n ++ (if 0 < i ∧ i ≤ 65535 then [⟨1, own, own + 1, i, (St.after s n own i).ratAt own i⟩] else []) := by
  obtain ⟨h1, h2, h3, h4⟩ := after_n s n own i
  unfold St.dump
  rw [h3, h1, after_kepts s n own ho, after_heads s n own ho, List.append_nil]
  have e : (own < n ∧ 0 < i ∧ i ≤ 65535) ↔ (0 < i ∧ i ≤ 65535) := by omega
  simp only [e]
  rfl
theorem begun_true (st : St) (f t j : Nat) (h1 : f ≤ j) (h2 : j < t) (hb : (st.m j).begun = true) : st.begun f t = true := by
  unfold St.begun
  rw [List.any_eq_true]
  exact ⟨j - f, List.mem_range.2 (by omega), by rw [show f + (j - f) = j by omega]; exact hb⟩
/-- what is kept of the tree is of no member that has begun -/
theorem parts_clear (st : St) (k : Nat) : ∀ f t x, x ∈ st.parts k f t → x.kind = 0 ∧ f ≤ x.f ∧ x.t ≤ t ∧ st.begun x.f x.t = false := by
  induction k with
  | zero =>
    intro f t x hx
    unfold St.parts at hx
    split at hx
    · cases hx
    · simp at hx
      subst hx
      rename_i h
      exact ⟨rfl, Nat.le_refl _, Nat.le_refl _, by simpa using h⟩
  | succ k ih =>
    intro f t x hx
    rw [St.parts] at hx
    split at hx
    · split at hx
      · cases hx
      · rename_i h1 h2
        rcases List.mem_append.1 hx with h | h
        · obtain ⟨a1, a2, a3, a4⟩ := ih _ _ _ h
          by_cases hd : 2 ≤ t - f
          · have hb := SplitN_bd (t - f) hd
            exact ⟨a1, a2, by omega, a4⟩
          · have hft : t ≤ f := by omega
            exfalso
            unfold St.begun at h1
            rw [show t - f = 0 by omega] at h1
            simp at h1
        · obtain ⟨a1, a2, a3, a4⟩ := ih _ _ _ h
          exact ⟨a1, by omega, a3, a4⟩
    · simp at hx
      subst hx
      rename_i h
      exact ⟨rfl, Nat.le_refl _, Nat.le_refl _, by simpa using h⟩
/-- something of the tree is kept as long as one member has not begun -/
theorem parts_some (st : St) (k : Nat) : ∀ f t j, f ≤ j → j < t → t - f ≤ k + 1 → (st.m j).begun = false → st.parts k f t ≠ [] := by
  induction k with
  | zero =>
    intro f t j h1 h2 h3 hb
    have hbf : st.begun f t = false := by
      have ht : t = j + 1 := by omega
      have hf : f = j := by omega
      subst ht hf
      rw [St.begun_step st f f (Nat.le_refl _), St.begun_self, hb]
      rfl
    rw [St.parts_not _ _ _ _ hbf]
    simp
  | succ k ih =>
    intro f t j h1 h2 h3 hb
    cases hbf : st.begun f t with
    | false => rw [St.parts_not _ _ _ _ hbf]; simp
    | true =>
      by_cases hd : t - f = 1
      · exfalso
        have ht : t = j + 1 := by omega
        have hf : f = j := by omega
        subst ht hf
        rw [St.begun_step st f f (Nat.le_refl _), St.begun_self, hb] at hbf
        cases hbf
      · rw [St.parts_two _ _ _ _ hbf hd]
        have hq := SplitN_bd (t - f) (by omega)
        intro he
        rw [List.append_eq_nil_iff] at he
        by_cases hj : j < f + SplitN (t - f)
        · exact ih f (f + SplitN (t - f)) j h1 hj (by omega) hb he.1
        · exact ih (f + SplitN (t - f)) t j (by omega) h2 (by omega) hb he.2
end Go.Proofs.YtkpebabbnndopaaGreatDoor

/- What a member's first message takes of the tree, as plain data. -/
namespace Go.Proofs.YtkpebabbnndopaaGreatDoor
open Go.RowKit

theorem spl_fuel (k : Nat) : ∀ k' (p : PartD) m, p.t - p.f ≤ k + 1 → p.t - p.f ≤ k' + 1 → p.spl k m = p.spl k' m := by
  induction k with
  | zero =>
    intro k' p m h1 h2
    rw [PartD.spl_one 0 p m (by omega), PartD.spl_one k' p m (by omega)]
  | succ k ih =>
    intro k' p m h1 h2
    by_cases h : p.t - p.f ≤ 1
    · rw [PartD.spl_one _ p m h, PartD.spl_one _ p m h]
    · obtain ⟨k', rfl⟩ : ∃ j, k' = j + 1 := ⟨k' - 1, by omega⟩
      have hb := halves_bd p h
      by_cases hm : m < p.f + SplitN (p.t - p.f)
      · rw [PartD.spl_left k p m h hm, PartD.spl_left k' p m h hm, ih k' p.left m (by omega) (by omega)]
      · rw [PartD.spl_right k p m h hm, PartD.spl_right k' p m h hm, ih k' p.right m (by omega) (by omega)]
theorem begun_iff (st : St) (f t : Nat) : st.begun f t = true ↔ ∃ i, f ≤ i ∧ i < t ∧ (st.m i).begun = true := by
  constructor
  · intro h
    unfold St.begun at h
    rw [List.any_eq_true] at h
    obtain ⟨i, hi, hb⟩ := h
    have := List.mem_range.1 hi
    exact ⟨f + i, by omega, by omega, hb⟩
  · rintro ⟨i, h1, h2, h3⟩
    exact begun_true st f t i h1 h2 h3
theorem begun_false (st : St) (f t : Nat) : st.begun f t = false ↔ ∀ i, f ≤ i → i < t → (st.m i).begun = false := by
  constructor
  · intro h i h1 h2
    cases hb : (st.m i).begun with
    | false => rfl
    | true => rw [begun_true st f t i h1 h2 hb] at h; cases h
  · intro h
    cases hb : st.begun f t with
    | false => rfl
    | true =>
      obtain ⟨i, h1, h2, h3⟩ := (begun_iff st f t).1 hb
      rw [h i h1 h2] at h3; cases h3
/-- st' is st, but that the member j has begun -/
structure Began (st st' : St) (j : Nat) : Prop where
  s : st'.s = st.s
  n : st'.n = st.n
  not : (st.m j).begun = false
  now : (st'.m j).begun = true
  oth : ∀ i, i ≠ j → (st'.m i).begun = (st.m i).begun
theorem Began.part {st st' : St} {j : Nat} (h : Began st st' j) (a b : Nat) : st'.part a b = st.part a b := by unfold St.part; rw [h.s, h.n]
theorem Began.same {st st' : St} {j : Nat} (h : Began st st' j) (f t : Nat) (hj : j < f ∨ t ≤ j) : st'.begun f t = st.begun f t := by
  cases hb : st.begun f t with
  | false =>
    rw [begun_false] at hb ⊢
    intro i h1 h2
    rw [h.oth i (by omega)]; exact hb i h1 h2
  | true =>
    rw [begun_iff] at hb ⊢
    obtain ⟨i, h1, h2, h3⟩ := hb
    exact ⟨i, h1, h2, by rw [h.oth i (by omega)]; exact h3⟩
theorem Began.parts {st st' : St} {j : Nat} (h : Began st st' j) (k : Nat) : ∀ f t, (j < f ∨ t ≤ j) → st'.parts k f t = st.parts k f t := by
  induction k with
  | zero => intro f t hj; unfold St.parts; rw [h.same f t hj, h.part]
  | succ k ih =>
    intro f t hj
    have hs := h.same f t hj
    cases hb : st.begun f t with
    | false =>
      rw [hb] at hs
      rw [St.parts_not st _ _ _ hb, St.parts_not st' _ _ _ hs, h.part]
    | true =>
      rw [hb] at hs
      by_cases h1 : t - f = 1
      · rw [St.parts_one st _ _ _ hb h1, St.parts_one st' _ _ _ hs h1]
      · have h2 : 2 ≤ t - f := by
          obtain ⟨i, a, b, _⟩ := (begun_iff _ _ _).1 hb
          omega
        have hq := SplitN_bd (t - f) h2
        rw [St.parts_two st k f t hb h1, St.parts_two st' k f t hs h1, ih f _ (by omega), ih _ t (by omega)]
/-- a part of which nobody had begun, taken apart -/
theorem parts_fresh {st st' : St} (ok : st.Ok) {j : Nat} (h : Began st st' j) (k : Nat) : ∀ f t, st.node f t → f ≤ j → j < t → t - f ≤ k + 1 → st.begun f t = false →
    (st'.parts k f t).map itPart = ((⟨f, t, st.part f t⟩ : PartD).spl k j).x ++ ((⟨f, t, st.part f t⟩ : PartD).spl k j).y ∧ ((⟨f, t, st.part f t⟩ : PartD).spl k j).s = st.part j (j + 1) ∧ ((⟨f, t, st.part f t⟩ : PartD).spl k j).d = DepB k (t - f) (j - f) := by
  induction k with
  | zero =>
    intro f t hn h1 h2 h3 hb
    obtain rfl : f = j := by omega
    obtain rfl : t = f + 1 := by omega
    rw [St.parts_one st' 0 f (f + 1) (begun_true st' f (f + 1) f (by omega) (by omega) h.now) (by omega)]
    exact ⟨rfl, rfl, rfl⟩
  | succ k ih =>
    intro f t hn h1 h2 h3 hb
    have hb' : st'.begun f t = true := begun_true st' f t j h1 h2 h.now
    by_cases h4 : t - f = 1
    · obtain rfl : f = j := by omega
      obtain rfl : t = f + 1 := by omega
      rw [St.parts_one st' _ _ _ hb' h4, PartD.spl_one _ _ _ (by show f + 1 - f ≤ 1; omega)]
      refine ⟨rfl, rfl, ?_⟩
      rw [DepB, if_pos (by omega)]
    · have hsp := SplitN_bd (t - f) (by omega)
      obtain ⟨⟨n1, p1⟩, n2, p2⟩ := St.halves ok hn (by omega)
      have hgt : ¬ ((⟨f, t, st.part f t⟩ : PartD).t - (⟨f, t, st.part f t⟩ : PartD).f ≤ 1) := by show ¬ (t - f ≤ 1); omega
      have hS : (SplitI ((t - f : Nat) : Int)).toNat = SplitN (t - f) := by rw [SplitN_eq]; omega
      rw [St.parts_two st' k f t hb' h4, List.map_append]
      have eL : (⟨f, t, st.part f t⟩ : PartD).left = ⟨f, f + SplitN (t - f), st.part f (f + SplitN (t - f))⟩ := by unfold PartD.left; rw [p1]
      have eR : (⟨f, t, st.part f t⟩ : PartD).right = ⟨f + SplitN (t - f), t, st.part (f + SplitN (t - f)) t⟩ := by unfold PartD.right; rw [p2]
      by_cases hm : j < f + SplitN (t - f)
      · obtain ⟨i1, i2, i3⟩ := ih f (f + SplitN (t - f)) n1 h1 hm (by omega) ((begun_false _ _ _).2 fun i a b => (begun_false st f t).1 hb i a (by omega))
        rw [PartD.spl_left k _ j hgt hm, eL, eR]
        have hnr : st'.begun (f + SplitN (t - f)) t = false := by
          rw [h.same _ _ (.inl hm)]
          exact (begun_false _ _ _).2 fun i a b => (begun_false st f t).1 hb i (by omega) b
        rw [i1, St.parts_not _ _ _ _ hnr, h.part]
        refine ⟨by simp [itPart], i2, ?_⟩
        simp only
        rw [i3, DepB, if_neg (by omega), hS, if_pos (by omega), show f + SplitN (t - f) - f = SplitN (t - f) by omega]
        omega
      · obtain ⟨i1, i2, i3⟩ := ih (f + SplitN (t - f)) t n2 (by omega) h2 (by omega) ((begun_false _ _ _).2 fun i a b => (begun_false st f t).1 hb i (by omega) b)
        rw [PartD.spl_right k _ j hgt hm, eL, eR]
        have hnl : st'.begun f (f + SplitN (t - f)) = false := by
          rw [h.same _ _ (.inr (by omega))]
          exact (begun_false _ _ _).2 fun i a b => (begun_false st f t).1 hb i a (by omega)
        rw [i1, St.parts_not _ _ _ _ hnl, h.part]
        refine ⟨by simp [itPart], i2, ?_⟩
        simp only
        rw [i3, DepB, if_neg (by omega), hS, if_neg (by omega), show t - (f + SplitN (t - f)) = t - f - SplitN (t - f) by omega, show j - (f + SplitN (t - f)) = j - f - SplitN (t - f) by omega]
        omega
theorem parts_take {st st' : St} (ok : st.Ok) {j : Nat} (h : Began st st' j) (k : Nat) : ∀ f t, st.node f t → f ≤ j → j < t → t - f ≤ k + 1 →
    ∃ A p B, (st.parts k f t).map itPart = A ++ p :: B ∧ p.has j ∧ (∀ x ∈ A, ¬ x.has j) ∧ (st'.parts k f t).map itPart = A ++ (p.spl 16 j).x ++ ((p.spl 16 j).y ++ B) ∧ (p.spl 16 j).s = st.part j (j + 1) ∧ (p.spl 16 j).d ≤ DepB k (t - f) (j - f) := by
  have h16 := ok.n16
  induction k with
  | zero =>
    intro f t hn h1 h2 h3
    have hb : st.begun f t = false := (begun_false _ _ _).2 fun i a b => by
      obtain rfl : i = j := by omega
      exact h.not
    obtain ⟨i1, i2, i3⟩ := parts_fresh ok h 0 f t hn h1 h2 h3 hb
    have hf := spl_fuel 0 16 ⟨f, t, st.part f t⟩ j h3 (by show t - f ≤ 17; omega)
    rw [hf] at i1 i2 i3
    refine ⟨[], ⟨f, t, st.part f t⟩, [], ?_, ⟨h1, h2⟩, by simp, ?_, i2, by omega⟩
    · rw [St.parts_not _ _ _ _ hb]; rfl
    · rw [i1]; simp
  | succ k ih =>
    intro f t hn h1 h2 h3
    cases hb : st.begun f t with
    | false =>
      obtain ⟨i1, i2, i3⟩ := parts_fresh ok h (k + 1) f t hn h1 h2 h3 hb
      have hin := St.node_in ok hn
      have hf := spl_fuel (k + 1) 16 ⟨f, t, st.part f t⟩ j h3 (by show t - f ≤ 17; omega)
      rw [hf] at i1 i2 i3
      refine ⟨[], ⟨f, t, st.part f t⟩, [], ?_, ⟨h1, h2⟩, by simp, ?_, i2, by omega⟩
      · rw [St.parts_not _ _ _ _ hb]; rfl
      · rw [i1]; simp
    | true =>
      have hb' : st'.begun f t = true := begun_true st' f t j h1 h2 h.now
      have h4 : ¬ t - f = 1 := fun e => by
        obtain ⟨i, a1, a2, a3⟩ := (begun_iff _ _ _).1 hb
        obtain rfl : i = j := by omega
        rw [h.not] at a3; cases a3
      have hsp := SplitN_bd (t - f) (by omega)
      obtain ⟨⟨n1, p1⟩, n2, p2⟩ := St.halves ok hn (by omega)
      have hS : (SplitI ((t - f : Nat) : Int)).toNat = SplitN (t - f) := by rw [SplitN_eq]; omega
      rw [St.parts_two st k f t hb h4, St.parts_two st' k f t hb' h4, List.map_append, List.map_append]
      by_cases hm : j < f + SplitN (t - f)
      · obtain ⟨A, p, B, i1, i2, i3, i4, i5, i6⟩ := ih f (f + SplitN (t - f)) n1 h1 hm (by omega)
        refine ⟨A, p, B ++ (st.parts k (f + SplitN (t - f)) t).map itPart, by rw [i1]; simp, i2, i3, ?_, i5, ?_⟩
        · rw [i4, h.parts k _ _ (.inl hm)]; simp
        · rw [DepB, if_neg (by omega), hS, if_pos (by omega)]
          rw [show f + SplitN (t - f) - f = SplitN (t - f) by omega] at i6
          omega
      · obtain ⟨A, p, B, i1, i2, i3, i4, i5, i6⟩ := ih (f + SplitN (t - f)) t n2 (by omega) h2 (by omega)
        refine ⟨(st.parts k f (f + SplitN (t - f))).map itPart ++ A, p, B, by rw [i1]; simp, i2, ?_, ?_, i5, ?_⟩
        · intro x hx
          rcases List.mem_append.1 hx with hx | hx
          · obtain ⟨y, hy, rfl⟩ := List.mem_map.1 hx
            obtain ⟨_, _, c3, _⟩ := parts_clear st k _ _ y hy
            intro hh
            have : j < y.t := hh.2
            omega
          · exact i3 x hx
        · rw [i4, h.parts k _ _ (.inr (by omega))]; simp
        · rw [DepB, if_neg (by omega), hS, if_neg (by omega)]
          rw [show t - (f + SplitN (t - f)) = t - f - SplitN (t - f) by omega, show j - (f + SplitN (t - f)) = j - f - SplitN (t - f) by omega] at i6
          omega
theorem parts_lt (st : St) (k : Nat) : ∀ f t, f < t → t - f ≤ k + 1 → (∀ x ∈ (st.parts k f t).map itPart, x.f < x.t) ∧ wide ((st.parts k f t).map itPart) ≤ t - f := by
  induction k with
  | zero =>
    intro f t h h2
    unfold St.parts
    split
    · exact ⟨by simp, by simp [wide]⟩
    · refine ⟨by intro x hx; simp [itPart] at hx; subst hx; exact h, ?_⟩
      simp [wide, itPart]
  | succ k ih =>
    intro f t h h2
    rw [St.parts]
    split
    · split
      · exact ⟨by simp, by simp [wide]⟩
      · have hq := SplitN_bd (t - f) (by omega)
        obtain ⟨a1, a2⟩ := ih f (f + SplitN (t - f)) (by omega) (by omega)
        obtain ⟨b1, b2⟩ := ih (f + SplitN (t - f)) t (by omega) (by omega)
        rw [List.map_append]
        refine ⟨fun x hx => ?_, ?_⟩
        · rcases List.mem_append.1 hx with hx | hx
          · exact a1 x hx
          · exact b1 x hx
        · rw [wide_append]; omega
    · refine ⟨by intro x hx; simp [itPart] at hx; subst hx; exact h, ?_⟩
      simp [wide, itPart]
end Go.Proofs.YtkpebabbnndopaaGreatDoor

/- The states of a group's block on the way through Protect; ratchetFor and turn, of a group. -/
namespace Go.Proofs.YtkpebabbnndopaaGreatDoor
open Go.RowKit
set_option linter.unusedVariables false

theorem GrpAt.tick {b n wk pm : Nat} {lk : Int} {cs cs' : Array Value} {st : St} (h : GrpAt cs st wk pm lk) (m : Mv (some b) n 0 0 cs cs') : GrpAt cs' st (wk + n) pm lk := by
  have e : ∀ j, j ≠ 330 → cs'[j]? = cs[j]? := fun j hj => m.out j (.inr (by omega)) (fun _ => hj)
  exact ⟨m.size.trans h.size, by rw [e 5 (by omega)]; exact h.members, by rw [e 6 (by omega)]; exact h.own, by rw [e 7 (by omega)]; exact h.over, h.tree.mv m (fun _ => by show 169 ≤ 330; omega), fun i hi => m.at (h.rat i hi) (.inr (by omega)) (fun _ => .inl (by show 169 + i * 10 + 10 ≤ 330; omega)), by rw [e 329 (by omega)]; exact h.passed, m.cnt (by simp) wk h.cnt, m.one h.ones, by rw [e 0 (by omega), e 2 (by omega), e 3 (by omega)]; exact h.head⟩
/-- the member i has begun -/
def St.begin (st : St) (i : Nat) : St := st.setM i ⟨true, (st.m i).next, (st.m i).over⟩
theorem parts_same {st st' : St} (hs : st'.s = st.s) (hn : st'.n = st.n) (hb : ∀ i, (st'.m i).begun = (st.m i).begun) (k : Nat) : ∀ f t, st'.parts k f t = st.parts k f t := by
  have hbb : ∀ f t, st'.begun f t = st.begun f t := fun f t => by unfold St.begun; simp only [hb]
  have hp : ∀ a b, st'.part a b = st.part a b := fun a b => by unfold St.part; rw [hs, hn]
  induction k with
  | zero => intro f t; unfold St.parts; rw [hbb, hp]
  | succ k ih =>
    intro f t
    cases hx : st.begun f t with
    | false => rw [St.parts_not st _ _ _ hx, St.parts_not st' _ _ _ (by rw [hbb]; exact hx), hp]
    | true =>
      by_cases h1 : t - f = 1
      · rw [St.parts_one st _ _ _ hx h1, St.parts_one st' _ _ _ (by rw [hbb]; exact hx) h1]
      · rw [St.parts_two st k f t hx h1, St.parts_two st' k f t (by rw [hbb]; exact hx) h1, ih, ih]
theorem begin_m {st : St} (ok : st.Ok) {m : Nat} (hm : m < st.n) (j : Nat) : (st.begin m).m j = if j = m then ⟨true, (st.m m).next, (st.m m).over⟩ else st.m j := St.setM_m st m _ (by rw [ok.len]; exact hm) j
theorem protNext_m {st : St} (ok : st.Ok) (j : Nat) : st.protNext.m j = if j = st.own then ⟨true, (st.m st.own).next + 1, (st.m st.own).over⟩ else st.m j := St.setM_m st st.own _ (by rw [ok.len]; exact ok.own) j
theorem ratS_other {st st' : St} (hs : st'.s = st.s) (hn : st'.n = st.n) (i : Nat) (h : st'.m i = st.m i) : st'.ratS i = st.ratS i := by
  unfold St.ratS St.ratAt
  rw [h, hs, hn]
theorem begin_began {st : St} (ok : st.Ok) {m : Nat} (hm : m < st.n) (h : (st.m m).begun = false) : Began st (st.begin m) m :=
  ⟨rfl, rfl, h, by rw [begin_m ok hm, if_pos rfl], fun i hi => by rw [begin_m ok hm, if_neg hi]⟩
theorem begin_rat {st : St} (ok : st.Ok) {m : Nat} (hm : m < st.n) (hn : (st.m m).next ≤ 65535) : (st.begin m).ratS m = st.ratAt m (st.m m).next := by
  unfold St.ratS
  rw [begin_m ok hm, if_pos rfl]
  show (if (true && decide ((st.m m).next ≤ 65535)) = true then _ else _) = _
  rw [if_pos (by simp; exact hn)]
  rfl
theorem begin_same {st : St} (ok : st.Ok) {m : Nat} (hm : m < st.n) (hb : (st.m m).begun = true) : st.begin m = st := by
  unfold St.begin St.setM
  have h1 : (⟨true, (st.m m).next, (st.m m).over⟩ : Mem) = st.m m := by rw [← hb]
  rw [h1]
  have hl : m < st.mem.length := by rw [ok.len]; exact hm
  have h2 : st.m m = st.mem[m] := by unfold St.m; rw [List.getD_eq_getElem?_getD, List.getElem?_eq_getElem hl]; rfl
  rw [h2, List.set_getElem_self]
set_option maxHeartbeats 2000000 in
/-- begin, wherever tree and ratchet lie -/
theorem begin_any {F : FuncId} {pre : Array Value} {q : Option Nat} (dv : Drv F pre q) {b tof ro m : Nat} {t : TypeId} {cs : Array Value} {st : St} (ok : st.Ok) (hm : m < st.n) (hn : (st.m m).next ≤ 65535)
    (hT : TreeAt cs tof ((st.parts 16 0 st.n).map itPart)) (hR : RatAt cs ro (st.m m).begun (st.m m).next (st.ratS m)) (hro : tof + 161 ≤ ro) (hsz : ro + 10 ≤ cs.size) (hcf : q ≠ none → ro + 10 ≤ ctrOff) (w : World) (h : Home q b t cs w) :
    Calls Tryz.prog 45 #[.pointer (some ⟨b, ro, none⟩), .pointer (some ⟨b, tof, none⟩), .int .i64 m, .func (.func F) pre #[]] w fun e w' => e = .returned (.tuple #[]) ∧ ∃ cs' n, n ≤ 2 * DepB 16 st.n m + 1 ∧ Upd q n b tof (ro + 10 - tof) t cs w w' cs' ∧
      TreeAt cs' tof (((st.begin m).parts 16 0 st.n).map itPart) ∧ RatAt cs' ro true (st.m m).next (st.ratAt m (st.m m).next) ∧ ∀ j, (j < tof ∨ tof + 161 ≤ j) → (j < ro ∨ ro + 10 ≤ j) → (q ≠ none → j ≠ ctrOff) → cs'[j]? = cs[j]? := by
  cases hb : (st.m m).begun with
  | true =>
    rw [hb] at hR
    refine (begin_old _ _ b ro m w (hR.facts h).1).mono fun e' w' ⟨h1, h2⟩ => ⟨h1, cs, 0, by omega, by rw [h2]; exact Upd.refl h _ _, by rw [begin_same ok hm hb]; exact hT, ?_, fun _ _ _ _ => rfl⟩
    have e2 := begin_rat ok hm hn
    rw [begin_same ok hm hb] at e2
    rw [← e2]
    exact hR
  | false =>
    obtain ⟨A, p, B, i1, i2, i3, i4, i5, i6⟩ := parts_take ok (begin_began ok hm hb) 16 0 st.n st.node_all (Nat.zero_le _) hm (by have := ok.n16; omega)
    obtain ⟨l1, l2⟩ := parts_lt st 16 0 st.n (by have := ok.n1; omega) (by have := ok.n16; omega)
    rw [i1] at hT l1 l2
    rw [hb] at hR
    have hlf := (St.part_leaf ok m hm).2
    have hsb : ∀ i, 0 ≤ (p.spl 16 m).s i ∧ (p.spl 16 m).s i < 256 := fun i => by rw [i5]; exact St.part_bd ok _ _ i
    have hn0 : (st.m m).next = 0 := ((ok.m m).2.2.2 hb).1
    have hl10 : (CellsR true 0 (DerB (p.spl 16 m).s lRatchet 0)).toList.length = 10 := rfl
    refine (begin_new dv b tof ro m cs t hro hsz hcf A B p w h hT i2 i3 l1 (by have := ok.n16; omega) _ _ hR hsb).mono fun e' w' ⟨h1, cs1, m1, t1, hu⟩ => ⟨h1, _, 2 * (p.spl 16 m).d + 1, ?_, hu, ?_, ?_, fun j h3 h4 h5 => ?_⟩
    · rw [Nat.sub_zero, Nat.sub_zero] at i6; omega
    · rw [i4]
      refine ⟨t1.len, t1.parts.putOther _ _ (.inr (by rw [pcells_len]; have := t1.len; omega)), ?_, t1.ok⟩
      rw [putL_out _ _ _ _ (.inl (by omega))]; exact t1.count
    · have e5 : DerB (p.spl 16 m).s lRatchet 0 = st.ratAt m (st.m m).next := by rw [hn0, i5, hlf]; rfl
      have hR2 : RatAt (putL cs1 ro (CellsR true 0 (DerB (p.spl 16 m).s lRatchet 0)).toList) ro true ((0 : Nat) : Int) (DerB (p.spl 16 m).s lRatchet 0) := putL_at _ _ _ (by rw [m1.size, hl10]; omega)
      rw [e5] at hR2
      rw [e5, hn0]
      rw [hn0] at hR2
      exact hR2
    · rw [putL_out _ _ _ _ (by rw [hl10]; exact h4)]
      exact m1.out j h3 h5
/-- begin, of a group's own ratchet -/
theorem rf_any {b wk pm : Nat} {lk : Int} {cs : Array Value} {st : St} (ok : st.Ok) (hg : GrpAt cs st wk pm lk) (hn : (st.m st.own).next ≤ 65535) (w : World) (h : Home (some b) b 112 cs w) :
    Calls Tryz.prog 45 #[.pointer (some ⟨b, 169 + st.own * 10, none⟩), .pointer (some ⟨b, 8, none⟩), .int .i64 st.own, .func (.func 46) #[.pointer (some ⟨b, 0, none⟩)] #[]] w fun e w' => e = .returned (.tuple #[]) ∧ Outside [b] w w' ∧ ∃ cs' n, n ≤ 2 * DepB 16 st.n st.own + 1 ∧ Home (some b) b 112 cs' w' ∧ GrpAt cs' (st.begin st.own) (wk + n) pm lk := by
  have h16 : st.own < 16 := by have := ok.own; have := ok.n16; omega
  refine (begin_any (derive_g b) ok ok.own hn hg.tree (hg.rat st.own h16) (by omega) (by rw [hg.size]; omega) (fun _ => by show _ ≤ 330; omega) w h).mono fun e w' ⟨h1, cs', n, h2, hu, hT, hR, ho⟩ => ⟨h1, hu.out, cs', n, h2, hu.home, ?_⟩
  have e0 : ∀ j, (j < 8 ∨ 169 ≤ j) → (j < 169 + st.own * 10 ∨ 169 + st.own * 10 + 10 ≤ j) → j ≠ 330 → cs'[j]? = cs[j]? := fun j h3 h4 h5 => ho j (by omega) h4 (fun _ => h5)
  refine ⟨by rw [hu.mv.size]; exact hg.size, ?_, ?_, ?_, hT, fun i hi => ?_, ?_, hu.mv.cnt (by simp) wk hg.cnt, hu.mv.one hg.ones, by rw [e0 0 (by omega) (by omega) (by omega), e0 2 (by omega) (by omega) (by omega), e0 3 (by omega) (by omega) (by omega)]; exact hg.head⟩
  · rw [e0 5 (by omega) (by omega) (by omega)]; exact hg.members
  · rw [e0 6 (by omega) (by omega) (by omega)]; exact hg.own
  · rw [e0 7 (by omega) (by omega) (by omega)]; exact hg.over
  · by_cases hi' : i = st.own
    · subst hi'
      rw [begin_rat ok ok.own hn, begin_m ok ok.own, if_pos rfl]
      exact hR
    · have h3 := hg.rat i hi
      rw [begin_m ok ok.own, if_neg hi', ratS_other (st' := st.begin st.own) (st := st) rfl rfl i (by rw [begin_m ok ok.own, if_neg hi'])]
      intro j v hv
      have hj : j < 10 := (List.getElem?_eq_some_iff.1 hv).1
      rw [e0 _ (by omega) (by omega) (by omega)]
      exact h3 j v hv
  · rw [e0 329 (by omega) (by omega) (by omega)]; exact hg.passed
/-- the own ratchet is turned -/
theorem GrpAt.turn {b n wk pm : Nat} {lk : Int} {cs cs' : Array Value} {st : St} (ok : st.Ok) (h : GrpAt cs (st.begin st.own) wk pm lk) (m : Mv (some b) n (169 + st.own * 10) 10 cs cs') (hr : RatAt cs' (169 + st.own * 10) true ((st.m st.own).next + 1 : Nat) (st.protNext.ratS st.own)) : GrpAt cs' st.protNext (wk + n) pm lk := by
  have h16 : st.own < 16 := by have := ok.own; have := ok.n16; omega
  have e0 : ∀ j, (j < 169 + st.own * 10 ∨ 169 + st.own * 10 + 10 ≤ j) → j ≠ 330 → cs'[j]? = cs[j]? := fun j hj h3 => m.out j hj (fun _ => h3)
  have hp : ∀ f t, st.protNext.parts 16 f t = (st.begin st.own).parts 16 f t := parts_same (st := st.begin st.own) (st' := st.protNext) rfl rfl (fun i => by rw [protNext_m ok, begin_m ok ok.own]; split <;> rfl) 16
  refine ⟨m.size.trans h.size, ?_, ?_, ?_, ?_, fun i hi => ?_, ?_, m.cnt (by simp) wk h.cnt, m.one h.ones, by rw [e0 0 (.inl (by omega)) (by omega), e0 2 (.inl (by omega)) (by omega), e0 3 (.inl (by omega)) (by omega)]; exact h.head⟩
  · rw [e0 5 (.inl (by omega)) (by omega)]; exact h.members
  · rw [e0 6 (.inl (by omega)) (by omega)]; exact h.own
  · rw [e0 7 (.inl (by omega)) (by omega)]; exact h.over
  · have e1 : st.protNext.n = (st.begin st.own).n := rfl
    rw [e1, hp]
    have hT := h.tree
    refine ⟨hT.len, m.at hT.parts (.inl (by rw [pcells_len]; have := hT.len; omega)) (fun _ => .inl (by rw [pcells_len]; have := hT.len; show 8 + 10 * _ ≤ 330; omega)), ?_, hT.ok⟩
    rw [e0 (8 + 160) (.inl (by omega)) (by omega)]; exact hT.count
  · by_cases hi' : i = st.own
    · subst hi'
      rw [protNext_m ok, if_pos rfl]
      exact hr
    · have h3 := h.rat i hi
      rw [begin_m ok ok.own, if_neg hi', ratS_other (st' := st.begin st.own) (st := st) rfl rfl i (by rw [begin_m ok ok.own, if_neg hi'])] at h3
      rw [protNext_m ok, if_neg hi', ratS_other (st' := st.protNext) (st := st) rfl rfl i (by rw [protNext_m ok, if_neg hi'])]
      exact m.at h3 (by show 169 + i * 10 + 10 ≤ _ ∨ _; omega) (fun _ => .inl (by show 169 + i * 10 + 10 ≤ 330; omega))
  · rw [e0 329 (.inr (by omega)) (by omega)]; exact h.passed
/-- turn, of the own ratchet -/
theorem gturn_any {b wk pm : Nat} {lk : Int} {cs : Array Value} {st : St} (ok : st.Ok) (h : GrpAt cs (st.begin st.own) wk pm lk) (hn : (st.m st.own).next ≤ 65535) (w : World) (hh : Home (some b) b 112 cs w) :
    Calls Tryz.prog 49 #[.pointer (some ⟨b, 169 + st.own * 10, none⟩), .func (.func 46) #[.pointer (some ⟨b, 0, none⟩)] #[]] w fun e w' => e = .returned (.tuple #[]) ∧ Outside [b] w w' ∧ ∃ cs' n, n ≤ 1 ∧ Home (some b) b 112 cs' w' ∧ GrpAt cs' st.protNext (wk + n) pm lk := by
  have h16 : st.own < 16 := by have := ok.own; have := ok.n16; omega
  have hf : (some b : Option Nat) ≠ none → 169 + st.own * 10 + 10 ≤ ctrOff := fun _ => by show _ ≤ 330; omega
  have hr := h.rat st.own h16
  have hs : (st.begin st.own).ratS st.own = st.ratAt st.own (st.m st.own).next := by
    unfold St.ratS
    rw [begin_m ok ok.own, if_pos rfl]
    show (if (true && decide ((st.m st.own).next ≤ 65535)) = true then _ else _) = _
    rw [if_pos (by simp; exact hn)]
    rfl
  rw [begin_m ok ok.own, if_pos rfl, hs] at hr
  have hbd : ∀ i, 0 ≤ st.ratAt st.own (st.m st.own).next i ∧ st.ratAt st.own (st.m st.own).next i < 256 := RatB_bd _ (DerB_bd _ _ _) _
  by_cases hl : (st.m st.own).next < 65535
  · refine (turn_small (derive_g b) (st.m st.own).next hl true _ hbd b (169 + st.own * 10) _ cs w hh hr hf).mono fun e w' ⟨h1, cs', u, h2⟩ => ⟨h1, u.out, cs', 1, by omega, u.home, h.turn ok u.mv ?_⟩
    have e2 : st.protNext.ratS st.own = DerB (st.ratAt st.own (st.m st.own).next) lNext (st.m st.own).next := by
      unfold St.ratS
      rw [protNext_m ok, if_pos rfl]
      show (if (true && decide ((st.m st.own).next + 1 ≤ 65535)) = true then _ else _) = _
      rw [if_pos (by simp; omega)]
      rfl
    rw [e2]
    exact h2
  · have e1 : (st.m st.own).next = 65535 := by omega
    rw [e1] at hr
    refine (turn_last _ (some b) true _ b (169 + st.own * 10) _ cs w hh hr hf).mono fun e w' ⟨h1, cs', u, h2⟩ => ⟨h1, u.out, cs', 0, by omega, u.home, h.turn ok u.mv ?_⟩
    have e2 : st.protNext.ratS st.own = fun _ => 0 := by
      unfold St.ratS
      rw [protNext_m ok, if_pos rfl]
      show (if (true && decide ((st.m st.own).next + 1 ≤ 65535)) = true then _ else _) = _
      rw [if_neg (by simp; omega)]
    rw [e2, e1]
    exact h2
end Go.Proofs.YtkpebabbnndopaaGreatDoor
