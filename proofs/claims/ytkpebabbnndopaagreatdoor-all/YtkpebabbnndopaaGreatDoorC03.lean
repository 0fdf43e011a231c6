import Derived.Test.YtkpebabbnndopaaGreatDoorC02
import Derived.RangeFuncNested
import Derived.RangeFuncBound
import Derived.RangeFuncCalls
import Derived.RangeFuncLeaves
import Derived.RangeFuncBox
import Derived.Shelf.Abstract
import Derived.Shelf.RegionOpen
import Derived.WalkKit
import Derived.OwnWalkIn
import Derived.TacticsInMore
import Derived.LoopNIn
import Derived.LoopIn
import Derived.Maps.AppendAt
import Derived.WideKeyElems
import Derived.Maps.Own
import Derived.Maps.Views
import Derived.Test.YtkpebabbnndopaaGreatDoorRows
import Derived.Test.YtkpebabbnndopaaGreatDoorC01
import Derived.WalkSpells
import Derived.WalkLawsBesides
import Derived.Deep.OwnRows
import Derived.Laws.CopyOwn
import Derived.Laws.LoneSync
import Derived.Deep.WholeRow
import Derived.Deep.MidRow
import Derived.Laws.CopyRow
import Derived.Test.YtkpebabbnndopaaGreatDoorProg
import Derived.Laws.IdiomCopy
/- slices.AppendSeq and slices.Collect of places. -/
namespace Go.Proofs.YtkpebabbnndopaaGreatDoor
open Go.RowKit Go.Shelf Go.Maps
attribute [local go_sem] Oper.semAt_some
set_option linter.unusedVariables false
set_option linter.unusedSimpArgs false

/-- places' cells, one behind the other -/
def flatP : List PlI → List Value
  | [] => []
  | x :: r => .int .i64 x.1 :: .int .i64 x.2 :: flatP r
theorem flatP_append (a b : List PlI) : flatP (a ++ b) = flatP a ++ flatP b := by
  induction a with
  | nil => rfl
  | cons x r ih => simp [flatP, ih]
theorem flatP_len (a : List PlI) : (flatP a).length = a.length * 2 := by
  induction a with
  | nil => rfl
  | cons x r ih => simp [flatP, ih]; omega
theorem plInfo : (Tryz.prog.info? 123).map (fun i => (i.zero, i.size, i.bytes)) = some (some (.agg #[.int .i64 0, .int .i64 0]), 2, 16) := by kernel_rfl
theorem cells_two_new (W : World) (x : PlI) : ∀ j u, [Value.int .i64 x.1, .int .i64 x.2][j]? = some u → (W.alloc (.cells #[.int .i64 x.1, .int .i64 x.2] 123)).cell? ((⟨W.heap.size, 0, none⟩ : Addr).add j) = some u := fun j u h => by
  have e : (⟨W.heap.size, 0, none⟩ : Addr).add j = ⟨W.heap.size, j, none⟩ := by unfold Addr.add; split <;> simp_all
  rw [e, cell_of_row _ _ _ _ _ _ (MapKept.heap_alloc W _).1]
  rcases j with _ | _ | j <;> simp_all

set_option maxRecDepth 100000 in
set_option maxHeartbeats 2000000 in
theorem appendSeq_in (F : Fence) (n : Nat) (h111 : F.fn 155) (hro : F.round = none) (hn : 3 ≤ n) (g : Nat) (lb : Array Value) (hFg : F.fn g) (eg : ∀ args w, (callFunc g args).run Tryz.prog w = .ok (.enter g args) w)
    (S Sp : List PlI → Prop) (N : Nat) (hN : N ≤ 100000) (w : World) (hseq : SeqStops F (n - 1) Tryz.prog g lb encP S Sp N w) :
    CallsIn F n Tryz.prog 155 #[.slice none 0 0, .func (.func g) #[] lb] w fun e w' => ∃ (v : Value) (xs : List PlI), e = .returned v ∧ S xs ∧ w'.ownsRow w.heap.size 123 2 v xs.length (flatP xs) ∧ (v = .slice none 0 0 ↔ xs = []) ∧ Below w.heap.size w w' := by
  have h1 : 1 ≤ n := by omega
  have hmax : (100001 : Nat) ≤ maxLen := by decide
  obtain ⟨i0, hi, hz0, hz1, hz2⟩ := info_parts plInfo
  refine callsIn_of_wp_marks Tryz.func155 rfl h111 ?_ hro
  simp only [Tryz.ntmps155, List.size_toArray, List.length_cons, List.length_nil, Nat.reduceAdd, Nat.reduceSub, Array.replicate_succ, Array.replicate_zero, List.push_toArray, List.append_toArray, List.nil_append, List.cons_append]
  gi_wp2
  have bO := Boxed.new w 131 (.slice none 0 0)
  have hB0 : Below w.heap.size w (w.alloc (.cells #[.slice none 0 0] 131)) := (Below.refl _ w).alloc (Nat.le_refl _) _
  refine wpIn_rangeFunc_ownH hro h1 (gf := g) (lb := lb) rfl hFg eg hseq walksK_t walksK_b hB0 (fun _ => rfl)
    (fun pre W => (∃ v, Boxed W w.heap.size 131 v ∧ W.ownsRow w.heap.size 123 2 v pre.length (flatP pre) ∧ (v = .slice none 0 0 ↔ pre = [])) ∧ Below w.heap.size w W)
    (fun _ _ _ => False)
    (OwnFrom.and (Own.from (holdsRow_own w.heap.size w.heap.size 131 123 2 (fun pre => pre.length) (fun pre => flatP pre) (fun pre v => v = .slice none 0 0 ↔ pre = [])) _) (ownFrom_below (Nat.le_refl _) (by simp)))
    (fun _ _ _ _ _ hs _ _ => hs)
    ⟨⟨_, bO, World.ownsRow_nil _ _ _ _, by simp⟩, hB0⟩
    (fun x a' W => ∃ Bx, w.heap.size < Bx ∧ W.heap[Bx]? = some (.cells #[.int .i64 x.1, .int .i64 x.2] 123 (0, 0)) ∧ a' = { tmps := #[.slice none 0 0, .func (.func g) #[] lb, .pointer (some ⟨w.heap.size, 0, none⟩), undef, .slice none 0 0, .pointer (some ⟨Bx, 0, none⟩), .func (.func g) #[] lb, encP x, undef, undef, undef, undef, undef], defers := [] })
    ?_ ?assign ?body ?done ?stop
  · rintro x a' s A B row ⟨Bx, h2, h3, h4⟩ hg hr
    refine ⟨Bx, h2, ?_, h4⟩
    rw [hg.block Bx (Array.getElem?_eq_some_iff.1 h3).1 (fun e => ?_)]
    · exact h3
    · obtain ⟨_, o, ho, hc⟩ := hr Bx e.symm
      rw [h3] at ho; cases ho; cases hc
  case assign =>
    rintro l pre x W K ⟨⟨v, hv, hrow, hnil⟩, hB⟩ hK
    have hlt := hv.lt
    gi_wp2
    exact hK _ _ ((KeepsOthers.alloc _ _).from _) (KeepsWalks.alloc _ _) ⟨⟨v, hv.alloc _, hrow.alloc _, hnil⟩, hB.alloc hB.size _⟩ ⟨W.heap.size, hlt, (MapKept.heap_alloc _ _).1, rfl⟩
  case body =>
    rintro l pre x a' W hl ⟨r, hr⟩ ⟨⟨v, hv, hrow, hnil⟩, hB⟩ ⟨Bx, hBx, bX, rfl⟩ hlt
    have hc := hv.cell
    have hX : ∀ o, W.cell? ⟨Bx, o, none⟩ = #[Value.int .i64 x.1, .int .i64 x.2][o]? := fun o => cell_of_row _ _ _ _ _ _ bX
    gi_wp2_with (gi_at_builtin; refine wpListIn_append_own _ rfl _ _ 131 rfl w.heap.size 123 i0 (.agg #[.int .i64 0, .int .i64 0]) 2 16 Tryz.underlying131 hi hz0 hz1 hz2 rfl (by decide) _ _ _ rfl (hrow.alloc _) ⟨W.heap.size, 0, none⟩ 1 1 [.int .i64 x.1, .int .i64 x.2] rfl rfl (cells_two_new W x) (by simp [Value.oneCell']) (by omega) (by omega) (by have := hB.size; simp; omega) ?_; intro v' w1 hown' hgrow _; obtain ⟨g', cap', rfl⟩ := ownsRow_succ hown'; obtain ⟨hv1, hv2, hr2, hk2, hb2⟩ := hv.appended (by decide) hrow hB.size (Nat.le_refl _) hown' hgrow; have hc1 := hv1.cell; have hf1 := hv1.frozen)
    exact ⟨hk2.from _, hk2.walks, ⟨_, hv2, by rw [flatP_append, List.length_append]; exact hr2, by simp⟩, hB.trans hb2⟩
  case done =>
    rintro D ys W hD hS ⟨⟨v, hv, hrow, hnil⟩, hB⟩ hK
    have hc := hv.cell
    gi_wp2
    refine ⟨by simp, .inl ⟨_, _, rfl, run_takeDeferred hK, ?_⟩⟩
    exact ⟨_, results_tmp rfl _ _ _, v, ys, rfl, hS, ownsRow_putObj hrow _ hK rfl, hnil, hB.trans (belowK_b (w := w) (Nat.le_refl _) W D _ _ (by simp at hD; omega) hK rfl rfl)⟩
  case stop =>
    rintro D c pre W _ _ h _
    exact h.elim
set_option maxHeartbeats 1000000 in
theorem collect_in (F : Fence) (n : Nat) (h86 : F.fn 127) (h111 : F.fn 155) (hro : F.round = none) (hn : 4 ≤ n) (g : Nat) (lb : Array Value) (hFg : F.fn g) (eg : ∀ args w, (callFunc g args).run Tryz.prog w = .ok (.enter g args) w)
    (S Sp : List PlI → Prop) (N : Nat) (hN : N ≤ 100000) (w : World) (hseq : SeqStops F (n - 1 - 1) Tryz.prog g lb encP S Sp N w) :
    CallsIn F n Tryz.prog 127 #[.func (.func g) #[] lb] w fun e w' => ∃ (v : Value) (xs : List PlI), e = .returned v ∧ S xs ∧ w'.ownsRow w.heap.size 123 2 v xs.length (flatP xs) ∧ (v = .slice none 0 0 ↔ xs = []) ∧ Below w.heap.size w w' := by
  have h1 : 1 ≤ n := by omega
  refine callsIn_of_wp Tryz.func127 rfl h86 ?_ hro
  simp only [Tryz.ntmps127, List.size_toArray, List.length_cons, List.length_nil, Nat.reduceAdd, Nat.reduceSub, Array.replicate_succ, Array.replicate_zero, List.push_toArray, List.append_toArray, List.nil_append, List.cons_append]
  gi_wp2_with (gi_at_call 155; refine (appendSeq_in F (n - 1) h111 hro (by omega) g lb hFg eg S Sp N hN _ hseq).mono ?_; rintro e w' ⟨v, xs, rfl, hS, hrow, hnil, hb⟩)
  go_ret
  exact ⟨v, xs, rfl, hS, hrow, hnil, hb⟩
end Go.Proofs.YtkpebabbnndopaaGreatDoor

/- The map of the keys that were passed over, as plain data. -/
namespace Go.Proofs.YtkpebabbnndopaaGreatDoor
open Go.RowKit Go.Shelf Go.Maps
set_option linter.unusedVariables false
set_option linter.unusedSimpArgs false

def wfP (x : PlI) : Prop := (Lit.int .i64 x.1).wf = true ∧ (Lit.int .i64 x.2).wf = true
def litP (x : PlI) : Lit := .string (keyBytes [.int .i64 x.1, .int .i64 x.2])
theorem plLaw : WideMaps.KeyLaw Tryz.prog 123 := deep_law_laid plLaid (m := 2) (by omega) (of_decide_eq_true (by kernel_rfl)) (by kernel_rfl) (by kernel_rfl)
theorem keyLits_int (d : Nat) (cs : List Value) (ls : List Lit) (h : Tryz.prog.keyLits (d + 1) 3 cs = some ls) : ∃ n, cs = [.int .i64 n] ∧ (Lit.int .i64 n).wf = true ∧ ls = [.int .i64 n] := by
  rw [Program.keyLits.eq_def] at h
  simp only [Tryz.underlying3] at h
  rcases cs with _ | ⟨v, _ | ⟨u, r⟩⟩
  · cases h
  · cases v <;> try cases h
    rename_i q n
    simp only at h
    split at h
    · rename_i hc
      obtain ⟨rfl, hw⟩ := hc
      cases h
      exact ⟨n, rfl, hw, rfl⟩
    · cases h
  · cases v <;> cases h
theorem keyLits_int_mk (d : Nat) (n : Int) (hw : (Lit.int .i64 n).wf = true) : Tryz.prog.keyLits (d + 1) 3 [.int .i64 n] = some [.int .i64 n] := by
  rw [Program.keyLits.eq_def]
  simp only [Tryz.underlying3]
  rw [if_pos ⟨trivial, hw⟩]
theorem plCells : Tryz.prog.cellsOf 123 = 2 := by kernel_rfl
theorem intCells : Tryz.prog.cellsOf 3 = 1 := by kernel_rfl
theorem plKT : Tryz.prog.keyType 123 = true := by kernel_rfl
theorem keyLits_place (d : Nat) (cs : List Value) : Tryz.prog.keyLits (d + 1) 123 cs = if cs.length = 2 then ((Tryz.prog.keyLits d 3 (cs.take 1)).bind fun a => (Tryz.prog.keyLits d 3 (cs.tail.take 1)).map fun b => a ++ b) else none := by
  rw [Program.keyLits.eq_def]
  simp only [Tryz.underlying123, plCells]
  by_cases h : cs.length = 2
  · simp only [h, true_and, if_true]
    rw [if_pos (by kernel_rfl)]
    simp only [List.mapM_cons, List.mapM_nil, Option.pure_def, Option.bind_eq_bind, List.drop_zero, List.drop_one, intCells]
    cases h1 : Tryz.prog.keyLits d 3 (cs.take 1) with
    | none => simp
    | some a =>
      cases h2 : Tryz.prog.keyLits d 3 (cs.tail.take 1) with
      | none => simp
      | some b => simp
  · rw [if_neg (fun hc => h hc.1), if_neg h]
theorem keyOf_encP (x : PlI) (h : wfP x) : keyOf Tryz.prog 123 (encP x) = some (litP x) := by
  unfold keyOf
  simp only [Tryz.underlying123, plKT, Value.formed, plCells, Value.cells]
  rw [if_pos (by simp), keyLits_place]
  have hs : Tryz.prog.types.size = 322 := by kernel_rfl
  rw [hs, if_pos (by simp)]
  simp only [List.take_succ_cons, List.take_zero, List.tail_cons]
  rw [keyLits_int_mk _ _ h.1, keyLits_int_mk _ _ h.2]
  rfl
theorem keyOf_P_inv {v : Value} {l : Lit} (h : keyOf Tryz.prog 123 v = some l) : ∃ x, v = encP x ∧ l = litP x ∧ wfP x := by
  unfold keyOf at h
  simp only [Tryz.underlying123, plKT, Bool.true_and] at h
  split at h
  · rename_i hf
    have hs : Tryz.prog.types.size = 322 := by kernel_rfl
    cases v with
    | agg cs =>
      rw [hs, keyLits_place] at h
      simp only [Value.cells] at h
      by_cases hl : cs.toList.length = 2
      · simp only [hl, if_true] at h
        obtain ⟨u, t, hc⟩ : ∃ u t, cs.toList = [u, t] := by
          rcases hcl : cs.toList with _ | ⟨u, _ | ⟨t, _ | ⟨s, r⟩⟩⟩
          · rw [hcl] at hl; simp at hl
          · rw [hcl] at hl; simp at hl
          · exact ⟨u, t, rfl⟩
          · rw [hcl] at hl; simp at hl
        rw [hc] at h
        simp only [List.take_succ_cons, List.take_zero, List.tail_cons] at h
        cases h1 : Tryz.prog.keyLits 322 3 [u] with
        | none => rw [h1] at h; simp at h
        | some a =>
          cases h2 : Tryz.prog.keyLits 322 3 [t] with
          | none => rw [h1, h2] at h; simp at h
          | some b =>
            rw [h1, h2] at h
            obtain ⟨n, e1, w1, rfl⟩ := keyLits_int _ _ _ h1
            obtain ⟨m, e2, w2, rfl⟩ := keyLits_int _ _ _ h2
            cases e1
            cases e2
            refine ⟨(n, m), ?_, ?_, w1, w2⟩
            · show Value.agg cs = Value.agg #[_, _]
              rw [← Array.toArray_toList (xs := cs), hc]
            · simp at h
              rw [← h]
              rfl
      · simp only [hl, if_false] at h
        cases h
    | _ => simp [Value.formed, Tryz.underlying123] at hf
  · cases h
theorem litP_inj {x y : PlI} (hx : wfP x) (hy : wfP y) (h : litP x = litP y) : x = y := by
  have h1 := keyOf_encP x hx
  have h2 := keyOf_encP y hy
  rw [← h] at h2
  have := plKeyed.inj h1 h2
  simp only [Value.agg.injEq, Array.mk.injEq, List.cons.injEq, Value.int.injEq] at this
  exact Prod.ext this.1.2 this.2.1.2
theorem litP_key (x : PlI) : WideAt.IsKeyLit (litP x) := trivial
/-- how an element of the map reads -/
def RP (v : Value) : Option (DataW Unit × List MemPlace) := match v with
  | .pointer (some ⟨b, 0, none⟩) => some (.lit (.int .i64 b), [])
  | .pointer none => some (.lit (.bool false), [])
  | _ => none
/-- a datum that holds just the places L, the key of x in the block B x -/
structure KeepD (D : DataW Unit) (L : List PlI) (B : PlI → Nat) : Prop where
  tidy : Tidy D
  has : ∀ x, wfP x → Maps.has D (litP x) = decide (x ∈ L)
  atk : ∀ x, x ∈ L → ∀ z, D.atKey (litP x) z = .lit (.int .i64 (B x))
  size : Maps.size D = L.length
  nodup : L.Nodup
  wf : ∀ x, x ∈ L → wfP x
theorem KeepD.empty (B : PlI → Nat) : KeepD (.map []) [] B := ⟨tidy_empty, fun _ _ => rfl, fun _ h => (by cases h), rfl, List.nodup_nil, fun _ h => (by cases h)⟩
theorem KeepD.put {D : DataW Unit} {L : List PlI} {B : PlI → Nat} (h : KeepD D L B) (x : PlI) (hx : wfP x) (hn : x ∉ L) (b : Nat) : KeepD (D.put (litP x) (.lit (.int .i64 b))) (L ++ [x]) (fun y => if y = x then b else B y) := by
  have hm := h.tidy.isMap
  have hne : ∀ y, wfP y → y ≠ x → litP y ≠ litP x := fun y hy hne e => hne (litP_inj hy hx e)
  refine ⟨h.tidy.put (litP_key x) _, fun y hy => ?_, fun y hy z => ?_, ?_, ?_, fun y hy => ?_⟩
  · by_cases e : y = x
    · subst e
      rw [has_put_same hm (litP_key y)]
      simp
    · rw [has_put_other (hne y hy e), h.has y hy]
      simp [e]
  · rcases List.mem_append.1 hy with hy | hy
    · have e : y ≠ x := fun e => hn (e ▸ hy)
      rw [if_neg e, atKey_put_other (hne y (h.wf y hy) e), h.atk y hy]
    · simp at hy
      subst hy
      rw [if_pos rfl, atKey_put_same hm (litP_key y)]
  · rw [size_put h.tidy, h.has x hx, h.size]
    simp [hn]
  · rw [List.nodup_append]
    refine ⟨h.nodup, by simp, fun a ha b hb e => ?_⟩
    simp at hb
    exact hn (by rw [← hb, ← e]; exact ha)
  · rcases List.mem_append.1 hy with hy | hy
    · exact h.wf y hy
    · simp at hy; subst hy; exact hx
theorem KeepD.del {D : DataW Unit} {L : List PlI} {B : PlI → Nat} (h : KeepD D L B) (x : PlI) (hx : x ∈ L) : KeepD (D.del (litP x)) (L.erase x) B := by
  have hw := h.wf x hx
  have hne : ∀ y, wfP y → y ≠ x → litP y ≠ litP x := fun y hy hne e => hne (litP_inj hy hw e)
  refine ⟨h.tidy.del _, fun y hy => ?_, fun y hy z => ?_, ?_, h.nodup.erase x, fun y hy => h.wf y (List.mem_of_mem_erase hy)⟩
  · by_cases e : y = x
    · subst e
      rw [has_del_same]
      simp [h.nodup.not_mem_erase]
    · rw [has_del_other (hne y hy e), h.has y hy]
      simp [List.mem_erase_of_ne e]
  · have e : y ≠ x := fun e => h.nodup.not_mem_erase (e ▸ hy)
    rw [atKey_del_other (hne y (h.wf y (List.mem_of_mem_erase hy)) e), h.atk y (List.mem_of_mem_erase hy)]
  · have h1 := size_del (k := litP x) h.tidy
    rw [h.has x hw, h.size] at h1
    rw [List.length_erase_of_mem hx]
    simp [hx] at h1
    have : 0 < L.length := List.length_pos_of_mem hx
    omega
theorem KeepD.perm {D : DataW Unit} {L L' : List PlI} {B : PlI → Nat} (h : KeepD D L B) (hp : L.Perm L') : KeepD D L' B :=
  ⟨h.tidy, fun x hx => by rw [h.has x hx]; simp [hp.mem_iff], fun x hx => h.atk x (hp.mem_iff.2 hx), by rw [h.size, hp.length_eq], hp.nodup_iff.1 h.nodup, fun x hx => h.wf x (hp.mem_iff.2 hx)⟩
end Go.Proofs.YtkpebabbnndopaaGreatDoor

namespace Go.Proofs.YtkpebabbnndopaaGreatDoor
open Go.RowKit

set_option maxHeartbeats 400000 in
theorem takeIn_any (h b : Int) (b0 : 0 ≤ b) (b1 : b < 256) (w : World) :
    Calls Tryz.prog 71 #[.int .u64 h, .int .u8 b] w fun e w' => e = .returned (.int .u64 (Mix h b)) ∧ w' = w := by
  go_enter Tryz.func71, Tryz.ntmps71
  go_wp2
  go_ret
  exact ⟨rfl, rfl⟩

set_option maxHeartbeats 400000 in
theorem four_any (n : Int) (w : World) :
    Calls Tryz.prog 72 #[.int .u32 n] w fun e w' => e = .returned (.agg #[.int .u8 (n / 16777216 % 256), .int .u8 (n / 65536 % 256), .int .u8 (n / 256 % 256), .int .u8 (n % 256)]) ∧ w' = w.alloc (.cells #[.int .u8 (n / 16777216 % 256), .int .u8 (n / 65536 % 256), .int .u8 (n / 256 % 256), .int .u8 (n % 256)] 149) := by
  go_enter Tryz.func72, Tryz.ntmps72
  go_wp2
  exact bodyPost_ret (v := .agg #[.int .u8 (n / 16777216 % 256), .int .u8 (n / 65536 % 256), .int .u8 (n / 256 % 256), .int .u8 (n % 256)]) (by simp [results, Tryz.results72, go_sem]) rfl ⟨rfl, rfl⟩

set_option maxHeartbeats 1000000 in
theorem eight_any (n : Int) (w : World) :
    Calls Tryz.prog 73 #[.int .u64 n] w fun e w' => e = .returned (Agg8 (Byt n)) ∧ w' = (w.alloc (.cells (Cells8 (Byt n)) 51)).alloc (.cells (Cells8 (Byt n)) 51) := by
  go_enter Tryz.func73, Tryz.ntmps73
  go_wp2
  refine wp_loop_rounds 9 ?_
  rw [rounds_succ]; go_wp2
  rw [rounds_succ]; go_wp2
  rw [rounds_succ]; go_wp2
  rw [rounds_succ]; go_wp2
  rw [rounds_succ]; go_wp2
  rw [rounds_succ]; go_wp2
  rw [rounds_succ]; go_wp2
  rw [rounds_succ]; go_wp2
  rw [rounds_succ]; go_wp2
  exact bodyPost_ret (v := Agg8 (Byt n)) (by simp [results, Tryz.results73, go_sem, Byt]) rfl ⟨rfl, rfl⟩

set_option maxHeartbeats 1000000 in
theorem derive_any (s : Nat → Int) (hs : ∀ i, 0 ≤ s i ∧ s i < 256) (l : ByteArray) (hl : l.size ≤ maxLen) (n : Int) (w : World) :
    Calls Tryz.prog 30 #[Agg8 s, .string l, .int .i64 n] w fun e w' => e = .returned (Agg8 (DerB s l.data.toList n)) ∧ Below w.heap.size w w' := by
  unfold maxLen at hl
  have i0 : ∀ w : World, (Instr.index 51 (Agg8 s) (.int .i64 0)).run Tryz.prog w = .ok (.int .u8 (s 0)) w := fun _ => by kernel_rfl
  have i1 : ∀ w : World, (Instr.index 51 (Agg8 s) (.int .i64 1)).run Tryz.prog w = .ok (.int .u8 (s 1)) w := fun _ => by kernel_rfl
  have i2 : ∀ w : World, (Instr.index 51 (Agg8 s) (.int .i64 2)).run Tryz.prog w = .ok (.int .u8 (s 2)) w := fun _ => by kernel_rfl
  have i3 : ∀ w : World, (Instr.index 51 (Agg8 s) (.int .i64 3)).run Tryz.prog w = .ok (.int .u8 (s 3)) w := fun _ => by kernel_rfl
  have i4 : ∀ w : World, (Instr.index 51 (Agg8 s) (.int .i64 4)).run Tryz.prog w = .ok (.int .u8 (s 4)) w := fun _ => by kernel_rfl
  have i5 : ∀ w : World, (Instr.index 51 (Agg8 s) (.int .i64 5)).run Tryz.prog w = .ok (.int .u8 (s 5)) w := fun _ => by kernel_rfl
  have i6 : ∀ w : World, (Instr.index 51 (Agg8 s) (.int .i64 6)).run Tryz.prog w = .ok (.int .u8 (s 6)) w := fun _ => by kernel_rfl
  have i7 : ∀ w : World, (Instr.index 51 (Agg8 s) (.int .i64 7)).run Tryz.prog w = .ok (.int .u8 (s 7)) w := fun _ => by kernel_rfl
  go_enter Tryz.func30, Tryz.ntmps30
  go_wp2
  refine wp_loop_rounds 9 ?_
  rw [rounds_succ]; go_wp2_with (go_at_call 71; refine (takeIn_any _ _ (hs _).1 (hs _).2 _).mono ?_; rintro e w' ⟨rfl, rfl⟩)
  rw [rounds_succ]; go_wp2_with (go_at_call 71; refine (takeIn_any _ _ (hs _).1 (hs _).2 _).mono ?_; rintro e w' ⟨rfl, rfl⟩)
  rw [rounds_succ]; go_wp2_with (go_at_call 71; refine (takeIn_any _ _ (hs _).1 (hs _).2 _).mono ?_; rintro e w' ⟨rfl, rfl⟩)
  rw [rounds_succ]; go_wp2_with (go_at_call 71; refine (takeIn_any _ _ (hs _).1 (hs _).2 _).mono ?_; rintro e w' ⟨rfl, rfl⟩)
  rw [rounds_succ]; go_wp2_with (go_at_call 71; refine (takeIn_any _ _ (hs _).1 (hs _).2 _).mono ?_; rintro e w' ⟨rfl, rfl⟩)
  rw [rounds_succ]; go_wp2_with (go_at_call 71; refine (takeIn_any _ _ (hs _).1 (hs _).2 _).mono ?_; rintro e w' ⟨rfl, rfl⟩)
  rw [rounds_succ]; go_wp2_with (go_at_call 71; refine (takeIn_any _ _ (hs _).1 (hs _).2 _).mono ?_; rintro e w' ⟨rfl, rfl⟩)
  rw [rounds_succ]; go_wp2_with (go_at_call 71; refine (takeIn_any _ _ (hs _).1 (hs _).2 _).mono ?_; rintro e w' ⟨rfl, rfl⟩)
  clear i0 i1 i2 i3 i4 i5 i6 i7
  rw [rounds_succ]; go_wp2
  go_loop [7, 10] (fun h i => ∃ k : Nat, k ≤ l.size ∧ i = .int .i64 k ∧ h = .int .u64 (MixL (MixS s) (l.data.toList.take k))) (fun _ i => l.size - (intOf i).toNat)
  case atStart => exact ⟨0, Nat.zero_le _, rfl, rfl⟩
  case round =>
    obtain ⟨k, hk, rfl, rfl⟩ := hrel
    by_cases hlt : k < l.size
    · have HS : Hid (MixL (MixS s) (l.data.toList.take (k + 1)) = Mix (MixL (MixS s) (l.data.toList.take k)) l[k].toNat) := MixL_step _ l k hlt
      go_wp2_with fail
      refine (takeIn_any _ _ (byte_bd _).1 (byte_bd _).2 _).mono ?_
      rintro e w' ⟨rfl, rfl⟩
      go_wp2
      go_round
      case rel => exact ⟨k + 1, by omega, by go_num, by rw [HS.out]⟩
      case measure => simp [intOf]; omega
    · have hk2 : k = l.size := by omega
      have hfull : l.data.toList.take k = l.data.toList := List.take_of_length_le (by simp; omega)
      rw [hfull]
      clear hfull
      go_wp2_with fail
      refine (four_any _ _).mono ?_
      rintro e w1 ⟨rfl, rfl⟩
      have j0 : ∀ (a b c d : Int) (w : World), (Instr.index 149 (.agg #[.int .u8 a, .int .u8 b, .int .u8 c, .int .u8 d]) (.int .i64 0)).run Tryz.prog w = .ok (.int .u8 a) w := fun _ _ _ _ _ => by kernel_rfl
      have j1 : ∀ (a b c d : Int) (w : World), (Instr.index 149 (.agg #[.int .u8 a, .int .u8 b, .int .u8 c, .int .u8 d]) (.int .i64 1)).run Tryz.prog w = .ok (.int .u8 b) w := fun _ _ _ _ _ => by kernel_rfl
      have j2 : ∀ (a b c d : Int) (w : World), (Instr.index 149 (.agg #[.int .u8 a, .int .u8 b, .int .u8 c, .int .u8 d]) (.int .i64 2)).run Tryz.prog w = .ok (.int .u8 c) w := fun _ _ _ _ _ => by kernel_rfl
      have j3 : ∀ (a b c d : Int) (w : World), (Instr.index 149 (.agg #[.int .u8 a, .int .u8 b, .int .u8 c, .int .u8 d]) (.int .i64 3)).run Tryz.prog w = .ok (.int .u8 d) w := fun _ _ _ _ _ => by kernel_rfl
      have fm := fold_mix
      have ff := fold_fin
      go_wp2
      refine wp_loop_rounds 5 ?_
      rw [rounds_succ]; go_wp2_with (go_at_call 71; refine (takeIn_any _ _ (by omega) (by omega) _).mono ?_; rintro e w' ⟨rfl, rfl⟩)
      rw [rounds_succ]; go_wp2_with (go_at_call 71; refine (takeIn_any _ _ (by omega) (by omega) _).mono ?_; rintro e w' ⟨rfl, rfl⟩)
      rw [rounds_succ]; go_wp2_with (go_at_call 71; refine (takeIn_any _ _ (by omega) (by omega) _).mono ?_; rintro e w' ⟨rfl, rfl⟩)
      rw [rounds_succ]; go_wp2_with (go_at_call 71; refine (takeIn_any _ _ (by omega) (by omega) _).mono ?_; rintro e w' ⟨rfl, rfl⟩)
      rw [rounds_succ]; go_wp2
      refine wp_loop_rounds 4 ?_
      rw [rounds_succ]; go_wp2
      rw [rounds_succ]; go_wp2
      rw [rounds_succ]; go_wp2
      rw [rounds_succ]; go_wp2_with fail
      refine (eight_any _ _).mono ?_
      rintro e w2 ⟨rfl, rfl⟩
      go_wp2
      exact bodyPost_ret (v := Agg8 (Byt (DerW s l.data.toList n))) (by simp [results, Tryz.results30, go_sem, DerW]) rfl ⟨by rw [DerW_eq], ((((((Below.refl _ _).alloc (Nat.le_refl _) _).alloc (by simp) _).alloc (by simp; omega) _).alloc (by simp; omega) _).alloc (by simp; omega) _)⟩
end Go.Proofs.YtkpebabbnndopaaGreatDoor

/- Deriving through a function value: Derive itself, or a group's own method, which counts. -/
namespace Go.Proofs.YtkpebabbnndopaaGreatDoor
open Go.RowKit

/-- where a group's block holds the count -/
abbrev ctrOff : Nat := 330
def ctr (k : Nat) : Value := .int .i64 (IntKind.i64.wrap k)

/-- n secrets more were derived: nothing is changed but the count, in the block q (if there is one) -/
structure Tick (q : Option Nat) (n : Nat) (w w' : World) : Prop where
  os : w'.os = w.os
  tape : w'.tape = w.tape
  output : w'.output = w.output
  size : w.heap.size ≤ w'.heap.size
  block : ∀ k, k < w.heap.size → q ≠ some k → w'.heap[k]? = w.heap[k]?
  count : ∀ c, q = some c → ∀ cs t k, w.heap[c]? = some (.cells cs t (0, 0)) → cs[ctrOff]? = some (ctr k) → w'.heap[c]? = some (.cells (cs.setIfInBounds ctrOff (ctr (k + n))) t (0, 0))
/-- the count is there -/
def Has (q : Option Nat) (w : World) : Prop := ∀ c, q = some c → ∃ cs t k, w.heap[c]? = some (.cells cs t (0, 0)) ∧ cs[ctrOff]? = some (ctr k)
theorem Has.lt {q : Option Nat} {w : World} (h : Has q w) {c : Nat} (hc : q = some c) : c < w.heap.size := by
  obtain ⟨cs, t, k, h1, _⟩ := h c hc
  exact (Array.getElem?_eq_some_iff.1 h1).1
theorem Has.ne {q : Option Nat} {w : World} (h : Has q w) {k : Nat} (hk : w.heap.size ≤ k) : q ≠ some k := fun e => by have := h.lt e; omega
theorem has_none (w : World) : Has none w := fun c h => by cases h
theorem set_same (cs : Array Value) (k : Nat) (h : cs[ctrOff]? = some (ctr k)) : cs.setIfInBounds ctrOff (ctr k) = cs := by
  apply Array.ext_getElem?
  intro i
  rw [Array.getElem?_setIfInBounds]
  split
  · rename_i e
    subst e
    split
    · exact h.symm
    · rename_i hn
      rw [Array.getElem?_eq_none (by omega)] at h
      cases h
  · rfl
theorem Tick.ofBelow {q : Option Nat} {w w' : World} (h : Below w.heap.size w w') : Tick q 0 w w' :=
  ⟨h.os, h.tape, h.output, h.size, fun k hk _ => h.block k hk, fun c _ cs t k h1 h2 => by rw [h.block c (Array.getElem?_eq_some_iff.1 h1).1, h1, Nat.add_zero, set_same cs k h2]⟩
theorem Tick.plain {n : Nat} {w w' : World} (h : Below w.heap.size w w') : Tick none n w w' :=
  ⟨h.os, h.tape, h.output, h.size, fun k hk _ => h.block k hk, fun c hc => by cases hc⟩
theorem Tick.toBelow {n : Nat} {w w' : World} (h : Tick none n w w') : Below w.heap.size w w' :=
  ⟨h.os, h.tape, h.output, h.size, fun k hk => h.block k hk (by simp)⟩
theorem Tick.refl (q : Option Nat) (w : World) : Tick q 0 w w := Tick.ofBelow (Below.refl _ _)
theorem Tick.trans {q : Option Nat} {n m : Nat} {a b c : World} (h : Tick q n a b) (k : Tick q m b c) : Tick q (n + m) a c := by
  refine ⟨k.os.trans h.os, k.tape.trans h.tape, k.output.trans h.output, Nat.le_trans h.size k.size, fun i hi hq => (k.block i (Nat.lt_of_lt_of_le hi h.size) hq).trans (h.block i hi hq), fun d hd cs t j h1 h2 => ?_⟩
  have e1 := h.count d hd cs t j h1 h2
  have hlt : ctrOff < cs.size := (Array.getElem?_eq_some_iff.1 h2).1
  have e2 := k.count d hd _ t (j + n) e1 (by rw [Array.getElem?_setIfInBounds, if_pos rfl, if_pos hlt])
  rw [e2, Array.setIfInBounds_setIfInBounds, Nat.add_assoc]
theorem Tick.below {q : Option Nat} {n : Nat} {a b c : World} (h : Tick q n a b) (k : Below b.heap.size b c) : Tick q n a c := h.trans (Tick.ofBelow k)
theorem Tick.drew {q : Option Nat} {n : Nat} {a b : World} (h : Tick q n a b) : Tick q n a b.drew := h.below (Below.refl _ _).drew
theorem Tick.alloc {q : Option Nat} {n : Nat} {a b : World} (h : Tick q n a b) (o : Obj) : Tick q n a (b.alloc o) := h.below ((Below.refl _ _).alloc (Nat.le_refl _) o)
/-- a write into what is new -/
theorem Tick.fresh {q : Option Nat} {n : Nat} {a b c : World} (h : Tick q n a b) (k : Below a.heap.size b c) : Tick q n a c :=
  ⟨k.os.trans h.os, k.tape.trans h.tape, k.output.trans h.output, Nat.le_trans h.size k.size, fun i hi hq => (k.block i hi).trans (h.block i hi hq), fun d hd cs t j h1 h2 => by
    rw [k.block d (Array.getElem?_eq_some_iff.1 h1).1]; exact h.count d hd cs t j h1 h2⟩
theorem Tick.setRow {q : Option Nat} {n : Nat} {a b : World} (h : Tick q n a b) {g : Nat} (hg : a.heap.size ≤ g) (cs : Array Value) : Tick q n a (b.setRow g cs) := h.fresh (below_setRow (Below.refl _ b) hg cs)
theorem Tick.setCell {q : Option Nat} {n : Nat} {a b : World} (h : Tick q n a b) {p : Addr} (hg : a.heap.size ≤ p.block) (v : Value) : Tick q n a (b.setCell p v) := h.fresh ((Below.refl _ b).setCell hg v)
theorem Has.tick {q : Option Nat} {n : Nat} {w w' : World} (h : Has q w) (t : Tick q n w w') : Has q w' := fun c hc => by
  obtain ⟨cs, ty, k, h1, h2⟩ := h c hc
  have hlt : ctrOff < cs.size := (Array.getElem?_eq_some_iff.1 h2).1
  exact ⟨_, ty, k + n, t.count c hc cs ty k h1 h2, by rw [Array.getElem?_setIfInBounds, if_pos rfl, if_pos hlt]⟩
theorem Bts.tick {q : Option Nat} {n : Nat} {w w' : World} {a : Option Addr} {l : List UInt8} (h : Bts w a l) (ht : Tick q n w w') (hn : ∀ b o, a = some ⟨b, o, none⟩ → q ≠ some b) : Bts w' a l := by
  rcases h with h | ⟨b, o, rfl, hc⟩
  · exact .inl h
  · refine .inr ⟨b, o, rfl, fun i hi => ?_⟩
    have hci := hc i hi
    rw [← hci]
    exact World.cell?_of_block (w := w) (ht.block b (block_lt_of_cell hci) (hn b o rfl))

theorem bcellT {q : Option Nat} {n : Nat} {w W w1 : World} (hq : Has q w) (hb : Tick q n W w1) : (∀ b o, b < W.heap.size → w.heap.size ≤ b → w1.cell? ⟨b, o, none⟩ = W.cell? ⟨b, o, none⟩) ∧ (∀ b o, b < W.heap.size → w.heap.size ≤ b → w1.frozen? ⟨b, o, none⟩ = W.frozen? ⟨b, o, none⟩) :=
  ⟨fun b o h hl => World.cell?_of_block (w := W) (a := ⟨b, o, none⟩) (hb.block b h (hq.ne hl)), fun b o h hl => by simp [World.frozen?, hb.block b h (hq.ne hl)]⟩
/-- a function value that derives -/
structure Drv (F : FuncId) (pre : Array Value) (q : Option Nat) : Prop where
  enter : ∀ (args : Array Value) (W : World), (callFunc F args).run Tryz.prog W = .ok (.enter F args) W
  call : ∀ (s : Nat → Int), (∀ i, 0 ≤ s i ∧ s i < 256) → ∀ (l : ByteArray), l.size ≤ maxLen → ∀ (n : Int) (W : World), Has q W →
    Calls Tryz.prog F (pre ++ #[Agg8 s, .string l, .int .i64 n]) W fun e w' => e = .returned (Agg8 (DerB s l.data.toList n)) ∧ Tick q 1 W w'
theorem drv_plain : Drv 30 #[] none := ⟨fun args W => by simp [callFunc, go_sem, Tryz.func30, Tryz.f30], fun s hs l hl n W _ => (derive_any s hs l hl n W).mono fun _ _ ⟨h1, h2⟩ => ⟨h1, Tick.plain h2⟩⟩
end Go.Proofs.YtkpebabbnndopaaGreatDoor

/- A block that is somebody's home: a struct in the midst of it changes, and the count; the rest stays. -/
namespace Go.Proofs.YtkpebabbnndopaaGreatDoor
open Go.RowKit

/-- the cells l lie in cs from o on -/
def AtL (cs : Array Value) (o : Nat) (l : List Value) : Prop := ∀ j v, l[j]? = some v → cs[o + j]? = some v
theorem AtL.le {cs : Array Value} {o : Nat} {l : List Value} (h : AtL cs o l) (hl : l ≠ []) : o + l.length ≤ cs.size := by
  have hp : 0 < l.length := List.length_pos_iff.2 hl
  have h1 := h (l.length - 1) _ (List.getElem?_eq_getElem (by omega))
  have := (Array.getElem?_eq_some_iff.1 h1).1
  omega
/-- each is one cell -/
def Ones (cs : Array Value) : Prop := ∀ (j : Nat) (v : Value), cs[j]? = some v → v.oneCell' = true
theorem Ones.set {cs : Array Value} (h : Ones cs) (j : Nat) (v : Value) (hv : v.oneCell' = true) : Ones (cs.setIfInBounds j v) := fun i u hu => by
  rw [Array.getElem?_setIfInBounds] at hu
  split at hu
  · split at hu
    · cases hu; exact hv
    · cases hu
  · exact h i u hu
/-- between cs and cs' no cell has changed but those from o on, len of them, and the count, by n -/
structure Mv (q : Option Nat) (n o len : Nat) (cs cs' : Array Value) : Prop where
  size : cs'.size = cs.size
  out : ∀ j, (j < o ∨ o + len ≤ j) → (q ≠ none → j ≠ ctrOff) → cs'[j]? = cs[j]?
  cnt : q ≠ none → ∀ k, cs[ctrOff]? = some (ctr k) → cs'[ctrOff]? = some (ctr (k + n))
  one : Ones cs → Ones cs'
theorem Mv.refl (q : Option Nat) (o len : Nat) (cs : Array Value) : Mv q 0 o len cs cs := ⟨rfl, fun _ _ _ => rfl, fun _ _ h => h, fun h => h⟩
theorem Mv.trans {q : Option Nat} {n m o len : Nat} {a b c : Array Value} (h : Mv q n o len a b) (k : Mv q m o len b c) : Mv q (n + m) o len a c :=
  ⟨k.size.trans h.size, fun j h1 h2 => (k.out j h1 h2).trans (h.out j h1 h2), fun hq i hi => by rw [k.cnt hq _ (h.cnt hq i hi), Nat.add_assoc], fun h0 => k.one (h.one h0)⟩
theorem Mv.mono {q : Option Nat} {n o len o' len' : Nat} {a b : Array Value} (h : Mv q n o len a b) (h1 : o' ≤ o) (h2 : o + len ≤ o' + len') : Mv q n o' len' a b :=
  ⟨h.size, fun j hj => h.out j (by omega), h.cnt, h.one⟩
theorem Mv.ofNone {q : Option Nat} {n o len : Nat} {a b : Array Value} (h : Mv q n o 0 a b) (o' : Nat) : Mv q n o' len a b :=
  ⟨h.size, fun j hj => h.out j (by omega), h.cnt, h.one⟩
theorem Mv.set {q : Option Nat} {n o len : Nat} {a b : Array Value} (h : Mv q n o len a b) (hf : q ≠ none → o + len ≤ ctrOff) (j : Nat) (h1 : o ≤ j) (h2 : j < o + len) (v : Value) (hv : v.oneCell' = true := by rfl) : Mv q n o len a (b.setIfInBounds j v) :=
  ⟨by rw [Array.size_setIfInBounds]; exact h.size, fun i hi hq => by rw [Array.getElem?_setIfInBounds, if_neg (by omega)]; exact h.out i hi hq, fun hq k hk => by
    have := hf hq
    rw [Array.getElem?_setIfInBounds, if_neg (by omega)]; exact h.cnt hq k hk, fun h0 => (h.one h0).set j v hv⟩
theorem Mv.at {q : Option Nat} {n o len : Nat} {a b : Array Value} (h : Mv q n o len a b) {p : Nat} {l : List Value} (hl : AtL a p l) (h1 : p + l.length ≤ o ∨ o + len ≤ p) (h2 : q ≠ none → p + l.length ≤ ctrOff ∨ ctrOff < p) : AtL b p l := fun j v hv => by
  have hj := (List.getElem?_eq_some_iff.1 hv).1
  rw [h.out _ (by omega) (fun hq => by have := h2 hq; omega)]
  exact hl j v hv
/-- the block b is the home: the count, if there is one, lies in it, or in another block -/
structure Home (q : Option Nat) (b : Nat) (t : TypeId) (cs : Array Value) (w : World) : Prop where
  row : w.heap[b]? = some (.cells cs t (0, 0))
  here : q = none ∨ q = some b ∨ cs.size ≤ ctrOff
  has : Has q w
theorem Home.cnt {b : Nat} {t : TypeId} {cs : Array Value} {w : World} (h : Home (some b) b t cs w) : ∃ k, cs[ctrOff]? = some (ctr k) := by
  obtain ⟨cs', t', k, h1, h2⟩ := h.has b rfl
  rw [h.row] at h1
  cases h1
  exact ⟨k, h2⟩
theorem Home.own {b : Nat} {t : TypeId} {cs : Array Value} {w : World} (h : w.heap[b]? = some (.cells cs t (0, 0))) (hc : ∃ k, cs[ctrOff]? = some (ctr k)) : Home (some b) b t cs w :=
  ⟨h, .inr (.inl rfl), fun c e => by cases e; obtain ⟨k, hk⟩ := hc; exact ⟨cs, t, k, h, hk⟩⟩
theorem Home.bare {b : Nat} {t : TypeId} {cs : Array Value} {w : World} (h : w.heap[b]? = some (.cells cs t (0, 0))) : Home Option.none b t cs w := ⟨h, .inl rfl, has_none w⟩
theorem Home.lt {q : Option Nat} {b : Nat} {t : TypeId} {cs : Array Value} {w : World} (h : Home q b t cs w) : b < w.heap.size := (Array.getElem?_eq_some_iff.1 h.row).1
/-- the count, where it lies in another block than b -/
def TickOut (q : Option Nat) (n b : Nat) (w w' : World) : Prop := ∀ c, q = some c → c ≠ b → ∀ cs t k, w.heap[c]? = some (.cells cs t (0, 0)) → cs[ctrOff]? = some (ctr k) → w'.heap[c]? = some (.cells (cs.setIfInBounds ctrOff (ctr (k + n))) t (0, 0))
theorem TickOut.below {q : Option Nat} {n b : Nat} {w w' w'' : World} (h : TickOut q n b w w') (k : Below w'.heap.size w' w'') : TickOut q n b w w'' := fun c hc hn cs t j h1 h2 => by
  have := h c hc hn cs t j h1 h2
  rw [k.block _ (Array.getElem?_eq_some_iff.1 this).1]
  exact this
theorem TickOut.trans {q : Option Nat} {n m b : Nat} {w w' w'' : World} (h : TickOut q n b w w') (k : TickOut q m b w' w'') : TickOut q (n + m) b w w'' := fun c hc hn cs t j h1 h2 => by
  have e1 := h c hc hn cs t j h1 h2
  have hlt : ctrOff < cs.size := (Array.getElem?_eq_some_iff.1 h2).1
  have e2 := k c hc hn _ t (j + n) e1 (by rw [Array.getElem?_setIfInBounds, if_pos rfl, if_pos hlt])
  rw [e2, Array.setIfInBounds_setIfInBounds, Nat.add_assoc]
theorem TickOut.setRow {q : Option Nat} {n b : Nat} {w w' : World} (h : TickOut q n b w w') (r : Array Value) : TickOut q n b w (w'.setRow b r) := fun c hc hn cs t j h1 h2 => by
  rw [setRow_other _ _ _ _ hn]; exact h c hc hn cs t j h1 h2
theorem Has.setRow {q : Option Nat} {w : World} (h : Has q w) {b : Nat} (r : Array Value) (t : TypeId) (cs : Array Value) (hb : w.heap[b]? = some (.cells cs t (0, 0))) (hr : q = some b → ∃ k, r[ctrOff]? = some (ctr k)) : Has q (w.setRow b r) := fun c hc => by
  by_cases e : c = b
  · subst e
    obtain ⟨k, hk⟩ := hr hc
    exact ⟨r, t, k, setRow_heap _ _ _ _ _ _ hb, hk⟩
  · obtain ⟨cs', t', k, h1, h2⟩ := h c hc
    exact ⟨cs', t', k, by rw [setRow_other _ _ _ _ e]; exact h1, h2⟩
/-- the home has changed from cs to cs' -/
structure Upd (q : Option Nat) (n b o len : Nat) (t : TypeId) (cs : Array Value) (w w' : World) (cs' : Array Value) : Prop where
  outq : Outside (b :: q.toList) w w'
  home : Home q b t cs' w'
  mv : Mv q n o len cs cs'
  tk : TickOut q n b w w'
theorem Upd.out {n b o len : Nat} {t : TypeId} {cs cs' : Array Value} {w w' : World} (h : Upd (some b) n b o len t cs w w' cs') : Outside [b] w w' := h.outq.mono (fun i hi _ => by simpa using hi)
theorem Upd.outn {n b o len : Nat} {t : TypeId} {cs cs' : Array Value} {w w' : World} (h : Upd none n b o len t cs w w' cs') : Outside [b] w w' := h.outq
theorem Upd.refl {q : Option Nat} {b : Nat} {t : TypeId} {cs : Array Value} {w : World} (h : Home q b t cs w) (o len : Nat) : Upd q 0 b o len t cs w w cs := ⟨Outside.refl _ _, h, Mv.refl _ _ _ _, fun c _ _ cs t k h1 h2 => by rw [h1, Nat.add_zero, set_same cs k h2]⟩
theorem Upd.trans {q : Option Nat} {n m b o len : Nat} {t : TypeId} {cs cs' cs'' : Array Value} {w w' w'' : World} (h : Upd q n b o len t cs w w' cs') (k : Upd q m b o len t cs' w' w'' cs'') : Upd q (n + m) b o len t cs w w'' cs'' :=
  ⟨h.outq.trans k.outq (fun _ hi _ => hi), k.home, h.mv.trans k.mv, h.tk.trans k.tk⟩
theorem Upd.mono {q : Option Nat} {n b o len o' len' : Nat} {t : TypeId} {cs cs' : Array Value} {w w' : World} (h : Upd q n b o len t cs w w' cs') (h1 : o' ≤ o) (h2 : o + len ≤ o' + len') : Upd q n b o' len' t cs w w' cs' := ⟨h.outq, h.home, h.mv.mono h1 h2, h.tk⟩
theorem Has.below {q : Option Nat} {w w' : World} (h : Has q w) (hb : Below w.heap.size w w') : Has q w' := h.tick (Tick.ofBelow hb)
theorem Home.below {q : Option Nat} {b : Nat} {t : TypeId} {cs : Array Value} {w w' : World} (h : Home q b t cs w) (hb : Below w.heap.size w w') : Home q b t cs w' := ⟨by rw [hb.block _ h.lt]; exact h.row, h.here, h.has.below hb⟩
theorem Upd.below {q : Option Nat} {n b o len : Nat} {t : TypeId} {cs cs' : Array Value} {w w' w'' : World} (h : Upd q n b o len t cs w w' cs') (k : Below w'.heap.size w' w'') : Upd q n b o len t cs w w'' cs' := ⟨h.outq.below k, h.home.below k, h.mv, h.tk.below k⟩
/-- a write into what is new behind w, b apart -/
theorem Upd.fresh {q : Option Nat} {n b o len : Nat} {t : TypeId} {cs cs' : Array Value} {w w' : World} (h : Upd q n b o len t cs w w' cs') (hb : b < w.heap.size) (hq : Has q w) {g : Nat} (hg : w.heap.size ≤ g) (r : Array Value) : Upd q n b o len t cs w (w'.setRow g r) cs' := by
  have hne : ∀ c, q = some c → c ≠ g := fun c hc => by have := hq.lt hc; omega
  refine ⟨h.outq.setRow g (fun hl => by omega) r, ⟨by rw [setRow_other _ _ _ _ (by omega)]; exact h.home.row, h.home.here, fun c hc => ?_⟩, h.mv, fun c hc hn cs t j h1 h2 => ?_⟩
  · obtain ⟨cs, t, k, h1, h2⟩ := h.home.has c hc
    exact ⟨cs, t, k, by rw [setRow_other _ _ _ _ (hne c hc)]; exact h1, h2⟩
  · rw [setRow_other _ _ _ _ (hne c hc)]; exact h.tk c hc hn cs t j h1 h2
theorem Home.tick {q : Option Nat} {n b : Nat} {t : TypeId} {cs : Array Value} {w w' : World} (h : Home q b t cs w) (ht : Tick q n w w') : ∃ cs', Upd q n b 0 0 t cs w w' cs' := by
  have hO : Outside (b :: q.toList) w w' := ⟨ht.os, ht.tape, ht.output, ht.size, fun i hi hn => ht.block i hi (fun e' => hn (by rw [e']; simp))⟩
  have hK : TickOut q n b w w' := fun c hc _ cs t k h1 h2 => ht.count c hc cs t k h1 h2
  by_cases hqb : q = some b
  · subst hqb
    obtain ⟨k, hk⟩ := h.cnt
    have hlt : ctrOff < cs.size := (Array.getElem?_eq_some_iff.1 hk).1
    have hr := ht.count b rfl cs t k h.row hk
    have hc : (cs.setIfInBounds ctrOff (ctr (k + n)))[ctrOff]? = some (ctr (k + n)) := by rw [Array.getElem?_setIfInBounds, if_pos rfl, if_pos hlt]
    refine ⟨_, hO, ⟨hr, .inr (.inl rfl), h.has.tick ht⟩, ⟨by rw [Array.size_setIfInBounds], fun j _ hj => ?_, fun _ k' hk' => ?_, fun h0 => h0.set _ _ rfl⟩, hK⟩
    · have := hj (by simp)
      rw [Array.getElem?_setIfInBounds, if_neg (by omega)]
    · rw [hk] at hk'
      rw [hc]
      unfold ctr at hk' ⊢
      simp only [Option.some.injEq, Value.int.injEq, true_and, IntKind.wrap_i64] at hk' ⊢
      push_cast
      omega
  · refine ⟨cs, hO, ⟨by rw [ht.block b h.lt hqb]; exact h.row, h.here, h.has.tick ht⟩, ⟨rfl, fun _ _ _ => rfl, fun hq k hk => ?_, fun h0 => h0⟩, hK⟩
    rcases h.here with e | e | e
    · exact absurd e hq
    · exact absurd e hqb
    · rw [Array.getElem?_eq_none (by omega)] at hk; cases hk
theorem Upd.tick {q : Option Nat} {n m b o len : Nat} {t : TypeId} {cs cs' : Array Value} {w w' w'' : World} (h : Upd q n b o len t cs w w' cs') (ht : Tick q m w' w'') : ∃ cs'', Upd q (n + m) b o len t cs w w'' cs'' ∧ Mv q m 0 0 cs' cs'' := by
  obtain ⟨cs'', k⟩ := h.home.tick ht
  exact ⟨cs'', h.trans ⟨k.outq, k.home, k.mv.ofNone o, k.tk⟩, k.mv⟩
theorem Home.setRow {q : Option Nat} {b o len : Nat} {t : TypeId} {cs' cs'' : Array Value} {w' : World} (h : Home q b t cs' w') (hm : Mv q 0 o len cs' cs'') : Home q b t cs'' (w'.setRow b cs'') := by
  refine ⟨setRow_heap _ _ _ _ _ _ h.row, ?_, h.has.setRow _ _ _ h.row fun e => ?_⟩
  · rcases h.here with e | e | e
    · exact .inl e
    · exact .inr (.inl e)
    · exact .inr (.inr (by rw [hm.size]; exact e))
  · subst e
    obtain ⟨k, hk⟩ := h.cnt
    exact ⟨k, hm.cnt (by simp) k hk⟩
theorem Upd.setRow {q : Option Nat} {n b o len : Nat} {t : TypeId} {cs cs' cs'' : Array Value} {w w' : World} (h : Upd q n b o len t cs w w' cs') (hm : Mv q 0 o len cs' cs'') : Upd q n b o len t cs w (w'.setRow b cs'') cs'' :=
  ⟨h.outq.setRow b (fun _ => List.mem_cons_self) _, h.home.setRow hm, h.mv.trans hm, h.tk.setRow _⟩
theorem Upd.setCell {q : Option Nat} {n b o len : Nat} {t : TypeId} {cs cs' : Array Value} {w w' : World} (h : Upd q n b o len t cs w w' cs') (hf : q ≠ none → o + len ≤ ctrOff) (j : Nat) (h1 : o ≤ j) (h2 : j < o + len) (v : Value) (hv : v.oneCell' = true := by rfl) : Upd q n b o len t cs w (w'.setCell ⟨b, j, none⟩ v) (cs'.setIfInBounds j v) := by
  rw [setCell_eq_setRow w' b j cs' t (0, 0) v h.home.row]
  exact h.setRow ((Mv.refl q o len cs').set hf j h1 h2 v hv)
theorem Home.cells {q : Option Nat} {b : Nat} {t : TypeId} {cs : Array Value} {w : World} (h : Home q b t cs w) : (∀ j, w.cell? ⟨b, j, none⟩ = cs[j]?) ∧ ∀ j, w.frozen? ⟨b, j, none⟩ = false :=
  ⟨fun j => cell_of_row _ _ _ _ _ _ h.row, fun j => by simp [World.frozen?, h.row]⟩
theorem Home.range {q : Option Nat} {b : Nat} {t : TypeId} {cs : Array Value} {w : World} (h : Home q b t cs w) {o : Nat} {l : List Value} (hl : AtL cs o l) : w.rangeAt b o l := fun j v hv => by rw [h.cells.1, hl j v hv]
theorem Home.there {q : Option Nat} {b : Nat} {t : TypeId} {cs : Array Value} {w : World} (h : Home q b t cs w) {o n : Nat} (hl : o + n ≤ cs.size) : w.there b o n := fun j hj => by
  rw [h.cells.1, Array.getElem?_eq_getElem (by omega)]
  exact ⟨rfl, h.cells.2 _⟩
/-- cells in a row, one after the other -/
def putL (cs : Array Value) (o : Nat) : List Value → Array Value
  | [] => cs
  | v :: r => putL (cs.setIfInBounds o v) (o + 1) r
theorem putL_size : ∀ (l : List Value) (cs : Array Value) (o : Nat), (putL cs o l).size = cs.size
  | [], _, _ => rfl
  | v :: r, cs, o => by rw [putL, putL_size r, Array.size_setIfInBounds]
theorem putL_out : ∀ (l : List Value) (cs : Array Value) (o j : Nat), (j < o ∨ o + l.length ≤ j) → (putL cs o l)[j]? = cs[j]?
  | [], _, _, _, _ => rfl
  | v :: r, cs, o, j, h => by
    have hl : (v :: r).length = r.length + 1 := rfl
    rw [hl] at h
    rw [putL, putL_out r _ _ j (by omega), Array.getElem?_setIfInBounds, if_neg (by omega)]
theorem putL_at : ∀ (l : List Value) (cs : Array Value) (o : Nat), o + l.length ≤ cs.size → AtL (putL cs o l) o l
  | [], _, _, _ => fun j v hv => by simp at hv
  | v :: r, cs, o, h => fun j u hu => by
    have hl : (v :: r).length = r.length + 1 := rfl
    rw [hl] at h
    cases j with
    | zero =>
      rw [putL, putL_out r _ _ _ (by omega), Nat.add_zero, Array.getElem?_setIfInBounds, if_pos rfl, if_pos (by omega)]
      exact hu
    | succ j =>
      have := putL_at r (cs.setIfInBounds o v) (o + 1) (by rw [Array.size_setIfInBounds]; omega) j u (by simpa using hu)
      rw [putL]
      rw [show o + (j + 1) = o + 1 + j by omega]
      exact this
theorem Ones.putL : ∀ (l : List Value) {cs : Array Value} (o : Nat), Ones cs → l.all (·.oneCell') = true → Ones (putL cs o l)
  | [], _, _, h, _ => h
  | v :: r, _, o, h, hl => by
    rw [List.all_cons, Bool.and_eq_true] at hl
    exact Ones.putL r (o + 1) (h.set o v hl.1) hl.2
theorem Mv.putL {q : Option Nat} {n o len : Nat} {a b : Array Value} (h : Mv q n o len a b) (hf : q ≠ none → o + len ≤ ctrOff) (p : Nat) (l : List Value) (h1 : o ≤ p) (h2 : p + l.length ≤ o + len) (hl : l.all (·.oneCell') = true := by rfl) : Mv q n o len a (Go.Proofs.YtkpebabbnndopaaGreatDoor.putL b p l) :=
  ⟨by rw [putL_size]; exact h.size, fun j hj hq => by rw [putL_out _ _ _ _ (by omega)]; exact h.out j hj hq, fun hq k hk => by
    have := hf hq
    rw [putL_out _ _ _ _ (by omega)]; exact h.cnt hq k hk, fun h0 => Ones.putL l p (h.one h0) hl⟩
theorem setCells_row : ∀ (l : List Value) (w : World) (b o : Nat) (cs : Array Value) (t : TypeId), w.heap[b]? = some (.cells cs t (0, 0)) → w.setCells b o l = w.setRow b (putL cs o l)
  | [], w, b, o, cs, t, h => by
    show w = w.setRow b cs
    have e := setRow_self w b cs t (0, 0) h
    exact e.symm
  | v :: r, w, b, o, cs, t, h => by
    rw [World.setCells, putL]
    have h1 := setCell_eq_setRow w b o cs t (0, 0) v h
    rw [setCells_row r _ b (o + 1) (cs.setIfInBounds o v) t (by rw [h1]; exact setRow_heap _ _ _ _ _ _ h), h1, setRow_setRow]
theorem Upd.setCells {q : Option Nat} {n b o len : Nat} {t : TypeId} {cs cs' : Array Value} {w w' : World} (h : Upd q n b o len t cs w w' cs') (hf : q ≠ none → o + len ≤ ctrOff) (p : Nat) (l : List Value) (h1 : o ≤ p) (h2 : p + l.length ≤ o + len) (hl : l.all (·.oneCell') = true := by rfl) : Upd q n b o len t cs w (w'.setCells b p l) (putL cs' p l) := by
  rw [setCells_row l w' b p cs' t h.home.row]
  exact h.setRow ((Mv.refl q o len cs').putL hf p l h1 h2 hl)
theorem Home.drew {q : Option Nat} {b : Nat} {t : TypeId} {cs : Array Value} {w : World} (h : Home q b t cs w) : Home q b t cs w.drew := h.below (Below.refl _ _).drew
/-- where the call of a deriver was, in a region that draws -/
theorem Home.derived {q : Option Nat} {n b : Nat} {t : TypeId} {cs : Array Value} {w w' : World} (h : Home q b t cs w) (ht : Tick q n w.drew w') (o len : Nat) : ∃ cs', Upd q n b o len t cs w w' cs' ∧ Mv q n 0 0 cs cs' := by
  obtain ⟨cs', k⟩ := h.drew.tick ht
  exact ⟨cs', ⟨((Outside.refl _ w).drew).trans k.outq (fun _ hi _ => hi), k.home, k.mv.ofNone o, k.tk⟩, k.mv⟩
/-- an array of cells of which a stretch is overwritten, piece by piece -/
theorem AtL.put {cs : Array Value} {o : Nat} {l : List Value} (h : AtL cs o l) (p : Nat) (m : List Value) (hp : o ≤ p) (hm : p + m.length ≤ o + l.length) : AtL (putL cs p m) o (l.take (p - o) ++ m ++ l.drop (p - o + m.length)) := fun j v hv => by
  have hpo : (l.take (p - o)).length = p - o := by rw [List.length_take]; omega
  by_cases h1 : j < p - o
  · rw [putL_out _ _ _ _ (by omega)]
    rw [List.append_assoc, List.getElem?_append_left (by omega), List.getElem?_take_of_lt h1] at hv
    exact h j v hv
  · by_cases h2 : j < p - o + m.length
    · rw [List.append_assoc, List.getElem?_append_right (by omega), List.getElem?_append_left (by omega), hpo] at hv
      have hle : p + m.length ≤ cs.size := by
        have := h.le (fun e => by rw [e] at hm; simp at hm; omega)
        omega
      have := putL_at m cs p hle _ v hv
      rwa [show p + (j - (p - o)) = o + j by omega] at this
    · rw [putL_out _ _ _ _ (by omega)]
      rw [List.getElem?_append_right (by rw [List.length_append, hpo]; omega), List.length_append, hpo, List.getElem?_drop, show p - o + m.length + (j - (p - o + m.length)) = j by omega] at hv
      exact h j v hv
end Go.Proofs.YtkpebabbnndopaaGreatDoor

/- The tree's zero value as a constant, where the translation has none. -/
namespace Go.Proofs.YtkpebabbnndopaaGreatDoor
open Go.RowKit
end Go.Proofs.YtkpebabbnndopaaGreatDoor

/- Laws: copy and clear, of elements of several cells; parts of the tree in a row. -/
namespace Go.Proofs.YtkpebabbnndopaaGreatDoor
open Go.RowKit

theorem run_copyW {P : Program} (w : World) (dT sT ty elem : TypeId) (k b o dLen dCap : Nat) (a : Addr) (sLen sCap : Nat) (cs : List Value)
    (hu : P.underlying dT = some (.slice elem)) (hs : (P.info? elem).map (·.size) = some k) (hn : cs.length = Nat.min sLen dLen * k)
    (hsrc : ∀ j v, cs[j]? = some v → w.cell? (a.add j) = some v) (hc : ∀ j, j < cs.length → (w.cell? ⟨b, o + j, none⟩).isSome = true) (hf : ∀ j, j < cs.length → w.frozen? ⟨b, o + j, none⟩ = false) (h1 : ∀ v ∈ cs, v.oneCell' = true) :
    (Builtin.copy_ #[dT, sT] ty #[.slice (some ⟨b, o, none⟩) dLen dCap, .slice (some a) sLen sCap]).run P w = .ok (goInt (Nat.min sLen dLen)) (w.setCells b o cs) := by
  have hl := run_loadCells_list (P := P) w a cs hsrc
  have hst := run_storeCells_cells (P := P) b o cs 0 w (by simpa using hc) (by simpa using hf) h1
  cases hq : P.info? elem with
  | none => simp [hq] at hs
  | some i =>
    have hi : i.size = k := by simpa [hq] using hs
    simp [Builtin.copy_, run_underlying hu, Builtin.lenOf, Builtin.firstCells, sizeOf, typeInfo, hq, hi, ← hn, hl, hst]
theorem run_clearW {P : Program} (w : World) (t e ty : TypeId) (z : Value) (ht : P.underlying t = some (.slice e)) (hv : ∀ w, (zeroValue e).run P w = .ok z w) (b o n c : Nat) (hn : 0 < n) (h1 : ∀ v ∈ (Builtin.zeroCells z.cells n).toList, v.oneCell' = true)
    (hc : ∀ j, j < (Builtin.zeroCells z.cells n).toList.length → (w.cell? ⟨b, o + j, none⟩).isSome = true) (hf : ∀ j, j < (Builtin.zeroCells z.cells n).toList.length → w.frozen? ⟨b, o + j, none⟩ = false) :
    (Builtin.clear_ #[t] ty #[.slice (some ⟨b, o, none⟩) n c]).run P w = .ok (.tuple #[]) (w.setCells b o (Builtin.zeroCells z.cells n).toList) := by
  have hst := run_storeCells_cells (P := P) b o (Builtin.zeroCells z.cells n).toList 0 w (by simpa using hc) (by simpa using hf) h1
  simp only [Nat.add_zero] at hst
  obtain ⟨m, rfl⟩ : ∃ m, n = m + 1 := ⟨n - 1, by omega⟩
  simp [Builtin.clear_, run_underlying ht, hv, hst]
theorem AtL.append {cs : Array Value} {o : Nat} {x y : List Value} : AtL cs o (x ++ y) ↔ AtL cs o x ∧ AtL cs (o + x.length) y := by
  constructor
  · intro h
    refine ⟨fun j v hv => h j v ?_, fun j v hv => ?_⟩
    · rw [List.getElem?_append_left (List.getElem?_eq_some_iff.1 hv).1, hv]
    · have := h (x.length + j) v (by rw [List.getElem?_append_right (by omega)]; simpa using hv)
      rwa [← Nat.add_assoc] at this
  · rintro ⟨h1, h2⟩ j v hv
    by_cases hj : j < x.length
    · rw [List.getElem?_append_left hj] at hv
      exact h1 j v hv
    · rw [List.getElem?_append_right (by omega)] at hv
      have := h2 _ v hv
      rwa [show o + x.length + (j - x.length) = o + j by omega] at this
theorem AtL.putOther {cs : Array Value} {o : Nat} {l : List Value} (h : AtL cs o l) (p : Nat) (m : List Value) (hd : p + m.length ≤ o ∨ o + l.length ≤ p) : AtL (putL cs p m) o l := fun j v hv => by
  have := (List.getElem?_eq_some_iff.1 hv).1
  rw [putL_out _ _ _ _ (by omega)]
  exact h j v hv

/-- a part of the tree as a value -/
abbrev CellsP (f t : Int) (s : Nat → Int) : Array Value := #[.int .i64 f, .int .i64 t, .int .u8 (s 0), .int .u8 (s 1), .int .u8 (s 2), .int .u8 (s 3), .int .u8 (s 4), .int .u8 (s 5), .int .u8 (s 6), .int .u8 (s 7)]
abbrev AggP (f t : Int) (s : Nat → Int) : Value := .agg (CellsP f t s)
structure PartD where
  f : Nat
  t : Nat
  s : Nat → Int
def PartD.cells (p : PartD) : List Value := (CellsP p.f p.t p.s).toList
def pcells (L : List PartD) : List Value := L.flatMap PartD.cells
theorem PartD.cells_len (p : PartD) : p.cells.length = 10 := rfl
theorem pcells_len (L : List PartD) : (pcells L).length = 10 * L.length := by
  unfold pcells
  induction L with
  | nil => rfl
  | cons p L ih => rw [List.flatMap_cons, List.length_append, ih, PartD.cells_len, List.length_cons]; omega
theorem pcells_append (A B : List PartD) : pcells (A ++ B) = pcells A ++ pcells B := List.flatMap_append
theorem pcells_cons (p : PartD) (B : List PartD) : pcells (p :: B) = p.cells ++ pcells B := rfl
theorem pcells_one (L : List PartD) : ∀ v ∈ pcells L, v.oneCell' = true := by
  intro v hv
  obtain ⟨p, _, hp⟩ := List.mem_flatMap.1 hv
  unfold PartD.cells at hp
  simp at hp
  rcases hp with rfl | rfl | rfl | rfl | rfl | rfl | rfl | rfl | rfl | rfl <;> rfl
theorem pcells_all (L : List PartD) : (pcells L).all (·.oneCell') = true := List.all_eq_true.2 (pcells_one L)
/-- what is kept of a tree, from o on: the parts, and how many -/
structure TreeAt (cs : Array Value) (o : Nat) (L : List PartD) : Prop where
  len : L.length ≤ 16
  parts : AtL cs o (pcells L)
  count : cs[o + 160]? = some (.int .i64 L.length)
  ok : ∀ p ∈ L, p.f ≤ p.t ∧ p.t ≤ 16 ∧ ∀ i, 0 ≤ p.s i ∧ p.s i < 256
theorem TreeAt.size {cs : Array Value} {o : Nat} {L : List PartD} (h : TreeAt cs o L) : o + 161 ≤ cs.size := by
  have := (Array.getElem?_eq_some_iff.1 h.count).1
  omega
theorem TreeAt.part {cs : Array Value} {o : Nat} {A B : List PartD} {p : PartD} (h : TreeAt cs o (A ++ p :: B)) : AtL cs (o + 10 * A.length) p.cells := by
  have h1 := h.parts
  rw [pcells_append, pcells_cons] at h1
  have h2 := (AtL.append.1 h1).2
  rw [pcells_len] at h2
  exact (AtL.append.1 h2).1
theorem TreeAt.mv {q : Option Nat} {n o : Nat} {cs cs' : Array Value} {L : List PartD} (h : TreeAt cs o L) (m : Mv q n 0 0 cs cs') (hf : q ≠ none → o + 161 ≤ ctrOff) : TreeAt cs' o L := by
  have := h.len
  refine ⟨h.len, m.at h.parts (.inr (by omega)) (fun hq => .inl (by have := hf hq; rw [pcells_len]; omega)), ?_, h.ok⟩
  rw [m.out _ (.inr (by omega)) (fun hq => by have := hf hq; omega)]
  exact h.count
end Go.Proofs.YtkpebabbnndopaaGreatDoor
