import Derived.Test.YtkpebabbnndopaaGreatDoorG14
import Derived.Test.YtkpebabbnndopaaGreatDoorG02
import Derived.Test.YtkpebabbnndopaaGreatDoorG15
/- The places whose keys a state keeps. -/
namespace Go.Proofs.YtkpebabbnndopaaGreatDoor
open Go.RowKit
set_option linter.unusedVariables false

/-- the places whose keys are kept, of the members below n -/
def keptL (st : St) : Nat → List PlI
  | 0 => []
  | i + 1 => keptL st i ++ (st.m i).over.map fun (g : Nat) => ((i : Int), (g : Int))
theorem keptL_mem {st : St} {n : Nat} {x : PlI} : x ∈ keptL st n ↔ ∃ i g : Nat, i < n ∧ g ∈ (st.m i).over ∧ x = ((i : Int), (g : Int)) := by
  induction n with
  | zero => simp [keptL]
  | succ n ih =>
    rw [keptL, List.mem_append, ih, List.mem_map]
    constructor
    · rintro (⟨i, g, h1, h2, h3⟩ | ⟨g, h1, h2⟩)
      · exact ⟨i, g, by omega, h2, h3⟩
      · exact ⟨n, g, by omega, h1, h2.symm⟩
    · rintro ⟨i, g, h1, h2, h3⟩
      by_cases hi : i < n
      · exact .inl ⟨i, g, hi, h2, h3⟩
      · obtain rfl : i = n := by omega
        exact .inr ⟨g, h2, h3.symm⟩
theorem keptL_pair {st : St} {n i g : Nat} : ((i : Int), (g : Int)) ∈ keptL st n ↔ i < n ∧ g ∈ (st.m i).over := by
  rw [keptL_mem]
  constructor
  · rintro ⟨j, k, h1, h2, h3⟩
    simp only [Prod.mk.injEq, Int.natCast_inj] at h3
    obtain ⟨rfl, rfl⟩ := h3
    exact ⟨h1, h2⟩
  · exact fun ⟨h1, h2⟩ => ⟨i, g, h1, h2, rfl⟩
/-- what is passed over rises, and lies below the next one -/
structure Asc (st : St) : Prop where
  asc : ∀ i, (st.m i).over.Pairwise (· < ·)
  below : ∀ i x, x ∈ (st.m i).over → x < (st.m i).next
theorem asc_map {l : List Nat} (i : Nat) (h : l.Pairwise (· < ·)) : (l.map fun (g : Nat) => (((i : Int), (g : Int)) : PlI)).Pairwise ltP :=
  List.pairwise_map.2 (h.imp fun {a b} hab => .inr ⟨rfl, by show (a : Int) < b; omega⟩)
theorem keptL_sorted {st : St} (h : Asc st) (n : Nat) : (keptL st n).Pairwise ltP := by
  induction n with
  | zero => exact List.Pairwise.nil
  | succ n ih =>
    rw [keptL]
    refine List.pairwise_append.2 ⟨ih, asc_map n (h.asc n), fun a ha b hb => ?_⟩
    obtain ⟨i, g, h1, _, rfl⟩ := keptL_mem.1 ha
    obtain ⟨k, _, rfl⟩ := List.mem_map.1 hb
    exact .inl (by show (i : Int) < n; omega)
theorem ltP_irrefl (x : PlI) : ¬ ltP x x := by unfold ltP; omega
theorem nodup_of_ltP {l : List PlI} (h : l.Pairwise ltP) : l.Nodup := List.Pairwise.imp (fun {a b} (hab : ltP a b) (e : a = b) => ltP_irrefl b (by rw [e] at hab; exact hab)) h
theorem pl_wf {m z : Nat} (hm : m < 16) (hz : z ≤ 70000) : wfP ((m : Int), (z : Int)) := by
  constructor <;> (simp [Lit.wf, IntKind.min, IntKind.max, IntKind.signed, IntKind.bits]; omega)
theorem keptL_nodup {st : St} (h : Asc st) (n : Nat) : (keptL st n).Nodup := nodup_of_ltP (keptL_sorted h n)
theorem keptL_sort {st : St} (h : Asc st) (n : Nat) : sortP (keptL st n) = keptL st n := sortP_eq _ _ (List.Perm.refl _) (keptL_sorted h n)
theorem keptL_len {st : St} (ok : st.Ok) (n : Nat) : (keptL st n).length ≤ 4 * n := by
  induction n with
  | zero => exact Nat.le_refl _
  | succ n ih =>
    have := (ok.m n).2.1
    rw [keptL, List.length_append, List.length_map]
    omega
theorem keptL_wf {st : St} (ok : st.Ok) {n : Nat} (hn : n ≤ 16) {x : PlI} (hx : x ∈ keptL st n) : wfP x := by
  obtain ⟨i, g, h1, h2, rfl⟩ := keptL_mem.1 hx
  have := (ok.m i).2.2.1 g h2
  exact pl_wf (by omega) (by omega)
/-- the key of a place -/
def St.keyP (st : St) (x : PlI) : Nat → Int := KeyM st.s st.n x.1.toNat x.2.toNat
theorem keyP_nat (st : St) (i g : Nat) : st.keyP ((i : Int), (g : Int)) = KeyM st.s st.n i g := rfl
/-- an item for a place -/
def St.itP (st : St) (x : PlI) : It := ⟨2, x.1.toNat, x.1.toNat + 1, x.2.toNat, st.keyP x⟩
theorem kepts_eq (st : St) (n : Nat) : st.kepts n = (keptL st n).map st.itP := by
  induction n with
  | zero => rfl
  | succ n ih =>
    rw [St.kepts, keptL, List.map_append, ih, St.kept1, List.map_map]
    rfl
theorem ofM_sortP (M : Int) (L : List PlI) (h : (ofM M L).Pairwise ltP) : ofM M (sortP L) = ofM M L := by
  have h1 : (ofM M (sortP L)).Pairwise fun x y => ¬ ltP y x := (sortP_sorted L).sublist List.filter_sublist
  have hp : (ofM M (sortP L)).Perm (ofM M L) := (sortP_perm L).filter _
  have h2 : (ofM M L).Pairwise fun x y => ¬ ltP y x := h.imp fun {x y} h => by unfold ltP at *; omega
  exact hp.eq_of_pairwise (le := fun x y => ¬ ltP y x) (fun a b _ _ h3 h4 => totP a b ((cmpP_nlt _ _).2 h4) ((cmpP_nlt _ _).2 h3)) h1 h2
theorem ofM_append (M : Int) (a b : List PlI) : ofM M (a ++ b) = ofM M a ++ ofM M b := List.filter_append ..
theorem ofM_map_same (m : Nat) (l : List Nat) : ofM (m : Int) (l.map fun (g : Nat) => (((m : Int), (g : Int)) : PlI)) = l.map fun (g : Nat) => ((m : Int), (g : Int)) := by
  unfold ofM
  rw [List.filter_eq_self]
  intro x hx
  obtain ⟨g, _, rfl⟩ := List.mem_map.1 hx
  simp
theorem ofM_map_other (m i : Nat) (h : i ≠ m) (l : List Nat) : ofM (m : Int) (l.map fun (g : Nat) => (((i : Int), (g : Int)) : PlI)) = [] := by
  unfold ofM
  rw [List.filter_eq_nil_iff]
  intro x hx
  obtain ⟨g, _, rfl⟩ := List.mem_map.1 hx
  simp
  omega
theorem ofM_keptL (st : St) (m n : Nat) (h : m < n) : ofM (m : Int) (keptL st n) = (st.m m).over.map fun (g : Nat) => ((m : Int), (g : Int)) := by
  induction n with
  | zero => omega
  | succ n ih =>
    rw [keptL, ofM_append]
    by_cases hm : m < n
    · rw [ih hm, ofM_map_other m n (by omega), List.append_nil]
    · obtain rfl : m = n := by omega
      rw [ofM_map_same]
      have : ofM (m : Int) (keptL st m) = [] := by
        unfold ofM
        rw [List.filter_eq_nil_iff]
        intro x hx
        obtain ⟨i, g, h1, _, rfl⟩ := keptL_mem.1 hx
        simp
        omega
      rw [this, List.nil_append]
theorem mem_erases_iff {x : PlI} {ys L : List PlI} (h : L.Nodup) : x ∈ ys.foldl List.erase L ↔ x ∈ L ∧ x ∉ ys := by
  induction ys generalizing L with
  | nil => simp
  | cons y r ih =>
    rw [List.foldl_cons, ih (h.erase y), h.mem_erase_iff]
    simp only [List.mem_cons, not_or]
    constructor
    · rintro ⟨⟨a, b⟩, c⟩; exact ⟨b, a, c⟩
    · rintro ⟨b, a, c⟩; exact ⟨⟨a, b⟩, c⟩
theorem erases_nodup {ys L : List PlI} (h : L.Nodup) : (ys.foldl List.erase L).Nodup := by
  induction ys generalizing L with
  | nil => exact h
  | cons y r ih => exact ih (h.erase y)
/-- the new places, one after the other -/
def newPl (m f c : Nat) : List PlI := (List.range c).map fun i => ((m : Int), ((f + i : Nat) : Int))
theorem newPl_zero (m f : Nat) : newPl m f 0 = [] := rfl
theorem newPl_succ (m f i : Nat) : newPl m f (i + 1) = newPl m f i ++ [((m : Int), ((f + i : Nat) : Int))] := by
  unfold newPl
  rw [List.range_succ, List.map_append]
  rfl
theorem overAll_asc {st : St} (h : Asc st) (m g : Nat) : (overAll (st.m m) g).Pairwise (· < ·) := by
  unfold overAll
  refine List.pairwise_append.2 ⟨h.asc m, ?_, fun a ha b hb => ?_⟩
  · refine List.pairwise_map.2 (List.pairwise_lt_range.imp fun {a b} hab => ?_)
    show (st.m m).next + a < (st.m m).next + b
    omega
  · obtain ⟨i, _, rfl⟩ := List.mem_map.1 hb
    have := h.below m a ha
    omega
theorem ofM_all_new (st : St) (m n g : Nat) (h : m < n) : ofM (m : Int) (keptL st n ++ newPl m (st.m m).next (g - (st.m m).next)) = (overAll (st.m m) g).map fun (k : Nat) => ((m : Int), (k : Int)) := by
  have e : newPl m (st.m m).next (g - (st.m m).next) = ((List.range (g - (st.m m).next)).map ((st.m m).next + ·)).map fun (k : Nat) => (((m : Int), (k : Int)) : PlI) := by
    unfold newPl
    rw [List.map_map]
    rfl
  rw [ofM_append, ofM_keptL st m n h, e, ofM_map_same]
  unfold overAll
  rw [List.map_append]
/-- the state behind a message of m that lay ahead, at g; behind one whose key was kept -/
def St.passTo (st : St) (m g : Nat) : St := st.setM m ⟨true, g + 1, unOver (st.m m) g⟩
def St.useKey (st : St) (m g : Nat) : St := st.setM m ⟨true, (st.m m).next, (st.m m).over.erase g⟩
theorem unNext_pass {st : St} {l : List UInt8} (h : unGen l ∉ (st.m (unWho l)).over) : st.unNext l = st.passTo (unWho l) (unGen l) := by
  unfold St.unNext St.passTo unMem
  rw [if_neg h]
theorem unNext_use {st : St} {l : List UInt8} (h : unGen l ∈ (st.m (unWho l)).over) : st.unNext l = st.useKey (unWho l) (unGen l) := by
  unfold St.unNext St.useKey unMem
  rw [if_pos h]
theorem passTo_m {st : St} (ok : st.Ok) {m : Nat} (hm : m < st.n) (g i : Nat) : (st.passTo m g).m i = if i = m then ⟨true, g + 1, unOver (st.m m) g⟩ else st.m i := by
  unfold St.passTo
  rw [St.setM_m _ _ _ (by rw [ok.len]; exact hm)]
theorem useKey_m {st : St} (ok : st.Ok) {m : Nat} (hm : m < st.n) (g i : Nat) : (st.useKey m g).m i = if i = m then ⟨true, (st.m m).next, (st.m m).over.erase g⟩ else st.m i := by
  unfold St.useKey
  rw [St.setM_m _ _ _ (by rw [ok.len]; exact hm)]
theorem Asc.passTo {st : St} (ok : st.Ok) (h : Asc st) {m g : Nat} (hm : m < st.n) (hle : (st.m m).next ≤ g) : Asc (st.passTo m g) := by
  refine ⟨fun i => ?_, fun i x hx => ?_⟩
  · rw [passTo_m ok hm]
    split
    · show (unOver _ _).Pairwise _
      rw [unOver_eq]
      exact (overAll_asc h _ _).sublist (List.drop_sublist _ _)
    · exact h.asc i
  · rw [passTo_m ok hm] at hx ⊢
    by_cases hi : i = m
    · rw [if_pos hi] at hx ⊢
      have hx2 : x ∈ unOver (st.m m) g := hx
      rw [unOver_eq] at hx2
      have hx3 := List.mem_of_mem_drop hx2
      unfold overAll at hx3
      show x < g + 1
      rcases List.mem_append.1 hx3 with h3 | h3
      · have := h.below _ x h3; omega
      · obtain ⟨k, hk, rfl⟩ := List.mem_map.1 h3
        have := List.mem_range.1 hk
        omega
    · rw [if_neg hi] at hx ⊢
      exact h.below i x hx
theorem Asc.useKey {st : St} (ok : st.Ok) (h : Asc st) {m : Nat} (g : Nat) (hm : m < st.n) : Asc (st.useKey m g) := by
  refine ⟨fun i => ?_, fun i x hx => ?_⟩
  · rw [useKey_m ok hm]
    split
    · exact (h.asc m).sublist List.erase_sublist
    · exact h.asc i
  · rw [useKey_m ok hm] at hx ⊢
    by_cases hi : i = m
    · rw [if_pos hi] at hx ⊢
      exact h.below m x (List.mem_of_mem_erase hx)
    · rw [if_neg hi] at hx ⊢
      exact h.below i x hx
theorem newPl_mem {m f c : Nat} {x : PlI} : x ∈ newPl m f c ↔ ∃ i, i < c ∧ x = ((m : Int), ((f + i : Nat) : Int)) := by
  unfold newPl
  rw [List.mem_map]
  constructor
  · rintro ⟨i, h1, h2⟩; exact ⟨i, List.mem_range.1 h1, h2.symm⟩
  · rintro ⟨i, h1, h2⟩; exact ⟨i, List.mem_range.2 h1, h2.symm⟩
theorem newPl_len (m f c : Nat) : (newPl m f c).length = c := by unfold newPl; simp
theorem new_notin {st : St} (h : Asc st) (m n i : Nat) : (((m : Int), (((st.m m).next + i : Nat) : Int)) : PlI) ∉ keptL st n := fun ha => by
  have := h.below m _ (keptL_pair.1 ha).2
  omega
theorem allPl_nodup {st : St} (h : Asc st) (m n c : Nat) : (keptL st n ++ newPl m (st.m m).next c).Nodup := by
  refine List.nodup_append.2 ⟨keptL_nodup h _, ?_, fun a ha b hb e => ?_⟩
  · unfold newPl
    refine List.Pairwise.map _ ?_ List.nodup_range
    intro a b hab e
    simp only [Prod.mk.injEq, Int.natCast_inj, true_and] at e
    omega
  · subst e
    obtain ⟨i, _, rfl⟩ := newPl_mem.1 hb
    exact new_notin h m n i ha
/-- what giveUp leaves is what the state behind the message keeps -/
theorem gaveP_perm {st : St} (ok : st.Ok) (h : Asc st) {m g : Nat} (hw : m < st.n) (hle : (st.m m).next ≤ g) :
    (gaveP (m : Int) (keptL st st.n ++ newPl m (st.m m).next (g - (st.m m).next))).Perm (keptL (st.passTo m g) st.n) := by
  have hasc := h.passTo ok hw hle
  have hun := passTo_m ok hw g
  have hall := ofM_all_new st m st.n g hw
  have hal := overAll_asc h m g
  have hT : ofM (m : Int) (sortP (keptL st st.n ++ newPl m (st.m m).next (g - (st.m m).next))) = (overAll (st.m m) g).map fun (k : Nat) => ((m : Int), (k : Int)) := by
    rw [ofM_sortP _ _ (by rw [hall]; exact asc_map m hal), hall]
  have hL1 := allPl_nodup h m st.n (g - (st.m m).next)
  unfold gaveP
  rw [hT, List.length_map]
  refine (List.perm_ext_iff_of_nodup (erases_nodup hL1) (keptL_nodup hasc _)).2 fun x => ?_
  rw [mem_erases_iff hL1, ← List.map_take]
  have hnd : (overAll (st.m m) g).Nodup := hal.imp fun {a b} hab e => by omega
  obtain ⟨k, hk⟩ : ∃ k, (overAll (st.m m) g).length - 4 = k := ⟨_, rfl⟩
  have hdr : ∀ z, z ∈ (overAll (st.m m) g).drop k ↔ z ∈ overAll (st.m m) g ∧ z ∉ (overAll (st.m m) g).take k := fun z => by
    have hsp := List.take_append_drop k (overAll (st.m m) g)
    rw [← hsp] at hnd
    have hd := (List.nodup_append.1 hnd).2.2
    constructor
    · exact fun hz => ⟨List.mem_of_mem_drop hz, fun hz' => hd z hz' z hz rfl⟩
    · rintro ⟨h1, h2⟩
      rw [← hsp] at h1
      rcases List.mem_append.1 h1 with h1 | h1
      · exact absurd h1 h2
      · exact h1
  rw [hk]
  constructor
  · rintro ⟨h1, h2⟩
    by_cases hxm : x.1 = (m : Int)
    · have hx : x ∈ ofM (m : Int) (keptL st st.n ++ newPl m (st.m m).next (g - (st.m m).next)) := List.mem_filter.2 ⟨h1, by simpa using hxm⟩
      rw [hall] at hx
      obtain ⟨z, hz, rfl⟩ := List.mem_map.1 hx
      refine keptL_pair.2 ⟨hw, ?_⟩
      rw [hun, if_pos rfl]
      show z ∈ unOver (st.m m) g
      rw [unOver_eq, hk]
      exact (hdr z).2 ⟨hz, fun hz' => h2 (List.mem_map.2 ⟨z, hz', rfl⟩)⟩
    · rcases List.mem_append.1 h1 with h1 | h1
      · obtain ⟨i, z, g1, g2, rfl⟩ := keptL_mem.1 h1
        refine keptL_pair.2 ⟨g1, ?_⟩
        rw [hun, if_neg (fun e => hxm (by show (i : Int) = m; omega))]
        exact g2
      · obtain ⟨i, _, rfl⟩ := newPl_mem.1 h1
        exact absurd rfl hxm
  · intro hx
    obtain ⟨i, z, g1, g2, rfl⟩ := keptL_mem.1 hx
    rw [hun] at g2
    by_cases hi : i = m
    · subst hi
      rw [if_pos rfl] at g2
      have g3 : z ∈ unOver (st.m i) g := g2
      rw [unOver_eq, hk] at g3
      obtain ⟨h1, h2⟩ := (hdr z).1 g3
      have hx : (((i : Int), (z : Int)) : PlI) ∈ ofM (i : Int) (keptL st st.n ++ newPl i (st.m i).next (g - (st.m i).next)) := by rw [hall]; exact List.mem_map.2 ⟨z, h1, rfl⟩
      refine ⟨(List.mem_filter.1 hx).1, fun hx' => ?_⟩
      obtain ⟨y, hy, e⟩ := List.mem_map.1 hx'
      simp only [Prod.mk.injEq, Int.natCast_inj, true_and] at e
      exact h2 (e ▸ hy)
    · rw [if_neg hi] at g2
      refine ⟨List.mem_append_left _ (keptL_pair.2 ⟨g1, g2⟩), fun hx' => ?_⟩
      obtain ⟨y, hy, e⟩ := List.mem_map.1 hx'
      simp only [Prod.mk.injEq, Int.natCast_inj] at e
      exact hi e.1.symm
/-- a key that was used is not kept -/
theorem erase_perm {st : St} (ok : st.Ok) (h : Asc st) {m g : Nat} (hw : m < st.n) : ((keptL st st.n).erase ((m : Int), (g : Int))).Perm (keptL (st.useKey m g) st.n) := by
  have hasc := h.useKey ok g hw
  have hun := useKey_m ok hw g
  have hL := keptL_nodup h st.n
  have hov : (st.m m).over.Nodup := (h.asc m).imp fun {a b} hab e => by omega
  refine (List.perm_ext_iff_of_nodup (hL.erase _) (keptL_nodup hasc _)).2 fun x => ?_
  rw [hL.mem_erase_iff]
  constructor
  · rintro ⟨h1, h2⟩
    obtain ⟨i, z, g1, g2, rfl⟩ := keptL_mem.1 h2
    refine keptL_pair.2 ⟨g1, ?_⟩
    rw [hun]
    by_cases hi : i = m
    · subst hi
      rw [if_pos rfl]
      exact (hov.mem_erase_iff).2 ⟨fun e => h1 (by rw [e]), g2⟩
    · rw [if_neg hi]; exact g2
  · intro hx
    obtain ⟨i, z, g1, g2, rfl⟩ := keptL_mem.1 hx
    rw [hun] at g2
    by_cases hi : i = m
    · subst hi
      rw [if_pos rfl] at g2
      obtain ⟨h1, h2⟩ := (hov.mem_erase_iff).1 g2
      refine ⟨fun e => h1 ?_, keptL_pair.2 ⟨g1, h2⟩⟩
      simp only [Prod.mk.injEq, Int.natCast_inj, true_and] at e
      exact e
    · rw [if_neg hi] at g2
      refine ⟨fun e => hi ?_, keptL_pair.2 ⟨g1, g2⟩⟩
      simp only [Prod.mk.injEq, Int.natCast_inj] at e
      exact e.1
theorem Asc.new (s : Nat → Int) (n own : Nat) : Asc (St.new s n own) := ⟨fun i => by rw [St.new_m]; exact List.Pairwise.nil, fun i x hx => by rw [St.new_m] at hx; cases hx⟩
theorem Asc.of {st st' : St} (h : Asc st) (ho : ∀ i, (st'.m i).over = (st.m i).over) (hn : ∀ i, (st.m i).next ≤ (st'.m i).next) : Asc st' :=
  ⟨fun i => by rw [ho]; exact h.asc i, fun i x hx => by rw [ho] at hx; have := h.below i x hx; have := hn i; omega⟩
theorem Asc.protNext {st : St} (ok : st.Ok) (h : Asc st) : Asc st.protNext := h.of (fun i => by rw [protNext_m ok]; split <;> simp_all) (fun i => by rw [protNext_m ok]; split <;> simp_all)
theorem Asc.unNext {st : St} (ok : st.Ok) (h : Asc st) {l : List UInt8} (hw : unWho l < st.n) (hb : unGen l ∉ (st.m (unWho l)).over → (st.m (unWho l)).next ≤ unGen l) : Asc (st.unNext l) := by
  by_cases hm : unGen l ∈ (st.m (unWho l)).over
  · rw [unNext_use hm]; exact h.useKey ok _ hw
  · rw [unNext_pass hm]; exact h.passTo ok hw (hb hm)
theorem keptL_protNext {st : St} (ok : st.Ok) (n : Nat) : keptL st.protNext n = keptL st n := by
  induction n with
  | zero => rfl
  | succ n ih =>
    rw [keptL, keptL, ih, protNext_m ok]
    split
    · rename_i h; subst h; rfl
    · rfl
end Go.Proofs.YtkpebabbnndopaaGreatDoor
