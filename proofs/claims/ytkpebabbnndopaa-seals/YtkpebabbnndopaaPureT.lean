/- Sealed bytes: no walk here. -/
import Derived.Test.YtkpebabbnndopaaPureS
import Derived.Deep.AppendSrc
namespace Go.Proofs.Ytkpebabbnndopaa
open Go.RowKit

def TagB (D : Nat → Int) : List UInt8 := [UInt8.ofNat (D 0).toNat, UInt8.ofNat (D 1).toNat, UInt8.ofNat (D 2).toNat, UInt8.ofNat (D 3).toNat]
theorem byte_back (x : Int) (h0 : 0 ≤ x) (h1 : x < 256) : ((UInt8.ofNat x.toNat).toNat : Int) = x := by
  rw [UInt8.toNat_ofNat', Nat.mod_eq_of_lt (by omega)]; omega
abbrev cellB (c : UInt8) : Value := .int .u8 (c.toNat : Int)
theorem TagB_cells (D : Nat → Int) (h : ∀ i, 0 ≤ D i ∧ D i < 256) : (TagB D).map cellB = [.int .u8 (D 0), .int .u8 (D 1), .int .u8 (D 2), .int .u8 (D 3)] := by
  have e : ∀ i, cellB (UInt8.ofNat (D i).toNat) = .int .u8 (D i) := fun i => congrArg (Value.int .u8) (byte_back _ (h i).1 (h i).2)
  simp only [TagB, List.map_cons, List.map_nil, e]
theorem TagB_at (D : Nat → Int) (h : ∀ i, 0 ≤ D i ∧ D i < 256) (j : Nat) (hj : j < (TagB D).length) : Value.int .u8 (D j) = .int .u8 ((TagB D)[j].toNat : Int) := by
  have h4 : j = 0 ∨ j = 1 ∨ j = 2 ∨ j = 3 := by simp [TagB] at hj; omega
  rcases h4 with rfl | rfl | rfl | rfl <;> exact congrArg (Value.int .u8) (byte_back _ (h _).1 (h _).2).symm
def Tag (s : Nat → Int) (l x : List UInt8) : Nat → Int := DerB s lTag (TagN (SumAll l x))
theorem Tag_bd (s : Nat → Int) (l x : List UInt8) (i : Nat) : 0 ≤ Tag s l x i ∧ Tag s l x i < 256 := Byt_bd _ _
def SealT (s : Nat → Int) (l m : List UInt8) : List UInt8 := MixT s m ++ TagB (Tag s l (MixT s m))
theorem SealT_length (s : Nat → Int) (l m : List UInt8) : (SealT s l m).length = m.length + 4 := by simp [SealT, MixT_length, TagB]
def OpenOk (s : Nat → Int) (l x : List UInt8) : Bool := 4 ≤ x.length && TagB (Tag s l (x.take (x.length - 4))) == x.drop (x.length - 4)
def OpenT (s : Nat → Int) (x : List UInt8) : List UInt8 := MixT s (x.take (x.length - 4))
theorem seal_open (s : Nat → Int) (l m : List UInt8) : OpenOk s l (SealT s l m) = true ∧ OpenT s (SealT s l m) = m := by
  have hl := SealT_length s l m
  have ht : (SealT s l m).take (m.length + 4 - 4) = MixT s m := by
    unfold SealT
    rw [List.take_append_of_le_length (by rw [MixT_length]; omega), List.take_of_length_le (by rw [MixT_length]; omega)]
  have hd : (SealT s l m).drop (m.length + 4 - 4) = TagB (Tag s l (MixT s m)) := by
    unfold SealT
    rw [List.drop_append_of_le_length (by rw [MixT_length]; omega), List.drop_of_length_le (by rw [MixT_length]; omega)]
    rfl
  unfold OpenOk OpenT
  rw [hl, ht, hd, MixT_MixT]
  simp
/-- the other's test: what is opened, sealed again, is what came -/
theorem open_seal (s : Nat → Int) (l x : List UInt8) (h : 4 ≤ x.length) : (SealT s l (MixT s (x.take (x.length - 4))) == x) = OpenOk s l x := by
  have e : SealT s l (MixT s (x.take (x.length - 4))) = x.take (x.length - 4) ++ TagB (Tag s l (x.take (x.length - 4))) := by
    unfold SealT; rw [MixT_MixT]
  rw [e, Bool.eq_iff_iff]
  unfold OpenOk
  simp only [beq_iff_eq, Bool.and_eq_true, decide_eq_true_eq]
  constructor
  · intro hx
    refine ⟨h, ?_⟩
    have h2 := congrArg (List.drop (x.length - 4)) hx
    rw [List.drop_append_of_le_length (by rw [List.length_take]; omega), List.drop_of_length_le (by rw [List.length_take]; omega)] at h2
    simpa using h2
  · rintro ⟨_, hx⟩
    rw [hx, List.take_append_drop]

/-- the last four bytes -/
def Tail4 (x : List UInt8) (k : Nat) (i : Nat) : Int := ((x.getD (k + i) 0).toNat : Int)
theorem byte_eq (D : Int) (h0 : 0 ≤ D) (h1 : D < 256) (c : UInt8) : ((c.toNat : Int) = D) ↔ (UInt8.ofNat D.toNat = c) := by
  constructor
  · intro h
    apply UInt8.toNat_inj.1
    have := byte_back D h0 h1
    omega
  · intro h
    rw [← h]
    exact byte_back D h0 h1
theorem tail_eq (x : List UInt8) (k : Nat) (hx : x.length = k + 4) (D : Nat → Int) (h : ∀ i, 0 ≤ D i ∧ D i < 256) :
    ([Tail4 x k 0, Tail4 x k 1, Tail4 x k 2, Tail4 x k 3] == [D 0, D 1, D 2, D 3]) = (TagB D == x.drop k) := by
  have hl : (x.drop k).length = 4 := by rw [List.length_drop]; omega
  have e : ∀ i, Tail4 x k i = (((x.drop k).getD i 0).toNat : Int) := fun i => by simp [Tail4, List.getD, List.getElem?_drop]
  simp only [e]
  generalize x.drop k = y at *
  match y, hl with
  | [a, b, c, d], _ =>
    rw [Bool.eq_iff_iff]
    simp [TagB, List.getD, byte_eq _ (h _).1 (h _).2]
theorem OpenOk_tail (s : Nat → Int) (l x : List UInt8) (k : Nat) (hx : x.length = k + 4) :
    OpenOk s l x = ([Tail4 x k 0, Tail4 x k 1, Tail4 x k 2, Tail4 x k 3] == [Tag s l (x.take k) 0, Tag s l (x.take k) 1, Tag s l (x.take k) 2, Tag s l (x.take k) 3]) := by
  have e : x.length - 4 = k := by omega
  rw [tail_eq x k hx _ (Tag_bd s l _)]
  unfold OpenOk
  rw [e]
  simp [hx]
/-- what 'append' leaves where there is no room: a new row -/
theorem run_append_tag (w : World) (b n : Nat) (x : List UInt8) (hn : x.length = n) (hcell : ∀ i (h : i < x.length), w.cell? ⟨b, i, none⟩ = some (cellB x[i])) (g : Nat) (y : List UInt8) (hy : y.length = 4) (hcy : ∀ i (h : i < y.length), w.cell? ⟨g, i, none⟩ = some (cellB y[i])) (hsz : n ≤ 1000000) (P : Program) (t e : TypeId) (ht : P.underlying t = some (.slice e))
    (hinfo : (P.info? e).map (fun i => (i.zero, i.size, i.bytes)) = some (some (.int .u8 0), 1, 1)) (ty : TypeId) :
    ∃ cap, n + 4 ≤ cap ∧ (Builtin.append_ #[t, t] ty #[.slice (some ⟨b, 0, none⟩) n n, .slice (some ⟨g, 0, none⟩) 4 4]).run P w
      = .ok (.slice (some ⟨w.heap.size, 0, none⟩) (n + 4) cap) (w.drew.alloc (.cells (RowB (x ++ y) cap) e)) := by
  obtain ⟨i, hi, hzz⟩ := Option.map_eq_some_iff.1 hinfo
  simp only [Prod.mk.injEq] at hzz
  obtain ⟨hz, hs, hb⟩ := hzz
  have hcs : ∀ (W : World) (b : Nat) (x : List UInt8), (∀ i (h : i < x.length), W.cell? ⟨b, i, none⟩ = some (cellB x[i])) → ∀ j v, (x.map cellB)[j]? = some v → W.cell? ((⟨b, 0, none⟩ : Addr).add j) = some v := by
    intro W b x hc j v hj
    have hjl : j < x.length := by simpa using (List.getElem?_eq_some_iff.1 hj).1
    have ea : (⟨b, 0, none⟩ : Addr).add j = ⟨b, j, none⟩ := by unfold Addr.add; split <;> simp_all
    rw [ea, hc j hjl]
    rw [List.getElem?_map, List.getElem?_eq_getElem hjl] at hj
    simpa using hj
  have h := run_append_grow_src (P := P) w t t ty e i (.int .u8 0) ht hi hz (some ⟨b, 0, none⟩) n n (x.map cellB)
    (by rw [hs]; exact run_firstCells_some w.drew 1 n ⟨b, 0, none⟩ n n (x.map cellB) (by simp; omega) (hcs w.drew b x (by simpa using hcell)))
    (.slice (some ⟨g, 0, none⟩) 4 4) 4 (y.map cellB) (by rw [hs]; exact Src.ofSlice w ht ⟨g, 0, none⟩ 4 4 (y.map cellB) (by simp; omega) (hcs w g y hcy) (by intro u hu; obtain ⟨c, _, rfl⟩ := List.mem_map.1 hu; rfl))
    (by omega) (by omega) (by rw [hb]; have := nextslicecap_le (need := n + 4) (old := n) (by omega); omega)
  refine ⟨grownCap w (n + 4) n e, grownCap_ge _ _ _ _, ?_⟩
  rw [h]
  have hg := grownCap_ge w (n + 4) n e
  generalize grownCap w (n + 4) n e = cap at *
  have hrow : (x.map cellB ++ y.map cellB).toArray ++ Builtin.zeroCells (Value.int .u8 0).cells (cap - (n + 4)) = RowB (x ++ y) cap := by
    apply Array.ext'
    have hzc : (Builtin.zeroCells (Value.int .u8 0).cells (cap - (n + 4))).toList = List.replicate (cap - (n + 4)) (Value.int .u8 0) := by
      apply List.ext_getElem
      · simp [Builtin.zeroCells, Value.cells]
      · intro i h1 h2
        simp [Builtin.zeroCells, Value.cells, Nat.mod_one]
    simp [RowB, hzc, hn, hy]
  rw [hrow]
end Go.Proofs.Ytkpebabbnndopaa
