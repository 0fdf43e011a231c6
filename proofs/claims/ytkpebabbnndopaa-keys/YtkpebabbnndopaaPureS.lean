/- The plain bytes behind Seal and Open: no walk here. -/
import Derived.Test.YtkpebabbnndopaaPure
import Derived.Laws.CopyOwn
namespace Go.Proofs.Ytkpebabbnndopaa
open Go.RowKit

/-! sums -/
def SumB (h b : Int) : Int := bits BinOp.xor IntKind.u32 h b * 16777619 % 4294967296
theorem fold_sum (h b : Int) : bits BinOp.xor IntKind.u32 h b * 16777619 % 4294967296 = SumB h b := rfl
theorem SumB_bd (h b : Int) : 0 ≤ SumB h b ∧ SumB h b < 4294967296 := by unfold SumB; omega
def SumL (h : Int) (l : List UInt8) : Int := l.foldl (fun a c => SumB a c.toNat) h
theorem SumL_snoc (h : Int) (l : List UInt8) (c : UInt8) : SumL h (l ++ [c]) = SumB (SumL h l) c.toNat := by
  unfold SumL; rw [List.foldl_append]; rfl
theorem SumL_step (h : Int) (l : List UInt8) (k : Nat) (hk : k < l.length) : SumL h (l.take (k + 1)) = SumB (SumL h (l.take k)) l[k].toNat := by
  rw [List.take_succ_eq_append_getElem hk, SumL_snoc]
theorem SumL_append (h : Int) (l m : List UInt8) : SumL h (l ++ m) = SumL (SumL h l) m := by unfold SumL; rw [List.foldl_append]
def SumAll (l m : List UInt8) : Int := SumL (SumB (SumL 2166136261 l) 0) m
theorem SumAll_eq (l m : List UInt8) : SumL 2166136261 (l ++ [0] ++ m) = SumAll l m := by
  rw [SumL_append, SumL_append]; rfl

def TagN (S : Int) : Int := wrap64 (bits BinOp.and IntKind.u32 S 2147483647)

/-! the stream -/
def lStream : List UInt8 := [115, 116, 114, 101, 97, 109]
def lTag : List UInt8 := [116, 97, 103]
def Blk (s : Nat → Int) (i : Nat) : Nat → Int := DerB s lStream (i : Int)
def XB (c : UInt8) (b : Int) : UInt8 := UInt8.ofNat (bits BinOp.xor IntKind.u8 c.toNat b).toNat
theorem XB_toNat (c : UInt8) (b : Int) (h0 : 0 ≤ b) (h1 : b < 256) : bits BinOp.xor IntKind.u8 c.toNat b = ((XB c b).toNat : Int) := by
  have hc := c.toNat_lt
  unfold XB
  rw [u8_xor _ _ (by omega) (by omega) h0 h1]
  have hlt : (c.toNat : Int).toNat ^^^ b.toNat < 2 ^ 8 := Nat.xor_lt_two_pow (by omega) (by omega)
  simp only [Int.toNat_natCast] at hlt ⊢
  rw [UInt8.toNat_ofNat', Nat.mod_eq_of_lt hlt]
def MixT (s : Nat → Int) (l : List UInt8) : List UInt8 := l.mapIdx fun i c => XB c (Blk s (i / 8) (i % 8))
theorem MixT_length (s : Nat → Int) (l : List UInt8) : (MixT s l).length = l.length := by simp [MixT]
theorem MixT_step (s : Nat → Int) (l : List UInt8) (k : Nat) (hk : k < l.length) : MixT s (l.take (k + 1)) = MixT s (l.take k) ++ [XB l[k] (Blk s (k / 8) (k % 8))] := by
  unfold MixT
  rw [List.take_succ_eq_append_getElem hk, List.mapIdx_append]
  simp [Nat.min_eq_left (Nat.le_of_lt hk)]
theorem XB_XB (c : UInt8) (b : Int) (h0 : 0 ≤ b) (h1 : b < 256) : XB (XB c b) b = c := by
  have hc := c.toNat_lt
  have e := XB_toNat (XB c b) b h0 h1
  have e2 := XB_toNat c b h0 h1
  rw [u8_xor _ _ (by omega) (by omega) h0 h1] at e2
  rw [← e2, u8_xor _ _ (by omega) (by have := (XB c b).toNat_lt; omega) h0 h1] at e
  apply UInt8.toNat_inj.1
  have e3 := Int.ofNat_inj.1 e
  rw [← e3]
  simp [Nat.xor_assoc]
theorem Blk_bd (s : Nat → Int) (i j : Nat) : 0 ≤ Blk s i j ∧ Blk s i j < 256 := Byt_bd _ _
theorem MixT_MixT (s : Nat → Int) (l : List UInt8) : MixT s (MixT s l) = l := by
  unfold MixT
  apply List.ext_getElem
  · simp
  · intro i h1 h2
    simp only [List.getElem_mapIdx]
    exact XB_XB _ _ (Blk_bd _ _ _).1 (Blk_bd _ _ _).2

/-- bytes, then noughts up to n -/
def RowB (m : List UInt8) (n : Nat) : Array Value := (m.map (fun c => Value.int .u8 (c.toNat : Int)) ++ List.replicate (n - m.length) (Value.int .u8 0)).toArray
theorem RowB_size (m : List UInt8) (n : Nat) (h : m.length ≤ n) : (RowB m n).size = n := by simp [RowB]; omega
theorem RowB_nil (n : Nat) : madeCells #[Value.int .u8 0] n = RowB [] n := by
  apply Array.ext'
  rw [toList_madeCells_one]
  simp [RowB]
theorem RowB_set (m : List UInt8) (n : Nat) (c : UInt8) (h : m.length < n) : (RowB m n).setIfInBounds m.length (.int .u8 (c.toNat : Int)) = RowB (m ++ [c]) n := by
  apply Array.ext'
  obtain ⟨r, hr⟩ : ∃ r, n - m.length = r + 1 := ⟨n - m.length - 1, by omega⟩
  have hr2 : n - (m.length + 1) = r := by omega
  simp [RowB, hr, hr2, List.replicate_succ]
theorem RowB_at (m : List UInt8) (n i : Nat) (h : i < m.length) : (RowB m n)[i]? = some (.int .u8 (m[i].toNat : Int)) := by
  simp only [RowB, List.getElem?_toArray]
  rw [List.getElem?_append_left (by simpa using h)]
  simp [h]
/-- a slice's bytes: nothing is asked of one without any -/
def Bts (w : World) (a : Option Addr) (l : List UInt8) : Prop :=
  l = [] ∨ ∃ b o, a = some ⟨b, o, none⟩ ∧ ∀ i (h : i < l.length), w.cell? ⟨b, o + i, none⟩ = some (.int .u8 (l[i].toNat : Int))
theorem Bts.below {w w' : World} {a : Option Addr} {l : List UInt8} (h : Bts w a l) (hb : Below w.heap.size w w') : Bts w' a l := by
  rcases h with h | ⟨b, o, rfl, hc⟩
  · exact .inl h
  · refine .inr ⟨b, o, rfl, fun i hi => ?_⟩
    have hci := hc i hi
    have hlt : b < w.heap.size := block_lt_of_cell hci
    rw [hb.cell (p := ⟨b, o + i, none⟩) hlt, hci]
theorem Cells8_at (B : Nat → Int) (j : Nat) (h : j < 8) : (Cells8 B)[j]? = some (.int .u8 (B j)) := by
  have h8 : j = 0 ∨ j = 1 ∨ j = 2 ∨ j = 3 ∨ j = 4 ∨ j = 5 ∨ j = 6 ∨ j = 7 := by omega
  rcases h8 with rfl | rfl | rfl | rfl | rfl | rfl | rfl | rfl <;> rfl
theorem Cells8_one (B : Nat → Int) : (Cells8 B).all (·.oneCell') = true := by simp [Value.oneCell']
theorem RowB_some (m : List UInt8) (n i : Nat) (hm : m.length ≤ n) (h : i < n) : ∃ v, (RowB m n)[i]? = some v := by
  have hs := RowB_size m n hm
  exact ⟨_, Array.getElem?_eq_getElem (by omega)⟩
theorem RowB_of_bytes (s : ByteArray) (cap : Nat) : bytesRow s cap = RowB s.data.toList cap := by
  apply Array.ext'
  simp [bytesRow, RowB]
/-- what stands in the row behind k rounds of the other's loop -/
def Half (s : Nat → Int) (l : List UInt8) (k : Nat) : List UInt8 := MixT s (l.take k) ++ l.drop k
theorem Half_length (s : Nat → Int) (l : List UInt8) (k : Nat) (h : k ≤ l.length) : (Half s l k).length = l.length := by simp [Half, MixT_length]; omega
theorem Half_zero (s : Nat → Int) (l : List UInt8) : Half s l 0 = l := by simp [Half, MixT]
theorem Half_all (s : Nat → Int) (l : List UInt8) : Half s l l.length = MixT s l := by simp [Half]
theorem Half_at (s : Nat → Int) (l : List UInt8) (k : Nat) (h : k < l.length) (h2 : k < (Half s l k).length) : (Half s l k)[k] = l[k] := by
  have e : (MixT s (l.take k)).length = k := by rw [MixT_length, List.length_take]; omega
  simp only [Half]
  rw [List.getElem_append_right (by omega)]
  simp [e]
theorem Half_set (s : Nat → Int) (l : List UInt8) (k : Nat) (h : k < l.length) : (Half s l k).set k (XB l[k] (Blk s (k / 8) (k % 8))) = Half s l (k + 1) := by
  have e : (MixT s (l.take k)).length = k := by rw [MixT_length, List.length_take]; omega
  simp only [Half]
  rw [MixT_step s l k h, List.set_append_right _ _ (by omega), e, Nat.sub_self, List.drop_eq_getElem_cons h, List.set_cons_zero, List.append_assoc]
  rfl
theorem RowB_put (m : List UInt8) (n k : Nat) (c : UInt8) (h : k < m.length) : (RowB m n).setIfInBounds k (.int .u8 (c.toNat : Int)) = RowB (m.set k c) n := by
  apply Array.ext'
  simp only [RowB, Array.toList_setIfInBounds, List.length_set]
  rw [List.set_append_left _ _ (by simpa using h), List.map_set]
theorem bcell {W w1 : World} (hb : Below W.heap.size W w1) : (∀ b o, b < W.heap.size → w1.cell? ⟨b, o, none⟩ = W.cell? ⟨b, o, none⟩) ∧ (∀ b o, b < W.heap.size → w1.frozen? ⟨b, o, none⟩ = W.frozen? ⟨b, o, none⟩) :=
  ⟨fun b o h => hb.cell (p := ⟨b, o, none⟩) h, fun b o h => hb.frozen (p := ⟨b, o, none⟩) h⟩
theorem TagN_eq (S : Int) : IntKind.i64.wrap (bits BinOp.and IntKind.u32 S 2147483647) = TagN S := by
  unfold TagN wrap64
  rw [IntKind.wrap_i64]
abbrev Cells4 (D : Nat → Int) : Array Value := #[.int .u8 (D 0), .int .u8 (D 1), .int .u8 (D 2), .int .u8 (D 3)]
/-- eight stores into one row, one by one -/
theorem stores8_row (w : World) (g : Nat) (t : TypeId) (x : Nat → Int) (D : Nat → Int) (hg : w.heap[g]? = some (.cells (Cells8 x) t (0, 0))) :
    ((((((((w.setCell ⟨g, 0, none⟩ (.int .u8 (D 0))).setCell ⟨g, 1, none⟩ (.int .u8 (D 1))).setCell ⟨g, 2, none⟩ (.int .u8 (D 2))).setCell ⟨g, 3, none⟩ (.int .u8 (D 3))).setCell ⟨g, 4, none⟩ (.int .u8 (D 4))).setCell ⟨g, 5, none⟩ (.int .u8 (D 5))).setCell ⟨g, 6, none⟩ (.int .u8 (D 6))).setCell ⟨g, 7, none⟩ (.int .u8 (D 7))) = w.setRow g (Cells8 D) := by
  rw [setCell_eq_setRow w g 0 _ t (0, 0) _ hg]
  rw [setCell_eq_setRow _ g 1 _ t (0, 0) _ (setRow_heap w g _ _ t (0, 0) hg), setRow_setRow]
  rw [setCell_eq_setRow _ g 2 _ t (0, 0) _ (setRow_heap w g _ _ t (0, 0) hg), setRow_setRow]
  rw [setCell_eq_setRow _ g 3 _ t (0, 0) _ (setRow_heap w g _ _ t (0, 0) hg), setRow_setRow]
  rw [setCell_eq_setRow _ g 4 _ t (0, 0) _ (setRow_heap w g _ _ t (0, 0) hg), setRow_setRow]
  rw [setCell_eq_setRow _ g 5 _ t (0, 0) _ (setRow_heap w g _ _ t (0, 0) hg), setRow_setRow]
  rw [setCell_eq_setRow _ g 6 _ t (0, 0) _ (setRow_heap w g _ _ t (0, 0) hg), setRow_setRow]
  rw [setCell_eq_setRow _ g 7 _ t (0, 0) _ (setRow_heap w g _ _ t (0, 0) hg), setRow_setRow]
  simp
theorem stores8 (w : World) (g : Nat) (t : TypeId) (x : Nat → Int) (D : Nat → Int) (hg : w.heap[g]? = some (.cells (Cells8 x) t (0, 0))) :
    ∃ W, ((((((((w.setCell ⟨g, 0, none⟩ (.int .u8 (D 0))).setCell ⟨g, 1, none⟩ (.int .u8 (D 1))).setCell ⟨g, 2, none⟩ (.int .u8 (D 2))).setCell ⟨g, 3, none⟩ (.int .u8 (D 3))).setCell ⟨g, 4, none⟩ (.int .u8 (D 4))).setCell ⟨g, 5, none⟩ (.int .u8 (D 5))).setCell ⟨g, 6, none⟩ (.int .u8 (D 6))).setCell ⟨g, 7, none⟩ (.int .u8 (D 7))) = W ∧
      W.heap[g]? = some (.cells (Cells8 D) t (0, 0)) ∧ (∀ k, k ≠ g → W.heap[k]? = w.heap[k]?) ∧ W.heap.size = w.heap.size ∧ (∀ B w0, Below B w0 w → B ≤ g → Below B w0 W) := by
  refine ⟨_, stores8_row w g t x D hg, setRow_heap w g _ _ t (0, 0) hg, fun k hk => setRow_other _ _ _ _ hk, by simp, fun B w0 hb hB => below_setRow hb hB _⟩
end Go.Proofs.Ytkpebabbnndopaa
